/-
  A message written into a slice of the call's own; a text's bytes, one of them turned.
  No condition but those named.
-/
import Derived.Test.YtkajnmlglgjocaaPostTake
import Derived.Test.YtkajnmlglgjocaaOwns
import Derived.Deep.MidRow
import Derived.Laws.IdiomStrings
import Derived.Laws.BitsAllLaws
namespace Go.Proofs.Ytkajnmlglgjocaa
open Go.RowKit

section
variable {w w' : World} {base g n c : Nat} {l : List Pst.Mail}
theorem own_blk (h : mailLay.Own base w (.slice (some ⟨g, 0, none⟩) n c) l) : ∃ cur, Blk w g 27 cur ∧ base ≤ g ∧ cur.size = c * 4 ∧ l.length ≤ c := by
  rcases h.2 with ⟨h1, _⟩ | ⟨g', cap, cur, h1, hb, hg, hnc, _, hs, _⟩
  · cases h1
  · injection h1 with e1 e2 e3
    injection e1 with e1
    injection e1 with e1
    subst e1 e3
    exact ⟨cur, hg, hb, hs, hnc⟩
theorem row_set {e : TypeId} {size : Nat} {k : Nat} {xs : List Value} (h : w.ownsRow base e size (.slice (some ⟨g, 0, none⟩) n c) k xs) (j : Nat) (u : Value) : (w.setCell ⟨g, j, none⟩ u).ownsRow base e size (.slice (some ⟨g, 0, none⟩) n c) k (xs.set j u) := by
  refine ⟨by rw [List.length_set]; exact h.1, ?_⟩
  rcases h.2 with ⟨h1, _⟩ | ⟨g', cap, cur, h1, hb, hg, hnc, hcm, hs, ht⟩
  · cases h1
  · injection h1 with e1 e2 e3
    injection e1 with e1
    injection e1 with e1
    subst e1 e2 e3
    refine .inr ⟨g, c, cur.setIfInBounds j u, rfl, hb, Blk.set_ (w := w) (t := e) (cs := cur) hg j u, hnc, hcm, by rw [Array.size_setIfInBounds]; exact hs, ?_⟩
    rw [Array.toList_setIfInBounds, List.take_set, ht]
theorem flat_put : ∀ (l : List Pst.Mail) (k : Nat) (x : Pst.Mail), k < l.length → ((((mailLay.flat l).set (k * 4) (.int .i64 x.f)).set (k * 4 + 1) (.int .i64 x.t)).set (k * 4 + 2) (.string x.d)).set (k * 4 + 3) (.bool x.s) = mailLay.flat (l.set k x)
  | y :: l, 0, x, _ => rfl
  | y :: l, k + 1, x, h => by
    have ih := flat_put l k x (by simpa using h)
    have e : (k + 1) * 4 = k * 4 + 4 := by omega
    rw [List.set_cons_succ, Lay.flat_cons, Lay.flat_cons, ← ih, e]
    rfl
theorem set_same {α : Type} {l : List α} {i : Nat} {a : α} (h : l[i]? = some a) : l.set i a = l := by
  obtain ⟨hi, rfl⟩ := List.getElem?_eq_some_iff.1 h
  exact List.set_getElem_self hi
theorem flat_put2 (l : List Pst.Mail) (k : Nat) (m : Pst.Mail) (d : ByteArray) (s : Bool) (h : l[k]? = some m) : ((mailLay.flat l).set (k * 4 + 2) (.string d)).set (k * 4 + 3) (.bool s) = mailLay.flat (l.set k ⟨m.f, m.t, d, s⟩) := by
  rw [← flat_put l k ⟨m.f, m.t, d, s⟩ (List.getElem?_eq_some_iff.1 h).1]
  have h0 := mailLay.flat_get l k m h 0 _ rfl
  have h1 := mailLay.flat_get l k m h 1 _ rfl
  simp only [Nat.add_zero] at h0
  have e0 : (mailLay.flat l).set (k * 4) (.int .i64 m.f) = mailLay.flat l := set_same h0
  have e1 : (mailLay.flat l).set (k * 4 + 1) (.int .i64 m.t) = mailLay.flat l := set_same h1
  simp only
  rw [e0, e1]
theorem Lay.Own.put2 {m : Pst.Mail} {k : Nat} (h : mailLay.Own base w (.slice (some ⟨g, 0, Option.none⟩) n c) l) (hk : l[k]? = some m) (d : ByteArray) (s : Bool) :
    mailLay.Own base ((w.setCell ⟨g, k * 4 + 2, Option.none⟩ (.string d)).setCell ⟨g, k * 4 + 3, Option.none⟩ (.bool s)) (.slice (some ⟨g, 0, Option.none⟩) n c) (l.set k ⟨m.f, m.t, d, s⟩) := by
  have h1 := row_set (row_set h (k * 4 + 2) (.string d)) (k * 4 + 3) (.bool s)
  rw [flat_put2 l k m d s hk] at h1
  unfold Lay.Own
  rw [List.length_set]
  exact h1
theorem Lay.Own.put4 {k : Nat} (h : mailLay.Own base w (.slice (some ⟨g, 0, Option.none⟩) n c) l) (hk : k < l.length) (x : Pst.Mail) :
    mailLay.Own base (w.setCells g (k * 4) (mc x).toList) (.slice (some ⟨g, 0, Option.none⟩) n c) (l.set k x) := by
  have h1 := row_set (row_set (row_set (row_set h (k * 4) (.int .i64 x.f)) (k * 4 + 1) (.int .i64 x.t)) (k * 4 + 2) (.string x.d)) (k * 4 + 3) (.bool x.s)
  rw [flat_put l k x hk] at h1
  unfold Lay.Own
  rw [List.length_set]
  exact h1
/-- The cells of message k of a slice of the call's own. -/
theorem own_at {k : Nat} {m : Pst.Mail} (h : mailLay.Own base w (.slice (some ⟨g, 0, none⟩) n c) l) (hk : l[k]? = some m) : w.cell? ⟨g, k * 4, none⟩ = some (.int .i64 m.f) ∧ w.cell? ⟨g, k * 4 + 1, none⟩ = some (.int .i64 m.t) ∧ w.cell? ⟨g, k * 4 + 2, none⟩ = some (.string m.d) ∧ w.cell? ⟨g, k * 4 + 3, none⟩ = some (.bool m.s) := by
  have h1 := at_mail ((h.reads.2.block (by have := (List.getElem?_eq_some_iff.1 hk).1; omega)).2 k m hk)
  simpa only [Nat.zero_add] using h1
theorem turns_cells {t : TypeId} : ∀ (vs : List Value) (o : Nat) (w : World) (cs : Array Value), Blk w g t cs → base ≤ g → Turns base t w (w.setCells g o vs) ∧ (w.setCells g o vs).heap.size = w.heap.size
  | [], _, w, _, _, _ => ⟨Turns.refl _ _ _, rfl⟩
  | v :: r, o, w, cs, hb, hg => by
    have h1 := turns_cell hb hg o v
    obtain ⟨h2, h3⟩ := turns_cells r (o + 1) _ _ (hb.set_ o v) hg
    exact ⟨h1.trans h2, by rw [World.setCells, h3]; simp⟩
theorem far_cells : ∀ (vs : List Value) (o : Nat) (w : World) {g' : Nat} {t : TypeId} {cs : Array Value}, Blk w g' t cs → g' ≠ g → Blk (w.setCells g o vs) g' t cs
  | [], _, _, _, _, _, h, _ => h
  | v :: r, o, _w, _, _, _, h, hne => far_cells r (o + 1) _ (h.far (p := ⟨g, o, none⟩) hne v) hne
end
/-- What the store of a message into a slice of the call's own leaves. -/
structure RowStored (base g n c : Nat) (l : List Pst.Mail) (w w' : World) : Prop where
  own : mailLay.Own base w' (.slice (some ⟨g, 0, none⟩) n c) l
  turns : Turns base 27 w w'
  far : ∀ {g' : Nat} {t' : TypeId} {cs' : Array Value}, Blk w g' t' cs' → g' ≠ g → Blk w' g' t' cs'
  size : w'.heap.size = w.heap.size
theorem wpList_srow {ops : Array Oper} {rest : List Oper} {o : Oper} {a : Act} {w : World} {Q : Exit → Act → World → Prop} (hgd : o.guard = none) (x y : Operand) (ho : o.op = .store 27 x y)
    {base g n c k : Nat} {l : List Pst.Mail} (m : Pst.Mail) (hO : Hid (mailLay.Own base w (.slice (some ⟨g, 0, none⟩) n c) l)) (hk : Hid (k < l.length)) (hx : a.eval x = .pointer (some ⟨g, k * 4, none⟩)) (hy : a.eval y = .agg (mc m))
    (h : ∀ w', Hid (RowStored base g n c (l.set k m) w w') → wpList Try.prog ops Q rest (a.put o.dst undef) w') : wpList Try.prog ops Q (o :: rest) a w := by
  obtain ⟨cur, hb, hbg, hcs, hlc⟩ := own_blk hO.out
  have hk' := hk.out
  refine wpList_store_mid hgd _ x y ho g (k * 4) (mc m) hx hy (fun j hj => ?_) info_mail4 (mc_one _) (h _ (Lib.hid ⟨hO.out.put4 hk' m, (turns_cells _ _ _ _ hb hbg).1, fun h hne => far_cells _ _ _ h hne, (turns_cells _ _ _ _ hb hbg).2⟩))
  rw [mc_size] at hj
  refine ⟨?_, hb.frozen _⟩
  rw [hb.cell, Array.getElem?_eq_getElem (by omega)]
  rfl

/-- A text's bytes in a block of the call's own. -/
theorem wpList_bytes {ops : Array Oper} {rest : List Oper} {o : Oper} {a : Act} {w : World} {Q : Exit → Act → World → Prop} (hgd : o.guard = none) (x : Operand) (ho : o.op = .convert 9 51 x)
    {T : ByteArray} (hx : a.eval x = .string T)
    (h : ∀ w' c, Hid (Owns w' w.heap.size T.data.toList) → Hid (Below w.heap.size w w') → w'.heap.size = w.heap.size + 1 → wpList Try.prog ops Q rest (a.put o.dst (.slice (some ⟨w.heap.size, 0, none⟩) T.size c)) w') : wpList Try.prog ops Q (o :: rest) a w := by
  refine wpList_plain hgd fun K hK => ?_
  have hr := run_bytes_of_string (P := Try.prog) w 9 51 5 T Try.underlying9 Try.underlying51 Try.underlying5
  unfold Oper.wp execOp
  simp only [ho, hx, Sem.run_bind, Sem.run_pure, Result.andThen_ok, hr]
  refine hK _ _ (h _ _ (Lib.hid ?_) (Lib.hid (((Below.refl _ w).drew).alloc (Nat.le_refl _) _)) (by simp))
  intro j hj
  have hj2 : j < T.data.size := by simpa using hj
  refine ⟨?_, ?_⟩
  · show (w.drew.alloc _).cell? ⟨w.drew.heap.size, j, none⟩ = _
    rw [World.cell?_alloc_mark, bytesRow_at T _ j hj2]
    simp only [List.getD, Array.getElem?_toList, Array.getElem?_eq_getElem hj2, Option.getD_some]
  · show (w.drew.alloc _).frozen? ⟨w.drew.heap.size, j, none⟩ = _
    rw [World.frozen?_alloc_mark]
    have h2 : T.data.size ≤ (bytesRow T (grownCap w T.size 0 5)).size := by simp [bytesRow]
    simp; omega
theorem xor_byte (x : UInt8) (t : Nat) (h : t < 256) : bits .xor .u8 (x.toNat : Int) (t : Int) = ((x ^^^ UInt8.ofNat t).toNat : Int) := by
  rw [u8_xor_nat _ _ x.toNat_lt h, UInt8.toNat_xor, UInt8.toNat_ofNat', Nat.mod_eq_of_lt h]
end Go.Proofs.Ytkajnmlglgjocaa
