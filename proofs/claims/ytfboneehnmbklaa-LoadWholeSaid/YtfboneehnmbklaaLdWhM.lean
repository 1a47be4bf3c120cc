/-
  The pieces of a text in whatever order: what is known of the load that has taken some of them.
  Pure. No condition but those named.
-/
import Derived.Test.YtfboneehnmbklaaLdMath
import Derived.Lib.Strings
namespace Go.Proofs.Ytfboneehnmbklaa
namespace Ldm
/-- A text's piece. -/
def pce (s : ByteArray) (k : Nat) : ByteArray := s.extract (k * 64) (if s.size ≤ k * 64 + 64 then s.size else k * 64 + 64)
/-- Of a text's pieces those have come that C tells. -/
def Inv (v : Int) (s : ByteArray) (C : List Bool) (y : Ldd) : Prop :=
  C.length = cn s.size ∧ y.n = v ∧ ((y = ⟨v, 0, 0, [], []⟩ ∧ ∀ k, k < cn s.size → C[k]? = some false) ∨
    (y.t = (cn s.size : Nat) ∧ y.s = Crc.more 0 s.data.toList ∧ y.h = C ∧ y.d.length = cn s.size ∧ ∀ k, C[k]? = some true → y.d[k]? = some (pce s k)))
/-- What is left. -/
def lft (C : List Bool) : Nat := C.count false
theorem lft_set : ∀ (C : List Bool) (k : Nat), C[k]? = some false → lft (C.set k true) + 1 = lft C
  | [], k, h => by simp at h
  | x :: r, 0, h => by
    have : x = false := by simpa using h
    subst this
    simp [lft]
  | x :: r, k + 1, h => by
    have ih := lft_set r k (by simpa using h)
    unfold lft at *
    rw [List.set_cons_succ, List.count_cons, List.count_cons]
    omega
theorem lft_none : ∀ (C : List Bool), lft C = 0 → ∀ k, k < C.length → C[k]? = some true
  | [], _, k, hk => by simp at hk
  | false :: r, h, _, _ => by unfold lft at h; simp at h
  | true :: r, h, 0, _ => rfl
  | true :: r, h, k + 1, hk => by
    have := lft_none r (by unfold lft at *; simpa using h) k (by simpa using hk)
    simpa using this
theorem lft_some : ∀ (C : List Bool), 0 < lft C → ∃ j, j < C.length ∧ fi C = (j : Int) ∧ C[j]? = some false := fun C h => by
  rcases fi_told C with ⟨_, h2⟩ | ⟨k, h1, h2, _⟩
  · exfalso
    have h3 : ∀ x ∈ C, x = true := fun x hx => by
      obtain ⟨i, hi⟩ := List.mem_iff_getElem?.1 hx
      have h4 := h2 i (List.getElem?_eq_some_iff.1 hi).1
      rw [hi] at h4
      injection h4
    have : C.count false = 0 := List.count_eq_zero.2 fun q => by have := h3 _ q; cases this
    unfold lft at h
    omega
  · exact ⟨k, (List.getElem?_eq_some_iff.1 h2).1, h1, h2⟩
theorem lft_rep (n : Nat) : lft (List.replicate n false) = n := by unfold lft; simp
theorem lft_le (C : List Bool) : lft C ≤ C.length := List.count_le_length
theorem inv_new (v : Int) (s : ByteArray) : Inv v s (List.replicate (cn s.size) false) ⟨v, 0, 0, [], []⟩ :=
  ⟨by simp, rfl, .inl ⟨rfl, fun k hk => by rw [List.getElem?_replicate, if_pos hk]⟩⟩
theorem inv_lr {v : Int} {s : ByteArray} {C : List Bool} {y : Ldd} (h : Inv v s C y) (hs : s.size ≤ 16384) : LR y := by
  have c2 := cn_le hs
  rcases h.2.2 with ⟨rfl, _⟩ | ⟨h1, _, h3, h4, _⟩
  · exact ⟨by simp, by simp, rfl, rfl⟩
  · refine ⟨by rw [h1]; omega, by rw [h1]; omega, by rw [h1, h3, h.1], by rw [h1, h4]⟩
theorem tk_other {y : Ldd} {p : Lpc} (hl : LR y) (hp : PR p) (ha : ¬ AL y p) : tk y p = y ∧ tkE y p = 9 :=
  ⟨by unfold tk; rw [if_neg (fun h => h ⟨hl, hp⟩), if_pos ha], by unfold tkE; rw [if_neg (fun h => h ⟨hl, hp⟩), if_pos ha]⟩
theorem tk_first {y : Ldd} {p : Lpc} (hl : LR y) (hp : PR p) (ha : AL y p) (h0 : y.t = 0) : tk y p = pt (bg p) p ∧ tkE y p = 0 :=
  ⟨by unfold tk; rw [if_neg (fun h => h ⟨hl, hp⟩), if_neg (fun h => h ha), if_pos h0], by unfold tkE; rw [if_neg (fun h => h ⟨hl, hp⟩), if_neg (fun h => h ha), if_pos h0]⟩
theorem tk_twice {y : Ldd} {p : Lpc} (hl : LR y) (hp : PR p) (ha : AL y p) (h0 : ¬ y.t = 0) (hx : y.h[p.a.toNat]? = some true) : tk y p = y ∧ tkE y p = 8 :=
  ⟨by unfold tk; rw [if_neg (fun h => h ⟨hl, hp⟩), if_neg (fun h => h ha), if_neg h0, if_pos hx], by unfold tkE; rw [if_neg (fun h => h ⟨hl, hp⟩), if_neg (fun h => h ha), if_neg h0, if_pos hx]⟩
theorem tk_new {y : Ldd} {p : Lpc} (hl : LR y) (hp : PR p) (ha : AL y p) (h0 : ¬ y.t = 0) (hx : ¬ y.h[p.a.toNat]? = some true) : tk y p = pt y p ∧ tkE y p = 0 :=
  ⟨by unfold tk; rw [if_neg (fun h => h ⟨hl, hp⟩), if_neg (fun h => h ha), if_neg h0, if_neg hx], by unfold tkE; rw [if_neg (fun h => h ⟨hl, hp⟩), if_neg (fun h => h ha), if_neg h0, if_neg hx]⟩
/-- The pieces of all places are the text. -/
theorem pce_list (s : ByteArray) (k : Nat) (hk : k < cn s.size) : s.data.toList.take (k * 64) ++ (pce s k).data.toList = s.data.toList.take ((k + 1) * 64) := by
  have h1 := cn_at hk
  have e : (pce s k).data.toList = (s.data.toList.drop (k * 64)).take ((if s.size ≤ k * 64 + 64 then s.size else k * 64 + 64) - k * 64) := by
    unfold pce
    rw [ByteArray.data_extract, Array.toList_extract, List.extract_eq_take_drop]
  rw [e]
  have hz : s.data.toList.length = s.size := by rw [Array.length_toList]; rfl
  split
  · rename_i h
    rw [List.take_of_length_le (l := s.data.toList) (i := (k + 1) * 64) (by omega), List.take_of_length_le (l := s.data.toList.drop (k * 64)) (i := s.size - k * 64) (by rw [List.length_drop]; omega), List.take_append_drop]
  · rw [show (k + 1) * 64 = k * 64 + 64 by omega, show k * 64 + 64 - k * 64 = 64 by omega, List.take_add]
theorem cat_all {s : ByteArray} {d : List ByteArray} (hl : d.length = cn s.size) (h : ∀ k, k < cn s.size → d[k]? = some (pce s k)) : cat d = s.data.toList := by
  have key : ∀ k, k ≤ cn s.size → cat (d.take k) = s.data.toList.take (k * 64) := fun k => by
    induction k with
    | zero => intro _; simp [cat]
    | succ k ih =>
      intro hk
      rw [cat_take (h k (by omega)), ih (by omega), pce_list s k (by omega)]
  have h1 := key (cn s.size) (Nat.le_refl _)
  rw [List.take_of_length_le (by omega)] at h1
  rw [h1]
  have := cn_cover s.size
  exact List.take_of_length_le (by rw [Array.length_toList]; exact this)
theorem wh_more {v : Int} {s : ByteArray} {C : List Bool} {y : Ldd} (h : Inv v s C y) (hs : s.size ≤ 16384) (hc : 0 < lft C) (ht : ¬ y.t = 0) : ∃ j, j < cn s.size ∧ ms y = (j : Int) ∧ C[j]? = some false ∧ whE y = 5 := by
  obtain ⟨j, h1, h2, h3⟩ := lft_some C hc
  have hl := inv_lr h hs
  rcases h.2.2 with ⟨rfl, _⟩ | ⟨_, _, hh, _, _⟩
  · exact absurd rfl ht
  · have hm : ms y = (j : Int) := by
      unfold ms
      rw [if_neg (fun q => q.elim ht (fun q => q hl)), hh, h2]
    refine ⟨j, by rw [← h.1]; exact h1, hm, h3, ?_⟩
    unfold whE
    rw [if_pos (by rw [hm]; omega)]
theorem wh_all {v : Int} {s : ByteArray} {C : List Bool} {y : Ldd} (h : Inv v s C y) (hs : s.size ≤ 16384) (hc : lft C = 0) (ht : ¬ y.t = 0) : ms y = -1 ∧ whE y = 0 ∧ wh y = s := by
  have hall := lft_none C hc
  have hl := inv_lr h hs
  rcases h.2.2 with ⟨rfl, _⟩ | ⟨_, h2, hh, h4, h5⟩
  · exact absurd rfl ht
  · have hm : ms y = -1 := by
      unfold ms
      rw [if_neg (fun q => q.elim ht (fun q => q hl)), hh]
      exact fi_none C hall
    have hcat : cat y.d = s.data.toList := cat_all h4 (fun k hk => h5 k (hall k (by rw [h.1]; exact hk)))
    refine ⟨hm, ?_, ?_⟩
    · unfold whE
      rw [if_neg (fun q => q hm), hcat, if_pos h2.symm]
    · unfold wh
      rw [if_neg (fun q => q hm), hcat, if_pos h2.symm]
end Ldm
end Go.Proofs.Ytfboneehnmbklaa
