/-
  Slices that read as items: what is known of them, the call's own and others, and what one more does.
  No condition but those named.
-/
import Derived.Test.YtdhfmapcggohmaaDoorValBox
import Derived.Test.YtdhfmapcggohmaaDoorValRow
import Derived.WalkKit
import Derived.WalkSpells
import Derived.WalkLawsBesides
import Derived.Handy
import Derived.Deep.QuietTactic
import Derived.BigQuiet
import Derived.Deep.Draws
import Derived.Lib.Hide
namespace Go.Proofs.YtdhfmapcggohmaaDoor
open Go.RowKit

/-- An item as a struct's value. -/
def itv (x : Val.It) : Value := .agg #[.int .i64 x.k, .int .i64 x.n, .string x.s]
/-- The three cells of item i behind an address. -/
def At (w : World) (b o i : Nat) (x : Val.It) : Prop :=
  w.cell? ⟨b, o + i * 3, none⟩ = some (.int .i64 x.k) ∧ w.cell? ⟨b, o + i * 3 + 1, none⟩ = some (.int .i64 x.n) ∧ w.cell? ⟨b, o + i * 3 + 2, none⟩ = some (.string x.s)
/-- A slice's cells, from its address on, are these items; they lie below block B. -/
def Items (w : World) (B : Nat) (A : Option Addr) (l : List Val.It) : Prop :=
  0 < l.length → ∃ b o, A = some ⟨b, o, none⟩ ∧ b < B ∧ ∀ i x, l[i]? = some x → At w b o i x

theorem At.keep {w w' : World} {b o i : Nat} {x : Val.It} (h : At w b o i x) (hk : ∀ p : Addr, p.block = b → w'.cell? p = w.cell? p) : At w' b o i x :=
  ⟨by rw [hk _ rfl]; exact h.1, by rw [hk _ rfl]; exact h.2.1, by rw [hk _ rfl]; exact h.2.2⟩
section
variable {w w' : World} {B B' : Nat} {A : Option Addr} {l : List Val.It}
theorem Items.keep (h : Items w B A l) (hk : ∀ p : Addr, p.block < B → w'.cell? p = w.cell? p) : Items w' B A l := fun hn => by
  obtain ⟨b, o, hA, hb, hc⟩ := h hn
  exact ⟨b, o, hA, hb, fun i x hx => (hc i x hx).keep fun p hp => hk p (by omega)⟩
theorem Items.below (h : Items w B A l) (hb : Below B w w') : Items w' B A l := h.keep fun _ hp => hb.cell hp
theorem Items.more (h : Items w B A l) (hb : B ≤ B') : Items w B' A l := fun hn => by
  obtain ⟨b, o, hA, hb', hc⟩ := h hn
  exact ⟨b, o, hA, by omega, hc⟩
theorem Items.drewN (h : Items w B A l) (n : Nat) : Items (w.drewN n) B A l := h
theorem Items.nil (w : World) (B : Nat) (A : Option Addr) : Items w B A [] := fun h => absurd h (by decide)
end
theorem get_of {l : List Val.It} {k : Nat} (h : k < l.length) : ∃ x, l[k]? = some x := ⟨_, List.getElem?_eq_getElem h⟩
def flat (l : List Val.It) : List Value := l.flatMap fun x => [.int .i64 x.k, .int .i64 x.n, .string x.s]
theorem flat_snoc (l : List Val.It) (x : Val.It) : flat (l ++ [x]) = flat l ++ [.int .i64 x.k, .int .i64 x.n, .string x.s] := by simp [flat]
theorem flat_length (l : List Val.It) : (flat l).length = l.length * 3 := by
  induction l with
  | nil => rfl
  | cons x l ih => simp [flat] at ih ⊢; omega
theorem info_item : (Tryd.prog.info? 50).map (fun i => (i.zero, i.size, i.bytes)) = some (some (Value.agg #[.int .i64 0, .int .i64 0, .string ⟨#[]⟩]), 3, 32) := by kernel_rfl

/-- v is a slice of the call's own of just these items. -/
def Its (base : Nat) (w : World) (v : Value) (l : List Val.It) : Prop := w.ownsRow base 50 3 v l.length (flat l)
theorem Its.shape {base : Nat} {w : World} {v : Value} {xs : List Val.It} (h : Its base w v xs) : ∃ A c, v = .slice A xs.length c := by
  rcases h.2 with ⟨rfl, h0⟩ | ⟨g, cap, cur, rfl, _⟩
  · exact ⟨none, 0, by rw [h0]⟩
  · exact ⟨_, _, rfl⟩
theorem flat_cons (x : Val.It) (l : List Val.It) : flat (x :: l) = .int .i64 x.k :: .int .i64 x.n :: .string x.s :: flat l := rfl
theorem flat_get : ∀ (l : List Val.It) (i : Nat) (x : Val.It), l[i]? = some x → (flat l)[i * 3]? = some (.int .i64 x.k) ∧ (flat l)[i * 3 + 1]? = some (.int .i64 x.n) ∧ (flat l)[i * 3 + 2]? = some (.string x.s)
  | y :: l, 0, x, h => by
    simp at h; subst h
    exact ⟨rfl, rfl, rfl⟩
  | y :: l, i + 1, x, h => by
    rw [List.getElem?_cons_succ] at h
    have ih := flat_get l i x h
    rw [flat_cons]
    rw [show (i + 1) * 3 = i * 3 + 1 + 1 + 1 from by omega, show i * 3 + 1 + 1 + 1 + 1 = i * 3 + 1 + 1 + 1 + 1 from rfl]
    simp only [List.getElem?_cons_succ]
    exact ⟨ih.1, ih.2.1, ih.2.2⟩
theorem flat_of : ∀ (l : List Val.It) (j : Nat) (u : Value), (flat l)[j]? = some u → ∃ x, l[j / 3]? = some x ∧ ((j % 3 = 0 ∧ u = .int .i64 x.k) ∨ (j % 3 = 1 ∧ u = .int .i64 x.n) ∨ (j % 3 = 2 ∧ u = .string x.s))
  | [], j, u, h => by simp [flat] at h
  | y :: l, 0, u, h => by rw [flat_cons] at h; simp at h; exact ⟨y, rfl, .inl ⟨rfl, h.symm⟩⟩
  | y :: l, 1, u, h => by rw [flat_cons] at h; simp at h; exact ⟨y, rfl, .inr (.inl ⟨rfl, h.symm⟩)⟩
  | y :: l, 2, u, h => by rw [flat_cons] at h; simp at h; exact ⟨y, rfl, .inr (.inr ⟨rfl, h.symm⟩)⟩
  | y :: l, j + 3, u, h => by
    rw [flat_cons] at h
    simp only [List.getElem?_cons_succ] at h
    obtain ⟨x, h1, h2⟩ := flat_of l j u h
    refine ⟨x, by rw [show (j + 3) / 3 = j / 3 + 1 from by omega, List.getElem?_cons_succ]; exact h1, ?_⟩
    rw [show (j + 3) % 3 = j % 3 from by omega]
    exact h2
/-- A slice of the call's own, as a slice that reads as items. -/
theorem Its.items {base : Nat} {w : World} {A : Option Addr} {n c : Nat} {l : List Val.It} (h : Its base w (.slice A n c) l) : n = l.length ∧ Items w w.heap.size A l := by
  have hc := fun g => World.ownsRow.cells h (g := g)
  rcases h.2 with ⟨h1, h0⟩ | ⟨g, cap, cur, h1, _, hg, _⟩
  · injection h1 with h1 h2 h3
    subst h1 h2 h3
    exact ⟨h0.symm, fun hp => absurd hp (by omega)⟩
  · injection h1 with h1 h2 h3
    subst h1 h2 h3
    refine ⟨rfl, fun _ => ⟨g, 0, rfl, (Array.getElem?_eq_some_iff.1 hg).1, fun i x hx => ?_⟩⟩
    have hf := flat_get l i x hx
    have h3 := fun j u hu => hc g rfl j u hu
    simp only [add_at] at h3
    exact ⟨h3 _ _ hf.1, h3 _ _ hf.2.1, h3 _ _ hf.2.2⟩
/-- What an append of items yields. -/
theorem items_src {w : World} {B : Nat} {A : Option Addr} {l : List Val.It} (c : Nat) (h : Items w B A l) (hA : A = none → l = []) : Src Tryd.prog 3 31 (.slice A l.length c) l.length (flat l) w := by
  match A, h, hA with
  | none, _, hA =>
    obtain rfl := hA rfl
    exact Src.ofNil w Tryd.underlying31 c
  | some a, h, _ =>
    refine Src.ofSlice w Tryd.underlying31 a l.length c (flat l) (flat_length l) (fun j u hu => ?_) (fun u hu => ?_)
    · obtain ⟨x, h1, h2⟩ := flat_of l j u hu
      have hj : j / 3 < l.length := (List.getElem?_eq_some_iff.1 h1).1
      obtain ⟨b, o, ha, _, hc⟩ := h (by omega)
      injection ha with ha
      subst ha
      obtain ⟨c0, c1, c2⟩ := hc _ x h1
      rw [add_at]
      rcases h2 with ⟨hm, rfl⟩ | ⟨hm, rfl⟩ | ⟨hm, rfl⟩
      · rw [show o + j = o + j / 3 * 3 from by omega]; exact c0
      · rw [show o + j = o + j / 3 * 3 + 1 from by omega]; exact c1
      · rw [show o + j = o + j / 3 * 3 + 2 from by omega]; exact c2
    · simp only [flat, List.mem_flatMap] at hu
      obtain ⟨x, _, hx⟩ := hu
      simp at hx
      rcases hx with rfl | rfl | rfl <;> rfl

set_option maxHeartbeats 1600000 in
theorem same_any (A A' : Option Addr) (c c' : Nat) (l : List Val.It) (w : World) (B B' : Nat) (hl : l.length ≤ 9223372036854775807) (hi : Items w B A l) (hi' : Items w B' A' l) :
    Calls Tryd.prog 14 #[.slice A l.length c, .slice A' l.length c'] w fun e w' => e = .returned (.bool true) ∧ ∃ m, w' = w.drewN m := by
  have HI := Lib.hid hi
  have HI' := Lib.hid hi'
  clear hi hi'
  generalize hn : l.length = n at *
  have HN := Lib.hid hn
  clear hn
  have hnn : ((n : Int) != (n : Int)) = false := by simp
  go_enter Tryd.func14, Tryd.ntmps14
  go_wp2_with fail
  go_loopw [5] (fun vi wr => ∃ k m : Nat, k ≤ n ∧ vi = .int .i64 k ∧ wr = w.drewN m) (fun vi _ => n - (intOf vi).toNat)
  case atStart => exact ⟨0, 0, Nat.zero_le _, rfl, rfl⟩
  case round =>
    obtain ⟨k, m, hk, rfl, rfl⟩ := hrel
    by_cases hlt : k < n
    · obtain ⟨x, hx⟩ := get_of (l := l) (k := k) (by rw [HN.out]; exact hlt)
      obtain ⟨b, o, rfl, _, hc⟩ := HI.out (by rw [HN.out]; omega)
      obtain ⟨b', o', rfl, _, hc'⟩ := HI'.out (by rw [HN.out]; omega)
      obtain ⟨c0, c1, c2⟩ := hc k x hx
      obtain ⟨d0, d1, d2⟩ := hc' k x hx
      clear hc hc' hx
      have hk1 : (0 : Int) ≤ (k : Int) := by omega
      have hk2 : (k : Int) < (n : Int) := by omega
      obtain ⟨xk, xn, xs⟩ := x
      simp only at c0 c1 c2 d0 d1 d2
      go_wp2_with fail
      go_quiet (fail)
      go_wp2_with fail
      exact ⟨⟨k + 1, m + nq, by omega, by go_num, rfl⟩, by simp [intOf]; omega⟩
    · obtain rfl : k = n := by omega
      go_wp2_with fail
      go_ret
      exact ⟨rfl, m, rfl⟩


theorem flat_append (a b : List Val.It) : flat (a ++ b) = flat a ++ flat b := List.flatMap_append ..
theorem cells_it {k n : Int} {s : ByteArray} : #[Value.int .i64 k, .int .i64 n, .string s] = (flat [⟨k, n, s⟩]).toArray := rfl
theorem Its.new {base : Nat} (w : World) (x : Val.It) (C : Array Value) (hC : C = (flat [x]).toArray) (hb : base ≤ w.heap.size) : Its base (w.alloc (.cells C 50)) (.slice (some ⟨w.heap.size, 0, none⟩) 1 1) [x] := by
  subst hC
  exact ⟨rfl, .inr ⟨w.heap.size, 1, _, rfl, hb, heap_alloc_new w _, Nat.le_refl _, by decide, rfl, rfl⟩⟩
theorem Its.newAt {base : Nat} (w : World) (x : Val.It) (C : Array Value) (hC : C = (flat [x]).toArray) (hb : base ≤ w.heap.size) (g : Nat) (hg : g = w.heap.size) : Its base (w.alloc (.cells C 50)) (.slice (some ⟨g, 0, none⟩) 1 1) [x] := by
  subst hg; exact Its.new w x C hC hb
theorem Its.alloc {base : Nat} {w : World} {v : Value} {l : List Val.It} (h : Its base w v l) (o : Obj) : Its base (w.alloc o) v l := World.ownsRow.alloc h o
/-- An append of a made block's one item. -/
theorem wpList_pushIt {ops : Array Oper} {rest : List Oper} {o : Oper} {a : Act} {Q : Exit → Act → World → Prop} (hgd : o.guard = none) (s x : Operand)
    (ho : o.op = .call { callee := .builtin .append, args := #[s, x], argTypes := #[31, 31] })
    (base : Nat) (w : World) (v : Value) (l : List Val.It) (y : Val.It) (C : Array Value) (g : Nat) (hg0 : g = w.heap.size) (hs : a.eval s = v) (hx : a.eval x = .slice (some ⟨g, 0, none⟩) 1 1)
    (hC : C = (flat [y]).toArray) (hrow : Its base w v l) (hl : l.length ≤ 1000) (hb : base ≤ w.heap.size)
    (h : ∀ v' w', Hid (Its base w' v' (l ++ [y])) → Hid (∀ b0 w0, b0 ≤ base → Below b0 w0 w → Below b0 w0 w') → base ≤ w'.heap.size → wpList Tryd.prog ops Q rest (a.put o.dst v') w') :
    wpList Tryd.prog ops Q (o :: rest) a (w.alloc (.cells C 50)) := by
  subst hC hg0
  obtain ⟨i0, hi, hz0, hz1, hz2⟩ := info_parts info_item
  have hsrc : Src Tryd.prog 3 31 (.slice (some ⟨w.heap.size, 0, none⟩) 1 1) 1 (flat [y]) (w.alloc (.cells (flat [y]).toArray 50)) := by
    refine Src.ofSlice _ Tryd.underlying31 _ _ _ _ rfl (fun j u hu => ?_) (fun u hu => ?_)
    · rw [add_at, World.cell?_alloc_new]
      simpa using hu
    · simp [flat] at hu
      rcases hu with rfl | rfl | rfl <;> rfl
  refine wpList_append_src _ hgd s x 31 31 ho base 50 i0 (.agg #[.int .i64 0, .int .i64 0, .string ⟨#[]⟩]) 3 32 Tryd.underlying31 hi hz0 hz1 hz2 rfl (by decide) (by decide) v l.length (flat l) hs (hrow.alloc _) 1 (flat [y]) _ hx hsrc
    (by unfold maxLen; omega) (by omega) (by simp; omega) ?_
  intro v' w' hown hg _
  have hsz := hg.size
  simp at hsz
  refine h v' w' (Lib.hid ?_) (Lib.hid fun b0 w0 h0 T => ?_) (by omega)
  · unfold Its
    rw [List.length_append, flat_append]
    exact hown
  · exact (T.alloc (by omega) _).grown hg (by simp; omega) (fun k hk => by
      have := (World.ownsRow.lt hrow k hk).1
      omega)

/-- An append of a slice's items. -/
theorem wpList_more {ops : Array Oper} {rest : List Oper} {o : Oper} {a : Act} {Q : Exit → Act → World → Prop} (hgd : o.guard = none) (s x : Operand)
    (ho : o.op = .call { callee := .builtin .append, args := #[s, x], argTypes := #[31, 31] })
    (base : Nat) (w : World) (v : Value) (l : List Val.It) (A : Option Addr) (c B : Nat) (m : List Val.It) (hs : a.eval s = v) (hx : a.eval x = .slice A m.length c)
    (hrow : Its base w v l) (hI : Items w B A m) (hA : A = none → m = []) (hl : l.length + m.length ≤ 1000000000) (hb : base ≤ w.heap.size)
    (h : ∀ v' w', Hid (Its base w' v' (l ++ m)) → Hid (∀ w0, Below base w0 w → Below base w0 w') → base ≤ w'.heap.size → wpList Tryd.prog ops Q rest (a.put o.dst v') w') :
    wpList Tryd.prog ops Q (o :: rest) a w := by
  obtain ⟨i0, hi, hz0, hz1, hz2⟩ := info_parts info_item
  refine wpList_append_src _ hgd s x 31 31 ho base 50 i0 (.agg #[.int .i64 0, .int .i64 0, .string ⟨#[]⟩]) 3 32 Tryd.underlying31 hi hz0 hz1 hz2 rfl (by decide) (by decide) v l.length (flat l) hs hrow m.length (flat m) _ hx (items_src c hI hA)
    (by unfold maxLen; omega) (by omega) hb ?_
  intro v' w' hown hg _
  have hsz := hg.size
  refine h v' w' (Lib.hid ?_) (Lib.hid fun w0 T => T.grown hg hb (fun k hk => (World.ownsRow.lt hrow k hk).1)) (by omega)
  unfold Its
  rw [List.length_append, flat_append]
  exact hown

end Go.Proofs.YtdhfmapcggohmaaDoor
