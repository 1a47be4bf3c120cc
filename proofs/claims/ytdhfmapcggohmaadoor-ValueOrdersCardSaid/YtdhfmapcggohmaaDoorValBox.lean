/-
  A block of four cells that holds a value: what is known of it, and what a store into it leaves.
-/
import Derived.Test.YtdhfmapcggohmaaDoorValRCheck
import Derived.Test.YtdhfmapcggohmaaDoorAppends
import Derived.WalkKit
import Derived.WalkSpells
import Derived.WalkLawsBesides
namespace Go.Proofs.YtdhfmapcggohmaaDoor
open Go.RowKit

/-- Block B is a value's four cells. -/
def Box (w : World) (B : Nat) (a b c d : Value) : Prop := w.heap[B]? = some (.cells #[a, b, c, d] 24 (0, 0))
section
variable {w w' : World} {B : Nat} {a b c d : Value}
theorem Box.lt (h : Box w B a b c d) : B < w.heap.size := (Array.getElem?_eq_some_iff.1 h).1
theorem Box.cell (h : Box w B a b c d) (i : Nat) : w.cell? ⟨B, i, none⟩ = #[a, b, c, d][i]? := cell_of_row w B i _ _ (0, 0) h
theorem Box.frozen (h : Box w B a b c d) (i : Nat) : w.frozen? ⟨B, i, none⟩ = false := by
  unfold Box at h
  simp [World.frozen?, h]
theorem Box.below {n : Nat} (h : Box w B a b c d) (hb : Below n w w') (hB : B < n) : Box w' B a b c d := (hb.block B hB).trans h
theorem Box.alloc (h : Box w B a b c d) (o : Obj) : Box (w.alloc o) B a b c d := (Below.heap_alloc w o B h.lt).trans h
theorem Box.drew (h : Box w B a b c d) : Box w.drew B a b c d := h
theorem Box.new (w : World) (a b c d : Value) : Box (w.alloc (.cells #[a, b, c, d] 24)) w.heap.size a b c d := heap_alloc_new w _
/-- The four cells, and that they may be written. -/
theorem Box.all (h : Box w B a b c d) : w.cell? ⟨B, 0, none⟩ = some a ∧ w.cell? ⟨B, 1, none⟩ = some b ∧ w.cell? ⟨B, 2, none⟩ = some c ∧ w.cell? ⟨B, 3, none⟩ = some d ∧
    w.frozen? ⟨B, 0, none⟩ = false ∧ w.frozen? ⟨B, 1, none⟩ = false ∧ w.frozen? ⟨B, 2, none⟩ = false ∧ w.frozen? ⟨B, 3, none⟩ = false :=
  ⟨h.cell 0, h.cell 1, h.cell 2, h.cell 3, h.frozen 0, h.frozen 1, h.frozen 2, h.frozen 3⟩
end
theorem box_set (w : World) (B : Nat) {a b c d : Value} (i : Nat) (v : Value) (h : Box w B a b c d) : (w.setCell ⟨B, i, none⟩ v).heap[B]? = some (.cells (#[a, b, c, d].setIfInBounds i v) 24 (0, 0)) := by
  unfold Box at h
  simp [World.setCell, Array.getElem?_modify, h]
/-- Four stores into a box. -/
def stored (w : World) (B : Nat) (a b c d : Value) : World := (((w.setCell ⟨B, 0, none⟩ a).setCell ⟨B, 1, none⟩ b).setCell ⟨B, 2, none⟩ c).setCell ⟨B, 3, none⟩ d
theorem box_store {w : World} {B : Nat} {x y z u : Value} (h : Box w B x y z u) (a b c d : Value) : Box (stored w B a b c d) B a b c d := by
  have h1 : Box (w.setCell ⟨B, 0, none⟩ a) B a y z u := box_set w B 0 a h
  have h2 : Box ((w.setCell ⟨B, 0, none⟩ a).setCell ⟨B, 1, none⟩ b) B a b z u := box_set _ B 1 b h1
  have h3 : Box (((w.setCell ⟨B, 0, none⟩ a).setCell ⟨B, 1, none⟩ b).setCell ⟨B, 2, none⟩ c) B a b c u := box_set _ B 2 c h2
  exact box_set _ B 3 d h3
theorem stored_below {w W : World} {n B : Nat} (h : Below n W w) (hB : n ≤ B) (a b c d : Value) : Below n W (stored w B a b c d) :=
  (((h.setCell (p := ⟨B, 0, none⟩) hB a).setCell (p := ⟨B, 1, none⟩) hB b).setCell (p := ⟨B, 2, none⟩) hB c).setCell (p := ⟨B, 3, none⟩) hB d
theorem stored_other {w : World} {g B : Nat} (hne : g ≠ B) (a b c d : Value) : (stored w B a b c d).heap[g]? = w.heap[g]? := by
  unfold stored
  rw [Below.heap_setCell _ ⟨B, 3, none⟩ _ g hne, Below.heap_setCell _ ⟨B, 2, none⟩ _ g hne, Below.heap_setCell _ ⟨B, 1, none⟩ _ g hne, Below.heap_setCell _ ⟨B, 0, none⟩ _ g hne]

/-- A way out of a function that answers with a block's value and a slot's. -/
theorem ret_box {f : Func} (hf : f.results = #[.cell 2 24, .tmp 3]) {R : Ending → World → Prop} {a : Act} {w : World} {B : Nat} {p q r s u : Value}
    (h2 : a.tmps[2]? = some (.pointer (some ⟨B, 0, none⟩))) (h3 : a.tmps[3]? = some u) (hd : a.defers = []) (hb : Box w B p q r s)
    (hR : R (.returned (.tuple #[.agg #[p, q, r, s], u])) w) : bodyPost Tryd.prog f R Exit.ret a w := by
  obtain ⟨k0, k1, k2, k3, -⟩ := hb.all
  exact bodyPost_ret (v := .tuple #[.agg #[p, q, r, s], u]) (by simp [results, hf, go_sem, h2, h3, k0, k1, k2, k3]) hd hR

end Go.Proofs.YtdhfmapcggohmaaDoor
