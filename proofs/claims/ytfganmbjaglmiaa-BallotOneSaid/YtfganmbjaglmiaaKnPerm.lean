/-
  Rows that are known, in another order; of several things' rows those of one ahead of the others'.
  Pure of the program. No condition but those named.
-/
import Derived.Test.YtfganmbjaglmiaaKn
namespace Go.Proofs.Ytfganmbjaglmiaa
open Go.RowKit

theorem Kn.perm {b0 : Nat} {w0 w : World} {L : List (Nat × TypeId × Array Value)} {R R2 : List RowE} (h : Kn b0 w0 w L R) (hp : R.Perm R2) : Kn b0 w0 w L R2 := by
  have hpw : R.Pairwise (fun x y => Apart x.2.2.1 y.2.2.1) := by
    rw [List.pairwise_iff_getElem]
    intro i j hi hj hij
    exact h.rr i j _ _ (List.getElem?_eq_getElem hi) (List.getElem?_eq_getElem hj) (by omega)
  have hp2 : R2.Pairwise (fun x y => Apart x.2.2.1 y.2.2.1) := hp.pairwise hpw (fun {x y} q => q.symm)
  rw [List.pairwise_iff_getElem] at hp2
  have mem : ∀ (i : Nat) y, R2[i]? = some y → ∃ j : Nat, R[j]? = some y := fun i y hy => List.mem_iff_getElem?.1 (hp.mem_iff.2 (List.mem_of_getElem? hy))
  refine ⟨h.b, h.m, h.l, fun i y hy => ?_, h.ll, fun i j x y hx hy => ?_, fun i j x y hx hy hij => ?_⟩
  · obtain ⟨j, hj⟩ := mem i y hy
    exact h.r j y hj
  · obtain ⟨q, hq⟩ := mem j y hy
    exact h.lr i q x y hx hq
  · obtain ⟨hi, rfl⟩ := List.getElem?_eq_some_iff.1 hx
    obtain ⟨hj, rfl⟩ := List.getElem?_eq_some_iff.1 hy
    rcases Nat.lt_or_gt_of_ne hij with q | q
    · exact hp2 i j hi hj q
    · exact (hp2 j i hj hi q).symm
/-- Some of the rows. -/
theorem Kn.part {b0 : Nat} {w0 w : World} {L : List (Nat × TypeId × Array Value)} {R R2 X : List RowE} (h : Kn b0 w0 w L R) (hp : R.Perm (R2 ++ X)) : Kn b0 w0 w L R2 := by
  have h1 := (h.perm hp).takeR R2.length
  rw [List.take_left' rfl] at h1
  exact h1
section
variable {α β : Type}
theorem rows_put (f : α → List β) : ∀ (F : List α) (i : Nat) (y : α), i < F.length → (f y ++ (F.eraseIdx i).flatMap f).Perm ((F.set i y).flatMap f)
  | [], i, y, h => by simp at h
  | a :: r, 0, y, _ => by
    rw [List.eraseIdx_cons_zero, List.set_cons_zero, List.flatMap_cons]
  | a :: r, i + 1, y, h => by
    rw [List.eraseIdx_cons_succ, List.set_cons_succ, List.flatMap_cons, List.flatMap_cons]
    refine List.Perm.trans (List.perm_append_comm_assoc _ _ _) ?_
    exact (rows_put f r i y (by simpa using h)).append_left _
theorem rows_take (f : α → List β) (F : List α) (i : Nat) (x : α) (h : F[i]? = some x) : (F.flatMap f).Perm (f x ++ (F.eraseIdx i).flatMap f) := by
  obtain ⟨hi, rfl⟩ := List.getElem?_eq_some_iff.1 h
  have := rows_put f F i F[i] hi
  rw [List.set_getElem_self] at this
  exact this.symm
end
end Go.Proofs.Ytfganmbjaglmiaa
