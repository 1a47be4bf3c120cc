/- Past a bound, pure: the error of a ninth key, of one value more than there is room for, of a ninth object. No condition but those named. -/
import Derived.Test.YtpkodjllljnleaaGreatMB
set_option linter.unusedSimpArgs false
set_option linter.unusedVariables false
namespace Go.Proofs.YtpkodjllljnleaaGreat
namespace Sto
theorem fnd_of_mem {l : List Ob} (h : Up l) {x : Ob} (hx : x ∈ l) : fnd l x.name = some x := by
 induction l with
 | nil => simp at hx
 | cons y r ih =>
  unfold fnd
  rcases List.mem_cons.1 hx with rfl | hx
  ·rw [if_pos rfl]
  ·rw [if_neg (Dct.lt_ne ((List.pairwise_cons.1 h).1 x hx))]
   exact ih (List.pairwise_cons.1 h).2 hx
end Sto
end Go.Proofs.YtpkodjllljnleaaGreat
namespace Go.Proofs.YtpkodjllljnleaaGreat
namespace Sto
theorem at_idx {l : List Ob} (h : Up l) {i : Nat} {x : Ob} {k : ByteArray} (hx : l[i]? = some x) (hn : x.name = k) : idx l k = i ∧ fin l k = i + 1 ∧ fnd l k = some x := by
 subst hn
 have hi := (List.getElem?_eq_some_iff.1 hx).1
 have e : idx l x.name = i := by
  refine idx_unique (fun j y hj hy => ?_) (Nat.le_of_lt hi) (fun y hy => ?_)
  ·obtain ⟨hj2, e1⟩ := List.getElem?_eq_some_iff.1 hy
   obtain ⟨hi2, e2⟩ := List.getElem?_eq_some_iff.1 hx
   have := (List.pairwise_iff_getElem.1 h) j i hj2 hi2 hj
   rwa [e1, e2] at this
  ·rw [hx] at hy
   injection hy with hy
   subst hy
   exact Dct.lt_irrefl _
 refine ⟨e, ?_, fnd_of_mem h (List.mem_of_getElem? hx)⟩
 unfold fin
 rw [e, hx]
 simp
theorem no_idx {l : List Ob} {k : ByteArray} (h : ∀ (j : Nat) (y : Ob), l[j]? = some y → ¬ y.name = k) : fin l k = idx l k ∧ fnd l k = none := by
 refine ⟨?_, fnd_above fun x hx => ?_⟩
 ·unfold fin
  split
  next x hx => rw [if_neg (h _ x hx)]
  next => rfl
 ·obtain ⟨j, hj⟩ := List.mem_iff_getElem?.1 hx
  exact h j x hj
theorem set_put {l : List Ob} (h : Up l) {i : Nat} {x : Ob} {k : ByteArray} (hx : l[i]? = some x) (hn : x.name = k) (o : Ob) : l.set i o = put l k o := by
 obtain ⟨e1, e2, _⟩ := at_idx h hx hn
 have hi := (List.getElem?_eq_some_iff.1 hx).1
 unfold put
 rw [e1, e2, List.set_eq_take_append_cons_drop, if_pos hi]
 simp
theorem cut_wo {l : List Ob} (h : Up l) {i : Nat} {x : Ob} {k : ByteArray} (hx : l[i]? = some x) (hn : x.name = k) : l.take i ++ l.drop (i + 1) = wo l k := by
 obtain ⟨e1, e2, _⟩ := at_idx h hx hn
 have := (wo_parts h k).1
 rwa [e1, e2] at this
end Sto
end Go.Proofs.YtpkodjllljnleaaGreat
