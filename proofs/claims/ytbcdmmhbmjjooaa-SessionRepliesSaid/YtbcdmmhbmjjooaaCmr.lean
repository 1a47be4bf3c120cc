/-
  What cmd.Right and the document's Right return.
  No condition.
-/
import Derived.Test.YtbcdmmhbmjjooaaRfLay
set_option linter.unusedSimpArgs false
set_option linter.unusedVariables false
namespace Go.Proofs.Ytbcdmmhbmjjooaa
open Go.RowKit

set_option maxHeartbeats 3200000 in
theorem cmr_any (x : Rf) (w : World) : Calls Try.prog 21 #[.agg #[.int .i64 x.c, .int .i64 x.e, .int .i64 x.r]] w (IsB (decide (Lck.ok x)) w) := by
  have HE : Hid (∀ q : Bool, (q = true ↔ (0 ≤ x.c ∧ x.c < 5 ∧ 1 ≤ x.e ∧ 0 ≤ x.r)) → q = decide (Lck.ok x)) := Lib.hid fun q hq => by
    rw [Bool.eq_iff_iff, hq, decide_eq_true_eq]
    exact Iff.rfl
  generalize decide (Lck.ok x) = r at *
  obtain ⟨c, ep, rq⟩ := x
  simp only at HE ⊢
  have HK := kn1 w 32 #[.int .i64 c, .int .i64 ep, .int .i64 rq]
  go_enter Try.func21, Try.ntmps21
  go_wp2_with fail
  all_goals
    go_ret
    refine ⟨congrArg (fun b => Ending.returned (.bool b)) (HE.out _ ?_), HK.out.b⟩
    clear HE HK
    simp_all <;> omega
set_option maxHeartbeats 3200000 in
theorem rmr_any (x : Rf) (w : World) : Calls Try.prog 23 #[.agg #[.int .i64 x.c, .int .i64 x.e, .int .i64 x.r]] w (IsB (decide (Lck.ok x)) w) := by
  have HE : Hid (∀ q : Bool, (q = true ↔ (0 ≤ x.c ∧ x.c < 5 ∧ 1 ≤ x.e ∧ 0 ≤ x.r)) → q = decide (Lck.ok x)) := Lib.hid fun q hq => by
    rw [Bool.eq_iff_iff, hq, decide_eq_true_eq]
    exact Iff.rfl
  generalize decide (Lck.ok x) = r at *
  obtain ⟨c, ep, rq⟩ := x
  simp only at HE ⊢
  have HK := kn1 w 32 #[.int .i64 c, .int .i64 ep, .int .i64 rq]
  go_enter Try.func23, Try.ntmps23
  go_wp2_with fail
  all_goals
    go_ret
    refine ⟨congrArg (fun b => Ending.returned (.bool b)) (HE.out _ ?_), HK.out.b⟩
    clear HE HK
    simp_all <;> omega
end Go.Proofs.Ytbcdmmhbmjjooaa
