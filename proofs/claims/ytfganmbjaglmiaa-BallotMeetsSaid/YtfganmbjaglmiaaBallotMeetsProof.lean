/-
  The statement BallotMeets, proved for every input that the form speaks of.
  No condition beyond the form's own.
-/
import Derived.Test.YtfganmbjaglmiaaBalMeetL
import Derived.Test.YtfganmbjaglmiaaLift
import Derived.Test.YtfganmbjaglmiaaLBal
import Derived.Test.YtfganmbjaglmiaaLBo

namespace Go.Proofs.Ytfganmbjaglmiaa
open Go.ChangeShapes Go.WideShapes Go.ChangeAt Go.RowKit

theorem own : ownKnob Try.prog.godebug = none := by kernel_rfl
theorem laidOut : laidOutB Try.prog = true := by kernel_rfl

set_option maxRecDepth 100000 in
theorem ballotMeets_lifted (os : Os) (started : os.Started) (H : Type) (enc : TypeId × Value → H) :
    ReturnsInHanded {} Try.checked os 7 .any (Rows.ballotMeetsSpec.pre6 enc Try.prog Try.f7 Rows.ballotMeetsRow.domain false) (Rows.ballotMeetsSpec.post enc Try.prog Try.f7 false true false false) := by
  refine Lift.law (C := Try.checked) own started (by kernel_rfl) Try.func7 laidOut (Lift.fits3 fun _ _ _ _ => rfl) rfl rfl Try.underlying4 (by kernel_rfl)
    (ChangeSpec.witness6 (enc := enc) (C := Try.checked) false ⟨#[], #[.slice none 0 0, .slice none 0 0, .agg #[.int .i64 0, .int .i64 0]], []⟩ 8 (by kernel_rfl) (by kernel_rfl) (by kernel_rfl) (by kernel_rfl)) ?_
  intro W base args ds before hg0
  have hg : Lift.Given enc Try.prog Try.f7.params.toList W base args.toList ds before := hg0
  rw [Try.params7] at hg
  obtain ⟨A, c, l, vs1, dd1, ds1, q1, e1, ed1, hs, g1⟩ := hg.bools
  subst ed1
  obtain ⟨A2, c2, l2, vs2, dd2, ds2, q2, e2, ed2, hs2, g2⟩ := g1.bools
  subst e2
  subst ed2
  obtain ⟨b, vs3, dd3, ds3, q3, e3, ed3, hb, g3⟩ := g2.bal
  subst e3
  subst ed3
  obtain ⟨rfl, edl⟩ := g3.nil
  obtain rfl := Lift.args_of e1
  exact bmeets_yes A _ c l A2 _ c2 l2 b W hs hs2

theorem ballotMeets_holds : Rows.BallotMeetsSaid :=
  OpenClaim.holds_of_wide 7 Try.f7 rfl rfl rfl rfl rfl rfl rfl ⟨rfl, rfl, rfl, rfl, rfl⟩ rfl rfl rfl rfl rfl (by kernel_rfl) Try.func7 (by kernel_rfl)
    (of_decide_eq_true (by kernel_rfl)) (by unfold Func.isWrapper; first | (rw [if_pos (by decide +kernel)]; kernel_rfl) | (rw [if_neg (by decide +kernel)]; exact ⟨rfl, rfl⟩))
    (fun os started H enc _ => ballotMeets_lifted os started H enc)

end Go.Proofs.Ytfganmbjaglmiaa
