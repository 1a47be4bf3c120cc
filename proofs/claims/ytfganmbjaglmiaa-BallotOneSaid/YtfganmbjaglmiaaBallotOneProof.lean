/-
  The statement BallotOne, proved for every input that the form speaks of.
  No condition beyond the form's own.
-/
import Derived.Test.YtfganmbjaglmiaaBalOneL
import Derived.Test.YtfganmbjaglmiaaLift
import Derived.Test.YtfganmbjaglmiaaLMov

namespace Go.Proofs.Ytfganmbjaglmiaa
open Go.ChangeShapes Go.WideShapes Go.ChangeAt Go.RowKit

theorem own : ownKnob Try.prog.godebug = none := by kernel_rfl
theorem laidOut : laidOutB Try.prog = true := by kernel_rfl

set_option maxRecDepth 100000 in
theorem ballotOne_lifted (os : Os) (started : os.Started) (H : Type) (enc : TypeId × Value → H) :
    ReturnsInHanded {} Try.checked os 6 .any (Rows.ballotOneSpec.pre6 enc Try.prog Try.f6 Rows.ballotOneRow.domain false) (Rows.ballotOneSpec.post enc Try.prog Try.f6 false true false false) := by
  refine Lift.law (C := Try.checked) own started (by kernel_rfl) Try.func6 laidOut (Lift.fits2 fun _ _ _ => rfl) rfl rfl Try.underlying4 (by kernel_rfl)
    (ChangeSpec.witness6 (enc := enc) (C := Try.checked) false ⟨#[], #[.int .u8 0, .slice none 0 0], []⟩ 8 (by kernel_rfl) (by kernel_rfl) (by kernel_rfl) (by kernel_rfl)) ?_
  intro W base args ds before hg0
  have hg : Lift.Given enc Try.prog Try.f6.params.toList W base args.toList ds before := hg0
  rw [Try.params6] at hg
  obtain ⟨n, vs1, ds1, q1, e1, ed1, hw_n, g1⟩ := hg.int Try.underlying5
  subst ed1
  obtain ⟨A, c, l, vs2, dd2, ds2, q2, e2, ed2, hs, g2⟩ := g1.moves
  subst e2
  subst ed2
  obtain ⟨rfl, edl⟩ := g2.nil
  obtain rfl := Lift.args_of e1
  exact (by obtain ⟨k, rfl, hk⟩ := u8_nat hw_n; exact bone_yes k hk A _ c l W hs)

theorem ballotOne_holds : Rows.BallotOneSaid :=
  OpenClaim.holds_of_wide 6 Try.f6 rfl rfl rfl rfl rfl rfl rfl ⟨rfl, rfl, rfl, rfl, rfl⟩ rfl rfl rfl rfl rfl (by kernel_rfl) Try.func6 (by kernel_rfl)
    (of_decide_eq_true (by kernel_rfl)) (by unfold Func.isWrapper; first | (rw [if_pos (by decide +kernel)]; kernel_rfl) | (rw [if_neg (by decide +kernel)]; exact ⟨rfl, rfl⟩))
    (fun os started H enc _ => ballotOne_lifted os started H enc)

end Go.Proofs.Ytfganmbjaglmiaa
