/-
  The statement GateOpens, proved for every input that the form speaks of.
  No condition beyond the form's own.
-/
import Derived.Test.YtbdfmfegmfmghaaGateOpensL
import Derived.Test.YtbdfmfegmfmghaaLift

namespace Go.Proofs.Ytbdfmfegmfmghaa
open Go.ChangeShapes Go.WideShapes Go.ChangeAt Go.RowKit

theorem own : ownKnob Try.prog.godebug = none := by kernel_rfl
theorem laidOut : laidOutB Try.prog = true := by kernel_rfl

set_option maxRecDepth 100000 in
theorem gateOpens_lifted (os : Os) (started : os.Started) (H : Type) (enc : TypeId × Value → H) :
    ReturnsInHanded {} Try.checked os 4 .any (Rows.gateOpensSpec.pre6 enc Try.prog Try.f4 Rows.gateOpensRow.domain false) (Rows.gateOpensSpec.post enc Try.prog Try.f4 false true false false) := by
  refine Lift.law (C := Try.checked) own started (by kernel_rfl) Try.func4 laidOut (Lift.fits2 fun _ _ _ => rfl) rfl rfl Try.underlying4 (by kernel_rfl)
    (ChangeSpec.witness6 (enc := enc) (C := Try.checked) false ⟨#[], #[.int .i64 0, .slice none 0 0], []⟩ 8 (by kernel_rfl) (by kernel_rfl) (by kernel_rfl) (by kernel_rfl)) ?_
  intro W base args ds before hg0
  have hg : Lift.Given enc Try.prog Try.f4.params.toList W base args.toList ds before := hg0
  rw [Try.params4] at hg
  obtain ⟨m, vs1, ds1, q1, e1, ed1, hw_m, g1⟩ := hg.int Try.underlying3
  subst ed1
  obtain ⟨A, c, l, vs2, dd2, ds2, q2, e2, ed2, hS, g2⟩ := g1.gops
  subst e2
  subst ed2
  obtain ⟨rfl, edl⟩ := g2.nil
  obtain rfl := Lift.args_of e1
  exact opens_yes m A c l.length l W hS

theorem gateOpens_holds : Rows.GateOpensSaid :=
  OpenClaim.holds_of_wide 4 Try.f4 rfl rfl rfl rfl rfl rfl rfl ⟨rfl, rfl, rfl, rfl, rfl⟩ rfl rfl rfl rfl rfl (by kernel_rfl) Try.func4 (by kernel_rfl)
    (of_decide_eq_true (by kernel_rfl)) (by unfold Func.isWrapper; first | (rw [if_pos (by decide +kernel)]; kernel_rfl) | (rw [if_neg (by decide +kernel)]; exact ⟨rfl, rfl⟩))
    (fun os started H enc _ => gateOpens_lifted os started H enc)

end Go.Proofs.Ytbdfmfegmfmghaa
