/-
  The statement MeterDoes, proved for every input that the form speaks of.
  No condition beyond the form's own.
-/
import Derived.Test.YtbaaoenmnmpfjaaMtDoesL
import Derived.Test.YtbaaoenmnmpfjaaLMt
import Derived.Test.YtbaaoenmnmpfjaaLift

namespace Go.Proofs.Ytbaaoenmnmpfjaa
open Go.ChangeShapes Go.WideShapes Go.ChangeAt Go.RowKit

theorem own : ownKnob Try.prog.godebug = none := by kernel_rfl
theorem laidOut : laidOutB Try.prog = true := by kernel_rfl

set_option maxRecDepth 100000 in
theorem meterDoes_lifted (os : Os) (started : os.Started) (H : Type) (enc : TypeId × Value → H) :
    ReturnsInHanded {} Try.checked os 3 .any (Rows.meterDoesSpec.pre6 enc Try.prog Try.f3 Rows.meterDoesRow.domain false) (Rows.meterDoesSpec.post enc Try.prog Try.f3 false true false false) := by
  refine Lift.law (C := Try.checked) own started (by kernel_rfl) Try.func3 laidOut (Lift.fits3 fun _ _ _ _ => rfl) rfl rfl Try.underlying4 (by kernel_rfl)
    (ChangeSpec.witness6 (enc := enc) (C := Try.checked) false ⟨#[], #[.agg #[.int .i64 0, .int .u64 0, .int .u64 0, .int .u64 0], .int .u64 0, .int .i64 0], []⟩ 8 (by kernel_rfl) (by kernel_rfl) (by kernel_rfl) (by kernel_rfl)) ?_
  intro W base args ds before hg0
  have hg : Lift.Given enc Try.prog Try.f3.params.toList W base args.toList ds before := hg0
  rw [Try.params3] at hg
  obtain ⟨x, vs1, dd1, ds1, q1, e1, ed1, hf, g1⟩ := hg.mt
  subst ed1
  obtain ⟨b, vs2, ds2, q2, e2, ed2, hw_b, g2⟩ := g1.int Try.underlying22
  subst e2
  subst ed2
  obtain ⟨q, vs3, ds3, q3, e3, ed3, hw_q, g3⟩ := g2.int Try.underlying3
  subst e3
  subst ed3
  obtain ⟨rfl, edl⟩ := g3.nil
  obtain rfl := Lift.args_of e1
  exact of_u64 (C := fun b => Calls Try.prog 3 #[.agg (mL x).toArray, .int .u64 b, .int .i64 q] W (fun e w' => e = .returned (.bool true) ∧ Below W.heap.size W w')) (fun b hb => does_yes x hf b hb q W) b hw_b

theorem meterDoes_holds : Rows.MeterDoesSaid :=
  OpenClaim.holds_of_wide 3 Try.f3 rfl rfl rfl rfl rfl rfl rfl ⟨rfl, rfl, rfl, rfl, rfl⟩ rfl rfl rfl rfl rfl (by kernel_rfl) Try.func3 (by kernel_rfl)
    (of_decide_eq_true (by kernel_rfl)) (by unfold Func.isWrapper; first | (rw [if_pos (by decide +kernel)]; kernel_rfl) | (rw [if_neg (by decide +kernel)]; exact ⟨rfl, rfl⟩))
    (fun os started H enc _ => meterDoes_lifted os started H enc)

end Go.Proofs.Ytbaaoenmnmpfjaa
