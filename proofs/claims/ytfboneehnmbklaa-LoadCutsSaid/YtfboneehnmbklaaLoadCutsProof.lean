/-
  The statement LoadCuts, proved for every input that the form speaks of.
  No condition beyond the form's own.
-/
import Derived.Test.YtfboneehnmbklaaLdCutsL
import Derived.Test.YtfboneehnmbklaaLift

namespace Go.Proofs.Ytfboneehnmbklaa
open Go.ChangeShapes Go.WideShapes Go.ChangeAt Go.RowKit

theorem own : ownKnob Try.prog.godebug = none := by kernel_rfl
theorem laidOut : laidOutB Try.prog = true := by kernel_rfl

set_option maxRecDepth 100000 in
theorem loadCuts_lifted (os : Os) (started : os.Started) (H : Type) (enc : TypeId × Value → H) :
    ReturnsInHanded {} Try.checked os 3 .any (Rows.loadCutsSpec.pre6 enc Try.prog Try.f3 Rows.loadCutsRow.domain false) (Rows.loadCutsSpec.post enc Try.prog Try.f3 false true false false) := by
  refine Lift.law (C := Try.checked) own started (by kernel_rfl) Try.func3 laidOut (Lift.fits3 fun _ _ _ _ => rfl) rfl rfl Try.underlying4 (by kernel_rfl)
    (ChangeSpec.witness6 (enc := enc) (C := Try.checked) false ⟨#[], #[.int .i64 0, .string ByteArray.empty, .int .i64 0], []⟩ 8 (by kernel_rfl) (by kernel_rfl) (by kernel_rfl) (by kernel_rfl)) ?_
  intro W base args ds before hg0
  have hg : Lift.Given enc Try.prog Try.f3.params.toList W base args.toList ds before := hg0
  rw [Try.params3] at hg
  obtain ⟨view, vs1, ds1, q1, e1, ed1, hw_view, g1⟩ := hg.int Try.underlying3
  subst ed1
  obtain ⟨s, vs2, ds2, q2, e2, ed2, hs_s, g2⟩ := g1.str Try.underlying9
  subst e2
  subst ed2
  obtain ⟨at_, vs3, ds3, q3, e3, ed3, hw_at_, g3⟩ := g2.int Try.underlying3
  subst e3
  subst ed3
  obtain ⟨rfl, edl⟩ := g3.nil
  obtain rfl := Lift.args_of e1
  exact lcuts_any view s at_ W hs_s

theorem loadCuts_holds : Rows.LoadCutsSaid :=
  OpenClaim.holds_of_wide 3 Try.f3 rfl rfl rfl rfl rfl rfl rfl ⟨rfl, rfl, rfl, rfl, rfl⟩ rfl rfl rfl rfl rfl (by kernel_rfl) Try.func3 (by kernel_rfl)
    (of_decide_eq_true (by kernel_rfl)) (by unfold Func.isWrapper; first | (rw [if_pos (by decide +kernel)]; kernel_rfl) | (rw [if_neg (by decide +kernel)]; exact ⟨rfl, rfl⟩))
    (fun os started H enc _ => loadCuts_lifted os started H enc)

end Go.Proofs.Ytfboneehnmbklaa
