/-
  The statement FrameOnce, proved for every input that the form speaks of.
  No condition beyond the form's own.
-/
import Derived.Test.YtjmjmhconkalpaaFrameLaws
import Derived.Test.YtjmjmhconkalpaaLift

namespace Go.Proofs.Ytjmjmhconkalpaa
open Go.ChangeShapes Go.WideShapes Go.ChangeAt Go.RowKit

theorem own : ownKnob Try.prog.godebug = none := by kernel_rfl
theorem laidOut : laidOutB Try.prog = true := by kernel_rfl

set_option maxRecDepth 100000 in
theorem frameOnce_lifted (os : Os) (started : os.Started) (H : Type) (enc : TypeId × Value → H) :
    ReturnsInHanded {} Try.checked os 7 .any (Rows.frameOnceSpec.pre6 enc Try.prog Try.f7 Rows.frameOnceRow.domain false) (Rows.frameOnceSpec.post enc Try.prog Try.f7 false true false false) := by
  refine Lift.law (C := Try.checked) own started (by kernel_rfl) Try.func7 laidOut (Lift.fits1 fun _ _ => rfl) rfl rfl Try.underlying4 (by kernel_rfl)
    (ChangeSpec.witness6 (enc := enc) (C := Try.checked) false ⟨#[], #[.string ByteArray.empty], []⟩ 8 (by kernel_rfl) (by kernel_rfl) (by kernel_rfl) (by kernel_rfl)) ?_
  intro W base args ds before hg0
  have hg : Lift.Given enc Try.prog Try.f7.params.toList W base args.toList ds before := hg0
  rw [Try.params7] at hg
  obtain ⟨s, vs1, ds1, q1, e1, ed1, hs_s, g1⟩ := hg.str Try.underlying9
  subst ed1
  obtain ⟨rfl, edl⟩ := g1.nil
  obtain rfl := Lift.args_of e1
  exact once_yes s W hs_s

theorem frameOnce_holds : Rows.FrameOnceSaid :=
  OpenClaim.holds_of_wide 7 Try.f7 rfl rfl rfl rfl rfl rfl rfl ⟨rfl, rfl, rfl, rfl, rfl⟩ rfl rfl rfl rfl rfl (by kernel_rfl) Try.func7 (by kernel_rfl)
    (of_decide_eq_true (by kernel_rfl)) (by unfold Func.isWrapper; first | (rw [if_pos (by decide +kernel)]; kernel_rfl) | (rw [if_neg (by decide +kernel)]; exact ⟨rfl, rfl⟩))
    (fun os started H enc _ => frameOnce_lifted os started H enc)

end Go.Proofs.Ytjmjmhconkalpaa
