/-
  The statement SessionKeeps, proved for every input that the form speaks of.
  No condition beyond the form's own.
-/
import Derived.Test.YtbcdmmhbmjjooaaSesKeepsL
import Derived.Test.YtbcdmmhbmjjooaaLift
import Derived.Test.YtbcdmmhbmjjooaaSesOps

namespace Go.Proofs.Ytbcdmmhbmjjooaa
open Go.ChangeShapes Go.WideShapes Go.ChangeAt Go.RowKit

theorem own : ownKnob Try.prog.godebug = none := by kernel_rfl
theorem laidOut : laidOutB Try.prog = true := by kernel_rfl

set_option maxRecDepth 100000 in
theorem sessionKeeps_lifted (os : Os) (started : os.Started) (H : Type) (enc : TypeId × Value → H) :
    ReturnsInHanded {} Try.checked os 5 .any (Rows.sessionKeepsSpec.pre6 enc Try.prog Try.f5 Rows.sessionKeepsRow.domain false) (Rows.sessionKeepsSpec.post enc Try.prog Try.f5 false true false false) := by
  refine Lift.law (C := Try.checked) own started (by kernel_rfl) Try.func5 laidOut (Lift.fits3 fun _ _ _ _ => rfl) rfl rfl Try.underlying4 (by kernel_rfl)
    (ChangeSpec.witness6 (enc := enc) (C := Try.checked) false ⟨#[], #[.agg (tbA tz), .agg #[.int .i64 0, .int .i64 0, .int .i64 0], .agg #[.int .i64 0, .int .i64 0, .int .i64 0, .int .u64 0, .string ByteArray.empty]], []⟩ 8 (by kernel_rfl) (by kernel_rfl) (by kernel_rfl) (by kernel_rfl)) ?_
  intro W base args ds before hg0
  have hg : Lift.Given enc Try.prog Try.f5.params.toList W base args.toList ds before := hg0
  rw [Try.params5] at hg
  obtain ⟨t, vs1, dd1, ds1, q1, e1, ed1, hf, g1⟩ := hg.table
  subst ed1
  obtain ⟨r, vs2, dd2, ds2, q2, e2, ed2, hr, g2⟩ := g1.rfb
  subst e2
  subst ed2
  obtain ⟨x, vs3, dd3, ds3, q3, e3, ed3, hx, g3⟩ := g2.reply
  subst e3
  subst ed3
  obtain ⟨rfl, edl⟩ := g3.nil
  obtain rfl := Lift.args_of e1
  exact keeps_any t r x W hf hx hr

theorem sessionKeeps_holds : Rows.SessionKeepsSaid :=
  OpenClaim.holds_of_wide 5 Try.f5 rfl rfl rfl rfl rfl rfl rfl ⟨rfl, rfl, rfl, rfl, rfl⟩ rfl rfl rfl rfl rfl (by kernel_rfl) Try.func5 (by kernel_rfl)
    (of_decide_eq_true (by kernel_rfl)) (by unfold Func.isWrapper; first | (rw [if_pos (by decide +kernel)]; kernel_rfl) | (rw [if_neg (by decide +kernel)]; exact ⟨rfl, rfl⟩))
    (fun os started H enc _ => sessionKeeps_lifted os started H enc)

end Go.Proofs.Ytbcdmmhbmjjooaa
