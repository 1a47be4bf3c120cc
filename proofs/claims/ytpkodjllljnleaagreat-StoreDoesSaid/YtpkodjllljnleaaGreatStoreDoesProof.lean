/- The statement StoreDoes, proved for every input that the form speaks of. No condition but those named. -/
import Derived.Test.YtpkodjllljnleaaGreatStoDoesL
import Derived.Test.YtpkodjllljnleaaGreatMQ
set_option linter.unusedSimpArgs false
set_option linter.unusedVariables false
namespace Go.Proofs.YtpkodjllljnleaaGreat
open Go.ChangeShapes Go.WideShapes Go.ChangeAt Go.RowKit
theorem own : ownKnob Tryz.prog.godebug = none := by kernel_rfl
theorem laidOut : laidOutB Tryz.prog = true := by kernel_rfl
set_option maxRecDepth 100000 in
theorem storeDoes_lifted (os : Os) (started : os.Started) (H : Type) (enc : TypeId × Value → H) :
  ReturnsInHanded {} Tryz.checked os 3 .any (Rows.storeDoesSpec.pre6 enc Tryz.prog Tryz.f3 Rows.storeDoesRow.domain false) (Rows.storeDoesSpec.post enc Tryz.prog Tryz.f3 false true false false) := by
 refine Lift.law (C := Tryz.checked) own started (by kernel_rfl) Tryz.func3 laidOut (Lift.fits3 fun _ _ _ _ => rfl) rfl rfl Tryz.underlying4 (by kernel_rfl)
  (ChangeSpec.witness6 (enc := enc) (C := Tryz.checked) false ⟨#[], #[.slice none 0 0, .agg #[.int .i64 0, .int .i64 0, .int .i64 0], .agg #[.int .i64 0, .string ByteArray.empty, .string ByteArray.empty, .int .i64 0, .int .i64 0, .int .u64 0, .string ByteArray.empty, .int .i64 0, .int .i64 0, .int .u64 0, .string ByteArray.empty, .int .i64 0, .int .i64 0]], []⟩ 8 (by kernel_rfl) (by kernel_rfl) (by kernel_rfl) (by kernel_rfl)) ?_
 intro W base args ds before hg0
 have hg : Lift.Given enc Tryz.prog Tryz.f3.params.toList W base args.toList ds before := hg0
 rw [Tryz.params3] at hg
 obtain ⟨A, cp, l, vs1, dd1, ds1, q1, e1, ed1, hS, g1⟩ := hg.objs
 subst ed1
 obtain ⟨r, vs2, dd2, ds2, q2, e2, ed2, g2⟩ := g1.ref
 subst e2
 subst ed2
 obtain ⟨c, vs3, dd3, ds3, q3, e3, ed3, hc, g3⟩ := g2.cmd
 subst e3
 subst ed3
 obtain ⟨rfl, edl⟩ := g3.nil
 obtain rfl := Lift.args_of e1
 exact does_yes A cp l.length l r c W hS hc.1 hc.2
theorem storeDoes_holds : Rows.StoreDoesSaid :=
 OpenClaim.holds_of_wide 3 Tryz.f3 rfl rfl rfl rfl rfl rfl rfl ⟨rfl, rfl, rfl, rfl, rfl⟩ rfl rfl rfl rfl rfl (by kernel_rfl) Tryz.func3 (by kernel_rfl)
  (of_decide_eq_true (by kernel_rfl)) (by unfold Func.isWrapper; first | (rw [if_pos (by decide +kernel)]; kernel_rfl) | (rw [if_neg (by decide +kernel)]; exact ⟨rfl, rfl⟩))
  (fun os started H enc _ => storeDoes_lifted os started H enc)
end Go.Proofs.YtpkodjllljnleaaGreat
