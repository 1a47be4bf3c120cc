/- The statement StoreDrops, proved for every input that the form speaks of. No condition but those named. -/
import Derived.Test.YtpkodjllljnleaaGreatStoDropsL
import Derived.Test.YtpkodjllljnleaaGreatMQ
set_option linter.unusedSimpArgs false
set_option linter.unusedVariables false
namespace Go.Proofs.YtpkodjllljnleaaGreat
open Go.ChangeShapes Go.WideShapes Go.ChangeAt Go.RowKit
theorem own : ownKnob Tryz.prog.godebug = none := by kernel_rfl
theorem laidOut : laidOutB Tryz.prog = true := by kernel_rfl
set_option maxRecDepth 100000 in
theorem storeDrops_lifted (os : Os) (started : os.Started) (H : Type) (enc : TypeId × Value → H) :
  ReturnsInHanded {} Tryz.checked os 4 .any (Rows.storeDropsSpec.pre6 enc Tryz.prog Tryz.f4 Rows.storeDropsRow.domain false) (Rows.storeDropsSpec.post enc Tryz.prog Tryz.f4 false true false false) := by
 refine Lift.law (C := Tryz.checked) own started (by kernel_rfl) Tryz.func4 laidOut (Lift.fits2 fun _ _ _ => rfl) rfl rfl Tryz.underlying4 (by kernel_rfl)
  (ChangeSpec.witness6 (enc := enc) (C := Tryz.checked) false ⟨#[], #[.slice none 0 0, .agg #[.int .i64 0, .int .i64 0, .int .i64 0]], []⟩ 8 (by kernel_rfl) (by kernel_rfl) (by kernel_rfl) (by kernel_rfl)) ?_
 intro W base args ds before hg0
 have hg : Lift.Given enc Tryz.prog Tryz.f4.params.toList W base args.toList ds before := hg0
 rw [Tryz.params4] at hg
 obtain ⟨A, cp, l, vs1, dd1, ds1, q1, e1, ed1, hS, g1⟩ := hg.objs
 subst ed1
 obtain ⟨r, vs2, dd2, ds2, q2, e2, ed2, g2⟩ := g1.ref
 subst e2
 subst ed2
 obtain ⟨rfl, edl⟩ := g2.nil
 obtain rfl := Lift.args_of e1
 exact drops_yes A cp l.length l r W hS
theorem storeDrops_holds : Rows.StoreDropsSaid :=
 OpenClaim.holds_of_wide 4 Tryz.f4 rfl rfl rfl rfl rfl rfl rfl ⟨rfl, rfl, rfl, rfl, rfl⟩ rfl rfl rfl rfl rfl (by kernel_rfl) Tryz.func4 (by kernel_rfl)
  (of_decide_eq_true (by kernel_rfl)) (by unfold Func.isWrapper; first | (rw [if_pos (by decide +kernel)]; kernel_rfl) | (rw [if_neg (by decide +kernel)]; exact ⟨rfl, rfl⟩))
  (fun os started H enc _ => storeDrops_lifted os started H enc)
end Go.Proofs.YtpkodjllljnleaaGreat
