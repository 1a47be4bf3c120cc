/- The statement StorePlays, proved for every input that the form speaks of. No condition but those named. -/
import Derived.Test.YtpkodjllljnleaaGreatStoPlaysL
import Derived.Test.YtpkodjllljnleaaGreatMQ
set_option linter.unusedSimpArgs false
set_option linter.unusedVariables false
namespace Go.Proofs.YtpkodjllljnleaaGreat
open Go.ChangeShapes Go.WideShapes Go.ChangeAt Go.RowKit
theorem own : ownKnob Tryz.prog.godebug = none := by kernel_rfl
theorem laidOut : laidOutB Tryz.prog = true := by kernel_rfl
set_option maxRecDepth 100000 in
theorem storePlays_lifted (os : Os) (started : os.Started) (H : Type) (enc : TypeId × Value → H) :
  ReturnsInHanded {} Tryz.checked os 5 .any (Rows.storePlaysSpec.pre6 enc Tryz.prog Tryz.f5 Rows.storePlaysRow.domain false) (Rows.storePlaysSpec.post enc Tryz.prog Tryz.f5 false true false false) := by
 refine Lift.law (C := Tryz.checked) own started (by kernel_rfl) Tryz.func5 laidOut (Lift.fits1 fun _ _ => rfl) rfl rfl Tryz.underlying4 (by kernel_rfl)
  (ChangeSpec.witness6 (enc := enc) (C := Tryz.checked) false ⟨#[], #[.slice none 0 0], []⟩ 8 (by kernel_rfl) (by kernel_rfl) (by kernel_rfl) (by kernel_rfl)) ?_
 intro W base args ds before hg0
 have hg : Lift.Given enc Tryz.prog Tryz.f5.params.toList W base args.toList ds before := hg0
 rw [Tryz.params5] at hg
 obtain ⟨A, cp, l, vs1, dd1, ds1, q1, e1, ed1, hS, g1⟩ := hg.pops
 subst ed1
 obtain ⟨rfl, edl⟩ := g1.nil
 obtain rfl := Lift.args_of e1
 exact plays_yes A cp l.length l W hS
theorem storePlays_holds : Rows.StorePlaysSaid :=
 OpenClaim.holds_of_wide 5 Tryz.f5 rfl rfl rfl rfl rfl rfl rfl ⟨rfl, rfl, rfl, rfl, rfl⟩ rfl rfl rfl rfl rfl (by kernel_rfl) Tryz.func5 (by kernel_rfl)
  (of_decide_eq_true (by kernel_rfl)) (by unfold Func.isWrapper; first | (rw [if_pos (by decide +kernel)]; kernel_rfl) | (rw [if_neg (by decide +kernel)]; exact ⟨rfl, rfl⟩))
  (fun os started H enc _ => storePlays_lifted os started H enc)
end Go.Proofs.YtpkodjllljnleaaGreat
