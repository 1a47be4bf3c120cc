/-
  The statement IdentMeets, proved for every input that the form speaks of.
  No condition beyond the form's own.
-/
import Derived.Test.YtichkobifmfffaaNodeLaws
import Derived.Test.YtichkobifmfffaaLift

namespace Go.Proofs.Ytichkobifmfffaa
open Go.ChangeShapes Go.WideShapes Go.ChangeAt Go.RowKit

theorem own : ownKnob Try.prog.godebug = none := by kernel_rfl
theorem laidOut : laidOutB Try.prog = true := by kernel_rfl

set_option maxRecDepth 100000 in
theorem identMeets_lifted (os : Os) (started : os.Started) (H : Type) (enc : TypeId × Value → H) :
    ReturnsInHanded {} Try.checked os 6 .any (Rows.identMeetsSpec.pre6 enc Try.prog Try.f6 Rows.identMeetsRow.domain false) (Rows.identMeetsSpec.post enc Try.prog Try.f6 false true false false) := by
  refine Lift.law (C := Try.checked) own started (by kernel_rfl) Try.func6 laidOut (Lift.fits3 fun _ _ _ _ => rfl) rfl rfl Try.underlying4 (by kernel_rfl)
    (ChangeSpec.witness6 (enc := enc) (C := Try.checked) false ⟨#[], #[.slice none 0 0, .slice none 0 0, .slice none 0 0], []⟩ 8 (by kernel_rfl) (by kernel_rfl) (by kernel_rfl) (by kernel_rfl)) ?_
  intro W base args ds before hg0
  have hg : Lift.Given enc Try.prog Try.f6.params.toList W base args.toList ds before := hg0
  rw [Try.params6] at hg
  obtain ⟨A, c, l, vs1, dd1, ds1, q1, e1, ed1, hi, hA, hw, hl, hb, hc, g1⟩ := hg.nodes
  subst ed1
  obtain ⟨B, d, p, vs2, dd2, ds2, q2, e2, ed2, hj, hB, hv, hp, hbb, hd, g2⟩ := g1.nodes
  subst e2
  subst ed2
  obtain ⟨C, e, m, vs3, dd3, ds3, q3, e3, ed3, hk, hC, hu, hm, hbm, he, g3⟩ := g2.nodes
  subst e3
  subst ed3
  obtain ⟨rfl, edl⟩ := g3.nil
  obtain rfl := Lift.args_of e1
  exact meets_yes A B C c d e l p m W hl hp hm hi hj hk

theorem identMeets_holds : Rows.IdentMeetsSaid :=
  OpenClaim.holds_of_wide 6 Try.f6 rfl rfl rfl rfl rfl rfl rfl ⟨rfl, rfl, rfl, rfl, rfl⟩ rfl rfl rfl rfl rfl (by kernel_rfl) Try.func6 (by kernel_rfl)
    (of_decide_eq_true (by kernel_rfl)) (by unfold Func.isWrapper; first | (rw [if_pos (by decide +kernel)]; kernel_rfl) | (rw [if_neg (by decide +kernel)]; exact ⟨rfl, rfl⟩))
    (fun os started H enc _ => identMeets_lifted os started H enc)

end Go.Proofs.Ytichkobifmfffaa
