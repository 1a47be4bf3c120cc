/-
  The statement LogCounts, proved for every input that the form speaks of.
  No condition beyond the form's own.
-/
import Derived.Test.YtakjggmiilkmdaaLogCounts
import Derived.Test.YtakjggmiilkmdaaLift

namespace Go.Proofs.Ytakjggmiilkmdaa
open Go.ChangeShapes Go.WideShapes Go.ChangeAt Go.RowKit

theorem own : ownKnob Try.prog.godebug = none := by kernel_rfl
theorem laidOut : laidOutB Try.prog = true := by kernel_rfl

set_option maxRecDepth 100000 in
theorem logCounts_lifted (os : Os) (started : os.Started) (H : Type) (enc : TypeId × Value → H) :
    ReturnsInHanded {} Try.checked os 4 .any (Rows.logCountsSpec.pre6 enc Try.prog Try.f4 Rows.logCountsRow.domain false) (Rows.logCountsSpec.post enc Try.prog Try.f4 false true false false) := by
  refine Lift.law (C := Try.checked) own started (by kernel_rfl) Try.func4 laidOut (Lift.fits1 fun _ _ => rfl) rfl rfl Try.underlying4 (by kernel_rfl)
    (ChangeSpec.witness6 (enc := enc) (C := Try.checked) false ⟨#[], #[.slice none 0 0], []⟩ 8 (by kernel_rfl) (by kernel_rfl) (by kernel_rfl) (by kernel_rfl)) ?_
  intro W base args ds before hg0
  have hg : Lift.Given enc Try.prog Try.f4.params.toList W base args.toList ds before := hg0
  rw [Try.params4] at hg
  obtain ⟨A, c, l, vs1, dd1, ds1, q1, e1, ed1, hs, g1⟩ := hg.ints
  subst ed1
  obtain ⟨rfl, edl⟩ := g1.nil
  obtain rfl := Lift.args_of e1
  exact lcounts_yes A _ c l W hs

theorem logCounts_holds : Rows.LogCountsSaid :=
  OpenClaim.holds_of_wide 4 Try.f4 rfl rfl rfl rfl rfl rfl rfl ⟨rfl, rfl, rfl, rfl, rfl⟩ rfl rfl rfl rfl rfl (by kernel_rfl) Try.func4 (by kernel_rfl)
    (of_decide_eq_true (by kernel_rfl)) (by unfold Func.isWrapper; first | (rw [if_pos (by decide +kernel)]; kernel_rfl) | (rw [if_neg (by decide +kernel)]; exact ⟨rfl, rfl⟩))
    (fun os started H enc _ => logCounts_lifted os started H enc)

end Go.Proofs.Ytakjggmiilkmdaa
