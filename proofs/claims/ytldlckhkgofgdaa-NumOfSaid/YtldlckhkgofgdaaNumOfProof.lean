/-
  The statement NumOf, proved for every input that the form speaks of.
  No condition beyond the form's own.
-/
import Derived.Test.YtldlckhkgofgdaaNumLaws
namespace Go.Proofs.Ytldlckhkgofgdaa
open Go.ChangeShapes Go.WideShapes Go.ChangeAt Go.RowKit

theorem own : ownKnob Try.prog.godebug = none := by kernel_rfl
theorem laidOut : laidOutB Try.prog = true := by kernel_rfl

set_option maxRecDepth 100000 in
theorem numOf_lifted (os : Os) (started : os.Started) (H : Type) (enc : TypeId × Value → H) :
    ReturnsInHanded {} Try.checked os 9 .any (Rows.numOfSpec.pre6 enc Try.prog Try.f9 Rows.numOfRow.domain false) (Rows.numOfSpec.post enc Try.prog Try.f9 false true false false) := by
  refine Lift.law (C := Try.checked) own started (by kernel_rfl) Try.func9 laidOut (Lift.fits2 fun _ _ _ => rfl) rfl rfl Try.underlying4 (by kernel_rfl)
    (ChangeSpec.witness6 (enc := enc) (C := Try.checked) false ⟨#[], #[.int .i64 0, .int .i64 0], []⟩ 8 (by kernel_rfl) (by kernel_rfl) (by kernel_rfl) (by kernel_rfl)) ?_
  intro W base args ds before hg0
  have hg : Lift.Given enc Try.prog Try.f9.params.toList W base args.toList ds before := hg0
  rw [Try.params9] at hg
  obtain ⟨n, vs1, ds1, q1, e1, -, hn, g1⟩ := hg.int Try.underlying3
  obtain ⟨m, vs2, ds2, q2, e2, -, hm, g2⟩ := g1.int Try.underlying3
  subst e2
  obtain ⟨rfl, -⟩ := g2.nil
  obtain rfl := Lift.args_of e1
  exact of_yes n m W hn hm

theorem numOf_holds : Rows.NumOfSaid :=
  OpenClaim.holds_of_wide 9 Try.f9 rfl rfl rfl rfl rfl rfl rfl ⟨rfl, rfl, rfl, rfl, rfl⟩ rfl rfl rfl rfl rfl (by kernel_rfl) Try.func9 (by kernel_rfl)
    (of_decide_eq_true (by kernel_rfl)) (by unfold Func.isWrapper; first | (rw [if_pos (by decide +kernel)]; kernel_rfl) | (rw [if_neg (by decide +kernel)]; exact ⟨rfl, rfl⟩))
    (fun os started H enc _ => numOf_lifted os started H enc)


end Go.Proofs.Ytldlckhkgofgdaa
