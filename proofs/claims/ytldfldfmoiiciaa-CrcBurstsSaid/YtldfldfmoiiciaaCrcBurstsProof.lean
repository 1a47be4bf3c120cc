/-
  The statement CrcBursts, proved for every input that the form speaks of.
  No condition beyond the form's own.
-/
import Derived.Test.YtldfldfmoiiciaaCrcBursts
namespace Go.Proofs.Ytldfldfmoiiciaa
open Go.ChangeShapes Go.WideShapes Go.ChangeAt Go.RowKit

theorem own : ownKnob Try.prog.godebug = none := by kernel_rfl
theorem laidOut : laidOutB Try.prog = true := by kernel_rfl

set_option maxRecDepth 100000 in
theorem crcBursts_lifted (os : Os) (started : os.Started) (H : Type) (enc : TypeId × Value → H) :
    ReturnsInHanded {} Try.checked os 6 .any (Rows.crcBurstsSpec.pre6 enc Try.prog Try.f6 Rows.crcBurstsRow.domain false) (Rows.crcBurstsSpec.post enc Try.prog Try.f6 false true false false) := by
  refine Lift.law (C := Try.checked) own started (by kernel_rfl) Try.func6 laidOut (Lift.fits3 fun _ _ _ _ => rfl) rfl rfl Try.underlying4 (by kernel_rfl)
    (ChangeSpec.witness6 (enc := enc) (C := Try.checked) false ⟨#[], #[.string ByteArray.empty, .int .i64 0, .int .u32 0], []⟩ 8 (by kernel_rfl) (by kernel_rfl) (by kernel_rfl) (by kernel_rfl)) ?_
  intro W base args ds before hg0
  have hg : Lift.Given enc Try.prog Try.f6.params.toList W base args.toList ds before := hg0
  rw [Try.params6] at hg
  obtain ⟨s, vs1, ds1, q1, e1, -, hs, g1⟩ := hg.str Try.underlying9
  obtain ⟨place, vs2, ds2, q2, e2, -, hplace, g2⟩ := g1.int Try.underlying3
  subst e2
  obtain ⟨turn, vs3, ds3, q3, e3, -, hturn, g3⟩ := g2.int Try.underlying23
  subst e3
  obtain ⟨rfl, -⟩ := g3.nil
  obtain rfl := Lift.args_of e1
  exact bursts_law s place turn W hs hplace hturn

theorem crcBursts_holds : Rows.CrcBurstsSaid :=
  OpenClaim.holds_of_wide 6 Try.f6 rfl rfl rfl rfl rfl rfl rfl ⟨rfl, rfl, rfl, rfl, rfl⟩ rfl rfl rfl rfl rfl (by kernel_rfl) Try.func6 (by kernel_rfl)
    (of_decide_eq_true (by kernel_rfl)) (by unfold Func.isWrapper; first | (rw [if_pos (by decide +kernel)]; kernel_rfl) | (rw [if_neg (by decide +kernel)]; exact ⟨rfl, rfl⟩))
    (fun os started H enc _ => crcBursts_lifted os started H enc)

end Go.Proofs.Ytldfldfmoiiciaa
