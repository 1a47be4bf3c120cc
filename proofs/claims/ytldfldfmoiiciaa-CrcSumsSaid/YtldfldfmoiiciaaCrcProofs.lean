/-
  The statements CrcSums, CrcParts, CrcStates, CrcWords, proved for every input that the form speaks of.
  No condition beyond the form's own.
-/
import Derived.Test.YtldfldfmoiiciaaCrcLaws
namespace Go.Proofs.Ytldfldfmoiiciaa
open Go.ChangeShapes Go.WideShapes Go.ChangeAt Go.RowKit

theorem own : ownKnob Try.prog.godebug = none := by kernel_rfl
theorem laidOut : laidOutB Try.prog = true := by kernel_rfl

set_option maxRecDepth 100000 in
theorem crcSums_lifted (os : Os) (started : os.Started) (H : Type) (enc : TypeId × Value → H) :
    ReturnsInHanded {} Try.checked os 3 .any (Rows.crcSumsSpec.pre6 enc Try.prog Try.f3 Rows.crcSumsRow.domain false) (Rows.crcSumsSpec.post enc Try.prog Try.f3 false true false false) := by
  refine Lift.law (C := Try.checked) own started (by kernel_rfl) Try.func3 laidOut (Lift.fits1 fun _ _ => rfl) rfl rfl Try.underlying4 (by kernel_rfl)
    (ChangeSpec.witness6 (enc := enc) (C := Try.checked) false ⟨#[], #[.string ByteArray.empty], []⟩ 8 (by kernel_rfl) (by kernel_rfl) (by kernel_rfl) (by kernel_rfl)) ?_
  intro W base args ds before hg0
  have hg : Lift.Given enc Try.prog Try.f3.params.toList W base args.toList ds before := hg0
  rw [Try.params3] at hg
  obtain ⟨s, vs1, ds1, q1, e1, -, hs, g1⟩ := hg.str Try.underlying9
  obtain ⟨rfl, -⟩ := g1.nil
  obtain rfl := Lift.args_of e1
  exact sums_yes s W hs

theorem crcSums_holds : Rows.CrcSumsSaid :=
  OpenClaim.holds_of_wide 3 Try.f3 rfl rfl rfl rfl rfl rfl rfl ⟨rfl, rfl, rfl, rfl, rfl⟩ rfl rfl rfl rfl rfl (by kernel_rfl) Try.func3 (by kernel_rfl)
    (of_decide_eq_true (by kernel_rfl)) (by unfold Func.isWrapper; first | (rw [if_pos (by decide +kernel)]; kernel_rfl) | (rw [if_neg (by decide +kernel)]; exact ⟨rfl, rfl⟩))
    (fun os started H enc _ => crcSums_lifted os started H enc)

set_option maxRecDepth 100000 in
theorem crcParts_lifted (os : Os) (started : os.Started) (H : Type) (enc : TypeId × Value → H) :
    ReturnsInHanded {} Try.checked os 4 .any (Rows.crcPartsSpec.pre6 enc Try.prog Try.f4 Rows.crcPartsRow.domain false) (Rows.crcPartsSpec.post enc Try.prog Try.f4 false true false false) := by
  refine Lift.law (C := Try.checked) own started (by kernel_rfl) Try.func4 laidOut (Lift.fits2 fun _ _ _ => rfl) rfl rfl Try.underlying4 (by kernel_rfl)
    (ChangeSpec.witness6 (enc := enc) (C := Try.checked) false ⟨#[], #[.string ByteArray.empty, .string ByteArray.empty], []⟩ 8 (by kernel_rfl) (by kernel_rfl) (by kernel_rfl) (by kernel_rfl)) ?_
  intro W base args ds before hg0
  have hg : Lift.Given enc Try.prog Try.f4.params.toList W base args.toList ds before := hg0
  rw [Try.params4] at hg
  obtain ⟨a, vs1, ds1, q1, e1, -, ha, g1⟩ := hg.str Try.underlying9
  obtain ⟨b, vs2, ds2, q2, e2, -, hb, g2⟩ := g1.str Try.underlying9
  subst e2
  obtain ⟨rfl, -⟩ := g2.nil
  obtain rfl := Lift.args_of e1
  exact parts_yes a b W ha hb

theorem crcParts_holds : Rows.CrcPartsSaid :=
  OpenClaim.holds_of_wide 4 Try.f4 rfl rfl rfl rfl rfl rfl rfl ⟨rfl, rfl, rfl, rfl, rfl⟩ rfl rfl rfl rfl rfl (by kernel_rfl) Try.func4 (by kernel_rfl)
    (of_decide_eq_true (by kernel_rfl)) (by unfold Func.isWrapper; first | (rw [if_pos (by decide +kernel)]; kernel_rfl) | (rw [if_neg (by decide +kernel)]; exact ⟨rfl, rfl⟩))
    (fun os started H enc _ => crcParts_lifted os started H enc)

set_option maxRecDepth 100000 in
theorem crcStates_lifted (os : Os) (started : os.Started) (H : Type) (enc : TypeId × Value → H) :
    ReturnsInHanded {} Try.checked os 5 .any (Rows.crcStatesSpec.pre6 enc Try.prog Try.f5 Rows.crcStatesRow.domain false) (Rows.crcStatesSpec.post enc Try.prog Try.f5 false true false false) := by
  refine Lift.law (C := Try.checked) own started (by kernel_rfl) Try.func5 laidOut (Lift.fits2 fun _ _ _ => rfl) rfl rfl Try.underlying4 (by kernel_rfl)
    (ChangeSpec.witness6 (enc := enc) (C := Try.checked) false ⟨#[], #[.int .u32 0, .string ByteArray.empty], []⟩ 8 (by kernel_rfl) (by kernel_rfl) (by kernel_rfl) (by kernel_rfl)) ?_
  intro W base args ds before hg0
  have hg : Lift.Given enc Try.prog Try.f5.params.toList W base args.toList ds before := hg0
  rw [Try.params5] at hg
  obtain ⟨c, vs1, ds1, q1, e1, -, hc, g1⟩ := hg.int Try.underlying23
  obtain ⟨s, vs2, ds2, q2, e2, -, hs, g2⟩ := g1.str Try.underlying9
  subst e2
  obtain ⟨rfl, -⟩ := g2.nil
  obtain rfl := Lift.args_of e1
  exact states_yes c s W hc hs

theorem crcStates_holds : Rows.CrcStatesSaid :=
  OpenClaim.holds_of_wide 5 Try.f5 rfl rfl rfl rfl rfl rfl rfl ⟨rfl, rfl, rfl, rfl, rfl⟩ rfl rfl rfl rfl rfl (by kernel_rfl) Try.func5 (by kernel_rfl)
    (of_decide_eq_true (by kernel_rfl)) (by unfold Func.isWrapper; first | (rw [if_pos (by decide +kernel)]; kernel_rfl) | (rw [if_neg (by decide +kernel)]; exact ⟨rfl, rfl⟩))
    (fun os started H enc _ => crcStates_lifted os started H enc)

set_option maxRecDepth 100000 in
theorem crcWords_lifted (os : Os) (started : os.Started) (H : Type) (enc : TypeId × Value → H) :
    ReturnsInHanded {} Try.checked os 7 .any (Rows.crcWordsSpec.pre6 enc Try.prog Try.f7 Rows.crcWordsRow.domain false) (Rows.crcWordsSpec.post enc Try.prog Try.f7 false true false false) := by
  refine Lift.law (C := Try.checked) own started (by kernel_rfl) Try.func7 laidOut (Lift.fits2 fun _ _ _ => rfl) rfl rfl Try.underlying4 (by kernel_rfl)
    (ChangeSpec.witness6 (enc := enc) (C := Try.checked) false ⟨#[], #[.int .u32 0, .string ByteArray.empty], []⟩ 8 (by kernel_rfl) (by kernel_rfl) (by kernel_rfl) (by kernel_rfl)) ?_
  intro W base args ds before hg0
  have hg : Lift.Given enc Try.prog Try.f7.params.toList W base args.toList ds before := hg0
  rw [Try.params7] at hg
  obtain ⟨c, vs1, ds1, q1, e1, -, hc, g1⟩ := hg.int Try.underlying23
  obtain ⟨s, vs2, ds2, q2, e2, -, hs, g2⟩ := g1.str Try.underlying9
  subst e2
  obtain ⟨rfl, -⟩ := g2.nil
  obtain rfl := Lift.args_of e1
  exact words_yes c s W hc hs

theorem crcWords_holds : Rows.CrcWordsSaid :=
  OpenClaim.holds_of_wide 7 Try.f7 rfl rfl rfl rfl rfl rfl rfl ⟨rfl, rfl, rfl, rfl, rfl⟩ rfl rfl rfl rfl rfl (by kernel_rfl) Try.func7 (by kernel_rfl)
    (of_decide_eq_true (by kernel_rfl)) (by unfold Func.isWrapper; first | (rw [if_pos (by decide +kernel)]; kernel_rfl) | (rw [if_neg (by decide +kernel)]; exact ⟨rfl, rfl⟩))
    (fun os started H enc _ => crcWords_lifted os started H enc)

end Go.Proofs.Ytldfldfmoiiciaa
