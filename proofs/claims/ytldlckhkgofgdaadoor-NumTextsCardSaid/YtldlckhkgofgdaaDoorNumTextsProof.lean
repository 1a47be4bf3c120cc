/-
  The statement NumTexts, proved for every input that the form speaks of: the row, and its card that ties the listed variables to the program's text.
  No condition beyond the form's own.
-/
import Derived.Test.YtldlckhkgofgdaaDoorHexLaid
import Derived.Test.YtldlckhkgofgdaaDoorCards
import Derived.Test.YtldlckhkgofgdaaDoorTie
namespace Go.Proofs.YtldlckhkgofgdaaDoor
open Go.ChangeShapes Go.WideShapes Go.ChangeAt Go.RowKit

theorem door_met (os : Os) (args : Array Value) : laidMetH Tryd.prog Rows.numTextsRow.laid ((World.doorLaid Tryd.prog 400 os).forCall (fun _ _ => 0) ⟨#[], args, []⟩).memory :=
  laidMetH_of_parts3 (fuel := 8) (laidMet_of_run' 8 (by kernel_rfl) (by kernel_rfl)) (by kernel_rfl) (by kernel_rfl)

set_option maxRecDepth 100000 in
theorem numTexts_lifted (os : Os) (started : os.Started) (H : Type) (enc : TypeId × Value → H) :
    ReturnsInHanded {} Tryd.checked os 3 .any (fun w args => (Rows.numTextsSpec.pre enc Tryd.prog Tryd.f3 [] false w args ∧ laidMetH Tryd.prog Rows.numTextsRow.laid w) ∧ sizedMet enc Tryd.prog Tryd.f3 (OpenSpec.ofChange Rows.numTextsSpec) false w args)
      (Rows.numTextsSpec.post enc Tryd.prog Tryd.f3 false true false false) := by
  refine Lift.lawLaid (C := Tryd.checked) own started (by kernel_rfl) Tryd.func3 laidOut (Lift.fits1 fun _ _ => rfl) rfl rfl Tryd.underlying4 (by kernel_rfl) (by kernel_rfl)
    (ChangeSpec.witness_shaped (enc := enc) (C := Tryd.checked) (os := os) (X := fun w _ => laidMetH Tryd.prog Rows.numTextsRow.laid w) false (World.doorLaid Tryd.prog 400 os) #[.int .u64 0] 8 rfl (World.shaped_of_RefB (by kernel_rfl) (by kernel_rfl)) (by kernel_rfl) (by kernel_rfl) (by kernel_rfl) (door_met os _)) ?_
  intro W base args ds before hg0 hL
  have hg : Lift.Given enc Tryd.prog Tryd.f3.params.toList W base args.toList ds before := hg0
  rw [Tryd.params3] at hg
  obtain ⟨b, vs1, ds1, q1, e1, -, hb, g1⟩ := hg.int Tryd.underlying22
  obtain ⟨rfl, -⟩ := g1.nil
  obtain rfl := Lift.args_of e1
  exact texts_yes b W hb (tab_of hL (.tail _ (.head _)) (by kernel_rfl)) (err_of hL (.tail _ (.tail _ (.tail _ (.tail _ (.head _))))) (by kernel_rfl))

theorem numTexts_row : Rows.NumTextsSaid :=
  OpenClaim.holds_of_wide 3 Tryd.f3 rfl rfl rfl rfl rfl rfl rfl ⟨rfl, rfl, rfl, rfl, rfl⟩ rfl rfl rfl rfl rfl (by kernel_rfl) Tryd.func3 (by kernel_rfl)
    (of_decide_eq_true (by kernel_rfl)) (by unfold Func.isWrapper; first | (rw [if_pos (by decide +kernel)]; kernel_rfl) | (rw [if_neg (by decide +kernel)]; exact ⟨rfl, rfl⟩))
    (fun os started H enc _ => numTexts_lifted os started H enc)

theorem numTexts_holds : Rows.NumTextsCardSaid :=
  Claim7.holds_tied_plain_at .later [] _ _ _ _
    numTexts_row (fun _ h => by cases h) (by kernel_rfl) (fun _ h => by cases h) numTexts_row_tie rfl ⟨rfl, rfl⟩ (by kernel_rfl) rfl
    (fun f fn hf hfn => by
      obtain rfl : f = 3 := Option.some.inj ((show Tryd.prog.funcNamed Rows.numTextsRow.func = some 3 by kernel_rfl).symm.trans hf) |>.symm
      obtain rfl : fn = Tryd.f3 := (Option.some.inj (Tryd.func3.symm.trans hfn)).symm
      exact ⟨by kernel_rfl, fun j t ht => Lift.no_stand_ins (fn := Tryd.f3) (by kernel_rfl) j t ht⟩)
    (by kernel_rfl)

end Go.Proofs.YtldlckhkgofgdaaDoor
