/-
  The statement ValueItems, where what it reads is of the bulk that the second form names: the row, and its card that ties the listed variables to the program's text.
  No condition beyond the form's own.
-/
import Derived.Test.YtdhfmapcggohmaaDoorValLaws4
import Derived.Test.YtdhfmapcggohmaaDoorValOpen
import Derived.Test.YtdhfmapcggohmaaDoorValLaid
import Derived.Test.YtdhfmapcggohmaaDoorCards
import Derived.Test.YtdhfmapcggohmaaDoorTie
import Derived.Test.YtdhfmapcggohmaaDoorLaidUpto
namespace Go.Proofs.YtdhfmapcggohmaaDoor
open Go.ChangeShapes Go.WideShapes Go.ChangeAt Go.RowKit

theorem door_met (os : Os) (args : Array Value) : laidMetH Tryd.prog Rows.valueItemsUptoRow.laid ((World.doorLaid Tryd.prog 400 os).forCall (fun _ _ => 0) ⟨#[], args, []⟩).memory :=
  laidMetH_of_parts3 (fuel := 8) (laidMet_of_run' 8 (by kernel_rfl) (by kernel_rfl)) (by kernel_rfl) (by kernel_rfl)

set_option maxRecDepth 100000 in
theorem valueItems_lifted (os : Os) (started : os.Started) (H : Type) (enc : TypeId × Value → H) (F : Stop.Interp) :
    ReturnsInHanded {} Tryd.checked os 5 .any ((Rows.OpenSpec.upto Rows.valueItemsSpec).preRow enc Tryd.prog Tryd.f5 Rows.valueItemsUptoRow.domain false Rows.valueItemsUptoRow.laid) (((Rows.OpenSpec.upto Rows.valueItemsSpec).at F).post enc Tryd.prog Tryd.f5 false true false false) := by
  refine Lift.lawLaidUpto (C := Tryd.checked) (k := Rows.uptoSmall) F own started (by kernel_rfl) Tryd.func5 laidOut (Lift.fits3 fun _ _ _ _ => rfl) rfl rfl Tryd.underlying4 (by kernel_rfl) (by kernel_rfl)
    (Lift.witness_laid (enc := enc) (C := Tryd.checked) (os := os) (s := Rows.OpenSpec.upto Rows.valueItemsSpec) (k := Rows.uptoSmall) rfl (World.doorLaid Tryd.prog 400 os) #[.agg #[.int .i64 0, .int .i64 0, .int .u64 0, .string ByteArray.empty], .slice none 0 0, .slice none 0 0] 8 rfl (World.shaped_of_RefB (by kernel_rfl) (by kernel_rfl)) (by kernel_rfl)
      (x := ([.agg [.lit (.int .i64 0), .lit (.int .i64 0), .lit (.int .u64 0), .lit (.string [])], .nil, .nil], [], [])) (by kernel_rfl) rfl (by kernel_rfl) (by kernel_rfl) (door_met os _)) ?_
  intro W base args ds before hg0 hk hL
  have hg : Lift.Given enc Tryd.prog Tryd.f5.params.toList W base args.toList ds before := hg0
  rw [Tryd.params5] at hg
  obtain ⟨v, vs1, dd1, ds1, q1, e1, ed1, _, hf, _, _, g1⟩ := hg.value
  subst ed1
  obtain ⟨A, c, l, vs2, dd2, ds2, q2, e2, ed2, hi, hA, _, _, hbl, _, g2⟩ := g1.items
  subst e2
  subst ed2
  obtain ⟨B, d, m, vs3, dd3, ds3, q3, e3, ed3, hj, hB, _, _, hbm, _, g3⟩ := g2.items
  subst e3
  subst ed3
  obtain ⟨rfl, edl⟩ := g3.nil
  obtain rfl := Lift.args_of e1
  subst edl
  have hk : Rows.uptoBulkAll _ ≤ 1048576 := of_decide_eq_true hk
  simp only [Rows.uptoBulkAll] at hk
  exact items_yes v A B c d l m W hf hi hj hA hB (by omega) (by omega) (tab_of hL (.tail _ (.head _)) (by kernel_rfl)) (err_of hL (.tail _ (.tail _ (.tail _ (.tail _ (.head _))))) (by kernel_rfl))

theorem valueItemsUpto_row : Rows.ValueItemsUptoSaid :=
  OpenClaim.holds_of_cond 5 Tryd.f5 rfl rfl rfl rfl rfl rfl rfl ⟨rfl, rfl, rfl, rfl, rfl⟩ rfl rfl rfl rfl rfl (by kernel_rfl) Tryd.func5 (by kernel_rfl)
    (of_decide_eq_true (by kernel_rfl)) (by unfold Func.isWrapper; first | (rw [if_pos (by decide +kernel)]; kernel_rfl) | (rw [if_neg (by decide +kernel)]; exact ⟨rfl, rfl⟩))
    (fun os started H enc _ F => valueItems_lifted os started H enc F)

theorem valueItemsUpto_holds : Rows.ValueItemsUptoCardSaid :=
  Claim7.holds_tied_plain_at .later [] _ _ _ _
    valueItemsUpto_row (fun _ h => by cases h) (by kernel_rfl) (fun _ h => by cases h) valueItemsUpto_row_tie rfl ⟨rfl, rfl⟩ (by kernel_rfl) rfl
    (fun f fn hf hfn => by
      obtain rfl : f = 5 := Option.some.inj ((show Tryd.prog.funcNamed Rows.valueItemsUptoRow.func = some 5 by kernel_rfl).symm.trans hf) |>.symm
      obtain rfl : fn = Tryd.f5 := (Option.some.inj (Tryd.func5.symm.trans hfn)).symm
      exact ⟨by kernel_rfl, fun j t ht => Lift.no_stand_ins (fn := Tryd.f5) (by kernel_rfl) j t ht⟩)
    (by kernel_rfl)

end Go.Proofs.YtdhfmapcggohmaaDoor
