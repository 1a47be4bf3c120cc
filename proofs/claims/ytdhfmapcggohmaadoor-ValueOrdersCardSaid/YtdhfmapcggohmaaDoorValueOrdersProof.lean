/-
  The statement ValueOrders, proved for every input that the form speaks of: the row, and its card that ties the listed variables to the program's text.
  No condition beyond the form's own.
-/
import Derived.Test.YtdhfmapcggohmaaDoorValOrd
import Derived.Test.YtdhfmapcggohmaaDoorValOpen
import Derived.Test.YtdhfmapcggohmaaDoorValLaid
import Derived.Test.YtdhfmapcggohmaaDoorCards
import Derived.Test.YtdhfmapcggohmaaDoorTie
namespace Go.Proofs.YtdhfmapcggohmaaDoor
open Go.ChangeShapes Go.WideShapes Go.ChangeAt Go.RowKit

theorem door_met (os : Os) (args : Array Value) : laidMetH Tryd.prog Rows.valueOrdersRow.laid ((World.doorLaid Tryd.prog 400 os).forCall (fun _ _ => 0) ⟨#[], args, []⟩).memory :=
  laidMetH_of_parts3 (fuel := 8) (laidMet_of_run' 8 (by kernel_rfl) (by kernel_rfl)) (by kernel_rfl) (by kernel_rfl)

set_option maxRecDepth 100000 in
theorem valueOrders_lifted (os : Os) (started : os.Started) (H : Type) (enc : TypeId × Value → H) :
    ReturnsInHanded {} Tryd.checked os 4 .any (fun w args => (Rows.valueOrdersSpec.pre enc Tryd.prog Tryd.f4 [] false w args ∧ laidMetH Tryd.prog Rows.valueOrdersRow.laid w) ∧ sizedMet enc Tryd.prog Tryd.f4 (OpenSpec.ofChange Rows.valueOrdersSpec) false w args)
      (Rows.valueOrdersSpec.post enc Tryd.prog Tryd.f4 false true false false) := by
  refine Lift.lawLaid (C := Tryd.checked) own started (by kernel_rfl) Tryd.func4 laidOut (Lift.fits3 fun _ _ _ _ => rfl) rfl rfl Tryd.underlying4 (by kernel_rfl) (by kernel_rfl)
    (ChangeSpec.witness_shaped (enc := enc) (C := Tryd.checked) (os := os) (X := fun w _ => laidMetH Tryd.prog Rows.valueOrdersRow.laid w) false (World.doorLaid Tryd.prog 400 os) #[.agg #[.int .i64 0, .int .i64 0, .int .u64 0, .string ByteArray.empty], .agg #[.int .i64 0, .int .i64 0, .int .u64 0, .string ByteArray.empty], .agg #[.int .i64 0, .int .i64 0, .int .u64 0, .string ByteArray.empty]] 8 rfl (World.shaped_of_RefB (by kernel_rfl) (by kernel_rfl)) (by kernel_rfl) (by kernel_rfl) (by kernel_rfl) (door_met os _)) ?_
  intro W base args ds before hg0 hL
  have hg : Lift.Given enc Tryd.prog Tryd.f4.params.toList W base args.toList ds before := hg0
  rw [Tryd.params4] at hg
  obtain ⟨a, vs1, dd1, ds1, q1, e1, ed1, _, ha, _, _, g1⟩ := hg.value
  subst ed1
  obtain ⟨b, vs2, dd2, ds2, q2, e2, ed2, _, hb, _, _, g2⟩ := g1.value
  subst e2
  subst ed2
  obtain ⟨c, vs3, dd3, ds3, q3, e3, ed3, _, hc, _, _, g3⟩ := g2.value
  subst e3
  subst ed3
  obtain ⟨rfl, edl⟩ := g3.nil
  obtain rfl := Lift.args_of e1
  exact orders_yes a b c W ha hb hc (tab_of hL (.tail _ (.head _)) (by kernel_rfl)) (err_of hL (.tail _ (.tail _ (.tail _ (.tail _ (.head _))))) (by kernel_rfl))

theorem valueOrders_row : Rows.ValueOrdersSaid :=
  OpenClaim.holds_of_wide 4 Tryd.f4 rfl rfl rfl rfl rfl rfl rfl ⟨rfl, rfl, rfl, rfl, rfl⟩ rfl rfl rfl rfl rfl (by kernel_rfl) Tryd.func4 (by kernel_rfl)
    (of_decide_eq_true (by kernel_rfl)) (by unfold Func.isWrapper; first | (rw [if_pos (by decide +kernel)]; kernel_rfl) | (rw [if_neg (by decide +kernel)]; exact ⟨rfl, rfl⟩))
    (fun os started H enc _ => valueOrders_lifted os started H enc)

theorem valueOrders_holds : Rows.ValueOrdersCardSaid :=
  Claim7.holds_tied_plain_at .later [] _ _ _ _
    valueOrders_row (fun _ h => by cases h) (by kernel_rfl) (fun _ h => by cases h) valueOrders_row_tie rfl ⟨rfl, rfl⟩ (by kernel_rfl) rfl
    (fun f fn hf hfn => by
      obtain rfl : f = 4 := Option.some.inj ((show Tryd.prog.funcNamed Rows.valueOrdersRow.func = some 4 by kernel_rfl).symm.trans hf) |>.symm
      obtain rfl : fn = Tryd.f4 := (Option.some.inj (Tryd.func4.symm.trans hfn)).symm
      exact ⟨by kernel_rfl, fun j t ht => Lift.no_stand_ins (fn := Tryd.f4) (by kernel_rfl) j t ht⟩)
    (by kernel_rfl)

end Go.Proofs.YtdhfmapcggohmaaDoor
