/-
  The statement CmdItems, where what it reads is of the bulk that the second form names.
  No condition beyond the form's own.
-/
import Derived.Test.YtcofjaeljglodaaCmdItemsL
import Derived.Test.YtcofjaeljglodaaLift
import Derived.Test.YtcofjaeljglodaaLEv
import Derived.JoinedCond
namespace Go.Proofs.Ytcofjaeljglodaa
open Go.ChangeShapes Go.WideShapes Go.ChangeAt Go.RowKit

theorem own : ownKnob Try.prog.godebug = none := by kernel_rfl
theorem laidOut : laidOutB Try.prog = true := by kernel_rfl

set_option maxRecDepth 100000 in
theorem cmdItems_lifted (os : Os) (started : os.Started) (H : Type) (enc : TypeId × Value → H) (F : Stop.Interp) :
    ReturnsInHanded {} Try.checked os 6 .any ((Rows.OpenSpec.upto Rows.cmdItemsSpec).pre6 enc Try.prog Try.f6 Rows.cmdItemsUptoRow.domain false) (((Rows.OpenSpec.upto Rows.cmdItemsSpec).at F).post enc Try.prog Try.f6 false true false false) := by
  refine Lift.lawUpto (C := Try.checked) (k := Rows.uptoSmall) F own started (by kernel_rfl) Try.func6 laidOut (Lift.fits3 fun _ _ _ _ => rfl) rfl rfl Try.underlying4 (by kernel_rfl)
    (OpenSpec.witness (enc := enc) (C := Try.checked) (s := Rows.OpenSpec.upto Rows.cmdItemsSpec) (k := Rows.uptoSmall) rfl false ⟨#[], #[.agg #[.int .i64 0, .int .i64 0, .int .i64 0, .int .i64 0, .string ByteArray.empty, .string ByteArray.empty, .int .i64 0, .int .i64 0, .int .u64 0, .string ByteArray.empty, .int .i64 0, .int .i64 0, .int .u64 0, .string ByteArray.empty, .int .i64 0, .int .i64 0], .slice none 0 0, .slice none 0 0], []⟩ 8 (by kernel_rfl) (by kernel_rfl) (by kernel_rfl)
      (x := ([.agg [.agg [.lit (.int .i64 0), .lit (.int .i64 0), .lit (.int .i64 0)], .agg [.lit (.int .i64 0), .lit (.string []), .lit (.string []), .agg [.lit (.int .i64 0), .lit (.int .i64 0), .lit (.int .u64 0), .lit (.string [])], .agg [.lit (.int .i64 0), .lit (.int .i64 0), .lit (.int .u64 0), .lit (.string [])], .lit (.int .i64 0), .lit (.int .i64 0)]], .nil, .nil], [], [])) (by kernel_rfl) rfl (by kernel_rfl)) ?_
  intro W base args ds before hg0 hk
  have hg : Lift.Given enc Try.prog Try.f6.params.toList W base args.toList ds before := hg0
  rw [Try.params6] at hg
  obtain ⟨x, vs1, dd1, ds1, q1, e1, ed1, hx, g1⟩ := hg.ev
  subst ed1
  obtain ⟨A, ca, la, vs2, dd2, ds2, q2, e2, ed2, hi, hA, hw, hs, hl, hc, g2⟩ := g1.items
  subst e2
  subst ed2
  obtain ⟨B, cb, lb, vs3, dd3, ds3, q3, e3, ed3, hj, hB, hv, ht, hm, hd, g3⟩ := g2.items
  subst e3
  subst ed3
  obtain ⟨rfl, edl⟩ := g3.nil
  obtain rfl := Lift.args_of e1
  subst edl
  have hk : Rows.uptoBulkAll _ ≤ 1048576 := of_decide_eq_true hk
  simp only [Rows.uptoBulkAll] at hk
  exact items_yes x A B ca cb la lb W hx hi hA hj hB (by omega) (by omega)

theorem cmdItemsUpto_holds : Rows.CmdItemsUptoSaid :=
  OpenClaim.holds_of_cond 6 Try.f6 rfl rfl rfl rfl rfl rfl rfl ⟨rfl, rfl, rfl, rfl, rfl⟩ rfl rfl rfl rfl rfl (by kernel_rfl) Try.func6 (by kernel_rfl)
    (of_decide_eq_true (by kernel_rfl)) (by unfold Func.isWrapper; first | (rw [if_pos (by decide +kernel)]; kernel_rfl) | (rw [if_neg (by decide +kernel)]; exact ⟨rfl, rfl⟩))
    (fun os started H enc _ F => cmdItems_lifted os started H enc F)

end Go.Proofs.Ytcofjaeljglodaa
