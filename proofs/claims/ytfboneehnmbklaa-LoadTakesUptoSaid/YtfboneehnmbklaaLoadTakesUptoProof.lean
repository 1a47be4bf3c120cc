/-
  The statement LoadTakes, where what it reads is of the bulk that the second form names.
  No condition beyond the form's own.
-/
import Derived.Test.YtfboneehnmbklaaLdTakesL
import Derived.Test.YtfboneehnmbklaaLLd
import Derived.Test.YtfboneehnmbklaaLift
import Derived.JoinedCond
namespace Go.Proofs.Ytfboneehnmbklaa
open Go.ChangeShapes Go.WideShapes Go.ChangeAt Go.RowKit

theorem own : ownKnob Try.prog.godebug = none := by kernel_rfl
theorem laidOut : laidOutB Try.prog = true := by kernel_rfl

set_option maxRecDepth 100000 in
theorem loadTakes_lifted (os : Os) (started : os.Started) (H : Type) (enc : TypeId × Value → H) (F : Stop.Interp) :
    ReturnsInHanded {} Try.checked os 4 .any ((Rows.OpenSpec.upto Rows.loadTakesSpec).pre6 enc Try.prog Try.f4 Rows.loadTakesUptoRow.domain false) (((Rows.OpenSpec.upto Rows.loadTakesSpec).at F).post enc Try.prog Try.f4 false true false false) := by
  refine Lift.lawUpto (C := Try.checked) (k := Rows.uptoSmall) F own started (by kernel_rfl) Try.func4 laidOut (Lift.fits2 fun _ _ _ => rfl) rfl rfl Try.underlying4 (by kernel_rfl)
    (OpenSpec.witness (enc := enc) (C := Try.checked) (s := Rows.OpenSpec.upto Rows.loadTakesSpec) (k := Rows.uptoSmall) rfl false ⟨#[], #[.agg (ldC 0 0 0 (.slice none 0 0) (.slice none 0 0)), .agg (pcC 0 0 0 0 ⟨#[]⟩)], []⟩ 8 (by kernel_rfl) (by kernel_rfl) (by kernel_rfl)
      (x := ([.agg [.lit (.int .i64 0), .lit (.int .i64 0), .lit (.int .u32 0), .nil, .nil], .agg [.lit (.int .i64 0), .lit (.int .i64 0), .lit (.int .i64 0), .lit (.int .u32 0), .lit (.string [])]], [], [])) (by kernel_rfl) rfl (by kernel_rfl)) ?_
  intro W base args ds before hg0 hk
  have hg : Lift.Given enc Try.prog Try.f4.params.toList W base args.toList ds before := hg0
  rw [Try.params4] at hg
  obtain ⟨x, A, c, A2, c2, vs1, dd1, ds1, q1, e1, ed1, hh, hd, hB, g1⟩ := hg.load
  subst ed1
  obtain ⟨p, vs2, dd2, ds2, q2, e2, ed2, hp, g2⟩ := g1.piece
  subst e2
  subst ed2
  obtain ⟨rfl, edl⟩ := g2.nil
  obtain rfl := Lift.args_of e1
  subst edl
  have hk : Rows.uptoBulkAll _ ≤ 1048576 := of_decide_eq_true hk
  simp only [Rows.uptoBulkAll] at hk
  exact ltakes_any x p A x.h.length c A2 x.d.length c2 W hh hd hp (Nat.le_trans (cat_bound x.d 1048576 (fun s hs => Nat.le_trans (hB.2 s hs) (by omega))) (by have := hB.1; omega))

theorem loadTakesUpto_holds : Rows.LoadTakesUptoSaid :=
  OpenClaim.holds_of_cond 4 Try.f4 rfl rfl rfl rfl rfl rfl rfl ⟨rfl, rfl, rfl, rfl, rfl⟩ rfl rfl rfl rfl rfl (by kernel_rfl) Try.func4 (by kernel_rfl)
    (of_decide_eq_true (by kernel_rfl)) (by unfold Func.isWrapper; first | (rw [if_pos (by decide +kernel)]; kernel_rfl) | (rw [if_neg (by decide +kernel)]; exact ⟨rfl, rfl⟩))
    (fun os started H enc _ F => loadTakes_lifted os started H enc F)

end Go.Proofs.Ytfboneehnmbklaa
