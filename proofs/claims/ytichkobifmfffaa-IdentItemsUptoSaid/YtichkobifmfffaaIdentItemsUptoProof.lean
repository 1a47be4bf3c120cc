/-
  The statement IdentItems, where what it reads is of the bulk that the second form names.
  No condition beyond the form's own.
-/
import Derived.Test.YtichkobifmfffaaNodeItemsL
import Derived.Test.YtichkobifmfffaaLift
import Derived.JoinedCond
namespace Go.Proofs.Ytichkobifmfffaa
open Go.ChangeShapes Go.WideShapes Go.ChangeAt Go.RowKit

theorem own : ownKnob Try.prog.godebug = none := by kernel_rfl
theorem laidOut : laidOutB Try.prog = true := by kernel_rfl

set_option maxRecDepth 100000 in
theorem identItems_lifted (os : Os) (started : os.Started) (H : Type) (enc : TypeId × Value → H) (F : Stop.Interp) :
    ReturnsInHanded {} Try.checked os 8 .any ((Rows.OpenSpec.upto Rows.identItemsSpec).pre6 enc Try.prog Try.f8 Rows.identItemsUptoRow.domain false) (((Rows.OpenSpec.upto Rows.identItemsSpec).at F).post enc Try.prog Try.f8 false true false false) := by
  refine Lift.lawUpto (C := Try.checked) (k := Rows.uptoSmall) F own started (by kernel_rfl) Try.func8 laidOut (Lift.fits3 fun _ _ _ _ => rfl) rfl rfl Try.underlying4 (by kernel_rfl)
    (OpenSpec.witness (enc := enc) (C := Try.checked) (s := Rows.OpenSpec.upto Rows.identItemsSpec) (k := Rows.uptoSmall) rfl false ⟨#[], #[.slice none 0 0, .slice none 0 0, .slice none 0 0], []⟩ 8 (by kernel_rfl) (by kernel_rfl) (by kernel_rfl)
      (x := ([.nil, .nil, .nil], [], [])) (by kernel_rfl) rfl (by kernel_rfl)) ?_
  intro W base args ds before hg0 hk
  have hg : Lift.Given enc Try.prog Try.f8.params.toList W base args.toList ds before := hg0
  rw [Try.params8] at hg
  obtain ⟨A, c, l, vs1, dd1, ds1, q1, e1, ed1, hi, hA, hw, hl, hb, hc, g1⟩ := hg.nodes
  subst ed1
  obtain ⟨B, d, p, vs2, dd2, ds2, q2, e2, ed2, hj, hB, hv, hp, hbb, hd, g2⟩ := g1.items
  subst e2
  subst ed2
  obtain ⟨C, e, q, vs3, dd3, ds3, q3, e3, ed3, hkk, hC, hu, hq, hbq, he, g3⟩ := g2.items
  subst e3
  subst ed3
  obtain ⟨rfl, edl⟩ := g3.nil
  obtain rfl := Lift.args_of e1
  subst edl
  have hk : Rows.uptoBulkAll _ ≤ 1048576 := of_decide_eq_true hk
  simp only [Rows.uptoBulkAll] at hk
  exact itemsl_yes A B C c d e l p q W (by omega) (by omega) (by omega) hi hj hkk hB hC

theorem identItemsUpto_holds : Rows.IdentItemsUptoSaid :=
  OpenClaim.holds_of_cond 8 Try.f8 rfl rfl rfl rfl rfl rfl rfl ⟨rfl, rfl, rfl, rfl, rfl⟩ rfl rfl rfl rfl rfl (by kernel_rfl) Try.func8 (by kernel_rfl)
    (of_decide_eq_true (by kernel_rfl)) (by unfold Func.isWrapper; first | (rw [if_pos (by decide +kernel)]; kernel_rfl) | (rw [if_neg (by decide +kernel)]; exact ⟨rfl, rfl⟩))
    (fun os started H enc _ F => identItems_lifted os started H enc F)

end Go.Proofs.Ytichkobifmfffaa
