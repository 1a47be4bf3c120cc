/-
  The statement CmdLists, where what it reads is of the bulk that the second form names.
  No condition beyond the form's own.
-/
import Derived.Test.YtcofjaeljglodaaCmdListsL
import Derived.Test.YtcofjaeljglodaaLift
import Derived.Test.YtcofjaeljglodaaLEv
import Derived.JoinedCond
namespace Go.Proofs.Ytcofjaeljglodaa
open Go.ChangeShapes Go.WideShapes Go.ChangeAt Go.RowKit

theorem own : ownKnob Try.prog.godebug = none := by kernel_rfl
theorem laidOut : laidOutB Try.prog = true := by kernel_rfl

set_option maxRecDepth 100000 in
theorem cmdLists_lifted (os : Os) (started : os.Started) (H : Type) (enc : TypeId × Value → H) (F : Stop.Interp) :
    ReturnsInHanded {} Try.checked os 7 .any ((Rows.OpenSpec.upto Rows.cmdListsSpec).pre6 enc Try.prog Try.f7 Rows.cmdListsUptoRow.domain false) (((Rows.OpenSpec.upto Rows.cmdListsSpec).at F).post enc Try.prog Try.f7 false true false false) := by
  refine Lift.lawUpto (C := Try.checked) (k := Rows.uptoSmall) F own started (by kernel_rfl) Try.func7 laidOut (Lift.fits1 fun _ _ => rfl) rfl rfl Try.underlying4 (by kernel_rfl)
    (OpenSpec.witness (enc := enc) (C := Try.checked) (s := Rows.OpenSpec.upto Rows.cmdListsSpec) (k := Rows.uptoSmall) rfl false ⟨#[], #[.slice none 0 0], []⟩ 8 (by kernel_rfl) (by kernel_rfl) (by kernel_rfl)
      (x := ([.nil], [], [])) (by kernel_rfl) rfl (by kernel_rfl)) ?_
  intro W base args ds before hg0 hk
  have hg : Lift.Given enc Try.prog Try.f7.params.toList W base args.toList ds before := hg0
  rw [Try.params7] at hg
  obtain ⟨A, c, l, vs1, dd1, ds1, q1, e1, ed1, hi, hA, hall, hb, hc, g1⟩ := hg.evs
  subst ed1
  obtain ⟨rfl, edl⟩ := g1.nil
  obtain rfl := Lift.args_of e1
  subst edl
  have hk : Rows.uptoBulkAll _ ≤ 1048576 := of_decide_eq_true hk
  simp only [Rows.uptoBulkAll] at hk
  exact lists_yes A c l W (by omega) hi hall

theorem cmdListsUpto_holds : Rows.CmdListsUptoSaid :=
  OpenClaim.holds_of_cond 7 Try.f7 rfl rfl rfl rfl rfl rfl rfl ⟨rfl, rfl, rfl, rfl, rfl⟩ rfl rfl rfl rfl rfl (by kernel_rfl) Try.func7 (by kernel_rfl)
    (of_decide_eq_true (by kernel_rfl)) (by unfold Func.isWrapper; first | (rw [if_pos (by decide +kernel)]; kernel_rfl) | (rw [if_neg (by decide +kernel)]; exact ⟨rfl, rfl⟩))
    (fun os started H enc _ F => cmdLists_lifted os started H enc F)

end Go.Proofs.Ytcofjaeljglodaa
