/-
  The statement LinkItems, proved for every input that the form speaks of.
  No condition beyond the form's own.
-/
import Derived.Test.YtamjcghdebjpjaaLnkItemsL
import Derived.Test.YtamjcghdebjpjaaLift
import Derived.Test.YtamjcghdebjpjaaLPkt

namespace Go.Proofs.Ytamjcghdebjpjaa
open Go.ChangeShapes Go.WideShapes Go.ChangeAt Go.RowKit

theorem own : ownKnob Try.prog.godebug = none := by kernel_rfl
theorem laidOut : laidOutB Try.prog = true := by kernel_rfl

set_option maxRecDepth 100000 in
theorem linkItems_lifted (os : Os) (started : os.Started) (H : Type) (enc : TypeId × Value → H) :
    ReturnsInHanded {} Try.checked os 7 .any (Rows.linkItemsSpec.pre6 enc Try.prog Try.f7 Rows.linkItemsRow.domain false) (Rows.linkItemsSpec.post enc Try.prog Try.f7 false true false false) := by
  refine Lift.law (C := Try.checked) own started (by kernel_rfl) Try.func7 laidOut (Lift.fits1 fun _ _ => rfl) rfl rfl Try.underlying4 (by kernel_rfl)
    (ChangeSpec.witness6 (enc := enc) (C := Try.checked) false ⟨#[], #[.agg #[.int .i64 0, .int .i64 0, .int .i64 0, .int .i64 0, .int .i64 0, .int .i64 0, .string ByteArray.empty]], []⟩ 8 (by kernel_rfl) (by kernel_rfl) (by kernel_rfl) (by kernel_rfl)) ?_
  intro W base args ds before hg0
  have hg : Lift.Given enc Try.prog Try.f7.params.toList W base args.toList ds before := hg0
  rw [Try.params7] at hg
  obtain ⟨x, vs1, dd1, ds1, q1, e1, ed1, hx, g1⟩ := hg.lpk
  subst ed1
  obtain ⟨rfl, edl⟩ := g1.nil
  obtain rfl := Lift.args_of e1
  exact items_yes ⟨x.f.s, x.f.c, x.t.s, x.t.c, x.q, x.a, x.b⟩ W

theorem linkItems_holds : Rows.LinkItemsSaid :=
  OpenClaim.holds_of_wide 7 Try.f7 rfl rfl rfl rfl rfl rfl rfl ⟨rfl, rfl, rfl, rfl, rfl⟩ rfl rfl rfl rfl rfl (by kernel_rfl) Try.func7 (by kernel_rfl)
    (of_decide_eq_true (by kernel_rfl)) (by unfold Func.isWrapper; first | (rw [if_pos (by decide +kernel)]; kernel_rfl) | (rw [if_neg (by decide +kernel)]; exact ⟨rfl, rfl⟩))
    (fun os started H enc _ => linkItems_lifted os started H enc)

end Go.Proofs.Ytamjcghdebjpjaa
