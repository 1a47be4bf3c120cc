/-
  The statement LinkPlays, proved for every input that the form speaks of.
  No condition beyond the form's own.
-/
import Derived.Test.YtamjcghdebjpjaaLnkPlaysL
import Derived.Test.YtamjcghdebjpjaaLift
import Derived.Test.YtamjcghdebjpjaaLOp
import Derived.Test.YtamjcghdebjpjaaI64

namespace Go.Proofs.Ytamjcghdebjpjaa
open Go.ChangeShapes Go.WideShapes Go.ChangeAt Go.RowKit

theorem own : ownKnob Try.prog.godebug = none := by kernel_rfl
theorem laidOut : laidOutB Try.prog = true := by kernel_rfl

set_option maxRecDepth 100000 in
theorem linkPlays_lifted (os : Os) (started : os.Started) (H : Type) (enc : TypeId × Value → H) :
    ReturnsInHanded {} Try.checked os 3 .any (Rows.linkPlaysSpec.pre6 enc Try.prog Try.f3 Rows.linkPlaysRow.domain false) (Rows.linkPlaysSpec.post enc Try.prog Try.f3 false true false false) := by
  refine Lift.law (C := Try.checked) own started (by kernel_rfl) Try.func3 laidOut (Lift.fits3 fun _ _ _ _ => rfl) rfl rfl Try.underlying4 (by kernel_rfl)
    (ChangeSpec.witness6 (enc := enc) (C := Try.checked) false ⟨#[], #[.agg #[.int .i64 0, .int .i64 0], .int .i64 0, .slice none 0 0], []⟩ 8 (by kernel_rfl) (by kernel_rfl) (by kernel_rfl) (by kernel_rfl)) ?_
  intro W base args ds before hg0
  have hg : Lift.Given enc Try.prog Try.f3.params.toList W base args.toList ds before := hg0
  rw [Try.params3] at hg
  obtain ⟨x, vs1, dd1, ds1, q1, e1, ed1, hx, g1⟩ := hg.nod
  subst ed1
  obtain ⟨n, vs2, ds2, q2, e2, ed2, hw_n, g2⟩ := g1.int Try.underlying3
  subst e2
  subst ed2
  obtain ⟨A, c, l, vs3, dd3, ds3, q3, e3, ed3, hi, hA, hw, hl, hb, hc, g3⟩ := g2.lops
  subst e3
  subst ed3
  obtain ⟨rfl, edl⟩ := g3.nil
  obtain rfl := Lift.args_of e1
  exact plays_yes x.s x.c n A c l W (by have := reach_is; omega) hi (fun y hy => ⟨i64_wf (hw y hy).2.2.2.2.2.2.2.1, i64_wf (hw y hy).2.2.2.2.2.2.1⟩)

theorem linkPlays_holds : Rows.LinkPlaysSaid :=
  OpenClaim.holds_of_wide 3 Try.f3 rfl rfl rfl rfl rfl rfl rfl ⟨rfl, rfl, rfl, rfl, rfl⟩ rfl rfl rfl rfl rfl (by kernel_rfl) Try.func3 (by kernel_rfl)
    (of_decide_eq_true (by kernel_rfl)) (by unfold Func.isWrapper; first | (rw [if_pos (by decide +kernel)]; kernel_rfl) | (rw [if_neg (by decide +kernel)]; exact ⟨rfl, rfl⟩))
    (fun os started H enc _ => linkPlays_lifted os started H enc)

end Go.Proofs.Ytamjcghdebjpjaa
