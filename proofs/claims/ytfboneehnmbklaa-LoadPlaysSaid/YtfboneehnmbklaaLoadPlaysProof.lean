/-
  The statement LoadPlays, proved for every input that the form speaks of.
  No condition beyond the form's own.
-/
import Derived.Test.YtfboneehnmbklaaLdPlaysL
import Derived.Test.YtfboneehnmbklaaLift

namespace Go.Proofs.Ytfboneehnmbklaa
open Go.ChangeShapes Go.WideShapes Go.ChangeAt Go.RowKit

theorem own : ownKnob Try.prog.godebug = none := by kernel_rfl
theorem laidOut : laidOutB Try.prog = true := by kernel_rfl

set_option maxRecDepth 100000 in
theorem loadPlays_lifted (os : Os) (started : os.Started) (H : Type) (enc : TypeId × Value → H) :
    ReturnsInHanded {} Try.checked os 5 .any (Rows.loadPlaysSpec.pre6 enc Try.prog Try.f5 Rows.loadPlaysRow.domain false) (Rows.loadPlaysSpec.post enc Try.prog Try.f5 false true false false) := by
  refine Lift.law (C := Try.checked) own started (by kernel_rfl) Try.func5 laidOut (Lift.fits2 fun _ _ _ => rfl) rfl rfl Try.underlying4 (by kernel_rfl)
    (ChangeSpec.witness6 (enc := enc) (C := Try.checked) false ⟨#[], #[.int .i64 0, .slice none 0 0], []⟩ 8 (by kernel_rfl) (by kernel_rfl) (by kernel_rfl) (by kernel_rfl)) ?_
  intro W base args ds before hg0
  have hg : Lift.Given enc Try.prog Try.f5.params.toList W base args.toList ds before := hg0
  rw [Try.params5] at hg
  obtain ⟨view, vs1, ds1, q1, e1, ed1, hw_view, g1⟩ := hg.int Try.underlying3
  subst ed1
  obtain ⟨A, c, l, vs2, dd2, ds2, q2, e2, ed2, hl, g2⟩ := g1.pieces
  subst e2
  subst ed2
  obtain ⟨rfl, edl⟩ := g2.nil
  obtain rfl := Lift.args_of e1
  exact lplays_any view A l.length c l W hl

theorem loadPlays_holds : Rows.LoadPlaysSaid :=
  OpenClaim.holds_of_wide 5 Try.f5 rfl rfl rfl rfl rfl rfl rfl ⟨rfl, rfl, rfl, rfl, rfl⟩ rfl rfl rfl rfl rfl (by kernel_rfl) Try.func5 (by kernel_rfl)
    (of_decide_eq_true (by kernel_rfl)) (by unfold Func.isWrapper; first | (rw [if_pos (by decide +kernel)]; kernel_rfl) | (rw [if_neg (by decide +kernel)]; exact ⟨rfl, rfl⟩))
    (fun os started H enc _ => loadPlays_lifted os started H enc)

end Go.Proofs.Ytfboneehnmbklaa
