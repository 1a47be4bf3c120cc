/-
  The statement LoadWhole, proved for every input that the form speaks of.
  No condition beyond the form's own.
-/
import Derived.Test.YtfboneehnmbklaaLdWhoL
import Derived.Test.YtfboneehnmbklaaLift

namespace Go.Proofs.Ytfboneehnmbklaa
open Go.ChangeShapes Go.WideShapes Go.ChangeAt Go.RowKit

theorem own : ownKnob Try.prog.godebug = none := by kernel_rfl
theorem laidOut : laidOutB Try.prog = true := by kernel_rfl

set_option maxRecDepth 100000 in
theorem loadWhole_lifted (os : Os) (started : os.Started) (H : Type) (enc : TypeId × Value → H) :
    ReturnsInHanded {} Try.checked os 6 .any (Rows.loadWholeSpec.pre6 enc Try.prog Try.f6 Rows.loadWholeRow.domain false) (Rows.loadWholeSpec.post enc Try.prog Try.f6 false true false false) := by
  refine Lift.law (C := Try.checked) own started (by kernel_rfl) Try.func6 laidOut (Lift.fits3 fun _ _ _ _ => rfl) rfl rfl Try.underlying4 (by kernel_rfl)
    (ChangeSpec.witness6 (enc := enc) (C := Try.checked) false ⟨#[], #[.int .i64 0, .string ByteArray.empty, .slice none 0 0], []⟩ 8 (by kernel_rfl) (by kernel_rfl) (by kernel_rfl) (by kernel_rfl)) ?_
  intro W base args ds before hg0
  have hg : Lift.Given enc Try.prog Try.f6.params.toList W base args.toList ds before := hg0
  rw [Try.params6] at hg
  obtain ⟨view, vs1, ds1, q1, e1, ed1, hw_view, g1⟩ := hg.int Try.underlying3
  subst ed1
  obtain ⟨s, vs2, ds2, q2, e2, ed2, hs_s, g2⟩ := g1.str Try.underlying9
  subst e2
  subst ed2
  obtain ⟨A, c, l, vs3, dd3, ds3, q3, e3, ed3, hl, g3⟩ := g2.ints
  subst e3
  subst ed3
  obtain ⟨rfl, edl⟩ := g3.nil
  obtain rfl := Lift.args_of e1
  exact lwholes_any view s A l.length c l W hs_s hl

theorem loadWhole_holds : Rows.LoadWholeSaid :=
  OpenClaim.holds_of_wide 6 Try.f6 rfl rfl rfl rfl rfl rfl rfl ⟨rfl, rfl, rfl, rfl, rfl⟩ rfl rfl rfl rfl rfl (by kernel_rfl) Try.func6 (by kernel_rfl)
    (of_decide_eq_true (by kernel_rfl)) (by unfold Func.isWrapper; first | (rw [if_pos (by decide +kernel)]; kernel_rfl) | (rw [if_neg (by decide +kernel)]; exact ⟨rfl, rfl⟩))
    (fun os started H enc _ => loadWhole_lifted os started H enc)

end Go.Proofs.Ytfboneehnmbklaa
