/-
  The statement LoadSpoilt, proved for every input that the form speaks of.
  No condition beyond the form's own.
-/
import Derived.Test.YtfboneehnmbklaaLdSpoL
import Derived.Test.YtfboneehnmbklaaLift

namespace Go.Proofs.Ytfboneehnmbklaa
open Go.ChangeShapes Go.WideShapes Go.ChangeAt Go.RowKit

theorem own : ownKnob Try.prog.godebug = none := by kernel_rfl
theorem laidOut : laidOutB Try.prog = true := by kernel_rfl

set_option maxRecDepth 100000 in
theorem loadSpoilt_lifted (os : Os) (started : os.Started) (H : Type) (enc : TypeId × Value → H) :
    ReturnsInHanded {} Try.checked os 7 .any (Rows.loadSpoiltSpec.pre6 enc Try.prog Try.f7 Rows.loadSpoiltRow.domain false) (Rows.loadSpoiltSpec.post enc Try.prog Try.f7 false true false false) := by
  refine Lift.law (C := Try.checked) own started (by kernel_rfl) Try.func7 laidOut (Lift.fits3 fun _ _ _ _ => rfl) rfl rfl Try.underlying4 (by kernel_rfl)
    (ChangeSpec.witness6 (enc := enc) (C := Try.checked) false ⟨#[], #[.string ByteArray.empty, .int .i64 0, .int .u32 0], []⟩ 8 (by kernel_rfl) (by kernel_rfl) (by kernel_rfl) (by kernel_rfl)) ?_
  intro W base args ds before hg0
  have hg : Lift.Given enc Try.prog Try.f7.params.toList W base args.toList ds before := hg0
  rw [Try.params7] at hg
  obtain ⟨s, vs1, ds1, q1, e1, ed1, hs_s, g1⟩ := hg.str Try.underlying9
  subst ed1
  obtain ⟨at_, vs2, ds2, q2, e2, ed2, hw_at_, g2⟩ := g1.int Try.underlying3
  subst e2
  subst ed2
  obtain ⟨turn, vs3, ds3, q3, e3, ed3, hw_turn, g3⟩ := g2.int Try.underlying22
  subst e3
  subst ed3
  obtain ⟨rfl, edl⟩ := g3.nil
  obtain rfl := Lift.args_of e1
  exact (by obtain ⟨u, rfl, _⟩ := u32_nat hw_turn; exact lspoilts_any s at_ u W hs_s)

theorem loadSpoilt_holds : Rows.LoadSpoiltSaid :=
  OpenClaim.holds_of_wide 7 Try.f7 rfl rfl rfl rfl rfl rfl rfl ⟨rfl, rfl, rfl, rfl, rfl⟩ rfl rfl rfl rfl rfl (by kernel_rfl) Try.func7 (by kernel_rfl)
    (of_decide_eq_true (by kernel_rfl)) (by unfold Func.isWrapper; first | (rw [if_pos (by decide +kernel)]; kernel_rfl) | (rw [if_neg (by decide +kernel)]; exact ⟨rfl, rfl⟩))
    (fun os started H enc _ => loadSpoilt_lifted os started H enc)

end Go.Proofs.Ytfboneehnmbklaa
