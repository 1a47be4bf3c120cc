/-
  The statement StoreTells, proved for every input that the form speaks of.
  No condition beyond the form's own.
-/
import Derived.Test.YtpkodjllljnleaaStoTellsL
import Derived.Test.YtpkodjllljnleaaMQ
namespace Go.Proofs.Ytpkodjllljnleaa
open Go.ChangeShapes Go.WideShapes Go.ChangeAt Go.RowKit

theorem own : ownKnob Try.prog.godebug = none := by kernel_rfl
theorem laidOut : laidOutB Try.prog = true := by kernel_rfl

set_option maxRecDepth 100000 in
theorem storeTells_lifted (os : Os) (started : os.Started) (H : Type) (enc : TypeId × Value → H) :
    ReturnsInHanded {} Try.checked os 3 .any (Rows.storeTellsSpec.pre6 enc Try.prog Try.f3 Rows.storeTellsRow.domain false) (Rows.storeTellsSpec.post enc Try.prog Try.f3 false true false false) := by
  refine Lift.law (C := Try.checked) own started (by kernel_rfl) Try.func3 laidOut (Lift.fits2 fun _ _ _ => rfl) rfl rfl Try.underlying4 (by kernel_rfl)
    (ChangeSpec.witness6 (enc := enc) (C := Try.checked) false ⟨#[], #[.slice none 0 0, .agg #[.int .i64 0, .int .i64 0, .int .i64 0, .int .u64 0, .string ByteArray.empty]], []⟩ 8 (by kernel_rfl) (by kernel_rfl) (by kernel_rfl) (by kernel_rfl)) ?_
  intro W base args ds before hg0
  have hg : Lift.Given enc Try.prog Try.f3.params.toList W base args.toList ds before := hg0
  rw [Try.params3] at hg
  obtain ⟨A, c, l, vs1, dd1, ds1, q1, e1, ed1, hS, g1⟩ := hg.objs
  subst ed1
  obtain ⟨p, vs2, dd2, ds2, q2, e2, ed2, hf, g2⟩ := g1.reply
  subst e2
  subst ed2
  obtain ⟨rfl, edl⟩ := g2.nil
  obtain rfl := Lift.args_of e1
  exact tells_yes A c l.length l p W hS hf

theorem storeTells_holds : Rows.StoreTellsSaid :=
  OpenClaim.holds_of_wide 3 Try.f3 rfl rfl rfl rfl rfl rfl rfl ⟨rfl, rfl, rfl, rfl, rfl⟩ rfl rfl rfl rfl rfl (by kernel_rfl) Try.func3 (by kernel_rfl)
    (of_decide_eq_true (by kernel_rfl)) (by unfold Func.isWrapper; first | (rw [if_pos (by decide +kernel)]; kernel_rfl) | (rw [if_neg (by decide +kernel)]; exact ⟨rfl, rfl⟩))
    (fun os started H enc _ => storeTells_lifted os started H enc)

end Go.Proofs.Ytpkodjllljnleaa
