/-
  The statement WireCuts, proved for every input that the form speaks of.
  No condition beyond the form's own.
-/
import Derived.Test.YtllgcfbecioceaaWireLaws3
import Derived.Test.YtllgcfbecioceaaLift

namespace Go.Proofs.Ytllgcfbecioceaa
open Go.ChangeShapes Go.WideShapes Go.ChangeAt Go.RowKit

theorem own : ownKnob Try.prog.godebug = none := by kernel_rfl
theorem laidOut : laidOutB Try.prog = true := by kernel_rfl

set_option maxRecDepth 100000 in
theorem wireCuts_lifted (os : Os) (started : os.Started) (H : Type) (enc : TypeId × Value → H) :
    ReturnsInHanded {} Try.checked os 8 .any (Rows.wireCutsSpec.pre6 enc Try.prog Try.f8 Rows.wireCutsRow.domain false) (Rows.wireCutsSpec.post enc Try.prog Try.f8 false true false false) := by
  refine Lift.law (C := Try.checked) own started (by kernel_rfl) Try.func8 laidOut (Lift.fits2 fun _ _ _ => rfl) rfl rfl Try.underlying4 (by kernel_rfl)
    (ChangeSpec.witness6 (enc := enc) (C := Try.checked) false ⟨#[], #[.slice none 0 0, .int .i64 0], []⟩ 8 (by kernel_rfl) (by kernel_rfl) (by kernel_rfl) (by kernel_rfl)) ?_
  intro W base args ds before hg0
  have hg : Lift.Given enc Try.prog Try.f8.params.toList W base args.toList ds before := hg0
  rw [Try.params8] at hg
  obtain ⟨A, c, l, vs1, dd1, ds1, q1, e1, ed1, hi, _, hw, hs, hl, _, hc, g1⟩ := hg.items
  subst ed1
  obtain ⟨n, vs2, ds2, q2, e2, ed2, hw_n, g2⟩ := g1.int Try.underlying3
  subst e2
  subst ed2
  obtain ⟨rfl, edl⟩ := g2.nil
  obtain rfl := Lift.args_of e1
  exact cuts_yes A c l n W hi hw hs hl hc hw_n

theorem wireCuts_holds : Rows.WireCutsSaid :=
  OpenClaim.holds_of_wide 8 Try.f8 rfl rfl rfl rfl rfl rfl rfl ⟨rfl, rfl, rfl, rfl, rfl⟩ rfl rfl rfl rfl rfl (by kernel_rfl) Try.func8 (by kernel_rfl)
    (of_decide_eq_true (by kernel_rfl)) (by unfold Func.isWrapper; first | (rw [if_pos (by decide +kernel)]; kernel_rfl) | (rw [if_neg (by decide +kernel)]; exact ⟨rfl, rfl⟩))
    (fun os started H enc _ => wireCuts_lifted os started H enc)

end Go.Proofs.Ytllgcfbecioceaa
