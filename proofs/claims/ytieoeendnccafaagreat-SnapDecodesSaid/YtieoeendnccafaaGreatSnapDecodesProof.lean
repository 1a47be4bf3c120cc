/- The statement SnapDecodes, proved for every input that the form speaks of. No condition but those named. -/
import Derived.Test.YtieoeendnccafaaGreatMTK
import Derived.Test.YtieoeendnccafaaGreatMBO
import Derived.Test.YtieoeendnccafaaGreatMAD
set_option linter.unusedSimpArgs false
set_option linter.unusedVariables false
set_option maxRecDepth 100000
set_option maxHeartbeats 25600000
namespace Go.Proofs.YtieoeendnccafaaGreat
section
open Go.ChangeShapes Go.WideShapes Go.ChangeAt Go.RowKit
theorem own:ownKnob Tryz.prog.godebug=none:=by kernel_rfl
theorem laidOut:laidOutB Tryz.prog=true:=by kernel_rfl
theorem snapDecodes_lifted(os:Os)(started:os.Started)(H:Type)(enc:TypeId×Value→H):
  ReturnsInHanded {} Tryz.checked os 6 .any (Rows.snapDecodesSpec.pre6 enc Tryz.prog Tryz.f6 Rows.snapDecodesRow.domain false) (Rows.snapDecodesSpec.post enc Tryz.prog Tryz.f6 false true false false):=by
 refine Lift.law (C:=Tryz.checked) own started (by kernel_rfl) Tryz.func6 laidOut (Lift.fits1 fun _ _=>rfl) rfl rfl Tryz.underlying4 (by kernel_rfl)
  (ChangeSpec.witness6 (enc:=enc) (C:=Tryz.checked) false ⟨#[],#[.string ByteArray.empty],[]⟩ 8 (by kernel_rfl) (by kernel_rfl) (by kernel_rfl) (by kernel_rfl)) ?_
 intro W base args ds before hg0
 have hg:Lift.Given enc Tryz.prog Tryz.f6.params.toList W base args.toList ds before:=hg0
 rw[Tryz.params6] at hg
 obtain⟨s,vs1,ds1,q1,e1,ed1,hs_s,g1⟩:=hg.str Tryz.underlying9
 subst ed1
 obtain⟨rfl,edl⟩:=g1.nil
 obtain rfl:=Lift.args_of e1
 exact sndecodes_yes s W hs_s
theorem snapDecodes_holds:Rows.SnapDecodesSaid:=
 OpenClaim.holds_of_wide 6 Tryz.f6 rfl rfl rfl rfl rfl rfl rfl ⟨rfl,rfl,rfl,rfl,rfl⟩ rfl rfl rfl rfl rfl (by kernel_rfl) Tryz.func6 (by kernel_rfl)
  (of_decide_eq_true (by kernel_rfl)) (by unfold Func.isWrapper;first|(rw[if_pos (by decide +kernel)];kernel_rfl)|(rw[if_neg (by decide +kernel)];exact⟨rfl,rfl⟩))
  (fun os started H enc _=>snapDecodes_lifted os started H enc)
end
end Go.Proofs.YtieoeendnccafaaGreat
