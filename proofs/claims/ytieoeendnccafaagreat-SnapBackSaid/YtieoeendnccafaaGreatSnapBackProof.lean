/- The statement SnapBack, proved for every input that the form speaks of. No condition but those named. -/
import Derived.Test.YtieoeendnccafaaGreatMTK
import Derived.Test.YtieoeendnccafaaGreatMBO
import Derived.Test.YtieoeendnccafaaGreatMAD
set_option linter.unusedSimpArgs false
set_option linter.unusedVariables false
set_option maxRecDepth 100000
set_option maxHeartbeats 25600000
namespace Go.Proofs.YtieoeendnccafaaGreat
section
open Go.ChangeShapes Go.WideShapes Go.ChangeAt Go.RowKit
theorem own:ownKnob Tryz.prog.godebug=none:=by kernel_rfl
theorem laidOut:laidOutB Tryz.prog=true:=by kernel_rfl
theorem snapBack_lifted(os:Os)(started:os.Started)(H:Type)(enc:TypeId×Value→H):
  ReturnsInHanded {} Tryz.checked os 7 .any (Rows.snapBackSpec.pre6 enc Tryz.prog Tryz.f7 Rows.snapBackRow.domain false) (Rows.snapBackSpec.post enc Tryz.prog Tryz.f7 false true false false):=by
 refine Lift.law (C:=Tryz.checked) own started (by kernel_rfl) Tryz.func7 laidOut (Lift.fits1 fun _ _=>rfl) rfl rfl Tryz.underlying4 (by kernel_rfl)
  (ChangeSpec.witness6 (enc:=enc) (C:=Tryz.checked) false ⟨#[],#[.agg (stA 0 none 0 0 tz)],[]⟩ 8 (by kernel_rfl) (by kernel_rfl) (by kernel_rfl) (by kernel_rfl)) ?_
 intro W base args ds before hg0
 have hg:Lift.Given enc Tryz.prog Tryz.f7.params.toList W base args.toList ds before:=hg0
 rw[Tryz.params7] at hg
 obtain⟨n,A,c,l,t,vs1,dd1,ds1,q1,e1,ed1,hn,ho,hf,hi,g1⟩:=hg.stateF
 subst ed1
 obtain⟨rfl,edl⟩:=g1.nil
 obtain rfl:=Lift.args_of e1
 exact snback_any n A l.length c t l W ho hf hi
theorem snapBack_holds:Rows.SnapBackSaid:=
 OpenClaim.holds_of_wide 7 Tryz.f7 rfl rfl rfl rfl rfl rfl rfl ⟨rfl,rfl,rfl,rfl,rfl⟩ rfl rfl rfl rfl rfl (by kernel_rfl) Tryz.func7 (by kernel_rfl)
  (of_decide_eq_true (by kernel_rfl)) (by unfold Func.isWrapper;first|(rw[if_pos (by decide +kernel)];kernel_rfl)|(rw[if_neg (by decide +kernel)];exact⟨rfl,rfl⟩))
  (fun os started H enc _=>snapBack_lifted os started H enc)
end
end Go.Proofs.YtieoeendnccafaaGreat
