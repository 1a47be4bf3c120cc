/- The statement SnapGoes, proved for every input that the form speaks of. No condition but those named. -/
import Derived.Test.YtahdlddbbnjloaaGreatNBM
set_option linter.unusedSimpArgs false
set_option linter.unusedVariables false
set_option maxRecDepth 100000
set_option maxHeartbeats 25600000
open Go.RowKit
namespace Go.Proofs.YtahdlddbbnjloaaGreat
open _root_.Go.Proofs.Tryz
section
open Go.ChangeShapes Go.WideShapes Go.ChangeAt Go.RowKit
theorem own:ownKnob prog.godebug=none:=by kernel_rfl
theorem laidOut:laidOutB prog=true:=by kernel_rfl
theorem yU(os:Os)(started:os.Started)(H:Type)(enc:TypeId×Value→H):
  ReturnsInHanded {} checked os 3 .any (Rows.snapGoesSpec.pre6 enc prog _root_.Go.Proofs.Tryz.f3 Rows.snapGoesRow.domain false) (Rows.snapGoesSpec.post enc prog _root_.Go.Proofs.Tryz.f3 false true false false):=by
 refine Lift.law (C:=checked) own started (by kernel_rfl) func3 laidOut (Lift.ajj fun _ _ _=>rfl) rfl rfl underlying4 (by kernel_rfl)
  (ChangeSpec.witness6 (enc:=enc) (C:=checked) false ⟨#[],#[.agg (stA 0 none 0 0 tz),.slice none 0 0],[]⟩ 8 (by kernel_rfl) (by kernel_rfl) (by kernel_rfl) (by kernel_rfl)) ?_
 intro W base args ds before hg0;have hg:Lift.Given enc prog _root_.Go.Proofs.Tryz.f3.params.toList W base args.toList ds before:=hg0;rw[params3] at hg;obtain⟨n,A,c,l,t,vs1,dd1,ds1,q1,e1,ed1,hn,ho,hf,hi,g1⟩:=hg.aeC;subst ed1;obtain⟨A2,c2,l2,vs2,dd2,ds2,q2,e2,ed2,hs2,g2⟩:=g1.alv;subst e2;subst ed2;obtain⟨rfl,edl⟩:=g2.nil;obtain rfl:=Lift.abM e1;exact Kq n A l.length c t l A2 c2 l2.length l2 W ho hf hi hs2
theorem snapGoes_holds:Rows.SnapGoesSaid:=
 OpenClaim.holds_of_wide 3 _root_.Go.Proofs.Tryz.f3 rfl rfl rfl rfl rfl rfl rfl ⟨rfl,rfl,rfl,rfl,rfl⟩ rfl rfl rfl rfl rfl (by kernel_rfl) func3 (by kernel_rfl)
  (of_decide_eq_true (by kernel_rfl)) (by unfold Func.isWrapper;first|(rw[if_pos (by decide +kernel)];kernel_rfl)|(rw[if_neg (by decide +kernel)];exact⟨rfl,rfl⟩))
  (fun os started H enc _=>yU os started H enc)
end
end Go.Proofs.YtahdlddbbnjloaaGreat
