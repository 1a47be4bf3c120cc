/- The statement ApplyDoes, proved for every input that the form speaks of. No condition but those named. -/
import Derived.Test.YtieoeendnccafaaGreatNBM
set_option linter.unusedSimpArgs false
set_option linter.unusedVariables false
set_option maxRecDepth 100000
set_option maxHeartbeats 25600000
open Go.RowKit
namespace Go.Proofs.YtieoeendnccafaaGreat
open _root_.Go.Proofs.Tryz
section
open Go.ChangeShapes Go.WideShapes Go.ChangeAt Go.RowKit
theorem own:ownKnob prog.godebug=none:=by kernel_rfl
theorem laidOut:laidOutB prog=true:=by kernel_rfl
theorem yA(os:Os)(started:os.Started)(H:Type)(enc:TypeId×Value→H):
  ReturnsInHanded {} checked os 3 .any (Rows.applyDoesSpec.pre6 enc prog f3 Rows.applyDoesRow.domain false) (Rows.applyDoesSpec.post enc prog f3 false true false false):=by
 refine Lift.law (C:=checked) own started (by kernel_rfl) func3 laidOut (Lift.afN fun _ _ _=>rfl) rfl rfl underlying4 (by kernel_rfl)
  (ChangeSpec.witness6 (enc:=enc) (C:=checked) false ⟨#[],#[.agg (stA 0 none 0 0 tz),.agg #[.int .i64 0,.int .i64 0,.int .i64 0,.int .i64 0,.string ByteArray.empty,.string ByteArray.empty,.int .i64 0,.int .i64 0,.int .u64 0,.string ByteArray.empty,.int .i64 0,.int .i64 0,.int .u64 0,.string ByteArray.empty,.int .i64 0,.int .i64 0]],[]⟩ 8 (by kernel_rfl) (by kernel_rfl) (by kernel_rfl) (by kernel_rfl)) ?_
 intro W base args ds before hg0;have hg:Lift.Given enc prog f3.params.toList W base args.toList ds before:=hg0;rw[params3] at hg;obtain⟨n,A,c,l,t,vs1,dd1,ds1,q1,e1,ed1,hn,ho,hf,g1⟩:=hg.state;subst ed1;obtain⟨e,vs2,dd2,ds2,q2,e2,ed2,he,g2⟩:=g1.evb;subst e2;subst ed2;obtain⟨rfl,edl⟩:=g2.nil;obtain rfl:=Lift.NI e1;exact Lm n A l.length c t l e W ho hf he hn.2
theorem applyDoes_holds:Rows.ApplyDoesSaid:=
 OpenClaim.holds_of_wide 3 f3 rfl rfl rfl rfl rfl rfl rfl ⟨rfl,rfl,rfl,rfl,rfl⟩ rfl rfl rfl rfl rfl (by kernel_rfl) func3 (by kernel_rfl)
  (of_decide_eq_true (by kernel_rfl)) (by unfold Func.isWrapper;first|(rw[if_pos (by decide +kernel)];kernel_rfl)|(rw[if_neg (by decide +kernel)];exact⟨rfl,rfl⟩))
  (fun os started H enc _=>yA os started H enc)
end
end Go.Proofs.YtieoeendnccafaaGreat
