/- The statement ApplyRefused, proved for every input that the form speaks of. No condition but those named. -/
import Derived.Test.YtddpmlcpfmmbeaaGreatTk
import Derived.Test.YtddpmlcpfmmbeaaGreatKBT
import Derived.Test.YtddpmlcpfmmbeaaGreatKAC
set_option linter.unusedSimpArgs false
set_option linter.unusedVariables false
set_option maxRecDepth 100000
set_option maxHeartbeats 25600000
namespace Go.Proofs.YtddpmlcpfmmbeaaGreat
section
open Go.ChangeShapes Go.WideShapes Go.ChangeAt Go.RowKit
theorem own:ownKnob Tryz.prog.godebug=none:=by kernel_rfl
theorem laidOut:laidOutB Tryz.prog=true:=by kernel_rfl
theorem applyRefused_lifted(os:Os)(started:os.Started)(H:Type)(enc:TypeId×Value→H):
  ReturnsInHanded {} Tryz.checked os 6 .any (Rows.applyRefusedSpec.pre6 enc Tryz.prog Tryz.f6 Rows.applyRefusedRow.domain false) (Rows.applyRefusedSpec.post enc Tryz.prog Tryz.f6 false true false false):=by
 refine Lift.law (C:=Tryz.checked) own started (by kernel_rfl) Tryz.func6 laidOut (Lift.fits2 fun _ _ _=>rfl) rfl rfl Tryz.underlying4 (by kernel_rfl)
  (ChangeSpec.witness6 (enc:=enc) (C:=Tryz.checked) false ⟨#[],#[.agg (stA 0 none 0 0 tz),.agg #[.int .i64 0,.int .i64 0,.int .i64 0,.int .i64 0,.string ByteArray.empty,.string ByteArray.empty,.int .i64 0,.int .i64 0,.int .u64 0,.string ByteArray.empty,.int .i64 0,.int .i64 0,.int .u64 0,.string ByteArray.empty,.int .i64 0,.int .i64 0]],[]⟩ 8 (by kernel_rfl) (by kernel_rfl) (by kernel_rfl) (by kernel_rfl)) ?_
 intro W base args ds before hg0
 have hg:Lift.Given enc Tryz.prog Tryz.f6.params.toList W base args.toList ds before:=hg0
 rw[Tryz.params6] at hg
 obtain⟨n,A,c,l,t,vs1,dd1,ds1,q1,e1,ed1,hn,ho,hf,g1⟩:=hg.state
 subst ed1
 obtain⟨e,vs2,dd2,ds2,q2,e2,ed2,he,g2⟩:=g1.evb
 subst e2
 subst ed2
 obtain⟨rfl,edl⟩:=g2.nil
 obtain rfl:=Lift.args_of e1
 exact aprefused_any n A l.length c t l e W ho hf he hn.2
theorem applyRefused_holds:Rows.ApplyRefusedSaid:=
 OpenClaim.holds_of_wide 6 Tryz.f6 rfl rfl rfl rfl rfl rfl rfl ⟨rfl,rfl,rfl,rfl,rfl⟩ rfl rfl rfl rfl rfl (by kernel_rfl) Tryz.func6 (by kernel_rfl)
  (of_decide_eq_true (by kernel_rfl)) (by unfold Func.isWrapper;first|(rw[if_pos (by decide +kernel)];kernel_rfl)|(rw[if_neg (by decide +kernel)];exact⟨rfl,rfl⟩))
  (fun os started H enc _=>applyRefused_lifted os started H enc)
end
end Go.Proofs.YtddpmlcpfmmbeaaGreat
