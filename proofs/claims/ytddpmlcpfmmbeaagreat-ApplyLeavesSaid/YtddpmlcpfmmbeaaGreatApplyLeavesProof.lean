/- The statement ApplyLeaves, proved for every input that the form speaks of. No condition but those named. -/
import Derived.Test.YtddpmlcpfmmbeaaGreatTk
import Derived.Test.YtddpmlcpfmmbeaaGreatKBV
import Derived.Test.YtddpmlcpfmmbeaaGreatKAC
set_option linter.unusedSimpArgs false
set_option linter.unusedVariables false
set_option maxRecDepth 100000
set_option maxHeartbeats 25600000
namespace Go.Proofs.YtddpmlcpfmmbeaaGreat
section
open Go.ChangeShapes Go.WideShapes Go.ChangeAt Go.RowKit
theorem own:ownKnob Tryz.prog.godebug=none:=by kernel_rfl
theorem laidOut:laidOutB Tryz.prog=true:=by kernel_rfl
theorem applyLeaves_lifted(os:Os)(started:os.Started)(H:Type)(enc:TypeId×Value→H):
  ReturnsInHanded {} Tryz.checked os 7 .any (Rows.applyLeavesSpec.pre6 enc Tryz.prog Tryz.f7 Rows.applyLeavesRow.domain false) (Rows.applyLeavesSpec.post enc Tryz.prog Tryz.f7 false true false false):=by
 refine Lift.law (C:=Tryz.checked) own started (by kernel_rfl) Tryz.func7 laidOut (Lift.fits3 fun _ _ _ _=>rfl) rfl rfl Tryz.underlying4 (by kernel_rfl)
  (ChangeSpec.witness6 (enc:=enc) (C:=Tryz.checked) false ⟨#[],#[.agg (stA 0 none 0 0 tz),.int .i64 0,.int .u8 0],[]⟩ 8 (by kernel_rfl) (by kernel_rfl) (by kernel_rfl) (by kernel_rfl)) ?_
 intro W base args ds before hg0
 have hg:Lift.Given enc Tryz.prog Tryz.f7.params.toList W base args.toList ds before:=hg0
 rw[Tryz.params7] at hg
 obtain⟨n,A,c,l,t,vs1,dd1,ds1,q1,e1,ed1,hn,ho,hf,g1⟩:=hg.state
 subst ed1
 obtain⟨c1,vs2,ds2,q2,e2,ed2,hw_c1,g2⟩:=g1.int Tryz.underlying3
 subst e2
 subst ed2
 obtain⟨kv,vs3,ds3,q3,e3,ed3,hw_kv,g3⟩:=g2.int Tryz.underlying5
 subst e3
 subst ed3
 obtain⟨rfl,edl⟩:=g3.nil
 obtain rfl:=Lift.args_of e1
 exact apleaves_any n A l.length c t l c1 kv W ho hf hn.2 (by have:=bounds_u8 hw_kv;omega)
theorem applyLeaves_holds:Rows.ApplyLeavesSaid:=
 OpenClaim.holds_of_wide 7 Tryz.f7 rfl rfl rfl rfl rfl rfl rfl ⟨rfl,rfl,rfl,rfl,rfl⟩ rfl rfl rfl rfl rfl (by kernel_rfl) Tryz.func7 (by kernel_rfl)
  (of_decide_eq_true (by kernel_rfl)) (by unfold Func.isWrapper;first|(rw[if_pos (by decide +kernel)];kernel_rfl)|(rw[if_neg (by decide +kernel)];exact⟨rfl,rfl⟩))
  (fun os started H enc _=>applyLeaves_lifted os started H enc)
end
end Go.Proofs.YtddpmlcpfmmbeaaGreat
