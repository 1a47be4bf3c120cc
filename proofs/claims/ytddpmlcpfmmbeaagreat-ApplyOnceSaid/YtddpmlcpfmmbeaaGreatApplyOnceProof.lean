/- The statement ApplyOnce, proved for every input that the form speaks of. No condition but those named. -/
import Derived.Test.YtddpmlcpfmmbeaaGreatTk
import Derived.Test.YtddpmlcpfmmbeaaGreatKBU
import Derived.Test.YtddpmlcpfmmbeaaGreatKAC
set_option linter.unusedSimpArgs false
set_option linter.unusedVariables false
set_option maxRecDepth 100000
set_option maxHeartbeats 25600000
namespace Go.Proofs.YtddpmlcpfmmbeaaGreat
section
open Go.ChangeShapes Go.WideShapes Go.ChangeAt Go.RowKit
theorem own:ownKnob Tryz.prog.godebug=none:=by kernel_rfl
theorem laidOut:laidOutB Tryz.prog=true:=by kernel_rfl
theorem applyOnce_lifted(os:Os)(started:os.Started)(H:Type)(enc:TypeId×Value→H):
  ReturnsInHanded {} Tryz.checked os 8 .any (Rows.applyOnceSpec.pre6 enc Tryz.prog Tryz.f8 Rows.applyOnceRow.domain false) (Rows.applyOnceSpec.post enc Tryz.prog Tryz.f8 false true false false):=by
 refine Lift.law (C:=Tryz.checked) own started (by kernel_rfl) Tryz.func8 laidOut (Lift.fits1 fun _ _=>rfl) rfl rfl Tryz.underlying4 (by kernel_rfl)
  (ChangeSpec.witness6 (enc:=enc) (C:=Tryz.checked) false ⟨#[],#[.slice none 0 0],[]⟩ 8 (by kernel_rfl) (by kernel_rfl) (by kernel_rfl) (by kernel_rfl)) ?_
 intro W base args ds before hg0
 have hg:Lift.Given enc Tryz.prog Tryz.f8.params.toList W base args.toList ds before:=hg0
 rw[Tryz.params8] at hg
 obtain⟨A,c,l,vs1,dd1,ds1,q1,e1,ed1,hs,g1⟩:=hg.evsb
 subst ed1
 obtain⟨rfl,edl⟩:=g1.nil
 obtain rfl:=Lift.args_of e1
 exact aponce_any A c l.length l W hs
theorem applyOnce_holds:Rows.ApplyOnceSaid:=
 OpenClaim.holds_of_wide 8 Tryz.f8 rfl rfl rfl rfl rfl rfl rfl ⟨rfl,rfl,rfl,rfl,rfl⟩ rfl rfl rfl rfl rfl (by kernel_rfl) Tryz.func8 (by kernel_rfl)
  (of_decide_eq_true (by kernel_rfl)) (by unfold Func.isWrapper;first|(rw[if_pos (by decide +kernel)];kernel_rfl)|(rw[if_neg (by decide +kernel)];exact⟨rfl,rfl⟩))
  (fun os started H enc _=>applyOnce_lifted os started H enc)
end
end Go.Proofs.YtddpmlcpfmmbeaaGreat
