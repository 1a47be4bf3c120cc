/- The statement ApplyPlays, proved for every input that the form speaks of. No condition but those named. -/
import Derived.Test.YtieoeendnccafaaGreatNBN
set_option linter.unusedSimpArgs false
set_option linter.unusedVariables false
set_option maxRecDepth 100000
set_option maxHeartbeats 25600000
open Go.RowKit
namespace Go.Proofs.YtieoeendnccafaaGreat
open _root_.Go.Proofs.Tryz
section
open Go.ChangeShapes Go.WideShapes Go.ChangeAt Go.RowKit
theorem own:ownKnob prog.godebug=none:=by kernel_rfl
theorem laidOut:laidOutB prog=true:=by kernel_rfl
theorem xu(os:Os)(started:os.Started)(H:Type)(enc:TypeId×Value→H):
  ReturnsInHanded {} checked os 4 .any (Rows.applyPlaysSpec.pre6 enc prog f4 Rows.applyPlaysRow.domain false) (Rows.applyPlaysSpec.post enc prog f4 false true false false):=by
 refine Lift.law (C:=checked) own started (by kernel_rfl) func4 laidOut (Lift.afO fun _ _=>rfl) rfl rfl underlying4 (by kernel_rfl)
  (ChangeSpec.witness6 (enc:=enc) (C:=checked) false ⟨#[],#[.slice none 0 0],[]⟩ 8 (by kernel_rfl) (by kernel_rfl) (by kernel_rfl) (by kernel_rfl)) ?_
 intro W base args ds before hg0;have hg:Lift.Given enc prog f4.params.toList W base args.toList ds before:=hg0;rw[params4] at hg;obtain⟨A,c,l,vs1,dd1,ds1,q1,e1,ed1,hs,g1⟩:=hg.ahE;subst ed1;obtain⟨rfl,edl⟩:=g1.nil;obtain rfl:=Lift.NI e1;exact Ja A c l.length l W hs
theorem applyPlays_holds:Rows.ApplyPlaysSaid:=
 OpenClaim.holds_of_wide 4 f4 rfl rfl rfl rfl rfl rfl rfl ⟨rfl,rfl,rfl,rfl,rfl⟩ rfl rfl rfl rfl rfl (by kernel_rfl) func4 (by kernel_rfl)
  (of_decide_eq_true (by kernel_rfl)) (by unfold Func.isWrapper;first|(rw[if_pos (by decide +kernel)];kernel_rfl)|(rw[if_neg (by decide +kernel)];exact⟨rfl,rfl⟩))
  (fun os started H enc _=>xu os started H enc)
end
end Go.Proofs.YtieoeendnccafaaGreat
