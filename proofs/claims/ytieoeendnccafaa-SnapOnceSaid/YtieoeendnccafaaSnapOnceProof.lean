/- The statement SnapOnce, proved for every input that the form speaks of. No condition but those named. -/
import Derived.Test.YtieoeendnccafaaNTK
import Derived.Test.YtieoeendnccafaaNBJ
import Derived.Test.YtieoeendnccafaaNAD
set_option linter.unusedSimpArgs false
set_option linter.unusedVariables false
set_option maxRecDepth 100000
set_option maxHeartbeats 25600000
namespace Go.Proofs.Ytieoeendnccafaa
section
open Go.ChangeShapes Go.WideShapes Go.ChangeAt Go.RowKit
theorem own:ownKnob Try.prog.godebug=none:=by kernel_rfl
theorem laidOut:laidOutB Try.prog=true:=by kernel_rfl
theorem snapOnce_lifted(os:Os)(started:os.Started)(H:Type)(enc:TypeId×Value→H):
  ReturnsInHanded {} Try.checked os 3 .any (Rows.snapOnceSpec.pre6 enc Try.prog Try.f3 Rows.snapOnceRow.domain false) (Rows.snapOnceSpec.post enc Try.prog Try.f3 false true false false):=by
 refine Lift.law (C:=Try.checked) own started (by kernel_rfl) Try.func3 laidOut (Lift.fits1 fun _ _=>rfl) rfl rfl Try.underlying4 (by kernel_rfl)
  (ChangeSpec.witness6 (enc:=enc) (C:=Try.checked) false ⟨#[],#[.string ByteArray.empty],[]⟩ 8 (by kernel_rfl) (by kernel_rfl) (by kernel_rfl) (by kernel_rfl)) ?_
 intro W base args ds before hg0
 have hg:Lift.Given enc Try.prog Try.f3.params.toList W base args.toList ds before:=hg0
 rw[Try.params3] at hg
 obtain⟨s,vs1,ds1,q1,e1,ed1,hs_s,g1⟩:=hg.str Try.underlying9
 subst ed1
 obtain⟨rfl,edl⟩:=g1.nil
 obtain rfl:=Lift.args_of e1
 exact snonce_yes s W hs_s
theorem snapOnce_holds:Rows.SnapOnceSaid:=
 OpenClaim.holds_of_wide 3 Try.f3 rfl rfl rfl rfl rfl rfl rfl ⟨rfl,rfl,rfl,rfl,rfl⟩ rfl rfl rfl rfl rfl (by kernel_rfl) Try.func3 (by kernel_rfl)
  (of_decide_eq_true (by kernel_rfl)) (by unfold Func.isWrapper;first|(rw[if_pos (by decide +kernel)];kernel_rfl)|(rw[if_neg (by decide +kernel)];exact⟨rfl,rfl⟩))
  (fun os started H enc _=>snapOnce_lifted os started H enc)
end
end Go.Proofs.Ytieoeendnccafaa
