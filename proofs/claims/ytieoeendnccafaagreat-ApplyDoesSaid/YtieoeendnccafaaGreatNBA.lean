/- What the document's Same tells of states that are alike; what the law's own tells. No condition but those named. -/
import Derived.Test.YtieoeendnccafaaGreatNAZ
set_option linter.unusedSimpArgs false
set_option linter.unusedVariables false
set_option maxRecDepth 100000
set_option maxHeartbeats 25600000
open Go.RowKit
namespace Go.Proofs.YtieoeendnccafaaGreat
open _root_.Go.Proofs.Tryz
section
theorem XT(A B:Option Addr)(c n d m:Nat)(a b:List Oh)(w:World)(hs:bY w A n c a)(ht:bY w B m d b)(h:vs a=vs b):
  Calls prog 44 #[.slice A n c,.slice B m d] w (cZ true w):=by
 have h2:=Pp A B c n d m a b w hs ht;rw[decide_eq_true h] at h2;exact h2
theorem BI(n:Int)(A B:Option Addr)(k c m d:Nat)(t:aH.T)(a b:List Oh)(w:World)(hs:bY w A k c a)(ht:bY w B m d b)(h:vs a=vs b):
  Calls prog 15 #[.agg (stA n A k c t),.agg (stA n B m d t)] w (cZ true w):=by
 have uS:=zH (fun W (hW:Below w.heap.size w W)=>XT A B c k d m a b W (hs.later hW) (ht.later hW) h);have HK:=kX w 33 (stA n A k c t) 33 (stA n B m d t);have HE:Hid (decide (n=n)=true):=zH (decide_eq_true rfl);unfold cZ at uS ⊢;clear hs ht h;go_enter func15,ntmps15;go_wp2_with (first|refine zX (jL HK 0) ?_|refine zX (jL HK 1) ?_|refine zX (aD (m:=n) (n:=n) HE.out) ?_|refine zX (eU HK 0) ?_|refine zX (eU HK 1) ?_|refine zX (Va (t:=t) (by rfl) (by rfl) (by rfl)) ?_|refine zX (jl HK 0) ?_|refine zX (jl HK 1) ?_);refine cb (uS.out _ HK.out.b) HK ?_;clear HK;intro _ HK;exact iU
namespace Ap
def afq(l:List av.Ot)(r:Rf):av.Rp:=match own l r with
 | some x=>x
 | none=>av.rz
def ownB(l:List av.Ot)(r:Rf):Bool:=(own l r).isSome
theorem GD{l:List av.Ot}{r:Rf}(h:ownB l r=true):own l r=some (afq l r):=by
 unfold ownB at h;unfold afq
 cases ho:own l r with
 | none=>rw[ho] at h;cases h
 | some x=>rfl
end Ap
end
end Go.Proofs.YtieoeendnccafaaGreat
