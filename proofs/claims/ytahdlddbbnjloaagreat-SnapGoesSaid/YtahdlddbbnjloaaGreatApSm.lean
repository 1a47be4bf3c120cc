/- What the document's Same tells of states that are alike. No condition but those named. -/
import Derived.Test.YtahdlddbbnjloaaGreatNBD
set_option linter.unusedSimpArgs false
set_option linter.unusedVariables false
set_option maxRecDepth 100000
set_option maxHeartbeats 25600000
open Go.RowKit
namespace Go.Proofs.YtahdlddbbnjloaaGreat
open _root_.Go.Proofs.Tryz
section
theorem ZT(A B:Option Addr)(c n d m:Nat)(a b:List Oh)(w:World)(hs:dS w A n c a)(ht:dS w B m d b)(h:vs a=vs b):
  Calls prog 20 #[.slice A n c,.slice B m d] w (dw true w):=by
 have h2:=Qo A B c n d m a b w hs ht;rw[decide_eq_true h] at h2;exact h2
theorem MI(n:Int)(A B:Option Addr)(k c m d:Nat)(t:aG.T)(a b:List Oh)(w:World)(hs:dS w A k c a)(ht:dS w B m d b)(h:vs a=vs b):
  Calls prog 8 #[.agg (stA n A k c t),.agg (stA n B m d t)] w (dw true w):=by
 have FM:=zH (fun W (hW:Below w.heap.size w W)=>ZT A B c k d m a b W (hs.later hW) (ht.later hW) h);have HK:=uj w 33 (stA n A k c t) 33 (stA n B m d t);have HE:Hid (decide (n=n)=true):=zH (decide_eq_true rfl);unfold dw at FM ⊢;clear hs ht h;go_enter func8,ntmps8;go_wp2_with (first|refine zX (lg HK 0) ?_|refine zX (lg HK 1) ?_|refine zX (aJ (m:=n) (n:=n) HE.out) ?_|refine zX (gD HK 0) ?_|refine zX (gD HK 1) ?_|refine zX (WH (t:=t) (by rfl) (by rfl) (by rfl)) ?_|refine zX (qN HK 0) ?_|refine zX (qN HK 1) ?_);refine cb (FM.out _ HK.out.b) HK ?_;clear HK;intro _ HK;exact jq
end
end Go.Proofs.YtahdlddbbnjloaaGreat
