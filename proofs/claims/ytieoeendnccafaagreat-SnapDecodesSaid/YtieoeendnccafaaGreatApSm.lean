/- What the document's Same tells of states that are alike. No condition but those named. -/
import Derived.Test.YtieoeendnccafaaGreatMTK
import Derived.Test.YtieoeendnccafaaGreatMAN
import Derived.Test.YtieoeendnccafaaGreatMBN
import Derived.Test.YtieoeendnccafaaGreatMAL
set_option linter.unusedSimpArgs false
set_option linter.unusedVariables false
set_option maxRecDepth 100000
set_option maxHeartbeats 25600000
namespace Go.Proofs.YtieoeendnccafaaGreat
section
open Go.RowKit
theorem oh_same(A B:Option Addr)(c n d m:Nat)(a b:List Oh)(w:World)(hs:Obs w A n c a)(ht:Obs w B m d b)(h:vs a=vs b):
  Calls Tryz.prog 44 #[.slice A n c,.slice B m d] w (IsB true w):=by
 have h2:=osame_any A B c n d m a b w hs ht
 rw[decide_eq_true h] at h2
 exact h2
theorem apsame_yes(n:Int)(A B:Option Addr)(k c m d:Nat)(t:Ses.T)(a b:List Oh)(w:World)(hs:Obs w A k c a)(ht:Obs w B m d b)(h:vs a=vs b):
  Calls Tryz.prog 15 #[.agg (stA n A k c t),.agg (stA n B m d t)] w (IsB true w):=by
 have HSm:=zH (fun W (hW:Below w.heap.size w W)=>oh_same A B c k d m a b W (hs.later hW) (ht.later hW) h)
 have HK:=kn2 w 33 (stA n A k c t) 33 (stA n B m d t)
 have HE:Hid (decide (n=n)=true):=zH (decide_eq_true rfl)
 unfold IsB at HSm ⊢
 clear hs ht h
 go_enter Tryz.func15,Tryz.ntmps15
 go_wp2_with (first|refine zX (kst_n HK 0 _ (by rfl) (by rfl) (by rfl)) ?_|refine zX (kst_n HK 1 _ (by rfl) (by rfl) (by rfl)) ?_|refine zX (exec_iE (m:=n) (n:=n) _ _ (by rfl) (by rfl) (by rfl) HE.out) ?_|refine zX (kst_t HK 0 _ (by rfl) (by rfl) (by rfl)) ?_|refine zX (kst_t HK 1 _ (by rfl) (by rfl) (by rfl)) ?_|refine zX (exec_tbE (t:=t) _ _ (by rfl) (by rfl) (by rfl)) ?_|refine zX (kst_o HK 0 _ (by rfl) (by rfl) (by rfl)) ?_|refine zX (kst_o HK 1 _ (by rfl) (by rfl) (by rfl)) ?_)
 refine(HSm.out _ HK.out.b).mono ?_;rintro e w1 ⟨rfl,b1⟩
 replace HK:=hkC HK b1;clear b1
 go_wp2_with fail
 go_ret
 exact⟨rfl,HK.out.b⟩
end
end Go.Proofs.YtieoeendnccafaaGreat
