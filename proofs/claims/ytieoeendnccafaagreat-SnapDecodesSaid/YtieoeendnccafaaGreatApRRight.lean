/- What the document's Right returns. No condition but those named. -/
import Derived.Test.YtieoeendnccafaaGreatMTK
import Derived.Test.YtieoeendnccafaaGreatMBC
import Derived.Test.YtieoeendnccafaaGreatMBD
import Derived.Test.YtieoeendnccafaaGreatMBA
set_option linter.unusedSimpArgs false
set_option linter.unusedVariables false
set_option maxRecDepth 100000
set_option maxHeartbeats 25600000
namespace Go.Proofs.YtieoeendnccafaaGreat
section
open Go.RowKit
def WOk(l:List Sto.Ob)(t:Ses.T)(c:Int):Prop:=Ap.cnt (Ap.W l) c=if Ap.opn (t.get c)=true then 1 else 0
instance (l:List Sto.Ob) (t:Ses.T) (c:Int):Decidable (WOk l t c):=by unfold WOk;infer_instance
theorem rapright_any(n:Int)(A:Option Addr)(k cp:Nat)(t:Ses.T)(lo:List Oh)(w:World)(hs:Obs w A k cp lo)(hf:Ses.Fit t):
  Calls Tryz.prog 14 #[.agg (stA n A k cp t)] w (IsB (decide (Ap.Ok ⟨n,vs lo,t⟩)) w):=by
 have HK:=kn1 w 33 (stA n A k cp t)
 have HRt:=zH (fun W (hW:Below w.heap.size w W)=>roright_any A cp k lo W (hs.later hW))
 have HSe:=zH (fun W=>rsesright_any t W hf)
 have HKn:=zH (fun(h:Sto.Right (vs lo)) W (hW:Below w.heap.size w W)=>rknown_any n A k cp t lo W (hs.later hW) h hf)
 have HWt:=zH (fun(h:Sto.Right (vs lo)) c W (hW:Below w.heap.size w W)=>rwaits_any n A k cp t lo c W (hs.later hW) h)
 have HOk:Hid (decide (Ap.Ok ⟨n,vs lo,t⟩)=(decide (0≤n)&&decide (Sto.Right (vs lo))&&decide (Ses.Right t)&&decide (Ap.Known (vs lo) t)&&decide (∀c∈([0,1,2,3,4]:List Int),WOk (vs lo) t c))):=zH (Ap.ok_is ⟨n,vs lo,t⟩)
 unfold IsB IsInt at *
 generalize decide (Ap.Ok ⟨n,vs lo,t⟩)=y at *
 clear hs hf
 go_enter Tryz.func14,Tryz.ntmps14
 by_cases h0:0≤n
 case neg=>
  have hy:y=false:=by rw[HOk.out,decide_eq_false h0];rfl
  have H0:Hid (decide (n<0)=true):=zH (decide_eq_true (by omega))
  subst hy
  clear HKn HWt HRt HSe HOk
  go_wp2_with (first|go_big_skip|refine zX (kst_n HK 0 _ (by rfl) (by rfl) (by rfl)) ?_|refine zX (exec_iL (m:=n) (n:=0) _ _ (by rfl) (by rfl) (by rfl) H0.out) ?_)
  go_ret
  exact⟨rfl,HK.out.b⟩
 case pos=>
 have H0:Hid (decide (n<0)=false):=zH (decide_eq_false (by omega))
 rw[decide_eq_true h0] at HOk
 by_cases h1:Sto.Right (vs lo)
 case neg=>
  rw[decide_eq_false h1] at HOk HRt
  have hy:y=false:=HOk.out
  subst hy
  clear HKn HWt HSe HOk h1
  go_wp2_with (first|go_big_skip|refine zX (kst_n HK 0 _ (by rfl) (by rfl) (by rfl)) ?_|refine zX (exec_iL (m:=n) (n:=0) _ _ (by rfl) (by rfl) (by rfl) H0.out) ?_|refine zX (kst_o HK 0 _ (by rfl) (by rfl) (by rfl)) ?_)
  refine(HRt.out _ HK.out.b).mono ?_;rintro e w1 ⟨rfl,b1⟩;replace HK:=hkC HK b1;clear b1
  go_wp2_with (first|go_big_skip)
  go_ret
  exact⟨rfl,HK.out.b⟩
 case pos=>
 rw[decide_eq_true h1] at HOk HRt
 by_cases h2:Ses.Right t
 case neg=>
  rw[decide_eq_false h2] at HOk HSe
  have hy:y=false:=HOk.out
  subst hy
  clear HKn HWt HOk h2
  go_wp2_with (first|go_big_skip|refine zX (kst_n HK 0 _ (by rfl) (by rfl) (by rfl)) ?_|refine zX (exec_iL (m:=n) (n:=0) _ _ (by rfl) (by rfl) (by rfl) H0.out) ?_|refine zX (kst_o HK 0 _ (by rfl) (by rfl) (by rfl)) ?_)
  refine(HRt.out _ HK.out.b).mono ?_;rintro e w1 ⟨rfl,b1⟩;replace HK:=hkC HK b1;clear b1
  go_wp2_with (first|go_big_skip|refine zX (kst_t HK 0 _ (by rfl) (by rfl) (by rfl)) ?_)
  refine(HSe.out _).mono ?_;rintro e w1 ⟨rfl,b1⟩;replace HK:=hkC HK b1;clear b1
  go_wp2_with (first|go_big_skip)
  go_ret
  exact⟨rfl,HK.out.b⟩
 case pos=>
 rw[decide_eq_true h2] at HOk HSe
 by_cases h3:Ap.Known (vs lo) t
 case neg=>
  rw[decide_eq_false h3] at HOk HKn
  have hy:y=false:=HOk.out
  subst hy
  clear HWt HOk h2 h3
  go_wp2_with (first|go_big_skip|refine zX (kst_n HK 0 _ (by rfl) (by rfl) (by rfl)) ?_|refine zX (exec_iL (m:=n) (n:=0) _ _ (by rfl) (by rfl) (by rfl) H0.out) ?_|refine zX (kst_o HK 0 _ (by rfl) (by rfl) (by rfl)) ?_)
  refine(HRt.out _ HK.out.b).mono ?_;rintro e w1 ⟨rfl,b1⟩;replace HK:=hkC HK b1;clear b1
  go_wp2_with (first|go_big_skip|refine zX (kst_t HK 0 _ (by rfl) (by rfl) (by rfl)) ?_)
  refine(HSe.out _).mono ?_;rintro e w1 ⟨rfl,b1⟩;replace HK:=hkC HK b1;clear b1
  go_wp2_with (first|go_big_skip|refine zX (kst HK 0 _ (by rfl) (by rfl) (by rfl)) ?_)
  refine(HKn.out h1 _ HK.out.b).mono ?_;rintro e w1 ⟨rfl,b1⟩;replace HK:=hkC HK b1;clear b1
  go_wp2_with (first|go_big_skip)
  go_ret
  exact⟨rfl,HK.out.b⟩
 case pos=>
 rw[decide_eq_true h3] at HOk HKn
 have HNo:Hid (∀c:Int,0≤c∧c<5→¬WOk (vs lo) t c→y=false):=zH fun c hc h=>by
  rw[HOk.out]
  exact decide_eq_false fun g=>h (g c (Ap.five.2 hc))
 have HYes:Hid ((∀c:Int,0≤c∧c<5→WOk (vs lo) t c)→y=true):=zH fun h=>by
  rw[HOk.out]
  exact decide_eq_true fun c hc=>h c (Ap.five.1 hc)
 clear HOk h2 h3
 go_wp2_with (first|go_big_skip|refine zX (kst_n HK 0 _ (by rfl) (by rfl) (by rfl)) ?_|refine zX (exec_iL (m:=n) (n:=0) _ _ (by rfl) (by rfl) (by rfl) H0.out) ?_|refine zX (kst_o HK 0 _ (by rfl) (by rfl) (by rfl)) ?_)
 refine(HRt.out _ HK.out.b).mono ?_;rintro e w1 ⟨rfl,b1⟩;replace HK:=hkC HK b1;clear b1
 go_wp2_with (first|go_big_skip|refine zX (kst_t HK 0 _ (by rfl) (by rfl) (by rfl)) ?_)
 refine(HSe.out _).mono ?_;rintro e w1 ⟨rfl,b1⟩;replace HK:=hkC HK b1;clear b1
 go_wp2_with (first|go_big_skip|refine zX (kst HK 0 _ (by rfl) (by rfl) (by rfl)) ?_)
 refine(HKn.out h1 _ HK.out.b).mono ?_;rintro e w1 ⟨rfl,b1⟩;replace HK:=hkC HK b1;clear b1
 go_wp2_with (first|go_big_skip)
 clear HRt HSe HKn H0 h0
 go_loopw [3] (fun v3 wr=>∃i:Nat,i≤5∧v3=.int .i64 i∧Hid (∀c:Int,0≤c∧c<i→WOk (vs lo) t c)∧Hid (Kn w.heap.size w wr [(w.heap.size,33,stA n A k cp t)] [])) (fun v3 _=>5-(intOf v3).toNat)
 case atStart=>exact⟨0,by omega,rfl,zH (fun c hc=>by omega),HK⟩
 case round=>
  clear HK
  obtain⟨i,hi,rfl,HG,HK⟩:=hrel
  have hi1:(0:Int)≤(i:Int):=by omega
  by_cases hlt:i<5
  case neg=>
   obtain rfl:i=5:=by omega
   have hy:=HYes.out HG.out
   subst hy
   clear HNo HYes HG
   go_wp2_with fail
   go_ret
   exact⟨rfl,HK.out.b⟩
  case pos=>
  have hi2:(i:Int)<5:=by omega
  have hi3:i<9223372036854775807:=by omega
  have hc:0≤(i:Int)∧(i:Int)<5:=⟨hi1,hi2⟩
  obtain⟨q,hq⟩:∃q,decide (WOk (vs lo) t (i:Int))=q:=⟨_,rfl⟩
  have HSt:Hid (q=true→∀c:Int,0≤c∧c<((i+1:Nat):Int)→WOk (vs lo) t c):=zH fun h c hc2=>by
   by_cases e:c=(i:Int)
   ·rw[e];rw[h] at hq;exact of_decide_eq_true hq
   ·exact HG.out c (by omega)
  have HFl:Hid (q=false→y=false):=zH fun h=>by rw[h] at hq;exact HNo.out _ hc (of_decide_eq_false hq)
  obtain⟨b1,hb1⟩:∃b,decide (0<(t.get (i:Int)).ep)=b:=⟨_,rfl⟩
  obtain⟨b2,hb2⟩:∃b,(t.get (i:Int)).dn=b:=⟨_,rfl⟩
  have E1:=zH hb1
  have E2:=zH hb2
  have hop:Ap.opn (t.get (i:Int))=(b1&&!b2):=by unfold Ap.opn;rw[hb1,hb2]
  have HN:Hid (∀K:Nat,(if (b1&&!b2)=true then 1 else 0)=K→(!decide (((Ap.cnt (Ap.W (vs lo)) (i:Int):Nat):Int)=(K:Int)))=!q):=zH fun K hK=>by
   rw[← hq]
   congr 1
   refine decide_eq_decide.2 ?_
   unfold WOk
   rw[hop,hK]
   constructor
   ·intro h;omega
   ·intro h;rw[h]
  clear hb1 hb2 hop hq HG
  cases b1 with
  | false=>
   have HQn:Hid ((!decide (((Ap.cnt (Ap.W (vs lo)) (i:Int):Nat):Int)=0))=!q):=zH (HN.out 0 rfl)
   go_wp2_with (first|go_big_skip|refine zX (exec_ixq hc _ _ (by rfl) (by rfl) (by rfl)) ?_|refine zX (kst_e HK 0 hc _ (by rfl) (by rfl) (by rfl)) ?_|refine zX (exec_iG (m:=(t.get (i:Int)).ep) (n:=0) _ _ (by rfl) (by rfl) (by rfl) E1.out) ?_|refine zX (kst HK 0 _ (by rfl) (by rfl) (by rfl)) ?_)
   refine(HWt.out h1 (i:Int) _ HK.out.b).mono ?_;rintro e w1 ⟨rfl,b1⟩;replace HK:=hkC HK b1;clear b1;cases q with|true=>(have HSn:=zH (HSt.out rfl);clear HSt;go_wp2_with (first|refine zX (exec_iN (m:=(Ap.cnt (Ap.W (vs lo)) (i:Int):Nat)) (n:=0) _ _ (by rfl) (by rfl) (by rfl) HQn.out) ?_|refine zX (exec_add1 (j:=i) _ (by rfl) (by rfl) hi3) ?_);exact⟨⟨i+1,hlt,rfl,HSn,HK⟩,by simp[intOf];omega⟩)|false=>(have hy:=HFl.out rfl;subst hy;clear HNo HYes HSt HFl;go_wp2_with (first|refine zX (exec_iN (m:=(Ap.cnt (Ap.W (vs lo)) (i:Int):Nat)) (n:=0) _ _ (by rfl) (by rfl) (by rfl) HQn.out) ?_);go_ret;exact⟨rfl,HK.out.b⟩)
  | true=>
   cases b2 with
   | true=>
    have HQn:Hid ((!decide (((Ap.cnt (Ap.W (vs lo)) (i:Int):Nat):Int)=0))=!q):=zH (HN.out 0 rfl)
    go_wp2_with (first|go_big_skip|refine zX (exec_ixq hc _ _ (by rfl) (by rfl) (by rfl)) ?_|refine zX (kst_e HK 0 hc _ (by rfl) (by rfl) (by rfl)) ?_|refine zX (exec_iG (m:=(t.get (i:Int)).ep) (n:=0) _ _ (by rfl) (by rfl) (by rfl) E1.out) ?_|refine zX ((kst_d HK 0 hc _ (by rfl) (by rfl) (by rfl)).trans (by rw[E2.out])) ?_|refine zX (kst HK 0 _ (by rfl) (by rfl) (by rfl)) ?_)
    refine(HWt.out h1 (i:Int) _ HK.out.b).mono ?_;rintro e w1 ⟨rfl,b1⟩;replace HK:=hkC HK b1;clear b1;cases q with|true=>(have HSn:=zH (HSt.out rfl);clear HSt;go_wp2_with (first|refine zX (exec_iN (m:=(Ap.cnt (Ap.W (vs lo)) (i:Int):Nat)) (n:=0) _ _ (by rfl) (by rfl) (by rfl) HQn.out) ?_|refine zX (exec_add1 (j:=i) _ (by rfl) (by rfl) hi3) ?_);exact⟨⟨i+1,hlt,rfl,HSn,HK⟩,by simp[intOf];omega⟩)|false=>(have hy:=HFl.out rfl;subst hy;clear HNo HYes HSt HFl;go_wp2_with (first|refine zX (exec_iN (m:=(Ap.cnt (Ap.W (vs lo)) (i:Int):Nat)) (n:=0) _ _ (by rfl) (by rfl) (by rfl) HQn.out) ?_);go_ret;exact⟨rfl,HK.out.b⟩)
   | false=>
    have HQn:Hid ((!decide (((Ap.cnt (Ap.W (vs lo)) (i:Int):Nat):Int)=1))=!q):=zH (HN.out 1 rfl)
    go_wp2_with (first|go_big_skip|refine zX (exec_ixq hc _ _ (by rfl) (by rfl) (by rfl)) ?_|refine zX (kst_e HK 0 hc _ (by rfl) (by rfl) (by rfl)) ?_|refine zX (exec_iG (m:=(t.get (i:Int)).ep) (n:=0) _ _ (by rfl) (by rfl) (by rfl) E1.out) ?_|refine zX ((kst_d HK 0 hc _ (by rfl) (by rfl) (by rfl)).trans (by rw[E2.out])) ?_|refine zX (kst HK 0 _ (by rfl) (by rfl) (by rfl)) ?_)
    refine(HWt.out h1 (i:Int) _ HK.out.b).mono ?_;rintro e w1 ⟨rfl,b1⟩;replace HK:=hkC HK b1;clear b1;cases q with|true=>(have HSn:=zH (HSt.out rfl);clear HSt;go_wp2_with (first|refine zX (exec_iN (m:=(Ap.cnt (Ap.W (vs lo)) (i:Int):Nat)) (n:=1) _ _ (by rfl) (by rfl) (by rfl) HQn.out) ?_|refine zX (exec_add1 (j:=i) _ (by rfl) (by rfl) hi3) ?_);exact⟨⟨i+1,hlt,rfl,HSn,HK⟩,by simp[intOf];omega⟩)|false=>(have hy:=HFl.out rfl;subst hy;clear HNo HYes HSt HFl;go_wp2_with (first|refine zX (exec_iN (m:=(Ap.cnt (Ap.W (vs lo)) (i:Int):Nat)) (n:=1) _ _ (by rfl) (by rfl) (by rfl) HQn.out) ?_);go_ret;exact⟨rfl,HK.out.b⟩)
end
end Go.Proofs.YtieoeendnccafaaGreat
