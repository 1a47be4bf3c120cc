/- What is known where a reader goes through items: its block, what is left; what its methods tell. No condition but those named. -/
import Derived.Test.YtahdlddbbnjloaaGreatNAY
import Derived.Test.YtahdlddbbnjloaaGreatNAO
import Derived.Test.YtahdlddbbnjloaaGreatNAQ
import Derived.Test.YtahdlddbbnjloaaGreatNAW
import Derived.Test.YtahdlddbbnjloaaGreatApRight
set_option linter.unusedSimpArgs false
set_option linter.unusedVariables false
set_option maxRecDepth 100000
set_option maxHeartbeats 25600000
open Go.RowKit
namespace Go.Proofs.YtahdlddbbnjloaaGreat
open _root_.Go.Proofs.Tryz
section
theorem ko{w:World}{o:Oper}{a:Act}{x:ByteArray}{b:Bool}{p:Operand}(hb:decide (x.size=0)=b)(ho:o.op=.binOp .eql 9 p (.const (.string ⟨#[]⟩)) 9:=by rfl)(hp:a.eval p=.string x:=by rfl):
  (execOp a.eval o).run prog w=.ok (.value (.bool b)) w:=by
 refine sK (y:=⟨#[]⟩) (p:=p) (q:=(.const (.string ⟨#[]⟩))) (ho:=ho) (hx:=hp) ?_;rw[← hb];by_cases h:x.size=0
 ·rw[decide_eq_true h,decide_eq_true (show x=⟨#[]⟩ from Val.mg h)]
 ·rw[decide_eq_false h,decide_eq_false (fun e=>h (by rw[e];rfl))]
theorem Uh(x:Oh)(w:World)(hx:In w x):Calls prog 80 #[.agg (cu x)] w (dw (au.One x.v) w):=by
 rw[au.ZM];have HI:=zH hx;have HN:=zH (fun W (hW:Below w.heap.size w W)=>PW x W (hx.later hW));have HK:=jw w 75 (cu x);have HD:=zH uP;have HQ:=zH rM;have HL:=zH kY;have HG:=zH rQ;have HM:=zH sD;clear hx;unfold dw at *
 by_cases hz:x.v.name.size=0
 ·have E0:=zH (decide_eq_true hz)
  have Ye:=zH (rfl:decide (16<(x.v.name.size:Int))=decide (16<(x.v.name.size:Int)));have hd:decide (au.named x.v.name)=false:=decide_eq_false fun g=>g.1 hz
  rw[hd,Bool.false_and,Bool.false_and];clear hd hz;go_enter func80,ntmps80;go_wp2_with (first|refine zX (kJ HK 0) ?_|refine zX (ko (x:=x.v.name) E0.out) ?_|refine zX (dF (x:=(x.v.name.size:Int)) (k:=16) Ye.out) ?_);exact nu
 have E0:=zH (decide_eq_false hz);by_cases h16:x.v.name.size≤16
 case neg=>
  have hd:decide (au.named x.v.name)=false:=decide_eq_false fun g=>h16 g.2
  have Ye:=zH (decide_eq_true (by omega:16<(x.v.name.size:Int)));rw[hd,Bool.false_and,Bool.false_and];clear hd hz h16;go_enter func80,ntmps80;go_wp2_with (first|refine zX (kJ HK 0) ?_|refine zX (ko (x:=x.v.name) E0.out) ?_|refine zX (dF (x:=(x.v.name.size:Int)) (k:=16) Ye.out) ?_);exact nu
 case pos=>
 have hd:decide (au.named x.v.name)=true:=decide_eq_true ⟨hz,h16⟩;have Ye:=zH (decide_eq_false (by omega:¬16<(x.v.name.size:Int)));rw[hd,Bool.true_and];clear hd hz h16;generalize au.non x.v=q at *
 cases q
 ·rw[Bool.false_and]
  go_enter func80,ntmps80;go_wp2_with (first|refine zX (kJ HK 0) ?_|refine zX (ko (x:=x.v.name) E0.out) ?_|refine zX (dF (x:=(x.v.name.size:Int)) (k:=16) Ye.out) ?_|refine zX (lV HK 0) ?_);refine cb (HN.out _ HK.out.b) HK ?_;clear HK;intro _ HK;exact jq
 rw[Bool.true_and];unfold au.sound;by_cases h1:x.v.kind=1
 ·rw[if_pos h1]
  go_enter func80,ntmps80;go_wp2_with (first|refine zX (kJ HK 0) ?_|refine zX (ko (x:=x.v.name) E0.out) ?_|refine zX (dF (x:=(x.v.name.size:Int)) (k:=16) Ye.out) ?_|refine zX (lV HK 0) ?_);refine cb (HN.out _ HK.out.b) HK ?_;clear HK;intro _ HK;go_wp2_with (first|refine zX (jM HK 0) ?_|refine zX (vX HK 0) ?_);refine cb (HD.out _ _ _ _ _ (HI.out.p.later HK.out.b)) HK ?_;clear HK;intro _ HK;exact jq
 rw[if_neg h1];by_cases h2:x.v.kind=2
 ·rw[if_pos h2]
  go_enter func80,ntmps80;go_wp2_with (first|refine zX (kJ HK 0) ?_|refine zX (ko (x:=x.v.name) E0.out) ?_|refine zX (dF (x:=(x.v.name.size:Int)) (k:=16) Ye.out) ?_|refine zX (lV HK 0) ?_);refine cb (HN.out _ HK.out.b) HK ?_;clear HK;intro _ HK;go_wp2_with (first|refine zX (jM HK 0) ?_|refine zX (ow HK 0) ?_|refine zX (Bn HK 0) ?_);refine cb (HQ.out _ _ _ _ _ _ (HI.out.v.later HK.out.b)) HK ?_;clear HK;intro _ HK;exact jq
 rw[if_neg h2];by_cases h3:x.v.kind=3
 ·rw[if_pos h3]
  go_enter func80,ntmps80;go_wp2_with (first|refine zX (kJ HK 0) ?_|refine zX (ko (x:=x.v.name) E0.out) ?_|refine zX (dF (x:=(x.v.name.size:Int)) (k:=16) Ye.out) ?_|refine zX (lV HK 0) ?_);refine cb (HN.out _ HK.out.b) HK ?_;clear HK;intro _ HK;go_wp2_with (first|refine zX (jM HK 0) ?_|refine zX (kI HK 0) ?_);refine cb (HL.out _ _ _ _ _ (HI.out.r.later HK.out.b)) HK ?_;clear HK;intro _ HK;exact jq
 rw[if_neg h3];by_cases h4:x.v.kind=4
 ·rw[if_pos h4]
  generalize hg:decide (Gt.Right x.v.cap x.v.refs)=gb;have HGb:=zH hg;clear hg;cases gb
  all_goals
   go_enter func80,ntmps80;go_wp2_with (first|refine zX (kJ HK 0) ?_|refine zX (ko (x:=x.v.name) E0.out) ?_|refine zX (dF (x:=(x.v.name.size:Int)) (k:=16) Ye.out) ?_|refine zX (lV HK 0) ?_);refine cb (HN.out _ HK.out.b) HK ?_;clear HK;intro _ HK;go_wp2_with (first|refine zX (jM HK 0) ?_|refine zX (ow HK 0) ?_|refine zX (kI HK 0) ?_);refine(HG.out _ _ _ _ _ _ (HI.out.r.later HK.out.b)).mono ?_;rintro e w1 ⟨rfl,b1⟩;rw[HGb.out];replace HK:=iH HK b1;clear b1;go_wp2_with refine zX (Dw HK 0) ?_;exact nu
 rw[if_neg h4];by_cases h5:x.v.kind=5
 ·rw[if_pos h5]
  go_enter func80,ntmps80;go_wp2_with (first|refine zX (kJ HK 0) ?_|refine zX (ko (x:=x.v.name) E0.out) ?_|refine zX (dF (x:=(x.v.name.size:Int)) (k:=16) Ye.out) ?_|refine zX (lV HK 0) ?_);refine cb (HN.out _ HK.out.b) HK ?_;clear HK;intro _ HK;go_wp2_with (first|refine zX (jM HK 0) ?_|refine zX (Dv HK 0) ?_);refine cb (HM.out x.v.mt HI.out.m _) HK ?_;clear HK;intro _ HK;exact jq
 ·rw[if_neg h5]
  go_enter func80,ntmps80;go_wp2_with (first|refine zX (kJ HK 0) ?_|refine zX (ko (x:=x.v.name) E0.out) ?_|refine zX (dF (x:=(x.v.name.size:Int)) (k:=16) Ye.out) ?_|refine zX (lV HK 0) ?_);refine cb (HN.out _ HK.out.b) HK ?_;clear HK;intro _ HK;go_wp2_with refine zX (jM HK 0) ?_;exact nu
end
section
theorem bU(A:Option Addr)(c n:Nat)(l:List Oh)(w:World)(hs:dS w A n c l):
  Calls prog 37 #[.slice A n c] w (dw (decide (au.Right (vs l))) w):=by
 unfold dw;by_cases hn:8<n
 ·have hd:decide (au.Right (vs l))=false:=decide_eq_false fun h=>by have:=h.len;rw[gq,hs.len] at this;omega
  rw[hd];have hn2:8<(n:Int):=by omega
  clear hs hd;go_enter func37,ntmps37;exact Yy
 have HS:=zH hs;obtain⟨hno,hyes⟩:=au.gu (l:=vs l) (by rw[gq];exact hs.len) (by omega:n≤8);have gX:=zH hno;have iK:=zH hyes;clear hs hno hyes;generalize decide (au.Right (vs l))=r at *
 have hn2:¬8<(n:Int):=by omega
 have alr:0<9223372036854775807:=by decide
 have HK:=zH (Kn.start w);go_enter func37,ntmps37;go_wp2_with fail;go_loopw [3] (fun vi wr=>∃k:Nat,k≤n∧vi=.int .i64 k∧Hid (∀i,i<k→au.Good (vs l) i)∧Hid (Kn w.heap.size w wr [] [])) (fun vi _=>n-(intOf vi).toNat)
 case atStart=>exact⟨0,Nat.zero_le _,rfl,zH (fun i hi=>by omega),HK⟩
 case round=>
  clear HK;obtain⟨k,hk,rfl,kE,HK⟩:=hrel;by_cases hlt:k<n
  ·obtain⟨x,hx,hin⟩:=HS.out.get hlt
   obtain⟨b,o,rfl,hat⟩:=HS.out.s.at (Nat.lt_of_le_of_lt (Nat.zero_le _) hlt);have HX:Hid (∀W,Below w.heap.size w W→∀j v,(yY x)[j]?=some v→W.cell? ⟨b,o+k*11+j,none⟩=some v):=zH (fun W hW=>hat W hW k x hx)
   have kK:Hid (∀j,k=j+1→∃y:Oh,(vs l)[j]?=some y.v∧∀W,Below w.heap.size w W→∀i v,(yY y)[i]?=some v→W.cell? ⟨b,o+j*11+i,none⟩=some v):=zH fun j hj=>by
    exact acH
   have HOn:=zH (fun W (hW:Below w.heap.size w W)=>Uh x W (hin.later hW));have hxv:=dB hx;have yx:Hid (au.Good (vs l) k↔(au.One x.v=true∧∀j y,k=j+1→(vs l)[j]?=some y→aQ.lt y.name x.v.name=true)):=zH ⟨fun h=>h _ hxv,fun h x' hx'=>by rw[hxv] at hx';injection hx' with hx';subst hx';exact h⟩;unfold dw at HOn;clear hat hin hx hxv;generalize au.One x.v=q0 at *
   have hk1:(0:Int)≤(k:Int):=by omega
   have hk2:(k:Int)<(n:Int):=by omega
   go_wp2_with fail
   cases q0 with
   | false=>
    have HR:Hid (r=false):=zH (gX.out k hlt fun h=>by have:=(yx.out.1 h).1;simp at this);refine zR HK.out.drew fun ah=>?_
    refine ak 0 rfl ?_;refine ak 1 rfl ?_;refine ak 2 rfl ?_ fun _ s=>bH (i:=k) hlt
    refine ak 3 rfl ?_ fun _ s=>gL (off:=o+k*11) (HX.out _ s.out.b)
    refine aC 4 rfl fun K hK=>?_
    go_simp;go_at_call 80;refine(HOn.out _ ah.out.b).mono ?_;rintro e w5 ⟨rfl,b5⟩;have hs:=zH (ah.out.call b5);clear b5;refine bk hK hs fun ah=>?_
    clear hK K;refine ak 5 rfl ?_;refine ak 6 rfl ?_;refine bq 7 rfl ?_;refine bq 8 rfl ?_;refine bq 9 rfl ?_;refine bq 10 rfl ?_;refine bq 11 rfl ?_;refine bq 12 rfl ?_;refine bq 13 rfl ?_;refine bq 14 rfl ?_;refine bq 15 rfl ?_;refine bq 16 rfl ?_;refine bq 17 rfl ?_;refine bq 18 rfl ?_;refine bq 19 rfl ?_;refine bq 20 rfl ?_;refine bq 21 rfl ?_;refine bq 22 rfl ?_;refine ak 23 rfl ?_;exact FU
   | true=>
   rcases Nat.eq_zero_or_pos k with rfl|hpos
   ·clear kK
    refine zR HK.out.drew fun ah=>?_
    refine ak 0 rfl ?_;refine ak 1 rfl ?_;refine ak 2 rfl ?_ fun _ s=>bH (i:=0) hlt
    refine ak 3 rfl ?_ fun _ s=>gL (off:=o+0*11) (HX.out _ s.out.b)
    refine aC 4 rfl fun K hK=>?_
    go_simp;go_at_call 80;refine(HOn.out _ ah.out.b).mono ?_;rintro e w5 ⟨rfl,b5⟩;have hs:=zH (ah.out.call b5);clear b5;refine bk hK hs fun ah=>?_
    clear hK K;refine ak 5 rfl ?_;refine ak 6 rfl ?_;refine ak 7 rfl ?_;refine ak 8 rfl ?_;refine ak 9 rfl ?_;refine bq 10 rfl ?_;refine bq 11 rfl ?_;refine bq 12 rfl ?_;refine bq 13 rfl ?_;refine bq 14 rfl ?_;refine bq 15 rfl ?_;refine bq 16 rfl ?_;refine bq 17 rfl ?_;refine bq 18 rfl ?_;refine bq 19 rfl ?_;refine bq 20 rfl ?_;refine bq 21 rfl ?_;refine ak 22 rfl ?_;refine ak 23 rfl ?_;refine cB ?_;go_wp2_with refine zX (aR (j:=0) alr) ?_
    exact⟨⟨1,by omega,by go_num,zH (fun i hi=>by
     obtain rfl:i=0:=by omega
     exact yx.out.2 ⟨rfl,fun j y h _=>by omega⟩),ah⟩,by simp[intOf];omega⟩
   ·obtain⟨j,rfl⟩:∃j,k=j+1:=⟨k-1,by omega⟩
    clear hpos;obtain⟨y,hy,Od⟩:=kK.out j rfl;have HY:=zH Od;have HYl:=zH hy;clear hy Od kK;have hj:j<n:=by omega
    have hj2:j<9223372036854775807:=by omega
    have hj4:j+1<9223372036854775807:=by omega
    have hj3:((j+1:Nat):Int) > 0:=by omega
    cases hlt2:aQ.lt y.v.name x.v.name with
    | true=>
     have hb:(!aQ.lt y.v.name x.v.name)=false:=by rw[hlt2];rfl
     refine zR HK.out.drew fun ah=>?_
     refine ak 0 rfl ?_;refine ak 1 rfl ?_;refine ak 2 rfl ?_ fun _ s=>bH (i:=j+1) hlt
     refine ak 3 rfl ?_ fun _ s=>gL (off:=o+(j+1)*11) (HX.out _ s.out.b)
     refine aC 4 rfl fun K hK=>?_
     go_simp;go_at_call 80;refine(HOn.out _ ah.out.b).mono ?_;rintro e w5 ⟨rfl,b5⟩;have hs:=zH (ah.out.call b5);clear b5;refine bk hK hs fun ah=>?_
     clear hK K;refine ak 5 rfl ?_;refine ak 6 rfl ?_;refine ak 7 rfl ?_;refine ak 8 rfl ?_;refine ak 9 rfl ?_;refine ak 10 rfl ?_;refine ak 11 rfl ?_;refine ak 12 rfl ?_ fun _ s=>iO (j:=j) hj2
     refine ak 13 rfl ?_ fun _ s=>bH (i:=j) hj
     refine ak 14 rfl ?_;refine ak 15 rfl ?_ fun _ s=>jB (off:=o+j*11) (HY.out _ s.out.b)
     refine ak 16 rfl ?_;refine ak 17 rfl ?_;refine ak 18 rfl ?_ fun _ s=>bH (i:=j+1) hlt
     refine ak 19 rfl ?_;refine ak 20 rfl ?_ fun _ s=>jB (off:=o+(j+1)*11) (HX.out _ s.out.b)
     refine ak 21 rfl ?_ fun _ s=>wK hb
     refine ak 22 rfl ?_;refine ak 23 rfl ?_;refine cB ?_;go_wp2_with refine zX (aR (j:=j+1) hj4) ?_
     exact⟨⟨j+2,by omega,by go_num,zH (fun i hi=>by
      by_cases hij:i=j+1
      ·subst hij
       exact aef
      ·exact kE.out i (by omega)),ah⟩,by simp[intOf];omega⟩
    | false=>
     have hb:(!aQ.lt y.v.name x.v.name)=true:=by rw[hlt2];rfl
     have HR:Hid (r=false):=zH (gX.out _ hlt fun h=>by
      have:=(yx.out.1 h).2 j y.v rfl HYl.out
      rw[hlt2] at this;cases this)
     refine zR HK.out.drew fun ah=>?_
     refine ak 0 rfl ?_;refine ak 1 rfl ?_;refine ak 2 rfl ?_ fun _ s=>bH (i:=j+1) hlt
     refine ak 3 rfl ?_ fun _ s=>gL (off:=o+(j+1)*11) (HX.out _ s.out.b)
     refine aC 4 rfl fun K hK=>?_
     go_simp;go_at_call 80;refine(HOn.out _ ah.out.b).mono ?_;rintro e w5 ⟨rfl,b5⟩;have hs:=zH (ah.out.call b5);clear b5;refine bk hK hs fun ah=>?_
     clear hK K;refine ak 5 rfl ?_;refine ak 6 rfl ?_;refine ak 7 rfl ?_;refine ak 8 rfl ?_;refine ak 9 rfl ?_;refine ak 10 rfl ?_;refine ak 11 rfl ?_;refine ak 12 rfl ?_ fun _ s=>iO (j:=j) hj2
     refine ak 13 rfl ?_ fun _ s=>bH (i:=j) hj
     refine ak 14 rfl ?_;refine ak 15 rfl ?_ fun _ s=>jB (off:=o+j*11) (HY.out _ s.out.b)
     refine ak 16 rfl ?_;refine ak 17 rfl ?_;refine ak 18 rfl ?_ fun _ s=>bH (i:=j+1) hlt
     refine ak 19 rfl ?_;refine ak 20 rfl ?_ fun _ s=>jB (off:=o+(j+1)*11) (HX.out _ s.out.b)
     refine ak 21 rfl ?_ fun _ s=>wK hb
     refine ak 22 rfl ?_;refine ak 23 rfl ?_;exact FU
  ·obtain rfl:k=n:=by omega
   have HR:Hid (r=true):=zH (iK.out kE.out);exact qZ
end
section
def WOk(l:List au.Ob)(t:aG.T)(c:Int):Prop:=Ap.cnt (Ap.W l) c=if Ap.opn (t.get c)=true then 1 else 0
instance (l:List au.Ob) (t:aG.T) (c:Int):Decidable (WOk l t c):=by unfold WOk;infer_instance
theorem vP(n:Int)(A:Option Addr)(k cp:Nat)(t:aG.T)(lo:List Oh)(w:World)(hs:dS w A k cp lo)(hf:aG.Fit t):
  Calls prog 14 #[.agg (stA n A k cp t)] w (dw (decide (Ap.Ok ⟨n,vs lo,t⟩)) w):=by
 have HK:=jw w 33 (stA n A k cp t);have nN:=zH (fun W (hW:Below w.heap.size w W)=>bU A cp k lo W (hs.later hW));have FN:=zH (fun W=>nO t W hf);have HKn:=zH (fun(h:au.Right (vs lo)) W (hW:Below w.heap.size w W)=>KF n A k cp t lo W (hs.later hW) h hf);have HWt:=zH (fun(h:au.Right (vs lo)) c W (hW:Below w.heap.size w W)=>Ku n A k cp t lo c W (hs.later hW) h);have jr:Hid (decide (Ap.Ok ⟨n,vs lo,t⟩)=(decide (0≤n)&&decide (au.Right (vs lo))&&decide (aG.Right t)&&decide (Ap.Known (vs lo) t)&&decide (∀c∈([0,1,2,3,4]:List Int),WOk (vs lo) t c))):=zH (Ap.aiK ⟨n,vs lo,t⟩);unfold dw jo at *
 generalize decide (Ap.Ok ⟨n,vs lo,t⟩)=y at *
 clear hs hf;go_enter func14,ntmps14;by_cases h0:0≤n
 case neg=>
  have hy:y=false:=by rw[jr.out,decide_eq_false h0];rfl
  have H0:Hid (decide (n<0)=true):=zH (decide_eq_true (by omega));subst hy;clear HKn HWt nN FN jr;go_wp2_with (first|go_big_skip|refine zX (lg HK 0) ?_|refine zX (bM (m:=n) (n:=0) H0.out) ?_);exact nu
 case pos=>
 have H0:Hid (decide (n<0)=false):=zH (decide_eq_false (by omega));rw[decide_eq_true h0] at jr;by_cases h1:au.Right (vs lo)
 case neg=>
  rw[decide_eq_false h1] at jr nN;have hy:y=false:=jr.out;subst hy;clear HKn HWt FN jr h1;go_wp2_with (first|go_big_skip|refine zX (lg HK 0) ?_|refine zX (bM (m:=n) (n:=0) H0.out) ?_|refine zX (qN HK 0) ?_);refine cb (nN.out _ HK.out.b) HK ?_;clear HK;intro _ HK;go_wp2_with go_big_skip;exact nu
 case pos=>
 rw[decide_eq_true h1] at jr nN;by_cases h2:aG.Right t
 case neg=>
  rw[decide_eq_false h2] at jr FN;have hy:y=false:=jr.out;subst hy;clear HKn HWt jr h2;go_wp2_with (first|go_big_skip|refine zX (lg HK 0) ?_|refine zX (bM (m:=n) (n:=0) H0.out) ?_|refine zX (qN HK 0) ?_);refine cb (nN.out _ HK.out.b) HK ?_;clear HK;intro _ HK;go_wp2_with (first|go_big_skip|refine zX (gD HK 0) ?_);refine cb (FN.out _) HK ?_;clear HK;intro _ HK;go_wp2_with go_big_skip;exact nu
 case pos=>
 rw[decide_eq_true h2] at jr FN;by_cases h3:Ap.Known (vs lo) t
 case neg=>
  rw[decide_eq_false h3] at jr HKn;have hy:y=false:=jr.out;subst hy;clear HWt jr h2 h3;go_wp2_with (first|go_big_skip|refine zX (lg HK 0) ?_|refine zX (bM (m:=n) (n:=0) H0.out) ?_|refine zX (qN HK 0) ?_);refine cb (nN.out _ HK.out.b) HK ?_;clear HK;intro _ HK;go_wp2_with (first|go_big_skip|refine zX (gD HK 0) ?_);refine cb (FN.out _) HK ?_;clear HK;intro _ HK;go_wp2_with (first|go_big_skip|refine zX (lq HK 0) ?_);refine cb (HKn.out h1 _ HK.out.b) HK ?_;clear HK;intro _ HK;go_wp2_with go_big_skip;exact nu
 case pos=>
 rw[decide_eq_true h3] at jr HKn
 have gX:Hid (∀c:Int,0≤c∧c<5→¬WOk (vs lo) t c→y=false):=zH fun c hc h=>by
  rw[jr.out];exact decide_eq_false fun g=>h (g c (Ap.five.2 hc))
 have iK:Hid ((∀c:Int,0≤c∧c<5→WOk (vs lo) t c)→y=true):=zH fun h=>by
  rw[jr.out];exact decide_eq_true fun c hc=>h c (Ap.five.1 hc)
 clear jr h2 h3;go_wp2_with (first|go_big_skip|refine zX (lg HK 0) ?_|refine zX (bM (m:=n) (n:=0) H0.out) ?_|refine zX (qN HK 0) ?_);refine cb (nN.out _ HK.out.b) HK ?_;clear HK;intro _ HK;go_wp2_with (first|go_big_skip|refine zX (gD HK 0) ?_);refine cb (FN.out _) HK ?_;clear HK;intro _ HK;go_wp2_with (first|go_big_skip|refine zX (lq HK 0) ?_);refine cb (HKn.out h1 _ HK.out.b) HK ?_;clear HK;intro _ HK;go_wp2_with go_big_skip;clear nN FN HKn H0 h0;go_loopw [3] (fun v3 wr=>∃i:Nat,i≤5∧v3=.int .i64 i∧Hid (∀c:Int,0≤c∧c<i→WOk (vs lo) t c)∧Hid (Kn w.heap.size w wr [(w.heap.size,33,stA n A k cp t)] [])) (fun v3 _=>5-(intOf v3).toNat)
 case atStart=>exact⟨0,by omega,rfl,zH (fun c hc=>by omega),HK⟩
 case round=>
  clear HK;obtain⟨i,hi,rfl,HG,HK⟩:=hrel;have hi1:(0:Int)≤(i:Int):=by omega
  by_cases hlt:i<5
  case neg=>
   obtain rfl:i=5:=by omega
   have hy:=iK.out HG.out;subst hy;clear gX iK HG;exact jq
  case pos=>
  have hi2:(i:Int)<5:=by omega
  have hi3:i<9223372036854775807:=by omega
  have hc:0≤(i:Int)∧(i:Int)<5:=⟨hi1,hi2⟩;obtain⟨q,hq⟩:∃q,decide (WOk (vs lo) t (i:Int))=q:=⟨_,rfl⟩
  have HSt:Hid (q=true→∀c:Int,0≤c∧c<((i+1:Nat):Int)→WOk (vs lo) t c):=zH fun h c hc2=>by
   by_cases e:c=(i:Int)
   ·rw[e];rw[h] at hq;exact of_decide_eq_true hq
   ·exact HG.out c (by omega)
  have lK:Hid (q=false→y=false):=zH fun h=>by rw[h] at hq;exact gX.out _ hc (of_decide_eq_false hq)
  obtain⟨b1,hb1⟩:∃b,decide (0<(t.get (i:Int)).ep)=b:=⟨_,rfl⟩;obtain⟨b2,hb2⟩:∃b,(t.get (i:Int)).dn=b:=⟨_,rfl⟩;have E1:=zH hb1;have E2:=zH hb2;have hop:Ap.opn (t.get (i:Int))=(b1&&!b2):=by unfold Ap.opn;rw[hb1,hb2]
  have HN:Hid (∀K:Nat,(if (b1&&!b2)=true then 1 else 0)=K→(!decide (((Ap.cnt (Ap.W (vs lo)) (i:Int):Nat):Int)=(K:Int)))=!q):=zH fun K hK=>by
   rw[← hq]
   congr 1
   refine decide_eq_decide.2 ?_;unfold WOk;rw[hop,hK]
   constructor
   ·intro h;omega
   ·intro h;rw[h]
  clear hb1 hb2 hop hq HG
  cases b1 with
  | false=>
   have HQn:Hid ((!decide (((Ap.cnt (Ap.W (vs lo)) (i:Int):Nat):Int)=0))=!q):=zH (HN.out 0 rfl);go_wp2_with (first|go_big_skip|refine zX (fJ hc) ?_|refine zX (Vx HK 0 hc) ?_|refine zX (bN (m:=(t.get (i:Int)).ep) (n:=0) E1.out) ?_|refine zX (lq HK 0) ?_);refine cb (HWt.out h1 (i:Int) _ HK.out.b) HK ?_;clear HK;intro _ HK;cases q with|true=>(have Yp:=zH (HSt.out rfl);clear HSt;go_wp2_with (first|refine zX (bJ (m:=(Ap.cnt (Ap.W (vs lo)) (i:Int):Nat)) (n:=0) HQn.out) ?_|refine zX (aR (j:=i) hi3) ?_);exact⟨⟨i+1,hlt,rfl,Yp,HK⟩,by simp[intOf];omega⟩)|false=>(have hy:=lK.out rfl;subst hy;clear gX iK HSt lK;go_wp2_with refine zX (bJ (m:=(Ap.cnt (Ap.W (vs lo)) (i:Int):Nat)) (n:=0) HQn.out) ?_;go_ret;exact⟨rfl,HK.out.b⟩)
  | true=>
   cases b2 with
   | true=>
    have HQn:Hid ((!decide (((Ap.cnt (Ap.W (vs lo)) (i:Int):Nat):Int)=0))=!q):=zH (HN.out 0 rfl);go_wp2_with (first|go_big_skip|refine zX (fJ hc) ?_|refine zX (Vx HK 0 hc) ?_|refine zX (bN (m:=(t.get (i:Int)).ep) (n:=0) E1.out) ?_|refine zX ((adn HK 0 hc).trans (by rw[E2.out])) ?_|refine zX (lq HK 0) ?_);refine cb (HWt.out h1 (i:Int) _ HK.out.b) HK ?_;clear HK;intro _ HK;cases q with|true=>(have Yp:=zH (HSt.out rfl);clear HSt;go_wp2_with (first|refine zX (bJ (m:=(Ap.cnt (Ap.W (vs lo)) (i:Int):Nat)) (n:=0) HQn.out) ?_|refine zX (aR (j:=i) hi3) ?_);exact⟨⟨i+1,hlt,rfl,Yp,HK⟩,by simp[intOf];omega⟩)|false=>(have hy:=lK.out rfl;subst hy;clear gX iK HSt lK;go_wp2_with refine zX (bJ (m:=(Ap.cnt (Ap.W (vs lo)) (i:Int):Nat)) (n:=0) HQn.out) ?_;go_ret;exact⟨rfl,HK.out.b⟩)
   | false=>
    have HQn:Hid ((!decide (((Ap.cnt (Ap.W (vs lo)) (i:Int):Nat):Int)=1))=!q):=zH (HN.out 1 rfl);go_wp2_with (first|go_big_skip|refine zX (fJ hc) ?_|refine zX (Vx HK 0 hc) ?_|refine zX (bN (m:=(t.get (i:Int)).ep) (n:=0) E1.out) ?_|refine zX ((adn HK 0 hc).trans (by rw[E2.out])) ?_|refine zX (lq HK 0) ?_);refine cb (HWt.out h1 (i:Int) _ HK.out.b) HK ?_;clear HK;intro _ HK;cases q with|true=>(have Yp:=zH (HSt.out rfl);clear HSt;go_wp2_with (first|refine zX (bJ (m:=(Ap.cnt (Ap.W (vs lo)) (i:Int):Nat)) (n:=1) HQn.out) ?_|refine zX (aR (j:=i) hi3) ?_);exact⟨⟨i+1,hlt,rfl,Yp,HK⟩,by simp[intOf];omega⟩)|false=>(have hy:=lK.out rfl;subst hy;clear gX iK HSt lK;go_wp2_with refine zX (bJ (m:=(Ap.cnt (Ap.W (vs lo)) (i:Int):Nat)) (n:=1) HQn.out) ?_;go_ret;exact⟨rfl,HK.out.b⟩)
end
section
theorem GD{w:World}{B:Nat}{A:Option Addr}{l:aA.Its}(h:aD.Reads w B A l):Items w B A (l.map aA.toW):=fun hn=>by
 rw[List.length_map] at hn;obtain⟨b,o,hA,hb,hat⟩:=h hn;refine⟨b,o,hA,hb,fun i x hx=>?_⟩;rw[List.getElem?_map] at hx;obtain⟨y,hy,rfl⟩:=Option.map_eq_some_iff.1 hx;exact ug (hat i y hy)
def Cx(r:ByteArray×Int)(w:World)(e:Ending)(w':World):Prop:=e=.returned (.tuple #[.string r.1,.int .i64 r.2])∧Below w.heap.size w w'
theorem Gb(A:Option Addr)(n c:Nat)(l:aA.Its)(w:World)(hn:n=l.length)(hb:l.length≤1000)(hi:aD.Reads w w.heap.size A l)(hg:∀x∈l.map aA.toW,aF.Good x):
  Calls prog 10 #[.slice A n c] w (Cx (aF.E (l.map aA.toW)) w):=by
 have h:=Mh A c (l.map aA.toW) w (by rw[List.length_map];omega) (GD hi) (fun x hx=>⟨(hg x hx).2.1,(hg x hx).2.2.1⟩) (fun x hx=>by have:=(hg x hx).2.2.2;omega);rw[List.length_map,← hn] at h;exact h
theorem Vd{w:World}{A:Option Addr}{k c:Nat}{lo:List Oh}{n:Int}{t:aG.T}(hs:dS w A k c lo)(h:Ap.Ok ⟨n,vs lo,t⟩):k≤8∧∀x∈lo,Short x:=by
 have h1:(vs lo).length≤8:=h.l.len;rw[gq,hs.len] at h1;refine⟨h1,fun x hx=>?_⟩;have b:=aA.AX (h.l.ok x.v (List.mem_map.2 ⟨x,hx,rfl⟩));have i:=hs.i x hx;exact⟨by rw[← i.p.sls.len];exact b.p,by rw[← i.v.len];exact b.v,by rw[← i.r.len];exact b.r⟩
theorem aA.YU(t:aG.T):(aA.Jy t).length≤35:=by
 have h0:=aA.tK t.s0;have h1:=aA.tK t.s1;have h2:=aA.tK t.s2;have h3:=aA.tK t.s3;have h4:=aA.tK t.s4;unfold aA.Jy;simp only[List.length_append];omega
theorem aA.Zc{w:World}{A:Option Addr}{k c:Nat}{lo:List Oh}(n:Int)(t:aG.T)(hs:dS w A k c lo)(hk:k≤8)(hsh:∀x∈lo,Short x):(aA.mH ⟨n,vs lo,t⟩).length≤1000:=by
 have h1:=aA.NC hs hk hsh;rw[aA.EW] at h1;have h2:=aA.YU t;unfold aA.mH;rw[List.length_cons,List.length_append]
 show(aA.many aA.mV (vs lo)).length+(aA.Jy t).length+1≤_
 omega
theorem akh{s:Ap.St}(h:Ap.Ok s):aA.E s=aF.E ((aA.mH s).map aA.toW):=if_pos h
theorem sj(n:Int)(A:Option Addr)(k c:Nat)(t:aG.T)(lo:List Oh)(w:World)(hs:dS w A k c lo)(hf:aG.Fit t)(hfit:aA.Fit (aA.mH ⟨n,vs lo,t⟩)):
  Calls prog 4 #[.agg (stA n A k c t)] w (Cx (aA.E ⟨n,vs lo,t⟩) w):=by
 have nN:Hid (∀W,Below w.heap.size w W→Calls prog 9 #[.agg (stA n A k c t)] W (dw (decide (Ap.Ok ⟨n,vs lo,t⟩)) W)):=zH fun W hW=>yQ n A k c t lo W (hs.later hW) hf
 have HK:=jw w 33 (stA n A k c t);by_cases hok:Ap.Ok ⟨n,vs lo,t⟩
 case neg=>
  rw[aA.agG hok];rw[decide_eq_false hok] at nN;unfold dw at nN;clear hs hf hfit hok;go_enter func4,ntmps4;go_wp2_with refine zX (lq HK 0) ?_;refine cb (nN.out _ HK.out.b) HK ?_;clear HK;intro _ HK;go_wp2_with fail;go_ret2;exact⟨rfl,HK.out.b⟩
 case pos=>
  obtain⟨hk,hsh⟩:=Vd hs hok;have HIt:Hid (∀W,Below w.heap.size w W→Calls prog 11 #[.agg (stA n A k c t)] W (gY aD (aA.mH ⟨n,vs lo,t⟩) W)):=zH fun W hW=>Lj n A k c t lo W (hs.later hW) hf hk hsh
  have hl:=aA.Zc n t hs hk hsh;have hg:=aA.aaL hok hfit;rw[akh hok];rw[decide_eq_true hok] at nN;unfold dw at nN;generalize aA.mH ⟨n,vs lo,t⟩=its at *
  have HE:Hid (∀(A:Option Addr) (m c:Nat) W,m=its.length→aD.Reads W W.heap.size A its→Calls prog 10 #[.slice A m c] W (Cx (aF.E (its.map aA.toW)) W)):=zH fun A m c W hm hr=>Gb A m c its W hm hl hr hg
  unfold Cx at HE ⊢;unfold gY at HIt;clear hs hf hfit hok hk hsh hl hg;generalize aF.E (its.map aA.toW)=r at *
  obtain⟨r1,r2⟩:=r;simp only at HE ⊢;go_enter func4,ntmps4;go_wp2_with refine zX (lq HK 0) ?_;refine cb (nN.out _ HK.out.b) HK ?_;clear HK;intro _ HK;go_wp2_with refine zX (lq HK 0) ?_;refine(HIt.out _ HK.out.b).mono ?_;rintro e w2 ⟨A2,n2,c2,rfl,o2,b2⟩;replace HK:=iH HK b2;have HI:=zH (Lay.Own.reads o2);clear b2 o2;go_wp2_with fail;refine cb (HE.out _ _ _ _ HI.out.1 HI.out.2) HK ?_;clear HK;intro _ HK;go_wp2_with fail;go_ret2;exact⟨rfl,HK.out.b⟩
end
section
theorem YM(n:Int):IntKind.u64.wrap n=(Val.us n:Int):=by
 rw[IntKind.wrap_u64];unfold Val.us;omega
theorem ahV{n:Int}:Val.us n<18446744073709551616:=by unfold Val.us;omega
section
variable (b o c n:Nat)(xn yn:Int)(ys:ByteArray)(w:World)
theorem aeA(HX:Hid (∀W,Below w.heap.size w W→W.cell? ⟨b,o+1,none⟩=some (.int .i64 xn))):
  Calls prog 157 #[.slice (some ⟨b,o,none⟩) 1 c] w fun e w'=>e=.returned (.agg #[.int .i64 xn,.int .i64 0,.int .u64 ((0:Nat):Int),.string ⟨#[]⟩])∧Below w.heap.size w w':=by
 have HK:=zH (Kn.start w);have x1:=HX.out _ HK.out.b;go_enter func157,ntmps157;go_wp2_with (first|(refine aL HK ?_;clear HK;intro _ g1 HK;simp only[aS,aK] at HK;clear x1;have x1:=HX.out _ HK.out.b)|refine av (aZ HK 1) ?_|(first|(refine aH HK 1 ?_;clear HK;intro _ HK;simp only[lS] at HK;clear x1;have x1:=HX.out _ HK.out.b)|(refine aH HK 0 ?_;clear HK;intro _ HK;simp only[lS] at HK;clear x1;have x1:=HX.out _ HK.out.b)));exact SA
theorem aey(hn:2≤n)(hc:n≤c)(hbig:n≤9223372036854775807)(ok:Bool)(hN:∀W,Calls prog 109 #[.int .i64 xn] W (gN true false false ok W))(HX:Hid (∀W,Below w.heap.size w W→W.cell? ⟨b,o+1,none⟩=some (.int .i64 xn)∧W.cell? ⟨b,o+4,none⟩=some (.int .i64 yn)∧W.cell? ⟨b,o+5,none⟩=some (.string ys))):
  Calls prog 157 #[.slice (some ⟨b,o,none⟩) n c] w fun e w'=>e=.returned (.agg #[.int .i64 xn,.int .i64 yn,.int .u64 ((0:Nat):Int),.string ⟨#[]⟩])∧Below w.heap.size w w':=by
 have h1:((n:Int)==1)=false:=by simp;omega
 have h2:(1:Int)<(n:Int):=by omega
 have h3:(0:Int)<(n:Int):=by omega
 have h4:¬n=1:=by omega
 have h5:0<n:=by omega
 have h6:1<n:=by omega
 have HN:=zH hN;clear hN hn hc hbig;have HK:=zH (Kn.start w);obtain⟨x1,x4,x5⟩:=HX.out _ HK.out.b;go_enter func157,ntmps157;go_upto_region 4 with (first|(refine aL HK ?_;clear HK;intro _ g1 HK;simp only[aS,aK] at HK;clear x1 x4 x5;obtain⟨x1,x4,x5⟩:=HX.out _ HK.out.b)|(first|(refine aH HK 1 ?_;clear HK;intro _ HK;simp only[lS] at HK;clear x1 x4 x5;obtain⟨x1,x4,x5⟩:=HX.out _ HK.out.b)|(refine aH HK 0 ?_;clear HK;intro _ HK;simp only[lS] at HK;clear x1 x4 x5;obtain⟨x1,x4,x5⟩:=HX.out _ HK.out.b)));have z0:=HK.out.cell 1 rfl 0 (v:=.int .i64 xn) rfl;go_wp2_with fail;refine(HN.out _).mono ?_;rintro e w1 ⟨rfl,b1⟩;replace HK:=iH HK b1;clear b1 z0;go_upto_region 5 with (first|(refine jd HK ?_;clear HK;intro _ g3 HK;simp only[aS,aK] at HK)|(refine iZ HK 2 ?_;clear HK;intro _ HK;simp only[lS] at HK));clear x1 x4 x5;obtain⟨x1,x4,x5⟩:=HX.out _ HK.out.b;have y0:=HK.out.cell 2 rfl 0 (v:=.bool true) rfl;have y1:=HK.out.cell 2 rfl 1 (v:=.bool false) rfl;have y2:=HK.out.cell 2 rfl 2 (v:=.bool false) rfl;go_wp2_with (first|(refine pJ HK 1 ?_;clear HK;intro _ HK;simp only[lS] at HK;clear x1 x4 x5 y0 y1 y2;obtain⟨x1,x4,x5⟩:=HX.out _ HK.out.b;have y0:=HK.out.cell 2 rfl 0 (v:=.bool true) rfl;have y1:=HK.out.cell 2 rfl 1 (v:=.bool false) rfl;have y2:=HK.out.cell 2 rfl 2 (v:=.bool false) rfl)|(refine pK HK 1 ?_;clear HK;intro _ HK;simp only[lS] at HK;clear x1 x4 x5 y0 y1 y2;obtain⟨x1,x4,x5⟩:=HX.out _ HK.out.b;have y0:=HK.out.cell 2 rfl 0 (v:=.bool true) rfl;have y1:=HK.out.cell 2 rfl 1 (v:=.bool false) rfl;have y2:=HK.out.cell 2 rfl 2 (v:=.bool false) rfl)|(refine pI HK 1 ?_;clear HK;intro _ HK;simp only[lS] at HK;clear x1 x4 x5 y0 y1 y2;obtain⟨x1,x4,x5⟩:=HX.out _ HK.out.b;have y0:=HK.out.cell 2 rfl 0 (v:=.bool true) rfl;have y1:=HK.out.cell 2 rfl 1 (v:=.bool false) rfl;have y2:=HK.out.cell 2 rfl 2 (v:=.bool false) rfl)|refine av (aZ HK 1) ?_|(refine aH HK 0 ?_;clear HK;intro _ HK;simp only[lS] at HK));exact SA
theorem aez(hn:2≤n)(hc:n≤c)(hbig:n≤9223372036854775807)(ok:Bool)(hN:∀W,Calls prog 109 #[.int .i64 xn] W (gN false true false ok W))(HX:Hid (∀W,Below w.heap.size w W→W.cell? ⟨b,o+1,none⟩=some (.int .i64 xn)∧W.cell? ⟨b,o+4,none⟩=some (.int .i64 yn)∧W.cell? ⟨b,o+5,none⟩=some (.string ys))):
  Calls prog 157 #[.slice (some ⟨b,o,none⟩) n c] w fun e w'=>e=.returned (.agg #[.int .i64 xn,.int .i64 0,.int .u64 ((Val.us yn:Nat):Int),.string ⟨#[]⟩])∧Below w.heap.size w w':=by
 have h1:((n:Int)==1)=false:=by simp;omega
 have h2:(1:Int)<(n:Int):=by omega
 have h3:(0:Int)<(n:Int):=by omega
 have h4:¬n=1:=by omega
 have h5:0<n:=by omega
 have h6:1<n:=by omega
 have HN:=zH hN;clear hN hn hc hbig;have hus:=YM yn;generalize Val.us yn=z at *
 have HK:=zH (Kn.start w);obtain⟨x1,x4,x5⟩:=HX.out _ HK.out.b;go_enter func157,ntmps157;go_upto_region 4 with (first|(refine aL HK ?_;clear HK;intro _ g1 HK;simp only[aS,aK] at HK;clear x1 x4 x5;obtain⟨x1,x4,x5⟩:=HX.out _ HK.out.b)|(first|(refine aH HK 1 ?_;clear HK;intro _ HK;simp only[lS] at HK;clear x1 x4 x5;obtain⟨x1,x4,x5⟩:=HX.out _ HK.out.b)|(refine aH HK 0 ?_;clear HK;intro _ HK;simp only[lS] at HK;clear x1 x4 x5;obtain⟨x1,x4,x5⟩:=HX.out _ HK.out.b)));have z0:=HK.out.cell 1 rfl 0 (v:=.int .i64 xn) rfl;go_wp2_with fail;refine(HN.out _).mono ?_;rintro e w1 ⟨rfl,b1⟩;replace HK:=iH HK b1;clear b1 z0;go_upto_region 5 with (first|(refine jd HK ?_;clear HK;intro _ g3 HK;simp only[aS,aK] at HK)|(refine iZ HK 2 ?_;clear HK;intro _ HK;simp only[lS] at HK));clear x1 x4 x5;obtain⟨x1,x4,x5⟩:=HX.out _ HK.out.b;have y0:=HK.out.cell 2 rfl 0 (v:=.bool false) rfl;have y1:=HK.out.cell 2 rfl 1 (v:=.bool true) rfl;have y2:=HK.out.cell 2 rfl 2 (v:=.bool false) rfl;go_wp2_with (first|(refine pJ HK 1 ?_;clear HK;intro _ HK;simp only[lS] at HK;clear x1 x4 x5 y0 y1 y2;obtain⟨x1,x4,x5⟩:=HX.out _ HK.out.b;have y0:=HK.out.cell 2 rfl 0 (v:=.bool false) rfl;have y1:=HK.out.cell 2 rfl 1 (v:=.bool true) rfl;have y2:=HK.out.cell 2 rfl 2 (v:=.bool false) rfl)|(refine pK HK 1 ?_;clear HK;intro _ HK;simp only[lS] at HK;clear x1 x4 x5 y0 y1 y2;obtain⟨x1,x4,x5⟩:=HX.out _ HK.out.b;have y0:=HK.out.cell 2 rfl 0 (v:=.bool false) rfl;have y1:=HK.out.cell 2 rfl 1 (v:=.bool true) rfl;have y2:=HK.out.cell 2 rfl 2 (v:=.bool false) rfl)|(refine pI HK 1 ?_;clear HK;intro _ HK;simp only[lS] at HK;clear x1 x4 x5 y0 y1 y2;obtain⟨x1,x4,x5⟩:=HX.out _ HK.out.b;have y0:=HK.out.cell 2 rfl 0 (v:=.bool false) rfl;have y1:=HK.out.cell 2 rfl 1 (v:=.bool true) rfl;have y2:=HK.out.cell 2 rfl 2 (v:=.bool false) rfl)|refine av (aZ HK 1) ?_|(refine aH HK 0 ?_;clear HK;intro _ HK;simp only[lS] at HK));exact SA
theorem aex(hn:2≤n)(hc:n≤c)(hbig:n≤9223372036854775807)(ok:Bool)(hN:∀W,Calls prog 109 #[.int .i64 xn] W (gN false false true ok W))(HX:Hid (∀W,Below w.heap.size w W→W.cell? ⟨b,o+1,none⟩=some (.int .i64 xn)∧W.cell? ⟨b,o+4,none⟩=some (.int .i64 yn)∧W.cell? ⟨b,o+5,none⟩=some (.string ys))):
  Calls prog 157 #[.slice (some ⟨b,o,none⟩) n c] w fun e w'=>e=.returned (.agg #[.int .i64 xn,.int .i64 0,.int .u64 ((0:Nat):Int),.string ys])∧Below w.heap.size w w':=by
 have h1:((n:Int)==1)=false:=by simp;omega
 have h2:(1:Int)<(n:Int):=by omega
 have h3:(0:Int)<(n:Int):=by omega
 have h4:¬n=1:=by omega
 have h5:0<n:=by omega
 have h6:1<n:=by omega
 have HN:=zH hN;clear hN hn hc hbig;have HK:=zH (Kn.start w);obtain⟨x1,x4,x5⟩:=HX.out _ HK.out.b;go_enter func157,ntmps157;go_upto_region 4 with (first|(refine aL HK ?_;clear HK;intro _ g1 HK;simp only[aS,aK] at HK;clear x1 x4 x5;obtain⟨x1,x4,x5⟩:=HX.out _ HK.out.b)|(first|(refine aH HK 1 ?_;clear HK;intro _ HK;simp only[lS] at HK;clear x1 x4 x5;obtain⟨x1,x4,x5⟩:=HX.out _ HK.out.b)|(refine aH HK 0 ?_;clear HK;intro _ HK;simp only[lS] at HK;clear x1 x4 x5;obtain⟨x1,x4,x5⟩:=HX.out _ HK.out.b)));have z0:=HK.out.cell 1 rfl 0 (v:=.int .i64 xn) rfl;go_wp2_with fail;refine(HN.out _).mono ?_;rintro e w1 ⟨rfl,b1⟩;replace HK:=iH HK b1;clear b1 z0;go_upto_region 5 with (first|(refine jd HK ?_;clear HK;intro _ g3 HK;simp only[aS,aK] at HK)|(refine iZ HK 2 ?_;clear HK;intro _ HK;simp only[lS] at HK));clear x1 x4 x5;obtain⟨x1,x4,x5⟩:=HX.out _ HK.out.b;have y0:=HK.out.cell 2 rfl 0 (v:=.bool false) rfl;have y1:=HK.out.cell 2 rfl 1 (v:=.bool false) rfl;have y2:=HK.out.cell 2 rfl 2 (v:=.bool true) rfl;go_wp2_with (first|(refine pJ HK 1 ?_;clear HK;intro _ HK;simp only[lS] at HK;clear x1 x4 x5 y0 y1 y2;obtain⟨x1,x4,x5⟩:=HX.out _ HK.out.b;have y0:=HK.out.cell 2 rfl 0 (v:=.bool false) rfl;have y1:=HK.out.cell 2 rfl 1 (v:=.bool false) rfl;have y2:=HK.out.cell 2 rfl 2 (v:=.bool true) rfl)|(refine pK HK 1 ?_;clear HK;intro _ HK;simp only[lS] at HK;clear x1 x4 x5 y0 y1 y2;obtain⟨x1,x4,x5⟩:=HX.out _ HK.out.b;have y0:=HK.out.cell 2 rfl 0 (v:=.bool false) rfl;have y1:=HK.out.cell 2 rfl 1 (v:=.bool false) rfl;have y2:=HK.out.cell 2 rfl 2 (v:=.bool true) rfl)|(refine pI HK 1 ?_;clear HK;intro _ HK;simp only[lS] at HK;clear x1 x4 x5 y0 y1 y2;obtain⟨x1,x4,x5⟩:=HX.out _ HK.out.b;have y0:=HK.out.cell 2 rfl 0 (v:=.bool false) rfl;have y1:=HK.out.cell 2 rfl 1 (v:=.bool false) rfl;have y2:=HK.out.cell 2 rfl 2 (v:=.bool true) rfl)|refine av (aZ HK 1) ?_|(refine aH HK 0 ?_;clear HK;intro _ HK;simp only[lS] at HK));exact SA
theorem Tp(hn:2≤n)(hc:n≤c)(hbig:n≤9223372036854775807)(ok:Bool)(hN:∀W,Calls prog 109 #[.int .i64 xn] W (gN false false false ok W))(HX:Hid (∀W,Below w.heap.size w W→W.cell? ⟨b,o+1,none⟩=some (.int .i64 xn)∧W.cell? ⟨b,o+4,none⟩=some (.int .i64 yn)∧W.cell? ⟨b,o+5,none⟩=some (.string ys))):
  Calls prog 157 #[.slice (some ⟨b,o,none⟩) n c] w fun e w'=>e=.returned (.agg #[.int .i64 xn,.int .i64 0,.int .u64 ((0:Nat):Int),.string ⟨#[]⟩])∧Below w.heap.size w w':=by
 have h1:((n:Int)==1)=false:=by simp;omega
 have h2:(1:Int)<(n:Int):=by omega
 have h3:(0:Int)<(n:Int):=by omega
 have h4:¬n=1:=by omega
 have h5:0<n:=by omega
 have h6:1<n:=by omega
 have HN:=zH hN;clear hN hn hc hbig;have HK:=zH (Kn.start w);obtain⟨x1,x4,x5⟩:=HX.out _ HK.out.b;go_enter func157,ntmps157;go_upto_region 4 with (first|(refine aL HK ?_;clear HK;intro _ g1 HK;simp only[aS,aK] at HK;clear x1 x4 x5;obtain⟨x1,x4,x5⟩:=HX.out _ HK.out.b)|(first|(refine aH HK 1 ?_;clear HK;intro _ HK;simp only[lS] at HK;clear x1 x4 x5;obtain⟨x1,x4,x5⟩:=HX.out _ HK.out.b)|(refine aH HK 0 ?_;clear HK;intro _ HK;simp only[lS] at HK;clear x1 x4 x5;obtain⟨x1,x4,x5⟩:=HX.out _ HK.out.b)));have z0:=HK.out.cell 1 rfl 0 (v:=.int .i64 xn) rfl;go_wp2_with fail;refine(HN.out _).mono ?_;rintro e w1 ⟨rfl,b1⟩;replace HK:=iH HK b1;clear b1 z0;go_upto_region 5 with (first|(refine jd HK ?_;clear HK;intro _ g3 HK;simp only[aS,aK] at HK)|(refine iZ HK 2 ?_;clear HK;intro _ HK;simp only[lS] at HK));clear x1 x4 x5;obtain⟨x1,x4,x5⟩:=HX.out _ HK.out.b;have y0:=HK.out.cell 2 rfl 0 (v:=.bool false) rfl;have y1:=HK.out.cell 2 rfl 1 (v:=.bool false) rfl;have y2:=HK.out.cell 2 rfl 2 (v:=.bool false) rfl;go_wp2_with (first|(refine pJ HK 1 ?_;clear HK;intro _ HK;simp only[lS] at HK;clear x1 x4 x5 y0 y1 y2;obtain⟨x1,x4,x5⟩:=HX.out _ HK.out.b;have y0:=HK.out.cell 2 rfl 0 (v:=.bool false) rfl;have y1:=HK.out.cell 2 rfl 1 (v:=.bool false) rfl;have y2:=HK.out.cell 2 rfl 2 (v:=.bool false) rfl)|(refine pK HK 1 ?_;clear HK;intro _ HK;simp only[lS] at HK;clear x1 x4 x5 y0 y1 y2;obtain⟨x1,x4,x5⟩:=HX.out _ HK.out.b;have y0:=HK.out.cell 2 rfl 0 (v:=.bool false) rfl;have y1:=HK.out.cell 2 rfl 1 (v:=.bool false) rfl;have y2:=HK.out.cell 2 rfl 2 (v:=.bool false) rfl)|(refine pI HK 1 ?_;clear HK;intro _ HK;simp only[lS] at HK;clear x1 x4 x5 y0 y1 y2;obtain⟨x1,x4,x5⟩:=HX.out _ HK.out.b;have y0:=HK.out.cell 2 rfl 0 (v:=.bool false) rfl;have y1:=HK.out.cell 2 rfl 1 (v:=.bool false) rfl;have y2:=HK.out.cell 2 rfl 2 (v:=.bool false) rfl)|refine av (aZ HK 1) ?_|(refine aH HK 0 ?_;clear HK;intro _ HK;simp only[lS] at HK));exact SA
end
theorem Pg(b o c n:Nat)(l:List ny.It)(w:World)(hl:l.length=n)(h0:0<n)(hc:n≤c)(hbig:n≤9223372036854775807)(hb:b<w.heap.size)(hi:∀i x,l[i]?=some x→aD.At w b o i x):
  Calls prog 157 #[.slice (some ⟨b,o,none⟩) n c] w fun e w'=>e=.returned (vv (Val.take l))∧Below w.heap.size w w':=by
 match l,hl with
 | [],hl=>simp at hl;omega
 | [x],hl=>
  obtain rfl:n=1:=by simpa using hl.symm
  exact aeA b o c x.n w (zH fun W hW=>by
   have:=(ug ((hi 0 x rfl).keep (w':=W) fun q hq=>hW.cell (by rw[hq];exact hb))).2.1
   simpa using this)
 | x::y::r,hl=>
  have hn2:2≤n:=by simp at hl;omega
  have HX:Hid (∀W,Below w.heap.size w W→W.cell? ⟨b,o+1,none⟩=some (.int .i64 x.n)∧W.cell? ⟨b,o+4,none⟩=some (.int .i64 y.n)∧W.cell? ⟨b,o+5,none⟩=some (.string y.s)):=zH fun W hW=>by
   have k0:=(ug ((hi 0 x rfl).keep (w':=W) fun q hq=>hW.cell (by rw[hq];exact hb))).2.1;have k1:=ug ((hi 1 y rfl).keep (w':=W) fun q hq=>hW.cell (by rw[hq];exact hb));exact⟨by simpa using k0,by simpa using k1.2.1,by simpa using k1.2.2⟩
  unfold Val.take vv;simp only;by_cases h1:x.n=1
  ·rw[if_pos h1,if_neg (by omega),if_neg (by omega)]
   exact aey b o c n x.n y.n y.s w hn2 hc hbig true (fun W=>by rw[h1];exact Lu W) HX
  by_cases h2:x.n=2
  ·rw[if_neg (by omega),if_pos h2,if_neg (by omega)]
   exact aez b o c n x.n y.n y.s w hn2 hc hbig true (fun W=>by rw[h2];exact Ls W) HX
  by_cases h3:x.n=3
  ·rw[if_neg (by omega),if_neg (by omega),if_pos h3]
   exact aex b o c n x.n y.n y.s w hn2 hc hbig true (fun W=>by rw[h3];exact Lr W) HX
  ·rw[if_neg h1,if_neg h2,if_neg h3]
   by_cases h4:x.n=0
   ·exact Tp b o c n x.n y.n y.s w hn2 hc hbig true (fun W=>by rw[h4];exact Lv W) HX
   ·exact Tp b o c n x.n y.n y.s w hn2 hc hbig false (fun W=>Lp x.n W) HX
theorem Pp(l:List ny.It):(Val.take l).f<18446744073709551616:=by
 match l with
 | []=>show(0:Nat)<18446744073709551616;decide
 | [x]=>show(0:Nat)<18446744073709551616;decide
 | x::y::r=>
  unfold Val.take;simp only
  split
  ·exact ahV
  ·decide
end
section
namespace ny
theorem Pn{a b:ByteArray}(h:a.toList=b.toList):a=b:=by
 rw[ByteArray.toList_eq,ByteArray.toList_eq] at h;exact ByteArray.ext (Array.toList_inj.1 h)
theorem afs{x y:Int}(h:¬x=y):(x != y)=true:=by simpa using h
end ny
def XP(l m:List ny.It)(w:World)(e:Ending)(w':World):Prop:=∃b,e=.returned (.bool b)∧(b=true↔l=m)∧∃n,w'=w.drewN n
theorem Im(A A':Option Addr)(c c':Nat)(l m:List ny.It)(w:World)(B B':Nat)(hl:l.length≤9223372036854775807)(_hm:m.length≤9223372036854775807)(hi:aD.Reads w B A l)(hi':aD.Reads w B' A' m):
  Calls prog 158 #[.slice A l.length c,.slice A' m.length c'] w (XP l m w):=by
 by_cases hlen:l.length=m.length
 ·have HI:=zH hi
  have HI':=zH hi';rw[← hlen];clear hi hi' _hm;generalize hn:l.length=n at *
  have HN:=zH hn;have HM:=zH hlen;clear hn hlen;have hnn:((n:Int) != (n:Int))=false:=by simp
  go_enter func158,ntmps158;go_wp2_with fail;go_loopw [13] (fun vi wr=>∃k q:Nat,k≤n∧vi=.int .i64 k∧wr=w.drewN q∧Hid (l.take k=m.take k)) (fun vi _=>n-(intOf vi).toNat)
  case atStart=>exact⟨0,0,Nat.zero_le _,rfl,rfl,zH rfl⟩
  case round=>
   obtain⟨k,q,hk,rfl,rfl,HT⟩:=hrel;by_cases hlt:k<n
   ·obtain⟨x,hx⟩:=Lay.dW (l:=l) (k:=k) (by rw[HN.out];exact hlt)
    obtain⟨y,hy⟩:=Lay.dW (l:=m) (k:=k) (by rw[← HM.out];exact hlt);obtain⟨b,o,rfl,_,hc⟩:=HI.out (by rw[HN.out];omega);obtain⟨b',o',rfl,_,hc'⟩:=HI'.out (by rw[← HM.out];omega);obtain⟨c0,c1,c2⟩:=ug (hc k x hx);obtain⟨d0,d1,d2⟩:=ug (hc' k y hy)
    have HXY:Hid (x≠y→l=m→False):=zH (fun h e=>by
     subst e;rw[hx] at hy
     exact h (Option.some.inj hy))
    have HT1:Hid (x=y→l.take (k+1)=m.take (k+1)):=zH fun e=>by
     rw[Lay.take_succ hx,Lay.take_succ hy,HT.out,e]
    clear hc hc' hx hy;have hk1:(0:Int)≤(k:Int):=by omega
    have hk2:(k:Int)<(n:Int):=by omega
    obtain⟨xk,xn,xs⟩:=x;obtain⟨yk,yn,ys⟩:=y;simp only at c0 c1 c2 d0 d1 d2
    have hcases:(xk=yk∧xn=yn∧xs=ys)∨((⟨xk,xn,xs⟩:ny.It)≠⟨yk,yn,ys⟩∧((xk==yk)=false∨(xn==yn)=false∨((xs.toList==ys.toList)=false∧¬xs.toList=ys.toList))):=by
     by_cases e1:xk=yk
     ·by_cases e2:xn=yn
      ·by_cases e3:xs=ys
       ·exact .inl ⟨e1,e2,e3⟩
       ·have h2:¬xs.toList=ys.toList:=fun e=>e3 (ny.Pn e)
        exact .inr ⟨fun e=>e3 (by injection e),.inr (.inr ⟨by simpa using h2,h2⟩)⟩
      ·exact .inr ⟨fun e=>e2 (by injection e),.inr (.inl (by simpa using e2))⟩
     ·exact .inr ⟨fun e=>e1 (by injection e),.inl (by simpa using e1)⟩
    rcases hcases with ⟨rfl,rfl,rfl⟩|⟨hne,hd⟩
    ·go_wp2_with fail
     go_quiet (fail);go_wp2_with fail;exact⟨⟨k+1,q+nq,by omega,by go_num,rfl,zH (HT1.out (by first|trivial|rfl))⟩,by simp[intOf];omega⟩
    ·have HF:=zH (HXY.out hne)
     clear HXY hne
     rcases hd with hd|hd|⟨hd,hd2⟩
     all_goals
      go_wp2_with fail;go_quiet (fail);go_wp2_with fail;go_ret;exact⟨false,rfl,⟨(fun e=>by cases e),fun e=>(HF.out e).elim⟩,q+nq,by rw[World.drewN_drewN]⟩
   ·obtain rfl:k=n:=by omega
    have HE:Hid (l=m):=zH (by have h:=HT.out;rwa [List.take_of_length_le (by rw[HN.out];exact Nat.le_refl _),List.take_of_length_le (by rw[← HM.out];exact Nat.le_refl _)] at h);go_wp2_with fail;go_ret;exact⟨true,rfl,⟨fun _=>HE.out,fun _=>rfl⟩,q,rfl⟩
 ·have hne:((l.length:Int) != (m.length:Int))=true:=ny.afs (by omega)
  have HF:Hid (l=m→False):=zH (fun e=>hlen (by rw[e]));generalize l.length=n at *
  generalize m.length=n' at *
  clear hlen hi hi';go_enter func158,ntmps158;go_wp2_with fail;go_ret;exact⟨false,rfl,⟨(fun e=>by cases e),fun e=>(HF.out e).elim⟩,0,rfl⟩
end
section
def DY(v:Val.V)(p z n:Nat)(c:Prop)(w:World)(e:Ending)(w':World):Prop:=∃(u:Val.V) (y:Nat) (b:Bool),e=.returned (.tuple #[vv u,.int .i64 (y:Int),.bool b])∧(c→u=v∧y=z∧b=true)∧(¬c→b=false)∧(b=true→p≤y∧y≤n)∧u.f<18446744073709551616∧Below w.heap.size w w'
theorem vJ{fn:Func}{R:Ending→World→Prop}{a:Act}{w:World}{B:Nat}{k n:Int}{f:Nat}{s:ByteArray}{u z:Value}{q q2 q3:Tmp}(hf:fn.results=#[.cell q 26,.tmp q2,.tmp q3])(hb:eT w B 26 (vC k n f s))
  (hR:R (.returned (.tuple #[.agg #[.int .i64 k,.int .i64 n,.int .u64 (f:Int),.string s],u,z])) w) (h2:a.tmps[q]?=some (.pointer (some ⟨B,0,none⟩)):=by rfl)(h3:a.tmps[q2]?=some u:=by rfl)(h4:a.tmps[q3]?=some z:=by rfl)(hd:a.defers=[]:=by rfl):bodyPost prog fn R Exit.ret a w:=by
 refine bodyPost_ret (v:=.tuple #[.agg #[.int .i64 k,.int .i64 n,.int .u64 (f:Int),.string s],u,z]) ?_ hd hR;exact ahw
theorem aay(v:Val.V):1≤(Val.items v).length∧(Val.items v).length≤2:=by
 rw[sI];(repeat' split)<;>simp
theorem Xv{w:World}{b o:Nat}{l:List ny.It}(p:Nat)(h:∀i x,l[i]?=some x→aD.At w b o i x):∀i x,(l.drop p)[i]?=some x→aD.At w b (o+p*3) i x:=fun i x hx=>by
 rw[List.getElem?_drop] at hx;have h1:=h _ _ hx;intro j u hu;have:=h1 j u hu;have e:aD.k=3:=rfl;rw[e] at this ⊢;rw[show o+p*3+i*3+j=o+(p+i)*3+j from by omega];exact this
theorem Ka(A:Option Addr)(c n p:Nat)(l:List ny.It)(w:World)(hl:l.length=n)(hp:p≤n)(hc:n≤c)(hbig:n≤1000000000)(hi:aD.Reads w w.heap.size A l):
  Calls prog 148 #[.slice A n c,.int .i64 p] w
   (DY (Val.take (l.drop p)) p (p+(Val.items (Val.take (l.drop p))).length) n (p<n∧Val.aX (Val.take (l.drop p))=0∧p+(Val.items (Val.take (l.drop p))).length≤n∧(l.drop p).take (Val.items (Val.take (l.drop p))).length=Val.items (Val.take (l.drop p))) w):=by
 have HZ:Hid (∀c w',Below w.heap.size w w'→¬c→DY (Val.take (l.drop p)) p (p+(Val.items (Val.take (l.drop p))).length) n c w (.returned (.tuple #[.agg #[.int .i64 0,.int .i64 0,.int .u64 ((0:Nat):Int),.string ⟨#[]⟩],.int .i64 ((0:Nat):Int),.bool false])) w'):=
  zH fun c w' hb hc=>⟨⟨0,0,0,⟨#[]⟩⟩,0,false,rfl,fun h=>absurd h hc,(fun _=>rfl),(fun h=>by cases h),(by decide),hb⟩
 by_cases hpn:p<n
 case neg=>
  have hpe:¬((p:Int)<(n:Int)):=by omega
  have h1:¬((p:Int)<0):=by omega
  have h2:(n:Int)≤(p:Int):=by omega
  have HF:Hid (¬(p<n∧Val.aX (Val.take (l.drop p))=0∧p+(Val.items (Val.take (l.drop p))).length≤n∧(l.drop p).take (Val.items (Val.take (l.drop p))).length=Val.items (Val.take (l.drop p)))):=zH fun h=>hpn h.1
  generalize (p<n∧Val.aX (Val.take (l.drop p))=0∧p+(Val.items (Val.take (l.drop p))).length≤n∧(l.drop p).take (Val.items (Val.take (l.drop p))).length=Val.items (Val.take (l.drop p)))=cc at *
  generalize p+(Val.items (Val.take (l.drop p))).length=zz at *
  generalize Val.take (l.drop p)=v at *
  have HK:=zH (Kn.start w);clear hi hl hpn;go_enter func148,ntmps148;go_wp2_with (first|(refine aL HK ?_;clear HK;intro _ g1 HK;simp only[aS,aK] at HK)|(refine aH (f2:=0) HK 0 ?_;clear HK;intro _ HK;simp only[lS] at HK));exact vJ results148 (HK.out.blk 0 rfl) (HZ.out _ _ HK.out.b HF.out)
 case pos=>
 obtain⟨b,o,rfl,hb,hat⟩:=hi (by omega);have HT:=zH (fun W (hW:Below w.heap.size w W)=>Pg b (o+p*3) (c-p) (n-p) (l.drop p) W (by rw[List.length_drop,hl]) (by omega) (by omega) (by omega) (Nat.lt_of_lt_of_le hb hW.size) (Xv p fun i x hx=>(hat i x hx).keep fun q hq=>hW.cell (by rw[hq];exact hb)));have hf:=Pp (l.drop p);have hil:=aay (Val.take (l.drop p));have HI:=zH hi;have HIt:=zH (fun W=>Ag (Val.take (l.drop p)) W hf);have FQ:=zH (fun W=>tY (Val.take (l.drop p)) W hf);have HF:=zH hf
 have hcd:p+(Val.items (Val.take (l.drop p))).length≤n→((l.drop p).take (Val.items (Val.take (l.drop p))).length).length=(Val.items (Val.take (l.drop p))).length:=fun h=>by
  rw[List.length_take,List.length_drop,hl];omega
 have HEQ:Hid (∀W A' c' m,Below w.heap.size w W→aD.Reads W W.heap.size A' (Val.items (Val.take (l.drop p)))→(Val.items (Val.take (l.drop p))).length=m→p+m≤n→Calls prog 158 #[.slice (some ⟨b,o+p*3,none⟩) m (c-p),.slice A' m c'] W (XP ((l.drop p).take (Val.items (Val.take (l.drop p))).length) (Val.items (Val.take (l.drop p))) W)):=zH (by
  intro W A' c' m hW ho hm hle;subst hm;have h:=Im (some ⟨b,o+p*3,none⟩) A' (c-p) c' ((l.drop p).take (Val.items (Val.take (l.drop p))).length) (Val.items (Val.take (l.drop p))) W W.heap.size W.heap.size (by rw[hcd (by omega)];omega) (by omega) (((HI.out.later hW (Nat.le_refl _)).drop p).take _) ho;rw[hcd (by omega)] at h
  exact h)
 have hpc:p≤c:=by omega
 have hm:=hil.2;clear hi hat hf hl hil
 have HG:Hid (∀w',Below w.heap.size w w'→p+(Val.items (Val.take (l.drop p))).length≤n→(p<n∧Val.aX (Val.take (l.drop p))=0∧p+(Val.items (Val.take (l.drop p))).length≤n∧(l.drop p).take (Val.items (Val.take (l.drop p))).length=Val.items (Val.take (l.drop p)))→DY (Val.take (l.drop p)) p (p+(Val.items (Val.take (l.drop p))).length) n (p<n∧Val.aX (Val.take (l.drop p))=0∧p+(Val.items (Val.take (l.drop p))).length≤n∧(l.drop p).take (Val.items (Val.take (l.drop p))).length=Val.items (Val.take (l.drop p))) w (.returned (.tuple #[vv (Val.take (l.drop p)),.int .i64 ((p+(Val.items (Val.take (l.drop p))).length:Nat):Int),.bool true])) w'):=
  zH fun w' hb hle hcc=>⟨_,_,true,rfl,fun _=>⟨rfl,rfl,rfl⟩,fun h=>absurd hcc h,fun _=>⟨by omega,hle⟩,HF.out,hb⟩
 have HN:Hid ((p<n∧Val.aX (Val.take (l.drop p))=0∧p+(Val.items (Val.take (l.drop p))).length≤n∧(l.drop p).take (Val.items (Val.take (l.drop p))).length=Val.items (Val.take (l.drop p)))↔Val.aX (Val.take (l.drop p))=0∧p+(Val.items (Val.take (l.drop p))).length≤n∧(l.drop p).take (Val.items (Val.take (l.drop p))).length=Val.items (Val.take (l.drop p))):=zH ⟨fun h=>h.2,fun h=>⟨hpn,h⟩⟩;generalize (p<n∧Val.aX (Val.take (l.drop p))=0∧p+(Val.items (Val.take (l.drop p))).length≤n∧(l.drop p).take (Val.items (Val.take (l.drop p))).length=Val.items (Val.take (l.drop p)))=cc at *
 clear hcd HF;unfold MP at HIt;generalize (l.drop p).take (Val.items (Val.take (l.drop p))).length=pre at *
 generalize Val.take (l.drop p)=v at *
 generalize Val.items v=own at *
 generalize hmm:own.length=m at *
 have HM:=zH hmm;clear hmm;obtain⟨k,q,f,s⟩:=v;generalize hck:Val.aX ⟨k,q,f,s⟩=z at *
 have HCK:=zH hck;clear hck;unfold vv iQ XP at *
 simp only at HT HIt FQ HG;have h1:¬((p:Int)<0):=by omega
 have h2:¬((n:Int)≤(p:Int)):=by omega
 have h3:wrap64 ((p:Int)+(m:Int))=((p+m:Nat):Int):=by unfold wrap64;omega
 have hz:z=0∨(z != 0)=true:=by
  by_cases h:z=0
  ·exact .inl h
  ·exact .inr (by simpa using h)
 have HK:=zH (Kn.start w);go_enter func148,ntmps148;go_wp2_with (refine aL HK ?_;clear HK;intro _ g1 HK;simp only[aS,aK] at HK);refine(HT.out _ HK.out.b).mono ?_;rintro e w1 ⟨rfl,b1⟩;replace HK:=iH HK b1;clear b1 HT;go_wp2_with (first|(refine aL HK ?_;clear HK;intro _ g1 HK;simp only[aS,aK] at HK)|(refine aH HK 1 ?_;clear HK;intro _ HK;simp only[lS] at HK)|refine av (aZ HK 1) ?_);refine(HIt.out _).mono ?_;rintro e w2 ⟨A2,c2,rfl,o2,b2⟩;have HO:=zH (Lay.Own.reads o2).2;replace HK:=iH HK b2;clear b2 o2 HIt;go_wp2_with refine av (aZ HK 1) ?_;refine(FQ.out _).mono ?_;rintro e w3 ⟨rfl,b3⟩;replace HK:=iH HK b3;replace HO:=zH (HO.out.later b3 (Nat.le_refl _));clear b3 FQ
 rcases hz with rfl|hz
 ·by_cases hle:p+m≤n
  ·have h4:¬((n:Int)<((p+m:Nat):Int)):=by omega
   have h5:¬((n:Int)<(p:Int)+(m:Int)):=by omega
   have h6:p+m≤c:=by omega
   have h7:p≤p+m:=by omega
   go_wp2_with fail;refine(HEQ.out _ _ _ _ HK.out.b HO.out rfl hle).mono ?_;rintro e w4 ⟨bb,rfl,hbb,nn,rfl⟩;replace HK:=zH (HK.out.drewN nn);have HBB:=zH hbb;clear hbb;cases bb
   ·go_wp2_with (refine aH (f2:=0) HK 0 ?_;clear HK;intro _ HK;simp only[lS] at HK)
    exact vJ results148 (HK.out.blk 0 rfl) (HZ.out _ _ HK.out.b fun h=>absurd (HBB.out.2 (HN.out.1 h).2.2) (by simp))
   ·go_wp2_with (first|refine av (aZ HK 1) ?_|(refine aH HK 0 ?_;clear HK;intro _ HK;simp only[lS] at HK))
    exact vJ results148 (HK.out.blk 0 rfl) (HG.out _ HK.out.b hle (HN.out.2 ⟨(by first|trivial|rfl),hle,HBB.out.1 (by first|trivial|rfl)⟩))
  ·have h4:((n:Int)<((p+m:Nat):Int)):=by omega
   have h5:((n:Int)<(p:Int)+(m:Int)):=by omega
   go_wp2_with (refine aH (f2:=0) HK 0 ?_;clear HK;intro _ HK;simp only[lS] at HK);exact vJ results148 (HK.out.blk 0 rfl) (HZ.out _ _ HK.out.b fun h=>hle (HN.out.1 h).2.1)
 ·have HNZ:Hid (¬z=0):=zH (by simpa using hz)
  go_wp2_with (refine aH (f2:=0) HK 0 ?_;clear HK;intro _ HK;simp only[lS] at HK);exact vJ results148 (HK.out.blk 0 rfl) (HZ.out _ _ HK.out.b fun h=>HNZ.out (HN.out.1 h).1)
end
section
structure But(g:Nat)(w W:World):Prop where
 os:W.os=w.os
 tape:W.tape=w.tape
 output:W.output=w.output
 size:W.heap.size=w.heap.size
 block:∀k,¬k=g→W.heap[k]?=w.heap[k]?
theorem But.refl(g:Nat)(w:World):But g w w:=⟨rfl,rfl,rfl,rfl,fun _ _=>rfl⟩
def uH(g:Nat)(l:aA.Its)(w:World):Prop:=∃(A:Option Addr) (n c:Nat),eT w g 95 #[.slice A n c]∧aD.Reads w g A l∧l.length=n∧(A=none→l=[])∧n≤c∧n≤16384
theorem uH.lt{g:Nat}{l:aA.Its}{w:World}(h:uH g l w):g<w.heap.size:=by
 obtain⟨A,n,c,hb,_⟩:=h;exact hb.lt
theorem uH.keep{g:Nat}{l:aA.Its}{w w':World}(h:uH g l w)(hb:∀k,k≤g→w'.heap[k]?=w.heap[k]?):uH g l w':=by
 obtain⟨A,n,c,h1,h2,h3⟩:=h;exact⟨A,n,c,(hb g (Nat.le_refl _)).trans h1,h2.keep fun p hp=>World.cell?_of_block (hb p.block (Nat.le_of_lt hp)),h3⟩
theorem uH.below{g b:Nat}{l:aA.Its}{w w':World}(h:uH g l w)(hb:Below b w w')(hg:g<b):uH g l w':=h.keep fun k hk=>hb.block k (by omega)
def tq(g:Nat)(w W0:World)(l:aA.Its):Prop:=But g w W0∧uH g l W0
theorem tq.start{g:Nat}{l:aA.Its}{w:World}(h:uH g l w):tq g w w l:=⟨But.refl g w,h⟩
section
variable {b0:Nat}{w0 w0' w w' W0 wc w1:World}{L:List (Nat×TypeId×Array Value)}{R Rn:List bV}{g:Nat}{l r:aA.Its}
theorem Kn.other(h:Kn b0 w0 w L R)(hb:Below b0 w0' w')(hz:w'.heap.size=w.heap.size)(hk:∀k,b0≤k→w'.heap[k]?=w.heap[k]?):Kn b0 w0' w' L R:=by
 refine⟨hb,by rw[hz];exact h.m,fun i x hx=>⟨(h.l i x hx).1,(hk _ (h.l i x hx).1).trans (h.l i x hx).2⟩,fun i y hy=>?_,h.ll,h.lr,h.rr⟩;obtain⟨h1,h2⟩:=h.r i y hy;refine⟨h1,?_⟩
 rcases h2 with h0|⟨q,cap,cur,hv,hq,hg,hr⟩
 ·exact .inl h0
 ·exact .inr ⟨q,cap,cur,hv,hq,by rw[hk q hq];exact hg,hr⟩
theorem tq.lt(h:tq g w W0 l):g<w.heap.size:=by
 have:=h.2.lt;rw[h.1.size] at this;exact this
theorem tq.at(h:tq g w W0 l)(k:Kn w.heap.size W0 wc L R):uH g l wc:=h.2.below k.b h.lt
theorem tq.grown(h:tq g w W0 l)(k:Kn w.heap.size W0 wc L R):w.grownBy wc (some g):=
 ⟨k.b.os.trans h.1.os,k.b.tape.trans h.1.tape,k.b.output.trans h.1.output,k.m,fun i hi hne=>(k.b.block i hi).trans (h.1.block i (fun e=>hne (by rw[e])))⟩
def yR(g:Nat)(r:aA.Its)(Rn:List bV)(w w':World):Prop:=∃W1,tq g w W1 r∧Kn w.heap.size W1 w' [] Rn
theorem yR.mk(h:tq g w W0 r)(k:Kn w.heap.size W0 w' L R):yR g r R w w':=⟨W0,h,k.aB 0⟩
theorem yR.join(h:tq g w W0 l)(k:Kn w.heap.size W0 wc L R)(q:yR g r Rn wc w1):∃W1,Hid (tq g w W1 r)∧Hid (Kn w.heap.size W1 w1 L (R++Rn)):=by
 obtain⟨V,⟨vb,vr⟩,kv⟩:=q;have hg:g<w.heap.size:=h.lt;have hm:=k.m;have hV:g<V.heap.size:=vr.lt;refine⟨{ w with heap:=w.heap.setIfInBounds g V.heap[g] },?_⟩;have hz:(w.heap.setIfInBounds g V.heap[g]).size=w.heap.size:=by simp
 have hsame:∀i,i<w.heap.size→(w.heap.setIfInBounds g V.heap[g])[i]?=V.heap[i]?:=fun i hi=>by
  by_cases e:i=g
  ·subst e
   rw[Array.getElem?_setIfInBounds_self_of_lt hg,Array.getElem?_eq_getElem hV]
  ·rw[Array.getElem?_setIfInBounds_ne (fun q=>e q.symm),vb.block i e,k.b.block i hi,h.1.block i e]
 have afS:But g w { w with heap:=w.heap.setIfInBounds g V.heap[g] }:=⟨rfl,rfl,rfl,hz,fun i hi=>by
  show(w.heap.setIfInBounds g V.heap[g])[i]?=_
  rw[Array.getElem?_setIfInBounds_ne (fun q=>hi q.symm)]⟩
 have hbel:Below w.heap.size { w with heap:=w.heap.setIfInBounds g V.heap[g] } V:=
  ⟨vb.os.trans (k.b.os.trans h.1.os),vb.tape.trans (k.b.tape.trans h.1.tape),vb.output.trans (k.b.output.trans h.1.output),by show(w.heap.setIfInBounds g V.heap[g]).size≤_;rw[hz,vb.size];exact hm,fun i hi=>(hsame i hi).symm⟩
 have kn:Kn w.heap.size { w with heap:=w.heap.setIfInBounds g V.heap[g] } V L R:=k.other hbel vb.size fun i hi=>vb.block i (by omega)
 refine⟨zH ⟨afS,vr.keep fun i hi=>hsame i (by omega)⟩,zH (kn.join ?_)⟩;rw[vb.size];exact kv
end
def Rno(g:Nat)(w:World)(e:Ending)(w':World):Prop:=e=.panicked [{ v:=.iface 23 (.int .i64 3),recovered:=false }]∧w.grownBy w' (some g)
def Rp{α:Type}(p:aA.P α)(enc:α→Value)(g:Nat)(l:aA.Its)(w:World)(e:Ending)(w':World):Prop:=match p l with
 | some (x,r)=>e=.returned (enc x)∧yR g r [] w w'
 | none=>Rno g w e w'
section
variable {α:Type}{p:aA.P α}{enc:α→Value}{g:Nat}{l r:aA.Its}{w w':World}{e:Ending}{x:α}
theorem Rp.split(h:Rp p enc g l w e w'):(p l=none∧e=.panicked [{ v:=.iface 23 (.int .i64 3),recovered:=false }]∧w.grownBy w' (some g))∨∃x r,p l=some (x,r)∧e=.returned (enc x)∧yR g r [] w w':=by
 unfold Rp at h
 split at h
 ·next x r hp=>exact .inr ⟨x,r,hp,h⟩
 ·next hp=>exact .inl ⟨hp,h⟩
theorem Rp.yes(hp:p l=some (x,r))(h:yR g r [] w w'):Rp p enc g l w (.returned (enc x)) w':=by
 unfold Rp;rw[hp];exact⟨rfl,h⟩
theorem Rp.no(hp:p l=none)(h:w.grownBy w' (some g)):Rp p enc g l w (.panicked [{ v:=.iface 23 (.int .i64 3),recovered:=false }]) w':=by
 unfold Rp;rw[hp];exact⟨rfl,h⟩
end
theorem aU{a b c:World}{q:Option Nat}(h:a.grownBy b q)(k:b.grownBy c q):a.grownBy c q:=
 ⟨k.os.trans h.os,k.tape.trans h.tape,k.output.trans h.output,Nat.le_trans h.size k.size,fun i hi hne=>(k.block i (Nat.lt_of_lt_of_le hi h.size) hne).trans (h.block i hi hne)⟩
theorem aA.bf{α β:Type}{p:aA.P α}{f:α→aA.P β}{l:aA.Its}(h:p l=none):aA.bnd p f l=none:=by
 unfold aA.bnd;rw[h]
theorem Us{f:Func}{Q:Ending→World→Prop}{a:Act}{w:World}{B:Nat}{T:TypeId}{cs:Array Value}{fs:Array Field}{q:Tmp}(hf:f.results=#[.cell q T])(hb:eT w B T cs)(hu:prog.underlying T=some (.struct fs))(hi:(prog.info? T).map (·.size)=some cs.size)
  (hR:Q (.returned (.agg cs)) w) (h2:a.tmps[q]?=some (.pointer (some ⟨B,0,none⟩)):=by rfl)(hd:a.defers=[]:=by rfl):bodyPost prog f Q Exit.ret a w:=
 bodyPost_ret (results_cell_row hf a.tmps w B _ _ (0,0) _ (by simp[h2]) hb hu rfl hi) hd hR
section
variable {P:Program}{b0:Nat}{w0 w w':World}{L:List (Nat×TypeId×Array Value)}{R:List bV}{o:Oper}{a:Act}{Q:Exit→Act→World→Prop}
theorem aau{K:Act→World→Prop}(HK:Hid (Kn b0 w0 w L R))(ty:TypeId)(x y:Operand)(ho:o.op=.store ty x y)(i:Nat){g off:Nat}{t:TypeId}{cs:Array Value}(hL:L[i]?=some (g,t,cs))(hx:a.eval x=.pointer (some ⟨g,off,none⟩))
  {v:Value} (hy:a.eval y=v) (hc:v.cells=#[v]) (h1:v.oneCell'=true) (hsz:off<cs.size) (hi:(P.info? ty).map (·.size)=some 1)
  (h:K (a.put o.dst undef) (w.setCell ⟨g,off,none⟩ v)):o.wp P a w K Q:=by
 have hb:=HK.out.blk i hL;have hcell:∃u,w.cell? ⟨g,off,none⟩=some u:=⟨_,(hb.cell off).trans (Array.getElem?_eq_getElem hsz)⟩
 have hs:=run_storeCells_cells (P:=P) g off [v] 0 w (fun j hj=>by
   have:j=0:=by simpa using hj
   subst this
   rw[hb.cell,Array.getElem?_eq_getElem (by omega)];rfl) (fun j _=>hb.frozen _) (fun u hu=>by simp at hu;subst hu;exact h1)
 simp only[Nat.add_zero] at hs
 have hr:(storeVar ty ⟨g,off,none⟩ v).run P w=.ok () (w.setCell ⟨g,off,none⟩ v):=by
  cases hq:P.info? ty with
  | none=>simp[hq] at hi
  | some q=>
   have hs1:q.size=1:=by simpa [hq] using hi
   exact SI
 have h3:(w.setCell ⟨g,off,none⟩ v).heap.size=w.heap.size:=by simp[World.setCell]
 unfold Oper.wp execOp;simp only[ho,hx,hy,Instr.storeAt,Instr.sureAddr,Sem.run_bind,Sem.run_pure,Result.andThen_ok,hr];exact h
end
theorem zZ{w W0 wc:World}{L:List (Nat×TypeId×Array Value)}{R:List bV}{g n c:Nat}{A:Option Addr}{l r:aA.Its}{ops:Array Oper}{rest:List Oper}{o:Oper}{a:Act}{Q:Exit→Act→World→Prop}(HW:Hid (tq g w W0 l))(HK:Hid (Kn w.heap.size W0 wc L R))(hgd:o.guard=none){p:Operand}{q:Operand}(ho:o.op=.store 53 p q)(hx:a.eval p=.pointer (some ⟨g,0,none⟩))(hy:a.eval q=.slice A n c)
  (hr:Hid (∀W,Below w.heap.size W0 W→aD.Reads W g A r∧r.length=n∧(A=none→r=[])∧n≤c∧n≤16384))
  (h:∀W1 w',Hid (tq g w W1 r)→Hid (Kn w.heap.size W1 w' L R)→wpList prog ops Q rest (a.put o.dst undef) w'):wpList prog ops Q (o::rest) a wc:=
 wpList_plain hgd fun K hK=>by
  obtain⟨A0,n0,c0,hb0,_⟩:=HW.out.2;have hg:=HW.out.lt;have hbc:eT wc g 95 #[.slice A0 n0 c0]:=hb0.below HK.out.b hg
  have hk1:Hid (Kn g wc wc [(g,95,#[.slice A0 n0 c0])] []):=zH ⟨Below.refl _ _,Nat.le_of_lt hbc.lt,fun i x hx=>by
   match i,hx with
   | 0,hx=>cases hx;exact⟨Nat.le_refl _,hbc⟩,fun i y hy=>by simp at hy,fun i j x y hx hy hij=>by
   match i,j,hx,hy with
   | 0,0,_,_=>exact absurd rfl hij,fun i j x y _ hy=>by simp at hy,fun i j x y hx=>by simp at hx⟩
  refine aau hk1 53 p q ho 0 rfl hx hy rfl rfl (by show 0<1;decide) (by kernel_rfl) ?_;have ajb:∀k,¬k=g→(wc.setCell ⟨g,0,none⟩ (.slice A n c)).heap[k]?=wc.heap[k]?:=fun k hk=>Below.heap_setCell _ _ _ k hk
  have Wd:∀k,¬k=g→(W0.setCell ⟨g,0,none⟩ (.slice A n c)).heap[k]?=W0.heap[k]?:=fun k hk=>Below.heap_setCell _ _ _ k hk
  have hz:(wc.setCell ⟨g,0,none⟩ (.slice A n c)).heap.size=wc.heap.size:=by simp[World.setCell]
  have hz0:(W0.setCell ⟨g,0,none⟩ (.slice A n c)).heap.size=W0.heap.size:=by simp[World.setCell]
  have hb1:eT (wc.setCell ⟨g,0,none⟩ (.slice A n c)) g 95 #[.slice A n c]:=hbc.TJ 0 _;have hb2:eT (W0.setCell ⟨g,0,none⟩ (.slice A n c)) g 95 #[.slice A n c]:=hb0.TJ 0 _;have hr0:=hr.out W0 (Below.refl _ _)
  have hbel:Below w.heap.size (W0.setCell ⟨g,0,none⟩ (.slice A n c)) (wc.setCell ⟨g,0,none⟩ (.slice A n c)):=⟨HK.out.b.os,HK.out.b.tape,HK.out.b.output,by rw[hz,hz0];exact HK.out.b.size,fun k hk=>by
   by_cases e:k=g
   ·subst e
    exact Eq.trans hb1 (Eq.symm hb2)
   ·rw[ajb k e,Wd k e]
    exact HK.out.b.block k hk⟩
  refine hK _ _ (h (W0.setCell ⟨g,0,none⟩ (.slice A n c)) _ (zH ⟨⟨HW.out.1.os,HW.out.1.tape,HW.out.1.output,hz0.trans HW.out.1.size,fun k hk=>(Wd k hk).trans (HW.out.1.block k hk)⟩,A,n,c,hb2,hr0.1.keep fun p hp=>World.cell?_of_block (Wd _ (by omega)),hr0.2⟩) (zH (HK.out.other hbel hz fun k hk=>ajb k (by omega))))
theorem abu{W:World}{g b o n c:Nat}{x:ny.It}{r:aA.Its}(hr:aD.Reads W g (some ⟨b,o,none⟩) (x::r))(hl:(x::r).length=n)(hc:n≤c)(hn:n≤16384):
  aD.Reads W g (mE 3 (some ⟨b,o,none⟩) 1 c) r∧r.length=n-1∧(mE 3 (some ⟨b,o,none⟩) 1 c=none→r=[])∧n-1≤c-1∧n-1≤16384:=by
 have hl2:r.length+1=n:=hl;refine⟨fun h0=>?_,by omega,fun e=>?_,by omega,by omega⟩
 ·have h1:=hr.drop 1 h0
  unfold mE;rw[if_neg (by omega)];exact h1
 ·unfold mE at e
  split at e
  ·cases e
  ·cases e
theorem Xd{W:World}{g b o n c:Nat}{l:aA.Its}{k:Nat}(hr:aD.Reads W g (some ⟨b,o,none⟩) l)(hl:l.length=n)(hc:n≤c)(hn:n≤16384)(hk:k≤n):
  aD.Reads W g (mE 3 (some ⟨b,o,none⟩) k c) (l.drop k)∧(l.drop k).length=n-k∧(mE 3 (some ⟨b,o,none⟩) k c=none→l.drop k=[])∧n-k≤c-k∧n-k≤16384:=by
 refine⟨fun h0=>?_,by rw[List.length_drop];omega,fun e=>?_,by omega,by omega⟩
 ·have h1:=hr.drop k h0
  rw[List.length_drop] at h0;unfold mE;rw[if_neg (by omega),Option.map_some,Lay.nS];exact h1
 ·unfold mE at e
  split at e
  ·cases e
  ·cases e
end
end Go.Proofs.YtahdlddbbnjloaaGreat
