/- What the program's Right returns. No condition but those named. -/
import Derived.Test.YtahdlddbbnjloaaGreatNAX
set_option linter.unusedSimpArgs false
set_option linter.unusedVariables false
set_option maxRecDepth 100000
set_option maxHeartbeats 25600000
open Go.RowKit
namespace Go.Proofs.YtahdlddbbnjloaaGreat
open _root_.Go.Proofs.Tryz
section
theorem yQ(n:Int)(A:Option Addr)(k cp:Nat)(t:aG.T)(lo:List Oh)(w:World)(hs:dS w A k cp lo)(hf:aG.Fit t):
  Calls prog 9 #[.agg (stA n A k cp t)] w (dw (decide (Ap.Ok ⟨n,vs lo,t⟩)) w):=by
 have HK:=jw w 33 (stA n A k cp t);have HS:=zH hs;have hln:=hs.len;have nN:=zH (fun W (hW:Below w.heap.size w W)=>Lc A cp k lo W (hs.later hW));have FN:=zH (fun W=>Al t W hf);have zU:=zH (fun r W=>Py t r W hf);have HPt:=zH (fun(x:Oh) W (h:In W x)=>Jq x W h);have HHo:=zH (fun(r:Rf) W (hc:0≤r.c∧r.c<5)=>QW t r W hc);have HDu:=zH (fun W=>abk t W hf);have gX:=zH (@Ap.aiJ n (vs lo) t);have HNh:Hid (∀(i:Nat) o r,(vs lo)[i]?=some o→r∈Ap.hld o→Ap.MQ (t.get r.c) r=false→decide (Ap.Ok ⟨n,vs lo,t⟩)=false):=zH fun i o r h1 h2 h3=>Ap.ZR h1 h2 h3
 have HNw:Hid (∀(i:Nat) o r,(vs lo)[i]?=some o→r∈Ap.jS o→¬aG.look t r=3→decide (Ap.Ok ⟨n,vs lo,t⟩)=false):=zH fun i o r h1 h2 h3=>Ap.ZQ h1 h2 h3
 have zi:Hid (0≤n→au.Right (vs lo)→aG.Right t→∀f,Ap.sZ (vs lo) t f k→decide (∀c∈([0,1,2,3,4]:List Int),f c=Ap.due t c)=decide (Ap.Ok ⟨n,vs lo,t⟩)):=zH fun h1 h2 h3 f h4=>Ap.afq h1 h2 h3 (by rw[gq,hln];exact h4)
 have HN0:=zH (Ap.sZ.nil (vs lo) t);unfold dw jo ags at *
 unfold adB at HPt;generalize decide (Ap.Ok ⟨n,vs lo,t⟩)=y at *
 clear hs;go_enter func9,ntmps9;have f0:=HK.out.cell 0 rfl 0 (v:=.int .i64 n) rfl;by_cases h0:n<0
 case pos=>
  have hy:y=false:=gX.out (.inl (by omega));subst hy;clear gX HNh HNw zi;exact jq
 case neg=>
 by_cases h1:au.Right (vs lo)
 case neg=>
  have hy:y=false:=gX.out (.inr (.inl h1));subst hy;rw[decide_eq_false h1] at nN;have f1:=HK.out.cell 0 rfl 1 (v:=.slice A k cp) rfl;clear gX HNh HNw zi h1;go_wp2_with fail;refine cb (nN.out _ HK.out.b) HK ?_;clear HK;intro _ HK;exact jq
 case pos=>
 by_cases h2:aG.Right t
 case neg=>
  have hy:y=false:=gX.out (.inr (.inr h2));subst hy;rw[decide_eq_true h1] at nN;rw[decide_eq_false h2] at FN;have f1:=HK.out.cell 0 rfl 1 (v:=.slice A k cp) rfl;clear gX HNh HNw zi h1 h2;go_wp2_with fail;refine cb (nN.out _ HK.out.b) HK ?_;clear HK;intro _ HK;go_wp2_with refine zX (gD HK 0) ?_;refine cb (FN.out _) HK ?_;clear HK;intro _ HK;exact jq
 case pos=>
 have HR:=zH h1;replace zi:=zH (zi.out (by omega) h1 h2);have hk8:k≤8:=by have:=h1.len;rw[gq,hln] at this;exact this
 rw[decide_eq_true h1] at nN;rw[decide_eq_true h2] at FN;have f1:=HK.out.cell 0 rfl 1 (v:=.slice A k cp) rfl;clear gX h1 h2 hln;go_wp2_with fail;refine cb (nN.out _ HK.out.b) HK ?_;clear HK;intro _ HK;go_wp2_with refine zX (gD HK 0) ?_;refine cb (FN.out _) HK ?_;clear HK;intro _ HK;clear f0 f1;have f1:=HK.out.cell 0 rfl 1 (v:=.slice A k cp) rfl;go_wp2_with (first|(refine uO HK ?_;clear HK;intro _ g3 HK;simp only[aS,aK] at HK)|refine zX (IU) ?_|(refine uM (h2:=Yk) HK 1 ?_;clear HK;intro _ HK;simp only[lS] at HK)|refine zX (qN HK 0) ?_);clear f1 h0;go_loopw [29] (fun v29 wr=>∃(i:Nat) (f:Int→Nat),i≤k∧v29=.int .i64 i∧Hid (Ap.sZ (vs lo) t f i)∧Hid (Kn w.heap.size w wr [(w.heap.size,33,stA n A k cp t),(g3,68,nV f)] [])) (fun v29 _=>k-(intOf v29).toNat)
 case atStart=>exact⟨0,Yk,Nat.zero_le _,rfl,HN0,HK⟩
 case round=>
  clear HK HN0 nN FN;obtain⟨i,f,hi,rfl,Sq,HK⟩:=hrel;have hi1:(0:Int)≤(i:Int):=by omega
  by_cases hik:i<k
  case neg=>
   obtain rfl:i=k:=by omega
   have hi2:¬(i:Int)<(i:Int):=by omega
   have HY:=zH (zi.out f Sq.out);clear zi HNh HNw Sq;go_wp2_with fail;have aj:=zH HK.out.drew;refine zR aj.out fun ah=>?_
   refine ak 0 rfl ?_ fun _ s=>kpc s 1
   refine ak 1 rfl ?_;refine ak 2 rfl ?_ fun _ s=>gD s 0
   refine aC 3 rfl fun K hK=>?_
   go_simp;go_at_call 26;refine(HDu.out _).mono ?_;rintro e w5 ⟨rfl,b5⟩;have hs:=zH (ah.out.call b5);clear b5;refine bk hK hs fun ah=>?_
   clear hK K;refine ak 4 rfl ?_ fun _ s=>WK (by rfl) (by rfl) (by rfl) HY.out
   refine ak 5 rfl ?_;refine cB ?_;go_wp2_with fail;go_ret;exact⟨rfl,ah.out.b⟩
  case pos=>
  have hi2:(i:Int)<(k:Int):=by omega
  have hi3:i<9223372036854775807:=by omega
  obtain⟨x,hx,hin⟩:=HS.out.get hik;obtain⟨b,o,rfl,hat⟩:=HS.out.s.at (Nat.lt_of_le_of_lt (Nat.zero_le _) hik);have HX:Hid (∀W,Below w.heap.size w W→∀j v,(yY x)[j]?=some v→W.cell? ⟨b,o+i*11+j,none⟩=some v):=zH (fun W hW=>hat W hW i x hx);have HI:=zH hin;have Sj:=dB hx;have hone:=HR.out.ok x.v (List.mem_of_getElem? Sj);have HHc:Hid (∀r∈Ap.hld x.v,0≤r.c∧r.c<5):=zH fun r hr=>aG.mR (Ap.EF (Ap.gB hone) (by unfold Ap.hld at hr;split at hr;exact List.mem_of_mem_take hr;cases hr))
  have HWc:Hid (∀r∈Ap.jS x.v,0≤r.c∧r.c<5):=zH fun r hr=>aG.mR (Ap.EF (Ap.gB hone) (by unfold Ap.jS at hr;split at hr;exact List.mem_of_mem_drop hr;exact hr))
  have HH1:Hid ((Ap.hld x.v).length≤1):=zH (by unfold Ap.hld;split;(rw[List.length_take];omega);exact Nat.zero_le 1);have HW5:=zH (Ap.YK hone);have ach:Hid (∀r,r∈Ap.hld x.v→Ap.MQ (t.get r.c) r=false→y=false):=zH fun r=>HNh.out i x.v r Sj
  have RU:Hid (∀r,r∈Ap.jS x.v→¬aG.look t r=3→y=false):=zH fun r=>HNw.out i x.v r Sj
  have yT:Hid ((∀r∈Ap.hld x.v,Ap.MQ (t.get r.c) r=true)→∀f2,Ap.ni (Ap.jS x.v) t f f2 (Ap.jS x.v).length→Ap.sZ (vs lo) t f2 (i+1)):=zH fun h1 f2 h2=>Sq.out.step Sj HW5.out h1 h2
  have HF5:Hid (∀c:Int,0≤c∧c<5→f c≤5*i):=zH Sq.out.b;clear hat hx hin Sj hone Sq;go_upto_region 7 with (first|(refine av (v:=.agg (cu x)) (gL (off:=o+i*11) (HX.out _ HK.out.b)) ?_)|(refine pV HK ?_;clear HK;intro _ g5 HK;simp only[aS,aK] at HK)|(refine jF (y:=x) HK 2 ?_;clear HK;intro _ HK;simp only[lS] at HK));go_wp2_with refine zX (lV HK 2) ?_;refine(HPt.out x _ (HI.out.later HK.out.b)).mono ?_;rintro e w1 ⟨A1,n1,c1,A2,n2,c2,rfl,sl,b1⟩;have HS1:Hid (∀W,Below w.heap.size w W→bT aN rF W A1 n1 c1 (Ap.hld x.v)):=zH fun W h=>(sl W (HI.out.later h)).1
  have HS2:Hid (∀W,Below w.heap.size w W→bT aN rF W A2 n2 c2 (Ap.jS x.v)):=zH fun W h=>(sl W (HI.out.later h)).2
  have hn1:=(HS1.out w (Below.refl _ _)).len;have hn2:=(HS2.out w (Below.refl _ _)).len;replace HK:=iH HK b1;clear b1;clear sl;have hL1:n1≤1:=by rw[← hn1];exact HH1.out
  have kF:=zH hn2;have hL5:n2≤5:=by rw[← hn2];exact HW5.out
  generalize Ap.hld x.v=hl at *
  generalize Ap.jS x.v=wt at *
  clear hn2 HH1 HW5 HNh HNw;go_upto_region 8 with fail;go_cut [49] (fun v wx=>∃q:Bool,v=.bool q∧Hid (q=true→y=false)∧Hid (q=false→∀r∈hl,Ap.MQ (t.get r.c) r=true)∧Hid (Kn w.heap.size w wx [(w.heap.size,33,stA n (some ⟨b,o,none⟩) k cp t),(g3,68,nV f),(g5,75,cu x)] []))
  case first=>
   clear zi yT RU HWc HF5 zU HDu HS2 HPt;by_cases h1:n1=0
   case pos=>
    subst h1;have hnil:hl=[]:=List.length_eq_zero_iff.1 hn1;have aj:=zH HK.out.drew;clear ach HHc hn1;refine zR aj.out fun ah=>?_
    refine ak 0 rfl ?_;refine ak 1 rfl ?_;refine ak 2 rfl ?_;refine ak 3 rfl ?_;refine bq 4 rfl ?_;refine bq 5 rfl ?_;refine bq 6 rfl ?_;refine bq 7 rfl ?_;refine bq 8 rfl ?_;refine bq 9 rfl ?_;refine bq 10 rfl ?_;refine ak 11 rfl ?_;refine cB ?_;go_wp2_with fail;go_meet;exact⟨false,rfl,zH (fun h=>by cases h),zH (fun _ r hr=>by rw[hnil] at hr;cases hr),ah⟩
   case neg=>
    obtain rfl:n1=1:=by omega
    obtain⟨z,hz,_⟩:=(HS1.out w (Below.refl _ _)).get (k:=0) (by decide);obtain⟨b2,o2,rfl,hat⟩:=(HS1.out w (Below.refl _ _)).at (by decide);have HZ:Hid (∀W,Below w.heap.size w W→∀q v,(Zp z)[q]?=some v→W.cell? ⟨b2,o2+0*3+q,none⟩=some v):=zH (fun W hW=>hat W hW 0 z hz);have hzm:=List.mem_of_getElem? hz
    have hone:∀r∈hl,r=z:=fun r hr=>by
     match hl,hn1,hz,hr with
     | [u],_,hz,hr=>
      injection hz with hz;rw[← hz];exact List.mem_singleton.1 hr
    have hc:=HHc.out z hzm;have kU:=zH (ach.out z hzm);have fP:Hid (Ap.MQ (t.get z.c) z=true→∀r∈hl,Ap.MQ (t.get r.c) r=true):=zH fun h r hr=>by rw[hone r hr];exact h
    have HHz:=zH (fun W=>HHo.out z W hc);have aj:=zH HK.out.drew;clear ach HHc hn1 hat hz hzm hone h1 HHo HK hL1;generalize Ap.MQ (t.get z.c) z=q at *
    refine zR aj.out fun ah=>?_
    refine ak 0 rfl ?_;refine ak 1 rfl ?_;refine ak 2 rfl ?_;refine ak 3 rfl ?_;refine ak 4 rfl ?_;refine ak 5 rfl ?_ fun _ s=>gD s 0
    refine ak 6 rfl ?_;refine ak 7 rfl ?_ fun _ s=>dZ aN (i:=0) (by decide : 0 < 1)
    refine ak 8 rfl ?_ fun _ s=>cZ (x:=z) (off:=o2+0*3) (HZ.out _ s.out.b)
    refine aC 9 rfl fun K hK=>?_
    go_simp;go_at_call 24;refine(HHz.out _).mono ?_;rintro e w5 ⟨rfl,b5⟩;have hs:=zH (ah.out.call b5);clear b5;refine bk hK hs fun ah=>?_
    clear hK K;refine ak 10 rfl ?_;refine ak 11 rfl ?_;refine cB ?_;go_wp2_with fail;go_meet;cases q
    ·exact⟨true,rfl,zH (fun _=>kU.out rfl),zH (fun h=>by cases h),ah⟩
    ·exact⟨false,rfl,zH (fun h=>by cases h),zH (fun _=>fP.out rfl),ah⟩
  case rest=>
  clear HK ach HHo HHc HS1 hn1 hL1;obtain⟨q,rfl,HQ1,HQ2,HK⟩:=hcut
  cases q with
  | true=>
   have hy:=HQ1.out rfl;subst hy;clear zi HQ1 HQ2 yT RU;exact jq
  | false=>
  replace yT:=zH (yT.out (HQ2.out rfl));have HM0:=zH (Ap.ni.nil wt t f);clear HQ1 HQ2;go_wp2_with fail;go_loopw [52] (fun v52 wi=>∃(j:Nat) (f2:Int→Nat),j≤n2∧v52=.int .i64 j∧Hid (Ap.ni wt t f f2 j)∧Hid (Kn w.heap.size w wi [(w.heap.size,33,stA n (some ⟨b,o,none⟩) k cp t),(g3,68,nV f2),(g5,75,cu x)] [])) (fun v52 _=>n2-(intOf v52).toNat)
  case atStart=>exact⟨0,f,Nat.zero_le _,rfl,HM0,HK⟩
  case round=>
   clear HK HM0;obtain⟨j,f2,hj,rfl,HM,HK⟩:=hrel;have hj1:(0:Int)≤(j:Int):=by omega
   by_cases hjm:j<n2
   case neg=>
    obtain rfl:j=n2:=by omega
    have hj2:¬(j:Int)<(j:Int):=by omega
    have Yp:Hid (Ap.sZ (vs lo) t f2 (i+1)):=zH (yT.out f2 (by rw[kF.out];exact HM.out));clear yT HM RU zi;go_wp2_with refine zX (aR (j:=i) hi3) ?_;exact⟨⟨i+1,f2,hik,rfl,Yp,zH (HK.out.aB 2)⟩,by simp[intOf];omega⟩
   case pos=>
   have hj2:(j:Int)<(n2:Int):=by omega
   have hj3:j<9223372036854775807:=by omega
   obtain⟨z,hz,_⟩:=(HS2.out w (Below.refl _ _)).get hjm;obtain⟨b2,o2,rfl,hat⟩:=(HS2.out w (Below.refl _ _)).at (Nat.lt_of_le_of_lt (Nat.zero_le _) hjm);have HZ:Hid (∀W,Below w.heap.size w W→∀q v,(Zp z)[q]?=some v→W.cell? ⟨b2,o2+j*3+q,none⟩=some v):=zH (fun W hW=>hat W hW j z hz);have hzm:=List.mem_of_getElem? hz;have hc:=HWc.out z hzm
   have hfz:f2 z.c<9223372036854775807:=by
    have h1:=HM.out.le hc;have h2:=HF5.out z.c hc;omega
   by_cases hl3:aG.look t z=3
   case neg=>
    have hy:=RU.out z hzm hl3;have H3:Hid ((!decide (aG.lookW t z=3))=true):=zH (by rw[aG.zG,decide_eq_false hl3];rfl);subst hy;clear RU HM zi yT hat hz hzm hl3;have HLz:=zH (fun W=>zU.out z W);clear zU;generalize aG.lookW t z=lk at *
    go_wp2_with (first|refine zX (cZ (x:=z) (off:=o2+j*3) (HZ.out _ HK.out.b)) ?_|(refine bR HK ?_;clear HK;intro _ g9 HK;simp only[aS,aK] at HK)|(refine bW HK 3 ?_;clear HK;intro _ HK;simp only[lS] at HK)|refine zX (gD HK 0) ?_|refine zX (aP HK 3) ?_);refine(HLz.out _).mono ?_;rintro e w7 ⟨rfl,b7⟩;replace HK:=iH HK b7;clear b7 HLz;go_wp2_with refine zX (bJ (m:=lk) (n:=3) H3.out) ?_;exact nu
   case pos=>
    have H3:Hid ((!decide (aG.lookW t z=3))=false):=zH (by rw[aG.zG,decide_eq_true hl3];rfl);have XU:=zH (HM.out.step hz hl3);have HLz:=zH (fun W=>zU.out z W);clear RU HM zi yT hat hz hzm hl3 zU;generalize aG.lookW t z=lk at *
    go_wp2_with (first|refine zX (cZ (x:=z) (off:=o2+j*3) (HZ.out _ HK.out.b)) ?_|(refine bR HK ?_;clear HK;intro _ g9 HK;simp only[aS,aK] at HK)|(refine bW HK 3 ?_;clear HK;intro _ HK;simp only[lS] at HK)|refine zX (gD HK 0) ?_|refine zX (aP HK 3) ?_);refine(HLz.out _).mono ?_;rintro e w7 ⟨rfl,b7⟩;replace HK:=iH HK b7;clear b7 HLz;go_wp2_with (first|refine zX (bJ (m:=lk) (n:=3) H3.out) ?_|refine zX (qO (x:=z) HK 3) ?_|refine zX (IK hc) ?_|refine zX (ali HK 1 hc (by rfl) (by rfl) (by rfl)) ?_|refine zX (aR (j:=f2 z.c) hfz) ?_|(refine Aa (v:=f2 z.c+1) HK 1 rfl hc rfl rfl rfl rfl ?_;clear HK;intro _ HK;simp only[lS] at HK)|refine zX (aR (j:=j) hj3) ?_);exact⟨⟨j+1,_,hjm,rfl,XU,zH (HK.out.aB 3)⟩,by simp[intOf];omega⟩
end
end Go.Proofs.YtahdlddbbnjloaaGreat
