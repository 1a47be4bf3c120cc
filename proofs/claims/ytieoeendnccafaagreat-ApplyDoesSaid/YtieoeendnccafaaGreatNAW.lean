/- What the document's Right, numbers, others return. No condition but those named. -/
import Derived.Test.YtieoeendnccafaaGreatNAV
set_option linter.unusedSimpArgs false
set_option linter.unusedVariables false
set_option maxRecDepth 100000
set_option maxHeartbeats 25600000
open Go.RowKit
namespace Go.Proofs.YtieoeendnccafaaGreat
open _root_.Go.Proofs.Tryz
section
theorem gW(n:Int)(A:Option Addr)(k cp:Nat)(t:aH.T)(lo:List Oh)(w:World)(hs:bY w A k cp lo)(hf:aH.Fit t):
  Calls prog 13 #[.agg (stA n A k cp t)] w (cZ (decide (Ap.Ok ⟨n,vs lo,t⟩)) w):=by
 have HK:=iK w 33 (stA n A k cp t);have HS:=zH hs;have hln:=hs.len;have kF:=zH (fun W (hW:Below w.heap.size w W)=>vE A cp k lo W (hs.later hW));have uT:=zH (fun W=>vg t W hf);have og:=zH (fun r W=>xL t r W hf);have HPt:=zH (fun(x:Oh) W (h:In W x)=>Jb x W h);have HHo:=zH (fun(r:Rf) W (hc:0≤r.c∧r.c<5)=>Qb t r W hc);have HDu:=zH (fun W=>YC t W hf);have gP:=zH (@Ap.afu n (vs lo) t);have HNh:Hid (∀(i:Nat) o r,(vs lo)[i]?=some o→r∈Ap.hld o→Ap.Lv (t.get r.c) r=false→decide (Ap.Ok ⟨n,vs lo,t⟩)=false):=zH fun i o r h1 h2 h3=>Ap.XR h1 h2 h3
 have HNw:Hid (∀(i:Nat) o r,(vs lo)[i]?=some o→r∈Ap.kE o→¬aH.look t r=3→decide (Ap.Ok ⟨n,vs lo,t⟩)=false):=zH fun i o r h1 h2 h3=>Ap.XQ h1 h2 h3
 have uE:Hid (0≤n→av.Right (vs lo)→aH.Right t→∀f,Ap.tC (vs lo) t f k→decide (∀c∈([0,1,2,3,4]:List Int),f c=Ap.due t c)=decide (Ap.Ok ⟨n,vs lo,t⟩)):=zH fun h1 h2 h3 f h4=>Ap.acp h1 h2 h3 (by rw[fF,hln];exact h4)
 have HN0:=zH (Ap.tC.nil (vs lo) t);unfold cZ gG adw at *
 unfold aaR at HPt;generalize decide (Ap.Ok ⟨n,vs lo,t⟩)=y at *
 clear hs;go_enter func13,ntmps13;have f0:=HK.out.cell 0 rfl 0 (v:=.int .i64 n) rfl;by_cases h0:n<0
 case pos=>
  have hy:y=false:=gP.out (.inl (by omega));subst hy;clear gP HNh HNw uE;exact iU
 case neg=>
 by_cases h1:av.Right (vs lo)
 case neg=>
  have hy:y=false:=gP.out (.inr (.inl h1));subst hy;rw[decide_eq_false h1] at kF;have f1:=HK.out.cell 0 rfl 1 (v:=.slice A k cp) rfl;clear gP HNh HNw uE h1;go_wp2_with fail;refine cb (kF.out _ HK.out.b) HK ?_;clear HK;intro _ HK;exact iU
 case pos=>
 by_cases h2:aH.Right t
 case neg=>
  have hy:y=false:=gP.out (.inr (.inr h2));subst hy;rw[decide_eq_true h1] at kF;rw[decide_eq_false h2] at uT;have f1:=HK.out.cell 0 rfl 1 (v:=.slice A k cp) rfl;clear gP HNh HNw uE h1 h2;go_wp2_with fail;refine cb (kF.out _ HK.out.b) HK ?_;clear HK;intro _ HK;go_wp2_with refine zX (eU HK 0) ?_;refine cb (uT.out _) HK ?_;clear HK;intro _ HK;exact iU
 case pos=>
 have HR:=zH h1;replace uE:=zH (uE.out (by omega) h1 h2);have hk8:k≤8:=by have:=h1.len;rw[fF,hln] at this;exact this
 rw[decide_eq_true h1] at kF;rw[decide_eq_true h2] at uT;have f1:=HK.out.cell 0 rfl 1 (v:=.slice A k cp) rfl;clear gP h1 h2 hln;go_wp2_with fail;refine cb (kF.out _ HK.out.b) HK ?_;clear HK;intro _ HK;go_wp2_with refine zX (eU HK 0) ?_;refine cb (uT.out _) HK ?_;clear HK;intro _ HK;clear f0 f1;have f1:=HK.out.cell 0 rfl 1 (v:=.slice A k cp) rfl;go_wp2_with (first|(refine uY HK ?_;clear HK;intro _ g3 HK;simp only[aO,aJ] at HK)|refine zX (Iw) ?_|(refine uW (h2:=WS) HK 1 ?_;clear HK;intro _ HK;simp only[lS] at HK)|refine zX (jl HK 0) ?_);clear f1 h0;go_loopw [29] (fun v29 wr=>∃(i:Nat) (f:Int→Nat),i≤k∧v29=.int .i64 i∧Hid (Ap.tC (vs lo) t f i)∧Hid (Kn w.heap.size w wr [(w.heap.size,33,stA n A k cp t),(g3,76,pJ f)] [])) (fun v29 _=>k-(intOf v29).toNat)
 case atStart=>exact⟨0,WS,Nat.zero_le _,rfl,HN0,HK⟩
 case round=>
  clear HK HN0 kF uT;obtain⟨i,f,hi,rfl,Jt,HK⟩:=hrel;have hi1:(0:Int)≤(i:Int):=by omega
  by_cases hik:i<k
  case neg=>
   obtain rfl:i=k:=by omega
   have hi2:¬(i:Int)<(i:Int):=by omega
   have HY:=zH (uE.out f Jt.out);clear uE HNh HNw Jt;go_wp2_with fail;have aj:=zH HK.out.drew;refine zR aj.out fun ah=>?_
   refine ak 0 rfl ?_ fun _ s=>kpc s 1
   refine ak 1 rfl ?_;refine ak 2 rfl ?_ fun _ s=>eU s 0
   refine aC 3 rfl fun K hK=>?_
   go_simp;go_at_call 39;refine(HDu.out _).mono ?_;rintro e w5 ⟨rfl,b5⟩;have hs:=zH (ah.out.call b5);clear b5;refine bk hK hs fun ah=>?_
   clear hK K;refine ak 4 rfl ?_ fun _ s=>Vd (by rfl) (by rfl) (by rfl) HY.out
   refine ak 5 rfl ?_;refine bW ?_;go_wp2_with fail;go_ret;exact⟨rfl,ah.out.b⟩
  case pos=>
  have hi2:(i:Int)<(k:Int):=by omega
  have hi3:i<9223372036854775807:=by omega
  obtain⟨x,hx,hin⟩:=HS.out.get hik;obtain⟨b,o,rfl,hat⟩:=HS.out.s.at (Nat.lt_of_le_of_lt (Nat.zero_le _) hik);have HX:Hid (∀W,Below w.heap.size w W→∀j v,(vR x)[j]?=some v→W.cell? ⟨b,o+i*11+j,none⟩=some v):=zH (fun W hW=>hat W hW i x hx);have HI:=zH hin;have Hy:=dL hx;have hone:=HR.out.ok x.v (List.mem_of_getElem? Hy);have HHc:Hid (∀r∈Ap.hld x.v,0≤r.c∧r.c<5):=zH fun r hr=>aH.kV (Ap.ED (Ap.ig hone) (by unfold Ap.hld at hr;split at hr;exact List.mem_of_mem_take hr;cases hr))
  have HWc:Hid (∀r∈Ap.kE x.v,0≤r.c∧r.c<5):=zH fun r hr=>aH.kV (Ap.ED (Ap.ig hone) (by unfold Ap.kE at hr;split at hr;exact List.mem_of_mem_drop hr;exact hr))
  have HH1:Hid ((Ap.hld x.v).length≤1):=zH (by unfold Ap.hld;split;(rw[List.length_take];omega);exact Nat.zero_le 1);have HW5:=zH (Ap.Xn hone);have Zg:Hid (∀r,r∈Ap.hld x.v→Ap.Lv (t.get r.c) r=false→y=false):=zH fun r=>HNh.out i x.v r Hy
  have QL:Hid (∀r,r∈Ap.kE x.v→¬aH.look t r=3→y=false):=zH fun r=>HNw.out i x.v r Hy
  have yU:Hid ((∀r∈Ap.hld x.v,Ap.Lv (t.get r.c) r=true)→∀f2,Ap.nX (Ap.kE x.v) t f f2 (Ap.kE x.v).length→Ap.tC (vs lo) t f2 (i+1)):=zH fun h1 f2 h2=>Jt.out.step Hy HW5.out h1 h2
  have HF5:Hid (∀c:Int,0≤c∧c<5→f c≤5*i):=zH Jt.out.b;clear hat hx hin Hy hone Jt;go_upto_region 7 with (first|(refine au (v:=.agg (bS x)) (eB (off:=o+i*11) (HX.out _ HK.out.b)) ?_)|(refine gY HK ?_;clear HK;intro _ g5 HK;simp only[aO,aJ] at HK)|(refine fD (y:=x) HK 2 ?_;clear HK;intro _ HK;simp only[lS] at HK));go_wp2_with refine zX (jv HK 2) ?_;refine(HPt.out x _ (HI.out.later HK.out.b)).mono ?_;rintro e w1 ⟨A1,n1,c1,A2,n2,c2,rfl,sl,b1⟩;have QJ:Hid (∀W,Below w.heap.size w W→bJ aG rF W A1 n1 c1 (Ap.hld x.v)):=zH fun W h=>(sl W (HI.out.later h)).1
  have HS2:Hid (∀W,Below w.heap.size w W→bJ aG rF W A2 n2 c2 (Ap.kE x.v)):=zH fun W h=>(sl W (HI.out.later h)).2
  have hn1:=(QJ.out w (Below.refl _ _)).len;have hn2:=(HS2.out w (Below.refl _ _)).len;replace HK:=iy HK b1;clear b1;clear sl;have hL1:n1≤1:=by rw[← hn1];exact HH1.out
  have gT:=zH hn2;have hL5:n2≤5:=by rw[← hn2];exact HW5.out
  generalize Ap.hld x.v=hl at *
  generalize Ap.kE x.v=wt at *
  clear hn2 HH1 HW5 HNh HNw;go_upto_region 8 with fail;go_cut [49] (fun v wx=>∃q:Bool,v=.bool q∧Hid (q=true→y=false)∧Hid (q=false→∀r∈hl,Ap.Lv (t.get r.c) r=true)∧Hid (Kn w.heap.size w wx [(w.heap.size,33,stA n (some ⟨b,o,none⟩) k cp t),(g3,76,pJ f),(g5,63,bS x)] []))
  case first=>
   clear uE yU QL HWc HF5 og HDu HS2 HPt;by_cases h1:n1=0
   case pos=>
    subst h1;have hnil:hl=[]:=List.length_eq_zero_iff.1 hn1;have aj:=zH HK.out.drew;clear Zg HHc hn1;refine zR aj.out fun ah=>?_
    refine ak 0 rfl ?_;refine ak 1 rfl ?_;refine ak 2 rfl ?_;refine ak 3 rfl ?_;refine bF 4 rfl ?_;refine bF 5 rfl ?_;refine bF 6 rfl ?_;refine bF 7 rfl ?_;refine bF 8 rfl ?_;refine bF 9 rfl ?_;refine bF 10 rfl ?_;refine ak 11 rfl ?_;refine bW ?_;go_wp2_with fail;go_meet;exact⟨false,rfl,zH (fun h=>by cases h),zH (fun _ r hr=>by rw[hnil] at hr;cases hr),ah⟩
   case neg=>
    obtain rfl:n1=1:=by omega
    obtain⟨z,hz,_⟩:=(QJ.out w (Below.refl _ _)).get (k:=0) (by decide);obtain⟨b2,o2,rfl,hat⟩:=(QJ.out w (Below.refl _ _)).at (by decide);have HZ:Hid (∀W,Below w.heap.size w W→∀q v,(WR z)[q]?=some v→W.cell? ⟨b2,o2+0*3+q,none⟩=some v):=zH (fun W hW=>hat W hW 0 z hz);have hzm:=List.mem_of_getElem? hz
    have hone:∀r∈hl,r=z:=fun r hr=>by
     match hl,hn1,hz,hr with
     | [u],_,hz,hr=>
      injection hz with hz;rw[← hz];exact List.mem_singleton.1 hr
    have hc:=HHc.out z hzm;have lJ:=zH (Zg.out z hzm);have fB:Hid (Ap.Lv (t.get z.c) z=true→∀r∈hl,Ap.Lv (t.get r.c) r=true):=zH fun h r hr=>by rw[hone r hr];exact h
    have HHz:=zH (fun W=>HHo.out z W hc);have aj:=zH HK.out.drew;clear Zg HHc hn1 hat hz hzm hone h1 HHo HK hL1;generalize Ap.Lv (t.get z.c) z=q at *
    refine zR aj.out fun ah=>?_
    refine ak 0 rfl ?_;refine ak 1 rfl ?_;refine ak 2 rfl ?_;refine ak 3 rfl ?_;refine ak 4 rfl ?_;refine ak 5 rfl ?_ fun _ s=>eU s 0
    refine ak 6 rfl ?_;refine ak 7 rfl ?_ fun _ s=>gM aG (i:=0) (by decide:0<1)
    refine ak 8 rfl ?_ fun _ s=>bV (x:=z) (off:=o2+0*3) (HZ.out _ s.out.b)
    refine aC 9 rfl fun K hK=>?_
    go_simp;go_at_call 38;refine(HHz.out _).mono ?_;rintro e w5 ⟨rfl,b5⟩;have hs:=zH (ah.out.call b5);clear b5;refine bk hK hs fun ah=>?_
    clear hK K;refine ak 10 rfl ?_;refine ak 11 rfl ?_;refine bW ?_;go_wp2_with fail;go_meet;cases q
    ·exact⟨true,rfl,zH (fun _=>lJ.out rfl),zH (fun h=>by cases h),ah⟩
    ·exact⟨false,rfl,zH (fun h=>by cases h),zH (fun _=>fB.out rfl),ah⟩
  case rest=>
  clear HK Zg HHo HHc QJ hn1 hL1;obtain⟨q,rfl,HQ1,HQ2,HK⟩:=hcut
  cases q with
  | true=>
   have hy:=HQ1.out rfl;subst hy;clear uE HQ1 HQ2 yU QL;exact iU
  | false=>
  replace yU:=zH (yU.out (HQ2.out rfl));have HM0:=zH (Ap.nX.nil wt t f);clear HQ1 HQ2;go_wp2_with fail;go_loopw [52] (fun v52 wi=>∃(j:Nat) (f2:Int→Nat),j≤n2∧v52=.int .i64 j∧Hid (Ap.nX wt t f f2 j)∧Hid (Kn w.heap.size w wi [(w.heap.size,33,stA n (some ⟨b,o,none⟩) k cp t),(g3,76,pJ f2),(g5,63,bS x)] [])) (fun v52 _=>n2-(intOf v52).toNat)
  case atStart=>exact⟨0,f,Nat.zero_le _,rfl,HM0,HK⟩
  case round=>
   clear HK HM0;obtain⟨j,f2,hj,rfl,HM,HK⟩:=hrel;have hj1:(0:Int)≤(j:Int):=by omega
   by_cases hjm:j<n2
   case neg=>
    obtain rfl:j=n2:=by omega
    have hj2:¬(j:Int)<(j:Int):=by omega
    have WV:Hid (Ap.tC (vs lo) t f2 (i+1)):=zH (yU.out f2 (by rw[gT.out];exact HM.out));clear yU HM QL uE;go_wp2_with refine zX (aL (j:=i) hi3) ?_;exact⟨⟨i+1,f2,hik,rfl,WV,zH (HK.out.aA 2)⟩,by simp[intOf];omega⟩
   case pos=>
   have hj2:(j:Int)<(n2:Int):=by omega
   have hj3:j<9223372036854775807:=by omega
   obtain⟨z,hz,_⟩:=(HS2.out w (Below.refl _ _)).get hjm;obtain⟨b2,o2,rfl,hat⟩:=(HS2.out w (Below.refl _ _)).at (Nat.lt_of_le_of_lt (Nat.zero_le _) hjm);have HZ:Hid (∀W,Below w.heap.size w W→∀q v,(WR z)[q]?=some v→W.cell? ⟨b2,o2+j*3+q,none⟩=some v):=zH (fun W hW=>hat W hW j z hz);have hzm:=List.mem_of_getElem? hz;have hc:=HWc.out z hzm
   have hfz:f2 z.c<9223372036854775807:=by
    have h1:=HM.out.le hc;have h2:=HF5.out z.c hc;omega
   by_cases hl3:aH.look t z=3
   case neg=>
    have hy:=QL.out z hzm hl3;have H3:Hid ((!decide (aH.lookW t z=3))=true):=zH (by rw[aH.wG,decide_eq_false hl3];rfl);subst hy;clear QL HM uE yU hat hz hzm hl3;have HLz:=zH (fun W=>og.out z W);clear og;generalize aH.lookW t z=lk at *
    go_wp2_with (first|refine zX (bV (x:=z) (off:=o2+j*3) (HZ.out _ HK.out.b)) ?_|(refine aQ HK ?_;clear HK;intro _ g9 HK;simp only[aO,aJ] at HK)|(refine aW HK 3 ?_;clear HK;intro _ HK;simp only[lS] at HK)|refine zX (eU HK 0) ?_|refine zX (aB HK 3) ?_);refine(HLz.out _).mono ?_;rintro e w7 ⟨rfl,b7⟩;replace HK:=iy HK b7;clear b7 HLz;go_wp2_with refine zX (bH (m:=lk) (n:=3) H3.out) ?_;exact lQ
   case pos=>
    have H3:Hid ((!decide (aH.lookW t z=3))=false):=zH (by rw[aH.wG,decide_eq_true hl3];rfl);have WG:=zH (HM.out.step hz hl3);have HLz:=zH (fun W=>og.out z W);clear QL HM uE yU hat hz hzm hl3 og;generalize aH.lookW t z=lk at *
    go_wp2_with (first|refine zX (bV (x:=z) (off:=o2+j*3) (HZ.out _ HK.out.b)) ?_|(refine aQ HK ?_;clear HK;intro _ g9 HK;simp only[aO,aJ] at HK)|(refine aW HK 3 ?_;clear HK;intro _ HK;simp only[lS] at HK)|refine zX (eU HK 0) ?_|refine zX (aB HK 3) ?_);refine(HLz.out _).mono ?_;rintro e w7 ⟨rfl,b7⟩;replace HK:=iy HK b7;clear b7 HLz;go_wp2_with (first|refine zX (bH (m:=lk) (n:=3) H3.out) ?_|refine zX (iY (x:=z) HK 3) ?_|refine zX (Iu hc) ?_|refine zX (aht HK 1 hc (by rfl) (by rfl) (by rfl)) ?_|refine zX (aL (j:=f2 z.c) hfz) ?_|(refine Aa (v:=f2 z.c+1) HK 1 rfl hc rfl rfl rfl rfl ?_;clear HK;intro _ HK;simp only[lS] at HK)|refine zX (aL (j:=j) hj3) ?_);exact⟨⟨j+1,_,hjm,rfl,WG,zH (HK.out.aA 3)⟩,by simp[intOf];omega⟩
end
section
theorem gZ(k:Int)(w:World):Calls prog 125 #[.int .i64 k] w (Jj (aF.f0 k) (aF.f1 k) (aF.f2 k) (aF.f3 k) (aF.f4 k) (aF.f5 k) w):=by
 rcases aF.kinds k with rfl|(rfl|rfl|rfl|rfl|rfl|rfl)|(rfl|rfl)|rfl|rfl|(rfl|rfl)|rfl|h
 case inr.inr.inr.inr.inr.inr.inr=>
  obtain⟨e0,e1,e2,e3,e4,e5⟩:=aF.vL h;have n4:¬k=4:=by omega
  have n5:¬k=5:=by omega
  have n6:¬k=6:=by omega
  have n7:¬k=7:=by omega
  have n8:¬k=8:=by omega
  have n9:¬k=9:=by omega
  have n10:¬k=10:=by omega
  have n11:¬k=11:=by omega
  have n12:¬k=12:=by omega
  have n13:¬k=13:=by omega
  have n14:¬k=14:=by omega
  have n15:¬k=15:=by omega
  have n16:¬k=16:=by omega
  have n17:¬k=17:=by omega
  refine Calls.mono (R:=Jj false false false false false false w) ?_ fun e w' h=>isF h e0 e1 e2 e3 e4 e5
  clear h e0 e1 e2 e3 e4 e5;exact aal
 all_goals
  exact aal
end
section
theorem II(e:aF.E)(w:World):Calls prog 69 #[.agg #[.int .i64 e.c,.int .i64 e.e,.int .i64 e.r]] w fun en w'=>en=.returned (.bool (decide (aF.right e)))∧Below w.heap.size w w':=by
 have HE:Hid (∀q:Bool,(q=true↔(0≤e.c∧e.c<5∧1≤e.e∧0≤e.r))→q=decide (aF.right e)):=zH fun q hq=>by
  exact FW
 generalize decide (aF.right e)=r at *
 obtain⟨c,ep,rq,cmd⟩:=e;simp only at HE ⊢;have HK:=iK w 35 #[.int .i64 c,.int .i64 ep,.int .i64 rq];go_enter func69,ntmps69;go_wp2_with fail
 all_goals
  go_ret;refine⟨congrArg (fun b=>Ending.returned (.bool b)) (HE.out _ ?_),HK.out.b⟩;clear HE HK
  simp_all<;>omega
theorem fM(c:aF.C)(w:World):Calls prog 128 #[.agg (dh c)] w fun en w'=>en=.returned (.bool (decide (aF.nums c)))∧Below w.heap.size w w':=by
 have HE:Hid (∀q:Bool,(q=true↔aF.nums c)→q=decide (aF.nums c)):=zH fun q hq=>by
  rw[Bool.eq_iff_iff,hq,decide_eq_true_eq]
 generalize decide (aF.nums c)=r at *
 obtain⟨k,name,key,val,old,n,m⟩:=c;unfold dh;simp only at HE ⊢;have HK:=iK w 37 (cO k name key val.k val.n val.f val.s old.k old.n old.f old.s n m);have p0:(cO k name key val.k val.n val.f val.s old.k old.n old.f old.s n m)[0]?=some (.int .i64 k):=rfl;have FR:(cO k name key val.k val.n val.f val.s old.k old.n old.f old.s n m)[11]?=some (.int .i64 n):=rfl;have FQ:(cO k name key val.k val.n val.f val.s old.k old.n old.f old.s n m)[12]?=some (.int .i64 m):=rfl;generalize cO k name key val.k val.n val.f val.s old.k old.n old.f old.s n m=pa at *
 go_enter func128,ntmps128;go_wp2_with fail
 all_goals
  go_ret;refine⟨congrArg (fun b=>Ending.returned (.bool b)) (HE.out _ ?_),HK.out.b⟩;clear HE HK p0 FR FQ;unfold aF.nums
  simp_all<;>omega
theorem SG{k:Int}(name key:ByteArray)(vk vn:Int)(vf:Nat)(vs:ByteArray)(ok on:Int)(of:Nat)(os:ByteArray)(n m:Int)(w:World):
  Calls prog 126 #[.agg (cO k name key vk vn vf vs ok on of os n m),.agg (fl true false false false true true)] w fun en w'=>(∃b,en=.returned (.bool b)∧(b=true↔(key.toList=[]∧(ok=0∧on=0∧of=0∧os.toList=[])∧(vk=0∧vn=0∧vf=0∧vs.toList=[]))))∧Below w.heap.size w w':=by
 have HK:=kX w 37 (cO k name key vk vn vf vs ok on of os n m) 159 (fl true false false false true true);have p0:(cO k name key vk vn vf vs ok on of os n m)[0]?=some (.int .i64 k):=rfl;have p1:(cO k name key vk vn vf vs ok on of os n m)[1]?=some (.string name):=rfl;have p2:(cO k name key vk vn vf vs ok on of os n m)[2]?=some (.string key):=rfl;have p3:(cO k name key vk vn vf vs ok on of os n m)[3]?=some (.int .i64 vk):=rfl;have p4:(cO k name key vk vn vf vs ok on of os n m)[4]?=some (.int .i64 vn):=rfl;have p5:(cO k name key vk vn vf vs ok on of os n m)[5]?=some (.int .u64 (vf:Int)):=rfl;have p6:(cO k name key vk vn vf vs ok on of os n m)[6]?=some (.string vs):=rfl;have p7:(cO k name key vk vn vf vs ok on of os n m)[7]?=some (.int .i64 ok):=rfl;have p8:(cO k name key vk vn vf vs ok on of os n m)[8]?=some (.int .i64 on):=rfl;have p9:(cO k name key vk vn vf vs ok on of os n m)[9]?=some (.int .u64 (of:Int)):=rfl;have KH:(cO k name key vk vn vf vs ok on of os n m)[10]?=some (.string os):=rfl;have FR:(cO k name key vk vn vf vs ok on of os n m)[11]?=some (.int .i64 n):=rfl;have FQ:(cO k name key vk vn vf vs ok on of os n m)[12]?=some (.int .i64 m):=rfl;have q0:(fl true false false false true true)[0]?=some (.bool true):=rfl;have q1:(fl true false false false true true)[1]?=some (.bool false):=rfl;have q2:(fl true false false false true true)[2]?=some (.bool false):=rfl;have q3:(fl true false false false true true)[3]?=some (.bool false):=rfl;have q4:(fl true false false false true true)[4]?=some (.bool true):=rfl;have q5:(fl true false false false true true)[5]?=some (.bool true):=rfl;generalize cO k name key vk vn vf vs ok on of os n m=pa at *
 generalize fl true false false false true true=pb at *
 go_enter func126,ntmps126;go_wp2_with fail
 all_goals
  go_ret;refine⟨⟨_,rfl,?_⟩,HK.out.b⟩;clear HK p0 p1 p2 p3 p4 p5 p6 p7 p8 p9 KH FR FQ q0 q1 q2 q3 q4 q5
  simp_all<;>omega
theorem SF{k:Int}(name key:ByteArray)(vk vn:Int)(vf:Nat)(vs:ByteArray)(ok on:Int)(of:Nat)(os:ByteArray)(n m:Int)(w:World):
  Calls prog 126 #[.agg (cO k name key vk vn vf vs ok on of os n m),.agg (fl true false false false false false)] w fun en w'=>(∃b,en=.returned (.bool b)∧(b=true↔(key.toList=[]∧(ok=0∧on=0∧of=0∧os.toList=[])∧(vk=0∧vn=0∧vf=0∧vs.toList=[])∧n=0∧m=0)))∧Below w.heap.size w w':=by
 have HK:=kX w 37 (cO k name key vk vn vf vs ok on of os n m) 159 (fl true false false false false false);have p0:(cO k name key vk vn vf vs ok on of os n m)[0]?=some (.int .i64 k):=rfl;have p1:(cO k name key vk vn vf vs ok on of os n m)[1]?=some (.string name):=rfl;have p2:(cO k name key vk vn vf vs ok on of os n m)[2]?=some (.string key):=rfl;have p3:(cO k name key vk vn vf vs ok on of os n m)[3]?=some (.int .i64 vk):=rfl;have p4:(cO k name key vk vn vf vs ok on of os n m)[4]?=some (.int .i64 vn):=rfl;have p5:(cO k name key vk vn vf vs ok on of os n m)[5]?=some (.int .u64 (vf:Int)):=rfl;have p6:(cO k name key vk vn vf vs ok on of os n m)[6]?=some (.string vs):=rfl;have p7:(cO k name key vk vn vf vs ok on of os n m)[7]?=some (.int .i64 ok):=rfl;have p8:(cO k name key vk vn vf vs ok on of os n m)[8]?=some (.int .i64 on):=rfl;have p9:(cO k name key vk vn vf vs ok on of os n m)[9]?=some (.int .u64 (of:Int)):=rfl;have KH:(cO k name key vk vn vf vs ok on of os n m)[10]?=some (.string os):=rfl;have FR:(cO k name key vk vn vf vs ok on of os n m)[11]?=some (.int .i64 n):=rfl;have FQ:(cO k name key vk vn vf vs ok on of os n m)[12]?=some (.int .i64 m):=rfl;have q0:(fl true false false false false false)[0]?=some (.bool true):=rfl;have q1:(fl true false false false false false)[1]?=some (.bool false):=rfl;have q2:(fl true false false false false false)[2]?=some (.bool false):=rfl;have q3:(fl true false false false false false)[3]?=some (.bool false):=rfl;have q4:(fl true false false false false false)[4]?=some (.bool false):=rfl;have q5:(fl true false false false false false)[5]?=some (.bool false):=rfl;generalize cO k name key vk vn vf vs ok on of os n m=pa at *
 generalize fl true false false false false false=pb at *
 go_enter func126,ntmps126;go_wp2_with fail
 all_goals
  go_ret;refine⟨⟨_,rfl,?_⟩,HK.out.b⟩;clear HK p0 p1 p2 p3 p4 p5 p6 p7 p8 p9 KH FR FQ q0 q1 q2 q3 q4 q5
  simp_all<;>omega
theorem SE{k:Int}(name key:ByteArray)(vk vn:Int)(vf:Nat)(vs:ByteArray)(ok on:Int)(of:Nat)(os:ByteArray)(n m:Int)(w:World):
  Calls prog 126 #[.agg (cO k name key vk vn vf vs ok on of os n m),.agg (fl true true false false false false)] w fun en w'=>(∃b,en=.returned (.bool b)∧(b=true↔((ok=0∧on=0∧of=0∧os.toList=[])∧(vk=0∧vn=0∧vf=0∧vs.toList=[])∧n=0∧m=0)))∧Below w.heap.size w w':=by
 have HK:=kX w 37 (cO k name key vk vn vf vs ok on of os n m) 159 (fl true true false false false false);have p0:(cO k name key vk vn vf vs ok on of os n m)[0]?=some (.int .i64 k):=rfl;have p1:(cO k name key vk vn vf vs ok on of os n m)[1]?=some (.string name):=rfl;have p2:(cO k name key vk vn vf vs ok on of os n m)[2]?=some (.string key):=rfl;have p3:(cO k name key vk vn vf vs ok on of os n m)[3]?=some (.int .i64 vk):=rfl;have p4:(cO k name key vk vn vf vs ok on of os n m)[4]?=some (.int .i64 vn):=rfl;have p5:(cO k name key vk vn vf vs ok on of os n m)[5]?=some (.int .u64 (vf:Int)):=rfl;have p6:(cO k name key vk vn vf vs ok on of os n m)[6]?=some (.string vs):=rfl;have p7:(cO k name key vk vn vf vs ok on of os n m)[7]?=some (.int .i64 ok):=rfl;have p8:(cO k name key vk vn vf vs ok on of os n m)[8]?=some (.int .i64 on):=rfl;have p9:(cO k name key vk vn vf vs ok on of os n m)[9]?=some (.int .u64 (of:Int)):=rfl;have KH:(cO k name key vk vn vf vs ok on of os n m)[10]?=some (.string os):=rfl;have FR:(cO k name key vk vn vf vs ok on of os n m)[11]?=some (.int .i64 n):=rfl;have FQ:(cO k name key vk vn vf vs ok on of os n m)[12]?=some (.int .i64 m):=rfl;have q0:(fl true true false false false false)[0]?=some (.bool true):=rfl;have q1:(fl true true false false false false)[1]?=some (.bool true):=rfl;have q2:(fl true true false false false false)[2]?=some (.bool false):=rfl;have q3:(fl true true false false false false)[3]?=some (.bool false):=rfl;have q4:(fl true true false false false false)[4]?=some (.bool false):=rfl;have q5:(fl true true false false false false)[5]?=some (.bool false):=rfl;generalize cO k name key vk vn vf vs ok on of os n m=pa at *
 generalize fl true true false false false false=pb at *
 go_enter func126,ntmps126;go_wp2_with fail
 all_goals
  go_ret;refine⟨⟨_,rfl,?_⟩,HK.out.b⟩;clear HK p0 p1 p2 p3 p4 p5 p6 p7 p8 p9 KH FR FQ q0 q1 q2 q3 q4 q5
  simp_all<;>omega
theorem SC{k:Int}(name key:ByteArray)(vk vn:Int)(vf:Nat)(vs:ByteArray)(ok on:Int)(of:Nat)(os:ByteArray)(n m:Int)(w:World):
  Calls prog 126 #[.agg (cO k name key vk vn vf vs ok on of os n m),.agg (fl true true false true false false)] w fun en w'=>(∃b,en=.returned (.bool b)∧(b=true↔((ok=0∧on=0∧of=0∧os.toList=[])∧n=0∧m=0)))∧Below w.heap.size w w':=by
 have HK:=kX w 37 (cO k name key vk vn vf vs ok on of os n m) 159 (fl true true false true false false);have p0:(cO k name key vk vn vf vs ok on of os n m)[0]?=some (.int .i64 k):=rfl;have p1:(cO k name key vk vn vf vs ok on of os n m)[1]?=some (.string name):=rfl;have p2:(cO k name key vk vn vf vs ok on of os n m)[2]?=some (.string key):=rfl;have p3:(cO k name key vk vn vf vs ok on of os n m)[3]?=some (.int .i64 vk):=rfl;have p4:(cO k name key vk vn vf vs ok on of os n m)[4]?=some (.int .i64 vn):=rfl;have p5:(cO k name key vk vn vf vs ok on of os n m)[5]?=some (.int .u64 (vf:Int)):=rfl;have p6:(cO k name key vk vn vf vs ok on of os n m)[6]?=some (.string vs):=rfl;have p7:(cO k name key vk vn vf vs ok on of os n m)[7]?=some (.int .i64 ok):=rfl;have p8:(cO k name key vk vn vf vs ok on of os n m)[8]?=some (.int .i64 on):=rfl;have p9:(cO k name key vk vn vf vs ok on of os n m)[9]?=some (.int .u64 (of:Int)):=rfl;have KH:(cO k name key vk vn vf vs ok on of os n m)[10]?=some (.string os):=rfl;have FR:(cO k name key vk vn vf vs ok on of os n m)[11]?=some (.int .i64 n):=rfl;have FQ:(cO k name key vk vn vf vs ok on of os n m)[12]?=some (.int .i64 m):=rfl;have q0:(fl true true false true false false)[0]?=some (.bool true):=rfl;have q1:(fl true true false true false false)[1]?=some (.bool true):=rfl;have q2:(fl true true false true false false)[2]?=some (.bool false):=rfl;have q3:(fl true true false true false false)[3]?=some (.bool true):=rfl;have q4:(fl true true false true false false)[4]?=some (.bool false):=rfl;have q5:(fl true true false true false false)[5]?=some (.bool false):=rfl;generalize cO k name key vk vn vf vs ok on of os n m=pa at *
 generalize fl true true false true false false=pb at *
 go_enter func126,ntmps126;go_wp2_with fail
 all_goals
  go_ret;refine⟨⟨_,rfl,?_⟩,HK.out.b⟩;clear HK p0 p1 p2 p3 p4 p5 p6 p7 p8 p9 KH FR FQ q0 q1 q2 q3 q4 q5
  simp_all<;>omega
theorem SB{k:Int}(name key:ByteArray)(vk vn:Int)(vf:Nat)(vs:ByteArray)(ok on:Int)(of:Nat)(os:ByteArray)(n m:Int)(w:World):
  Calls prog 126 #[.agg (cO k name key vk vn vf vs ok on of os n m),.agg (fl true true true true false false)] w fun en w'=>(∃b,en=.returned (.bool b)∧(b=true↔(n=0∧m=0)))∧Below w.heap.size w w':=by
 have HK:=kX w 37 (cO k name key vk vn vf vs ok on of os n m) 159 (fl true true true true false false);have p0:(cO k name key vk vn vf vs ok on of os n m)[0]?=some (.int .i64 k):=rfl;have p1:(cO k name key vk vn vf vs ok on of os n m)[1]?=some (.string name):=rfl;have p2:(cO k name key vk vn vf vs ok on of os n m)[2]?=some (.string key):=rfl;have p3:(cO k name key vk vn vf vs ok on of os n m)[3]?=some (.int .i64 vk):=rfl;have p4:(cO k name key vk vn vf vs ok on of os n m)[4]?=some (.int .i64 vn):=rfl;have p5:(cO k name key vk vn vf vs ok on of os n m)[5]?=some (.int .u64 (vf:Int)):=rfl;have p6:(cO k name key vk vn vf vs ok on of os n m)[6]?=some (.string vs):=rfl;have p7:(cO k name key vk vn vf vs ok on of os n m)[7]?=some (.int .i64 ok):=rfl;have p8:(cO k name key vk vn vf vs ok on of os n m)[8]?=some (.int .i64 on):=rfl;have p9:(cO k name key vk vn vf vs ok on of os n m)[9]?=some (.int .u64 (of:Int)):=rfl;have KH:(cO k name key vk vn vf vs ok on of os n m)[10]?=some (.string os):=rfl;have FR:(cO k name key vk vn vf vs ok on of os n m)[11]?=some (.int .i64 n):=rfl;have FQ:(cO k name key vk vn vf vs ok on of os n m)[12]?=some (.int .i64 m):=rfl;have q0:(fl true true true true false false)[0]?=some (.bool true):=rfl;have q1:(fl true true true true false false)[1]?=some (.bool true):=rfl;have q2:(fl true true true true false false)[2]?=some (.bool true):=rfl;have q3:(fl true true true true false false)[3]?=some (.bool true):=rfl;have q4:(fl true true true true false false)[4]?=some (.bool false):=rfl;have q5:(fl true true true true false false)[5]?=some (.bool false):=rfl;generalize cO k name key vk vn vf vs ok on of os n m=pa at *
 generalize fl true true true true false false=pb at *
 go_enter func126,ntmps126;go_wp2_with fail
 all_goals
  go_ret;refine⟨⟨_,rfl,?_⟩,HK.out.b⟩;clear HK p0 p1 p2 p3 p4 p5 p6 p7 p8 p9 KH FR FQ q0 q1 q2 q3 q4 q5
  simp_all<;>omega
theorem SA{k:Int}(name key:ByteArray)(vk vn:Int)(vf:Nat)(vs:ByteArray)(ok on:Int)(of:Nat)(os:ByteArray)(n m:Int)(w:World):
  Calls prog 126 #[.agg (cO k name key vk vn vf vs ok on of os n m),.agg (fl true false false true false false)] w fun en w'=>(∃b,en=.returned (.bool b)∧(b=true↔(key.toList=[]∧(ok=0∧on=0∧of=0∧os.toList=[])∧n=0∧m=0)))∧Below w.heap.size w w':=by
 have HK:=kX w 37 (cO k name key vk vn vf vs ok on of os n m) 159 (fl true false false true false false);have p0:(cO k name key vk vn vf vs ok on of os n m)[0]?=some (.int .i64 k):=rfl;have p1:(cO k name key vk vn vf vs ok on of os n m)[1]?=some (.string name):=rfl;have p2:(cO k name key vk vn vf vs ok on of os n m)[2]?=some (.string key):=rfl;have p3:(cO k name key vk vn vf vs ok on of os n m)[3]?=some (.int .i64 vk):=rfl;have p4:(cO k name key vk vn vf vs ok on of os n m)[4]?=some (.int .i64 vn):=rfl;have p5:(cO k name key vk vn vf vs ok on of os n m)[5]?=some (.int .u64 (vf:Int)):=rfl;have p6:(cO k name key vk vn vf vs ok on of os n m)[6]?=some (.string vs):=rfl;have p7:(cO k name key vk vn vf vs ok on of os n m)[7]?=some (.int .i64 ok):=rfl;have p8:(cO k name key vk vn vf vs ok on of os n m)[8]?=some (.int .i64 on):=rfl;have p9:(cO k name key vk vn vf vs ok on of os n m)[9]?=some (.int .u64 (of:Int)):=rfl;have KH:(cO k name key vk vn vf vs ok on of os n m)[10]?=some (.string os):=rfl;have FR:(cO k name key vk vn vf vs ok on of os n m)[11]?=some (.int .i64 n):=rfl;have FQ:(cO k name key vk vn vf vs ok on of os n m)[12]?=some (.int .i64 m):=rfl;have q0:(fl true false false true false false)[0]?=some (.bool true):=rfl;have q1:(fl true false false true false false)[1]?=some (.bool false):=rfl;have q2:(fl true false false true false false)[2]?=some (.bool false):=rfl;have q3:(fl true false false true false false)[3]?=some (.bool true):=rfl;have q4:(fl true false false true false false)[4]?=some (.bool false):=rfl;have q5:(fl true false false true false false)[5]?=some (.bool false):=rfl;generalize cO k name key vk vn vf vs ok on of os n m=pa at *
 generalize fl true false false true false false=pb at *
 go_enter func126,ntmps126;go_wp2_with fail
 all_goals
  go_ret;refine⟨⟨_,rfl,?_⟩,HK.out.b⟩;clear HK p0 p1 p2 p3 p4 p5 p6 p7 p8 p9 KH FR FQ q0 q1 q2 q3 q4 q5
  simp_all<;>omega
theorem Sz{k:Int}(name key:ByteArray)(vk vn:Int)(vf:Nat)(vs:ByteArray)(ok on:Int)(of:Nat)(os:ByteArray)(n m:Int)(w:World):
  Calls prog 126 #[.agg (cO k name key vk vn vf vs ok on of os n m),.agg (fl true false false false true false)] w fun en w'=>(∃b,en=.returned (.bool b)∧(b=true↔(key.toList=[]∧(ok=0∧on=0∧of=0∧os.toList=[])∧(vk=0∧vn=0∧vf=0∧vs.toList=[])∧m=0)))∧Below w.heap.size w w':=by
 have HK:=kX w 37 (cO k name key vk vn vf vs ok on of os n m) 159 (fl true false false false true false);have p0:(cO k name key vk vn vf vs ok on of os n m)[0]?=some (.int .i64 k):=rfl;have p1:(cO k name key vk vn vf vs ok on of os n m)[1]?=some (.string name):=rfl;have p2:(cO k name key vk vn vf vs ok on of os n m)[2]?=some (.string key):=rfl;have p3:(cO k name key vk vn vf vs ok on of os n m)[3]?=some (.int .i64 vk):=rfl;have p4:(cO k name key vk vn vf vs ok on of os n m)[4]?=some (.int .i64 vn):=rfl;have p5:(cO k name key vk vn vf vs ok on of os n m)[5]?=some (.int .u64 (vf:Int)):=rfl;have p6:(cO k name key vk vn vf vs ok on of os n m)[6]?=some (.string vs):=rfl;have p7:(cO k name key vk vn vf vs ok on of os n m)[7]?=some (.int .i64 ok):=rfl;have p8:(cO k name key vk vn vf vs ok on of os n m)[8]?=some (.int .i64 on):=rfl;have p9:(cO k name key vk vn vf vs ok on of os n m)[9]?=some (.int .u64 (of:Int)):=rfl;have KH:(cO k name key vk vn vf vs ok on of os n m)[10]?=some (.string os):=rfl;have FR:(cO k name key vk vn vf vs ok on of os n m)[11]?=some (.int .i64 n):=rfl;have FQ:(cO k name key vk vn vf vs ok on of os n m)[12]?=some (.int .i64 m):=rfl;have q0:(fl true false false false true false)[0]?=some (.bool true):=rfl;have q1:(fl true false false false true false)[1]?=some (.bool false):=rfl;have q2:(fl true false false false true false)[2]?=some (.bool false):=rfl;have q3:(fl true false false false true false)[3]?=some (.bool false):=rfl;have q4:(fl true false false false true false)[4]?=some (.bool true):=rfl;have q5:(fl true false false false true false)[5]?=some (.bool false):=rfl;generalize cO k name key vk vn vf vs ok on of os n m=pa at *
 generalize fl true false false false true false=pb at *
 go_enter func126,ntmps126;go_wp2_with fail
 all_goals
  go_ret;refine⟨⟨_,rfl,?_⟩,HK.out.b⟩;clear HK p0 p1 p2 p3 p4 p5 p6 p7 p8 p9 KH FR FQ q0 q1 q2 q3 q4 q5
  simp_all<;>omega
theorem Sy{k:Int}(name key:ByteArray)(vk vn:Int)(vf:Nat)(vs:ByteArray)(ok on:Int)(of:Nat)(os:ByteArray)(n m:Int)(w:World):
  Calls prog 126 #[.agg (cO k name key vk vn vf vs ok on of os n m),.agg (fl false false false false false false)] w fun en w'=>(∃b,en=.returned (.bool b)∧(b=true↔(name.toList=[]∧key.toList=[]∧(ok=0∧on=0∧of=0∧os.toList=[])∧(vk=0∧vn=0∧vf=0∧vs.toList=[])∧n=0∧m=0)))∧Below w.heap.size w w':=by
 have HK:=kX w 37 (cO k name key vk vn vf vs ok on of os n m) 159 (fl false false false false false false);have p0:(cO k name key vk vn vf vs ok on of os n m)[0]?=some (.int .i64 k):=rfl;have p1:(cO k name key vk vn vf vs ok on of os n m)[1]?=some (.string name):=rfl;have p2:(cO k name key vk vn vf vs ok on of os n m)[2]?=some (.string key):=rfl;have p3:(cO k name key vk vn vf vs ok on of os n m)[3]?=some (.int .i64 vk):=rfl;have p4:(cO k name key vk vn vf vs ok on of os n m)[4]?=some (.int .i64 vn):=rfl;have p5:(cO k name key vk vn vf vs ok on of os n m)[5]?=some (.int .u64 (vf:Int)):=rfl;have p6:(cO k name key vk vn vf vs ok on of os n m)[6]?=some (.string vs):=rfl;have p7:(cO k name key vk vn vf vs ok on of os n m)[7]?=some (.int .i64 ok):=rfl;have p8:(cO k name key vk vn vf vs ok on of os n m)[8]?=some (.int .i64 on):=rfl;have p9:(cO k name key vk vn vf vs ok on of os n m)[9]?=some (.int .u64 (of:Int)):=rfl;have KH:(cO k name key vk vn vf vs ok on of os n m)[10]?=some (.string os):=rfl;have FR:(cO k name key vk vn vf vs ok on of os n m)[11]?=some (.int .i64 n):=rfl;have FQ:(cO k name key vk vn vf vs ok on of os n m)[12]?=some (.int .i64 m):=rfl;have q0:(fl false false false false false false)[0]?=some (.bool false):=rfl;have q1:(fl false false false false false false)[1]?=some (.bool false):=rfl;have q2:(fl false false false false false false)[2]?=some (.bool false):=rfl;have q3:(fl false false false false false false)[3]?=some (.bool false):=rfl;have q4:(fl false false false false false false)[4]?=some (.bool false):=rfl;have q5:(fl false false false false false false)[5]?=some (.bool false):=rfl;generalize cO k name key vk vn vf vs ok on of os n m=pa at *
 generalize fl false false false false false false=pb at *
 go_enter func126,ntmps126;go_wp2_with fail
 all_goals
  go_ret;refine⟨⟨_,rfl,?_⟩,HK.out.b⟩;clear HK p0 p1 p2 p3 p4 p5 p6 p7 p8 p9 KH FR FQ q0 q1 q2 q3 q4 q5
  simp_all<;>omega
end
end Go.Proofs.YtieoeendnccafaaGreat
