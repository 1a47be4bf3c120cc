/- What the document's Right returns. No condition but those named. -/
import Derived.Test.YtieoeendnccafaaGreatNAV
set_option linter.unusedSimpArgs false
set_option linter.unusedVariables false
set_option maxRecDepth 100000
set_option maxHeartbeats 25600000
open Go.RowKit
namespace Go.Proofs.YtieoeendnccafaaGreat
open _root_.Go.Proofs.Tryz
section
theorem Ey(t:aH.T)(r:Rf)(w:World)(hf:aH.Fit t):Calls prog 86 #[.agg (dR t),.agg #[.int .i64 r.c,.int .i64 r.e,.int .i64 r.r]] w (cZ (decide (aH.look t r=3)) w):=by
 rw[← aH.wG];have HL:=zH (fun W=>xQ t r W hf);have HK:=kX w 31 (dR t) 35 #[.int .i64 r.c,.int .i64 r.e,.int .i64 r.r];unfold cZ;unfold gG at HL;clear hf;generalize aH.lookW t r=z at *
 generalize h1:decide (z=3)=b1 at *
 have H1:=zH h1;clear h1;go_enter func86,ntmps86;go_wp2_with (first|refine zX (jV HK 0) ?_|refine zX (aB HK 1) ?_);refine cb (HL.out _) HK ?_;clear HK;intro _ HK;go_wp2_with refine zX (aD (m:=z) (n:=3) H1.out) ?_;exact lQ
end
section
theorem abM{l:List Oh}(h:av.Right (vs l)){i:Nat}{x:Oh}(hx:l[i]?=some x){j:Nat}{z:Rf}(hz:x.v.refs[j]?=some z):0≤z.c∧z.c<5:=by
 have h1:=(Ap.ig (h.ok x.v (List.mem_of_getElem? (dL hx)))) j (List.getElem?_eq_some_iff.1 hz).1 z hz;exact⟨h1.1.1,h1.1.2.1⟩
theorem OX{l:List Oh}(h:av.Right (vs l)){i:Nat}{x:Oh}(hx:l[i]?=some x):x.v.refs.length≤5:=
 aS.fG (Ap.ig (h.ok x.v (List.mem_of_getElem? (dL hx))))
theorem Ko(n:Int)(A:Option Addr)(k cp:Nat)(t:aH.T)(lo:List Oh)(w:World)(hs:bY w A k cp lo)(hR:av.Right (vs lo))(hf:aH.Fit t):
  Calls prog 42 #[.agg (stA n A k cp t)] w (cZ (decide (Ap.Known (vs lo) t)) w):=by
 have HS:=zH hs;have HR:=zH hR;have HK:=iK w 33 (stA n A k cp t);have HW:=zH (fun r W=>Ey t r W hf);have gP:Hid (∀(i:Nat) o,(vs lo)[i]?=some o→∀(j:Nat) r,o.refs[j]?=some r→¬Ap.kW t o j r→decide (Ap.Known (vs lo) t)=false):=zH fun i o ho j r hr h=>Ap.Uh ho hr h
 have iL:Hid ((∀(i:Nat) o,i<k→(vs lo)[i]?=some o→∀(j:Nat) r,o.refs[j]?=some r→Ap.kW t o j r)→decide (Ap.Known (vs lo) t)=true):=zH fun h=>Ap.PW (by rw[fF,hs.len];exact h)
 have hk8:k≤8:=by have:=hR.len;rw[fF,hs.len] at this;exact this
 unfold cZ;unfold cZ at HW;generalize decide (Ap.Known (vs lo) t)=y at *
 clear hs hR hf;go_enter func42,ntmps42;go_wp2_with fail;go_loopw [3] (fun v3 wr=>∃i:Nat,i≤k∧v3=.int .i64 i∧Hid (∀(i':Nat) o,i'<i→(vs lo)[i']?=some o→∀(j:Nat) r,o.refs[j]?=some r→Ap.kW t o j r)∧Hid (Kn w.heap.size w wr [(w.heap.size,33,stA n A k cp t)] [])) (fun v3 _=>k-(intOf v3).toNat)
 case atStart=>exact⟨0,Nat.zero_le _,rfl,zH (fun i' o h=>absurd h (Nat.not_lt_zero _)),HK⟩
 case round=>
  clear HK;obtain⟨i,hi,rfl,HG,HK⟩:=hrel;have hi1:(0:Int)≤(i:Int):=by omega
  by_cases hik:i<k
  case neg=>
   obtain rfl:i=k:=by omega
   have hi2:¬(i:Int)<(i:Int):=by omega
   have hy:y=true:=iL.out HG.out;subst hy;have f1:=HK.out.cell 0 rfl 1 (v:=.slice A i cp) rfl;exact iU
  case pos=>
  have hi2:(i:Int)<(k:Int):=by omega
  have hi3:i<9223372036854775807:=by omega
  obtain⟨x,hx,hin⟩:=HS.out.get hik;obtain⟨b,o,rfl,hat⟩:=HS.out.s.at (Nat.lt_of_le_of_lt (Nat.zero_le _) hik);have HX:Hid (∀W,Below w.heap.size w W→∀j v,(vR x)[j]?=some v→W.cell? ⟨b,o+i*11+j,none⟩=some v):=zH (fun W hW=>hat W hW i x hx);have HC:=zH (fun(j:Nat) (z:Rf) (hz:x.v.refs[j]?=some z)=>abM HR.out hx hz);have Hy:=dL hx;have xD:Hid (∀(j:Nat) r,x.v.refs[j]?=some r→¬Ap.kW t x.v j r→y=false):=zH fun j r hr h=>gP.out i _ Hy j r hr h
  have HGx:Hid ((∀(j:Nat) r,j<x.rn→x.v.refs[j]?=some r→Ap.kW t x.v j r)→∀(i':Nat) o,i'<i+1→(vs lo)[i']?=some o→∀(j:Nat) r,o.refs[j]?=some r→Ap.kW t o j r):=zH fun h i' o' h1 h2 j r hr=>by
   by_cases e:i'=i
   ·subst e
    rw[Hy] at h2;injection h2 with h2;subst h2;exact h j r (by rw[← hin.r.len];exact(List.getElem?_eq_some_iff.1 hr).1) hr
   ·exact HG.out i' o' (by omega) h2 j r hr
  have HSr:=zH hin.r
  have aiu:Hid (x.rn<9223372036854775807):=zH (by
   have:=(OX HR.out hx);rw[hin.r.len] at this
   omega)
  clear hat hx hin Hy HG;have f1:=HK.out.cell 0 rfl 1 (v:=.slice (some ⟨b,o,none⟩) k cp) rfl;go_wp2_with (first|(refine au (v:=.agg (bS x)) (eB (off:=o+i*11) (HX.out _ HK.out.b)) ?_)|(refine gY HK ?_;clear HK;intro _ g1 HK;simp only[aO,aJ] at HK)|(refine fD (y:=x) HK 1 ?_;clear HK;intro _ HK;simp only[lS] at HK));clear f1;go_loopw [5] (fun v5 wi=>∃j:Nat,j≤x.rn∧v5=.int .i64 j∧Hid (∀(j':Nat) r,j'<j→x.v.refs[j']?=some r→Ap.kW t x.v j' r)∧Hid (Kn w.heap.size w wi [(w.heap.size,33,stA n (some ⟨b,o,none⟩) k cp t),(g1,63,bS x)] [])) (fun v5 _=>x.rn-(intOf v5).toNat)
  case atStart=>exact⟨0,Nat.zero_le _,rfl,zH (fun j' r h=>absurd h (Nat.not_lt_zero _)),HK⟩
  case round=>
   clear HK;obtain⟨j,hj,rfl,HJ,HK⟩:=hrel;have hj1:(0:Int)≤(j:Int):=by omega
   have f2:=HK.out.cell 1 rfl 5 (v:=.slice x.rA x.rn x.rc) rfl;by_cases hjm:j<x.rn
   case neg=>
    obtain rfl:j=x.rn:=by omega
    have hj2:¬(x.rn:Int)<(x.rn:Int):=by omega
    go_wp2_with refine zX (aL (j:=i) hi3) ?_;exact⟨⟨i+1,hik,rfl,zH (HGx.out HJ.out),zH (HK.out.aA 1)⟩,by simp[intOf];omega⟩
   case pos=>
   have hj2:(j:Int)<(x.rn:Int):=by omega
   have hj3:j<9223372036854775807:=by have:=aiu.out;omega
   obtain⟨z,hz,_⟩:=HSr.out.get hjm;obtain⟨b2,o2,hA,hat⟩:=HSr.out.at (Nat.lt_of_le_of_lt (Nat.zero_le _) hjm);rw[hA] at f2;have HZ:Hid (∀W,Below w.heap.size w W→∀q v,(WR z)[q]?=some v→W.cell? ⟨b2,o2+j*3+q,none⟩=some v):=zH (fun W hW=>hat W hW j z hz);have hc:0≤z.c∧z.c<5:=HC.out j z hz;have Jv:Hid (¬Ap.kW t x.v j z→y=false):=zH (xD.out j z hz)
   have WI:Hid (Ap.kW t x.v j z→∀(j':Nat) r,j'<j+1→x.v.refs[j']?=some r→Ap.kW t x.v j' r):=zH fun h j' r h1 h2=>by
    by_cases e:j'=j
    ·subst e;rw[hz] at h2;injection h2 with h2;subst h2;exact h
    ·exact HJ.out j' r (by omega) h2
   clear hat hz hA HJ;go_upto_region 10 with (first|refine zX (bV (x:=z) (off:=o2+j*3) (HZ.out _ HK.out.b)) ?_|(refine aQ HK ?_;clear HK;intro _ g2 HK;simp only[aO,aJ] at HK)|(refine aW HK 2 ?_;clear HK;intro _ HK;simp only[lS] at HK)|refine zX (iY (x:=z) HK 2) ?_|refine zX (dV hc) ?_|refine zX (oK HK 0 hc) ?_|(refine bE HK ?_;clear HK;intro _ g3 HK;simp only[aO,aJ] at HK)|(refine bD (u:=t.get z.c) HK 3 ?_;clear HK;intro _ HK;simp only[lS] at HK));clear f2;have fk:=HK.out.cell 1 rfl 1 (v:=.int .i64 x.v.kind) rfl;have fe:=HK.out.cell 2 rfl 1 (v:=.int .i64 z.e) rfl;have fr:=HK.out.cell 2 rfl 2 (v:=.int .i64 z.r) rfl;have fl:=HK.out.cell 3 rfl 0 (v:=.bool (t.get z.c).live) rfl;have fp:=HK.out.cell 3 rfl 1 (v:=.int .i64 (t.get z.c).ep) rfl;have fq:=HK.out.cell 3 rfl 2 (v:=.int .i64 (t.get z.c).rq) rfl;have fd:=HK.out.cell 3 rfl 3 (v:=.bool (t.get z.c).dn) rfl;by_cases hh:j=0∧x.v.kind=3
   case pos=>
    obtain⟨rfl,h3⟩:=hh;have iw:Hid (Ap.kW t x.v 0 z↔(((t.get z.c).live=true∧(t.get z.c).ep=z.e∧z.r≤(t.get z.c).rq∧1≤z.r)∧¬(z.r=(t.get z.c).rq∧(t.get z.c).dn=false))):=zH (by unfold Ap.kW Ap.Hd;rw[if_pos ⟨rfl,h3⟩]);rw[h3] at fk;generalize (t.get z.c).live=lv at *
    generalize (t.get z.c).ep=ep at *
    generalize (t.get z.c).rq=rq at *
    generalize (t.get z.c).dn=dn at *
    clear h3 hc
    cases lv with
    | false=>
     have hy:y=false:=Jv.out fun h=>by have:=(iw.out.1 h).1.1;cases this
     subst hy;clear Jv WI;exact iU
    | true=>
    by_cases h1:ep=z.e
    case neg=>
     have hy:y=false:=Jv.out fun h=>h1 (iw.out.1 h).1.2.1
     subst hy;have hb1:(ep==z.e)=false:=by simpa using h1
     have hb2:(ep != z.e)=true:=by simpa using h1
     clear Jv WI h1;exact iU
    case pos=>
    have hb1:(ep==z.e)=true:=by simpa using h1
    have hb2:(ep != z.e)=false:=by simpa using h1
    by_cases h2:rq<z.r
    case pos=>
     have hy:y=false:=Jv.out fun h=>by have:=(iw.out.1 h).1.2.2.1;omega
     subst hy;clear Jv WI h1;exact iU
    case neg=>
    by_cases h4:z.r<1
    case pos=>
     have hy:y=false:=Jv.out fun h=>by have:=(iw.out.1 h).1.2.2.2;omega
     subst hy;clear Jv WI h1;exact iU
    case neg=>
    by_cases h5:rq=z.r
    case neg=>
     have hb3:(rq==z.r)=false:=by simpa using h5
     have iA:Hid (∀(j':Nat) r,j'<0+1→x.v.refs[j']?=some r→Ap.kW t x.v j' r):=zH (WI.out (iw.out.2 ⟨⟨rfl,h1,by omega,by omega⟩,fun g=>h5 g.1.symm⟩));clear Jv WI h1 h5;exact Rt
    case pos=>
     have hb3:(rq==z.r)=true:=by simpa using h5
     cases dn with
     | true=>
      have iA:Hid (∀(j':Nat) r,j'<0+1→x.v.refs[j']?=some r→Ap.kW t x.v j' r):=zH (WI.out (iw.out.2 ⟨⟨rfl,h1,by omega,by omega⟩,fun g=>by cases g.2⟩));clear Jv WI h1 h5;exact Rt
     | false=>
      have hy:y=false:=Jv.out fun h=>(iw.out.1 h).2 ⟨h5.symm,rfl⟩
      subst hy;clear Jv WI h1 h5;exact iU
   case neg=>
   have iw:Hid (Ap.kW t x.v j z↔aH.look t z=3):=zH (by unfold Ap.kW;rw[if_neg hh]);have HWz:=zH (HW.out z);have HF:Hid (decide (aH.look t z=3)=false→y=false):=zH fun e=>Jv.out fun h=>of_decide_eq_false e (iw.out.1 h)
   have HT:Hid (decide (aH.look t z=3)=true→∀(j':Nat) r,j'<j+1→x.v.refs[j']?=some r→Ap.kW t x.v j' r):=zH fun e=>WI.out (iw.out.2 (of_decide_eq_true e))
   generalize decide (aH.look t z=3)=q at *
   clear Jv WI iw hc fl fp fq fd;have fc:=HK.out.cell 2 rfl 0 (v:=.int .i64 z.c) rfl;by_cases hj0:j=0
   case pos=>
    subst hj0;have h3:(x.v.kind==3)=false:=by simpa using fun e=>hh ⟨rfl,e⟩
    clear hh;go_wp2_with (first|go_big_skip|refine zX (eU HK 0) ?_|refine zX (aB HK 2) ?_);clear fe fr fc;refine cb (HWz.out _) HK ?_;clear HK;intro _ HK
    cases q with
    | false=>
     have hy:y=false:=HF.out rfl;subst hy;exact iU
    | true=>
     have iA:=zH (HT.out rfl);clear HF HT;exact Rt
   case neg=>
    have h3:((j:Int)==0)=false:=by simpa using hj0
    have h4:¬(j:Int)=0:=by omega
    clear hh fk;go_wp2_with (first|go_big_skip|refine zX (eU HK 0) ?_|refine zX (aB HK 2) ?_);clear fe fr fc;refine cb (HWz.out _) HK ?_;clear HK;intro _ HK
    cases q with
    | false=>
     have hy:y=false:=HF.out rfl;subst hy;exact iU
    | true=>
     have iA:=zH (HT.out rfl);clear HF HT;go_wp2_with refine zX (aL (j:=j) hj3) ?_;exact⟨⟨j+1,hjm,rfl,iA,zH (HK.out.aA 2)⟩,by simp[intOf];omega⟩
end
section
theorem SX{l:List Oh}(h:av.Right (vs l)){i:Nat}{x:Oh}(hx:l[i]?=some x):av.One x.v=true∧x.v.refs.length≤5:=by
 have h1:=h.ok x.v (List.mem_of_getElem? (dL hx));exact⟨h1,aS.fG (Ap.ig h1)⟩
theorem Kg(n:Int)(A:Option Addr)(k cp:Nat)(t:aH.T)(lo:List Oh)(c1:Int)(w:World)(hs:bY w A k cp lo)(hR:av.Right (vs lo)):
  Calls prog 43 #[.agg (stA n A k cp t),.int .i64 c1] w (gG (Ap.cnt (Ap.W (vs lo)) c1:Nat) w):=by
 have HS:=zH hs;have HR:=zH hR;have HK:=iK w 33 (stA n A k cp t);have hk8:k≤8:=by have:=hR.len;rw[fF,hs.len] at this;exact this
 have aix:Hid (Ap.cnt (Ap.W ((vs lo).take k)) c1=Ap.cnt (Ap.W (vs lo)) c1):=zH (by rw[List.take_of_length_le (by rw[fF,hs.len];exact Nat.le_refl _)]);unfold gG;generalize Ap.cnt (Ap.W (vs lo)) c1=y at *
 clear hs hR;go_enter func43,ntmps43;go_wp2_with fail;go_loopw [5,6] (fun v5 v6 wr=>∃(i N:Nat),i≤k∧N≤5*i∧v5=.int .i64 (N:Int)∧v6=.int .i64 i∧Hid (Ap.cnt (Ap.W ((vs lo).take i)) c1=N)∧Hid (Kn w.heap.size w wr [(w.heap.size,33,stA n A k cp t)] [])) (fun _ v6 _=>k-(intOf v6).toNat)
 case atStart=>exact⟨0,0,Nat.zero_le _,Nat.zero_le _,rfl,rfl,zH rfl,HK⟩
 case round=>
  clear HK;obtain⟨i,N,hi,hN,rfl,rfl,HN,HK⟩:=hrel;have hi1:(0:Int)≤(i:Int):=by omega
  by_cases hik:i<k
  case neg=>
   obtain rfl:i=k:=by omega
   have hi2:¬(i:Int)<(i:Int):=by omega
   obtain rfl:N=y:=HN.out.symm.trans aix.out;have f1:=HK.out.cell 0 rfl 1 (v:=.slice A i cp) rfl;exact iU
  case pos=>
  have hi2:(i:Int)<(k:Int):=by omega
  have hi3:i<9223372036854775807:=by omega
  obtain⟨x,hx,hin⟩:=HS.out.get hik;obtain⟨b,o,rfl,hat⟩:=HS.out.s.at (Nat.lt_of_le_of_lt (Nat.zero_le _) hik);have HX:=zH (fun W hW=>hat W hW i x hx);obtain⟨hone,UE⟩:=SX HR.out hx;have Hy:=dL hx
  have xD:Hid (Ap.cnt (Ap.W ((vs lo).take (i+1))) c1=N+Ap.Bv x.v c1 x.rn):=zH (by
   rw[Ap.Wo Hy,HN.out,← Ap.Vx hone,hin.r.len])
  have HSr:=zH hin.r;have hm5:x.rn≤5:=by rw[← hin.r.len];exact UE
  generalize hrn:x.rn=m at *
  have HXm:Hid (x.rn=m):=zH hrn;clear hat hx hin hone UE Hy HN hrn;have f1:=HK.out.cell 0 rfl 1 (v:=.slice (some ⟨b,o,none⟩) k cp) rfl;go_wp2_with fail;clear f1;go_loopw [5,7] (fun v5 v7 wi=>∃(j M:Nat),j≤m∧M≤5*i+j∧v5=.int .i64 (M:Int)∧v7=.int .i64 j∧Hid (N+Ap.Bv x.v c1 j=M)∧Hid (Kn w.heap.size w wi [(w.heap.size,33,stA n (some ⟨b,o,none⟩) k cp t)] [])) (fun _ v7 _=>m-(intOf v7).toNat)
  case atStart=>exact⟨0,N,Nat.zero_le _,by omega,rfl,rfl,zH rfl,HK⟩
  case round=>
   clear HK;obtain⟨j,M,hj,hM,rfl,rfl,HM,HK⟩:=hrel;have hj1:(0:Int)≤(j:Int):=by omega
   have f1:=HK.out.cell 0 rfl 1 (v:=.slice (some ⟨b,o,none⟩) k cp) rfl;have f2:World.cell? _ ⟨b,o+i*11+5,none⟩=some (.slice x.rA x.rn x.rc):=HX.out _ HK.out.b 5 (.slice x.rA x.rn x.rc) rfl;rw[HXm.out] at f2;by_cases hjm:j<m
   case neg=>
    obtain rfl:j=m:=by omega
    have hj2:¬(j:Int)<(j:Int):=by omega
    go_wp2_with refine zX (aL (j:=i) hi3) ?_;exact⟨⟨i+1,M,hik,by omega,rfl,rfl,zH (xD.out.trans HM.out),HK⟩,by simp[intOf];omega⟩
   case pos=>
   have hj2:(j:Int)<(m:Int):=by omega
   have hj3:j<9223372036854775807:=by omega
   have hM2:IntKind.i64.wrap ((M:Int)+1)=((M+1:Nat):Int):=by rw[IntKind.wrap_i64];omega
   have HMw:=zH hM2;clear hM2;obtain⟨z,hz,_⟩:=HSr.out.get hjm;obtain⟨b2,o2,hA,hat⟩:=HSr.out.at (Nat.lt_of_le_of_lt (Nat.zero_le _) hjm);rw[hA] at f2;have f4:_=_:=(hat _ HK.out.b j z hz) 0 (.int .i64 z.c) rfl;have f4':World.cell? _ ⟨b2,o2+j*3,none⟩=some (.int .i64 z.c):=f4;have f3:World.cell? _ ⟨b,o+i*11+1,none⟩=some (.int .i64 x.v.kind):=HX.out _ HK.out.b 1 (.int .i64 x.v.kind) rfl;have vP:=zH (Ap.Df (c:=c1) hz);have HMj:Hid (N+Ap.Bv x.v c1 (j+1)=M+Ap.TN x.v c1 j):=zH (by rw[← HM.out];exact(Nat.add_assoc ..).symm);clear hat hz hA f4 HM;by_cases h1:z.c=c1
   case neg=>
    have Cq:Hid (N+Ap.Bv x.v c1 (j+1)=M):=zH (by rw[HMj.out,vP.out,if_neg (fun g=>h1 g.1),Nat.add_zero]);have hb1:(z.c==c1)=false:=by simpa using h1
    clear HMj vP h1;go_wp2_with fail;replace hj3:=hj3;go_wp2_with refine zX (aL (j:=j) hj3) ?_;exact⟨⟨j+1,M,hjm,by omega,rfl,rfl,Cq,HK⟩,by simp[intOf];omega⟩
   case pos=>
   have hb1:(z.c==c1)=true:=by simpa using h1
   by_cases h2:0<j
   case pos=>
    have Cq:Hid (N+Ap.Bv x.v c1 (j+1)=M+1):=zH (by rw[HMj.out,vP.out,if_pos ⟨h1,.inl h2⟩]);have hb2:(0:Int)<(j:Int):=by omega
    clear HMj vP h1 h2;go_wp2_with (first|refine zX (dZ (m:=(M:Int)) HMw.out) ?_|refine zX (aL (j:=j) hj3) ?_);exact⟨⟨j+1,M+1,hjm,by omega,rfl,rfl,Cq,HK⟩,by simp[intOf];omega⟩
   case neg=>
   obtain rfl:j=0:=by omega
   have hb2:¬(0:Int)<((0:Nat):Int):=by omega
   have f5:=f4';rw[Nat.zero_mul,Nat.add_zero] at f5;clear f4';by_cases h4:x.v.kind=4
   case pos=>
    have Cq:Hid (N+Ap.Bv x.v c1 (0+1)=M+1):=zH (by rw[HMj.out,vP.out,if_pos ⟨h1,.inr h4⟩]);have hb3:(x.v.kind==4)=true:=by simpa using h4
    clear HMj vP h1 h2 h4;go_wp2_with (first|refine zX (dZ (m:=(M:Int)) HMw.out) ?_|refine zX (aL (j:=0) hj3) ?_);exact⟨⟨1,M+1,hjm,by omega,rfl,rfl,Cq,HK⟩,by simp[intOf];omega⟩
   case neg=>
    have Cq:Hid (N+Ap.Bv x.v c1 (0+1)=M):=zH (by rw[HMj.out,vP.out,if_neg (fun g=>g.2.elim h2 h4),Nat.add_zero]);have hb3:(x.v.kind==4)=false:=by simpa using h4
    clear HMj vP h1 h2 h4;go_wp2_with refine zX (aL (j:=0) hj3) ?_;exact⟨⟨1,M,hjm,by omega,rfl,rfl,Cq,HK⟩,by simp[intOf];omega⟩
end
section
namespace av
def non(o:Ob):Bool:=((!f0 o || h0 o.kind)&&(!f1 o || h1 o.kind)&&(!f2 o || h2 o.kind)&&(!f3 o || h3 o.kind)&&(!f4 o || h4 o.kind)&&(!f5 o || h5 o.kind))
theorem Qr(o:Ob):clean o=(is o.kind&&non o):=rfl
theorem XO(o:Ob):One o=(decide (named o.name)&&non o&&sound o):=by
 unfold One;rw[Qr]
 cases hs:sound o with
 | false=>simp
 | true=>rw[Sc hs];simp
end av
theorem qP{n:Nat}:decide (0<n)=!decide (n=0):=by
 by_cases h:n=0
 ·subst h;rfl
 ·rw[decide_eq_true (by omega:0<n),decide_eq_false h];rfl
theorem acs{o:av.Ob}{c p v r d m:Bool}(h0:av.f0 o=!c)(h1:av.f1 o=!p)(h2:av.f2 o=!v)(h3:av.f3 o=!r)(h4:av.f4 o=!d)(h5:av.f5 o=!m):
  av.non o=((c || av.h0 o.kind)&&(p || av.h1 o.kind)&&(v || av.h2 o.kind)&&(r || av.h3 o.kind)&&(d || av.h4 o.kind)&&(m || av.h5 o.kind)):=by
 unfold av.non;rw[h0,h1,h2,h3,h4,h5];simp only[Bool.not_not]
theorem OT(x:Oh)(w:World)(hx:In w x):Calls prog 148 #[.agg (bS x)] w (cZ (av.non x.v) w):=by
 have acT:=acs (o:=x.v) (c:=decide (x.v.cap=0)) (p:=decide (x.pn=0)) (v:=decide (x.vn=0)) (r:=decide (x.rn=0)) (d:=decide (x.v.round=0)) (m:=decide (x.v.mt=Mt.zero)) rfl (by unfold av.f1;rw[hx.p.len];exact qP) (by unfold av.f2;rw[hx.v.len];exact qP) (by unfold av.f3;rw[hx.r.len];exact qP) rfl rfl;clear hx;obtain⟨⟨name,kind,cap,dP,vals,refs,round,⟨mn,ms,ml,mm⟩⟩,pA,pn,pc,vA,vn,vc,rA,rn,rc⟩:=x;unfold cZ;unfold bS;simp only at acT ⊢;have HN:=zH acT;clear acT;generalize av.non ⟨name,kind,cap,dP,vals,refs,round,⟨mn,ms,ml,mm⟩⟩=z at *
 have hkd:kind=1∨kind=2∨kind=3∨kind=4∨kind=5∨¬(1≤kind∧kind≤5):=by omega
 have HK:=iK w 63 #[.string name,.int .i64 kind,.int .i64 cap,.slice pA pn pc,.slice vA vn vc,.slice rA rn rc,.int .i64 round,.int .i64 mn,.int .u64 (ms:Int),.int .u64 (ml:Int),.int .u64 (mm:Int)]
 rcases hkd with rfl|rfl|rfl|rfl|rfl|hk
 ·by_cases hv:vn=0
  case neg=>
   have gv:((vn:Int)==0)=false:=by simpa using (by omega:¬(vn:Int)=0)
   obtain rfl:z=false:=by rw[HN.out];simp[av.h0,av.h1,av.h2,av.h3,av.h4,av.h5,Mt.zero,hv]
   exact qC
  case pos=>
  subst hv;by_cases hr:rn=0
  case neg=>
   have gr:((rn:Int)==0)=false:=by simpa using (by omega:¬(rn:Int)=0)
   obtain rfl:z=false:=by rw[HN.out];simp[av.h0,av.h1,av.h2,av.h3,av.h4,av.h5,Mt.zero,hr]
   exact qC
  case pos=>
  subst hr;by_cases hd:round=0
  case neg=>
   have gd:(round==0)=false:=by simpa using hd
   obtain rfl:z=false:=by rw[HN.out];simp[av.h0,av.h1,av.h2,av.h3,av.h4,av.h5,Mt.zero,hd]
   exact qC
  case pos=>
  subst hd;by_cases hmn:mn=0
  case neg=>
   obtain rfl:z=false:=by rw[HN.out];simp[av.h0,av.h1,av.h2,av.h3,av.h4,av.h5,Mt.zero,hmn]
   exact qC
  case pos=>
  subst hmn;by_cases hms:ms=0
  case neg=>
   have gms:¬(ms:Int)=0:=by omega
   obtain rfl:z=false:=by rw[HN.out];simp[av.h0,av.h1,av.h2,av.h3,av.h4,av.h5,Mt.zero,hms]
   exact qC
  case pos=>
  subst hms;by_cases hml:ml=0
  case neg=>
   have gml:¬(ml:Int)=0:=by omega
   obtain rfl:z=false:=by rw[HN.out];simp[av.h0,av.h1,av.h2,av.h3,av.h4,av.h5,Mt.zero,hml]
   exact qC
  case pos=>
  subst hml;by_cases hmm:mm=0
  case neg=>
   have gmm:¬(mm:Int)=0:=by omega
   obtain rfl:z=false:=by rw[HN.out];simp[av.h0,av.h1,av.h2,av.h3,av.h4,av.h5,Mt.zero,hmm]
   exact qC
  case pos=>
  subst hmm;by_cases hc:cap=0
  case neg=>
   have gc:(cap==0)=false:=by simpa using hc
   obtain rfl:z=false:=by rw[HN.out];simp[av.h0,av.h1,av.h2,av.h3,av.h4,av.h5,Mt.zero,hc]
   exact qC
  case pos=>
  subst hc;obtain rfl:z=true:=by rw[HN.out];simp[av.h0,av.h1,av.h2,av.h3,av.h4,av.h5,Mt.zero]
  exact qC
 ·by_cases hp:pn=0
  case neg=>
   have gp:((pn:Int)==0)=false:=by simpa using (by omega:¬(pn:Int)=0)
   obtain rfl:z=false:=by rw[HN.out];simp[av.h0,av.h1,av.h2,av.h3,av.h4,av.h5,Mt.zero,hp]
   exact qC
  case pos=>
  subst hp;by_cases hr:rn=0
  case neg=>
   have gr:((rn:Int)==0)=false:=by simpa using (by omega:¬(rn:Int)=0)
   obtain rfl:z=false:=by rw[HN.out];simp[av.h0,av.h1,av.h2,av.h3,av.h4,av.h5,Mt.zero,hr]
   exact qC
  case pos=>
  subst hr;by_cases hd:round=0
  case neg=>
   have gd:(round==0)=false:=by simpa using hd
   obtain rfl:z=false:=by rw[HN.out];simp[av.h0,av.h1,av.h2,av.h3,av.h4,av.h5,Mt.zero,hd]
   exact qC
  case pos=>
  subst hd;by_cases hmn:mn=0
  case neg=>
   obtain rfl:z=false:=by rw[HN.out];simp[av.h0,av.h1,av.h2,av.h3,av.h4,av.h5,Mt.zero,hmn]
   exact qC
  case pos=>
  subst hmn;by_cases hms:ms=0
  case neg=>
   have gms:¬(ms:Int)=0:=by omega
   obtain rfl:z=false:=by rw[HN.out];simp[av.h0,av.h1,av.h2,av.h3,av.h4,av.h5,Mt.zero,hms]
   exact qC
  case pos=>
  subst hms;by_cases hml:ml=0
  case neg=>
   have gml:¬(ml:Int)=0:=by omega
   obtain rfl:z=false:=by rw[HN.out];simp[av.h0,av.h1,av.h2,av.h3,av.h4,av.h5,Mt.zero,hml]
   exact qC
  case pos=>
  subst hml;by_cases hmm:mm=0
  case neg=>
   have gmm:¬(mm:Int)=0:=by omega
   obtain rfl:z=false:=by rw[HN.out];simp[av.h0,av.h1,av.h2,av.h3,av.h4,av.h5,Mt.zero,hmm]
   exact qC
  case pos=>
  subst hmm;obtain rfl:z=true:=by rw[HN.out];simp[av.h0,av.h1,av.h2,av.h3,av.h4,av.h5,Mt.zero]
  exact qC
 ·by_cases hp:pn=0
  case neg=>
   have gp:((pn:Int)==0)=false:=by simpa using (by omega:¬(pn:Int)=0)
   obtain rfl:z=false:=by rw[HN.out];simp[av.h0,av.h1,av.h2,av.h3,av.h4,av.h5,Mt.zero,hp]
   exact qC
  case pos=>
  subst hp;by_cases hv:vn=0
  case neg=>
   have gv:((vn:Int)==0)=false:=by simpa using (by omega:¬(vn:Int)=0)
   obtain rfl:z=false:=by rw[HN.out];simp[av.h0,av.h1,av.h2,av.h3,av.h4,av.h5,Mt.zero,hv]
   exact qC
  case pos=>
  subst hv;by_cases hd:round=0
  case neg=>
   have gd:(round==0)=false:=by simpa using hd
   obtain rfl:z=false:=by rw[HN.out];simp[av.h0,av.h1,av.h2,av.h3,av.h4,av.h5,Mt.zero,hd]
   exact qC
  case pos=>
  subst hd;by_cases hmn:mn=0
  case neg=>
   obtain rfl:z=false:=by rw[HN.out];simp[av.h0,av.h1,av.h2,av.h3,av.h4,av.h5,Mt.zero,hmn]
   exact qC
  case pos=>
  subst hmn;by_cases hms:ms=0
  case neg=>
   have gms:¬(ms:Int)=0:=by omega
   obtain rfl:z=false:=by rw[HN.out];simp[av.h0,av.h1,av.h2,av.h3,av.h4,av.h5,Mt.zero,hms]
   exact qC
  case pos=>
  subst hms;by_cases hml:ml=0
  case neg=>
   have gml:¬(ml:Int)=0:=by omega
   obtain rfl:z=false:=by rw[HN.out];simp[av.h0,av.h1,av.h2,av.h3,av.h4,av.h5,Mt.zero,hml]
   exact qC
  case pos=>
  subst hml;by_cases hmm:mm=0
  case neg=>
   have gmm:¬(mm:Int)=0:=by omega
   obtain rfl:z=false:=by rw[HN.out];simp[av.h0,av.h1,av.h2,av.h3,av.h4,av.h5,Mt.zero,hmm]
   exact qC
  case pos=>
  subst hmm;by_cases hc:cap=0
  case neg=>
   have gc:(cap==0)=false:=by simpa using hc
   obtain rfl:z=false:=by rw[HN.out];simp[av.h0,av.h1,av.h2,av.h3,av.h4,av.h5,Mt.zero,hc]
   exact qC
  case pos=>
  subst hc;obtain rfl:z=true:=by rw[HN.out];simp[av.h0,av.h1,av.h2,av.h3,av.h4,av.h5,Mt.zero]
  exact qC
 ·by_cases hp:pn=0
  case neg=>
   have gp:((pn:Int)==0)=false:=by simpa using (by omega:¬(pn:Int)=0)
   obtain rfl:z=false:=by rw[HN.out];simp[av.h0,av.h1,av.h2,av.h3,av.h4,av.h5,Mt.zero,hp]
   exact qC
  case pos=>
  subst hp;by_cases hv:vn=0
  case neg=>
   have gv:((vn:Int)==0)=false:=by simpa using (by omega:¬(vn:Int)=0)
   obtain rfl:z=false:=by rw[HN.out];simp[av.h0,av.h1,av.h2,av.h3,av.h4,av.h5,Mt.zero,hv]
   exact qC
  case pos=>
  subst hv;by_cases hmn:mn=0
  case neg=>
   obtain rfl:z=false:=by rw[HN.out];simp[av.h0,av.h1,av.h2,av.h3,av.h4,av.h5,Mt.zero,hmn]
   exact qC
  case pos=>
  subst hmn;by_cases hms:ms=0
  case neg=>
   have gms:¬(ms:Int)=0:=by omega
   obtain rfl:z=false:=by rw[HN.out];simp[av.h0,av.h1,av.h2,av.h3,av.h4,av.h5,Mt.zero,hms]
   exact qC
  case pos=>
  subst hms;by_cases hml:ml=0
  case neg=>
   have gml:¬(ml:Int)=0:=by omega
   obtain rfl:z=false:=by rw[HN.out];simp[av.h0,av.h1,av.h2,av.h3,av.h4,av.h5,Mt.zero,hml]
   exact qC
  case pos=>
  subst hml;by_cases hmm:mm=0
  case neg=>
   have gmm:¬(mm:Int)=0:=by omega
   obtain rfl:z=false:=by rw[HN.out];simp[av.h0,av.h1,av.h2,av.h3,av.h4,av.h5,Mt.zero,hmm]
   exact qC
  case pos=>
  subst hmm;obtain rfl:z=true:=by rw[HN.out];simp[av.h0,av.h1,av.h2,av.h3,av.h4,av.h5,Mt.zero]
  exact qC
 ·by_cases hp:pn=0
  case neg=>
   have gp:((pn:Int)==0)=false:=by simpa using (by omega:¬(pn:Int)=0)
   obtain rfl:z=false:=by rw[HN.out];simp[av.h0,av.h1,av.h2,av.h3,av.h4,av.h5,Mt.zero,hp]
   exact qC
  case pos=>
  subst hp;by_cases hv:vn=0
  case neg=>
   have gv:((vn:Int)==0)=false:=by simpa using (by omega:¬(vn:Int)=0)
   obtain rfl:z=false:=by rw[HN.out];simp[av.h0,av.h1,av.h2,av.h3,av.h4,av.h5,Mt.zero,hv]
   exact qC
  case pos=>
  subst hv;by_cases hr:rn=0
  case neg=>
   have gr:((rn:Int)==0)=false:=by simpa using (by omega:¬(rn:Int)=0)
   obtain rfl:z=false:=by rw[HN.out];simp[av.h0,av.h1,av.h2,av.h3,av.h4,av.h5,Mt.zero,hr]
   exact qC
  case pos=>
  subst hr;by_cases hd:round=0
  case neg=>
   have gd:(round==0)=false:=by simpa using hd
   obtain rfl:z=false:=by rw[HN.out];simp[av.h0,av.h1,av.h2,av.h3,av.h4,av.h5,Mt.zero,hd]
   exact qC
  case pos=>
  subst hd;by_cases hc:cap=0
  case neg=>
   have gc:(cap==0)=false:=by simpa using hc
   obtain rfl:z=false:=by rw[HN.out];simp[av.h0,av.h1,av.h2,av.h3,av.h4,av.h5,Mt.zero,hc]
   exact qC
  case pos=>
  subst hc;obtain rfl:z=true:=by rw[HN.out];simp[av.h0,av.h1,av.h2,av.h3,av.h4,av.h5,Mt.zero]
  exact qC
 ·have n1:¬kind=1:=by omega
  have n2:¬kind=2:=by omega
  have n3:¬kind=3:=by omega
  have n4:¬kind=4:=by omega
  have n5:¬kind=5:=by omega
  clear hk;by_cases hp:pn=0
  case neg=>
   have gp:((pn:Int)==0)=false:=by simpa using (by omega:¬(pn:Int)=0)
   obtain rfl:z=false:=by rw[HN.out];simp[av.h0,av.h1,av.h2,av.h3,av.h4,av.h5,Mt.zero,n1,n2,n3,n4,n5,hp]
   exact WQ
  case pos=>
  subst hp;by_cases hv:vn=0
  case neg=>
   have gv:((vn:Int)==0)=false:=by simpa using (by omega:¬(vn:Int)=0)
   obtain rfl:z=false:=by rw[HN.out];simp[av.h0,av.h1,av.h2,av.h3,av.h4,av.h5,Mt.zero,n1,n2,n3,n4,n5,hv]
   exact WQ
  case pos=>
  subst hv;by_cases hr:rn=0
  case neg=>
   have gr:((rn:Int)==0)=false:=by simpa using (by omega:¬(rn:Int)=0)
   obtain rfl:z=false:=by rw[HN.out];simp[av.h0,av.h1,av.h2,av.h3,av.h4,av.h5,Mt.zero,n1,n2,n3,n4,n5,hr]
   exact WQ
  case pos=>
  subst hr;by_cases hd:round=0
  case neg=>
   have gd:(round==0)=false:=by simpa using hd
   obtain rfl:z=false:=by rw[HN.out];simp[av.h0,av.h1,av.h2,av.h3,av.h4,av.h5,Mt.zero,n1,n2,n3,n4,n5,hd]
   exact WQ
  case pos=>
  subst hd;by_cases hmn:mn=0
  case neg=>
   obtain rfl:z=false:=by rw[HN.out];simp[av.h0,av.h1,av.h2,av.h3,av.h4,av.h5,Mt.zero,n1,n2,n3,n4,n5,hmn]
   exact WQ
  case pos=>
  subst hmn;by_cases hms:ms=0
  case neg=>
   have gms:¬(ms:Int)=0:=by omega
   obtain rfl:z=false:=by rw[HN.out];simp[av.h0,av.h1,av.h2,av.h3,av.h4,av.h5,Mt.zero,n1,n2,n3,n4,n5,hms]
   exact WQ
  case pos=>
  subst hms;by_cases hml:ml=0
  case neg=>
   have gml:¬(ml:Int)=0:=by omega
   obtain rfl:z=false:=by rw[HN.out];simp[av.h0,av.h1,av.h2,av.h3,av.h4,av.h5,Mt.zero,n1,n2,n3,n4,n5,hml]
   exact WQ
  case pos=>
  subst hml;by_cases hmm:mm=0
  case neg=>
   have gmm:¬(mm:Int)=0:=by omega
   obtain rfl:z=false:=by rw[HN.out];simp[av.h0,av.h1,av.h2,av.h3,av.h4,av.h5,Mt.zero,n1,n2,n3,n4,n5,hmm]
   exact WQ
  case pos=>
  subst hmm;by_cases hc:cap=0
  case neg=>
   have gc:(cap==0)=false:=by simpa using hc
   obtain rfl:z=false:=by rw[HN.out];simp[av.h0,av.h1,av.h2,av.h3,av.h4,av.h5,Mt.zero,n1,n2,n3,n4,n5,hc]
   exact WQ
  case pos=>
  subst hc;obtain rfl:z=true:=by rw[HN.out];simp[av.h0,av.h1,av.h2,av.h3,av.h4,av.h5,Mt.zero,n1,n2,n3,n4,n5]
  exact WQ
end
section
theorem vw(A:Option Addr)(c n:Nat)(l:List aK.Pr)(w:World)(hs:Sl w A n c l):
  Calls prog 149 #[.slice A n c] w (cZ (decide (aK.Right l)) w):=by
 by_cases hn:8<n
 ·have hd:decide (aK.Right l)=false:=decide_eq_false fun h=>by have:=h.len;rw[hs.len] at this;omega
  rw[hd];have hn2:8<(n:Int):=by omega
  clear hs hd;go_enter func149,ntmps149;exact LK
 have HS:=zH hs;obtain⟨hno,hyes⟩:=gJ hs.len (by omega:n≤8);have gP:=zH hno;have iL:=zH hyes
 have HG:Hid (∀k,k<n→∃x,l[k]?=some x∧x.val.f<18446744073709551616):=zH fun k hk=>by
  exact ZO
 clear hs hno hyes;generalize decide (aK.Right l)=r at *
 have hn2:¬8<(n:Int):=by omega
 have HK:=zH (Kn.start w);go_enter func149,ntmps149;go_wp2_with fail;go_loopw [3] (fun vi wr=>∃k:Nat,k≤n∧vi=.int .i64 k∧Hid (∀i,i<k→aK.Good l i)∧Hid (Kn w.heap.size w wr [] [])) (fun vi _=>n-(intOf vi).toNat)
 case atStart=>exact⟨0,Nat.zero_le _,rfl,zH (fun i hi=>by omega),HK⟩
 case round=>
  clear HK;obtain⟨k,hk,rfl,iA,HK⟩:=hrel;by_cases hlt:k<n
  ·obtain⟨x,hx,hf⟩:=HG.out k hlt
   obtain⟨b,o,rfl,hat⟩:=HS.out.at (Nat.lt_of_le_of_lt (Nat.zero_le _) hlt);have HX:=zH (fun W hW=>hat W hW k x hx)
   have kY:Hid (∀j,k=j+1→∃y,l[j]?=some y∧∀W,Below w.heap.size w W→∀i v,(Tv y)[i]?=some v→W.cell? ⟨b,o+j*5+i,none⟩=some v):=zH fun j hj=>by
    exact Zo
   have LD:=zH (fun W=>bR x.val W hf);have yE:Hid (aK.Good l k↔(aK.ji x.key x.val=0∧∀j y,k=j+1→l[j]?=some y→aK.lt y.key x.key=true)):=zH ⟨fun h=>h x hx,fun h x' hx'=>by rw[hx] at hx';injection hx' with hx';subst hx';exact h⟩
   have LB:Hid (aK.ji x.key x.val=0↔¬64<x.key.size∧¬x.val.k=0∧Val.bG x.val=0):=zH (by
    unfold aK.ji
    by_cases h1:x.val.k=0<;>by_cases h2:64<x.key.size<;>simp[h1,h2])
   clear hat hf hx;obtain⟨key,vk,vn,vf,vs⟩:=x;unfold vv gX at LD;simp only at LD yE LB;generalize aK.ji key ⟨vk,vn,vf,vs⟩=z at *
   generalize Val.bG ⟨vk,vn,vf,vs⟩=zc at *
   have hk1:(0:Int)≤(k:Int):=by omega
   have hk2:(k:Int)<(n:Int):=by omega
   go_wp2_with fail;by_cases h64:64<key.size
   ·have HR:Hid (r=false):=zH (gP.out k hlt fun h=>(LB.out.1 (yE.out.1 h).1).1 h64)
    have acY:64<(key.size:Int):=by omega
    clear yE kY LD LB;refine zR HK.out.drew fun ah=>?_
    refine ak 0 rfl ?_;refine ak 1 rfl ?_;refine ak 2 rfl ?_ fun _ s=>eO (i:=k) hlt
    refine ak 3 rfl ?_;refine ak 4 rfl ?_ fun _ s=>eG (off:=o+(k)*5) (HX.out _ s.out.b)
    refine ak 5 rfl ?_;refine ak 6 rfl ?_;refine ak 7 rfl ?_;refine bF 8 rfl ?_;refine bF 9 rfl ?_;refine bF 10 rfl ?_;refine bF 11 rfl ?_;refine bF 12 rfl ?_;refine bF 13 rfl ?_;refine bF 14 rfl ?_;refine ak 15 rfl ?_;refine ak 16 rfl ?_;refine bF 17 rfl ?_;refine bF 18 rfl ?_;refine bF 19 rfl ?_;refine bF 20 rfl ?_;refine bF 21 rfl ?_;refine bF 22 rfl ?_;refine bF 23 rfl ?_;refine ak 24 rfl ?_;refine ak 25 rfl ?_;refine bF 26 rfl ?_;refine bF 27 rfl ?_;refine bF 28 rfl ?_;refine bF 29 rfl ?_;refine bF 30 rfl ?_;refine bF 31 rfl ?_;refine bF 32 rfl ?_;refine bF 33 rfl ?_;refine bF 34 rfl ?_;refine bF 35 rfl ?_;refine bF 36 rfl ?_;refine bF 37 rfl ?_;refine bF 38 rfl ?_;refine bF 39 rfl ?_;refine bF 40 rfl ?_;refine bF 41 rfl ?_;refine ak 42 rfl ?_;exact rQ
   have acY:¬64<(key.size:Int):=by omega
   by_cases hk0:vk=0
   ·have HR:Hid (r=false):=zH (gP.out k hlt fun h=>(LB.out.1 (yE.out.1 h).1).2.1 hk0)
    clear yE kY LD LB;subst hk0;refine zR HK.out.drew fun ah=>?_
    refine ak 0 rfl ?_;refine ak 1 rfl ?_;refine ak 2 rfl ?_ fun _ s=>eO (i:=k) hlt
    refine ak 3 rfl ?_;refine ak 4 rfl ?_ fun _ s=>eG (off:=o+(k)*5) (HX.out _ s.out.b)
    refine ak 5 rfl ?_;refine ak 6 rfl ?_;refine ak 7 rfl ?_;refine ak 8 rfl ?_;refine ak 9 rfl ?_;refine ak 10 rfl ?_ fun _ s=>eO (i:=k) hlt
    refine ak 11 rfl ?_;refine ak 12 rfl ?_;refine ak 13 rfl ?_ fun _ s=>sV (off:=o+(k)*5) (HX.out _ s.out.b)
    refine ak 14 rfl ?_;refine ak 15 rfl ?_;refine ak 16 rfl ?_;refine bF 17 rfl ?_;refine bF 18 rfl ?_;refine bF 19 rfl ?_;refine bF 20 rfl ?_;refine bF 21 rfl ?_;refine bF 22 rfl ?_;refine bF 23 rfl ?_;refine ak 24 rfl ?_;refine ak 25 rfl ?_;refine bF 26 rfl ?_;refine bF 27 rfl ?_;refine bF 28 rfl ?_;refine bF 29 rfl ?_;refine bF 30 rfl ?_;refine bF 31 rfl ?_;refine bF 32 rfl ?_;refine bF 33 rfl ?_;refine bF 34 rfl ?_;refine bF 35 rfl ?_;refine bF 36 rfl ?_;refine bF 37 rfl ?_;refine bF 38 rfl ?_;refine bF 39 rfl ?_;refine bF 40 rfl ?_;refine bF 41 rfl ?_;refine ak 42 rfl ?_;exact rQ
   have ahx:(vk==0)=false:=by simpa using hk0
   by_cases hz:zc=0
   case neg=>
    have HR:Hid (r=false):=zH (gP.out k hlt fun h=>hz (LB.out.1 (yE.out.1 h).1).2.2);have hz2:(zc != 0)=true:=by simpa using hz
    clear yE kY LB;refine zR HK.out.drew fun ah=>?_
    refine ak 0 rfl ?_;refine ak 1 rfl ?_;refine ak 2 rfl ?_ fun _ s=>eO (i:=k) hlt
    refine ak 3 rfl ?_;refine ak 4 rfl ?_ fun _ s=>eG (off:=o+(k)*5) (HX.out _ s.out.b)
    refine ak 5 rfl ?_;refine ak 6 rfl ?_;refine ak 7 rfl ?_;refine ak 8 rfl ?_;refine ak 9 rfl ?_;refine ak 10 rfl ?_ fun _ s=>eO (i:=k) hlt
    refine ak 11 rfl ?_;refine ak 12 rfl ?_;refine ak 13 rfl ?_ fun _ s=>sV (off:=o+(k)*5) (HX.out _ s.out.b)
    refine ak 14 rfl ?_;refine ak 15 rfl ?_;refine ak 16 rfl ?_;refine ak 17 rfl ?_;refine ak 18 rfl ?_;refine ak 19 rfl ?_ fun _ s=>eO (i:=k) hlt
    refine ak 20 rfl ?_;refine ak 21 rfl ?_ fun _ s=>ql (off:=o+(k)*5) (HX.out _ s.out.b)
    refine aC 22 rfl fun K hK=>?_
    go_simp;go_at_call 127;refine(LD.out _).mono ?_;rintro e w5 ⟨rfl,b5⟩;have hs:=zH (ah.out.call b5);clear b5;refine bk hK hs fun ah=>?_
    clear hK K;refine ak 23 rfl ?_;refine ak 24 rfl ?_;refine ak 25 rfl ?_;refine bF 26 rfl ?_;refine bF 27 rfl ?_;refine bF 28 rfl ?_;refine bF 29 rfl ?_;refine bF 30 rfl ?_;refine bF 31 rfl ?_;refine bF 32 rfl ?_;refine bF 33 rfl ?_;refine bF 34 rfl ?_;refine bF 35 rfl ?_;refine bF 36 rfl ?_;refine bF 37 rfl ?_;refine bF 38 rfl ?_;refine bF 39 rfl ?_;refine bF 40 rfl ?_;refine bF 41 rfl ?_;refine ak 42 rfl ?_;exact rQ
   case pos=>
   subst hz;have HP:=zH (LB.out.2 ⟨h64,hk0,rfl⟩);clear LB
   rcases Nat.eq_zero_or_pos k with rfl|hpos
   ·clear kY
    refine zR HK.out.drew fun ah=>?_
    refine ak 0 rfl ?_;refine ak 1 rfl ?_;refine ak 2 rfl ?_ fun _ s=>eO (i:=0) hlt
    refine ak 3 rfl ?_;refine ak 4 rfl ?_ fun _ s=>eG (off:=o+(0)*5) (HX.out _ s.out.b)
    refine ak 5 rfl ?_;refine ak 6 rfl ?_;refine ak 7 rfl ?_;refine ak 8 rfl ?_;refine ak 9 rfl ?_;refine ak 10 rfl ?_ fun _ s=>eO (i:=0) hlt
    refine ak 11 rfl ?_;refine ak 12 rfl ?_;refine ak 13 rfl ?_ fun _ s=>sV (off:=o+(0)*5) (HX.out _ s.out.b)
    refine ak 14 rfl ?_;refine ak 15 rfl ?_;refine ak 16 rfl ?_;refine ak 17 rfl ?_;refine ak 18 rfl ?_;refine ak 19 rfl ?_ fun _ s=>eO (i:=0) hlt
    refine ak 20 rfl ?_;refine ak 21 rfl ?_ fun _ s=>ql (off:=o+(0)*5) (HX.out _ s.out.b)
    refine aC 22 rfl fun K hK=>?_
    go_simp;go_at_call 127;refine(LD.out _).mono ?_;rintro e w5 ⟨rfl,b5⟩;have hs:=zH (ah.out.call b5);clear b5;refine bk hK hs fun ah=>?_
    clear hK K;refine ak 23 rfl ?_;refine ak 24 rfl ?_;refine ak 25 rfl ?_;refine ak 26 rfl ?_;refine ak 27 rfl ?_;refine ak 28 rfl ?_;refine bF 29 rfl ?_;refine bF 30 rfl ?_;refine bF 31 rfl ?_;refine bF 32 rfl ?_;refine bF 33 rfl ?_;refine bF 34 rfl ?_;refine bF 35 rfl ?_;refine bF 36 rfl ?_;refine bF 37 rfl ?_;refine bF 38 rfl ?_;refine bF 39 rfl ?_;refine bF 40 rfl ?_;refine ak 41 rfl ?_;refine ak 42 rfl ?_;refine bW ?_;go_wp2_with fail
    exact⟨⟨1,by omega,by go_num,zH (fun i hi=>by
     obtain rfl:i=0:=by omega
     exact yE.out.2 ⟨HP.out,fun j y h _=>by omega⟩),ah⟩,by simp[intOf];omega⟩
   ·obtain⟨j,rfl⟩:∃j,k=j+1:=⟨k-1,by omega⟩
    clear hpos;obtain⟨y,hy,MQ⟩:=kY.out j rfl;have HY:=zH MQ;have Zb:=zH hy;clear hy MQ kY;have hj:j<n:=by omega
    have hj2:j<9223372036854775807:=by omega
    have hj3:((j+1:Nat):Int) > 0:=by omega
    cases hlt2:aK.lt y.key key with
    | true=>
     have hb:(!aK.lt y.key key)=false:=by rw[hlt2];rfl
     refine zR HK.out.drew fun ah=>?_
     refine ak 0 rfl ?_;refine ak 1 rfl ?_;refine ak 2 rfl ?_ fun _ s=>eO (i:=j+1) hlt
     refine ak 3 rfl ?_;refine ak 4 rfl ?_ fun _ s=>eG (off:=o+(j+1)*5) (HX.out _ s.out.b)
     refine ak 5 rfl ?_;refine ak 6 rfl ?_;refine ak 7 rfl ?_;refine ak 8 rfl ?_;refine ak 9 rfl ?_;refine ak 10 rfl ?_ fun _ s=>eO (i:=j+1) hlt
     refine ak 11 rfl ?_;refine ak 12 rfl ?_;refine ak 13 rfl ?_ fun _ s=>sV (off:=o+(j+1)*5) (HX.out _ s.out.b)
     refine ak 14 rfl ?_;refine ak 15 rfl ?_;refine ak 16 rfl ?_;refine ak 17 rfl ?_;refine ak 18 rfl ?_;refine ak 19 rfl ?_ fun _ s=>eO (i:=j+1) hlt
     refine ak 20 rfl ?_;refine ak 21 rfl ?_ fun _ s=>ql (off:=o+(j+1)*5) (HX.out _ s.out.b)
     refine aC 22 rfl fun K hK=>?_
     go_simp;go_at_call 127;refine(LD.out _).mono ?_;rintro e w5 ⟨rfl,b5⟩;have hs:=zH (ah.out.call b5);clear b5;refine bk hK hs fun ah=>?_
     clear hK K;refine ak 23 rfl ?_;refine ak 24 rfl ?_;refine ak 25 rfl ?_;refine ak 26 rfl ?_;refine ak 27 rfl ?_;refine ak 28 rfl ?_;refine ak 29 rfl ?_;refine ak 30 rfl ?_;refine ak 31 rfl ?_ fun _ s=>iI (j:=j) hj2
     refine ak 32 rfl ?_ fun _ s=>eO (i:=j) hj
     refine ak 33 rfl ?_;refine ak 34 rfl ?_ fun _ s=>eG (off:=o+j*5) (HY.out _ s.out.b)
     refine ak 35 rfl ?_;refine ak 36 rfl ?_;refine ak 37 rfl ?_ fun _ s=>eO (i:=j+1) hlt
     refine ak 38 rfl ?_;refine ak 39 rfl ?_ fun _ s=>eG (off:=o+(j+1)*5) (HX.out _ s.out.b)
     refine ak 40 rfl ?_ fun _ s=>wP hb
     refine ak 41 rfl ?_;refine ak 42 rfl ?_;refine bW ?_;go_wp2_with fail
     exact⟨⟨j+2,by omega,by go_num,zH (fun i hi=>by
      by_cases hij:i=j+1
      ·subst hij
       refine yE.out.2 ⟨HP.out,fun j' y' h h'=>?_⟩;obtain rfl:j=j':=by omega
       rw[Zb.out] at h';injection h' with h';subst h';exact hlt2
      ·exact iA.out i (by omega)),ah⟩,by simp[intOf];omega⟩
    | false=>
     have hb:(!aK.lt y.key key)=true:=by rw[hlt2];rfl
     have HR:Hid (r=false):=zH (gP.out _ hlt fun h=>by
      have:=(yE.out.1 h).2 j y rfl Zb.out
      rw[hlt2] at this;cases this)
     refine zR HK.out.drew fun ah=>?_
     refine ak 0 rfl ?_;refine ak 1 rfl ?_;refine ak 2 rfl ?_ fun _ s=>eO (i:=j+1) hlt
     refine ak 3 rfl ?_;refine ak 4 rfl ?_ fun _ s=>eG (off:=o+(j+1)*5) (HX.out _ s.out.b)
     refine ak 5 rfl ?_;refine ak 6 rfl ?_;refine ak 7 rfl ?_;refine ak 8 rfl ?_;refine ak 9 rfl ?_;refine ak 10 rfl ?_ fun _ s=>eO (i:=j+1) hlt
     refine ak 11 rfl ?_;refine ak 12 rfl ?_;refine ak 13 rfl ?_ fun _ s=>sV (off:=o+(j+1)*5) (HX.out _ s.out.b)
     refine ak 14 rfl ?_;refine ak 15 rfl ?_;refine ak 16 rfl ?_;refine ak 17 rfl ?_;refine ak 18 rfl ?_;refine ak 19 rfl ?_ fun _ s=>eO (i:=j+1) hlt
     refine ak 20 rfl ?_;refine ak 21 rfl ?_ fun _ s=>ql (off:=o+(j+1)*5) (HX.out _ s.out.b)
     refine aC 22 rfl fun K hK=>?_
     go_simp;go_at_call 127;refine(LD.out _).mono ?_;rintro e w5 ⟨rfl,b5⟩;have hs:=zH (ah.out.call b5);clear b5;refine bk hK hs fun ah=>?_
     clear hK K;refine ak 23 rfl ?_;refine ak 24 rfl ?_;refine ak 25 rfl ?_;refine ak 26 rfl ?_;refine ak 27 rfl ?_;refine ak 28 rfl ?_;refine ak 29 rfl ?_;refine ak 30 rfl ?_;refine ak 31 rfl ?_ fun _ s=>iI (j:=j) hj2
     refine ak 32 rfl ?_ fun _ s=>eO (i:=j) hj
     refine ak 33 rfl ?_;refine ak 34 rfl ?_ fun _ s=>eG (off:=o+j*5) (HY.out _ s.out.b)
     refine ak 35 rfl ?_;refine ak 36 rfl ?_;refine ak 37 rfl ?_ fun _ s=>eO (i:=j+1) hlt
     refine ak 38 rfl ?_;refine ak 39 rfl ?_ fun _ s=>eG (off:=o+(j+1)*5) (HX.out _ s.out.b)
     refine ak 40 rfl ?_ fun _ s=>wP hb
     refine ak 41 rfl ?_;refine ak 42 rfl ?_;exact rQ
  ·obtain rfl:k=n:=by omega
   have HR:Hid (r=true):=zH (iL.out iA.out);exact rP
end
end Go.Proofs.YtieoeendnccafaaGreat
