/- What the document's own Right returns. No condition but those named. -/
import Derived.Test.YtahdlddbbnjloaaGreatNAX
set_option linter.unusedSimpArgs false
set_option linter.unusedVariables false
set_option maxRecDepth 100000
set_option maxHeartbeats 25600000
open Go.RowKit
namespace Go.Proofs.YtahdlddbbnjloaaGreat
open _root_.Go.Proofs.Tryz
section
theorem xH(t:aG.T)(r:Rf)(w:World)(hf:aG.Fit t):Calls prog 17 #[.agg (dU t),.agg #[.int .i64 r.c,.int .i64 r.e,.int .i64 r.r]] w (jo (aG.lookW t r) w):=by
 have HM:=zH (fun W=>fM r W);have HT:=zH (fun W=>nO t W hf);have HK:=uj w 31 (dU t) 44 #[.int .i64 r.c,.int .i64 r.e,.int .i64 r.r];have HO1:=zH (fun h=>aG.Dp (t:=t) (r:=r) h);have FY:=zH (fun h=>aG.Dn (t:=t) (r:=r) h);have HO3:=zH (fun h1 h2=>aG.Hy (t:=t) (r:=r) h1 h2);have HO5:Hid (decide (aY.ok r)=true→0≤r.c∧r.c<5):=zH (fun h=>aG.mR (of_decide_eq_true h));unfold jo;unfold dw at HM HT;clear hf;generalize aG.lookW t r=x at *
 generalize decide (aG.Right t)=y at *
 generalize decide (aY.ok r)=z at *
 go_enter func17,ntmps17;go_wp2_with refine zX (aP HK 1) ?_;refine cb (HM.out _) HK ?_;clear HK;intro _ HK;cases z
 case false=>
  have HX:=zH (HO1.out (by simp));go_wp2_with fail;exact yD
 go_wp2_with refine zX (qR HK 0) ?_;refine cb (HT.out _) HK ?_;clear HK;intro _ HK;cases y
 case false=>
  have HX:=zH (FY.out (by simp));go_wp2_with fail;exact yD
 have HX:=zH (HO3.out (by simp) (by simp));have hc:=HO5.out (by simp);clear HO1 FY HO3 HO5;go_upto_region 4 with (first|refine zX (qO (x:=r) HK 1) ?_|refine zX (gM hc) ?_|refine zX (kts HK 0 hc) ?_|(refine bE HK ?_;clear HK;intro _ g1 HK;simp only[aS,aK] at HK)|(refine bD (u:=t.get r.c) HK 2 ?_;clear HK;intro _ HK;simp only[lS] at HK));generalize t.get r.c=s at *
 obtain⟨rc,re,rr⟩:=r;obtain⟨l,ep,rq,d,p⟩:=s;dsimp only at *
 have k0:=HK.out.cell 2 rfl 0 (v:=.bool l) rfl;have k1:=HK.out.cell 2 rfl 1 (v:=.int .i64 ep) rfl;have k2:=HK.out.cell 2 rfl 2 (v:=.int .i64 rq) rfl;have k3:=HK.out.cell 2 rfl 3 (v:=.bool d) rfl;have q0:=HK.out.cell 1 rfl 0 (v:=.int .i64 rc) rfl;have q1:=HK.out.cell 1 rfl 1 (v:=.int .i64 re) rfl;have q2:=HK.out.cell 1 rfl 2 (v:=.int .i64 rr) rfl;generalize h1:decide (rr=0)=b1 at *
 have H1:=zH h1;generalize h2:decide (ep<re)=b2 at *
 have H2:=zH h2;generalize h3:(!decide (re=ep))=b3 at *
 have H3:=zH h3;generalize h4:decide (rr<rq)=b4 at *
 have H4:=zH h4;generalize h5:decide (rr=rq)=b5 at *
 have H5:=zH h5;generalize hw:IntKind.i64.wrap (rr-1)=rv at *
 have HW:=zH hw;clear hw;generalize h6:decide (rv=rq)=b6 at *
 have H6:=zH h6;clear h1 h2 h3 h4 h5 h6 hc;cases b1
 case false=>
  cases b3
  case true=>
   go_wp2_with (first|refine zX (aJ (m:=rr) (n:=0) H1.out) ?_|refine zX (bN (m:=re) (n:=ep) H2.out) ?_|refine zX (bJ (m:=re) (n:=ep) H3.out) ?_);exact yD
  cases b4
  case true=>
   go_wp2_with (first|refine zX (aJ (m:=rr) (n:=0) H1.out) ?_|refine zX (bN (m:=re) (n:=ep) H2.out) ?_|refine zX (bJ (m:=re) (n:=ep) H3.out) ?_|refine zX (bM (m:=rr) (n:=rq) H4.out) ?_);exact yD
  cases b5
  case true=>
   cases d
   ·go_wp2_with (first|refine zX (aJ (m:=rr) (n:=0) H1.out) ?_|refine zX (bN (m:=re) (n:=ep) H2.out) ?_|refine zX (bJ (m:=re) (n:=ep) H3.out) ?_|refine zX (bM (m:=rr) (n:=rq) H4.out) ?_|refine zX (aJ (m:=rr) (n:=rq) H5.out) ?_)
    exact yD
   ·go_wp2_with (first|refine zX (aJ (m:=rr) (n:=0) H1.out) ?_|refine zX (bN (m:=re) (n:=ep) H2.out) ?_|refine zX (bJ (m:=re) (n:=ep) H3.out) ?_|refine zX (bM (m:=rr) (n:=rq) H4.out) ?_|refine zX (aJ (m:=rr) (n:=rq) H5.out) ?_)
    exact yD
  cases l
  case false=>
   go_wp2_with (first|refine zX (aJ (m:=rr) (n:=0) H1.out) ?_|refine zX (bN (m:=re) (n:=ep) H2.out) ?_|refine zX (bJ (m:=re) (n:=ep) H3.out) ?_|refine zX (bM (m:=rr) (n:=rq) H4.out) ?_|refine zX (aJ (m:=rr) (n:=rq) H5.out) ?_);exact yD
  cases b6
  case false=>
   exact Sc
  cases d
  case true=>
   exact Sc
  exact Sc
 cases b2
 case false=>
  cases b3
  case true=>
   go_wp2_with (first|refine zX (aJ (m:=rr) (n:=0) H1.out) ?_|refine zX (bN (m:=re) (n:=ep) H2.out) ?_|refine zX (bJ (m:=re) (n:=ep) H3.out) ?_);exact yD
  cases b4
  case true=>
   go_wp2_with (first|refine zX (aJ (m:=rr) (n:=0) H1.out) ?_|refine zX (bN (m:=re) (n:=ep) H2.out) ?_|refine zX (bJ (m:=re) (n:=ep) H3.out) ?_|refine zX (bM (m:=rr) (n:=rq) H4.out) ?_);exact yD
  cases b5
  case true=>
   cases d
   ·go_wp2_with (first|refine zX (aJ (m:=rr) (n:=0) H1.out) ?_|refine zX (bN (m:=re) (n:=ep) H2.out) ?_|refine zX (bJ (m:=re) (n:=ep) H3.out) ?_|refine zX (bM (m:=rr) (n:=rq) H4.out) ?_|refine zX (aJ (m:=rr) (n:=rq) H5.out) ?_)
    exact yD
   ·go_wp2_with (first|refine zX (aJ (m:=rr) (n:=0) H1.out) ?_|refine zX (bN (m:=re) (n:=ep) H2.out) ?_|refine zX (bJ (m:=re) (n:=ep) H3.out) ?_|refine zX (bM (m:=rr) (n:=rq) H4.out) ?_|refine zX (aJ (m:=rr) (n:=rq) H5.out) ?_)
    exact yD
  cases l
  case false=>
   go_wp2_with (first|refine zX (aJ (m:=rr) (n:=0) H1.out) ?_|refine zX (bN (m:=re) (n:=ep) H2.out) ?_|refine zX (bJ (m:=re) (n:=ep) H3.out) ?_|refine zX (bM (m:=rr) (n:=rq) H4.out) ?_|refine zX (aJ (m:=rr) (n:=rq) H5.out) ?_);exact yD
  cases b6
  case false=>
   exact Sc
  cases d
  case true=>
   exact Sc
  exact Sc
 go_wp2_with (first|refine zX (aJ (m:=rr) (n:=0) H1.out) ?_|refine zX (bN (m:=re) (n:=ep) H2.out) ?_);exact yD
theorem xG(t:aG.T)(r:Rf)(w:World)(hf:aG.Fit t)(hr:r.r≤9223372036854775807):Calls prog 17 #[.agg (dU t),.agg #[.int .i64 r.c,.int .i64 r.e,.int .i64 r.r]] w (jo (aG.look t r) w):=by
 rw[← aG.Vo hr];exact xH t r w hf
end
section
theorem Ev(t:aG.T)(r:Rf)(w:World)(hf:aG.Fit t):Calls prog 83 #[.agg (dU t),.agg #[.int .i64 r.c,.int .i64 r.e,.int .i64 r.r]] w (dw (decide (aG.look t r=3)) w):=by
 rw[← aG.zG];have HL:=zH (fun W=>xH t r W hf);have HK:=uj w 31 (dU t) 44 #[.int .i64 r.c,.int .i64 r.e,.int .i64 r.r];unfold dw;unfold jo at HL;clear hf;generalize aG.lookW t r=z at *
 generalize h1:decide (z=3)=b1 at *
 have H1:=zH h1;clear h1;go_enter func83,ntmps83;go_wp2_with (first|refine zX (qR HK 0) ?_|refine zX (aP HK 1) ?_);refine cb (HL.out _) HK ?_;clear HK;intro _ HK;go_wp2_with refine zX (aJ (m:=z) (n:=3) H1.out) ?_;exact nu
end
section
theorem aeM{l:List Oh}(h:au.Right (vs l)){i:Nat}{x:Oh}(hx:l[i]?=some x){j:Nat}{z:Rf}(hz:x.v.refs[j]?=some z):0≤z.c∧z.c<5:=by
 have h1:=(Ap.gB (h.ok x.v (List.mem_of_getElem? (dB hx)))) j (List.getElem?_eq_some_iff.1 hz).1 z hz;exact⟨h1.1.1,h1.1.2.1⟩
theorem Qc{l:List Oh}(h:au.Right (vs l)){i:Nat}{x:Oh}(hx:l[i]?=some x):x.v.refs.length≤5:=
 aY.fV (Ap.gB (h.ok x.v (List.mem_of_getElem? (dB hx))))
theorem KF(n:Int)(A:Option Addr)(k cp:Nat)(t:aG.T)(lo:List Oh)(w:World)(hs:dS w A k cp lo)(hR:au.Right (vs lo))(hf:aG.Fit t):
  Calls prog 39 #[.agg (stA n A k cp t)] w (dw (decide (Ap.Known (vs lo) t)) w):=by
 have HS:=zH hs;have HR:=zH hR;have HK:=jw w 33 (stA n A k cp t);have HW:=zH (fun r W=>Ev t r W hf);have gX:Hid (∀(i:Nat) o,(vs lo)[i]?=some o→∀(j:Nat) r,o.refs[j]?=some r→¬Ap.kG t o j r→decide (Ap.Known (vs lo) t)=false):=zH fun i o ho j r hr h=>Ap.Vy ho hr h
 have iK:Hid ((∀(i:Nat) o,i<k→(vs lo)[i]?=some o→∀(j:Nat) r,o.refs[j]?=some r→Ap.kG t o j r)→decide (Ap.Known (vs lo) t)=true):=zH fun h=>Ap.QK (by rw[gq,hs.len];exact h)
 have hk8:k≤8:=by have:=hR.len;rw[gq,hs.len] at this;exact this
 unfold dw;unfold dw at HW;generalize decide (Ap.Known (vs lo) t)=y at *
 clear hs hR hf;go_enter func39,ntmps39;go_wp2_with fail;go_loopw [3] (fun v3 wr=>∃i:Nat,i≤k∧v3=.int .i64 i∧Hid (∀(i':Nat) o,i'<i→(vs lo)[i']?=some o→∀(j:Nat) r,o.refs[j]?=some r→Ap.kG t o j r)∧Hid (Kn w.heap.size w wr [(w.heap.size,33,stA n A k cp t)] [])) (fun v3 _=>k-(intOf v3).toNat)
 case atStart=>exact⟨0,Nat.zero_le _,rfl,zH (fun i' o h=>absurd h (Nat.not_lt_zero _)),HK⟩
 case round=>
  clear HK;obtain⟨i,hi,rfl,HG,HK⟩:=hrel;have hi1:(0:Int)≤(i:Int):=by omega
  by_cases hik:i<k
  case neg=>
   obtain rfl:i=k:=by omega
   have hi2:¬(i:Int)<(i:Int):=by omega
   have hy:y=true:=iK.out HG.out;subst hy;have f1:=HK.out.cell 0 rfl 1 (v:=.slice A i cp) rfl;exact jq
  case pos=>
  have hi2:(i:Int)<(k:Int):=by omega
  have hi3:i<9223372036854775807:=by omega
  obtain⟨x,hx,hin⟩:=HS.out.get hik;obtain⟨b,o,rfl,hat⟩:=HS.out.s.at (Nat.lt_of_le_of_lt (Nat.zero_le _) hik);have HX:Hid (∀W,Below w.heap.size w W→∀j v,(yY x)[j]?=some v→W.cell? ⟨b,o+i*11+j,none⟩=some v):=zH (fun W hW=>hat W hW i x hx);have HC:=zH (fun(j:Nat) (z:Rf) (hz:x.v.refs[j]?=some z)=>aeM HR.out hx hz);have Sj:=dB hx;have xq:Hid (∀(j:Nat) r,x.v.refs[j]?=some r→¬Ap.kG t x.v j r→y=false):=zH fun j r hr h=>gX.out i _ Sj j r hr h
  have HGx:Hid ((∀(j:Nat) r,j<x.rn→x.v.refs[j]?=some r→Ap.kG t x.v j r)→∀(i':Nat) o,i'<i+1→(vs lo)[i']?=some o→∀(j:Nat) r,o.refs[j]?=some r→Ap.kG t o j r):=zH fun h i' o' h1 h2 j r hr=>by
   by_cases e:i'=i
   ·subst e
    rw[Sj] at h2;injection h2 with h2;subst h2;exact h j r (by rw[← hin.r.len];exact(List.getElem?_eq_some_iff.1 hr).1) hr
   ·exact HG.out i' o' (by omega) h2 j r hr
  have HSr:=zH hin.r
  have aml:Hid (x.rn<9223372036854775807):=zH (by
   have:=(Qc HR.out hx);rw[hin.r.len] at this
   omega)
  clear hat hx hin Sj HG;have f1:=HK.out.cell 0 rfl 1 (v:=.slice (some ⟨b,o,none⟩) k cp) rfl;go_wp2_with (first|(refine av (v:=.agg (cu x)) (gL (off:=o+i*11) (HX.out _ HK.out.b)) ?_)|(refine pV HK ?_;clear HK;intro _ g1 HK;simp only[aS,aK] at HK)|(refine jF (y:=x) HK 1 ?_;clear HK;intro _ HK;simp only[lS] at HK));clear f1;go_loopw [5] (fun v5 wi=>∃j:Nat,j≤x.rn∧v5=.int .i64 j∧Hid (∀(j':Nat) r,j'<j→x.v.refs[j']?=some r→Ap.kG t x.v j' r)∧Hid (Kn w.heap.size w wi [(w.heap.size,33,stA n (some ⟨b,o,none⟩) k cp t),(g1,75,cu x)] [])) (fun v5 _=>x.rn-(intOf v5).toNat)
  case atStart=>exact⟨0,Nat.zero_le _,rfl,zH (fun j' r h=>absurd h (Nat.not_lt_zero _)),HK⟩
  case round=>
   clear HK;obtain⟨j,hj,rfl,HJ,HK⟩:=hrel;have hj1:(0:Int)≤(j:Int):=by omega
   have f2:=HK.out.cell 1 rfl 5 (v:=.slice x.rA x.rn x.rc) rfl;by_cases hjm:j<x.rn
   case neg=>
    obtain rfl:j=x.rn:=by omega
    have hj2:¬(x.rn:Int)<(x.rn:Int):=by omega
    go_wp2_with refine zX (aR (j:=i) hi3) ?_;exact⟨⟨i+1,hik,rfl,zH (HGx.out HJ.out),zH (HK.out.aB 1)⟩,by simp[intOf];omega⟩
   case pos=>
   have hj2:(j:Int)<(x.rn:Int):=by omega
   have hj3:j<9223372036854775807:=by have:=aml.out;omega
   obtain⟨z,hz,_⟩:=HSr.out.get hjm;obtain⟨b2,o2,hA,hat⟩:=HSr.out.at (Nat.lt_of_le_of_lt (Nat.zero_le _) hjm);rw[hA] at f2;have HZ:Hid (∀W,Below w.heap.size w W→∀q v,(Zp z)[q]?=some v→W.cell? ⟨b2,o2+j*3+q,none⟩=some v):=zH (fun W hW=>hat W hW j z hz);have hc:0≤z.c∧z.c<5:=HC.out j z hz;have OV:Hid (¬Ap.kG t x.v j z→y=false):=zH (xq.out j z hz)
   have XY:Hid (Ap.kG t x.v j z→∀(j':Nat) r,j'<j+1→x.v.refs[j']?=some r→Ap.kG t x.v j' r):=zH fun h j' r h1 h2=>by
    by_cases e:j'=j
    ·subst e;rw[hz] at h2;injection h2 with h2;subst h2;exact h
    ·exact HJ.out j' r (by omega) h2
   clear hat hz hA HJ;go_upto_region 10 with (first|refine zX (cZ (x:=z) (off:=o2+j*3) (HZ.out _ HK.out.b)) ?_|(refine bR HK ?_;clear HK;intro _ g2 HK;simp only[aS,aK] at HK)|(refine bW HK 2 ?_;clear HK;intro _ HK;simp only[lS] at HK)|refine zX (qO (x:=z) HK 2) ?_|refine zX (fJ hc) ?_|refine zX (uF HK 0 hc) ?_|(refine bE HK ?_;clear HK;intro _ g3 HK;simp only[aS,aK] at HK)|(refine bD (u:=t.get z.c) HK 3 ?_;clear HK;intro _ HK;simp only[lS] at HK));clear f2;have fk:=HK.out.cell 1 rfl 1 (v:=.int .i64 x.v.kind) rfl;have fe:=HK.out.cell 2 rfl 1 (v:=.int .i64 z.e) rfl;have fr:=HK.out.cell 2 rfl 2 (v:=.int .i64 z.r) rfl;have fl:=HK.out.cell 3 rfl 0 (v:=.bool (t.get z.c).live) rfl;have fp:=HK.out.cell 3 rfl 1 (v:=.int .i64 (t.get z.c).ep) rfl;have fq:=HK.out.cell 3 rfl 2 (v:=.int .i64 (t.get z.c).rq) rfl;have fd:=HK.out.cell 3 rfl 3 (v:=.bool (t.get z.c).dn) rfl;by_cases hh:j=0∧x.v.kind=3
   case pos=>
    obtain⟨rfl,h3⟩:=hh;have jr:Hid (Ap.kG t x.v 0 z↔(((t.get z.c).live=true∧(t.get z.c).ep=z.e∧z.r≤(t.get z.c).rq∧1≤z.r)∧¬(z.r=(t.get z.c).rq∧(t.get z.c).dn=false))):=zH (by unfold Ap.kG Ap.Hd;rw[if_pos ⟨rfl,h3⟩]);rw[h3] at fk;generalize (t.get z.c).live=lv at *
    generalize (t.get z.c).ep=ep at *
    generalize (t.get z.c).rq=rq at *
    generalize (t.get z.c).dn=dn at *
    clear h3 hc
    cases lv with
    | false=>
     have hy:y=false:=OV.out fun h=>by have:=(jr.out.1 h).1.1;cases this
     subst hy;clear OV XY;exact jq
    | true=>
    by_cases h1:ep=z.e
    case neg=>
     have hy:y=false:=OV.out fun h=>h1 (jr.out.1 h).1.2.1
     subst hy;have hb1:(ep==z.e)=false:=by simpa using h1
     have hb2:(ep != z.e)=true:=by simpa using h1
     clear OV XY h1;exact jq
    case pos=>
    have hb1:(ep==z.e)=true:=by simpa using h1
    have hb2:(ep != z.e)=false:=by simpa using h1
    by_cases h2:rq<z.r
    case pos=>
     have hy:y=false:=OV.out fun h=>by have:=(jr.out.1 h).1.2.2.1;omega
     subst hy;clear OV XY h1;exact jq
    case neg=>
    by_cases h4:z.r<1
    case pos=>
     have hy:y=false:=OV.out fun h=>by have:=(jr.out.1 h).1.2.2.2;omega
     subst hy;clear OV XY h1;exact jq
    case neg=>
    by_cases h5:rq=z.r
    case neg=>
     have hb3:(rq==z.r)=false:=by simpa using h5
     have kE:Hid (∀(j':Nat) r,j'<0+1→x.v.refs[j']?=some r→Ap.kG t x.v j' r):=zH (XY.out (jr.out.2 ⟨⟨rfl,h1,by omega,by omega⟩,fun g=>h5 g.1.symm⟩));clear OV XY h1 h5;exact adX
    case pos=>
     have hb3:(rq==z.r)=true:=by simpa using h5
     cases dn with
     | true=>
      have kE:Hid (∀(j':Nat) r,j'<0+1→x.v.refs[j']?=some r→Ap.kG t x.v j' r):=zH (XY.out (jr.out.2 ⟨⟨rfl,h1,by omega,by omega⟩,fun g=>by cases g.2⟩));clear OV XY h1 h5;exact adX
     | false=>
      have hy:y=false:=OV.out fun h=>(jr.out.1 h).2 ⟨h5.symm,rfl⟩
      subst hy;clear OV XY h1 h5;exact jq
   case neg=>
   have jr:Hid (Ap.kG t x.v j z↔aG.look t z=3):=zH (by unfold Ap.kG;rw[if_neg hh]);have HWz:=zH (HW.out z);have HF:Hid (decide (aG.look t z=3)=false→y=false):=zH fun e=>OV.out fun h=>of_decide_eq_false e (jr.out.1 h)
   have HT:Hid (decide (aG.look t z=3)=true→∀(j':Nat) r,j'<j+1→x.v.refs[j']?=some r→Ap.kG t x.v j' r):=zH fun e=>XY.out (jr.out.2 (of_decide_eq_true e))
   generalize decide (aG.look t z=3)=q at *
   clear OV XY jr hc fl fp fq fd;have fc:=HK.out.cell 2 rfl 0 (v:=.int .i64 z.c) rfl;by_cases hj0:j=0
   case pos=>
    subst hj0;have h3:(x.v.kind==3)=false:=by simpa using fun e=>hh ⟨rfl,e⟩
    clear hh;go_wp2_with (first|go_big_skip|refine zX (gD HK 0) ?_|refine zX (aP HK 2) ?_);clear fe fr fc;refine cb (HWz.out _) HK ?_;clear HK;intro _ HK
    cases q with
    | false=>
     have hy:y=false:=HF.out rfl;subst hy;exact jq
    | true=>
     have kE:=zH (HT.out rfl);clear HF HT;exact adX
   case neg=>
    have h3:((j:Int)==0)=false:=by simpa using hj0
    have h4:¬(j:Int)=0:=by omega
    clear hh fk;go_wp2_with (first|go_big_skip|refine zX (gD HK 0) ?_|refine zX (aP HK 2) ?_);clear fe fr fc;refine cb (HWz.out _) HK ?_;clear HK;intro _ HK
    cases q with
    | false=>
     have hy:y=false:=HF.out rfl;subst hy;exact jq
    | true=>
     have kE:=zH (HT.out rfl);clear HF HT;go_wp2_with refine zX (aR (j:=j) hj3) ?_;exact⟨⟨j+1,hjm,rfl,kE,zH (HK.out.aB 2)⟩,by simp[intOf];omega⟩
end
section
theorem Uu{l:List Oh}(h:au.Right (vs l)){i:Nat}{x:Oh}(hx:l[i]?=some x):au.One x.v=true∧x.v.refs.length≤5:=by
 have h1:=h.ok x.v (List.mem_of_getElem? (dB hx));exact⟨h1,aY.fV (Ap.gB h1)⟩
theorem Ku(n:Int)(A:Option Addr)(k cp:Nat)(t:aG.T)(lo:List Oh)(c1:Int)(w:World)(hs:dS w A k cp lo)(hR:au.Right (vs lo)):
  Calls prog 40 #[.agg (stA n A k cp t),.int .i64 c1] w (jo (Ap.cnt (Ap.W (vs lo)) c1:Nat) w):=by
 have HS:=zH hs;have HR:=zH hR;have HK:=jw w 33 (stA n A k cp t);have hk8:k≤8:=by have:=hR.len;rw[gq,hs.len] at this;exact this
 have uq:Hid (Ap.cnt (Ap.W ((vs lo).take k)) c1=Ap.cnt (Ap.W (vs lo)) c1):=zH (by rw[List.take_of_length_le (by rw[gq,hs.len];exact Nat.le_refl _)]);unfold jo;generalize Ap.cnt (Ap.W (vs lo)) c1=y at *
 clear hs hR;go_enter func40,ntmps40;go_wp2_with fail;go_loopw [5,6] (fun v5 v6 wr=>∃(i N:Nat),i≤k∧N≤5*i∧v5=.int .i64 (N:Int)∧v6=.int .i64 i∧Hid (Ap.cnt (Ap.W ((vs lo).take i)) c1=N)∧Hid (Kn w.heap.size w wr [(w.heap.size,33,stA n A k cp t)] [])) (fun _ v6 _=>k-(intOf v6).toNat)
 case atStart=>exact⟨0,0,Nat.zero_le _,Nat.zero_le _,rfl,rfl,zH rfl,HK⟩
 case round=>
  clear HK;obtain⟨i,N,hi,hN,rfl,rfl,HN,HK⟩:=hrel;have hi1:(0:Int)≤(i:Int):=by omega
  by_cases hik:i<k
  case neg=>
   obtain rfl:i=k:=by omega
   have hi2:¬(i:Int)<(i:Int):=by omega
   obtain rfl:N=y:=HN.out.symm.trans uq.out;have f1:=HK.out.cell 0 rfl 1 (v:=.slice A i cp) rfl;exact jq
  case pos=>
  have hi2:(i:Int)<(k:Int):=by omega
  have hi3:i<9223372036854775807:=by omega
  obtain⟨x,hx,hin⟩:=HS.out.get hik;obtain⟨b,o,rfl,hat⟩:=HS.out.s.at (Nat.lt_of_le_of_lt (Nat.zero_le _) hik);have HX:=zH (fun W hW=>hat W hW i x hx);obtain⟨hone,aja⟩:=Uu HR.out hx;have Sj:=dB hx
  have xq:Hid (Ap.cnt (Ap.W ((vs lo).take (i+1))) c1=N+Ap.BO x.v c1 x.rn):=zH (by
   rw[Ap.XF Sj,HN.out,← Ap.Xi hone,hin.r.len])
  have HSr:=zH hin.r;have hm5:x.rn≤5:=by rw[← hin.r.len];exact aja
  generalize hrn:x.rn=m at *
  have HXm:Hid (x.rn=m):=zH hrn;clear hat hx hin hone aja Sj HN hrn;have f1:=HK.out.cell 0 rfl 1 (v:=.slice (some ⟨b,o,none⟩) k cp) rfl;go_wp2_with fail;clear f1;go_loopw [5,7] (fun v5 v7 wi=>∃(j M:Nat),j≤m∧M≤5*i+j∧v5=.int .i64 (M:Int)∧v7=.int .i64 j∧Hid (N+Ap.BO x.v c1 j=M)∧Hid (Kn w.heap.size w wi [(w.heap.size,33,stA n (some ⟨b,o,none⟩) k cp t)] [])) (fun _ v7 _=>m-(intOf v7).toNat)
  case atStart=>exact⟨0,N,Nat.zero_le _,by omega,rfl,rfl,zH rfl,HK⟩
  case round=>
   clear HK;obtain⟨j,M,hj,hM,rfl,rfl,HM,HK⟩:=hrel;have hj1:(0:Int)≤(j:Int):=by omega
   have f1:=HK.out.cell 0 rfl 1 (v:=.slice (some ⟨b,o,none⟩) k cp) rfl;have f2:World.cell? _ ⟨b,o+i*11+5,none⟩=some (.slice x.rA x.rn x.rc):=HX.out _ HK.out.b 5 (.slice x.rA x.rn x.rc) rfl;rw[HXm.out] at f2;by_cases hjm:j<m
   case neg=>
    obtain rfl:j=m:=by omega
    have hj2:¬(j:Int)<(j:Int):=by omega
    go_wp2_with refine zX (aR (j:=i) hi3) ?_;exact⟨⟨i+1,M,hik,by omega,rfl,rfl,zH (xq.out.trans HM.out),HK⟩,by simp[intOf];omega⟩
   case pos=>
   have hj2:(j:Int)<(m:Int):=by omega
   have hj3:j<9223372036854775807:=by omega
   have hM2:IntKind.i64.wrap ((M:Int)+1)=((M+1:Nat):Int):=by rw[IntKind.wrap_i64];omega
   have HMw:=zH hM2;clear hM2;obtain⟨z,hz,_⟩:=HSr.out.get hjm;obtain⟨b2,o2,hA,hat⟩:=HSr.out.at (Nat.lt_of_le_of_lt (Nat.zero_le _) hjm);rw[hA] at f2;have f4:_=_:=(hat _ HK.out.b j z hz) 0 (.int .i64 z.c) rfl;have f4':World.cell? _ ⟨b2,o2+j*3,none⟩=some (.int .i64 z.c):=f4;have f3:World.cell? _ ⟨b,o+i*11+1,none⟩=some (.int .i64 x.v.kind):=HX.out _ HK.out.b 1 (.int .i64 x.v.kind) rfl;have uX:=zH (Ap.Dl (c:=c1) hz);have HMj:Hid (N+Ap.BO x.v c1 (j+1)=M+Ap.Vb x.v c1 j):=zH (by rw[← HM.out];exact(Nat.add_assoc ..).symm);clear hat hz hA f4 HM;by_cases h1:z.c=c1
   case neg=>
    have Sr:Hid (N+Ap.BO x.v c1 (j+1)=M):=zH (by rw[HMj.out,uX.out,if_neg (fun g=>h1 g.1),Nat.add_zero]);have hb1:(z.c==c1)=false:=by simpa using h1
    clear HMj uX h1;go_wp2_with fail;replace hj3:=hj3;go_wp2_with refine zX (aR (j:=j) hj3) ?_;exact⟨⟨j+1,M,hjm,by omega,rfl,rfl,Sr,HK⟩,by simp[intOf];omega⟩
   case pos=>
   have hb1:(z.c==c1)=true:=by simpa using h1
   by_cases h2:0<j
   case pos=>
    have Sr:Hid (N+Ap.BO x.v c1 (j+1)=M+1):=zH (by rw[HMj.out,uX.out,if_pos ⟨h1,.inl h2⟩]);have hb2:(0:Int)<(j:Int):=by omega
    clear HMj uX h1 h2;go_wp2_with (first|refine zX (fZ (m:=(M:Int)) HMw.out) ?_|refine zX (aR (j:=j) hj3) ?_);exact⟨⟨j+1,M+1,hjm,by omega,rfl,rfl,Sr,HK⟩,by simp[intOf];omega⟩
   case neg=>
   obtain rfl:j=0:=by omega
   have hb2:¬(0:Int)<((0:Nat):Int):=by omega
   have f5:=f4';rw[Nat.zero_mul,Nat.add_zero] at f5;clear f4';by_cases h4:x.v.kind=4
   case pos=>
    have Sr:Hid (N+Ap.BO x.v c1 (0+1)=M+1):=zH (by rw[HMj.out,uX.out,if_pos ⟨h1,.inr h4⟩]);have hb3:(x.v.kind==4)=true:=by simpa using h4
    clear HMj uX h1 h2 h4;go_wp2_with (first|refine zX (fZ (m:=(M:Int)) HMw.out) ?_|refine zX (aR (j:=0) hj3) ?_);exact⟨⟨1,M+1,hjm,by omega,rfl,rfl,Sr,HK⟩,by simp[intOf];omega⟩
   case neg=>
    have Sr:Hid (N+Ap.BO x.v c1 (0+1)=M):=zH (by rw[HMj.out,uX.out,if_neg (fun g=>g.2.elim h2 h4),Nat.add_zero]);have hb3:(x.v.kind==4)=false:=by simpa using h4
    clear HMj uX h1 h2 h4;go_wp2_with refine zX (aR (j:=0) hj3) ?_;exact⟨⟨1,M,hjm,by omega,rfl,rfl,Sr,HK⟩,by simp[intOf];omega⟩
end
section
namespace au
def non(o:Ob):Bool:=((!f0 o || h0 o.kind)&&(!f1 o || h1 o.kind)&&(!f2 o || h2 o.kind)&&(!f3 o || h3 o.kind)&&(!f4 o || h4 o.kind)&&(!f5 o || h5 o.kind))
theorem Rx(o:Ob):clean o=(is o.kind&&non o):=rfl
theorem ZM(o:Ob):One o=(decide (named o.name)&&non o&&sound o):=by
 unfold One;rw[Rx]
 cases hs:sound o with
 | false=>simp
 | true=>rw[TH hs];simp
end au
theorem qd{n:Nat}:decide (0<n)=!decide (n=0):=by
 by_cases h:n=0
 ·subst h;rfl
 ·rw[decide_eq_true (by omega:0<n),decide_eq_false h];rfl
theorem aft{o:au.Ob}{c p v r d m:Bool}(h0:au.f0 o=!c)(h1:au.f1 o=!p)(h2:au.f2 o=!v)(h3:au.f3 o=!r)(h4:au.f4 o=!d)(h5:au.f5 o=!m):
  au.non o=((c || au.h0 o.kind)&&(p || au.h1 o.kind)&&(v || au.h2 o.kind)&&(r || au.h3 o.kind)&&(d || au.h4 o.kind)&&(m || au.h5 o.kind)):=by
 unfold au.non;rw[h0,h1,h2,h3,h4,h5];simp only[Bool.not_not]
theorem PW(x:Oh)(w:World)(hx:In w x):Calls prog 121 #[.agg (cu x)] w (dw (au.non x.v) w):=by
 have afL:=aft (o:=x.v) (c:=decide (x.v.cap=0)) (p:=decide (x.pn=0)) (v:=decide (x.vn=0)) (r:=decide (x.rn=0)) (d:=decide (x.v.round=0)) (m:=decide (x.v.mt=Mt.zero)) rfl (by unfold au.f1;rw[hx.p.len];exact qd) (by unfold au.f2;rw[hx.v.len];exact qd) (by unfold au.f3;rw[hx.r.len];exact qd) rfl rfl;clear hx;obtain⟨⟨name,kind,cap,dV,vals,refs,round,⟨mn,ms,ml,mm⟩⟩,pA,pn,pc,vA,vn,vc,rA,rn,rc⟩:=x;unfold dw;unfold cu;simp only at afL ⊢;have HN:=zH afL;clear afL;generalize au.non ⟨name,kind,cap,dV,vals,refs,round,⟨mn,ms,ml,mm⟩⟩=z at *
 have hkd:kind=1∨kind=2∨kind=3∨kind=4∨kind=5∨¬(1≤kind∧kind≤5):=by omega
 have HK:=jw w 75 #[.string name,.int .i64 kind,.int .i64 cap,.slice pA pn pc,.slice vA vn vc,.slice rA rn rc,.int .i64 round,.int .i64 mn,.int .u64 (ms:Int),.int .u64 (ml:Int),.int .u64 (mm:Int)]
 rcases hkd with rfl|rfl|rfl|rfl|rfl|hk
 ·by_cases hv:vn=0
  case neg=>
   have gv:((vn:Int)==0)=false:=by simpa using (by omega:¬(vn:Int)=0)
   obtain rfl:z=false:=by rw[HN.out];simp[au.h0,au.h1,au.h2,au.h3,au.h4,au.h5,Mt.zero,hv]
   exact pq
  case pos=>
  subst hv;by_cases hr:rn=0
  case neg=>
   have gr:((rn:Int)==0)=false:=by simpa using (by omega:¬(rn:Int)=0)
   obtain rfl:z=false:=by rw[HN.out];simp[au.h0,au.h1,au.h2,au.h3,au.h4,au.h5,Mt.zero,hr]
   exact pq
  case pos=>
  subst hr;by_cases hd:round=0
  case neg=>
   have gd:(round==0)=false:=by simpa using hd
   obtain rfl:z=false:=by rw[HN.out];simp[au.h0,au.h1,au.h2,au.h3,au.h4,au.h5,Mt.zero,hd]
   exact pq
  case pos=>
  subst hd;by_cases hmn:mn=0
  case neg=>
   obtain rfl:z=false:=by rw[HN.out];simp[au.h0,au.h1,au.h2,au.h3,au.h4,au.h5,Mt.zero,hmn]
   exact pq
  case pos=>
  subst hmn;by_cases hms:ms=0
  case neg=>
   have gms:¬(ms:Int)=0:=by omega
   obtain rfl:z=false:=by rw[HN.out];simp[au.h0,au.h1,au.h2,au.h3,au.h4,au.h5,Mt.zero,hms]
   exact pq
  case pos=>
  subst hms;by_cases hml:ml=0
  case neg=>
   have gml:¬(ml:Int)=0:=by omega
   obtain rfl:z=false:=by rw[HN.out];simp[au.h0,au.h1,au.h2,au.h3,au.h4,au.h5,Mt.zero,hml]
   exact pq
  case pos=>
  subst hml;by_cases hmm:mm=0
  case neg=>
   have gmm:¬(mm:Int)=0:=by omega
   obtain rfl:z=false:=by rw[HN.out];simp[au.h0,au.h1,au.h2,au.h3,au.h4,au.h5,Mt.zero,hmm]
   exact pq
  case pos=>
  subst hmm;by_cases hc:cap=0
  case neg=>
   have gc:(cap==0)=false:=by simpa using hc
   obtain rfl:z=false:=by rw[HN.out];simp[au.h0,au.h1,au.h2,au.h3,au.h4,au.h5,Mt.zero,hc]
   exact pq
  case pos=>
  subst hc;obtain rfl:z=true:=by rw[HN.out];simp[au.h0,au.h1,au.h2,au.h3,au.h4,au.h5,Mt.zero]
  exact pq
 ·by_cases hp:pn=0
  case neg=>
   have gp:((pn:Int)==0)=false:=by simpa using (by omega:¬(pn:Int)=0)
   obtain rfl:z=false:=by rw[HN.out];simp[au.h0,au.h1,au.h2,au.h3,au.h4,au.h5,Mt.zero,hp]
   exact pq
  case pos=>
  subst hp;by_cases hr:rn=0
  case neg=>
   have gr:((rn:Int)==0)=false:=by simpa using (by omega:¬(rn:Int)=0)
   obtain rfl:z=false:=by rw[HN.out];simp[au.h0,au.h1,au.h2,au.h3,au.h4,au.h5,Mt.zero,hr]
   exact pq
  case pos=>
  subst hr;by_cases hd:round=0
  case neg=>
   have gd:(round==0)=false:=by simpa using hd
   obtain rfl:z=false:=by rw[HN.out];simp[au.h0,au.h1,au.h2,au.h3,au.h4,au.h5,Mt.zero,hd]
   exact pq
  case pos=>
  subst hd;by_cases hmn:mn=0
  case neg=>
   obtain rfl:z=false:=by rw[HN.out];simp[au.h0,au.h1,au.h2,au.h3,au.h4,au.h5,Mt.zero,hmn]
   exact pq
  case pos=>
  subst hmn;by_cases hms:ms=0
  case neg=>
   have gms:¬(ms:Int)=0:=by omega
   obtain rfl:z=false:=by rw[HN.out];simp[au.h0,au.h1,au.h2,au.h3,au.h4,au.h5,Mt.zero,hms]
   exact pq
  case pos=>
  subst hms;by_cases hml:ml=0
  case neg=>
   have gml:¬(ml:Int)=0:=by omega
   obtain rfl:z=false:=by rw[HN.out];simp[au.h0,au.h1,au.h2,au.h3,au.h4,au.h5,Mt.zero,hml]
   exact pq
  case pos=>
  subst hml;by_cases hmm:mm=0
  case neg=>
   have gmm:¬(mm:Int)=0:=by omega
   obtain rfl:z=false:=by rw[HN.out];simp[au.h0,au.h1,au.h2,au.h3,au.h4,au.h5,Mt.zero,hmm]
   exact pq
  case pos=>
  subst hmm;obtain rfl:z=true:=by rw[HN.out];simp[au.h0,au.h1,au.h2,au.h3,au.h4,au.h5,Mt.zero]
  exact pq
 ·by_cases hp:pn=0
  case neg=>
   have gp:((pn:Int)==0)=false:=by simpa using (by omega:¬(pn:Int)=0)
   obtain rfl:z=false:=by rw[HN.out];simp[au.h0,au.h1,au.h2,au.h3,au.h4,au.h5,Mt.zero,hp]
   exact pq
  case pos=>
  subst hp;by_cases hv:vn=0
  case neg=>
   have gv:((vn:Int)==0)=false:=by simpa using (by omega:¬(vn:Int)=0)
   obtain rfl:z=false:=by rw[HN.out];simp[au.h0,au.h1,au.h2,au.h3,au.h4,au.h5,Mt.zero,hv]
   exact pq
  case pos=>
  subst hv;by_cases hd:round=0
  case neg=>
   have gd:(round==0)=false:=by simpa using hd
   obtain rfl:z=false:=by rw[HN.out];simp[au.h0,au.h1,au.h2,au.h3,au.h4,au.h5,Mt.zero,hd]
   exact pq
  case pos=>
  subst hd;by_cases hmn:mn=0
  case neg=>
   obtain rfl:z=false:=by rw[HN.out];simp[au.h0,au.h1,au.h2,au.h3,au.h4,au.h5,Mt.zero,hmn]
   exact pq
  case pos=>
  subst hmn;by_cases hms:ms=0
  case neg=>
   have gms:¬(ms:Int)=0:=by omega
   obtain rfl:z=false:=by rw[HN.out];simp[au.h0,au.h1,au.h2,au.h3,au.h4,au.h5,Mt.zero,hms]
   exact pq
  case pos=>
  subst hms;by_cases hml:ml=0
  case neg=>
   have gml:¬(ml:Int)=0:=by omega
   obtain rfl:z=false:=by rw[HN.out];simp[au.h0,au.h1,au.h2,au.h3,au.h4,au.h5,Mt.zero,hml]
   exact pq
  case pos=>
  subst hml;by_cases hmm:mm=0
  case neg=>
   have gmm:¬(mm:Int)=0:=by omega
   obtain rfl:z=false:=by rw[HN.out];simp[au.h0,au.h1,au.h2,au.h3,au.h4,au.h5,Mt.zero,hmm]
   exact pq
  case pos=>
  subst hmm;by_cases hc:cap=0
  case neg=>
   have gc:(cap==0)=false:=by simpa using hc
   obtain rfl:z=false:=by rw[HN.out];simp[au.h0,au.h1,au.h2,au.h3,au.h4,au.h5,Mt.zero,hc]
   exact pq
  case pos=>
  subst hc;obtain rfl:z=true:=by rw[HN.out];simp[au.h0,au.h1,au.h2,au.h3,au.h4,au.h5,Mt.zero]
  exact pq
 ·by_cases hp:pn=0
  case neg=>
   have gp:((pn:Int)==0)=false:=by simpa using (by omega:¬(pn:Int)=0)
   obtain rfl:z=false:=by rw[HN.out];simp[au.h0,au.h1,au.h2,au.h3,au.h4,au.h5,Mt.zero,hp]
   exact pq
  case pos=>
  subst hp;by_cases hv:vn=0
  case neg=>
   have gv:((vn:Int)==0)=false:=by simpa using (by omega:¬(vn:Int)=0)
   obtain rfl:z=false:=by rw[HN.out];simp[au.h0,au.h1,au.h2,au.h3,au.h4,au.h5,Mt.zero,hv]
   exact pq
  case pos=>
  subst hv;by_cases hmn:mn=0
  case neg=>
   obtain rfl:z=false:=by rw[HN.out];simp[au.h0,au.h1,au.h2,au.h3,au.h4,au.h5,Mt.zero,hmn]
   exact pq
  case pos=>
  subst hmn;by_cases hms:ms=0
  case neg=>
   have gms:¬(ms:Int)=0:=by omega
   obtain rfl:z=false:=by rw[HN.out];simp[au.h0,au.h1,au.h2,au.h3,au.h4,au.h5,Mt.zero,hms]
   exact pq
  case pos=>
  subst hms;by_cases hml:ml=0
  case neg=>
   have gml:¬(ml:Int)=0:=by omega
   obtain rfl:z=false:=by rw[HN.out];simp[au.h0,au.h1,au.h2,au.h3,au.h4,au.h5,Mt.zero,hml]
   exact pq
  case pos=>
  subst hml;by_cases hmm:mm=0
  case neg=>
   have gmm:¬(mm:Int)=0:=by omega
   obtain rfl:z=false:=by rw[HN.out];simp[au.h0,au.h1,au.h2,au.h3,au.h4,au.h5,Mt.zero,hmm]
   exact pq
  case pos=>
  subst hmm;obtain rfl:z=true:=by rw[HN.out];simp[au.h0,au.h1,au.h2,au.h3,au.h4,au.h5,Mt.zero]
  exact pq
 ·by_cases hp:pn=0
  case neg=>
   have gp:((pn:Int)==0)=false:=by simpa using (by omega:¬(pn:Int)=0)
   obtain rfl:z=false:=by rw[HN.out];simp[au.h0,au.h1,au.h2,au.h3,au.h4,au.h5,Mt.zero,hp]
   exact pq
  case pos=>
  subst hp;by_cases hv:vn=0
  case neg=>
   have gv:((vn:Int)==0)=false:=by simpa using (by omega:¬(vn:Int)=0)
   obtain rfl:z=false:=by rw[HN.out];simp[au.h0,au.h1,au.h2,au.h3,au.h4,au.h5,Mt.zero,hv]
   exact pq
  case pos=>
  subst hv;by_cases hr:rn=0
  case neg=>
   have gr:((rn:Int)==0)=false:=by simpa using (by omega:¬(rn:Int)=0)
   obtain rfl:z=false:=by rw[HN.out];simp[au.h0,au.h1,au.h2,au.h3,au.h4,au.h5,Mt.zero,hr]
   exact pq
  case pos=>
  subst hr;by_cases hd:round=0
  case neg=>
   have gd:(round==0)=false:=by simpa using hd
   obtain rfl:z=false:=by rw[HN.out];simp[au.h0,au.h1,au.h2,au.h3,au.h4,au.h5,Mt.zero,hd]
   exact pq
  case pos=>
  subst hd;by_cases hc:cap=0
  case neg=>
   have gc:(cap==0)=false:=by simpa using hc
   obtain rfl:z=false:=by rw[HN.out];simp[au.h0,au.h1,au.h2,au.h3,au.h4,au.h5,Mt.zero,hc]
   exact pq
  case pos=>
  subst hc;obtain rfl:z=true:=by rw[HN.out];simp[au.h0,au.h1,au.h2,au.h3,au.h4,au.h5,Mt.zero]
  exact pq
 ·have n1:¬kind=1:=by omega
  have n2:¬kind=2:=by omega
  have n3:¬kind=3:=by omega
  have n4:¬kind=4:=by omega
  have n5:¬kind=5:=by omega
  clear hk;by_cases hp:pn=0
  case neg=>
   have gp:((pn:Int)==0)=false:=by simpa using (by omega:¬(pn:Int)=0)
   obtain rfl:z=false:=by rw[HN.out];simp[au.h0,au.h1,au.h2,au.h3,au.h4,au.h5,Mt.zero,n1,n2,n3,n4,n5,hp]
   exact Yf
  case pos=>
  subst hp;by_cases hv:vn=0
  case neg=>
   have gv:((vn:Int)==0)=false:=by simpa using (by omega:¬(vn:Int)=0)
   obtain rfl:z=false:=by rw[HN.out];simp[au.h0,au.h1,au.h2,au.h3,au.h4,au.h5,Mt.zero,n1,n2,n3,n4,n5,hv]
   exact Yf
  case pos=>
  subst hv;by_cases hr:rn=0
  case neg=>
   have gr:((rn:Int)==0)=false:=by simpa using (by omega:¬(rn:Int)=0)
   obtain rfl:z=false:=by rw[HN.out];simp[au.h0,au.h1,au.h2,au.h3,au.h4,au.h5,Mt.zero,n1,n2,n3,n4,n5,hr]
   exact Yf
  case pos=>
  subst hr;by_cases hd:round=0
  case neg=>
   have gd:(round==0)=false:=by simpa using hd
   obtain rfl:z=false:=by rw[HN.out];simp[au.h0,au.h1,au.h2,au.h3,au.h4,au.h5,Mt.zero,n1,n2,n3,n4,n5,hd]
   exact Yf
  case pos=>
  subst hd;by_cases hmn:mn=0
  case neg=>
   obtain rfl:z=false:=by rw[HN.out];simp[au.h0,au.h1,au.h2,au.h3,au.h4,au.h5,Mt.zero,n1,n2,n3,n4,n5,hmn]
   exact Yf
  case pos=>
  subst hmn;by_cases hms:ms=0
  case neg=>
   have gms:¬(ms:Int)=0:=by omega
   obtain rfl:z=false:=by rw[HN.out];simp[au.h0,au.h1,au.h2,au.h3,au.h4,au.h5,Mt.zero,n1,n2,n3,n4,n5,hms]
   exact Yf
  case pos=>
  subst hms;by_cases hml:ml=0
  case neg=>
   have gml:¬(ml:Int)=0:=by omega
   obtain rfl:z=false:=by rw[HN.out];simp[au.h0,au.h1,au.h2,au.h3,au.h4,au.h5,Mt.zero,n1,n2,n3,n4,n5,hml]
   exact Yf
  case pos=>
  subst hml;by_cases hmm:mm=0
  case neg=>
   have gmm:¬(mm:Int)=0:=by omega
   obtain rfl:z=false:=by rw[HN.out];simp[au.h0,au.h1,au.h2,au.h3,au.h4,au.h5,Mt.zero,n1,n2,n3,n4,n5,hmm]
   exact Yf
  case pos=>
  subst hmm;by_cases hc:cap=0
  case neg=>
   have gc:(cap==0)=false:=by simpa using hc
   obtain rfl:z=false:=by rw[HN.out];simp[au.h0,au.h1,au.h2,au.h3,au.h4,au.h5,Mt.zero,n1,n2,n3,n4,n5,hc]
   exact Yf
  case pos=>
  subst hc;obtain rfl:z=true:=by rw[HN.out];simp[au.h0,au.h1,au.h2,au.h3,au.h4,au.h5,Mt.zero,n1,n2,n3,n4,n5]
  exact Yf
end
section
theorem uP(A:Option Addr)(c n:Nat)(l:List aQ.Pr)(w:World)(hs:Sl w A n c l):
  Calls prog 122 #[.slice A n c] w (dw (decide (aQ.Right l)) w):=by
 by_cases hn:8<n
 ·have hd:decide (aQ.Right l)=false:=decide_eq_false fun h=>by have:=h.len;rw[hs.len] at this;omega
  rw[hd];have hn2:8<(n:Int):=by omega
  clear hs hd;go_enter func122,ntmps122;exact Yy
 have HS:=zH hs;obtain⟨hno,hyes⟩:=gu hs.len (by omega:n≤8);have gX:=zH hno;have iK:=zH hyes
 have HG:Hid (∀k,k<n→∃x,l[k]?=some x∧x.val.f<18446744073709551616):=zH fun k hk=>by
  exact acR
 clear hs hno hyes;generalize decide (aQ.Right l)=r at *
 have hn2:¬8<(n:Int):=by omega
 have HK:=zH (Kn.start w);go_enter func122,ntmps122;go_wp2_with fail;go_loopw [3] (fun vi wr=>∃k:Nat,k≤n∧vi=.int .i64 k∧Hid (∀i,i<k→aQ.Good l i)∧Hid (Kn w.heap.size w wr [] [])) (fun vi _=>n-(intOf vi).toNat)
 case atStart=>exact⟨0,Nat.zero_le _,rfl,zH (fun i hi=>by omega),HK⟩
 case round=>
  clear HK;obtain⟨k,hk,rfl,kE,HK⟩:=hrel;by_cases hlt:k<n
  ·obtain⟨x,hx,hf⟩:=HG.out k hlt
   obtain⟨b,o,rfl,hat⟩:=HS.out.at (Nat.lt_of_le_of_lt (Nat.zero_le _) hlt);have HX:=zH (fun W hW=>hat W hW k x hx)
   have kK:Hid (∀j,k=j+1→∃y,l[j]?=some y∧∀W,Below w.heap.size w W→∀i v,(Yi y)[i]?=some v→W.cell? ⟨b,o+j*5+i,none⟩=some v):=zH fun j hj=>by
    exact acp
   have FQ:=zH (fun W=>bK x.val W hf);have yx:Hid (aQ.Good l k↔(aQ.jG x.key x.val=0∧∀j y,k=j+1→l[j]?=some y→aQ.lt y.key x.key=true)):=zH ⟨fun h=>h x hx,fun h x' hx'=>by rw[hx] at hx';injection hx' with hx';subst hx';exact h⟩
   have MU:Hid (aQ.jG x.key x.val=0↔¬64<x.key.size∧¬x.val.k=0∧Val.aX x.val=0):=zH (by
    unfold aQ.jG
    by_cases h1:x.val.k=0<;>by_cases h2:64<x.key.size<;>simp[h1,h2])
   clear hat hf hx;obtain⟨key,vk,vn,vf,vs⟩:=x;unfold vv iQ at FQ;simp only at FQ yx MU;generalize aQ.jG key ⟨vk,vn,vf,vs⟩=z at *
   generalize Val.aX ⟨vk,vn,vf,vs⟩=zc at *
   have hk1:(0:Int)≤(k:Int):=by omega
   have hk2:(k:Int)<(n:Int):=by omega
   go_wp2_with fail;by_cases h64:64<key.size
   ·have HR:Hid (r=false):=zH (gX.out k hlt fun h=>(MU.out.1 (yx.out.1 h).1).1 h64)
    have afV:64<(key.size:Int):=by omega
    clear yx kK FQ MU;refine zR HK.out.drew fun ah=>?_
    refine ak 0 rfl ?_;refine ak 1 rfl ?_;refine ak 2 rfl ?_ fun _ s=>dK (i:=k) hlt
    refine ak 3 rfl ?_;refine ak 4 rfl ?_ fun _ s=>eu (off:=o+(k)*5) (HX.out _ s.out.b)
    refine ak 5 rfl ?_;refine ak 6 rfl ?_;refine ak 7 rfl ?_;refine bq 8 rfl ?_;refine bq 9 rfl ?_;refine bq 10 rfl ?_;refine bq 11 rfl ?_;refine bq 12 rfl ?_;refine bq 13 rfl ?_;refine bq 14 rfl ?_;refine ak 15 rfl ?_;refine ak 16 rfl ?_;refine bq 17 rfl ?_;refine bq 18 rfl ?_;refine bq 19 rfl ?_;refine bq 20 rfl ?_;refine bq 21 rfl ?_;refine bq 22 rfl ?_;refine bq 23 rfl ?_;refine ak 24 rfl ?_;refine ak 25 rfl ?_;refine bq 26 rfl ?_;refine bq 27 rfl ?_;refine bq 28 rfl ?_;refine bq 29 rfl ?_;refine bq 30 rfl ?_;refine bq 31 rfl ?_;refine bq 32 rfl ?_;refine bq 33 rfl ?_;refine bq 34 rfl ?_;refine bq 35 rfl ?_;refine bq 36 rfl ?_;refine bq 37 rfl ?_;refine bq 38 rfl ?_;refine bq 39 rfl ?_;refine bq 40 rfl ?_;refine bq 41 rfl ?_;refine ak 42 rfl ?_;exact FU
   have afV:¬64<(key.size:Int):=by omega
   by_cases hk0:vk=0
   ·have HR:Hid (r=false):=zH (gX.out k hlt fun h=>(MU.out.1 (yx.out.1 h).1).2.1 hk0)
    clear yx kK FQ MU;subst hk0;refine zR HK.out.drew fun ah=>?_
    refine ak 0 rfl ?_;refine ak 1 rfl ?_;refine ak 2 rfl ?_ fun _ s=>dK (i:=k) hlt
    refine ak 3 rfl ?_;refine ak 4 rfl ?_ fun _ s=>eu (off:=o+(k)*5) (HX.out _ s.out.b)
    refine ak 5 rfl ?_;refine ak 6 rfl ?_;refine ak 7 rfl ?_;refine ak 8 rfl ?_;refine ak 9 rfl ?_;refine ak 10 rfl ?_ fun _ s=>dK (i:=k) hlt
    refine ak 11 rfl ?_;refine ak 12 rfl ?_;refine ak 13 rfl ?_ fun _ s=>sO (off:=o+(k)*5) (HX.out _ s.out.b)
    refine ak 14 rfl ?_;refine ak 15 rfl ?_;refine ak 16 rfl ?_;refine bq 17 rfl ?_;refine bq 18 rfl ?_;refine bq 19 rfl ?_;refine bq 20 rfl ?_;refine bq 21 rfl ?_;refine bq 22 rfl ?_;refine bq 23 rfl ?_;refine ak 24 rfl ?_;refine ak 25 rfl ?_;refine bq 26 rfl ?_;refine bq 27 rfl ?_;refine bq 28 rfl ?_;refine bq 29 rfl ?_;refine bq 30 rfl ?_;refine bq 31 rfl ?_;refine bq 32 rfl ?_;refine bq 33 rfl ?_;refine bq 34 rfl ?_;refine bq 35 rfl ?_;refine bq 36 rfl ?_;refine bq 37 rfl ?_;refine bq 38 rfl ?_;refine bq 39 rfl ?_;refine bq 40 rfl ?_;refine bq 41 rfl ?_;refine ak 42 rfl ?_;exact FU
   have alp:(vk==0)=false:=by simpa using hk0
   by_cases hz:zc=0
   case neg=>
    have HR:Hid (r=false):=zH (gX.out k hlt fun h=>hz (MU.out.1 (yx.out.1 h).1).2.2);have hz2:(zc != 0)=true:=by simpa using hz
    clear yx kK MU;refine zR HK.out.drew fun ah=>?_
    refine ak 0 rfl ?_;refine ak 1 rfl ?_;refine ak 2 rfl ?_ fun _ s=>dK (i:=k) hlt
    refine ak 3 rfl ?_;refine ak 4 rfl ?_ fun _ s=>eu (off:=o+(k)*5) (HX.out _ s.out.b)
    refine ak 5 rfl ?_;refine ak 6 rfl ?_;refine ak 7 rfl ?_;refine ak 8 rfl ?_;refine ak 9 rfl ?_;refine ak 10 rfl ?_ fun _ s=>dK (i:=k) hlt
    refine ak 11 rfl ?_;refine ak 12 rfl ?_;refine ak 13 rfl ?_ fun _ s=>sO (off:=o+(k)*5) (HX.out _ s.out.b)
    refine ak 14 rfl ?_;refine ak 15 rfl ?_;refine ak 16 rfl ?_;refine ak 17 rfl ?_;refine ak 18 rfl ?_;refine ak 19 rfl ?_ fun _ s=>dK (i:=k) hlt
    refine ak 20 rfl ?_;refine ak 21 rfl ?_ fun _ s=>sN (off:=o+(k)*5) (HX.out _ s.out.b)
    refine aC 22 rfl fun K hK=>?_
    go_simp;go_at_call 86;refine(FQ.out _).mono ?_;rintro e w5 ⟨rfl,b5⟩;have hs:=zH (ah.out.call b5);clear b5;refine bk hK hs fun ah=>?_
    clear hK K;refine ak 23 rfl ?_;refine ak 24 rfl ?_;refine ak 25 rfl ?_;refine bq 26 rfl ?_;refine bq 27 rfl ?_;refine bq 28 rfl ?_;refine bq 29 rfl ?_;refine bq 30 rfl ?_;refine bq 31 rfl ?_;refine bq 32 rfl ?_;refine bq 33 rfl ?_;refine bq 34 rfl ?_;refine bq 35 rfl ?_;refine bq 36 rfl ?_;refine bq 37 rfl ?_;refine bq 38 rfl ?_;refine bq 39 rfl ?_;refine bq 40 rfl ?_;refine bq 41 rfl ?_;refine ak 42 rfl ?_;exact FU
   case pos=>
   subst hz;have HP:=zH (MU.out.2 ⟨h64,hk0,rfl⟩);clear MU
   rcases Nat.eq_zero_or_pos k with rfl|hpos
   ·clear kK
    refine zR HK.out.drew fun ah=>?_
    refine ak 0 rfl ?_;refine ak 1 rfl ?_;refine ak 2 rfl ?_ fun _ s=>dK (i:=0) hlt
    refine ak 3 rfl ?_;refine ak 4 rfl ?_ fun _ s=>eu (off:=o+(0)*5) (HX.out _ s.out.b)
    refine ak 5 rfl ?_;refine ak 6 rfl ?_;refine ak 7 rfl ?_;refine ak 8 rfl ?_;refine ak 9 rfl ?_;refine ak 10 rfl ?_ fun _ s=>dK (i:=0) hlt
    refine ak 11 rfl ?_;refine ak 12 rfl ?_;refine ak 13 rfl ?_ fun _ s=>sO (off:=o+(0)*5) (HX.out _ s.out.b)
    refine ak 14 rfl ?_;refine ak 15 rfl ?_;refine ak 16 rfl ?_;refine ak 17 rfl ?_;refine ak 18 rfl ?_;refine ak 19 rfl ?_ fun _ s=>dK (i:=0) hlt
    refine ak 20 rfl ?_;refine ak 21 rfl ?_ fun _ s=>sN (off:=o+(0)*5) (HX.out _ s.out.b)
    refine aC 22 rfl fun K hK=>?_
    go_simp;go_at_call 86;refine(FQ.out _).mono ?_;rintro e w5 ⟨rfl,b5⟩;have hs:=zH (ah.out.call b5);clear b5;refine bk hK hs fun ah=>?_
    clear hK K;refine ak 23 rfl ?_;refine ak 24 rfl ?_;refine ak 25 rfl ?_;refine ak 26 rfl ?_;refine ak 27 rfl ?_;refine ak 28 rfl ?_;refine bq 29 rfl ?_;refine bq 30 rfl ?_;refine bq 31 rfl ?_;refine bq 32 rfl ?_;refine bq 33 rfl ?_;refine bq 34 rfl ?_;refine bq 35 rfl ?_;refine bq 36 rfl ?_;refine bq 37 rfl ?_;refine bq 38 rfl ?_;refine bq 39 rfl ?_;refine bq 40 rfl ?_;refine ak 41 rfl ?_;refine ak 42 rfl ?_;refine cB ?_;go_wp2_with fail
    exact⟨⟨1,by omega,by go_num,zH (fun i hi=>by
     obtain rfl:i=0:=by omega
     exact yx.out.2 ⟨HP.out,fun j y h _=>by omega⟩),ah⟩,by simp[intOf];omega⟩
   ·obtain⟨j,rfl⟩:∃j,k=j+1:=⟨k-1,by omega⟩
    clear hpos;obtain⟨y,hy,Od⟩:=kK.out j rfl;have HY:=zH Od;have HYl:=zH hy;clear hy Od kK;have hj:j<n:=by omega
    have hj2:j<9223372036854775807:=by omega
    have hj3:((j+1:Nat):Int) > 0:=by omega
    cases hlt2:aQ.lt y.key key with
    | true=>
     have hb:(!aQ.lt y.key key)=false:=by rw[hlt2];rfl
     refine zR HK.out.drew fun ah=>?_
     refine ak 0 rfl ?_;refine ak 1 rfl ?_;refine ak 2 rfl ?_ fun _ s=>dK (i:=j+1) hlt
     refine ak 3 rfl ?_;refine ak 4 rfl ?_ fun _ s=>eu (off:=o+(j+1)*5) (HX.out _ s.out.b)
     refine ak 5 rfl ?_;refine ak 6 rfl ?_;refine ak 7 rfl ?_;refine ak 8 rfl ?_;refine ak 9 rfl ?_;refine ak 10 rfl ?_ fun _ s=>dK (i:=j+1) hlt
     refine ak 11 rfl ?_;refine ak 12 rfl ?_;refine ak 13 rfl ?_ fun _ s=>sO (off:=o+(j+1)*5) (HX.out _ s.out.b)
     refine ak 14 rfl ?_;refine ak 15 rfl ?_;refine ak 16 rfl ?_;refine ak 17 rfl ?_;refine ak 18 rfl ?_;refine ak 19 rfl ?_ fun _ s=>dK (i:=j+1) hlt
     refine ak 20 rfl ?_;refine ak 21 rfl ?_ fun _ s=>sN (off:=o+(j+1)*5) (HX.out _ s.out.b)
     refine aC 22 rfl fun K hK=>?_
     go_simp;go_at_call 86;refine(FQ.out _).mono ?_;rintro e w5 ⟨rfl,b5⟩;have hs:=zH (ah.out.call b5);clear b5;refine bk hK hs fun ah=>?_
     clear hK K;refine ak 23 rfl ?_;refine ak 24 rfl ?_;refine ak 25 rfl ?_;refine ak 26 rfl ?_;refine ak 27 rfl ?_;refine ak 28 rfl ?_;refine ak 29 rfl ?_;refine ak 30 rfl ?_;refine ak 31 rfl ?_ fun _ s=>iO (j:=j) hj2
     refine ak 32 rfl ?_ fun _ s=>dK (i:=j) hj
     refine ak 33 rfl ?_;refine ak 34 rfl ?_ fun _ s=>eu (off:=o+j*5) (HY.out _ s.out.b)
     refine ak 35 rfl ?_;refine ak 36 rfl ?_;refine ak 37 rfl ?_ fun _ s=>dK (i:=j+1) hlt
     refine ak 38 rfl ?_;refine ak 39 rfl ?_ fun _ s=>eu (off:=o+(j+1)*5) (HX.out _ s.out.b)
     refine ak 40 rfl ?_ fun _ s=>wK hb
     refine ak 41 rfl ?_;refine ak 42 rfl ?_;refine cB ?_;go_wp2_with fail
     exact⟨⟨j+2,by omega,by go_num,zH (fun i hi=>by
      by_cases hij:i=j+1
      ·subst hij
       refine yx.out.2 ⟨HP.out,fun j' y' h h'=>?_⟩;obtain rfl:j=j':=by omega
       rw[HYl.out] at h';injection h' with h';subst h';exact hlt2
      ·exact kE.out i (by omega)),ah⟩,by simp[intOf];omega⟩
    | false=>
     have hb:(!aQ.lt y.key key)=true:=by rw[hlt2];rfl
     have HR:Hid (r=false):=zH (gX.out _ hlt fun h=>by
      have:=(yx.out.1 h).2 j y rfl HYl.out
      rw[hlt2] at this;cases this)
     refine zR HK.out.drew fun ah=>?_
     refine ak 0 rfl ?_;refine ak 1 rfl ?_;refine ak 2 rfl ?_ fun _ s=>dK (i:=j+1) hlt
     refine ak 3 rfl ?_;refine ak 4 rfl ?_ fun _ s=>eu (off:=o+(j+1)*5) (HX.out _ s.out.b)
     refine ak 5 rfl ?_;refine ak 6 rfl ?_;refine ak 7 rfl ?_;refine ak 8 rfl ?_;refine ak 9 rfl ?_;refine ak 10 rfl ?_ fun _ s=>dK (i:=j+1) hlt
     refine ak 11 rfl ?_;refine ak 12 rfl ?_;refine ak 13 rfl ?_ fun _ s=>sO (off:=o+(j+1)*5) (HX.out _ s.out.b)
     refine ak 14 rfl ?_;refine ak 15 rfl ?_;refine ak 16 rfl ?_;refine ak 17 rfl ?_;refine ak 18 rfl ?_;refine ak 19 rfl ?_ fun _ s=>dK (i:=j+1) hlt
     refine ak 20 rfl ?_;refine ak 21 rfl ?_ fun _ s=>sN (off:=o+(j+1)*5) (HX.out _ s.out.b)
     refine aC 22 rfl fun K hK=>?_
     go_simp;go_at_call 86;refine(FQ.out _).mono ?_;rintro e w5 ⟨rfl,b5⟩;have hs:=zH (ah.out.call b5);clear b5;refine bk hK hs fun ah=>?_
     clear hK K;refine ak 23 rfl ?_;refine ak 24 rfl ?_;refine ak 25 rfl ?_;refine ak 26 rfl ?_;refine ak 27 rfl ?_;refine ak 28 rfl ?_;refine ak 29 rfl ?_;refine ak 30 rfl ?_;refine ak 31 rfl ?_ fun _ s=>iO (j:=j) hj2
     refine ak 32 rfl ?_ fun _ s=>dK (i:=j) hj
     refine ak 33 rfl ?_;refine ak 34 rfl ?_ fun _ s=>eu (off:=o+j*5) (HY.out _ s.out.b)
     refine ak 35 rfl ?_;refine ak 36 rfl ?_;refine ak 37 rfl ?_ fun _ s=>dK (i:=j+1) hlt
     refine ak 38 rfl ?_;refine ak 39 rfl ?_ fun _ s=>eu (off:=o+(j+1)*5) (HX.out _ s.out.b)
     refine ak 40 rfl ?_ fun _ s=>wK hb
     refine ak 41 rfl ?_;refine ak 42 rfl ?_;exact FU
  ·obtain rfl:k=n:=by omega
   have HR:Hid (r=true):=zH (iK.out kE.out);exact qZ
end
section
theorem rM(N:Int)(A:Option Addr)(c n:Nat)(l:List Val.V)(w:World)(hs:bT bG vF w A n c l):
  Calls prog 123 #[.int .i64 N,.slice A n c] w (dw (decide (fG.Right N l)) w):=by
 have HK:=zH (Kn.start w);by_cases h1:N<1
 ·have hd:decide (fG.Right N l)=false:=decide_eq_false fun h=>by have:=h.lo;omega
  rw[hd];clear hs hd;go_enter func123,ntmps123;exact jq
 by_cases h2:8<N
 ·have hd:decide (fG.Right N l)=false:=decide_eq_false fun h=>by have:=h.hi;omega
  rw[hd];clear hs hd;go_enter func123,ntmps123;exact jq
 by_cases h3:N<(n:Int)
 ·have hd:decide (fG.Right N l)=false:=decide_eq_false fun h=>by have:=h.len;rw[hs.len] at this;omega
  rw[hd];clear hs hd;go_enter func123,ntmps123;exact jq
 obtain⟨hno,hyes⟩:=fG.gu (n:=N) (l:=l) hs.len (by omega) (by omega) (by omega);have gX:=zH hno;have iK:=zH hyes;have HS:=zH hs;have hn9:n<9:=by omega
 clear hs hno hyes;generalize decide (fG.Right N l)=r at *
 go_enter func123,ntmps123;go_wp2_with fail;go_loopw [5] (fun vi wr=>∃k:Nat,k≤n∧vi=.int .i64 k∧Hid (∀(i:Nat) v,i<k→l[i]?=some v→fG.jT v=0)∧Hid (Kn w.heap.size w wr [] [])) (fun vi _=>n-(intOf vi).toNat)
 case atStart=>exact⟨0,Nat.zero_le _,rfl,zH (fun i v hi=>by omega),HK⟩
 case round=>
  clear HK;obtain⟨k,hk,rfl,kE,HK⟩:=hrel;have hk1:(0:Int)≤(k:Int):=by omega
  by_cases hlt:k<n
  ·have hk2:(k:Int)<(n:Int):=by omega
   have hk3:k<9223372036854775807:=by omega
   obtain⟨x,hx,hf⟩:=HS.out.get hlt;obtain⟨b,o,rfl,hat⟩:=HS.out.at (Nat.lt_of_le_of_lt (Nat.zero_le _) hlt);have HX:=zH (fun W hW=>hat W hW k x hx);have HV:=zH (fun W=>bK x W hf);have HN:=zH (gX.out k x hx)
   have nU:Hid (fG.jT x=0→∀(i:Nat) v,i<k+1→l[i]?=some v→fG.jT v=0):=zH fun h i v hi hv=>by
    by_cases hik:i=k
    ·subst hik;rw[hx] at hv;injection hv with hv;subst hv;exact h
    ·exact kE.out i v (by omega) hv
   clear hat hx hf;by_cases hkind:x.k=0
   ·have hz:¬fG.jT x=0:=by rw[fG.xA hkind];decide
    have HR:=zH (HN.out hz);obtain⟨vk,vn,vf,vs⟩:=x;obtain rfl:vk=0:=hkind;clear HV HN nU hz;go_wp2_with refine av (IJ (off:=o+k*4) (HX.out _ HK.out.b)) ?_;go_ret;exact⟨by rw[HR.out]<;>rfl,HK.out.b⟩
   ·rw[fG.CK hkind] at HN nU
    obtain⟨vk,vn,vf,vs⟩:=x;have afO:(vk==0)=false:=by simpa using hkind
    unfold vv iQ at HV;simp only at HV;generalize Val.aX ⟨vk,vn,vf,vs⟩=z at *
    clear hkind;go_wp2_with (first|refine av (IJ (off:=o+k*4) (HX.out _ HK.out.b)) ?_|refine av (BL (off:=o+k*4) (HX.out _ HK.out.b)) ?_);refine cb (HV.out _) HK ?_;clear HK;intro _ HK;by_cases hz:z=0
    ·subst hz
     replace nU:=zH (nU.out rfl);go_wp2_with refine av (aR (j:=k) hk3) ?_;exact⟨⟨k+1,hlt,rfl,nU,HK⟩,by simp[intOf];omega⟩
    ·have hz2:(z != 0)=true:=by simpa using hz
     have HR:=zH (HN.out hz);exact qZ
  ·obtain rfl:k=n:=by omega
   have HR:Hid (r=true):=zH (iK.out kE.out);exact qZ
end
section
theorem sD(x:kC)(hf:Mt.Fit x)(w:World):
  Calls prog 126 #[.agg #[.int .i64 x.n,.int .u64 (x.s:Int),.int .u64 (x.l:Int),.int .u64 (x.m:Int)]] w (dw (decide (Mt.Ok x)) w):=by
 obtain⟨n,s,l,m⟩:=x;obtain⟨_,f1,f2,f3⟩:=hf;dsimp only at f1 f2 f3;have H1:=zH (fun w=>gT s w f1);have H2:=zH (fun w=>gT l w f2);have H3:=zH (fun w=>gT m w f3);have H4:=zH (fun w=>Az l m w f2 f3);have HK:=jw w 73 (mC n s l m);unfold dw;by_cases h0:n=0
 case pos=>
  have HE:Hid (decide ((⟨n,s,l,m⟩:kC)=⟨0,0,0,0⟩)=decide (Mt.Ok ⟨n,s,l,m⟩)):=zH (Mt.ok_none (by omega));generalize decide (Mt.Ok ⟨n,s,l,m⟩)=b at *
  subst h0;go_enter func126,ntmps126;go_wp2_with (first|refine zX (dO HK 0) ?_|refine zX (cO HK 0) ?_|refine zX (II (x:=⟨0,s,l,m⟩) (y:=⟨0,0,0,0⟩) HE.out) ?_);exact nu
 case neg=>
 clear f1 f2 f3;have hz:(n==0)=false:=by rw[beq_eq_false_iff_ne];exact h0
 have hpn:0<n∨¬0<n:=by omega
 by_cases hs:Num.M s=s
 case neg=>
  have hok:decide (Mt.Ok ⟨n,s,l,m⟩)=false:=decide_eq_false (Mt.aiG h0 hs);rw[hok];have HN:=zH (decide_eq_false (p:=s=Num.M s) (fun e=>hs e.symm));clear hok hs h0;generalize Num.M s=t at *
  go_enter func126,ntmps126;go_wp2_with refine zX (dO HK 0) ?_;refine zR HK.out.drew fun ah=>?_
  refine ak 0 rfl ?_;refine ak 1 rfl ?_ fun _ s=>fu s 0
  refine ak 2 rfl ?_;refine ak 3 rfl ?_ fun _ s=>fu s 0
  refine aC 4 rfl fun K hK=>?_
  go_simp;go_at_call 127;refine(H1.out _).mono ?_;rintro e w5 ⟨rfl,rfl⟩;have hs:=ah;refine bk hK hs fun ah=>?_
  clear hK K;refine ak 5 rfl ?_ (fun w Ym=>iI (x:=s) (y:=t) HN.out);refine ak 6 rfl ?_;refine bq 7 rfl ?_;refine bq 8 rfl ?_;refine bq 9 rfl ?_;refine bq 10 rfl ?_;refine bq 11 rfl ?_;refine bq 12 rfl ?_;refine ak 13 rfl ?_;refine ak 14 rfl ?_;refine bq 15 rfl ?_;refine bq 16 rfl ?_;refine bq 17 rfl ?_;refine bq 18 rfl ?_;refine bq 19 rfl ?_;refine bq 20 rfl ?_;refine ak 21 rfl ?_;refine ak 22 rfl ?_;refine cB ?_;replace HK:=ah;clear ah;have k0:=HK.out.cell 0 rfl 0 (v:=.int .i64 n) rfl;have k2:=HK.out.cell 0 rfl 2 (v:=.int .u64 (l:Int)) rfl;have k3:=HK.out.cell 0 rfl 3 (v:=.int .u64 (m:Int)) rfl
  rcases hpn with hp|hp
  ·go_wp2_with fail
   exact nu
  ·go_wp2_with fail
   exact nu
 case pos=>
 rw[hs] at H1;by_cases hl:Num.M l=l
 case neg=>
  have hok:decide (Mt.Ok ⟨n,s,l,m⟩)=false:=decide_eq_false (Mt.aiI h0 hl);rw[hok];have HN:=zH (decide_eq_false (p:=l=Num.M l) (fun e=>hl e.symm));clear hok hs hl h0;generalize Num.M l=t at *
  go_enter func126,ntmps126;go_wp2_with refine zX (dO HK 0) ?_;refine zR HK.out.drew fun ah=>?_
  refine ak 0 rfl ?_;refine ak 1 rfl ?_ fun _ s=>fu s 0
  refine ak 2 rfl ?_;refine ak 3 rfl ?_ fun _ s=>fu s 0
  refine aC 4 rfl fun K hK=>?_
  go_simp;go_at_call 127;refine(H1.out _).mono ?_;rintro e w5 ⟨rfl,rfl⟩;have hs:=ah;refine bk hK hs fun ah=>?_
  clear hK K;refine ak 5 rfl ?_ (fun w Ym=>iI (x:=s) (y:=s) (jU s));refine ak 6 rfl ?_;refine ak 7 rfl ?_;refine ak 8 rfl ?_ fun _ s=>fH s 0
  refine ak 9 rfl ?_;refine ak 10 rfl ?_ fun _ s=>fH s 0
  refine aC 11 rfl fun K hK=>?_
  go_simp;go_at_call 127;refine(H2.out _).mono ?_;rintro e w5 ⟨rfl,rfl⟩;have hs:=ah;refine bk hK hs fun ah=>?_
  clear hK K;refine ak 12 rfl ?_ fun _ s=>iI (x:=l) (y:=t) HN.out
  refine ak 13 rfl ?_;refine ak 14 rfl ?_;refine bq 15 rfl ?_;refine bq 16 rfl ?_;refine bq 17 rfl ?_;refine bq 18 rfl ?_;refine bq 19 rfl ?_;refine bq 20 rfl ?_;refine ak 21 rfl ?_;refine ak 22 rfl ?_;refine cB ?_;replace HK:=ah;clear ah;have k0:=HK.out.cell 0 rfl 0 (v:=.int .i64 n) rfl;have k2:=HK.out.cell 0 rfl 2 (v:=.int .u64 (l:Int)) rfl;have k3:=HK.out.cell 0 rfl 3 (v:=.int .u64 (m:Int)) rfl
  rcases hpn with hp|hp
  ·go_wp2_with fail
   exact nu
  ·go_wp2_with fail
   exact nu
 case pos=>
 rw[hl] at H2;by_cases hm:Num.M m=m
 case neg=>
  have hok:decide (Mt.Ok ⟨n,s,l,m⟩)=false:=decide_eq_false (Mt.aiH h0 hm);rw[hok];have HN:=zH (decide_eq_false (p:=m=Num.M m) (fun e=>hm e.symm));clear hok hs hl hm h0;generalize Num.M m=t at *
  go_enter func126,ntmps126;go_wp2_with refine zX (dO HK 0) ?_;refine zR HK.out.drew fun ah=>?_
  refine ak 0 rfl ?_;refine ak 1 rfl ?_ fun _ s=>fu s 0
  refine ak 2 rfl ?_;refine ak 3 rfl ?_ fun _ s=>fu s 0
  refine aC 4 rfl fun K hK=>?_
  go_simp;go_at_call 127;refine(H1.out _).mono ?_;rintro e w5 ⟨rfl,rfl⟩;have hs:=ah;refine bk hK hs fun ah=>?_
  clear hK K;refine ak 5 rfl ?_ (fun w Ym=>iI (x:=s) (y:=s) (jU s));refine ak 6 rfl ?_;refine ak 7 rfl ?_;refine ak 8 rfl ?_ fun _ s=>fH s 0
  refine ak 9 rfl ?_;refine ak 10 rfl ?_ fun _ s=>fH s 0
  refine aC 11 rfl fun K hK=>?_
  go_simp;go_at_call 127;refine(H2.out _).mono ?_;rintro e w5 ⟨rfl,rfl⟩;have hs:=ah;refine bk hK hs fun ah=>?_
  clear hK K;refine ak 12 rfl ?_ fun _ s=>iI (x:=l) (y:=l) (jU l)
  refine ak 13 rfl ?_;refine ak 14 rfl ?_;refine ak 15 rfl ?_;refine ak 16 rfl ?_ fun _ s=>gK s 0
  refine ak 17 rfl ?_;refine ak 18 rfl ?_ fun _ s=>gK s 0
  refine aC 19 rfl fun K hK=>?_
  go_simp;go_at_call 127;refine(H3.out _).mono ?_;rintro e w5 ⟨rfl,rfl⟩;have hs:=ah;refine bk hK hs fun ah=>?_
  clear hK K;refine ak 20 rfl ?_ fun _ s=>iI (x:=m) (y:=t) HN.out
  refine ak 21 rfl ?_;refine ak 22 rfl ?_;refine cB ?_;replace HK:=ah;clear ah;have k0:=HK.out.cell 0 rfl 0 (v:=.int .i64 n) rfl;have k2:=HK.out.cell 0 rfl 2 (v:=.int .u64 (l:Int)) rfl;have k3:=HK.out.cell 0 rfl 3 (v:=.int .u64 (m:Int)) rfl
  rcases hpn with hp|hp
  ·go_wp2_with fail
   exact nu
  ·go_wp2_with fail
   exact nu
 case pos=>
  rw[hm] at H3
  rcases hpn with hp|hp
  ·have hok:decide (Mt.Ok ⟨n,s,l,m⟩)=decide (Num.cmp l m≤0):=decide_eq_decide.2 (Mt.Ve hp hs hl hm)
   rw[hok];clear hok hs hl hm h0;generalize Num.cmp l m=c at *
   go_enter func126,ntmps126;go_wp2_with refine zX (dO HK 0) ?_;refine zR HK.out.drew fun ah=>?_
   refine ak 0 rfl ?_;refine ak 1 rfl ?_ fun _ s=>fu s 0
   refine ak 2 rfl ?_;refine ak 3 rfl ?_ fun _ s=>fu s 0
   refine aC 4 rfl fun K hK=>?_
   go_simp;go_at_call 127;refine(H1.out _).mono ?_;rintro e w5 ⟨rfl,rfl⟩;have hs:=ah;refine bk hK hs fun ah=>?_
   clear hK K;refine ak 5 rfl ?_ (fun w Ym=>iI (x:=s) (y:=s) (jU s));refine ak 6 rfl ?_;refine ak 7 rfl ?_;refine ak 8 rfl ?_ fun _ s=>fH s 0
   refine ak 9 rfl ?_;refine ak 10 rfl ?_ fun _ s=>fH s 0
   refine aC 11 rfl fun K hK=>?_
   go_simp;go_at_call 127;refine(H2.out _).mono ?_;rintro e w5 ⟨rfl,rfl⟩;have hs:=ah;refine bk hK hs fun ah=>?_
   clear hK K;refine ak 12 rfl ?_ fun _ s=>iI (x:=l) (y:=l) (jU l)
   refine ak 13 rfl ?_;refine ak 14 rfl ?_;refine ak 15 rfl ?_;refine ak 16 rfl ?_ fun _ s=>gK s 0
   refine ak 17 rfl ?_;refine ak 18 rfl ?_ fun _ s=>gK s 0
   refine aC 19 rfl fun K hK=>?_
   go_simp;go_at_call 127;refine(H3.out _).mono ?_;rintro e w5 ⟨rfl,rfl⟩;have hs:=ah;refine bk hK hs fun ah=>?_
   clear hK K;refine ak 20 rfl ?_ fun _ s=>iI (x:=m) (y:=m) (jU m)
   refine ak 21 rfl ?_;refine ak 22 rfl ?_;refine cB ?_;replace HK:=ah;clear ah;have k0:=HK.out.cell 0 rfl 0 (v:=.int .i64 n) rfl;have k2:=HK.out.cell 0 rfl 2 (v:=.int .u64 (l:Int)) rfl;have k3:=HK.out.cell 0 rfl 3 (v:=.int .u64 (m:Int)) rfl;go_wp2_with fail;refine(H4.out _).mono ?_;rintro e w1 ⟨rfl,rfl⟩;exact jq
  ·have hok:decide (Mt.Ok ⟨n,s,l,m⟩)=false:=decide_eq_false (Mt.okn h0 hp)
   rw[hok];clear hok hs hl hm h0;go_enter func126,ntmps126;go_wp2_with refine zX (dO HK 0) ?_;refine zR HK.out.drew fun ah=>?_
   refine ak 0 rfl ?_;refine ak 1 rfl ?_ fun _ s=>fu s 0
   refine ak 2 rfl ?_;refine ak 3 rfl ?_ fun _ s=>fu s 0
   refine aC 4 rfl fun K hK=>?_
   go_simp;go_at_call 127;refine(H1.out _).mono ?_;rintro e w5 ⟨rfl,rfl⟩;have hs:=ah;refine bk hK hs fun ah=>?_
   clear hK K;refine ak 5 rfl ?_ (fun w Ym=>iI (x:=s) (y:=s) (jU s));refine ak 6 rfl ?_;refine ak 7 rfl ?_;refine ak 8 rfl ?_ fun _ s=>fH s 0
   refine ak 9 rfl ?_;refine ak 10 rfl ?_ fun _ s=>fH s 0
   refine aC 11 rfl fun K hK=>?_
   go_simp;go_at_call 127;refine(H2.out _).mono ?_;rintro e w5 ⟨rfl,rfl⟩;have hs:=ah;refine bk hK hs fun ah=>?_
   clear hK K;refine ak 12 rfl ?_ fun _ s=>iI (x:=l) (y:=l) (jU l)
   refine ak 13 rfl ?_;refine ak 14 rfl ?_;refine ak 15 rfl ?_;refine ak 16 rfl ?_ fun _ s=>gK s 0
   refine ak 17 rfl ?_;refine ak 18 rfl ?_ fun _ s=>gK s 0
   refine aC 19 rfl fun K hK=>?_
   go_simp;go_at_call 127;refine(H3.out _).mono ?_;rintro e w5 ⟨rfl,rfl⟩;have hs:=ah;refine bk hK hs fun ah=>?_
   clear hK K;refine ak 20 rfl ?_ fun _ s=>iI (x:=m) (y:=m) (jU m)
   refine ak 21 rfl ?_;refine ak 22 rfl ?_;refine cB ?_;replace HK:=ah;clear ah;have k0:=HK.out.cell 0 rfl 0 (v:=.int .i64 n) rfl;have k2:=HK.out.cell 0 rfl 2 (v:=.int .u64 (l:Int)) rfl;have k3:=HK.out.cell 0 rfl 3 (v:=.int .u64 (m:Int)) rfl;exact jq
end
end Go.Proofs.YtahdlddbbnjloaaGreat
