/- Floats of replies fit where the objects' own do. No condition but those named. -/
import Derived.Test.YtieoeendnccafaaGreatNAR
set_option linter.unusedSimpArgs false
set_option linter.unusedVariables false
set_option maxRecDepth 100000
set_option maxHeartbeats 25600000
open Go.RowKit
namespace Go.Proofs.YtieoeendnccafaaGreat
open _root_.Go.Proofs.Tryz
section
theorem vg(t:aH.T)(w:World)(hf:aH.Fit t):Calls prog 36 #[.agg (dR t)] w (cZ (decide (aH.Right t)) w):=by
 have iL:=zH (aH.CV t);have gP:=zH (fun(c:Int) hc=>aH.Gn (t:=t) (c:=c) hc);have HL:=zH (fun W=>CK t W);have HF:=zH hf;have HK:=iK w 31 (dR t);unfold cZ;unfold gG at HL;clear hf;generalize decide (aH.Right t)=r at *
 go_enter func36,ntmps36;go_wp2_with refine zX (jV HK 0) ?_;go_loopw [6] (fun v6 wr=>∃k:Nat,k≤5∧v6=.int .i64 k∧Hid (∀c:Int,0≤c∧c<(k:Int)→aH.one (t.get c)=true)∧Hid (Kn w.heap.size w wr [(w.heap.size,31,dR t)] [])) (fun v6 _=>5-(intOf v6).toNat)
 case atStart=>exact⟨0,Nat.zero_le _,rfl,zH (fun c hc=>by omega),HK⟩
 case round=>
  clear HK;obtain⟨k,hk,rfl,iA,HK⟩:=hrel;have hk1:(0:Int)≤(k:Int):=by omega
  by_cases hlt:k<5
  ·have hk2:(k:Int)<(5:Int):=by omega
   have hk3:k<9223372036854775807:=by omega
   have hc:0≤(k:Int)∧(k:Int)<5:=⟨hk1,hk2⟩;have HN:=zH (gP.out (k:Int) hc);have HC:=zH (fun W=>JZ (t.get (k:Int)) W (HF.out _ hc));have vP:=zH (aH.XM (t.get (k:Int)))
   have nZ:Hid (aH.one (t.get (k:Int))=true→∀c:Int,0≤c∧c<((k+1:Nat):Int)→aH.one (t.get c)=true):=zH fun h c hc=>by
    by_cases e:c=(k:Int)
    ·rw[e];exact h
    ·exact iA.out c (by omega)
   generalize hs:t.get (k:Int)=s at *
   have HI:Hid (t.get (k:Int)=s):=zH hs;clear hs;unfold cZ at HC;generalize h0:decide (s=aH.z)=b0 at *
   have H0:Hid ((!decide (s=aH.z))=!b0):=zH (by rw[h0]);clear h0;generalize aH.snd s=b1 at *
   cases b0
   ·cases b1
    ·have HR:=zH (HN.out (by rw[vP.out];rfl))
     clear nZ vP HN;go_wp2_with (first|refine zX ((mg (t:=t) hc).trans (by rw[HI.out])) ?_|(refine bE HK ?_;clear HK;intro _ g1 HK;simp only[aO,aJ] at HK)|(refine bD (u:=s) HK 1 ?_;clear HK;intro _ HK;simp only[lS] at HK)|refine zX (ER HK 1) ?_|refine zX (oO) ?_|refine zX (qh (s:=s) (u:=aH.z) H0.out) ?_);refine cb (HC.out _) HK ?_;clear HK;intro _ HK;exact rP
    ·replace nZ:=zH (nZ.out (by rw[vP.out];rfl))
     clear vP HN;go_wp2_with (first|refine zX ((mg (t:=t) hc).trans (by rw[HI.out])) ?_|(refine bE HK ?_;clear HK;intro _ g1 HK;simp only[aO,aJ] at HK)|(refine bD (u:=s) HK 1 ?_;clear HK;intro _ HK;simp only[lS] at HK)|refine zX (ER HK 1) ?_|refine zX (oO) ?_|refine zX (qh (s:=s) (u:=aH.z) H0.out) ?_);refine cb (HC.out _) HK ?_;clear HK;intro _ HK;go_wp2_with refine zX (aL (j:=k) hk3) ?_;exact⟨⟨k+1,hlt,rfl,nZ,zH (HK.out.aA 1)⟩,by simp[intOf];omega⟩
   ·replace nZ:=zH (nZ.out (by rw[vP.out];rfl))
    clear vP HN;go_wp2_with (first|refine zX ((mg (t:=t) hc).trans (by rw[HI.out])) ?_|(refine bE HK ?_;clear HK;intro _ g1 HK;simp only[aO,aJ] at HK)|(refine bD (u:=s) HK 1 ?_;clear HK;intro _ HK;simp only[lS] at HK)|refine zX (ER HK 1) ?_|refine zX (oO) ?_|refine zX (qh (s:=s) (u:=aH.z) H0.out) ?_|refine zX (aL (j:=k) hk3) ?_);exact⟨⟨k+1,hlt,rfl,nZ,zH (HK.out.aA 1)⟩,by simp[intOf];omega⟩
  ·obtain rfl:k=5:=by omega
   have HR:=zH (iL.out iA.out);go_wp2_with refine zX (jV HK 0) ?_;refine cb (HL.out _) HK ?_;clear HK;intro _ HK;generalize aH.live t (-1)=z at *
   go_wp2_with refine zX (jG (m:=z) (n:=4) HR.out.symm) ?_;exact lQ
theorem pq(t:aH.T)(w:World)(hf:aH.Fit t):Calls prog 41 #[.agg (dR t)] w (cZ (decide (aH.Right t)) w):=by
 have iL:=zH (aH.CV t);have gP:=zH (fun(c:Int) hc=>aH.Gn (t:=t) (c:=c) hc);have HL:=zH (fun W=>CS t (-1) W);have HF:=zH hf;have HK:=iK w 31 (dR t);unfold cZ;unfold gG at HL;clear hf;generalize decide (aH.Right t)=r at *
 go_enter func41,ntmps41;go_wp2_with fail;go_loopw [3] (fun v6 wr=>∃k:Nat,k≤5∧v6=.int .i64 k∧Hid (∀c:Int,0≤c∧c<(k:Int)→aH.one (t.get c)=true)∧Hid (Kn w.heap.size w wr [(w.heap.size,31,dR t)] [])) (fun v6 _=>5-(intOf v6).toNat)
 case atStart=>exact⟨0,Nat.zero_le _,rfl,zH (fun c hc=>by omega),HK⟩
 case round=>
  clear HK;obtain⟨k,hk,rfl,iA,HK⟩:=hrel;have hk1:(0:Int)≤(k:Int):=by omega
  by_cases hlt:k<5
  ·have hk2:(k:Int)<(5:Int):=by omega
   have hk3:k<9223372036854775807:=by omega
   have hc:0≤(k:Int)∧(k:Int)<5:=⟨hk1,hk2⟩;have HN:=zH (gP.out (k:Int) hc);have HC:=zH (fun W=>Kh (t.get (k:Int)) W (HF.out _ hc))
   have nZ:Hid (aH.one (t.get (k:Int))=true→∀c:Int,0≤c∧c<((k+1:Nat):Int)→aH.one (t.get c)=true):=zH fun h c hc=>by
    by_cases e:c=(k:Int)
    ·rw[e];exact h
    ·exact iA.out c (by omega)
   unfold cZ at HC;generalize aH.one (t.get (k:Int))=b1 at *
   go_wp2_with (first|refine zX (dO hc) ?_|refine zX (Yj HK 0 hc) ?_);refine cb (HC.out _) HK ?_;clear HK;intro _ HK;cases b1
   ·have HR:=zH (HN.out rfl)
    clear nZ HN;exact rP
   ·replace nZ:=zH (nZ.out rfl)
    clear HN;go_wp2_with refine zX (aL (j:=k) hk3) ?_;exact⟨⟨k+1,hlt,rfl,nZ,HK⟩,by simp[intOf];omega⟩
  ·obtain rfl:k=5:=by omega
   have HR:=zH (iL.out iA.out);go_wp2_with refine zX (jV HK 0) ?_;refine cb (HL.out _) HK ?_;clear HK;intro _ HK;generalize aH.live t (-1)=z at *
   go_wp2_with refine zX (jG (m:=z) (n:=4) HR.out.symm) ?_;exact lQ
end
section
namespace aH
def Dk(b1 b2 b3 b4 b5 l b6 d:Bool):Int:=if (b1&&b2)=true then 1 else if (b3 || b4)=true then 5 else if b5=true then (if d=true then 2 else 3) else if l=false then 4 else if (b6&&d)=true then 1 else 5
theorem TU(s:S)(r:Rf):oI s r=Dk (decide (r.r=0)) (decide (s.ep<r.e)) (!decide (r.e=s.ep)) (decide (r.r<s.rq)) (decide (r.r=s.rq)) s.live (decide (r.r-1=s.rq)) s.dn:=by
 unfold oI Dk
 congr 1
 ·simp
 ·congr 1
  ·simp
  ·simp
theorem XP{r:Rf}(h1:decide (aS.ok r)=true)(h:r.r≤9223372036854775807):IntKind.i64.wrap (r.r-1)=r.r-1:=by
 obtain⟨_,_,_,h0⟩:=of_decide_eq_true h1;rw[IntKind.wrap_i64];omega
def lookW(t:T)(r:Rf):Int:=if aS.ok r∧Right t then Dk (decide (r.r=0)) (decide ((t.get r.c).ep<r.e)) (!decide (r.e=(t.get r.c).ep)) (decide (r.r<(t.get r.c).rq)) (decide (r.r=(t.get r.c).rq)) (t.get r.c).live (decide (IntKind.i64.wrap (r.r-1)=(t.get r.c).rq)) (t.get r.c).dn else 5
theorem GU{t:T}{r:Rf}(h1:decide (aS.ok r)=true)(h2:decide (Right t)=true):lookW t r=Dk (decide (r.r=0)) (decide ((t.get r.c).ep<r.e)) (!decide (r.e=(t.get r.c).ep)) (decide (r.r<(t.get r.c).rq)) (decide (r.r=(t.get r.c).rq)) (t.get r.c).live (decide (IntKind.i64.wrap (r.r-1)=(t.get r.c).rq)) (t.get r.c).dn:=if_pos ⟨of_decide_eq_true h1,of_decide_eq_true h2⟩
theorem Dj{t:T}{r:Rf}(h1:decide (aS.ok r)=false):lookW t r=5:=if_neg fun h=>of_decide_eq_false h1 h.1
theorem Di{t:T}{r:Rf}(h2:decide (Right t)=false):lookW t r=5:=if_neg fun h=>of_decide_eq_false h2 h.2
theorem GV{t:T}{r:Rf}(h:r.r≤9223372036854775807):lookW t r=look t r:=by
 unfold lookW look;by_cases g:aS.ok r∧Right t
 ·rw[if_pos g,if_pos g,TU,XP (decide_eq_true g.1) h]
 ·rw[if_neg g,if_neg g]
theorem XW(b1 b2 b3 b4 b5 l b6 b7 d:Bool):decide (Dk b1 b2 b3 b4 b5 l b6 d=3)=decide (Dk b1 b2 b3 b4 b5 l b7 d=3):=by
 cases b1<;>cases b2<;>cases b3<;>cases b4<;>cases b5<;>cases l<;>cases b6<;>cases b7<;>cases d<;>rfl
theorem wG(t:T)(r:Rf):decide (lookW t r=3)=decide (look t r=3):=by
 unfold lookW look;by_cases g:aS.ok r∧Right t
 ·rw[if_pos g,if_pos g,TU]
  exact XW ..
 ·rw[if_neg g,if_neg g]
end aH
end
section
theorem xL(t:aH.T)(r:Rf)(w:World)(hf:aH.Fit t):Calls prog 25 #[.agg (dR t),.agg #[.int .i64 r.c,.int .i64 r.e,.int .i64 r.r]] w (gG (aH.lookW t r) w):=by
 have HM:=zH (fun W=>wX r W);have HT:=zH (fun W=>vg t W hf);have HK:=kX w 31 (dR t) 35 #[.int .i64 r.c,.int .i64 r.e,.int .i64 r.r];have HO1:=zH (fun h=>aH.Dj (t:=t) (r:=r) h);have tJ:=zH (fun h=>aH.Di (t:=t) (r:=r) h);have HO3:=zH (fun h1 h2=>aH.GU (t:=t) (r:=r) h1 h2);have HO5:Hid (decide (aS.ok r)=true→0≤r.c∧r.c<5):=zH (fun h=>aH.kV (of_decide_eq_true h));unfold gG;unfold cZ at HM HT;clear hf;generalize aH.lookW t r=x at *
 generalize decide (aH.Right t)=y at *
 generalize decide (aS.ok r)=z at *
 go_enter func25,ntmps25;go_wp2_with refine zX (aB HK 1) ?_;refine cb (HM.out _) HK ?_;clear HK;intro _ HK;cases z
 case false=>
  have HX:=zH (HO1.out (by simp));go_wp2_with fail;exact yG
 go_wp2_with refine zX (jV HK 0) ?_;refine cb (HT.out _) HK ?_;clear HK;intro _ HK;cases y
 case false=>
  have HX:=zH (tJ.out (by simp));go_wp2_with fail;exact yG
 have HX:=zH (HO3.out (by simp) (by simp));have hc:=HO5.out (by simp);clear HO1 tJ HO3 HO5;go_upto_region 4 with (first|refine zX (iY (x:=r) HK 1) ?_|refine zX (dO hc) ?_|refine zX (Yj HK 0 hc) ?_|(refine bE HK ?_;clear HK;intro _ g1 HK;simp only[aO,aJ] at HK)|(refine bD (u:=t.get r.c) HK 2 ?_;clear HK;intro _ HK;simp only[lS] at HK));generalize t.get r.c=s at *
 obtain⟨rc,re,rr⟩:=r;obtain⟨l,ep,rq,d,p⟩:=s;dsimp only at *
 have HLa:=zH (fun W=>Oz ⟨l,ep,rq,d,p⟩ W);have k0:=HK.out.cell 2 rfl 0 (v:=.bool l) rfl;have k1:=HK.out.cell 2 rfl 1 (v:=.int .i64 ep) rfl;have k2:=HK.out.cell 2 rfl 2 (v:=.int .i64 rq) rfl;have k3:=HK.out.cell 2 rfl 3 (v:=.bool d) rfl;have q0:=HK.out.cell 1 rfl 0 (v:=.int .i64 rc) rfl;have q1:=HK.out.cell 1 rfl 1 (v:=.int .i64 re) rfl;have q2:=HK.out.cell 1 rfl 2 (v:=.int .i64 rr) rfl;generalize h1:decide (rr=0)=b1 at *
 have H1:=zH h1;generalize h2:decide (ep<re)=b2 at *
 have H2:=zH h2;generalize h3:(!decide (re=ep))=b3 at *
 have H3:=zH h3;generalize h4:decide (rr<rq)=b4 at *
 have H4:=zH h4;generalize h5:decide (rr=rq)=b5 at *
 have H5:=zH h5;generalize hw:IntKind.i64.wrap (rr-1)=rv at *
 have HW:=zH hw;clear hw;generalize h6:decide (rv=rq)=b6 at *
 have H6:=zH h6;clear h1 h2 h3 h4 h5 h6 hc;unfold gG at HLa;cases b1
 case false=>
  cases b3
  case true=>
   go_wp2_with (first|refine zX (aD (m:=rr) (n:=0) H1.out) ?_|refine zX (bT (m:=re) (n:=ep) H2.out) ?_|refine zX (bH (m:=re) (n:=ep) H3.out) ?_);exact yG
  cases b4
  case true=>
   go_wp2_with (first|refine zX (aD (m:=rr) (n:=0) H1.out) ?_|refine zX (bT (m:=re) (n:=ep) H2.out) ?_|refine zX (bH (m:=re) (n:=ep) H3.out) ?_|refine zX (bI (m:=rr) (n:=rq) H4.out) ?_);exact yG
  cases b5
  case true=>
   cases d
   ·go_wp2_with (first|refine zX (aD (m:=rr) (n:=0) H1.out) ?_|refine zX (bT (m:=re) (n:=ep) H2.out) ?_|refine zX (bH (m:=re) (n:=ep) H3.out) ?_|refine zX (bI (m:=rr) (n:=rq) H4.out) ?_|refine zX (aD (m:=rr) (n:=rq) H5.out) ?_|refine zX (ER HK 2) ?_)
    refine(HLa.out _).mono ?_;rintro e w1 ⟨rfl,b1⟩;replace HK:=iy HK b1;clear b1 k0 k1 k2 k3 q0 q1 q2;go_wp2_with fail;exact yG
   ·go_wp2_with (first|refine zX (aD (m:=rr) (n:=0) H1.out) ?_|refine zX (bT (m:=re) (n:=ep) H2.out) ?_|refine zX (bH (m:=re) (n:=ep) H3.out) ?_|refine zX (bI (m:=rr) (n:=rq) H4.out) ?_|refine zX (aD (m:=rr) (n:=rq) H5.out) ?_|refine zX (ER HK 2) ?_)
    refine(HLa.out _).mono ?_;rintro e w1 ⟨rfl,b1⟩;replace HK:=iy HK b1;clear b1 k0 k1 k2 k3 q0 q1 q2;go_wp2_with fail;exact yG
  cases l
  case false=>
   go_wp2_with (first|refine zX (aD (m:=rr) (n:=0) H1.out) ?_|refine zX (bT (m:=re) (n:=ep) H2.out) ?_|refine zX (bH (m:=re) (n:=ep) H3.out) ?_|refine zX (bI (m:=rr) (n:=rq) H4.out) ?_|refine zX (aD (m:=rr) (n:=rq) H5.out) ?_);exact yG
  cases b6
  case false=>
   exact QO
  cases d
  case true=>
   exact QO
  exact QO
 cases b2
 case false=>
  cases b3
  case true=>
   go_wp2_with (first|refine zX (aD (m:=rr) (n:=0) H1.out) ?_|refine zX (bT (m:=re) (n:=ep) H2.out) ?_|refine zX (bH (m:=re) (n:=ep) H3.out) ?_);exact yG
  cases b4
  case true=>
   go_wp2_with (first|refine zX (aD (m:=rr) (n:=0) H1.out) ?_|refine zX (bT (m:=re) (n:=ep) H2.out) ?_|refine zX (bH (m:=re) (n:=ep) H3.out) ?_|refine zX (bI (m:=rr) (n:=rq) H4.out) ?_);exact yG
  cases b5
  case true=>
   cases d
   ·go_wp2_with (first|refine zX (aD (m:=rr) (n:=0) H1.out) ?_|refine zX (bT (m:=re) (n:=ep) H2.out) ?_|refine zX (bH (m:=re) (n:=ep) H3.out) ?_|refine zX (bI (m:=rr) (n:=rq) H4.out) ?_|refine zX (aD (m:=rr) (n:=rq) H5.out) ?_|refine zX (ER HK 2) ?_)
    refine(HLa.out _).mono ?_;rintro e w1 ⟨rfl,b1⟩;replace HK:=iy HK b1;clear b1 k0 k1 k2 k3 q0 q1 q2;go_wp2_with fail;exact yG
   ·go_wp2_with (first|refine zX (aD (m:=rr) (n:=0) H1.out) ?_|refine zX (bT (m:=re) (n:=ep) H2.out) ?_|refine zX (bH (m:=re) (n:=ep) H3.out) ?_|refine zX (bI (m:=rr) (n:=rq) H4.out) ?_|refine zX (aD (m:=rr) (n:=rq) H5.out) ?_|refine zX (ER HK 2) ?_)
    refine(HLa.out _).mono ?_;rintro e w1 ⟨rfl,b1⟩;replace HK:=iy HK b1;clear b1 k0 k1 k2 k3 q0 q1 q2;go_wp2_with fail;exact yG
  cases l
  case false=>
   go_wp2_with (first|refine zX (aD (m:=rr) (n:=0) H1.out) ?_|refine zX (bT (m:=re) (n:=ep) H2.out) ?_|refine zX (bH (m:=re) (n:=ep) H3.out) ?_|refine zX (bI (m:=rr) (n:=rq) H4.out) ?_|refine zX (aD (m:=rr) (n:=rq) H5.out) ?_);exact yG
  cases b6
  case false=>
   exact QO
  cases d
  case true=>
   exact QO
  exact QO
 go_wp2_with (first|refine zX (aD (m:=rr) (n:=0) H1.out) ?_|refine zX (bT (m:=re) (n:=ep) H2.out) ?_);exact yG
theorem mR(t:aH.T)(r:Rf)(w:World)(hf:aH.Fit t)(hr:r.r≤9223372036854775807):Calls prog 25 #[.agg (dR t),.agg #[.int .i64 r.c,.int .i64 r.e,.int .i64 r.r]] w (gG (aH.look t r) w):=by
 rw[← aH.GV hr];exact xL t r w hf
end
section
theorem xQ(t:aH.T)(r:Rf)(w:World)(hf:aH.Fit t):Calls prog 30 #[.agg (dR t),.agg #[.int .i64 r.c,.int .i64 r.e,.int .i64 r.r]] w (gG (aH.lookW t r) w):=by
 have HM:=zH (fun W=>gu r W);have HT:=zH (fun W=>pq t W hf);have HK:=kX w 31 (dR t) 35 #[.int .i64 r.c,.int .i64 r.e,.int .i64 r.r];have HO1:=zH (fun h=>aH.Dj (t:=t) (r:=r) h);have tJ:=zH (fun h=>aH.Di (t:=t) (r:=r) h);have HO3:=zH (fun h1 h2=>aH.GU (t:=t) (r:=r) h1 h2);have HO5:Hid (decide (aS.ok r)=true→0≤r.c∧r.c<5):=zH (fun h=>aH.kV (of_decide_eq_true h));unfold gG;unfold cZ at HM HT;clear hf;generalize aH.lookW t r=x at *
 generalize decide (aH.Right t)=y at *
 generalize decide (aS.ok r)=z at *
 go_enter func30,ntmps30;go_wp2_with refine zX (aB HK 1) ?_;refine cb (HM.out _) HK ?_;clear HK;intro _ HK;cases z
 case false=>
  have HX:=zH (HO1.out (by simp));go_wp2_with fail;exact yG
 go_wp2_with refine zX (jV HK 0) ?_;refine cb (HT.out _) HK ?_;clear HK;intro _ HK;cases y
 case false=>
  have HX:=zH (tJ.out (by simp));go_wp2_with fail;exact yG
 have HX:=zH (HO3.out (by simp) (by simp));have hc:=HO5.out (by simp);clear HO1 tJ HO3 HO5;go_upto_region 4 with (first|refine zX (iY (x:=r) HK 1) ?_|refine zX (dO hc) ?_|refine zX (Yj HK 0 hc) ?_|(refine bE HK ?_;clear HK;intro _ g1 HK;simp only[aO,aJ] at HK)|(refine bD (u:=t.get r.c) HK 2 ?_;clear HK;intro _ HK;simp only[lS] at HK));generalize t.get r.c=s at *
 obtain⟨rc,re,rr⟩:=r;obtain⟨l,ep,rq,d,p⟩:=s;dsimp only at *
 have k0:=HK.out.cell 2 rfl 0 (v:=.bool l) rfl;have k1:=HK.out.cell 2 rfl 1 (v:=.int .i64 ep) rfl;have k2:=HK.out.cell 2 rfl 2 (v:=.int .i64 rq) rfl;have k3:=HK.out.cell 2 rfl 3 (v:=.bool d) rfl;have q0:=HK.out.cell 1 rfl 0 (v:=.int .i64 rc) rfl;have q1:=HK.out.cell 1 rfl 1 (v:=.int .i64 re) rfl;have q2:=HK.out.cell 1 rfl 2 (v:=.int .i64 rr) rfl;generalize h1:decide (rr=0)=b1 at *
 have H1:=zH h1;generalize h2:decide (ep<re)=b2 at *
 have H2:=zH h2;generalize h3:(!decide (re=ep))=b3 at *
 have H3:=zH h3;generalize h4:decide (rr<rq)=b4 at *
 have H4:=zH h4;generalize h5:decide (rr=rq)=b5 at *
 have H5:=zH h5;generalize hw:IntKind.i64.wrap (rr-1)=rv at *
 have HW:=zH hw;clear hw;generalize h6:decide (rv=rq)=b6 at *
 have H6:=zH h6;clear h1 h2 h3 h4 h5 h6 hc;cases b1
 case false=>
  cases b3
  case true=>
   go_wp2_with (first|refine zX (aD (m:=rr) (n:=0) H1.out) ?_|refine zX (bT (m:=re) (n:=ep) H2.out) ?_|refine zX (bH (m:=re) (n:=ep) H3.out) ?_);exact yG
  cases b4
  case true=>
   go_wp2_with (first|refine zX (aD (m:=rr) (n:=0) H1.out) ?_|refine zX (bT (m:=re) (n:=ep) H2.out) ?_|refine zX (bH (m:=re) (n:=ep) H3.out) ?_|refine zX (bI (m:=rr) (n:=rq) H4.out) ?_);exact yG
  cases b5
  case true=>
   cases d
   ·go_wp2_with (first|refine zX (aD (m:=rr) (n:=0) H1.out) ?_|refine zX (bT (m:=re) (n:=ep) H2.out) ?_|refine zX (bH (m:=re) (n:=ep) H3.out) ?_|refine zX (bI (m:=rr) (n:=rq) H4.out) ?_|refine zX (aD (m:=rr) (n:=rq) H5.out) ?_)
    exact yG
   ·go_wp2_with (first|refine zX (aD (m:=rr) (n:=0) H1.out) ?_|refine zX (bT (m:=re) (n:=ep) H2.out) ?_|refine zX (bH (m:=re) (n:=ep) H3.out) ?_|refine zX (bI (m:=rr) (n:=rq) H4.out) ?_|refine zX (aD (m:=rr) (n:=rq) H5.out) ?_)
    exact yG
  cases l
  case false=>
   go_wp2_with (first|refine zX (aD (m:=rr) (n:=0) H1.out) ?_|refine zX (bT (m:=re) (n:=ep) H2.out) ?_|refine zX (bH (m:=re) (n:=ep) H3.out) ?_|refine zX (bI (m:=rr) (n:=rq) H4.out) ?_|refine zX (aD (m:=rr) (n:=rq) H5.out) ?_);exact yG
  cases b6
  case false=>
   exact QO
  cases d
  case true=>
   exact QO
  exact QO
 cases b2
 case false=>
  cases b3
  case true=>
   go_wp2_with (first|refine zX (aD (m:=rr) (n:=0) H1.out) ?_|refine zX (bT (m:=re) (n:=ep) H2.out) ?_|refine zX (bH (m:=re) (n:=ep) H3.out) ?_);exact yG
  cases b4
  case true=>
   go_wp2_with (first|refine zX (aD (m:=rr) (n:=0) H1.out) ?_|refine zX (bT (m:=re) (n:=ep) H2.out) ?_|refine zX (bH (m:=re) (n:=ep) H3.out) ?_|refine zX (bI (m:=rr) (n:=rq) H4.out) ?_);exact yG
  cases b5
  case true=>
   cases d
   ·go_wp2_with (first|refine zX (aD (m:=rr) (n:=0) H1.out) ?_|refine zX (bT (m:=re) (n:=ep) H2.out) ?_|refine zX (bH (m:=re) (n:=ep) H3.out) ?_|refine zX (bI (m:=rr) (n:=rq) H4.out) ?_|refine zX (aD (m:=rr) (n:=rq) H5.out) ?_)
    exact yG
   ·go_wp2_with (first|refine zX (aD (m:=rr) (n:=0) H1.out) ?_|refine zX (bT (m:=re) (n:=ep) H2.out) ?_|refine zX (bH (m:=re) (n:=ep) H3.out) ?_|refine zX (bI (m:=rr) (n:=rq) H4.out) ?_|refine zX (aD (m:=rr) (n:=rq) H5.out) ?_)
    exact yG
  cases l
  case false=>
   go_wp2_with (first|refine zX (aD (m:=rr) (n:=0) H1.out) ?_|refine zX (bT (m:=re) (n:=ep) H2.out) ?_|refine zX (bH (m:=re) (n:=ep) H3.out) ?_|refine zX (bI (m:=rr) (n:=rq) H4.out) ?_|refine zX (aD (m:=rr) (n:=rq) H5.out) ?_);exact yG
  cases b6
  case false=>
   exact QO
  cases d
  case true=>
   exact QO
  exact QO
 go_wp2_with (first|refine zX (aD (m:=rr) (n:=0) H1.out) ?_|refine zX (bT (m:=re) (n:=ep) H2.out) ?_);exact yG
theorem xP(t:aH.T)(r:Rf)(w:World)(hf:aH.Fit t)(hr:r.r≤9223372036854775807):Calls prog 30 #[.agg (dR t),.agg #[.int .i64 r.c,.int .i64 r.e,.int .i64 r.r]] w (gG (aH.look t r) w):=by
 rw[← aH.GV hr];exact xQ t r w hf
end
section
theorem Sd(t:aH.T)(r:Rf)(x:av.Rp)(w:World)(hf:aH.Fit t)(hx:x.v.f<18446744073709551616):Calls prog 123 #[.agg (dR t),.agg #[.int .i64 r.c,.int .i64 r.e,.int .i64 r.r],.agg (cB x)] w (BR (aH.fP t r x) w):=by
 have HL:=zH (fun W=>xL t r W hf);have HK:=AY w 31 (dR t) 35 #[.int .i64 r.c,.int .i64 r.e,.int .i64 r.r] 28 (cB x);have HP:=zH (fun W=>Ai x W hx);have HY:=zH (fun h1 h2=>aH.Nj (t:=t) (r:=r) (x:=x) h1 h2);have lJ:=zH (fun h=>aH.Nl (t:=t) (r:=r) (x:=x) h);have fB:=zH (fun h=>aH.Nk (t:=t) (r:=r) (x:=x) h);have HC:=zH (fun h=>aH.nN (t:=t) (r:=r) (k:=3) h (by decide));have HD:=zH (fun W=>CP (t.get r.c) x W);unfold BR;unfold gG at HL;unfold cZ at HP;unfold IsS at HD;clear hf hx;have H3:=aH.wG t r;generalize aH.lookW t r=z at *
 generalize aH.fP t r x=y at *
 generalize av.rep x=b2 at *
 generalize h1:decide (aH.look t r=3)=b1 at *
 have H1:=zH H3;have H9:=zH h1;clear h1 H3;cases b1
 case false=>
  have HX:=zH (lJ.out (by simp));go_enter func123,ntmps123;go_wp2_with (first|refine zX (jV HK 0) ?_|refine zX (aB HK 1) ?_|(refine bP HK ?_;clear HK;intro _ g1 HK;simp only[aO,aJ] at HK));refine cb (HL.out _) HK ?_;clear HK;intro _ HK;go_wp2_with (first|refine zX (aD (m:=z) (n:=3) H1.out) ?_|refine zX (jV HK 0) ?_|(refine bC (t2:=t) HK 3 ?_;clear HK;intro _ HK;simp only[lS] at HK));exact Rx
 have hc:=HC.out (of_decide_eq_true H9.out);go_enter func123,ntmps123;go_wp2_with (first|refine zX (jV HK 0) ?_|refine zX (aB HK 1) ?_|(refine bP HK ?_;clear HK;intro _ g1 HK;simp only[aO,aJ] at HK));refine cb (HL.out _) HK ?_;clear HK;intro _ HK;go_wp2_with (first|refine zX (aD (m:=z) (n:=3) H1.out) ?_|refine zX (xC HK 2) ?_);refine cb (HP.out _) HK ?_;clear HK;intro _ HK;cases b2
 case false=>
  have HX:=zH (fB.out (by simp));go_wp2_with (first|refine zX (jV HK 0) ?_|(refine bC (t2:=t) HK 3 ?_;clear HK;intro _ HK;simp only[lS] at HK));exact Rx
 have HX:=zH (HY.out (by simp) (by simp));go_upto_region 2 with fail;have aj:=zH HK.out.drew;clear HK;refine zR (aj.out.aI 1) fun ah=>?_
 refine ak 0 rfl ?_;refine ak 1 rfl ?_ fun _ s=>iY (x:=r) s 0
 refine ak 2 rfl ?_;refine ak 3 rfl ?_ fun _ s=>iY (x:=r) s 0
 refine ak 4 rfl ?_ fun _ s=>dO hc
 refine ak 6 rfl ?_ fun _ s=>xC s 1
 refine aC 5 rfl fun K hK=>?_
 refine fK (Yj aj 0 hc) ?_;have hs:=ah;refine bk hK hs fun ah=>?_
 clear hK K;refine aC 7 rfl fun K hK=>?_
 go_simp;go_at_call 188;refine(HD.out _).mono ?_;rintro e w5 ⟨rfl,b5⟩;have hs:=zH (ah.out.call b5);replace aj:=zH (aj.out.call b5);clear b5;refine bk hK hs fun ah=>?_
 clear hK K;refine ak 8 rfl ?_ fun _ s=>dO hc
 refine aC 9 rfl fun K hK=>?_
 refine RY (s:={ t.get r.c with dn:=true,p:=x }) aj 0 (by rfl) hc (by rfl) (by rfl) (by rfl) (by rfl) ?_;clear aj;intro w6 aj;simp only[lS] at aj;have hs:=zH (aj.out.aI 1);refine bk hK hs fun ah=>?_
 clear hK K;refine bW ?_;have HK:=aj;clear aj ah;go_wp2_with (first|refine zX (jV HK 0) ?_|(refine bC  HK 3 ?_;clear HK;intro _ HK;simp only[lS] at HK));exact Rx
theorem vZ(t:aH.T)(r:Rf)(x:av.Rp)(w:World)(hf:aH.Fit t)(hx:x.v.f<18446744073709551616):Calls prog 76 #[.agg (dR t),.agg #[.int .i64 r.c,.int .i64 r.e,.int .i64 r.r],.agg (cB x)] w (BR (aH.fP t r x) w):=by
 have HL:=zH (fun W=>xQ t r W hf);have HK:=AY w 31 (dR t) 35 #[.int .i64 r.c,.int .i64 r.e,.int .i64 r.r] 28 (cB x);have HP:=zH (fun W=>Al x W hx);have HY:=zH (fun h1 h2=>aH.Nj (t:=t) (r:=r) (x:=x) h1 h2);have lJ:=zH (fun h=>aH.Nl (t:=t) (r:=r) (x:=x) h);have fB:=zH (fun h=>aH.Nk (t:=t) (r:=r) (x:=x) h);have HC:=zH (fun h=>aH.nN (t:=t) (r:=r) (k:=3) h (by decide));unfold BR;unfold gG at HL;unfold cZ at HP;clear hf hx;have H3:=aH.wG t r;generalize aH.lookW t r=z at *
 generalize aH.fP t r x=y at *
 generalize av.rep x=b2 at *
 generalize h1:decide (aH.look t r=3)=b1 at *
 have H1:=zH H3;have H9:=zH h1;clear h1 H3;cases b1
 case false=>
  have HX:=zH (lJ.out (by simp));go_enter func76,ntmps76;go_wp2_with (first|refine zX (jV HK 0) ?_|refine zX (aB HK 1) ?_|(refine bP HK ?_;clear HK;intro _ g1 HK;simp only[aO,aJ] at HK));refine cb (HL.out _) HK ?_;clear HK;intro _ HK;go_wp2_with (first|refine zX (bH (m:=z) (n:=3) (by rw[H1.out])) ?_|refine zX (jV HK 0) ?_|(refine bC (t2:=t) HK 3 ?_;clear HK;intro _ HK;simp only[lS] at HK));exact RB
 have hc:=HC.out (of_decide_eq_true H9.out);go_enter func76,ntmps76;go_wp2_with (first|refine zX (jV HK 0) ?_|refine zX (aB HK 1) ?_|(refine bP HK ?_;clear HK;intro _ g1 HK;simp only[aO,aJ] at HK));refine cb (HL.out _) HK ?_;clear HK;intro _ HK;go_wp2_with (first|refine zX (bH (m:=z) (n:=3) (by rw[H1.out])) ?_|refine zX (xC HK 2) ?_);refine cb (HP.out _) HK ?_;clear HK;intro _ HK;cases b2
 case false=>
  have HX:=zH (fB.out (by simp));go_wp2_with (first|refine zX (jV HK 0) ?_|(refine bC (t2:=t) HK 3 ?_;clear HK;intro _ HK;simp only[lS] at HK));exact RB
 have HX:=zH (HY.out (by simp) (by simp));go_wp2_with (first|refine zX (iY (x:=r) HK 1) ?_|refine zX (dO hc) ?_|(refine zY (d:=true) HK 0 rfl hc rfl rfl rfl rfl ?_;clear HK;intro _ HK;simp only[lS] at HK)|refine zX (xC HK 2) ?_|(refine zV (p:=x) HK 0 rfl hc rfl rfl rfl rfl ?_;clear HK;intro _ HK;simp only[lS] at HK)|refine zX (jV HK 0) ?_|(refine bC  HK 3 ?_;clear HK;intro _ HK;simp only[lS] at HK))
 (try simp only[aH.bU hc,aH.set_set hc] at HK)
 (try dsimp only at HK)
 exact RB
end
section
theorem Uw:(prog.info? 41).map (fun i=>(i.zero,i.size))=some (some (Value.slice none 0 0),1):=by kernel_rfl
def EJ:Cn aR where
 tt:=216
 und:=underlying216
 info:=Uw
section
variable {b0:Nat}{w0 w:World}{L:List (Nat×TypeId×Array Value)}{R:List dA}{ops:Array Oper}{rest:List Oper}{o:Oper}{a:Act}{Q:Exit→Act→World→Prop}{g:Nat}{y z:av.Ot}
theorem JI(HK:Hid (Kn b0 w0 w L R))(hgd:o.guard=none)(ho:o.op=.alloc 71)
  (h:∀w' g,Hid (Kn b0 w0 w' (L++[(g,71,za otZ)]) R)→wpList prog ops Q rest (a.put o.dst (.pointer (some ⟨g,0,none⟩))) w'):wpList prog ops Q (o::rest) a w:=
 wpList_plain hgd fun _ hK=>pX Hw HK ho fun w' g h1 _=>hK _ _ (h w' g h1)
theorem JB(HK:Hid (Kn b0 w0 w L R))(i:Nat)(hgd:o.guard=none){p:Operand}{q:Operand}(ho:o.op=.store 71 p q)(hL:L[i]?=some (g,71,za y))(hx:a.eval p=.pointer (some ⟨g,0,none⟩))(hy:a.eval q=.agg (za z))
  (h:∀w',Hid (Kn b0 w0 w' (L.set i (g,71,za z)) R)→wpList prog ops Q rest (a.put o.dst undef) w'):wpList prog ops Q (o::rest) a w:=
 wpList_plain hgd fun _ hK=>kM HK p q ho i hL hx hy (by show 8≤8;decide) Yk (by simp[za,Value.oneCell']) fun w' h1 _=>hK _ _ (h w' (by
  have e:putCells (za y) 0 (za z).toList=za z:=by rw[dJ (vs:=(za z).toList) (cs:=za y),Array.toArray_toList]
  rw[e] at h1
  exact h1))
theorem afw(HK:Hid (Kn b0 w0 w L R))(i:Nat){p:Operand}(ho:o.op=.load 35 p)(hL:L[i]?=some (g,71,za y))(hx:a.eval p=.pointer (some ⟨g,0,none⟩)):
  (execOp a.eval o).run prog w=.ok (.value (.agg #[.int .i64 y.r.c,.int .i64 y.r.e,.int .i64 y.r.r])) w:=
 jC HK p ho i hL hx #[.int .i64 y.r.c,.int .i64 y.r.e,.int .i64 y.r.r] (fun j hj=>by
  match j,hj with
  | 0,_|1,_|2,_=>rfl) underlying35 Hu
theorem afx(HK:Hid (Kn b0 w0 w L R))(i:Nat){p:Operand}(ho:o.op=.load 28 p)(hL:L[i]?=some (g,71,za y))(hx:a.eval p=.pointer (some ⟨g,3,none⟩)):
  (execOp a.eval o).run prog w=.ok (.value (.agg (cB y.p))) w:=
 jC HK p ho i hL hx (cB y.p) (fun j hj=>by
  match j,hj with
  | 0,_|1,_|2,_|3,_|4,_=>rfl) underlying28 jm
end
theorem jX(r:Rf)(p:av.Rp)(w:World):Calls prog 27 #[.agg #[.int .i64 r.c,.int .i64 r.e,.int .i64 r.r],.agg (cB p)] w (uG aR [⟨r,p⟩] w):=by
 have HK:=kX w 35 #[.int .i64 r.c,.int .i64 r.e,.int .i64 r.r] 28 (cB p);unfold uG;go_enter func27,ntmps27;go_wp2_with (first|refine zX (aB HK 0) ?_|refine zX (xC HK 1) ?_|refine zX (kU (r:=r) (p:=p)) ?_|(refine dI aR (p:=⟨r,p⟩) HK ?_;clear HK;intro _ g7 HK;simp only[aJ] at HK));go_ret;exact⟨_,_,_,rfl,HK.out.own 0 rfl,HK.out.b⟩
theorem qQ(n:Int)(A:Option Addr)(k cp:Nat)(t:aH.T)(O:Option Addr)(m d:Nat)(os:List av.Ot)(w:World)(hf:aH.Fit t)(hs:bJ aR tF w O m d os)(ho:∀y∈os,y.p.v.f<18446744073709551616):
  Calls prog 66 #[.agg (stA n A k cp t),.slice O m d] w (fun e w'=>e=.returned (.tuple #[.agg (stA n A k cp (Ap.ends t (Ap.dP os))),.slice O m d])∧Below w.heap.size w w'):=by
 have HS:=zH hs;have yV:=zH ho;have iD:=zH hf;have HK:=iK w 33 (stA n A k cp t);have uE:Hid (Ap.ends t (Ap.dP (os.drop 0))=Ap.ends t (Ap.dP os)):=zH rfl
 have hn63:m<9223372036854775807:=by
  have h:m*72≤140737488355328:=hs.big;omega
 generalize Ap.ends t (Ap.dP os)=y at *
 clear hs ho hf;go_enter func66,ntmps66;go_wp2_with (refine aU HK ?_;clear HK;intro _ g1 HK;simp only[aO,aJ] at HK);go_loopw [10] (fun v5 wr=>∃(j:Nat) (u:aH.T),j≤m∧v5=.int .i64 j∧Hid (aH.Fit u)∧Hid (Ap.ends u (Ap.dP (os.drop j))=y)∧Hid (Kn w.heap.size w wr [(w.heap.size,33,stA n A k cp u),(g1,33,stA 0 none 0 0 tz)] [])) (fun v5 _=>m-(intOf v5).toNat)
 case atStart=>exact⟨0,t,Nat.zero_le _,rfl,iD,uE,HK⟩
 case round=>
  clear HK uE iD;obtain⟨j,u,hj,rfl,iD,uE,HK⟩:=hrel;have hj1:(0:Int)≤(j:Int):=by omega
  by_cases hlt:j<m
  case pos=>
   have hj2:(j:Int)<(m:Int):=by omega
   have hj3:j<9223372036854775807:=by omega
   obtain⟨x,hx,_⟩:=HS.out.get hlt;obtain⟨b,o,rfl,hat⟩:=HS.out.at (Nat.lt_of_le_of_lt (Nat.zero_le _) hlt);have HX:Hid (∀W,Below w.heap.size w W→∀q v,(XI x)[q]?=some v→W.cell? ⟨b,o+j*8+q,none⟩=some v):=zH (fun W hW=>hat W hW j x hx);have hxf:=yV.out x (List.mem_of_getElem? hx);have HE:=zH (fun W=>Sd u x.r x.p W iD.out hxf);have Zh:=zH (aH.mM iD.out x.r hxf)
   have adL:Hid (Ap.ends (aH.fP u x.r x.p) (Ap.dP (os.drop (j+1)))=y):=zH (by
    have h:=uE.out;rw[List.drop_eq_getElem_cons (List.getElem?_eq_some_iff.1 hx).1,(List.getElem?_eq_some_iff.1 hx).2] at h
    exact h)
   unfold BR at HE;clear hat hx hxf uE;generalize aH.fP u x.r x.p=u2 at *
   go_wp2_with (first|(refine au (v:=.agg (za x)) (je aR (off:=o+j*8) (x:=x) _ underlying71 (HX.out _ HK.out.b)) ?_)|(refine JI HK rfl rfl ?_;clear HK;intro _ g7 HK;simp only[aO,aJ] at HK)|(refine JB (z:=x) HK 2 rfl rfl rfl rfl rfl ?_;clear HK;intro _ HK;simp only[lS] at HK)|refine zX (eU HK 0) ?_|refine zX (afw HK 2 (by rfl) (by rfl) (by rfl)) ?_|refine zX (afx HK 2 (by rfl) (by rfl) (by rfl)) ?_);refine cb (HE.out _) HK ?_;clear HK;intro _ HK;go_wp2_with (first|(refine dD (u:=u2) HK 0 ?_;clear HK;intro _ HK;simp only[lS] at HK)|refine zX (aL (j:=j) hj3) ?_);exact⟨⟨j+1,u2,hlt,rfl,Zh,adL,zH (HK.out.aA 2)⟩,by simp[intOf];omega⟩
  case neg=>
   obtain rfl:j=m:=by omega
   have hj2:¬(j:Int)<(j:Int):=by omega
   have hu:u=y:=by
    exact ZA
   subst hu;go_wp2_with (first|refine zX (iB HK 0) ?_|(refine bA HK 1 ?_;clear HK;intro _ HK;simp only[lS] at HK));exact dQ results66 (HK.out.blk 1 rfl) ⟨rfl,HK.out.b⟩
end
section
namespace Ap
open av
def WM(o:Ob):Prop:=(∀p∈o.dP,p.val.f<18446744073709551616)∧(∀v∈o.vals,v.f<18446744073709551616)∧o.mt.s<18446744073709551616∧o.mt.l<18446744073709551616∧o.mt.m<18446744073709551616
theorem zf:(0:Nat)<18446744073709551616:=by decide
theorem yu{l:List aK.Pr}(h:∀p∈l,p.val.f<18446744073709551616)(k:ByteArray):(aK.pK l k).f<18446744073709551616:=by
 unfold aK.pK
 split
 ·cases hf:aK.jc l k with
  | none=>exact zf
  | some v=>
   obtain⟨x,hx,_,e⟩:=aK.Ig hf
   show v.f<_
   rw[← e];exact h x hx
 ·exact zf
theorem Oj{l:List aK.Pr}(h:∀p∈l,p.val.f<18446744073709551616){k:ByteArray}{o:Val.V}:(aK.Jo l k o).f<18446744073709551616:=by
 unfold aK.Jo
 split
 ·exact zf
 ·exact yu h k
theorem Pk{n:Int}{l:List Val.V}(h:∀v∈l,v.f<18446744073709551616):(dK.Jp n l).f<18446744073709551616:=by
 unfold dK.Jp
 split
 ·cases l with
  | nil=>exact zf
  | cons v m=>exact h v (List.mem_cons_self ..)
 ·exact zf
theorem Td{x:mG}(h1:x.s<18446744073709551616)(h2:x.l<18446744073709551616)(h3:x.m<18446744073709551616){q:Int}:(Mt.rd x q).f<18446744073709551616:=by
 unfold Mt.rd
 repeat' split
 all_goals first|exact zf|exact h1|exact h2|exact h3
theorem UF{y:Rf}{b:Bool}:∀z∈held y b,z.p.v.f<18446744073709551616:=fun z hz=>by
 unfold held at hz
 split at hz
 ·rw[List.mem_singleton.1 hz];exact zf
 ·cases hz
theorem JL(o:Ob)(r:Rf):(wait o r).p.v.f<18446744073709551616∧∀y∈(wait o r).outs,y.p.v.f<18446744073709551616:=by
 generalize hx:wait o r=x;unfold wait at hx
 split at hx
 ·subst hx;exact⟨zf,fun y hy=>by cases hy⟩
 split at hx
 ·subst hx;exact⟨zf,fun y hy=>by cases hy⟩
 ·subst hx
  refine⟨zf,fun y hy=>?_⟩;obtain⟨x,_,e⟩:=List.mem_map.1 hy;rw[← e];exact zf
theorem QE{o:Ob}(h:WM o)(r:Rf)(c:aF.C):(act o r c).p.v.f<18446744073709551616∧∀y∈(act o r c).outs,y.p.v.f<18446744073709551616:=by
 obtain⟨g1,g2,g3,g4,g5⟩:=h;have none:∀y∈([]:List Ot),y.p.v.f<18446744073709551616:=fun y hy=>by cases hy
 generalize hx:act o r c=x;unfold act at hx;by_cases h12:c.k=12
 ·rw[if_pos h12] at hx;subst hx;exact⟨zf,none⟩
 rw[if_neg h12] at hx;by_cases Dv:c.k=13
 ·rw[if_pos Dv] at hx;subst hx;exact⟨zf,UF⟩
 rw[if_neg Dv] at hx;by_cases vJ:c.k=14
 ·rw[if_pos vJ] at hx;subst hx;exact JL o r
 rw[if_neg vJ] at hx;by_cases h6:c.k=6
 ·rw[if_pos h6] at hx;subst hx;exact⟨yu g1 _,none⟩
 rw[if_neg h6] at hx;by_cases h7:c.k=7
 ·rw[if_pos h7] at hx;subst hx;exact⟨zf,none⟩
 rw[if_neg h7] at hx;by_cases h8:c.k=8
 ·rw[if_pos h8] at hx;subst hx;exact⟨yu g1 _,none⟩
 rw[if_neg h8] at hx;by_cases h9:c.k=9
 ·rw[if_pos h9] at hx;subst hx;exact⟨Oj g1,none⟩
 rw[if_neg h9] at hx;by_cases h10:c.k=10
 ·rw[if_pos h10] at hx;subst hx;exact⟨zf,none⟩
 rw[if_neg h10] at hx;by_cases h11:c.k=11
 ·rw[if_pos h11] at hx;subst hx;exact⟨Pk g2,none⟩
 rw[if_neg h11] at hx;by_cases h15:c.k=15
 ·rw[if_pos h15] at hx;subst hx;exact⟨zf,none⟩
 rw[if_neg h15] at hx;by_cases h16:c.k=16
 ·rw[if_pos h16] at hx;subst hx;exact⟨Td g3 g4 g5,none⟩
 rw[if_neg h16] at hx;by_cases Ib:c.k=17
 ·rw[if_pos Ib] at hx;subst hx;exact⟨zf,none⟩
 rw[if_neg Ib] at hx;subst hx;exact⟨zf,none⟩
theorem uq{l:List Ob}(h:∀o∈l,WM o)(r:Rf)(c:aF.C):(iC l r c).p.v.f<18446744073709551616∧∀y∈(iC l r c).outs,y.p.v.f<18446744073709551616:=by
 have none:∀y∈([]:List Ot),y.p.v.f<18446744073709551616:=fun y hy=>by cases hy
 generalize hx:iC l r c=x;unfold iC at hx
 split at hx
 ·subst hx;exact⟨zf,none⟩
 split at hx
 ·subst hx;exact⟨zf,none⟩
 split at hx
 ·subst hx;exact⟨zf,none⟩
 split at hx
 ·subst hx;exact⟨zf,none⟩
 next o ho=>
  subst hx;exact QE (h o (Bh ho).1) r c
theorem qc(y:Rf)(b:Bool):(held y b).length≤1:=by
 unfold held
 split
 ·exact Nat.le_refl 1
 ·exact Nat.zero_le 1
theorem Xo{o:Ob}(h:One o=true)(r:Rf):(wait o r).outs.length≤8:=by
 generalize hx:wait o r=x;unfold wait at hx
 split at hx
 ·subst hx;exact Nat.zero_le 8
 split at hx
 ·subst hx;exact Nat.zero_le 8
 ·subst hx
  show(rR ((Gt.zk o.cap o.refs r).take _) _).length≤8
  unfold rR;rw[List.length_map,List.length_take]
  have:(Gt.zk o.cap o.refs r).length≤6:=by
   unfold Gt.zk
   split
   next g=>
    have:=aS.fG (Gt.Cv g.1).1.2.2.2;rw[List.length_append]
    show _+1≤6
    omega
   next=>exact Nat.zero_le _
  omega
theorem YW{o:Ob}(h:One o=true)(r:Rf)(c:aF.C):(act o r c).outs.length≤8:=by
 generalize hx:act o r c=x;unfold act at hx;by_cases h12:c.k=12
 ·rw[if_pos h12] at hx;subst hx;exact Nat.zero_le 8
 rw[if_neg h12] at hx;by_cases Dv:c.k=13
 ·rw[if_pos Dv] at hx;subst hx
  show(held _ _).length≤8
  exact Nat.le_trans (Ap.qc _ _) (by decide)
 rw[if_neg Dv] at hx;by_cases vJ:c.k=14
 ·rw[if_pos vJ] at hx;subst hx;exact Xo h r
 rw[if_neg vJ] at hx
 have:x.outs=[]:=by
  subst hx
  repeat' split
  all_goals rfl
 rw[this];exact Nat.zero_le 8
theorem Fh(l:List Ob)(r:Rf)(c:aF.C):(iC l r c).outs.length≤8:=by
 by_cases hc:bG l r c=0
 case neg=>rw[uw hc];exact Nat.zero_le 8
 obtain⟨⟨hR,_⟩,_,_,ho⟩:=Bz hc;by_cases h4:c.k=4
 ·rw[wT hc h4];exact Nat.zero_le 8
 by_cases h5:c.k=5
 ·rw[wU hc h5];exact Nat.zero_le 8
 obtain⟨o,ho1,_⟩:=ho h4;rw[wV hc h4 h5 ho1];exact YW (hR.ok o (Bh ho1).1) r c
end Ap
end
end Go.Proofs.YtieoeendnccafaaGreat
