/- Arguments that are events, with their numbers' bounds. No condition but those named. -/
import Derived.Test.YtahdlddbbnjloaaGreatNBL
set_option linter.unusedSimpArgs false
set_option linter.unusedVariables false
set_option maxRecDepth 100000
set_option maxHeartbeats 25600000
open Go.RowKit
namespace Go.Proofs.YtahdlddbbnjloaaGreat
open _root_.Go.Proofs.Tryz
def InR(Rk:List bV)(W:World):Prop:=∃(b:Nat) (W0:World) (L:List (Nat×TypeId×Array Value)) (R:List bV),Kn b W0 W L R∧∀y∈Rk,y∈R
section
namespace aA
theorem Nb{v:Val.V}(h:Fit (Val.items v)):VB v:=fun hk=>by
 unfold Val.items at h;have h2:=Fit.cons h;rw[if_pos hk] at h2;exact Fit.rng h2
theorem Gn{s:aG.S}(h:Fit (nD s)):SB s:=by
 have h1:Fit (n1 s.ep::n1 s.rq::fl s.dn::n1 s.p.e::Val.items s.p.v):=Fit.cons (x:=fl s.live) h;have h2:Fit (n1 s.rq::fl s.dn::n1 s.p.e::Val.items s.p.v):=Fit.cons h1;exact⟨Fit.rng h1,Fit.rng h2,Nb (Fit.cons (Fit.cons (Fit.cons h2)))⟩
theorem aiN{o:au.Ob}(h:Fit (mV o)):OB o:=by
 have h1:Fit (n1 o.kind::n1 o.cap::n1 o.round::(many xL o.dV++(many Val.items o.vals++(many yV o.refs++FW o.mt)))):=Fit.cons (x:=t1 o.name) h;have h2:=Fit.cons (Fit.cons h1);have h3:=Fit.cons h2;have h4:=Fit.tail h3;have h5:=Fit.tail h4;have h6:=Fit.tail h5;refine⟨fun x hx=>Nb (Fit.cons (x:=t1 x.key) (Fit.of (Fit.cons (Fit.head h3)) hx)),fun x hx=>Nb (Fit.of (Fit.cons (Fit.head h4)) hx),fun x hx=>?_,(Fit.rng h6).2,(Fit.rng h2).2⟩;have g:Fit (n1 x.c::n1 x.e::n1 x.r::[]):=Fit.of (f:=yV) (Fit.cons (Fit.head h5)) hx;exact⟨Fit.rng g,Fit.rng (Fit.cons g),Fit.rng (Fit.cons (Fit.cons g))⟩
theorem adg{s:Ap.St}(h:Fit (mH s)):NB s:=by
 have h1:Fit (many mV s.l++Jy s.t):=Fit.cons h;have h2:=Fit.tail h1;unfold Jy at h2;refine⟨(Fit.rng h).2,fun o ho=>aiN (Fit.of (Fit.cons (Fit.head h1)) ho),fun c hc=>?_⟩
 rcases aG.fO hc with rfl|rfl|rfl|rfl|rfl
 ·exact Gn (Fit.head h2)
 ·exact Gn (Fit.head (Fit.tail h2))
 ·exact Gn (Fit.head (Fit.tail (Fit.tail h2)))
 ·exact Gn (Fit.head (Fit.tail (Fit.tail (Fit.tail h2))))
 ·exact Gn (Fit.tail (Fit.tail (Fit.tail (Fit.tail h2))))
end aA
def eG(e:aI.E):Prop:=eF e∧aA.EB e
theorem Kq(n:Int)(A:Option Addr)(k c:Nat)(t:aG.T)(lo:List Oh)(B:Option Addr)(d N:Nat)(l:List aI.E)(w:World)(ho:dS w A k c lo)(hf:aG.Fit t)(hfit:aA.Fit (aA.mH ⟨n,vs lo,t⟩))(hs:bT uG eG w B N d l):
  Calls prog 3 #[.agg (stA n A k c t),.slice B N d] w (dw true w):=by
 have HAw:=zH Gj;have HS:=zH hs;have hbig:N*160≤140737488355328:=hs.big
 have HE0:Hid (∀(n1:Int) (A1:Option Addr) (k1 c1:Nat) (t1:aG.T) (lo1:List Oh) (W:World),Ap.Ok ⟨n1,vs lo1,t1⟩→aA.NB ⟨n1,vs lo1,t1⟩→dS W A1 k1 c1 lo1→aG.Fit t1→Calls prog 4 #[.agg (stA n1 A1 k1 c1 t1)] W (Cx ((aA.E ⟨n1,vs lo1,t1⟩).1,0) W)):=zH fun n1 A1 k1 c1 t1 lo1 W hok hnb ho hf=>by
  have hfi:=aA.afY hok hnb (Vg (n:=n1) ho hf);have h:=sj n1 A1 k1 c1 t1 lo1 W ho hf hfi;have e:aA.E ⟨n1,vs lo1,t1⟩=((aA.E ⟨n1,vs lo1,t1⟩).1,0):=by rw[aA.RZ hok hfi]
  rw[e] at h;exact h
 have HK:=jw w 33 (stA n A k c t);by_cases hok:Ap.Ok ⟨n,vs lo,t⟩
 case neg=>
  have HE:Hid (∀W,Below w.heap.size w W→Calls prog 4 #[.agg (stA n A k c t)] W (Cx (⟨#[]⟩,1) W)):=zH fun W hW=>by
   have h:=sj n A k c t lo W (ho.later hW) hf hfit;rw[aA.agG hok] at h;exact h
  unfold dw at HAw ⊢;unfold Cx at HE;clear hs ho hf hfit hok HE0 HS hbig;go_enter func3,ntmps3;go_wp2_with refine zX (lq HK 0) ?_;refine cb (HE.out _ HK.out.b) HK ?_;clear HK;intro _ HK;go_wp2_with fail;refine cb (HAw.out _) HK ?_;clear HK;intro _ HK;exact jq
 case pos=>
 have ajO:=zH hok;have ajT:=zH (aA.adg hfit);have HF0:=zH hf;have HO0:=zH ho;have hbk:=aA.back hok hfit (Vg ho hf) false;have hl:=aA.aki ⟨n,vs lo,t⟩ hfit;have HO:Hid (∀(n9:Int) (A:Option Addr) (k m:Nat) (l:List Oh) (t9:aG.T) (b0:Nat) (w0 W:World) (L:List (Nat×TypeId×Array Value)) (R:List bV),Sh.v ⟨n9,⟨A,k,m,l⟩,t9⟩=(aA.D false (aA.E ⟨n,vs lo,t⟩).1).1→Kn b0 w0 W L R→(∀y∈mQ ⟨A,k,m,l⟩,y∈R)→dS W A k m l):=zH fun n A k m l t b0 w0 W L R h1 h2 h3=>abt h1 h2 h3
 have HD:=zH (fun W=>pY (aA.E ⟨n,vs lo,t⟩).1 W (hs:=(Nat.le_trans hl (by decide))));rw[hbk] at HO HD
 have HRa:Hid (∀(x:aI.E),eF x→∀(Rk:List bV) (n:Int) A1 k1 c1 t1 lo W,(∀(b:Nat) (W0 W:World) L R,Kn b W0 W L R→(∀y∈Rk,y∈R)→Below w.heap.size w W→dS W A1 k1 c1 lo)→dS W A1 k1 c1 lo→aG.Fit t1→n≤9223372036854775807→Calls prog 7 #[.agg (stA n A1 k1 c1 t1),.agg (yZ x)] W (kD (fun W=>InR Rk W∧Below w.heap.size w W) (Ap.Cu ⟨n,vs lo,t1⟩ x) (Ap.Xx ⟨n,vs lo,t1⟩ x) W)):=zH fun x hx Rk n A1 k1 c1 t1 lo W hg ho hf hn=>EJ n A1 k1 c1 t1 lo x W (fun W h=>by
  obtain⟨⟨b,W0,L,R,K,hm⟩,hb⟩:=h
  exact hg b W0 W L R K hm hb) ho hf hx.1 hx.2.1 hx.2.2 hn
 have FM:=zH (fun n A2 B2 k2 c2 k3 c3 t a b W h1 h2 h3=>MI n A2 B2 k2 c2 k3 c3 t a b W h1 h2 h3);have HE1:=zH (fun W h=>HE0.out n A k c t lo W hok (aA.adg hfit) h hf);unfold dw at HAw FM ⊢;unfold Cx at HE0 HE1;unfold Jv at HD;unfold kD at HRa;generalize (aA.E ⟨n,vs lo,t⟩).1=bs at *
 clear hs ho hf hfit hok hbk hl;go_enter func3,ntmps3;go_wp2_with refine zX (lq HK 0) ?_;refine cb (HE1.out _ (HO0.out.later HK.out.b)) HK ?_;clear HK;intro _ HK;clear HE1;go_wp2_with fail;refine(HD.out _).mono ?_;rintro e w1 ⟨⟨n1,⟨A1,k1,c1,l1⟩,t1⟩,hx1,rfl,j1⟩;replace HK:=zH (HK.out.join j1);clear j1 HD;have JC:=zH hx1;obtain rfl:n1=n:=congrArg Ap.St.n hx1;obtain rfl:t1=t:=congrArg Ap.St.t hx1;have HV:Hid (vs l1=vs lo):=zH (congrArg Ap.St.l hx1);clear hx1;have ajP:Hid (∀(b:Nat) (W0 W:World) L R,Kn b W0 W L R→(∀z∈mQ ⟨A1,k1,c1,l1⟩,z∈R)→Below w.heap.size w W→dS W A k c lo∧dS W A1 k1 c1 l1):=zH fun b W0 W L R K hm hb=>⟨HO0.out.later hb,HO.out _ _ _ _ _ _ _ _ _ _ _ JC.out K hm⟩
 clear JC HO HO0;generalize mQ ⟨A1,k1,c1,l1⟩=R0 at *
 unfold Sh.enc;simp only[aK] at HK;dsimp only at HK ⊢;go_wp2_with (first|(refine bF HK ?_;clear HK;intro _ g7 HK;simp only[aS,aK,List.append_nil] at HK)|(refine bg HK 1 ?_;clear HK;intro _ HK;simp only[lS] at HK));go_loopw [9] (fun v9 wr=>∃(i:Nat) (n1:Int) (A1:Option Addr) (k1 c1:Nat) (A2:Option Addr) (k2 c2:Nat) (t1:aG.T) (lo1 lo2:List Oh) (Rk:List bV),i≤N∧i≤60∧v9=.int .i64 i∧Hid (vs lo2=vs lo1)∧Hid (Ap.Ok ⟨n1,vs lo1,t1⟩)∧Hid (aA.NB ⟨n1,vs lo1,t1⟩)∧Hid (aG.Fit t1)∧Hid (Kn w.heap.size w wr [(w.heap.size,33,stA n1 A1 k1 c1 t1),(g7,33,stA n1 A2 k2 c2 t1)] Rk)∧Hid (∀(b:Nat) (W0 W:World) L R,Kn b W0 W L R→(∀z∈Rk,z∈R)→Below w.heap.size w W→dS W A1 k1 c1 lo1∧dS W A2 k2 c2 lo2)) (fun v9 _=>60-(intOf v9).toNat)
 case atStart=>exact⟨0,_,A,k,c,A1,k1,c1,_,lo,l1,R0,Nat.zero_le _,Nat.zero_le _,rfl,HV,ajO,ajT,HF0,HK,ajP⟩
 case round=>
  clear HK HV ajO ajT HF0 ajP;obtain⟨i,n1,A1,k1,c1,A2,k2,c2,t1,lo1,lo2,Rk,hi,hi6,rfl,HV,jr,HNb,lJ,HK,FP⟩:=hrel;have hi1:(0:Int)≤(i:Int):=by omega
  by_cases hit:i<N∧i<60
  case neg=>
   have HE1:=zH (fun W h=>HE0.out n1 A1 k1 c1 t1 lo1 W jr.out HNb.out h lJ.out);have HE2:=zH (fun W h=>HE0.out n1 A2 k2 c2 t1 lo2 W (by rw[HV.out];exact jr.out) (by rw[HV.out];exact HNb.out) h lJ.out);rw[HV.out] at HE2;generalize (aA.E ⟨n1,vs lo1,t1⟩).1=bz at *
   clear HE0 HRa HS;by_cases hik:i<N
   ·have hi2:(i:Int)<(N:Int):=by omega
    have hi4:¬(i:Int)<60:=by omega
    go_wp2_with refine zX (lq HK 0) ?_;refine cb (HE1.out _ (FP.out _ _ _ _ _ HK.out (fun z hz=>hz) HK.out.b).1) HK ?_;clear HK;intro _ HK;go_wp2_with refine zX (lq HK 1) ?_;refine cb (HE2.out _ (FP.out _ _ _ _ _ HK.out (fun z hz=>hz) HK.out.b).2) HK ?_;clear HK;intro _ HK;go_wp2_with fail;refine cb (HAw.out _) HK ?_;clear HK;intro _ HK;go_wp2_with (first|refine zX (lq HK 0) ?_|refine zX (lq HK 1) ?_);refine cb (FM.out _ _ _ _ _ _ _ _ _ _ _ (FP.out _ _ _ _ _ HK.out (fun z hz=>hz) HK.out.b).1 (FP.out _ _ _ _ _ HK.out (fun z hz=>hz) HK.out.b).2 HV.out.symm) HK ?_;clear HK;intro _ HK;exact jq
   ·have hi2:¬(i:Int)<(N:Int):=by omega
    go_wp2_with (first|go_big_skip|refine zX (lq HK 0) ?_);refine cb (HE1.out _ (FP.out _ _ _ _ _ HK.out (fun z hz=>hz) HK.out.b).1) HK ?_;clear HK;intro _ HK;go_wp2_with refine zX (lq HK 1) ?_;refine cb (HE2.out _ (FP.out _ _ _ _ _ HK.out (fun z hz=>hz) HK.out.b).2) HK ?_;clear HK;intro _ HK;go_wp2_with fail;refine cb (HAw.out _) HK ?_;clear HK;intro _ HK;go_wp2_with (first|refine zX (lq HK 0) ?_|refine zX (lq HK 1) ?_);refine cb (FM.out _ _ _ _ _ _ _ _ _ _ _ (FP.out _ _ _ _ _ HK.out (fun z hz=>hz) HK.out.b).1 (FP.out _ _ _ _ _ HK.out (fun z hz=>hz) HK.out.b).2 HV.out.symm) HK ?_;clear HK;intro _ HK;exact jq
  case pos=>
  obtain⟨hik,anR⟩:=hit;have hi2:(i:Int)<(N:Int):=by omega
  have hi4:(i:Int)<60:=by omega
  have hi3:i<9223372036854775807:=by omega
  obtain⟨x,hx,hxe⟩:=HS.out.get hik;obtain⟨b,o,rfl,hat⟩:=HS.out.at (Nat.lt_of_le_of_lt (Nat.zero_le _) hik);have HX:Hid (∀W,Below w.heap.size w W→∀q v,(evL x)[q]?=some v→W.cell? ⟨b,o+i*16+q,none⟩=some v):=zH (fun W hW=>hat W hW i x hx);have aiY:=(FP.out _ _ _ _ _ HK.out (fun z hz=>hz) HK.out.b).1;have HF3:Hid (aG.Fit (Ap.Cu ⟨n1,vs lo1,t1⟩ x).t):=zH (Ap.agk (s:=⟨n1,vs lo1,t1⟩) (xO aiY) lJ.out x);have alT:=zH (Ap.adx jr.out x);have alV:=zH (aA.alE HNb.out hxe.2);have HR1:=zH (fun W hg ho=>HRa.out x hxe.1 Rk n1 A1 k1 c1 t1 lo1 W hg ho lJ.out HNb.out.n);have HR2:=zH (fun Rq W hg ho=>HRa.out x hxe.1 Rq n1 A2 k2 c2 t1 lo2 W hg ho lJ.out HNb.out.n);rw[HV.out] at HR2;clear hat hx hxe aiY jr HNb HRa HE0;generalize Ap.Cu ⟨n1,vs lo1,t1⟩ x=s3 at *
  generalize Ap.Xx ⟨n1,vs lo1,t1⟩ x=os at *
  obtain⟨n3,l3,t3⟩:=s3;dsimp only at *
  go_wp2_with fail;have aj:=zH HK.out.drew;clear HK;refine wp_region_any (by kernel_rfl) ?_;change wpAny _ _ _ _ _ _ _ (World.drew _);refine wpAny_take (i:=1) (oi:=⟨some 38,_,_,_,_,_⟩) (v:=?_) rfl (by kernel_rfl) (by kernel_rfl) (by kernel_rfl) (fun _ _ _ h=>h) (Or.inl ⟨by rfl,?_⟩) ?_
  rotate_left
  ·(intro w;go_simp;try with_reducible rfl)
  try simp only[qY,qX,qW,qV,qU]
  refine wpAny_take (i:=2) (oi:=⟨some 39,_,_,_,_,_⟩) (v:=?_) rfl (by kernel_rfl) (by kernel_rfl) (by kernel_rfl) (fun _ _ _ h=>h) (Or.inl ⟨by rfl,?_⟩) ?_
  rotate_left
  ·(intro w;go_simp;try with_reducible rfl)
  try simp only[qY,qX,qW,qV,qU]
  refine wpAny_take (i:=3) (oi:=⟨some 40,_,_,_,_,_⟩) (v:=?_) rfl (by kernel_rfl) (by kernel_rfl) (by kernel_rfl) (fun _ _ _ h=>h) (Or.inl ⟨by rfl,?_⟩) ?_
  rotate_left
  ·(intro w;refine Eq.trans (dZ uG (i:=i) hik) ?_;with_reducible rfl)
  try simp only[qY,qX,qW,qV,qU]
  refine wpAny_ready (rs:=[0,4]) (by kernel_rfl) (by simp) ?_;refine AllReady.cons (o:=⟨some 37,_,_,_,_,_⟩) rfl (fun K hK=>?_) (AllReady.cons (o:=⟨some 41,_,_,_,_,_⟩) rfl (fun K hK=>?_) AllReady.nil);replace hK:=zH hK;refine eU (lq aj 0) ?_;refine hK.out _ _ ?_;clear hK K
  try simp only[qY,qX,qW,qV,qU]
  refine wpAny_ready (rs:=[4]) (by kernel_rfl) (by simp) ?_;refine AllReady.cons (o:=⟨some 41,_,_,_,_,_⟩) rfl (fun K hK=>?_) AllReady.nil;replace hK:=zH hK;refine eU (fI uG (off:=o+i*16) (x:=x) underlying48 (HX.out _ aj.out.b)) ?_;refine hK.out _ _ ?_;clear hK K
  try simp only[qY,qX,qW,qV,qU]
  refine wpAny_ready (rs:=[5]) (by kernel_rfl) (by simp) ?_;refine AllReady.cons (o:=⟨some 42,_,_,_,_,_⟩) rfl (fun K hK=>?_) AllReady.nil;replace hK:=zH hK;go_simp;go_at_call 7;refine(HR1.out _ (fun b W0 W L R K hm hb=>(FP.out b W0 W L R K hm hb).1) (FP.out _ _ _ _ _ aj.out (fun z hz=>hz) aj.out.b).1).mono ?_;rintro en w5 ⟨A3,k3,c3,lo3,O3,m3,d3,R3,rfl,HV3,q3,HI3⟩;replace aj:=zH (aj.out.join q3);clear q3;refine hK.out _ _ ?_;clear hK K
  try simp only[qY,qX,qW,qV,qU]
  refine wpAny_take (i:=6) (oi:=⟨some 36,_,_,_,_,_⟩) (v:=?_) rfl (by kernel_rfl) (by kernel_rfl) (by kernel_rfl) (fun _ _ _ h=>h) (Or.inl ⟨by rfl,?_⟩) ?_
  rotate_left
  ·(intro w;go_simp;try with_reducible rfl)
  try simp only[qY,qX,qW,qV,qU]
  refine wpAny_take (i:=7) (oi:=⟨some 43,_,_,_,_,_⟩) (v:=?_) rfl (by kernel_rfl) (by kernel_rfl) (by kernel_rfl) (fun _ _ _ h=>h) (Or.inl ⟨by rfl,?_⟩) ?_
  rotate_left
  ·(intro w;go_simp;try with_reducible rfl)
  try simp only[qY,qX,qW,qV,qU]
  refine wpAny_take (i:=8) (oi:=⟨some 44,_,_,_,_,_⟩) (v:=?_) rfl (by kernel_rfl) (by kernel_rfl) (by kernel_rfl) (fun _ _ _ h=>h) (Or.inl ⟨by rfl,?_⟩) ?_
  rotate_left
  ·(intro w;go_simp;try with_reducible rfl)
  try simp only[qY,qX,qW,qV,qU]
  refine wpAny_ready (rs:=[9]) (by kernel_rfl) (by simp) ?_;refine AllReady.cons (o:=⟨none,_,_,_,_,_⟩) rfl (fun K hK=>?_) AllReady.nil;replace hK:=zH hK;refine gJ aj 0 ?_;clear aj;intro w8 aj;simp only[lS] at aj;refine hK.out _ _ ?_;clear hK K
  try simp only[qY,qX,qW,qV,qU]
  refine wpAny_done (by kernel_rfl) ?_ _
  rotate_left
  replace hK:=zH hK;refine eU (fI uG (off:=o+i*16) (x:=x) underlying48 (HX.out _ aj.out.b)) ?_;refine hK.out _ _ ?_;clear hK K
  try simp only[qY,qX,qW,qV,qU]
  refine wpAny_ready (rs:=[0]) (by kernel_rfl) (by simp) ?_;refine AllReady.cons (o:=⟨some 37,_,_,_,_,_⟩) rfl (fun K hK=>?_) AllReady.nil;replace hK:=zH hK;refine eU (lq aj 0) ?_;refine hK.out _ _ ?_;clear hK K
  try simp only[qY,qX,qW,qV,qU]
  refine wpAny_ready (rs:=[5]) (by kernel_rfl) (by simp) ?_;refine AllReady.cons (o:=⟨some 42,_,_,_,_,_⟩) rfl (fun K hK=>?_) AllReady.nil;replace hK:=zH hK;go_simp;go_at_call 7;refine(HR1.out _ (fun b W0 W L R K hm hb=>(FP.out b W0 W L R K hm hb).1) (FP.out _ _ _ _ _ aj.out (fun z hz=>hz) aj.out.b).1).mono ?_;rintro en w5 ⟨A3,k3,c3,lo3,O3,m3,d3,R3,rfl,HV3,q3,HI3⟩;replace aj:=zH (aj.out.join q3);clear q3;refine hK.out _ _ ?_;clear hK K
  try simp only[qY,qX,qW,qV,qU]
  refine wpAny_take (i:=6) (oi:=⟨some 36,_,_,_,_,_⟩) (v:=?_) rfl (by kernel_rfl) (by kernel_rfl) (by kernel_rfl) (fun _ _ _ h=>h) (Or.inl ⟨by rfl,?_⟩) ?_
  rotate_left
  ·(intro w;go_simp;try with_reducible rfl)
  try simp only[qY,qX,qW,qV,qU]
  refine wpAny_take (i:=7) (oi:=⟨some 43,_,_,_,_,_⟩) (v:=?_) rfl (by kernel_rfl) (by kernel_rfl) (by kernel_rfl) (fun _ _ _ h=>h) (Or.inl ⟨by rfl,?_⟩) ?_
  rotate_left
  ·(intro w;go_simp;try with_reducible rfl)
  try simp only[qY,qX,qW,qV,qU]
  refine wpAny_take (i:=8) (oi:=⟨some 44,_,_,_,_,_⟩) (v:=?_) rfl (by kernel_rfl) (by kernel_rfl) (by kernel_rfl) (fun _ _ _ h=>h) (Or.inl ⟨by rfl,?_⟩) ?_
  rotate_left
  ·(intro w;go_simp;try with_reducible rfl)
  try simp only[qY,qX,qW,qV,qU]
  refine wpAny_ready (rs:=[9]) (by kernel_rfl) (by simp) ?_;refine AllReady.cons (o:=⟨none,_,_,_,_,_⟩) rfl (fun K hK=>?_) AllReady.nil;replace hK:=zH hK;refine gJ aj 0 ?_;clear aj;intro w8 aj;simp only[lS] at aj;refine hK.out _ _ ?_;clear hK K
  try simp only[qY,qX,qW,qV,qU]
  refine wpAny_done (by kernel_rfl) ?_ _
  rotate_left
  all_goals
   have HK:=aj;clear aj;go_wp2_with fail;have aj:=zH HK.out.drew;clear HK;refine wp_region_any (by kernel_rfl) ?_;change wpAny _ _ _ _ _ _ _ (World.drew _);refine wpAny_take (i:=1) (oi:=⟨some 47,_,_,_,_,_⟩) (v:=?_) rfl (by kernel_rfl) (by kernel_rfl) (by kernel_rfl) (fun _ _ _ h=>h) (Or.inl ⟨by rfl,?_⟩) ?_
   rotate_left
   ·(intro w;go_simp;try with_reducible rfl)
   try simp only[qY,qX,qW,qV,qU]
   refine wpAny_take (i:=2) (oi:=⟨some 48,_,_,_,_,_⟩) (v:=?_) rfl (by kernel_rfl) (by kernel_rfl) (by kernel_rfl) (fun _ _ _ h=>h) (Or.inl ⟨by rfl,?_⟩) ?_
   rotate_left
   ·(intro w;go_simp;try with_reducible rfl)
   try simp only[qY,qX,qW,qV,qU]
   refine wpAny_take (i:=3) (oi:=⟨some 49,_,_,_,_,_⟩) (v:=?_) rfl (by kernel_rfl) (by kernel_rfl) (by kernel_rfl) (fun _ _ _ h=>h) (Or.inl ⟨by rfl,?_⟩) ?_
   rotate_left
   ·(intro w;refine Eq.trans (dZ uG (i:=i) hik) ?_;with_reducible rfl)
   try simp only[qY,qX,qW,qV,qU]
   refine wpAny_ready (rs:=[0,4]) (by kernel_rfl) (by simp) ?_;refine AllReady.cons (o:=⟨some 46,_,_,_,_,_⟩) rfl (fun K hK=>?_) (AllReady.cons (o:=⟨some 50,_,_,_,_,_⟩) rfl (fun K hK=>?_) AllReady.nil);replace hK:=zH hK;refine eU (lq aj 1) ?_;refine hK.out _ _ ?_;clear hK K
   try simp only[qY,qX,qW,qV,qU]
   refine wpAny_ready (rs:=[4]) (by kernel_rfl) (by simp) ?_;refine AllReady.cons (o:=⟨some 50,_,_,_,_,_⟩) rfl (fun K hK=>?_) AllReady.nil;replace hK:=zH hK;refine eU (fI uG (off:=o+i*16) (x:=x) underlying48 (HX.out _ aj.out.b)) ?_;refine hK.out _ _ ?_;clear hK K
   try simp only[qY,qX,qW,qV,qU]
   refine wpAny_ready (rs:=[5]) (by kernel_rfl) (by simp) ?_;refine AllReady.cons (o:=⟨some 51,_,_,_,_,_⟩) rfl (fun K hK=>?_) AllReady.nil;replace hK:=zH hK;go_simp;go_at_call 7;refine(HR2.out Rk _ (fun b W0 W L R K hm hb=>(FP.out b W0 W L R K hm hb).2) (FP.out _ _ _ _ _ aj.out (fun z hz=>List.mem_append_left _ hz) aj.out.b).2).mono ?_;rintro en w5 ⟨A4,k4,c4,lo4,O4,m4,d4,R4,rfl,HV4,q4,HI4⟩;replace aj:=zH (aj.out.join q4);clear q4;refine hK.out _ _ ?_;clear hK K
   try simp only[qY,qX,qW,qV,qU]
   refine wpAny_take (i:=6) (oi:=⟨some 45,_,_,_,_,_⟩) (v:=?_) rfl (by kernel_rfl) (by kernel_rfl) (by kernel_rfl) (fun _ _ _ h=>h) (Or.inl ⟨by rfl,?_⟩) ?_
   rotate_left
   ·(intro w;go_simp;try with_reducible rfl)
   try simp only[qY,qX,qW,qV,qU]
   refine wpAny_take (i:=7) (oi:=⟨some 52,_,_,_,_,_⟩) (v:=?_) rfl (by kernel_rfl) (by kernel_rfl) (by kernel_rfl) (fun _ _ _ h=>h) (Or.inl ⟨by rfl,?_⟩) ?_
   rotate_left
   ·(intro w;go_simp;try with_reducible rfl)
   try simp only[qY,qX,qW,qV,qU]
   refine wpAny_take (i:=8) (oi:=⟨some 53,_,_,_,_,_⟩) (v:=?_) rfl (by kernel_rfl) (by kernel_rfl) (by kernel_rfl) (fun _ _ _ h=>h) (Or.inl ⟨by rfl,?_⟩) ?_
   rotate_left
   ·(intro w;go_simp;try with_reducible rfl)
   try simp only[qY,qX,qW,qV,qU]
   refine wpAny_ready (rs:=[9]) (by kernel_rfl) (by simp) ?_;refine AllReady.cons (o:=⟨none,_,_,_,_,_⟩) rfl (fun K hK=>?_) AllReady.nil;replace hK:=zH hK;refine gJ aj 1 ?_;clear aj;intro w8 aj;simp only[lS] at aj;refine hK.out _ _ ?_;clear hK K
   try simp only[qY,qX,qW,qV,qU]
   refine wpAny_done (by kernel_rfl) ?_ _
   rotate_left
   replace hK:=zH hK;refine eU (fI uG (off:=o+i*16) (x:=x) underlying48 (HX.out _ aj.out.b)) ?_;refine hK.out _ _ ?_;clear hK K
   try simp only[qY,qX,qW,qV,qU]
   refine wpAny_ready (rs:=[0]) (by kernel_rfl) (by simp) ?_;refine AllReady.cons (o:=⟨some 46,_,_,_,_,_⟩) rfl (fun K hK=>?_) AllReady.nil;replace hK:=zH hK;refine eU (lq aj 1) ?_;refine hK.out _ _ ?_;clear hK K
   try simp only[qY,qX,qW,qV,qU]
   refine wpAny_ready (rs:=[5]) (by kernel_rfl) (by simp) ?_;refine AllReady.cons (o:=⟨some 51,_,_,_,_,_⟩) rfl (fun K hK=>?_) AllReady.nil;replace hK:=zH hK;go_simp;go_at_call 7;refine(HR2.out Rk _ (fun b W0 W L R K hm hb=>(FP.out b W0 W L R K hm hb).2) (FP.out _ _ _ _ _ aj.out (fun z hz=>List.mem_append_left _ hz) aj.out.b).2).mono ?_;rintro en w5 ⟨A4,k4,c4,lo4,O4,m4,d4,R4,rfl,HV4,q4,HI4⟩;replace aj:=zH (aj.out.join q4);clear q4;refine hK.out _ _ ?_;clear hK K
   try simp only[qY,qX,qW,qV,qU]
   refine wpAny_take (i:=6) (oi:=⟨some 45,_,_,_,_,_⟩) (v:=?_) rfl (by kernel_rfl) (by kernel_rfl) (by kernel_rfl) (fun _ _ _ h=>h) (Or.inl ⟨by rfl,?_⟩) ?_
   rotate_left
   ·(intro w;go_simp;try with_reducible rfl)
   try simp only[qY,qX,qW,qV,qU]
   refine wpAny_take (i:=7) (oi:=⟨some 52,_,_,_,_,_⟩) (v:=?_) rfl (by kernel_rfl) (by kernel_rfl) (by kernel_rfl) (fun _ _ _ h=>h) (Or.inl ⟨by rfl,?_⟩) ?_
   rotate_left
   ·(intro w;go_simp;try with_reducible rfl)
   try simp only[qY,qX,qW,qV,qU]
   refine wpAny_take (i:=8) (oi:=⟨some 53,_,_,_,_,_⟩) (v:=?_) rfl (by kernel_rfl) (by kernel_rfl) (by kernel_rfl) (fun _ _ _ h=>h) (Or.inl ⟨by rfl,?_⟩) ?_
   rotate_left
   ·(intro w;go_simp;try with_reducible rfl)
   try simp only[qY,qX,qW,qV,qU]
   refine wpAny_ready (rs:=[9]) (by kernel_rfl) (by simp) ?_;refine AllReady.cons (o:=⟨none,_,_,_,_,_⟩) rfl (fun K hK=>?_) AllReady.nil;replace hK:=zH hK;refine gJ aj 1 ?_;clear aj;intro w8 aj;simp only[lS] at aj;refine hK.out _ _ ?_;clear hK K
   try simp only[qY,qX,qW,qV,qU]
   refine wpAny_done (by kernel_rfl) ?_ _
   rotate_left
   all_goals
    have HK:=aj;clear aj;go_wp2_with refine zX (aR (j:=i) hi3) ?_;exact⟨⟨i+1,n3,A3,k3,c3,A4,k4,c4,t3,lo3,lo4,_,by omega,by omega,rfl,zH (HV4.out.trans HV3.out.symm),zH (by rw[HV3.out];exact alT.out),zH (by rw[HV3.out];exact alV.out),HF3,HK,zH (fun b W0 W L R K hm hb=>⟨(HI3.out b W0 W L R K (fun y hy=>hm _ (List.mem_append_left _ (List.mem_append_right _ hy))) ⟨⟨_,_,_,_,K,fun y hy=>hm _ (List.mem_append_left _ (List.mem_append_left _ hy))⟩,hb⟩).1,(HI4.out b W0 W L R K (fun y hy=>hm _ (List.mem_append_right _ hy)) ⟨⟨_,_,_,_,K,fun y hy=>hm _ (List.mem_append_left _ (List.mem_append_left _ hy))⟩,hb⟩).1⟩)⟩,by simp[intOf];omega⟩
end
section
open Go.ChangeShapes Go.WideShapes Go.Deep Go.RowKit
section
variable {H:Type}{enc:TypeId×Value→H}{W:World}{base:Nat}{α:Type}
theorem Lg:jm enc 46 cmL (fun c=>c.val.f<18446744073709551616∧c.old.f<18446744073709551616∧aA.Fit (Val.items c.val)):=fun W n cs x ht=>by
 obtain⟨ys,m,_,hx,hlen,hyl,hf⟩:=DataW.trod_struct underlying46 ht;have hlen:cs.length=prog.cellsOf 46:=hlen;rw[DL] at hlen
 match cs,hlen,ys,hyl with
 | [v0,v1,v2,v3,v4,v5,v6,v7,v8,v9,v10,v11,v12],_,[y0,y1,y2,y3,y4,y5,y6],_=>
  have f0:=hf 0 _ rfl;have f1:=hf 1 _ rfl;have f2:=hf 2 _ rfl;have f3:=hf 3 _ rfl;have f4:=hf 4 _ rfl;have f5:=hf 5 _ rfl;have f6:=hf 6 _ rfl;simp only[List.getElem?_cons_zero,List.getElem?_cons_succ] at f0 f1 f2 f3 f4 f5 f6;obtain⟨a0,e0,_,_⟩:=DataW.trod_int underlying3 f0;obtain⟨a1,e1,_,_⟩:=DataW.trod_string underlying9 f1;obtain⟨a2,e2,_,_⟩:=DataW.trod_string underlying9 f2;obtain⟨a3,e3,w3⟩:=mO (enc:=enc) W _ _ _ f3;obtain⟨a4,e4,w4⟩:=mO (enc:=enc) W _ _ _ f4;obtain⟨a5,e5,_,_⟩:=DataW.trod_int underlying3 f5;obtain⟨a6,e6,_,_⟩:=DataW.trod_int underlying3 f6;cases e0;cases e1;cases e2;cases e3;cases e4;cases e5;cases e6;exact⟨⟨a0,a1,a2,a3,a4,a5,a6⟩,rfl,w3.1,w4.1,w3.2⟩
theorem Qz:jm enc 48 evL eG:=fun W n cs x ht=>by
 obtain⟨ys,m,_,hx,hlen,hyl,hf⟩:=DataW.trod_struct underlying48 ht;have hlen:cs.length=prog.cellsOf 48:=hlen;rw[BR] at hlen
 match cs,hlen,ys,hyl with
 | [v0,v1,v2,v3,v4,v5,v6,v7,v8,v9,v10,v11,v12,v13,v14,v15],_,[y0,y1],_=>
  have f0:=hf 0 _ rfl;have f1:=hf 1 _ rfl;simp only[List.getElem?_cons_zero,List.getElem?_cons_succ] at f0 f1;obtain⟨⟨a0,a1,a2⟩,e0,w0⟩:=AO (enc:=enc) W _ _ _ f0;obtain⟨a3,e1,w3⟩:=Lg (enc:=enc) W _ _ _ f1;cases e0;cases e1;have w0:aA.Fit (aA.n1 a0::aA.n1 a1::aA.n1 a2::[]):=w0;have r0:=aA.Fit.rng w0;have r1:=aA.Fit.rng (aA.Fit.cons w0);have r2:=aA.Fit.rng (aA.Fit.cons (aA.Fit.cons w0));exact⟨⟨a0,a1,a2,a3⟩,rfl,⟨w3.1,w3.2.1,r2.2⟩,⟨⟨r0,r1,r2⟩,aA.Nb w3.2.2⟩⟩
theorem Lf:Opens enc uG (fun e _=>eG e):=fun W n cs x ht=>Qz W n cs x ht
theorem Lift.Given.alv{ts:List TypeId}{args:List Value}{ds:List (DataW H)}{before:List MemPlace}(h:Lift.Given enc prog (34::ts) W base args ds before):
  ∃(A:Option Addr) (c:Nat) (l:List aI.E) (vs:List Value) (d:DataW H) (ds':List (DataW H)) (q:List MemPlace),args=.slice A l.length c::vs∧ds=d::ds'∧bT uG eG W A l.length c l∧Lift.Given enc prog ts W base vs ds' q:=by
 obtain⟨A,c,l,vs,d,ds',q,h1,h2,h3,h4,h5,h6,_,h8,h9⟩:=h.things (L:=uG) Lf BR Xp;have hb:l.length*160≤reachBytes:=h6;rw[iG] at hb;refine⟨A,c,l,vs,d,ds',q,h1,h2,⟨rfl,h8,h3,h4,fun x hx=>?_,?_⟩,h9⟩
 ·obtain⟨_,g⟩:=h5 x hx
  exact g.1
 ·show l.length*160≤_
  omega
end
end
end Go.Proofs.YtahdlddbbnjloaaGreat
