/- What the program's ask returns. No condition but those named. -/
import Derived.Test.YtieoeendnccafaaGreatNAT
set_option linter.unusedSimpArgs false
set_option linter.unusedVariables false
set_option maxRecDepth 100000
set_option maxHeartbeats 25600000
open Go.RowKit
namespace Go.Proofs.YtieoeendnccafaaGreat
open _root_.Go.Proofs.Tryz
section
theorem dB.mono{G H:World→Prop}{s:Ap.St}{os:List av.Ot}{w:World}{e:Ending}{w':World}(h:dB G s os w e w')(hg:∀W,H W→G W):dB H s os w e w':=by
 obtain⟨A,k,c,l,O,m,d,Rn,h1,h2,h3,h4⟩:=h;exact⟨A,k,c,l,O,m,d,Rn,h1,h2,h3,zH fun b W0 W L R K hm g=>h4.out b W0 W L R K hm (hg W g)⟩
theorem uG.one{y:av.Ot}{w:World}{e:Ending}{w':World}(h:uG aR [y] w e w'):∃A c,e=.returned (.slice A 1 c)∧aR.Own w.heap.size w' (.slice A 1 c) [y]∧Below w.heap.size w w':=by
 obtain⟨A,n,c,rfl,h2,h3⟩:=h;obtain rfl:n=1:=h2.reads.1;exact⟨A,c,rfl,h2,h3⟩
theorem yg(n:Int)(A:Option Addr)(k cp:Nat)(t:aH.T)(lo:List Oh)(c1:Int)(w:World)(hs:bY w A k cp lo)(hf:aH.Fit t)(hc:0≤c1∧c1<5)(hP:(t.get c1).dn=false→((Ap.dX ⟨n,vs lo,t⟩ c1).t.get c1).p=av.err 14):
  Calls prog 62 #[.agg (stA n A k cp t),.int .i64 c1] w (dB (fun _=>True) (Ap.dX ⟨n,vs lo,t⟩ c1) (Ap.eZ ⟨n,vs lo,t⟩ c1) w):=by
 have HD:=zH (fun W (hW:Below w.heap.size w W)=>OD A cp k lo (Ap.rf t c1) W (hs.later hW));have zT:=zH (fun W=>Kc t c1 W hf);have uE:=zH (fun(A2:Option Addr) (n2 c2:Nat) (O:Option Addr) (m d:Nat) W (h:bJ aR tF W O m d (av.jM (vs lo) (Ap.rf t c1)))=>qQ n A2 n2 c2 (aH.fJ t c1) O m d _ W (aH.qg hf c1) h (mo));have HK:=iK w 33 (stA n A k cp t);have tH:=zH (lF (vs lo) (Ap.rf t c1));unfold Jk at HD;unfold BR at zT;clear hf hs;unfold Ap.dX at hP ⊢;unfold Ap.eZ;dsimp only at hP ⊢;have HRf:Hid (Ap.rf t c1=⟨c1,(t.get c1).ep,(t.get c1).rq⟩):=zH rfl;generalize Ap.rf t c1=r at *
 generalize av.aI (vs lo) r=l9 at *
 generalize av.jM (vs lo) r=os at *
 generalize aH.fJ t c1=t2 at *
 generalize Ap.ends t2 (Ap.dP os)=t3 at *
 have HOw:Hid ((if (t.get c1).dn=true then [] else [(⟨r,av.err 14⟩:av.Ot)])++os=if (t.get c1).dn=true then os else [(⟨r,av.err 14⟩:av.Ot)]++os):=zH (by split<;>rfl);generalize (if (t.get c1).dn=true then [] else [(⟨r,av.err 14⟩:av.Ot)])++os=told at *
 go_enter func62,ntmps62;go_upto_region 3 with (first|(refine aU HK ?_;clear HK;intro _ g1 HK;simp only[aO,aJ] at HK)|refine zX (dV hc) ?_|refine zX (oK HK 0 hc) ?_|(refine bE HK ?_;clear HK;intro _ g2 HK;simp only[aO,aJ] at HK)|(refine bD (u:=t.get c1) HK 2 ?_;clear HK;intro _ HK;simp only[lS] at HK)|refine zX (oM HK 2) ?_|refine zX (pY HK 2) ?_|refine zX ((Br (r:=⟨c1,(t.get c1).ep,(t.get c1).rq⟩)).trans (by rw[← HRf.out])) ?_|(refine aQ HK ?_;clear HK;intro _ g3 HK;simp only[aO,aJ] at HK)|(refine aW (c2:=r.c) (e2:=r.e) (r2:=r.r) HK 3 ?_;clear HK;intro _ HK;simp only[lS] at HK));go_wp2_with (first|refine zX (jl HK 0) ?_|refine zX (aB HK 3) ?_);refine(HD.out _ HK.out.b).mono ?_;rintro e w1 ⟨A2,n2,c2,l2,O2,m2,d2,R2,rfl,mE,k2,HI2⟩;replace HK:=zH (HK.out.join k2);clear k2;simp only[aJ] at HK;go_wp2_with (first|(refine dF HK 0 ?_;clear HK;intro _ HK;simp only[lS] at HK)|refine zX (eU HK 0) ?_);refine cb (zT.out _) HK ?_;clear HK;intro _ HK;go_wp2_with (first|(refine dD (u:=t2) HK 0 ?_;clear HK;intro _ HK;simp only[lS] at HK)|refine zX (iB HK 0) ?_);refine cb (uE.out A2 n2 c2 O2 m2 d2 _ (HI2.out _ _ _ _ _ HK.out (fun z hz=>hz) trivial).2) HK ?_;clear HK;intro _ HK;have gT:Hid (os.length=m2):=zH (HI2.out _ _ _ _ _ HK.out (fun z hz=>hz) trivial).2.len;have tJ:Hid (m2≤8):=zH (by rw[← gT.out];exact tH.out);clear HD zT uE tH;cases hd:(t.get c1).dn
 case true=>
  have HV:=zH hd;have hT:told=os:=by rw[HOw.out,if_pos hd]
  subst hT;clear hd hP HOw;go_wp2_with (first|(refine bA HK 0 ?_;clear HK;intro _ HK;simp only[lS] at HK)|refine zX ((jO HK 2).trans (by rw[HV.out])) ?_|refine zX (iB HK 0) ?_|(refine bA HK 1 ?_;clear HK;intro _ HK;simp only[lS] at HK));refine dQ results62 (HK.out.blk 1 rfl) ?_;unfold dB;exact⟨A2,n2,c2,l2,O2,_,d2,_,rfl,mE,HK.out.aA 0,zH fun b W0 W L R K hm hg=>⟨(HI2.out b W0 W L R K hm trivial).1,(HI2.out b W0 W L R K hm trivial).2⟩⟩
 case false=>
  have HV:=zH hd;have HP:=zH (hP hd);have hT:told=[⟨r,av.err 14⟩]++os:=by rw[HOw.out,if_neg (by rw[hd];decide)]
  subst hT;clear HOw;have Jl:=zH (fun W=>jX r (av.err 14) W);have Ze:=zH oG;clear hd hP;go_upto_region 9 with (first|(refine bA HK 0 ?_;clear HK;intro _ HK;simp only[lS] at HK)|refine zX ((jO HK 2).trans (by rw[HV.out])) ?_);have aj:=zH HK.out.drew;clear HK;refine wp_region_held_drew (S:=(fun W=>Hid (Kn w.heap.size w W [(w.heap.size,33,stA n A2 n2 c2 t3)] [])∧Hid (Kn w.heap.size w W [(g3,35,#[.int .i64 r.c,.int .i64 r.e,.int .i64 r.r])] []))) (by kernel_rfl) ?_ fun ah=>?_
  ·(try dsimp only);exact And.intro (zH ((aj.out.aA 1).ay 0)) (zH (((aj.out.aI 3).aA 1).ay 0))
  refine ak 0 rfl ?_ fun _ s=>iB s.1 0
  refine ak 1 rfl ?_ fun _ s=>aB s.2 0
  refine ak 2 rfl ?_;refine ak 3 rfl ?_;refine ak 4 rfl ?_ fun _ s=>dV hc
  refine ak 5 rfl ?_;refine ak 6 rfl ?_ fun _ s=>(aay s.1 0 hc).trans (by rw[HP.out])
  refine ak 8 rfl ?_;refine aC 7 rfl fun K hK=>?_
  go_simp;go_at_call 27;refine(Jl.out _).mono ?_;rintro e w5 hq;obtain⟨A5,c5,rfl,o5,b5⟩:=hq.one;replace aj:=zH (aj.out.called b5 o5).lC;clear o5 b5;have hs:=And.intro (zH ((aj.out.aA 1).ay 0)) (zH (((aj.out.aI 3).aA 1).ay 0));refine bk hK hs fun ah=>?_
  clear hK K;refine aC 9 rfl fun K hK=>?_
  refine tT aR EJ aj ?_;clear aj;intro w6 g10 aj _;simp only[aO,aJ] at aj;have hs:=And.intro (zH ((aj.out.aA 1).ay 0)) (zH (((aj.out.aI 3).aA 1).ay 0));refine bk hK hs fun ah=>?_
  clear hK K;refine aC 10 rfl fun K hK=>?_
  go_simp;go_at_call 121;refine(Ze.out.two aj 4 rfl (bJ.own (aj.out.own 0 rfl) (eu)) (HI2.out _ _ _ _ _ aj.out (fun z hz=>List.mem_cons_of_mem _ hz) trivial).2 (by have:=tJ.out;show(1+m2)*72≤_;omega)).mono ?_;rintro e w7 ⟨A9,n9,c9,rfl,o9,b9⟩;replace aj:=zH (aj.out.called b9 o9).lC;clear o9 b9;have hs:=And.intro (zH ((aj.out.aA 1).ay 0)) (zH (((aj.out.aI 3).aA 1).ay 0));refine bk hK hs fun ah=>?_
  clear hK K;refine aC 11 rfl fun K hK=>?_
  refine bZ aj 1 ?_;clear aj;intro w8 aj;simp only[lS] at aj;have hs:=And.intro (zH ((aj.out.aA 1).ay 0)) (zH (((aj.out.aI 3).aA 1).ay 0));refine bk hK hs fun ah=>?_
  clear hK K;refine ak 12 rfl ?_;refine bW ?_
  all_goals
   have HK:=aj;clear aj ah;go_wp2_with fail;refine dQ results62 (HK.out.blk 1 rfl) ?_;unfold dB;exact⟨A2,n2,c2,l2,A9,_,c9,_,rfl,mE,HK.out.aA 0,zH fun b W0 W L R K hm hg=>⟨(HI2.out b W0 W L R K (fun z hz=>hm z (List.mem_cons_of_mem _ (List.mem_cons_of_mem _ hz))) trivial).1,bJ.own (K.mem (hm _ (List.mem_cons_self ..))) (eu (h:=(by show os.length+1≤1000;rw[gT.out];have:=tJ.out;omega)))⟩⟩
end
section
theorem Oy(t:aH.T)(r:Rf)(w:World)(hf:aH.Fit t)(hr:r.r≤9223372036854775807):Calls prog 122 #[.agg (dR t),.agg #[.int .i64 r.c,.int .i64 r.e,.int .i64 r.r]] w (Ls (aH.jB t r) (aH.oH t r) w):=by
 have HL:=zH (fun W=>mR t r W hf hr);have HK:=kX w 31 (dR t) 35 #[.int .i64 r.c,.int .i64 r.e,.int .i64 r.r];have HY:=zH (fun h1 h2 h3=>aH.TK (t:=t) (r:=r) h1 h2 h3);have HF:=zH (fun h1 h2 h3=>aH.Ms (t:=t) (r:=r) h1 h2 h3);have lJ:=zH (fun h=>aH.TM (t:=t) (r:=r) h);have fB:=zH (fun h=>aH.TL (t:=t) (r:=r) h);have HC:=zH (fun h=>aH.nN (t:=t) (r:=r) (k:=1) h (by decide));have HV:Hid (0≤r.c∧r.c<5→∀W,Calls prog 82 #[.agg (dR (t.set r.c aH.z))] W (gG (aH.live t r.c) W)):=zH (fun h W=>aH.acC (t:=t) h▸CK (t.set r.c aH.z) W);unfold Ls;unfold gG at HL HV;clear hf hr;generalize aH.look t r=x at *
 generalize aH.jB t r=y at *
 generalize aH.oH t r=v at *
 generalize aH.live t r.c=m at *
 generalize h3:decide (m<4)=b3 at *
 have H3:=zH h3;generalize h1:decide (x=1)=b1 at *
 have H1:=zH h1;generalize h2:decide (r.r=0)=b2 at *
 have H2:=zH h2;clear h1 h2 h3;cases b1
 case false=>
  obtain⟨hx1,hx2⟩:=lJ.out (by simp);have Co:=zH hx1;have Lx:=zH hx2;clear hx1 hx2;go_enter func122,ntmps122;go_wp2_with (first|refine zX (jV HK 0) ?_|refine zX (aB HK 1) ?_|(refine bP HK ?_;clear HK;intro _ g1 HK;simp only[aO,aJ] at HK)|(refine bQ HK ?_;clear HK;intro _ g2 HK;simp only[aO,aJ] at HK));refine cb (HL.out _) HK ?_;clear HK;intro _ HK;go_wp2_with (first|refine zX (bH (m:=x) (n:=1) (by rw[H1.out])) ?_|refine zX (jV HK 0) ?_|(refine bC (t2:=t) HK 2 ?_;clear HK;intro _ HK;simp only[lS] at HK)|refine zX (mO (e:=1)) ?_|(refine bf (q:=av.err 1) HK 3 ?_;clear HK;intro _ HK;simp only[lS] at HK));rw[← Co.out] at HK;rw[← Lx.out] at HK;exact Xc
 cases b2
 case false=>
  obtain⟨hx1,hx2⟩:=fB.out (by simp);have Co:=zH hx1;have Lx:=zH hx2;clear hx1 hx2;go_enter func122,ntmps122;go_wp2_with (first|refine zX (jV HK 0) ?_|refine zX (aB HK 1) ?_|(refine bP HK ?_;clear HK;intro _ g1 HK;simp only[aO,aJ] at HK)|(refine bQ HK ?_;clear HK;intro _ g2 HK;simp only[aO,aJ] at HK));refine cb (HL.out _) HK ?_;clear HK;intro _ HK;go_wp2_with (first|refine zX (bH (m:=x) (n:=1) (by rw[H1.out])) ?_|refine zX (bH (m:=r.r) (n:=0) (by rw[H2.out])) ?_|refine zX (yN (x:=r) HK 1) ?_|refine zX (jV HK 0) ?_|(refine bC (t2:=t) HK 2 ?_;clear HK;intro _ HK;simp only[lS] at HK)|refine zX (mO (e:=1)) ?_|(refine bf (q:=av.err 1) HK 3 ?_;clear HK;intro _ HK;simp only[lS] at HK));rw[← Co.out] at HK;rw[← Lx.out] at HK;exact Xc
 have hc:=HC.out (of_decide_eq_true H1.out);go_enter func122,ntmps122;go_wp2_with (first|refine zX (jV HK 0) ?_|refine zX (aB HK 1) ?_|(refine bP HK ?_;clear HK;intro _ g1 HK;simp only[aO,aJ] at HK)|(refine bQ HK ?_;clear HK;intro _ g2 HK;simp only[aO,aJ] at HK));refine cb (HL.out _) HK ?_;clear HK;intro _ HK;replace HV:=zH (HV.out hc);go_wp2_with (first|refine zX (bH (m:=x) (n:=1) (by rw[H1.out])) ?_|refine zX (bH (m:=r.r) (n:=0) (by rw[H2.out])) ?_|refine zX (yN (x:=r) HK 1) ?_|refine zX (iY (x:=r) HK 1) ?_|refine zX (aaA (x:=r) HK 1) ?_|refine zX (dO hc) ?_|refine zX (oO) ?_|refine zX (YA (e:=r.e) (by rfl) (by rfl)) ?_|(refine bE HK ?_;clear HK;intro _ g3 HK;simp only[aO,aJ] at HK)|(refine bD (u:=⟨false,r.e,0,true,av.rz⟩) HK 4 ?_;clear HK;intro _ HK;simp only[lS] at HK)|(refine iO (s:=aH.z) HK 0 hc ?_;clear HK;intro _ HK;simp only[lS] at HK)|refine zX (jV HK 0) ?_);refine cb (HV.out _) HK ?_;clear HK;intro _ HK;cases b3
 case false=>
  obtain⟨hx1,hx2⟩:=HF.out (by simp) (by simp) (by simp);have Co:=zH hx1;have Lx:=zH hx2;clear hx1 hx2;go_upto_region 9 with (first|refine zX (bI (m:=m) (n:=4) H3.out) ?_|refine zX (iY (x:=r) HK 1) ?_|refine zX (dO hc) ?_|refine zX (ER HK 4) ?_|(refine zZ (n:=6) HK 4 rfl rfl rfl rfl rfl ?_;clear HK;intro _ HK;simp only[lS] at HK)|(refine iO (s:=⟨false,r.e,0,true,av.err 6⟩) HK 0 hc ?_;clear HK;intro _ HK;simp only[lS] at HK))
  (try simp only[aH.set_set hc] at HK)
  rw[← Co.out] at HK;have aj:=zH HK.out.drew;clear HK;refine wp_region_held_drew (S:=(fun W=>Hid (Kn w.heap.size w W [(w.heap.size,31,dR y)] [])∧Hid (Kn w.heap.size w W [(g3,30,gq ⟨false,r.e,0,true,av.err 6⟩)] []))) (by kernel_rfl) ?_ fun ah=>?_
  ·(try dsimp only);exact⟨zH (aj.out.aA 1),zH (aj.out.aI 4)⟩
  refine ak 0 rfl ?_ fun _ s=>jV s.1 0
  refine ak 1 rfl ?_;refine ak 2 rfl ?_ (fun w Jr=>kg (s:=⟨false,r.e,0,true,av.err 6⟩) Jr.2 0);refine aC 3 rfl fun K hK=>?_
  refine vW (t2:=y) aj 2 ?_;clear aj;intro w6 aj;simp only[lS] at aj;have hs:=(⟨zH (aj.out.aA 1),zH (aj.out.aI 4)⟩:_∧_);refine bk hK hs fun ah=>?_
  clear hK K;refine aC 4 rfl fun K hK=>?_
  refine bM (q:=av.err 6) aj 3 ?_;clear aj;intro w7 aj;simp only[lS] at aj;have hs:=(⟨zH (aj.out.aA 1),zH (aj.out.aI 4)⟩:_∧_);refine bk hK hs fun ah=>?_
  clear hK K;refine bW ?_
  all_goals
   have HK:=aj;clear aj ah;rw[← Lx.out] at HK;go_wp2_with fail;exact Xc
 case true=>
  obtain⟨hx1,hx2⟩:=HY.out (by simp) (by simp) (by simp);have Co:=zH hx1;have Lx:=zH hx2;clear hx1 hx2;go_upto_region 9 with (first|refine zX (bI (m:=m) (n:=4) H3.out) ?_|refine zX (iY (x:=r) HK 1) ?_|refine zX (dO hc) ?_|refine zX (ER HK 4) ?_|(refine qF (d:=true) HK 4 ?_;clear HK;intro _ HK;simp only[lS] at HK)|(refine iO (s:=⟨true,r.e,0,true,av.rz⟩) HK 0 hc ?_;clear HK;intro _ HK;simp only[lS] at HK))
  (try simp only[aH.set_set hc] at HK)
  rw[← Co.out] at HK;have aj:=zH HK.out.drew;clear HK;refine wp_region_held_drew (S:=(fun W=>Hid (Kn w.heap.size w W [(w.heap.size,31,dR y)] [])∧Hid (Kn w.heap.size w W [(g3,30,gq ⟨true,r.e,0,true,av.rz⟩)] []))) (by kernel_rfl) ?_ fun ah=>?_
  ·(try dsimp only);exact⟨zH (aj.out.aA 1),zH (aj.out.aI 4)⟩
  refine ak 0 rfl ?_ fun _ s=>jV s.1 0
  refine ak 1 rfl ?_;refine ak 2 rfl ?_ (fun w Jr=>kg (s:=⟨true,r.e,0,true,av.rz⟩) Jr.2 0);refine aC 3 rfl fun K hK=>?_
  refine vW (t2:=y) aj 2 ?_;clear aj;intro w6 aj;simp only[lS] at aj;have hs:=(⟨zH (aj.out.aA 1),zH (aj.out.aI 4)⟩:_∧_);refine bk hK hs fun ah=>?_
  clear hK K;refine aC 4 rfl fun K hK=>?_
  refine bM (q:=av.rz) aj 3 ?_;clear aj;intro w7 aj;simp only[lS] at aj;have hs:=(⟨zH (aj.out.aA 1),zH (aj.out.aI 4)⟩:_∧_);refine bk hK hs fun ah=>?_
  clear hK K;refine bW ?_
  all_goals
   have HK:=aj;clear aj ah;rw[← Lx.out] at HK;go_wp2_with fail;exact Xc
theorem CQ(t:aH.T)(r:Rf)(w:World)(hf:aH.Fit t)(hr:r.r≤9223372036854775807):Calls prog 74 #[.agg (dR t),.agg #[.int .i64 r.c,.int .i64 r.e,.int .i64 r.r]] w (Ls (aH.jB t r) (aH.oH t r) w):=by
 have HL:=zH (fun W=>xP t r W hf hr);have HK:=kX w 31 (dR t) 35 #[.int .i64 r.c,.int .i64 r.e,.int .i64 r.r];have HY:=zH (fun h1 h2 h3=>aH.TK (t:=t) (r:=r) h1 h2 h3);have HF:=zH (fun h1 h2 h3=>aH.Ms (t:=t) (r:=r) h1 h2 h3);have lJ:=zH (fun h=>aH.TM (t:=t) (r:=r) h);have fB:=zH (fun h=>aH.TL (t:=t) (r:=r) h);have HC:=zH (fun h=>aH.nN (t:=t) (r:=r) (k:=1) h (by decide));have HV:=zH (fun W=>CS t r.c W);unfold Ls;unfold gG at HL HV;clear hf hr;generalize aH.look t r=x at *
 generalize aH.jB t r=y at *
 generalize aH.oH t r=v at *
 generalize aH.live t r.c=m at *
 generalize h3:decide (m<4)=b3 at *
 have H3:=zH h3;generalize h1:decide (x=1)=b1 at *
 have H1:=zH h1;generalize h2:decide (r.r=0)=b2 at *
 have H2:=zH h2;clear h1 h2 h3;cases b1
 case false=>
  obtain⟨hx1,hx2⟩:=lJ.out (by simp);have Co:=zH hx1;have Lx:=zH hx2;clear hx1 hx2;go_enter func74,ntmps74;go_wp2_with (first|refine zX (jV HK 0) ?_|refine zX (aB HK 1) ?_|(refine bP HK ?_;clear HK;intro _ g1 HK;simp only[aO,aJ] at HK)|(refine bQ HK ?_;clear HK;intro _ g2 HK;simp only[aO,aJ] at HK));refine cb (HL.out _) HK ?_;clear HK;intro _ HK;go_wp2_with (first|refine zX (bH (m:=x) (n:=1) (by rw[H1.out])) ?_|refine zX (jV HK 0) ?_|(refine bC (t2:=t) HK 2 ?_;clear HK;intro _ HK;simp only[lS] at HK)|refine zX (mO (e:=1)) ?_|(refine bf (q:=av.err 1) HK 3 ?_;clear HK;intro _ HK;simp only[lS] at HK));rw[← Co.out] at HK;rw[← Lx.out] at HK;exact Xe
 cases b2
 case false=>
  obtain⟨hx1,hx2⟩:=fB.out (by simp);have Co:=zH hx1;have Lx:=zH hx2;clear hx1 hx2;go_enter func74,ntmps74;go_wp2_with (first|refine zX (jV HK 0) ?_|refine zX (aB HK 1) ?_|(refine bP HK ?_;clear HK;intro _ g1 HK;simp only[aO,aJ] at HK)|(refine bQ HK ?_;clear HK;intro _ g2 HK;simp only[aO,aJ] at HK));refine cb (HL.out _) HK ?_;clear HK;intro _ HK;go_wp2_with (first|refine zX (bH (m:=x) (n:=1) (by rw[H1.out])) ?_|refine zX (bH (m:=r.r) (n:=0) (by rw[H2.out])) ?_|refine zX (yN (x:=r) HK 1) ?_|refine zX (jV HK 0) ?_|(refine bC (t2:=t) HK 2 ?_;clear HK;intro _ HK;simp only[lS] at HK)|refine zX (mO (e:=1)) ?_|(refine bf (q:=av.err 1) HK 3 ?_;clear HK;intro _ HK;simp only[lS] at HK));rw[← Co.out] at HK;rw[← Lx.out] at HK;exact Xe
 have hc:=HC.out (of_decide_eq_true H1.out);go_enter func74,ntmps74;go_wp2_with (first|refine zX (jV HK 0) ?_|refine zX (aB HK 1) ?_|(refine bP HK ?_;clear HK;intro _ g1 HK;simp only[aO,aJ] at HK)|(refine bQ HK ?_;clear HK;intro _ g2 HK;simp only[aO,aJ] at HK));refine cb (HL.out _) HK ?_;clear HK;intro _ HK;go_wp2_with (first|refine zX (bH (m:=x) (n:=1) (by rw[H1.out])) ?_|refine zX (bH (m:=r.r) (n:=0) (by rw[H2.out])) ?_|refine zX (yN (x:=r) HK 1) ?_|refine zX (iY (x:=r) HK 1) ?_|refine zX (aaA (x:=r) HK 1) ?_|refine zX (Yz (e:=r.e) (by rfl) (by rfl)) ?_|(refine bE HK ?_;clear HK;intro _ g3 HK;simp only[aO,aJ] at HK)|(refine bD (u:=⟨true,r.e,0,true,av.rz⟩) HK 4 ?_;clear HK;intro _ HK;simp only[lS] at HK)|refine zX (jV HK 0) ?_);refine cb (HV.out _) HK ?_;clear HK;intro _ HK;cases b3
 case false=>
  obtain⟨hx1,hx2⟩:=HF.out (by simp) (by simp) (by simp);have Co:=zH hx1;have Lx:=zH hx2;clear hx1 hx2;go_upto_region 8 with (first|refine zX (mh (m:=m) (n:=4) (show decide (4≤m)=true from by have:=of_decide_eq_false H3.out;simp;omega)) ?_|refine zX (iY (x:=r) HK 1) ?_|refine zX (dO hc) ?_|refine zX (ER HK 4) ?_|(refine qF (d:=false) HK 4 ?_;clear HK;intro _ HK;simp only[lS] at HK)|(refine zZ (n:=6) HK 4 rfl rfl rfl rfl rfl ?_;clear HK;intro _ HK;simp only[lS] at HK)|(refine iO (s:=⟨false,r.e,0,true,av.err 6⟩) HK 0 hc ?_;clear HK;intro _ HK;simp only[lS] at HK))
  (try simp only[aH.set_set hc] at HK)
  rw[← Co.out] at HK;have aj:=zH HK.out.drew;clear HK;refine wp_region_held_drew (S:=(fun W=>Hid (Kn w.heap.size w W [(w.heap.size,31,dR y)] [])∧Hid (Kn w.heap.size w W [(g3,30,gq ⟨false,r.e,0,true,av.err 6⟩)] []))) (by kernel_rfl) ?_ fun ah=>?_
  ·(try dsimp only);exact⟨zH (aj.out.aA 1),zH (aj.out.aI 4)⟩
  refine ak 0 rfl ?_ fun _ s=>jV s.1 0
  refine ak 1 rfl ?_;refine ak 2 rfl ?_ (fun w Jr=>kg (s:=⟨false,r.e,0,true,av.err 6⟩) Jr.2 0);refine aC 3 rfl fun K hK=>?_
  refine vW (t2:=y) aj 2 ?_;clear aj;intro w6 aj;simp only[lS] at aj;have hs:=(⟨zH (aj.out.aA 1),zH (aj.out.aI 4)⟩:_∧_);refine bk hK hs fun ah=>?_
  clear hK K;refine aC 4 rfl fun K hK=>?_
  refine bM (q:=av.err 6) aj 3 ?_;clear aj;intro w7 aj;simp only[lS] at aj;have hs:=(⟨zH (aj.out.aA 1),zH (aj.out.aI 4)⟩:_∧_);refine bk hK hs fun ah=>?_
  clear hK K;refine bW ?_
  all_goals
   have HK:=aj;clear aj ah;rw[← Lx.out] at HK;go_wp2_with fail;exact Xe
 case true=>
  obtain⟨hx1,hx2⟩:=HY.out (by simp) (by simp) (by simp);have Co:=zH hx1;have Lx:=zH hx2;clear hx1 hx2;go_upto_region 8 with (first|refine zX (mh (m:=m) (n:=4) (show decide (4≤m)=false from by have:=of_decide_eq_true H3.out;simp;omega)) ?_|refine zX (iY (x:=r) HK 1) ?_|refine zX (dO hc) ?_|refine zX (ER HK 4) ?_|(refine iO (s:=⟨true,r.e,0,true,av.rz⟩) HK 0 hc ?_;clear HK;intro _ HK;simp only[lS] at HK))
  (try simp only[aH.set_set hc] at HK)
  rw[← Co.out] at HK;have aj:=zH HK.out.drew;clear HK;refine wp_region_held_drew (S:=(fun W=>Hid (Kn w.heap.size w W [(w.heap.size,31,dR y)] [])∧Hid (Kn w.heap.size w W [(g3,30,gq ⟨true,r.e,0,true,av.rz⟩)] []))) (by kernel_rfl) ?_ fun ah=>?_
  ·(try dsimp only);exact⟨zH (aj.out.aA 1),zH (aj.out.aI 4)⟩
  refine ak 0 rfl ?_ fun _ s=>jV s.1 0
  refine ak 1 rfl ?_;refine ak 2 rfl ?_ (fun w Jr=>kg (s:=⟨true,r.e,0,true,av.rz⟩) Jr.2 0);refine aC 3 rfl fun K hK=>?_
  refine vW (t2:=y) aj 2 ?_;clear aj;intro w6 aj;simp only[lS] at aj;have hs:=(⟨zH (aj.out.aA 1),zH (aj.out.aI 4)⟩:_∧_);refine bk hK hs fun ah=>?_
  clear hK K;refine aC 4 rfl fun K hK=>?_
  refine bM (q:=av.rz) aj 3 ?_;clear aj;intro w7 aj;simp only[lS] at aj;have hs:=(⟨zH (aj.out.aA 1),zH (aj.out.aI 4)⟩:_∧_);refine bk hK hs fun ah=>?_
  clear hK K;refine bW ?_
  all_goals
   have HK:=aj;clear aj ah;rw[← Lx.out] at HK;go_wp2_with fail;exact Xe
end
section
theorem Ll(G:World→Prop)(n:Int)(A:Option Addr)(k cp:Nat)(t:aH.T)(lo:List Oh)(r:Rf)(w:World)(hG:∀W,G W→bY W A k cp lo)(hs:bY w A k cp lo)(hf:aH.Fit t)(hc:0≤r.c∧r.c<5)(hr:r.r≤9223372036854775807)
  (hP:(t.get r.c).live=true→(t.get r.c).dn=false→((Ap.dX ⟨n,vs lo,t⟩ r.c).t.get r.c).p=av.err 14) :
  Calls prog 64 #[.agg (stA n A k cp t),.agg #[.int .i64 r.c,.int .i64 r.e,.int .i64 r.r]] w (dB G (Ap.jN ⟨n,vs lo,t⟩ r) (Ap.nK ⟨n,vs lo,t⟩ r) w):=by
 have zi:Hid (∀W,Below w.heap.size w W→(t.get r.c).live=true→Calls prog 62 #[.agg (stA n A k cp t),.int .i64 r.c] W (dB (fun _=>True) (Ap.dX ⟨n,vs lo,t⟩ r.c) (Ap.eZ ⟨n,vs lo,t⟩ r.c) W)):=zH (fun W hW hl=>yg n A k cp t lo r.c W (hs.later hW) hf hc (hP hl));have iA:=zH hG
 have mJ:Hid (aH.Fit (Ap.left ⟨n,vs lo,t⟩ r.c).t):=zH (by
  unfold Ap.left
  split
  ·exact Ap.sW (fun y hy=>Ap.tY (mo) y hy) (aH.qg hf r.c)
  ·exact hf)
 have tH:=zH (Ap.nO ⟨n,vs lo,t⟩ r.c (lF _ _));have Jl:=zH (fun p W=>jX r p W);have Ze:=zH oG;have Eh:=zH (fun W=>Oy (Ap.left ⟨n,vs lo,t⟩ r.c).t r W mJ.out hr);have HK:=kX w 33 (stA n A k cp t) 35 #[.int .i64 r.c,.int .i64 r.e,.int .i64 r.r];have Jt:=zH (fun W (hW:Below w.heap.size w W)=>hs.later hW);unfold dB at zi;unfold Ls at Eh;unfold Ap.jN Ap.nK;have WX:Hid ((t.get r.c).live=true→Ap.left ⟨n,vs lo,t⟩ r.c=Ap.dX ⟨n,vs lo,t⟩ r.c∧(if (t.get r.c).live=true then Ap.eZ ⟨n,vs lo,t⟩ r.c else [])=Ap.eZ ⟨n,vs lo,t⟩ r.c):=zH fun h=>⟨if_pos h,if_pos h⟩
 have HL2:Hid ((t.get r.c).live=false→Ap.left ⟨n,vs lo,t⟩ r.c=⟨n,vs lo,t⟩∧(if (t.get r.c).live=true then Ap.eZ ⟨n,vs lo,t⟩ r.c else [])=[]):=zH fun h=>⟨if_neg (by rw[h];decide),if_neg (by rw[h];decide)⟩
 have HO9:Hid ((if (t.get r.c).live=true then Ap.eZ ⟨n,vs lo,t⟩ r.c else []).length≤9):=zH (by
  split
  ·exact tH.out
  ·exact Nat.zero_le 9)
 dsimp only;obtain⟨lv,hlv⟩:∃b,(t.get r.c).live=b:=⟨_,rfl⟩;have HV:=zH hlv;generalize (if (t.get r.c).live=true then Ap.eZ ⟨n,vs lo,t⟩ r.c else [])=os2 at *
 generalize Ap.left ⟨n,vs lo,t⟩ r.c=s2 at *
 generalize Ap.eZ ⟨n,vs lo,t⟩ r.c=os1 at *
 generalize Ap.dX ⟨n,vs lo,t⟩ r.c=s1 at *
 obtain⟨n2,l2,t2⟩:=s2;dsimp only at *
 rw[hlv] at WX HL2 zi;clear hs hG hf hr hP mJ tH hlv;generalize aH.jB t2 r=t9 at *
 generalize aH.oH t2 r=p9 at *
 go_enter func64,ntmps64;go_upto_if 15 with (first|(refine aU HK ?_;clear HK;intro _ g1 HK;simp only[aO,aJ] at HK)|(refine fE aR HK ?_;clear HK;intro _ g9 HK;simp only[aJ] at HK)|refine zX (iY (x:=r) HK 1) ?_|refine zX (dV hc) ?_|refine zX ((Ue HK 0 hc).trans (by rw[HV.out])) ?_)
 try simp only[Eb,Ea,DZ,DY,DX]
 go_cut [6] (fun v wx=>∃(A2:Option Addr) (k2 c2:Nat) (lo2:List Oh) (O2:Option Addr) (m2 d2:Nat) (R2:List dA),v=.slice O2 m2 d2∧Hid (vs lo2=l2)∧Hid (os2.length=m2)∧Hid (Kn w.heap.size w wx [(w.heap.size,33,stA n2 A2 k2 c2 t2),(w.heap.size+1,35,#[.int .i64 r.c,.int .i64 r.e,.int .i64 r.r]),(g1,33,stA 0 none 0 0 tz)] R2)∧Hid (∀(b:Nat) (W0 W:World) L R,Kn b W0 W L R→(∀z∈R2,z∈R)→(G W∨Below w.heap.size w W)→bY W A2 k2 c2 lo2∧bJ aR tF W O2 m2 d2 os2))
 case first=>
  clear Eh Jl Ze HO9
  cases lv with
  | true=>
   obtain⟨e1,e2⟩:=WX.out rfl;subst e2;subst e1;clear WX HL2 iA Jt;go_wp2_with (first|refine zX (iY (x:=r) HK 1) ?_|refine zX (iB HK 0) ?_);refine(zi.out _ HK.out.b trivial).mono ?_;rintro e w1 ⟨A2,k2,c2,lo2,O2,m2,d2,R2,rfl,mE,q2,HI2⟩;replace HK:=zH ((HK.out.ay 0).join q2);clear q2 zi;simp only[List.take_zero,aJ] at HK;have gT:Hid (os2.length=m2):=zH (HI2.out _ _ _ _ _ HK.out (fun z hz=>hz) trivial).2.len;go_wp2_with (refine bA HK 0 ?_;clear HK;intro _ HK;simp only[lS] at HK);go_meet;exact⟨A2,k2,c2,lo2,O2,m2,d2,R2,rfl,mE,gT,HK,zH fun b W0 W L R K hm _=>HI2.out b W0 W L R K hm trivial⟩
  | false=>
   obtain⟨e1,e2⟩:=HL2.out rfl;injection e1 with e1 e3 e4;subst e1 e2 e3 e4;clear WX HL2 zi;go_wp2_with fail;go_meet;exact⟨A,k,cp,lo,_,0,_,_,rfl,zH rfl,zH rfl,HK,zH fun b W0 W L R K hm hg=>⟨hg.elim (iA.out W) (Jt.out W),bJ.own (K.mem (hm _ (List.mem_cons_self ..))) (eu (h:=(Nat.zero_le 1000)))⟩⟩
 case rest=>
 clear HK WX HL2 zi iA Jt HV;obtain⟨A2,k2,c2,lo2,O2,m2,d2,R2,rfl,mE,gT,HK,HI2⟩:=hcut;have tJ:Hid (m2≤9):=zH (by rw[← gT.out];exact HO9.out);go_wp2_with (first|refine zX (eU HK 0) ?_|refine zX (aB HK 1) ?_);refine cb (Eh.out _) HK ?_;clear HK;intro _ HK;go_upto_region 6 with (first|(refine bP HK ?_;clear HK;intro _ g7 HK;simp only[aO,aJ] at HK)|(refine bQ HK ?_;clear HK;intro _ g8 HK;simp only[aO,aJ] at HK)|(refine bC (t2:=t9) HK 3 ?_;clear HK;intro _ HK;simp only[lS] at HK)|(refine bf (q:=p9) HK 4 ?_;clear HK;intro _ HK;simp only[lS] at HK)|refine zX (jV HK 3) ?_|(refine dD (u:=t9) HK 0 ?_;clear HK;intro _ HK;simp only[lS] at HK));have aj:=zH HK.out.drew;clear HK Eh HO9;refine wp_region_held_drew (S:=(fun W=>Hid (Kn w.heap.size w W [(w.heap.size,33,stA n2 A2 k2 c2 t9),(w.heap.size+1,35,#[.int .i64 r.c,.int .i64 r.e,.int .i64 r.r])] [])∧Hid (Kn w.heap.size w W [(g8,28,cB p9)] []))) (by kernel_rfl) ?_ fun ah=>?_
 ·(try dsimp only);exact And.intro (zH ((aj.out.aA 2).ay 0)) (zH (((aj.out.aI 4).aA 1).ay 0))
 refine ak 0 rfl ?_ fun _ s=>iB s.1 0
 refine ak 1 rfl ?_ fun _ s=>aB s.1 1
 refine ak 2 rfl ?_ fun _ s=>xC s.2 0
 refine ak 4 rfl ?_;refine aC 3 rfl fun K hK=>?_
 go_simp;go_at_call 27;refine(Jl.out p9 _).mono ?_;rintro e w5 hq;obtain⟨A5,c5,rfl,o5,b5⟩:=hq.one;replace aj:=zH (aj.out.called b5 o5).lC;clear o5 b5;have hs:=And.intro (zH ((aj.out.aA 2).ay 0)) (zH (((aj.out.aI 4).aA 1).ay 0));refine bk hK hs fun ah=>?_
 clear hK K;refine aC 5 rfl fun K hK=>?_
 refine tT aR EJ aj ?_;clear aj;intro w6 g10 aj _;simp only[aO,aJ] at aj;have hs:=And.intro (zH ((aj.out.aA 2).ay 0)) (zH (((aj.out.aI 4).aA 1).ay 0));refine bk hK hs fun ah=>?_
 clear hK K;refine aC 6 rfl fun K hK=>?_
 go_simp;go_at_call 121;refine(Ze.out.two aj 5 rfl (bJ.own (aj.out.own 0 rfl) (eu)) (HI2.out _ _ _ _ _ aj.out (fun z hz=>List.mem_cons_of_mem _ hz) (.inr aj.out.b)).2 (by have:=tJ.out;show(1+m2)*72≤_;omega)).mono ?_;rintro e w7 ⟨A9,n9,c9,rfl,o9,b9⟩;replace aj:=zH (aj.out.called b9 o9).lC;clear o9 b9;have hs:=And.intro (zH ((aj.out.aA 2).ay 0)) (zH (((aj.out.aI 4).aA 1).ay 0));refine bk hK hs fun ah=>?_
 clear hK K;refine aC 7 rfl fun K hK=>?_
 refine bZ aj 2 ?_;clear aj;intro w8 aj;simp only[lS] at aj;have hs:=And.intro (zH ((aj.out.aA 2).ay 0)) (zH (((aj.out.aI 4).aA 1).ay 0));refine bk hK hs fun ah=>?_
 clear hK K;refine ak 8 rfl ?_;refine bW ?_
 all_goals
  have HK:=aj;clear aj ah;go_wp2_with fail;refine dQ results64 (HK.out.blk 2 rfl) ?_;unfold dB;exact⟨A2,k2,c2,lo2,A9,_,c9,_,rfl,mE,HK.out.aA 0,zH fun b W0 W L R K hm hg=>⟨(HI2.out b W0 W L R K (fun z hz=>hm z (List.mem_cons_of_mem _ (List.mem_cons_of_mem _ hz))) (.inl hg)).1,bJ.own (K.mem (hm _ (List.mem_cons_self ..))) (eu (h:=(by show os2.length+1≤1000;rw[gT.out];have:=tJ.out;omega)))⟩⟩
end
section
theorem Qy(G:World→Prop)(n:Int)(A:Option Addr)(k cp:Nat)(t:aH.T)(lo:List Oh)(r:Rf)(w:World)(hs:bY w A k cp lo)(hf:aH.Fit t)(hc:0≤r.c∧r.c<5)
  (hP:((aH.fP t r av.rz).get r.c).dn=true) :
  Calls prog 67 #[.agg (stA n A k cp t),.agg #[.int .i64 r.c,.int .i64 r.e,.int .i64 r.r]] w (dB G (Ap.dX ⟨n,vs lo,aH.fP t r av.rz⟩ r.c) ([⟨r,av.rz⟩]++Ap.eZ ⟨n,vs lo,aH.fP t r av.rz⟩ r.c) w):=by
 have hft:=aH.mM hf r (x:=av.rz) (by decide);have zi:=zH (fun W (hW:Below w.heap.size w W)=>yg n A k cp _ lo r.c W (hs.later hW) hft hc (fun h=>by rw[hP] at h;cases h));have tH:=zH (Ap.nO ⟨n,vs lo,aH.fP t r av.rz⟩ r.c (lF _ _));have uH:=zH (fun(O:Option Addr) (d:Nat) W (h:bJ aR tF W O 1 d [⟨r,av.rz⟩])=>qQ n A k cp t O 1 d [⟨r,av.rz⟩] W hf h (fun y hy=>by rw[List.mem_singleton.1 hy];show(0:Nat)<_;decide));have Jl:=zH (fun W=>jX r av.rz W);have Ze:=zH oG;have HK:=kX w 33 (stA n A k cp t) 35 #[.int .i64 r.c,.int .i64 r.e,.int .i64 r.r];have e9:Ap.ends t (Ap.dP [⟨r,av.rz⟩])=aH.fP t r av.rz:=rfl;rw[e9] at uH;unfold dB at zi;clear hs hf hP hft e9;generalize aH.fP t r av.rz=t2 at *
 generalize Ap.eZ ⟨n,vs lo,t2⟩ r.c=os at *
 generalize Ap.dX ⟨n,vs lo,t2⟩ r.c=s2 at *
 obtain⟨n3,l3,t3⟩:=s2;dsimp only at *
 go_enter func67,ntmps67;go_upto_region 1 with (refine aU HK ?_;clear HK;intro _ g1 HK;simp only[aO,aJ] at HK);have aj:=zH HK.out.drew;clear HK;refine wp_region_held_drew (S:=(fun W=>Hid (Kn w.heap.size w W [(w.heap.size+1,35,#[.int .i64 r.c,.int .i64 r.e,.int .i64 r.r])] []))) (by kernel_rfl) ?_ fun ah=>?_
 ·(try dsimp only);exact zH (((aj.out.aI 1).aA 1).ay 0)
 refine ak 1 rfl ?_ fun _ s=>aB s 0
 refine ak 2 rfl ?_ fun _ s=>fO
 refine jr 0 3 rfl rfl (fun K hK=>?_) fun K hK=>?_
 refine fK (iB aj 0) ?_;have hs:=ah;refine bk hK hs fun ah=>?_
 clear hK K;refine aC 3 rfl fun K hK=>?_
 go_simp;go_at_call 27;refine(Jl.out _).mono ?_;rintro e w5 hq;obtain⟨A5,c5,rfl,o5,b5⟩:=hq.one;replace aj:=zH (aj.out.called b5 o5);clear o5 b5;simp only[aJ] at aj;have hs:=zH (((aj.out.aI 1).aA 1).ay 0);refine bk hK hs fun ah=>?_
 clear hK K;refine aC 4 rfl fun K hK=>?_
 go_simp;go_at_call 66;refine(uH.out A5 c5 _ (bJ.own (aj.out.own 0 rfl) (eu))).mono ?_;rintro e w6 ⟨rfl,b6⟩;replace aj:=zH (aj.out.call b6);clear b6;have hs:=zH (((aj.out.aI 1).aA 1).ay 0);refine bk hK hs fun ah=>?_
 clear hK K;refine ak 5 rfl ?_;refine ak 6 rfl ?_;refine ak 7 rfl ?_;refine aC 8 rfl fun K hK=>?_
 refine bZ aj 0 ?_;clear aj;intro w8 aj;simp only[lS] at aj;have hs:=zH (((aj.out.aI 1).aA 1).ay 0);refine bk hK hs fun ah=>?_
 clear hK K;refine ak 9 rfl ?_;refine bW ?_
 rotate_left
 go_simp;go_at_call 27;refine(Jl.out _).mono ?_;rintro e w5 hq;obtain⟨A5,c5,rfl,o5,b5⟩:=hq.one;replace aj:=zH (aj.out.called b5 o5);clear o5 b5;simp only[aJ] at aj;have hs:=zH (((aj.out.aI 1).aA 1).ay 0);refine bk hK hs fun ah=>?_
 clear hK K;refine aC 0 rfl fun K hK=>?_
 refine fK (iB aj 0) ?_;have hs:=ah;refine bk hK hs fun ah=>?_
 clear hK K;refine aC 4 rfl fun K hK=>?_
 go_simp;go_at_call 66;refine(uH.out A5 c5 _ (bJ.own (aj.out.own 0 rfl) (eu))).mono ?_;rintro e w6 ⟨rfl,b6⟩;replace aj:=zH (aj.out.call b6);clear b6;have hs:=zH (((aj.out.aI 1).aA 1).ay 0);refine bk hK hs fun ah=>?_
 clear hK K;refine ak 5 rfl ?_;refine ak 6 rfl ?_;refine ak 7 rfl ?_;refine aC 8 rfl fun K hK=>?_
 refine bZ aj 0 ?_;clear aj;intro w8 aj;simp only[lS] at aj;have hs:=zH (((aj.out.aI 1).aA 1).ay 0);refine bk hK hs fun ah=>?_
 clear hK K;refine ak 9 rfl ?_;refine bW ?_
 rotate_left
 all_goals
  have HK:=aj;clear aj ah hs Jl uH;go_wp2_with (first|refine zX (iY (x:=r) HK 1) ?_|refine zX (iB HK 0) ?_);refine(zi.out _ HK.out.b).mono ?_;rintro e w9 ⟨A2,k2,c2,l2,O2,m2,d2,R2,rfl,mE,q2,HI2⟩;replace HK:=zH (HK.out.join q2);clear q2 zi;simp only[aO,aJ] at HK;have gT:Hid (os.length=m2):=zH (HI2.out _ _ _ _ _ HK.out (fun z hz=>List.mem_cons_of_mem _ hz) trivial).2.len;have tJ:Hid (m2≤9):=zH (by rw[← gT.out];exact tH.out);go_upto_region 3 with (refine bA HK 0 ?_;clear HK;intro _ HK;simp only[lS] at HK);have aj:=zH HK.out.drew;clear HK tH;refine zR ((aj.out.aA 1).ay 0) fun ah=>?_
  refine ak 0 rfl ?_ fun _ s=>iB s 0
  refine ak 1 rfl ?_;refine ak 2 rfl ?_;refine aC 3 rfl fun K hK=>?_
  refine tT aR EJ aj ?_;clear aj;intro w6 g10 aj _;simp only[aO,aJ] at aj;have hs:=zH ((aj.out.aA 1).ay 0);refine bk hK hs fun ah=>?_
  clear hK K;refine aC 4 rfl fun K hK=>?_
  go_simp;go_at_call 121;refine(Ze.out.two aj 3 rfl (bJ.own (aj.out.own 0 rfl) (eu)) (HI2.out _ _ _ _ _ aj.out (fun z hz=>List.mem_cons_of_mem _ hz) trivial).2 (by have:=tJ.out;show(1+m2)*72≤_;omega)).mono ?_;rintro e w7 ⟨A9,n9,c9,rfl,o9,b9⟩;replace aj:=zH (aj.out.called b9 o9).lC;clear o9 b9;have hs:=zH ((aj.out.aA 1).ay 0);refine bk hK hs fun ah=>?_
  clear hK K;refine aC 5 rfl fun K hK=>?_
  refine bZ aj 2 ?_;clear aj;intro w8 aj;simp only[lS] at aj;have hs:=zH ((aj.out.aA 1).ay 0);refine bk hK hs fun ah=>?_
  clear hK K;refine ak 6 rfl ?_;refine bW ?_
  all_goals
   have HK:=aj;clear aj ah;go_wp2_with fail;refine dQ results67 (HK.out.blk 2 rfl) ?_;unfold dB;exact⟨A2,k2,c2,l2,A9,_,c9,_,rfl,mE,HK.out.aA 0,zH fun b W0 W L R K hm hg=>⟨(HI2.out b W0 W L R K (fun z hz=>hm z (List.mem_cons_of_mem _ (List.mem_cons_of_mem _ hz))) trivial).1,bJ.own (K.mem (hm _ (List.mem_cons_self ..))) (eu (h:=(by show os.length+1≤1000;rw[gT.out];have:=tJ.out;omega)))⟩⟩
end
section
def Vk(c e r k:Int)(name key:ByteArray)(vk vn:Int)(vf:Nat)(vs:ByteArray)(ok on:Int)(of:Nat)(os:ByteArray)(n m:Int):Array Value:=
 #[.int .i64 c,.int .i64 e,.int .i64 r,.int .i64 k,.string name,.string key,.int .i64 vk,.int .i64 vn,.int .u64 (vf:Int),.string vs,.int .i64 ok,.int .i64 on,.int .u64 (of:Int),.string os,.int .i64 n,.int .i64 m]
def iN(e:aF.E):Array Value:=Vk e.c e.e e.r e.cmd.k e.cmd.name e.cmd.key e.cmd.val.k e.cmd.val.n e.cmd.val.f e.cmd.val.s e.cmd.old.k e.cmd.old.n e.cmd.old.f e.cmd.old.s e.cmd.n e.cmd.m
def evZ:aF.E:=⟨0,0,0,⟨0,⟨#[]⟩,⟨#[]⟩,⟨0,0,0,⟨#[]⟩⟩,⟨0,0,0,⟨#[]⟩⟩,0,0⟩⟩
theorem ET:(prog.info? 39).map (·.size)=some 16:=by kernel_rfl
theorem Ur:(prog.info? 35).map (·.size)=some 3:=by kernel_rfl
theorem UA:(prog.info? 37).map (·.size)=some 13:=by kernel_rfl
section
variable {b0:Nat}{w0 w:World}{L:List (Nat×TypeId×Array Value)}{R:List dA}{ops:Array Oper}{rest:List Oper}{o:Oper}{a:Act}{Q:Exit→Act→World→Prop}
variable {g:Nat}{t:TypeId}{c e r k:Int}{name key:ByteArray}{vk vn:Int}{vf:Nat}{vs:ByteArray}{ok on:Int}{of:Nat}{os:ByteArray}{n m:Int}
theorem aY(HK:Hid (Kn b0 w0 w L R))(i:Nat){x:Operand}(ho:o.op=.load 35 x:=by rfl)(hL:L[i]?=some (g,t,Vk c e r k name key vk vn vf vs ok on of os n m):=by rfl)(hx:a.eval x=.pointer (some ⟨g,0,none⟩):=by rfl):
  (execOp a.eval o).run prog w=.ok (.value (.agg #[.int .i64 c,.int .i64 e,.int .i64 r])) w:=
 dU HK x ho i hL hx #[.int .i64 c,.int .i64 e,.int .i64 r] (fun j hj=>by
  match j,hj with
  | 0,_|1,_|2,_=>rfl) underlying35 Ur
theorem mZ(HK:Hid (Kn b0 w0 w L R))(i:Nat){x:Operand}(ho:o.op=.load 37 x:=by rfl)(hL:L[i]?=some (g,t,Vk c e r k name key vk vn vf vs ok on of os n m):=by rfl)(hx:a.eval x=.pointer (some ⟨g,3,none⟩):=by rfl):
  (execOp a.eval o).run prog w=.ok (.value (.agg (cO k name key vk vn vf vs ok on of os n m))) w:=
 dU HK x ho i hL hx (cO k name key vk vn vf vs ok on of os n m) (fun j hj=>by
  match j,hj with
  | 0,_|1,_|2,_|3,_|4,_|5,_|6,_|7,_|8,_|9,_|10,_|11,_|12,_=>rfl) underlying37 UA
theorem gL(HK:Hid (Kn b0 w0 w L R))(i:Nat){x:Operand}(ho:o.op=.load 39 x:=by rfl)(hL:L[i]?=some (g,t,Vk c e r k name key vk vn vf vs ok on of os n m):=by rfl)(hx:a.eval x=.pointer (some ⟨g,0,none⟩):=by rfl):
  (execOp a.eval o).run prog w=.ok (.value (.agg (Vk c e r k name key vk vn vf vs ok on of os n m))) w:=
 dU HK x ho i hL hx (Vk c e r k name key vk vn vf vs ok on of os n m) (fun j _=>by rw[Nat.zero_add]) underlying39 ET
theorem Kn.ev(h:Kn b0 w0 w L R)(i:Nat)(hi:L[i]?=some (g,t,Vk c e r k name key vk vn vf vs ok on of os n m)):
  w.cell? ⟨g,0,none⟩=some (.int .i64 c)∧w.cell? ⟨g,1,none⟩=some (.int .i64 e)∧w.cell? ⟨g,2,none⟩=some (.int .i64 r)∧w.cell? ⟨g,3,none⟩=some (.int .i64 k)∧w.cell? ⟨g,4,none⟩=some (.string name)∧w.cell? ⟨g,5,none⟩=some (.string key)∧
  w.cell? ⟨g,14,none⟩=some (.int .i64 n)∧w.cell? ⟨g,15,none⟩=some (.int .i64 m):=
 ⟨h.cell i hi 0 rfl,h.cell i hi 1 rfl,h.cell i hi 2 rfl,h.cell i hi 3 rfl,h.cell i hi 4 rfl,h.cell i hi 5 rfl,h.cell i hi 14 rfl,h.cell i hi 15 rfl⟩
theorem JC(HK:Hid (Kn b0 w0 w L R))(i:Nat)(hgd:o.guard=none){p:Operand}{q:Operand}(ho:o.op=.store 39 p q){e1 e2:aF.E}(hL:L[i]?=some (g,t,iN e1))(hx:a.eval p=.pointer (some ⟨g,0,none⟩))(hy:a.eval q=.agg (iN e2))
  (h:∀w',Hid (Kn b0 w0 w' (L.set i (g,t,iN e2)) R)→Hid (w'.heap.size=w.heap.size)→wpList prog ops Q rest (a.put o.dst undef) w'):wpList prog ops Q (o::rest) a w:=
 jJ HK i hgd p q ho hL hx hy (by show 16≤16;decide) ET (h1:=(by simp[iN,Vk,Value.oneCell'])) fun w' h1 h2=>h w' (by
  have e:putCells (iN e1) 0 (iN e2).toList=iN e2:=by
   rw[dJ (vs:=(iN e2).toList) (cs:=iN e1),Array.toArray_toList]
  rw[e] at h1
  exact h1) h2
theorem FY(HK:Hid (Kn b0 w0 w L R))(hgd:o.guard=none)(ho:o.op=.alloc 39)
  (h:∀w' g,Hid (Kn b0 w0 w' (L++[(g,39,iN evZ)]) R)→wpList prog ops Q rest (a.put o.dst (.pointer (some ⟨g,0,none⟩))) w'):wpList prog ops Q (o::rest) a w:=
 wpList_plain hgd fun K hK=>by
  have h4:=h _ w.heap.size (zH (HK.out.alloc _ _));unfold Oper.wp execOp;simp only[ho];unfold iN Vk evZ at h4;go_simp;exact hK _ _ h4
end
end
section
theorem iZ{b0:Nat}{w0 w:World}{L:List (Nat×TypeId×Array Value)}{R:List dA}{o:Oper}{a:Act}{g:Nat}{e:aF.E}(HK:Hid (Kn b0 w0 w L R))(i:Nat){x:Operand}(ho:o.op=.load 3 x:=by rfl)(hL:L[i]?=some (g,39,iN e):=by rfl)(hx:a.eval x=.pointer (some ⟨g,3,none⟩):=by rfl):
  (execOp a.eval o).run prog w=.ok (.value (.int .i64 e.cmd.k)) w:=aV HK _ x ho i hL hx underlying3
theorem uN{b0:Nat}{w0 w:World}{L:List (Nat×TypeId×Array Value)}{R:List dA}{o:Oper}{a:Act}{g:Nat}{e:aF.E}(HK:Hid (Kn b0 w0 w L R))(i:Nat){x:Operand}(ho:o.op=.load 3 x:=by rfl)(hL:L[i]?=some (g,39,iN e):=by rfl)(hx:a.eval x=.pointer (some ⟨g,0,none⟩):=by rfl):
  (execOp a.eval o).run prog w=.ok (.value (.int .i64 e.c)) w:=aV HK _ x ho i hL hx underlying3
theorem pW{w:World}{A:Option Addr}{n c:Nat}{l:List Oh}(h:bY w A n c l):∀o∈vs l,Ap.WM o:=fun o ho=>by
 obtain⟨x,hx,e⟩:=List.mem_map.1 ho;have hi:=h.i x hx;rw[← e];exact⟨hi.p.fs,hi.v.fit.fs,hi.m.2.1,hi.m.2.2.1,hi.m.2.2.2⟩
end
section
def YO(n:Int)(D:av.Rs)(t:aH.T)(r:Rf):Ap.St:=if D.later=true then ⟨n,D.l,t⟩ else ⟨n,D.l,Ap.ends (aH.fP t r D.p) (Ap.dP D.outs)⟩
def YP(D:av.Rs)(r:Rf):List av.Ot:=if D.later=true then [] else ⟨r,D.p⟩::D.outs
theorem Qz(n:Int)(A:Option Addr)(k cp:Nat)(t:aH.T)(lo:List Oh)(e:aF.E)(w:World)(hs:bY w A k cp lo)(hf:aH.Fit t)(hv:e.cmd.val.f<18446744073709551616)(ho:e.cmd.old.f<18446744073709551616):
  Calls prog 68 #[.agg (stA n A k cp t),.agg (iN e)] w (dB (fun _=>True) (YO n (av.iC (vs lo) (Ap.ref e) e.cmd) t (Ap.ref e)) (YP (av.iC (vs lo) (Ap.ref e) e.cmd) (Ap.ref e)) w):=by
 have hfl:=Ap.uq (pW hs) (Ap.ref e) e.cmd;have HD:=zH (fun W (hW:Below w.heap.size w W)=>Xx A cp k lo (Ap.ref e) e.cmd W (hs.later hW) hv ho);have tH:=zH (Ap.Fh (vs lo) (Ap.ref e) e.cmd);have HK:=kX w 33 (stA n A k cp t) 39 (iN e);unfold adB at HD;unfold YO YP;generalize av.iC (vs lo) (Ap.ref e) e.cmd=D at *
 obtain⟨l9,p9,la9,os⟩:=D;dsimp only at *
 have uH:=zH (fun(A2:Option Addr) (n2 c2:Nat) (O:Option Addr) (m d:Nat) W (h:bJ aR tF W O m d ([⟨Ap.ref e,p9⟩]++os))=>qQ n A2 n2 c2 t O m d _ W hf h (fun y hy=>by
  rcases List.mem_append.1 hy with hy|hy
  ·rw[List.mem_singleton.1 hy];exact hfl.1
  ·exact hfl.2 y hy))
 have e9:Ap.ends t (Ap.dP ([⟨Ap.ref e,p9⟩]++os))=Ap.ends (aH.fP t (Ap.ref e) p9) (Ap.dP os):=rfl;rw[e9] at uH;have Jl:=zH (fun W=>jX (Ap.ref e) p9 W);have Ze:=zH oG;clear hs hf hv ho hfl e9;generalize Ap.ends (aH.fP t (Ap.ref e) p9) (Ap.dP os)=t2 at *
 cases la9 with
 | true=>
  rw[if_pos rfl,if_pos rfl];clear uH Jl Ze tH;go_enter func68,ntmps68;go_wp2_with (first|(refine aU HK ?_;clear HK;intro _ g1 HK;simp only[aO,aJ] at HK)|refine zX (jl HK 0) ?_|refine zX (aY HK 1) ?_|refine zX (mZ HK 1) ?_);refine(HD.out _ HK.out.b).mono ?_;rintro en w1 ⟨A2,k2,c2,lo2,O2,m2,d2,R2,rfl,v2,q2,i2⟩;have mE:=zH v2;have HI2:=zH i2;replace HK:=zH (HK.out.join q2);clear q2 v2 i2;simp only[aJ] at HK;go_wp2_with (first|(refine bQ HK ?_;clear HK;intro _ g9 HK;simp only[aO,aJ] at HK)|(refine bf (q:=p9) HK 3 ?_;clear HK;intro _ HK;simp only[lS] at HK)|(refine dF HK 0 ?_;clear HK;intro _ HK;simp only[lS] at HK)|refine zX (iB HK 0) ?_|(refine bA HK 2 ?_;clear HK;intro _ HK;simp only[lS] at HK));refine dQ results68 (HK.out.blk 2 rfl) ?_;unfold dB;exact⟨A2,k2,c2,lo2,none,0,0,_,rfl,mE,HK.out.aA 0,zH fun b W0 W L R K hm hg=>⟨(HI2.out b W0 W L R K hm).1,bJ.none W⟩⟩
 | false=>
  rw[if_neg (by decide),if_neg (by decide)];go_enter func68,ntmps68;go_wp2_with (first|(refine aU HK ?_;clear HK;intro _ g1 HK;simp only[aO,aJ] at HK)|refine zX (jl HK 0) ?_|refine zX (aY HK 1) ?_|refine zX (mZ HK 1) ?_);refine(HD.out _ HK.out.b).mono ?_;rintro en w1 ⟨A2,k2,c2,lo2,O2,m2,d2,R2,rfl,v2,q2,i2⟩;have mE:=zH v2;have HI2:=zH i2;replace HK:=zH (HK.out.join q2);clear q2 v2 i2 HD;simp only[aJ] at HK;have gT:Hid (os.length=m2):=zH (HI2.out _ _ _ _ _ HK.out (fun z hz=>hz)).2.len;have tJ:Hid (m2≤8):=zH (by rw[← gT.out];exact tH.out);go_upto_region 5 with (first|(refine bQ HK ?_;clear HK;intro _ g9 HK;simp only[aO,aJ] at HK)|(refine bf (q:=p9) HK 3 ?_;clear HK;intro _ HK;simp only[lS] at HK)|(refine dF HK 0 ?_;clear HK;intro _ HK;simp only[lS] at HK));have aj:=zH HK.out.drew;clear HK tH;refine wp_region_held_drew (S:=(fun W=>Hid (Kn w.heap.size w W [(w.heap.size,33,stA n A2 k2 c2 t),(w.heap.size+1,39,iN e)] [])∧Hid (Kn w.heap.size w W [(g9,28,cB p9)] []))) (by kernel_rfl) ?_ fun ah=>?_
  ·(try dsimp only);exact And.intro (zH ((aj.out.aA 2).ay 0)) (zH (((aj.out.aI 3).aA 1).ay 0))
  refine ak 0 rfl ?_ fun _ s=>iB s.1 0
  refine ak 1 rfl ?_;refine ak 2 rfl ?_ fun _ s=>aY s.1 1
  refine ak 3 rfl ?_ fun _ s=>xC s.2 0
  refine ak 5 rfl ?_;refine aC 4 rfl fun K hK=>?_
  go_simp;go_at_call 27;refine(Jl.out _).mono ?_;rintro en w5 hq;obtain⟨A5,c5,rfl,o5,b5⟩:=hq.one;replace aj:=zH (aj.out.called b5 o5).lC;clear o5 b5;have hs:=And.intro (zH ((aj.out.aA 2).ay 0)) (zH (((aj.out.aI 3).aA 1).ay 0));refine bk hK hs fun ah=>?_
  clear hK K;refine aC 6 rfl fun K hK=>?_
  refine tT aR EJ aj ?_;clear aj;intro w6 g10 aj _;simp only[aO,aJ] at aj;have hs:=And.intro (zH ((aj.out.aA 2).ay 0)) (zH (((aj.out.aI 3).aA 1).ay 0));refine bk hK hs fun ah=>?_
  clear hK K;refine aC 7 rfl fun K hK=>?_
  go_simp;go_at_call 121;refine(Ze.out.two aj 4 rfl (bJ.own (aj.out.own 0 rfl) (eu)) (HI2.out _ _ _ _ _ aj.out (fun z hz=>List.mem_cons_of_mem _ hz)).2 (by have:=tJ.out;show(1+m2)*72≤_;omega)).mono ?_;rintro en w7 ⟨A9,n9,c9,rfl,o9,b9⟩;replace aj:=zH (aj.out.called b9 o9).lC;clear o9 b9;have hs:=And.intro (zH ((aj.out.aA 2).ay 0)) (zH (((aj.out.aI 3).aA 1).ay 0));refine bk hK hs fun ah=>?_
  clear hK K;refine aC 8 rfl fun K hK=>?_
  go_simp;go_at_call 66;refine(uH.out A2 k2 c2 A9 n9 c9 _ (bJ.own (aj.out.own 0 rfl) (eu (h:=(by show os.length+1≤1000;rw[gT.out];have:=tJ.out;omega))))).mono ?_;rintro en w8 ⟨rfl,b8⟩;replace aj:=zH (aj.out.call b8);clear b8;have hs:=And.intro (zH ((aj.out.aA 2).ay 0)) (zH (((aj.out.aI 3).aA 1).ay 0));refine bk hK hs fun ah=>?_
  clear hK K;refine ak 9 rfl ?_;refine ak 10 rfl ?_;refine aC 11 rfl fun K hK=>?_
  refine bZ aj 2 ?_;clear aj;intro w9 aj;simp only[lS] at aj;have hs:=And.intro (zH ((aj.out.aA 2).ay 0)) (zH (((aj.out.aI 3).aA 1).ay 0));refine bk hK hs fun ah=>?_
  clear hK K;refine ak 12 rfl ?_;refine bW ?_
  all_goals
   have HK:=aj;clear aj ah;go_wp2_with fail;refine dQ results68 (HK.out.blk 2 rfl) ?_;unfold dB;exact⟨A2,k2,c2,lo2,A9,_,c9,_,rfl,mE,HK.out.aA 0,zH fun b W0 W L R K hm hg=>⟨(HI2.out b W0 W L R K (fun z hz=>hm z (List.mem_cons_of_mem _ (List.mem_cons_of_mem _ hz)))).1,bJ.own (K.mem (hm _ (List.mem_cons_self ..))) (eu (h:=(by show os.length+1≤1000;rw[gT.out];have:=tJ.out;omega)))⟩⟩
end
end Go.Proofs.YtieoeendnccafaaGreat
