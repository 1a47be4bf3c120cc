/- Whether a state may be, as the program's loops over objects and their requests ask it. No condition but those named. -/
import Derived.Test.YtieoeendnccafaaGreatNAU
set_option linter.unusedSimpArgs false
set_option linter.unusedVariables false
set_option maxRecDepth 100000
set_option maxHeartbeats 25600000
open Go.RowKit
namespace Go.Proofs.YtieoeendnccafaaGreat
open _root_.Go.Proofs.Tryz
section
theorem Sg(t:aH.T)(r:Rf)(w:World)(hf:aH.Fit t)(hr:r.r≤9223372036854775807):Calls prog 65 #[.agg (dR t),.agg #[.int .i64 r.c,.int .i64 r.e,.int .i64 r.r]] w (BR (aH.iq t r) w):=by
 have HL:=zH (fun W=>mR t r W hf hr);have HK:=kX w 31 (dR t) 35 #[.int .i64 r.c,.int .i64 r.e,.int .i64 r.r];have HY:=zH (fun h1 h2=>aH.NA (t:=t) (r:=r) h1 h2);have lJ:=zH (fun h=>aH.ND (t:=t) (r:=r) h);have fB:=zH (fun h=>aH.NC (t:=t) (r:=r) h);have HC:=zH (fun h=>aH.nN (t:=t) (r:=r) (k:=1) h (by decide));unfold BR;unfold gG at HL;clear hf hr;generalize aH.look t r=x at *
 generalize aH.iq t r=y at *
 generalize h1:decide (x=1)=b1 at *
 have H1:=zH h1;generalize h2:decide (r.r=0)=b2 at *
 have H2:=zH h2;clear h1 h2;cases b1
 case false=>
  have HX:=zH (lJ.out (by simp));go_enter func65,ntmps65;go_wp2_with (first|refine zX (jV HK 0) ?_|refine zX (aB HK 1) ?_|(refine bP HK ?_;clear HK;intro _ g1 HK;simp only[aO,aJ] at HK));refine cb (HL.out _) HK ?_;clear HK;intro _ HK;go_wp2_with (first|refine zX (aD (m:=x) (n:=1) H1.out) ?_|refine zX (jV HK 0) ?_|(refine bC (t2:=t) HK 2 ?_;clear HK;intro _ HK;simp only[lS] at HK));exact RA
 cases b2
 case true=>
  have HX:=zH (fB.out (by simp));go_enter func65,ntmps65;go_wp2_with (first|refine zX (jV HK 0) ?_|refine zX (aB HK 1) ?_|(refine bP HK ?_;clear HK;intro _ g1 HK;simp only[aO,aJ] at HK));refine cb (HL.out _) HK ?_;clear HK;intro _ HK;go_wp2_with (first|refine zX (aD (m:=x) (n:=1) H1.out) ?_|refine zX (bH (m:=r.r) (n:=0) (by rw[H2.out])) ?_|refine zX (yN (x:=r) HK 1) ?_|refine zX (jV HK 0) ?_|(refine bC (t2:=t) HK 2 ?_;clear HK;intro _ HK;simp only[lS] at HK));exact RA
 have hc:=HC.out (of_decide_eq_true H1.out);have HX:=zH (HY.out (by simp) (by simp));go_enter func65,ntmps65;go_wp2_with (first|refine zX (jV HK 0) ?_|refine zX (aB HK 1) ?_|(refine bP HK ?_;clear HK;intro _ g1 HK;simp only[aO,aJ] at HK));refine cb (HL.out _) HK ?_;clear HK;intro _ HK;go_wp2_with (first|refine zX (aD (m:=x) (n:=1) H1.out) ?_|refine zX (bH (m:=r.r) (n:=0) (by rw[H2.out])) ?_|refine zX (iY (x:=r) HK 1) ?_|refine zX (yN (x:=r) HK 1) ?_|refine zX (dO hc) ?_|(refine Jz (n:=r.r) HK 0 rfl hc rfl rfl rfl rfl ?_;clear HK;intro _ HK;simp only[lS] at HK)|(refine zY (d:=false) HK 0 rfl hc rfl rfl rfl rfl ?_;clear HK;intro _ HK;simp only[lS] at HK)|(refine zV (p:=av.rz) HK 0 rfl hc rfl rfl rfl rfl ?_;clear HK;intro _ HK;simp only[lS] at HK)|refine zX (fO) ?_|refine zX (jV HK 0) ?_|(refine bC  HK 2 ?_;clear HK;intro _ HK;simp only[lS] at HK))
 (try simp only[aH.bU hc,aH.set_set hc] at HK)
 (try dsimp only at HK)
 exact RA
theorem wh(t:aH.T)(r:Rf)(w:World)(hf:aH.Fit t)(hr:r.r≤9223372036854775807):Calls prog 75 #[.agg (dR t),.agg #[.int .i64 r.c,.int .i64 r.e,.int .i64 r.r]] w (BR (aH.iq t r) w):=by
 have HL:=zH (fun W=>xP t r W hf hr);have HK:=kX w 31 (dR t) 35 #[.int .i64 r.c,.int .i64 r.e,.int .i64 r.r];have HY:=zH (fun h1 h2=>aH.NA (t:=t) (r:=r) h1 h2);have lJ:=zH (fun h=>aH.ND (t:=t) (r:=r) h);have fB:=zH (fun h=>aH.NC (t:=t) (r:=r) h);have HC:=zH (fun h=>aH.nN (t:=t) (r:=r) (k:=1) h (by decide));unfold BR;unfold gG at HL;clear hf hr;generalize aH.look t r=x at *
 generalize aH.iq t r=y at *
 generalize h1:decide (x=1)=b1 at *
 have H1:=zH h1;generalize h2:decide (r.r=0)=b2 at *
 have H2:=zH h2;clear h1 h2;cases b1
 case false=>
  have HX:=zH (lJ.out (by simp));go_enter func75,ntmps75;go_wp2_with (first|refine zX (jV HK 0) ?_|refine zX (aB HK 1) ?_|(refine bP HK ?_;clear HK;intro _ g1 HK;simp only[aO,aJ] at HK));refine cb (HL.out _) HK ?_;clear HK;intro _ HK;go_wp2_with (first|refine zX (bH (m:=x) (n:=1) (by rw[H1.out])) ?_|refine zX (jV HK 0) ?_|(refine bC (t2:=t) HK 2 ?_;clear HK;intro _ HK;simp only[lS] at HK));exact RD
 cases b2
 case true=>
  have HX:=zH (fB.out (by simp));go_enter func75,ntmps75;go_wp2_with (first|refine zX (jV HK 0) ?_|refine zX (aB HK 1) ?_|(refine bP HK ?_;clear HK;intro _ g1 HK;simp only[aO,aJ] at HK));refine cb (HL.out _) HK ?_;clear HK;intro _ HK;go_wp2_with (first|refine zX (bH (m:=x) (n:=1) (by rw[H1.out])) ?_|refine zX (aD (m:=r.r) (n:=0) H2.out) ?_|refine zX (yN (x:=r) HK 1) ?_|refine zX (jV HK 0) ?_|(refine bC (t2:=t) HK 2 ?_;clear HK;intro _ HK;simp only[lS] at HK));exact RD
 have hc:=HC.out (of_decide_eq_true H1.out);have HX:=zH (HY.out (by simp) (by simp));go_enter func75,ntmps75;go_wp2_with (first|refine zX (jV HK 0) ?_|refine zX (aB HK 1) ?_|(refine bP HK ?_;clear HK;intro _ g1 HK;simp only[aO,aJ] at HK));refine cb (HL.out _) HK ?_;clear HK;intro _ HK;go_wp2_with (first|refine zX (bH (m:=x) (n:=1) (by rw[H1.out])) ?_|refine zX (aD (m:=r.r) (n:=0) H2.out) ?_|refine zX (iY (x:=r) HK 1) ?_|refine zX (yN (x:=r) HK 1) ?_|refine zX (dO hc) ?_|refine zX (Yj HK 0 hc) ?_|(refine bE HK ?_;clear HK;intro _ g2 HK;simp only[aO,aJ] at HK)|(refine bD (s:=aH.z) (u:=t.get r.c) HK 3 ?_;clear HK;intro _ HK;simp only[lS] at HK)|(refine JA (n:=r.r) HK 3 rfl rfl rfl rfl rfl ?_;clear HK;intro _ HK;simp only[lS] at HK)|(refine uV (d:=false) HK 3 ?_;clear HK;intro _ HK;simp only[lS] at HK)|(refine uU (p:=av.rz) HK 3 ?_;clear HK;intro _ HK;simp only[lS] at HK)|refine zX (fO) ?_|refine zX (ER HK 3) ?_|(refine iO  HK 0 hc ?_;clear HK;intro _ HK;simp only[lS] at HK)|refine zX (jV HK 0) ?_|(refine bC  HK 2 ?_;clear HK;intro _ HK;simp only[lS] at HK))
 (try simp only[aH.bU hc,aH.set_set hc] at HK)
 (try dsimp only at HK)
 exact RD
end
section
namespace Ap
def doS(s:St)(e:aF.E):St:=if e.cmd.k=1 then jN s (ref e) else gB s (ref e) e.cmd
def doO(s:St)(e:aF.E):List av.Ot:=if e.cmd.k=1 then nK s (ref e) else jE s (ref e) e.cmd
end Ap
theorem VT(G:World→Prop)(n:Int)(A:Option Addr)(k cp:Nat)(t:aH.T)(lo:List Oh)(e:aF.E)(w:World)(hG:∀W,G W→bY W A k cp lo)(hs:bY w A k cp lo)(hf:aH.Fit t)(hv:e.cmd.val.f<18446744073709551616)(ho:e.cmd.old.f<18446744073709551616)(hr:e.r≤9223372036854775807)(hc:0≤e.c∧e.c<5)
  (hP:e.cmd.k=1→(t.get e.c).live=true→(t.get e.c).dn=false→((Ap.dX ⟨n,vs lo,t⟩ e.c).t.get e.c).p=av.err 14)
  (hQ:e.cmd.k=2→((aH.fP (aH.iq t (Ap.ref e)) (Ap.ref e) av.rz).get e.c).dn=true) :
  Calls prog 26 #[.agg (stA n A k cp t),.agg (iN e)] w (dB G (Ap.doS ⟨n,vs lo,t⟩ e) (Ap.doO ⟨n,vs lo,t⟩ e) w):=by
 have hs2:∀W,Below w.heap.size w W→bY W A k cp lo:=fun W hW=>hs.later hW
 have HK:=kX w 33 (stA n A k cp t) 39 (iN e);unfold Ap.doS Ap.doO;by_cases h1:e.cmd.k=1
 case pos=>
  rw[if_pos h1,if_pos h1];have Eh:=zH (fun W (hW:Below w.heap.size w W)=>Ll (fun W=>G W∨Below w.heap.size w W) n A k cp t lo (Ap.ref e) W (fun W h=>h.elim (hG W) (hs2 W)) (hs2 W hW) hf hc hr (hP h1));unfold dB at Eh;have H1:Hid (decide (e.cmd.k=1)=true):=zH (decide_eq_true h1);clear hs hG hf hv ho hr hP hQ hs2 h1;generalize Ap.jN ⟨n,vs lo,t⟩ (Ap.ref e)=s2 at *
  generalize Ap.nK ⟨n,vs lo,t⟩ (Ap.ref e)=os at *
  obtain⟨n2,l2,t2⟩:=s2;dsimp only at *
  go_enter func26,ntmps26;go_wp2_with (first|(refine aU HK ?_;clear HK;intro _ g1 HK;simp only[aO,aJ] at HK)|refine zX (iZ (e:=e) HK 1) ?_|refine zX (aD (m:=e.cmd.k) (n:=1) H1.out) ?_|refine zX (iB HK 0) ?_|refine zX (aY HK 1) ?_);refine(Eh.out _ HK.out.b).mono ?_;rintro en w1 ⟨A2,k2,c2,lo2,O2,m2,d2,R2,rfl,mE,q2,HI2⟩;replace HI2:Hid (∀(b:Nat) (W0 W:World) L R,Kn b W0 W L R→(∀z∈R2,z∈R)→G W→bY W A2 k2 c2 lo2∧bJ aR tF W O2 m2 d2 os):=zH fun b W0 W L R K hm g=>HI2.out b W0 W L R K hm (.inl g)
  replace HK:=zH (HK.out.join q2);clear q2 Eh;exact abn
 case neg=>
 rw[if_neg h1,if_neg h1];have H1:Hid (decide (e.cmd.k=1)=false):=zH (decide_eq_false h1);have HB:=zH (fun W=>Sg t (Ap.ref e) W hf hr);unfold BR at HB;have hfb:=aH.lN hf (Ap.ref e);have hfa:Ap.gB ⟨n,vs lo,t⟩ (Ap.ref e) e.cmd=if e.cmd.k=3 then ⟨n,vs lo,aH.fP (aH.iq t (Ap.ref e)) (Ap.ref e) av.rz⟩ else if e.cmd.k=2 then Ap.dX ⟨n,vs lo,aH.fP (aH.iq t (Ap.ref e)) (Ap.ref e) av.rz⟩ e.c else YO n (av.iC (vs lo) (Ap.ref e) e.cmd) (aH.iq t (Ap.ref e)) (Ap.ref e):=rfl;have hfo:Ap.jE ⟨n,vs lo,t⟩ (Ap.ref e) e.cmd=if e.cmd.k=3 then [⟨Ap.ref e,av.rz⟩] else if e.cmd.k=2 then [⟨Ap.ref e,av.rz⟩]++Ap.eZ ⟨n,vs lo,aH.fP (aH.iq t (Ap.ref e)) (Ap.ref e) av.rz⟩ e.c else YP (av.iC (vs lo) (Ap.ref e) e.cmd) (Ap.ref e):=rfl;rw[hfa,hfo];clear hfa hfo;generalize aH.iq t (Ap.ref e)=t1 at *
 by_cases h3:e.cmd.k=3
 case pos=>
  rw[if_pos h3,if_pos h3];have H3:Hid (decide (e.cmd.k=3)=true):=zH (decide_eq_true h3);have Jl:=zH (fun W=>jX (Ap.ref e) av.rz W);have uH:=zH (fun(O:Option Addr) (d:Nat) W (h:bJ aR tF W O 1 d [⟨Ap.ref e,av.rz⟩])=>qQ n A k cp t1 O 1 d [⟨Ap.ref e,av.rz⟩] W hfb h (fun y hy=>by rw[List.mem_singleton.1 hy];show(0:Nat)<_;decide));have e9:Ap.ends t1 (Ap.dP [⟨Ap.ref e,av.rz⟩])=aH.fP t1 (Ap.ref e) av.rz:=rfl;have iA:=zH hG;rw[e9] at uH;clear hs hG hf hv ho hr hP hQ hs2 h1 h3 e9 hfb;generalize aH.fP t1 (Ap.ref e) av.rz=t2 at *
  go_enter func26,ntmps26;go_wp2_with (first|(refine aU HK ?_;clear HK;intro _ g1 HK;simp only[aO,aJ] at HK)|refine zX (iZ (e:=e) HK 1) ?_|refine zX (aD (m:=e.cmd.k) (n:=1) H1.out) ?_|refine zX (eU HK 0) ?_|refine zX (aY HK 1) ?_);refine cb (HB.out _) HK ?_;clear HK;intro _ HK;go_upto_region 6 with (first|(refine dD (u:=t1) HK 0 ?_;clear HK;intro _ HK;simp only[lS] at HK)|refine zX (iZ (e:=e) HK 1) ?_|refine zX (aD (m:=e.cmd.k) (n:=3) H3.out) ?_);have aj:=zH HK.out.drew;clear HK HB;refine wp_region_held_drew (S:=(fun W=>Hid (Kn w.heap.size w W [(w.heap.size+1,39,iN e)] [])∧Hid (Kn w.heap.size w W [(w.heap.size,33,stA n A k cp t1)] []))) (by kernel_rfl) ?_ fun ah=>?_
  ·(try dsimp only);exact And.intro (zH (((aj.out.aI 1).aA 1).ay 0)) (zH ((aj.out.aA 1).ay 0))
  refine ak 0 rfl ?_ fun _ s=>iB s.2 0
  refine ak 1 rfl ?_;refine ak 2 rfl ?_ fun _ s=>aY s.1 0
  refine ak 3 rfl ?_ fun _ s=>fO
  refine aC 4 rfl fun K hK=>?_
  go_simp;go_at_call 27;refine(Jl.out _).mono ?_;rintro en w5 hq;obtain⟨A5,c5,rfl,o5,b5⟩:=hq.one;replace aj:=zH (aj.out.called b5 o5);clear o5 b5;simp only[aJ] at aj;have hs:=And.intro (zH (((aj.out.aI 1).aA 1).ay 0)) (zH ((aj.out.aA 1).ay 0));refine bk hK hs fun ah=>?_
  clear hK K;refine aC 5 rfl fun K hK=>?_
  go_simp;go_at_call 66;refine(uH.out A5 c5 _ (bJ.own (aj.out.own 0 rfl) (eu))).mono ?_;rintro en w6 ⟨rfl,b6⟩;replace aj:=zH (aj.out.call b6);clear b6;have hs:=And.intro (zH (((aj.out.aI 1).aA 1).ay 0)) (zH ((aj.out.aA 1).ay 0));refine bk hK hs fun ah=>?_
  clear hK K;refine ak 6 rfl ?_;refine ak 7 rfl ?_;refine aC 8 rfl fun K hK=>?_
  refine bZ aj 2 ?_;clear aj;intro w8 aj;simp only[lS] at aj;have hs:=And.intro (zH (((aj.out.aI 1).aA 1).ay 0)) (zH ((aj.out.aA 1).ay 0));refine bk hK hs fun ah=>?_
  clear hK K;refine ak 9 rfl ?_;refine bW ?_
  all_goals
   have HK:=aj;clear aj ah;go_wp2_with fail;refine dQ results26 (HK.out.blk 2 rfl) ?_;unfold dB;exact⟨A,k,cp,lo,A5,1,c5,_,rfl,zH rfl,HK.out.aA 0,zH fun b W0 W L R K hm hg=>⟨iA.out W hg,bJ.own (K.mem (hm _ (List.mem_cons_self ..))) (eu)⟩⟩
 case neg=>
 rw[if_neg h3,if_neg h3];have H3:Hid (decide (e.cmd.k=3)=false):=zH (decide_eq_false h3);by_cases h2:e.cmd.k=2
 case pos=>
  rw[if_pos h2,if_pos h2];have H2:Hid (decide (e.cmd.k=2)=true):=zH (decide_eq_true h2);have HEd:=zH (fun W (hW:Below w.heap.size w W)=>Qy G n A k cp t1 lo (Ap.ref e) W (hs2 W hW) hfb hc (hQ h2));have er:(Ap.ref e).c=e.c:=rfl;rw[er] at HEd;unfold dB at HEd;clear hs hG hf hv ho hr hP hQ hs2 h1 h3 h2 er hfb;generalize Ap.dX ⟨n,vs lo,aH.fP t1 (Ap.ref e) av.rz⟩ e.c=s2 at *
  generalize[(⟨Ap.ref e,av.rz⟩:av.Ot)]++Ap.eZ ⟨n,vs lo,aH.fP t1 (Ap.ref e) av.rz⟩ e.c=os at *
  obtain⟨n2,l2,t2⟩:=s2;dsimp only at *
  go_enter func26,ntmps26;go_wp2_with (first|(refine aU HK ?_;clear HK;intro _ g1 HK;simp only[aO,aJ] at HK)|refine zX (iZ (e:=e) HK 1) ?_|refine zX (aD (m:=e.cmd.k) (n:=1) H1.out) ?_|refine zX (eU HK 0) ?_|refine zX (aY HK 1) ?_);refine cb (HB.out _) HK ?_;clear HK;intro _ HK;go_wp2_with (first|(refine dD (u:=t1) HK 0 ?_;clear HK;intro _ HK;simp only[lS] at HK)|refine zX (iZ (e:=e) HK 1) ?_|refine zX (aD (m:=e.cmd.k) (n:=3) H3.out) ?_|refine zX (aD (m:=e.cmd.k) (n:=2) H2.out) ?_|refine zX (iB HK 0) ?_|refine zX (aY HK 1) ?_);refine(HEd.out _ HK.out.b).mono ?_;rintro en w1 ⟨A2,k2,c2,lo2,O2,m2,d2,R2,rfl,mE,q2,HI2⟩;replace HK:=zH (HK.out.join q2);clear q2 HEd;exact abn
 case neg=>
 rw[if_neg h2,if_neg h2];have H2:Hid (decide (e.cmd.k=2)=false):=zH (decide_eq_false h2);have Ct:=zH (fun W (hW:Below w.heap.size w W)=>(Qz n A k cp t1 lo e W (hs2 W hW) hfb hv ho).mono (fun en w' h=>dB.mono h (fun W (_:G W)=>trivial)));unfold dB at Ct;clear hs hG hf hv ho hr hP hQ hs2 h1 h3 h2 hfb;generalize YO n (av.iC (vs lo) (Ap.ref e) e.cmd) t1 (Ap.ref e)=s2 at *
 generalize YP (av.iC (vs lo) (Ap.ref e) e.cmd) (Ap.ref e)=os at *
 obtain⟨n2,l2,t2⟩:=s2;dsimp only at *
 go_enter func26,ntmps26;go_wp2_with (first|(refine aU HK ?_;clear HK;intro _ g1 HK;simp only[aO,aJ] at HK)|refine zX (iZ (e:=e) HK 1) ?_|refine zX (aD (m:=e.cmd.k) (n:=1) H1.out) ?_|refine zX (eU HK 0) ?_|refine zX (aY HK 1) ?_);refine cb (HB.out _) HK ?_;clear HK;intro _ HK;go_wp2_with (first|(refine dD (u:=t1) HK 0 ?_;clear HK;intro _ HK;simp only[lS] at HK)|refine zX (iZ (e:=e) HK 1) ?_|refine zX (aD (m:=e.cmd.k) (n:=3) H3.out) ?_|refine zX (aD (m:=e.cmd.k) (n:=2) H2.out) ?_|refine zX (iB HK 0) ?_|refine zX (gL HK 1) ?_);refine(Ct.out _ HK.out.b).mono ?_;rintro en w1 ⟨A2,k2,c2,lo2,O2,m2,d2,R2,rfl,mE,q2,HI2⟩;replace HK:=zH (HK.out.join q2);clear q2 Ct;exact abn
end
section
theorem lG(A2:Option Addr)(c2 N:Nat)(src:List Oh)(w:World)(hs:bY w A2 N c2 src):
  Calls prog 22 #[.slice A2 N c2] w (BK (vs src) w):=by
 have HS:=zH hs;have mI:Hid (src.length=N):=zH hs.len;have HFs:Hid (Fits aP oF src):=zH hs.s.fit;have hnb:N*144≤140737488355328:=hs.s.big;have HI:Hid (∀x∈src,In w x):=zH hs.i;have HP:=zH yL;have HV:=zH yI;have HRf:=zH jA;have HK:=zH (Kn.start w);clear hs;go_enter func22,ntmps22;go_wp2_with (refine fE aP HK ?_;clear HK;intro _ g2 HK;simp only[aJ] at HK);go_loopw [3,9] (fun vl vi wr=>∃(k:Nat) (A1:Option Addr) (c1:Nat) (l1:List Oh),k≤N∧vl=.slice A1 k c1∧vi=.int .i64 k∧Hid (vs l1=vs (src.take k))∧Hid (l1.length=k)∧Hid (Kn w.heap.size w wr [] (row aP (.slice A1 k c1) l1::l1.flatMap gU))) (fun _ vi _=>N-(intOf vi).toNat)
 case atStart=>exact⟨0,_,_,[],Nat.zero_le _,rfl,rfl,zH rfl,zH rfl,HK⟩
 case round=>
  clear HK;obtain⟨k,A1,c1,l1,hk,rfl,rfl,HVs,HLen,HK⟩:=hrel;by_cases hlt:k<N
  ·obtain⟨x,hx⟩:=Lay.fI (l:=src) (k:=k) (by rw[mI.out];exact hlt)
   have hsl:bJ aP oF wr A2 N c2 src:=HS.out.s.later HK.out.b;obtain⟨b,o,rfl,hat⟩:=hsl.at (Nat.lt_of_le_of_lt (Nat.zero_le _) hlt);have HX:Hid (∀j v,(vR x)[j]?=some v→wr.cell? ⟨b,o+k*11+j,none⟩=some v):=zH (hat wr (Below.refl _ _) k x hx);have FM:=zH (HI.out x (List.mem_of_getElem? hx));have Ef:Hid (vs (src.take (k+1))=vs (src.take k)++[x.v]):=zH (by rw[Lay.take_succ hx];unfold vs;rw[List.map_append];rfl)
   have HL:Hid (l1.length+1≤9223372036854775807∧(l1.length+1)*aP.bytes≤211106232532992):=zH (by
    rw[HLen.out];refine⟨by omega,?_⟩
    show(k+1)*144≤_
    omega)
   have fB:Hid (∀y:Oh,(l1++[y]).length=k+1):=zH fun y=>by rw[List.length_append,HLen.out];rfl
   clear hsl hat hx;have hk1:(0:Int)≤(k:Int):=by omega
   have hk2:(k:Int)<(N:Int):=by omega
   go_wp2_with (first|(refine au (v:=.agg (bS x)) (eB (off:=o+k*11) HX.out) ?_)|(refine gY HK ?_;clear HK;intro _ g5 HK;simp only[aJ] at HK)|(refine fD HK 0 ?_;clear HK;intro _ HK;simp only[lS] at HK)|refine zX (mK HK 0) ?_|(refine dG bO Tt HK ?_;clear HK;intro w3 g6 HK _;simp only[aO,aJ] at HK));refine(HP.out.one HK 1 rfl (FM.out.p.later HK.out.b).sls).mono ?_;rintro e w4 ⟨A4,n4,c4,rfl,o4,b4⟩;replace HK:=zH (HK.out.called b4 o4);simp only[aO] at HK;clear o4 b4;go_wp2_with (first|(refine gI HK 0 x.v.dP ?_;clear HK;intro _ HK;simp only[lS] at HK)|refine zX (rM HK 0) ?_|(refine dG bg xI HK ?_;clear HK;intro w5 g7 HK _;simp only[aO,aJ] at HK));refine(HV.out.one HK 2 rfl (FM.out.v.later HK.out.b)).mono ?_;rintro e w6 ⟨A5,n5,c5,rfl,o5,b5⟩;replace HK:=zH (HK.out.called b5 o5);simp only[aO] at HK;clear o5 b5;go_wp2_with (first|(refine iP HK 0 x.v.vals ?_;clear HK;intro _ HK;simp only[lS] at HK)|refine zX (gK HK 0) ?_|(refine dG aG nD HK ?_;clear HK;intro w7 g8 HK _;simp only[aO,aJ] at HK));refine(HRf.out.one HK 3 rfl (FM.out.r.later HK.out.b)).mono ?_;rintro e w8 ⟨A6,n6,c6,rfl,o6,b6⟩;replace HK:=zH (HK.out.called b6 o6);simp only[aO] at HK;clear o6 b6;have vQ:Hid ((l1++[((x.sp A4 n4 c4 x.v.dP).sv A5 n5 c5 x.v.vals).sr A6 n6 c6 x.v.refs]).length=k+1):=zH (fB.out _);go_wp2_with (first|(refine cu HK 0 x.v.refs ?_;clear HK;intro _ HK;simp only[lS] at HK)|refine zX (jv HK 0) ?_|(refine dI aP (p:=((x.sp A4 n4 c4 x.v.dP).sv A5 n5 c5 x.v.vals).sr A6 n6 c6 x.v.refs) HK ?_;intro _ g9 dY;have HR:=zH (Kn.oJ dY.out).rd;simp only[aO] at dY;replace HK:=dY;clear dY)|(at_builtin;refine aX HK aP 0 [((x.sp A4 n4 c4 x.v.dP).sv A5 n5 c5 x.v.vals).sr A6 n6 c6 x.v.refs] rfl HR HL (N:=k+1) vQ ?_;clear HK;intro A7 c7 _ HK;simp only[lS] at HK));refine⟨⟨k+1,A7,c7,l1++[((x.sp A4 n4 c4 x.v.dP).sv A5 n5 c5 x.v.vals).sr A6 n6 c6 x.v.refs],by omega,rfl,by go_num,zH ?_,vQ,zH ?_⟩,by simp[intOf];omega⟩
   ·rw[Ef.out,← HVs.out]
    unfold vs;rw[List.map_append]
    rfl
   ·rw[vB]
    have h:=HK.out.aA 0;rw[← aO] at h;exact h.init
  ·obtain rfl:k=N:=by omega
   have HEq:Hid (vs l1=vs src):=zH (by rw[HVs.out,← mI.out,List.take_length])
   have yV:Hid (∀y∈vs l1,Fo y):=zH fun y hy=>by
    exact Zn
   go_wp2_with fail;go_ret;exact⟨A1,k,c1,l1,rfl,HEq.out,HK.out,HK.out.obs (List.mem_cons_self ..) (fun y hy=>List.mem_cons_of_mem _ hy) yV.out hnb⟩
end
section
def pJ(f:Int→Nat):Array Value:=#[.int .i64 (f 0),.int .i64 (f 1),.int .i64 (f 2),.int .i64 (f 3),.int .i64 (f 4)]
def WS:Int→Nat:=fun _=>0
def pcU(f:Int→Nat)(c:Int)(v:Nat):Int→Nat:=fun d=>if d=c then v else f d
theorem Uv:(prog.info? 76).map (fun i=>(i.zero,i.size,i.bytes))=some (some (Value.agg (pJ WS)),5,40):=by kernel_rfl
theorem ES:(prog.info? 76).map (·.size)=some 5:=by kernel_rfl
theorem afo{c:Int}(hc:0≤c∧c<5)(f:Int→Nat):(pJ f)[c.toNat]?=some (.int .i64 (f c)):=by
 rcases aH.gN hc with rfl|rfl|rfl|rfl|rfl<;>rfl
theorem ace{c:Int}(hc:0≤c∧c<5)(f:Int→Nat)(v:Nat):(pJ f).setIfInBounds c.toNat (.int .i64 v)=pJ (pcU f c v):=by
 rcases aH.gN hc with rfl|rfl|rfl|rfl|rfl<;>kernel_rfl
section
variable {b0:Nat}{w0 w:World}{L:List (Nat×TypeId×Array Value)}{R:List dA}{ops:Array Oper}{rest:List Oper}{o:Oper}{a:Act}{Q:Exit→Act→World→Prop}{K:Act→World→Prop}{E:Prop}{g:Nat}{f h2:Int→Nat}{c:Int}
theorem uY(HK:Hid (Kn b0 w0 w L R))
  (h:∀w' g,Hid (Kn b0 w0 w' (L++[(g,76,pJ WS)]) R)→wpList prog ops Q rest (a.put o.dst (.pointer (some ⟨g,0,none⟩))) w') (hgd:o.guard=none:=by rfl)(ho:o.op=.alloc 76:=by rfl):wpList prog ops Q (o::rest) a w:=
 wpList_plain hgd fun _ hK=>pX Uv HK ho fun w' g h1 _=>hK _ _ (h w' g h1)
theorem uW(HK:Hid (Kn b0 w0 w L R))(i:Nat){x:Operand}{y:Operand}
  (h:∀w',Hid (Kn b0 w0 w' (L.set i (g,76,pJ h2)) R)→wpList prog ops Q rest (a.put o.dst undef) w') (hgd:o.guard=none:=by rfl)(ho:o.op=.store 76 x y:=by rfl)(hL:L[i]?=some (g,76,pJ f):=by rfl)(hx:a.eval x=.pointer (some ⟨g,0,none⟩):=by rfl)(hy:a.eval y=.agg (pJ h2):=by rfl):wpList prog ops Q (o::rest) a w:=
 wpList_plain hgd fun _ hK=>kM HK x y ho i hL hx hy (by show 5≤5;decide) ES (by simp[pJ,Value.oneCell']) fun w' h1 _=>hK _ _ (h w' (by
  have e:putCells (pJ f) 0 (pJ h2).toList=pJ h2:=by rw[dJ (vs:=(pJ h2).toList) (cs:=pJ f),Array.toArray_toList]
  rw[e] at h1
  exact h1))
theorem Aa(HK:Hid (Kn b0 w0 w L R))(i:Nat)(hgd:o.guard=none)(hc:0≤c∧c<5){v:Nat}{x:Operand}{y:Operand}(ho:o.op=.store 3 x y)(hL:L[i]?=some (g,76,pJ f))(hx:a.eval x=.pointer (some ⟨g,c.toNat,none⟩))(hy:a.eval y=.int .i64 v)
  (h:∀w',Hid (Kn b0 w0 w' (L.set i (g,76,pJ (pcU f c v))) R)→wpList prog ops Q rest (a.put o.dst undef) w'):wpList prog ops Q (o::rest) a w:=
 wpList_plain hgd fun _ hK=>nP HK x y ho i hL hx hy (by show c.toNat<5;omega) fun w' h1 _=>hK _ _ (h w' (by rw[ace hc] at h1;exact h1))
theorem kpc(HK:Hid (Kn b0 w0 w L R))(i:Nat){x:Operand}(ho:o.op=.load 76 x:=by rfl)(hL:L[i]?=some (g,76,pJ f):=by rfl)(hx:a.eval x=.pointer (some ⟨g,0,none⟩):=by rfl):
  (execOp a.eval o).run prog w=.ok (.value (.agg (pJ f))) w:=
 jC HK x ho i hL hx (pJ f) (fun j _=>by rw[Nat.zero_add]) underlying76 ES
theorem aht(HK:Hid (Kn b0 w0 w L R))(i:Nat)(hc:0≤c∧c<5){x:Operand}(ho:o.op=.load 3 x)(hL:L[i]?=some (g,76,pJ f))(hx:a.eval x=.pointer (some ⟨g,c.toNat,none⟩)):
  (execOp a.eval o).run prog w=.ok (.value (.int .i64 (f c))) w:=
 aV HK _ x ho i hL hx (hv:=(afo hc f)) underlying3
theorem Iu(hc:0≤c∧c<5){x:Operand}{y:Operand}(ho:o.op=.indexAddr 76 x y:=by rfl)(hx:a.eval x=.pointer (some ⟨g,0,none⟩):=by rfl)(hy:a.eval y=.int .i64 c:=by rfl):
  (execOp a.eval o).run prog w=.ok (.value (.pointer (some ⟨g,c.toNat,none⟩))) w:=by
 have h:(Instr.indexAt 76 (.pointer (some ⟨g,0,none⟩)) (.int .i64 c)).run prog w=.ok (.pointer (some ⟨g,c.toNat,none⟩)) w:=by
  rcases aH.gN hc with rfl|rfl|rfl|rfl|rfl<;>kernel_rfl
 exact Xa
theorem Iw(ho:o.op=.build 76 #[]:=by rfl):(execOp a.eval o).run prog w=.ok (.value (.agg (pJ WS))) w:=by
 have h:(Instr.build 76 #[]).run prog w=.ok (.agg (pJ WS)) w:=by kernel_rfl
 exact abf
theorem VI:prog.cellsOf 3=1:=by kernel_rfl
theorem Mq(f:Int→Nat)(w:World):(part 3 (pJ f) (0*1)).run prog w=.ok (.int .i64 (f 0)) w∧(part 3 (pJ f) (1*1)).run prog w=.ok (.int .i64 (f 1)) w∧(part 3 (pJ f) (2*1)).run prog w=.ok (.int .i64 (f 2)) w∧(part 3 (pJ f) (3*1)).run prog w=.ok (.int .i64 (f 3)) w∧(part 3 (pJ f) (4*1)).run prog w=.ok (.int .i64 (f 4)) w:=by
 refine⟨?_,?_,?_,?_,?_⟩<;>kernel_rfl
theorem tX(m n:Nat)(w:World):(Op.equalIn 9999 3 (.int .i64 m) (.int .i64 n)).run prog w=.ok (decide (m=n)) w:=by
 have e:decide (m=n)=decide ((m:Int)=(n:Int)):=decide_eq_decide.2 ⟨fun h=>by rw[h],fun h=>by omega⟩;rw[e];go_simp;rw[Bool.eq_iff_iff];simp
theorem Sk(f h:Int→Nat)(w:World):(Op.equalIn 10000 76 (.agg (pJ f)) (.agg (pJ h))).run prog w=.ok (decide (∀c∈([0,1,2,3,4]:List Int),f c=h c)) w:=by
 obtain⟨i,hi⟩:∃i,prog.info? 3=some i:=Option.isSome_iff_exists.1 (by kernel_rfl);obtain⟨a0,a1,a2,a3,a4⟩:=Mq f w;obtain⟨b0,b1,b2,b3,b4⟩:=Mq h w
 have e:decide (∀c∈([0,1,2,3,4]:List Int),f c=h c)=(decide (f 0=h 0)&&(decide (f 1=h 1)&&(decide (f 2=h 2)&&(decide (f 3=h 3)&&decide (f 4=h 4))))):=by
  rw[Bool.eq_iff_iff];simp
 rw[e,run_equalIn_array w 9999 _ _ underlying76 hi,VI];simp only[List.range,List.range.loop,Op.eqItems,Sem.run_bind,a0,a1,a2,a3,a4,b0,b1,b2,b3,b4,tX,Result.andThen_ok];by_cases e0:f 0=h 0
 case neg=>rw[decide_eq_false e0];rfl
 rw[decide_eq_true e0];by_cases e1:f 1=h 1
 case neg=>simp only[decide_eq_false e1,Sem.run_bind,Sem.run_pure,a1,a2,a3,a4,b1,b2,b3,b4,tX,Result.andThen_ok,Bool.not_true,Bool.not_false,Bool.false_eq_true,if_true,if_false,Bool.true_and,Bool.false_and,Bool.and_true,reduceIte]
 by_cases e2:f 2=h 2
 case neg=>simp only[decide_eq_false e2,Sem.run_bind,Sem.run_pure,a1,a2,a3,a4,b1,b2,b3,b4,tX,Result.andThen_ok,Bool.not_true,Bool.not_false,Bool.false_eq_true,if_true,if_false,Bool.true_and,Bool.false_and,Bool.and_true,reduceIte,decide_eq_true e1]
 by_cases e3:f 3=h 3
 case neg=>simp only[decide_eq_false e3,Sem.run_bind,Sem.run_pure,a1,a2,a3,a4,b1,b2,b3,b4,tX,Result.andThen_ok,Bool.not_true,Bool.not_false,Bool.false_eq_true,if_true,if_false,Bool.true_and,Bool.false_and,Bool.and_true,reduceIte,decide_eq_true e1,decide_eq_true e2]
 by_cases e4:f 4=h 4
 case neg=>simp only[decide_eq_false e4,Sem.run_bind,Sem.run_pure,a1,a2,a3,a4,b1,b2,b3,b4,tX,Result.andThen_ok,Bool.not_true,Bool.not_false,Bool.false_eq_true,if_true,if_false,Bool.true_and,Bool.false_and,Bool.and_true,reduceIte,decide_eq_true e1,decide_eq_true e2,decide_eq_true e3]
 simp only[decide_eq_true e1,decide_eq_true e2,decide_eq_true e3,decide_eq_true e4,Sem.run_bind,Sem.run_pure,a1,a2,a3,a4,b1,b2,b3,b4,tX,Result.andThen_ok,Bool.not_true,Bool.not_false,Bool.false_eq_true,if_true,if_false,Bool.true_and,Bool.false_and,Bool.and_true,reduceIte]
theorem Vd{b:Bool}{x:Operand}{y:Operand}(ho:o.op=.binOp .eql 76 x y 76)(hx:a.eval x=.agg (pJ f))(hy:a.eval y=.agg (pJ h2))(hb:decide (∀c∈([0,1,2,3,4]:List Int),f c=h2 c)=b):
  (execOp a.eval o).run prog w=.ok (.value (.bool b)) w:=by
 have h:=Sk f h2 w;rw[hb] at h;exact Ei
end
section
variable {fn:Func}{R:Ending→World→Prop}{a:Act}{w:World}{B:Nat}{f:Int→Nat}{q:Tmp}
theorem abK(hf:fn.results=#[.cell q 76])(h2:a.tmps[q]?=some (.pointer (some ⟨B,0,none⟩)))(hd:a.defers=[])(hb:gD w B 76 (pJ f))
  (hR:R (.returned (.agg (pJ f))) w):bodyPost prog fn R Exit.ret a w:=
 bodyPost_ret (results_cell_row hf a.tmps w B _ _ (0,0) _ (by simp[h2]) hb underlying76 rfl ES) hd hR
def adw(f:Int→Nat)(w:World)(e:Ending)(w':World):Prop:=e=.returned (.agg (pJ f))∧Below w.heap.size w w'
end
end
section
namespace Ap
open av aH
def kW(t:T)(o:Ob)(j:Nat)(r:Rf):Prop:=if j=0∧o.kind=3 then (Hd t r∧¬(r.r=(t.get r.c).rq∧(t.get r.c).dn=false)) else aH.look t r=3
instance (t:T) (o:Ob) (j:Nat) (r:Rf):Decidable (kW t o j r):=by unfold kW;infer_instance
def Known(l:List Ob)(t:T):Prop:=(∀r∈W l,aH.look t r=3)∧∀r∈H l,Hd t r∧¬(r.r=(t.get r.c).rq∧(t.get r.c).dn=false)
instance (l:List Ob) (t:T):Decidable (Known l t):=by unfold Known;infer_instance
theorem yh(t:T)(o:Ob):(∀(j:Nat) r,o.refs[j]?=some r→kW t o j r)↔((∀r∈kE o,aH.look t r=3)∧∀r∈hld o,Hd t r∧¬(r.r=(t.get r.c).rq∧(t.get r.c).dn=false)):=by
 unfold kE hld;by_cases h3:o.kind=3
 ·rw[if_pos h3,if_pos h3]
  constructor
  ·intro h
   refine⟨fun r hr=>?_,fun r hr=>?_⟩
   ·obtain⟨j,hj⟩:=List.mem_iff_getElem?.1 hr
    rw[List.getElem?_drop] at hj;have:=h (1+j) r hj;unfold kW at this
    rwa [if_neg (by omega)] at this
   ·obtain⟨j,hj⟩:=List.mem_iff_getElem?.1 hr
    rw[List.getElem?_take] at hj
    split at hj
    next g=>
     obtain rfl:j=0:=by omega
     have:=h 0 r hj;unfold kW at this
     rwa [if_pos ⟨rfl,h3⟩] at this
    next=>cases hj
  ·rintro ⟨h1,h2⟩ j r hr
   unfold kW
   split
   next g=>
    obtain⟨rfl,_⟩:=g;exact h2 r (List.mem_iff_getElem?.2 ⟨0,by rw[List.getElem?_take,if_pos (by decide)];exact hr⟩)
   next g=>
    have hj:j≠0:=fun e=>g ⟨e,h3⟩
    exact h1 r (List.mem_iff_getElem?.2 ⟨j-1,by rw[List.getElem?_drop,show 1+(j-1)=j by omega];exact hr⟩)
 ·rw[if_neg h3,if_neg h3]
  constructor
  ·intro h
   refine⟨fun r hr=>?_,fun r hr=>by cases hr⟩;obtain⟨j,hj⟩:=List.mem_iff_getElem?.1 hr;have:=h j r hj;unfold kW at this
   rwa [if_neg (fun g=>h3 g.2)] at this
  ·rintro ⟨h1,_⟩ j r hr
   unfold kW;rw[if_neg (fun g=>h3 g.2)];exact h1 r (List.mem_of_getElem? hr)
theorem Dr(l:List Ob)(t:T):Known l t↔∀(i:Nat) o,l[i]?=some o→∀(j:Nat) r,o.refs[j]?=some r→kW t o j r:=by
 constructor
 ·rintro ⟨h1,h2⟩ i o ho
  have hm:=List.mem_of_getElem? ho;exact(yh t o).2 ⟨fun r hr=>h1 r (List.mem_flatMap.2 ⟨o,hm,hr⟩),fun r hr=>h2 r (List.mem_flatMap.2 ⟨o,hm,hr⟩)⟩
 ·intro h
  refine⟨fun r hr=>?_,fun r hr=>?_⟩
  ·obtain⟨o,ho,hr⟩:=List.mem_flatMap.1 hr
   obtain⟨i,hi⟩:=List.mem_iff_getElem?.1 ho;exact((yh t o).1 (h i o hi)).1 r hr
  ·obtain⟨o,ho,hr⟩:=List.mem_flatMap.1 hr
   obtain⟨i,hi⟩:=List.mem_iff_getElem?.1 ho;exact((yh t o).1 (h i o hi)).2 r hr
theorem Uh{l:List Ob}{t:T}{i:Nat}{o:Ob}(ho:l[i]?=some o){j:Nat}{r:Rf}(hr:o.refs[j]?=some r)(h:¬kW t o j r):decide (Known l t)=false:=decide_eq_false fun g=>h ((Dr l t).1 g i o ho j r hr)
theorem PW{l:List Ob}{t:T}(h:∀(i:Nat) o,i<l.length→l[i]?=some o→∀(j:Nat) r,o.refs[j]?=some r→kW t o j r):decide (Known l t)=true:=
 decide_eq_true ((Dr l t).2 fun i o ho=>h i o (List.getElem?_eq_some_iff.1 ho).1 ho)
def TN(o:Ob)(c:Int)(j:Nat):Nat:=match o.refs[j]? with
 | some r=>if r.c=c∧(0<j∨o.kind=4) then 1 else 0
 | none=>0
def Bv(o:Ob)(c:Int):Nat→Nat
 | 0=>0
 | j+1=>Bv o c j+TN o c j
theorem Df{o:Ob}{c:Int}{j:Nat}{r:Rf}(h:o.refs[j]?=some r):TN o c j=if r.c=c∧(0<j∨o.kind=4) then 1 else 0:=by
 unfold TN;rw[h]
theorem IK{l:List Rf}{c:Int}{j:Nat}{r:Rf}(h:l[j]?=some r):cnt (l.take (j+1)) c=cnt (l.take j) c+if r.c=c then 1 else 0:=by
 rw[List.take_add_one,h,jH]
 show _+cnt [r] c=_
 rw[wW]
 show _+(0+_)=_
 rw[Nat.zero_add]
theorem Nt{o:Ob}(h:One o=true)(c:Int):∀j,j≤o.refs.length→Bv o c j=if o.kind=3 then cnt ((o.refs.take j).drop 1) c else cnt (o.refs.take j) c
 | 0,_=>by
  show 0=_
  split<;>(rw[List.take_zero];rfl)
 | j+1,hj=>by
  have ih:=Nt h c j (by omega);obtain⟨r,hr⟩:∃r,o.refs[j]?=some r:=⟨_,List.getElem?_eq_getElem (by omega)⟩
  show Bv o c j+TN o c j=_
  rw[ih,Df hr];by_cases h3:o.kind=3
  ·rw[if_pos h3,if_pos h3]
   cases j with
   | zero=>
    rw[if_neg (fun g=>by omega)];rw[List.take_zero];have:(o.refs.take 1).drop 1=[]:=List.drop_eq_nil_of_le (by rw[List.length_take];omega);rw[this]
    rfl
   | succ j=>
    have e:(o.refs.take (j+1+1)).drop 1=(o.refs.take (j+1)).drop 1++[r]:=by
     rw[List.take_add_one,hr,List.drop_append_of_le_length (by rw[List.length_take];omega)]
     rfl
    rw[e,jH]
    show _=_+cnt [r] c
    rw[wW]
    show _=_+(0+_)
    rw[Nat.zero_add]
    congr 1
    by_cases g:r.c=c
    ·rw[if_pos ⟨g,.inl (by omega)⟩,if_pos g]
    ·rw[if_neg (fun q=>g q.1),if_neg g]
  ·rw[if_neg h3,if_neg h3,IK hr]
   congr 1
   have h4:o.kind=4:=Decidable.byContradiction fun g=>by
    rw[vN h h3 g] at hr;cases hr
   by_cases g:r.c=c
   ·rw[if_pos ⟨g,.inr h4⟩,if_pos g]
   ·rw[if_neg (fun q=>g q.1),if_neg g]
theorem Vx{o:Ob}(h:One o=true)(c:Int):Bv o c o.refs.length=cnt (kE o) c:=by
 rw[Nt h c _ (Nat.le_refl _),List.take_length];unfold kE
 split<;>rfl
theorem Wo{l:List Ob}{i:Nat}{o:Ob}(h:l[i]?=some o)(c:Int):cnt (W (l.take (i+1))) c=cnt (W (l.take i)) c+cnt (kE o) c:=by
 rw[List.take_add_one,h];unfold W;rw[List.flatMap_append,jH]
 congr 2
 simp
theorem YG(l:List Rf)(c:Int):cnt l c≤l.length:=List.countP_le_length
theorem afv(s:St):decide (Ok s)=(decide (0≤s.n)&&decide (av.Right s.l)&&decide (aH.Right s.t)&&decide (Known s.l s.t)&&decide (∀c∈([0,1,2,3,4]:List Int),cnt (W s.l) c=if opn (s.t.get c)=true then 1 else 0)):=by
 rw[Bool.eq_iff_iff];simp only[decide_eq_true_eq,Bool.and_eq_true]
 constructor
 ·exact fun h=>⟨⟨⟨⟨h.n,h.l⟩,h.t⟩,h.w,h.h⟩,h.p⟩
 ·rintro ⟨⟨⟨⟨a,b⟩,c⟩,d,e⟩,f⟩
  exact⟨a,b,c,d,e,f⟩
end Ap
end
section
def pN(x:Oh):Nat:=if x.v.kind=3 then min 1 x.rn else 0
theorem afp(x:Oh):pN x≤x.rn:=by unfold pN;split<;>omega
theorem XH{x:Oh}(h:x.v.refs.length=x.rn):Ap.hld x.v=x.v.refs.take (pN x)∧Ap.kE x.v=x.v.refs.drop (pN x):=by
 unfold Ap.hld Ap.kE pN;rw[← h]
 split
 ·cases hr:x.v.refs with
  | nil=>exact⟨rfl,rfl⟩
  | cons r m=>rw[show min 1 (r::m).length=1 from by rw[List.length_cons];omega];exact⟨rfl,rfl⟩
 ·exact⟨List.take_zero.symm,rfl⟩
def aaR(x:Oh)(w:World)(e:Ending)(w':World):Prop:=∃(A1:Option Addr) (n1 c1:Nat) (A2:Option Addr) (n2 c2:Nat),e=.returned (.tuple #[.slice A1 n1 c1,.slice A2 n2 c2])∧(∀W,In W x→bJ aG rF W A1 n1 c1 (Ap.hld x.v)∧bJ aG rF W A2 n2 c2 (Ap.kE x.v))∧Below w.heap.size w w'
theorem Jb(x:Oh)(w:World)(hx:In w x):Calls prog 37 #[.agg (bS x)] w (aaR x w):=by
 have HR:=zH hx.r;obtain⟨q1,q2⟩:=XH hx.r.len;have hle:=afp x;have hlc:x.rn≤x.rc:=hx.r.cap;have HN:Hid (pN x=if x.v.kind=3 then min 1 x.rn else 0):=zH rfl;have QJ:Hid (∀W,In W x→bJ aG rF W x.rA (pN x) x.rc (Ap.hld x.v)∧bJ aG rF W (uZ 3 x.rA (pN x) x.rc) (x.rn-pN x) (x.rc-pN x) (Ap.kE x.v)):=zH fun W h=>⟨by rw[q1];exact h.r.take hle,by rw[q2];exact h.r.drop hle⟩
 have afG:pN x≤x.rc:=Nat.le_trans hle hlc;clear q1 q2 hlc hx;generalize pN x=N at *
 have HK:=iK w 63 (bS x);go_enter func37,ntmps37;have HT:Hid (decide (x.v.kind=3)=true→N=min 1 x.rn):=zH fun h=>by rw[HN.out,if_pos (of_decide_eq_true h)]
 have HF:Hid (decide (x.v.kind=3)=false→N=0):=zH fun h=>by rw[HN.out,if_neg (of_decide_eq_false h)]
 obtain⟨b,hb⟩:∃b,decide (x.v.kind=3)=b:=⟨_,rfl⟩;have E3:=zH hb;rw[hb] at HT HF;clear hb HN;go_upto_if 7 with (first|refine zX (iM HK 0) ?_|refine zX (aD (m:=x.v.kind) (n:=3) E3.out) ?_)
 try simp only[Eb,Ea,DZ,DY,DX]
 go_cut [4] (fun v wx=>v=.int .i64 (N:Int)∧Hid (Kn w.heap.size w wx [(w.heap.size,63,bS x)] []))
 case first=>
  clear QJ hle afG
  cases b with
  | true=>
   have hN:=HT.out rfl;clear HT HF;by_cases h0:1≤x.rn
   ·have hN:(N:Int)=1:=by omega
    have h1:(1:Int)≤(x.rn:Int):=by omega
    have h2:¬(x.rn:Int)<1:=by omega
    go_wp2_with refine zX (gK HK 0) ?_
    all_goals (try omega)
    go_meet;exact⟨by rw[hN],HK⟩
   ·have hN:(N:Int)=0:=by omega
    have h1:(x.rn:Int)=0:=by omega
    have h2:(x.rn:Int)<1:=by omega
    go_wp2_with refine zX (gK HK 0) ?_
    all_goals (try omega)
    go_meet;exact⟨by rw[hN],HK⟩
  | false=>
   have hN:=HF.out rfl;clear HT HF;go_wp2_with fail;go_meet;exact⟨by rw[hN];rfl,HK⟩
 case rest=>
 clear HK HT HF;obtain⟨rfl,HK⟩:=hcut;go_wp2_with fail;have aj:=zH HK.out.drew;refine zR aj.out fun ah=>?_
 refine ak 0 rfl ?_;refine ak 1 rfl ?_ fun _ s=>gK s 0
 refine ak 2 rfl ?_;refine ak 3 rfl ?_ fun _ s=>Bn (hi:=N) afG
 refine ak 4 rfl ?_;refine ak 5 rfl ?_ fun _ s=>gK s 0
 refine ak 6 rfl ?_;refine ak 7 rfl ?_ fun _ s=>Bl (lo:=N) hle
 refine ak 8 rfl ?_;refine ak 9 rfl ?_;refine bW ?_;go_wp2_with fail;exact kL results37 ⟨_,_,_,_,_,_,rfl,QJ.out,ah.out.b⟩
end
section
namespace Ap
def Lv(s:aH.S)(r:Rf):Bool:=s.live&&decide (s.ep=r.e)&&decide (1≤r.r)&&(decide (r.r<s.rq) || decide (r.r=s.rq)&&s.dn)
theorem UG(t:aH.T)(r:Rf):Lv (t.get r.c) r=true↔(Hd t r∧¬(r.r=(t.get r.c).rq∧(t.get r.c).dn=false)):=by
 unfold Lv Hd;generalize t.get r.c=s;cases s.live<;>cases s.dn<;>simp<;>omega
def Vn(s:aH.S):Nat:=if s≠aH.z∧s.dn=false then 1 else 0
def due(t:aH.T):Int→Nat:=fun c=>Vn (t.get c)
theorem Vm{t:aH.T}(h:aH.Right t){c:Int}(hc:0≤c∧c<5):due t c=if opn (t.get c)=true then 1 else 0:=by
 have h1:=aH.kZ h hc;unfold due Vn opn;by_cases he:(t.get c).ep=0
 ·rw[aH.wD h1 he]
  rfl
 ·have hp:=(aH.one_pos h1 he).2.1
  have hz:t.get c≠aH.z:=fun g=>he (by rw[g];rfl)
  have hep:decide (0<(t.get c).ep)=true:=decide_eq_true (by omega);rw[hep];cases hd:(t.get c).dn
  ·rw[if_pos ⟨hz,rfl⟩];rfl
  ·rw[if_neg (fun g=>by cases g.2)];rfl
end Ap
theorem Qb(t:aH.T)(r:Rf)(w:World)(hc:0≤r.c∧r.c<5):
  Calls prog 38 #[.agg (dR t),.agg #[.int .i64 r.c,.int .i64 r.e,.int .i64 r.r]] w (cZ (Ap.Lv (t.get r.c) r) w):=by
 have HK:=kX w 31 (dR t) 35 #[.int .i64 r.c,.int .i64 r.e,.int .i64 r.r];have HB:Hid (Ap.Lv (t.get r.c) r=((t.get r.c).live&&decide ((t.get r.c).ep=r.e)&&decide (1≤r.r)&&(decide (r.r<(t.get r.c).rq) || decide (r.r=(t.get r.c).rq)&&(t.get r.c).dn))):=zH rfl;generalize Ap.Lv (t.get r.c) r=b at *
 unfold cZ;go_enter func38,ntmps38;go_upto_region 2 with (first|refine zX (iY (x:=r) HK 1) ?_|refine zX (dO hc) ?_|refine zX (Yj HK 0 hc) ?_|(refine bE HK ?_;clear HK;intro _ g2 HK;simp only[aO,aJ] at HK)|(refine bD (u:=t.get r.c) HK 2 ?_;clear HK;intro _ HK;simp only[lS] at HK));have fe:=HK.out.cell 1 rfl 1 (v:=.int .i64 r.e) rfl;have fr:=HK.out.cell 1 rfl 2 (v:=.int .i64 r.r) rfl;have fl:=HK.out.cell 2 rfl 0 (v:=.bool (t.get r.c).live) rfl;have fp:=HK.out.cell 2 rfl 1 (v:=.int .i64 (t.get r.c).ep) rfl;have fq:=HK.out.cell 2 rfl 2 (v:=.int .i64 (t.get r.c).rq) rfl;have fd:=HK.out.cell 2 rfl 3 (v:=.bool (t.get r.c).dn) rfl;generalize (t.get r.c).live=lv at *
 generalize (t.get r.c).ep=ep at *
 generalize (t.get r.c).rq=rq at *
 generalize (t.get r.c).dn=dn at *
 clear hc
 cases lv with
 | false=>
  have hb:b=false:=by rw[HB.out];rfl
  subst hb;clear HB;exact iU
 | true=>
 by_cases h1:ep=r.e
 case neg=>
  have hb:b=false:=by rw[HB.out,decide_eq_false h1];rfl
  subst hb;have hb1:(ep==r.e)=false:=by simpa using h1
  have hb2:(ep != r.e)=true:=by simpa using h1
  clear HB h1;exact iU
 case pos=>
 have hb1:(ep==r.e)=true:=by simpa using h1
 have hb2:(ep != r.e)=false:=by simpa using h1
 rw[decide_eq_true h1] at HB;clear h1;by_cases h2:r.r<1
 case pos=>
  have hb:b=false:=by rw[HB.out,decide_eq_false (show ¬1≤r.r by omega)];rfl
  subst hb;clear HB;exact iU
 case neg=>
 rw[decide_eq_true (show 1≤r.r by omega)] at HB;by_cases h3:r.r<rq
 case pos=>
  have hb:b=true:=by rw[HB.out,decide_eq_true h3];rfl
  subst hb;clear HB;exact iU
 case neg=>
 rw[decide_eq_false h3] at HB;by_cases h4:r.r=rq
 case neg=>
  have hb:b=false:=by rw[HB.out,decide_eq_false h4];rfl
  subst hb;have hb3:(r.r==rq)=false:=by simpa using h4
  clear HB h4;exact iU
 case pos=>
 have hb:b=dn:=by rw[HB.out,decide_eq_true h4];cases dn<;>rfl
 subst hb;have hb3:(r.r==rq)=true:=by simpa using h4
 clear HB h4;cases b<;>(go_wp2_with fail;go_ret;exact⟨rfl,HK.out.b⟩)
theorem YC(t:aH.T)(w:World)(hf:aH.Fit t):Calls prog 39 #[.agg (dR t)] w (adw (Ap.due t) w):=by
 have HK:=iK w 31 (dR t);unfold adw;go_enter func39,ntmps39;go_upto_region 1 with (refine uY HK ?_;clear HK;intro _ g0 HK;simp only[aO,aJ] at HK);go_wp2_with (first|(refine uY HK ?_;clear HK;intro _ g1 HK;simp only[aO,aJ] at HK)|refine zX (Iw) ?_|(refine uW (h2:=WS) HK 2 ?_;clear HK;intro _ HK;simp only[lS] at HK)|refine zX (jV HK 0) ?_);go_loopw [8] (fun v8 wr=>∃(j:Nat) (f:Int→Nat),j≤5∧v8=.int .i64 j∧Hid (∀c:Int,0≤c∧c<5→f c=if c<(j:Int) then Ap.due t c else 0)∧Hid (Kn w.heap.size w wr [(w.heap.size,31,dR t),(g0,76,pJ WS),(g1,76,pJ f)] [])) (fun v8 _=>5-(intOf v8).toNat)
 case atStart=>exact⟨0,WS,by omega,rfl,zH (fun c hc=>by rw[if_neg (by omega)];rfl),HK⟩
 case round=>
  clear HK;obtain⟨j,f,hj,rfl,HF,HK⟩:=hrel;have hj1:(0:Int)≤(j:Int):=by omega
  by_cases hlt:j<5
  case neg=>
   obtain rfl:j=5:=by omega
   have he:pJ f=pJ (Ap.due t):=by
    unfold pJ;rw[HF.out 0 (by decide),HF.out 1 (by decide),HF.out 2 (by decide),HF.out 3 (by decide),HF.out 4 (by decide)]
    rfl
   rw[he] at HK;go_wp2_with (first|refine zX (kpc HK 2) ?_|(refine uW (h2:=Ap.due t) HK 1 ?_;clear HK;intro _ HK;simp only[lS] at HK));exact abK results39 rfl rfl (HK.out.blk 1 rfl) ⟨rfl,HK.out.b⟩
  case pos=>
  have hj2:(j:Int)<5:=by omega
  have hj3:j<9223372036854775807:=by omega
  have hc:0≤(j:Int)∧(j:Int)<5:=⟨hj1,hj2⟩;by_cases hz:t.get (j:Int)=aH.z
  case pos=>
   have HZ:Hid ((!decide (t.get (j:Int)=aH.z))=false):=zH (by rw[decide_eq_true hz];rfl)
   have Zh:Hid (∀c:Int,0≤c∧c<5→f c=if c<((j+1:Nat):Int) then Ap.due t c else 0):=zH fun c hc2=>by
    rw[HF.out c hc2];by_cases e:c=(j:Int)
    ·rw[if_neg (by omega),if_pos (by omega),e]
     unfold Ap.due Ap.Vn;rw[if_neg (fun g=>g.1 hz)]
    ·by_cases e2:c<(j:Int)
     ·rw[if_pos e2,if_pos (by omega)]
     ·rw[if_neg e2,if_neg (by omega)]
   clear hz HF;go_wp2_with (first|refine zX (mg (t:=t) hc) ?_|(refine bE HK ?_;clear HK;intro _ g5 HK;simp only[aO,aJ] at HK)|(refine bD (u:=t.get (j:Int)) HK 3 ?_;clear HK;intro _ HK;simp only[lS] at HK)|refine zX (ER HK 3) ?_|refine zX (oO) ?_|refine zX (qh HZ.out) ?_|refine zX (aL (j:=j) hj3) ?_);exact⟨⟨j+1,f,hlt,rfl,Zh,zH (HK.out.aA 3)⟩,by simp[intOf];omega⟩
  case neg=>
  have HZ:Hid ((!decide (t.get (j:Int)=aH.z))=true):=zH (by rw[decide_eq_false hz];rfl)
  cases hd:(t.get (j:Int)).dn with
  | true=>
   have HD:=zH hd
   have Zh:Hid (∀c:Int,0≤c∧c<5→f c=if c<((j+1:Nat):Int) then Ap.due t c else 0):=zH fun c hc2=>by
    rw[HF.out c hc2];by_cases e:c=(j:Int)
    ·rw[if_neg (by omega),if_pos (by omega),e]
     unfold Ap.due Ap.Vn;rw[if_neg (fun g=>by rw[hd] at g;cases g.2)]
    ·by_cases e2:c<(j:Int)
     ·rw[if_pos e2,if_pos (by omega)]
     ·rw[if_neg e2,if_neg (by omega)]
   clear hz hd HF;go_wp2_with (first|refine zX (mg (t:=t) hc) ?_|(refine bE HK ?_;clear HK;intro _ g5 HK;simp only[aO,aJ] at HK)|(refine bD (u:=t.get (j:Int)) HK 3 ?_;clear HK;intro _ HK;simp only[lS] at HK)|refine zX (ER HK 3) ?_|refine zX (oO) ?_|refine zX (qh HZ.out) ?_|refine zX ((jO HK 3).trans (by rw[HD.out])) ?_|refine zX (aL (j:=j) hj3) ?_);exact⟨⟨j+1,f,hlt,rfl,Zh,zH (HK.out.aA 3)⟩,by simp[intOf];omega⟩
  | false=>
   have HD:=zH hd
   have Zh:Hid (∀c:Int,0≤c∧c<5→pcU f (j:Int) 1 c=if c<((j+1:Nat):Int) then Ap.due t c else 0):=zH fun c hc2=>by
    unfold pcU;by_cases e:c=(j:Int)
    ·rw[if_pos e,if_pos (by omega),e]
     unfold Ap.due Ap.Vn;rw[if_pos ⟨hz,hd⟩]
    ·rw[if_neg e,HF.out c hc2]
     by_cases e2:c<(j:Int)
     ·rw[if_pos e2,if_pos (by omega)]
     ·rw[if_neg e2,if_neg (by omega)]
   clear hz hd HF;go_wp2_with (first|refine zX (mg (t:=t) hc) ?_|(refine bE HK ?_;clear HK;intro _ g5 HK;simp only[aO,aJ] at HK)|(refine bD (u:=t.get (j:Int)) HK 3 ?_;clear HK;intro _ HK;simp only[lS] at HK)|refine zX (ER HK 3) ?_|refine zX (oO) ?_|refine zX (qh HZ.out) ?_|refine zX ((jO HK 3).trans (by rw[HD.out])) ?_|refine zX (Iu hc) ?_|(refine Aa (v:=1) HK 2 rfl hc rfl rfl rfl rfl ?_;clear HK;intro _ HK;simp only[lS] at HK)|refine zX (aL (j:=j) hj3) ?_);exact⟨⟨j+1,_,hlt,rfl,Zh,zH (HK.out.aA 3)⟩,by simp[intOf];omega⟩
end
section
namespace Ap
open av aH
structure tC(l:List Ob)(t:T)(f:Int→Nat)(i:Nat):Prop where
 h:∀r∈H (l.take i),Lv (t.get r.c) r=true
 w:∀r∈W (l.take i),aH.look t r=3
 p:∀c:Int,0≤c∧c<5→f c=cnt (W (l.take i)) c
 b:∀c:Int,0≤c∧c<5→f c≤5*i
theorem tC.nil(l:List Ob)(t:T):tC l t WS 0:=by
 refine⟨fun r hr=>?_,fun r hr=>?_,fun c _=>?_,fun c _=>Nat.zero_le _⟩
 ·rw[List.take_zero] at hr;cases hr
 ·rw[List.take_zero] at hr;cases hr
 ·rw[List.take_zero];rfl
structure nX(m:List Rf)(t:T)(f f2:Int→Nat)(j:Nat):Prop where
 w:∀r∈m.take j,aH.look t r=3
 p:∀c:Int,0≤c∧c<5→f2 c=f c+cnt (m.take j) c
theorem nX.nil(m:List Rf)(t:T)(f:Int→Nat):nX m t f f 0:=
 ⟨fun r hr=>(by rw[List.take_zero] at hr;cases hr),fun c _=>(by rw[List.take_zero];rfl)⟩
theorem nX.le{m:List Rf}{t:T}{f f2:Int→Nat}{j:Nat}(h:nX m t f f2 j){c:Int}(hc:0≤c∧c<5):f2 c≤f c+j:=by
 rw[h.p c hc];have:=YG (m.take j) c;rw[List.length_take] at this;omega
theorem nX.step{m:List Rf}{t:T}{f f2:Int→Nat}{j:Nat}{r:Rf}(h:nX m t f f2 j)(hr:m[j]?=some r)(hl:aH.look t r=3):nX m t f (pcU f2 r.c (f2 r.c+1)) (j+1):=by
 refine⟨fun q hq=>?_,fun c hc=>?_⟩
 ·rw[List.take_add_one,hr] at hq
  rcases List.mem_append.1 hq with hq|hq
  ·exact h.w q hq
  ·have:q=r:=by simpa using hq
   rw[this];exact hl
 ·rw[IK hr]
  unfold pcU;by_cases e:c=r.c
  ·rw[if_pos e,if_pos e.symm,← e,h.p c hc]
   omega
  ·rw[if_neg e,if_neg (fun g=>e g.symm),h.p c hc]
   omega
theorem tC.step{l:List Ob}{t:T}{f f2:Int→Nat}{i:Nat}{o:Ob}(h:tC l t f i)(ho:l[i]?=some o)(h5:(kE o).length≤5)(hh:∀r∈hld o,Lv (t.get r.c) r=true)(h1:nX (kE o) t f f2 (kE o).length):tC l t f2 (i+1):=by
 have eH:∀r,r∈H (l.take (i+1))→r∈H (l.take i)∨r∈hld o:=fun r hr=>by
  unfold H at hr;rw[List.take_add_one,ho,List.flatMap_append] at hr
  rcases List.mem_append.1 hr with hr|hr
  ·exact .inl hr
  ·exact .inr (by simpa using hr)
 have eW:∀r,r∈W (l.take (i+1))→r∈W (l.take i)∨r∈kE o:=fun r hr=>by
  unfold W at hr;rw[List.take_add_one,ho,List.flatMap_append] at hr
  rcases List.mem_append.1 hr with hr|hr
  ·exact .inl hr
  ·exact .inr (by simpa using hr)
 refine⟨fun r hr=>(eH r hr).elim (h.h r) (hh r),fun r hr=>(eW r hr).elim (h.w r) fun g=>h1.w r (by rw[List.take_length];exact g),fun c hc=>?_,fun c hc=>?_⟩
 ·rw[Wo ho,h1.p c hc,List.take_length,h.p c hc]
 ·have:=h1.le hc
  have:=h.b c hc;omega
theorem XR{n:Int}{l:List Ob}{t:T}{i:Nat}{o:Ob}{r:Rf}(ho:l[i]?=some o)(hr:r∈hld o)(hb:Lv (t.get r.c) r=false):decide (Ok ⟨n,l,t⟩)=false:=
 decide_eq_false fun h=>by
  have:=(UG t r).2 (h.h r (List.mem_flatMap.2 ⟨o,List.mem_of_getElem? ho,hr⟩));rw[hb] at this;cases this
theorem XQ{n:Int}{l:List Ob}{t:T}{i:Nat}{o:Ob}{r:Rf}(ho:l[i]?=some o)(hr:r∈kE o)(hb:¬aH.look t r=3):decide (Ok ⟨n,l,t⟩)=false:=
 decide_eq_false fun h=>hb (h.w r (List.mem_flatMap.2 ⟨o,List.mem_of_getElem? ho,hr⟩))
theorem afu{n:Int}{l:List Ob}{t:T}(h:¬0≤n∨¬av.Right l∨¬aH.Right t):decide (Ok ⟨n,l,t⟩)=false:=
 decide_eq_false fun g=>by
  rcases h with h|h|h
  ·exact h g.n
  ·exact h g.l
  ·exact h g.t
theorem acp{n:Int}{l:List Ob}{t:T}{f:Int→Nat}(hn:0≤n)(hl:av.Right l)(ht:aH.Right t)(h:tC l t f l.length):decide (∀c∈([0,1,2,3,4]:List Int),f c=due t c)=decide (Ok ⟨n,l,t⟩):=by
 have e:l.take l.length=l:=List.take_length;obtain⟨h1,h2,h3,_⟩:=h;rw[e] at h1 h2 h3;refine decide_eq_decide.2 ⟨fun g=>⟨hn,hl,ht,h2,fun r hr=>(UG t r).1 (h1 r hr),fun c hc=>?_⟩,fun g c hc=>?_⟩
 ·rw[← h3 c (five.1 hc),g c hc,Vm ht (five.1 hc)]
 ·rw[h3 c (five.1 hc),Vm ht (five.1 hc)]
  exact g.p c hc
theorem Xn{o:Ob}(h:One o=true):(kE o).length≤5:=by
 have:=aS.fG (ig h);unfold kE
 split
 ·rw[List.length_drop];omega
 ·exact this
end Ap
end
end Go.Proofs.YtieoeendnccafaaGreat
