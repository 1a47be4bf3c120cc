/- Arguments that are requests with their numbers' bounds, or sessions, or tables of five. No condition but those named. -/
import Derived.Test.YtieoeendnccafaaGreatNAX
set_option linter.unusedSimpArgs false
set_option linter.unusedVariables false
set_option maxRecDepth 100000
set_option maxHeartbeats 25600000
open Go.RowKit
namespace Go.Proofs.YtieoeendnccafaaGreat
open _root_.Go.Proofs.Tryz
section
theorem Jd(n:Int)(A:Option Addr)(k cp:Nat)(t:aH.T)(lo:List Oh)(e:aF.E)(w:World)(hs:bY w A k cp lo)(hf:aH.Fit t)(hv:e.cmd.val.f<18446744073709551616)(ho:e.cmd.old.f<18446744073709551616)(hbad:¬Ap.Can ⟨n,vs lo,t⟩ e):
  Calls prog 10 #[.agg (stA n A k cp t),.agg (iN e)] w (dB (fun _=>True) (Ap.mD ⟨n,vs lo,t⟩ e) (Ap.rV ⟨n,vs lo,t⟩ e) w):=by
 rw[(Ap.yB hbad).1,(Ap.yB hbad).2];have HK:=kX w 33 (stA n A k cp t) 39 (iN e);have oU:=zH (fun W (hW:Below w.heap.size w W)=>lG A cp k lo W (hs.later hW));have kF:=zH (fun(A2:Option Addr) (k2 c2:Nat) (l2:List Oh) W (h:bY W A2 k2 c2 l2)=>gW n A2 k2 c2 t l2 W h hf);have iD:=zH (fun W=>ng e W hv ho);unfold BK at oU;unfold cZ at kF;by_cases h1:Ap.Ok ⟨n,vs lo,t⟩
 case neg=>
  have HR1:=zH (decide_eq_false h1);clear hs hf hv ho hbad h1 iD;generalize vs lo=ls at *
  go_enter func10,ntmps10;go_wp2_with (first|(refine aU HK ?_;clear HK;intro _ g1 HK;simp only[aO,aJ] at HK)|refine zX (jl HK 0) ?_);refine(oU.out _ HK.out.b).mono ?_;rintro en w1 ⟨A2,k2,c2,l2,rfl,v2,q2,i2⟩;have mE:=zH v2;have rO:Hid (∀b W0 W L R,Kn b W0 W L R→(∀z∈(row aP (.slice A2 k2 c2) l2::l2.flatMap gU),z∈R)→bY W A2 k2 c2 l2):=zH fun b W0 W L R K hm=>K.obs (hm _ (List.mem_cons_self ..)) (fun y hy=>hm y (List.mem_cons_of_mem _ hy)) i2.fo i2.s.big;replace HK:=zH (HK.out.join q2);clear q2 v2 oU;simp only[aJ] at HK;generalize (row aP (.slice A2 k2 c2) l2::l2.flatMap gU)=Rc at *
  go_wp2_with (first|(refine dF HK 0 ?_;clear HK;intro _ HK;simp only[lS] at HK)|refine zX (iB HK 0) ?_);refine cb (kF.out A2 k2 c2 l2 _ (rO.out _ _ _ _ _ HK.out (fun z hz=>hz))) HK ?_;clear HK;intro _ HK;rw[mE.out,HR1.out];go_upto_region 3 with fail;exact abq
 case pos=>
 have HR1:=zH (decide_eq_true h1);by_cases h2:aF.fits e
 case neg=>
  have HR2:=zH (decide_eq_false h2);clear hs hf hv ho hbad h1 h2;generalize vs lo=ls at *
  go_enter func10,ntmps10;go_wp2_with (first|(refine aU HK ?_;clear HK;intro _ g1 HK;simp only[aO,aJ] at HK)|refine zX (jl HK 0) ?_);refine(oU.out _ HK.out.b).mono ?_;rintro en w1 ⟨A2,k2,c2,l2,rfl,v2,q2,i2⟩;have mE:=zH v2;have rO:Hid (∀b W0 W L R,Kn b W0 W L R→(∀z∈(row aP (.slice A2 k2 c2) l2::l2.flatMap gU),z∈R)→bY W A2 k2 c2 l2):=zH fun b W0 W L R K hm=>K.obs (hm _ (List.mem_cons_self ..)) (fun y hy=>hm y (List.mem_cons_of_mem _ hy)) i2.fo i2.s.big;replace HK:=zH (HK.out.join q2);clear q2 v2 oU;simp only[aJ] at HK;generalize (row aP (.slice A2 k2 c2) l2::l2.flatMap gU)=Rc at *
  go_wp2_with (first|(refine dF HK 0 ?_;clear HK;intro _ HK;simp only[lS] at HK)|refine zX (iB HK 0) ?_);refine cb (kF.out A2 k2 c2 l2 _ (rO.out _ _ _ _ _ HK.out (fun z hz=>hz))) HK ?_;clear HK;intro _ HK;rw[mE.out,HR1.out];go_wp2_with refine zX (gL HK 1) ?_;refine cb (iD.out _) HK ?_;clear HK;intro _ HK;rw[HR2.out];go_upto_region 3 with fail;exact abq
 case pos=>
 have h3:n=9223372036854775807:=Decidable.byContradiction fun g=>hbad ⟨h1,h2,g⟩
 have HR2:=zH (decide_eq_true h2);have H3:Hid (decide (n=9223372036854775807)=true):=zH (decide_eq_true h3);clear hs hf hv ho hbad h1 h2 h3;generalize vs lo=ls at *
 go_enter func10,ntmps10;go_wp2_with (first|(refine aU HK ?_;clear HK;intro _ g1 HK;simp only[aO,aJ] at HK)|refine zX (jl HK 0) ?_);refine(oU.out _ HK.out.b).mono ?_;rintro en w1 ⟨A2,k2,c2,l2,rfl,v2,q2,i2⟩;have mE:=zH v2;have rO:Hid (∀b W0 W L R,Kn b W0 W L R→(∀z∈(row aP (.slice A2 k2 c2) l2::l2.flatMap gU),z∈R)→bY W A2 k2 c2 l2):=zH fun b W0 W L R K hm=>K.obs (hm _ (List.mem_cons_self ..)) (fun y hy=>hm y (List.mem_cons_of_mem _ hy)) i2.fo i2.s.big;replace HK:=zH (HK.out.join q2);clear q2 v2 oU;simp only[aJ] at HK;generalize (row aP (.slice A2 k2 c2) l2::l2.flatMap gU)=Rc at *
 go_wp2_with (first|(refine dF HK 0 ?_;clear HK;intro _ HK;simp only[lS] at HK)|refine zX (iB HK 0) ?_);refine cb (kF.out A2 k2 c2 l2 _ (rO.out _ _ _ _ _ HK.out (fun z hz=>hz))) HK ?_;clear HK;intro _ HK;rw[mE.out,HR1.out];go_wp2_with refine zX (gL HK 1) ?_;refine cb (iD.out _) HK ?_;clear HK;intro _ HK;rw[HR2.out];go_upto_region 3 with (first|refine zX (jL HK 0) ?_|refine zX (aD (m:=n) (n:=9223372036854775807) H3.out) ?_);exact abq
end
section
theorem Jc(n:Int)(A:Option Addr)(k cp:Nat)(t:aH.T)(lo:List Oh)(e:aF.E)(w:World)(hs:bY w A k cp lo)(hf:aH.Fit t)(hv:e.cmd.val.f<18446744073709551616)(ho:e.cmd.old.f<18446744073709551616)(hr:e.r≤9223372036854775807)(hn:n≤9223372036854775807)(hcan:Ap.Can ⟨n,vs lo,t⟩ e)(h18:e.cmd.k=18):
  Calls prog 10 #[.agg (stA n A k cp t),.agg (iN e)] w (dB (fun _=>True) (Ap.mD ⟨n,vs lo,t⟩ e) (Ap.rV ⟨n,vs lo,t⟩ e) w):=by
 rw[show Ap.mD ⟨n,vs lo,t⟩ e=Ap.sU ⟨n+1,vs lo,t⟩ e from if_pos hcan,show Ap.rV ⟨n,vs lo,t⟩ e=Ap.uO ⟨n+1,vs lo,t⟩ e from if_pos hcan];have HK:=kX w 33 (stA n A k cp t) 39 (iN e);have oU:=zH (fun W (hW:Below w.heap.size w W)=>lG A cp k lo W (hs.later hW));have kF:=zH (fun(A2:Option Addr) (k2 c2:Nat) (l2:List Oh) W (h:bY W A2 k2 c2 l2)=>gW n A2 k2 c2 t l2 W h hf);have iD:=zH (fun W=>ng e W hv ho);obtain⟨hok,hfi,h3⟩:=hcan;replace h3:¬n=9223372036854775807:=h3;have hok1:Ap.Ok ⟨n+1,vs lo,t⟩:=Ap.CB hok;have hc:0≤e.c∧e.c<5:=aH.kV (Ap.lX hfi);have HR1:=zH (decide_eq_true hok);have HR2:=zH (decide_eq_true hfi);have H3:Hid (decide (n=9223372036854775807)=false):=zH (decide_eq_false h3);have HW:Hid (IntKind.i64.wrap (n+1)=n+1):=zH (by have:=hok.n;have:0≤n:=this;rw[IntKind.wrap_i64];omega);unfold BK at oU;unfold cZ at kF;have FU:Hid (decide (e.cmd.k=18)=true):=zH (decide_eq_true h18);rw[show Ap.sU ⟨n+1,vs lo,t⟩ e=Ap.exS ⟨n+1,vs lo,t⟩ (Ap.ref e) from (Ap.Ic h18).1,show Ap.uO ⟨n+1,vs lo,t⟩ e=Ap.exO ⟨n+1,vs lo,t⟩ (Ap.ref e) from (Ap.Ic h18).2]
 have Cr:Hid (∀(A2:Option Addr) (k2 c2:Nat) l2 W,vs l2=vs lo→bY W A2 k2 c2 l2→Calls prog 24 #[.agg (stA (n+1) A2 k2 c2 t),.agg #[.int .i64 e.c,.int .i64 e.e,.int .i64 e.r]] W (dB (fun W=>bY W A2 k2 c2 l2) (Ap.exS ⟨n+1,vs lo,t⟩ (Ap.ref e)) (Ap.exO ⟨n+1,vs lo,t⟩ (Ap.ref e)) W)):=zH fun A2 k2 c2 l2 W h1 h2=>by
  have h:=Fz (fun W=>bY W A2 k2 c2 l2) (n+1) A2 k2 c2 t l2 (Ap.ref e) W (fun _ h=>h) h2 hf hc (by rw[h1];exact Ap.Tg hok1 hc);rw[h1] at h;exact h
 unfold dB at Cr;clear hs hf hv ho hr hn hok hok1 hfi h3 h18;generalize Ap.exS ⟨n+1,vs lo,t⟩ (Ap.ref e)=s2 at *
 generalize Ap.exO ⟨n+1,vs lo,t⟩ (Ap.ref e)=os at *
 generalize vs lo=ls at *
 obtain⟨n3,l3,t3⟩:=s2;dsimp only at *
 go_enter func10,ntmps10;go_wp2_with (first|(refine aU HK ?_;clear HK;intro _ g1 HK;simp only[aO,aJ] at HK)|refine zX (jl HK 0) ?_);refine(oU.out _ HK.out.b).mono ?_;rintro en w1 ⟨A2,k2,c2,l2,rfl,v2,q2,i2⟩;have mE:=zH v2;have rO:Hid (∀b W0 W L R,Kn b W0 W L R→(∀z∈(row aP (.slice A2 k2 c2) l2::l2.flatMap gU),z∈R)→bY W A2 k2 c2 l2):=zH fun b W0 W L R K hm=>K.obs (hm _ (List.mem_cons_self ..)) (fun y hy=>hm y (List.mem_cons_of_mem _ hy)) i2.fo i2.s.big;replace HK:=zH (HK.out.join q2);clear q2 v2 oU;simp only[aJ] at HK;generalize (row aP (.slice A2 k2 c2) l2::l2.flatMap gU)=Rc at *;go_wp2_with (first|(refine dF HK 0 ?_;clear HK;intro _ HK;simp only[lS] at HK)|refine zX (iB HK 0) ?_);refine cb (kF.out A2 k2 c2 l2 _ (rO.out _ _ _ _ _ HK.out (fun z hz=>hz))) HK ?_;clear HK;intro _ HK;rw[mE.out,HR1.out];go_wp2_with refine zX (gL HK 1) ?_;refine cb (iD.out _) HK ?_;clear HK;intro _ HK;rw[HR2.out]
 go_wp2_with (first|refine zX (jL HK 0) ?_|refine zX (aD (m:=n) (n:=9223372036854775807) H3.out) ?_|refine zX (dZ (m:=n) (n:=n+1) HW.out) ?_|(refine eY (m:=n+1) HK 0 ?_;clear HK;intro _ HK;simp only[lS] at HK)|refine zX (iZ (e:=e) HK 1) ?_|refine zX (aD (m:=e.cmd.k) (n:=18) FU.out) ?_|refine zX (iB HK 0) ?_|refine zX (aY HK 1) ?_);refine(Cr.out A2 k2 c2 l2 _ mE.out (rO.out _ _ _ _ _ HK.out (fun z hz=>hz))).mono ?_;rintro en w5 ⟨A3,k3,c3,lo3,O3,m3,d3,R3,rfl,Ee,q3,HI3⟩;replace HK:=zH (HK.out.join q3);clear q3 Cr;exact aex
theorem Lp(n:Int)(A:Option Addr)(k cp:Nat)(t:aH.T)(lo:List Oh)(e:aF.E)(w:World)(hs:bY w A k cp lo)(hf:aH.Fit t)(hv:e.cmd.val.f<18446744073709551616)(ho:e.cmd.old.f<18446744073709551616)(hr:e.r≤9223372036854775807)(hn:n≤9223372036854775807)(hcan:Ap.Can ⟨n,vs lo,t⟩ e)(h18:¬e.cmd.k=18)(hl:aH.look t (Ap.ref e)=1):
  Calls prog 10 #[.agg (stA n A k cp t),.agg (iN e)] w (dB (fun _=>True) (Ap.mD ⟨n,vs lo,t⟩ e) (Ap.rV ⟨n,vs lo,t⟩ e) w):=by
 rw[show Ap.mD ⟨n,vs lo,t⟩ e=Ap.sU ⟨n+1,vs lo,t⟩ e from if_pos hcan,show Ap.rV ⟨n,vs lo,t⟩ e=Ap.uO ⟨n+1,vs lo,t⟩ e from if_pos hcan];have HK:=kX w 33 (stA n A k cp t) 39 (iN e);have oU:=zH (fun W (hW:Below w.heap.size w W)=>lG A cp k lo W (hs.later hW));have kF:=zH (fun(A2:Option Addr) (k2 c2:Nat) (l2:List Oh) W (h:bY W A2 k2 c2 l2)=>gW n A2 k2 c2 t l2 W h hf);have iD:=zH (fun W=>ng e W hv ho);obtain⟨hok,hfi,h3⟩:=hcan;replace h3:¬n=9223372036854775807:=h3;have hok1:Ap.Ok ⟨n+1,vs lo,t⟩:=Ap.CB hok;have hc:0≤e.c∧e.c<5:=aH.kV (Ap.lX hfi);have HR1:=zH (decide_eq_true hok);have HR2:=zH (decide_eq_true hfi);have H3:Hid (decide (n=9223372036854775807)=false):=zH (decide_eq_false h3);have HW:Hid (IntKind.i64.wrap (n+1)=n+1):=zH (by have:=hok.n;have:0≤n:=this;rw[IntKind.wrap_i64];omega);unfold BK at oU;unfold cZ at kF;have FU:Hid (decide (e.cmd.k=18)=false):=zH (decide_eq_false h18);have og:=zH (fun W=>mR t (Ap.ref e) W hf hr);unfold gG at og;have hg:=Ap.Yu (s:=⟨n+1,vs lo,t⟩) h18 hl;have hd:=Ap.afU hfi h18 ⟨n+1,vs lo,t⟩;rw[hg.1,hg.2,← hd.1,← hd.2];rw[hl] at og;have Z1:Hid (decide ((1:Int)=1)=true):=zH rfl
 have yX:Hid (∀(A2:Option Addr) (k2 c2:Nat) l2 W,vs l2=vs lo→bY W A2 k2 c2 l2→Calls prog 26 #[.agg (stA (n+1) A2 k2 c2 t),.agg (iN e)] W (dB (fun W=>bY W A2 k2 c2 l2) (Ap.doS ⟨n+1,vs lo,t⟩ e) (Ap.doO ⟨n+1,vs lo,t⟩ e) W)):=zH fun A2 k2 c2 l2 W h1 h2=>by
  have h:=VT (fun W=>bY W A2 k2 c2 l2) (n+1) A2 k2 c2 t l2 e W (fun _ h=>h) h2 hf hv ho hr hc (fun _=>by rw[h1];exact Ap.Tg hok1 hc) (fun g=>by
   have h0:¬(Ap.ref e).r=0:=fun q=>(hfi.2.2.1 q).elim (fun q=>by omega) h18
   exact congrArg aH.S.dn (Ap.xJ (s:=⟨n,vs lo,t⟩) (x:=av.rz) hl h0 Ap.uJ))
  rw[h1] at h;exact h
 unfold dB at yX;clear hs hf hv ho hr hn hok hok1 hfi h3 h18 hl hg hd;generalize Ap.doS ⟨n+1,vs lo,t⟩ e=s2 at *
 generalize Ap.doO ⟨n+1,vs lo,t⟩ e=os at *
 generalize vs lo=ls at *
 obtain⟨n3,l3,t3⟩:=s2;dsimp only at *
 go_enter func10,ntmps10;go_wp2_with (first|(refine aU HK ?_;clear HK;intro _ g1 HK;simp only[aO,aJ] at HK)|refine zX (jl HK 0) ?_);refine(oU.out _ HK.out.b).mono ?_;rintro en w1 ⟨A2,k2,c2,l2,rfl,v2,q2,i2⟩;have mE:=zH v2;have rO:Hid (∀b W0 W L R,Kn b W0 W L R→(∀z∈(row aP (.slice A2 k2 c2) l2::l2.flatMap gU),z∈R)→bY W A2 k2 c2 l2):=zH fun b W0 W L R K hm=>K.obs (hm _ (List.mem_cons_self ..)) (fun y hy=>hm y (List.mem_cons_of_mem _ hy)) i2.fo i2.s.big;replace HK:=zH (HK.out.join q2);clear q2 v2 oU;simp only[aJ] at HK;generalize (row aP (.slice A2 k2 c2) l2::l2.flatMap gU)=Rc at *;go_wp2_with (first|(refine dF HK 0 ?_;clear HK;intro _ HK;simp only[lS] at HK)|refine zX (iB HK 0) ?_);refine cb (kF.out A2 k2 c2 l2 _ (rO.out _ _ _ _ _ HK.out (fun z hz=>hz))) HK ?_;clear HK;intro _ HK;rw[mE.out,HR1.out];go_wp2_with refine zX (gL HK 1) ?_;refine cb (iD.out _) HK ?_;clear HK;intro _ HK;rw[HR2.out]
 go_wp2_with (first|refine zX (jL HK 0) ?_|refine zX (aD (m:=n) (n:=9223372036854775807) H3.out) ?_|refine zX (dZ (m:=n) (n:=n+1) HW.out) ?_|(refine eY (m:=n+1) HK 0 ?_;clear HK;intro _ HK;simp only[lS] at HK)|refine zX (iZ (e:=e) HK 1) ?_|refine zX (aD (m:=e.cmd.k) (n:=18) FU.out) ?_|refine zX (eU HK 0) ?_|refine zX (aY HK 1) ?_);refine cb (og.out _) HK ?_;clear HK;intro _ HK;go_wp2_with (first|refine zX (aD (m:=1) (n:=1) Z1.out) ?_|refine zX (iB HK 0) ?_|refine zX (gL HK 1) ?_);refine(yX.out A2 k2 c2 l2 _ mE.out (rO.out _ _ _ _ _ HK.out (fun z hz=>hz))).mono ?_;rintro en w5 ⟨A3,k3,c3,lo3,O3,m3,d3,R3,rfl,Ee,q3,HI3⟩;replace HK:=zH (HK.out.join q3);clear q3 yX;exact aex
theorem Cm(n:Int)(A:Option Addr)(k cp:Nat)(t:aH.T)(lo:List Oh)(e:aF.E)(w:World)(hs:bY w A k cp lo)(hf:aH.Fit t)(hv:e.cmd.val.f<18446744073709551616)(ho:e.cmd.old.f<18446744073709551616)(hr:e.r≤9223372036854775807)(hn:n≤9223372036854775807)(hcan:Ap.Can ⟨n,vs lo,t⟩ e)(h18:¬e.cmd.k=18)(hl:aH.look t (Ap.ref e)=2):
  Calls prog 10 #[.agg (stA n A k cp t),.agg (iN e)] w (dB (fun _=>True) (Ap.mD ⟨n,vs lo,t⟩ e) (Ap.rV ⟨n,vs lo,t⟩ e) w):=by
 rw[show Ap.mD ⟨n,vs lo,t⟩ e=Ap.sU ⟨n+1,vs lo,t⟩ e from if_pos hcan,show Ap.rV ⟨n,vs lo,t⟩ e=Ap.uO ⟨n+1,vs lo,t⟩ e from if_pos hcan];have HK:=kX w 33 (stA n A k cp t) 39 (iN e);have oU:=zH (fun W (hW:Below w.heap.size w W)=>lG A cp k lo W (hs.later hW));have kF:=zH (fun(A2:Option Addr) (k2 c2:Nat) (l2:List Oh) W (h:bY W A2 k2 c2 l2)=>gW n A2 k2 c2 t l2 W h hf);have iD:=zH (fun W=>ng e W hv ho);obtain⟨hok,hfi,h3⟩:=hcan;replace h3:¬n=9223372036854775807:=h3;have hok1:Ap.Ok ⟨n+1,vs lo,t⟩:=Ap.CB hok;have hc:0≤e.c∧e.c<5:=aH.kV (Ap.lX hfi);have HR1:=zH (decide_eq_true hok);have HR2:=zH (decide_eq_true hfi);have H3:Hid (decide (n=9223372036854775807)=false):=zH (decide_eq_false h3);have HW:Hid (IntKind.i64.wrap (n+1)=n+1):=zH (by have:=hok.n;have:0≤n:=this;rw[IntKind.wrap_i64];omega);unfold BK at oU;unfold cZ at kF;have FU:Hid (decide (e.cmd.k=18)=false):=zH (decide_eq_false h18);have og:=zH (fun W=>mR t (Ap.ref e) W hf hr);unfold gG at og;have hg:=Ap.afM (s:=⟨n+1,vs lo,t⟩) h18 hl;rw[hg.1,hg.2,hl] at *
 try dsimp only
 have Z1:Hid (decide ((2:Int)=1)=false):=zH rfl;have Z2:Hid (decide ((2:Int)=2)=true):=zH rfl;have Jl:=zH (fun W=>jX (Ap.ref e) (t.get e.c).p W);clear hs hf hv ho hr hn hok hok1 hfi h3 h18 hl hg;generalize vs lo=ls at *
 go_enter func10,ntmps10;go_wp2_with (first|(refine aU HK ?_;clear HK;intro _ g1 HK;simp only[aO,aJ] at HK)|refine zX (jl HK 0) ?_);refine(oU.out _ HK.out.b).mono ?_;rintro en w1 ⟨A2,k2,c2,l2,rfl,v2,q2,i2⟩;have mE:=zH v2;have rO:Hid (∀b W0 W L R,Kn b W0 W L R→(∀z∈(row aP (.slice A2 k2 c2) l2::l2.flatMap gU),z∈R)→bY W A2 k2 c2 l2):=zH fun b W0 W L R K hm=>K.obs (hm _ (List.mem_cons_self ..)) (fun y hy=>hm y (List.mem_cons_of_mem _ hy)) i2.fo i2.s.big;replace HK:=zH (HK.out.join q2);clear q2 v2 oU;simp only[aJ] at HK;generalize (row aP (.slice A2 k2 c2) l2::l2.flatMap gU)=Rc at *;go_wp2_with (first|(refine dF HK 0 ?_;clear HK;intro _ HK;simp only[lS] at HK)|refine zX (iB HK 0) ?_);refine cb (kF.out A2 k2 c2 l2 _ (rO.out _ _ _ _ _ HK.out (fun z hz=>hz))) HK ?_;clear HK;intro _ HK;rw[mE.out,HR1.out];go_wp2_with refine zX (gL HK 1) ?_;refine cb (iD.out _) HK ?_;clear HK;intro _ HK;rw[HR2.out]
 go_wp2_with (first|refine zX (jL HK 0) ?_|refine zX (aD (m:=n) (n:=9223372036854775807) H3.out) ?_|refine zX (dZ (m:=n) (n:=n+1) HW.out) ?_|(refine eY (m:=n+1) HK 0 ?_;clear HK;intro _ HK;simp only[lS] at HK)|refine zX (iZ (e:=e) HK 1) ?_|refine zX (aD (m:=e.cmd.k) (n:=18) FU.out) ?_|refine zX (eU HK 0) ?_|refine zX (aY HK 1) ?_);refine cb (og.out _) HK ?_;clear HK;intro _ HK;go_upto_region 11 with (first|refine zX (aD (m:=2) (n:=1) Z1.out) ?_|refine zX (aD (m:=2) (n:=2) Z2.out) ?_);have aj:=zH HK.out.drew;clear HK og iD kF;refine wp_region_held_drew (S:=(fun W=>Hid (Kn w.heap.size w W [(w.heap.size,33,stA (n+1) A2 k2 c2 t),(w.heap.size+1,39,iN e)] [])∧True)) (by kernel_rfl) ?_ fun ah=>?_
 ·(try dsimp only);exact And.intro (zH ((aj.out.aA 2).ay 0)) trivial
 refine ak 0 rfl ?_ fun _ s=>iB s.1 0
 refine ak 1 rfl ?_;refine ak 2 rfl ?_ fun _ s=>aY s.1 1
 refine ak 3 rfl ?_;refine ak 4 rfl ?_;refine ak 5 rfl ?_ fun _ s=>uN (e:=e) s.1 1
 refine ak 6 rfl ?_;refine ak 7 rfl ?_ fun _ s=>dV hc
 refine ak 8 rfl ?_;refine ak 9 rfl ?_ fun _ s=>aay s.1 0 hc
 refine aC 10 rfl fun K hK=>?_
 go_simp;go_at_call 27;refine(Jl.out _).mono ?_;rintro en w5 hq;obtain⟨A5,c5,rfl,o5,b5⟩:=hq.one;replace aj:=zH (aj.out.called b5 o5).lC;clear o5 b5;have hs:=And.intro (zH ((aj.out.aA 2).ay 0)) trivial;refine bk hK hs fun ah=>?_
 clear hK K;refine aC 11 rfl fun K hK=>?_
 refine bZ aj 2 ?_;clear aj;intro w9 aj;simp only[lS] at aj;have hs:=And.intro (zH ((aj.out.aA 2).ay 0)) trivial;refine bk hK hs fun ah=>?_
 clear hK K;refine ak 12 rfl ?_;refine bW ?_
 all_goals
  exact aes
theorem Ck(n:Int)(A:Option Addr)(k cp:Nat)(t:aH.T)(lo:List Oh)(e:aF.E)(w:World)(hs:bY w A k cp lo)(hf:aH.Fit t)(hv:e.cmd.val.f<18446744073709551616)(ho:e.cmd.old.f<18446744073709551616)(hr:e.r≤9223372036854775807)(hn:n≤9223372036854775807)(hcan:Ap.Can ⟨n,vs lo,t⟩ e)(h18:¬e.cmd.k=18)(hl:aH.look t (Ap.ref e)=4):
  Calls prog 10 #[.agg (stA n A k cp t),.agg (iN e)] w (dB (fun _=>True) (Ap.mD ⟨n,vs lo,t⟩ e) (Ap.rV ⟨n,vs lo,t⟩ e) w):=by
 rw[show Ap.mD ⟨n,vs lo,t⟩ e=Ap.sU ⟨n+1,vs lo,t⟩ e from if_pos hcan,show Ap.rV ⟨n,vs lo,t⟩ e=Ap.uO ⟨n+1,vs lo,t⟩ e from if_pos hcan];have HK:=kX w 33 (stA n A k cp t) 39 (iN e);have oU:=zH (fun W (hW:Below w.heap.size w W)=>lG A cp k lo W (hs.later hW));have kF:=zH (fun(A2:Option Addr) (k2 c2:Nat) (l2:List Oh) W (h:bY W A2 k2 c2 l2)=>gW n A2 k2 c2 t l2 W h hf);have iD:=zH (fun W=>ng e W hv ho);obtain⟨hok,hfi,h3⟩:=hcan;replace h3:¬n=9223372036854775807:=h3;have hok1:Ap.Ok ⟨n+1,vs lo,t⟩:=Ap.CB hok;have hc:0≤e.c∧e.c<5:=aH.kV (Ap.lX hfi);have HR1:=zH (decide_eq_true hok);have HR2:=zH (decide_eq_true hfi);have H3:Hid (decide (n=9223372036854775807)=false):=zH (decide_eq_false h3);have HW:Hid (IntKind.i64.wrap (n+1)=n+1):=zH (by have:=hok.n;have:0≤n:=this;rw[IntKind.wrap_i64];omega);unfold BK at oU;unfold cZ at kF;have FU:Hid (decide (e.cmd.k=18)=false):=zH (decide_eq_false h18);have og:=zH (fun W=>mR t (Ap.ref e) W hf hr);unfold gG at og
 have hg:Ap.sU ⟨n+1,vs lo,t⟩ e=⟨n+1,vs lo,t⟩∧Ap.uO ⟨n+1,vs lo,t⟩ e=[⟨Ap.ref e,av.err 14⟩]:=by
  unfold Ap.sU Ap.uO;dsimp only;rw[if_neg h18,if_neg h18,hl];exact ni
 rw[hg.1,hg.2,hl] at *
 try dsimp only
 have Z1:Hid (decide ((4:Int)=1)=false):=zH rfl;have Z2:Hid (decide ((4:Int)=2)=false):=zH rfl;have Z4:Hid (decide ((4:Int)=4)=true):=zH rfl;have Jl:=zH (fun W=>jX (Ap.ref e) (av.err 14) W);clear hs hf hv ho hr hn hok hok1 hfi h3 h18 hl hg;generalize vs lo=ls at *
 go_enter func10,ntmps10;go_wp2_with (first|(refine aU HK ?_;clear HK;intro _ g1 HK;simp only[aO,aJ] at HK)|refine zX (jl HK 0) ?_);refine(oU.out _ HK.out.b).mono ?_;rintro en w1 ⟨A2,k2,c2,l2,rfl,v2,q2,i2⟩;have mE:=zH v2;have rO:Hid (∀b W0 W L R,Kn b W0 W L R→(∀z∈(row aP (.slice A2 k2 c2) l2::l2.flatMap gU),z∈R)→bY W A2 k2 c2 l2):=zH fun b W0 W L R K hm=>K.obs (hm _ (List.mem_cons_self ..)) (fun y hy=>hm y (List.mem_cons_of_mem _ hy)) i2.fo i2.s.big;replace HK:=zH (HK.out.join q2);clear q2 v2 oU;simp only[aJ] at HK;generalize (row aP (.slice A2 k2 c2) l2::l2.flatMap gU)=Rc at *;go_wp2_with (first|(refine dF HK 0 ?_;clear HK;intro _ HK;simp only[lS] at HK)|refine zX (iB HK 0) ?_);refine cb (kF.out A2 k2 c2 l2 _ (rO.out _ _ _ _ _ HK.out (fun z hz=>hz))) HK ?_;clear HK;intro _ HK;rw[mE.out,HR1.out];go_wp2_with refine zX (gL HK 1) ?_;refine cb (iD.out _) HK ?_;clear HK;intro _ HK;rw[HR2.out]
 go_wp2_with (first|refine zX (jL HK 0) ?_|refine zX (aD (m:=n) (n:=9223372036854775807) H3.out) ?_|refine zX (dZ (m:=n) (n:=n+1) HW.out) ?_|(refine eY (m:=n+1) HK 0 ?_;clear HK;intro _ HK;simp only[lS] at HK)|refine zX (iZ (e:=e) HK 1) ?_|refine zX (aD (m:=e.cmd.k) (n:=18) FU.out) ?_|refine zX (eU HK 0) ?_|refine zX (aY HK 1) ?_);refine cb (og.out _) HK ?_;clear HK;intro _ HK;go_upto_region 13 with (first|refine zX (aD (m:=4) (n:=1) Z1.out) ?_|refine zX (aD (m:=4) (n:=2) Z2.out) ?_|refine zX (aD (m:=4) (n:=4) Z4.out) ?_);have aj:=zH HK.out.drew;clear HK og iD kF;refine wp_region_held_drew (S:=(fun W=>Hid (Kn w.heap.size w W [(w.heap.size,33,stA (n+1) A2 k2 c2 t),(w.heap.size+1,39,iN e)] [])∧True)) (by kernel_rfl) ?_ fun ah=>?_
 ·(try dsimp only);exact And.intro (zH ((aj.out.aA 2).ay 0)) trivial
 refine ak 0 rfl ?_ fun _ s=>iB s.1 0
 refine ak 1 rfl ?_;refine ak 2 rfl ?_ fun _ s=>aY s.1 1
 refine ak 3 rfl ?_ fun _ s=>mO (e:=14)
 refine aC 4 rfl fun K hK=>?_
 go_simp;go_at_call 27;refine(Jl.out _).mono ?_;rintro en w5 hq;obtain⟨A5,c5,rfl,o5,b5⟩:=hq.one;replace aj:=zH (aj.out.called b5 o5).lC;clear o5 b5;have hs:=And.intro (zH ((aj.out.aA 2).ay 0)) trivial;refine bk hK hs fun ah=>?_
 clear hK K;refine aC 5 rfl fun K hK=>?_
 refine bZ aj 2 ?_;clear aj;intro w9 aj;simp only[lS] at aj;have hs:=And.intro (zH ((aj.out.aA 2).ay 0)) trivial;refine bk hK hs fun ah=>?_
 clear hK K;refine ak 6 rfl ?_;refine bW ?_
 all_goals
  exact aes
theorem FB(n:Int)(A:Option Addr)(k cp:Nat)(t:aH.T)(lo:List Oh)(e:aF.E)(w:World)(hs:bY w A k cp lo)(hf:aH.Fit t)(hv:e.cmd.val.f<18446744073709551616)(ho:e.cmd.old.f<18446744073709551616)(hr:e.r≤9223372036854775807)(hn:n≤9223372036854775807)(hcan:Ap.Can ⟨n,vs lo,t⟩ e)(h18:¬e.cmd.k=18)(h1:¬aH.look t (Ap.ref e)=1)(h2:¬aH.look t (Ap.ref e)=2)(h4:¬aH.look t (Ap.ref e)=4):
  Calls prog 10 #[.agg (stA n A k cp t),.agg (iN e)] w (dB (fun _=>True) (Ap.mD ⟨n,vs lo,t⟩ e) (Ap.rV ⟨n,vs lo,t⟩ e) w):=by
 rw[show Ap.mD ⟨n,vs lo,t⟩ e=Ap.sU ⟨n+1,vs lo,t⟩ e from if_pos hcan,show Ap.rV ⟨n,vs lo,t⟩ e=Ap.uO ⟨n+1,vs lo,t⟩ e from if_pos hcan];have HK:=kX w 33 (stA n A k cp t) 39 (iN e);have oU:=zH (fun W (hW:Below w.heap.size w W)=>lG A cp k lo W (hs.later hW));have kF:=zH (fun(A2:Option Addr) (k2 c2:Nat) (l2:List Oh) W (h:bY W A2 k2 c2 l2)=>gW n A2 k2 c2 t l2 W h hf);have iD:=zH (fun W=>ng e W hv ho);obtain⟨hok,hfi,h3⟩:=hcan;replace h3:¬n=9223372036854775807:=h3;have hok1:Ap.Ok ⟨n+1,vs lo,t⟩:=Ap.CB hok;have hc:0≤e.c∧e.c<5:=aH.kV (Ap.lX hfi);have HR1:=zH (decide_eq_true hok);have HR2:=zH (decide_eq_true hfi);have H3:Hid (decide (n=9223372036854775807)=false):=zH (decide_eq_false h3);have HW:Hid (IntKind.i64.wrap (n+1)=n+1):=zH (by have:=hok.n;have:0≤n:=this;rw[IntKind.wrap_i64];omega);unfold BK at oU;unfold cZ at kF;have FU:Hid (decide (e.cmd.k=18)=false):=zH (decide_eq_false h18);have og:=zH (fun W=>mR t (Ap.ref e) W hf hr);unfold gG at og
 have hg:Ap.sU ⟨n+1,vs lo,t⟩ e=⟨n+1,vs lo,t⟩∧Ap.uO ⟨n+1,vs lo,t⟩ e=[]:=by
  unfold Ap.sU Ap.uO;dsimp only;rw[if_neg h18,if_neg h18,if_neg h1,if_neg h1,if_neg h2,if_neg h4];exact ni
 rw[hg.1,hg.2]
 try dsimp only
 have Z1:=zH (decide_eq_false h1);have Z2:=zH (decide_eq_false h2);have Z4:=zH (decide_eq_false h4);clear hs hf hv ho hr hn hok hok1 hfi h3 h18 h1 h2 h4 hg;generalize vs lo=ls at *
 generalize aH.look t (Ap.ref e)=z at *
 go_enter func10,ntmps10;go_wp2_with (first|(refine aU HK ?_;clear HK;intro _ g1 HK;simp only[aO,aJ] at HK)|refine zX (jl HK 0) ?_);refine(oU.out _ HK.out.b).mono ?_;rintro en w1 ⟨A2,k2,c2,l2,rfl,v2,q2,i2⟩;have mE:=zH v2;have rO:Hid (∀b W0 W L R,Kn b W0 W L R→(∀z∈(row aP (.slice A2 k2 c2) l2::l2.flatMap gU),z∈R)→bY W A2 k2 c2 l2):=zH fun b W0 W L R K hm=>K.obs (hm _ (List.mem_cons_self ..)) (fun y hy=>hm y (List.mem_cons_of_mem _ hy)) i2.fo i2.s.big;replace HK:=zH (HK.out.join q2);clear q2 v2 oU;simp only[aJ] at HK;generalize (row aP (.slice A2 k2 c2) l2::l2.flatMap gU)=Rc at *;go_wp2_with (first|(refine dF HK 0 ?_;clear HK;intro _ HK;simp only[lS] at HK)|refine zX (iB HK 0) ?_);refine cb (kF.out A2 k2 c2 l2 _ (rO.out _ _ _ _ _ HK.out (fun z hz=>hz))) HK ?_;clear HK;intro _ HK;rw[mE.out,HR1.out];go_wp2_with refine zX (gL HK 1) ?_;refine cb (iD.out _) HK ?_;clear HK;intro _ HK;rw[HR2.out]
 go_wp2_with (first|refine zX (jL HK 0) ?_|refine zX (aD (m:=n) (n:=9223372036854775807) H3.out) ?_|refine zX (dZ (m:=n) (n:=n+1) HW.out) ?_|(refine eY (m:=n+1) HK 0 ?_;clear HK;intro _ HK;simp only[lS] at HK)|refine zX (iZ (e:=e) HK 1) ?_|refine zX (aD (m:=e.cmd.k) (n:=18) FU.out) ?_|refine zX (eU HK 0) ?_|refine zX (aY HK 1) ?_);refine cb (og.out _) HK ?_;clear HK;intro _ HK;go_wp2_with (first|refine zX (aD (m:=z) (n:=1) Z1.out) ?_|refine zX (aD (m:=z) (n:=2) Z2.out) ?_|refine zX (aD (m:=z) (n:=4) Z4.out) ?_|refine zX (iB HK 0) ?_|(refine bA HK 2 ?_;clear HK;intro _ HK;simp only[lS] at HK));refine dQ results10 (HK.out.blk 2 rfl) ?_;unfold dB;exact⟨A2,k2,c2,l2,none,0,0,_,rfl,mE,HK.out.aA 0,zH fun b W0 W L R K hm hg=>⟨rO.out b W0 W L R K hm,bJ.none W⟩⟩
theorem tu(n:Int)(A:Option Addr)(k cp:Nat)(t:aH.T)(lo:List Oh)(e:aF.E)(w:World)(hs:bY w A k cp lo)(hf:aH.Fit t)(hv:e.cmd.val.f<18446744073709551616)(ho:e.cmd.old.f<18446744073709551616)(hr:e.r≤9223372036854775807)(hn:n≤9223372036854775807):
  Calls prog 10 #[.agg (stA n A k cp t),.agg (iN e)] w (dB (fun _=>True) (Ap.mD ⟨n,vs lo,t⟩ e) (Ap.rV ⟨n,vs lo,t⟩ e) w):=by
 by_cases hcan:Ap.Can ⟨n,vs lo,t⟩ e
 case neg=>exact Jd n A k cp t lo e w hs hf hv ho hcan
 by_cases h18:e.cmd.k=18
 ·exact Jc n A k cp t lo e w hs hf hv ho hr hn hcan h18
 by_cases h1:aH.look t (Ap.ref e)=1
 ·exact Lp n A k cp t lo e w hs hf hv ho hr hn hcan h18 h1
 by_cases h2:aH.look t (Ap.ref e)=2
 ·exact Cm n A k cp t lo e w hs hf hv ho hr hn hcan h18 h2
 by_cases h4:aH.look t (Ap.ref e)=4
 ·exact Ck n A k cp t lo e w hs hf hv ho hr hn hcan h18 h4
 ·exact FB n A k cp t lo e w hs hf hv ho hr hn hcan h18 h1 h2 h4
end
section
namespace Ap
def Js(c e r k:Int)(s:ByteArray)(n:Int):aF.E:=⟨c,e,r,⟨k,s,⟨#[]⟩,⟨0,0,0,⟨#[]⟩⟩,⟨0,0,0,⟨#[]⟩⟩,n,0⟩⟩
def nl:ByteArray:=⟨#[108]⟩
def NH:List aF.E:=[Js 0 1 0 1 ⟨#[]⟩ 0,Js 0 1 1 4 nl 3,Js 0 1 2 12 nl 0,Js 1 1 0 1 ⟨#[]⟩ 0,Js 1 1 1 12 nl 0,Js 0 1 0 18 ⟨#[]⟩ 0,Js 0 1 3 12 nl 0]
theorem ahK:(all s0 NH).1.n=7:=by decide +kernel
theorem ahJ:(all s0 NH).2.length=6:=by decide +kernel
theorem ahN:(all s0 NH).2[4]?=some ⟨⟨1,1,1⟩,av.rz⟩:=by decide +kernel
theorem ahM:(all s0 NH).2[5]?=some ⟨⟨0,1,3⟩,av.err 14⟩:=by decide +kernel
theorem ahL:aH.Fit (all s0 NH).1.t:=fun c hc=>by rcases aH.gN hc with rfl|rfl|rfl|rfl|rfl<;>decide +kernel
end Ap
end
section
namespace Ap
open av aH
theorem yc{s:St}(hf:aH.Fit s.t){c:Int}:aH.Fit (dX s c).t:=sW (fun y hy=>tY (mo) y hy) (aH.qg hf c)
theorem Dn{s:St}{c:Int}:(eZ s c).length≤9:=nO s c (lF _ _)
theorem go_fit{s:St}(hs:∀o∈s.l,WM o)(hf:aH.Fit s.t)(e:aF.E):aH.Fit (sU s e).t:=by
 have hd:=uq hs (ref e) e.cmd;unfold sU
 split
 ·split
  ·exact yc hf
  ·exact hf
 split
 ·split
  ·refine aH.UW ?_ _
   unfold left
   split
   ·exact yc hf
   ·exact hf
  ·unfold gB
   split
   ·exact aH.mM (aH.lN hf _) _ zf
   split
   ·exact yc (s:=touch s (ref e)) (aH.mM (aH.lN hf _) _ zf)
   split
   ·exact aH.lN hf _
   ·exact sW (fun y hy=>tY hd.2 y hy) (aH.mM (aH.lN hf _) _ hd.1)
 ·exact hf
theorem VW{s:St}(hs:∀o∈s.l,WM o)(hf:aH.Fit s.t)(e:aF.E):aH.Fit (mD s e).t:=by
 unfold mD
 split
 ·exact go_fit (s:=up s) hs hf e
 ·exact hf
theorem acZ{s:St}(e:aF.E):(uO s e).length≤10:=by
 unfold uO nK jE
 repeat' split
 all_goals first
  | exact Nat.le_trans (Dn) (by decide)
  | exact Nat.zero_le _
  | exact Nat.succ_le_succ (Dn)
  | exact Nat.succ_le_succ (Nat.le_trans (Fh _ _ _) (by decide))
  | (show 1≤10;decide)
theorem VX(s:St)(e:aF.E):(rV s e).length≤10:=by
 unfold rV
 split
 ·exact acZ e
 ·exact Nat.zero_le _
theorem afY(s:St)(e:aF.E):s.n≤(mD s e).n∧(mD s e).n≤s.n+1:=by
 unfold mD
 split
 ·rw[ahC]
  show s.n≤s.n+1∧s.n+1≤s.n+1
  omega
 ·omega
theorem Je(s:St)(x:aF.E):∀l,all s (l++[x])=(mD (all s l).1 x,(all s l).2++rV (all s l).1 x)
 | []=>by show(mD s x,rV s x++[])=(mD s x,[]++rV s x);rw[List.append_nil];rfl
 | e::m=>by
  show((all (mD s e) (m++[x])).1,rV s e++(all (mD s e) (m++[x])).2)=_
  rw[Je (mD s e) x m,← List.append_assoc]
  rfl
theorem Wi{s:St}{l:List aF.E}{i:Nat}{x:aF.E}(h:l[i]?=some x):all s (l.take (i+1))=(mD (all s (l.take i)).1 x,(all s (l.take i)).2++rV (all s (l.take i)).1 x):=by
 rw[List.take_add_one,h];exact Je s x _
theorem aaO:∀(l:List aF.E) (s:St),s.n≤(all s l).1.n∧(all s l).1.n≤s.n+l.length
 | [],s=>by show s.n≤s.n∧s.n≤s.n+0;omega
 | e::m,s=>by
  have h1:=aaO m (mD s e);have h2:=afY s e
  show s.n≤(all (mD s e) m).1.n∧(all (mD s e) m).1.n≤s.n+((m.length+1:Nat):Int)
  omega
theorem FE:∀(l:List aF.E) (s:St),(all s l).2.length≤10*l.length
 | [],s=>Nat.zero_le _
 | e::m,s=>by
  have h1:=FE m (mD s e);have h2:=VX s e
  show(rV s e++(all (mD s e) m).2).length≤10*(m.length+1)
  rw[List.length_append];omega
theorem Wh:∀(l:List aF.E) {s:St},Ok s→Ok (all s l).1
 | [],_,h=>h
 | e::m,s,h=>Wh m (s:=mD s e) (VU h e)
theorem all_good:∀(l:List aF.E) {s:St} {O:List Ot},Ok s→Good s.t O→Good (all s l).1.t (O++(all s l).2)
 | [],s,O,_,g=>by show Good s.t (O++[]);rw[List.append_nil];exact g
 | e::m,s,O,h,g=>by
  have h2:=all_good m (s:=mD s e) (VU h e) (YQ h e g)
  show Good (all (mD s e) m).1.t (O++(rV s e++(all (mD s e) m).2))
  rw[← List.append_assoc];exact h2
theorem FD(l:List aF.E){x y:Ot}(hx:x∈(all s0 l).2)(hy:y∈(all s0 l).2)(h:x.r=y.r):x.p=y.p:=by
 have g:=all_good l (s:=s0) (O:=[]) acr (Good.nil _);rw[aJ] at g;exact g.one x hx y hy h
end Ap
end
section
open Go.ChangeShapes Go.WideShapes Go.Deep Go.RowKit
def cmL(c:aF.C):List Value:=
 [.int .i64 c.k,.string c.name,.string c.key,.int .i64 c.val.k,.int .i64 c.val.n,.int .u64 (c.val.f:Int),.string c.val.s,.int .i64 c.old.k,.int .i64 c.old.n,.int .u64 (c.old.f:Int),.string c.old.s,.int .i64 c.n,.int .i64 c.m]
section
variable {H:Type}{enc:TypeId×Value→H}{W:World}{base:Nat}{α:Type}
theorem Qx:prog.cellsOf 37=13:=by kernel_rfl
theorem xX:nY enc 37 cmL (fun c=>c.val.f<18446744073709551616∧c.old.f<18446744073709551616):=fun W n cs x ht=>by
 obtain⟨ys,m,_,hx,hlen,hyl,hf⟩:=DataW.trod_struct underlying37 ht;have hlen:cs.length=prog.cellsOf 37:=hlen;rw[Qx] at hlen
 match cs,hlen,ys,hyl with
 | [v0,v1,v2,v3,v4,v5,v6,v7,v8,v9,v10,v11,v12],_,[y0,y1,y2,y3,y4,y5,y6],_=>
  have f0:=hf 0 _ rfl;have f1:=hf 1 _ rfl;have f2:=hf 2 _ rfl;have f3:=hf 3 _ rfl;have f4:=hf 4 _ rfl;have f5:=hf 5 _ rfl;have f6:=hf 6 _ rfl;simp only[List.getElem?_cons_zero,List.getElem?_cons_succ] at f0 f1 f2 f3 f4 f5 f6;obtain⟨a0,e0,_,_⟩:=DataW.trod_int underlying3 f0;obtain⟨a1,e1,_,_⟩:=DataW.trod_string underlying9 f1;obtain⟨a2,e2,_,_⟩:=DataW.trod_string underlying9 f2;obtain⟨a3,e3,w3⟩:=mW (enc:=enc) W _ _ _ f3;obtain⟨a4,e4,w4⟩:=mW (enc:=enc) W _ _ _ f4;obtain⟨a5,e5,_,_⟩:=DataW.trod_int underlying3 f5;obtain⟨a6,e6,_,_⟩:=DataW.trod_int underlying3 f6;cases e0;cases e1;cases e2;cases e3;cases e4;cases e5;cases e6;exact⟨⟨a0,a1,a2,a3,a4,a5,a6⟩,rfl,w3,w4⟩
theorem Lift.Given.cmd{ts:List TypeId}{args:List Value}{ds:List (DataW H)}{before:List MemPlace}(h:Lift.Given enc prog (37::ts) W base args ds before):
  ∃(x:aF.C) (vs:List Value) (d:DataW H) (ds':List (DataW H)) (q:List MemPlace),args=.agg (cmL x).toArray::vs∧ds=d::ds'∧(x.val.f<18446744073709551616∧x.old.f<18446744073709551616)∧Lift.Given enc prog ts W base vs ds' q:=h.one xX underlying37
end
end
section
open Go.ChangeShapes Go.WideShapes Go.Deep Go.RowKit
section
variable {H:Type}{enc:TypeId×Value→H}{W:World}{base:Nat}
theorem Lift.Given.mt{ts:List TypeId}{args:List Value}{ds:List (DataW H)}{before:List MemPlace}(h:Lift.Given enc prog (61::ts) W base args ds before):
  ∃(x:mG) (vs:List Value) (d:DataW H) (ds':List (DataW H)) (q:List MemPlace),args=.agg (mL x).toArray::vs∧ds=d::ds'∧Mt.Fit x∧Lift.Given enc prog ts W base vs ds' q:=h.one GJ underlying61
end
end
section
open Go.ChangeShapes Go.WideShapes Go.Deep Go.RowKit
section
variable {H:Type}{enc:TypeId×Value→H}{P:Program}{W:World}{base:Nat}{α:Type}
def Wq(enc:TypeId×Value→H)(W:World)(L:Lay P α)(Good:α→DataW H→Prop):Prop:=
 ∀(n:Nat) (cs:List Value) (x:DataW H×List MemPlace),DataW.trod enc P W 0 (fun _=>true) true n L.e cs=some x→∃it:α,cs=L.f it∧Good it x.1
theorem oZ{L:Lay P α}{Good:α→DataW H→Prop}(hop:Opens enc L Good)(hcells:P.cellsOf L.e=L.k)(hbytes:P.bytesOf L.e=L.bytes)
  {fuel:Nat} {cs:List Value} {d:DataW H} {p:List MemPlace} (h0:DataW.trod enc P W 0 (fun _=>true) true fuel L.t cs=some (d,p)) (hw:(d.weights P L.t).all (·≤reachBytes)=true) :
  ∃(A:Option Addr) (c:Nat) (l:List α),cs=[.slice A l.length c]∧L.Reads W W.heap.size A l∧(A=none→l=[])∧(∀x∈l,∃dx,Good x dx)∧l.length*L.bytes≤reachBytes∧l.length≤c:=by
 rcases open_slice L.und h0 with ⟨hcs,hx⟩|⟨a,len,cap,m,n,D,Pl,hcs,_,hl,hm,hmm,hx,hi⟩
 ·exact⟨none,0,[],hcs,Lay.Reads.nil _ _ _,fun _=>rfl,(fun x hx=>by cases hx),by simp,Nat.le_refl _⟩
 ·simp only[if_true] at hmm
  subst hmm;cases hx
  have hall:∀i,i<m→∃it:α,(∀j u,(L.f it)[j]?=some u→W.cell? ((a.add (i*L.k)).add j)=some u)∧Good it (D i):=fun i him=>by
   obtain⟨cs,hc,ht⟩:=hi i him;obtain⟨it,rfl,hg⟩:=hop W _ _ _ ht;exact abl
  by_cases h0:len=0
  ·subst h0
   exact ZL
  have:Inhabited α:=⟨(hall 0 (by omega)).choose⟩;obtain⟨f,hf⟩:=choose_lt hall;have hlen:((List.range len).map f).length=len:=by simp
  have hget:∀i x,((List.range len).map f)[i]?=some x→i<len∧x=f i:=fun i x hx=>by
   rw[List.getElem?_map] at hx;obtain⟨j,hj,rfl⟩:=Option.map_eq_some_iff.1 hx
   have hlt:i<len:=by
    rcases Nat.lt_or_ge i len with h|h
    ·exact h
    ·rw[List.getElem?_eq_none (by simpa using h)] at hj;cases hj
   rw[List.getElem?_range hlt] at hj;cases hj;exact⟨hlt,rfl⟩
  have hsome:∃u,W.cell? a=some u:=by
   exact abm
  obtain⟨u0,hu0⟩:=hsome
  have ha:a=⟨a.block,a.off,none⟩:=by
   obtain⟨b,o,sp⟩:=a
   cases sp with
   | none=>rfl
   | some z=>unfold World.cell? at hu0;split at hu0<;>simp at hu0
  have hW:(DataW.weights P L.t (.slice ((List.range len).map D) ((List.range (m-len)).map fun j=>D (len+j)):DataW H)).all (·≤reachBytes)=true:=hw;unfold DataW.weights at hW;rw[L.und] at hW;simp only[List.all_cons,List.all_append,Bool.and_eq_true,decide_eq_true_eq,List.length_map,List.length_range,hbytes] at hW;obtain⟨hW1,_,_⟩:=hW;refine⟨some a,m,(List.range len).map f,by rw[hlen];exact hcs,fun hp=>?_,(fun h=>by cases h),(fun x hx=>?_),?_,by rw[hlen];exact hl⟩
  ·refine⟨a.block,a.off,by rw[← ha],World.block_lt_of_cell? W a hu0,fun i x hx j u hu=>?_⟩
   exact RF
  ·obtain⟨i,hi',rfl⟩:=List.mem_map.1 hx
   exact⟨D i,(hf i (by have:=List.mem_range.1 hi';omega)).2⟩
  ·rw[hlen]
   exact Ro
end
section
variable {H:Type}{enc:TypeId×Value→H}{W:World}{base:Nat}
theorem IW:prog.cellsOf 103=5:=by kernel_rfl
theorem VK:prog.bytesOf 103=56:=by kernel_rfl
theorem TH:Opens enc bO (fun p _=>p.val.f<18446744073709551616):=fun W n cs x ht=>by
 obtain⟨ys,m,_,hx,hlen,hyl,hf⟩:=DataW.trod_struct underlying103 ht;have hlen:cs.length=prog.cellsOf 103:=hlen;rw[IW] at hlen
 match cs,hlen,ys,hyl with
 | [v0,v1,v2,v3,v4],_,[y0,y1],_=>
  have f0:=hf 0 _ rfl;have f1:=hf 1 _ rfl;simp only[List.getElem?_cons_zero,List.getElem?_cons_succ] at f0 f1;obtain⟨a0,e0,_,_⟩:=DataW.trod_string underlying9 f0;obtain⟨a1,e1,w1⟩:=mW (enc:=enc) W _ _ _ f1;cases e0;cases e1;exact⟨⟨a0,a1⟩,rfl,w1⟩
theorem IX:prog.cellsOf 63=11:=by kernel_rfl
theorem VL:prog.bytesOf 63=144:=by kernel_rfl
theorem sI:reachBytes=140737488351232:=rfl
theorem TI:Wq enc W aP (fun x dx=>(dx.weights prog 63).all (·≤reachBytes)=true→In W x):=fun n cs x ht=>by
 obtain⟨ys,m,_,hx,hlen,hyl,hf⟩:=DataW.trod_struct underlying63 ht;have hlen:cs.length=prog.cellsOf 63:=hlen;rw[IX] at hlen
 match cs,hlen,ys,hyl with
 | [v0,v1,v2,v3,v4,v5,v6,v7,v8,v9,v10],_,[y0,y1,y2,(d3,p3),(d4,p4),(d5,p5),y6,y7],_=>
  have f0:=hf 0 _ rfl;have f1:=hf 1 _ rfl;have f2:=hf 2 _ rfl;have f3:=hf 3 _ rfl;have f4:=hf 4 _ rfl;have f5:=hf 5 _ rfl;have f6:=hf 6 _ rfl;have f7:=hf 7 _ rfl;simp only[List.getElem?_cons_zero,List.getElem?_cons_succ] at f0 f1 f2 f3 f4 f5 f6 f7;obtain⟨a0,e0,_,_⟩:=DataW.trod_string underlying9 f0;obtain⟨a1,e1,_,_⟩:=DataW.trod_int underlying3 f1;obtain⟨a2,e2,_,_⟩:=DataW.trod_int underlying3 f2;obtain⟨a6,e6,_,w6⟩:=DataW.trod_int underlying3 f6;obtain⟨a7,e7,w7⟩:=GJ (enc:=enc) W _ _ _ f7;have hd:x.1=.agg [y0.1,y1.1,y2.1,d3,d4,d5,y6.1,y7.1]:=congrArg Prod.fst hx;by_cases hw:(x.1.weights prog 63).all (·≤reachBytes)=true
  case neg=>
   have hs3:∃A n c,v3=.slice A n c:=by
    rcases open_slice underlying57 f3 with ⟨hcs,_⟩|⟨a,len,cap,m,n,D,Pl,hcs,_⟩
    ·injection hcs with h;exact⟨_,_,_,h⟩
    ·injection hcs with h;exact⟨_,_,_,h⟩
   have hs4:∃A n c,v4=.slice A n c:=by
    rcases open_slice underlying58 f4 with ⟨hcs,_⟩|⟨a,len,cap,m,n,D,Pl,hcs,_⟩
    ·injection hcs with h;exact⟨_,_,_,h⟩
    ·injection hcs with h;exact⟨_,_,_,h⟩
   have hs5:∃A n c,v5=.slice A n c:=by
    rcases open_slice underlying59 f5 with ⟨hcs,_⟩|⟨a,len,cap,m,n,D,Pl,hcs,_⟩
    ·injection hcs with h;exact⟨_,_,_,h⟩
    ·injection hcs with h;exact⟨_,_,_,h⟩
   obtain⟨A3,n3,c3,rfl⟩:=hs3;obtain⟨A4,n4,c4,rfl⟩:=hs4;obtain⟨A5,n5,c5,rfl⟩:=hs5;cases e0;cases e1;cases e2;cases e6;cases e7;exact⟨⟨⟨a0,a1,a2,[],[],[],a6,a7⟩,A3,n3,c3,A4,n4,c4,A5,n5,c5⟩,rfl,fun h=>absurd h hw⟩
  case pos=>
   have hw2:=hw;rw[hd] at hw2;unfold DataW.weights at hw2;rw[underlying63] at hw2;simp only[List.map_cons,List.map_nil,DataW.weightsEach,List.all_append,Bool.and_eq_true] at hw2;obtain⟨_,_,_,hw3,hw4,hw5,_⟩:=hw2;obtain⟨A3,c3,l3,hc3,r3,n3,g3,b3,k3⟩:=oZ (L:=bO) TH IW VK (cs:=[v3]) f3 hw3;obtain⟨A4,c4,l4,hc4,r4,n4,g4,b4,k4⟩:=oZ (L:=bg) Db yx DR (cs:=[v4]) f4 hw4;obtain⟨A5,c5,l5,hc5,r5,n5,g5,b5,k5⟩:=oZ (L:=aG) Ay xg IY (cs:=[v5]) f5 hw5;injection hc3 with hc3;injection hc4 with hc4;injection hc5 with hc5;subst hc3 hc4 hc5;cases e0;cases e1;cases e2;cases e6;cases e7;refine⟨⟨⟨a0,a1,a2,l3,l4,l5,a6,a7⟩,A3,l3.length,c3,A4,l4.length,c4,A5,l5.length,c5⟩,rfl,fun _=>⟨?_,?_,?_,w7,by have:=bounds_i64 w6;show a6≤_;omega⟩⟩
   ·refine bJ.sl ⟨rfl,k3,r3,n3,fun y hy=>?_,?_⟩
    ·obtain⟨_,g⟩:=g3 y hy;exact g
    ·have h:l3.length*56≤reachBytes:=b3
     rw[sI] at h
     show l3.length*56≤_
     omega
   ·refine⟨rfl,k4,r4,n4,fun y hy=>?_,?_⟩
    ·obtain⟨_,g⟩:=g4 y hy;exact g
    ·have h:l4.length*40≤reachBytes:=b4
     rw[sI] at h
     show l4.length*40≤_
     omega
   ·refine⟨rfl,k5,r5,n5,fun y hy=>trivial,?_⟩
    have h:l5.length*24≤reachBytes:=b5;rw[sI] at h
    show l5.length*24≤_
    omega
end
end
section
open Go.ChangeShapes Go.WideShapes Go.Deep Go.RowKit
def evL(e:aF.E):List Value:=
 [.int .i64 e.c,.int .i64 e.e,.int .i64 e.r,.int .i64 e.cmd.k,.string e.cmd.name,.string e.cmd.key,.int .i64 e.cmd.val.k,.int .i64 e.cmd.val.n,.int .u64 (e.cmd.val.f:Int),.string e.cmd.val.s,.int .i64 e.cmd.old.k,.int .i64 e.cmd.old.n,.int .u64 (e.cmd.old.f:Int),.string e.cmd.old.s,.int .i64 e.cmd.n,.int .i64 e.cmd.m]
theorem Uz:(prog.info? 39).map (fun i=>(i.zero,i.size,i.bytes))=some (some (Value.agg #[.int .i64 0,.int .i64 0,.int .i64 0,.int .i64 0,.string ⟨#[]⟩,.string ⟨#[]⟩,.int .i64 0,.int .i64 0,.int .u64 0,.string ⟨#[]⟩,.int .i64 0,.int .i64 0,.int .u64 0,.string ⟨#[]⟩,.int .i64 0,.int .i64 0]),16,160):=by kernel_rfl
def nW:Lay prog aF.E where
 t:=49
 e:=39
 k:=16
 bytes:=160
 z:=.agg #[.int .i64 0,.int .i64 0,.int .i64 0,.int .i64 0,.string ⟨#[]⟩,.string ⟨#[]⟩,.int .i64 0,.int .i64 0,.int .u64 0,.string ⟨#[]⟩,.int .i64 0,.int .i64 0,.int .u64 0,.string ⟨#[]⟩,.int .i64 0,.int .i64 0]
 f:=evL
 len:=fun _=>rfl
 one:=fun x u hu=>by
  unfold evL at hu;simp only[List.mem_cons,List.not_mem_nil,or_false] at hu
  rcases hu with rfl|rfl|rfl|rfl|rfl|rfl|rfl|rfl|rfl|rfl|rfl|rfl|rfl|rfl|rfl|rfl<;>rfl
 und:=underlying49
 info:=Uz
 zs:=rfl
 pos:=by decide
 small:=by decide
section
variable {H:Type}{enc:TypeId×Value→H}{W:World}{base:Nat}{α:Type}
theorem Qw:prog.cellsOf 35=3:=by kernel_rfl
theorem BD:prog.cellsOf 39=16:=by kernel_rfl
theorem VN:prog.bytesOf 39=160:=by kernel_rfl
theorem Pv:nY enc 35 (fun r:Int×Int×Int=>[.int .i64 r.1,.int .i64 r.2.1,.int .i64 r.2.2]) (fun _=>True):=fun W n cs x ht=>by
 obtain⟨ys,m,_,hx,hlen,hyl,hf⟩:=DataW.trod_struct underlying35 ht;have hlen:cs.length=prog.cellsOf 35:=hlen;rw[Qw] at hlen
 match cs,hlen,ys,hyl with
 | [v0,v1,v2],_,[y0,y1,y2],_=>
  have f0:=hf 0 _ rfl;have f1:=hf 1 _ rfl;have f2:=hf 2 _ rfl;simp only[List.getElem?_cons_zero,List.getElem?_cons_succ] at f0 f1 f2;obtain⟨a0,e0,_,_⟩:=DataW.trod_int underlying3 f0;obtain⟨a1,e1,_,_⟩:=DataW.trod_int underlying3 f1;obtain⟨a2,e2,_,_⟩:=DataW.trod_int underlying3 f2;cases e0;cases e1;cases e2;exact⟨(a0,a1,a2),rfl,trivial⟩
theorem Pw:nY enc 39 evL (fun e=>e.cmd.val.f<18446744073709551616∧e.cmd.old.f<18446744073709551616):=fun W n cs x ht=>by
 obtain⟨ys,m,_,hx,hlen,hyl,hf⟩:=DataW.trod_struct underlying39 ht;have hlen:cs.length=prog.cellsOf 39:=hlen;rw[BD] at hlen
 match cs,hlen,ys,hyl with
 | [v0,v1,v2,v3,v4,v5,v6,v7,v8,v9,v10,v11,v12,v13,v14,v15],_,[y0,y1],_=>
  have f0:=hf 0 _ rfl;have f1:=hf 1 _ rfl;simp only[List.getElem?_cons_zero,List.getElem?_cons_succ] at f0 f1;obtain⟨⟨a0,a1,a2⟩,e0,_⟩:=Pv (enc:=enc) W _ _ _ f0;obtain⟨a3,e1,w3⟩:=xX (enc:=enc) W _ _ _ f1;cases e0;cases e1;exact⟨⟨a0,a1,a2,a3⟩,rfl,w3⟩
theorem Lift.Given.ev{ts:List TypeId}{args:List Value}{ds:List (DataW H)}{before:List MemPlace}(h:Lift.Given enc prog (39::ts) W base args ds before):
  ∃(x:aF.E) (vs:List Value) (d:DataW H) (ds':List (DataW H)) (q:List MemPlace),args=.agg (evL x).toArray::vs∧ds=d::ds'∧(x.cmd.val.f<18446744073709551616∧x.cmd.old.f<18446744073709551616)∧Lift.Given enc prog ts W base vs ds' q:=h.one Pw underlying39
end
end
section
open Go.ChangeShapes Go.WideShapes Go.Deep Go.RowKit
section
variable {H:Type}{enc:TypeId×Value→H}{W:World}{base:Nat}
theorem Pt:nY enc 35 WR (fun x=>x.r≤9223372036854775807):=fun W n cs x ht=>by
 obtain⟨ys,m,_,hx,hlen,hyl,hf⟩:=DataW.trod_struct underlying35 ht;have hlen:cs.length=prog.cellsOf 35:=hlen;rw[xg] at hlen
 match cs,hlen,ys,hyl with
 | [v0,v1,v2],_,[y0,y1,y2],_=>
  have f0:=hf 0 _ rfl;have f1:=hf 1 _ rfl;have f2:=hf 2 _ rfl;simp only[List.getElem?_cons_zero,List.getElem?_cons_succ] at f0 f1 f2;obtain⟨a0,e0,_,_⟩:=DataW.trod_int underlying3 f0;obtain⟨a1,e1,_,_⟩:=DataW.trod_int underlying3 f1;obtain⟨a2,e2,_,w2⟩:=DataW.trod_int underlying3 f2;cases e0;cases e1;cases e2;exact⟨⟨a0,a1,a2⟩,rfl,by have:=bounds_i64 w2;show a2≤_;omega⟩
def seL(s:aH.S):List Value:=[.bool s.live,.int .i64 s.ep,.int .i64 s.rq,.bool s.dn,.int .i64 s.p.e,.int .i64 s.p.v.k,.int .i64 s.p.v.n,.int .u64 (s.p.v.f:Int),.string s.p.v.s]
theorem DL:prog.cellsOf 30=9:=by kernel_rfl
theorem DK:prog.cellsOf 31=45:=by kernel_rfl
theorem TF:nY enc 30 seL (fun s=>s.p.v.f<18446744073709551616):=fun W n cs x ht=>by
 obtain⟨ys,m,_,hx,hlen,hyl,hf⟩:=DataW.trod_struct underlying30 ht;have hlen:cs.length=prog.cellsOf 30:=hlen;rw[DL] at hlen
 match cs,hlen,ys,hyl with
 | [v0,v1,v2,v3,v4,v5,v6,v7,v8],_,[y0,y1,y2,y3,y4],_=>
  have f0:=hf 0 _ rfl;have f1:=hf 1 _ rfl;have f2:=hf 2 _ rfl;have f3:=hf 3 _ rfl;have f4:=hf 4 _ rfl;simp only[List.getElem?_cons_zero,List.getElem?_cons_succ] at f0 f1 f2 f3 f4;obtain⟨a0,e0,_⟩:=DataW.trod_bool underlying4 f0;obtain⟨a1,e1,_,_⟩:=DataW.trod_int underlying3 f1;obtain⟨a2,e2,_,_⟩:=DataW.trod_int underlying3 f2;obtain⟨a3,e3,_⟩:=DataW.trod_bool underlying4 f3;obtain⟨a4,e4,w4⟩:=TG (enc:=enc) W _ _ _ f4;cases e0;cases e1;cases e2;cases e3;cases e4;exact⟨⟨a0,a1,a2,a3,a4⟩,rfl,w4⟩
theorem XU{l:List Value}(h:l.length=45)(f:Nat→aH.S)(hf:∀i,i<5→(l.drop (i*9)).take 9=seL (f i)):l=seL (f 0)++(seL (f 1)++(seL (f 2)++(seL (f 3)++seL (f 4)))):=by
 have cut:∀k,(l.drop k).take 9++l.drop (k+9)=l.drop k:=fun k=>by
  rw[← List.drop_drop];exact List.take_append_drop 9 (l.drop k)
 have last:(l.drop 36).take 9=l.drop 36:=List.take_of_length_le (by rw[List.length_drop];omega);rw[← hf 0 (by decide),← hf 1 (by decide),← hf 2 (by decide),← hf 3 (by decide),← hf 4 (by decide)];have c0:=cut 0;have c1:=cut 9;have c2:=cut 18;have c3:=cut 27;simp only[Nat.reduceMul,Nat.reduceAdd,Nat.zero_mul,Nat.zero_add] at c0 c1 c2 c3 ⊢;rw[last,c3,c2,c1,c0]
 rfl
theorem Pq:nY enc 31 (fun t=>(dR t).toList) aH.Fit:=fun W n cs x ht=>by
 obtain⟨xs,m,_,hx,hlen,hxl,hel⟩:=DataW.trod_array underlying31 ht;rw[DK] at hlen;rw[DL] at hel
 have hall:∀i,i<5→∃s:aH.S,(cs.drop (i*9)).take 9=seL s∧s.p.v.f<18446744073709551616:=fun i hi=>by
  have h1:=hel i hi;rw[List.getElem?_eq_getElem (by omega)] at h1;obtain⟨s,e,g⟩:=TF (enc:=enc) W _ _ _ h1;exact⟨s,e,g⟩
 have:Inhabited aH.S:=⟨aH.z⟩;obtain⟨f,hf⟩:=choose_lt hall;refine⟨⟨f 0,f 1,f 2,f 3,f 4⟩,(XU hlen f (fun i hi=>(hf i hi).1)).trans rfl,fun c hc=>?_⟩
 rcases aH.gN hc with rfl|rfl|rfl|rfl|rfl
 ·exact(hf 0 (by decide)).2
 ·exact(hf 1 (by decide)).2
 ·exact(hf 2 (by decide)).2
 ·exact(hf 3 (by decide)).2
 ·exact(hf 4 (by decide)).2
end
end
end Go.Proofs.YtieoeendnccafaaGreat
