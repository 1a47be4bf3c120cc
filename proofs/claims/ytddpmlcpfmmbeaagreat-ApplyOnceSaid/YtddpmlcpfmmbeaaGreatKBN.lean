/- The law's example, in the pure model. No condition but those named. -/
import Derived.Test.YtddpmlcpfmmbeaaGreatTk
import Derived.Test.YtddpmlcpfmmbeaaGreatKBM
import Derived.Test.YtddpmlcpfmmbeaaGreatKAN
set_option linter.unusedSimpArgs false
set_option linter.unusedVariables false
set_option maxRecDepth 100000
set_option maxHeartbeats 25600000
namespace Go.Proofs.YtddpmlcpfmmbeaaGreat
section
open Go.RowKit
theorem apapply_exp(n:Int)(A:Option Addr)(k cp:Nat)(t:Ses.T)(lo:List Oh)(e:Cmd.E)(w:World)(hs:Obs w A k cp lo)(hf:Ses.Fit t)(hv:e.cmd.val.f<18446744073709551616)(ho:e.cmd.old.f<18446744073709551616)(hr:e.r≤9223372036854775807)(hn:n≤9223372036854775807)(hcan:Ap.Can ⟨n,vs lo,t⟩ e)(h18:e.cmd.k=18):
  Calls Tryz.prog 10 #[.agg (stA n A k cp t),.agg (evA e)] w (IsSt (fun _=>True) (Ap.apS ⟨n,vs lo,t⟩ e) (Ap.apO ⟨n,vs lo,t⟩ e) w):=by
 rw[show Ap.apS ⟨n,vs lo,t⟩ e=Ap.goS ⟨n+1,vs lo,t⟩ e from if_pos hcan,show Ap.apO ⟨n,vs lo,t⟩ e=Ap.goO ⟨n+1,vs lo,t⟩ e from if_pos hcan]
 have HK:=kn2 w 33 (stA n A k cp t) 39 (evA e)
 have HCo:=zH (fun W (hW:Below w.heap.size w W)=>copied_any A cp k lo W (hs.later hW))
 have HRt:=zH (fun(A2:Option Addr) (k2 c2:Nat) (l2:List Oh) W (h:Obs W A2 k2 c2 l2)=>apright_any n A2 k2 c2 t l2 W h hf)
 have HFt:=zH (fun W=>cfits_any e W hv ho)
 obtain⟨hok,hfi,h3⟩:=hcan
 replace h3:¬n=9223372036854775807:=h3
 have hok1:Ap.Ok ⟨n+1,vs lo,t⟩:=Ap.up_ok hok
 have hc:0≤e.c∧e.c<5:=Ses.ok_c (Ap.fits_ref hfi)
 have HR1:=zH (decide_eq_true hok)
 have HR2:=zH (decide_eq_true hfi)
 have H3:Hid (decide (n=9223372036854775807)=false):=zH (decide_eq_false h3)
 have HW:Hid (IntKind.i64.wrap (n+1)=n+1):=zH (by have:=hok.n;have:0≤n:=this;rw[IntKind.wrap_i64];omega)
 unfold IsOJ at HCo
 unfold IsB at HRt
 have E18:Hid (decide (e.cmd.k=18)=true):=zH (decide_eq_true h18)
 rw[show Ap.goS ⟨n+1,vs lo,t⟩ e=Ap.exS ⟨n+1,vs lo,t⟩ (Ap.ref e) from (Ap.go_18 h18).1,show Ap.goO ⟨n+1,vs lo,t⟩ e=Ap.exO ⟨n+1,vs lo,t⟩ (Ap.ref e) from (Ap.go_18 h18).2]
 have HEx:Hid (∀(A2:Option Addr) (k2 c2:Nat) l2 W,vs l2=vs lo→Obs W A2 k2 c2 l2→Calls Tryz.prog 22 #[.agg (stA (n+1) A2 k2 c2 t),.agg #[.int .i64 e.c,.int .i64 e.e,.int .i64 e.r]] W (IsSt (fun W=>Obs W A2 k2 c2 l2) (Ap.exS ⟨n+1,vs lo,t⟩ (Ap.ref e)) (Ap.exO ⟨n+1,vs lo,t⟩ (Ap.ref e)) W)):=zH fun A2 k2 c2 l2 W h1 h2=>by
  have h:=apexpire_any (fun W=>Obs W A2 k2 c2 l2) (n+1) A2 k2 c2 t l2 (Ap.ref e) W (fun _ h=>h) h2 hf hc (by rw[h1];exact Ap.quit_p hok1 hc)
  rw[h1] at h
  exact h
 unfold IsSt at HEx
 clear hs hf hv ho hr hn hok hok1 hfi h3 h18
 generalize Ap.exS ⟨n+1,vs lo,t⟩ (Ap.ref e)=s2 at *
 generalize Ap.exO ⟨n+1,vs lo,t⟩ (Ap.ref e)=os at *
 generalize vs lo=ls at *
 obtain⟨n3,l3,t3⟩:=s2
 dsimp only at *
 go_enter Tryz.func10,Tryz.ntmps10;go_wp2_with (first|(refine wpList_ast HK rfl rfl ?_;intro _ g1 HK';simp only[lcA,lnA] at HK';replace HK:=HK';clear HK')|refine wpList_exe (kst_o HK 0 _ (by rfl) (by rfl) (by rfl)) (by rfl) ?_);refine(HCo.out _ HK.out.b).mono ?_;rintro en w1 ⟨A2,k2,c2,l2,rfl,v2,q2,i2⟩;have HV2:=zH v2;have HOb:Hid (∀b W0 W L R,Kn b W0 W L R→(∀z∈(row obLay (.slice A2 k2 c2) l2::l2.flatMap rows3),z∈R)→Obs W A2 k2 c2 l2):=zH fun b W0 W L R K hm=>K.obs (hm _ (List.mem_cons_self ..)) (fun y hy=>hm y (List.mem_cons_of_mem _ hy)) i2.fo i2.s.big;replace HK:=zH (HK.out.join q2);clear q2 v2 HCo;simp only[lnA] at HK;generalize (row obLay (.slice A2 k2 c2) l2::l2.flatMap rows3)=Rc at *;go_wp2_with (first|(refine wpList_ssto HK 0 rfl _ _ rfl rfl rfl rfl ?_;intro _ HK';simp only[List.set] at HK';replace HK:=HK';clear HK')|refine wpList_exe (kst HK 0 _ (by rfl) (by rfl) (by rfl)) (by rfl) ?_);refine(HRt.out A2 k2 c2 l2 _ (HOb.out _ _ _ _ _ HK.out (fun z hz=>hz))).mono ?_;rintro en w3 ⟨rfl,b1⟩;replace HK:=hkC HK b1;clear b1;rw[HV2.out,HR1.out];go_wp2_with (first|refine wpList_exe (kexec_ee HK 1 _ (by rfl) (by rfl) (by rfl)) (by rfl) ?_);refine(HFt.out _).mono ?_;rintro en w4 ⟨rfl,b1⟩;replace HK:=hkC HK b1;clear b1;rw[HR2.out]
 go_wp2_with (first|refine wpList_exe (kst_n HK 0 _ (by rfl) (by rfl) (by rfl)) (by rfl) ?_|refine wpList_exe (exec_iE (m:=n) (n:=9223372036854775807) _ _ (by rfl) (by rfl) (by rfl) H3.out) (by rfl) ?_|refine wpList_exe (exec_incz (m:=n) (n:=n+1) _ (by rfl) (by rfl) HW.out) (by rfl) ?_|(refine wpList_sstn (m:=n+1) HK 0 rfl _ _ rfl rfl rfl rfl ?_;intro _ HK';simp only[List.set] at HK';replace HK:=HK';clear HK')|refine wpList_exe (kev_k (e:=e) HK 1 _ (by rfl) (by rfl) (by rfl)) (by rfl) ?_|refine wpList_exe (exec_iE (m:=e.cmd.k) (n:=18) _ _ (by rfl) (by rfl) (by rfl) E18.out) (by rfl) ?_|refine wpList_exe (kst HK 0 _ (by rfl) (by rfl) (by rfl)) (by rfl) ?_|refine wpList_exe (kexec_eref HK 1 _ (by rfl) (by rfl) (by rfl)) (by rfl) ?_)
 refine(HEx.out A2 k2 c2 l2 _ HV2.out (HOb.out _ _ _ _ _ HK.out (fun z hz=>hz))).mono ?_;rintro en w5 ⟨A3,k3,c3,lo3,O3,m3,d3,R3,rfl,HV3,q3,HI3⟩
 replace HK:=zH (HK.out.join q3)
 clear q3 HEx
 go_wp2_with (first|(refine wpList_sst HK 2 rfl _ _ rfl rfl rfl rfl ?_;intro _ HK';simp only[List.set] at HK';replace HK:=HK';clear HK'))
 refine ret_sto Tryz.results10 rfl rfl rfl (HK.out.blk 2 rfl) ?_;unfold IsSt
 exact⟨A3,k3,c3,lo3,O3,m3,d3,_,rfl,HV3,HK.out.takeL 0,zH fun b W0 W L R K hm hg=>HI3.out b W0 W L R K (fun z hz=>hm z (List.mem_append.2 (.inr hz))) (HOb.out b W0 W L R K (fun z hz=>hm z (List.mem_append.2 (.inl hz))))⟩
theorem apapply_do(n:Int)(A:Option Addr)(k cp:Nat)(t:Ses.T)(lo:List Oh)(e:Cmd.E)(w:World)(hs:Obs w A k cp lo)(hf:Ses.Fit t)(hv:e.cmd.val.f<18446744073709551616)(ho:e.cmd.old.f<18446744073709551616)(hr:e.r≤9223372036854775807)(hn:n≤9223372036854775807)(hcan:Ap.Can ⟨n,vs lo,t⟩ e)(h18:¬e.cmd.k=18)(hl:Ses.look t (Ap.ref e)=1):
  Calls Tryz.prog 10 #[.agg (stA n A k cp t),.agg (evA e)] w (IsSt (fun _=>True) (Ap.apS ⟨n,vs lo,t⟩ e) (Ap.apO ⟨n,vs lo,t⟩ e) w):=by
 rw[show Ap.apS ⟨n,vs lo,t⟩ e=Ap.goS ⟨n+1,vs lo,t⟩ e from if_pos hcan,show Ap.apO ⟨n,vs lo,t⟩ e=Ap.goO ⟨n+1,vs lo,t⟩ e from if_pos hcan]
 have HK:=kn2 w 33 (stA n A k cp t) 39 (evA e)
 have HCo:=zH (fun W (hW:Below w.heap.size w W)=>copied_any A cp k lo W (hs.later hW))
 have HRt:=zH (fun(A2:Option Addr) (k2 c2:Nat) (l2:List Oh) W (h:Obs W A2 k2 c2 l2)=>apright_any n A2 k2 c2 t l2 W h hf)
 have HFt:=zH (fun W=>cfits_any e W hv ho)
 obtain⟨hok,hfi,h3⟩:=hcan
 replace h3:¬n=9223372036854775807:=h3
 have hok1:Ap.Ok ⟨n+1,vs lo,t⟩:=Ap.up_ok hok
 have hc:0≤e.c∧e.c<5:=Ses.ok_c (Ap.fits_ref hfi)
 have HR1:=zH (decide_eq_true hok)
 have HR2:=zH (decide_eq_true hfi)
 have H3:Hid (decide (n=9223372036854775807)=false):=zH (decide_eq_false h3)
 have HW:Hid (IntKind.i64.wrap (n+1)=n+1):=zH (by have:=hok.n;have:0≤n:=this;rw[IntKind.wrap_i64];omega)
 unfold IsOJ at HCo
 unfold IsB at HRt
 have E18:Hid (decide (e.cmd.k=18)=false):=zH (decide_eq_false h18)
 have HLk:=zH (fun W=>slook_any t (Ap.ref e) W hf hr)
 unfold IsInt at HLk
 have hg:=Ap.go_1 (s:=⟨n+1,vs lo,t⟩) h18 hl
 have hd:=Ap.do_is hfi h18 ⟨n+1,vs lo,t⟩
 rw[hg.1,hg.2,← hd.1,← hd.2]
 rw[hl] at HLk
 have Z1:Hid (decide ((1:Int)=1)=true):=zH rfl
 have HDo:Hid (∀(A2:Option Addr) (k2 c2:Nat) l2 W,vs l2=vs lo→Obs W A2 k2 c2 l2→Calls Tryz.prog 24 #[.agg (stA (n+1) A2 k2 c2 t),.agg (evA e)] W (IsSt (fun W=>Obs W A2 k2 c2 l2) (Ap.doS ⟨n+1,vs lo,t⟩ e) (Ap.doO ⟨n+1,vs lo,t⟩ e) W)):=zH fun A2 k2 c2 l2 W h1 h2=>by
  have h:=apdo_any (fun W=>Obs W A2 k2 c2 l2) (n+1) A2 k2 c2 t l2 e W (fun _ h=>h) h2 hf hv ho hr hc (fun _=>by rw[h1];exact Ap.quit_p hok1 hc) (fun g=>by
   have h0:¬(Ap.ref e).r=0:=fun q=>(hfi.2.2.1 q).elim (fun q=>by omega) h18
   exact congrArg Ses.S.dn (Ap.touch_get (s:=⟨n,vs lo,t⟩) (x:=Sto.rz) hl h0 Ap.rep_z))
  rw[h1] at h
  exact h
 unfold IsSt at HDo
 clear hs hf hv ho hr hn hok hok1 hfi h3 h18 hl hg hd
 generalize Ap.doS ⟨n+1,vs lo,t⟩ e=s2 at *
 generalize Ap.doO ⟨n+1,vs lo,t⟩ e=os at *
 generalize vs lo=ls at *
 obtain⟨n3,l3,t3⟩:=s2
 dsimp only at *
 go_enter Tryz.func10,Tryz.ntmps10;go_wp2_with (first|(refine wpList_ast HK rfl rfl ?_;intro _ g1 HK';simp only[lcA,lnA] at HK';replace HK:=HK';clear HK')|refine wpList_exe (kst_o HK 0 _ (by rfl) (by rfl) (by rfl)) (by rfl) ?_);refine(HCo.out _ HK.out.b).mono ?_;rintro en w1 ⟨A2,k2,c2,l2,rfl,v2,q2,i2⟩;have HV2:=zH v2;have HOb:Hid (∀b W0 W L R,Kn b W0 W L R→(∀z∈(row obLay (.slice A2 k2 c2) l2::l2.flatMap rows3),z∈R)→Obs W A2 k2 c2 l2):=zH fun b W0 W L R K hm=>K.obs (hm _ (List.mem_cons_self ..)) (fun y hy=>hm y (List.mem_cons_of_mem _ hy)) i2.fo i2.s.big;replace HK:=zH (HK.out.join q2);clear q2 v2 HCo;simp only[lnA] at HK;generalize (row obLay (.slice A2 k2 c2) l2::l2.flatMap rows3)=Rc at *;go_wp2_with (first|(refine wpList_ssto HK 0 rfl _ _ rfl rfl rfl rfl ?_;intro _ HK';simp only[List.set] at HK';replace HK:=HK';clear HK')|refine wpList_exe (kst HK 0 _ (by rfl) (by rfl) (by rfl)) (by rfl) ?_);refine(HRt.out A2 k2 c2 l2 _ (HOb.out _ _ _ _ _ HK.out (fun z hz=>hz))).mono ?_;rintro en w3 ⟨rfl,b1⟩;replace HK:=hkC HK b1;clear b1;rw[HV2.out,HR1.out];go_wp2_with (first|refine wpList_exe (kexec_ee HK 1 _ (by rfl) (by rfl) (by rfl)) (by rfl) ?_);refine(HFt.out _).mono ?_;rintro en w4 ⟨rfl,b1⟩;replace HK:=hkC HK b1;clear b1;rw[HR2.out]
 go_wp2_with (first|refine wpList_exe (kst_n HK 0 _ (by rfl) (by rfl) (by rfl)) (by rfl) ?_|refine wpList_exe (exec_iE (m:=n) (n:=9223372036854775807) _ _ (by rfl) (by rfl) (by rfl) H3.out) (by rfl) ?_|refine wpList_exe (exec_incz (m:=n) (n:=n+1) _ (by rfl) (by rfl) HW.out) (by rfl) ?_|(refine wpList_sstn (m:=n+1) HK 0 rfl _ _ rfl rfl rfl rfl ?_;intro _ HK';simp only[List.set] at HK';replace HK:=HK';clear HK')|refine wpList_exe (kev_k (e:=e) HK 1 _ (by rfl) (by rfl) (by rfl)) (by rfl) ?_|refine wpList_exe (exec_iE (m:=e.cmd.k) (n:=18) _ _ (by rfl) (by rfl) (by rfl) E18.out) (by rfl) ?_|refine wpList_exe (kst_t HK 0 _ (by rfl) (by rfl) (by rfl)) (by rfl) ?_|refine wpList_exe (kexec_eref HK 1 _ (by rfl) (by rfl) (by rfl)) (by rfl) ?_)
 refine(HLk.out _).mono ?_;rintro en w5 ⟨rfl,b1⟩
 replace HK:=hkC HK b1;clear b1
 go_wp2_with (first|refine wpList_exe (exec_iE (m:=1) (n:=1) _ _ (by rfl) (by rfl) (by rfl) Z1.out) (by rfl) ?_|refine wpList_exe (kst HK 0 _ (by rfl) (by rfl) (by rfl)) (by rfl) ?_|refine wpList_exe (kexec_ee HK 1 _ (by rfl) (by rfl) (by rfl)) (by rfl) ?_)
 refine(HDo.out A2 k2 c2 l2 _ HV2.out (HOb.out _ _ _ _ _ HK.out (fun z hz=>hz))).mono ?_;rintro en w5 ⟨A3,k3,c3,lo3,O3,m3,d3,R3,rfl,HV3,q3,HI3⟩
 replace HK:=zH (HK.out.join q3)
 clear q3 HDo
 go_wp2_with (first|(refine wpList_sst HK 2 rfl _ _ rfl rfl rfl rfl ?_;intro _ HK';simp only[List.set] at HK';replace HK:=HK';clear HK'))
 refine ret_sto Tryz.results10 rfl rfl rfl (HK.out.blk 2 rfl) ?_;unfold IsSt
 exact⟨A3,k3,c3,lo3,O3,m3,d3,_,rfl,HV3,HK.out.takeL 0,zH fun b W0 W L R K hm hg=>HI3.out b W0 W L R K (fun z hz=>hm z (List.mem_append.2 (.inr hz))) (HOb.out b W0 W L R K (fun z hz=>hm z (List.mem_append.2 (.inl hz))))⟩
theorem apapply_again(n:Int)(A:Option Addr)(k cp:Nat)(t:Ses.T)(lo:List Oh)(e:Cmd.E)(w:World)(hs:Obs w A k cp lo)(hf:Ses.Fit t)(hv:e.cmd.val.f<18446744073709551616)(ho:e.cmd.old.f<18446744073709551616)(hr:e.r≤9223372036854775807)(hn:n≤9223372036854775807)(hcan:Ap.Can ⟨n,vs lo,t⟩ e)(h18:¬e.cmd.k=18)(hl:Ses.look t (Ap.ref e)=2):
  Calls Tryz.prog 10 #[.agg (stA n A k cp t),.agg (evA e)] w (IsSt (fun _=>True) (Ap.apS ⟨n,vs lo,t⟩ e) (Ap.apO ⟨n,vs lo,t⟩ e) w):=by
 rw[show Ap.apS ⟨n,vs lo,t⟩ e=Ap.goS ⟨n+1,vs lo,t⟩ e from if_pos hcan,show Ap.apO ⟨n,vs lo,t⟩ e=Ap.goO ⟨n+1,vs lo,t⟩ e from if_pos hcan]
 have HK:=kn2 w 33 (stA n A k cp t) 39 (evA e)
 have HCo:=zH (fun W (hW:Below w.heap.size w W)=>copied_any A cp k lo W (hs.later hW))
 have HRt:=zH (fun(A2:Option Addr) (k2 c2:Nat) (l2:List Oh) W (h:Obs W A2 k2 c2 l2)=>apright_any n A2 k2 c2 t l2 W h hf)
 have HFt:=zH (fun W=>cfits_any e W hv ho)
 obtain⟨hok,hfi,h3⟩:=hcan
 replace h3:¬n=9223372036854775807:=h3
 have hok1:Ap.Ok ⟨n+1,vs lo,t⟩:=Ap.up_ok hok
 have hc:0≤e.c∧e.c<5:=Ses.ok_c (Ap.fits_ref hfi)
 have HR1:=zH (decide_eq_true hok)
 have HR2:=zH (decide_eq_true hfi)
 have H3:Hid (decide (n=9223372036854775807)=false):=zH (decide_eq_false h3)
 have HW:Hid (IntKind.i64.wrap (n+1)=n+1):=zH (by have:=hok.n;have:0≤n:=this;rw[IntKind.wrap_i64];omega)
 unfold IsOJ at HCo
 unfold IsB at HRt
 have E18:Hid (decide (e.cmd.k=18)=false):=zH (decide_eq_false h18)
 have HLk:=zH (fun W=>slook_any t (Ap.ref e) W hf hr)
 unfold IsInt at HLk
 have hg:=Ap.go_2 (s:=⟨n+1,vs lo,t⟩) h18 hl
 rw[hg.1,hg.2,hl] at *
 try dsimp only
 have Z1:Hid (decide ((2:Int)=1)=false):=zH rfl
 have Z2:Hid (decide ((2:Int)=2)=true):=zH rfl
 have HTo:=zH (fun W=>aptold_any (Ap.ref e) (t.get e.c).p W)
 clear hs hf hv ho hr hn hok hok1 hfi h3 h18 hl hg
 generalize vs lo=ls at *
 go_enter Tryz.func10,Tryz.ntmps10;go_wp2_with (first|(refine wpList_ast HK rfl rfl ?_;intro _ g1 HK';simp only[lcA,lnA] at HK';replace HK:=HK';clear HK')|refine wpList_exe (kst_o HK 0 _ (by rfl) (by rfl) (by rfl)) (by rfl) ?_);refine(HCo.out _ HK.out.b).mono ?_;rintro en w1 ⟨A2,k2,c2,l2,rfl,v2,q2,i2⟩;have HV2:=zH v2;have HOb:Hid (∀b W0 W L R,Kn b W0 W L R→(∀z∈(row obLay (.slice A2 k2 c2) l2::l2.flatMap rows3),z∈R)→Obs W A2 k2 c2 l2):=zH fun b W0 W L R K hm=>K.obs (hm _ (List.mem_cons_self ..)) (fun y hy=>hm y (List.mem_cons_of_mem _ hy)) i2.fo i2.s.big;replace HK:=zH (HK.out.join q2);clear q2 v2 HCo;simp only[lnA] at HK;generalize (row obLay (.slice A2 k2 c2) l2::l2.flatMap rows3)=Rc at *;go_wp2_with (first|(refine wpList_ssto HK 0 rfl _ _ rfl rfl rfl rfl ?_;intro _ HK';simp only[List.set] at HK';replace HK:=HK';clear HK')|refine wpList_exe (kst HK 0 _ (by rfl) (by rfl) (by rfl)) (by rfl) ?_);refine(HRt.out A2 k2 c2 l2 _ (HOb.out _ _ _ _ _ HK.out (fun z hz=>hz))).mono ?_;rintro en w3 ⟨rfl,b1⟩;replace HK:=hkC HK b1;clear b1;rw[HV2.out,HR1.out];go_wp2_with (first|refine wpList_exe (kexec_ee HK 1 _ (by rfl) (by rfl) (by rfl)) (by rfl) ?_);refine(HFt.out _).mono ?_;rintro en w4 ⟨rfl,b1⟩;replace HK:=hkC HK b1;clear b1;rw[HR2.out]
 go_wp2_with (first|refine wpList_exe (kst_n HK 0 _ (by rfl) (by rfl) (by rfl)) (by rfl) ?_|refine wpList_exe (exec_iE (m:=n) (n:=9223372036854775807) _ _ (by rfl) (by rfl) (by rfl) H3.out) (by rfl) ?_|refine wpList_exe (exec_incz (m:=n) (n:=n+1) _ (by rfl) (by rfl) HW.out) (by rfl) ?_|(refine wpList_sstn (m:=n+1) HK 0 rfl _ _ rfl rfl rfl rfl ?_;intro _ HK';simp only[List.set] at HK';replace HK:=HK';clear HK')|refine wpList_exe (kev_k (e:=e) HK 1 _ (by rfl) (by rfl) (by rfl)) (by rfl) ?_|refine wpList_exe (exec_iE (m:=e.cmd.k) (n:=18) _ _ (by rfl) (by rfl) (by rfl) E18.out) (by rfl) ?_|refine wpList_exe (kst_t HK 0 _ (by rfl) (by rfl) (by rfl)) (by rfl) ?_|refine wpList_exe (kexec_eref HK 1 _ (by rfl) (by rfl) (by rfl)) (by rfl) ?_)
 refine(HLk.out _).mono ?_;rintro en w5 ⟨rfl,b1⟩
 replace HK:=hkC HK b1;clear b1
 go_upto_region 11 with (first|refine wpList_exe (exec_iE (m:=2) (n:=1) _ _ (by rfl) (by rfl) (by rfl) Z1.out) (by rfl) ?_|refine wpList_exe (exec_iE (m:=2) (n:=2) _ _ (by rfl) (by rfl) (by rfl) Z2.out) (by rfl) ?_)
 have HK0:=zH HK.out.drew
 clear HK HLk HFt HRt
 refine wp_region_held_drew (S:=(fun W=>Hid (Kn w.heap.size w W [(w.heap.size,33,stA (n+1) A2 k2 c2 t),(w.heap.size+1,39,evA e)] [])∧True)) (by kernel_rfl) ?_ (fun hHeld=>?_)
 ·(try dsimp only);exact And.intro (zH ((HK0.out.takeL 2).takeR 0)) trivial
 refine wpAnyH_take (i:=0) (oi:=⟨some 52,_,_,_,_,_⟩) (v:=?_) rfl (by kernel_rfl) (by kernel_rfl) (by kernel_rfl) (fun _ _ _ h=>h) (Or.inl ⟨by rfl,?_⟩) (by assumption) ?_
 rotate_left
 ·(intro w hSw;refine Eq.trans (kst hSw.1 0 _ (by rfl) (by rfl) (by rfl)) ?_;with_reducible rfl)
 try simp only[Act.put,List.setIfInBounds_toArray,List.set_cons_zero,List.set_cons_succ]
 refine wpAnyH_take (i:=1) (oi:=⟨some 53,_,_,_,_,_⟩) (v:=?_) rfl (by kernel_rfl) (by kernel_rfl) (by kernel_rfl) (fun _ _ _ h=>h) (Or.inl ⟨by rfl,?_⟩) (by assumption) ?_
 rotate_left
 ·(intro w hSw;(try dsimp only at hSw);go_simp;try with_reducible rfl)
 try simp only[Act.put,List.setIfInBounds_toArray,List.set_cons_zero,List.set_cons_succ]
 refine wpAnyH_take (i:=2) (oi:=⟨some 54,_,_,_,_,_⟩) (v:=?_) rfl (by kernel_rfl) (by kernel_rfl) (by kernel_rfl) (fun _ _ _ h=>h) (Or.inl ⟨by rfl,?_⟩) (by assumption) ?_
 rotate_left
 ·(intro w hSw;refine Eq.trans (kexec_eref hSw.1 1 _ (by rfl) (by rfl) (by rfl)) ?_;with_reducible rfl)
 try simp only[Act.put,List.setIfInBounds_toArray,List.set_cons_zero,List.set_cons_succ]
 refine wpAnyH_take (i:=3) (oi:=⟨some 55,_,_,_,_,_⟩) (v:=?_) rfl (by kernel_rfl) (by kernel_rfl) (by kernel_rfl) (fun _ _ _ h=>h) (Or.inl ⟨by rfl,?_⟩) (by assumption) ?_
 rotate_left
 ·(intro w hSw;(try dsimp only at hSw);go_simp;try with_reducible rfl)
 try simp only[Act.put,List.setIfInBounds_toArray,List.set_cons_zero,List.set_cons_succ]
 refine wpAnyH_take (i:=4) (oi:=⟨some 56,_,_,_,_,_⟩) (v:=?_) rfl (by kernel_rfl) (by kernel_rfl) (by kernel_rfl) (fun _ _ _ h=>h) (Or.inl ⟨by rfl,?_⟩) (by assumption) ?_
 rotate_left
 ·(intro w hSw;(try dsimp only at hSw);go_simp;try with_reducible rfl)
 try simp only[Act.put,List.setIfInBounds_toArray,List.set_cons_zero,List.set_cons_succ]
 refine wpAnyH_take (i:=5) (oi:=⟨some 57,_,_,_,_,_⟩) (v:=?_) rfl (by kernel_rfl) (by kernel_rfl) (by kernel_rfl) (fun _ _ _ h=>h) (Or.inl ⟨by rfl,?_⟩) (by assumption) ?_
 rotate_left
 ·(intro w hSw;refine Eq.trans (kev_c (e:=e) hSw.1 1 _ (by rfl) (by rfl) (by rfl)) ?_;with_reducible rfl)
 try simp only[Act.put,List.setIfInBounds_toArray,List.set_cons_zero,List.set_cons_succ]
 refine wpAnyH_take (i:=6) (oi:=⟨some 58,_,_,_,_,_⟩) (v:=?_) rfl (by kernel_rfl) (by kernel_rfl) (by kernel_rfl) (fun _ _ _ h=>h) (Or.inl ⟨by rfl,?_⟩) (by assumption) ?_
 rotate_left
 ·(intro w hSw;(try dsimp only at hSw);go_simp;try with_reducible rfl)
 try simp only[Act.put,List.setIfInBounds_toArray,List.set_cons_zero,List.set_cons_succ]
 refine wpAnyH_take (i:=7) (oi:=⟨some 59,_,_,_,_,_⟩) (v:=?_) rfl (by kernel_rfl) (by kernel_rfl) (by kernel_rfl) (fun _ _ _ h=>h) (Or.inl ⟨by rfl,?_⟩) (by assumption) ?_
 rotate_left
 ·(intro w hSw;refine Eq.trans (exec_ixq hc _ _ (by rfl) (by rfl) (by rfl)) ?_;with_reducible rfl)
 try simp only[Act.put,List.setIfInBounds_toArray,List.set_cons_zero,List.set_cons_succ]
 refine wpAnyH_take (i:=8) (oi:=⟨some 60,_,_,_,_,_⟩) (v:=?_) rfl (by kernel_rfl) (by kernel_rfl) (by kernel_rfl) (fun _ _ _ h=>h) (Or.inl ⟨by rfl,?_⟩) (by assumption) ?_
 rotate_left
 ·(intro w hSw;(try dsimp only at hSw);go_simp;try with_reducible rfl)
 try simp only[Act.put,List.setIfInBounds_toArray,List.set_cons_zero,List.set_cons_succ]
 refine wpAnyH_take (i:=9) (oi:=⟨some 61,_,_,_,_,_⟩) (v:=?_) rfl (by kernel_rfl) (by kernel_rfl) (by kernel_rfl) (fun _ _ _ h=>h) (Or.inl ⟨by rfl,?_⟩) (by assumption) ?_
 rotate_left
 ·(intro w hSw;refine Eq.trans (kst_p hSw.1 0 hc _ (by rfl) (by rfl) (by rfl)) ?_;with_reducible rfl)
 try simp only[Act.put,List.setIfInBounds_toArray,List.set_cons_zero,List.set_cons_succ]
 refine wpAnyH_ready (rs:=[10]) (by kernel_rfl) (by simp) ?_
 refine AllReadyH.cons (o:=⟨some 62,_,_,_,_,_⟩) rfl (fun K hK=>?_) AllReadyH.nil
 go_simp
 go_at_call 25
 refine(HTo.out _).mono ?_;rintro en w5 hq;obtain⟨A5,c5,rfl,o5,b5⟩:=hq.one;replace HK0:=zH (HK0.out.called b5 o5).frontR;clear o5 b5;have hs:=And.intro (zH ((HK0.out.takeL 2).takeR 0)) trivial
 refine hK.out _ _ hs (fun hHeld=>?_)
 clear hK K
 try simp only[ap1,ap2,ap3,ap4,ap5]
 refine wpAnyH_ready (rs:=[11]) (by kernel_rfl) (by simp) ?_
 refine AllReadyH.cons (o:=⟨none,_,_,_,_,_⟩) rfl (fun K hK=>?_) AllReadyH.nil
 refine step_sst HK0 2 (by rfl) _ _ (by rfl) (by rfl) (by rfl) (by rfl) ?_;intro w9 HK';simp only[List.set] at HK';replace HK0:=HK';clear HK';have hs:=And.intro (zH ((HK0.out.takeL 2).takeR 0)) trivial
 refine hK.out _ _ hs (fun hHeld=>?_)
 clear hK K
 try simp only[ap1,ap2,ap3,ap4,ap5]
 refine wpAnyH_take (i:=12) (oi:=⟨some 5,_,_,_,_,_⟩) (v:=?_) rfl (by kernel_rfl) (by kernel_rfl) (by kernel_rfl) (fun _ _ _ h=>h) (Or.inl ⟨by rfl,?_⟩) (by assumption) ?_
 rotate_left
 ·(intro w hSw;(try dsimp only at hSw);go_simp;try with_reducible rfl)
 try simp only[Act.put,List.setIfInBounds_toArray,List.set_cons_zero,List.set_cons_succ]
 refine wpAnyH_done (by kernel_rfl) ?_ _
 all_goals
  have HK:=HK0
  clear HK0 hHeld
  go_wp2_with fail
  refine ret_sto Tryz.results10 rfl rfl rfl (HK.out.blk 2 rfl) ?_;unfold IsSt
  exact⟨A2,k2,c2,l2,A5,1,c5,_,rfl,HV2,HK.out.takeL 0,zH fun b W0 W L R K hm hg=>⟨HOb.out b W0 W L R K (fun z hz=>hm z (List.mem_cons_of_mem _ hz)),Sls.own (K.mem (hm _ (List.mem_cons_self ..))) (fits_out (by show 1≤1000;decide))⟩⟩
theorem apapply_ended(n:Int)(A:Option Addr)(k cp:Nat)(t:Ses.T)(lo:List Oh)(e:Cmd.E)(w:World)(hs:Obs w A k cp lo)(hf:Ses.Fit t)(hv:e.cmd.val.f<18446744073709551616)(ho:e.cmd.old.f<18446744073709551616)(hr:e.r≤9223372036854775807)(hn:n≤9223372036854775807)(hcan:Ap.Can ⟨n,vs lo,t⟩ e)(h18:¬e.cmd.k=18)(hl:Ses.look t (Ap.ref e)=4):
  Calls Tryz.prog 10 #[.agg (stA n A k cp t),.agg (evA e)] w (IsSt (fun _=>True) (Ap.apS ⟨n,vs lo,t⟩ e) (Ap.apO ⟨n,vs lo,t⟩ e) w):=by
 rw[show Ap.apS ⟨n,vs lo,t⟩ e=Ap.goS ⟨n+1,vs lo,t⟩ e from if_pos hcan,show Ap.apO ⟨n,vs lo,t⟩ e=Ap.goO ⟨n+1,vs lo,t⟩ e from if_pos hcan]
 have HK:=kn2 w 33 (stA n A k cp t) 39 (evA e)
 have HCo:=zH (fun W (hW:Below w.heap.size w W)=>copied_any A cp k lo W (hs.later hW))
 have HRt:=zH (fun(A2:Option Addr) (k2 c2:Nat) (l2:List Oh) W (h:Obs W A2 k2 c2 l2)=>apright_any n A2 k2 c2 t l2 W h hf)
 have HFt:=zH (fun W=>cfits_any e W hv ho)
 obtain⟨hok,hfi,h3⟩:=hcan
 replace h3:¬n=9223372036854775807:=h3
 have hok1:Ap.Ok ⟨n+1,vs lo,t⟩:=Ap.up_ok hok
 have hc:0≤e.c∧e.c<5:=Ses.ok_c (Ap.fits_ref hfi)
 have HR1:=zH (decide_eq_true hok)
 have HR2:=zH (decide_eq_true hfi)
 have H3:Hid (decide (n=9223372036854775807)=false):=zH (decide_eq_false h3)
 have HW:Hid (IntKind.i64.wrap (n+1)=n+1):=zH (by have:=hok.n;have:0≤n:=this;rw[IntKind.wrap_i64];omega)
 unfold IsOJ at HCo
 unfold IsB at HRt
 have E18:Hid (decide (e.cmd.k=18)=false):=zH (decide_eq_false h18)
 have HLk:=zH (fun W=>slook_any t (Ap.ref e) W hf hr)
 unfold IsInt at HLk
 have hg:Ap.goS ⟨n+1,vs lo,t⟩ e=⟨n+1,vs lo,t⟩∧Ap.goO ⟨n+1,vs lo,t⟩ e=[⟨Ap.ref e,Sto.err 14⟩]:=by
  unfold Ap.goS Ap.goO
  dsimp only
  rw[if_neg h18,if_neg h18,hl]
  exact⟨rfl,rfl⟩
 rw[hg.1,hg.2,hl] at *
 try dsimp only
 have Z1:Hid (decide ((4:Int)=1)=false):=zH rfl
 have Z2:Hid (decide ((4:Int)=2)=false):=zH rfl
 have Z4:Hid (decide ((4:Int)=4)=true):=zH rfl
 have HTo:=zH (fun W=>aptold_any (Ap.ref e) (Sto.err 14) W)
 clear hs hf hv ho hr hn hok hok1 hfi h3 h18 hl hg
 generalize vs lo=ls at *
 go_enter Tryz.func10,Tryz.ntmps10;go_wp2_with (first|(refine wpList_ast HK rfl rfl ?_;intro _ g1 HK';simp only[lcA,lnA] at HK';replace HK:=HK';clear HK')|refine wpList_exe (kst_o HK 0 _ (by rfl) (by rfl) (by rfl)) (by rfl) ?_);refine(HCo.out _ HK.out.b).mono ?_;rintro en w1 ⟨A2,k2,c2,l2,rfl,v2,q2,i2⟩;have HV2:=zH v2;have HOb:Hid (∀b W0 W L R,Kn b W0 W L R→(∀z∈(row obLay (.slice A2 k2 c2) l2::l2.flatMap rows3),z∈R)→Obs W A2 k2 c2 l2):=zH fun b W0 W L R K hm=>K.obs (hm _ (List.mem_cons_self ..)) (fun y hy=>hm y (List.mem_cons_of_mem _ hy)) i2.fo i2.s.big;replace HK:=zH (HK.out.join q2);clear q2 v2 HCo;simp only[lnA] at HK;generalize (row obLay (.slice A2 k2 c2) l2::l2.flatMap rows3)=Rc at *;go_wp2_with (first|(refine wpList_ssto HK 0 rfl _ _ rfl rfl rfl rfl ?_;intro _ HK';simp only[List.set] at HK';replace HK:=HK';clear HK')|refine wpList_exe (kst HK 0 _ (by rfl) (by rfl) (by rfl)) (by rfl) ?_);refine(HRt.out A2 k2 c2 l2 _ (HOb.out _ _ _ _ _ HK.out (fun z hz=>hz))).mono ?_;rintro en w3 ⟨rfl,b1⟩;replace HK:=hkC HK b1;clear b1;rw[HV2.out,HR1.out];go_wp2_with (first|refine wpList_exe (kexec_ee HK 1 _ (by rfl) (by rfl) (by rfl)) (by rfl) ?_);refine(HFt.out _).mono ?_;rintro en w4 ⟨rfl,b1⟩;replace HK:=hkC HK b1;clear b1;rw[HR2.out]
 go_wp2_with (first|refine wpList_exe (kst_n HK 0 _ (by rfl) (by rfl) (by rfl)) (by rfl) ?_|refine wpList_exe (exec_iE (m:=n) (n:=9223372036854775807) _ _ (by rfl) (by rfl) (by rfl) H3.out) (by rfl) ?_|refine wpList_exe (exec_incz (m:=n) (n:=n+1) _ (by rfl) (by rfl) HW.out) (by rfl) ?_|(refine wpList_sstn (m:=n+1) HK 0 rfl _ _ rfl rfl rfl rfl ?_;intro _ HK';simp only[List.set] at HK';replace HK:=HK';clear HK')|refine wpList_exe (kev_k (e:=e) HK 1 _ (by rfl) (by rfl) (by rfl)) (by rfl) ?_|refine wpList_exe (exec_iE (m:=e.cmd.k) (n:=18) _ _ (by rfl) (by rfl) (by rfl) E18.out) (by rfl) ?_|refine wpList_exe (kst_t HK 0 _ (by rfl) (by rfl) (by rfl)) (by rfl) ?_|refine wpList_exe (kexec_eref HK 1 _ (by rfl) (by rfl) (by rfl)) (by rfl) ?_)
 refine(HLk.out _).mono ?_;rintro en w5 ⟨rfl,b1⟩
 replace HK:=hkC HK b1;clear b1
 go_upto_region 13 with (first|refine wpList_exe (exec_iE (m:=4) (n:=1) _ _ (by rfl) (by rfl) (by rfl) Z1.out) (by rfl) ?_|refine wpList_exe (exec_iE (m:=4) (n:=2) _ _ (by rfl) (by rfl) (by rfl) Z2.out) (by rfl) ?_|refine wpList_exe (exec_iE (m:=4) (n:=4) _ _ (by rfl) (by rfl) (by rfl) Z4.out) (by rfl) ?_)
 have HK0:=zH HK.out.drew
 clear HK HLk HFt HRt
 refine wp_region_held_drew (S:=(fun W=>Hid (Kn w.heap.size w W [(w.heap.size,33,stA (n+1) A2 k2 c2 t),(w.heap.size+1,39,evA e)] [])∧True)) (by kernel_rfl) ?_ (fun hHeld=>?_)
 ·(try dsimp only);exact And.intro (zH ((HK0.out.takeL 2).takeR 0)) trivial
 refine wpAnyH_take (i:=0) (oi:=⟨some 65,_,_,_,_,_⟩) (v:=?_) rfl (by kernel_rfl) (by kernel_rfl) (by kernel_rfl) (fun _ _ _ h=>h) (Or.inl ⟨by rfl,?_⟩) (by assumption) ?_
 rotate_left
 ·(intro w hSw;refine Eq.trans (kst hSw.1 0 _ (by rfl) (by rfl) (by rfl)) ?_;with_reducible rfl)
 try simp only[Act.put,List.setIfInBounds_toArray,List.set_cons_zero,List.set_cons_succ]
 refine wpAnyH_take (i:=1) (oi:=⟨some 66,_,_,_,_,_⟩) (v:=?_) rfl (by kernel_rfl) (by kernel_rfl) (by kernel_rfl) (fun _ _ _ h=>h) (Or.inl ⟨by rfl,?_⟩) (by assumption) ?_
 rotate_left
 ·(intro w hSw;(try dsimp only at hSw);go_simp;try with_reducible rfl)
 try simp only[Act.put,List.setIfInBounds_toArray,List.set_cons_zero,List.set_cons_succ]
 refine wpAnyH_take (i:=2) (oi:=⟨some 67,_,_,_,_,_⟩) (v:=?_) rfl (by kernel_rfl) (by kernel_rfl) (by kernel_rfl) (fun _ _ _ h=>h) (Or.inl ⟨by rfl,?_⟩) (by assumption) ?_
 rotate_left
 ·(intro w hSw;refine Eq.trans (kexec_eref hSw.1 1 _ (by rfl) (by rfl) (by rfl)) ?_;with_reducible rfl)
 try simp only[Act.put,List.setIfInBounds_toArray,List.set_cons_zero,List.set_cons_succ]
 refine wpAnyH_take (i:=3) (oi:=⟨some 68,_,_,_,_,_⟩) (v:=?_) rfl (by kernel_rfl) (by kernel_rfl) (by kernel_rfl) (fun _ _ _ h=>h) (Or.inl ⟨by rfl,?_⟩) (by assumption) ?_
 rotate_left
 ·(intro w hSw;refine Eq.trans (exec_rk (e:=14) (by rfl)) ?_;with_reducible rfl)
 try simp only[Act.put,List.setIfInBounds_toArray,List.set_cons_zero,List.set_cons_succ]
 refine wpAnyH_ready (rs:=[4]) (by kernel_rfl) (by simp) ?_
 refine AllReadyH.cons (o:=⟨some 69,_,_,_,_,_⟩) rfl (fun K hK=>?_) AllReadyH.nil
 go_simp
 go_at_call 25
 refine(HTo.out _).mono ?_;rintro en w5 hq;obtain⟨A5,c5,rfl,o5,b5⟩:=hq.one;replace HK0:=zH (HK0.out.called b5 o5).frontR;clear o5 b5;have hs:=And.intro (zH ((HK0.out.takeL 2).takeR 0)) trivial
 refine hK.out _ _ hs (fun hHeld=>?_)
 clear hK K
 try simp only[ap1,ap2,ap3,ap4,ap5]
 refine wpAnyH_ready (rs:=[5]) (by kernel_rfl) (by simp) ?_
 refine AllReadyH.cons (o:=⟨none,_,_,_,_,_⟩) rfl (fun K hK=>?_) AllReadyH.nil
 refine step_sst HK0 2 (by rfl) _ _ (by rfl) (by rfl) (by rfl) (by rfl) ?_;intro w9 HK';simp only[List.set] at HK';replace HK0:=HK';clear HK';have hs:=And.intro (zH ((HK0.out.takeL 2).takeR 0)) trivial
 refine hK.out _ _ hs (fun hHeld=>?_)
 clear hK K
 try simp only[ap1,ap2,ap3,ap4,ap5]
 refine wpAnyH_take (i:=6) (oi:=⟨some 5,_,_,_,_,_⟩) (v:=?_) rfl (by kernel_rfl) (by kernel_rfl) (by kernel_rfl) (fun _ _ _ h=>h) (Or.inl ⟨by rfl,?_⟩) (by assumption) ?_
 rotate_left
 ·(intro w hSw;(try dsimp only at hSw);go_simp;try with_reducible rfl)
 try simp only[Act.put,List.setIfInBounds_toArray,List.set_cons_zero,List.set_cons_succ]
 refine wpAnyH_done (by kernel_rfl) ?_ _
 all_goals
  have HK:=HK0
  clear HK0 hHeld
  go_wp2_with fail
  refine ret_sto Tryz.results10 rfl rfl rfl (HK.out.blk 2 rfl) ?_;unfold IsSt
  exact⟨A2,k2,c2,l2,A5,1,c5,_,rfl,HV2,HK.out.takeL 0,zH fun b W0 W L R K hm hg=>⟨HOb.out b W0 W L R K (fun z hz=>hm z (List.mem_cons_of_mem _ hz)),Sls.own (K.mem (hm _ (List.mem_cons_self ..))) (fits_out (by show 1≤1000;decide))⟩⟩
theorem apapply_none(n:Int)(A:Option Addr)(k cp:Nat)(t:Ses.T)(lo:List Oh)(e:Cmd.E)(w:World)(hs:Obs w A k cp lo)(hf:Ses.Fit t)(hv:e.cmd.val.f<18446744073709551616)(ho:e.cmd.old.f<18446744073709551616)(hr:e.r≤9223372036854775807)(hn:n≤9223372036854775807)(hcan:Ap.Can ⟨n,vs lo,t⟩ e)(h18:¬e.cmd.k=18)(h1:¬Ses.look t (Ap.ref e)=1)(h2:¬Ses.look t (Ap.ref e)=2)(h4:¬Ses.look t (Ap.ref e)=4):
  Calls Tryz.prog 10 #[.agg (stA n A k cp t),.agg (evA e)] w (IsSt (fun _=>True) (Ap.apS ⟨n,vs lo,t⟩ e) (Ap.apO ⟨n,vs lo,t⟩ e) w):=by
 rw[show Ap.apS ⟨n,vs lo,t⟩ e=Ap.goS ⟨n+1,vs lo,t⟩ e from if_pos hcan,show Ap.apO ⟨n,vs lo,t⟩ e=Ap.goO ⟨n+1,vs lo,t⟩ e from if_pos hcan]
 have HK:=kn2 w 33 (stA n A k cp t) 39 (evA e)
 have HCo:=zH (fun W (hW:Below w.heap.size w W)=>copied_any A cp k lo W (hs.later hW))
 have HRt:=zH (fun(A2:Option Addr) (k2 c2:Nat) (l2:List Oh) W (h:Obs W A2 k2 c2 l2)=>apright_any n A2 k2 c2 t l2 W h hf)
 have HFt:=zH (fun W=>cfits_any e W hv ho)
 obtain⟨hok,hfi,h3⟩:=hcan
 replace h3:¬n=9223372036854775807:=h3
 have hok1:Ap.Ok ⟨n+1,vs lo,t⟩:=Ap.up_ok hok
 have hc:0≤e.c∧e.c<5:=Ses.ok_c (Ap.fits_ref hfi)
 have HR1:=zH (decide_eq_true hok)
 have HR2:=zH (decide_eq_true hfi)
 have H3:Hid (decide (n=9223372036854775807)=false):=zH (decide_eq_false h3)
 have HW:Hid (IntKind.i64.wrap (n+1)=n+1):=zH (by have:=hok.n;have:0≤n:=this;rw[IntKind.wrap_i64];omega)
 unfold IsOJ at HCo
 unfold IsB at HRt
 have E18:Hid (decide (e.cmd.k=18)=false):=zH (decide_eq_false h18)
 have HLk:=zH (fun W=>slook_any t (Ap.ref e) W hf hr)
 unfold IsInt at HLk
 have hg:Ap.goS ⟨n+1,vs lo,t⟩ e=⟨n+1,vs lo,t⟩∧Ap.goO ⟨n+1,vs lo,t⟩ e=[]:=by
  unfold Ap.goS Ap.goO
  dsimp only
  rw[if_neg h18,if_neg h18,if_neg h1,if_neg h1,if_neg h2,if_neg h4]
  exact⟨rfl,rfl⟩
 rw[hg.1,hg.2]
 try dsimp only
 have Z1:=zH (decide_eq_false h1)
 have Z2:=zH (decide_eq_false h2)
 have Z4:=zH (decide_eq_false h4)
 clear hs hf hv ho hr hn hok hok1 hfi h3 h18 h1 h2 h4 hg
 generalize vs lo=ls at *
 generalize Ses.look t (Ap.ref e)=z at *
 go_enter Tryz.func10,Tryz.ntmps10;go_wp2_with (first|(refine wpList_ast HK rfl rfl ?_;intro _ g1 HK';simp only[lcA,lnA] at HK';replace HK:=HK';clear HK')|refine wpList_exe (kst_o HK 0 _ (by rfl) (by rfl) (by rfl)) (by rfl) ?_);refine(HCo.out _ HK.out.b).mono ?_;rintro en w1 ⟨A2,k2,c2,l2,rfl,v2,q2,i2⟩;have HV2:=zH v2;have HOb:Hid (∀b W0 W L R,Kn b W0 W L R→(∀z∈(row obLay (.slice A2 k2 c2) l2::l2.flatMap rows3),z∈R)→Obs W A2 k2 c2 l2):=zH fun b W0 W L R K hm=>K.obs (hm _ (List.mem_cons_self ..)) (fun y hy=>hm y (List.mem_cons_of_mem _ hy)) i2.fo i2.s.big;replace HK:=zH (HK.out.join q2);clear q2 v2 HCo;simp only[lnA] at HK;generalize (row obLay (.slice A2 k2 c2) l2::l2.flatMap rows3)=Rc at *;go_wp2_with (first|(refine wpList_ssto HK 0 rfl _ _ rfl rfl rfl rfl ?_;intro _ HK';simp only[List.set] at HK';replace HK:=HK';clear HK')|refine wpList_exe (kst HK 0 _ (by rfl) (by rfl) (by rfl)) (by rfl) ?_);refine(HRt.out A2 k2 c2 l2 _ (HOb.out _ _ _ _ _ HK.out (fun z hz=>hz))).mono ?_;rintro en w3 ⟨rfl,b1⟩;replace HK:=hkC HK b1;clear b1;rw[HV2.out,HR1.out];go_wp2_with (first|refine wpList_exe (kexec_ee HK 1 _ (by rfl) (by rfl) (by rfl)) (by rfl) ?_);refine(HFt.out _).mono ?_;rintro en w4 ⟨rfl,b1⟩;replace HK:=hkC HK b1;clear b1;rw[HR2.out]
 go_wp2_with (first|refine wpList_exe (kst_n HK 0 _ (by rfl) (by rfl) (by rfl)) (by rfl) ?_|refine wpList_exe (exec_iE (m:=n) (n:=9223372036854775807) _ _ (by rfl) (by rfl) (by rfl) H3.out) (by rfl) ?_|refine wpList_exe (exec_incz (m:=n) (n:=n+1) _ (by rfl) (by rfl) HW.out) (by rfl) ?_|(refine wpList_sstn (m:=n+1) HK 0 rfl _ _ rfl rfl rfl rfl ?_;intro _ HK';simp only[List.set] at HK';replace HK:=HK';clear HK')|refine wpList_exe (kev_k (e:=e) HK 1 _ (by rfl) (by rfl) (by rfl)) (by rfl) ?_|refine wpList_exe (exec_iE (m:=e.cmd.k) (n:=18) _ _ (by rfl) (by rfl) (by rfl) E18.out) (by rfl) ?_|refine wpList_exe (kst_t HK 0 _ (by rfl) (by rfl) (by rfl)) (by rfl) ?_|refine wpList_exe (kexec_eref HK 1 _ (by rfl) (by rfl) (by rfl)) (by rfl) ?_)
 refine(HLk.out _).mono ?_;rintro en w5 ⟨rfl,b1⟩
 replace HK:=hkC HK b1;clear b1
 go_wp2_with (first|refine wpList_exe (exec_iE (m:=z) (n:=1) _ _ (by rfl) (by rfl) (by rfl) Z1.out) (by rfl) ?_|refine wpList_exe (exec_iE (m:=z) (n:=2) _ _ (by rfl) (by rfl) (by rfl) Z2.out) (by rfl) ?_|refine wpList_exe (exec_iE (m:=z) (n:=4) _ _ (by rfl) (by rfl) (by rfl) Z4.out) (by rfl) ?_|refine wpList_exe (kst HK 0 _ (by rfl) (by rfl) (by rfl)) (by rfl) ?_|(refine wpList_sst HK 2 rfl _ _ rfl rfl rfl rfl ?_;intro _ HK';simp only[List.set] at HK';replace HK:=HK';clear HK'))
 refine ret_sto Tryz.results10 rfl rfl rfl (HK.out.blk 2 rfl) ?_;unfold IsSt
 exact⟨A2,k2,c2,l2,none,0,0,_,rfl,HV2,HK.out.takeL 0,zH fun b W0 W L R K hm hg=>⟨HOb.out b W0 W L R K hm,Sls.none W⟩⟩
theorem apapply_any(n:Int)(A:Option Addr)(k cp:Nat)(t:Ses.T)(lo:List Oh)(e:Cmd.E)(w:World)(hs:Obs w A k cp lo)(hf:Ses.Fit t)(hv:e.cmd.val.f<18446744073709551616)(ho:e.cmd.old.f<18446744073709551616)(hr:e.r≤9223372036854775807)(hn:n≤9223372036854775807):
  Calls Tryz.prog 10 #[.agg (stA n A k cp t),.agg (evA e)] w (IsSt (fun _=>True) (Ap.apS ⟨n,vs lo,t⟩ e) (Ap.apO ⟨n,vs lo,t⟩ e) w):=by
 by_cases hcan:Ap.Can ⟨n,vs lo,t⟩ e
 case neg=>exact apapply_bad n A k cp t lo e w hs hf hv ho hcan
 by_cases h18:e.cmd.k=18
 ·exact apapply_exp n A k cp t lo e w hs hf hv ho hr hn hcan h18
 by_cases h1:Ses.look t (Ap.ref e)=1
 ·exact apapply_do n A k cp t lo e w hs hf hv ho hr hn hcan h18 h1
 by_cases h2:Ses.look t (Ap.ref e)=2
 ·exact apapply_again n A k cp t lo e w hs hf hv ho hr hn hcan h18 h2
 by_cases h4:Ses.look t (Ap.ref e)=4
 ·exact apapply_ended n A k cp t lo e w hs hf hv ho hr hn hcan h18 h4
 ·exact apapply_none n A k cp t lo e w hs hf hv ho hr hn hcan h18 h1 h2 h4
end
section
namespace Ap
def evM(c e r k:Int)(s:ByteArray)(n:Int):Cmd.E:=⟨c,e,r,⟨k,s,⟨#[]⟩,⟨0,0,0,⟨#[]⟩⟩,⟨0,0,0,⟨#[]⟩⟩,n,0⟩⟩
def nl:ByteArray:=⟨#[108]⟩
def awl:List Cmd.E:=[evM 0 1 0 1 ⟨#[]⟩ 0,evM 0 1 1 4 nl 3,evM 0 1 2 12 nl 0,evM 1 1 0 1 ⟨#[]⟩ 0,evM 1 1 1 12 nl 0,evM 0 1 0 18 ⟨#[]⟩ 0,evM 0 1 3 12 nl 0]
theorem aw_n:(all s0 awl).1.n=7:=by decide +kernel
theorem aw_o:(all s0 awl).2.length=6:=by decide +kernel
theorem aw_4:(all s0 awl).2[4]?=some ⟨⟨1,1,1⟩,Sto.rz⟩:=by decide +kernel
theorem aw_5:(all s0 awl).2[5]?=some ⟨⟨0,1,3⟩,Sto.err 14⟩:=by decide +kernel
theorem aw_f:Ses.Fit (all s0 awl).1.t:=fun c hc=>by rcases Ses.cases5 hc with rfl|rfl|rfl|rfl|rfl<;>decide +kernel
end Ap
end
end Go.Proofs.YtddpmlcpfmmbeaaGreat
