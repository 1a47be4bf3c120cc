/- What the program's Apply returns. No condition but those named. -/
import Derived.Test.YtddpmlcpfmmbeaaGreatTk
import Derived.Test.YtddpmlcpfmmbeaaGreatKBL
set_option linter.unusedSimpArgs false
set_option linter.unusedVariables false
set_option maxRecDepth 100000
set_option maxHeartbeats 25600000
namespace Go.Proofs.YtddpmlcpfmmbeaaGreat
section
open Go.RowKit
theorem apapply_bad(n:Int)(A:Option Addr)(k cp:Nat)(t:Ses.T)(lo:List Oh)(e:Cmd.E)(w:World)(hs:Obs w A k cp lo)(hf:Ses.Fit t)(hv:e.cmd.val.f<18446744073709551616)(ho:e.cmd.old.f<18446744073709551616)(hbad:¬Ap.Can ⟨n,vs lo,t⟩ e):
  Calls Tryz.prog 10 #[.agg (stA n A k cp t),.agg (evA e)] w (IsSt (fun _=>True) (Ap.apS ⟨n,vs lo,t⟩ e) (Ap.apO ⟨n,vs lo,t⟩ e) w):=by
 rw[(Ap.ap_bad hbad).1,(Ap.ap_bad hbad).2]
 have HK:=kn2 w 33 (stA n A k cp t) 39 (evA e)
 have HCo:=zH (fun W (hW:Below w.heap.size w W)=>copied_any A cp k lo W (hs.later hW))
 have HRt:=zH (fun(A2:Option Addr) (k2 c2:Nat) (l2:List Oh) W (h:Obs W A2 k2 c2 l2)=>apright_any n A2 k2 c2 t l2 W h hf)
 have HFt:=zH (fun W=>cfits_any e W hv ho)
 unfold IsOJ at HCo
 unfold IsB at HRt
 by_cases h1:Ap.Ok ⟨n,vs lo,t⟩
 case neg=>
  have HR1:=zH (decide_eq_false h1)
  clear hs hf hv ho hbad h1 HFt
  generalize vs lo=ls at *
  go_enter Tryz.func10,Tryz.ntmps10
  go_wp2_with (first|(refine wpList_ast HK rfl rfl ?_;intro _ g1 HK';simp only[lcA,lnA] at HK';replace HK:=HK';clear HK')|refine wpList_exe (kst_o HK 0 _ (by rfl) (by rfl) (by rfl)) (by rfl) ?_);refine(HCo.out _ HK.out.b).mono ?_;rintro en w1 ⟨A2,k2,c2,l2,rfl,v2,q2,i2⟩;have HV2:=zH v2;have HOb:Hid (∀b W0 W L R,Kn b W0 W L R→(∀z∈(row obLay (.slice A2 k2 c2) l2::l2.flatMap rows3),z∈R)→Obs W A2 k2 c2 l2):=zH fun b W0 W L R K hm=>K.obs (hm _ (List.mem_cons_self ..)) (fun y hy=>hm y (List.mem_cons_of_mem _ hy)) i2.fo i2.s.big;replace HK:=zH (HK.out.join q2);clear q2 v2 HCo;simp only[lnA] at HK;generalize (row obLay (.slice A2 k2 c2) l2::l2.flatMap rows3)=Rc at *
  go_wp2_with (first|(refine wpList_ssto HK 0 rfl _ _ rfl rfl rfl rfl ?_;intro _ HK';simp only[List.set] at HK';replace HK:=HK';clear HK')|refine wpList_exe (kst HK 0 _ (by rfl) (by rfl) (by rfl)) (by rfl) ?_)
  refine(HRt.out A2 k2 c2 l2 _ (HOb.out _ _ _ _ _ HK.out (fun z hz=>hz))).mono ?_;rintro en w3 ⟨rfl,b1⟩
  replace HK:=hkC HK b1;clear b1
  rw[HV2.out,HR1.out]
  go_upto_region 3 with fail
  go_wp2_with (first|refine wpList_exe (kst HK 0 _ (by rfl) (by rfl) (by rfl)) (by rfl) ?_|(refine wpList_sst HK 2 rfl _ _ rfl rfl rfl rfl ?_;intro _ HK';simp only[List.set] at HK';replace HK:=HK';clear HK'))
  refine ret_sto Tryz.results10 rfl rfl rfl (HK.out.blk 2 rfl) ?_;unfold IsSt
  exact⟨A2,k2,c2,l2,none,0,0,_,rfl,HV2,HK.out.takeL 0,zH fun b W0 W L R K hm hg=>⟨HOb.out b W0 W L R K hm,Sls.none W⟩⟩
 case pos=>
 have HR1:=zH (decide_eq_true h1)
 by_cases h2:Cmd.fits e
 case neg=>
  have HR2:=zH (decide_eq_false h2)
  clear hs hf hv ho hbad h1 h2
  generalize vs lo=ls at *
  go_enter Tryz.func10,Tryz.ntmps10
  go_wp2_with (first|(refine wpList_ast HK rfl rfl ?_;intro _ g1 HK';simp only[lcA,lnA] at HK';replace HK:=HK';clear HK')|refine wpList_exe (kst_o HK 0 _ (by rfl) (by rfl) (by rfl)) (by rfl) ?_);refine(HCo.out _ HK.out.b).mono ?_;rintro en w1 ⟨A2,k2,c2,l2,rfl,v2,q2,i2⟩;have HV2:=zH v2;have HOb:Hid (∀b W0 W L R,Kn b W0 W L R→(∀z∈(row obLay (.slice A2 k2 c2) l2::l2.flatMap rows3),z∈R)→Obs W A2 k2 c2 l2):=zH fun b W0 W L R K hm=>K.obs (hm _ (List.mem_cons_self ..)) (fun y hy=>hm y (List.mem_cons_of_mem _ hy)) i2.fo i2.s.big;replace HK:=zH (HK.out.join q2);clear q2 v2 HCo;simp only[lnA] at HK;generalize (row obLay (.slice A2 k2 c2) l2::l2.flatMap rows3)=Rc at *
  go_wp2_with (first|(refine wpList_ssto HK 0 rfl _ _ rfl rfl rfl rfl ?_;intro _ HK';simp only[List.set] at HK';replace HK:=HK';clear HK')|refine wpList_exe (kst HK 0 _ (by rfl) (by rfl) (by rfl)) (by rfl) ?_)
  refine(HRt.out A2 k2 c2 l2 _ (HOb.out _ _ _ _ _ HK.out (fun z hz=>hz))).mono ?_;rintro en w3 ⟨rfl,b1⟩
  replace HK:=hkC HK b1;clear b1
  rw[HV2.out,HR1.out]
  go_wp2_with (first|refine wpList_exe (kexec_ee HK 1 _ (by rfl) (by rfl) (by rfl)) (by rfl) ?_)
  refine(HFt.out _).mono ?_;rintro en w4 ⟨rfl,b1⟩
  replace HK:=hkC HK b1;clear b1
  rw[HR2.out]
  go_upto_region 3 with fail
  go_wp2_with (first|refine wpList_exe (kst HK 0 _ (by rfl) (by rfl) (by rfl)) (by rfl) ?_|(refine wpList_sst HK 2 rfl _ _ rfl rfl rfl rfl ?_;intro _ HK';simp only[List.set] at HK';replace HK:=HK';clear HK'))
  refine ret_sto Tryz.results10 rfl rfl rfl (HK.out.blk 2 rfl) ?_;unfold IsSt
  exact⟨A2,k2,c2,l2,none,0,0,_,rfl,HV2,HK.out.takeL 0,zH fun b W0 W L R K hm hg=>⟨HOb.out b W0 W L R K hm,Sls.none W⟩⟩
 case pos=>
 have h3:n=9223372036854775807:=Decidable.byContradiction fun g=>hbad ⟨h1,h2,g⟩
 have HR2:=zH (decide_eq_true h2)
 have H3:Hid (decide (n=9223372036854775807)=true):=zH (decide_eq_true h3)
 clear hs hf hv ho hbad h1 h2 h3
 generalize vs lo=ls at *
 go_enter Tryz.func10,Tryz.ntmps10
 go_wp2_with (first|(refine wpList_ast HK rfl rfl ?_;intro _ g1 HK';simp only[lcA,lnA] at HK';replace HK:=HK';clear HK')|refine wpList_exe (kst_o HK 0 _ (by rfl) (by rfl) (by rfl)) (by rfl) ?_);refine(HCo.out _ HK.out.b).mono ?_;rintro en w1 ⟨A2,k2,c2,l2,rfl,v2,q2,i2⟩;have HV2:=zH v2;have HOb:Hid (∀b W0 W L R,Kn b W0 W L R→(∀z∈(row obLay (.slice A2 k2 c2) l2::l2.flatMap rows3),z∈R)→Obs W A2 k2 c2 l2):=zH fun b W0 W L R K hm=>K.obs (hm _ (List.mem_cons_self ..)) (fun y hy=>hm y (List.mem_cons_of_mem _ hy)) i2.fo i2.s.big;replace HK:=zH (HK.out.join q2);clear q2 v2 HCo;simp only[lnA] at HK;generalize (row obLay (.slice A2 k2 c2) l2::l2.flatMap rows3)=Rc at *
 go_wp2_with (first|(refine wpList_ssto HK 0 rfl _ _ rfl rfl rfl rfl ?_;intro _ HK';simp only[List.set] at HK';replace HK:=HK';clear HK')|refine wpList_exe (kst HK 0 _ (by rfl) (by rfl) (by rfl)) (by rfl) ?_)
 refine(HRt.out A2 k2 c2 l2 _ (HOb.out _ _ _ _ _ HK.out (fun z hz=>hz))).mono ?_;rintro en w3 ⟨rfl,b1⟩
 replace HK:=hkC HK b1;clear b1
 rw[HV2.out,HR1.out]
 go_wp2_with (first|refine wpList_exe (kexec_ee HK 1 _ (by rfl) (by rfl) (by rfl)) (by rfl) ?_)
 refine(HFt.out _).mono ?_;rintro en w4 ⟨rfl,b1⟩
 replace HK:=hkC HK b1;clear b1
 rw[HR2.out]
 go_upto_region 3 with (first|refine wpList_exe (kst_n HK 0 _ (by rfl) (by rfl) (by rfl)) (by rfl) ?_|refine wpList_exe (exec_iE (m:=n) (n:=9223372036854775807) _ _ (by rfl) (by rfl) (by rfl) H3.out) (by rfl) ?_)
 go_wp2_with (first|refine wpList_exe (kst HK 0 _ (by rfl) (by rfl) (by rfl)) (by rfl) ?_|(refine wpList_sst HK 2 rfl _ _ rfl rfl rfl rfl ?_;intro _ HK';simp only[List.set] at HK';replace HK:=HK';clear HK'))
 refine ret_sto Tryz.results10 rfl rfl rfl (HK.out.blk 2 rfl) ?_;unfold IsSt
 exact⟨A2,k2,c2,l2,none,0,0,_,rfl,HV2,HK.out.takeL 0,zH fun b W0 W L R K hm hg=>⟨HOb.out b W0 W L R K hm,Sls.none W⟩⟩
end
end Go.Proofs.YtddpmlcpfmmbeaaGreat
