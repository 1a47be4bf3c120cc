/- What the program's parts, holds, due return. No condition but those named. -/
import Derived.Test.YtddpmlcpfmmbeaaGreatTk
import Derived.Test.YtddpmlcpfmmbeaaGreatKBH
import Derived.Test.YtddpmlcpfmmbeaaGreatKBI
import Derived.Test.YtddpmlcpfmmbeaaGreatKAW
import Derived.Test.YtddpmlcpfmmbeaaGreatKAG
import Derived.Test.YtddpmlcpfmmbeaaGreatKAN
import Derived.Test.YtddpmlcpfmmbeaaGreatKAM
import Derived.Test.YtddpmlcpfmmbeaaGreatKAJ
import Derived.Deep.CutBlock
import Derived.Deep.DeepCutAuto
set_option linter.unusedSimpArgs false
set_option linter.unusedVariables false
set_option maxRecDepth 100000
set_option maxHeartbeats 25600000
namespace Go.Proofs.YtddpmlcpfmmbeaaGreat
section
open Go.RowKit
namespace Ap
def doS(s:St)(e:Cmd.E):St:=if e.cmd.k=1 then openSt s (ref e) else freshS s (ref e) e.cmd
def doO(s:St)(e:Cmd.E):List Sto.Ot:=if e.cmd.k=1 then openO s (ref e) else freshO s (ref e) e.cmd
end Ap
theorem apdo_any(G:World→Prop)(n:Int)(A:Option Addr)(k cp:Nat)(t:Ses.T)(lo:List Oh)(e:Cmd.E)(w:World)(hG:∀W,G W→Obs W A k cp lo)(hs:Obs w A k cp lo)(hf:Ses.Fit t)(hv:e.cmd.val.f<18446744073709551616)(ho:e.cmd.old.f<18446744073709551616)(hr:e.r≤9223372036854775807)(hc:0≤e.c∧e.c<5)
  (hP:e.cmd.k=1→(t.get e.c).live=true→(t.get e.c).dn=false→((Ap.leaveS ⟨n,vs lo,t⟩ e.c).t.get e.c).p=Sto.err 14)
  (hQ:e.cmd.k=2→((Ses.endT (Ses.begT t (Ap.ref e)) (Ap.ref e) Sto.rz).get e.c).dn=true) :
  Calls Tryz.prog 24 #[.agg (stA n A k cp t),.agg (evA e)] w (IsSt G (Ap.doS ⟨n,vs lo,t⟩ e) (Ap.doO ⟨n,vs lo,t⟩ e) w):=by
 have hs2:∀W,Below w.heap.size w W→Obs W A k cp lo:=fun W hW=>hs.later hW
 have HK:=kn2 w 33 (stA n A k cp t) 39 (evA e)
 unfold Ap.doS Ap.doO
 by_cases h1:e.cmd.k=1
 case pos=>
  rw[if_pos h1,if_pos h1]
  have HOp:=zH (fun W (hW:Below w.heap.size w W)=>apopen_any (fun W=>G W∨Below w.heap.size w W) n A k cp t lo (Ap.ref e) W (fun W h=>h.elim (hG W) (hs2 W)) (hs2 W hW) hf hc hr (hP h1))
  unfold IsSt at HOp
  have H1:Hid (decide (e.cmd.k=1)=true):=zH (decide_eq_true h1)
  clear hs hG hf hv ho hr hP hQ hs2 h1
  generalize Ap.openSt ⟨n,vs lo,t⟩ (Ap.ref e)=s2 at *
  generalize Ap.openO ⟨n,vs lo,t⟩ (Ap.ref e)=os at *
  obtain⟨n2,l2,t2⟩:=s2
  dsimp only at *
  go_enter Tryz.func24,Tryz.ntmps24
  go_wp2_with (first|(refine wpList_ast HK rfl rfl ?_;intro _ g1 HK';simp only[lcA,lnA] at HK';replace HK:=HK';clear HK')|refine wpList_exe (kev_k (e:=e) HK 1 _ (by rfl) (by rfl) (by rfl)) (by rfl) ?_|refine wpList_exe (exec_iE (m:=e.cmd.k) (n:=1) _ _ (by rfl) (by rfl) (by rfl) H1.out) (by rfl) ?_|refine wpList_exe (kst HK 0 _ (by rfl) (by rfl) (by rfl)) (by rfl) ?_|refine wpList_exe (kexec_eref HK 1 _ (by rfl) (by rfl) (by rfl)) (by rfl) ?_)
  refine(HOp.out _ HK.out.b).mono ?_;rintro en w1 ⟨A2,k2,c2,lo2,O2,m2,d2,R2,rfl,HV2,q2,HI2⟩
  replace HI2:Hid (∀(b:Nat) (W0 W:World) L R,Kn b W0 W L R→(∀z∈R2,z∈R)→G W→Obs W A2 k2 c2 lo2∧Sls otLay tF W O2 m2 d2 os):=zH fun b W0 W L R K hm g=>HI2.out b W0 W L R K hm (.inl g)
  replace HK:=zH (HK.out.join q2)
  clear q2 HOp
  simp only[lnA] at HK
  go_wp2_with (first|(refine wpList_sst HK 2 rfl _ _ rfl rfl rfl rfl ?_;intro _ HK';simp only[List.set] at HK';replace HK:=HK';clear HK'))
  refine ret_sto Tryz.results24 rfl rfl rfl (HK.out.blk 2 rfl) ?_;unfold IsSt;exact⟨A2,k2,c2,lo2,O2,m2,d2,_,rfl,HV2,HK.out.takeL 0,HI2⟩
 case neg=>
 rw[if_neg h1,if_neg h1]
 have H1:Hid (decide (e.cmd.k=1)=false):=zH (decide_eq_false h1)
 have HB:=zH (fun W=>sbeg_any t (Ap.ref e) W hf hr)
 unfold IsT at HB
 have hfb:=Ses.fit_beg hf (Ap.ref e)
 have hfa:Ap.freshS ⟨n,vs lo,t⟩ (Ap.ref e) e.cmd=if e.cmd.k=3 then ⟨n,vs lo,Ses.endT (Ses.begT t (Ap.ref e)) (Ap.ref e) Sto.rz⟩ else if e.cmd.k=2 then Ap.leaveS ⟨n,vs lo,Ses.endT (Ses.begT t (Ap.ref e)) (Ap.ref e) Sto.rz⟩ e.c else askS n (Sto.doo (vs lo) (Ap.ref e) e.cmd) (Ses.begT t (Ap.ref e)) (Ap.ref e):=rfl
 have hfo:Ap.freshO ⟨n,vs lo,t⟩ (Ap.ref e) e.cmd=if e.cmd.k=3 then [⟨Ap.ref e,Sto.rz⟩] else if e.cmd.k=2 then [⟨Ap.ref e,Sto.rz⟩]++Ap.leaveO ⟨n,vs lo,Ses.endT (Ses.begT t (Ap.ref e)) (Ap.ref e) Sto.rz⟩ e.c else askO (Sto.doo (vs lo) (Ap.ref e) e.cmd) (Ap.ref e):=rfl
 rw[hfa,hfo]
 clear hfa hfo
 generalize Ses.begT t (Ap.ref e)=t1 at *
 by_cases h3:e.cmd.k=3
 case pos=>
  rw[if_pos h3,if_pos h3]
  have H3:Hid (decide (e.cmd.k=3)=true):=zH (decide_eq_true h3)
  have HTo:=zH (fun W=>aptold_any (Ap.ref e) Sto.rz W)
  have HFi:=zH (fun(O:Option Addr) (d:Nat) W (h:Sls otLay tF W O 1 d [⟨Ap.ref e,Sto.rz⟩])=>finish_any n A k cp t1 O 1 d [⟨Ap.ref e,Sto.rz⟩] W hfb h (fun y hy=>by rw[List.mem_singleton.1 hy];show(0:Nat)<_;decide))
  have e9:Ap.ends t1 (Ap.prs [⟨Ap.ref e,Sto.rz⟩])=Ses.endT t1 (Ap.ref e) Sto.rz:=rfl
  have HGo:=zH hG
  rw[e9] at HFi
  clear hs hG hf hv ho hr hP hQ hs2 h1 h3 e9 hfb
  generalize Ses.endT t1 (Ap.ref e) Sto.rz=t2 at *
  go_enter Tryz.func24,Tryz.ntmps24
  go_wp2_with (first|(refine wpList_ast HK rfl rfl ?_;intro _ g1 HK';simp only[lcA,lnA] at HK';replace HK:=HK';clear HK')|refine wpList_exe (kev_k (e:=e) HK 1 _ (by rfl) (by rfl) (by rfl)) (by rfl) ?_|refine wpList_exe (exec_iE (m:=e.cmd.k) (n:=1) _ _ (by rfl) (by rfl) (by rfl) H1.out) (by rfl) ?_|refine wpList_exe (kst_t HK 0 _ (by rfl) (by rfl) (by rfl)) (by rfl) ?_|refine wpList_exe (kexec_eref HK 1 _ (by rfl) (by rfl) (by rfl)) (by rfl) ?_)
  refine(HB.out _).mono ?_;rintro en w1 ⟨rfl,b1⟩
  replace HK:=hkC HK b1;clear b1
  go_upto_region 6 with (first|(refine wpList_sstt (u:=t1) HK 0 rfl _ _ rfl rfl rfl rfl ?_;intro _ HK';simp only[List.set] at HK';replace HK:=HK';clear HK')|refine wpList_exe (kev_k (e:=e) HK 1 _ (by rfl) (by rfl) (by rfl)) (by rfl) ?_|refine wpList_exe (exec_iE (m:=e.cmd.k) (n:=3) _ _ (by rfl) (by rfl) (by rfl) H3.out) (by rfl) ?_)
  have HK0:=zH HK.out.drew
  clear HK HB
  refine wp_region_held_drew (S:=(fun W=>Hid (Kn w.heap.size w W [(w.heap.size+1,39,evA e)] [])∧Hid (Kn w.heap.size w W [(w.heap.size,33,stA n A k cp t1)] []))) (by kernel_rfl) ?_ (fun hHeld=>?_)
  ·(try dsimp only);exact And.intro (zH (((HK0.out.dropL 1).takeL 1).takeR 0)) (zH ((HK0.out.takeL 1).takeR 0))
  refine wpAnyH_take (i:=0) (oi:=⟨some 27,_,_,_,_,_⟩) (v:=?_) rfl (by kernel_rfl) (by kernel_rfl) (by kernel_rfl) (fun _ _ _ h=>h) (Or.inl ⟨by rfl,?_⟩) (by assumption) ?_
  rotate_left
  ·(intro w hSw;refine Eq.trans (kst hSw.2 0 _ (by rfl) (by rfl) (by rfl)) ?_;with_reducible rfl)
  try simp only[Act.put,List.setIfInBounds_toArray,List.set_cons_zero,List.set_cons_succ]
  refine wpAnyH_take (i:=1) (oi:=⟨some 28,_,_,_,_,_⟩) (v:=?_) rfl (by kernel_rfl) (by kernel_rfl) (by kernel_rfl) (fun _ _ _ h=>h) (Or.inl ⟨by rfl,?_⟩) (by assumption) ?_
  rotate_left
  ·(intro w hSw;(try dsimp only at hSw);go_simp;try with_reducible rfl)
  try simp only[Act.put,List.setIfInBounds_toArray,List.set_cons_zero,List.set_cons_succ]
  refine wpAnyH_take (i:=2) (oi:=⟨some 29,_,_,_,_,_⟩) (v:=?_) rfl (by kernel_rfl) (by kernel_rfl) (by kernel_rfl) (fun _ _ _ h=>h) (Or.inl ⟨by rfl,?_⟩) (by assumption) ?_
  rotate_left
  ·(intro w hSw;refine Eq.trans (kexec_eref hSw.1 0 _ (by rfl) (by rfl) (by rfl)) ?_;with_reducible rfl)
  try simp only[Act.put,List.setIfInBounds_toArray,List.set_cons_zero,List.set_cons_succ]
  refine wpAnyH_take (i:=3) (oi:=⟨some 30,_,_,_,_,_⟩) (v:=?_) rfl (by kernel_rfl) (by kernel_rfl) (by kernel_rfl) (fun _ _ _ h=>h) (Or.inl ⟨by rfl,?_⟩) (by assumption) ?_
  rotate_left
  ·(intro w hSw;refine Eq.trans (exec_rz (by rfl)) ?_;with_reducible rfl)
  try simp only[Act.put,List.setIfInBounds_toArray,List.set_cons_zero,List.set_cons_succ]
  refine wpAnyH_ready (rs:=[4]) (by kernel_rfl) (by simp) ?_
  refine AllReadyH.cons (o:=⟨some 31,_,_,_,_,_⟩) rfl (fun K hK=>?_) AllReadyH.nil
  go_simp
  go_at_call 25
  refine(HTo.out _).mono ?_;rintro en w5 hq;obtain⟨A5,c5,rfl,o5,b5⟩:=hq.one;replace HK0:=zH (HK0.out.called b5 o5);clear o5 b5;simp only[lnA] at HK0;have hs:=And.intro (zH (((HK0.out.dropL 1).takeL 1).takeR 0)) (zH ((HK0.out.takeL 1).takeR 0))
  refine hK.out _ _ hs (fun hHeld=>?_)
  clear hK K
  try simp only[ap1,ap2,ap3,ap4,ap5]
  refine wpAnyH_ready (rs:=[5]) (by kernel_rfl) (by simp) ?_
  refine AllReadyH.cons (o:=⟨some 32,_,_,_,_,_⟩) rfl (fun K hK=>?_) AllReadyH.nil
  go_simp
  go_at_call 53
  refine(HFi.out A5 c5 _ (Sls.own (HK0.out.own 0 rfl) (fits_out (by show 1≤1000;decide)))).mono ?_;rintro en w6 ⟨rfl,b6⟩;replace HK0:=zH (HK0.out.call b6);clear b6;have hs:=And.intro (zH (((HK0.out.dropL 1).takeL 1).takeR 0)) (zH ((HK0.out.takeL 1).takeR 0))
  refine hK.out _ _ hs (fun hHeld=>?_)
  clear hK K
  try simp only[ap1,ap2,ap3,ap4,ap5]
  refine wpAnyH_take (i:=6) (oi:=⟨some 33,_,_,_,_,_⟩) (v:=?_) rfl (by kernel_rfl) (by kernel_rfl) (by kernel_rfl) (fun _ _ _ h=>h) (Or.inl ⟨by rfl,?_⟩) (by assumption) ?_
  rotate_left
  ·(intro w hSw;(try dsimp only at hSw);go_simp;try with_reducible rfl)
  try simp only[Act.put,List.setIfInBounds_toArray,List.set_cons_zero,List.set_cons_succ]
  refine wpAnyH_take (i:=7) (oi:=⟨some 34,_,_,_,_,_⟩) (v:=?_) rfl (by kernel_rfl) (by kernel_rfl) (by kernel_rfl) (fun _ _ _ h=>h) (Or.inl ⟨by rfl,?_⟩) (by assumption) ?_
  rotate_left
  ·(intro w hSw;(try dsimp only at hSw);go_simp;try with_reducible rfl)
  try simp only[Act.put,List.setIfInBounds_toArray,List.set_cons_zero,List.set_cons_succ]
  refine wpAnyH_ready (rs:=[8]) (by kernel_rfl) (by simp) ?_
  refine AllReadyH.cons (o:=⟨none,_,_,_,_,_⟩) rfl (fun K hK=>?_) AllReadyH.nil
  refine step_sst HK0 2 (by rfl) _ _ (by rfl) (by rfl) (by rfl) (by rfl) ?_;intro w8 HK';simp only[List.set] at HK';replace HK0:=HK';clear HK';have hs:=And.intro (zH (((HK0.out.dropL 1).takeL 1).takeR 0)) (zH ((HK0.out.takeL 1).takeR 0))
  refine hK.out _ _ hs (fun hHeld=>?_)
  clear hK K
  try simp only[ap1,ap2,ap3,ap4,ap5]
  refine wpAnyH_take (i:=9) (oi:=⟨some 5,_,_,_,_,_⟩) (v:=?_) rfl (by kernel_rfl) (by kernel_rfl) (by kernel_rfl) (fun _ _ _ h=>h) (Or.inl ⟨by rfl,?_⟩) (by assumption) ?_
  rotate_left
  ·(intro w hSw;(try dsimp only at hSw);go_simp;try with_reducible rfl)
  try simp only[Act.put,List.setIfInBounds_toArray,List.set_cons_zero,List.set_cons_succ]
  refine wpAnyH_done (by kernel_rfl) ?_ _
  all_goals
   have HK:=HK0
   clear HK0 hHeld
   go_wp2_with fail
   refine ret_sto Tryz.results24 rfl rfl rfl (HK.out.blk 2 rfl) ?_
   unfold IsSt
   exact⟨A,k,cp,lo,A5,1,c5,_,rfl,zH rfl,HK.out.takeL 0,zH fun b W0 W L R K hm hg=>⟨HGo.out W hg,Sls.own (K.mem (hm _ (List.mem_cons_self ..))) (fits_out (by show 1≤1000;decide))⟩⟩
 case neg=>
 rw[if_neg h3,if_neg h3]
 have H3:Hid (decide (e.cmd.k=3)=false):=zH (decide_eq_false h3)
 by_cases h2:e.cmd.k=2
 case pos=>
  rw[if_pos h2,if_pos h2]
  have H2:Hid (decide (e.cmd.k=2)=true):=zH (decide_eq_true h2)
  have HEd:=zH (fun W (hW:Below w.heap.size w W)=>apend_any G n A k cp t1 lo (Ap.ref e) W (hs2 W hW) hfb hc (hQ h2))
  have er:(Ap.ref e).c=e.c:=rfl
  rw[er] at HEd
  unfold IsSt at HEd
  clear hs hG hf hv ho hr hP hQ hs2 h1 h3 h2 er hfb
  generalize Ap.leaveS ⟨n,vs lo,Ses.endT t1 (Ap.ref e) Sto.rz⟩ e.c=s2 at *
  generalize[(⟨Ap.ref e,Sto.rz⟩:Sto.Ot)]++Ap.leaveO ⟨n,vs lo,Ses.endT t1 (Ap.ref e) Sto.rz⟩ e.c=os at *
  obtain⟨n2,l2,t2⟩:=s2
  dsimp only at *
  go_enter Tryz.func24,Tryz.ntmps24
  go_wp2_with (first|(refine wpList_ast HK rfl rfl ?_;intro _ g1 HK';simp only[lcA,lnA] at HK';replace HK:=HK';clear HK')|refine wpList_exe (kev_k (e:=e) HK 1 _ (by rfl) (by rfl) (by rfl)) (by rfl) ?_|refine wpList_exe (exec_iE (m:=e.cmd.k) (n:=1) _ _ (by rfl) (by rfl) (by rfl) H1.out) (by rfl) ?_|refine wpList_exe (kst_t HK 0 _ (by rfl) (by rfl) (by rfl)) (by rfl) ?_|refine wpList_exe (kexec_eref HK 1 _ (by rfl) (by rfl) (by rfl)) (by rfl) ?_)
  refine(HB.out _).mono ?_;rintro en w1 ⟨rfl,b1⟩
  replace HK:=hkC HK b1;clear b1
  go_wp2_with (first|(refine wpList_sstt (u:=t1) HK 0 rfl _ _ rfl rfl rfl rfl ?_;intro _ HK';simp only[List.set] at HK';replace HK:=HK';clear HK')|refine wpList_exe (kev_k (e:=e) HK 1 _ (by rfl) (by rfl) (by rfl)) (by rfl) ?_|refine wpList_exe (exec_iE (m:=e.cmd.k) (n:=3) _ _ (by rfl) (by rfl) (by rfl) H3.out) (by rfl) ?_|refine wpList_exe (exec_iE (m:=e.cmd.k) (n:=2) _ _ (by rfl) (by rfl) (by rfl) H2.out) (by rfl) ?_|refine wpList_exe (kst HK 0 _ (by rfl) (by rfl) (by rfl)) (by rfl) ?_|refine wpList_exe (kexec_eref HK 1 _ (by rfl) (by rfl) (by rfl)) (by rfl) ?_)
  refine(HEd.out _ HK.out.b).mono ?_;rintro en w1 ⟨A2,k2,c2,lo2,O2,m2,d2,R2,rfl,HV2,q2,HI2⟩
  replace HK:=zH (HK.out.join q2)
  clear q2 HEd
  simp only[lnA] at HK
  go_wp2_with (first|(refine wpList_sst HK 2 rfl _ _ rfl rfl rfl rfl ?_;intro _ HK';simp only[List.set] at HK';replace HK:=HK';clear HK'))
  refine ret_sto Tryz.results24 rfl rfl rfl (HK.out.blk 2 rfl) ?_;unfold IsSt;exact⟨A2,k2,c2,lo2,O2,m2,d2,_,rfl,HV2,HK.out.takeL 0,HI2⟩
 case neg=>
 rw[if_neg h2,if_neg h2]
 have H2:Hid (decide (e.cmd.k=2)=false):=zH (decide_eq_false h2)
 have HAs:=zH (fun W (hW:Below w.heap.size w W)=>(apask_any n A k cp t1 lo e W (hs2 W hW) hfb hv ho).mono (fun en w' h=>IsSt.mono h (fun W (_:G W)=>trivial)))
 unfold IsSt at HAs
 clear hs hG hf hv ho hr hP hQ hs2 h1 h3 h2 hfb
 generalize askS n (Sto.doo (vs lo) (Ap.ref e) e.cmd) t1 (Ap.ref e)=s2 at *
 generalize askO (Sto.doo (vs lo) (Ap.ref e) e.cmd) (Ap.ref e)=os at *
 obtain⟨n2,l2,t2⟩:=s2
 dsimp only at *
 go_enter Tryz.func24,Tryz.ntmps24
 go_wp2_with (first|(refine wpList_ast HK rfl rfl ?_;intro _ g1 HK';simp only[lcA,lnA] at HK';replace HK:=HK';clear HK')|refine wpList_exe (kev_k (e:=e) HK 1 _ (by rfl) (by rfl) (by rfl)) (by rfl) ?_|refine wpList_exe (exec_iE (m:=e.cmd.k) (n:=1) _ _ (by rfl) (by rfl) (by rfl) H1.out) (by rfl) ?_|refine wpList_exe (kst_t HK 0 _ (by rfl) (by rfl) (by rfl)) (by rfl) ?_|refine wpList_exe (kexec_eref HK 1 _ (by rfl) (by rfl) (by rfl)) (by rfl) ?_)
 refine(HB.out _).mono ?_;rintro en w1 ⟨rfl,b1⟩
 replace HK:=hkC HK b1;clear b1
 go_wp2_with (first|(refine wpList_sstt (u:=t1) HK 0 rfl _ _ rfl rfl rfl rfl ?_;intro _ HK';simp only[List.set] at HK';replace HK:=HK';clear HK')|refine wpList_exe (kev_k (e:=e) HK 1 _ (by rfl) (by rfl) (by rfl)) (by rfl) ?_|refine wpList_exe (exec_iE (m:=e.cmd.k) (n:=3) _ _ (by rfl) (by rfl) (by rfl) H3.out) (by rfl) ?_|refine wpList_exe (exec_iE (m:=e.cmd.k) (n:=2) _ _ (by rfl) (by rfl) (by rfl) H2.out) (by rfl) ?_|refine wpList_exe (kst HK 0 _ (by rfl) (by rfl) (by rfl)) (by rfl) ?_|refine wpList_exe (kexec_ee HK 1 _ (by rfl) (by rfl) (by rfl)) (by rfl) ?_)
 refine(HAs.out _ HK.out.b).mono ?_;rintro en w1 ⟨A2,k2,c2,lo2,O2,m2,d2,R2,rfl,HV2,q2,HI2⟩
 replace HK:=zH (HK.out.join q2)
 clear q2 HAs
 simp only[lnA] at HK
 go_wp2_with (first|(refine wpList_sst HK 2 rfl _ _ rfl rfl rfl rfl ?_;intro _ HK';simp only[List.set] at HK';replace HK:=HK';clear HK'))
 refine ret_sto Tryz.results24 rfl rfl rfl (HK.out.blk 2 rfl) ?_;unfold IsSt;exact⟨A2,k2,c2,lo2,O2,m2,d2,_,rfl,HV2,HK.out.takeL 0,HI2⟩
end
section
open Go.RowKit
theorem copied_any(A2:Option Addr)(c2 N:Nat)(src:List Oh)(w:World)(hs:Obs w A2 N c2 src):
  Calls Tryz.prog 20 #[.slice A2 N c2] w (IsOJ (vs src) w):=by
 have HS:=zH hs
 have HNl:Hid (src.length=N):=zH hs.len
 have HFs:Hid (Fits obLay oF src):=zH hs.s.fit
 have hnb:N*144≤140737488355328:=hs.s.big
 have HI:Hid (∀x∈src,In w x):=zH hs.i
 have HP:=zH pconcat_any
 have HV:=zH vconcat_any
 have HRf:=zH rconcat_any
 have HK:=zH (Kn.start w)
 clear hs
 go_enter Tryz.func20,Tryz.ntmps20
 go_wp2_with (first|(refine wpList_mk0 obLay HK rfl rfl ?_;intro _ g2 HK';simp only[lnA] at HK';replace HK:=HK';clear HK'))
 go_loopw [3,9] (fun vl vi wr=>∃(k:Nat) (A1:Option Addr) (c1:Nat) (l1:List Oh),k≤N∧vl=.slice A1 k c1∧vi=.int .i64 k∧Hid (vs l1=vs (src.take k))∧Hid (l1.length=k)∧Hid (Kn w.heap.size w wr [] (row obLay (.slice A1 k c1) l1::l1.flatMap rows3))) (fun _ vi _=>N-(intOf vi).toNat)
 case atStart=>exact⟨0,_,_,[],Nat.zero_le _,rfl,rfl,zH rfl,zH rfl,HK⟩
 case round=>
  clear HK
  obtain⟨k,A1,c1,l1,hk,rfl,rfl,HVs,HLen,HK⟩:=hrel
  by_cases hlt:k<N
  ·obtain⟨x,hx⟩:=Lay.get_of (l:=src) (k:=k) (by rw[HNl.out];exact hlt)
   have hsl:Sls obLay oF wr A2 N c2 src:=HS.out.s.later HK.out.b
   obtain⟨b,o,rfl,hat⟩:=hsl.at (Nat.lt_of_le_of_lt (Nat.zero_le _) hlt)
   have HX:Hid (∀j v,(obL x)[j]?=some v→wr.cell? ⟨b,o+k*11+j,none⟩=some v):=zH (hat wr (Below.refl _ _) k x hx)
   have HIx:=zH (HI.out x (List.mem_of_getElem? hx))
   have HTk:Hid (vs (src.take (k+1))=vs (src.take k)++[x.v]):=zH (by rw[Lay.take_succ hx];unfold vs;rw[List.map_append];rfl)
   have HL:Hid (l1.length+1≤9223372036854775807∧(l1.length+1)*obLay.bytes≤211106232532992):=zH (by
    rw[HLen.out]
    refine⟨by omega,?_⟩
    show(k+1)*144≤_
    omega)
   have HN2:Hid (∀y:Oh,(l1++[y]).length=k+1):=zH fun y=>by rw[List.length_append,HLen.out];rfl
   clear hsl hat hx
   have hk1:(0:Int)≤(k:Int):=by omega
   have hk2:(k:Int)<(N:Int):=by omega
   go_wp2_with (first|(refine wpList_of_exec (v:=.agg (obA x)) (by rfl) (exec_obx (off:=o+k*11) _ (by rfl) (by rfl) HX.out) ?_)|(refine wpList_aob HK rfl rfl ?_;intro _ g5 HK';simp only[lnA] at HK';replace HK:=HK';clear HK')|(refine wpList_sob HK 0 rfl _ _ rfl rfl rfl rfl ?_;intro _ HK';simp only[List.set] at HK';replace HK:=HK';clear HK')|refine wpList_exe (kob_p HK 0 _ (by rfl) (by rfl) (by rfl)) (by rfl) ?_|(refine wpList_mks1 prLay prNest HK rfl _ rfl rfl ?_;intro w3 g6 HK' _;simp only[lcA,lnA] at HK';replace HK:=HK';clear HK'))
   refine(HP.out.one HK 1 rfl (HIx.out.p.later HK.out.b).sls).mono ?_;rintro e w4 ⟨A4,n4,c4,rfl,o4,b4⟩
   replace HK:=zH (HK.out.called b4 o4)
   simp only[lcA] at HK
   clear o4 b4
   go_wp2_with (first|(refine wpList_sop HK 0 rfl _ _ rfl rfl rfl rfl x.v.prs ?_;intro _ HK';simp only[List.set] at HK';replace HK:=HK';clear HK')|refine wpList_exe (kob_v HK 0 _ (by rfl) (by rfl) (by rfl)) (by rfl) ?_|(refine wpList_mks1 vaLay vaNest HK rfl _ rfl rfl ?_;intro w5 g7 HK' _;simp only[lcA,lnA] at HK';replace HK:=HK';clear HK'))
   refine(HV.out.one HK 2 rfl (HIx.out.v.later HK.out.b)).mono ?_;rintro e w6 ⟨A5,n5,c5,rfl,o5,b5⟩
   replace HK:=zH (HK.out.called b5 o5)
   simp only[lcA] at HK
   clear o5 b5
   go_wp2_with (first|(refine wpList_sov HK 0 rfl _ _ rfl rfl rfl rfl x.v.vals ?_;intro _ HK';simp only[List.set] at HK';replace HK:=HK';clear HK')|refine wpList_exe (kob_r HK 0 _ (by rfl) (by rfl) (by rfl)) (by rfl) ?_|(refine wpList_mks1 rfLay rfNest HK rfl _ rfl rfl ?_;intro w7 g8 HK' _;simp only[lcA,lnA] at HK';replace HK:=HK';clear HK'))
   refine(HRf.out.one HK 3 rfl (HIx.out.r.later HK.out.b)).mono ?_;rintro e w8 ⟨A6,n6,c6,rfl,o6,b6⟩
   replace HK:=zH (HK.out.called b6 o6)
   simp only[lcA] at HK
   clear o6 b6
   have HN3:Hid ((l1++[((x.sp A4 n4 c4 x.v.prs).sv A5 n5 c5 x.v.vals).sr A6 n6 c6 x.v.refs]).length=k+1):=zH (HN2.out _)
   go_wp2_with (first|(refine wpList_sor HK 0 rfl _ _ rfl rfl rfl rfl x.v.refs ?_;intro _ HK';simp only[List.set] at HK';replace HK:=HK';clear HK')|refine wpList_exe (kob HK 0 _ (by rfl) (by rfl) (by rfl)) (by rfl) ?_|(refine wpList_mk1 obLay (p:=((x.sp A4 n4 c4 x.v.prs).sv A5 n5 c5 x.v.vals).sr A6 n6 c6 x.v.refs) HK (by decide) rfl _ rfl rfl rfl ?_;intro _ g9 HK';have HR:=zH (Kn.lastOwn HK'.out).rd;simp only[lcA] at HK';replace HK:=HK';clear HK')|(at_builtin;refine wpList_kmore HK obLay 0 rfl _ _ rfl rfl rfl [((x.sp A4 n4 c4 x.v.prs).sv A5 n5 c5 x.v.vals).sr A6 n6 c6 x.v.refs] rfl rfl HR HL (N:=k+1) HN3 ?_;intro A7 c7 _ HK';simp only[List.set] at HK';replace HK:=HK';clear HK'))
   refine⟨⟨k+1,A7,c7,l1++[((x.sp A4 n4 c4 x.v.prs).sv A5 n5 c5 x.v.vals).sr A6 n6 c6 x.v.refs],by omega,rfl,by go_num,zH ?_,HN3,zH ?_⟩,by simp[intOf];omega⟩
   ·rw[HTk.out,← HVs.out]
    unfold vs
    rw[List.map_append]
    rfl
   ·rw[rows3_snoc]
    have h:=HK.out.takeL 0
    rw[← lcA] at h
    exact h.init
  ·obtain rfl:k=N:=by omega
   have HEq:Hid (vs l1=vs src):=zH (by rw[HVs.out,← HNl.out,List.take_length])
   have HFo:Hid (∀y∈vs l1,Fo y):=zH fun y hy=>by
    rw[HEq.out] at hy
    obtain⟨x,hx,rfl⟩:=List.mem_map.1 hy
    exact(HI.out x hx).fo
   go_wp2_with fail
   go_ret
   exact⟨A1,k,c1,l1,rfl,HEq.out,HK.out,HK.out.obs (List.mem_cons_self ..) (fun y hy=>List.mem_cons_of_mem _ hy) HFo.out hnb⟩
end
section
open Go.RowKit
def pcA(f:Int→Nat):Array Value:=#[.int .i64 (f 0),.int .i64 (f 1),.int .i64 (f 2),.int .i64 (f 3),.int .i64 (f 4)]
def pcZ:Int→Nat:=fun _=>0
def pcU(f:Int→Nat)(c:Int)(v:Nat):Int→Nat:=fun d=>if d=c then v else f d
theorem info_pcz:(Tryz.prog.info? 74).map (fun i=>(i.zero,i.size,i.bytes))=some (some (Value.agg (pcA pcZ)),5,40):=by kernel_rfl
theorem info_pc:(Tryz.prog.info? 74).map (·.size)=some 5:=by kernel_rfl
theorem pc_at{c:Int}(hc:0≤c∧c<5)(f:Int→Nat):(pcA f)[c.toNat]?=some (.int .i64 (f c)):=by
 rcases Ses.cases5 hc with rfl|rfl|rfl|rfl|rfl<;>rfl
theorem pc_put{c:Int}(hc:0≤c∧c<5)(f:Int→Nat)(v:Nat):(pcA f).setIfInBounds c.toNat (.int .i64 v)=pcA (pcU f c v):=by
 rcases Ses.cases5 hc with rfl|rfl|rfl|rfl|rfl<;>kernel_rfl
section
variable {b0:Nat}{w0 w:World}{L:List (Nat×TypeId×Array Value)}{R:List RowE}{ops:Array Oper}{rest:List Oper}{o:Oper}{a:Act}{Q:Exit→Act→World→Prop}{K:Act→World→Prop}{E:Prop}{g:Nat}{f h2:Int→Nat}{c:Int}
theorem wpList_apc(HK:Hid (Kn b0 w0 w L R))(hgd:o.guard=none)(ho:o.op=.alloc 74)
  (h:∀w' g,Hid (Kn b0 w0 w' (L++[(g,74,pcA pcZ)]) R)→wpList Tryz.prog ops Q rest (a.put o.dst (.pointer (some ⟨g,0,none⟩))) w'):wpList Tryz.prog ops Q (o::rest) a w:=
 wpList_plain hgd fun _ hK=>kwp_made info_pcz HK ho fun w' g h1 _=>hK _ _ (h w' g h1)
theorem wpList_spc(HK:Hid (Kn b0 w0 w L R))(i:Nat)(hgd:o.guard=none)(x y:Operand)(ho:o.op=.store 74 x y)(hL:L[i]?=some (g,74,pcA f))(hx:a.eval x=.pointer (some ⟨g,0,none⟩))(hy:a.eval y=.agg (pcA h2))
  (h:∀w',Hid (Kn b0 w0 w' (L.set i (g,74,pcA h2)) R)→wpList Tryz.prog ops Q rest (a.put o.dst undef) w'):wpList Tryz.prog ops Q (o::rest) a w:=
 wpList_plain hgd fun _ hK=>kwp_ss HK _ x y ho i hL hx hy (by show 5≤5;decide) info_pc (by simp[pcA,Value.oneCell']) fun w' h1 _=>hK _ _ (h w' (by
  have e:putCells (pcA f) 0 (pcA h2).toList=pcA h2:=by rw[putCells_all (vs:=(pcA h2).toList) (cs:=pcA f) rfl,Array.toArray_toList]
  rw[e] at h1
  exact h1))
theorem wpList_sp1(HK:Hid (Kn b0 w0 w L R))(i:Nat)(hgd:o.guard=none)(hc:0≤c∧c<5){v:Nat}(x y:Operand)(ho:o.op=.store 3 x y)(hL:L[i]?=some (g,74,pcA f))(hx:a.eval x=.pointer (some ⟨g,c.toNat,none⟩))(hy:a.eval y=.int .i64 v)
  (h:∀w',Hid (Kn b0 w0 w' (L.set i (g,74,pcA (pcU f c v))) R)→wpList Tryz.prog ops Q rest (a.put o.dst undef) w'):wpList Tryz.prog ops Q (o::rest) a w:=
 wpList_plain hgd fun _ hK=>kwp_sc HK _ x y ho i hL hx hy rfl rfl (by show c.toNat<5;omega) (by kernel_rfl) fun w' h1 _=>hK _ _ (h w' (by rw[pc_put hc] at h1;exact h1))
theorem kpc(HK:Hid (Kn b0 w0 w L R))(i:Nat)(x:Operand)(ho:o.op=.load 74 x)(hL:L[i]?=some (g,74,pcA f))(hx:a.eval x=.pointer (some ⟨g,0,none⟩)):
  (execOp a.eval o).run Tryz.prog w=.ok (.value (.agg (pcA f))) w:=
 kexec_lw HK _ x ho i hL hx (pcA f) (fun j _=>by rw[Nat.zero_add]) Tryz.underlying74 rfl info_pc
theorem kpc1(HK:Hid (Kn b0 w0 w L R))(i:Nat)(hc:0≤c∧c<5)(x:Operand)(ho:o.op=.load 3 x)(hL:L[i]?=some (g,74,pcA f))(hx:a.eval x=.pointer (some ⟨g,c.toNat,none⟩)):
  (execOp a.eval o).run Tryz.prog w=.ok (.value (.int .i64 (f c))) w:=
 kexec_lc HK _ x ho i hL hx (pc_at hc f) Tryz.underlying3 rfl
theorem exec_ixp(hc:0≤c∧c<5)(x y:Operand)(ho:o.op=.indexAddr 74 x y)(hx:a.eval x=.pointer (some ⟨g,0,none⟩))(hy:a.eval y=.int .i64 c):
  (execOp a.eval o).run Tryz.prog w=.ok (.value (.pointer (some ⟨g,c.toNat,none⟩))) w:=by
 have h:(Instr.indexAt 74 (.pointer (some ⟨g,0,none⟩)) (.int .i64 c)).run Tryz.prog w=.ok (.pointer (some ⟨g,c.toNat,none⟩)) w:=by
  rcases Ses.cases5 hc with rfl|rfl|rfl|rfl|rfl<;>kernel_rfl
 unfold execOp
 simp only[ho,hx,hy,Sem.run_bind,Sem.run_pure,Result.andThen_ok,h]
theorem exec_bpz(ho:o.op=.build 74 #[]):(execOp a.eval o).run Tryz.prog w=.ok (.value (.agg (pcA pcZ))) w:=by
 have h:(Instr.build 74 #[]).run Tryz.prog w=.ok (.agg (pcA pcZ)) w:=by kernel_rfl
 unfold execOp
 simp only[ho,Sem.run_bind,Sem.run_pure,Result.andThen_ok,List.map_toArray,List.map_cons,List.map_nil,h]
theorem cells_in:Tryz.prog.cellsOf 3=1:=by kernel_rfl
theorem part_pc(f:Int→Nat)(w:World):(part 3 (pcA f) (0*1)).run Tryz.prog w=.ok (.int .i64 (f 0)) w∧(part 3 (pcA f) (1*1)).run Tryz.prog w=.ok (.int .i64 (f 1)) w∧(part 3 (pcA f) (2*1)).run Tryz.prog w=.ok (.int .i64 (f 2)) w∧(part 3 (pcA f) (3*1)).run Tryz.prog w=.ok (.int .i64 (f 3)) w∧(part 3 (pcA f) (4*1)).run Tryz.prog w=.ok (.int .i64 (f 4)) w:=by
 refine⟨?_,?_,?_,?_,?_⟩<;>kernel_rfl
theorem run_ieq(m n:Nat)(w:World):(Op.equalIn 9999 3 (.int .i64 m) (.int .i64 n)).run Tryz.prog w=.ok (decide (m=n)) w:=by
 have e:decide (m=n)=decide ((m:Int)=(n:Int)):=decide_eq_decide.2 ⟨fun h=>by rw[h],fun h=>by omega⟩
 rw[e]
 go_simp
 rw[Bool.eq_iff_iff]
 simp
theorem run_pceq(f h:Int→Nat)(w:World):(Op.equalIn 10000 74 (.agg (pcA f)) (.agg (pcA h))).run Tryz.prog w=.ok (decide (∀c∈([0,1,2,3,4]:List Int),f c=h c)) w:=by
 obtain⟨i,hi⟩:∃i,Tryz.prog.info? 3=some i:=Option.isSome_iff_exists.1 (by kernel_rfl)
 obtain⟨a0,a1,a2,a3,a4⟩:=part_pc f w
 obtain⟨b0,b1,b2,b3,b4⟩:=part_pc h w
 have e:decide (∀c∈([0,1,2,3,4]:List Int),f c=h c)=(decide (f 0=h 0)&&(decide (f 1=h 1)&&(decide (f 2=h 2)&&(decide (f 3=h 3)&&decide (f 4=h 4))))):=by
  rw[Bool.eq_iff_iff]
  simp
 rw[e,run_equalIn_array w 9999 _ _ Tryz.underlying74 hi,cells_in]
 simp only[List.range,List.range.loop,Op.eqItems,Sem.run_bind,a0,a1,a2,a3,a4,b0,b1,b2,b3,b4,run_ieq,Result.andThen_ok]
 by_cases e0:f 0=h 0
 case neg=>rw[decide_eq_false e0];rfl
 rw[decide_eq_true e0]
 by_cases e1:f 1=h 1
 case neg=>simp only[decide_eq_false e1,Sem.run_bind,Sem.run_pure,a1,a2,a3,a4,b1,b2,b3,b4,run_ieq,Result.andThen_ok,Bool.not_true,Bool.not_false,Bool.false_eq_true,if_true,if_false,Bool.true_and,Bool.false_and,Bool.and_true,reduceIte]
 by_cases e2:f 2=h 2
 case neg=>simp only[decide_eq_false e2,Sem.run_bind,Sem.run_pure,a1,a2,a3,a4,b1,b2,b3,b4,run_ieq,Result.andThen_ok,Bool.not_true,Bool.not_false,Bool.false_eq_true,if_true,if_false,Bool.true_and,Bool.false_and,Bool.and_true,reduceIte,decide_eq_true e1]
 by_cases e3:f 3=h 3
 case neg=>simp only[decide_eq_false e3,Sem.run_bind,Sem.run_pure,a1,a2,a3,a4,b1,b2,b3,b4,run_ieq,Result.andThen_ok,Bool.not_true,Bool.not_false,Bool.false_eq_true,if_true,if_false,Bool.true_and,Bool.false_and,Bool.and_true,reduceIte,decide_eq_true e1,decide_eq_true e2]
 by_cases e4:f 4=h 4
 case neg=>simp only[decide_eq_false e4,Sem.run_bind,Sem.run_pure,a1,a2,a3,a4,b1,b2,b3,b4,run_ieq,Result.andThen_ok,Bool.not_true,Bool.not_false,Bool.false_eq_true,if_true,if_false,Bool.true_and,Bool.false_and,Bool.and_true,reduceIte,decide_eq_true e1,decide_eq_true e2,decide_eq_true e3]
 simp only[decide_eq_true e1,decide_eq_true e2,decide_eq_true e3,decide_eq_true e4,Sem.run_bind,Sem.run_pure,a1,a2,a3,a4,b1,b2,b3,b4,run_ieq,Result.andThen_ok,Bool.not_true,Bool.not_false,Bool.false_eq_true,if_true,if_false,Bool.true_and,Bool.false_and,Bool.and_true,reduceIte]
theorem exec_pcE{b:Bool}(x y:Operand)(ho:o.op=.binOp .eql 74 x y 74)(hx:a.eval x=.agg (pcA f))(hy:a.eval y=.agg (pcA h2))(hb:decide (∀c∈([0,1,2,3,4]:List Int),f c=h2 c)=b):
  (execOp a.eval o).run Tryz.prog w=.ok (.value (.bool b)) w:=by
 have h:=run_pceq f h2 w
 rw[hb] at h
 unfold execOp
 simp only[ho,hx,hy]
 go_simp
end
section
variable {fn:Func}{R:Ending→World→Prop}{a:Act}{w:World}{B:Nat}{f:Int→Nat}{q:Tmp}
theorem ret_pc(hf:fn.results=#[.cell q 74])(h2:a.tmps[q]?=some (.pointer (some ⟨B,0,none⟩)))(hd:a.defers=[])(hb:Blk w B 74 (pcA f))
  (hR:R (.returned (.agg (pcA f))) w):bodyPost Tryz.prog fn R Exit.ret a w:=
 bodyPost_ret (results_cell_row hf a.tmps w B _ _ (0,0) _ (by simp[h2]) hb Tryz.underlying74 rfl info_pc) hd hR
def IsPc(f:Int→Nat)(w:World)(e:Ending)(w':World):Prop:=e=.returned (.agg (pcA f))∧Below w.heap.size w w'
end
end
section
namespace Ap
open Sto Ses
theorem cnt_take(l:List Rf)(c:Int)(j:Nat)(r:Rf)(h:l[j]?=some r):cnt (l.take (j+1)) c=cnt (l.take j) c+if r.c=c then 1 else 0:=by
 rw[List.take_add_one,h,cnt_append]
 show _+cnt [r] c=_
 rw[cnt_cons]
 show _+(0+_)=_
 rw[Nat.zero_add]
theorem W_take{l:List Ob}{i:Nat}{o:Ob}(h:l[i]?=some o)(c:Int):cnt (W (l.take (i+1))) c=cnt (W (l.take i)) c+cnt (wts o) c:=by
 rw[List.take_add_one,h]
 unfold W
 rw[List.flatMap_append,cnt_append]
 congr 2
 simp
theorem cnt_len(l:List Rf)(c:Int):cnt l c≤l.length:=List.countP_le_length
end Ap
end
section
open Go.RowKit
def pN(x:Oh):Nat:=if x.v.kind=3 then min 1 x.rn else 0
theorem pN_le(x:Oh):pN x≤x.rn:=by unfold pN;split<;>omega
theorem pN_take{x:Oh}(h:x.v.refs.length=x.rn):Ap.hld x.v=x.v.refs.take (pN x)∧Ap.wts x.v=x.v.refs.drop (pN x):=by
 unfold Ap.hld Ap.wts pN
 rw[← h]
 split
 ·cases hr:x.v.refs with
  | nil=>exact⟨rfl,rfl⟩
  | cons r m=>rw[show min 1 (r::m).length=1 from by rw[List.length_cons];omega];exact⟨rfl,rfl⟩
 ·exact⟨List.take_zero.symm,rfl⟩
def IsPts(x:Oh)(w:World)(e:Ending)(w':World):Prop:=∃(A1:Option Addr) (n1 c1:Nat) (A2:Option Addr) (n2 c2:Nat),e=.returned (.tuple #[.slice A1 n1 c1,.slice A2 n2 c2])∧(∀W,In W x→Sls rfLay rF W A1 n1 c1 (Ap.hld x.v)∧Sls rfLay rF W A2 n2 c2 (Ap.wts x.v))∧Below w.heap.size w w'
theorem apparts_any(x:Oh)(w:World)(hx:In w x):Calls Tryz.prog 34 #[.agg (obA x)] w (IsPts x w):=by
 have HR:=zH hx.r
 obtain⟨q1,q2⟩:=pN_take hx.r.len
 have hle:=pN_le x
 have hlc:x.rn≤x.rc:=hx.r.cap
 have HN:Hid (pN x=if x.v.kind=3 then min 1 x.rn else 0):=zH rfl
 have HS1:Hid (∀W,In W x→Sls rfLay rF W x.rA (pN x) x.rc (Ap.hld x.v)∧Sls rfLay rF W (subA 3 x.rA (pN x) x.rc) (x.rn-pN x) (x.rc-pN x) (Ap.wts x.v)):=zH fun W h=>⟨by rw[q1];exact h.r.take hle,by rw[q2];exact h.r.drop hle⟩
 have hlc2:pN x≤x.rc:=Nat.le_trans hle hlc
 clear q1 q2 hlc hx
 generalize pN x=N at *
 have HK:=kn1 w 60 (obA x)
 go_enter Tryz.func34,Tryz.ntmps34
 have HT:Hid (decide (x.v.kind=3)=true→N=min 1 x.rn):=zH fun h=>by rw[HN.out,if_pos (of_decide_eq_true h)]
 have HF:Hid (decide (x.v.kind=3)=false→N=0):=zH fun h=>by rw[HN.out,if_neg (of_decide_eq_false h)]
 obtain⟨b,hb⟩:∃b,decide (x.v.kind=3)=b:=⟨_,rfl⟩
 have E3:=zH hb
 rw[hb] at HT HF
 clear hb HN
 go_upto_if 7 with (first|refine wpList_exe (kob_k HK 0 _ (by rfl) (by rfl) (by rfl)) (by rfl) ?_|refine wpList_exe (exec_iE (m:=x.v.kind) (n:=3) _ _ (by rfl) (by rfl) (by rfl) E3.out) (by rfl) ?_)
 try simp only[ap1,ap2,ap3,ap4,ap5]
 go_cut [4] (fun v wx=>v=.int .i64 (N:Int)∧Hid (Kn w.heap.size w wx [(w.heap.size,60,obA x)] []))
 case first=>
  clear HS1 hle hlc2
  cases b with
  | true=>
   have hN:=HT.out rfl
   clear HT HF
   by_cases h0:1≤x.rn
   ·have hN:(N:Int)=1:=by omega
    have h1:(1:Int)≤(x.rn:Int):=by omega
    have h2:¬(x.rn:Int)<1:=by omega
    go_wp2_with (first|refine wpList_exe (kob_r HK 0 _ (by rfl) (by rfl) (by rfl)) (by rfl) ?_)
    all_goals (try omega)
    go_meet
    exact⟨by rw[hN],HK⟩
   ·have hN:(N:Int)=0:=by omega
    have h1:(x.rn:Int)=0:=by omega
    have h2:(x.rn:Int)<1:=by omega
    go_wp2_with (first|refine wpList_exe (kob_r HK 0 _ (by rfl) (by rfl) (by rfl)) (by rfl) ?_)
    all_goals (try omega)
    go_meet
    exact⟨by rw[hN],HK⟩
  | false=>
   have hN:=HF.out rfl
   clear HT HF
   go_wp2_with fail
   go_meet
   exact⟨by rw[hN];rfl,HK⟩
 case rest=>
 clear HK HT HF
 obtain⟨rfl,HK⟩:=hcut
 go_wp2_with fail
 have HK0:=zH HK.out.drew
 refine wp_region_held_drew (S:=(fun W=>Hid (Kn w.heap.size w W [(w.heap.size,60,obA x)] []))) (by kernel_rfl) ?_ (fun hHeld=>?_)
 ·(try dsimp only);exact HK0
 refine wpAnyH_take (i:=0) (oi:=⟨some 12,_,_,_,_,_⟩) (v:=?_) rfl (by kernel_rfl) (by kernel_rfl) (by kernel_rfl) (fun _ _ _ h=>h) (Or.inl ⟨by rfl,?_⟩) (by assumption) ?_
 rotate_left
 ·(intro w hSw;(try dsimp only at hSw);go_simp;try with_reducible rfl)
 try simp only[Act.put,List.setIfInBounds_toArray,List.set_cons_zero,List.set_cons_succ]
 refine wpAnyH_take (i:=1) (oi:=⟨some 13,_,_,_,_,_⟩) (v:=?_) rfl (by kernel_rfl) (by kernel_rfl) (by kernel_rfl) (fun _ _ _ h=>h) (Or.inl ⟨by rfl,?_⟩) (by assumption) ?_
 rotate_left
 ·(intro w hSw;refine Eq.trans (kob_r hSw 0 _ (by rfl) (by rfl) (by rfl)) ?_;with_reducible rfl)
 try simp only[Act.put,List.setIfInBounds_toArray,List.set_cons_zero,List.set_cons_succ]
 refine wpAnyH_take (i:=2) (oi:=⟨some 14,_,_,_,_,_⟩) (v:=?_) rfl (by kernel_rfl) (by kernel_rfl) (by kernel_rfl) (fun _ _ _ h=>h) (Or.inl ⟨by rfl,?_⟩) (by assumption) ?_
 rotate_left
 ·(intro w hSw;(try dsimp only at hSw);go_simp;try with_reducible rfl)
 try simp only[Act.put,List.setIfInBounds_toArray,List.set_cons_zero,List.set_cons_succ]
 refine wpAnyH_take (i:=3) (oi:=⟨some 15,_,_,_,_,_⟩) (v:=?_) rfl (by kernel_rfl) (by kernel_rfl) (by kernel_rfl) (fun _ _ _ h=>h) (Or.inl ⟨by rfl,?_⟩) (by assumption) ?_
 rotate_left
 ·(intro w hSw;refine Eq.trans (exec_srh (hi:=N) _ _ (by rfl) (by rfl) (by rfl) hlc2) ?_;with_reducible rfl)
 try simp only[Act.put,List.setIfInBounds_toArray,List.set_cons_zero,List.set_cons_succ]
 refine wpAnyH_take (i:=4) (oi:=⟨some 16,_,_,_,_,_⟩) (v:=?_) rfl (by kernel_rfl) (by kernel_rfl) (by kernel_rfl) (fun _ _ _ h=>h) (Or.inl ⟨by rfl,?_⟩) (by assumption) ?_
 rotate_left
 ·(intro w hSw;(try dsimp only at hSw);go_simp;try with_reducible rfl)
 try simp only[Act.put,List.setIfInBounds_toArray,List.set_cons_zero,List.set_cons_succ]
 refine wpAnyH_take (i:=5) (oi:=⟨some 17,_,_,_,_,_⟩) (v:=?_) rfl (by kernel_rfl) (by kernel_rfl) (by kernel_rfl) (fun _ _ _ h=>h) (Or.inl ⟨by rfl,?_⟩) (by assumption) ?_
 rotate_left
 ·(intro w hSw;refine Eq.trans (kob_r hSw 0 _ (by rfl) (by rfl) (by rfl)) ?_;with_reducible rfl)
 try simp only[Act.put,List.setIfInBounds_toArray,List.set_cons_zero,List.set_cons_succ]
 refine wpAnyH_take (i:=6) (oi:=⟨some 18,_,_,_,_,_⟩) (v:=?_) rfl (by kernel_rfl) (by kernel_rfl) (by kernel_rfl) (fun _ _ _ h=>h) (Or.inl ⟨by rfl,?_⟩) (by assumption) ?_
 rotate_left
 ·(intro w hSw;(try dsimp only at hSw);go_simp;try with_reducible rfl)
 try simp only[Act.put,List.setIfInBounds_toArray,List.set_cons_zero,List.set_cons_succ]
 refine wpAnyH_take (i:=7) (oi:=⟨some 19,_,_,_,_,_⟩) (v:=?_) rfl (by kernel_rfl) (by kernel_rfl) (by kernel_rfl) (fun _ _ _ h=>h) (Or.inl ⟨by rfl,?_⟩) (by assumption) ?_
 rotate_left
 ·(intro w hSw;refine Eq.trans (exec_srl (lo:=N) _ _ (by rfl) (by rfl) (by rfl) hle) ?_;with_reducible rfl)
 try simp only[Act.put,List.setIfInBounds_toArray,List.set_cons_zero,List.set_cons_succ]
 refine wpAnyH_take (i:=8) (oi:=⟨some 2,_,_,_,_,_⟩) (v:=?_) rfl (by kernel_rfl) (by kernel_rfl) (by kernel_rfl) (fun _ _ _ h=>h) (Or.inl ⟨by rfl,?_⟩) (by assumption) ?_
 rotate_left
 ·(intro w hSw;(try dsimp only at hSw);go_simp;try with_reducible rfl)
 try simp only[Act.put,List.setIfInBounds_toArray,List.set_cons_zero,List.set_cons_succ]
 refine wpAnyH_take (i:=9) (oi:=⟨some 3,_,_,_,_,_⟩) (v:=?_) rfl (by kernel_rfl) (by kernel_rfl) (by kernel_rfl) (fun _ _ _ h=>h) (Or.inl ⟨by rfl,?_⟩) (by assumption) ?_
 rotate_left
 ·(intro w hSw;(try dsimp only at hSw);go_simp;try with_reducible rfl)
 try simp only[Act.put,List.setIfInBounds_toArray,List.set_cons_zero,List.set_cons_succ]
 refine wpAnyH_done (by kernel_rfl) ?_ _
 go_wp2_with fail
 exact ret_t2 Tryz.results34 rfl rfl rfl ⟨_,_,_,_,_,_,rfl,HS1.out,hHeld.out.b⟩
end
end Go.Proofs.YtddpmlcpfmmbeaaGreat
