/- What the program's open returns. No condition but those named. -/
import Derived.Test.YtddpmlcpfmmbeaaGreatTk
import Derived.Test.YtddpmlcpfmmbeaaGreatKBF
import Derived.Test.YtddpmlcpfmmbeaaGreatKBG
import Derived.Test.YtddpmlcpfmmbeaaGreatKBE
import Derived.Test.YtddpmlcpfmmbeaaGreatKAQ
import Derived.Test.YtddpmlcpfmmbeaaGreatKAL
import Derived.Deep.DeepCutAuto
set_option linter.unusedSimpArgs false
set_option linter.unusedVariables false
set_option maxRecDepth 100000
set_option maxHeartbeats 25600000
namespace Go.Proofs.YtddpmlcpfmmbeaaGreat
section
open Go.RowKit
theorem IsSt.mono{G H:World→Prop}{s:Ap.St}{os:List Sto.Ot}{w:World}{e:Ending}{w':World}(h:IsSt G s os w e w')(hg:∀W,H W→G W):IsSt H s os w e w':=by
 obtain⟨A,k,c,l,O,m,d,Rn,h1,h2,h3,h4⟩:=h
 exact⟨A,k,c,l,O,m,d,Rn,h1,h2,h3,zH fun b W0 W L R K hm g=>h4.out b W0 W L R K hm (hg W g)⟩
theorem IsLg.one{y:Sto.Ot}{w:World}{e:Ending}{w':World}(h:IsLg otLay [y] w e w'):∃A c,e=.returned (.slice A 1 c)∧otLay.Own w.heap.size w' (.slice A 1 c) [y]∧Below w.heap.size w w':=by
 obtain⟨A,n,c,rfl,h2,h3⟩:=h
 obtain rfl:n=1:=h2.reads.1
 exact⟨A,c,rfl,h2,h3⟩
theorem leave_any(n:Int)(A:Option Addr)(k cp:Nat)(t:Ses.T)(lo:List Oh)(c1:Int)(w:World)(hs:Obs w A k cp lo)(hf:Ses.Fit t)(hc:0≤c1∧c1<5)(hP:(t.get c1).dn=false→((Ap.leaveS ⟨n,vs lo,t⟩ c1).t.get c1).p=Sto.err 14):
  Calls Tryz.prog 49 #[.agg (stA n A k cp t),.int .i64 c1] w (IsSt (fun _=>True) (Ap.leaveS ⟨n,vs lo,t⟩ c1) (Ap.leaveO ⟨n,vs lo,t⟩ c1) w):=by
 have HD:=zH (fun W (hW:Below w.heap.size w W)=>sdrop_any A cp k lo (Ap.rf t c1) W (hs.later hW))
 have HCl:=zH (fun W=>sclose_any t c1 W hf)
 have HEn:=zH (fun(A2:Option Addr) (n2 c2:Nat) (O:Option Addr) (m d:Nat) W (h:Sls otLay tF W O m d (Sto.dropO (vs lo) (Ap.rf t c1)))=>finish_any n A2 n2 c2 (Ses.closeT t c1) O m d _ W (Ses.fit_close hf c1) h (dropO_float _ _))
 have HK:=kn1 w 33 (stA n A k cp t)
 have HOl:=zH (dropO_few (vs lo) (Ap.rf t c1))
 unfold IsDp at HD
 unfold IsT at HCl
 clear hf hs
 unfold Ap.leaveS at hP ⊢
 unfold Ap.leaveO
 dsimp only at hP ⊢
 have HRf:Hid (Ap.rf t c1=⟨c1,(t.get c1).ep,(t.get c1).rq⟩):=zH rfl
 generalize Ap.rf t c1=r at *
 generalize Sto.dropL (vs lo) r=l9 at *
 generalize Sto.dropO (vs lo) r=os at *
 generalize Ses.closeT t c1=t2 at *
 generalize Ap.ends t2 (Ap.prs os)=t3 at *
 have HOw:Hid ((if (t.get c1).dn=true then [] else [(⟨r,Sto.err 14⟩:Sto.Ot)])++os=if (t.get c1).dn=true then os else [(⟨r,Sto.err 14⟩:Sto.Ot)]++os):=zH (by split<;>rfl)
 generalize (if (t.get c1).dn=true then [] else [(⟨r,Sto.err 14⟩:Sto.Ot)])++os=told at *
 go_enter Tryz.func49,Tryz.ntmps49
 go_upto_region 3 with (first|(refine wpList_ast HK rfl rfl ?_;intro _ g1 HK';simp only[lcA,lnA] at HK';replace HK:=HK';clear HK')|refine wpList_exe (exec_ixq hc _ _ (by rfl) (by rfl) (by rfl)) (by rfl) ?_|refine wpList_exe (kst_s HK 0 hc _ (by rfl) (by rfl) (by rfl)) (by rfl) ?_|(refine wpList_ase HK rfl rfl ?_;intro _ g2 HK';simp only[lcA,lnA] at HK';replace HK:=HK';clear HK')|(refine wpList_sse (u:=t.get c1) HK 2 rfl _ _ rfl rfl rfl rfl ?_;intro _ HK';simp only[List.set] at HK';replace HK:=HK';clear HK')|refine wpList_exe (kse_e HK 2 _ (by rfl) (by rfl) (by rfl)) (by rfl) ?_|refine wpList_exe (kse_r HK 2 _ (by rfl) (by rfl) (by rfl)) (by rfl) ?_|refine wpList_exe ((exec_brf (r:=⟨c1,(t.get c1).ep,(t.get c1).rq⟩) _ _ _ (by rfl) (by rfl) (by rfl) (by rfl)).trans (by rw[← HRf.out])) (by rfl) ?_|(refine wpList_akr HK rfl rfl ?_;intro _ g3 HK';simp only[lcA,lnA] at HK';replace HK:=HK';clear HK')|(refine wpList_sr (c2:=r.c) (e2:=r.e) (r2:=r.r) HK 3 rfl _ _ rfl rfl rfl rfl ?_;intro _ HK';simp only[List.set] at HK';replace HK:=HK';clear HK'))
 go_wp2_with (first|refine wpList_exe (kst_o HK 0 _ (by rfl) (by rfl) (by rfl)) (by rfl) ?_|refine wpList_exe (kexec_lr HK 3 _ (by rfl) (by rfl) (by rfl)) (by rfl) ?_)
 refine(HD.out _ HK.out.b).mono ?_;rintro e w1 ⟨A2,n2,c2,l2,O2,m2,d2,R2,rfl,HV2,k2,HI2⟩
 replace HK:=zH (HK.out.join k2)
 clear k2
 simp only[lnA] at HK
 go_wp2_with (first|(refine wpList_ssto HK 0 rfl _ _ rfl rfl rfl rfl ?_;intro _ HK';simp only[List.set] at HK';replace HK:=HK';clear HK')|refine wpList_exe (kst_t HK 0 _ (by rfl) (by rfl) (by rfl)) (by rfl) ?_)
 refine(HCl.out _).mono ?_;rintro e w1 ⟨rfl,b1⟩
 replace HK:=hkC HK b1;clear b1
 go_wp2_with (first|(refine wpList_sstt (u:=t2) HK 0 rfl _ _ rfl rfl rfl rfl ?_;intro _ HK';simp only[List.set] at HK';replace HK:=HK';clear HK')|refine wpList_exe (kst HK 0 _ (by rfl) (by rfl) (by rfl)) (by rfl) ?_)
 refine(HEn.out A2 n2 c2 O2 m2 d2 _ (HI2.out _ _ _ _ _ HK.out (fun z hz=>hz) trivial).2).mono ?_;rintro e w1 ⟨rfl,b1⟩
 replace HK:=hkC HK b1;clear b1
 have HLn:Hid (os.length=m2):=zH (HI2.out _ _ _ _ _ HK.out (fun z hz=>hz) trivial).2.len
 have HO2:Hid (m2≤8):=zH (by rw[← HLn.out];exact HOl.out)
 clear HD HCl HEn HOl
 cases hd:(t.get c1).dn
 case true=>
  have HV:=zH hd
  have hT:told=os:=by rw[HOw.out,if_pos hd]
  subst hT
  clear hd hP HOw
  go_wp2_with (first|(refine wpList_sst HK 0 rfl _ _ rfl rfl rfl rfl ?_;intro _ HK';simp only[List.set] at HK';replace HK:=HK';clear HK')|refine wpList_exe ((kse_d HK 2 _ (by rfl) (by rfl) (by rfl)).trans (by rw[HV.out])) (by rfl) ?_|refine wpList_exe (kst HK 0 _ (by rfl) (by rfl) (by rfl)) (by rfl) ?_|(refine wpList_sst HK 1 rfl _ _ rfl rfl rfl rfl ?_;intro _ HK';simp only[List.set] at HK';replace HK:=HK';clear HK'))
  refine ret_sto Tryz.results49 rfl rfl rfl (HK.out.blk 1 rfl) ?_
  unfold IsSt
  exact⟨A2,n2,c2,l2,O2,_,d2,_,rfl,HV2,HK.out.takeL 0,zH fun b W0 W L R K hm hg=>⟨(HI2.out b W0 W L R K hm trivial).1,(HI2.out b W0 W L R K hm trivial).2⟩⟩
 case false=>
  have HV:=zH hd
  have HP:=zH (hP hd)
  have hT:told=[⟨r,Sto.err 14⟩]++os:=by rw[HOw.out,if_neg (by rw[hd];decide)]
  subst hT
  clear HOw
  have HTo:=zH (fun W=>aptold_any r (Sto.err 14) W)
  have HQc:=zH qconcat_any
  clear hd hP
  go_upto_region 9 with (first|(refine wpList_sst HK 0 rfl _ _ rfl rfl rfl rfl ?_;intro _ HK';simp only[List.set] at HK';replace HK:=HK';clear HK')|refine wpList_exe ((kse_d HK 2 _ (by rfl) (by rfl) (by rfl)).trans (by rw[HV.out])) (by rfl) ?_)
  have HK0:=zH HK.out.drew
  clear HK
  refine wp_region_held_drew (S:=(fun W=>Hid (Kn w.heap.size w W [(w.heap.size,33,stA n A2 n2 c2 t3)] [])∧Hid (Kn w.heap.size w W [(g3,35,#[.int .i64 r.c,.int .i64 r.e,.int .i64 r.r])] []))) (by kernel_rfl) ?_ (fun hHeld=>?_)
  ·(try dsimp only);exact And.intro (zH ((HK0.out.takeL 1).takeR 0)) (zH (((HK0.out.dropL 3).takeL 1).takeR 0))
  refine wpAnyH_take (i:=0) (oi:=⟨some 44,_,_,_,_,_⟩) (v:=?_) rfl (by kernel_rfl) (by kernel_rfl) (by kernel_rfl) (fun _ _ _ h=>h) (Or.inl ⟨by rfl,?_⟩) (by assumption) ?_
  rotate_left
  ·(intro w hSw;refine Eq.trans (kst hSw.1 0 _ (by rfl) (by rfl) (by rfl)) ?_;with_reducible rfl)
  try simp only[Act.put,List.setIfInBounds_toArray,List.set_cons_zero,List.set_cons_succ]
  refine wpAnyH_take (i:=1) (oi:=⟨some 45,_,_,_,_,_⟩) (v:=?_) rfl (by kernel_rfl) (by kernel_rfl) (by kernel_rfl) (fun _ _ _ h=>h) (Or.inl ⟨by rfl,?_⟩) (by assumption) ?_
  rotate_left
  ·(intro w hSw;refine Eq.trans (kexec_lr hSw.2 0 _ (by rfl) (by rfl) (by rfl)) ?_;with_reducible rfl)
  try simp only[Act.put,List.setIfInBounds_toArray,List.set_cons_zero,List.set_cons_succ]
  refine wpAnyH_take (i:=2) (oi:=⟨some 46,_,_,_,_,_⟩) (v:=?_) rfl (by kernel_rfl) (by kernel_rfl) (by kernel_rfl) (fun _ _ _ h=>h) (Or.inl ⟨by rfl,?_⟩) (by assumption) ?_
  rotate_left
  ·(intro w hSw;(try dsimp only at hSw);go_simp;try with_reducible rfl)
  try simp only[Act.put,List.setIfInBounds_toArray,List.set_cons_zero,List.set_cons_succ]
  refine wpAnyH_take (i:=3) (oi:=⟨some 47,_,_,_,_,_⟩) (v:=?_) rfl (by kernel_rfl) (by kernel_rfl) (by kernel_rfl) (fun _ _ _ h=>h) (Or.inl ⟨by rfl,?_⟩) (by assumption) ?_
  rotate_left
  ·(intro w hSw;(try dsimp only at hSw);go_simp;try with_reducible rfl)
  try simp only[Act.put,List.setIfInBounds_toArray,List.set_cons_zero,List.set_cons_succ]
  refine wpAnyH_take (i:=4) (oi:=⟨some 48,_,_,_,_,_⟩) (v:=?_) rfl (by kernel_rfl) (by kernel_rfl) (by kernel_rfl) (fun _ _ _ h=>h) (Or.inl ⟨by rfl,?_⟩) (by assumption) ?_
  rotate_left
  ·(intro w hSw;refine Eq.trans (exec_ixq hc _ _ (by rfl) (by rfl) (by rfl)) ?_;with_reducible rfl)
  try simp only[Act.put,List.setIfInBounds_toArray,List.set_cons_zero,List.set_cons_succ]
  refine wpAnyH_take (i:=5) (oi:=⟨some 49,_,_,_,_,_⟩) (v:=?_) rfl (by kernel_rfl) (by kernel_rfl) (by kernel_rfl) (fun _ _ _ h=>h) (Or.inl ⟨by rfl,?_⟩) (by assumption) ?_
  rotate_left
  ·(intro w hSw;(try dsimp only at hSw);go_simp;try with_reducible rfl)
  try simp only[Act.put,List.setIfInBounds_toArray,List.set_cons_zero,List.set_cons_succ]
  refine wpAnyH_take (i:=6) (oi:=⟨some 50,_,_,_,_,_⟩) (v:=?_) rfl (by kernel_rfl) (by kernel_rfl) (by kernel_rfl) (fun _ _ _ h=>h) (Or.inl ⟨by rfl,?_⟩) (by assumption) ?_
  rotate_left
  ·(intro w hSw;refine Eq.trans ((kst_p hSw.1 0 hc _ (by rfl) (by rfl) (by rfl)).trans (by rw[HP.out])) ?_;with_reducible rfl)
  try simp only[Act.put,List.setIfInBounds_toArray,List.set_cons_zero,List.set_cons_succ]
  refine wpAnyH_take (i:=8) (oi:=⟨some 52,_,_,_,_,_⟩) (v:=?_) rfl (by kernel_rfl) (by kernel_rfl) (by kernel_rfl) (fun _ _ _ h=>h) (Or.inl ⟨by rfl,?_⟩) (by assumption) ?_
  rotate_left
  ·(intro w hSw;(try dsimp only at hSw);go_simp;try with_reducible rfl)
  try simp only[Act.put,List.setIfInBounds_toArray,List.set_cons_zero,List.set_cons_succ]
  refine wpAnyH_ready (rs:=[7]) (by kernel_rfl) (by simp) ?_
  refine AllReadyH.cons (o:=⟨some 51,_,_,_,_,_⟩) rfl (fun K hK=>?_) AllReadyH.nil
  go_simp
  go_at_call 25
  refine(HTo.out _).mono ?_;rintro e w5 hq;obtain⟨A5,c5,rfl,o5,b5⟩:=hq.one;replace HK0:=zH (HK0.out.called b5 o5).frontR;clear o5 b5;have hs:=And.intro (zH ((HK0.out.takeL 1).takeR 0)) (zH (((HK0.out.dropL 3).takeL 1).takeR 0))
  refine hK.out _ _ hs (fun hHeld=>?_)
  clear hK K
  try simp only[ap1,ap2,ap3,ap4,ap5]
  refine wpAnyH_ready (rs:=[9]) (by kernel_rfl) (by simp) ?_
  refine AllReadyH.cons (o:=⟨some 53,_,_,_,_,_⟩) rfl (fun K hK=>?_) AllReadyH.nil
  refine step_mks2 otLay otNest HK0 (by rfl) _ _ (by rfl) (by rfl) (by rfl) ?_;intro w6 g10 HK' _;simp only[lcA,lnA] at HK';replace HK0:=HK';clear HK';have hs:=And.intro (zH ((HK0.out.takeL 1).takeR 0)) (zH (((HK0.out.dropL 3).takeL 1).takeR 0))
  refine hK.out _ _ hs (fun hHeld=>?_)
  clear hK K
  try simp only[ap1,ap2,ap3,ap4,ap5]
  refine wpAnyH_ready (rs:=[10]) (by kernel_rfl) (by simp) ?_
  refine AllReadyH.cons (o:=⟨some 54,_,_,_,_,_⟩) rfl (fun K hK=>?_) AllReadyH.nil
  go_simp
  go_at_call 85
  refine(HQc.out.two HK0 4 rfl (Sls.own (HK0.out.own 0 rfl) (fits_out (by show 1≤1000;decide))) (HI2.out _ _ _ _ _ HK0.out (fun z hz=>List.mem_cons_of_mem _ hz) trivial).2 (by have:=HO2.out;show(1+m2)*72≤_;omega)).mono ?_;rintro e w7 ⟨A9,n9,c9,rfl,o9,b9⟩;replace HK0:=zH (HK0.out.called b9 o9).frontR;clear o9 b9;have hs:=And.intro (zH ((HK0.out.takeL 1).takeR 0)) (zH (((HK0.out.dropL 3).takeL 1).takeR 0))
  refine hK.out _ _ hs (fun hHeld=>?_)
  clear hK K
  try simp only[ap1,ap2,ap3,ap4,ap5]
  refine wpAnyH_ready (rs:=[11]) (by kernel_rfl) (by simp) ?_
  refine AllReadyH.cons (o:=⟨none,_,_,_,_,_⟩) rfl (fun K hK=>?_) AllReadyH.nil
  refine step_sst HK0 1 (by rfl) _ _ (by rfl) (by rfl) (by rfl) (by rfl) ?_;intro w8 HK';simp only[List.set] at HK';replace HK0:=HK';clear HK';have hs:=And.intro (zH ((HK0.out.takeL 1).takeR 0)) (zH (((HK0.out.dropL 3).takeL 1).takeR 0))
  refine hK.out _ _ hs (fun hHeld=>?_)
  clear hK K
  try simp only[ap1,ap2,ap3,ap4,ap5]
  refine wpAnyH_take (i:=12) (oi:=⟨some 5,_,_,_,_,_⟩) (v:=?_) rfl (by kernel_rfl) (by kernel_rfl) (by kernel_rfl) (fun _ _ _ h=>h) (Or.inl ⟨by rfl,?_⟩) (by assumption) ?_
  rotate_left
  ·(intro w hSw;(try dsimp only at hSw);go_simp;try with_reducible rfl)
  try simp only[Act.put,List.setIfInBounds_toArray,List.set_cons_zero,List.set_cons_succ]
  refine wpAnyH_done (by kernel_rfl) ?_ _
  all_goals
   have HK:=HK0
   clear HK0 hHeld
   go_wp2_with fail
   refine ret_sto Tryz.results49 rfl rfl rfl (HK.out.blk 1 rfl) ?_
   unfold IsSt
   exact⟨A2,n2,c2,l2,A9,_,c9,_,rfl,HV2,HK.out.takeL 0,zH fun b W0 W L R K hm hg=>⟨(HI2.out b W0 W L R K (fun z hz=>hm z (List.mem_cons_of_mem _ (List.mem_cons_of_mem _ hz))) trivial).1,Sls.own (K.mem (hm _ (List.mem_cons_self ..))) (fits_out (by show os.length+1≤1000;rw[HLn.out];have:=HO2.out;omega))⟩⟩
end
section
open Go.RowKit
theorem sopen_any(t:Ses.T)(r:Rf)(w:World)(hf:Ses.Fit t)(hr:r.r≤9223372036854775807):Calls Tryz.prog 86 #[.agg (tbA t),.agg #[.int .i64 r.c,.int .i64 r.e,.int .i64 r.r]] w (IsTP (Ses.openT t r) (Ses.openP t r) w):=by
 have HL:=zH (fun W=>slook_any t r W hf hr)
 have HK:=kn2 w 31 (tbA t) 35 #[.int .i64 r.c,.int .i64 r.e,.int .i64 r.r]
 have HY:=zH (fun h1 h2 h3=>Ses.op_yes (t:=t) (r:=r) h1 h2 h3)
 have HF:=zH (fun h1 h2 h3=>Ses.op_full (t:=t) (r:=r) h1 h2 h3)
 have HN1:=zH (fun h=>Ses.op_no1 (t:=t) (r:=r) h)
 have HN2:=zH (fun h=>Ses.op_no2 (t:=t) (r:=r) h)
 have HC:=zH (fun h=>Ses.look_c (t:=t) (r:=r) (k:=1) h (by decide))
 have HV:Hid (0≤r.c∧r.c<5→∀W,Calls Tryz.prog 69 #[.agg (tbA (t.set r.c Ses.z))] W (IsInt (Ses.live t r.c) W)):=zH (fun h W=>Ses.live_z (t:=t) h▸slive_any (t.set r.c Ses.z) W)
 unfold IsTP
 unfold IsInt at HL HV
 clear hf hr
 generalize Ses.look t r=x at *
 generalize Ses.openT t r=y at *
 generalize Ses.openP t r=v at *
 generalize Ses.live t r.c=m at *
 generalize h3:decide (m<4)=b3 at *
 have H3:=zH h3
 generalize h1:decide (x=1)=b1 at *
 have H1:=zH h1
 generalize h2:decide (r.r=0)=b2 at *
 have H2:=zH h2
 clear h1 h2 h3
 cases b1
 case false=>
  obtain⟨hx1,hx2⟩:=HN1.out (by simp)
  have HX1:=zH hx1
  have HX2:=zH hx2
  clear hx1 hx2
  go_enter Tryz.func86,Tryz.ntmps86
  go_wp2_with (first|refine wpList_exe (ktb HK 0 _ (by rfl) (by rfl) (by rfl)) (by rfl) ?_|refine wpList_exe (kexec_lr HK 1 _ (by rfl) (by rfl) (by rfl)) (by rfl) ?_|(refine wpList_atb HK rfl rfl ?_;intro _ g1 HK';simp only[lcA,lnA] at HK';replace HK:=HK';clear HK')|(refine wpList_arp HK rfl rfl ?_;intro _ g2 HK';simp only[lcA,lnA] at HK';replace HK:=HK';clear HK'))
  refine(HL.out _).mono ?_;rintro e w1 ⟨rfl,b1⟩
  replace HK:=hkC HK b1;clear b1
  go_wp2_with (first|refine wpList_exe (exec_iN (m:=x) (n:=1) _ _ (by rfl) (by rfl) (by rfl) (by rw[H1.out])) (by rfl) ?_|refine wpList_exe (ktb HK 0 _ (by rfl) (by rfl) (by rfl)) (by rfl) ?_|(refine wpList_stb (t2:=t) HK 2 rfl _ _ rfl rfl rfl rfl ?_;intro _ HK';simp only[List.set] at HK';replace HK:=HK';clear HK')|refine wpList_exe (exec_rk (e:=1) (by rfl)) (by rfl) ?_|(refine wpList_srp (q:=Sto.err 1) HK 3 rfl _ _ rfl rfl rfl rfl ?_;intro _ HK';simp only[List.set] at HK';replace HK:=HK';clear HK'))
  rw[← HX1.out] at HK
  rw[← HX2.out] at HK
  exact ret_tp Tryz.results86 rfl rfl rfl (HK.out.blk 2 rfl) (HK.out.blk 3 rfl) ⟨rfl,HK.out.b⟩
 cases b2
 case false=>
  obtain⟨hx1,hx2⟩:=HN2.out (by simp)
  have HX1:=zH hx1
  have HX2:=zH hx2
  clear hx1 hx2
  go_enter Tryz.func86,Tryz.ntmps86
  go_wp2_with (first|refine wpList_exe (ktb HK 0 _ (by rfl) (by rfl) (by rfl)) (by rfl) ?_|refine wpList_exe (kexec_lr HK 1 _ (by rfl) (by rfl) (by rfl)) (by rfl) ?_|(refine wpList_atb HK rfl rfl ?_;intro _ g1 HK';simp only[lcA,lnA] at HK';replace HK:=HK';clear HK')|(refine wpList_arp HK rfl rfl ?_;intro _ g2 HK';simp only[lcA,lnA] at HK';replace HK:=HK';clear HK'))
  refine(HL.out _).mono ?_;rintro e w1 ⟨rfl,b1⟩
  replace HK:=hkC HK b1;clear b1
  go_wp2_with (first|refine wpList_exe (exec_iN (m:=x) (n:=1) _ _ (by rfl) (by rfl) (by rfl) (by rw[H1.out])) (by rfl) ?_|refine wpList_exe (exec_iN (m:=r.r) (n:=0) _ _ (by rfl) (by rfl) (by rfl) (by rw[H2.out])) (by rfl) ?_|refine wpList_exe (krf_r (x:=r) HK 1 _ (by rfl) (by rfl) (by rfl)) (by rfl) ?_|refine wpList_exe (ktb HK 0 _ (by rfl) (by rfl) (by rfl)) (by rfl) ?_|(refine wpList_stb (t2:=t) HK 2 rfl _ _ rfl rfl rfl rfl ?_;intro _ HK';simp only[List.set] at HK';replace HK:=HK';clear HK')|refine wpList_exe (exec_rk (e:=1) (by rfl)) (by rfl) ?_|(refine wpList_srp (q:=Sto.err 1) HK 3 rfl _ _ rfl rfl rfl rfl ?_;intro _ HK';simp only[List.set] at HK';replace HK:=HK';clear HK'))
  rw[← HX1.out] at HK
  rw[← HX2.out] at HK
  exact ret_tp Tryz.results86 rfl rfl rfl (HK.out.blk 2 rfl) (HK.out.blk 3 rfl) ⟨rfl,HK.out.b⟩
 have hc:=HC.out (of_decide_eq_true H1.out)
 go_enter Tryz.func86,Tryz.ntmps86
 go_wp2_with (first|refine wpList_exe (ktb HK 0 _ (by rfl) (by rfl) (by rfl)) (by rfl) ?_|refine wpList_exe (kexec_lr HK 1 _ (by rfl) (by rfl) (by rfl)) (by rfl) ?_|(refine wpList_atb HK rfl rfl ?_;intro _ g1 HK';simp only[lcA,lnA] at HK';replace HK:=HK';clear HK')|(refine wpList_arp HK rfl rfl ?_;intro _ g2 HK';simp only[lcA,lnA] at HK';replace HK:=HK';clear HK'))
 refine(HL.out _).mono ?_;rintro e w1 ⟨rfl,b1⟩
 replace HK:=hkC HK b1;clear b1
 replace HV:=zH (HV.out hc)
 go_wp2_with (first|refine wpList_exe (exec_iN (m:=x) (n:=1) _ _ (by rfl) (by rfl) (by rfl) (by rw[H1.out])) (by rfl) ?_|refine wpList_exe (exec_iN (m:=r.r) (n:=0) _ _ (by rfl) (by rfl) (by rfl) (by rw[H2.out])) (by rfl) ?_|refine wpList_exe (krf_r (x:=r) HK 1 _ (by rfl) (by rfl) (by rfl)) (by rfl) ?_|refine wpList_exe (krf_c (x:=r) HK 1 _ (by rfl) (by rfl) (by rfl)) (by rfl) ?_|refine wpList_exe (krf_e (x:=r) HK 1 _ (by rfl) (by rfl) (by rfl)) (by rfl) ?_|refine wpList_exe (exec_ixt hc _ _ (by rfl) (by rfl) (by rfl)) (by rfl) ?_|refine wpList_exe (exec_bz (by rfl)) (by rfl) ?_|refine wpList_exe (exec_bo (e:=r.e) _ (by rfl) (by rfl)) (by rfl) ?_|(refine wpList_ase HK rfl rfl ?_;intro _ g3 HK';simp only[lcA,lnA] at HK';replace HK:=HK';clear HK')|(refine wpList_sse (u:=⟨false,r.e,0,true,Sto.rz⟩) HK 4 rfl _ _ rfl rfl rfl rfl ?_;intro _ HK';simp only[List.set] at HK';replace HK:=HK';clear HK')|(refine wpList_tss (s:=Ses.z) HK 0 rfl hc _ _ rfl rfl rfl rfl ?_;intro _ HK';simp only[List.set] at HK';replace HK:=HK';clear HK')|refine wpList_exe (ktb HK 0 _ (by rfl) (by rfl) (by rfl)) (by rfl) ?_)
 refine(HV.out _).mono ?_;rintro e w1 ⟨rfl,b1⟩
 replace HK:=hkC HK b1;clear b1
 cases b3
 case false=>
  obtain⟨hx1,hx2⟩:=HF.out (by simp) (by simp) (by simp)
  have HX1:=zH hx1
  have HX2:=zH hx2
  clear hx1 hx2
  go_upto_region 9 with (first|refine wpList_exe (exec_iL (m:=m) (n:=4) _ _ (by rfl) (by rfl) (by rfl) H3.out) (by rfl) ?_|refine wpList_exe (krf_c (x:=r) HK 1 _ (by rfl) (by rfl) (by rfl)) (by rfl) ?_|refine wpList_exe (exec_ixt hc _ _ (by rfl) (by rfl) (by rfl)) (by rfl) ?_|refine wpList_exe (kse HK 4 _ (by rfl) (by rfl) (by rfl)) (by rfl) ?_|(refine wpList_ssx (n:=6) HK 4 rfl _ _ rfl rfl rfl rfl ?_;intro _ HK';simp only[List.set] at HK';replace HK:=HK';clear HK')|(refine wpList_tss (s:=⟨false,r.e,0,true,Sto.err 6⟩) HK 0 rfl hc _ _ rfl rfl rfl rfl ?_;intro _ HK';simp only[List.set] at HK';replace HK:=HK';clear HK'))
  (try simp only[Ses.set_set hc] at HK)
  rw[← HX1.out] at HK
  have HK0:=zH HK.out.drew
  clear HK
  refine wp_region_held_drew (S:=(fun W=>Hid (Kn w.heap.size w W [(w.heap.size,31,tbA y)] [])∧Hid (Kn w.heap.size w W [(g3,30,seA ⟨false,r.e,0,true,Sto.err 6⟩)] []))) (by kernel_rfl) ?_ (fun hHeld=>?_)
  ·(try dsimp only);exact⟨zH (HK0.out.takeL 1),zH (HK0.out.dropL 4)⟩
  refine wpAnyH_take (i:=0) (oi:=⟨some 35,_,_,_,_,_⟩) (v:=?_) rfl (by kernel_rfl) (by kernel_rfl) (by kernel_rfl) (fun _ _ _ h=>h) (Or.inl ⟨by rfl,?_⟩) (by assumption) ?_
  rotate_left
  ·(intro w hSw;refine Eq.trans (ktb hSw.1 0 _ (by rfl) (by rfl) (by rfl)) ?_;with_reducible rfl)
  try simp only[Act.put,List.setIfInBounds_toArray,List.set_cons_zero,List.set_cons_succ]
  refine wpAnyH_take (i:=1) (oi:=⟨some 36,_,_,_,_,_⟩) (v:=?_) rfl (by kernel_rfl) (by kernel_rfl) (by kernel_rfl) (fun _ _ _ h=>h) (Or.inl ⟨by rfl,?_⟩) (by assumption) ?_
  rotate_left
  ·(intro w hSw;(try dsimp only at hSw);go_simp;try with_reducible rfl)
  try simp only[Act.put,List.setIfInBounds_toArray,List.set_cons_zero,List.set_cons_succ]
  refine wpAnyH_take (i:=2) (oi:=⟨some 37,_,_,_,_,_⟩) (v:=?_) rfl (by kernel_rfl) (by kernel_rfl) (by kernel_rfl) (fun _ _ _ h=>h) (Or.inl ⟨by rfl,?_⟩) (by assumption) ?_
  rotate_left
  ·(intro w hSw;refine Eq.trans (kse_p (s:=⟨false,r.e,0,true,Sto.err 6⟩) hSw.2 0 _ (by rfl) (by rfl) (by rfl)) ?_;with_reducible rfl)
  try simp only[Act.put,List.setIfInBounds_toArray,List.set_cons_zero,List.set_cons_succ]
  refine wpAnyH_ready (rs:=[3]) (by kernel_rfl) (by simp) ?_
  refine AllReadyH.cons (o:=⟨none,_,_,_,_,_⟩) rfl (fun K hK=>?_) AllReadyH.nil
  refine step_stb (t2:=y) HK0 2 (by rfl) _ _ (by rfl) (by rfl) (by rfl) (by rfl) ?_;intro w6 HK';simp only[List.set] at HK';replace HK0:=HK';clear HK';have hs:=(⟨zH (HK0.out.takeL 1),zH (HK0.out.dropL 4)⟩:_∧_)
  refine hK.out _ _ hs (fun hHeld=>?_)
  clear hK K
  try simp only[ap1,ap2,ap3,ap4,ap5]
  refine wpAnyH_ready (rs:=[4]) (by kernel_rfl) (by simp) ?_
  refine AllReadyH.cons (o:=⟨none,_,_,_,_,_⟩) rfl (fun K hK=>?_) AllReadyH.nil
  refine step_srp (q:=Sto.err 6) HK0 3 (by rfl) _ _ (by rfl) (by rfl) (by rfl) (by rfl) ?_;intro w7 HK';simp only[List.set] at HK';replace HK0:=HK';clear HK';have hs:=(⟨zH (HK0.out.takeL 1),zH (HK0.out.dropL 4)⟩:_∧_)
  refine hK.out _ _ hs (fun hHeld=>?_)
  clear hK K
  try simp only[ap1,ap2,ap3,ap4,ap5]
  refine wpAnyH_done (by kernel_rfl) ?_ _
  all_goals
   have HK:=HK0
   clear HK0 hHeld
   rw[← HX2.out] at HK
   go_wp2_with fail
   exact ret_tp Tryz.results86 rfl rfl rfl (HK.out.blk 2 rfl) (HK.out.blk 3 rfl) ⟨rfl,HK.out.b⟩
 case true=>
  obtain⟨hx1,hx2⟩:=HY.out (by simp) (by simp) (by simp)
  have HX1:=zH hx1
  have HX2:=zH hx2
  clear hx1 hx2
  go_upto_region 9 with (first|refine wpList_exe (exec_iL (m:=m) (n:=4) _ _ (by rfl) (by rfl) (by rfl) H3.out) (by rfl) ?_|refine wpList_exe (krf_c (x:=r) HK 1 _ (by rfl) (by rfl) (by rfl)) (by rfl) ?_|refine wpList_exe (exec_ixt hc _ _ (by rfl) (by rfl) (by rfl)) (by rfl) ?_|refine wpList_exe (kse HK 4 _ (by rfl) (by rfl) (by rfl)) (by rfl) ?_|(refine wpList_ssl (d:=true) HK 4 rfl _ _ rfl rfl rfl rfl ?_;intro _ HK';simp only[List.set] at HK';replace HK:=HK';clear HK')|(refine wpList_tss (s:=⟨true,r.e,0,true,Sto.rz⟩) HK 0 rfl hc _ _ rfl rfl rfl rfl ?_;intro _ HK';simp only[List.set] at HK';replace HK:=HK';clear HK'))
  (try simp only[Ses.set_set hc] at HK)
  rw[← HX1.out] at HK
  have HK0:=zH HK.out.drew
  clear HK
  refine wp_region_held_drew (S:=(fun W=>Hid (Kn w.heap.size w W [(w.heap.size,31,tbA y)] [])∧Hid (Kn w.heap.size w W [(g3,30,seA ⟨true,r.e,0,true,Sto.rz⟩)] []))) (by kernel_rfl) ?_ (fun hHeld=>?_)
  ·(try dsimp only);exact⟨zH (HK0.out.takeL 1),zH (HK0.out.dropL 4)⟩
  refine wpAnyH_take (i:=0) (oi:=⟨some 35,_,_,_,_,_⟩) (v:=?_) rfl (by kernel_rfl) (by kernel_rfl) (by kernel_rfl) (fun _ _ _ h=>h) (Or.inl ⟨by rfl,?_⟩) (by assumption) ?_
  rotate_left
  ·(intro w hSw;refine Eq.trans (ktb hSw.1 0 _ (by rfl) (by rfl) (by rfl)) ?_;with_reducible rfl)
  try simp only[Act.put,List.setIfInBounds_toArray,List.set_cons_zero,List.set_cons_succ]
  refine wpAnyH_take (i:=1) (oi:=⟨some 36,_,_,_,_,_⟩) (v:=?_) rfl (by kernel_rfl) (by kernel_rfl) (by kernel_rfl) (fun _ _ _ h=>h) (Or.inl ⟨by rfl,?_⟩) (by assumption) ?_
  rotate_left
  ·(intro w hSw;(try dsimp only at hSw);go_simp;try with_reducible rfl)
  try simp only[Act.put,List.setIfInBounds_toArray,List.set_cons_zero,List.set_cons_succ]
  refine wpAnyH_take (i:=2) (oi:=⟨some 37,_,_,_,_,_⟩) (v:=?_) rfl (by kernel_rfl) (by kernel_rfl) (by kernel_rfl) (fun _ _ _ h=>h) (Or.inl ⟨by rfl,?_⟩) (by assumption) ?_
  rotate_left
  ·(intro w hSw;refine Eq.trans (kse_p (s:=⟨true,r.e,0,true,Sto.rz⟩) hSw.2 0 _ (by rfl) (by rfl) (by rfl)) ?_;with_reducible rfl)
  try simp only[Act.put,List.setIfInBounds_toArray,List.set_cons_zero,List.set_cons_succ]
  refine wpAnyH_ready (rs:=[3]) (by kernel_rfl) (by simp) ?_
  refine AllReadyH.cons (o:=⟨none,_,_,_,_,_⟩) rfl (fun K hK=>?_) AllReadyH.nil
  refine step_stb (t2:=y) HK0 2 (by rfl) _ _ (by rfl) (by rfl) (by rfl) (by rfl) ?_;intro w6 HK';simp only[List.set] at HK';replace HK0:=HK';clear HK';have hs:=(⟨zH (HK0.out.takeL 1),zH (HK0.out.dropL 4)⟩:_∧_)
  refine hK.out _ _ hs (fun hHeld=>?_)
  clear hK K
  try simp only[ap1,ap2,ap3,ap4,ap5]
  refine wpAnyH_ready (rs:=[4]) (by kernel_rfl) (by simp) ?_
  refine AllReadyH.cons (o:=⟨none,_,_,_,_,_⟩) rfl (fun K hK=>?_) AllReadyH.nil
  refine step_srp (q:=Sto.rz) HK0 3 (by rfl) _ _ (by rfl) (by rfl) (by rfl) (by rfl) ?_;intro w7 HK';simp only[List.set] at HK';replace HK0:=HK';clear HK';have hs:=(⟨zH (HK0.out.takeL 1),zH (HK0.out.dropL 4)⟩:_∧_)
  refine hK.out _ _ hs (fun hHeld=>?_)
  clear hK K
  try simp only[ap1,ap2,ap3,ap4,ap5]
  refine wpAnyH_done (by kernel_rfl) ?_ _
  all_goals
   have HK:=HK0
   clear HK0 hHeld
   rw[← HX2.out] at HK
   go_wp2_with fail
   exact ret_tp Tryz.results86 rfl rfl rfl (HK.out.blk 2 rfl) (HK.out.blk 3 rfl) ⟨rfl,HK.out.b⟩
end
section
open Go.RowKit
theorem apopen_any(G:World→Prop)(n:Int)(A:Option Addr)(k cp:Nat)(t:Ses.T)(lo:List Oh)(r:Rf)(w:World)(hG:∀W,G W→Obs W A k cp lo)(hs:Obs w A k cp lo)(hf:Ses.Fit t)(hc:0≤r.c∧r.c<5)(hr:r.r≤9223372036854775807)
  (hP:(t.get r.c).live=true→(t.get r.c).dn=false→((Ap.leaveS ⟨n,vs lo,t⟩ r.c).t.get r.c).p=Sto.err 14) :
  Calls Tryz.prog 51 #[.agg (stA n A k cp t),.agg #[.int .i64 r.c,.int .i64 r.e,.int .i64 r.r]] w (IsSt G (Ap.openSt ⟨n,vs lo,t⟩ r) (Ap.openO ⟨n,vs lo,t⟩ r) w):=by
 have HLv:Hid (∀W,Below w.heap.size w W→(t.get r.c).live=true→Calls Tryz.prog 49 #[.agg (stA n A k cp t),.int .i64 r.c] W (IsSt (fun _=>True) (Ap.leaveS ⟨n,vs lo,t⟩ r.c) (Ap.leaveO ⟨n,vs lo,t⟩ r.c) W)):=zH (fun W hW hl=>leave_any n A k cp t lo r.c W (hs.later hW) hf hc (hP hl))
 have HGo:=zH hG
 have HFl:Hid (Ses.Fit (Ap.left ⟨n,vs lo,t⟩ r.c).t):=zH (by
  unfold Ap.left
  split
  ·exact Ap.ends_fit (fun y hy=>Ap.prs_float (dropO_float _ _) y hy) (Ses.fit_close hf r.c)
  ·exact hf)
 have HOl:=zH (Ap.leaveO_few ⟨n,vs lo,t⟩ r.c (dropO_few _ _))
 have HTo:=zH (fun p W=>aptold_any r p W)
 have HQc:=zH qconcat_any
 have HOp:=zH (fun W=>sopen_any (Ap.left ⟨n,vs lo,t⟩ r.c).t r W HFl.out hr)
 have HK:=kn2 w 33 (stA n A k cp t) 35 #[.int .i64 r.c,.int .i64 r.e,.int .i64 r.r]
 have HSo:=zH (fun W (hW:Below w.heap.size w W)=>hs.later hW)
 unfold IsSt at HLv
 unfold IsTP at HOp
 unfold Ap.openSt Ap.openO
 have HL1:Hid ((t.get r.c).live=true→Ap.left ⟨n,vs lo,t⟩ r.c=Ap.leaveS ⟨n,vs lo,t⟩ r.c∧(if (t.get r.c).live=true then Ap.leaveO ⟨n,vs lo,t⟩ r.c else [])=Ap.leaveO ⟨n,vs lo,t⟩ r.c):=zH fun h=>⟨if_pos h,if_pos h⟩
 have HL2:Hid ((t.get r.c).live=false→Ap.left ⟨n,vs lo,t⟩ r.c=⟨n,vs lo,t⟩∧(if (t.get r.c).live=true then Ap.leaveO ⟨n,vs lo,t⟩ r.c else [])=[]):=zH fun h=>⟨if_neg (by rw[h];decide),if_neg (by rw[h];decide)⟩
 have HO9:Hid ((if (t.get r.c).live=true then Ap.leaveO ⟨n,vs lo,t⟩ r.c else []).length≤9):=zH (by
  split
  ·exact HOl.out
  ·exact Nat.zero_le 9)
 dsimp only
 obtain⟨lv,hlv⟩:∃b,(t.get r.c).live=b:=⟨_,rfl⟩
 have HV:=zH hlv
 generalize (if (t.get r.c).live=true then Ap.leaveO ⟨n,vs lo,t⟩ r.c else [])=os2 at *
 generalize Ap.left ⟨n,vs lo,t⟩ r.c=s2 at *
 generalize Ap.leaveO ⟨n,vs lo,t⟩ r.c=os1 at *
 generalize Ap.leaveS ⟨n,vs lo,t⟩ r.c=s1 at *
 obtain⟨n2,l2,t2⟩:=s2
 dsimp only at *
 rw[hlv] at HL1 HL2 HLv
 clear hs hG hf hr hP HFl HOl hlv
 generalize Ses.openT t2 r=t9 at *
 generalize Ses.openP t2 r=p9 at *
 go_enter Tryz.func51,Tryz.ntmps51
 go_upto_if 15 with (first|(refine wpList_ast HK rfl rfl ?_;intro _ g1 HK';simp only[lcA,lnA] at HK';replace HK:=HK';clear HK')|(refine wpList_mk0 otLay HK rfl rfl ?_;intro _ g9 HK';simp only[lnA] at HK';replace HK:=HK';clear HK')|refine wpList_exe (krf_c (x:=r) HK 1 _ (by rfl) (by rfl) (by rfl)) (by rfl) ?_|refine wpList_exe (exec_ixq hc _ _ (by rfl) (by rfl) (by rfl)) (by rfl) ?_|refine wpList_exe ((kst_l HK 0 hc _ (by rfl) (by rfl) (by rfl)).trans (by rw[HV.out])) (by rfl) ?_)
 try simp only[ap1,ap2,ap3,ap4,ap5]
 go_cut [6] (fun v wx=>∃(A2:Option Addr) (k2 c2:Nat) (lo2:List Oh) (O2:Option Addr) (m2 d2:Nat) (R2:List RowE),v=.slice O2 m2 d2∧Hid (vs lo2=l2)∧Hid (os2.length=m2)∧Hid (Kn w.heap.size w wx [(w.heap.size,33,stA n2 A2 k2 c2 t2),(w.heap.size+1,35,#[.int .i64 r.c,.int .i64 r.e,.int .i64 r.r]),(g1,33,stA 0 none 0 0 tz)] R2)∧Hid (∀(b:Nat) (W0 W:World) L R,Kn b W0 W L R→(∀z∈R2,z∈R)→(G W∨Below w.heap.size w W)→Obs W A2 k2 c2 lo2∧Sls otLay tF W O2 m2 d2 os2))
 case first=>
  clear HOp HTo HQc HO9
  cases lv with
  | true=>
   obtain⟨e1,e2⟩:=HL1.out rfl
   subst e2
   subst e1
   clear HL1 HL2 HGo HSo
   go_wp2_with (first|refine wpList_exe (krf_c (x:=r) HK 1 _ (by rfl) (by rfl) (by rfl)) (by rfl) ?_|refine wpList_exe (kst HK 0 _ (by rfl) (by rfl) (by rfl)) (by rfl) ?_)
   refine(HLv.out _ HK.out.b trivial).mono ?_;rintro e w1 ⟨A2,k2,c2,lo2,O2,m2,d2,R2,rfl,HV2,q2,HI2⟩
   replace HK:=zH ((HK.out.takeR 0).join q2)
   clear q2 HLv
   simp only[List.take_zero,lnA] at HK
   have HLn:Hid (os2.length=m2):=zH (HI2.out _ _ _ _ _ HK.out (fun z hz=>hz) trivial).2.len
   go_wp2_with (first|(refine wpList_sst HK 0 rfl _ _ rfl rfl rfl rfl ?_;intro _ HK';simp only[List.set] at HK';replace HK:=HK';clear HK'))
   go_meet
   exact⟨A2,k2,c2,lo2,O2,m2,d2,R2,rfl,HV2,HLn,HK,zH fun b W0 W L R K hm _=>HI2.out b W0 W L R K hm trivial⟩
  | false=>
   obtain⟨e1,e2⟩:=HL2.out rfl
   injection e1 with e1 e3 e4
   subst e1 e2 e3 e4
   clear HL1 HL2 HLv
   go_wp2_with fail
   go_meet
   exact⟨A,k,cp,lo,_,0,_,_,rfl,zH rfl,zH rfl,HK,zH fun b W0 W L R K hm hg=>⟨hg.elim (HGo.out W) (HSo.out W),Sls.own (K.mem (hm _ (List.mem_cons_self ..))) (fits_out (Nat.zero_le 1000))⟩⟩
 case rest=>
 clear HK HL1 HL2 HLv HGo HSo HV
 obtain⟨A2,k2,c2,lo2,O2,m2,d2,R2,rfl,HV2,HLn,HK,HI2⟩:=hcut
 have HO2:Hid (m2≤9):=zH (by rw[← HLn.out];exact HO9.out)
 go_wp2_with (first|refine wpList_exe (kst_t HK 0 _ (by rfl) (by rfl) (by rfl)) (by rfl) ?_|refine wpList_exe (kexec_lr HK 1 _ (by rfl) (by rfl) (by rfl)) (by rfl) ?_)
 refine(HOp.out _).mono ?_;rintro e w1 ⟨rfl,b1⟩
 replace HK:=hkC HK b1;clear b1
 go_upto_region 6 with (first|(refine wpList_atb HK rfl rfl ?_;intro _ g7 HK';simp only[lcA,lnA] at HK';replace HK:=HK';clear HK')|(refine wpList_arp HK rfl rfl ?_;intro _ g8 HK';simp only[lcA,lnA] at HK';replace HK:=HK';clear HK')|(refine wpList_stb (t2:=t9) HK 3 rfl _ _ rfl rfl rfl rfl ?_;intro _ HK';simp only[List.set] at HK';replace HK:=HK';clear HK')|(refine wpList_srp (q:=p9) HK 4 rfl _ _ rfl rfl rfl rfl ?_;intro _ HK';simp only[List.set] at HK';replace HK:=HK';clear HK')|refine wpList_exe (ktb HK 3 _ (by rfl) (by rfl) (by rfl)) (by rfl) ?_|(refine wpList_sstt (u:=t9) HK 0 rfl _ _ rfl rfl rfl rfl ?_;intro _ HK';simp only[List.set] at HK';replace HK:=HK';clear HK'))
 have HK0:=zH HK.out.drew
 clear HK HOp HO9
 refine wp_region_held_drew (S:=(fun W=>Hid (Kn w.heap.size w W [(w.heap.size,33,stA n2 A2 k2 c2 t9),(w.heap.size+1,35,#[.int .i64 r.c,.int .i64 r.e,.int .i64 r.r])] [])∧Hid (Kn w.heap.size w W [(g8,28,rpA p9)] []))) (by kernel_rfl) ?_ (fun hHeld=>?_)
 ·(try dsimp only);exact And.intro (zH ((HK0.out.takeL 2).takeR 0)) (zH (((HK0.out.dropL 4).takeL 1).takeR 0))
 refine wpAnyH_take (i:=0) (oi:=⟨some 32,_,_,_,_,_⟩) (v:=?_) rfl (by kernel_rfl) (by kernel_rfl) (by kernel_rfl) (fun _ _ _ h=>h) (Or.inl ⟨by rfl,?_⟩) (by assumption) ?_
 rotate_left
 ·(intro w hSw;refine Eq.trans (kst hSw.1 0 _ (by rfl) (by rfl) (by rfl)) ?_;with_reducible rfl)
 try simp only[Act.put,List.setIfInBounds_toArray,List.set_cons_zero,List.set_cons_succ]
 refine wpAnyH_take (i:=1) (oi:=⟨some 33,_,_,_,_,_⟩) (v:=?_) rfl (by kernel_rfl) (by kernel_rfl) (by kernel_rfl) (fun _ _ _ h=>h) (Or.inl ⟨by rfl,?_⟩) (by assumption) ?_
 rotate_left
 ·(intro w hSw;refine Eq.trans (kexec_lr hSw.1 1 _ (by rfl) (by rfl) (by rfl)) ?_;with_reducible rfl)
 try simp only[Act.put,List.setIfInBounds_toArray,List.set_cons_zero,List.set_cons_succ]
 refine wpAnyH_take (i:=2) (oi:=⟨some 34,_,_,_,_,_⟩) (v:=?_) rfl (by kernel_rfl) (by kernel_rfl) (by kernel_rfl) (fun _ _ _ h=>h) (Or.inl ⟨by rfl,?_⟩) (by assumption) ?_
 rotate_left
 ·(intro w hSw;refine Eq.trans (krp hSw.2 0 _ (by rfl) (by rfl) (by rfl)) ?_;with_reducible rfl)
 try simp only[Act.put,List.setIfInBounds_toArray,List.set_cons_zero,List.set_cons_succ]
 refine wpAnyH_take (i:=4) (oi:=⟨some 36,_,_,_,_,_⟩) (v:=?_) rfl (by kernel_rfl) (by kernel_rfl) (by kernel_rfl) (fun _ _ _ h=>h) (Or.inl ⟨by rfl,?_⟩) (by assumption) ?_
 rotate_left
 ·(intro w hSw;(try dsimp only at hSw);go_simp;try with_reducible rfl)
 try simp only[Act.put,List.setIfInBounds_toArray,List.set_cons_zero,List.set_cons_succ]
 refine wpAnyH_ready (rs:=[3]) (by kernel_rfl) (by simp) ?_
 refine AllReadyH.cons (o:=⟨some 35,_,_,_,_,_⟩) rfl (fun K hK=>?_) AllReadyH.nil
 go_simp
 go_at_call 25
 refine(HTo.out p9 _).mono ?_;rintro e w5 hq;obtain⟨A5,c5,rfl,o5,b5⟩:=hq.one;replace HK0:=zH (HK0.out.called b5 o5).frontR;clear o5 b5;have hs:=And.intro (zH ((HK0.out.takeL 2).takeR 0)) (zH (((HK0.out.dropL 4).takeL 1).takeR 0))
 refine hK.out _ _ hs (fun hHeld=>?_)
 clear hK K
 try simp only[ap1,ap2,ap3,ap4,ap5]
 refine wpAnyH_ready (rs:=[5]) (by kernel_rfl) (by simp) ?_
 refine AllReadyH.cons (o:=⟨some 37,_,_,_,_,_⟩) rfl (fun K hK=>?_) AllReadyH.nil
 refine step_mks2 otLay otNest HK0 (by rfl) _ _ (by rfl) (by rfl) (by rfl) ?_;intro w6 g10 HK' _;simp only[lcA,lnA] at HK';replace HK0:=HK';clear HK';have hs:=And.intro (zH ((HK0.out.takeL 2).takeR 0)) (zH (((HK0.out.dropL 4).takeL 1).takeR 0))
 refine hK.out _ _ hs (fun hHeld=>?_)
 clear hK K
 try simp only[ap1,ap2,ap3,ap4,ap5]
 refine wpAnyH_ready (rs:=[6]) (by kernel_rfl) (by simp) ?_
 refine AllReadyH.cons (o:=⟨some 38,_,_,_,_,_⟩) rfl (fun K hK=>?_) AllReadyH.nil
 go_simp
 go_at_call 85
 refine(HQc.out.two HK0 5 rfl (Sls.own (HK0.out.own 0 rfl) (fits_out (by show 1≤1000;decide))) (HI2.out _ _ _ _ _ HK0.out (fun z hz=>List.mem_cons_of_mem _ hz) (.inr HK0.out.b)).2 (by have:=HO2.out;show(1+m2)*72≤_;omega)).mono ?_;rintro e w7 ⟨A9,n9,c9,rfl,o9,b9⟩;replace HK0:=zH (HK0.out.called b9 o9).frontR;clear o9 b9;have hs:=And.intro (zH ((HK0.out.takeL 2).takeR 0)) (zH (((HK0.out.dropL 4).takeL 1).takeR 0))
 refine hK.out _ _ hs (fun hHeld=>?_)
 clear hK K
 try simp only[ap1,ap2,ap3,ap4,ap5]
 refine wpAnyH_ready (rs:=[7]) (by kernel_rfl) (by simp) ?_
 refine AllReadyH.cons (o:=⟨none,_,_,_,_,_⟩) rfl (fun K hK=>?_) AllReadyH.nil
 refine step_sst HK0 2 (by rfl) _ _ (by rfl) (by rfl) (by rfl) (by rfl) ?_;intro w8 HK';simp only[List.set] at HK';replace HK0:=HK';clear HK';have hs:=And.intro (zH ((HK0.out.takeL 2).takeR 0)) (zH (((HK0.out.dropL 4).takeL 1).takeR 0))
 refine hK.out _ _ hs (fun hHeld=>?_)
 clear hK K
 try simp only[ap1,ap2,ap3,ap4,ap5]
 refine wpAnyH_take (i:=8) (oi:=⟨some 5,_,_,_,_,_⟩) (v:=?_) rfl (by kernel_rfl) (by kernel_rfl) (by kernel_rfl) (fun _ _ _ h=>h) (Or.inl ⟨by rfl,?_⟩) (by assumption) ?_
 rotate_left
 ·(intro w hSw;(try dsimp only at hSw);go_simp;try with_reducible rfl)
 try simp only[Act.put,List.setIfInBounds_toArray,List.set_cons_zero,List.set_cons_succ]
 refine wpAnyH_done (by kernel_rfl) ?_ _
 all_goals
  have HK:=HK0
  clear HK0 hHeld
  go_wp2_with fail
  refine ret_sto Tryz.results51 rfl rfl rfl (HK.out.blk 2 rfl) ?_
  unfold IsSt
  exact⟨A2,k2,c2,lo2,A9,_,c9,_,rfl,HV2,HK.out.takeL 0,zH fun b W0 W L R K hm hg=>⟨(HI2.out b W0 W L R K (fun z hz=>hm z (List.mem_cons_of_mem _ (List.mem_cons_of_mem _ hz))) (.inl hg)).1,Sls.own (K.mem (hm _ (List.mem_cons_self ..))) (fits_out (by show os2.length+1≤1000;rw[HLn.out];have:=HO2.out;omega))⟩⟩
end
end Go.Proofs.YtddpmlcpfmmbeaaGreat
