/- What session.Begin and the document's return. No condition but those named. -/
import Derived.Test.YtddpmlcpfmmbeaaGreatTk
import Derived.Test.YtddpmlcpfmmbeaaGreatKBH
import Derived.Test.YtddpmlcpfmmbeaaGreatKAN
import Derived.Test.YtddpmlcpfmmbeaaGreatKBD
import Derived.Test.YtddpmlcpfmmbeaaGreatKBF
import Derived.Test.YtddpmlcpfmmbeaaGreatKBC
import Derived.Test.YtddpmlcpfmmbeaaGreatKBE
import Derived.Test.YtddpmlcpfmmbeaaGreatKAQ
import Derived.Test.YtddpmlcpfmmbeaaGreatKAL
import Derived.Deep.DeepCutAuto
set_option linter.unusedSimpArgs false
set_option linter.unusedVariables false
set_option maxRecDepth 100000
set_option maxHeartbeats 25600000
namespace Go.Proofs.YtddpmlcpfmmbeaaGreat
section
open Go.RowKit
theorem apend_any(G:World→Prop)(n:Int)(A:Option Addr)(k cp:Nat)(t:Ses.T)(lo:List Oh)(r:Rf)(w:World)(hs:Obs w A k cp lo)(hf:Ses.Fit t)(hc:0≤r.c∧r.c<5)
  (hP:((Ses.endT t r Sto.rz).get r.c).dn=true) :
  Calls Tryz.prog 54 #[.agg (stA n A k cp t),.agg #[.int .i64 r.c,.int .i64 r.e,.int .i64 r.r]] w (IsSt G (Ap.leaveS ⟨n,vs lo,Ses.endT t r Sto.rz⟩ r.c) ([⟨r,Sto.rz⟩]++Ap.leaveO ⟨n,vs lo,Ses.endT t r Sto.rz⟩ r.c) w):=by
 have hft:=Ses.fit_end hf r (x:=Sto.rz) (by decide)
 have HLv:=zH (fun W (hW:Below w.heap.size w W)=>leave_any n A k cp _ lo r.c W (hs.later hW) hft hc (fun h=>by rw[hP] at h;cases h))
 have HOl:=zH (Ap.leaveO_few ⟨n,vs lo,Ses.endT t r Sto.rz⟩ r.c (dropO_few _ _))
 have HFi:=zH (fun(O:Option Addr) (d:Nat) W (h:Sls otLay tF W O 1 d [⟨r,Sto.rz⟩])=>finish_any n A k cp t O 1 d [⟨r,Sto.rz⟩] W hf h (fun y hy=>by rw[List.mem_singleton.1 hy];show(0:Nat)<_;decide))
 have HTo:=zH (fun W=>aptold_any r Sto.rz W)
 have HQc:=zH qconcat_any
 have HK:=kn2 w 33 (stA n A k cp t) 35 #[.int .i64 r.c,.int .i64 r.e,.int .i64 r.r]
 have e9:Ap.ends t (Ap.prs [⟨r,Sto.rz⟩])=Ses.endT t r Sto.rz:=rfl
 rw[e9] at HFi
 unfold IsSt at HLv
 clear hs hf hP hft e9
 generalize Ses.endT t r Sto.rz=t2 at *
 generalize Ap.leaveO ⟨n,vs lo,t2⟩ r.c=os at *
 generalize Ap.leaveS ⟨n,vs lo,t2⟩ r.c=s2 at *
 obtain⟨n3,l3,t3⟩:=s2
 dsimp only at *
 go_enter Tryz.func54,Tryz.ntmps54
 go_upto_region 1 with (first|(refine wpList_ast HK rfl rfl ?_;intro _ g1 HK';simp only[lcA,lnA] at HK';replace HK:=HK';clear HK'))
 have HK0:=zH HK.out.drew
 clear HK
 refine wp_region_held_drew (S:=(fun W=>Hid (Kn w.heap.size w W [(w.heap.size+1,35,#[.int .i64 r.c,.int .i64 r.e,.int .i64 r.r])] []))) (by kernel_rfl) ?_ (fun hHeld=>?_)
 ·(try dsimp only);exact zH (((HK0.out.dropL 1).takeL 1).takeR 0)
 refine wpAnyH_take (i:=1) (oi:=⟨some 10,_,_,_,_,_⟩) (v:=?_) rfl (by kernel_rfl) (by kernel_rfl) (by kernel_rfl) (fun _ _ _ h=>h) (Or.inl ⟨by rfl,?_⟩) (by assumption) ?_
 rotate_left
 ·(intro w hSw;refine Eq.trans (kexec_lr hSw 0 _ (by rfl) (by rfl) (by rfl)) ?_;with_reducible rfl)
 try simp only[Act.put,List.setIfInBounds_toArray,List.set_cons_zero,List.set_cons_succ]
 refine wpAnyH_take (i:=2) (oi:=⟨some 11,_,_,_,_,_⟩) (v:=?_) rfl (by kernel_rfl) (by kernel_rfl) (by kernel_rfl) (fun _ _ _ h=>h) (Or.inl ⟨by rfl,?_⟩) (by assumption) ?_
 rotate_left
 ·(intro w hSw;refine Eq.trans (exec_rz (by rfl)) ?_;with_reducible rfl)
 try simp only[Act.put,List.setIfInBounds_toArray,List.set_cons_zero,List.set_cons_succ]
 refine wpAnyH_ready (rs:=[0,3]) (by kernel_rfl) (by simp) ?_
 refine AllReadyH.cons (o:=⟨some 9,_,_,_,_,_⟩) rfl (fun K hK=>?_) (AllReadyH.cons (o:=⟨some 12,_,_,_,_,_⟩) rfl (fun K hK=>?_) AllReadyH.nil)
 refine step_of_exec (by rfl) (kst HK0 0 _ (by rfl) (by rfl) (by rfl)) ?_;have hs:=hHeld
 refine hK.out _ _ hs (fun hHeld=>?_)
 clear hK K
 try simp only[ap1,ap2,ap3,ap4,ap5]
 refine wpAnyH_ready (rs:=[3]) (by kernel_rfl) (by simp) ?_
 refine AllReadyH.cons (o:=⟨some 12,_,_,_,_,_⟩) rfl (fun K hK=>?_) AllReadyH.nil
 go_simp
 go_at_call 25
 refine(HTo.out _).mono ?_;rintro e w5 hq;obtain⟨A5,c5,rfl,o5,b5⟩:=hq.one;replace HK0:=zH (HK0.out.called b5 o5);clear o5 b5;simp only[lnA] at HK0;have hs:=zH (((HK0.out.dropL 1).takeL 1).takeR 0)
 refine hK.out _ _ hs (fun hHeld=>?_)
 clear hK K
 try simp only[ap1,ap2,ap3,ap4,ap5]
 refine wpAnyH_ready (rs:=[4]) (by kernel_rfl) (by simp) ?_
 refine AllReadyH.cons (o:=⟨some 13,_,_,_,_,_⟩) rfl (fun K hK=>?_) AllReadyH.nil
 go_simp
 go_at_call 53
 refine(HFi.out A5 c5 _ (Sls.own (HK0.out.own 0 rfl) (fits_out (by show 1≤1000;decide)))).mono ?_;rintro e w6 ⟨rfl,b6⟩;replace HK0:=zH (HK0.out.call b6);clear b6;have hs:=zH (((HK0.out.dropL 1).takeL 1).takeR 0)
 refine hK.out _ _ hs (fun hHeld=>?_)
 clear hK K
 try simp only[ap1,ap2,ap3,ap4,ap5]
 refine wpAnyH_take (i:=5) (oi:=⟨some 8,_,_,_,_,_⟩) (v:=?_) rfl (by kernel_rfl) (by kernel_rfl) (by kernel_rfl) (fun _ _ _ h=>h) (Or.inl ⟨by rfl,?_⟩) (by assumption) ?_
 rotate_left
 ·(intro w hSw;(try dsimp only at hSw);go_simp;try with_reducible rfl)
 try simp only[Act.put,List.setIfInBounds_toArray,List.set_cons_zero,List.set_cons_succ]
 refine wpAnyH_take (i:=6) (oi:=⟨some 14,_,_,_,_,_⟩) (v:=?_) rfl (by kernel_rfl) (by kernel_rfl) (by kernel_rfl) (fun _ _ _ h=>h) (Or.inl ⟨by rfl,?_⟩) (by assumption) ?_
 rotate_left
 ·(intro w hSw;(try dsimp only at hSw);go_simp;try with_reducible rfl)
 try simp only[Act.put,List.setIfInBounds_toArray,List.set_cons_zero,List.set_cons_succ]
 refine wpAnyH_take (i:=7) (oi:=⟨some 15,_,_,_,_,_⟩) (v:=?_) rfl (by kernel_rfl) (by kernel_rfl) (by kernel_rfl) (fun _ _ _ h=>h) (Or.inl ⟨by rfl,?_⟩) (by assumption) ?_
 rotate_left
 ·(intro w hSw;(try dsimp only at hSw);go_simp;try with_reducible rfl)
 try simp only[Act.put,List.setIfInBounds_toArray,List.set_cons_zero,List.set_cons_succ]
 refine wpAnyH_ready (rs:=[8]) (by kernel_rfl) (by simp) ?_
 refine AllReadyH.cons (o:=⟨none,_,_,_,_,_⟩) rfl (fun K hK=>?_) AllReadyH.nil
 refine step_sst HK0 0 (by rfl) _ _ (by rfl) (by rfl) (by rfl) (by rfl) ?_;intro w8 HK';simp only[List.set] at HK';replace HK0:=HK';clear HK';have hs:=zH (((HK0.out.dropL 1).takeL 1).takeR 0)
 refine hK.out _ _ hs (fun hHeld=>?_)
 clear hK K
 try simp only[ap1,ap2,ap3,ap4,ap5]
 refine wpAnyH_take (i:=9) (oi:=⟨some 6,_,_,_,_,_⟩) (v:=?_) rfl (by kernel_rfl) (by kernel_rfl) (by kernel_rfl) (fun _ _ _ h=>h) (Or.inl ⟨by rfl,?_⟩) (by assumption) ?_
 rotate_left
 ·(intro w hSw;(try dsimp only at hSw);go_simp;try with_reducible rfl)
 try simp only[Act.put,List.setIfInBounds_toArray,List.set_cons_zero,List.set_cons_succ]
 refine wpAnyH_done (by kernel_rfl) ?_ _
 rotate_left
 go_simp
 go_at_call 25
 refine(HTo.out _).mono ?_;rintro e w5 hq;obtain⟨A5,c5,rfl,o5,b5⟩:=hq.one;replace HK0:=zH (HK0.out.called b5 o5);clear o5 b5;simp only[lnA] at HK0;have hs:=zH (((HK0.out.dropL 1).takeL 1).takeR 0)
 refine hK.out _ _ hs (fun hHeld=>?_)
 clear hK K
 try simp only[ap1,ap2,ap3,ap4,ap5]
 refine wpAnyH_ready (rs:=[0]) (by kernel_rfl) (by simp) ?_
 refine AllReadyH.cons (o:=⟨some 9,_,_,_,_,_⟩) rfl (fun K hK=>?_) AllReadyH.nil
 refine step_of_exec (by rfl) (kst HK0 0 _ (by rfl) (by rfl) (by rfl)) ?_;have hs:=hHeld
 refine hK.out _ _ hs (fun hHeld=>?_)
 clear hK K
 try simp only[ap1,ap2,ap3,ap4,ap5]
 refine wpAnyH_ready (rs:=[4]) (by kernel_rfl) (by simp) ?_
 refine AllReadyH.cons (o:=⟨some 13,_,_,_,_,_⟩) rfl (fun K hK=>?_) AllReadyH.nil
 go_simp
 go_at_call 53
 refine(HFi.out A5 c5 _ (Sls.own (HK0.out.own 0 rfl) (fits_out (by show 1≤1000;decide)))).mono ?_;rintro e w6 ⟨rfl,b6⟩;replace HK0:=zH (HK0.out.call b6);clear b6;have hs:=zH (((HK0.out.dropL 1).takeL 1).takeR 0)
 refine hK.out _ _ hs (fun hHeld=>?_)
 clear hK K
 try simp only[ap1,ap2,ap3,ap4,ap5]
 refine wpAnyH_take (i:=5) (oi:=⟨some 8,_,_,_,_,_⟩) (v:=?_) rfl (by kernel_rfl) (by kernel_rfl) (by kernel_rfl) (fun _ _ _ h=>h) (Or.inl ⟨by rfl,?_⟩) (by assumption) ?_
 rotate_left
 ·(intro w hSw;(try dsimp only at hSw);go_simp;try with_reducible rfl)
 try simp only[Act.put,List.setIfInBounds_toArray,List.set_cons_zero,List.set_cons_succ]
 refine wpAnyH_take (i:=6) (oi:=⟨some 14,_,_,_,_,_⟩) (v:=?_) rfl (by kernel_rfl) (by kernel_rfl) (by kernel_rfl) (fun _ _ _ h=>h) (Or.inl ⟨by rfl,?_⟩) (by assumption) ?_
 rotate_left
 ·(intro w hSw;(try dsimp only at hSw);go_simp;try with_reducible rfl)
 try simp only[Act.put,List.setIfInBounds_toArray,List.set_cons_zero,List.set_cons_succ]
 refine wpAnyH_take (i:=7) (oi:=⟨some 15,_,_,_,_,_⟩) (v:=?_) rfl (by kernel_rfl) (by kernel_rfl) (by kernel_rfl) (fun _ _ _ h=>h) (Or.inl ⟨by rfl,?_⟩) (by assumption) ?_
 rotate_left
 ·(intro w hSw;(try dsimp only at hSw);go_simp;try with_reducible rfl)
 try simp only[Act.put,List.setIfInBounds_toArray,List.set_cons_zero,List.set_cons_succ]
 refine wpAnyH_ready (rs:=[8]) (by kernel_rfl) (by simp) ?_
 refine AllReadyH.cons (o:=⟨none,_,_,_,_,_⟩) rfl (fun K hK=>?_) AllReadyH.nil
 refine step_sst HK0 0 (by rfl) _ _ (by rfl) (by rfl) (by rfl) (by rfl) ?_;intro w8 HK';simp only[List.set] at HK';replace HK0:=HK';clear HK';have hs:=zH (((HK0.out.dropL 1).takeL 1).takeR 0)
 refine hK.out _ _ hs (fun hHeld=>?_)
 clear hK K
 try simp only[ap1,ap2,ap3,ap4,ap5]
 refine wpAnyH_take (i:=9) (oi:=⟨some 6,_,_,_,_,_⟩) (v:=?_) rfl (by kernel_rfl) (by kernel_rfl) (by kernel_rfl) (fun _ _ _ h=>h) (Or.inl ⟨by rfl,?_⟩) (by assumption) ?_
 rotate_left
 ·(intro w hSw;(try dsimp only at hSw);go_simp;try with_reducible rfl)
 try simp only[Act.put,List.setIfInBounds_toArray,List.set_cons_zero,List.set_cons_succ]
 refine wpAnyH_done (by kernel_rfl) ?_ _
 rotate_left
 all_goals
  have HK:=HK0
  clear HK0 hHeld hs HTo HFi
  go_wp2_with (first|refine wpList_exe (krf_c (x:=r) HK 1 _ (by rfl) (by rfl) (by rfl)) (by rfl) ?_|refine wpList_exe (kst HK 0 _ (by rfl) (by rfl) (by rfl)) (by rfl) ?_)
  refine(HLv.out _ HK.out.b).mono ?_;rintro e w9 ⟨A2,k2,c2,l2,O2,m2,d2,R2,rfl,HV2,q2,HI2⟩
  replace HK:=zH (HK.out.join q2)
  clear q2 HLv
  simp only[lcA,lnA] at HK
  have HLn:Hid (os.length=m2):=zH (HI2.out _ _ _ _ _ HK.out (fun z hz=>List.mem_cons_of_mem _ hz) trivial).2.len
  have HO2:Hid (m2≤9):=zH (by rw[← HLn.out];exact HOl.out)
  go_upto_region 3 with (first|(refine wpList_sst HK 0 rfl _ _ rfl rfl rfl rfl ?_;intro _ HK';simp only[List.set] at HK';replace HK:=HK';clear HK'))
  have HK0:=zH HK.out.drew
  clear HK HOl
  refine wp_region_held_drew (S:=(fun W=>Hid (Kn w.heap.size w W [(w.heap.size,33,stA n3 A2 k2 c2 t3)] []))) (by kernel_rfl) ?_ (fun hHeld=>?_)
  ·(try dsimp only);exact zH ((HK0.out.takeL 1).takeR 0)
  refine wpAnyH_take (i:=0) (oi:=⟨some 23,_,_,_,_,_⟩) (v:=?_) rfl (by kernel_rfl) (by kernel_rfl) (by kernel_rfl) (fun _ _ _ h=>h) (Or.inl ⟨by rfl,?_⟩) (by assumption) ?_
  rotate_left
  ·(intro w hSw;refine Eq.trans (kst hSw 0 _ (by rfl) (by rfl) (by rfl)) ?_;with_reducible rfl)
  try simp only[Act.put,List.setIfInBounds_toArray,List.set_cons_zero,List.set_cons_succ]
  refine wpAnyH_take (i:=1) (oi:=⟨some 24,_,_,_,_,_⟩) (v:=?_) rfl (by kernel_rfl) (by kernel_rfl) (by kernel_rfl) (fun _ _ _ h=>h) (Or.inl ⟨by rfl,?_⟩) (by assumption) ?_
  rotate_left
  ·(intro w hSw;(try dsimp only at hSw);go_simp;try with_reducible rfl)
  try simp only[Act.put,List.setIfInBounds_toArray,List.set_cons_zero,List.set_cons_succ]
  refine wpAnyH_take (i:=2) (oi:=⟨some 25,_,_,_,_,_⟩) (v:=?_) rfl (by kernel_rfl) (by kernel_rfl) (by kernel_rfl) (fun _ _ _ h=>h) (Or.inl ⟨by rfl,?_⟩) (by assumption) ?_
  rotate_left
  ·(intro w hSw;(try dsimp only at hSw);go_simp;try with_reducible rfl)
  try simp only[Act.put,List.setIfInBounds_toArray,List.set_cons_zero,List.set_cons_succ]
  refine wpAnyH_ready (rs:=[3]) (by kernel_rfl) (by simp) ?_
  refine AllReadyH.cons (o:=⟨some 26,_,_,_,_,_⟩) rfl (fun K hK=>?_) AllReadyH.nil
  refine step_mks2 otLay otNest HK0 (by rfl) _ _ (by rfl) (by rfl) (by rfl) ?_;intro w6 g10 HK' _;simp only[lcA,lnA] at HK';replace HK0:=HK';clear HK';have hs:=zH ((HK0.out.takeL 1).takeR 0)
  refine hK.out _ _ hs (fun hHeld=>?_)
  clear hK K
  try simp only[ap1,ap2,ap3,ap4,ap5]
  refine wpAnyH_ready (rs:=[4]) (by kernel_rfl) (by simp) ?_
  refine AllReadyH.cons (o:=⟨some 27,_,_,_,_,_⟩) rfl (fun K hK=>?_) AllReadyH.nil
  go_simp
  go_at_call 85
  refine(HQc.out.two HK0 3 rfl (Sls.own (HK0.out.own 0 rfl) (fits_out (by show 1≤1000;decide))) (HI2.out _ _ _ _ _ HK0.out (fun z hz=>List.mem_cons_of_mem _ hz) trivial).2 (by have:=HO2.out;show(1+m2)*72≤_;omega)).mono ?_;rintro e w7 ⟨A9,n9,c9,rfl,o9,b9⟩;replace HK0:=zH (HK0.out.called b9 o9).frontR;clear o9 b9;have hs:=zH ((HK0.out.takeL 1).takeR 0)
  refine hK.out _ _ hs (fun hHeld=>?_)
  clear hK K
  try simp only[ap1,ap2,ap3,ap4,ap5]
  refine wpAnyH_ready (rs:=[5]) (by kernel_rfl) (by simp) ?_
  refine AllReadyH.cons (o:=⟨none,_,_,_,_,_⟩) rfl (fun K hK=>?_) AllReadyH.nil
  refine step_sst HK0 2 (by rfl) _ _ (by rfl) (by rfl) (by rfl) (by rfl) ?_;intro w8 HK';simp only[List.set] at HK';replace HK0:=HK';clear HK';have hs:=zH ((HK0.out.takeL 1).takeR 0)
  refine hK.out _ _ hs (fun hHeld=>?_)
  clear hK K
  try simp only[ap1,ap2,ap3,ap4,ap5]
  refine wpAnyH_take (i:=6) (oi:=⟨some 5,_,_,_,_,_⟩) (v:=?_) rfl (by kernel_rfl) (by kernel_rfl) (by kernel_rfl) (fun _ _ _ h=>h) (Or.inl ⟨by rfl,?_⟩) (by assumption) ?_
  rotate_left
  ·(intro w hSw;(try dsimp only at hSw);go_simp;try with_reducible rfl)
  try simp only[Act.put,List.setIfInBounds_toArray,List.set_cons_zero,List.set_cons_succ]
  refine wpAnyH_done (by kernel_rfl) ?_ _
  all_goals
   have HK:=HK0
   clear HK0 hHeld
   go_wp2_with fail
   refine ret_sto Tryz.results54 rfl rfl rfl (HK.out.blk 2 rfl) ?_
   unfold IsSt
   exact⟨A2,k2,c2,l2,A9,_,c9,_,rfl,HV2,HK.out.takeL 0,zH fun b W0 W L R K hm hg=>⟨(HI2.out b W0 W L R K (fun z hz=>hm z (List.mem_cons_of_mem _ (List.mem_cons_of_mem _ hz))) trivial).1,Sls.own (K.mem (hm _ (List.mem_cons_self ..))) (fits_out (by show os.length+1≤1000;rw[HLn.out];have:=HO2.out;omega))⟩⟩
end
section
open Go.RowKit
def evC(c e r k:Int)(name key:ByteArray)(vk vn:Int)(vf:Nat)(vs:ByteArray)(ok on:Int)(of:Nat)(os:ByteArray)(n m:Int):Array Value:=
 #[.int .i64 c,.int .i64 e,.int .i64 r,.int .i64 k,.string name,.string key,.int .i64 vk,.int .i64 vn,.int .u64 (vf:Int),.string vs,.int .i64 ok,.int .i64 on,.int .u64 (of:Int),.string os,.int .i64 n,.int .i64 m]
def evA(e:Cmd.E):Array Value:=evC e.c e.e e.r e.cmd.k e.cmd.name e.cmd.key e.cmd.val.k e.cmd.val.n e.cmd.val.f e.cmd.val.s e.cmd.old.k e.cmd.old.n e.cmd.old.f e.cmd.old.s e.cmd.n e.cmd.m
def evZ:Cmd.E:=⟨0,0,0,⟨0,⟨#[]⟩,⟨#[]⟩,⟨0,0,0,⟨#[]⟩⟩,⟨0,0,0,⟨#[]⟩⟩,0,0⟩⟩
theorem info_ev:(Tryz.prog.info? 39).map (·.size)=some 16:=by kernel_rfl
theorem info_ref:(Tryz.prog.info? 35).map (·.size)=some 3:=by kernel_rfl
theorem info_cmd:(Tryz.prog.info? 37).map (·.size)=some 13:=by kernel_rfl
section
variable {b0:Nat}{w0 w:World}{L:List (Nat×TypeId×Array Value)}{R:List RowE}{ops:Array Oper}{rest:List Oper}{o:Oper}{a:Act}{Q:Exit→Act→World→Prop}
variable {g:Nat}{t:TypeId}{c e r k:Int}{name key:ByteArray}{vk vn:Int}{vf:Nat}{vs:ByteArray}{ok on:Int}{of:Nat}{os:ByteArray}{n m:Int}
theorem kexec_eref(HK:Hid (Kn b0 w0 w L R))(i:Nat)(x:Operand)(ho:o.op=.load 35 x)(hL:L[i]?=some (g,t,evC c e r k name key vk vn vf vs ok on of os n m))(hx:a.eval x=.pointer (some ⟨g,0,none⟩)):
  (execOp a.eval o).run Tryz.prog w=.ok (.value (.agg #[.int .i64 c,.int .i64 e,.int .i64 r])) w:=
 kexec_ls HK _ x ho i hL hx #[.int .i64 c,.int .i64 e,.int .i64 r] (fun j hj=>by
  match j,hj with
  | 0,_|1,_|2,_=>rfl) Tryz.underlying35 info_ref
theorem kexec_ecm(HK:Hid (Kn b0 w0 w L R))(i:Nat)(x:Operand)(ho:o.op=.load 37 x)(hL:L[i]?=some (g,t,evC c e r k name key vk vn vf vs ok on of os n m))(hx:a.eval x=.pointer (some ⟨g,3,none⟩)):
  (execOp a.eval o).run Tryz.prog w=.ok (.value (.agg (cmC k name key vk vn vf vs ok on of os n m))) w:=
 kexec_ls HK _ x ho i hL hx (cmC k name key vk vn vf vs ok on of os n m) (fun j hj=>by
  match j,hj with
  | 0,_|1,_|2,_|3,_|4,_|5,_|6,_|7,_|8,_|9,_|10,_|11,_|12,_=>rfl) Tryz.underlying37 info_cmd
theorem kexec_ee(HK:Hid (Kn b0 w0 w L R))(i:Nat)(x:Operand)(ho:o.op=.load 39 x)(hL:L[i]?=some (g,t,evC c e r k name key vk vn vf vs ok on of os n m))(hx:a.eval x=.pointer (some ⟨g,0,none⟩)):
  (execOp a.eval o).run Tryz.prog w=.ok (.value (.agg (evC c e r k name key vk vn vf vs ok on of os n m))) w:=
 kexec_ls HK _ x ho i hL hx (evC c e r k name key vk vn vf vs ok on of os n m) (fun j _=>by rw[Nat.zero_add]) Tryz.underlying39 info_ev
theorem Kn.ev(h:Kn b0 w0 w L R)(i:Nat)(hi:L[i]?=some (g,t,evC c e r k name key vk vn vf vs ok on of os n m)):
  w.cell? ⟨g,0,none⟩=some (.int .i64 c)∧w.cell? ⟨g,1,none⟩=some (.int .i64 e)∧w.cell? ⟨g,2,none⟩=some (.int .i64 r)∧w.cell? ⟨g,3,none⟩=some (.int .i64 k)∧w.cell? ⟨g,4,none⟩=some (.string name)∧w.cell? ⟨g,5,none⟩=some (.string key)∧
  w.cell? ⟨g,14,none⟩=some (.int .i64 n)∧w.cell? ⟨g,15,none⟩=some (.int .i64 m):=
 ⟨h.cell i hi 0 rfl,h.cell i hi 1 rfl,h.cell i hi 2 rfl,h.cell i hi 3 rfl,h.cell i hi 4 rfl,h.cell i hi 5 rfl,h.cell i hi 14 rfl,h.cell i hi 15 rfl⟩
theorem wpList_sev(HK:Hid (Kn b0 w0 w L R))(i:Nat)(hgd:o.guard=none)(p q:Operand)(ho:o.op=.store 39 p q){e1 e2:Cmd.E}(hL:L[i]?=some (g,t,evA e1))(hx:a.eval p=.pointer (some ⟨g,0,none⟩))(hy:a.eval q=.agg (evA e2))
  (h:∀w',Hid (Kn b0 w0 w' (L.set i (g,t,evA e2)) R)→Hid (w'.heap.size=w.heap.size)→wpList Tryz.prog ops Q rest (a.put o.dst undef) w'):wpList Tryz.prog ops Q (o::rest) a w:=
 wpList_ss HK i hgd _ p q ho hL hx hy (by show 16≤16;decide) info_ev (by simp[evA,evC,Value.oneCell']) fun w' h1 h2=>h w' (by
  have e:putCells (evA e1) 0 (evA e2).toList=evA e2:=by
   rw[putCells_all (vs:=(evA e2).toList) (cs:=evA e1) rfl,Array.toArray_toList]
  rw[e] at h1
  exact h1) h2
theorem wpList_akev(HK:Hid (Kn b0 w0 w L R))(hgd:o.guard=none)(ho:o.op=.alloc 39)
  (h:∀w' g,Hid (Kn b0 w0 w' (L++[(g,39,evA evZ)]) R)→wpList Tryz.prog ops Q rest (a.put o.dst (.pointer (some ⟨g,0,none⟩))) w'):wpList Tryz.prog ops Q (o::rest) a w:=
 wpList_plain hgd fun K hK=>by
  have h4:=h _ w.heap.size (zH (HK.out.alloc _ _))
  unfold Oper.wp execOp
  simp only[ho]
  unfold evA evC evZ at h4
  go_simp
  exact hK _ _ h4
end
end
section
open Go.RowKit
theorem kev_k{b0:Nat}{w0 w:World}{L:List (Nat×TypeId×Array Value)}{R:List RowE}{o:Oper}{a:Act}{g:Nat}{e:Cmd.E}(HK:Hid (Kn b0 w0 w L R))(i:Nat)(x:Operand)(ho:o.op=.load 3 x)(hL:L[i]?=some (g,39,evA e))(hx:a.eval x=.pointer (some ⟨g,3,none⟩)):
  (execOp a.eval o).run Tryz.prog w=.ok (.value (.int .i64 e.cmd.k)) w:=kexec_lc HK _ x ho i hL hx rfl Tryz.underlying3 rfl
theorem kev_c{b0:Nat}{w0 w:World}{L:List (Nat×TypeId×Array Value)}{R:List RowE}{o:Oper}{a:Act}{g:Nat}{e:Cmd.E}(HK:Hid (Kn b0 w0 w L R))(i:Nat)(x:Operand)(ho:o.op=.load 3 x)(hL:L[i]?=some (g,39,evA e))(hx:a.eval x=.pointer (some ⟨g,0,none⟩)):
  (execOp a.eval o).run Tryz.prog w=.ok (.value (.int .i64 e.c)) w:=kexec_lc HK _ x ho i hL hx rfl Tryz.underlying3 rfl
theorem obs_float{w:World}{A:Option Addr}{n c:Nat}{l:List Oh}(h:Obs w A n c l):∀o∈vs l,Ap.FlOb o:=fun o ho=>by
 obtain⟨x,hx,e⟩:=List.mem_map.1 ho
 have hi:=h.i x hx
 rw[← e]
 exact⟨hi.p.fs,hi.v.fit.fs,hi.m.2.1,hi.m.2.2.1,hi.m.2.2.2⟩
end
section
open Go.RowKit
def askS(n:Int)(D:Sto.Rs)(t:Ses.T)(r:Rf):Ap.St:=if D.later=true then ⟨n,D.l,t⟩ else ⟨n,D.l,Ap.ends (Ses.endT t r D.p) (Ap.prs D.outs)⟩
def askO(D:Sto.Rs)(r:Rf):List Sto.Ot:=if D.later=true then [] else ⟨r,D.p⟩::D.outs
theorem apask_any(n:Int)(A:Option Addr)(k cp:Nat)(t:Ses.T)(lo:List Oh)(e:Cmd.E)(w:World)(hs:Obs w A k cp lo)(hf:Ses.Fit t)(hv:e.cmd.val.f<18446744073709551616)(ho:e.cmd.old.f<18446744073709551616):
  Calls Tryz.prog 55 #[.agg (stA n A k cp t),.agg (evA e)] w (IsSt (fun _=>True) (askS n (Sto.doo (vs lo) (Ap.ref e) e.cmd) t (Ap.ref e)) (askO (Sto.doo (vs lo) (Ap.ref e) e.cmd) (Ap.ref e)) w):=by
 have hfl:=Ap.doo_float (obs_float hs) (Ap.ref e) e.cmd
 have HD:=zH (fun W (hW:Below w.heap.size w W)=>sdo_any A cp k lo (Ap.ref e) e.cmd W (hs.later hW) hv ho)
 have HOl:=zH (Ap.doo_few (vs lo) (Ap.ref e) e.cmd)
 have HK:=kn2 w 33 (stA n A k cp t) 39 (evA e)
 unfold IsDo at HD
 unfold askS askO
 generalize Sto.doo (vs lo) (Ap.ref e) e.cmd=D at *
 obtain⟨l9,p9,la9,os⟩:=D
 dsimp only at *
 have HFi:=zH (fun(A2:Option Addr) (n2 c2:Nat) (O:Option Addr) (m d:Nat) W (h:Sls otLay tF W O m d ([⟨Ap.ref e,p9⟩]++os))=>finish_any n A2 n2 c2 t O m d _ W hf h (fun y hy=>by
  rcases List.mem_append.1 hy with hy|hy
  ·rw[List.mem_singleton.1 hy];exact hfl.1
  ·exact hfl.2 y hy))
 have e9:Ap.ends t (Ap.prs ([⟨Ap.ref e,p9⟩]++os))=Ap.ends (Ses.endT t (Ap.ref e) p9) (Ap.prs os):=rfl
 rw[e9] at HFi
 have HTo:=zH (fun W=>aptold_any (Ap.ref e) p9 W)
 have HQc:=zH qconcat_any
 clear hs hf hv ho hfl e9
 generalize Ap.ends (Ses.endT t (Ap.ref e) p9) (Ap.prs os)=t2 at *
 cases la9 with
 | true=>
  rw[if_pos rfl,if_pos rfl]
  clear HFi HTo HQc HOl
  go_enter Tryz.func55,Tryz.ntmps55
  go_wp2_with (first|(refine wpList_ast HK rfl rfl ?_;intro _ g1 HK';simp only[lcA,lnA] at HK';replace HK:=HK';clear HK')|refine wpList_exe (kst_o HK 0 _ (by rfl) (by rfl) (by rfl)) (by rfl) ?_|refine wpList_exe (kexec_eref HK 1 _ (by rfl) (by rfl) (by rfl)) (by rfl) ?_|refine wpList_exe (kexec_ecm HK 1 _ (by rfl) (by rfl) (by rfl)) (by rfl) ?_)
  refine(HD.out _ HK.out.b).mono ?_;rintro en w1 ⟨A2,k2,c2,lo2,O2,m2,d2,R2,rfl,v2,q2,i2⟩
  have HV2:=zH v2
  have HI2:=zH i2
  replace HK:=zH (HK.out.join q2)
  clear q2 v2 i2
  simp only[lnA] at HK
  go_wp2_with (first|(refine wpList_arp HK rfl rfl ?_;intro _ g9 HK';simp only[lcA,lnA] at HK';replace HK:=HK';clear HK')|(refine wpList_srp (q:=p9) HK 3 rfl _ _ rfl rfl rfl rfl ?_;intro _ HK';simp only[List.set] at HK';replace HK:=HK';clear HK')|(refine wpList_ssto HK 0 rfl _ _ rfl rfl rfl rfl ?_;intro _ HK';simp only[List.set] at HK';replace HK:=HK';clear HK')|refine wpList_exe (kst HK 0 _ (by rfl) (by rfl) (by rfl)) (by rfl) ?_|(refine wpList_sst HK 2 rfl _ _ rfl rfl rfl rfl ?_;intro _ HK';simp only[List.set] at HK';replace HK:=HK';clear HK'))
  refine ret_sto Tryz.results55 rfl rfl rfl (HK.out.blk 2 rfl) ?_
  unfold IsSt
  exact⟨A2,k2,c2,lo2,none,0,0,_,rfl,HV2,HK.out.takeL 0,zH fun b W0 W L R K hm hg=>⟨(HI2.out b W0 W L R K hm).1,Sls.none W⟩⟩
 | false=>
  rw[if_neg (by decide),if_neg (by decide)]
  go_enter Tryz.func55,Tryz.ntmps55
  go_wp2_with (first|(refine wpList_ast HK rfl rfl ?_;intro _ g1 HK';simp only[lcA,lnA] at HK';replace HK:=HK';clear HK')|refine wpList_exe (kst_o HK 0 _ (by rfl) (by rfl) (by rfl)) (by rfl) ?_|refine wpList_exe (kexec_eref HK 1 _ (by rfl) (by rfl) (by rfl)) (by rfl) ?_|refine wpList_exe (kexec_ecm HK 1 _ (by rfl) (by rfl) (by rfl)) (by rfl) ?_)
  refine(HD.out _ HK.out.b).mono ?_;rintro en w1 ⟨A2,k2,c2,lo2,O2,m2,d2,R2,rfl,v2,q2,i2⟩
  have HV2:=zH v2
  have HI2:=zH i2
  replace HK:=zH (HK.out.join q2)
  clear q2 v2 i2 HD
  simp only[lnA] at HK
  have HLn:Hid (os.length=m2):=zH (HI2.out _ _ _ _ _ HK.out (fun z hz=>hz)).2.len
  have HO2:Hid (m2≤8):=zH (by rw[← HLn.out];exact HOl.out)
  go_upto_region 5 with (first|(refine wpList_arp HK rfl rfl ?_;intro _ g9 HK';simp only[lcA,lnA] at HK';replace HK:=HK';clear HK')|(refine wpList_srp (q:=p9) HK 3 rfl _ _ rfl rfl rfl rfl ?_;intro _ HK';simp only[List.set] at HK';replace HK:=HK';clear HK')|(refine wpList_ssto HK 0 rfl _ _ rfl rfl rfl rfl ?_;intro _ HK';simp only[List.set] at HK';replace HK:=HK';clear HK'))
  have HK0:=zH HK.out.drew
  clear HK HOl
  refine wp_region_held_drew (S:=(fun W=>Hid (Kn w.heap.size w W [(w.heap.size,33,stA n A2 k2 c2 t),(w.heap.size+1,39,evA e)] [])∧Hid (Kn w.heap.size w W [(g9,28,rpA p9)] []))) (by kernel_rfl) ?_ (fun hHeld=>?_)
  ·(try dsimp only);exact And.intro (zH ((HK0.out.takeL 2).takeR 0)) (zH (((HK0.out.dropL 3).takeL 1).takeR 0))
  refine wpAnyH_take (i:=0) (oi:=⟨some 26,_,_,_,_,_⟩) (v:=?_) rfl (by kernel_rfl) (by kernel_rfl) (by kernel_rfl) (fun _ _ _ h=>h) (Or.inl ⟨by rfl,?_⟩) (by assumption) ?_
  rotate_left
  ·(intro w hSw;refine Eq.trans (kst hSw.1 0 _ (by rfl) (by rfl) (by rfl)) ?_;with_reducible rfl)
  try simp only[Act.put,List.setIfInBounds_toArray,List.set_cons_zero,List.set_cons_succ]
  refine wpAnyH_take (i:=1) (oi:=⟨some 27,_,_,_,_,_⟩) (v:=?_) rfl (by kernel_rfl) (by kernel_rfl) (by kernel_rfl) (fun _ _ _ h=>h) (Or.inl ⟨by rfl,?_⟩) (by assumption) ?_
  rotate_left
  ·(intro w hSw;(try dsimp only at hSw);go_simp;try with_reducible rfl)
  try simp only[Act.put,List.setIfInBounds_toArray,List.set_cons_zero,List.set_cons_succ]
  refine wpAnyH_take (i:=2) (oi:=⟨some 28,_,_,_,_,_⟩) (v:=?_) rfl (by kernel_rfl) (by kernel_rfl) (by kernel_rfl) (fun _ _ _ h=>h) (Or.inl ⟨by rfl,?_⟩) (by assumption) ?_
  rotate_left
  ·(intro w hSw;refine Eq.trans (kexec_eref hSw.1 1 _ (by rfl) (by rfl) (by rfl)) ?_;with_reducible rfl)
  try simp only[Act.put,List.setIfInBounds_toArray,List.set_cons_zero,List.set_cons_succ]
  refine wpAnyH_take (i:=3) (oi:=⟨some 29,_,_,_,_,_⟩) (v:=?_) rfl (by kernel_rfl) (by kernel_rfl) (by kernel_rfl) (fun _ _ _ h=>h) (Or.inl ⟨by rfl,?_⟩) (by assumption) ?_
  rotate_left
  ·(intro w hSw;refine Eq.trans (krp hSw.2 0 _ (by rfl) (by rfl) (by rfl)) ?_;with_reducible rfl)
  try simp only[Act.put,List.setIfInBounds_toArray,List.set_cons_zero,List.set_cons_succ]
  refine wpAnyH_take (i:=5) (oi:=⟨some 31,_,_,_,_,_⟩) (v:=?_) rfl (by kernel_rfl) (by kernel_rfl) (by kernel_rfl) (fun _ _ _ h=>h) (Or.inl ⟨by rfl,?_⟩) (by assumption) ?_
  rotate_left
  ·(intro w hSw;(try dsimp only at hSw);go_simp;try with_reducible rfl)
  try simp only[Act.put,List.setIfInBounds_toArray,List.set_cons_zero,List.set_cons_succ]
  refine wpAnyH_ready (rs:=[4]) (by kernel_rfl) (by simp) ?_
  refine AllReadyH.cons (o:=⟨some 30,_,_,_,_,_⟩) rfl (fun K hK=>?_) AllReadyH.nil
  go_simp
  go_at_call 25
  refine(HTo.out _).mono ?_;rintro en w5 hq;obtain⟨A5,c5,rfl,o5,b5⟩:=hq.one;replace HK0:=zH (HK0.out.called b5 o5).frontR;clear o5 b5;have hs:=And.intro (zH ((HK0.out.takeL 2).takeR 0)) (zH (((HK0.out.dropL 3).takeL 1).takeR 0))
  refine hK.out _ _ hs (fun hHeld=>?_)
  clear hK K
  try simp only[ap1,ap2,ap3,ap4,ap5]
  refine wpAnyH_ready (rs:=[6]) (by kernel_rfl) (by simp) ?_
  refine AllReadyH.cons (o:=⟨some 32,_,_,_,_,_⟩) rfl (fun K hK=>?_) AllReadyH.nil
  refine step_mks2 otLay otNest HK0 (by rfl) _ _ (by rfl) (by rfl) (by rfl) ?_;intro w6 g10 HK' _;simp only[lcA,lnA] at HK';replace HK0:=HK';clear HK';have hs:=And.intro (zH ((HK0.out.takeL 2).takeR 0)) (zH (((HK0.out.dropL 3).takeL 1).takeR 0))
  refine hK.out _ _ hs (fun hHeld=>?_)
  clear hK K
  try simp only[ap1,ap2,ap3,ap4,ap5]
  refine wpAnyH_ready (rs:=[7]) (by kernel_rfl) (by simp) ?_
  refine AllReadyH.cons (o:=⟨some 33,_,_,_,_,_⟩) rfl (fun K hK=>?_) AllReadyH.nil
  go_simp
  go_at_call 85
  refine(HQc.out.two HK0 4 rfl (Sls.own (HK0.out.own 0 rfl) (fits_out (by show 1≤1000;decide))) (HI2.out _ _ _ _ _ HK0.out (fun z hz=>List.mem_cons_of_mem _ hz)).2 (by have:=HO2.out;show(1+m2)*72≤_;omega)).mono ?_;rintro en w7 ⟨A9,n9,c9,rfl,o9,b9⟩;replace HK0:=zH (HK0.out.called b9 o9).frontR;clear o9 b9;have hs:=And.intro (zH ((HK0.out.takeL 2).takeR 0)) (zH (((HK0.out.dropL 3).takeL 1).takeR 0))
  refine hK.out _ _ hs (fun hHeld=>?_)
  clear hK K
  try simp only[ap1,ap2,ap3,ap4,ap5]
  refine wpAnyH_ready (rs:=[8]) (by kernel_rfl) (by simp) ?_
  refine AllReadyH.cons (o:=⟨some 34,_,_,_,_,_⟩) rfl (fun K hK=>?_) AllReadyH.nil
  go_simp
  go_at_call 53
  refine(HFi.out A2 k2 c2 A9 n9 c9 _ (Sls.own (HK0.out.own 0 rfl) (fits_out (by show os.length+1≤1000;rw[HLn.out];have:=HO2.out;omega)))).mono ?_;rintro en w8 ⟨rfl,b8⟩;replace HK0:=zH (HK0.out.call b8);clear b8;have hs:=And.intro (zH ((HK0.out.takeL 2).takeR 0)) (zH (((HK0.out.dropL 3).takeL 1).takeR 0))
  refine hK.out _ _ hs (fun hHeld=>?_)
  clear hK K
  try simp only[ap1,ap2,ap3,ap4,ap5]
  refine wpAnyH_take (i:=9) (oi:=⟨some 35,_,_,_,_,_⟩) (v:=?_) rfl (by kernel_rfl) (by kernel_rfl) (by kernel_rfl) (fun _ _ _ h=>h) (Or.inl ⟨by rfl,?_⟩) (by assumption) ?_
  rotate_left
  ·(intro w hSw;(try dsimp only at hSw);go_simp;try with_reducible rfl)
  try simp only[Act.put,List.setIfInBounds_toArray,List.set_cons_zero,List.set_cons_succ]
  refine wpAnyH_take (i:=10) (oi:=⟨some 36,_,_,_,_,_⟩) (v:=?_) rfl (by kernel_rfl) (by kernel_rfl) (by kernel_rfl) (fun _ _ _ h=>h) (Or.inl ⟨by rfl,?_⟩) (by assumption) ?_
  rotate_left
  ·(intro w hSw;(try dsimp only at hSw);go_simp;try with_reducible rfl)
  try simp only[Act.put,List.setIfInBounds_toArray,List.set_cons_zero,List.set_cons_succ]
  refine wpAnyH_ready (rs:=[11]) (by kernel_rfl) (by simp) ?_
  refine AllReadyH.cons (o:=⟨none,_,_,_,_,_⟩) rfl (fun K hK=>?_) AllReadyH.nil
  refine step_sst HK0 2 (by rfl) _ _ (by rfl) (by rfl) (by rfl) (by rfl) ?_;intro w9 HK';simp only[List.set] at HK';replace HK0:=HK';clear HK';have hs:=And.intro (zH ((HK0.out.takeL 2).takeR 0)) (zH (((HK0.out.dropL 3).takeL 1).takeR 0))
  refine hK.out _ _ hs (fun hHeld=>?_)
  clear hK K
  try simp only[ap1,ap2,ap3,ap4,ap5]
  refine wpAnyH_take (i:=12) (oi:=⟨some 5,_,_,_,_,_⟩) (v:=?_) rfl (by kernel_rfl) (by kernel_rfl) (by kernel_rfl) (fun _ _ _ h=>h) (Or.inl ⟨by rfl,?_⟩) (by assumption) ?_
  rotate_left
  ·(intro w hSw;(try dsimp only at hSw);go_simp;try with_reducible rfl)
  try simp only[Act.put,List.setIfInBounds_toArray,List.set_cons_zero,List.set_cons_succ]
  refine wpAnyH_done (by kernel_rfl) ?_ _
  all_goals
   have HK:=HK0
   clear HK0 hHeld
   go_wp2_with fail
   refine ret_sto Tryz.results55 rfl rfl rfl (HK.out.blk 2 rfl) ?_
   unfold IsSt
   exact⟨A2,k2,c2,lo2,A9,_,c9,_,rfl,HV2,HK.out.takeL 0,zH fun b W0 W L R K hm hg=>⟨(HI2.out b W0 W L R K (fun z hz=>hm z (List.mem_cons_of_mem _ (List.mem_cons_of_mem _ hz)))).1,Sls.own (K.mem (hm _ (List.mem_cons_self ..))) (fits_out (by show os.length+1≤1000;rw[HLn.out];have:=HO2.out;omega))⟩⟩
end
section
open Go.RowKit
theorem sbeg_any(t:Ses.T)(r:Rf)(w:World)(hf:Ses.Fit t)(hr:r.r≤9223372036854775807):Calls Tryz.prog 52 #[.agg (tbA t),.agg #[.int .i64 r.c,.int .i64 r.e,.int .i64 r.r]] w (IsT (Ses.begT t r) w):=by
 have HL:=zH (fun W=>slook_any t r W hf hr)
 have HK:=kn2 w 31 (tbA t) 35 #[.int .i64 r.c,.int .i64 r.e,.int .i64 r.r]
 have HY:=zH (fun h1 h2=>Ses.beg_yes (t:=t) (r:=r) h1 h2)
 have HN1:=zH (fun h=>Ses.beg_no1 (t:=t) (r:=r) h)
 have HN2:=zH (fun h=>Ses.beg_no2 (t:=t) (r:=r) h)
 have HC:=zH (fun h=>Ses.look_c (t:=t) (r:=r) (k:=1) h (by decide))
 unfold IsT
 unfold IsInt at HL
 clear hf hr
 generalize Ses.look t r=x at *
 generalize Ses.begT t r=y at *
 generalize h1:decide (x=1)=b1 at *
 have H1:=zH h1
 generalize h2:decide (r.r=0)=b2 at *
 have H2:=zH h2
 clear h1 h2
 cases b1
 case false=>
  have HX:=zH (HN1.out (by simp))
  go_enter Tryz.func52,Tryz.ntmps52
  go_wp2_with (first|refine wpList_exe (ktb HK 0 _ (by rfl) (by rfl) (by rfl)) (by rfl) ?_|refine wpList_exe (kexec_lr HK 1 _ (by rfl) (by rfl) (by rfl)) (by rfl) ?_|(refine wpList_atb HK rfl rfl ?_;intro _ g1 HK';simp only[lcA,lnA] at HK';replace HK:=HK';clear HK'))
  refine(HL.out _).mono ?_;rintro e w1 ⟨rfl,b1⟩
  replace HK:=hkC HK b1;clear b1
  go_wp2_with (first|refine wpList_exe (exec_iE (m:=x) (n:=1) _ _ (by rfl) (by rfl) (by rfl) H1.out) (by rfl) ?_|refine wpList_exe (ktb HK 0 _ (by rfl) (by rfl) (by rfl)) (by rfl) ?_|(refine wpList_stb (t2:=t) HK 2 rfl _ _ rfl rfl rfl rfl ?_;intro _ HK';simp only[List.set] at HK';replace HK:=HK';clear HK'))
  rw[← HX.out] at HK
  exact ret_tb Tryz.results52 rfl rfl (HK.out.blk 2 rfl) ⟨rfl,HK.out.b⟩
 cases b2
 case true=>
  have HX:=zH (HN2.out (by simp))
  go_enter Tryz.func52,Tryz.ntmps52
  go_wp2_with (first|refine wpList_exe (ktb HK 0 _ (by rfl) (by rfl) (by rfl)) (by rfl) ?_|refine wpList_exe (kexec_lr HK 1 _ (by rfl) (by rfl) (by rfl)) (by rfl) ?_|(refine wpList_atb HK rfl rfl ?_;intro _ g1 HK';simp only[lcA,lnA] at HK';replace HK:=HK';clear HK'))
  refine(HL.out _).mono ?_;rintro e w1 ⟨rfl,b1⟩
  replace HK:=hkC HK b1;clear b1
  go_wp2_with (first|refine wpList_exe (exec_iE (m:=x) (n:=1) _ _ (by rfl) (by rfl) (by rfl) H1.out) (by rfl) ?_|refine wpList_exe (exec_iN (m:=r.r) (n:=0) _ _ (by rfl) (by rfl) (by rfl) (by rw[H2.out])) (by rfl) ?_|refine wpList_exe (krf_r (x:=r) HK 1 _ (by rfl) (by rfl) (by rfl)) (by rfl) ?_|refine wpList_exe (ktb HK 0 _ (by rfl) (by rfl) (by rfl)) (by rfl) ?_|(refine wpList_stb (t2:=t) HK 2 rfl _ _ rfl rfl rfl rfl ?_;intro _ HK';simp only[List.set] at HK';replace HK:=HK';clear HK'))
  rw[← HX.out] at HK
  exact ret_tb Tryz.results52 rfl rfl (HK.out.blk 2 rfl) ⟨rfl,HK.out.b⟩
 have hc:=HC.out (of_decide_eq_true H1.out)
 have HX:=zH (HY.out (by simp) (by simp))
 go_enter Tryz.func52,Tryz.ntmps52
 go_wp2_with (first|refine wpList_exe (ktb HK 0 _ (by rfl) (by rfl) (by rfl)) (by rfl) ?_|refine wpList_exe (kexec_lr HK 1 _ (by rfl) (by rfl) (by rfl)) (by rfl) ?_|(refine wpList_atb HK rfl rfl ?_;intro _ g1 HK';simp only[lcA,lnA] at HK';replace HK:=HK';clear HK'))
 refine(HL.out _).mono ?_;rintro e w1 ⟨rfl,b1⟩
 replace HK:=hkC HK b1;clear b1
 go_wp2_with (first|refine wpList_exe (exec_iE (m:=x) (n:=1) _ _ (by rfl) (by rfl) (by rfl) H1.out) (by rfl) ?_|refine wpList_exe (exec_iN (m:=r.r) (n:=0) _ _ (by rfl) (by rfl) (by rfl) (by rw[H2.out])) (by rfl) ?_|refine wpList_exe (krf_c (x:=r) HK 1 _ (by rfl) (by rfl) (by rfl)) (by rfl) ?_|refine wpList_exe (krf_r (x:=r) HK 1 _ (by rfl) (by rfl) (by rfl)) (by rfl) ?_|refine wpList_exe (exec_ixt hc _ _ (by rfl) (by rfl) (by rfl)) (by rfl) ?_|(refine wpList_tsr (n:=r.r) HK 0 rfl hc _ _ rfl rfl rfl rfl ?_;intro _ HK';simp only[List.set] at HK';replace HK:=HK';clear HK')|(refine wpList_tsd (d:=false) HK 0 rfl hc _ _ rfl rfl rfl rfl ?_;intro _ HK';simp only[List.set] at HK';replace HK:=HK';clear HK')|(refine wpList_tsp (p:=Sto.rz) HK 0 rfl hc _ _ rfl rfl rfl rfl ?_;intro _ HK';simp only[List.set] at HK';replace HK:=HK';clear HK')|refine wpList_exe (exec_rz (by rfl)) (by rfl) ?_|refine wpList_exe (ktb HK 0 _ (by rfl) (by rfl) (by rfl)) (by rfl) ?_|(refine wpList_stb  HK 2 rfl _ _ rfl rfl rfl rfl ?_;intro _ HK';simp only[List.set] at HK';replace HK:=HK';clear HK'))
 (try simp only[Ses.get_set hc,Ses.set_set hc] at HK)
 (try dsimp only at HK)
 rw[← HX.out] at HK
 exact ret_tb Tryz.results52 rfl rfl (HK.out.blk 2 rfl) ⟨rfl,HK.out.b⟩
end
end Go.Proofs.YtddpmlcpfmmbeaaGreat
