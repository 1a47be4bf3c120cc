/- What phalanx/queue.join returns: the pieces' things, one piece behind the other. No condition but those named. -/
import Derived.Test.YtddpmlcpfmmbeaaGreatTk
import Derived.Test.YtddpmlcpfmmbeaaGreatKAY
import Derived.Test.YtddpmlcpfmmbeaaGreatKAI
import Derived.Deep.CutBlock
import Derived.Deep.DeepCutAuto
set_option linter.unusedSimpArgs false
set_option linter.unusedVariables false
set_option maxRecDepth 100000
set_option maxHeartbeats 25600000
namespace Go.Proofs.YtddpmlcpfmmbeaaGreat
section
open Go.RowKit
def IsPE(r:List Dct.Pr)(x:Int)(w:World)(e:Ending)(w':World):Prop:=∃A n c,e=.returned (.tuple #[.slice A n c,.int .i64 x])∧prLay.Own w.heap.size w' (.slice A n c) r∧Below w.heap.size w w'
theorem put_any(A:Option Addr)(c n:Nat)(l:List Dct.Pr)(key:ByteArray)(v:Val.V)(w:World)(hs:Sl w A n c l)(hv:v.f<18446744073709551616):
  Calls Tryz.prog 163 #[.slice A n c,.string key,vv v] w (IsPE (Dct.ptL l key v) (Dct.ptE l key v) w):=by
 have HM:=zH (fun W (hW:Below w.heap.size w W)=>mchk_any A c n l W (hs.later hW))
 have HC:=zH (fun W=>pchk_any key v W hv)
 have HP:=zH (fun W (hW:Below w.heap.size w W)=>parts_any A c n l key w W hs hW)
 have HS:=zH hs
 have HOr:=zH (fun a b W t g hg=>or2a_any a b W t g hg)
 -- what is answered, by cases
 have HBad:Hid (¬nz2 (Dct.mchk l) (Dct.pchk key v)=0→Dct.ptE l key v=nz2 (Dct.mchk l) (Dct.pchk key v)∧Dct.ptL l key v=l):=zH fun h=>by
  by_cases hr:Dct.Right l
  ·rw[Dct.mchk_ok hr] at h ⊢
   exact Dct.pt_chk hr h
  ·rw[Dct.mchk_one hr] at h ⊢
   exact Dct.pt_bad hr key v
 have HGood:Hid (nz2 (Dct.mchk l) (Dct.pchk key v)=0→Dct.Right l∧Dct.pchk key v=0):=zH fun h=>by
  by_cases hr:Dct.Right l
  ·rw[Dct.mchk_ok hr] at h;exact⟨hr,h⟩
  ·rw[Dct.mchk_one hr] at h;cases h
 have HFull:Hid (nz2 (Dct.mchk l) (Dct.pchk key v)=0→8≤(l.take (Dct.idx l key)).length+(l.drop (Dct.fin l key)).length→Dct.ptE l key v=6∧Dct.ptL l key v=l):=zH fun h h8=>by
  obtain⟨hr,hk⟩:=HGood.out h
  have hw:=congrArg List.length (Dct.wo_parts hr.up key).1
  rw[List.length_append] at hw
  exact Dct.pt_full hr hk (by omega)
 have HOk:Hid (nz2 (Dct.mchk l) (Dct.pchk key v)=0→¬8≤(l.take (Dct.idx l key)).length+(l.drop (Dct.fin l key)).length→Dct.ptE l key v=0∧Dct.ptL l key v=l.take (Dct.idx l key)++[⟨key,v⟩]++l.drop (Dct.fin l key)):=zH fun h h8=>by
  obtain⟨hr,hk⟩:=HGood.out h
  have hw:=congrArg List.length (Dct.wo_parts hr.up key).1
  rw[List.length_append] at hw
  exact Dct.pt_ok hr hk (by omega)
 have HFit:Hid (Fit [(⟨key,v⟩:Dct.Pr)]):=zH ⟨fun x hx=>by rw[List.mem_singleton] at hx;subst hx;exact hv,by show 1≤_;decide⟩
 clear hs hv HGood
 generalize Dct.ptE l key v=X at *
 generalize Dct.ptL l key v=r at *
 generalize hE:nz2 (Dct.mchk l) (Dct.pchk key v)=E at *
 have HE:=zH hE
 clear hE
 generalize Dct.mchk l=em at *
 generalize Dct.pchk key v=ek at *
 generalize l.take (Dct.idx l key)=l1 at *
 generalize (l.drop (Dct.idx l key)).take (Dct.fin l key-Dct.idx l key)=l2 at *
 generalize l.drop (Dct.fin l key)=l3 at *
 obtain⟨k,m,f,s⟩:=v
 unfold vv IsE at *
 simp only at HC ⊢
 have HK:=kn1 w 26 (vC k m f s)
 unfold vC at HK
 go_enter Tryz.func163,Tryz.ntmps163
 go_wp2_with fail
 refine wp_region_held_drew (S:=(fun W=>Hid (Kn w.heap.size w W [(w.heap.size,26,#[.int .i64 k,.int .i64 m,.int .u64 (f:Int),.string s])] []))) (by kernel_rfl) ?_ (fun hHeld=>?_)
 ·(try dsimp only);exact zH HK.out.drew
 refine wpAnyH_take (i:=0) (oi:=⟨some 12,_,_,_,_,_⟩) (v:=?_) rfl (by kernel_rfl) (by kernel_rfl) (by kernel_rfl) (fun _ _ _ h=>h) (Or.inl ⟨by rfl,?_⟩) (by assumption) ?_
 rotate_left
 ·(intro w hSw;(try dsimp only at hSw);go_simp;try with_reducible rfl)
 try simp only[Act.put,List.setIfInBounds_toArray,List.set_cons_zero,List.set_cons_succ]
 refine wpAnyH_take (i:=2) (oi:=⟨some 14,_,_,_,_,_⟩) (v:=?_) rfl (by kernel_rfl) (by kernel_rfl) (by kernel_rfl) (fun _ _ _ h=>h) (Or.inl ⟨by rfl,?_⟩) (by assumption) ?_
 rotate_left
 ·(intro w hSw;(try dsimp only at hSw);go_simp;try with_reducible rfl)
 try simp only[Act.put,List.setIfInBounds_toArray,List.set_cons_zero,List.set_cons_succ]
 refine wpAnyH_take (i:=3) (oi:=⟨some 15,_,_,_,_,_⟩) (v:=?_) rfl (by kernel_rfl) (by kernel_rfl) (by kernel_rfl) (fun _ _ _ h=>h) (Or.inl ⟨by rfl,?_⟩) (by assumption) ?_
 rotate_left
 ·(intro w hSw;refine Eq.trans (kexec_vv hSw 0 _ (by rfl) (by rfl) (by rfl)) ?_;with_reducible rfl)
 try simp only[Act.put,List.setIfInBounds_toArray,List.set_cons_zero,List.set_cons_succ]
 refine wpAnyH_ready (rs:=[1]) (by kernel_rfl) (by simp) ?_
 refine AllReadyH.cons (o:=⟨some 13,_,_,_,_,_⟩) rfl (fun K hK=>?_) AllReadyH.nil
 go_simp
 go_at_call 185
 refine(HM.out _ hHeld.out.b).mono ?_;rintro e w5 ⟨rfl,b5⟩;have hs:=zH (hHeld.out.call b5);clear b5
 refine hK.out _ _ hs (fun hHeld=>?_)
 clear hK K
 try simp only[ap1,ap2,ap3,ap4,ap5]
 refine wpAnyH_ready (rs:=[4]) (by kernel_rfl) (by simp) ?_
 refine AllReadyH.cons (o:=⟨some 16,_,_,_,_,_⟩) rfl (fun K hK=>?_) AllReadyH.nil
 go_simp
 go_at_call 147
 refine(HC.out _).mono ?_;rintro e w5 ⟨rfl,b5⟩;have hs:=zH (hHeld.out.call b5);clear b5
 refine hK.out _ _ hs (fun hHeld=>?_)
 clear hK K
 try simp only[ap1,ap2,ap3,ap4,ap5]
 refine wpAnyH_ready (rs:=[5]) (by kernel_rfl) (by simp) ?_
 refine AllReadyH.cons (o:=⟨some 17,_,_,_,_,_⟩) rfl (fun K hK=>?_) AllReadyH.nil
 go_simp;have hs:=zH (hHeld.out.allocO (.cells #[.int .i64 em,.int .i64 ek] 23))
 refine hK.out _ _ hs (fun hHeld=>?_)
 clear hK K
 try simp only[ap1,ap2,ap3,ap4,ap5]
 refine wpAnyH_ready (rs:=[6]) (by kernel_rfl) (by simp) ?_
 refine AllReadyH.cons (o:=⟨some 18,_,_,_,_,_⟩) rfl (fun K hK=>?_) AllReadyH.nil
 go_simp
 go_at_call 77
 refine(HOr.out _ _ _ _ _ rfl).mono ?_;rintro e w6 ⟨rfl,rfl⟩;have hs:=hHeld
 refine hK.out _ _ hs (fun hHeld=>?_)
 clear hK K
 try simp only[ap1,ap2,ap3,ap4,ap5]
 refine wpAnyH_take (i:=7) (oi:=⟨some 8,_,_,_,_,_⟩) (v:=?_) rfl (by kernel_rfl) (by kernel_rfl) (by kernel_rfl) (fun _ _ _ h=>h) (Or.inl ⟨by rfl,?_⟩) (by assumption) ?_
 rotate_left
 ·(intro w hSw;(try dsimp only at hSw);go_simp;try with_reducible rfl)
 try simp only[Act.put,List.setIfInBounds_toArray,List.set_cons_zero,List.set_cons_succ]
 refine wpAnyH_done (by kernel_rfl) ?_ _
 rw[HE.out]
 replace HK:=hHeld
 clear hHeld HM HC HOr HE
 generalize World.alloc _ _=w7 at *
 by_cases hz:E=0
 ·subst hz
  replace HFull:=zH (HFull.out rfl)
  replace HOk:=zH (HOk.out rfl)
  clear HBad
  go_wp2_with fail
  refine(HP.out _ HK.out.b).mono ?_;rintro e w1 ⟨A1,n1,c1,A2,n2,c2,A3,n3,c3,rfl,s1,s2,s3,b1⟩
  replace HK:=hkC HK b1
  rw[s1.len,s3.len] at HFull HOk
  have S1:=zH s1
  have S3:=zH s3
  have hb1:=s1.big
  have hb3:=s3.big
  have hsum:wrap64 ((n1:Int)+(n3:Int))=(n1:Int)+(n3:Int):=by unfold wrap64;omega
  clear s1 s2 s3 b1 HP
  by_cases h8:8≤n1+n3
  ·have h82:8≤(n1:Int)+(n3:Int):=by omega
   obtain⟨rfl,rfl⟩:=HFull.out h8
   go_wp2_with (first|(refine wpList_ms1 HK rfl _ rfl rfl ?_;intro w2 g2 HK' _;simp only[lcA,lnA] at HK';replace HK:=HK';clear HK'))
   refine(join1_any HK 1 rfl (HS.out.later HK.out.b)).mono ?_;rintro e w3 ⟨A4,n4,c4,rfl,o4,b4⟩
   replace HK:=zH (HK.out.called b4 o4)
   clear o4 b4
   go_wp2_with fail
   exact ret_t2 Tryz.results163 rfl rfl rfl ⟨A4,n4,c4,rfl,HK.out.own 0 rfl,HK.out.b⟩
  ·have h82:¬8≤(n1:Int)+(n3:Int):=by omega
   obtain⟨rfl,rfl⟩:=HOk.out h8
   go_wp2_with (first|refine wpList_of_exec (by rfl) (kexec_vv HK 0 _ (by rfl) (by rfl) (by rfl)) ?_|(refine wpList_mp1 (p:=⟨key,⟨k,m,f,s⟩⟩) HK rfl _ rfl rfl ?_;intro w2 g2 HK';simp only[lnA] at HK';replace HK:=HK';clear HK')|(refine wpList_ms3 HK rfl _ _ _ rfl rfl rfl rfl ?_;intro w2 g3 HK' _;simp only[lcA,lnA] at HK';replace HK:=HK';clear HK'))
   refine(join3_any HK 1 rfl (S1.out.later HK.out.b) (Sl.own (HK.out.own 0 rfl) HFit.out) (S3.out.later HK.out.b) (by omega)).mono ?_;rintro e w3 ⟨A4,n4,c4,rfl,o4,b4⟩
   replace HK:=zH (HK.out.called b4 o4)
   clear o4 b4
   go_wp2_with fail
   exact ret_t2 Tryz.results163 rfl rfl rfl ⟨A4,n4,c4,rfl,HK.out.own 1 rfl,HK.out.b⟩
 ·obtain⟨rfl,rfl⟩:=HBad.out hz
  have hz2:(X != 0)=true:=by simpa using hz
  clear HBad HFull HOk HP HFit
  go_wp2_with (first|(refine wpList_ms1 HK rfl _ rfl rfl ?_;intro w2 g2 HK' _;simp only[lcA,lnA] at HK';replace HK:=HK';clear HK'))
  refine(join1_any HK 1 rfl (HS.out.later HK.out.b)).mono ?_;rintro e w3 ⟨A4,n4,c4,rfl,o4,b4⟩
  replace HK:=zH (HK.out.called b4 o4)
  clear o4 b4
  go_wp2_with fail
  exact ret_t2 Tryz.results163 rfl rfl rfl ⟨A4,n4,c4,rfl,HK.out.own 0 rfl,HK.out.b⟩
end
section
open Go.RowKit
def IsPVE(r:List Dct.Pr)(v:Val.V)(x:Int)(w:World)(e:Ending)(w':World):Prop:=∃A n c,e=.returned (.tuple #[.slice A n c,vv v,.int .i64 x])∧prLay.Own w.heap.size w' (.slice A n c) r∧Below w.heap.size w w'
theorem cut_any(A:Option Addr)(c n:Nat)(l:List Dct.Pr)(key:ByteArray)(w:World)(hs:Sl w A n c l):
  Calls Tryz.prog 164 #[.slice A n c,.string key] w (IsPVE (Dct.ctL l key) (Dct.gtV l key) (Dct.gtE l key) w):=by
 have HG:=zH (fun W (hW:Below w.heap.size w W)=>get_any A c n l key W (hs.later hW))
 have HS:=zH hs
 unfold Dct.ctL
 by_cases hz:Dct.gtE l key=0
 ·have hu:=(Dct.gt_ok hz).up
  have HW:=zH (fun W (hW:Below w.heap.size w W)=>dwo_any A c n l key W (hs.later hW) hu)
  rw[if_pos hz]
  rw[hz] at HG ⊢
  clear hz hu hs
  generalize Dct.gtV l key=v at *
  generalize Dct.wo l key=r at *
  obtain⟨k,m,f,s⟩:=v
  unfold IsVE IsPVE vv at *
  simp only at HG ⊢
  have HK:=zH (Kn.start w)
  go_enter Tryz.func164,Tryz.ntmps164
  go_wp2_with (first|(refine wpList_akv HK rfl rfl ?_;intro _ g1 HK';simp only[lcA,lnA] at HK';replace HK:=HK';clear HK'))
  refine(HG.out _ HK.out.b).mono ?_;rintro e w1 ⟨rfl,b1⟩
  replace HK:=hkC HK b1
  clear b1
  go_wp2_with (first|(refine wpList_akv HK rfl rfl ?_;intro _ g2 HK';simp only[lcA,lnA] at HK';replace HK:=HK';clear HK')|(refine wpList_sv (f2:=f) HK 1 rfl _ _ rfl rfl rfl rfl ?_;intro _ HK';simp only[List.set] at HK';replace HK:=HK';clear HK'))
  have HK0:=zH HK.out.drew
  clear HG HS
  refine wp_region_held_drew (S:=(fun W=>Hid (Kn w.heap.size w W [(g2,26,vC k m f s)] []))) (by kernel_rfl) ?_ (fun hHeld=>?_)
  ·(try dsimp only);exact zH (HK.out.drew.dropL 1)
  refine wpAnyH_take (i:=0) (oi:=⟨some 22,_,_,_,_,_⟩) (v:=?_) rfl (by kernel_rfl) (by kernel_rfl) (by kernel_rfl) (fun _ _ _ h=>h) (Or.inl ⟨by rfl,?_⟩) (by assumption) ?_
  rotate_left
  ·(intro w hSw;(try dsimp only at hSw);go_simp;try with_reducible rfl)
  try simp only[Act.put,List.setIfInBounds_toArray,List.set_cons_zero,List.set_cons_succ]
  refine wpAnyH_take (i:=1) (oi:=⟨some 23,_,_,_,_,_⟩) (v:=?_) rfl (by kernel_rfl) (by kernel_rfl) (by kernel_rfl) (fun _ _ _ h=>h) (Or.inl ⟨by rfl,?_⟩) (by assumption) ?_
  rotate_left
  ·(intro w hSw;(try dsimp only at hSw);go_simp;try with_reducible rfl)
  try simp only[Act.put,List.setIfInBounds_toArray,List.set_cons_zero,List.set_cons_succ]
  refine wpAnyH_take (i:=3) (oi:=⟨some 25,_,_,_,_,_⟩) (v:=?_) rfl (by kernel_rfl) (by kernel_rfl) (by kernel_rfl) (fun _ _ _ h=>h) (Or.inl ⟨by rfl,?_⟩) (by assumption) ?_
  rotate_left
  ·(intro w hSw;refine Eq.trans (kexec_vv hSw 0 _ (by rfl) (by rfl) (by rfl)) ?_;with_reducible rfl)
  try simp only[Act.put,List.setIfInBounds_toArray,List.set_cons_zero,List.set_cons_succ]
  refine wpAnyH_ready (rs:=[2]) (by kernel_rfl) (by simp) ?_
  refine AllReadyH.cons (o:=⟨some 24,_,_,_,_,_⟩) rfl (fun K hK=>?_) AllReadyH.nil
  go_simp
  go_at_call 188
  refine(HW.out _ hHeld.out.b).mono ?_;rintro e w5 ⟨A4,n4,c4,rfl,o4,b5⟩;have hs:=zH (hHeld.out.call b5);replace HK0:=zH (HK0.out.called b5 o4);clear b5 o4
  refine hK.out _ _ hs (fun hHeld=>?_)
  clear hK K
  try simp only[ap1,ap2,ap3,ap4,ap5]
  refine wpAnyH_take (i:=4) (oi:=⟨some 4,_,_,_,_,_⟩) (v:=?_) rfl (by kernel_rfl) (by kernel_rfl) (by kernel_rfl) (fun _ _ _ h=>h) (Or.inl ⟨by rfl,?_⟩) (by assumption) ?_
  rotate_left
  ·(intro w hSw;(try dsimp only at hSw);go_simp;try with_reducible rfl)
  try simp only[Act.put,List.setIfInBounds_toArray,List.set_cons_zero,List.set_cons_succ]
  refine wpAnyH_ready (rs:=[5]) (by kernel_rfl) (by simp) ?_
  refine AllReadyH.cons (o:=⟨none,_,_,_,_,_⟩) rfl (fun K hK=>?_) AllReadyH.nil
  refine step_sv (f2:=f) HK0 0 (by rfl) _ _ (by rfl) (by rfl) (by rfl) (by rfl) ?_;intro wq HK';simp only[List.set] at HK';replace HK0:=HK';clear HK';have hs:=zH ((HK0.out.dropL 1).takeR 0)
  refine hK.out _ _ hs (fun hHeld=>?_)
  clear hK K
  try simp only[ap1,ap2,ap3,ap4,ap5]
  refine wpAnyH_take (i:=6) (oi:=⟨some 6,_,_,_,_,_⟩) (v:=?_) rfl (by kernel_rfl) (by kernel_rfl) (by kernel_rfl) (fun _ _ _ h=>h) (Or.inl ⟨by rfl,?_⟩) (by assumption) ?_
  rotate_left
  ·(intro w hSw;(try dsimp only at hSw);go_simp;try with_reducible rfl)
  try simp only[Act.put,List.setIfInBounds_toArray,List.set_cons_zero,List.set_cons_succ]
  refine wpAnyH_done (by kernel_rfl) ?_ _
  all_goals
   go_wp2_with fail
   exact ret_pve Tryz.results164 rfl rfl rfl rfl (HK0.out.blk 0 rfl) ⟨A4,n4,c4,rfl,HK0.out.own 0 rfl,HK0.out.b⟩
 ·rw[if_neg hz]
  have hv:=Dct.gt_ne hz
  rw[hv] at HG ⊢
  generalize Dct.gtE l key=X at *
  have hz2:(X != 0)=true:=by simpa using hz
  clear hv hs
  unfold IsVE IsPVE vv Dct.emp at *
  simp only at HG ⊢
  have HK:=zH (Kn.start w)
  go_enter Tryz.func164,Tryz.ntmps164
  go_wp2_with (first|(refine wpList_akv HK rfl rfl ?_;intro _ g1 HK';simp only[lcA,lnA] at HK';replace HK:=HK';clear HK'))
  refine(HG.out _ HK.out.b).mono ?_;rintro e w1 ⟨rfl,b1⟩
  replace HK:=hkC HK b1
  clear b1
  go_wp2_with (first|(refine wpList_akv HK rfl rfl ?_;intro _ g2 HK';simp only[lcA,lnA] at HK';replace HK:=HK';clear HK')|(refine wpList_sv (f2:=0) HK 1 rfl _ _ rfl rfl rfl rfl ?_;intro _ HK';simp only[List.set] at HK';replace HK:=HK';clear HK')|(refine wpList_ms1 HK rfl _ rfl rfl ?_;intro w2 g3 HK' _;simp only[lcA,lnA] at HK';replace HK:=HK';clear HK'))
  refine(join1_any HK 2 rfl (HS.out.later HK.out.b)).mono ?_;rintro e w3 ⟨A4,n4,c4,rfl,o4,b4⟩
  replace HK:=zH (HK.out.called b4 o4)
  clear o4 b4
  go_wp2_with (first|(refine wpList_sv (f2:=0) HK 0 rfl _ _ rfl rfl rfl rfl ?_;intro _ HK';simp only[List.set] at HK';replace HK:=HK';clear HK'))
  exact ret_pve Tryz.results164 rfl rfl rfl rfl (HK.out.blk 0 rfl) ⟨A4,n4,c4,rfl,HK.out.own 0 rfl,HK.out.b⟩
end
section
open Go.RowKit
theorem swap_any(A:Option Addr)(c n:Nat)(l:List Dct.Pr)(key:ByteArray)(o v:Val.V)(w:World)(hs:Sl w A n c l)(hv:v.f<18446744073709551616):
  Calls Tryz.prog 165 #[.slice A n c,.string key,vv o,vv v] w (IsPVE (Dct.swL l key o v) (Dct.swV l key o) (Dct.swE l key o v) w):=by
 have HG:=zH (fun W (hW:Below w.heap.size w W)=>get_any A c n l key W (hs.later hW))
 have HS:=zH hs
 by_cases hr:Dct.Right l
 case neg=>
  obtain⟨e1,e2,e3⟩:=Dct.sw_bad hr key o v
  obtain⟨g1,g2⟩:=Dct.gt_bad hr key
  rw[g1,g2] at HG
  rw[e1,e2,e3]
  clear e1 e2 e3 g1 g2 hr hs
  obtain⟨ok,om,of,os⟩:=o
  obtain⟨vk,vm,vf,vs⟩:=v
  unfold IsVE IsPVE vv Dct.emp at *
  simp only at HG ⊢
  have HK:=kn2 w 26 (vC ok om of os) 26 (vC vk vm vf vs)
  unfold vC at HK
  go_enter Tryz.func165,Tryz.ntmps165
  go_wp2_with (first|(refine wpList_akv HK rfl rfl ?_;intro _ ga HK';simp only[lcA,lnA] at HK';replace HK:=HK';clear HK'))
  refine(HG.out _ HK.out.b).mono ?_;rintro e w1 ⟨rfl,b1⟩
  replace HK:=hkC HK b1
  clear b1
  go_wp2_with (first|(refine wpList_akv HK rfl rfl ?_;intro _ gb HK';simp only[lcA,lnA] at HK';replace HK:=HK';clear HK')|(refine wpList_sv (f2:=0) HK 3 rfl _ _ rfl rfl rfl rfl ?_;intro _ HK';simp only[List.set] at HK';replace HK:=HK';clear HK')|(refine wpList_ms1 HK rfl _ rfl rfl ?_;intro w2 g3 HK' _;simp only[lcA,lnA] at HK';replace HK:=HK';clear HK'))
  refine(join1_any HK 4 rfl (HS.out.later HK.out.b)).mono ?_;rintro e w3 ⟨A4,n4,c4,rfl,o4,b4⟩
  replace HK:=zH (HK.out.called b4 o4)
  clear o4 b4
  go_wp2_with (first|(refine wpList_sv (f2:=0) HK 2 rfl _ _ rfl rfl rfl rfl ?_;intro _ HK';simp only[List.set] at HK';replace HK:=HK';clear HK'))
  exact ret_pve Tryz.results165 rfl rfl rfl rfl (HK.out.blk 2 rfl) ⟨A4,n4,c4,rfl,HK.out.own 0 rfl,HK.out.b⟩
 case pos=>
 have hnb:=Dct.gt_nb hr key
 by_cases ho:Dct.gtV l key=o
 case neg=>
  obtain⟨e1,e2,e3⟩:=Dct.sw_unlike hr v ho
  rw[e1,e2,e3]
  clear e1 e2 e3 hr hs
  generalize Dct.gtV l key=t at *
  generalize Dct.gtE l key=X at *
  have hne:=zH (show(!decide (t=o))=true by rw[decide_eq_false ho];rfl)
  clear ho
  have hx2:(X==1)=false:=by simpa using hnb
  obtain⟨ok,om,of,os⟩:=o
  obtain⟨vk,vm,vf,vs⟩:=v
  obtain⟨tk,tm,tf,ts⟩:=t
  unfold IsVE IsPVE vv at *
  simp only at HG ⊢
  have HK:=kn2 w 26 (vC ok om of os) 26 (vC vk vm vf vs)
  unfold vC at HK
  go_enter Tryz.func165,Tryz.ntmps165
  go_wp2_with (first|(refine wpList_akv HK rfl rfl ?_;intro _ ga HK';simp only[lcA,lnA] at HK';replace HK:=HK';clear HK'))
  refine(HG.out _ HK.out.b).mono ?_;rintro e w1 ⟨rfl,b1⟩
  replace HK:=hkC HK b1
  clear b1
  go_wp2_with (first|(refine wpList_akv HK rfl rfl ?_;intro _ gb HK';simp only[lcA,lnA] at HK';replace HK:=HK';clear HK')|(refine wpList_sv (f2:=tf) HK 3 rfl _ _ rfl rfl rfl rfl ?_;intro _ HK';simp only[List.set] at HK';replace HK:=HK';clear HK')|refine wpList_of_exec (by rfl) (kexec_vv HK 3 _ (by rfl) (by rfl) (by rfl)) ?_|refine wpList_of_exec (by rfl) (kexec_vv HK 0 _ (by rfl) (by rfl) (by rfl)) ?_|refine wpList_of_exec (by rfl) (exec_vne (v:=⟨tk,tm,tf,ts⟩) (u:=⟨ok,om,of,os⟩) _ _ (by rfl) (by rfl) (by rfl) hne.out) ?_)
  have HK0:=zH HK.out.drew
  refine wp_region_held_drew (S:=(fun W=>Hid (Kn w.heap.size w W [(gb,26,vC tk tm tf ts)] []))) (by kernel_rfl) ?_ (fun hHeld=>?_)
  ·(try dsimp only);exact zH (HK.out.drew.dropL 3)
  refine wpAnyH_take (i:=0) (oi:=⟨some 32,_,_,_,_,_⟩) (v:=?_) rfl (by kernel_rfl) (by kernel_rfl) (by kernel_rfl) (fun _ _ _ h=>h) (Or.inl ⟨by rfl,?_⟩) (by assumption) ?_
  rotate_left
  ·(intro w hSw;(try dsimp only at hSw);go_simp;try with_reducible rfl)
  try simp only[Act.put,List.setIfInBounds_toArray,List.set_cons_zero,List.set_cons_succ]
  refine wpAnyH_take (i:=3) (oi:=⟨some 35,_,_,_,_,_⟩) (v:=?_) rfl (by kernel_rfl) (by kernel_rfl) (by kernel_rfl) (fun _ _ _ h=>h) (Or.inl ⟨by rfl,?_⟩) (by assumption) ?_
  rotate_left
  ·(intro w hSw;refine Eq.trans (kexec_vv hSw 0 _ (by rfl) (by rfl) (by rfl)) ?_;with_reducible rfl)
  try simp only[Act.put,List.setIfInBounds_toArray,List.set_cons_zero,List.set_cons_succ]
  refine wpAnyH_ready (rs:=[1]) (by kernel_rfl) (by simp) ?_
  refine AllReadyH.cons (o:=⟨some 33,_,_,_,_,_⟩) rfl (fun K hK=>?_) AllReadyH.nil
  refine step_ms1 HK0 (by rfl) _ (by rfl) (by rfl) ?_;intro w2 g3 HK' bb;simp only[lcA,lnA] at HK';have hs:=zH (hHeld.out.call bb.out);replace HK0:=HK';clear HK' bb
  refine hK.out _ _ hs (fun hHeld=>?_)
  clear hK K
  try simp only[ap1,ap2,ap3,ap4,ap5]
  refine wpAnyH_ready (rs:=[2]) (by kernel_rfl) (by simp) ?_
  refine AllReadyH.cons (o:=⟨some 34,_,_,_,_,_⟩) rfl (fun K hK=>?_) AllReadyH.nil
  go_simp
  go_at_call 187
  refine(join1_any HK0 4 rfl (HS.out.later HK0.out.b)).mono ?_;rintro e w5 ⟨A4,n4,c4,rfl,o4,b5⟩;have hs:=zH (hHeld.out.call b5);replace HK0:=zH (HK0.out.called b5 o4);clear b5 o4
  refine hK.out _ _ hs (fun hHeld=>?_)
  clear hK K
  try simp only[ap1,ap2,ap3,ap4,ap5]
  refine wpAnyH_take (i:=4) (oi:=⟨some 8,_,_,_,_,_⟩) (v:=?_) rfl (by kernel_rfl) (by kernel_rfl) (by kernel_rfl) (fun _ _ _ h=>h) (Or.inl ⟨by rfl,?_⟩) (by assumption) ?_
  rotate_left
  ·(intro w hSw;(try dsimp only at hSw);go_simp;try with_reducible rfl)
  try simp only[Act.put,List.setIfInBounds_toArray,List.set_cons_zero,List.set_cons_succ]
  refine wpAnyH_ready (rs:=[5]) (by kernel_rfl) (by simp) ?_
  refine AllReadyH.cons (o:=⟨none,_,_,_,_,_⟩) rfl (fun K hK=>?_) AllReadyH.nil
  refine step_sv (f2:=tf) HK0 2 (by rfl) _ _ (by rfl) (by rfl) (by rfl) (by rfl) ?_;intro wq HK';simp only[List.set] at HK';replace HK0:=HK';clear HK';have hs:=zH (((HK0.out.dropL 3).takeL 1).takeR 0)
  refine hK.out _ _ hs (fun hHeld=>?_)
  clear hK K
  try simp only[ap1,ap2,ap3,ap4,ap5]
  refine wpAnyH_take (i:=6) (oi:=⟨some 10,_,_,_,_,_⟩) (v:=?_) rfl (by kernel_rfl) (by kernel_rfl) (by kernel_rfl) (fun _ _ _ h=>h) (Or.inl ⟨by rfl,?_⟩) (by assumption) ?_
  rotate_left
  ·(intro w hSw;(try dsimp only at hSw);go_simp;try with_reducible rfl)
  try simp only[Act.put,List.setIfInBounds_toArray,List.set_cons_zero,List.set_cons_succ]
  refine wpAnyH_done (by kernel_rfl) ?_ _
  all_goals
   go_wp2_with fail
   exact ret_pve Tryz.results165 rfl rfl rfl rfl (HK0.out.blk 2 rfl) ⟨A4,n4,c4,rfl,HK0.out.own 0 rfl,HK0.out.b⟩
 case pos=>
 by_cases hve:v=Dct.emp
 case pos=>
  obtain⟨e1,e2,e3⟩:=Dct.sw_cut hr ho
  have HW:=zH (fun W (hW:Below w.heap.size w W)=>dwo_any A c n l key W (hs.later hW) hr.up)
  rw[hve,e1,e2,e3]
  rw[ho] at HG
  clear e1 e2 e3 hr hs ho
  generalize Dct.gtE l key=X at *
  generalize Dct.wo l key=r at *
  have hne:=zH (show(!decide (o=o))=false by simp)
  have hve2:=zH (show decide ((⟨0,0,0,⟨#[]⟩⟩:Val.V)=⟨0,0,0,⟨#[]⟩⟩)=true by simp)
  clear hve
  have hx2:(X==1)=false:=by simpa using hnb
  obtain⟨ok,om,of,os⟩:=o
  unfold IsVE IsPVE vv Dct.emp at *
  simp only at HG ⊢
  have HK:=kn2 w 26 (vC ok om of os) 26 (vC 0 0 0 ⟨#[]⟩)
  unfold vC at HK
  go_enter Tryz.func165,Tryz.ntmps165
  go_wp2_with (first|(refine wpList_akv HK rfl rfl ?_;intro _ ga HK';simp only[lcA,lnA] at HK';replace HK:=HK';clear HK'))
  refine(HG.out _ HK.out.b).mono ?_;rintro e w1 ⟨rfl,b1⟩
  replace HK:=hkC HK b1
  clear b1
  go_wp2_with (first|(refine wpList_akv HK rfl rfl ?_;intro _ gb HK';simp only[lcA,lnA] at HK';replace HK:=HK';clear HK')|(refine wpList_sv (f2:=of) HK 3 rfl _ _ rfl rfl rfl rfl ?_;intro _ HK';simp only[List.set] at HK';replace HK:=HK';clear HK')|refine wpList_of_exec (by rfl) (kexec_vv HK 3 _ (by rfl) (by rfl) (by rfl)) ?_|refine wpList_of_exec (by rfl) (kexec_vv HK 0 _ (by rfl) (by rfl) (by rfl)) ?_|refine wpList_of_exec (by rfl) (kexec_vv HK 1 _ (by rfl) (by rfl) (by rfl)) ?_|refine wpList_of_exec (by rfl) (exec_vne (v:=⟨ok,om,of,os⟩) (u:=⟨ok,om,of,os⟩) _ _ (by rfl) (by rfl) (by rfl) hne.out) ?_|refine wpList_of_exec (by rfl) (exec_veq (v:=⟨0,0,0,⟨#[]⟩⟩) (u:=⟨0,0,0,⟨#[]⟩⟩) _ _ (by rfl) (by rfl) (by rfl) hve2.out) ?_)
  refine(HW.out _ HK.out.b).mono ?_;rintro e w3 ⟨A4,n4,c4,rfl,o4,b4⟩
  replace HK:=zH (HK.out.called b4 o4)
  clear o4 b4
  go_wp2_with (first|(refine wpList_sv (f2:=0) HK 2 rfl _ _ rfl rfl rfl rfl ?_;intro _ HK';simp only[List.set] at HK';replace HK:=HK';clear HK'))
  exact ret_pve Tryz.results165 rfl rfl rfl rfl (HK.out.blk 2 rfl) ⟨A4,n4,c4,rfl,HK.out.own 0 rfl,HK.out.b⟩
 case neg=>
  obtain⟨e1,e2,e3⟩:=Dct.sw_put hr ho hve
  have HP:=zH (fun W (hW:Below w.heap.size w W)=>put_any A c n l key v W (hs.later hW) hv)
  rw[e1,e2,e3]
  rw[ho] at HG
  clear e1 e2 e3 hr hs ho hv
  generalize Dct.gtE l key=X at *
  generalize Dct.ptE l key v=y at *
  generalize Dct.ptL l key v=r at *
  have hne:=zH (show(!decide (o=o))=false by simp)
  have hve2:=zH (show decide (v=⟨0,0,0,⟨#[]⟩⟩)=false from decide_eq_false hve)
  clear hve
  have hx2:(X==1)=false:=by simpa using hnb
  obtain⟨ok,om,of,os⟩:=o
  obtain⟨vk,vm,vf,vs⟩:=v
  unfold IsVE IsPVE IsPE vv Dct.emp at *
  simp only at HG HP ⊢
  have HK:=kn2 w 26 (vC ok om of os) 26 (vC vk vm vf vs)
  unfold vC at HK
  go_enter Tryz.func165,Tryz.ntmps165
  go_wp2_with (first|(refine wpList_akv HK rfl rfl ?_;intro _ ga HK';simp only[lcA,lnA] at HK';replace HK:=HK';clear HK'))
  refine(HG.out _ HK.out.b).mono ?_;rintro e w1 ⟨rfl,b1⟩
  replace HK:=hkC HK b1
  clear b1
  go_wp2_with (first|(refine wpList_akv HK rfl rfl ?_;intro _ gb HK';simp only[lcA,lnA] at HK';replace HK:=HK';clear HK')|(refine wpList_sv (f2:=of) HK 3 rfl _ _ rfl rfl rfl rfl ?_;intro _ HK';simp only[List.set] at HK';replace HK:=HK';clear HK')|refine wpList_of_exec (by rfl) (kexec_vv HK 3 _ (by rfl) (by rfl) (by rfl)) ?_|refine wpList_of_exec (by rfl) (kexec_vv HK 0 _ (by rfl) (by rfl) (by rfl)) ?_|refine wpList_of_exec (by rfl) (kexec_vv HK 1 _ (by rfl) (by rfl) (by rfl)) ?_|refine wpList_of_exec (by rfl) (exec_vne (v:=⟨ok,om,of,os⟩) (u:=⟨ok,om,of,os⟩) _ _ (by rfl) (by rfl) (by rfl) hne.out) ?_|refine wpList_of_exec (by rfl) (exec_veq (v:=⟨vk,vm,vf,vs⟩) (u:=⟨0,0,0,⟨#[]⟩⟩) _ _ (by rfl) (by rfl) (by rfl) hve2.out) ?_)
  refine(HP.out _ HK.out.b).mono ?_;rintro e w3 ⟨A4,n4,c4,rfl,o4,b4⟩
  replace HK:=zH (HK.out.called b4 o4)
  clear o4 b4
  go_wp2_with (first|(refine wpList_sv (f2:=0) HK 2 rfl _ _ rfl rfl rfl rfl ?_;intro _ HK';simp only[List.set] at HK';replace HK:=HK';clear HK'))
  exact ret_pve Tryz.results165 rfl rfl rfl rfl (HK.out.blk 2 rfl) ⟨A4,n4,c4,rfl,HK.out.own 0 rfl,HK.out.b⟩
end
section
open Go.RowKit
theorem qjoin_any:Joins Tryz.prog 190 vaLay vF:=by
 intro g m ps w hm hb hg hc hs ht
 replace ht:(catP ps).length*40≤140737488355328:=ht
 have HGo:Hid (∀k,k<m→∃p,ps[k]?=some p∧Sls vaLay vF w p.A p.n p.c p.l∧∀W,Below w.heap.size w W→W.cell? ⟨g,k,none⟩=some (.slice p.A p.n p.c)):=zH fun k hk=>by
  obtain⟨p,hp⟩:=Lay.get_of (l:=ps) (k:=k) (by rw[hm];exact hk)
  exact⟨p,hp,hs p (List.mem_of_getElem? hp),fun W hW=>(hW.cell (p:=⟨g,k,none⟩) hg).trans (hc k p hp)⟩
 have HLen:Hid (∀k,(catP (ps.take k)).length*40≤140737488355328):=zH fun k=>Nat.le_trans (Nat.mul_le_mul_right _ (catP_le ps k)) ht
 have HTake:Hid (ps.take m=ps):=zH (by rw[← hm];exact List.take_length)
 clear hc hs ht hm hg
 have HK:=zH (Kn.start w)
 go_enter Tryz.func190,Tryz.ntmps190
 go_wp2_with (first|(refine wpList_mk0 vaLay HK rfl rfl ?_;intro _ g2 HK';simp only[lnA] at HK';replace HK:=HK';clear HK'))
 go_loopw [3,9] (fun vs vi wr=>∃(k:Nat) (A1:Option Addr) (c1 N:Nat),k≤m∧vs=.slice A1 N c1∧vi=.int .i64 k∧Hid ((catP (ps.take k)).length=N)∧Hid (Kn w.heap.size w wr [] [row vaLay (.slice A1 N c1) (catP (ps.take k))])) (fun _ vi _=>m-(intOf vi).toNat)
 case atStart=>exact⟨0,_,_,0,Nat.zero_le _,rfl,rfl,zH rfl,HK⟩
 case round=>
  clear HK
  obtain⟨k,A1,c1,N,hk,rfl,rfl,hN,HK⟩:=hrel
  by_cases hlt:k<m
  ·obtain⟨p,hp,hsl,hcell⟩:=HGo.out k hlt
   have HC:=zH hcell
   have hlen:=HLen.out (k+1)
   have he:=catP_more hp
   rw[he,List.length_append,hN.out] at hlen
   have HE:=zH he
   have HSl:=zH hsl
   have HPl:Hid (p.n=p.l.length):=zH hsl.len.symm
   have HL:Hid ((catP (ps.take k)).length+p.l.length≤9223372036854775807∧((catP (ps.take k)).length+p.l.length)*Lay.bytes vaLay≤211106232532992):=zH ⟨by rw[hN.out];omega,by show _*40≤_;rw[hN.out];omega⟩
   have HN2:Hid ((catP (ps.take k)++p.l).length=N+p.l.length):=zH (by rw[List.length_append,hN.out])
   clear hlen he hcell hsl hp
   have hk1:(0:Int)≤(k:Int):=by omega
   have hk2:(k:Int)<(m:Int):=by omega
   obtain⟨Ap,np,cp,lp⟩:=p
   simp only at HC HSl HL HN2 HE HPl
   have HR:Hid (Lay.Reads vaLay wr wr.heap.size Ap lp∧(Ap=none→lp=[])):=zH (let h:=HSl.out.later HK.out.b;⟨h.rd,h.nl⟩)
   go_wp2_with (first|refine wpList_of_exec (v:=.slice Ap np cp) (by rfl) (exec_cell _ (by rfl) (by rfl) (HC.out _ HK.out.b) Tryz.underlying55 rfl) ?_|(at_builtin;refine wpList_kmore HK vaLay 0 rfl _ _ rfl rfl rfl lp rfl HPl.out HR HL (N:=N+lp.length) HN2 ?_;intro A4 c4 _ HK';simp only[List.set] at HK';replace HK:=HK';clear HK'))
   refine⟨⟨k+1,A4,c4,N+lp.length,by omega,rfl,by go_num,zH (by rw[HE.out,HN2.out]),?_⟩,by simp[intOf];omega⟩
   rw[HE.out]
   exact HK
  ·obtain rfl:k=m:=by omega
   rw[HTake.out] at HK hN
   obtain rfl:=hN.out
   go_wp2_with fail
   go_ret
   exact⟨A1,_,c1,rfl,HK.out.own 0 rfl,HK.out.b⟩
end
end Go.Proofs.YtddpmlcpfmmbeaaGreat
