/- What meter's Read returns. No condition but those named. -/
import Derived.Test.YtddpmlcpfmmbeaaGreatTk
import Derived.Test.YtddpmlcpfmmbeaaGreatKAQ
import Derived.Test.YtddpmlcpfmmbeaaGreatKAZ
import Derived.Test.YtddpmlcpfmmbeaaGreatKAO
import Derived.Test.YtddpmlcpfmmbeaaGreatKAR
set_option linter.unusedSimpArgs false
set_option linter.unusedVariables false
set_option maxRecDepth 100000
set_option maxHeartbeats 25600000
namespace Go.Proofs.YtddpmlcpfmmbeaaGreat
section
open Go.RowKit
theorem push_any(N:Int)(A:Option Addr)(c n:Nat)(l:List Val.V)(v:Val.V)(w:World)(hs:Sls vaLay vF w A n c l)(hv:vF v):
  Calls Tryz.prog 166 #[.int .i64 N,.slice A n c,vv v] w (IsLEg vaLay (Que.psL N l v) (Que.psE N l v) w):=by
 have HM:=zH (fun W (hW:Below w.heap.size w W)=>qchk_any N A c n l W (hs.later hW))
 have HC:=zH (fun W=>vchk_any v W hv)
 have HS:=zH hs
 have HJ:=zH qjoin_any
 have HOr:=zH (fun a b W t g hg=>or2a_any a b W t g hg)
 have hlen:=hs.len
 have HBad:Hid (¬nz2 (Que.qchk N l) (Que.vchk v)=0→Que.psE N l v=nz2 (Que.qchk N l) (Que.vchk v)∧Que.psL N l v=l):=zH fun h=>by
  by_cases hr:Que.Right N l
  ·rw[Que.qchk_ok hr] at h ⊢
   exact Que.ps_chk hr h
  ·rw[Que.qchk_bad hr] at h ⊢
   exact Que.ps_bad hr v
 have HGood:Hid (nz2 (Que.qchk N l) (Que.vchk v)=0→Que.Right N l∧Que.vchk v=0):=zH fun h=>by
  by_cases hr:Que.Right N l
  ·rw[Que.qchk_ok hr] at h;exact⟨hr,h⟩
  ·rw[Que.qchk_bad hr] at h;cases h
 have HFull:Hid (nz2 (Que.qchk N l) (Que.vchk v)=0→(n:Int)=N→Que.psE N l v=6∧Que.psL N l v=l):=zH fun h h8=>by
  obtain⟨hr,hk⟩:=HGood.out h
  exact Que.ps_full hr hk (by rw[hlen];exact h8)
 have HOk:Hid (nz2 (Que.qchk N l) (Que.vchk v)=0→¬(n:Int)=N→n≤8∧Que.psE N l v=0∧Que.psL N l v=l++[v]):=zH fun h h8=>by
  obtain⟨hr,hk⟩:=HGood.out h
  have h1:=hr.len
  have h2:=hr.hi
  rw[hlen] at h1
  exact⟨by omega,Que.ps_ok hr hk (by rw[hlen];exact h8)⟩
 have HFit:Hid (Fits vaLay vF [v]):=zH ⟨fun x hx=>by rw[List.mem_singleton] at hx;subst hx;exact hv,by show 1*40≤_;decide⟩
 clear hs hv HGood hlen
 generalize Que.psE N l v=X at *
 generalize Que.psL N l v=r at *
 generalize hE:nz2 (Que.qchk N l) (Que.vchk v)=E at *
 have HE:=zH hE
 clear hE
 generalize Que.qchk N l=em at *
 generalize Que.vchk v=ek at *
 obtain⟨k,m,f,s⟩:=v
 unfold vv IsE IsLEg at *
 simp only at HC ⊢
 have HK:=kn1 w 26 (vC k m f s)
 unfold vC at HK
 go_enter Tryz.func166,Tryz.ntmps166
 go_wp2_with fail
 refine wp_region_held_drew (S:=(fun W=>Hid (Kn w.heap.size w W [(w.heap.size,26,#[.int .i64 k,.int .i64 m,.int .u64 (f:Int),.string s])] []))) (by kernel_rfl) ?_ (fun hHeld=>?_)
 ·(try dsimp only);exact zH HK.out.drew
 refine wpAnyH_take (i:=0) (oi:=⟨some 9,_,_,_,_,_⟩) (v:=?_) rfl (by kernel_rfl) (by kernel_rfl) (by kernel_rfl) (fun _ _ _ h=>h) (Or.inl ⟨by rfl,?_⟩) (by assumption) ?_
 rotate_left
 ·(intro w hSw;(try dsimp only at hSw);go_simp;try with_reducible rfl)
 try simp only[Act.put,List.setIfInBounds_toArray,List.set_cons_zero,List.set_cons_succ]
 refine wpAnyH_take (i:=1) (oi:=⟨some 10,_,_,_,_,_⟩) (v:=?_) rfl (by kernel_rfl) (by kernel_rfl) (by kernel_rfl) (fun _ _ _ h=>h) (Or.inl ⟨by rfl,?_⟩) (by assumption) ?_
 rotate_left
 ·(intro w hSw;(try dsimp only at hSw);go_simp;try with_reducible rfl)
 try simp only[Act.put,List.setIfInBounds_toArray,List.set_cons_zero,List.set_cons_succ]
 refine wpAnyH_take (i:=3) (oi:=⟨some 12,_,_,_,_,_⟩) (v:=?_) rfl (by kernel_rfl) (by kernel_rfl) (by kernel_rfl) (fun _ _ _ h=>h) (Or.inl ⟨by rfl,?_⟩) (by assumption) ?_
 rotate_left
 ·(intro w hSw;refine Eq.trans (kexec_vv hSw 0 _ (by rfl) (by rfl) (by rfl)) ?_;with_reducible rfl)
 try simp only[Act.put,List.setIfInBounds_toArray,List.set_cons_zero,List.set_cons_succ]
 refine wpAnyH_ready (rs:=[2]) (by kernel_rfl) (by simp) ?_
 refine AllReadyH.cons (o:=⟨some 11,_,_,_,_,_⟩) rfl (fun K hK=>?_) AllReadyH.nil
 go_simp
 go_at_call 189
 refine(HM.out _ hHeld.out.b).mono ?_;rintro e w5 ⟨rfl,b5⟩;have hs:=zH (hHeld.out.call b5);clear b5
 refine hK.out _ _ hs (fun hHeld=>?_)
 clear hK K
 try simp only[ap1,ap2,ap3,ap4,ap5]
 refine wpAnyH_ready (rs:=[4]) (by kernel_rfl) (by simp) ?_
 refine AllReadyH.cons (o:=⟨some 13,_,_,_,_,_⟩) rfl (fun K hK=>?_) AllReadyH.nil
 go_simp
 go_at_call 148
 refine(HC.out _).mono ?_;rintro e w5 ⟨rfl,b5⟩;have hs:=zH (hHeld.out.call b5);clear b5
 refine hK.out _ _ hs (fun hHeld=>?_)
 clear hK K
 try simp only[ap1,ap2,ap3,ap4,ap5]
 refine wpAnyH_ready (rs:=[5]) (by kernel_rfl) (by simp) ?_
 refine AllReadyH.cons (o:=⟨some 14,_,_,_,_,_⟩) rfl (fun K hK=>?_) AllReadyH.nil
 go_simp;have hs:=zH (hHeld.out.allocO (.cells #[.int .i64 em,.int .i64 ek] 23))
 refine hK.out _ _ hs (fun hHeld=>?_)
 clear hK K
 try simp only[ap1,ap2,ap3,ap4,ap5]
 refine wpAnyH_ready (rs:=[6]) (by kernel_rfl) (by simp) ?_
 refine AllReadyH.cons (o:=⟨some 15,_,_,_,_,_⟩) rfl (fun K hK=>?_) AllReadyH.nil
 go_simp
 go_at_call 77
 refine(HOr.out _ _ _ _ _ rfl).mono ?_;rintro e w6 ⟨rfl,rfl⟩;have hs:=hHeld
 refine hK.out _ _ hs (fun hHeld=>?_)
 clear hK K
 try simp only[ap1,ap2,ap3,ap4,ap5]
 refine wpAnyH_take (i:=7) (oi:=⟨some 8,_,_,_,_,_⟩) (v:=?_) rfl (by kernel_rfl) (by kernel_rfl) (by kernel_rfl) (fun _ _ _ h=>h) (Or.inl ⟨by rfl,?_⟩) (by assumption) ?_
 rotate_left
 ·(intro w hSw;(try dsimp only at hSw);go_simp;try with_reducible rfl)
 try simp only[Act.put,List.setIfInBounds_toArray,List.set_cons_zero,List.set_cons_succ]
 refine wpAnyH_done (by kernel_rfl) ?_ _
 rw[HE.out]
 replace HK:=hHeld
 clear hHeld HM HC HOr HE
 generalize World.alloc _ _=w7 at *
 by_cases hz:E=0
 ·subst hz
  replace HFull:=zH (HFull.out rfl)
  replace HOk:=zH (HOk.out rfl)
  clear HBad
  by_cases h8:(n:Int)=N
  ·have h82:((n:Int)==N)=true:=by simpa using h8
   obtain⟨rfl,rfl⟩:=HFull.out h8
   clear h8
   go_wp2_with (first|(refine wpList_mks1 vaLay vaNest HK rfl _ rfl rfl ?_;intro w2 g2 HK' _;simp only[lcA,lnA] at HK';replace HK:=HK';clear HK'))
   refine(HJ.out.one HK 1 rfl (HS.out.later HK.out.b)).mono ?_;rintro e w3 ⟨A4,n4,c4,rfl,o4,b4⟩
   replace HK:=zH (HK.out.called b4 o4)
   clear o4 b4
   go_wp2_with fail
   exact ret_t2 Tryz.results166 rfl rfl rfl ⟨A4,n4,c4,rfl,HK.out.own 0 rfl,HK.out.b⟩
  ·have h82:((n:Int)==N)=false:=by simpa using h8
   obtain⟨hn8,rfl,rfl⟩:=HOk.out h8
   clear h8
   go_wp2_with (first|refine wpList_of_exec (by rfl) (kexec_vv HK 0 _ (by rfl) (by rfl) (by rfl)) ?_|(refine wpList_mk1 vaLay (p:=⟨k,m,f,s⟩) HK (by decide) rfl _ rfl rfl rfl ?_;intro w2 g2 HK';simp only[lnA] at HK';replace HK:=HK';clear HK')|(refine wpList_mks2 vaLay vaNest HK rfl _ _ rfl rfl rfl ?_;intro w2 g3 HK' _;simp only[lcA,lnA] at HK';replace HK:=HK';clear HK'))
   refine(HJ.out.two HK 1 rfl (HS.out.later HK.out.b) (Sls.own (HK.out.own 0 rfl) HFit.out) (by show(n+1)*40≤_;omega)).mono ?_;rintro e w3 ⟨A4,n4,c4,rfl,o4,b4⟩
   replace HK:=zH (HK.out.called b4 o4)
   clear o4 b4
   go_wp2_with fail
   exact ret_t2 Tryz.results166 rfl rfl rfl ⟨A4,n4,c4,rfl,HK.out.own 1 rfl,HK.out.b⟩
 ·obtain⟨rfl,rfl⟩:=HBad.out hz
  have hz2:(X != 0)=true:=by simpa using hz
  clear HBad HFull HOk HFit
  go_wp2_with (first|(refine wpList_mks1 vaLay vaNest HK rfl _ rfl rfl ?_;intro w2 g2 HK' _;simp only[lcA,lnA] at HK';replace HK:=HK';clear HK'))
  refine(HJ.out.one HK 1 rfl (HS.out.later HK.out.b)).mono ?_;rintro e w3 ⟨A4,n4,c4,rfl,o4,b4⟩
  replace HK:=zH (HK.out.called b4 o4)
  clear o4 b4
  go_wp2_with fail
  exact ret_t2 Tryz.results166 rfl rfl rfl ⟨A4,n4,c4,rfl,HK.out.own 0 rfl,HK.out.b⟩
def IsQP(r:List Val.V)(v:Val.V)(x:Int)(w:World)(e:Ending)(w':World):Prop:=∃A n c,e=.returned (.tuple #[.slice A n c,vv v,.int .i64 x])∧vaLay.Own w.heap.size w' (.slice A n c) r∧Below w.heap.size w w'
theorem pop_any(N:Int)(A:Option Addr)(c n:Nat)(l:List Val.V)(w:World)(hs:Sls vaLay vF w A n c l):
  Calls Tryz.prog 167 #[.int .i64 N,.slice A n c] w (IsQP (Que.ppL N l) (Que.ppV N l) (Que.ppE N l) w):=by
 have HM:=zH (fun W (hW:Below w.heap.size w W)=>qchk_any N A c n l W (hs.later hW))
 have HS:=zH hs
 have HJ:=zH qjoin_any
 have hlen:=hs.len
 have HK:=zH (Kn.start w)
 by_cases hr:Que.Right N l
 case neg=>
  rw[Que.qchk_bad hr] at HM
  obtain⟨e1,e2,e3⟩:=Que.pp_bad hr
  rw[e1,e2,e3]
  clear e1 e2 e3 hr hs hlen
  unfold Que.emp IsQP IsE vv at *
  simp only
  go_enter Tryz.func167,Tryz.ntmps167
  go_wp2_with (first|(refine wpList_akv HK rfl rfl ?_;intro _ g1 HK';simp only[lcA,lnA] at HK';replace HK:=HK';clear HK'))
  refine(HM.out _ HK.out.b).mono ?_;rintro e w1 ⟨rfl,b1⟩
  replace HK:=hkC HK b1;clear b1
  go_wp2_with (first|(refine wpList_mks1 vaLay vaNest HK rfl _ rfl rfl ?_;intro w2 g2 HK' _;simp only[lcA,lnA] at HK';replace HK:=HK';clear HK'))
  refine(HJ.out.one HK 1 rfl (HS.out.later HK.out.b)).mono ?_;rintro e w3 ⟨A4,n4,c4,rfl,o4,b4⟩
  replace HK:=zH (HK.out.called b4 o4)
  clear o4 b4
  go_wp2_with (first|(refine wpList_sv (f2:=0) HK 0 rfl _ _ rfl rfl rfl rfl ?_;intro _ HK';simp only[List.set] at HK';replace HK:=HK';clear HK'))
  exact ret_pve Tryz.results167 rfl rfl rfl rfl (HK.out.blk 0 rfl) ⟨A4,n4,c4,rfl,HK.out.own 0 rfl,HK.out.b⟩
 case pos=>
 rw[Que.qchk_ok hr] at HM
 have h9:n<9:=by have h1:=hr.len;have h2:=hr.hi;omega
 by_cases h0:n=0
 ·subst h0
  obtain⟨e1,e2,e3⟩:=Que.pp_none hr hlen
  rw[e1,e2,e3]
  clear e1 e2 e3 hr hs hlen h9
  unfold Que.emp IsQP IsE vv at *
  simp only
  go_enter Tryz.func167,Tryz.ntmps167
  go_wp2_with (first|(refine wpList_akv HK rfl rfl ?_;intro _ g1 HK';simp only[lcA,lnA] at HK';replace HK:=HK';clear HK'))
  refine(HM.out _ HK.out.b).mono ?_;rintro e w1 ⟨rfl,b1⟩
  replace HK:=hkC HK b1;clear b1
  go_wp2_with (first|(refine wpList_sv (f2:=0) HK 0 rfl _ _ rfl rfl rfl rfl ?_;intro _ HK';simp only[List.set] at HK';replace HK:=HK';clear HK'))
  exact ret_pve Tryz.results167 rfl rfl rfl rfl (HK.out.blk 0 rfl) ⟨_,_,_,rfl,Lay.Own.none _ _,HK.out.b⟩
 ·have hpos:0<n:=by omega
  obtain⟨x,hx,hf⟩:=hs.get hpos
  obtain⟨b,o,rfl,hat⟩:=hs.at hpos
  obtain⟨e1,e2,e3⟩:=Que.pp_ok hr hx
  rw[e1,e2,e3]
  have HX:=zH (fun W hW=>hat W hW 0 x hx)
  have HD:=zH (hs.drop (lo:=1) hpos)
  have hz:((n:Int)==0)=false:=by simp;omega
  clear e1 e2 e3 hr hs hlen h9 h0 hat hx hf
  obtain⟨k,m,f,s⟩:=x
  unfold IsQP IsE vv at *
  simp only
  go_enter Tryz.func167,Tryz.ntmps167
  go_wp2_with (first|(refine wpList_akv HK rfl rfl ?_;intro _ g1 HK';simp only[lcA,lnA] at HK';replace HK:=HK';clear HK'))
  refine(HM.out _ HK.out.b).mono ?_;rintro e w1 ⟨rfl,b1⟩
  replace HK:=hkC HK b1;clear b1
  go_wp2_with fail
  have HK0:=zH HK.out.drew
  clear HM HS
  refine wp_region_held_drew (S:=(fun W=>Hid (Below w.heap.size w W))) (by kernel_rfl) ?_ (fun hHeld=>?_)
  ·(try dsimp only);exact zH HK0.out.b
  refine wpAnyH_take (i:=0) (oi:=⟨some 22,_,_,_,_,_⟩) (v:=?_) rfl (by kernel_rfl) (by kernel_rfl) (by kernel_rfl) (fun _ _ _ h=>h) (Or.inl ⟨by rfl,?_⟩) (by assumption) ?_
  rotate_left
  ·(intro w hSw;(try dsimp only at hSw);go_simp;try with_reducible rfl)
  try simp only[Act.put,List.setIfInBounds_toArray,List.set_cons_zero,List.set_cons_succ]
  refine wpAnyH_take (i:=1) (oi:=⟨some 23,_,_,_,_,_⟩) (v:=?_) rfl (by kernel_rfl) (by kernel_rfl) (by kernel_rfl) (fun _ _ _ h=>h) (Or.inl ⟨by rfl,?_⟩) (by assumption) ?_
  rotate_left
  ·(intro w hSw;refine Eq.trans (exec_svl (lo:=1) _ _ (by rfl) (by rfl) (by rfl) hpos) ?_;with_reducible rfl)
  try simp only[Act.put,List.setIfInBounds_toArray,List.set_cons_zero,List.set_cons_succ]
  refine wpAnyH_take (i:=4) (oi:=⟨some 26,_,_,_,_,_⟩) (v:=?_) rfl (by kernel_rfl) (by kernel_rfl) (by kernel_rfl) (fun _ _ _ h=>h) (Or.inl ⟨by rfl,?_⟩) (by assumption) ?_
  rotate_left
  ·(intro w hSw;(try dsimp only at hSw);go_simp;try with_reducible rfl)
  try simp only[Act.put,List.setIfInBounds_toArray,List.set_cons_zero,List.set_cons_succ]
  refine wpAnyH_take (i:=5) (oi:=⟨some 27,_,_,_,_,_⟩) (v:=?_) rfl (by kernel_rfl) (by kernel_rfl) (by kernel_rfl) (fun _ _ _ h=>h) (Or.inl ⟨by rfl,?_⟩) (by assumption) ?_
  rotate_left
  ·(intro w hSw;refine Eq.trans (exec_ixv (i:=0) _ _ (by rfl) (by rfl) (by rfl) hpos) ?_;with_reducible rfl)
  try simp only[Act.put,List.setIfInBounds_toArray,List.set_cons_zero,List.set_cons_succ]
  refine wpAnyH_take (i:=6) (oi:=⟨some 28,_,_,_,_,_⟩) (v:=?_) rfl (by kernel_rfl) (by kernel_rfl) (by kernel_rfl) (fun _ _ _ h=>h) (Or.inl ⟨by rfl,?_⟩) (by assumption) ?_
  rotate_left
  ·(intro w hSw;refine Eq.trans (exec_lva (off:=o+0*4) _ (by rfl) (by rfl) (HX.out _ hSw.out)) ?_;with_reducible rfl)
  try simp only[Act.put,List.setIfInBounds_toArray,List.set_cons_zero,List.set_cons_succ]
  refine wpAnyH_ready (rs:=[2]) (by kernel_rfl) (by simp) ?_
  refine AllReadyH.cons (o:=⟨some 24,_,_,_,_,_⟩) rfl (fun K hK=>?_) AllReadyH.nil
  refine step_mks1 vaLay vaNest HK0 (by rfl) _ (by rfl) (by rfl) ?_;intro w2 g2 HK' _;simp only[lcA,lnA] at HK';replace HK0:=HK';clear HK';have hs:=zH HK0.out.b
  refine hK.out _ _ hs (fun hHeld=>?_)
  clear hK K
  try simp only[ap1,ap2,ap3,ap4,ap5]
  refine wpAnyH_ready (rs:=[3]) (by kernel_rfl) (by simp) ?_
  refine AllReadyH.cons (o:=⟨some 25,_,_,_,_,_⟩) rfl (fun K hK=>?_) AllReadyH.nil
  go_simp
  go_at_call 190
  refine(HJ.out.one HK0 1 rfl (HD.out.later HK0.out.b)).mono ?_;rintro e w5 ⟨A4,n4,c4,rfl,o4,b5⟩;replace HK0:=zH (HK0.out.called b5 o4);clear b5 o4;have hs:=zH HK0.out.b
  refine hK.out _ _ hs (fun hHeld=>?_)
  clear hK K
  try simp only[ap1,ap2,ap3,ap4,ap5]
  refine wpAnyH_take (i:=7) (oi:=⟨some 4,_,_,_,_,_⟩) (v:=?_) rfl (by kernel_rfl) (by kernel_rfl) (by kernel_rfl) (fun _ _ _ h=>h) (Or.inl ⟨by rfl,?_⟩) (by assumption) ?_
  rotate_left
  ·(intro w hSw;(try dsimp only at hSw);go_simp;try with_reducible rfl)
  try simp only[Act.put,List.setIfInBounds_toArray,List.set_cons_zero,List.set_cons_succ]
  refine wpAnyH_ready (rs:=[8]) (by kernel_rfl) (by simp) ?_
  refine AllReadyH.cons (o:=⟨none,_,_,_,_,_⟩) rfl (fun K hK=>?_) AllReadyH.nil
  refine step_sv (f2:=f) HK0 0 (by rfl) _ _ (by rfl) (by rfl) (by rfl) (by rfl) ?_;intro wq HK';simp only[List.set] at HK';replace HK0:=HK';clear HK';have hs:=zH HK0.out.b
  refine hK.out _ _ hs (fun hHeld=>?_)
  clear hK K
  try simp only[ap1,ap2,ap3,ap4,ap5]
  refine wpAnyH_take (i:=9) (oi:=⟨some 6,_,_,_,_,_⟩) (v:=?_) rfl (by kernel_rfl) (by kernel_rfl) (by kernel_rfl) (fun _ _ _ h=>h) (Or.inl ⟨by rfl,?_⟩) (by assumption) ?_
  rotate_left
  ·(intro w hSw;(try dsimp only at hSw);go_simp;try with_reducible rfl)
  try simp only[Act.put,List.setIfInBounds_toArray,List.set_cons_zero,List.set_cons_succ]
  refine wpAnyH_done (by kernel_rfl) ?_ _
  all_goals
   go_wp2_with fail
   exact ret_pve Tryz.results167 rfl rfl rfl rfl (HK0.out.blk 0 rfl) ⟨A4,n4,c4,rfl,HK0.out.own 0 rfl,HK0.out.b⟩
end
section
open Go.RowKit
theorem madd_any(x:Mtr)(hf:Mt.Fit x)(b:Nat)(hb:b<18446744073709551616)(w:World):
  Calls Tryz.prog 168 #[.agg #[.int .i64 x.n,.int .u64 (x.s:Int),.int .u64 (x.l:Int),.int .u64 (x.m:Int)],.int .u64 (b:Int)] w (IsMe (Mt.ad x b) (Mt.adE x) w):=by
 obtain⟨n,s,l,m⟩:=x
 have HM:=zH (fun W=>mright_any ⟨n,s,l,m⟩ hf W)
 have hfn:n≤9223372036854775807:=hf.1
 have HMk:=zH (fun W=>make_any b W hb)
 have HK:=kn2 w 58 (mC n s l m) 58 (mC 0 0 0 0)
 unfold IsB IsMe at *
 by_cases hok:Mt.Ok ⟨n,s,l,m⟩
 case neg=>
  rw[Mt.ad_bad hok,Mt.adE_bad hok]
  rw[decide_eq_false hok] at HM
  clear hok hf hfn HMk
  go_enter Tryz.func168,Tryz.ntmps168
  go_wp2_with (first|refine wpList_exe (kexec_lm HK 0 _ (by rfl) (by rfl) (by rfl)) (by rfl) ?_)
  refine(HM.out _).mono ?_;rintro e w1 ⟨rfl,b1⟩
  replace HK:=hkC HK b1;clear b1
  go_wp2_with (first|refine wpList_exe (kexec_lm HK 0 _ (by rfl) (by rfl) (by rfl)) (by rfl) ?_|(refine wpList_sm HK 1 rfl _ _ rfl rfl rfl rfl ?_;intro _ HK';simp only[List.set] at HK';replace HK:=HK';clear HK')|refine wpList_exe (kexec_mn HK 0 _ (by rfl) (by rfl) (by rfl)) (by rfl) ?_)
  exact ret_me Tryz.results168 rfl rfl rfl (HK.out.blk 1 rfl) ⟨rfl,HK.out.b⟩
 case pos=>
 rw[decide_eq_true hok] at HM
 by_cases hmx:n=9223372036854775807
 ·rw[Mt.ad_full hok hmx,Mt.adE_full hok hmx]
  clear hok hf hfn HMk
  subst hmx
  go_enter Tryz.func168,Tryz.ntmps168
  go_wp2_with (first|refine wpList_exe (kexec_lm HK 0 _ (by rfl) (by rfl) (by rfl)) (by rfl) ?_)
  refine(HM.out _).mono ?_;rintro e w1 ⟨rfl,b1⟩
  replace HK:=hkC HK b1;clear b1
  go_wp2_with (first|refine wpList_exe (kexec_lm HK 0 _ (by rfl) (by rfl) (by rfl)) (by rfl) ?_|(refine wpList_sm HK 1 rfl _ _ rfl rfl rfl rfl ?_;intro _ HK';simp only[List.set] at HK';replace HK:=HK';clear HK')|refine wpList_exe (kexec_mn HK 0 _ (by rfl) (by rfl) (by rfl)) (by rfl) ?_)
  exact ret_me Tryz.results168 rfl rfl rfl (HK.out.blk 1 rfl) ⟨rfl,HK.out.b⟩
 have hne:(n==9223372036854775807)=false:=by rw[beq_eq_false_iff_ne];exact hmx
 rw[Mt.adE_one hok hmx]
 by_cases h0:n=0
 ·rw[Mt.ad_one hok h0]
  clear hok hf hfn hmx
  subst h0
  generalize Num.M b=t at *
  go_enter Tryz.func168,Tryz.ntmps168
  go_wp2_with (first|refine wpList_exe (kexec_lm HK 0 _ (by rfl) (by rfl) (by rfl)) (by rfl) ?_)
  refine(HM.out _).mono ?_;rintro e w1 ⟨rfl,b1⟩
  replace HK:=hkC HK b1;clear b1
  go_wp2_with (first|refine wpList_exe (kexec_lm HK 0 _ (by rfl) (by rfl) (by rfl)) (by rfl) ?_|(refine wpList_sm HK 1 rfl _ _ rfl rfl rfl rfl ?_;intro _ HK';simp only[List.set] at HK';replace HK:=HK';clear HK')|refine wpList_exe (kexec_mn HK 0 _ (by rfl) (by rfl) (by rfl)) (by rfl) ?_)
  refine(HMk.out _).mono ?_;rintro e w1 ⟨rfl,rfl⟩
  go_wp2_with (first|refine wpList_exe (kexec_mn HK 0 _ (by rfl) (by rfl) (by rfl)) (by rfl) ?_|(refine wpList_sm HK 1 rfl _ _ rfl rfl rfl rfl ?_;intro _ HK';simp only[List.set] at HK';replace HK:=HK';clear HK'))
  exact ret_me Tryz.results168 rfl rfl rfl (HK.out.blk 1 rfl) ⟨rfl,HK.out.b⟩
 ·have hz:(n==0)=false:=by rw[beq_eq_false_iff_ne];exact h0
  rw[Mt.ad_more hok hmx h0]
  have HW:Hid (IntKind.i64.wrap (n+1)=n+1):=zH (by
   have hp:0≤n:=Mt.ok_pos hok
   rw[IntKind.wrap_i64];omega)
  have hs:=hf.2.1
  have hl:=hf.2.2.1
  have hm:=hf.2.2.2
  have hb2:=Num.M_lt hb
  have HA:=zH (fun W=>add_below s (Num.M b) W hs hb2)
  have HL:=zH (fun W=>least_any l (Num.M b) W hl hb2)
  have HG:=zH (fun W=>most_any m (Num.M b) W hm hb2)
  clear hok hf hfn hmx h0 hs hl hm hb2
  generalize Num.M b=t at *
  generalize Num.S s t=s2 at *
  generalize least l t=l2 at *
  generalize most m t=m2 at *
  go_enter Tryz.func168,Tryz.ntmps168
  go_wp2_with (first|refine wpList_exe (kexec_lm HK 0 _ (by rfl) (by rfl) (by rfl)) (by rfl) ?_)
  refine(HM.out _).mono ?_;rintro e w1 ⟨rfl,b1⟩
  replace HK:=hkC HK b1;clear b1
  go_wp2_with (first|refine wpList_exe (kexec_lm HK 0 _ (by rfl) (by rfl) (by rfl)) (by rfl) ?_|(refine wpList_sm HK 1 rfl _ _ rfl rfl rfl rfl ?_;intro _ HK';simp only[List.set] at HK';replace HK:=HK';clear HK')|refine wpList_exe (kexec_mn HK 0 _ (by rfl) (by rfl) (by rfl)) (by rfl) ?_)
  refine(HMk.out _).mono ?_;rintro e w1 ⟨rfl,rfl⟩
  go_wp2_with (first|refine wpList_exe (kexec_mn HK 0 _ (by rfl) (by rfl) (by rfl)) (by rfl) ?_)
  have HK0:=zH HK.out.drew
  clear HK
  refine wp_region_held_drew (S:=(fun W=>Hid (Kn w.heap.size w W [(w.heap.size,58,mC n s l m)] []))) (by kernel_rfl) ?_ (fun hHeld=>?_)
  ·(try dsimp only);exact zH (HK0.out.takeL 1)
  refine wpAnyH_take (i:=0) (oi:=⟨some 26,_,_,_,_,_⟩) (v:=?_) rfl (by kernel_rfl) (by kernel_rfl) (by kernel_rfl) (fun _ _ _ h=>h) (Or.inl ⟨by rfl,?_⟩) (by assumption) ?_
  rotate_left
  ·(intro w hSw;(try dsimp only at hSw);go_simp;try with_reducible rfl)
  try simp only[Act.put,List.setIfInBounds_toArray,List.set_cons_zero,List.set_cons_succ]
  refine wpAnyH_take (i:=1) (oi:=⟨some 27,_,_,_,_,_⟩) (v:=?_) rfl (by kernel_rfl) (by kernel_rfl) (by kernel_rfl) (fun _ _ _ h=>h) (Or.inl ⟨by rfl,?_⟩) (by assumption) ?_
  rotate_left
  ·(intro w hSw;refine Eq.trans (kexec_mn hSw 0 _ (by rfl) (by rfl) (by rfl)) ?_;with_reducible rfl)
  try simp only[Act.put,List.setIfInBounds_toArray,List.set_cons_zero,List.set_cons_succ]
  refine wpAnyH_take (i:=2) (oi:=⟨some 28,_,_,_,_,_⟩) (v:=?_) rfl (by kernel_rfl) (by kernel_rfl) (by kernel_rfl) (fun _ _ _ h=>h) (Or.inl ⟨by rfl,?_⟩) (by assumption) ?_
  rotate_left
  ·(intro w hSw;refine Eq.trans (exec_inc _ (by rfl) (by rfl) HW.out) ?_;with_reducible rfl)
  try simp only[Act.put,List.setIfInBounds_toArray,List.set_cons_zero,List.set_cons_succ]
  refine wpAnyH_take (i:=3) (oi:=⟨some 29,_,_,_,_,_⟩) (v:=?_) rfl (by kernel_rfl) (by kernel_rfl) (by kernel_rfl) (fun _ _ _ h=>h) (Or.inl ⟨by rfl,?_⟩) (by assumption) ?_
  rotate_left
  ·(intro w hSw;(try dsimp only at hSw);go_simp;try with_reducible rfl)
  try simp only[Act.put,List.setIfInBounds_toArray,List.set_cons_zero,List.set_cons_succ]
  refine wpAnyH_take (i:=4) (oi:=⟨some 30,_,_,_,_,_⟩) (v:=?_) rfl (by kernel_rfl) (by kernel_rfl) (by kernel_rfl) (fun _ _ _ h=>h) (Or.inl ⟨by rfl,?_⟩) (by assumption) ?_
  rotate_left
  ·(intro w hSw;refine Eq.trans (kexec_ms hSw 0 _ (by rfl) (by rfl) (by rfl)) ?_;with_reducible rfl)
  try simp only[Act.put,List.setIfInBounds_toArray,List.set_cons_zero,List.set_cons_succ]
  refine wpAnyH_take (i:=5) (oi:=⟨some 31,_,_,_,_,_⟩) (v:=?_) rfl (by kernel_rfl) (by kernel_rfl) (by kernel_rfl) (fun _ _ _ h=>h) (Or.inl ⟨by rfl,?_⟩) (by assumption) ?_
  rotate_left
  ·(intro w hSw;(try dsimp only at hSw);go_simp;try with_reducible rfl)
  try simp only[Act.put,List.setIfInBounds_toArray,List.set_cons_zero,List.set_cons_succ]
  refine wpAnyH_take (i:=7) (oi:=⟨some 33,_,_,_,_,_⟩) (v:=?_) rfl (by kernel_rfl) (by kernel_rfl) (by kernel_rfl) (fun _ _ _ h=>h) (Or.inl ⟨by rfl,?_⟩) (by assumption) ?_
  rotate_left
  ·(intro w hSw;(try dsimp only at hSw);go_simp;try with_reducible rfl)
  try simp only[Act.put,List.setIfInBounds_toArray,List.set_cons_zero,List.set_cons_succ]
  refine wpAnyH_take (i:=8) (oi:=⟨some 34,_,_,_,_,_⟩) (v:=?_) rfl (by kernel_rfl) (by kernel_rfl) (by kernel_rfl) (fun _ _ _ h=>h) (Or.inl ⟨by rfl,?_⟩) (by assumption) ?_
  rotate_left
  ·(intro w hSw;refine Eq.trans (kexec_ml hSw 0 _ (by rfl) (by rfl) (by rfl)) ?_;with_reducible rfl)
  try simp only[Act.put,List.setIfInBounds_toArray,List.set_cons_zero,List.set_cons_succ]
  refine wpAnyH_take (i:=9) (oi:=⟨some 35,_,_,_,_,_⟩) (v:=?_) rfl (by kernel_rfl) (by kernel_rfl) (by kernel_rfl) (fun _ _ _ h=>h) (Or.inl ⟨by rfl,?_⟩) (by assumption) ?_
  rotate_left
  ·(intro w hSw;(try dsimp only at hSw);go_simp;try with_reducible rfl)
  try simp only[Act.put,List.setIfInBounds_toArray,List.set_cons_zero,List.set_cons_succ]
  refine wpAnyH_take (i:=11) (oi:=⟨some 37,_,_,_,_,_⟩) (v:=?_) rfl (by kernel_rfl) (by kernel_rfl) (by kernel_rfl) (fun _ _ _ h=>h) (Or.inl ⟨by rfl,?_⟩) (by assumption) ?_
  rotate_left
  ·(intro w hSw;(try dsimp only at hSw);go_simp;try with_reducible rfl)
  try simp only[Act.put,List.setIfInBounds_toArray,List.set_cons_zero,List.set_cons_succ]
  refine wpAnyH_take (i:=12) (oi:=⟨some 38,_,_,_,_,_⟩) (v:=?_) rfl (by kernel_rfl) (by kernel_rfl) (by kernel_rfl) (fun _ _ _ h=>h) (Or.inl ⟨by rfl,?_⟩) (by assumption) ?_
  rotate_left
  ·(intro w hSw;refine Eq.trans (kexec_mm hSw 0 _ (by rfl) (by rfl) (by rfl)) ?_;with_reducible rfl)
  try simp only[Act.put,List.setIfInBounds_toArray,List.set_cons_zero,List.set_cons_succ]
  refine wpAnyH_take (i:=13) (oi:=⟨some 39,_,_,_,_,_⟩) (v:=?_) rfl (by kernel_rfl) (by kernel_rfl) (by kernel_rfl) (fun _ _ _ h=>h) (Or.inl ⟨by rfl,?_⟩) (by assumption) ?_
  rotate_left
  ·(intro w hSw;(try dsimp only at hSw);go_simp;try with_reducible rfl)
  try simp only[Act.put,List.setIfInBounds_toArray,List.set_cons_zero,List.set_cons_succ]
  refine wpAnyH_ready (rs:=[6]) (by kernel_rfl) (by simp) ?_
  refine AllReadyH.cons (o:=⟨some 32,_,_,_,_,_⟩) rfl (fun K hK=>?_) AllReadyH.nil
  go_simp
  go_at_call 191
  refine(HA.out _).mono ?_;rintro e w5 ⟨rfl,b5⟩;have hs:=zH (hHeld.out.call b5);replace HK0:=zH (HK0.out.call b5);clear b5
  refine hK.out _ _ hs (fun hHeld=>?_)
  clear hK K
  try simp only[ap1,ap2,ap3,ap4,ap5]
  refine wpAnyH_ready (rs:=[10]) (by kernel_rfl) (by simp) ?_
  refine AllReadyH.cons (o:=⟨some 36,_,_,_,_,_⟩) rfl (fun K hK=>?_) AllReadyH.nil
  go_simp
  go_at_call 192
  refine(HL.out _).mono ?_;rintro e w5 ⟨rfl,rfl⟩;have hs:=hHeld
  refine hK.out _ _ hs (fun hHeld=>?_)
  clear hK K
  try simp only[ap1,ap2,ap3,ap4,ap5]
  refine wpAnyH_ready (rs:=[14]) (by kernel_rfl) (by simp) ?_
  refine AllReadyH.cons (o:=⟨some 40,_,_,_,_,_⟩) rfl (fun K hK=>?_) AllReadyH.nil
  go_simp
  go_at_call 193
  refine(HG.out _).mono ?_;rintro e w5 ⟨rfl,rfl⟩;have hs:=hHeld
  refine hK.out _ _ hs (fun hHeld=>?_)
  clear hK K
  try simp only[ap1,ap2,ap3,ap4,ap5]
  refine wpAnyH_take (i:=15) (oi:=⟨some 41,_,_,_,_,_⟩) (v:=?_) rfl (by kernel_rfl) (by kernel_rfl) (by kernel_rfl) (fun _ _ _ h=>h) (Or.inl ⟨by rfl,?_⟩) (by assumption) ?_
  rotate_left
  ·(intro w hSw;(try dsimp only at hSw);go_simp;try with_reducible rfl)
  try simp only[Act.put,List.setIfInBounds_toArray,List.set_cons_zero,List.set_cons_succ]
  refine wpAnyH_ready (rs:=[16]) (by kernel_rfl) (by simp) ?_
  refine AllReadyH.cons (o:=⟨none,_,_,_,_,_⟩) rfl (fun K hK=>?_) AllReadyH.nil
  refine step_sm HK0 1 (by rfl) _ _ (by rfl) (by rfl) (by rfl) (by rfl) ?_;intro w6 HK';simp only[List.set] at HK';replace HK0:=HK';clear HK';have hs:=zH (HK0.out.takeL 1)
  refine hK.out _ _ hs (fun hHeld=>?_)
  clear hK K
  try simp only[ap1,ap2,ap3,ap4,ap5]
  refine wpAnyH_take (i:=17) (oi:=⟨some 5,_,_,_,_,_⟩) (v:=?_) rfl (by kernel_rfl) (by kernel_rfl) (by kernel_rfl) (fun _ _ _ h=>h) (Or.inl ⟨by rfl,?_⟩) (by assumption) ?_
  rotate_left
  ·(intro w hSw;(try dsimp only at hSw);go_simp;try with_reducible rfl)
  try simp only[Act.put,List.setIfInBounds_toArray,List.set_cons_zero,List.set_cons_succ]
  refine wpAnyH_done (by kernel_rfl) ?_ _
  all_goals
   have HK:=HK0
   clear HK0 hHeld
   go_wp2_with fail
   exact ret_me Tryz.results168 rfl rfl rfl (HK.out.blk 1 rfl) ⟨rfl,HK.out.b⟩
end
section
open Go.RowKit
theorem mread_any(x:Mtr)(hf:Mt.Fit x)(q:Int)(w:World):
  Calls Tryz.prog 169 #[.agg #[.int .i64 x.n,.int .u64 (x.s:Int),.int .u64 (x.l:Int),.int .u64 (x.m:Int)],.int .i64 q] w (IsVe (Mt.rd x q) w):=by
 obtain⟨n,s,l,m⟩:=x
 have HM:=zH (fun W=>mright_any ⟨n,s,l,m⟩ hf W)
 have HT:=zH (fun W=>told_ar n s l m W)
 unfold arC at HT
 have HK:=kn2 w 58 (mC n s l m) 26 (vC 0 0 0 ⟨#[]⟩)
 clear hf
 unfold IsB IsVe at *
 by_cases hok:Mt.Ok ⟨n,s,l,m⟩
 case neg=>
  rw[Mt.rd_bad (.inl hok)]
  rw[decide_eq_false hok] at HM
  clear hok
  go_enter Tryz.func169,Tryz.ntmps169
  go_wp2_with (first|refine wpList_exe (kexec_lm HK 0 _ (by rfl) (by rfl) (by rfl)) (by rfl) ?_)
  refine(HM.out _).mono ?_;rintro e w1 ⟨rfl,b1⟩
  replace HK:=hkC HK b1;clear b1
  go_wp2_with (first|refine wpList_exe (kexec_mn HK 0 _ (by rfl) (by rfl) (by rfl)) (by rfl) ?_|refine wpList_exe (kexec_lm HK 0 _ (by rfl) (by rfl) (by rfl)) (by rfl) ?_|(refine wpList_sv (f2:=0) HK 1 rfl _ _ rfl rfl rfl rfl ?_;intro _ HK';simp only[List.set] at HK';replace HK:=HK';clear HK'))
  exact ret_va Tryz.results169 rfl rfl rfl (HK.out.blk 1 rfl) ⟨rfl,HK.out.b⟩
 case pos=>
 rw[decide_eq_true hok] at HM
 by_cases hlo:q<0
 ·rw[Mt.rd_bad (.inr (.inl hlo))]
  clear hok
  go_enter Tryz.func169,Tryz.ntmps169
  go_wp2_with (first|refine wpList_exe (kexec_lm HK 0 _ (by rfl) (by rfl) (by rfl)) (by rfl) ?_)
  refine(HM.out _).mono ?_;rintro e w1 ⟨rfl,b1⟩
  replace HK:=hkC HK b1;clear b1
  go_wp2_with (first|refine wpList_exe (kexec_mn HK 0 _ (by rfl) (by rfl) (by rfl)) (by rfl) ?_|refine wpList_exe (kexec_lm HK 0 _ (by rfl) (by rfl) (by rfl)) (by rfl) ?_|(refine wpList_sv (f2:=0) HK 1 rfl _ _ rfl rfl rfl rfl ?_;intro _ HK';simp only[List.set] at HK';replace HK:=HK';clear HK'))
  exact ret_va Tryz.results169 rfl rfl rfl (HK.out.blk 1 rfl) ⟨rfl,HK.out.b⟩
 by_cases hhi:3<q
 ·rw[Mt.rd_bad (.inr (.inr hhi))]
  have hhi2:4≤q:=by omega
  clear hok
  go_enter Tryz.func169,Tryz.ntmps169
  go_wp2_with (first|refine wpList_exe (kexec_lm HK 0 _ (by rfl) (by rfl) (by rfl)) (by rfl) ?_)
  refine(HM.out _).mono ?_;rintro e w1 ⟨rfl,b1⟩
  replace HK:=hkC HK b1;clear b1
  go_wp2_with (first|refine wpList_exe (kexec_mn HK 0 _ (by rfl) (by rfl) (by rfl)) (by rfl) ?_|refine wpList_exe (kexec_lm HK 0 _ (by rfl) (by rfl) (by rfl)) (by rfl) ?_|(refine wpList_sv (f2:=0) HK 1 rfl _ _ rfl rfl rfl rfl ?_;intro _ HK';simp only[List.set] at HK';replace HK:=HK';clear HK'))
  exact ret_va Tryz.results169 rfl rfl rfl (HK.out.blk 1 rfl) ⟨rfl,HK.out.b⟩
 by_cases hq0:q=0
 ·subst hq0
  rw[Mt.rd_0 hok]
  have hix:=ix_ar0 n s l m
  clear hok hlo hhi
  dsimp only
  by_cases h0:(n==0)=true
  ·go_enter Tryz.func169,Tryz.ntmps169
   go_wp2_with (first|refine wpList_exe (kexec_lm HK 0 _ (by rfl) (by rfl) (by rfl)) (by rfl) ?_)
   refine(HM.out _).mono ?_;rintro e w1 ⟨rfl,b1⟩
   replace HK:=hkC HK b1;clear b1
   go_wp2_with (first|refine wpList_exe (kexec_mn HK 0 _ (by rfl) (by rfl) (by rfl)) (by rfl) ?_|refine wpList_exe (kexec_lm HK 0 _ (by rfl) (by rfl) (by rfl)) (by rfl) ?_|(refine wpList_sv (f2:=0) HK 1 rfl _ _ rfl rfl rfl rfl ?_;intro _ HK';simp only[List.set] at HK';replace HK:=HK';clear HK'))
   refine(HT.out _).mono ?_;rintro e w1 ⟨rfl,b1⟩
   replace HK:=hkC HK b1;clear b1
   go_wp2_with (first|(refine wpList_sv (f2:=0) HK 1 rfl _ _ rfl rfl rfl rfl ?_;intro _ HK';simp only[List.set] at HK';replace HK:=HK';clear HK'))
   exact ret_va Tryz.results169 rfl rfl rfl (HK.out.blk 1 rfl) ⟨rfl,HK.out.b⟩
  ·have h0:(n==0)=false:=Bool.eq_false_iff.2 h0
   go_enter Tryz.func169,Tryz.ntmps169
   go_wp2_with (first|refine wpList_exe (kexec_lm HK 0 _ (by rfl) (by rfl) (by rfl)) (by rfl) ?_)
   refine(HM.out _).mono ?_;rintro e w1 ⟨rfl,b1⟩
   replace HK:=hkC HK b1;clear b1
   go_wp2_with (first|refine wpList_exe (kexec_mn HK 0 _ (by rfl) (by rfl) (by rfl)) (by rfl) ?_|refine wpList_exe (kexec_lm HK 0 _ (by rfl) (by rfl) (by rfl)) (by rfl) ?_|(refine wpList_sv (f2:=0) HK 1 rfl _ _ rfl rfl rfl rfl ?_;intro _ HK';simp only[List.set] at HK';replace HK:=HK';clear HK'))
   refine(HT.out _).mono ?_;rintro e w1 ⟨rfl,b1⟩
   replace HK:=hkC HK b1;clear b1
   go_wp2_with (first|(refine wpList_sv (f2:=0) HK 1 rfl _ _ rfl rfl rfl rfl ?_;intro _ HK';simp only[List.set] at HK';replace HK:=HK';clear HK'))
   exact ret_va Tryz.results169 rfl rfl rfl (HK.out.blk 1 rfl) ⟨rfl,HK.out.b⟩
 have hq1:(q==0)=false:=by rw[beq_eq_false_iff_ne];exact hq0
 have hq2:¬4≤q:=by omega
 by_cases hn:n=0
 ·rw[Mt.rd_no hok (by omega) (by omega) hq0 hn]
  subst hn
  clear hok hq0
  go_enter Tryz.func169,Tryz.ntmps169
  go_wp2_with (first|refine wpList_exe (kexec_lm HK 0 _ (by rfl) (by rfl) (by rfl)) (by rfl) ?_)
  refine(HM.out _).mono ?_;rintro e w1 ⟨rfl,b1⟩
  replace HK:=hkC HK b1;clear b1
  go_wp2_with (first|refine wpList_exe (kexec_mn HK 0 _ (by rfl) (by rfl) (by rfl)) (by rfl) ?_|refine wpList_exe (kexec_lm HK 0 _ (by rfl) (by rfl) (by rfl)) (by rfl) ?_|(refine wpList_sv (f2:=0) HK 1 rfl _ _ rfl rfl rfl rfl ?_;intro _ HK';simp only[List.set] at HK';replace HK:=HK';clear HK'))
  exact ret_va Tryz.results169 rfl rfl rfl (HK.out.blk 1 rfl) ⟨rfl,HK.out.b⟩
 have h0:(n==0)=false:=by rw[beq_eq_false_iff_ne];exact hn
 have hcase:q=1∨q=2∨q=3:=by omega
 clear hlo hhi hq0 hq1 hq2
 rcases hcase with rfl|rfl|rfl
 ·rw[Mt.rd_1 hok hn]
  have hix:=ix_ar1 n s l m
  clear hok hn
  dsimp only
  go_enter Tryz.func169,Tryz.ntmps169
  go_wp2_with (first|refine wpList_exe (kexec_lm HK 0 _ (by rfl) (by rfl) (by rfl)) (by rfl) ?_)
  refine(HM.out _).mono ?_;rintro e w1 ⟨rfl,b1⟩
  replace HK:=hkC HK b1;clear b1
  go_wp2_with (first|refine wpList_exe (kexec_mn HK 0 _ (by rfl) (by rfl) (by rfl)) (by rfl) ?_|refine wpList_exe (kexec_lm HK 0 _ (by rfl) (by rfl) (by rfl)) (by rfl) ?_|(refine wpList_sv (f2:=s) HK 1 rfl _ _ rfl rfl rfl rfl ?_;intro _ HK';simp only[List.set] at HK';replace HK:=HK';clear HK'))
  refine(HT.out _).mono ?_;rintro e w1 ⟨rfl,b1⟩
  replace HK:=hkC HK b1;clear b1
  go_wp2_with (first|(refine wpList_sv (f2:=s) HK 1 rfl _ _ rfl rfl rfl rfl ?_;intro _ HK';simp only[List.set] at HK';replace HK:=HK';clear HK'))
  exact ret_va Tryz.results169 rfl rfl rfl (HK.out.blk 1 rfl) ⟨rfl,HK.out.b⟩
 ·rw[Mt.rd_2 hok hn]
  have hix:=ix_ar2 n s l m
  clear hok hn
  dsimp only
  go_enter Tryz.func169,Tryz.ntmps169
  go_wp2_with (first|refine wpList_exe (kexec_lm HK 0 _ (by rfl) (by rfl) (by rfl)) (by rfl) ?_)
  refine(HM.out _).mono ?_;rintro e w1 ⟨rfl,b1⟩
  replace HK:=hkC HK b1;clear b1
  go_wp2_with (first|refine wpList_exe (kexec_mn HK 0 _ (by rfl) (by rfl) (by rfl)) (by rfl) ?_|refine wpList_exe (kexec_lm HK 0 _ (by rfl) (by rfl) (by rfl)) (by rfl) ?_|(refine wpList_sv (f2:=l) HK 1 rfl _ _ rfl rfl rfl rfl ?_;intro _ HK';simp only[List.set] at HK';replace HK:=HK';clear HK'))
  refine(HT.out _).mono ?_;rintro e w1 ⟨rfl,b1⟩
  replace HK:=hkC HK b1;clear b1
  go_wp2_with (first|(refine wpList_sv (f2:=l) HK 1 rfl _ _ rfl rfl rfl rfl ?_;intro _ HK';simp only[List.set] at HK';replace HK:=HK';clear HK'))
  exact ret_va Tryz.results169 rfl rfl rfl (HK.out.blk 1 rfl) ⟨rfl,HK.out.b⟩
 ·rw[Mt.rd_3 hok hn]
  have hix:=ix_ar3 n s l m
  clear hok hn
  dsimp only
  go_enter Tryz.func169,Tryz.ntmps169
  go_wp2_with (first|refine wpList_exe (kexec_lm HK 0 _ (by rfl) (by rfl) (by rfl)) (by rfl) ?_)
  refine(HM.out _).mono ?_;rintro e w1 ⟨rfl,b1⟩
  replace HK:=hkC HK b1;clear b1
  go_wp2_with (first|refine wpList_exe (kexec_mn HK 0 _ (by rfl) (by rfl) (by rfl)) (by rfl) ?_|refine wpList_exe (kexec_lm HK 0 _ (by rfl) (by rfl) (by rfl)) (by rfl) ?_|(refine wpList_sv (f2:=m) HK 1 rfl _ _ rfl rfl rfl rfl ?_;intro _ HK';simp only[List.set] at HK';replace HK:=HK';clear HK'))
  refine(HT.out _).mono ?_;rintro e w1 ⟨rfl,b1⟩
  replace HK:=hkC HK b1;clear b1
  go_wp2_with (first|(refine wpList_sv (f2:=m) HK 1 rfl _ _ rfl rfl rfl rfl ?_;intro _ HK';simp only[List.set] at HK';replace HK:=HK';clear HK'))
  exact ret_va Tryz.results169 rfl rfl rfl (HK.out.blk 1 rfl) ⟨rfl,HK.out.b⟩
end
end Go.Proofs.YtddpmlcpfmmbeaaGreat
