/- Pairs as things of one kind. No condition but those named. -/
import Derived.Test.YtddpmlcpfmmbeaaGreatTk
import Derived.Test.YtddpmlcpfmmbeaaGreatKAU
import Derived.Test.YtddpmlcpfmmbeaaGreatKAQ
import Derived.Test.YtddpmlcpfmmbeaaGreatKAJ
import Derived.Test.YtddpmlcpfmmbeaaGreatKAI
import Derived.Test.YtddpmlcpfmmbeaaGreatKAF
import Derived.Lib.AppendZeros
set_option linter.unusedSimpArgs false
set_option linter.unusedVariables false
set_option maxRecDepth 100000
set_option maxHeartbeats 25600000
namespace Go.Proofs.YtddpmlcpfmmbeaaGreat
section
open Go.RowKit
def IsTk(r:List Rf)(h:Bool)(x:Int)(w:World)(e:Ending)(w':World):Prop:=∃A n c,e=.returned (.tuple #[.slice A n c,.bool h,.int .i64 x])∧rfLay.Own w.heap.size w' (.slice A n c) r∧Below w.heap.size w w'
def IsFr(r:List Rf)(y:Rf)(h:Bool)(x:Int)(w:World)(e:Ending)(w':World):Prop:=∃A n c,e=.returned (.tuple #[.slice A n c,.agg #[.int .i64 y.c,.int .i64 y.e,.int .i64 y.r],.bool h,.int .i64 x])∧rfLay.Own w.heap.size w' (.slice A n c) r∧Below w.heap.size w w'
theorem ltake_any(A:Option Addr)(c n:Nat)(l:List Rf)(r:Rf)(w:World)(hs:Sls rfLay rF w A n c l):
  Calls Tryz.prog 182 #[.slice A n c,.agg #[.int .i64 r.c,.int .i64 r.e,.int .i64 r.r]] w (IsTk (Lck.tkL l r) (Lck.tkH l r) (Lck.tkE l r) w):=by
 have HM:=zH (fun W (hW:Below w.heap.size w W)=>lright_any A c n l W (hs.later hW))
 have HC:=zH (fun W=>cmr_any r W)
 have HAs:=zH (fun W (hW:Below w.heap.size w W)=>asked_any A c n l r.c W (hs.later hW))
 have HS:=zH hs
 have HJ:=zH rconcat_any
 have hlen:=hs.len
 have HK:=kn1 w 35 #[.int .i64 r.c,.int .i64 r.e,.int .i64 r.r]
 unfold IsB IsTk at *
 by_cases hr:Lck.Right l
 case neg=>
  rw[decide_eq_false hr] at HM
  obtain⟨e1,e2,e3⟩:=Lck.tk_bad (r:=r) (fun h=>hr h.1)
  rw[e1,e2,e3]
  clear e1 e2 e3 hr hs hlen HC HAs
  go_enter Tryz.func182,Tryz.ntmps182
  go_wp2_with fail
  refine(HM.out _ HK.out.b).mono ?_;rintro e w1 ⟨rfl,b1⟩
  replace HK:=hkC HK b1;clear b1
  go_wp2_with (first|(refine wpList_mks1 rfLay rfNest HK rfl _ rfl rfl ?_;intro w2 g7 HK' _;simp only[lcA,lnA] at HK';replace HK:=HK';clear HK'))
  refine(HJ.out.one HK 1 rfl (HS.out.later HK.out.b)).mono ?_;rintro e w3 ⟨A4,n4,c4,rfl,o4,b4⟩;replace HK:=zH (HK.out.called b4 o4);simp only[lnA] at HK;clear o4 b4
  go_wp2_with fail
  exact ret_t3 Tryz.results182 rfl rfl rfl rfl ⟨A4,n4,c4,rfl,HK.out.own 0 rfl,HK.out.b⟩
 case pos=>
 rw[decide_eq_true hr] at HM
 by_cases hok:Lck.ok r
 case neg=>
  rw[decide_eq_false hok] at HC
  obtain⟨e1,e2,e3⟩:=Lck.tk_bad (l:=l) (r:=r) (fun h=>hok h.2)
  rw[e1,e2,e3]
  clear e1 e2 e3 hr hok hs hlen HAs
  go_enter Tryz.func182,Tryz.ntmps182
  go_wp2_with fail
  refine(HM.out _ HK.out.b).mono ?_;rintro e w1 ⟨rfl,b1⟩
  replace HK:=hkC HK b1;clear b1
  go_wp2_with (first|refine wpList_exe (kexec_lr HK 0 _ (by rfl) (by rfl) (by rfl)) (by rfl) ?_)
  refine(HC.out _).mono ?_;rintro e w1 ⟨rfl,b1⟩
  replace HK:=hkC HK b1;clear b1
  go_wp2_with (first|(refine wpList_mks1 rfLay rfNest HK rfl _ rfl rfl ?_;intro w2 g7 HK' _;simp only[lcA,lnA] at HK';replace HK:=HK';clear HK'))
  refine(HJ.out.one HK 1 rfl (HS.out.later HK.out.b)).mono ?_;rintro e w3 ⟨A4,n4,c4,rfl,o4,b4⟩;replace HK:=zH (HK.out.called b4 o4);simp only[lnA] at HK;clear o4 b4
  go_wp2_with fail
  exact ret_t3 Tryz.results182 rfl rfl rfl rfl ⟨A4,n4,c4,rfl,HK.out.own 0 rfl,HK.out.b⟩
 case pos=>
 rw[decide_eq_true hok] at HC
 by_cases ha:Lck.asked l r.c=true
 ·rw[ha] at HAs
  obtain⟨e1,e2,e3⟩:=Lck.tk_held hr hok ha
  rw[e1,e2,e3]
  clear e1 e2 e3 hr hok hs hlen ha
  go_enter Tryz.func182,Tryz.ntmps182
  go_wp2_with fail
  refine(HM.out _ HK.out.b).mono ?_;rintro e w1 ⟨rfl,b1⟩
  replace HK:=hkC HK b1;clear b1
  go_wp2_with (first|refine wpList_exe (kexec_lr HK 0 _ (by rfl) (by rfl) (by rfl)) (by rfl) ?_)
  refine(HC.out _).mono ?_;rintro e w1 ⟨rfl,b1⟩
  replace HK:=hkC HK b1;clear b1
  go_wp2_with (first|refine wpList_exe (kexec_lc0 HK 0 _ (by rfl) (by rfl) (by rfl)) (by rfl) ?_)
  refine(HAs.out _ HK.out.b).mono ?_;rintro e w1 ⟨rfl,b1⟩
  replace HK:=hkC HK b1;clear b1
  go_wp2_with (first|(refine wpList_mks1 rfLay rfNest HK rfl _ rfl rfl ?_;intro w2 g7 HK' _;simp only[lcA,lnA] at HK';replace HK:=HK';clear HK'))
  refine(HJ.out.one HK 1 rfl (HS.out.later HK.out.b)).mono ?_;rintro e w3 ⟨A4,n4,c4,rfl,o4,b4⟩;replace HK:=zH (HK.out.called b4 o4);simp only[lnA] at HK;clear o4 b4
  go_wp2_with fail
  exact ret_t3 Tryz.results182 rfl rfl rfl rfl ⟨A4,n4,c4,rfl,HK.out.own 0 rfl,HK.out.b⟩
 ·have ha2:Lck.asked l r.c=false:=Bool.eq_false_iff.2 ha
  rw[ha2] at HAs
  obtain⟨e1,e2,e3⟩:=Lck.tk_ok hr hok ha2
  have h5:=Lck.right_len hr
  rw[hlen] at h5 e3
  rw[e1,e2,e3]
  have HF:=zH (fits_one r)
  have hcase:n=0∨¬n=0:=by omega
  clear e1 e2 e3 hr hok hs hlen ha ha2
  rcases hcase with h0|h0
  ·have hz:((n:Int)==0)=true:=by simpa using h0
   rw[decide_eq_true h0]
   clear h0
   go_enter Tryz.func182,Tryz.ntmps182
   go_wp2_with fail
   refine(HM.out _ HK.out.b).mono ?_;rintro e w1 ⟨rfl,b1⟩
   replace HK:=hkC HK b1;clear b1
   go_wp2_with (first|refine wpList_exe (kexec_lr HK 0 _ (by rfl) (by rfl) (by rfl)) (by rfl) ?_)
   refine(HC.out _).mono ?_;rintro e w1 ⟨rfl,b1⟩
   replace HK:=hkC HK b1;clear b1
   go_wp2_with (first|refine wpList_exe (kexec_lc0 HK 0 _ (by rfl) (by rfl) (by rfl)) (by rfl) ?_)
   refine(HAs.out _ HK.out.b).mono ?_;rintro e w1 ⟨rfl,b1⟩
   replace HK:=hkC HK b1;clear b1
   go_wp2_with (first|refine wpList_exe (kexec_lr HK 0 _ (by rfl) (by rfl) (by rfl)) (by rfl) ?_|(refine wpList_mk1 rfLay (p:=r) HK (by decide) rfl _ rfl rfl rfl ?_;intro _ g5 HK';simp only[lcA,lnA] at HK';have HR:=zH (HK'.out.own 0 rfl).rd;replace HK:=HK';clear HK')|(refine wpList_mks2 rfLay rfNest HK rfl _ _ rfl rfl rfl ?_;intro w2 g7 HK' _;simp only[lcA,lnA] at HK';replace HK:=HK';clear HK'))
   refine(HJ.out.two HK 1 rfl (HS.out.later HK.out.b) (Sls.own (HK.out.own 0 rfl) HF.out) (by show(n+1)*24≤_;omega)).mono ?_;rintro e w3 ⟨A4,n4,c4,rfl,o4,b4⟩
   replace HK:=zH (HK.out.called b4 o4)
   clear o4 b4
   go_wp2_with fail
   exact ret_t3 Tryz.results182 rfl rfl rfl rfl ⟨A4,n4,c4,rfl,HK.out.own 1 rfl,HK.out.b⟩
  ·have hz:((n:Int)==0)=false:=by simpa using h0
   rw[decide_eq_false h0]
   clear h0
   go_enter Tryz.func182,Tryz.ntmps182
   go_wp2_with fail
   refine(HM.out _ HK.out.b).mono ?_;rintro e w1 ⟨rfl,b1⟩
   replace HK:=hkC HK b1;clear b1
   go_wp2_with (first|refine wpList_exe (kexec_lr HK 0 _ (by rfl) (by rfl) (by rfl)) (by rfl) ?_)
   refine(HC.out _).mono ?_;rintro e w1 ⟨rfl,b1⟩
   replace HK:=hkC HK b1;clear b1
   go_wp2_with (first|refine wpList_exe (kexec_lc0 HK 0 _ (by rfl) (by rfl) (by rfl)) (by rfl) ?_)
   refine(HAs.out _ HK.out.b).mono ?_;rintro e w1 ⟨rfl,b1⟩
   replace HK:=hkC HK b1;clear b1
   go_wp2_with (first|refine wpList_exe (kexec_lr HK 0 _ (by rfl) (by rfl) (by rfl)) (by rfl) ?_|(refine wpList_mk1 rfLay (p:=r) HK (by decide) rfl _ rfl rfl rfl ?_;intro _ g5 HK';simp only[lcA,lnA] at HK';have HR:=zH (HK'.out.own 0 rfl).rd;replace HK:=HK';clear HK')|(refine wpList_mks2 rfLay rfNest HK rfl _ _ rfl rfl rfl ?_;intro w2 g7 HK' _;simp only[lcA,lnA] at HK';replace HK:=HK';clear HK'))
   refine(HJ.out.two HK 1 rfl (HS.out.later HK.out.b) (Sls.own (HK.out.own 0 rfl) HF.out) (by show(n+1)*24≤_;omega)).mono ?_;rintro e w3 ⟨A4,n4,c4,rfl,o4,b4⟩
   replace HK:=zH (HK.out.called b4 o4)
   clear o4 b4
   go_wp2_with fail
   exact ret_t3 Tryz.results182 rfl rfl rfl rfl ⟨A4,n4,c4,rfl,HK.out.own 1 rfl,HK.out.b⟩
theorem lfree_any(A:Option Addr)(c n:Nat)(l:List Rf)(r:Rf)(w:World)(hs:Sls rfLay rF w A n c l):
  Calls Tryz.prog 183 #[.slice A n c,.agg #[.int .i64 r.c,.int .i64 r.e,.int .i64 r.r]] w (IsFr (Lck.frL l r) (Lck.frN l r) (Lck.frS l r) (Lck.frE l r) w):=by
 have HM:=zH (fun W (hW:Below w.heap.size w W)=>lright_any A c n l W (hs.later hW))
 have HSe:=zH (fun x W=>session_any x W)
 have HS:=zH hs
 have HJ:=zH rconcat_any
 have hlen:=hs.len
 have HK:=kn1 w 35 #[.int .i64 r.c,.int .i64 r.e,.int .i64 r.r]
 unfold IsB IsFr at *
 by_cases hr:Lck.Right l
 case neg=>
  rw[decide_eq_false hr] at HM
  obtain⟨e1,e2,e3,e4⟩:=Lck.fr_bad (r:=r) hr
  rw[e1,e2,e3,e4]
  clear e1 e2 e3 e4 hr hs hlen HSe
  go_enter Tryz.func183,Tryz.ntmps183
  go_wp2_with (first|(refine wpList_akr HK rfl rfl ?_;intro _ g1 HK';simp only[lcA,lnA] at HK';replace HK:=HK';clear HK'))
  refine(HM.out _ HK.out.b).mono ?_;rintro e w1 ⟨rfl,b1⟩
  replace HK:=hkC HK b1;clear b1
  go_wp2_with (first|(refine wpList_mks1 rfLay rfNest HK rfl _ rfl rfl ?_;intro w2 g7 HK' _;simp only[lcA,lnA] at HK';replace HK:=HK';clear HK'))
  refine(HJ.out.one HK 2 rfl (HS.out.later HK.out.b)).mono ?_;rintro e w3 ⟨A4,n4,c4,rfl,o4,b4⟩;replace HK:=zH (HK.out.called b4 o4);simp only[lnA] at HK;clear o4 b4
  go_wp2_with (first|(refine wpList_sr HK 1 rfl _ _ rfl rfl rfl rfl ?_;intro _ HK';simp only[List.set] at HK';replace HK:=HK';clear HK'))
  exact ret_srbe Tryz.results183 rfl rfl rfl rfl rfl (HK.out.blk 1 rfl) ⟨A4,n4,c4,rfl,HK.out.own 0 rfl,HK.out.b⟩
 case pos=>
 rw[decide_eq_true hr] at HM
 by_cases h0:n=0
 ·subst h0
  obtain⟨e1,e2,e3,e4⟩:=Lck.fr_none (r:=r) hr hlen
  rw[e1,e2,e3,e4]
  clear e1 e2 e3 e4 hr hs hlen HSe
  go_enter Tryz.func183,Tryz.ntmps183
  go_wp2_with (first|(refine wpList_akr HK rfl rfl ?_;intro _ g1 HK';simp only[lcA,lnA] at HK';replace HK:=HK';clear HK'))
  refine(HM.out _ HK.out.b).mono ?_;rintro e w1 ⟨rfl,b1⟩
  replace HK:=hkC HK b1;clear b1
  go_wp2_with fail
  refine wp_region_held_drew (S:=(fun W=>Hid (Kn w.heap.size w W [(w.heap.size,35,#[.int .i64 r.c,.int .i64 r.e,.int .i64 r.r]),(g1,35,#[.int .i64 0,.int .i64 0,.int .i64 0])] []))) (by kernel_rfl) ?_ (fun hHeld=>?_)
  ·(try dsimp only);exact zH HK.out.drew
  refine wpAnyH_take (i:=0) (oi:=⟨some 20,_,_,_,_,_⟩) (v:=?_) rfl (by kernel_rfl) (by kernel_rfl) (by kernel_rfl) (fun _ _ _ h=>h) (Or.inl ⟨by rfl,?_⟩) (by assumption) ?_
  rotate_left
  ·(intro w hSw;(try dsimp only at hSw);go_simp;try with_reducible rfl)
  try simp only[Act.put,List.setIfInBounds_toArray,List.set_cons_zero,List.set_cons_succ]
  refine wpAnyH_take (i:=1) (oi:=⟨some 21,_,_,_,_,_⟩) (v:=?_) rfl (by kernel_rfl) (by kernel_rfl) (by kernel_rfl) (fun _ _ _ h=>h) (Or.inl ⟨by rfl,?_⟩) (by assumption) ?_
  rotate_left
  ·(intro w hSw;(try dsimp only at hSw);go_simp;try with_reducible rfl)
  try simp only[Act.put,List.setIfInBounds_toArray,List.set_cons_zero,List.set_cons_succ]
  refine wpAnyH_take (i:=2) (oi:=⟨some 22,_,_,_,_,_⟩) (v:=?_) rfl (by kernel_rfl) (by kernel_rfl) (by kernel_rfl) (fun _ _ _ h=>h) (Or.inl ⟨by rfl,?_⟩) (by assumption) ?_
  rotate_left
  ·(intro w hSw;(try dsimp only at hSw);go_simp;try with_reducible rfl)
  try simp only[Act.put,List.setIfInBounds_toArray,List.set_cons_zero,List.set_cons_succ]
  refine wpAnyH_take (i:=3) (oi:=⟨some 23,_,_,_,_,_⟩) (v:=?_) rfl (by kernel_rfl) (by kernel_rfl) (by kernel_rfl) (fun _ _ _ h=>h) (Or.inl ⟨by rfl,?_⟩) (by assumption) ?_
  rotate_left
  ·(intro w hSw;(try dsimp only at hSw);go_simp;try with_reducible rfl)
  try simp only[Act.put,List.setIfInBounds_toArray,List.set_cons_zero,List.set_cons_succ]
  refine wpAnyH_take (i:=4) (oi:=⟨some 24,_,_,_,_,_⟩) (v:=undef) rfl (by kernel_rfl) (by kernel_rfl) (by kernel_rfl) (fun _ _ _ h=>h) (Or.inr ⟨by rfl,rfl⟩) (by assumption) ?_
  try simp only[Act.put,List.setIfInBounds_toArray,List.set_cons_zero,List.set_cons_succ]
  refine wpAnyH_take (i:=5) (oi:=⟨some 25,_,_,_,_,_⟩) (v:=undef) rfl (by kernel_rfl) (by kernel_rfl) (by kernel_rfl) (fun _ _ _ h=>h) (Or.inr ⟨by rfl,rfl⟩) (by assumption) ?_
  try simp only[Act.put,List.setIfInBounds_toArray,List.set_cons_zero,List.set_cons_succ]
  refine wpAnyH_take (i:=6) (oi:=⟨some 26,_,_,_,_,_⟩) (v:=undef) rfl (by kernel_rfl) (by kernel_rfl) (by kernel_rfl) (fun _ _ _ h=>h) (Or.inr ⟨by rfl,rfl⟩) (by assumption) ?_
  try simp only[Act.put,List.setIfInBounds_toArray,List.set_cons_zero,List.set_cons_succ]
  refine wpAnyH_take (i:=7) (oi:=⟨some 27,_,_,_,_,_⟩) (v:=undef) rfl (by kernel_rfl) (by kernel_rfl) (by kernel_rfl) (fun _ _ _ h=>h) (Or.inr ⟨by rfl,rfl⟩) (by assumption) ?_
  try simp only[Act.put,List.setIfInBounds_toArray,List.set_cons_zero,List.set_cons_succ]
  refine wpAnyH_take (i:=8) (oi:=⟨some 28,_,_,_,_,_⟩) (v:=undef) rfl (by kernel_rfl) (by kernel_rfl) (by kernel_rfl) (fun _ _ _ h=>h) (Or.inr ⟨by rfl,rfl⟩) (by assumption) ?_
  try simp only[Act.put,List.setIfInBounds_toArray,List.set_cons_zero,List.set_cons_succ]
  refine wpAnyH_take (i:=9) (oi:=⟨some 29,_,_,_,_,_⟩) (v:=undef) rfl (by kernel_rfl) (by kernel_rfl) (by kernel_rfl) (fun _ _ _ h=>h) (Or.inr ⟨by rfl,rfl⟩) (by assumption) ?_
  try simp only[Act.put,List.setIfInBounds_toArray,List.set_cons_zero,List.set_cons_succ]
  refine wpAnyH_take (i:=10) (oi:=⟨some 30,_,_,_,_,_⟩) (v:=undef) rfl (by kernel_rfl) (by kernel_rfl) (by kernel_rfl) (fun _ _ _ h=>h) (Or.inr ⟨by rfl,rfl⟩) (by assumption) ?_
  try simp only[Act.put,List.setIfInBounds_toArray,List.set_cons_zero,List.set_cons_succ]
  refine wpAnyH_take (i:=11) (oi:=⟨some 31,_,_,_,_,_⟩) (v:=?_) rfl (by kernel_rfl) (by kernel_rfl) (by kernel_rfl) (fun _ _ _ h=>h) (Or.inl ⟨by rfl,?_⟩) (by assumption) ?_
  rotate_left
  ·(intro w hSw;(try dsimp only at hSw);go_simp;try with_reducible rfl)
  try simp only[Act.put,List.setIfInBounds_toArray,List.set_cons_zero,List.set_cons_succ]
  refine wpAnyH_take (i:=12) (oi:=⟨some 19,_,_,_,_,_⟩) (v:=?_) rfl (by kernel_rfl) (by kernel_rfl) (by kernel_rfl) (fun _ _ _ h=>h) (Or.inl ⟨by rfl,?_⟩) (by assumption) ?_
  rotate_left
  ·(intro w hSw;(try dsimp only at hSw);go_simp;try with_reducible rfl)
  try simp only[Act.put,List.setIfInBounds_toArray,List.set_cons_zero,List.set_cons_succ]
  refine wpAnyH_done (by kernel_rfl) ?_ _
  replace HK:=hHeld
  clear hHeld
  go_wp2_with (first|(refine wpList_mks1 rfLay rfNest HK rfl _ rfl rfl ?_;intro w2 g7 HK' _;simp only[lcA,lnA] at HK';replace HK:=HK';clear HK'))
  refine(HJ.out.one HK 2 rfl (HS.out.later HK.out.b)).mono ?_;rintro e w3 ⟨A4,n4,c4,rfl,o4,b4⟩;replace HK:=zH (HK.out.called b4 o4);simp only[lnA] at HK;clear o4 b4
  go_wp2_with (first|(refine wpList_sr HK 1 rfl _ _ rfl rfl rfl rfl ?_;intro _ HK';simp only[List.set] at HK';replace HK:=HK';clear HK'))
  exact ret_srbe Tryz.results183 rfl rfl rfl rfl rfl (HK.out.blk 1 rfl) ⟨A4,n4,c4,rfl,HK.out.own 0 rfl,HK.out.b⟩
 ·have hpos:0<n:=by omega
  have hz:((n:Int)==0)=false:=by simpa using h0
  obtain⟨x,hx,_⟩:=hs.get hpos
  have HD:=zH (hs.drop (lo:=1) hpos)
  have hlx:=List.length_drop (i:=1) (l:=l)
  obtain⟨b,o,rfl,hat⟩:=hs.at hpos
  have HX:=zH (fun W hW=>hat W hW 0 x hx)
  have HMi:=mine_ne x r
  by_cases hm:Lck.mine x r
  case neg=>
   obtain⟨e1,e2,e3,e4⟩:=Lck.fr_other hr hx hm
   rw[e1,e2,e3,e4]
   rw[decide_eq_false hm] at HMi
   replace HMi:=zH HMi
   clear e1 e2 e3 e4 hr hs hlen h0 hat hx hm hlx HD
   go_enter Tryz.func183,Tryz.ntmps183
   go_wp2_with (first|(refine wpList_akr HK rfl rfl ?_;intro _ g1 HK';simp only[lcA,lnA] at HK';replace HK:=HK';clear HK'))
   refine(HM.out _ HK.out.b).mono ?_;rintro e w1 ⟨rfl,b1⟩
   replace HK:=hkC HK b1;clear b1
   go_wp2_with fail
   refine wp_region_held_drew (S:=(fun W=>Hid (Kn w.heap.size w W [(w.heap.size,35,#[.int .i64 r.c,.int .i64 r.e,.int .i64 r.r]),(g1,35,#[.int .i64 0,.int .i64 0,.int .i64 0])] []))) (by kernel_rfl) ?_ (fun hHeld=>?_)
   ·(try dsimp only);exact zH HK.out.drew
   refine wpAnyH_take (i:=0) (oi:=⟨some 20,_,_,_,_,_⟩) (v:=?_) rfl (by kernel_rfl) (by kernel_rfl) (by kernel_rfl) (fun _ _ _ h=>h) (Or.inl ⟨by rfl,?_⟩) (by assumption) ?_
   rotate_left
   ·(intro w hSw;(try dsimp only at hSw);go_simp;try with_reducible rfl)
   try simp only[Act.put,List.setIfInBounds_toArray,List.set_cons_zero,List.set_cons_succ]
   refine wpAnyH_take (i:=1) (oi:=⟨some 21,_,_,_,_,_⟩) (v:=?_) rfl (by kernel_rfl) (by kernel_rfl) (by kernel_rfl) (fun _ _ _ h=>h) (Or.inl ⟨by rfl,?_⟩) (by assumption) ?_
   rotate_left
   ·(intro w hSw;(try dsimp only at hSw);go_simp;try with_reducible rfl)
   try simp only[Act.put,List.setIfInBounds_toArray,List.set_cons_zero,List.set_cons_succ]
   refine wpAnyH_take (i:=2) (oi:=⟨some 22,_,_,_,_,_⟩) (v:=?_) rfl (by kernel_rfl) (by kernel_rfl) (by kernel_rfl) (fun _ _ _ h=>h) (Or.inl ⟨by rfl,?_⟩) (by assumption) ?_
   rotate_left
   ·(intro w hSw;(try dsimp only at hSw);go_simp;try with_reducible rfl)
   try simp only[Act.put,List.setIfInBounds_toArray,List.set_cons_zero,List.set_cons_succ]
   refine wpAnyH_take (i:=3) (oi:=⟨some 23,_,_,_,_,_⟩) (v:=?_) rfl (by kernel_rfl) (by kernel_rfl) (by kernel_rfl) (fun _ _ _ h=>h) (Or.inl ⟨by rfl,?_⟩) (by assumption) ?_
   rotate_left
   ·(intro w hSw;(try dsimp only at hSw);go_simp;try with_reducible rfl)
   try simp only[Act.put,List.setIfInBounds_toArray,List.set_cons_zero,List.set_cons_succ]
   refine wpAnyH_take (i:=4) (oi:=⟨some 24,_,_,_,_,_⟩) (v:=?_) rfl (by kernel_rfl) (by kernel_rfl) (by kernel_rfl) (fun _ _ _ h=>h) (Or.inl ⟨by rfl,?_⟩) (by assumption) ?_
   rotate_left
   ·(intro w hSw;(try dsimp only at hSw);go_simp;try with_reducible rfl)
   try simp only[Act.put,List.setIfInBounds_toArray,List.set_cons_zero,List.set_cons_succ]
   refine wpAnyH_take (i:=5) (oi:=⟨some 25,_,_,_,_,_⟩) (v:=?_) rfl (by kernel_rfl) (by kernel_rfl) (by kernel_rfl) (fun _ _ _ h=>h) (Or.inl ⟨by rfl,?_⟩) (by assumption) ?_
   rotate_left
   ·(intro w hSw;refine Eq.trans (exec_ixr (i:=0) _ _ (by rfl) (by rfl) (by rfl) hpos) ?_;with_reducible rfl)
   try simp only[Act.put,List.setIfInBounds_toArray,List.set_cons_zero,List.set_cons_succ]
   refine wpAnyH_take (i:=6) (oi:=⟨some 26,_,_,_,_,_⟩) (v:=?_) rfl (by kernel_rfl) (by kernel_rfl) (by kernel_rfl) (fun _ _ _ h=>h) (Or.inl ⟨by rfl,?_⟩) (by assumption) ?_
   rotate_left
   ·(intro w hSw;refine Eq.trans (exec_lr (x:=x) (off:=o+0*3) _ (by rfl) (by rfl) (HX.out _ hSw.out.b)) ?_;with_reducible rfl)
   try simp only[Act.put,List.setIfInBounds_toArray,List.set_cons_zero,List.set_cons_succ]
   refine wpAnyH_take (i:=8) (oi:=⟨some 28,_,_,_,_,_⟩) (v:=?_) rfl (by kernel_rfl) (by kernel_rfl) (by kernel_rfl) (fun _ _ _ h=>h) (Or.inl ⟨by rfl,?_⟩) (by assumption) ?_
   rotate_left
   ·(intro w hSw;refine Eq.trans (kexec_lr hSw 0 _ (by rfl) (by rfl) (by rfl)) ?_;with_reducible rfl)
   try simp only[Act.put,List.setIfInBounds_toArray,List.set_cons_zero,List.set_cons_succ]
   refine wpAnyH_ready (rs:=[7]) (by kernel_rfl) (by simp) ?_
   refine AllReadyH.cons (o:=⟨some 27,_,_,_,_,_⟩) rfl (fun K hK=>?_) AllReadyH.nil
   go_simp
   go_at_call 180
   refine(HSe.out x _).mono ?_;rintro e w5 ⟨rfl,b5⟩;have hs:=zH (hHeld.out.call b5);clear b5
   refine hK.out _ _ hs (fun hHeld=>?_)
   clear hK K
   try simp only[ap1,ap2,ap3,ap4,ap5]
   refine wpAnyH_ready (rs:=[9]) (by kernel_rfl) (by simp) ?_
   refine AllReadyH.cons (o:=⟨some 29,_,_,_,_,_⟩) rfl (fun K hK=>?_) AllReadyH.nil
   go_simp
   go_at_call 180
   refine(HSe.out r _).mono ?_;rintro e w5 ⟨rfl,b5⟩;have hs:=zH (hHeld.out.call b5);clear b5
   refine hK.out _ _ hs (fun hHeld=>?_)
   clear hK K
   try simp only[ap1,ap2,ap3,ap4,ap5]
   refine wpAnyH_take (i:=10) (oi:=⟨some 30,_,_,_,_,_⟩) (v:=?_) rfl (by kernel_rfl) (by kernel_rfl) (by kernel_rfl) (fun _ _ _ h=>h) (Or.inl ⟨by rfl,?_⟩) (by assumption) ?_
   rotate_left
   ·(intro w hSw;refine Eq.trans (exec_rne (v:=⟨x.c,x.e,0⟩) (u:=⟨r.c,r.e,0⟩) _ _ (by rfl) (by rfl) (by rfl) HMi.out) ?_;with_reducible rfl)
   try simp only[Act.put,List.setIfInBounds_toArray,List.set_cons_zero,List.set_cons_succ]
   refine wpAnyH_take (i:=11) (oi:=⟨some 31,_,_,_,_,_⟩) (v:=?_) rfl (by kernel_rfl) (by kernel_rfl) (by kernel_rfl) (fun _ _ _ h=>h) (Or.inl ⟨by rfl,?_⟩) (by assumption) ?_
   rotate_left
   ·(intro w hSw;(try dsimp only at hSw);go_simp;try with_reducible rfl)
   try simp only[Act.put,List.setIfInBounds_toArray,List.set_cons_zero,List.set_cons_succ]
   refine wpAnyH_take (i:=12) (oi:=⟨some 19,_,_,_,_,_⟩) (v:=?_) rfl (by kernel_rfl) (by kernel_rfl) (by kernel_rfl) (fun _ _ _ h=>h) (Or.inl ⟨by rfl,?_⟩) (by assumption) ?_
   rotate_left
   ·(intro w hSw;(try dsimp only at hSw);go_simp;try with_reducible rfl)
   try simp only[Act.put,List.setIfInBounds_toArray,List.set_cons_zero,List.set_cons_succ]
   refine wpAnyH_done (by kernel_rfl) ?_ _
   replace HK:=hHeld
   clear hHeld
   go_wp2_with (first|(refine wpList_mks1 rfLay rfNest HK rfl _ rfl rfl ?_;intro w2 g7 HK' _;simp only[lcA,lnA] at HK';replace HK:=HK';clear HK'))
   refine(HJ.out.one HK 2 rfl (HS.out.later HK.out.b)).mono ?_;rintro e w3 ⟨A4,n4,c4,rfl,o4,b4⟩;replace HK:=zH (HK.out.called b4 o4);simp only[lnA] at HK;clear o4 b4
   go_wp2_with (first|(refine wpList_sr HK 1 rfl _ _ rfl rfl rfl rfl ?_;intro _ HK';simp only[List.set] at HK';replace HK:=HK';clear HK'))
   exact ret_srbe Tryz.results183 rfl rfl rfl rfl rfl (HK.out.blk 1 rfl) ⟨A4,n4,c4,rfl,HK.out.own 0 rfl,HK.out.b⟩
  case pos=>
  obtain⟨e1,e2,e3,e4⟩:=Lck.fr_take hr hx hm
  rw[e1,e2,e3,e4]
  rw[decide_eq_true hm] at HMi
  replace HMi:=zH HMi
  have HFd:=zH HD.out.fit
  have HH:=zH (fun W A c n (h:Sls rfLay rF W A n c (l.drop 1))=>holder_any A c n (l.drop 1) W h)
  clear e1 e2 e3 e4 hr hs hlen h0 hat hx hm hlx
  generalize (l.drop 1).headD Lck.zero=y at *
  generalize l.drop 1=m at *
  go_enter Tryz.func183,Tryz.ntmps183
  go_wp2_with (first|(refine wpList_akr HK rfl rfl ?_;intro _ g1 HK';simp only[lcA,lnA] at HK';replace HK:=HK';clear HK'))
  refine(HM.out _ HK.out.b).mono ?_;rintro e w1 ⟨rfl,b1⟩
  replace HK:=hkC HK b1;clear b1
  go_wp2_with fail
  refine wp_region_held_drew (S:=(fun W=>Hid (Kn w.heap.size w W [(w.heap.size,35,#[.int .i64 r.c,.int .i64 r.e,.int .i64 r.r]),(g1,35,#[.int .i64 0,.int .i64 0,.int .i64 0])] []))) (by kernel_rfl) ?_ (fun hHeld=>?_)
  ·(try dsimp only);exact zH HK.out.drew
  refine wpAnyH_take (i:=0) (oi:=⟨some 20,_,_,_,_,_⟩) (v:=?_) rfl (by kernel_rfl) (by kernel_rfl) (by kernel_rfl) (fun _ _ _ h=>h) (Or.inl ⟨by rfl,?_⟩) (by assumption) ?_
  rotate_left
  ·(intro w hSw;(try dsimp only at hSw);go_simp;try with_reducible rfl)
  try simp only[Act.put,List.setIfInBounds_toArray,List.set_cons_zero,List.set_cons_succ]
  refine wpAnyH_take (i:=1) (oi:=⟨some 21,_,_,_,_,_⟩) (v:=?_) rfl (by kernel_rfl) (by kernel_rfl) (by kernel_rfl) (fun _ _ _ h=>h) (Or.inl ⟨by rfl,?_⟩) (by assumption) ?_
  rotate_left
  ·(intro w hSw;(try dsimp only at hSw);go_simp;try with_reducible rfl)
  try simp only[Act.put,List.setIfInBounds_toArray,List.set_cons_zero,List.set_cons_succ]
  refine wpAnyH_take (i:=2) (oi:=⟨some 22,_,_,_,_,_⟩) (v:=?_) rfl (by kernel_rfl) (by kernel_rfl) (by kernel_rfl) (fun _ _ _ h=>h) (Or.inl ⟨by rfl,?_⟩) (by assumption) ?_
  rotate_left
  ·(intro w hSw;(try dsimp only at hSw);go_simp;try with_reducible rfl)
  try simp only[Act.put,List.setIfInBounds_toArray,List.set_cons_zero,List.set_cons_succ]
  refine wpAnyH_take (i:=3) (oi:=⟨some 23,_,_,_,_,_⟩) (v:=?_) rfl (by kernel_rfl) (by kernel_rfl) (by kernel_rfl) (fun _ _ _ h=>h) (Or.inl ⟨by rfl,?_⟩) (by assumption) ?_
  rotate_left
  ·(intro w hSw;(try dsimp only at hSw);go_simp;try with_reducible rfl)
  try simp only[Act.put,List.setIfInBounds_toArray,List.set_cons_zero,List.set_cons_succ]
  refine wpAnyH_take (i:=4) (oi:=⟨some 24,_,_,_,_,_⟩) (v:=?_) rfl (by kernel_rfl) (by kernel_rfl) (by kernel_rfl) (fun _ _ _ h=>h) (Or.inl ⟨by rfl,?_⟩) (by assumption) ?_
  rotate_left
  ·(intro w hSw;(try dsimp only at hSw);go_simp;try with_reducible rfl)
  try simp only[Act.put,List.setIfInBounds_toArray,List.set_cons_zero,List.set_cons_succ]
  refine wpAnyH_take (i:=5) (oi:=⟨some 25,_,_,_,_,_⟩) (v:=?_) rfl (by kernel_rfl) (by kernel_rfl) (by kernel_rfl) (fun _ _ _ h=>h) (Or.inl ⟨by rfl,?_⟩) (by assumption) ?_
  rotate_left
  ·(intro w hSw;refine Eq.trans (exec_ixr (i:=0) _ _ (by rfl) (by rfl) (by rfl) hpos) ?_;with_reducible rfl)
  try simp only[Act.put,List.setIfInBounds_toArray,List.set_cons_zero,List.set_cons_succ]
  refine wpAnyH_take (i:=6) (oi:=⟨some 26,_,_,_,_,_⟩) (v:=?_) rfl (by kernel_rfl) (by kernel_rfl) (by kernel_rfl) (fun _ _ _ h=>h) (Or.inl ⟨by rfl,?_⟩) (by assumption) ?_
  rotate_left
  ·(intro w hSw;refine Eq.trans (exec_lr (x:=x) (off:=o+0*3) _ (by rfl) (by rfl) (HX.out _ hSw.out.b)) ?_;with_reducible rfl)
  try simp only[Act.put,List.setIfInBounds_toArray,List.set_cons_zero,List.set_cons_succ]
  refine wpAnyH_take (i:=8) (oi:=⟨some 28,_,_,_,_,_⟩) (v:=?_) rfl (by kernel_rfl) (by kernel_rfl) (by kernel_rfl) (fun _ _ _ h=>h) (Or.inl ⟨by rfl,?_⟩) (by assumption) ?_
  rotate_left
  ·(intro w hSw;refine Eq.trans (kexec_lr hSw 0 _ (by rfl) (by rfl) (by rfl)) ?_;with_reducible rfl)
  try simp only[Act.put,List.setIfInBounds_toArray,List.set_cons_zero,List.set_cons_succ]
  refine wpAnyH_ready (rs:=[7]) (by kernel_rfl) (by simp) ?_
  refine AllReadyH.cons (o:=⟨some 27,_,_,_,_,_⟩) rfl (fun K hK=>?_) AllReadyH.nil
  go_simp
  go_at_call 180
  refine(HSe.out x _).mono ?_;rintro e w5 ⟨rfl,b5⟩;have hs:=zH (hHeld.out.call b5);clear b5
  refine hK.out _ _ hs (fun hHeld=>?_)
  clear hK K
  try simp only[ap1,ap2,ap3,ap4,ap5]
  refine wpAnyH_ready (rs:=[9]) (by kernel_rfl) (by simp) ?_
  refine AllReadyH.cons (o:=⟨some 29,_,_,_,_,_⟩) rfl (fun K hK=>?_) AllReadyH.nil
  go_simp
  go_at_call 180
  refine(HSe.out r _).mono ?_;rintro e w5 ⟨rfl,b5⟩;have hs:=zH (hHeld.out.call b5);clear b5
  refine hK.out _ _ hs (fun hHeld=>?_)
  clear hK K
  try simp only[ap1,ap2,ap3,ap4,ap5]
  refine wpAnyH_take (i:=10) (oi:=⟨some 30,_,_,_,_,_⟩) (v:=?_) rfl (by kernel_rfl) (by kernel_rfl) (by kernel_rfl) (fun _ _ _ h=>h) (Or.inl ⟨by rfl,?_⟩) (by assumption) ?_
  rotate_left
  ·(intro w hSw;refine Eq.trans (exec_rne (v:=⟨x.c,x.e,0⟩) (u:=⟨r.c,r.e,0⟩) _ _ (by rfl) (by rfl) (by rfl) HMi.out) ?_;with_reducible rfl)
  try simp only[Act.put,List.setIfInBounds_toArray,List.set_cons_zero,List.set_cons_succ]
  refine wpAnyH_take (i:=11) (oi:=⟨some 31,_,_,_,_,_⟩) (v:=?_) rfl (by kernel_rfl) (by kernel_rfl) (by kernel_rfl) (fun _ _ _ h=>h) (Or.inl ⟨by rfl,?_⟩) (by assumption) ?_
  rotate_left
  ·(intro w hSw;(try dsimp only at hSw);go_simp;try with_reducible rfl)
  try simp only[Act.put,List.setIfInBounds_toArray,List.set_cons_zero,List.set_cons_succ]
  refine wpAnyH_take (i:=12) (oi:=⟨some 19,_,_,_,_,_⟩) (v:=?_) rfl (by kernel_rfl) (by kernel_rfl) (by kernel_rfl) (fun _ _ _ h=>h) (Or.inl ⟨by rfl,?_⟩) (by assumption) ?_
  rotate_left
  ·(intro w hSw;(try dsimp only at hSw);go_simp;try with_reducible rfl)
  try simp only[Act.put,List.setIfInBounds_toArray,List.set_cons_zero,List.set_cons_succ]
  refine wpAnyH_done (by kernel_rfl) ?_ _
  replace HK:=hHeld
  clear hHeld
  go_wp2_with (first|refine wpList_exe (exec_srl (lo:=1) _ _ (by rfl) (by rfl) (by rfl) hpos) (by rfl) ?_|(refine wpList_mks1 rfLay rfNest HK rfl _ rfl rfl ?_;intro w2 g7 HK' _;simp only[lcA,lnA] at HK';replace HK:=HK';clear HK'))
  refine(HJ.out.one HK 2 rfl (HD.out.later HK.out.b)).mono ?_;rintro e w3 ⟨A4,n4,c4,rfl,o4,b4⟩
  obtain rfl:=(Lay.Own.reads o4).1
  replace HK:=zH (HK.out.called b4 o4)
  simp only[lnA] at HK
  clear o4 b4
  go_wp2_with fail
  refine(HH.out _ _ _ _ (Sls.own (HK.out.own 0 rfl) HFd.out)).mono ?_;rintro e w1 ⟨rfl,b1⟩
  replace HK:=hkC HK b1;clear b1
  go_wp2_with (first|(refine wpList_akr HK rfl rfl ?_;intro _ g9 HK';simp only[lcA,lnA] at HK';replace HK:=HK';clear HK')|(refine wpList_sr HK 3 rfl _ _ rfl rfl rfl rfl ?_;intro _ HK';simp only[List.set] at HK';replace HK:=HK';clear HK'))
  have HK0:=zH HK.out.drew
  refine wp_region_held_drew (S:=(fun W=>Hid (Kn w.heap.size w W [(g9,35,#[.int .i64 y.c,.int .i64 y.e,.int .i64 y.r])] []))) (by kernel_rfl) ?_ (fun hHeld=>?_)
  ·(try dsimp only);exact zH ((HK0.out.dropL 3).takeR 0)
  refine wpAnyH_take (i:=0) (oi:=⟨some 45,_,_,_,_,_⟩) (v:=?_) rfl (by kernel_rfl) (by kernel_rfl) (by kernel_rfl) (fun _ _ _ h=>h) (Or.inl ⟨by rfl,?_⟩) (by assumption) ?_
  rotate_left
  ·(intro w hSw;(try dsimp only at hSw);go_simp;try with_reducible rfl)
  try simp only[Act.put,List.setIfInBounds_toArray,List.set_cons_zero,List.set_cons_succ]
  refine wpAnyH_take (i:=1) (oi:=⟨some 46,_,_,_,_,_⟩) (v:=?_) rfl (by kernel_rfl) (by kernel_rfl) (by kernel_rfl) (fun _ _ _ h=>h) (Or.inl ⟨by rfl,?_⟩) (by assumption) ?_
  rotate_left
  ·(intro w hSw;refine Eq.trans (kexec_lr hSw 0 _ (by rfl) (by rfl) (by rfl)) ?_;with_reducible rfl)
  try simp only[Act.put,List.setIfInBounds_toArray,List.set_cons_zero,List.set_cons_succ]
  refine wpAnyH_take (i:=2) (oi:=⟨some 47,_,_,_,_,_⟩) (v:=?_) rfl (by kernel_rfl) (by kernel_rfl) (by kernel_rfl) (fun _ _ _ h=>h) (Or.inl ⟨by rfl,?_⟩) (by assumption) ?_
  rotate_left
  ·(intro w hSw;(try dsimp only at hSw);go_simp;try with_reducible rfl)
  try simp only[Act.put,List.setIfInBounds_toArray,List.set_cons_zero,List.set_cons_succ]
  refine wpAnyH_take (i:=3) (oi:=⟨some 4,_,_,_,_,_⟩) (v:=?_) rfl (by kernel_rfl) (by kernel_rfl) (by kernel_rfl) (fun _ _ _ h=>h) (Or.inl ⟨by rfl,?_⟩) (by assumption) ?_
  rotate_left
  ·(intro w hSw;(try dsimp only at hSw);go_simp;try with_reducible rfl)
  try simp only[Act.put,List.setIfInBounds_toArray,List.set_cons_zero,List.set_cons_succ]
  refine wpAnyH_ready (rs:=[4]) (by kernel_rfl) (by simp) ?_
  refine AllReadyH.cons (o:=⟨none,_,_,_,_,_⟩) rfl (fun K hK=>?_) AllReadyH.nil
  refine step_sr HK0 1 (by rfl) _ _ (by rfl) (by rfl) (by rfl) (by rfl) ?_;intro wq HK';simp only[List.set] at HK';replace HK0:=HK';clear HK';have hs:=zH ((HK0.out.dropL 3).takeR 0)
  refine hK.out _ _ hs (fun hHeld=>?_)
  clear hK K
  try simp only[ap1,ap2,ap3,ap4,ap5]
  refine wpAnyH_take (i:=5) (oi:=⟨some 6,_,_,_,_,_⟩) (v:=?_) rfl (by kernel_rfl) (by kernel_rfl) (by kernel_rfl) (fun _ _ _ h=>h) (Or.inl ⟨by rfl,?_⟩) (by assumption) ?_
  rotate_left
  ·(intro w hSw;(try dsimp only at hSw);go_simp;try with_reducible rfl)
  try simp only[Act.put,List.setIfInBounds_toArray,List.set_cons_zero,List.set_cons_succ]
  refine wpAnyH_take (i:=6) (oi:=⟨some 7,_,_,_,_,_⟩) (v:=?_) rfl (by kernel_rfl) (by kernel_rfl) (by kernel_rfl) (fun _ _ _ h=>h) (Or.inl ⟨by rfl,?_⟩) (by assumption) ?_
  rotate_left
  ·(intro w hSw;(try dsimp only at hSw);go_simp;try with_reducible rfl)
  try simp only[Act.put,List.setIfInBounds_toArray,List.set_cons_zero,List.set_cons_succ]
  refine wpAnyH_done (by kernel_rfl) ?_ _
  all_goals
   go_wp2_with fail
   exact ret_srbe Tryz.results183 rfl rfl rfl rfl rfl (HK0.out.blk 1 rfl) ⟨A4,_,c4,rfl,HK0.out.own 0 rfl,HK0.out.b⟩
end
section
open Go.RowKit
theorem ogrow_any(n:Nat)(w:World)(hB0:n*144≤140737488355328):Calls Tryz.prog 179 #[.slice none 0 0,.int .i64 n] w fun e w'=>∃A c,e=.returned (.slice A 0 c)∧obLay.Own w.heap.size w' (.slice A 0 c) []∧Below w.heap.size w w':=by
 by_cases h0:n=0
 ·subst h0
  have HK:=zH (Kn.start w)
  clear hB0
  go_enter Tryz.func179,Tryz.ntmps179
  go_wp2_with fail
  go_ret
  exact⟨_,_,rfl,Lay.Own.none _ _,HK.out.b⟩
 obtain⟨i0,hi,hz0,hz1,hz2⟩:=info_parts obLay.info
 have hc1:=grownCap_ge w n 0 60
 have hr:=Lib.run_append_nil_zeros (P:=Tryz.prog) w 22 3 22 60 i0 obLay.z .i64 .i64 obLay.und Tryz.underlying3 hi hz0 n (by omega) (by rw[hz1];decide) (by omega) (by rw[hz2];show n*144≤_;omega)
 have HR:=zH hr
 have hc2:=grownCap_le_maxLen w n 0 60 (by unfold maxLen;omega)
 generalize grownCap w n 0 60=G at *
 have HO:Hid (obLay.Own w.heap.size (w.drew.alloc (.cells (Builtin.zeroCells obLay.z.cells n++Builtin.zeroCells obLay.z.cells (G-n)) 60)) (.slice (some ⟨w.heap.size,0,none⟩) 0 G) []):=by
  have:=World.ownsRow_made (base:=w.heap.size) (e:=60) (size:=11) w.drew (Builtin.zeroCells obLay.z.cells n++Builtin.zeroCells obLay.z.cells (G-n)) G (Nat.le_refl _) hc2 (by
   rw[Array.size_append,size_zeroCells,size_zeroCells]
   have:obLay.z.cells.size=11:=rfl
   rw[this];omega)
  exact zH this
 have HB:Hid (Below w.heap.size w (w.drew.alloc (.cells (Builtin.zeroCells obLay.z.cells n++Builtin.zeroCells obLay.z.cells (G-n)) 60))):=zH ((Below.refl _ w).drew.alloc (Nat.le_refl _) _)
 generalize w.drew.alloc (.cells (Builtin.zeroCells obLay.z.cells n++Builtin.zeroCells obLay.z.cells (G-n)) 60)=wz at *
 clear hr hi hz0 hz1 hz2 hc1 hc2
 have h1:¬((n:Int)<0):=by omega
 have h2:(0:Int)<(n:Int):=by omega
 have h3:wrap64 (n:Int)=(n:Int):=by unfold wrap64;omega
 go_enter Tryz.func179,Tryz.ntmps179
 go_wp2_with (first|(at_builtin;refine Lib.wpList_append_run _ rfl _ _ _ _ rfl _ _ rfl rfl _ _ HR.out ?_))
 go_ret
 exact⟨_,_,rfl,HO.out,HB.out⟩
theorem oconcat_any:Joins Tryz.prog 153 obLay oF:=by
 intro g m ps w hm hb hg hc hs ht
 replace ht:(catP ps).length*144≤140737488355328:=ht
 have HGo:Hid (∀k,k<m→∃p,ps[k]?=some p∧Sls obLay oF w p.A p.n p.c p.l∧∀W,Below w.heap.size w W→W.cell? ⟨g,k,none⟩=some (.slice p.A p.n p.c)):=zH fun k hk=>by
  obtain⟨p,hp⟩:=Lay.get_of (l:=ps) (k:=k) (by rw[hm];exact hk)
  exact⟨p,hp,hs p (List.mem_of_getElem? hp),fun W hW=>(hW.cell (p:=⟨g,k,none⟩) hg).trans (hc k p hp)⟩
 have HLen:Hid (∀k,(catP (ps.take k)).length*144≤140737488355328):=zH fun k=>Nat.le_trans (Nat.mul_le_mul_right _ (catP_le ps k)) ht
 have HTake:Hid (ps.take m=ps):=zH (by rw[← hm];exact List.take_length)
 have HG:=zH (fun W=>ogrow_any (catP ps).length W ht)
 clear hc hs ht hm hg
 go_enter Tryz.func153,Tryz.ntmps153
 go_wp2_with fail
 go_loopw [3,11] (fun vs vi wr=>∃k:Nat,k≤m∧vs=.int .i64 ((catP (ps.take k)).length:Nat)∧vi=.int .i64 k∧w=wr) (fun _ vi _=>m-(intOf vi).toNat)
 case atStart=>exact⟨0,Nat.zero_le _,rfl,rfl,rfl⟩
 case round=>
  obtain⟨k,hk,rfl,rfl,rfl⟩:=hrel
  by_cases hlt:k<m
  ·obtain⟨p,hp,hsl,hcl⟩:=HGo.out k hlt
   have hcell:=hcl _ (Below.refl _ _)
   have ht:=HLen.out (k+1)
   have he:=catP_more hp
   have hpn:=hsl.len
   rw[he,List.length_append] at ht
   have HE:Hid ((catP (ps.take (k+1))).length=(catP (ps.take k)).length+p.n):=zH (by rw[he,List.length_append,hpn])
   rw[hpn] at ht
   clear he hp hsl hcl hpn
   obtain⟨A,n,c,l⟩:=p
   simp only at hcell ht HE
   generalize (catP (ps.take k)).length=q at *
   have h1:wrap64 ((q:Int)+(n:Int))=((q+n:Nat):Int):=by unfold wrap64;omega
   have h2:¬(((q+n:Nat):Int)<0):=by omega
   have h3:¬((q:Int)+(n:Int)<0):=by omega
   go_wp2_with fail
   exact⟨⟨k+1,by omega,by rw[HE.out];go_num,by go_num,by simp⟩,by simp[intOf];omega⟩
  ·obtain rfl:k=m:=by omega
   rw[HTake.out]
   go_wp2_with fail
   refine(HG.out _).mono ?_;rintro e w1 ⟨A0,c0,rfl,o1,b1⟩
   have HK:=zH ((Kn.start _).called b1 o1)
   simp only[lnA] at HK
   clear b1 o1
   go_wp2_with fail
   go_loopw [6,27] (fun vs vi wr=>∃(q:Nat) (A:Option Addr) (c N:Nat),q≤k∧Hid ((catP (ps.take q)).length=N)∧vs=.slice A N c∧vi=.int .i64 q∧Hid (Kn w.heap.size w wr [] [row obLay (.slice A N c) (catP (ps.take q))])) (fun _ vi _=>k-(intOf vi).toNat)
   case atStart=>exact⟨0,A0,c0,0,Nat.zero_le _,zH rfl,rfl,rfl,HK⟩
   case round=>
    clear HK
    obtain⟨q,A,c,N,hq,hN,rfl,rfl,HK⟩:=hrel
    by_cases hlt:q<k
    ·obtain⟨p,hp,hsl,hcl⟩:=HGo.out q hlt
     have hcell:=hcl _ HK.out.b
     have HR:=zH (let h:=hsl.later HK.out.b;And.intro h.rd h.nl)
     have hlen:=HLen.out (q+1)
     have he:=catP_more hp
     rw[he,List.length_append,hN.out] at hlen
     have HE:=zH he
     have HPl:Hid (p.n=p.l.length):=zH hsl.len.symm
     have HL:Hid ((catP (ps.take q)).length+p.l.length≤9223372036854775807∧((catP (ps.take q)).length+p.l.length)*obLay.bytes≤211106232532992):=zH ⟨by rw[hN.out];omega,by show _*144≤_;rw[hN.out];omega⟩
     have HN2:Hid ((catP (ps.take q)++p.l).length=N+p.l.length):=zH (by rw[List.length_append,hN.out])
     clear he hp hlen hsl hcl
     obtain⟨Ap,np,cp,lp⟩:=p
     simp only at hcell HR HPl HL HN2 HE
     go_wp2_with (first|(at_builtin;refine wpList_kmore HK obLay 0 rfl _ _ rfl rfl rfl lp rfl HPl.out HR HL (N:=N+lp.length) HN2 ?_;intro A4 c4 _ HK';simp only[List.set] at HK';replace HK:=HK';clear HK'))
     refine⟨⟨q+1,A4,c4,N+lp.length,by omega,zH (by rw[HE.out,HN2.out]),rfl,by go_num,?_⟩,by simp[intOf];omega⟩
     rw[HE.out]
     exact HK
    ·obtain rfl:q=k:=by omega
     rw[HTake.out] at HK hN
     obtain rfl:=hN.out
     go_wp2_with fail
     go_ret
     exact⟨A,_,c,rfl,HK.out.own 0 rfl,HK.out.b⟩
end
section
open Go.RowKit
def prF(p:Dct.Pr):Prop:=p.val.f<18446744073709551616
theorem Sl.sls{w:World}{A:Option Addr}{n c:Nat}{l:List Dct.Pr}(h:Sl w A n c l):Sls prLay prF w A n c l:=
 ⟨h.len,h.cap,h.rd,h.nl,⟨h.fs,by
  have:=h.big
  rw[h.len]
  show n*56≤_
  omega⟩⟩
theorem Sls.sl{w:World}{A:Option Addr}{n c:Nat}{l:List Dct.Pr}(h:Sls prLay prF w A n c l):Sl w A n c l:=
 ⟨h.len,h.cap,h.rd,h.nl,h.fit.fs,by
  have h2:n*56≤140737488355328:=h.big
  omega⟩
theorem info_prs:(Tryz.prog.info? 54).map (fun i=>(i.zero,i.size))=some (some (Value.slice none 0 0),1):=by kernel_rfl
def prNest:Nest prLay where
 tt:=107
 und:=Tryz.underlying107
 info:=info_prs
end
end Go.Proofs.YtddpmlcpfmmbeaaGreat
