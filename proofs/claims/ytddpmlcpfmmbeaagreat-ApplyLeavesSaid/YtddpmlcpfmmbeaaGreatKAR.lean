/- What sound returns: whether what an object's kind has may be; what Reply returns. No condition but those named. -/
import Derived.Test.YtddpmlcpfmmbeaaGreatTk
import Derived.Test.YtddpmlcpfmmbeaaGreatKAJ
import Derived.Test.YtddpmlcpfmmbeaaGreatKAK
import Derived.Test.YtddpmlcpfmmbeaaGreatKAP
import Derived.Test.YtddpmlcpfmmbeaaGreatKAQ
set_option linter.unusedSimpArgs false
set_option linter.unusedVariables false
set_option maxRecDepth 100000
set_option maxHeartbeats 25600000
namespace Go.Proofs.YtddpmlcpfmmbeaaGreat
section
open Go.RowKit
theorem mright_any(x:Mtr)(hf:Mt.Fit x)(w:World):
  Calls Tryz.prog 110 #[.agg #[.int .i64 x.n,.int .u64 (x.s:Int),.int .u64 (x.l:Int),.int .u64 (x.m:Int)]] w (IsB (decide (Mt.Ok x)) w):=by
 obtain⟨n,s,l,m⟩:=x
 obtain⟨_,f1,f2,f3⟩:=hf
 dsimp only at f1 f2 f3
 have H1:=zH (fun w=>make_any s w f1)
 have H2:=zH (fun w=>make_any l w f2)
 have H3:=zH (fun w=>make_any m w f3)
 have H4:=zH (fun w=>cmp_any l m w f2 f3)
 have HT:=zH (fun w=>told_ar n s l m w)
 have HK:=kn1 w 58 (mC n s l m)
 unfold IsB
 by_cases hn:0<n
 case neg=>
  have HE:Hid (decide ((⟨n,s,l,m⟩:Mtr)=⟨0,0,0,0⟩)=decide (Mt.Ok ⟨n,s,l,m⟩)):=zH (Mt.ok_none hn)
  generalize decide (Mt.Ok ⟨n,s,l,m⟩)=b at *
  go_enter Tryz.func110,Tryz.ntmps110
  go_wp2_with (first|refine wpList_exe (kexec_lm HK 0 _ (by rfl) (by rfl) (by rfl)) (by rfl) ?_|refine wpList_exe (exec_meq (x:=⟨n,s,l,m⟩) (y:=⟨0,0,0,0⟩) _ _ (by rfl) (by rfl) (by rfl) HE.out) (by rfl) ?_)
  go_ret
  exact⟨rfl,HK.out.b⟩
 case pos=>
 clear f1 f2 f3
 by_cases hs:Num.M s=s
 case neg=>
  have hok:decide (Mt.Ok ⟨n,s,l,m⟩)=false:=decide_eq_false (Mt.ok_s hn hs)
  rw[hok]
  have hne:((Num.M s:Int) != (s:Int))=true:=by rw[bne_iff_ne];omega
  clear hok hs
  generalize Num.M s=t at *
  go_enter Tryz.func110,Tryz.ntmps110
  go_wp2_with (first|refine wpList_exe (kexec_lm HK 0 _ (by rfl) (by rfl) (by rfl)) (by rfl) ?_)
  refine(HT.out _).mono ?_;rintro e w1 ⟨rfl,b1⟩
  replace HK:=hkC HK b1;clear b1
  go_wp2_with (first|(refine wpList_aka HK rfl rfl ?_;intro _ g3 HK';simp only[lcA,lnA] at HK';replace HK:=HK';clear HK')|(refine wpList_sa HK 1 rfl _ _ rfl rfl rfl rfl ?_;intro _ HK';simp only[List.set] at HK';replace HK:=HK';clear HK'))
  refine wp_loop_rounds 4 ?_
  rw[rounds_succ]
  go_wp2_with (first|refine wpList_exe (kexec_a1 HK 1 _ (by rfl) (by rfl) (by rfl)) (by rfl) ?_|(refine wpList_akv HK rfl rfl ?_;intro _ g5 HK';simp only[lcA,lnA] at HK';replace HK:=HK';clear HK')|(refine wpList_sv (f2:=s) HK 2 rfl _ _ rfl rfl rfl rfl ?_;intro _ HK';simp only[List.set] at HK';replace HK:=HK';clear HK'))
  refine wp_region_held_drew (S:=(fun W=>Hid (Kn w.heap.size w W [(w.heap.size,58,mC n s l m),(g3,184,arC n s l m),(g5,26,vC 2 0 s ⟨#[]⟩)] []))) (by kernel_rfl) ?_ (fun hHeld=>?_)
  ·(try dsimp only);exact zH HK.out.drew
  refine wpAnyH_take (i:=0) (oi:=⟨some 20,_,_,_,_,_⟩) (v:=?_) rfl (by kernel_rfl) (by kernel_rfl) (by kernel_rfl) (fun _ _ _ h=>h) (Or.inl ⟨by rfl,?_⟩) (by assumption) ?_
  rotate_left
  ·(intro w hSw;(try dsimp only at hSw);go_simp;try with_reducible rfl)
  try simp only[Act.put,List.setIfInBounds_toArray,List.set_cons_zero,List.set_cons_succ]
  refine wpAnyH_take (i:=1) (oi:=⟨some 21,_,_,_,_,_⟩) (v:=?_) rfl (by kernel_rfl) (by kernel_rfl) (by kernel_rfl) (fun _ _ _ h=>h) (Or.inl ⟨by rfl,?_⟩) (by assumption) ?_
  rotate_left
  ·(intro w hSw;refine Eq.trans (kexec_vf hSw 2 _ (by rfl) (by rfl) (by rfl)) ?_;with_reducible rfl)
  try simp only[Act.put,List.setIfInBounds_toArray,List.set_cons_zero,List.set_cons_succ]
  refine wpAnyH_take (i:=3) (oi:=⟨some 23,_,_,_,_,_⟩) (v:=?_) rfl (by kernel_rfl) (by kernel_rfl) (by kernel_rfl) (fun _ _ _ h=>h) (Or.inl ⟨by rfl,?_⟩) (by assumption) ?_
  rotate_left
  ·(intro w hSw;(try dsimp only at hSw);go_simp;try with_reducible rfl)
  try simp only[Act.put,List.setIfInBounds_toArray,List.set_cons_zero,List.set_cons_succ]
  refine wpAnyH_take (i:=4) (oi:=⟨some 24,_,_,_,_,_⟩) (v:=?_) rfl (by kernel_rfl) (by kernel_rfl) (by kernel_rfl) (fun _ _ _ h=>h) (Or.inl ⟨by rfl,?_⟩) (by assumption) ?_
  rotate_left
  ·(intro w hSw;refine Eq.trans (kexec_vf hSw 2 _ (by rfl) (by rfl) (by rfl)) ?_;with_reducible rfl)
  try simp only[Act.put,List.setIfInBounds_toArray,List.set_cons_zero,List.set_cons_succ]
  refine wpAnyH_ready (rs:=[2]) (by kernel_rfl) (by simp) ?_
  refine AllReadyH.cons (o:=⟨some 22,_,_,_,_,_⟩) rfl (fun K hK=>?_) AllReadyH.nil
  go_simp
  go_at_call 121
  refine(H1.out _).mono ?_;rintro e w5 ⟨rfl,rfl⟩;have hs:=hHeld
  refine hK.out _ _ hs (fun hHeld=>?_)
  clear hK K
  try simp only[ap1,ap2,ap3,ap4,ap5]
  refine wpAnyH_take (i:=5) (oi:=⟨some 25,_,_,_,_,_⟩) (v:=?_) rfl (by kernel_rfl) (by kernel_rfl) (by kernel_rfl) (fun _ _ _ h=>h) (Or.inl ⟨by rfl,?_⟩) (by assumption) ?_
  rotate_left
  ·(intro w hSw;(try dsimp only at hSw);go_simp;try with_reducible rfl)
  try simp only[Act.put,List.setIfInBounds_toArray,List.set_cons_zero,List.set_cons_succ]
  refine wpAnyH_done (by kernel_rfl) ?_ _
  replace HK:=zH (hHeld.out.takeL 2)
  clear hHeld
  simp only[List.take] at HK
  go_wp2_with fail
  go_ret
  exact⟨rfl,HK.out.b⟩
 case pos=>
 rw[hs] at H1
 by_cases hl:Num.M l=l
 case neg=>
  have hok:decide (Mt.Ok ⟨n,s,l,m⟩)=false:=decide_eq_false (Mt.ok_l hn hl)
  rw[hok]
  have hne:((Num.M l:Int) != (l:Int))=true:=by rw[bne_iff_ne];omega
  clear hok hl
  generalize Num.M l=t at *
  go_enter Tryz.func110,Tryz.ntmps110
  go_wp2_with (first|refine wpList_exe (kexec_lm HK 0 _ (by rfl) (by rfl) (by rfl)) (by rfl) ?_)
  refine(HT.out _).mono ?_;rintro e w1 ⟨rfl,b1⟩
  replace HK:=hkC HK b1;clear b1
  go_wp2_with (first|(refine wpList_aka HK rfl rfl ?_;intro _ g3 HK';simp only[lcA,lnA] at HK';replace HK:=HK';clear HK')|(refine wpList_sa HK 1 rfl _ _ rfl rfl rfl rfl ?_;intro _ HK';simp only[List.set] at HK';replace HK:=HK';clear HK'))
  refine wp_loop_rounds 4 ?_
  rw[rounds_succ]
  go_wp2_with (first|refine wpList_exe (kexec_a1 HK 1 _ (by rfl) (by rfl) (by rfl)) (by rfl) ?_|(refine wpList_akv HK rfl rfl ?_;intro _ g5 HK';simp only[lcA,lnA] at HK';replace HK:=HK';clear HK')|(refine wpList_sv (f2:=s) HK 2 rfl _ _ rfl rfl rfl rfl ?_;intro _ HK';simp only[List.set] at HK';replace HK:=HK';clear HK'))
  refine wp_region_held_drew (S:=(fun W=>Hid (Kn w.heap.size w W [(w.heap.size,58,mC n s l m),(g3,184,arC n s l m),(g5,26,vC 2 0 s ⟨#[]⟩)] []))) (by kernel_rfl) ?_ (fun hHeld=>?_)
  ·(try dsimp only);exact zH HK.out.drew
  refine wpAnyH_take (i:=0) (oi:=⟨some 20,_,_,_,_,_⟩) (v:=?_) rfl (by kernel_rfl) (by kernel_rfl) (by kernel_rfl) (fun _ _ _ h=>h) (Or.inl ⟨by rfl,?_⟩) (by assumption) ?_
  rotate_left
  ·(intro w hSw;(try dsimp only at hSw);go_simp;try with_reducible rfl)
  try simp only[Act.put,List.setIfInBounds_toArray,List.set_cons_zero,List.set_cons_succ]
  refine wpAnyH_take (i:=1) (oi:=⟨some 21,_,_,_,_,_⟩) (v:=?_) rfl (by kernel_rfl) (by kernel_rfl) (by kernel_rfl) (fun _ _ _ h=>h) (Or.inl ⟨by rfl,?_⟩) (by assumption) ?_
  rotate_left
  ·(intro w hSw;refine Eq.trans (kexec_vf hSw 2 _ (by rfl) (by rfl) (by rfl)) ?_;with_reducible rfl)
  try simp only[Act.put,List.setIfInBounds_toArray,List.set_cons_zero,List.set_cons_succ]
  refine wpAnyH_take (i:=3) (oi:=⟨some 23,_,_,_,_,_⟩) (v:=?_) rfl (by kernel_rfl) (by kernel_rfl) (by kernel_rfl) (fun _ _ _ h=>h) (Or.inl ⟨by rfl,?_⟩) (by assumption) ?_
  rotate_left
  ·(intro w hSw;(try dsimp only at hSw);go_simp;try with_reducible rfl)
  try simp only[Act.put,List.setIfInBounds_toArray,List.set_cons_zero,List.set_cons_succ]
  refine wpAnyH_take (i:=4) (oi:=⟨some 24,_,_,_,_,_⟩) (v:=?_) rfl (by kernel_rfl) (by kernel_rfl) (by kernel_rfl) (fun _ _ _ h=>h) (Or.inl ⟨by rfl,?_⟩) (by assumption) ?_
  rotate_left
  ·(intro w hSw;refine Eq.trans (kexec_vf hSw 2 _ (by rfl) (by rfl) (by rfl)) ?_;with_reducible rfl)
  try simp only[Act.put,List.setIfInBounds_toArray,List.set_cons_zero,List.set_cons_succ]
  refine wpAnyH_ready (rs:=[2]) (by kernel_rfl) (by simp) ?_
  refine AllReadyH.cons (o:=⟨some 22,_,_,_,_,_⟩) rfl (fun K hK=>?_) AllReadyH.nil
  go_simp
  go_at_call 121
  refine(H1.out _).mono ?_;rintro e w5 ⟨rfl,rfl⟩;have hs:=hHeld
  refine hK.out _ _ hs (fun hHeld=>?_)
  clear hK K
  try simp only[ap1,ap2,ap3,ap4,ap5]
  refine wpAnyH_take (i:=5) (oi:=⟨some 25,_,_,_,_,_⟩) (v:=?_) rfl (by kernel_rfl) (by kernel_rfl) (by kernel_rfl) (fun _ _ _ h=>h) (Or.inl ⟨by rfl,?_⟩) (by assumption) ?_
  rotate_left
  ·(intro w hSw;(try dsimp only at hSw);go_simp;try with_reducible rfl)
  try simp only[Act.put,List.setIfInBounds_toArray,List.set_cons_zero,List.set_cons_succ]
  refine wpAnyH_done (by kernel_rfl) ?_ _
  replace HK:=zH (hHeld.out.takeL 2)
  clear hHeld
  simp only[List.take] at HK
  go_wp2_with fail
  rw[rounds_succ]
  go_wp2_with (first|refine wpList_exe (kexec_a2 HK 1 _ (by rfl) (by rfl) (by rfl)) (by rfl) ?_|(refine wpList_akv HK rfl rfl ?_;intro _ g5 HK';simp only[lcA,lnA] at HK';replace HK:=HK';clear HK')|(refine wpList_sv (f2:=l) HK 2 rfl _ _ rfl rfl rfl rfl ?_;intro _ HK';simp only[List.set] at HK';replace HK:=HK';clear HK'))
  refine wp_region_held_drew (S:=(fun W=>Hid (Kn w.heap.size w W [(w.heap.size,58,mC n s l m),(g3,184,arC n s l m),(g5,26,vC 2 0 l ⟨#[]⟩)] []))) (by kernel_rfl) ?_ (fun hHeld=>?_)
  ·(try dsimp only);exact zH HK.out.drew
  refine wpAnyH_take (i:=0) (oi:=⟨some 20,_,_,_,_,_⟩) (v:=?_) rfl (by kernel_rfl) (by kernel_rfl) (by kernel_rfl) (fun _ _ _ h=>h) (Or.inl ⟨by rfl,?_⟩) (by assumption) ?_
  rotate_left
  ·(intro w hSw;(try dsimp only at hSw);go_simp;try with_reducible rfl)
  try simp only[Act.put,List.setIfInBounds_toArray,List.set_cons_zero,List.set_cons_succ]
  refine wpAnyH_take (i:=1) (oi:=⟨some 21,_,_,_,_,_⟩) (v:=?_) rfl (by kernel_rfl) (by kernel_rfl) (by kernel_rfl) (fun _ _ _ h=>h) (Or.inl ⟨by rfl,?_⟩) (by assumption) ?_
  rotate_left
  ·(intro w hSw;refine Eq.trans (kexec_vf hSw 2 _ (by rfl) (by rfl) (by rfl)) ?_;with_reducible rfl)
  try simp only[Act.put,List.setIfInBounds_toArray,List.set_cons_zero,List.set_cons_succ]
  refine wpAnyH_take (i:=3) (oi:=⟨some 23,_,_,_,_,_⟩) (v:=?_) rfl (by kernel_rfl) (by kernel_rfl) (by kernel_rfl) (fun _ _ _ h=>h) (Or.inl ⟨by rfl,?_⟩) (by assumption) ?_
  rotate_left
  ·(intro w hSw;(try dsimp only at hSw);go_simp;try with_reducible rfl)
  try simp only[Act.put,List.setIfInBounds_toArray,List.set_cons_zero,List.set_cons_succ]
  refine wpAnyH_take (i:=4) (oi:=⟨some 24,_,_,_,_,_⟩) (v:=?_) rfl (by kernel_rfl) (by kernel_rfl) (by kernel_rfl) (fun _ _ _ h=>h) (Or.inl ⟨by rfl,?_⟩) (by assumption) ?_
  rotate_left
  ·(intro w hSw;refine Eq.trans (kexec_vf hSw 2 _ (by rfl) (by rfl) (by rfl)) ?_;with_reducible rfl)
  try simp only[Act.put,List.setIfInBounds_toArray,List.set_cons_zero,List.set_cons_succ]
  refine wpAnyH_ready (rs:=[2]) (by kernel_rfl) (by simp) ?_
  refine AllReadyH.cons (o:=⟨some 22,_,_,_,_,_⟩) rfl (fun K hK=>?_) AllReadyH.nil
  go_simp
  go_at_call 121
  refine(H2.out _).mono ?_;rintro e w5 ⟨rfl,rfl⟩;have hs:=hHeld
  refine hK.out _ _ hs (fun hHeld=>?_)
  clear hK K
  try simp only[ap1,ap2,ap3,ap4,ap5]
  refine wpAnyH_take (i:=5) (oi:=⟨some 25,_,_,_,_,_⟩) (v:=?_) rfl (by kernel_rfl) (by kernel_rfl) (by kernel_rfl) (fun _ _ _ h=>h) (Or.inl ⟨by rfl,?_⟩) (by assumption) ?_
  rotate_left
  ·(intro w hSw;(try dsimp only at hSw);go_simp;try with_reducible rfl)
  try simp only[Act.put,List.setIfInBounds_toArray,List.set_cons_zero,List.set_cons_succ]
  refine wpAnyH_done (by kernel_rfl) ?_ _
  replace HK:=zH (hHeld.out.takeL 2)
  clear hHeld
  simp only[List.take] at HK
  go_wp2_with fail
  go_ret
  exact⟨rfl,HK.out.b⟩
 case pos=>
 rw[hl] at H2
 by_cases hm:Num.M m=m
 case neg=>
  have hok:decide (Mt.Ok ⟨n,s,l,m⟩)=false:=decide_eq_false (Mt.ok_m hn hm)
  rw[hok]
  have hne:((Num.M m:Int) != (m:Int))=true:=by rw[bne_iff_ne];omega
  clear hok hm
  generalize Num.M m=t at *
  go_enter Tryz.func110,Tryz.ntmps110
  go_wp2_with (first|refine wpList_exe (kexec_lm HK 0 _ (by rfl) (by rfl) (by rfl)) (by rfl) ?_)
  refine(HT.out _).mono ?_;rintro e w1 ⟨rfl,b1⟩
  replace HK:=hkC HK b1;clear b1
  go_wp2_with (first|(refine wpList_aka HK rfl rfl ?_;intro _ g3 HK';simp only[lcA,lnA] at HK';replace HK:=HK';clear HK')|(refine wpList_sa HK 1 rfl _ _ rfl rfl rfl rfl ?_;intro _ HK';simp only[List.set] at HK';replace HK:=HK';clear HK'))
  refine wp_loop_rounds 4 ?_
  rw[rounds_succ]
  go_wp2_with (first|refine wpList_exe (kexec_a1 HK 1 _ (by rfl) (by rfl) (by rfl)) (by rfl) ?_|(refine wpList_akv HK rfl rfl ?_;intro _ g5 HK';simp only[lcA,lnA] at HK';replace HK:=HK';clear HK')|(refine wpList_sv (f2:=s) HK 2 rfl _ _ rfl rfl rfl rfl ?_;intro _ HK';simp only[List.set] at HK';replace HK:=HK';clear HK'))
  refine wp_region_held_drew (S:=(fun W=>Hid (Kn w.heap.size w W [(w.heap.size,58,mC n s l m),(g3,184,arC n s l m),(g5,26,vC 2 0 s ⟨#[]⟩)] []))) (by kernel_rfl) ?_ (fun hHeld=>?_)
  ·(try dsimp only);exact zH HK.out.drew
  refine wpAnyH_take (i:=0) (oi:=⟨some 20,_,_,_,_,_⟩) (v:=?_) rfl (by kernel_rfl) (by kernel_rfl) (by kernel_rfl) (fun _ _ _ h=>h) (Or.inl ⟨by rfl,?_⟩) (by assumption) ?_
  rotate_left
  ·(intro w hSw;(try dsimp only at hSw);go_simp;try with_reducible rfl)
  try simp only[Act.put,List.setIfInBounds_toArray,List.set_cons_zero,List.set_cons_succ]
  refine wpAnyH_take (i:=1) (oi:=⟨some 21,_,_,_,_,_⟩) (v:=?_) rfl (by kernel_rfl) (by kernel_rfl) (by kernel_rfl) (fun _ _ _ h=>h) (Or.inl ⟨by rfl,?_⟩) (by assumption) ?_
  rotate_left
  ·(intro w hSw;refine Eq.trans (kexec_vf hSw 2 _ (by rfl) (by rfl) (by rfl)) ?_;with_reducible rfl)
  try simp only[Act.put,List.setIfInBounds_toArray,List.set_cons_zero,List.set_cons_succ]
  refine wpAnyH_take (i:=3) (oi:=⟨some 23,_,_,_,_,_⟩) (v:=?_) rfl (by kernel_rfl) (by kernel_rfl) (by kernel_rfl) (fun _ _ _ h=>h) (Or.inl ⟨by rfl,?_⟩) (by assumption) ?_
  rotate_left
  ·(intro w hSw;(try dsimp only at hSw);go_simp;try with_reducible rfl)
  try simp only[Act.put,List.setIfInBounds_toArray,List.set_cons_zero,List.set_cons_succ]
  refine wpAnyH_take (i:=4) (oi:=⟨some 24,_,_,_,_,_⟩) (v:=?_) rfl (by kernel_rfl) (by kernel_rfl) (by kernel_rfl) (fun _ _ _ h=>h) (Or.inl ⟨by rfl,?_⟩) (by assumption) ?_
  rotate_left
  ·(intro w hSw;refine Eq.trans (kexec_vf hSw 2 _ (by rfl) (by rfl) (by rfl)) ?_;with_reducible rfl)
  try simp only[Act.put,List.setIfInBounds_toArray,List.set_cons_zero,List.set_cons_succ]
  refine wpAnyH_ready (rs:=[2]) (by kernel_rfl) (by simp) ?_
  refine AllReadyH.cons (o:=⟨some 22,_,_,_,_,_⟩) rfl (fun K hK=>?_) AllReadyH.nil
  go_simp
  go_at_call 121
  refine(H1.out _).mono ?_;rintro e w5 ⟨rfl,rfl⟩;have hs:=hHeld
  refine hK.out _ _ hs (fun hHeld=>?_)
  clear hK K
  try simp only[ap1,ap2,ap3,ap4,ap5]
  refine wpAnyH_take (i:=5) (oi:=⟨some 25,_,_,_,_,_⟩) (v:=?_) rfl (by kernel_rfl) (by kernel_rfl) (by kernel_rfl) (fun _ _ _ h=>h) (Or.inl ⟨by rfl,?_⟩) (by assumption) ?_
  rotate_left
  ·(intro w hSw;(try dsimp only at hSw);go_simp;try with_reducible rfl)
  try simp only[Act.put,List.setIfInBounds_toArray,List.set_cons_zero,List.set_cons_succ]
  refine wpAnyH_done (by kernel_rfl) ?_ _
  replace HK:=zH (hHeld.out.takeL 2)
  clear hHeld
  simp only[List.take] at HK
  go_wp2_with fail
  rw[rounds_succ]
  go_wp2_with (first|refine wpList_exe (kexec_a2 HK 1 _ (by rfl) (by rfl) (by rfl)) (by rfl) ?_|(refine wpList_akv HK rfl rfl ?_;intro _ g5 HK';simp only[lcA,lnA] at HK';replace HK:=HK';clear HK')|(refine wpList_sv (f2:=l) HK 2 rfl _ _ rfl rfl rfl rfl ?_;intro _ HK';simp only[List.set] at HK';replace HK:=HK';clear HK'))
  refine wp_region_held_drew (S:=(fun W=>Hid (Kn w.heap.size w W [(w.heap.size,58,mC n s l m),(g3,184,arC n s l m),(g5,26,vC 2 0 l ⟨#[]⟩)] []))) (by kernel_rfl) ?_ (fun hHeld=>?_)
  ·(try dsimp only);exact zH HK.out.drew
  refine wpAnyH_take (i:=0) (oi:=⟨some 20,_,_,_,_,_⟩) (v:=?_) rfl (by kernel_rfl) (by kernel_rfl) (by kernel_rfl) (fun _ _ _ h=>h) (Or.inl ⟨by rfl,?_⟩) (by assumption) ?_
  rotate_left
  ·(intro w hSw;(try dsimp only at hSw);go_simp;try with_reducible rfl)
  try simp only[Act.put,List.setIfInBounds_toArray,List.set_cons_zero,List.set_cons_succ]
  refine wpAnyH_take (i:=1) (oi:=⟨some 21,_,_,_,_,_⟩) (v:=?_) rfl (by kernel_rfl) (by kernel_rfl) (by kernel_rfl) (fun _ _ _ h=>h) (Or.inl ⟨by rfl,?_⟩) (by assumption) ?_
  rotate_left
  ·(intro w hSw;refine Eq.trans (kexec_vf hSw 2 _ (by rfl) (by rfl) (by rfl)) ?_;with_reducible rfl)
  try simp only[Act.put,List.setIfInBounds_toArray,List.set_cons_zero,List.set_cons_succ]
  refine wpAnyH_take (i:=3) (oi:=⟨some 23,_,_,_,_,_⟩) (v:=?_) rfl (by kernel_rfl) (by kernel_rfl) (by kernel_rfl) (fun _ _ _ h=>h) (Or.inl ⟨by rfl,?_⟩) (by assumption) ?_
  rotate_left
  ·(intro w hSw;(try dsimp only at hSw);go_simp;try with_reducible rfl)
  try simp only[Act.put,List.setIfInBounds_toArray,List.set_cons_zero,List.set_cons_succ]
  refine wpAnyH_take (i:=4) (oi:=⟨some 24,_,_,_,_,_⟩) (v:=?_) rfl (by kernel_rfl) (by kernel_rfl) (by kernel_rfl) (fun _ _ _ h=>h) (Or.inl ⟨by rfl,?_⟩) (by assumption) ?_
  rotate_left
  ·(intro w hSw;refine Eq.trans (kexec_vf hSw 2 _ (by rfl) (by rfl) (by rfl)) ?_;with_reducible rfl)
  try simp only[Act.put,List.setIfInBounds_toArray,List.set_cons_zero,List.set_cons_succ]
  refine wpAnyH_ready (rs:=[2]) (by kernel_rfl) (by simp) ?_
  refine AllReadyH.cons (o:=⟨some 22,_,_,_,_,_⟩) rfl (fun K hK=>?_) AllReadyH.nil
  go_simp
  go_at_call 121
  refine(H2.out _).mono ?_;rintro e w5 ⟨rfl,rfl⟩;have hs:=hHeld
  refine hK.out _ _ hs (fun hHeld=>?_)
  clear hK K
  try simp only[ap1,ap2,ap3,ap4,ap5]
  refine wpAnyH_take (i:=5) (oi:=⟨some 25,_,_,_,_,_⟩) (v:=?_) rfl (by kernel_rfl) (by kernel_rfl) (by kernel_rfl) (fun _ _ _ h=>h) (Or.inl ⟨by rfl,?_⟩) (by assumption) ?_
  rotate_left
  ·(intro w hSw;(try dsimp only at hSw);go_simp;try with_reducible rfl)
  try simp only[Act.put,List.setIfInBounds_toArray,List.set_cons_zero,List.set_cons_succ]
  refine wpAnyH_done (by kernel_rfl) ?_ _
  replace HK:=zH (hHeld.out.takeL 2)
  clear hHeld
  simp only[List.take] at HK
  go_wp2_with fail
  rw[rounds_succ]
  go_wp2_with (first|refine wpList_exe (kexec_a3 HK 1 _ (by rfl) (by rfl) (by rfl)) (by rfl) ?_|(refine wpList_akv HK rfl rfl ?_;intro _ g5 HK';simp only[lcA,lnA] at HK';replace HK:=HK';clear HK')|(refine wpList_sv (f2:=m) HK 2 rfl _ _ rfl rfl rfl rfl ?_;intro _ HK';simp only[List.set] at HK';replace HK:=HK';clear HK'))
  refine wp_region_held_drew (S:=(fun W=>Hid (Kn w.heap.size w W [(w.heap.size,58,mC n s l m),(g3,184,arC n s l m),(g5,26,vC 2 0 m ⟨#[]⟩)] []))) (by kernel_rfl) ?_ (fun hHeld=>?_)
  ·(try dsimp only);exact zH HK.out.drew
  refine wpAnyH_take (i:=0) (oi:=⟨some 20,_,_,_,_,_⟩) (v:=?_) rfl (by kernel_rfl) (by kernel_rfl) (by kernel_rfl) (fun _ _ _ h=>h) (Or.inl ⟨by rfl,?_⟩) (by assumption) ?_
  rotate_left
  ·(intro w hSw;(try dsimp only at hSw);go_simp;try with_reducible rfl)
  try simp only[Act.put,List.setIfInBounds_toArray,List.set_cons_zero,List.set_cons_succ]
  refine wpAnyH_take (i:=1) (oi:=⟨some 21,_,_,_,_,_⟩) (v:=?_) rfl (by kernel_rfl) (by kernel_rfl) (by kernel_rfl) (fun _ _ _ h=>h) (Or.inl ⟨by rfl,?_⟩) (by assumption) ?_
  rotate_left
  ·(intro w hSw;refine Eq.trans (kexec_vf hSw 2 _ (by rfl) (by rfl) (by rfl)) ?_;with_reducible rfl)
  try simp only[Act.put,List.setIfInBounds_toArray,List.set_cons_zero,List.set_cons_succ]
  refine wpAnyH_take (i:=3) (oi:=⟨some 23,_,_,_,_,_⟩) (v:=?_) rfl (by kernel_rfl) (by kernel_rfl) (by kernel_rfl) (fun _ _ _ h=>h) (Or.inl ⟨by rfl,?_⟩) (by assumption) ?_
  rotate_left
  ·(intro w hSw;(try dsimp only at hSw);go_simp;try with_reducible rfl)
  try simp only[Act.put,List.setIfInBounds_toArray,List.set_cons_zero,List.set_cons_succ]
  refine wpAnyH_take (i:=4) (oi:=⟨some 24,_,_,_,_,_⟩) (v:=?_) rfl (by kernel_rfl) (by kernel_rfl) (by kernel_rfl) (fun _ _ _ h=>h) (Or.inl ⟨by rfl,?_⟩) (by assumption) ?_
  rotate_left
  ·(intro w hSw;refine Eq.trans (kexec_vf hSw 2 _ (by rfl) (by rfl) (by rfl)) ?_;with_reducible rfl)
  try simp only[Act.put,List.setIfInBounds_toArray,List.set_cons_zero,List.set_cons_succ]
  refine wpAnyH_ready (rs:=[2]) (by kernel_rfl) (by simp) ?_
  refine AllReadyH.cons (o:=⟨some 22,_,_,_,_,_⟩) rfl (fun K hK=>?_) AllReadyH.nil
  go_simp
  go_at_call 121
  refine(H3.out _).mono ?_;rintro e w5 ⟨rfl,rfl⟩;have hs:=hHeld
  refine hK.out _ _ hs (fun hHeld=>?_)
  clear hK K
  try simp only[ap1,ap2,ap3,ap4,ap5]
  refine wpAnyH_take (i:=5) (oi:=⟨some 25,_,_,_,_,_⟩) (v:=?_) rfl (by kernel_rfl) (by kernel_rfl) (by kernel_rfl) (fun _ _ _ h=>h) (Or.inl ⟨by rfl,?_⟩) (by assumption) ?_
  rotate_left
  ·(intro w hSw;(try dsimp only at hSw);go_simp;try with_reducible rfl)
  try simp only[Act.put,List.setIfInBounds_toArray,List.set_cons_zero,List.set_cons_succ]
  refine wpAnyH_done (by kernel_rfl) ?_ _
  replace HK:=zH (hHeld.out.takeL 2)
  clear hHeld
  simp only[List.take] at HK
  go_wp2_with fail
  go_ret
  exact⟨rfl,HK.out.b⟩
 case pos=>
  rw[hm] at H3
  have hok:decide (Mt.Ok ⟨n,s,l,m⟩)=decide (Num.cmp l m≤0):=decide_eq_decide.2 (Mt.ok_all hn hs hl hm)
  rw[hok]
  clear hok
  generalize Num.cmp l m=c at *
  clear hs hl hm
  go_enter Tryz.func110,Tryz.ntmps110
  go_wp2_with (first|refine wpList_exe (kexec_lm HK 0 _ (by rfl) (by rfl) (by rfl)) (by rfl) ?_)
  refine(HT.out _).mono ?_;rintro e w1 ⟨rfl,b1⟩
  replace HK:=hkC HK b1;clear b1
  go_wp2_with (first|(refine wpList_aka HK rfl rfl ?_;intro _ g3 HK';simp only[lcA,lnA] at HK';replace HK:=HK';clear HK')|(refine wpList_sa HK 1 rfl _ _ rfl rfl rfl rfl ?_;intro _ HK';simp only[List.set] at HK';replace HK:=HK';clear HK'))
  refine wp_loop_rounds 4 ?_
  rw[rounds_succ]
  go_wp2_with (first|refine wpList_exe (kexec_a1 HK 1 _ (by rfl) (by rfl) (by rfl)) (by rfl) ?_|(refine wpList_akv HK rfl rfl ?_;intro _ g5 HK';simp only[lcA,lnA] at HK';replace HK:=HK';clear HK')|(refine wpList_sv (f2:=s) HK 2 rfl _ _ rfl rfl rfl rfl ?_;intro _ HK';simp only[List.set] at HK';replace HK:=HK';clear HK'))
  refine wp_region_held_drew (S:=(fun W=>Hid (Kn w.heap.size w W [(w.heap.size,58,mC n s l m),(g3,184,arC n s l m),(g5,26,vC 2 0 s ⟨#[]⟩)] []))) (by kernel_rfl) ?_ (fun hHeld=>?_)
  ·(try dsimp only);exact zH HK.out.drew
  refine wpAnyH_take (i:=0) (oi:=⟨some 20,_,_,_,_,_⟩) (v:=?_) rfl (by kernel_rfl) (by kernel_rfl) (by kernel_rfl) (fun _ _ _ h=>h) (Or.inl ⟨by rfl,?_⟩) (by assumption) ?_
  rotate_left
  ·(intro w hSw;(try dsimp only at hSw);go_simp;try with_reducible rfl)
  try simp only[Act.put,List.setIfInBounds_toArray,List.set_cons_zero,List.set_cons_succ]
  refine wpAnyH_take (i:=1) (oi:=⟨some 21,_,_,_,_,_⟩) (v:=?_) rfl (by kernel_rfl) (by kernel_rfl) (by kernel_rfl) (fun _ _ _ h=>h) (Or.inl ⟨by rfl,?_⟩) (by assumption) ?_
  rotate_left
  ·(intro w hSw;refine Eq.trans (kexec_vf hSw 2 _ (by rfl) (by rfl) (by rfl)) ?_;with_reducible rfl)
  try simp only[Act.put,List.setIfInBounds_toArray,List.set_cons_zero,List.set_cons_succ]
  refine wpAnyH_take (i:=3) (oi:=⟨some 23,_,_,_,_,_⟩) (v:=?_) rfl (by kernel_rfl) (by kernel_rfl) (by kernel_rfl) (fun _ _ _ h=>h) (Or.inl ⟨by rfl,?_⟩) (by assumption) ?_
  rotate_left
  ·(intro w hSw;(try dsimp only at hSw);go_simp;try with_reducible rfl)
  try simp only[Act.put,List.setIfInBounds_toArray,List.set_cons_zero,List.set_cons_succ]
  refine wpAnyH_take (i:=4) (oi:=⟨some 24,_,_,_,_,_⟩) (v:=?_) rfl (by kernel_rfl) (by kernel_rfl) (by kernel_rfl) (fun _ _ _ h=>h) (Or.inl ⟨by rfl,?_⟩) (by assumption) ?_
  rotate_left
  ·(intro w hSw;refine Eq.trans (kexec_vf hSw 2 _ (by rfl) (by rfl) (by rfl)) ?_;with_reducible rfl)
  try simp only[Act.put,List.setIfInBounds_toArray,List.set_cons_zero,List.set_cons_succ]
  refine wpAnyH_ready (rs:=[2]) (by kernel_rfl) (by simp) ?_
  refine AllReadyH.cons (o:=⟨some 22,_,_,_,_,_⟩) rfl (fun K hK=>?_) AllReadyH.nil
  go_simp
  go_at_call 121
  refine(H1.out _).mono ?_;rintro e w5 ⟨rfl,rfl⟩;have hs:=hHeld
  refine hK.out _ _ hs (fun hHeld=>?_)
  clear hK K
  try simp only[ap1,ap2,ap3,ap4,ap5]
  refine wpAnyH_take (i:=5) (oi:=⟨some 25,_,_,_,_,_⟩) (v:=?_) rfl (by kernel_rfl) (by kernel_rfl) (by kernel_rfl) (fun _ _ _ h=>h) (Or.inl ⟨by rfl,?_⟩) (by assumption) ?_
  rotate_left
  ·(intro w hSw;(try dsimp only at hSw);go_simp;try with_reducible rfl)
  try simp only[Act.put,List.setIfInBounds_toArray,List.set_cons_zero,List.set_cons_succ]
  refine wpAnyH_done (by kernel_rfl) ?_ _
  replace HK:=zH (hHeld.out.takeL 2)
  clear hHeld
  simp only[List.take] at HK
  go_wp2_with fail
  rw[rounds_succ]
  go_wp2_with (first|refine wpList_exe (kexec_a2 HK 1 _ (by rfl) (by rfl) (by rfl)) (by rfl) ?_|(refine wpList_akv HK rfl rfl ?_;intro _ g5 HK';simp only[lcA,lnA] at HK';replace HK:=HK';clear HK')|(refine wpList_sv (f2:=l) HK 2 rfl _ _ rfl rfl rfl rfl ?_;intro _ HK';simp only[List.set] at HK';replace HK:=HK';clear HK'))
  refine wp_region_held_drew (S:=(fun W=>Hid (Kn w.heap.size w W [(w.heap.size,58,mC n s l m),(g3,184,arC n s l m),(g5,26,vC 2 0 l ⟨#[]⟩)] []))) (by kernel_rfl) ?_ (fun hHeld=>?_)
  ·(try dsimp only);exact zH HK.out.drew
  refine wpAnyH_take (i:=0) (oi:=⟨some 20,_,_,_,_,_⟩) (v:=?_) rfl (by kernel_rfl) (by kernel_rfl) (by kernel_rfl) (fun _ _ _ h=>h) (Or.inl ⟨by rfl,?_⟩) (by assumption) ?_
  rotate_left
  ·(intro w hSw;(try dsimp only at hSw);go_simp;try with_reducible rfl)
  try simp only[Act.put,List.setIfInBounds_toArray,List.set_cons_zero,List.set_cons_succ]
  refine wpAnyH_take (i:=1) (oi:=⟨some 21,_,_,_,_,_⟩) (v:=?_) rfl (by kernel_rfl) (by kernel_rfl) (by kernel_rfl) (fun _ _ _ h=>h) (Or.inl ⟨by rfl,?_⟩) (by assumption) ?_
  rotate_left
  ·(intro w hSw;refine Eq.trans (kexec_vf hSw 2 _ (by rfl) (by rfl) (by rfl)) ?_;with_reducible rfl)
  try simp only[Act.put,List.setIfInBounds_toArray,List.set_cons_zero,List.set_cons_succ]
  refine wpAnyH_take (i:=3) (oi:=⟨some 23,_,_,_,_,_⟩) (v:=?_) rfl (by kernel_rfl) (by kernel_rfl) (by kernel_rfl) (fun _ _ _ h=>h) (Or.inl ⟨by rfl,?_⟩) (by assumption) ?_
  rotate_left
  ·(intro w hSw;(try dsimp only at hSw);go_simp;try with_reducible rfl)
  try simp only[Act.put,List.setIfInBounds_toArray,List.set_cons_zero,List.set_cons_succ]
  refine wpAnyH_take (i:=4) (oi:=⟨some 24,_,_,_,_,_⟩) (v:=?_) rfl (by kernel_rfl) (by kernel_rfl) (by kernel_rfl) (fun _ _ _ h=>h) (Or.inl ⟨by rfl,?_⟩) (by assumption) ?_
  rotate_left
  ·(intro w hSw;refine Eq.trans (kexec_vf hSw 2 _ (by rfl) (by rfl) (by rfl)) ?_;with_reducible rfl)
  try simp only[Act.put,List.setIfInBounds_toArray,List.set_cons_zero,List.set_cons_succ]
  refine wpAnyH_ready (rs:=[2]) (by kernel_rfl) (by simp) ?_
  refine AllReadyH.cons (o:=⟨some 22,_,_,_,_,_⟩) rfl (fun K hK=>?_) AllReadyH.nil
  go_simp
  go_at_call 121
  refine(H2.out _).mono ?_;rintro e w5 ⟨rfl,rfl⟩;have hs:=hHeld
  refine hK.out _ _ hs (fun hHeld=>?_)
  clear hK K
  try simp only[ap1,ap2,ap3,ap4,ap5]
  refine wpAnyH_take (i:=5) (oi:=⟨some 25,_,_,_,_,_⟩) (v:=?_) rfl (by kernel_rfl) (by kernel_rfl) (by kernel_rfl) (fun _ _ _ h=>h) (Or.inl ⟨by rfl,?_⟩) (by assumption) ?_
  rotate_left
  ·(intro w hSw;(try dsimp only at hSw);go_simp;try with_reducible rfl)
  try simp only[Act.put,List.setIfInBounds_toArray,List.set_cons_zero,List.set_cons_succ]
  refine wpAnyH_done (by kernel_rfl) ?_ _
  replace HK:=zH (hHeld.out.takeL 2)
  clear hHeld
  simp only[List.take] at HK
  go_wp2_with fail
  rw[rounds_succ]
  go_wp2_with (first|refine wpList_exe (kexec_a3 HK 1 _ (by rfl) (by rfl) (by rfl)) (by rfl) ?_|(refine wpList_akv HK rfl rfl ?_;intro _ g5 HK';simp only[lcA,lnA] at HK';replace HK:=HK';clear HK')|(refine wpList_sv (f2:=m) HK 2 rfl _ _ rfl rfl rfl rfl ?_;intro _ HK';simp only[List.set] at HK';replace HK:=HK';clear HK'))
  refine wp_region_held_drew (S:=(fun W=>Hid (Kn w.heap.size w W [(w.heap.size,58,mC n s l m),(g3,184,arC n s l m),(g5,26,vC 2 0 m ⟨#[]⟩)] []))) (by kernel_rfl) ?_ (fun hHeld=>?_)
  ·(try dsimp only);exact zH HK.out.drew
  refine wpAnyH_take (i:=0) (oi:=⟨some 20,_,_,_,_,_⟩) (v:=?_) rfl (by kernel_rfl) (by kernel_rfl) (by kernel_rfl) (fun _ _ _ h=>h) (Or.inl ⟨by rfl,?_⟩) (by assumption) ?_
  rotate_left
  ·(intro w hSw;(try dsimp only at hSw);go_simp;try with_reducible rfl)
  try simp only[Act.put,List.setIfInBounds_toArray,List.set_cons_zero,List.set_cons_succ]
  refine wpAnyH_take (i:=1) (oi:=⟨some 21,_,_,_,_,_⟩) (v:=?_) rfl (by kernel_rfl) (by kernel_rfl) (by kernel_rfl) (fun _ _ _ h=>h) (Or.inl ⟨by rfl,?_⟩) (by assumption) ?_
  rotate_left
  ·(intro w hSw;refine Eq.trans (kexec_vf hSw 2 _ (by rfl) (by rfl) (by rfl)) ?_;with_reducible rfl)
  try simp only[Act.put,List.setIfInBounds_toArray,List.set_cons_zero,List.set_cons_succ]
  refine wpAnyH_take (i:=3) (oi:=⟨some 23,_,_,_,_,_⟩) (v:=?_) rfl (by kernel_rfl) (by kernel_rfl) (by kernel_rfl) (fun _ _ _ h=>h) (Or.inl ⟨by rfl,?_⟩) (by assumption) ?_
  rotate_left
  ·(intro w hSw;(try dsimp only at hSw);go_simp;try with_reducible rfl)
  try simp only[Act.put,List.setIfInBounds_toArray,List.set_cons_zero,List.set_cons_succ]
  refine wpAnyH_take (i:=4) (oi:=⟨some 24,_,_,_,_,_⟩) (v:=?_) rfl (by kernel_rfl) (by kernel_rfl) (by kernel_rfl) (fun _ _ _ h=>h) (Or.inl ⟨by rfl,?_⟩) (by assumption) ?_
  rotate_left
  ·(intro w hSw;refine Eq.trans (kexec_vf hSw 2 _ (by rfl) (by rfl) (by rfl)) ?_;with_reducible rfl)
  try simp only[Act.put,List.setIfInBounds_toArray,List.set_cons_zero,List.set_cons_succ]
  refine wpAnyH_ready (rs:=[2]) (by kernel_rfl) (by simp) ?_
  refine AllReadyH.cons (o:=⟨some 22,_,_,_,_,_⟩) rfl (fun K hK=>?_) AllReadyH.nil
  go_simp
  go_at_call 121
  refine(H3.out _).mono ?_;rintro e w5 ⟨rfl,rfl⟩;have hs:=hHeld
  refine hK.out _ _ hs (fun hHeld=>?_)
  clear hK K
  try simp only[ap1,ap2,ap3,ap4,ap5]
  refine wpAnyH_take (i:=5) (oi:=⟨some 25,_,_,_,_,_⟩) (v:=?_) rfl (by kernel_rfl) (by kernel_rfl) (by kernel_rfl) (fun _ _ _ h=>h) (Or.inl ⟨by rfl,?_⟩) (by assumption) ?_
  rotate_left
  ·(intro w hSw;(try dsimp only at hSw);go_simp;try with_reducible rfl)
  try simp only[Act.put,List.setIfInBounds_toArray,List.set_cons_zero,List.set_cons_succ]
  refine wpAnyH_done (by kernel_rfl) ?_ _
  replace HK:=zH (hHeld.out.takeL 2)
  clear hHeld
  simp only[List.take] at HK
  go_wp2_with fail
  rw[rounds_succ]
  go_wp2_with (first|refine wpList_exe (kexec_ml HK 0 _ (by rfl) (by rfl) (by rfl)) (by rfl) ?_|refine wpList_exe (kexec_mm HK 0 _ (by rfl) (by rfl) (by rfl)) (by rfl) ?_)
  refine(H4.out _).mono ?_;rintro e w1 ⟨rfl,rfl⟩
  go_wp2_with fail
  go_ret
  exact⟨rfl,HK.out.b⟩
end
section
open Go.RowKit
theorem sound_any(x:Oh)(w:World)(hx:In w x):Calls Tryz.prog 67 #[.agg (obA x)] w (IsB (Sto.sound x.v) w):=by
 have HI:=zH hx
 have HK:=kn1 w 60 (obA x)
 have HD:=zH right_any
 have HQ:=zH qright_any
 have HL:=zH lright_any
 have HG:=zH gright_any
 have HM:=zH mright_any
 clear hx
 unfold IsB Sto.sound at *
 by_cases h1:x.v.kind=1
 ·rw[if_pos h1]
  go_enter Tryz.func67,Tryz.ntmps67
  go_wp2_with (first|refine wpList_exe (kob_k HK 0 _ (by rfl) (by rfl) (by rfl)) (by rfl) ?_|refine wpList_exe (kob_p HK 0 _ (by rfl) (by rfl) (by rfl)) (by rfl) ?_)
  refine(HD.out _ _ _ _ _ (HI.out.p.later HK.out.b)).mono ?_;rintro e w1 ⟨rfl,b1⟩
  replace HK:=hkC HK b1;clear b1
  go_wp2_with fail
  go_ret
  exact⟨rfl,HK.out.b⟩
 rw[if_neg h1]
 by_cases h2:x.v.kind=2
 ·rw[if_pos h2]
  go_enter Tryz.func67,Tryz.ntmps67
  go_wp2_with (first|refine wpList_exe (kob_k HK 0 _ (by rfl) (by rfl) (by rfl)) (by rfl) ?_|refine wpList_exe (kob_c HK 0 _ (by rfl) (by rfl) (by rfl)) (by rfl) ?_|refine wpList_exe (kob_v HK 0 _ (by rfl) (by rfl) (by rfl)) (by rfl) ?_)
  refine(HQ.out _ _ _ _ _ _ (HI.out.v.later HK.out.b)).mono ?_;rintro e w1 ⟨rfl,b1⟩
  replace HK:=hkC HK b1;clear b1
  go_wp2_with fail
  go_ret
  exact⟨rfl,HK.out.b⟩
 rw[if_neg h2]
 by_cases h3:x.v.kind=3
 ·rw[if_pos h3]
  go_enter Tryz.func67,Tryz.ntmps67
  go_wp2_with (first|refine wpList_exe (kob_k HK 0 _ (by rfl) (by rfl) (by rfl)) (by rfl) ?_|refine wpList_exe (kob_r HK 0 _ (by rfl) (by rfl) (by rfl)) (by rfl) ?_)
  refine(HL.out _ _ _ _ _ (HI.out.r.later HK.out.b)).mono ?_;rintro e w1 ⟨rfl,b1⟩
  replace HK:=hkC HK b1;clear b1
  go_wp2_with fail
  go_ret
  exact⟨rfl,HK.out.b⟩
 rw[if_neg h3]
 by_cases h4:x.v.kind=4
 ·rw[if_pos h4]
  generalize hg:decide (Gt.Right x.v.cap x.v.refs)=gb
  have HGb:=zH hg
  clear hg
  cases gb
  ·go_enter Tryz.func67,Tryz.ntmps67
   go_wp2_with (first|refine wpList_exe (kob_k HK 0 _ (by rfl) (by rfl) (by rfl)) (by rfl) ?_|refine wpList_exe (kob_c HK 0 _ (by rfl) (by rfl) (by rfl)) (by rfl) ?_|refine wpList_exe (kob_r HK 0 _ (by rfl) (by rfl) (by rfl)) (by rfl) ?_)
   refine(HG.out _ _ _ _ _ _ (HI.out.r.later HK.out.b)).mono ?_;rintro e w1 ⟨rfl,b1⟩
   rw[HGb.out]
   replace HK:=hkC HK b1;clear b1
   go_wp2_with fail
   go_ret
   exact⟨rfl,HK.out.b⟩
  ·go_enter Tryz.func67,Tryz.ntmps67
   go_wp2_with (first|refine wpList_exe (kob_k HK 0 _ (by rfl) (by rfl) (by rfl)) (by rfl) ?_|refine wpList_exe (kob_c HK 0 _ (by rfl) (by rfl) (by rfl)) (by rfl) ?_|refine wpList_exe (kob_r HK 0 _ (by rfl) (by rfl) (by rfl)) (by rfl) ?_)
   refine(HG.out _ _ _ _ _ _ (HI.out.r.later HK.out.b)).mono ?_;rintro e w1 ⟨rfl,b1⟩
   rw[HGb.out]
   replace HK:=hkC HK b1;clear b1
   go_wp2_with (first|refine wpList_exe (kob_d HK 0 _ (by rfl) (by rfl) (by rfl)) (by rfl) ?_)
   go_ret
   exact⟨rfl,HK.out.b⟩
 rw[if_neg h4]
 by_cases h5:x.v.kind=5
 ·rw[if_pos h5]
  go_enter Tryz.func67,Tryz.ntmps67
  go_wp2_with (first|refine wpList_exe (kob_k HK 0 _ (by rfl) (by rfl) (by rfl)) (by rfl) ?_|refine wpList_exe (kob_m HK 0 _ (by rfl) (by rfl) (by rfl)) (by rfl) ?_)
  refine(HM.out x.v.mt HI.out.m _).mono ?_;rintro e w1 ⟨rfl,b1⟩
  replace HK:=hkC HK b1;clear b1
  go_wp2_with fail
  go_ret
  exact⟨rfl,HK.out.b⟩
 ·rw[if_neg h5]
  go_enter Tryz.func67,Tryz.ntmps67
  go_wp2_with (first|refine wpList_exe (kob_k HK 0 _ (by rfl) (by rfl) (by rfl)) (by rfl) ?_)
  go_ret
  exact⟨rfl,HK.out.b⟩
end
end Go.Proofs.YtddpmlcpfmmbeaaGreat
