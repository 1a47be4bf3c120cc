/- How states lie: blocks that hold one, loads and stores of it and of its parts, places of its table; replies of requests made; ways out. No condition but those named. -/
import Derived.Test.YtieoeendnccafaaNTK
import Derived.Test.YtieoeendnccafaaNAJ
import Derived.Test.YtieoeendnccafaaNAL
import Derived.Test.YtieoeendnccafaaNAA
import Derived.Test.YtieoeendnccafaaNAF
import Derived.Test.YtieoeendnccafaaNAB
import Derived.Test.YtieoeendnccafaaNAI
import Derived.Test.YtieoeendnccafaaNAG
import Derived.Deep.CutBlock
import Derived.Deep.DeepCutAuto
import Derived.Lib.AppendZeros
import Derived.Deep.MidRow
set_option linter.unusedSimpArgs false
set_option linter.unusedVariables false
set_option maxRecDepth 100000
set_option maxHeartbeats 25600000
namespace Go.Proofs.Ytieoeendnccafaa
section
open Go.RowKit
theorem mright_any(x:Mtr)(hf:Mt.Fit x)(w:World):
  Calls Try.prog 77 #[.agg #[.int .i64 x.n,.int .u64 (x.s:Int),.int .u64 (x.l:Int),.int .u64 (x.m:Int)]] w (IsB (decide (Mt.Ok x)) w):=by
 obtain⟨n,s,l,m⟩:=x
 obtain⟨_,f1,f2,f3⟩:=hf
 dsimp only at f1 f2 f3
 have H1:=zH (fun w=>make_any s w f1)
 have H2:=zH (fun w=>make_any l w f2)
 have H3:=zH (fun w=>make_any m w f3)
 have H4:=zH (fun w=>cmp_any l m w f2 f3)
 have HT:=zH (fun w=>told_ar n s l m w)
 have HK:=kn1 w 67 (mC n s l m)
 unfold IsB
 by_cases hn:0<n
 case neg=>
  have HE:Hid (decide ((⟨n,s,l,m⟩:Mtr)=⟨0,0,0,0⟩)=decide (Mt.Ok ⟨n,s,l,m⟩)):=zH (Mt.ok_none hn)
  generalize decide (Mt.Ok ⟨n,s,l,m⟩)=b at *
  go_enter Try.func77,Try.ntmps77
  go_wp2_with (first|refine zX (kexec_lm HK 0 _ (by rfl) (by rfl) (by rfl)) ?_|refine zX (exec_meq (x:=⟨n,s,l,m⟩) (y:=⟨0,0,0,0⟩) _ _ (by rfl) (by rfl) (by rfl) HE.out) ?_)
  go_ret
  exact⟨rfl,HK.out.b⟩
 case pos=>
 clear f1 f2 f3
 by_cases hs:Num.M s=s
 case neg=>
  have hok:decide (Mt.Ok ⟨n,s,l,m⟩)=false:=decide_eq_false (Mt.ok_s hn hs)
  rw[hok]
  have hne:((Num.M s:Int) != (s:Int))=true:=by rw[bne_iff_ne];omega
  clear hok hs
  generalize Num.M s=t at *
  go_enter Try.func77,Try.ntmps77
  go_wp2_with (first|refine zX (kexec_lm HK 0 _ (by rfl) (by rfl) (by rfl)) ?_)
  refine(HT.out _).mono ?_;rintro e w1 ⟨rfl,b1⟩
  replace HK:=hkC HK b1;clear b1
  go_wp2_with (first|(refine wpList_aka HK rfl rfl ?_;intro _ g3 HK';simp only[lcA,lnA] at HK';replace HK:=HK';clear HK')|(refine wpList_sa HK 1 rfl _ _ rfl rfl rfl rfl ?_;intro _ HK';simp only[List.set] at HK';replace HK:=HK';clear HK'))
  refine wp_loop_rounds 4 ?_
  rw[rounds_succ]
  go_wp2_with (first|refine zX (kexec_a1 HK 1 _ (by rfl) (by rfl) (by rfl)) ?_|(refine wpList_akv HK rfl rfl ?_;intro _ g5 HK';simp only[lcA,lnA] at HK';replace HK:=HK';clear HK')|(refine wpList_sv (f2:=s) HK 2 rfl _ _ rfl rfl rfl rfl ?_;intro _ HK';simp only[List.set] at HK';replace HK:=HK';clear HK'))
  refine wp_region_held_drew (S:=(fun W=>Hid (Kn w.heap.size w W [(w.heap.size,67,mC n s l m),(g3,144,arC n s l m),(g5,26,vC 2 0 s ⟨#[]⟩)] []))) (by kernel_rfl) ?_ (fun hHeld=>?_)
  ·(try dsimp only);exact zH HK.out.drew
  refine stk 0 20 rfl ?_
  refine stk 1 21 rfl ?_ (fun w hSw=>kexec_vf hSw 2 _ (by rfl) (by rfl) (by rfl))
  refine stk 3 23 rfl ?_
  refine stk 4 24 rfl ?_ (fun w hSw=>kexec_vf hSw 2 _ (by rfl) (by rfl) (by rfl))
  refine srd1 2 (some 22) rfl (fun K hK=>?_)
  go_simp
  go_at_call 88
  refine(H1.out _).mono ?_;rintro e w5 ⟨rfl,rfl⟩;have hs:=hHeld
  refine hK.out _ _ hs (fun hHeld=>?_)
  clear hK K
  try simp only[ap1,ap2,ap3,ap4,ap5]
  refine stk 5 25 rfl ?_
  refine wpAnyH_done (by kernel_rfl) ?_ _
  replace HK:=zH (hHeld.out.takeL 2)
  clear hHeld
  simp only[List.take] at HK
  go_wp2_with fail
  go_ret
  exact⟨rfl,HK.out.b⟩
 case pos=>
 rw[hs] at H1
 by_cases hl:Num.M l=l
 case neg=>
  have hok:decide (Mt.Ok ⟨n,s,l,m⟩)=false:=decide_eq_false (Mt.ok_l hn hl)
  rw[hok]
  have hne:((Num.M l:Int) != (l:Int))=true:=by rw[bne_iff_ne];omega
  clear hok hl
  generalize Num.M l=t at *
  go_enter Try.func77,Try.ntmps77
  go_wp2_with (first|refine zX (kexec_lm HK 0 _ (by rfl) (by rfl) (by rfl)) ?_)
  refine(HT.out _).mono ?_;rintro e w1 ⟨rfl,b1⟩
  replace HK:=hkC HK b1;clear b1
  go_wp2_with (first|(refine wpList_aka HK rfl rfl ?_;intro _ g3 HK';simp only[lcA,lnA] at HK';replace HK:=HK';clear HK')|(refine wpList_sa HK 1 rfl _ _ rfl rfl rfl rfl ?_;intro _ HK';simp only[List.set] at HK';replace HK:=HK';clear HK'))
  refine wp_loop_rounds 4 ?_
  rw[rounds_succ]
  go_wp2_with (first|refine zX (kexec_a1 HK 1 _ (by rfl) (by rfl) (by rfl)) ?_|(refine wpList_akv HK rfl rfl ?_;intro _ g5 HK';simp only[lcA,lnA] at HK';replace HK:=HK';clear HK')|(refine wpList_sv (f2:=s) HK 2 rfl _ _ rfl rfl rfl rfl ?_;intro _ HK';simp only[List.set] at HK';replace HK:=HK';clear HK'))
  refine wp_region_held_drew (S:=(fun W=>Hid (Kn w.heap.size w W [(w.heap.size,67,mC n s l m),(g3,144,arC n s l m),(g5,26,vC 2 0 s ⟨#[]⟩)] []))) (by kernel_rfl) ?_ (fun hHeld=>?_)
  ·(try dsimp only);exact zH HK.out.drew
  refine stk 0 20 rfl ?_
  refine stk 1 21 rfl ?_ (fun w hSw=>kexec_vf hSw 2 _ (by rfl) (by rfl) (by rfl))
  refine stk 3 23 rfl ?_
  refine stk 4 24 rfl ?_ (fun w hSw=>kexec_vf hSw 2 _ (by rfl) (by rfl) (by rfl))
  refine srd1 2 (some 22) rfl (fun K hK=>?_)
  go_simp
  go_at_call 88
  refine(H1.out _).mono ?_;rintro e w5 ⟨rfl,rfl⟩;have hs:=hHeld
  refine hK.out _ _ hs (fun hHeld=>?_)
  clear hK K
  try simp only[ap1,ap2,ap3,ap4,ap5]
  refine stk 5 25 rfl ?_
  refine wpAnyH_done (by kernel_rfl) ?_ _
  replace HK:=zH (hHeld.out.takeL 2)
  clear hHeld
  simp only[List.take] at HK
  go_wp2_with fail
  rw[rounds_succ]
  go_wp2_with (first|refine zX (kexec_a2 HK 1 _ (by rfl) (by rfl) (by rfl)) ?_|(refine wpList_akv HK rfl rfl ?_;intro _ g5 HK';simp only[lcA,lnA] at HK';replace HK:=HK';clear HK')|(refine wpList_sv (f2:=l) HK 2 rfl _ _ rfl rfl rfl rfl ?_;intro _ HK';simp only[List.set] at HK';replace HK:=HK';clear HK'))
  refine wp_region_held_drew (S:=(fun W=>Hid (Kn w.heap.size w W [(w.heap.size,67,mC n s l m),(g3,144,arC n s l m),(g5,26,vC 2 0 l ⟨#[]⟩)] []))) (by kernel_rfl) ?_ (fun hHeld=>?_)
  ·(try dsimp only);exact zH HK.out.drew
  refine stk 0 20 rfl ?_
  refine stk 1 21 rfl ?_ (fun w hSw=>kexec_vf hSw 2 _ (by rfl) (by rfl) (by rfl))
  refine stk 3 23 rfl ?_
  refine stk 4 24 rfl ?_ (fun w hSw=>kexec_vf hSw 2 _ (by rfl) (by rfl) (by rfl))
  refine srd1 2 (some 22) rfl (fun K hK=>?_)
  go_simp
  go_at_call 88
  refine(H2.out _).mono ?_;rintro e w5 ⟨rfl,rfl⟩;have hs:=hHeld
  refine hK.out _ _ hs (fun hHeld=>?_)
  clear hK K
  try simp only[ap1,ap2,ap3,ap4,ap5]
  refine stk 5 25 rfl ?_
  refine wpAnyH_done (by kernel_rfl) ?_ _
  replace HK:=zH (hHeld.out.takeL 2)
  clear hHeld
  simp only[List.take] at HK
  go_wp2_with fail
  go_ret
  exact⟨rfl,HK.out.b⟩
 case pos=>
 rw[hl] at H2
 by_cases hm:Num.M m=m
 case neg=>
  have hok:decide (Mt.Ok ⟨n,s,l,m⟩)=false:=decide_eq_false (Mt.ok_m hn hm)
  rw[hok]
  have hne:((Num.M m:Int) != (m:Int))=true:=by rw[bne_iff_ne];omega
  clear hok hm
  generalize Num.M m=t at *
  go_enter Try.func77,Try.ntmps77
  go_wp2_with (first|refine zX (kexec_lm HK 0 _ (by rfl) (by rfl) (by rfl)) ?_)
  refine(HT.out _).mono ?_;rintro e w1 ⟨rfl,b1⟩
  replace HK:=hkC HK b1;clear b1
  go_wp2_with (first|(refine wpList_aka HK rfl rfl ?_;intro _ g3 HK';simp only[lcA,lnA] at HK';replace HK:=HK';clear HK')|(refine wpList_sa HK 1 rfl _ _ rfl rfl rfl rfl ?_;intro _ HK';simp only[List.set] at HK';replace HK:=HK';clear HK'))
  refine wp_loop_rounds 4 ?_
  rw[rounds_succ]
  go_wp2_with (first|refine zX (kexec_a1 HK 1 _ (by rfl) (by rfl) (by rfl)) ?_|(refine wpList_akv HK rfl rfl ?_;intro _ g5 HK';simp only[lcA,lnA] at HK';replace HK:=HK';clear HK')|(refine wpList_sv (f2:=s) HK 2 rfl _ _ rfl rfl rfl rfl ?_;intro _ HK';simp only[List.set] at HK';replace HK:=HK';clear HK'))
  refine wp_region_held_drew (S:=(fun W=>Hid (Kn w.heap.size w W [(w.heap.size,67,mC n s l m),(g3,144,arC n s l m),(g5,26,vC 2 0 s ⟨#[]⟩)] []))) (by kernel_rfl) ?_ (fun hHeld=>?_)
  ·(try dsimp only);exact zH HK.out.drew
  refine stk 0 20 rfl ?_
  refine stk 1 21 rfl ?_ (fun w hSw=>kexec_vf hSw 2 _ (by rfl) (by rfl) (by rfl))
  refine stk 3 23 rfl ?_
  refine stk 4 24 rfl ?_ (fun w hSw=>kexec_vf hSw 2 _ (by rfl) (by rfl) (by rfl))
  refine srd1 2 (some 22) rfl (fun K hK=>?_)
  go_simp
  go_at_call 88
  refine(H1.out _).mono ?_;rintro e w5 ⟨rfl,rfl⟩;have hs:=hHeld
  refine hK.out _ _ hs (fun hHeld=>?_)
  clear hK K
  try simp only[ap1,ap2,ap3,ap4,ap5]
  refine stk 5 25 rfl ?_
  refine wpAnyH_done (by kernel_rfl) ?_ _
  replace HK:=zH (hHeld.out.takeL 2)
  clear hHeld
  simp only[List.take] at HK
  go_wp2_with fail
  rw[rounds_succ]
  go_wp2_with (first|refine zX (kexec_a2 HK 1 _ (by rfl) (by rfl) (by rfl)) ?_|(refine wpList_akv HK rfl rfl ?_;intro _ g5 HK';simp only[lcA,lnA] at HK';replace HK:=HK';clear HK')|(refine wpList_sv (f2:=l) HK 2 rfl _ _ rfl rfl rfl rfl ?_;intro _ HK';simp only[List.set] at HK';replace HK:=HK';clear HK'))
  refine wp_region_held_drew (S:=(fun W=>Hid (Kn w.heap.size w W [(w.heap.size,67,mC n s l m),(g3,144,arC n s l m),(g5,26,vC 2 0 l ⟨#[]⟩)] []))) (by kernel_rfl) ?_ (fun hHeld=>?_)
  ·(try dsimp only);exact zH HK.out.drew
  refine stk 0 20 rfl ?_
  refine stk 1 21 rfl ?_ (fun w hSw=>kexec_vf hSw 2 _ (by rfl) (by rfl) (by rfl))
  refine stk 3 23 rfl ?_
  refine stk 4 24 rfl ?_ (fun w hSw=>kexec_vf hSw 2 _ (by rfl) (by rfl) (by rfl))
  refine srd1 2 (some 22) rfl (fun K hK=>?_)
  go_simp
  go_at_call 88
  refine(H2.out _).mono ?_;rintro e w5 ⟨rfl,rfl⟩;have hs:=hHeld
  refine hK.out _ _ hs (fun hHeld=>?_)
  clear hK K
  try simp only[ap1,ap2,ap3,ap4,ap5]
  refine stk 5 25 rfl ?_
  refine wpAnyH_done (by kernel_rfl) ?_ _
  replace HK:=zH (hHeld.out.takeL 2)
  clear hHeld
  simp only[List.take] at HK
  go_wp2_with fail
  rw[rounds_succ]
  go_wp2_with (first|refine zX (kexec_a3 HK 1 _ (by rfl) (by rfl) (by rfl)) ?_|(refine wpList_akv HK rfl rfl ?_;intro _ g5 HK';simp only[lcA,lnA] at HK';replace HK:=HK';clear HK')|(refine wpList_sv (f2:=m) HK 2 rfl _ _ rfl rfl rfl rfl ?_;intro _ HK';simp only[List.set] at HK';replace HK:=HK';clear HK'))
  refine wp_region_held_drew (S:=(fun W=>Hid (Kn w.heap.size w W [(w.heap.size,67,mC n s l m),(g3,144,arC n s l m),(g5,26,vC 2 0 m ⟨#[]⟩)] []))) (by kernel_rfl) ?_ (fun hHeld=>?_)
  ·(try dsimp only);exact zH HK.out.drew
  refine stk 0 20 rfl ?_
  refine stk 1 21 rfl ?_ (fun w hSw=>kexec_vf hSw 2 _ (by rfl) (by rfl) (by rfl))
  refine stk 3 23 rfl ?_
  refine stk 4 24 rfl ?_ (fun w hSw=>kexec_vf hSw 2 _ (by rfl) (by rfl) (by rfl))
  refine srd1 2 (some 22) rfl (fun K hK=>?_)
  go_simp
  go_at_call 88
  refine(H3.out _).mono ?_;rintro e w5 ⟨rfl,rfl⟩;have hs:=hHeld
  refine hK.out _ _ hs (fun hHeld=>?_)
  clear hK K
  try simp only[ap1,ap2,ap3,ap4,ap5]
  refine stk 5 25 rfl ?_
  refine wpAnyH_done (by kernel_rfl) ?_ _
  replace HK:=zH (hHeld.out.takeL 2)
  clear hHeld
  simp only[List.take] at HK
  go_wp2_with fail
  go_ret
  exact⟨rfl,HK.out.b⟩
 case pos=>
  rw[hm] at H3
  have hok:decide (Mt.Ok ⟨n,s,l,m⟩)=decide (Num.cmp l m≤0):=decide_eq_decide.2 (Mt.ok_all hn hs hl hm)
  rw[hok]
  clear hok
  generalize Num.cmp l m=c at *
  clear hs hl hm
  go_enter Try.func77,Try.ntmps77
  go_wp2_with (first|refine zX (kexec_lm HK 0 _ (by rfl) (by rfl) (by rfl)) ?_)
  refine(HT.out _).mono ?_;rintro e w1 ⟨rfl,b1⟩
  replace HK:=hkC HK b1;clear b1
  go_wp2_with (first|(refine wpList_aka HK rfl rfl ?_;intro _ g3 HK';simp only[lcA,lnA] at HK';replace HK:=HK';clear HK')|(refine wpList_sa HK 1 rfl _ _ rfl rfl rfl rfl ?_;intro _ HK';simp only[List.set] at HK';replace HK:=HK';clear HK'))
  refine wp_loop_rounds 4 ?_
  rw[rounds_succ]
  go_wp2_with (first|refine zX (kexec_a1 HK 1 _ (by rfl) (by rfl) (by rfl)) ?_|(refine wpList_akv HK rfl rfl ?_;intro _ g5 HK';simp only[lcA,lnA] at HK';replace HK:=HK';clear HK')|(refine wpList_sv (f2:=s) HK 2 rfl _ _ rfl rfl rfl rfl ?_;intro _ HK';simp only[List.set] at HK';replace HK:=HK';clear HK'))
  refine wp_region_held_drew (S:=(fun W=>Hid (Kn w.heap.size w W [(w.heap.size,67,mC n s l m),(g3,144,arC n s l m),(g5,26,vC 2 0 s ⟨#[]⟩)] []))) (by kernel_rfl) ?_ (fun hHeld=>?_)
  ·(try dsimp only);exact zH HK.out.drew
  refine stk 0 20 rfl ?_
  refine stk 1 21 rfl ?_ (fun w hSw=>kexec_vf hSw 2 _ (by rfl) (by rfl) (by rfl))
  refine stk 3 23 rfl ?_
  refine stk 4 24 rfl ?_ (fun w hSw=>kexec_vf hSw 2 _ (by rfl) (by rfl) (by rfl))
  refine srd1 2 (some 22) rfl (fun K hK=>?_)
  go_simp
  go_at_call 88
  refine(H1.out _).mono ?_;rintro e w5 ⟨rfl,rfl⟩;have hs:=hHeld
  refine hK.out _ _ hs (fun hHeld=>?_)
  clear hK K
  try simp only[ap1,ap2,ap3,ap4,ap5]
  refine stk 5 25 rfl ?_
  refine wpAnyH_done (by kernel_rfl) ?_ _
  replace HK:=zH (hHeld.out.takeL 2)
  clear hHeld
  simp only[List.take] at HK
  go_wp2_with fail
  rw[rounds_succ]
  go_wp2_with (first|refine zX (kexec_a2 HK 1 _ (by rfl) (by rfl) (by rfl)) ?_|(refine wpList_akv HK rfl rfl ?_;intro _ g5 HK';simp only[lcA,lnA] at HK';replace HK:=HK';clear HK')|(refine wpList_sv (f2:=l) HK 2 rfl _ _ rfl rfl rfl rfl ?_;intro _ HK';simp only[List.set] at HK';replace HK:=HK';clear HK'))
  refine wp_region_held_drew (S:=(fun W=>Hid (Kn w.heap.size w W [(w.heap.size,67,mC n s l m),(g3,144,arC n s l m),(g5,26,vC 2 0 l ⟨#[]⟩)] []))) (by kernel_rfl) ?_ (fun hHeld=>?_)
  ·(try dsimp only);exact zH HK.out.drew
  refine stk 0 20 rfl ?_
  refine stk 1 21 rfl ?_ (fun w hSw=>kexec_vf hSw 2 _ (by rfl) (by rfl) (by rfl))
  refine stk 3 23 rfl ?_
  refine stk 4 24 rfl ?_ (fun w hSw=>kexec_vf hSw 2 _ (by rfl) (by rfl) (by rfl))
  refine srd1 2 (some 22) rfl (fun K hK=>?_)
  go_simp
  go_at_call 88
  refine(H2.out _).mono ?_;rintro e w5 ⟨rfl,rfl⟩;have hs:=hHeld
  refine hK.out _ _ hs (fun hHeld=>?_)
  clear hK K
  try simp only[ap1,ap2,ap3,ap4,ap5]
  refine stk 5 25 rfl ?_
  refine wpAnyH_done (by kernel_rfl) ?_ _
  replace HK:=zH (hHeld.out.takeL 2)
  clear hHeld
  simp only[List.take] at HK
  go_wp2_with fail
  rw[rounds_succ]
  go_wp2_with (first|refine zX (kexec_a3 HK 1 _ (by rfl) (by rfl) (by rfl)) ?_|(refine wpList_akv HK rfl rfl ?_;intro _ g5 HK';simp only[lcA,lnA] at HK';replace HK:=HK';clear HK')|(refine wpList_sv (f2:=m) HK 2 rfl _ _ rfl rfl rfl rfl ?_;intro _ HK';simp only[List.set] at HK';replace HK:=HK';clear HK'))
  refine wp_region_held_drew (S:=(fun W=>Hid (Kn w.heap.size w W [(w.heap.size,67,mC n s l m),(g3,144,arC n s l m),(g5,26,vC 2 0 m ⟨#[]⟩)] []))) (by kernel_rfl) ?_ (fun hHeld=>?_)
  ·(try dsimp only);exact zH HK.out.drew
  refine stk 0 20 rfl ?_
  refine stk 1 21 rfl ?_ (fun w hSw=>kexec_vf hSw 2 _ (by rfl) (by rfl) (by rfl))
  refine stk 3 23 rfl ?_
  refine stk 4 24 rfl ?_ (fun w hSw=>kexec_vf hSw 2 _ (by rfl) (by rfl) (by rfl))
  refine srd1 2 (some 22) rfl (fun K hK=>?_)
  go_simp
  go_at_call 88
  refine(H3.out _).mono ?_;rintro e w5 ⟨rfl,rfl⟩;have hs:=hHeld
  refine hK.out _ _ hs (fun hHeld=>?_)
  clear hK K
  try simp only[ap1,ap2,ap3,ap4,ap5]
  refine stk 5 25 rfl ?_
  refine wpAnyH_done (by kernel_rfl) ?_ _
  replace HK:=zH (hHeld.out.takeL 2)
  clear hHeld
  simp only[List.take] at HK
  go_wp2_with fail
  rw[rounds_succ]
  go_wp2_with (first|refine zX (kexec_ml HK 0 _ (by rfl) (by rfl) (by rfl)) ?_|refine zX (kexec_mm HK 0 _ (by rfl) (by rfl) (by rfl)) ?_)
  refine(H4.out _).mono ?_;rintro e w1 ⟨rfl,rfl⟩
  go_wp2_with fail
  go_ret
  exact⟨rfl,HK.out.b⟩
end
section
open Go.RowKit
theorem sound_any(x:Oh)(w:World)(hx:In w x):Calls Try.prog 43 #[.agg (obA x)] w (IsB (Sto.sound x.v) w):=by
 have HI:=zH hx
 have HK:=kn1 w 69 (obA x)
 have HD:=zH right_any
 have HQ:=zH qright_any
 have HL:=zH lright_any
 have HG:=zH gright_any
 have HM:=zH mright_any
 clear hx
 unfold IsB Sto.sound at *
 by_cases h1:x.v.kind=1
 ·rw[if_pos h1]
  go_enter Try.func43,Try.ntmps43
  go_wp2_with (first|refine zX (kob_k HK 0 _ (by rfl) (by rfl) (by rfl)) ?_|refine zX (kob_p HK 0 _ (by rfl) (by rfl) (by rfl)) ?_)
  refine(HD.out _ _ _ _ _ (HI.out.p.later HK.out.b)).mono ?_;rintro e w1 ⟨rfl,b1⟩
  replace HK:=hkC HK b1;clear b1
  go_wp2_with fail
  go_ret
  exact⟨rfl,HK.out.b⟩
 rw[if_neg h1]
 by_cases h2:x.v.kind=2
 ·rw[if_pos h2]
  go_enter Try.func43,Try.ntmps43
  go_wp2_with (first|refine zX (kob_k HK 0 _ (by rfl) (by rfl) (by rfl)) ?_|refine zX (kob_c HK 0 _ (by rfl) (by rfl) (by rfl)) ?_|refine zX (kob_v HK 0 _ (by rfl) (by rfl) (by rfl)) ?_)
  refine(HQ.out _ _ _ _ _ _ (HI.out.v.later HK.out.b)).mono ?_;rintro e w1 ⟨rfl,b1⟩
  replace HK:=hkC HK b1;clear b1
  go_wp2_with fail
  go_ret
  exact⟨rfl,HK.out.b⟩
 rw[if_neg h2]
 by_cases h3:x.v.kind=3
 ·rw[if_pos h3]
  go_enter Try.func43,Try.ntmps43
  go_wp2_with (first|refine zX (kob_k HK 0 _ (by rfl) (by rfl) (by rfl)) ?_|refine zX (kob_r HK 0 _ (by rfl) (by rfl) (by rfl)) ?_)
  refine(HL.out _ _ _ _ _ (HI.out.r.later HK.out.b)).mono ?_;rintro e w1 ⟨rfl,b1⟩
  replace HK:=hkC HK b1;clear b1
  go_wp2_with fail
  go_ret
  exact⟨rfl,HK.out.b⟩
 rw[if_neg h3]
 by_cases h4:x.v.kind=4
 ·rw[if_pos h4]
  generalize hg:decide (Gt.Right x.v.cap x.v.refs)=gb
  have HGb:=zH hg
  clear hg
  cases gb
  ·go_enter Try.func43,Try.ntmps43
   go_wp2_with (first|refine zX (kob_k HK 0 _ (by rfl) (by rfl) (by rfl)) ?_|refine zX (kob_c HK 0 _ (by rfl) (by rfl) (by rfl)) ?_|refine zX (kob_r HK 0 _ (by rfl) (by rfl) (by rfl)) ?_)
   refine(HG.out _ _ _ _ _ _ (HI.out.r.later HK.out.b)).mono ?_;rintro e w1 ⟨rfl,b1⟩
   rw[HGb.out]
   replace HK:=hkC HK b1;clear b1
   go_wp2_with fail
   go_ret
   exact⟨rfl,HK.out.b⟩
  ·go_enter Try.func43,Try.ntmps43
   go_wp2_with (first|refine zX (kob_k HK 0 _ (by rfl) (by rfl) (by rfl)) ?_|refine zX (kob_c HK 0 _ (by rfl) (by rfl) (by rfl)) ?_|refine zX (kob_r HK 0 _ (by rfl) (by rfl) (by rfl)) ?_)
   refine(HG.out _ _ _ _ _ _ (HI.out.r.later HK.out.b)).mono ?_;rintro e w1 ⟨rfl,b1⟩
   rw[HGb.out]
   replace HK:=hkC HK b1;clear b1
   go_wp2_with (first|refine zX (kob_d HK 0 _ (by rfl) (by rfl) (by rfl)) ?_)
   go_ret
   exact⟨rfl,HK.out.b⟩
 rw[if_neg h4]
 by_cases h5:x.v.kind=5
 ·rw[if_pos h5]
  go_enter Try.func43,Try.ntmps43
  go_wp2_with (first|refine zX (kob_k HK 0 _ (by rfl) (by rfl) (by rfl)) ?_|refine zX (kob_m HK 0 _ (by rfl) (by rfl) (by rfl)) ?_)
  refine(HM.out x.v.mt HI.out.m _).mono ?_;rintro e w1 ⟨rfl,b1⟩
  replace HK:=hkC HK b1;clear b1
  go_wp2_with fail
  go_ret
  exact⟨rfl,HK.out.b⟩
 ·rw[if_neg h5]
  go_enter Try.func43,Try.ntmps43
  go_wp2_with (first|refine zX (kob_k HK 0 _ (by rfl) (by rfl) (by rfl)) ?_)
  go_ret
  exact⟨rfl,HK.out.b⟩
end
section
open Go.RowKit
theorem oright_any(A:Option Addr)(c n:Nat)(l:List Oh)(w:World)(hs:Obs w A n c l):
  Calls Try.prog 18 #[.slice A n c] w (IsB (decide (Sto.Right (vs l))) w):=by
 unfold IsB
 by_cases hn:8<n
 ·have hd:decide (Sto.Right (vs l))=false:=decide_eq_false fun h=>by have:=h.len;rw[vs_len,hs.len] at this;omega
  rw[hd]
  have hn2:8<(n:Int):=by omega
  clear hs hd
  go_enter Try.func18,Try.ntmps18
  go_wp2_with fail
  go_ret
  exact⟨rfl,Below.refl _ w⟩
 have HS:=zH hs
 obtain⟨hno,hyes⟩:=Sto.right_told (l:=vs l) (by rw[vs_len];exact hs.len) (by omega:n≤8)
 have HNo:=zH hno
 have HYes:=zH hyes
 clear hs hno hyes
 generalize decide (Sto.Right (vs l))=r at *
 have hn2:¬8<(n:Int):=by omega
 have HK:=zH (Kn.start w)
 go_enter Try.func18,Try.ntmps18
 go_wp2_with fail
 go_loopw [10] (fun vi wr=>∃k:Nat,k≤n∧vi=.int .i64 k∧Hid (∀i,i<k→Sto.Good (vs l) i)∧Hid (Kn w.heap.size w wr [] [])) (fun vi _=>n-(intOf vi).toNat)
 case atStart=>exact⟨0,Nat.zero_le _,rfl,zH (fun i hi=>by omega),HK⟩
 case round=>
  clear HK
  obtain⟨k,hk,rfl,HGo,HK⟩:=hrel
  by_cases hlt:k<n
  ·obtain⟨x,hx,hin⟩:=HS.out.get hlt
   obtain⟨b,o,rfl,hat⟩:=HS.out.s.at (Nat.lt_of_le_of_lt (Nat.zero_le _) hlt)
   have HX:Hid (∀W,Below w.heap.size w W→∀j v,(obL x)[j]?=some v→W.cell? ⟨b,o+k*11+j,none⟩=some v):=zH (fun W hW=>hat W hW k x hx)
   have HPrev:Hid (∀j,k=j+1→∃y:Oh,(vs l)[j]?=some y.v∧∀W,Below w.heap.size w W→∀i v,(obL y)[i]?=some v→W.cell? ⟨b,o+j*11+i,none⟩=some v):=zH fun j hj=>by
    obtain⟨y,hy,_⟩:=HS.out.get (k:=j) (by omega)
    exact⟨y,vs_get hy,fun W hW=>hat W hW j y hy⟩
   have HNm:=zH (fun W=>snamed_any x.v.name W)
   have HCl:=zH (fun W (hW:Below w.heap.size w W)=>clean_any x W (hin.later hW))
   have HSo:=zH (fun W (hW:Below w.heap.size w W)=>sound_any x W (hin.later hW))
   have hxv:=vs_get hx
   have HIf:Hid (Sto.Good (vs l) k↔(Sto.One x.v=true∧∀j y,k=j+1→(vs l)[j]?=some y→Dct.lt y.name x.v.name=true)):=zH ⟨fun h=>h _ hxv,fun h x' hx'=>by rw[hxv] at hx';injection hx' with hx';subst hx';exact h⟩
   unfold Sto.One at HIf
   unfold IsB at HNm HCl HSo
   clear hat hin hx hxv
   generalize decide (Sto.named x.v.name)=q0 at *
   generalize Sto.clean x.v=q1 at *
   generalize Sto.sound x.v=q2 at *
   have hk1:(0:Int)≤(k:Int):=by omega
   have hk2:(k:Int)<(n:Int):=by omega
   go_wp2_with (first|(refine wpList_of_exec (v:=.agg (obA x)) (by rfl) (exec_obx (off:=o+k*11) _ (by rfl) (by rfl) (HX.out _ HK.out.b)) ?_)|(refine wpList_aob HK rfl rfl ?_;intro _ g2 HK';simp only[lnA] at HK';replace HK:=HK';clear HK')|(refine wpList_sob HK 0 rfl _ _ rfl rfl rfl rfl ?_;intro _ HK';simp only[List.set] at HK';replace HK:=HK';clear HK'))
   cases q0 with
   | false=>
    have HR:Hid (r=false):=zH (HNo.out k hlt fun h=>by have:=(HIf.out.1 h).1;simp at this)
    refine wp_region_held_drew (S:=(fun W=>Hid (Kn w.heap.size w W [(g2,69,obA x)] []))) (by kernel_rfl) ?_ (fun hHeld=>?_)
    ·(try dsimp only);exact zH HK.out.drew
    refine stk 0 15 rfl ?_
    refine stk 1 16 rfl ?_ (fun w hSw=>kob_n hSw 0 _ (by rfl) (by rfl) (by rfl))
    refine srd1 2 (some 17) rfl (fun K hK=>?_)
    go_simp
    go_at_call 41
    refine(HNm.out _).mono ?_;rintro e w5 ⟨rfl,b5⟩;have hs:=zH (hHeld.out.call b5);clear b5
    refine hK.out _ _ hs (fun hHeld=>?_)
    clear hK K
    try simp only[ap1,ap2,ap3,ap4,ap5]
    refine stk 3 18 rfl ?_
    refine stk 4 19 rfl ?_
    refine stu 5 20 rfl ?_
    refine stu 6 21 rfl ?_
    refine stu 7 22 rfl ?_
    refine stk 8 23 rfl ?_
    refine stk 9 24 rfl ?_
    refine stu 10 25 rfl ?_
    refine stu 11 26 rfl ?_
    refine stu 12 27 rfl ?_
    refine stk 13 28 rfl ?_
    refine stk 14 29 rfl ?_
    refine stu 15 30 rfl ?_
    refine stu 16 31 rfl ?_
    refine stu 17 32 rfl ?_
    refine stu 18 33 rfl ?_
    refine stu 19 34 rfl ?_
    refine stu 20 35 rfl ?_
    refine stu 21 36 rfl ?_
    refine stu 22 37 rfl ?_
    refine stu 23 38 rfl ?_
    refine stu 24 39 rfl ?_
    refine stu 25 40 rfl ?_
    refine stu 26 41 rfl ?_
    refine stu 27 42 rfl ?_
    refine stk 28 43 rfl ?_
    refine wpAnyH_done (by kernel_rfl) ?_ _
    go_wp2_with fail
    go_ret
    exact⟨by rw[HR.out]<;>rfl,hHeld.out.b⟩
   | true=>
   cases q1 with
   | false=>
    have HR:Hid (r=false):=zH (HNo.out k hlt fun h=>by have:=(HIf.out.1 h).1;simp at this)
    refine wp_region_held_drew (S:=(fun W=>Hid (Kn w.heap.size w W [(g2,69,obA x)] []))) (by kernel_rfl) ?_ (fun hHeld=>?_)
    ·(try dsimp only);exact zH HK.out.drew
    refine stk 0 15 rfl ?_
    refine stk 1 16 rfl ?_ (fun w hSw=>kob_n hSw 0 _ (by rfl) (by rfl) (by rfl))
    refine srd1 2 (some 17) rfl (fun K hK=>?_)
    go_simp
    go_at_call 41
    refine(HNm.out _).mono ?_;rintro e w5 ⟨rfl,b5⟩;have hs:=zH (hHeld.out.call b5);clear b5
    refine hK.out _ _ hs (fun hHeld=>?_)
    clear hK K
    try simp only[ap1,ap2,ap3,ap4,ap5]
    refine stk 3 18 rfl ?_
    refine stk 4 19 rfl ?_
    refine stk 5 20 rfl ?_ (fun w hSw=>kob hSw 0 _ (by rfl) (by rfl) (by rfl))
    refine srd1 6 (some 21) rfl (fun K hK=>?_)
    go_simp
    go_at_call 42
    refine(HCl.out _ hHeld.out.b).mono ?_;rintro e w5 ⟨rfl,b5⟩;have hs:=zH (hHeld.out.call b5);clear b5
    refine hK.out _ _ hs (fun hHeld=>?_)
    clear hK K
    try simp only[ap1,ap2,ap3,ap4,ap5]
    refine stk 7 22 rfl ?_
    refine stk 8 23 rfl ?_
    refine stk 9 24 rfl ?_
    refine stu 10 25 rfl ?_
    refine stu 11 26 rfl ?_
    refine stu 12 27 rfl ?_
    refine stk 13 28 rfl ?_
    refine stk 14 29 rfl ?_
    refine stu 15 30 rfl ?_
    refine stu 16 31 rfl ?_
    refine stu 17 32 rfl ?_
    refine stu 18 33 rfl ?_
    refine stu 19 34 rfl ?_
    refine stu 20 35 rfl ?_
    refine stu 21 36 rfl ?_
    refine stu 22 37 rfl ?_
    refine stu 23 38 rfl ?_
    refine stu 24 39 rfl ?_
    refine stu 25 40 rfl ?_
    refine stu 26 41 rfl ?_
    refine stu 27 42 rfl ?_
    refine stk 28 43 rfl ?_
    refine wpAnyH_done (by kernel_rfl) ?_ _
    go_wp2_with fail
    go_ret
    exact⟨by rw[HR.out]<;>rfl,hHeld.out.b⟩
   | true=>
   cases q2 with
   | false=>
    have HR:Hid (r=false):=zH (HNo.out k hlt fun h=>by have:=(HIf.out.1 h).1;simp at this)
    refine wp_region_held_drew (S:=(fun W=>Hid (Kn w.heap.size w W [(g2,69,obA x)] []))) (by kernel_rfl) ?_ (fun hHeld=>?_)
    ·(try dsimp only);exact zH HK.out.drew
    refine stk 0 15 rfl ?_
    refine stk 1 16 rfl ?_ (fun w hSw=>kob_n hSw 0 _ (by rfl) (by rfl) (by rfl))
    refine srd1 2 (some 17) rfl (fun K hK=>?_)
    go_simp
    go_at_call 41
    refine(HNm.out _).mono ?_;rintro e w5 ⟨rfl,b5⟩;have hs:=zH (hHeld.out.call b5);clear b5
    refine hK.out _ _ hs (fun hHeld=>?_)
    clear hK K
    try simp only[ap1,ap2,ap3,ap4,ap5]
    refine stk 3 18 rfl ?_
    refine stk 4 19 rfl ?_
    refine stk 5 20 rfl ?_ (fun w hSw=>kob hSw 0 _ (by rfl) (by rfl) (by rfl))
    refine srd1 6 (some 21) rfl (fun K hK=>?_)
    go_simp
    go_at_call 42
    refine(HCl.out _ hHeld.out.b).mono ?_;rintro e w5 ⟨rfl,b5⟩;have hs:=zH (hHeld.out.call b5);clear b5
    refine hK.out _ _ hs (fun hHeld=>?_)
    clear hK K
    try simp only[ap1,ap2,ap3,ap4,ap5]
    refine stk 7 22 rfl ?_
    refine stk 8 23 rfl ?_
    refine stk 9 24 rfl ?_
    refine stk 10 25 rfl ?_ (fun w hSw=>kob hSw 0 _ (by rfl) (by rfl) (by rfl))
    refine srd1 11 (some 26) rfl (fun K hK=>?_)
    go_simp
    go_at_call 43
    refine(HSo.out _ hHeld.out.b).mono ?_;rintro e w5 ⟨rfl,b5⟩;have hs:=zH (hHeld.out.call b5);clear b5
    refine hK.out _ _ hs (fun hHeld=>?_)
    clear hK K
    try simp only[ap1,ap2,ap3,ap4,ap5]
    refine stk 12 27 rfl ?_
    refine stk 13 28 rfl ?_
    refine stk 14 29 rfl ?_
    refine stu 15 30 rfl ?_
    refine stu 16 31 rfl ?_
    refine stu 17 32 rfl ?_
    refine stu 18 33 rfl ?_
    refine stu 19 34 rfl ?_
    refine stu 20 35 rfl ?_
    refine stu 21 36 rfl ?_
    refine stu 22 37 rfl ?_
    refine stu 23 38 rfl ?_
    refine stu 24 39 rfl ?_
    refine stu 25 40 rfl ?_
    refine stu 26 41 rfl ?_
    refine stu 27 42 rfl ?_
    refine stk 28 43 rfl ?_
    refine wpAnyH_done (by kernel_rfl) ?_ _
    go_wp2_with fail
    go_ret
    exact⟨by rw[HR.out]<;>rfl,hHeld.out.b⟩
   | true=>
   rcases Nat.eq_zero_or_pos k with rfl|hpos
   ·clear HPrev
    refine wp_region_held_drew (S:=(fun W=>Hid (Kn w.heap.size w W [(g2,69,obA x)] []))) (by kernel_rfl) ?_ (fun hHeld=>?_)
    ·(try dsimp only);exact zH HK.out.drew
    refine stk 0 15 rfl ?_
    refine stk 1 16 rfl ?_ (fun w hSw=>kob_n hSw 0 _ (by rfl) (by rfl) (by rfl))
    refine srd1 2 (some 17) rfl (fun K hK=>?_)
    go_simp
    go_at_call 41
    refine(HNm.out _).mono ?_;rintro e w5 ⟨rfl,b5⟩;have hs:=zH (hHeld.out.call b5);clear b5
    refine hK.out _ _ hs (fun hHeld=>?_)
    clear hK K
    try simp only[ap1,ap2,ap3,ap4,ap5]
    refine stk 3 18 rfl ?_
    refine stk 4 19 rfl ?_
    refine stk 5 20 rfl ?_ (fun w hSw=>kob hSw 0 _ (by rfl) (by rfl) (by rfl))
    refine srd1 6 (some 21) rfl (fun K hK=>?_)
    go_simp
    go_at_call 42
    refine(HCl.out _ hHeld.out.b).mono ?_;rintro e w5 ⟨rfl,b5⟩;have hs:=zH (hHeld.out.call b5);clear b5
    refine hK.out _ _ hs (fun hHeld=>?_)
    clear hK K
    try simp only[ap1,ap2,ap3,ap4,ap5]
    refine stk 7 22 rfl ?_
    refine stk 8 23 rfl ?_
    refine stk 9 24 rfl ?_
    refine stk 10 25 rfl ?_ (fun w hSw=>kob hSw 0 _ (by rfl) (by rfl) (by rfl))
    refine srd1 11 (some 26) rfl (fun K hK=>?_)
    go_simp
    go_at_call 43
    refine(HSo.out _ hHeld.out.b).mono ?_;rintro e w5 ⟨rfl,b5⟩;have hs:=zH (hHeld.out.call b5);clear b5
    refine hK.out _ _ hs (fun hHeld=>?_)
    clear hK K
    try simp only[ap1,ap2,ap3,ap4,ap5]
    refine stk 12 27 rfl ?_
    refine stk 13 28 rfl ?_
    refine stk 14 29 rfl ?_
    refine stk 15 30 rfl ?_
    refine stk 16 31 rfl ?_
    refine stk 17 32 rfl ?_
    refine stu 18 33 rfl ?_
    refine stu 19 34 rfl ?_
    refine stu 20 35 rfl ?_
    refine stu 21 36 rfl ?_
    refine stu 22 37 rfl ?_
    refine stu 23 38 rfl ?_
    refine stu 24 39 rfl ?_
    refine stu 25 40 rfl ?_
    refine stu 26 41 rfl ?_
    refine stk 27 42 rfl ?_
    refine stk 28 43 rfl ?_
    refine wpAnyH_done (by kernel_rfl) ?_ _
    go_wp2_with fail
    exact⟨⟨1,by omega,by go_num,zH (fun i hi=>by
     obtain rfl:i=0:=by omega
     exact HIf.out.2 ⟨rfl,fun j y h _=>by omega⟩),zH (hHeld.out.takeL 0)⟩,by simp[intOf];omega⟩
   ·obtain⟨j,rfl⟩:∃j,k=j+1:=⟨k-1,by omega⟩
    clear hpos
    obtain⟨y,hy,hyc⟩:=HPrev.out j rfl
    have HY:=zH hyc
    have HYl:=zH hy
    clear hy hyc HPrev
    have hj:j<n:=by omega
    have hj2:j<9223372036854775807:=by omega
    have hj3:((j+1:Nat):Int) > 0:=by omega
    cases hlt2:Dct.lt y.v.name x.v.name with
    | true=>
     have hb:(!Dct.lt y.v.name x.v.name)=false:=by rw[hlt2];rfl
     refine wp_region_held_drew (S:=(fun W=>Hid (Kn w.heap.size w W [(g2,69,obA x)] []))) (by kernel_rfl) ?_ (fun hHeld=>?_)
     ·(try dsimp only);exact zH HK.out.drew
     refine stk 0 15 rfl ?_
     refine stk 1 16 rfl ?_ (fun w hSw=>kob_n hSw 0 _ (by rfl) (by rfl) (by rfl))
     refine srd1 2 (some 17) rfl (fun K hK=>?_)
     go_simp
     go_at_call 41
     refine(HNm.out _).mono ?_;rintro e w5 ⟨rfl,b5⟩;have hs:=zH (hHeld.out.call b5);clear b5
     refine hK.out _ _ hs (fun hHeld=>?_)
     clear hK K
     try simp only[ap1,ap2,ap3,ap4,ap5]
     refine stk 3 18 rfl ?_
     refine stk 4 19 rfl ?_
     refine stk 5 20 rfl ?_ (fun w hSw=>kob hSw 0 _ (by rfl) (by rfl) (by rfl))
     refine srd1 6 (some 21) rfl (fun K hK=>?_)
     go_simp
     go_at_call 42
     refine(HCl.out _ hHeld.out.b).mono ?_;rintro e w5 ⟨rfl,b5⟩;have hs:=zH (hHeld.out.call b5);clear b5
     refine hK.out _ _ hs (fun hHeld=>?_)
     clear hK K
     try simp only[ap1,ap2,ap3,ap4,ap5]
     refine stk 7 22 rfl ?_
     refine stk 8 23 rfl ?_
     refine stk 9 24 rfl ?_
     refine stk 10 25 rfl ?_ (fun w hSw=>kob hSw 0 _ (by rfl) (by rfl) (by rfl))
     refine srd1 11 (some 26) rfl (fun K hK=>?_)
     go_simp
     go_at_call 43
     refine(HSo.out _ hHeld.out.b).mono ?_;rintro e w5 ⟨rfl,b5⟩;have hs:=zH (hHeld.out.call b5);clear b5
     refine hK.out _ _ hs (fun hHeld=>?_)
     clear hK K
     try simp only[ap1,ap2,ap3,ap4,ap5]
     refine stk 12 27 rfl ?_
     refine stk 13 28 rfl ?_
     refine stk 14 29 rfl ?_
     refine stk 15 30 rfl ?_
     refine stk 16 31 rfl ?_
     refine stk 17 32 rfl ?_
     refine stk 18 33 rfl ?_
     refine stk 19 34 rfl ?_ (fun w hSw=>kob_n hSw 0 _ (by rfl) (by rfl) (by rfl))
     refine stk 20 35 rfl ?_
     refine stk 21 36 rfl ?_
     refine stk 22 37 rfl ?_ (fun w hSw=>exec_sub1 (j:=j) _ (by rfl) (by rfl) hj2)
     refine stk 23 38 rfl ?_ (fun w hSw=>exec_ixo (i:=j) _ _ (by rfl) (by rfl) (by rfl) hj)
     refine stk 24 39 rfl ?_
     refine stk 25 40 rfl ?_ (fun w hSw=>exec_obn (off:=o+j*11) _ (by rfl) (by rfl) (HY.out _ hSw.out.b))
     refine stk 26 41 rfl ?_ (fun w hSw=>exec_sle _ _ (by rfl) (by rfl) (by rfl) hb)
     refine stk 27 42 rfl ?_
     refine stk 28 43 rfl ?_
     refine wpAnyH_done (by kernel_rfl) ?_ _
     go_wp2_with fail
     exact⟨⟨j+2,by omega,by go_num,zH (fun i hi=>by
      by_cases hij:i=j+1
      ·subst hij
       refine HIf.out.2 ⟨rfl,fun j' y' h h'=>?_⟩
       obtain rfl:j=j':=by omega
       rw[HYl.out] at h'
       injection h' with h'
       subst h'
       exact hlt2
      ·exact HGo.out i (by omega)),zH (hHeld.out.takeL 0)⟩,by simp[intOf];omega⟩
    | false=>
     have hb:(!Dct.lt y.v.name x.v.name)=true:=by rw[hlt2];rfl
     have HR:Hid (r=false):=zH (HNo.out _ hlt fun h=>by
      have:=(HIf.out.1 h).2 j y.v rfl HYl.out
      rw[hlt2] at this;cases this)
     refine wp_region_held_drew (S:=(fun W=>Hid (Kn w.heap.size w W [(g2,69,obA x)] []))) (by kernel_rfl) ?_ (fun hHeld=>?_)
     ·(try dsimp only);exact zH HK.out.drew
     refine stk 0 15 rfl ?_
     refine stk 1 16 rfl ?_ (fun w hSw=>kob_n hSw 0 _ (by rfl) (by rfl) (by rfl))
     refine srd1 2 (some 17) rfl (fun K hK=>?_)
     go_simp
     go_at_call 41
     refine(HNm.out _).mono ?_;rintro e w5 ⟨rfl,b5⟩;have hs:=zH (hHeld.out.call b5);clear b5
     refine hK.out _ _ hs (fun hHeld=>?_)
     clear hK K
     try simp only[ap1,ap2,ap3,ap4,ap5]
     refine stk 3 18 rfl ?_
     refine stk 4 19 rfl ?_
     refine stk 5 20 rfl ?_ (fun w hSw=>kob hSw 0 _ (by rfl) (by rfl) (by rfl))
     refine srd1 6 (some 21) rfl (fun K hK=>?_)
     go_simp
     go_at_call 42
     refine(HCl.out _ hHeld.out.b).mono ?_;rintro e w5 ⟨rfl,b5⟩;have hs:=zH (hHeld.out.call b5);clear b5
     refine hK.out _ _ hs (fun hHeld=>?_)
     clear hK K
     try simp only[ap1,ap2,ap3,ap4,ap5]
     refine stk 7 22 rfl ?_
     refine stk 8 23 rfl ?_
     refine stk 9 24 rfl ?_
     refine stk 10 25 rfl ?_ (fun w hSw=>kob hSw 0 _ (by rfl) (by rfl) (by rfl))
     refine srd1 11 (some 26) rfl (fun K hK=>?_)
     go_simp
     go_at_call 43
     refine(HSo.out _ hHeld.out.b).mono ?_;rintro e w5 ⟨rfl,b5⟩;have hs:=zH (hHeld.out.call b5);clear b5
     refine hK.out _ _ hs (fun hHeld=>?_)
     clear hK K
     try simp only[ap1,ap2,ap3,ap4,ap5]
     refine stk 12 27 rfl ?_
     refine stk 13 28 rfl ?_
     refine stk 14 29 rfl ?_
     refine stk 15 30 rfl ?_
     refine stk 16 31 rfl ?_
     refine stk 17 32 rfl ?_
     refine stk 18 33 rfl ?_
     refine stk 19 34 rfl ?_ (fun w hSw=>kob_n hSw 0 _ (by rfl) (by rfl) (by rfl))
     refine stk 20 35 rfl ?_
     refine stk 21 36 rfl ?_
     refine stk 22 37 rfl ?_ (fun w hSw=>exec_sub1 (j:=j) _ (by rfl) (by rfl) hj2)
     refine stk 23 38 rfl ?_ (fun w hSw=>exec_ixo (i:=j) _ _ (by rfl) (by rfl) (by rfl) hj)
     refine stk 24 39 rfl ?_
     refine stk 25 40 rfl ?_ (fun w hSw=>exec_obn (off:=o+j*11) _ (by rfl) (by rfl) (HY.out _ hSw.out.b))
     refine stk 26 41 rfl ?_ (fun w hSw=>exec_sle _ _ (by rfl) (by rfl) (by rfl) hb)
     refine stk 27 42 rfl ?_
     refine stk 28 43 rfl ?_
     refine wpAnyH_done (by kernel_rfl) ?_ _
     go_wp2_with fail
     go_ret
     exact⟨by rw[HR.out]<;>rfl,hHeld.out.b⟩
  ·obtain rfl:k=n:=by omega
   have HR:Hid (r=true):=zH (HYes.out HGo.out)
   go_wp2_with fail
   go_ret
   exact⟨by rw[HR.out]<;>rfl,HK.out.b⟩
end
section
open Go.RowKit
def frO(c:Cmd.C):Oh:=⟨Sto.fresh c,none,0,0,none,0,0,none,0,0⟩
theorem In.fr(w:World)(c:Cmd.C):In w (frO c):=⟨Sl.none w,Sls.none w,Sls.none w,Mt.fit_zero,by show(0:Int)≤_;decide⟩
theorem Obs.one{b:Nat}{w:World}{A:Option Addr}{c:Nat}{y:Oh}(ho:obLay.Own b w (.slice A 1 c) [y])(hi:In w y):Obs w A 1 c [y]:=
 ⟨Sls.own ho ⟨fun x hx=>trivial,by show 1*144≤_;decide⟩,fun x hx=>by rw[List.mem_singleton] at hx;subst hx;exact hi⟩
end
section
open Go.RowKit
namespace Sto
end Sto
section
variable {b0:Nat}{w0 w:World}{L:List (Nat×TypeId×Array Value)}{R:List RowE}
theorem OwnOr.kn{w':World}{A A':Option Addr}{n c n' c':Nat}{l r:List Rf}(h:OwnOr rfLay w.heap.size w' A n c l A' n' c' r)(hb:Below w.heap.size w w')(hf:Fits rfLay rF r):∃Rn,Kn w.heap.size w w' [] Rn∧Hid (∀(b:Nat) (W0 W:World) L R,Kn b W0 W L R→(∀z∈Rn,z∈R)→Sls rfLay rF W A n c l→Sls rfLay rF W A' n' c' r):=by
 rcases h with h|⟨rfl,rfl,rfl,rfl⟩
 ·exact⟨_,(Kn.start w).called hb h,zH fun _ _ _ _ _ K hm _=>Sls.own (K.mem (hm _ (List.mem_cons_self ..))) hf⟩
 ·exact⟨_,(Kn.start w).call hb,zH fun _ _ _ _ _ _ _ h=>h⟩
end
end
section
open Go.RowKit
def stA(n:Int)(A:Option Addr)(k c:Nat)(t:Ses.T):Array Value:=#[.int .i64 n,.slice A k c,.bool t.s0.live,.int .i64 t.s0.ep,.int .i64 t.s0.rq,.bool t.s0.dn,.int .i64 t.s0.p.e,.int .i64 t.s0.p.v.k,.int .i64 t.s0.p.v.n,.int .u64 (t.s0.p.v.f:Int),.string t.s0.p.v.s,.bool t.s1.live,.int .i64 t.s1.ep,.int .i64 t.s1.rq,.bool t.s1.dn,.int .i64 t.s1.p.e,.int .i64 t.s1.p.v.k,.int .i64 t.s1.p.v.n,.int .u64 (t.s1.p.v.f:Int),.string t.s1.p.v.s,.bool t.s2.live,.int .i64 t.s2.ep,.int .i64 t.s2.rq,.bool t.s2.dn,.int .i64 t.s2.p.e,.int .i64 t.s2.p.v.k,.int .i64 t.s2.p.v.n,.int .u64 (t.s2.p.v.f:Int),.string t.s2.p.v.s,.bool t.s3.live,.int .i64 t.s3.ep,.int .i64 t.s3.rq,.bool t.s3.dn,.int .i64 t.s3.p.e,.int .i64 t.s3.p.v.k,.int .i64 t.s3.p.v.n,.int .u64 (t.s3.p.v.f:Int),.string t.s3.p.v.s,.bool t.s4.live,.int .i64 t.s4.ep,.int .i64 t.s4.rq,.bool t.s4.dn,.int .i64 t.s4.p.e,.int .i64 t.s4.p.v.k,.int .i64 t.s4.p.v.n,.int .u64 (t.s4.p.v.f:Int),.string t.s4.p.v.s]
theorem info_stz:(Try.prog.info? 33).map (fun i=>(i.zero,i.size,i.bytes))=some (some (Value.agg (stA 0 none 0 0 tz)),47,432):=by kernel_rfl
theorem info_st:(Try.prog.info? 33).map (·.size)=some 47:=by kernel_rfl
theorem st_tb(n:Int)(A:Option Addr)(k c:Nat)(t:Ses.T)(j:Nat)(hj:j<45):(stA n A k c t)[2+j]?=(tbA t)[j]?:=by
 have h:(stA n A k c t).toList=.int .i64 n::.slice A k c::(tbA t).toList:=rfl
 rw[← Array.getElem?_toList,← Array.getElem?_toList,h,Nat.add_comm]
 rfl
section
variable {b0:Nat}{w0 w:World}{L:List (Nat×TypeId×Array Value)}{R:List RowE}{ops:Array Oper}{rest:List Oper}{o:Oper}{a:Act}{Q:Exit→Act→World→Prop}{K:Act→World→Prop}{E:Prop}{g:Nat}{n m:Int}{A B:Option Addr}{k c i j:Nat}{t u:Ses.T}{p q:Sto.Rp}{q1:Int}
theorem wpList_ast(HK:Hid (Kn b0 w0 w L R))(hgd:o.guard=none)(ho:o.op=.alloc 33)
  (h:∀w' g,Hid (Kn b0 w0 w' (L++[(g,33,stA 0 none 0 0 tz)]) R)→wpList Try.prog ops Q rest (a.put o.dst (.pointer (some ⟨g,0,none⟩))) w'):wpList Try.prog ops Q (o::rest) a w:=
 wpList_plain hgd fun _ hK=>kwp_made info_stz HK ho fun w' g h1 _=>hK _ _ (h w' g h1)
theorem kwp_sst(HK:Hid (Kn b0 w0 w L R))(i2:Nat)(x y:Operand)(ho:o.op=.store 33 x y)(hL:L[i2]?=some (g,33,stA n A k c t))(hx:a.eval x=.pointer (some ⟨g,0,none⟩))(hy:a.eval y=.agg (stA m B i j u))
  (h:∀w',Hid (Kn b0 w0 w' (L.set i2 (g,33,stA m B i j u)) R)→K (a.put o.dst undef) w'):o.wp Try.prog a w K Q:=
 kwp_ss HK _ x y ho i2 hL hx hy (by show 47≤47;decide) info_st (by simp[stA,Value.oneCell']) fun w' h1 _=>h w' (by
  have e:putCells (stA n A k c t) 0 (stA m B i j u).toList=stA m B i j u:=by rw[putCells_all (vs:=(stA m B i j u).toList) (cs:=stA n A k c t) rfl,Array.toArray_toList]
  rw[e] at h1
  exact h1)
theorem wpList_sst(HK:Hid (Kn b0 w0 w L R))(i2:Nat)(hgd:o.guard=none)(x y:Operand)(ho:o.op=.store 33 x y)(hL:L[i2]?=some (g,33,stA n A k c t))(hx:a.eval x=.pointer (some ⟨g,0,none⟩))(hy:a.eval y=.agg (stA m B i j u))
  (h:∀w',Hid (Kn b0 w0 w' (L.set i2 (g,33,stA m B i j u)) R)→wpList Try.prog ops Q rest (a.put o.dst undef) w'):wpList Try.prog ops Q (o::rest) a w:=
 wpList_plain hgd fun _ hK=>kwp_sst HK i2 x y ho hL hx hy fun w' h1=>hK _ _ (h w' h1)
theorem step_sst(HK:Hid (Kn b0 w0 w L R))(i2:Nat)(hgd:o.guard=none)(x y:Operand)(ho:o.op=.store 33 x y)(hL:L[i2]?=some (g,33,stA n A k c t))(hx:a.eval x=.pointer (some ⟨g,0,none⟩))(hy:a.eval y=.agg (stA m B i j u))
  (h:∀w',Hid (Kn b0 w0 w' (L.set i2 (g,33,stA m B i j u)) R)→K (a.put o.dst undef) w'):if Region.wanted o (yielded ops a.tmps)=true then Oper.wp Try.prog o a w K Q else E:=by
 rw[if_pos (by simp[Region.wanted,hgd])]
 exact kwp_sst HK i2 x y ho hL hx hy h
theorem kst(HK:Hid (Kn b0 w0 w L R))(i:Nat)(x:Operand)(ho:o.op=.load 33 x)(hL:L[i]?=some (g,33,stA n A k c t))(hx:a.eval x=.pointer (some ⟨g,0,none⟩)):
  (execOp a.eval o).run Try.prog w=.ok (.value (.agg (stA n A k c t))) w:=
 kexec_lw HK _ x ho i hL hx (stA n A k c t) (fun j _=>by rw[Nat.zero_add]) Try.underlying33 rfl info_st
theorem kst_n(HK:Hid (Kn b0 w0 w L R))(i:Nat)(x:Operand)(ho:o.op=.load 3 x)(hL:L[i]?=some (g,33,stA n A k c t))(hx:a.eval x=.pointer (some ⟨g,0,none⟩)):
  (execOp a.eval o).run Try.prog w=.ok (.value (.int .i64 n)) w:=
 kexec_lc HK _ x ho i hL hx rfl Try.underlying3 rfl
theorem kst_o(HK:Hid (Kn b0 w0 w L R))(i:Nat)(x:Operand)(ho:o.op=.load 22 x)(hL:L[i]?=some (g,33,stA n A k c t))(hx:a.eval x=.pointer (some ⟨g,1,none⟩)):
  (execOp a.eval o).run Try.prog w=.ok (.value (.slice A k c)) w:=
 kexec_lc HK _ x ho i hL hx rfl Try.underlying22 rfl
theorem kst_t(HK:Hid (Kn b0 w0 w L R))(i:Nat)(x:Operand)(ho:o.op=.load 31 x)(hL:L[i]?=some (g,33,stA n A k c t))(hx:a.eval x=.pointer (some ⟨g,2,none⟩)):
  (execOp a.eval o).run Try.prog w=.ok (.value (.agg (tbA t))) w:=
 kexec_lw HK _ x ho i hL hx (tbA t) (fun j hj=>st_tb n A k c t j hj) Try.underlying31 rfl info_tb
theorem exec_ixq(hc:0≤q1∧q1<5)(x y:Operand)(ho:o.op=.indexAddr 31 x y)(hx:a.eval x=.pointer (some ⟨g,2,none⟩))(hy:a.eval y=.int .i64 q1):
  (execOp a.eval o).run Try.prog w=.ok (.value (.pointer (some ⟨g,2+q1.toNat*9,none⟩))) w:=by
 have h:(Instr.indexAt 31 (.pointer (some ⟨g,2,none⟩)) (.int .i64 q1)).run Try.prog w=.ok (.pointer (some ⟨g,2+q1.toNat*9,none⟩)) w:=by
  rcases Ses.cases5 hc with rfl|rfl|rfl|rfl|rfl<;>kernel_rfl
 unfold execOp
 simp only[ho,hx,hy,Sem.run_bind,Sem.run_pure,Result.andThen_ok,h]
end
section
variable {fn:Func}{R:Ending→World→Prop}{a:Act}{w:World}{B:Nat}{n:Int}{A:Option Addr}{k c:Nat}{t:Ses.T}{u:Value}{q q2:Tmp}
theorem ret_st(hf:fn.results=#[.cell q 33])(h2:a.tmps[q]?=some (.pointer (some ⟨B,0,none⟩)))(hd:a.defers=[])(hb:Blk w B 33 (stA n A k c t))
  (hR:R (.returned (.agg (stA n A k c t))) w):bodyPost Try.prog fn R Exit.ret a w:=
 bodyPost_ret (results_cell_row hf a.tmps w B _ _ (0,0) _ (by simp[h2]) hb Try.underlying33 rfl info_st) hd hR
theorem ret_sto(hf:fn.results=#[.cell q 33,.tmp q2])(h2:a.tmps[q]?=some (.pointer (some ⟨B,0,none⟩)))(h3:a.tmps[q2]?=some u)(hd:a.defers=[])(hb:Blk w B 33 (stA n A k c t))
  (hR:R (.returned (.tuple #[.agg (stA n A k c t),u])) w):bodyPost Try.prog fn R Exit.ret a w:=by
 refine bodyPost_ret (v:=.tuple #[.agg (stA n A k c t),u]) ?_ hd hR
 have h:(loadVar 33 ⟨B,0,none⟩).run Try.prog w=.ok (.agg (stA n A k c t)) w:=run_loadVar_row (P:=Try.prog) w B _ _ _ (0,0) _ hb Try.underlying33 rfl info_st
 simp[results,hf,asAddr,Sem.run_bind,h2,h3,h]
end
section
variable {b0:Nat}{w0 w:World}{L:List (Nat×TypeId×Array Value)}{R:List RowE}
theorem Kn.frontR{y:RowE}(h:Kn b0 w0 w L (R++[y])):Kn b0 w0 w L (y::R):=by
 refine h.pick id (fun j=>if j=0 then R.length else j-1) (fun i j _ _ h=>h) (fun i j hi hj h=>?_) (fun i x hx=>hx) (fun i x hx=>?_)
 ·simp at hi hj;(try dsimp only);split<;>split<;>omega
 ·match i,hx with
  | 0,hx=>simp at hx ⊢;exact hx
  | i+1,hx=>
   rw[List.getElem?_cons_succ] at hx
   rw[if_neg (by omega)]
   show(R++[y])[i+1-1]?=_
   rw[Nat.add_sub_cancel,List.getElem?_append_left (List.getElem?_eq_some_iff.1 hx).1]
   exact hx
end
end
end Go.Proofs.Ytieoeendnccafaa
