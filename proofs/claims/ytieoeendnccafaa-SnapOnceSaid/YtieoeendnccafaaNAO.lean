/- What snap's items returns: a state's items. No condition but those named. -/
import Derived.Test.YtieoeendnccafaaNTK
import Derived.Test.YtieoeendnccafaaNAN
set_option linter.unusedSimpArgs false
set_option linter.unusedVariables false
set_option maxRecDepth 100000
set_option maxHeartbeats 25600000
namespace Go.Proofs.Ytieoeendnccafaa
section
open Go.RowKit
section
variable {P:Program}{α:Type}{La:Lay P α}{F:α→Prop}{b0:Nat}{w0 w w':World}{L:List (Nat×TypeId×Array Value)}{R:List RowE}{f:FuncId}{g:Nat}{A1 A2 A3 A4 A5:Option Addr}{n1 c1 n2 c2 n3 c3 n4 c4 n5 c5:Nat}{l1 l2 l3 l4 l5:List α}
theorem Joins.five(J:Joins P f La F)(HK:Hid (Kn b0 w0 w L R))(i:Nat)(hL:L[i]?=some (g,La.t,#[.slice A1 n1 c1,.slice A2 n2 c2,.slice A3 n3 c3,.slice A4 n4 c4,.slice A5 n5 c5]))(h1:Sls La F w A1 n1 c1 l1)(h2:Sls La F w A2 n2 c2 l2)(h3:Sls La F w A3 n3 c3 l3)(h4:Sls La F w A4 n4 c4 l4)(h5:Sls La F w A5 n5 c5 l5)
  (ht:(l1.length+l2.length+l3.length+l4.length+l5.length)*La.bytes≤140737488355328) :
  Calls P f #[.slice (some ⟨g,0,none⟩) 5 5] w (IsLg La (l1++(l2++(l3++(l4++l5)))) w):=by
 have e:catP [(⟨A1,n1,c1,l1⟩:Pce α),⟨A2,n2,c2,l2⟩,⟨A3,n3,c3,l3⟩,⟨A4,n4,c4,l4⟩,⟨A5,n5,c5,l5⟩]=l1++(l2++(l3++(l4++l5))):=by show l1++(l2++(l3++(l4++(l5++[]))))=_;rw[List.append_nil]
 have h:=J g 5 [⟨A1,n1,c1,l1⟩,⟨A2,n2,c2,l2⟩,⟨A3,n3,c3,l3⟩,⟨A4,n4,c4,l4⟩,⟨A5,n5,c5,l5⟩] w rfl (by decide) (HK.out.blk i hL).lt (fun j p hp=>by
  match j,hp with
  | 0,hp=>simp at hp;subst hp;exact HK.out.cell i hL 0 rfl
  | 1,hp=>simp at hp;subst hp;exact HK.out.cell i hL 1 rfl
  | 2,hp=>simp at hp;subst hp;exact HK.out.cell i hL 2 rfl
  | 3,hp=>simp at hp;subst hp;exact HK.out.cell i hL 3 rfl
  | 4,hp=>simp at hp;subst hp;exact HK.out.cell i hL 4 rfl) (fun p hp=>by
   simp only[List.mem_cons,List.not_mem_nil,or_false] at hp
   rcases hp with rfl|rfl|rfl|rfl|rfl
   ·exact h1
   ·exact h2
   ·exact h3
   ·exact h4
   ·exact h5) (by
   rw[e]
   simp only[List.length_append]
   rw[← Nat.add_assoc,← Nat.add_assoc,← Nat.add_assoc];exact ht)
 rw[e] at h
 exact h
end
theorem Snp.flat_le{α:Type}(f:α→Snp.Its)(m:Nat):∀(l:List α),(∀x∈l,(f x).length≤m)→(l.flatMap f).length≤l.length*m
 | [],_=>Nat.zero_le _
 | x::l,h=>by
  have h1:=h x (List.mem_cons_self ..)
  have h2:=flat_le f m l fun y hy=>h y (List.mem_cons_of_mem x hy)
  rw[List.flatMap_cons,List.length_append,List.length_cons,Nat.succ_mul]
  omega
theorem Snp.many_le{α:Type}(f:α→Snp.Its)(m:Nat){l:List α}(h:∀x∈l,(f x).length≤m):(Snp.many f l).length≤1+l.length*m:=by
 have:=flat_le f m l h
 unfold Snp.many
 rw[List.length_cons]
 omega
theorem Snp.prI_len(p:Dct.Pr):(Snp.prI p).length≤3:=by
 have:=nit_len p.val
 unfold Snp.prI
 rw[List.length_cons]
 omega
def Short(x:Oh):Prop:=x.pn≤8∧x.vn≤8∧x.rn≤5
theorem Snp.obI_len{w:World}{x:Oh}(hx:In w x)(hs:Short x):(Snp.obI x.v).length≤70:=by
 have h1:=Snp.many_le Snp.prI 3 (l:=x.v.prs) fun p _=>Snp.prI_len p
 have h2:=Snp.many_le Val.items 2 (l:=x.v.vals) fun v _=>(nit_len v).2
 have h3:=Snp.many_le Snp.rfI 3 (l:=x.v.refs) fun r _=>Nat.le_refl _
 have e1:=hx.p.sls.len
 have e2:=hx.v.len
 have e3:=hx.r.len
 obtain⟨s1,s2,s3⟩:=hs
 unfold Snp.obI Snp.mtI
 simp only[List.length_append,List.length_cons,List.length_nil]
 omega
theorem nob_any(x:Oh)(w:World)(hx:In w x)(hs:Short x):Calls Try.prog 31 #[.agg (obA x)] w (IsLg itemLay (Snp.obI x.v) w):=by
 have h1:=Snp.many_le Snp.prI 3 (l:=x.v.prs) fun p _=>Snp.prI_len p
 have h2:=Snp.many_le Val.items 2 (l:=x.v.vals) fun v _=>(nit_len v).2
 have h3:=Snp.many_le Snp.rfI 3 (l:=x.v.refs) fun r _=>Nat.le_refl _
 have HMp:Hid (∀W,Below w.heap.size w W→Calls Try.prog 52 #[.slice x.pA x.pn x.pc,.func (.func 53) #[] #[]] W (IsLg itemLay (Snp.many Snp.prI x.v.prs) W)):=zH fun W hW=>
  many_pr_any Snp.prI _ _ _ _ W (hx.p.sls.later hW) hs.1 (fun p hp V _=>npr_any p V (hx.p.sls.fit.fs p hp)) fun p _=>Nat.le_trans (Snp.prI_len p) (by decide)
 have HMv:Hid (∀W,Below w.heap.size w W→Calls Try.prog 54 #[.slice x.vA x.vn x.vc,.func (.func 55) #[] #[]] W (IsLg itemLay (Snp.many Val.items x.v.vals) W)):=zH fun W hW=>
  many_va_any Val.items _ _ _ _ W (hx.v.later hW) hs.2.1 (fun v hv V _=>nvit_any v V (hx.v.fit.fs v hv)) fun v _=>Nat.le_trans (nit_len v).2 (by decide)
 have HMr:Hid (∀W,Below w.heap.size w W→Calls Try.prog 56 #[.slice x.rA x.rn x.rc,.func (.func 57) #[] #[]] W (IsLg itemLay (Snp.many Snp.rfI x.v.refs) W)):=zH fun W hW=>
  many_rf_any Snp.rfI _ _ _ _ W (hx.r.later hW) (Nat.le_trans hs.2.2 (by decide)) (fun r _ V _=>nrf_any r V) fun r _=>by show 3≤70;decide
 have HMm:=zH (fun W=>nmt_any x.v.mt W ⟨hx.m.2.1,hx.m.2.2.1,hx.m.2.2.2⟩)
 have e1:=hx.p.sls.len
 have e2:=hx.v.len
 have e3:=hx.r.len
 obtain⟨s1,s2,s3⟩:=hs
 have HBg:Hid (([Snp.t1 x.v.name,Snp.n1 x.v.kind,Snp.n1 x.v.cap,Snp.n1 x.v.round].length+(Snp.many Snp.prI x.v.prs).length+(Snp.many Val.items x.v.vals).length+(Snp.many Snp.rfI x.v.refs).length+(Snp.mtI x.v.mt).length)*itemLay.bytes≤140737488355328):=zH (by
  show(4+(Snp.many Snp.prI x.v.prs).length+(Snp.many Val.items x.v.vals).length+(Snp.many Snp.rfI x.v.refs).length+4)*32≤_
  omega)
 have HF:Hid (∀l:List Itm.It,l.length≤1000→Fits itemLay iF l):=zH fun l h=>⟨fun _ _=>trivial,by show l.length*32≤_;omega⟩
 have HF2:=zH (HF.out (Snp.many Snp.prI x.v.prs) (by omega))
 have HF3:=zH (HF.out (Snp.many Val.items x.v.vals) (by omega))
 have HF4:=zH (HF.out (Snp.many Snp.rfI x.v.refs) (by omega))
 have HF5:=zH (HF.out (Snp.mtI x.v.mt) (by show 4≤1000;decide))
 have HNm:=zH nnum_any
 have HTx:=zH ntxt_any
 have HJ:=zH iconcat_any
 have HK:=kn1 w 69 (obA x)
 unfold IsI at HNm HTx
 unfold IsLg at HMp HMv HMr HMm
 unfold IsLg Snp.obI
 clear h1 h2 h3 e1 e2 e3 s1 s2 s3 hx
 generalize Snp.many Snp.prI x.v.prs=lp at *
 generalize Snp.many Val.items x.v.vals=lv at *
 generalize Snp.many Snp.rfI x.v.refs=lr at *
 generalize Snp.mtI x.v.mt=lm at *
 go_enter Try.func31,Try.ntmps31
 go_wp2_with fail
 have HK0:=zH HK.out.drew
 refine wp_region_held_drew (S:=(fun W=>Hid (Kn w.heap.size w W [(w.heap.size,69,obA x)] []))) (by kernel_rfl) ?_ (fun hHeld=>?_)
 ·(try dsimp only);exact zH HK.out.drew
 refine stk 0 3 rfl ?_
 refine stk 1 4 rfl ?_ (fun w hSw=>kob_n hSw 0 _ (by rfl) (by rfl) (by rfl))
 refine stk 3 6 rfl ?_
 refine stk 4 7 rfl ?_ (fun w hSw=>kob_k hSw 0 _ (by rfl) (by rfl) (by rfl))
 refine stk 6 9 rfl ?_
 refine stk 7 10 rfl ?_ (fun w hSw=>kob_c hSw 0 _ (by rfl) (by rfl) (by rfl))
 refine stk 9 12 rfl ?_
 refine stk 10 13 rfl ?_ (fun w hSw=>kob_d hSw 0 _ (by rfl) (by rfl) (by rfl))
 refine stk 13 16 rfl ?_
 refine stk 14 17 rfl ?_ (fun w hSw=>kob_p hSw 0 _ (by rfl) (by rfl) (by rfl))
 refine stk 16 19 rfl ?_
 refine stk 17 20 rfl ?_ (fun w hSw=>kob_v hSw 0 _ (by rfl) (by rfl) (by rfl))
 refine stk 19 22 rfl ?_
 refine stk 20 23 rfl ?_ (fun w hSw=>kob_r hSw 0 _ (by rfl) (by rfl) (by rfl))
 refine stk 22 25 rfl ?_
 refine stk 23 26 rfl ?_ (fun w hSw=>kob_m hSw 0 _ (by rfl) (by rfl) (by rfl))
 refine srd1 2 (some 5) rfl (fun K hK=>?_)
 go_simp
 go_at_call 51
 refine(HTx.out _ _).mono ?_;rintro e w5 ⟨rfl,b5⟩;replace HK0:=zH (HK0.out.call b5);have hs:=HK0;clear b5
 refine hK.out _ _ hs (fun hHeld=>?_)
 clear hK K
 try simp only[ap1,ap2,ap3,ap4,ap5]
 refine srd1 5 (some 8) rfl (fun K hK=>?_)
 go_simp
 go_at_call 29
 refine(HNm.out _ _).mono ?_;rintro e w5 ⟨rfl,b5⟩;replace HK0:=zH (HK0.out.call b5);have hs:=HK0;clear b5
 refine hK.out _ _ hs (fun hHeld=>?_)
 clear hK K
 try simp only[ap1,ap2,ap3,ap4,ap5]
 refine srd1 8 (some 11) rfl (fun K hK=>?_)
 go_simp
 go_at_call 29
 refine(HNm.out _ _).mono ?_;rintro e w5 ⟨rfl,b5⟩;replace HK0:=zH (HK0.out.call b5);have hs:=HK0;clear b5
 refine hK.out _ _ hs (fun hHeld=>?_)
 clear hK K
 try simp only[ap1,ap2,ap3,ap4,ap5]
 refine srd1 11 (some 14) rfl (fun K hK=>?_)
 go_simp
 go_at_call 29
 refine(HNm.out _ _).mono ?_;rintro e w5 ⟨rfl,b5⟩;replace HK0:=zH (HK0.out.call b5);have hs:=HK0;clear b5
 refine hK.out _ _ hs (fun hHeld=>?_)
 clear hK K
 try simp only[ap1,ap2,ap3,ap4,ap5]
 refine srd2 12 (some 15) 15 (some 18) rfl rfl (fun K hK=>?_) (fun K hK=>?_)
 refine step_mk4 itemLay (p1:=Snp.t1 x.v.name) (p2:=Snp.n1 x.v.kind) (p3:=Snp.n1 x.v.cap) (p4:=Snp.n1 x.v.round) HK0 (by decide) (by rfl) _ _ _ _ (by rfl) (by rfl) (by rfl) (by rfl) (by rfl) (by rfl) (by rfl) (by rfl) (by rfl) ?_;intro _ g5 HK' _;replace HK0:=zH HK'.out.frontR;clear HK';have hs:=zH (HK0.out.takeR 0)
 refine hK.out _ _ hs (fun hHeld=>?_)
 clear hK K
 try simp only[ap1,ap2,ap3,ap4,ap5]
 refine srd1 15 (some 18) rfl (fun K hK=>?_)
 go_simp
 go_at_call 52
 refine(HMp.out _ HK0.out.b).mono ?_;rintro e w5 ⟨A5,n5,c5,rfl,o5,b5⟩;replace HK0:=zH (HK0.out.called b5 o5);simp only[lnA,lcA] at HK0;have hs:=zH (HK0.out.takeR 0);clear b5 o5
 refine hK.out _ _ hs (fun hHeld=>?_)
 clear hK K
 try simp only[ap1,ap2,ap3,ap4,ap5]
 refine srd1 18 (some 21) rfl (fun K hK=>?_)
 go_simp
 go_at_call 54
 refine(HMv.out _ HK0.out.b).mono ?_;rintro e w5 ⟨A5,n5,c5,rfl,o5,b5⟩;replace HK0:=zH (HK0.out.called b5 o5);simp only[lnA,lcA] at HK0;have hs:=zH (HK0.out.takeR 0);clear b5 o5
 refine hK.out _ _ hs (fun hHeld=>?_)
 clear hK K
 try simp only[ap1,ap2,ap3,ap4,ap5]
 refine srd1 21 (some 24) rfl (fun K hK=>?_)
 go_simp
 go_at_call 56
 refine(HMr.out _ HK0.out.b).mono ?_;rintro e w5 ⟨A5,n5,c5,rfl,o5,b5⟩;replace HK0:=zH (HK0.out.called b5 o5);simp only[lnA,lcA] at HK0;have hs:=zH (HK0.out.takeR 0);clear b5 o5
 refine hK.out _ _ hs (fun hHeld=>?_)
 clear hK K
 try simp only[ap1,ap2,ap3,ap4,ap5]
 refine srd1 24 (some 27) rfl (fun K hK=>?_)
 go_simp
 go_at_call 58
 refine(HMm.out _).mono ?_;rintro e w5 ⟨A5,n5,c5,rfl,o5,b5⟩;replace HK0:=zH (HK0.out.called b5 o5);simp only[lnA,lcA] at HK0;have hs:=zH (HK0.out.takeR 0);clear b5 o5
 refine hK.out _ _ hs (fun hHeld=>?_)
 clear hK K
 try simp only[ap1,ap2,ap3,ap4,ap5]
 refine srd1 25 (some 28) rfl (fun K hK=>?_)
 refine step_mks5 itemLay itNest HK0 (by rfl) _ _ _ _ _ (by rfl) (by rfl) (by rfl) (by rfl) (by rfl) (by rfl) ?_;intro _ g6 HK' _;simp only[lcA,lnA] at HK';replace HK0:=HK';clear HK';have hs:=zH ((HK0.out.takeL 1).takeR 0)
 refine hK.out _ _ hs (fun hHeld=>?_)
 clear hK K
 try simp only[ap1,ap2,ap3,ap4,ap5]
 refine srd1 26 (some 29) rfl (fun K hK=>?_)
 go_simp
 go_at_call 50
 refine(HJ.out.five HK0 1 rfl (Sls.own (HK0.out.own 0 rfl) (HF.out _ (by show 4≤1000;decide))) (Sls.own (HK0.out.own 1 rfl) HF2.out) (Sls.own (HK0.out.own 2 rfl) HF3.out) (Sls.own (HK0.out.own 3 rfl) HF4.out) (Sls.own (HK0.out.own 4 rfl) HF5.out) HBg.out).mono ?_;rintro e w7 ⟨A9,n9,c9,rfl,o9,b9⟩;replace HK0:=zH (HK0.out.called b9 o9).frontR;clear o9 b9;have hs:=zH ((HK0.out.takeL 1).takeR 0)
 refine hK.out _ _ hs (fun hHeld=>?_)
 clear hK K
 try simp only[ap1,ap2,ap3,ap4,ap5]
 refine stk 27 2 rfl ?_
 refine wpAnyH_done (by kernel_rfl) ?_ _
 rotate_left
 go_simp
 go_at_call 52
 refine(HMp.out _ HK0.out.b).mono ?_;rintro e w5 ⟨A5,n5,c5,rfl,o5,b5⟩;replace HK0:=zH (HK0.out.called b5 o5);simp only[lnA,lcA] at HK0;have hs:=zH (HK0.out.takeR 0);clear b5 o5
 refine hK.out _ _ hs (fun hHeld=>?_)
 clear hK K
 try simp only[ap1,ap2,ap3,ap4,ap5]
 refine srd2 12 (some 15) 18 (some 21) rfl rfl (fun K hK=>?_) (fun K hK=>?_)
 refine step_mk4 itemLay (p1:=Snp.t1 x.v.name) (p2:=Snp.n1 x.v.kind) (p3:=Snp.n1 x.v.cap) (p4:=Snp.n1 x.v.round) HK0 (by decide) (by rfl) _ _ _ _ (by rfl) (by rfl) (by rfl) (by rfl) (by rfl) (by rfl) (by rfl) (by rfl) (by rfl) ?_;intro _ g5 HK' _;replace HK0:=zH HK'.out.frontR;clear HK';have hs:=zH (HK0.out.takeR 0)
 refine hK.out _ _ hs (fun hHeld=>?_)
 clear hK K
 try simp only[ap1,ap2,ap3,ap4,ap5]
 refine srd1 18 (some 21) rfl (fun K hK=>?_)
 go_simp
 go_at_call 54
 refine(HMv.out _ HK0.out.b).mono ?_;rintro e w5 ⟨A5,n5,c5,rfl,o5,b5⟩;replace HK0:=zH (HK0.out.called b5 o5);simp only[lnA,lcA] at HK0;have hs:=zH (HK0.out.takeR 0);clear b5 o5
 refine hK.out _ _ hs (fun hHeld=>?_)
 clear hK K
 try simp only[ap1,ap2,ap3,ap4,ap5]
 refine srd1 21 (some 24) rfl (fun K hK=>?_)
 go_simp
 go_at_call 56
 refine(HMr.out _ HK0.out.b).mono ?_;rintro e w5 ⟨A5,n5,c5,rfl,o5,b5⟩;replace HK0:=zH (HK0.out.called b5 o5);simp only[lnA,lcA] at HK0;have hs:=zH (HK0.out.takeR 0);clear b5 o5
 refine hK.out _ _ hs (fun hHeld=>?_)
 clear hK K
 try simp only[ap1,ap2,ap3,ap4,ap5]
 refine srd1 24 (some 27) rfl (fun K hK=>?_)
 go_simp
 go_at_call 58
 refine(HMm.out _).mono ?_;rintro e w5 ⟨A5,n5,c5,rfl,o5,b5⟩;replace HK0:=zH (HK0.out.called b5 o5);simp only[lnA,lcA] at HK0;have hs:=zH (HK0.out.takeR 0);clear b5 o5
 refine hK.out _ _ hs (fun hHeld=>?_)
 clear hK K
 try simp only[ap1,ap2,ap3,ap4,ap5]
 refine srd1 25 (some 28) rfl (fun K hK=>?_)
 refine step_mks5 itemLay itNest HK0 (by rfl) _ _ _ _ _ (by rfl) (by rfl) (by rfl) (by rfl) (by rfl) (by rfl) ?_;intro _ g6 HK' _;simp only[lcA,lnA] at HK';replace HK0:=HK';clear HK';have hs:=zH ((HK0.out.takeL 1).takeR 0)
 refine hK.out _ _ hs (fun hHeld=>?_)
 clear hK K
 try simp only[ap1,ap2,ap3,ap4,ap5]
 refine srd1 26 (some 29) rfl (fun K hK=>?_)
 go_simp
 go_at_call 50
 refine(HJ.out.five HK0 1 rfl (Sls.own (HK0.out.own 0 rfl) (HF.out _ (by show 4≤1000;decide))) (Sls.own (HK0.out.own 1 rfl) HF2.out) (Sls.own (HK0.out.own 2 rfl) HF3.out) (Sls.own (HK0.out.own 3 rfl) HF4.out) (Sls.own (HK0.out.own 4 rfl) HF5.out) HBg.out).mono ?_;rintro e w7 ⟨A9,n9,c9,rfl,o9,b9⟩;replace HK0:=zH (HK0.out.called b9 o9).frontR;clear o9 b9;have hs:=zH ((HK0.out.takeL 1).takeR 0)
 refine hK.out _ _ hs (fun hHeld=>?_)
 clear hK K
 try simp only[ap1,ap2,ap3,ap4,ap5]
 refine stk 27 2 rfl ?_
 refine wpAnyH_done (by kernel_rfl) ?_ _
 rotate_left
 go_simp
 go_at_call 54
 refine(HMv.out _ HK0.out.b).mono ?_;rintro e w5 ⟨A5,n5,c5,rfl,o5,b5⟩;replace HK0:=zH (HK0.out.called b5 o5);simp only[lnA,lcA] at HK0;have hs:=zH (HK0.out.takeR 0);clear b5 o5
 refine hK.out _ _ hs (fun hHeld=>?_)
 clear hK K
 try simp only[ap1,ap2,ap3,ap4,ap5]
 refine srd2 12 (some 15) 21 (some 24) rfl rfl (fun K hK=>?_) (fun K hK=>?_)
 refine step_mk4 itemLay (p1:=Snp.t1 x.v.name) (p2:=Snp.n1 x.v.kind) (p3:=Snp.n1 x.v.cap) (p4:=Snp.n1 x.v.round) HK0 (by decide) (by rfl) _ _ _ _ (by rfl) (by rfl) (by rfl) (by rfl) (by rfl) (by rfl) (by rfl) (by rfl) (by rfl) ?_;intro _ g5 HK' _;replace HK0:=zH HK'.out.frontR;clear HK';have hs:=zH (HK0.out.takeR 0)
 refine hK.out _ _ hs (fun hHeld=>?_)
 clear hK K
 try simp only[ap1,ap2,ap3,ap4,ap5]
 refine srd1 21 (some 24) rfl (fun K hK=>?_)
 go_simp
 go_at_call 56
 refine(HMr.out _ HK0.out.b).mono ?_;rintro e w5 ⟨A5,n5,c5,rfl,o5,b5⟩;replace HK0:=zH (HK0.out.called b5 o5);simp only[lnA,lcA] at HK0;have hs:=zH (HK0.out.takeR 0);clear b5 o5
 refine hK.out _ _ hs (fun hHeld=>?_)
 clear hK K
 try simp only[ap1,ap2,ap3,ap4,ap5]
 refine srd1 24 (some 27) rfl (fun K hK=>?_)
 go_simp
 go_at_call 58
 refine(HMm.out _).mono ?_;rintro e w5 ⟨A5,n5,c5,rfl,o5,b5⟩;replace HK0:=zH (HK0.out.called b5 o5);simp only[lnA,lcA] at HK0;have hs:=zH (HK0.out.takeR 0);clear b5 o5
 refine hK.out _ _ hs (fun hHeld=>?_)
 clear hK K
 try simp only[ap1,ap2,ap3,ap4,ap5]
 refine srd1 25 (some 28) rfl (fun K hK=>?_)
 refine step_mks5 itemLay itNest HK0 (by rfl) _ _ _ _ _ (by rfl) (by rfl) (by rfl) (by rfl) (by rfl) (by rfl) ?_;intro _ g6 HK' _;simp only[lcA,lnA] at HK';replace HK0:=HK';clear HK';have hs:=zH ((HK0.out.takeL 1).takeR 0)
 refine hK.out _ _ hs (fun hHeld=>?_)
 clear hK K
 try simp only[ap1,ap2,ap3,ap4,ap5]
 refine srd1 26 (some 29) rfl (fun K hK=>?_)
 go_simp
 go_at_call 50
 refine(HJ.out.five HK0 1 rfl (Sls.own (HK0.out.own 0 rfl) (HF.out _ (by show 4≤1000;decide))) (Sls.own (HK0.out.own 1 rfl) HF2.out) (Sls.own (HK0.out.own 2 rfl) HF3.out) (Sls.own (HK0.out.own 3 rfl) HF4.out) (Sls.own (HK0.out.own 4 rfl) HF5.out) HBg.out).mono ?_;rintro e w7 ⟨A9,n9,c9,rfl,o9,b9⟩;replace HK0:=zH (HK0.out.called b9 o9).frontR;clear o9 b9;have hs:=zH ((HK0.out.takeL 1).takeR 0)
 refine hK.out _ _ hs (fun hHeld=>?_)
 clear hK K
 try simp only[ap1,ap2,ap3,ap4,ap5]
 refine stk 27 2 rfl ?_
 refine wpAnyH_done (by kernel_rfl) ?_ _
 rotate_left
 go_simp
 go_at_call 56
 refine(HMr.out _ HK0.out.b).mono ?_;rintro e w5 ⟨A5,n5,c5,rfl,o5,b5⟩;replace HK0:=zH (HK0.out.called b5 o5);simp only[lnA,lcA] at HK0;have hs:=zH (HK0.out.takeR 0);clear b5 o5
 refine hK.out _ _ hs (fun hHeld=>?_)
 clear hK K
 try simp only[ap1,ap2,ap3,ap4,ap5]
 refine srd2 12 (some 15) 24 (some 27) rfl rfl (fun K hK=>?_) (fun K hK=>?_)
 refine step_mk4 itemLay (p1:=Snp.t1 x.v.name) (p2:=Snp.n1 x.v.kind) (p3:=Snp.n1 x.v.cap) (p4:=Snp.n1 x.v.round) HK0 (by decide) (by rfl) _ _ _ _ (by rfl) (by rfl) (by rfl) (by rfl) (by rfl) (by rfl) (by rfl) (by rfl) (by rfl) ?_;intro _ g5 HK' _;replace HK0:=zH HK'.out.frontR;clear HK';have hs:=zH (HK0.out.takeR 0)
 refine hK.out _ _ hs (fun hHeld=>?_)
 clear hK K
 try simp only[ap1,ap2,ap3,ap4,ap5]
 refine srd1 24 (some 27) rfl (fun K hK=>?_)
 go_simp
 go_at_call 58
 refine(HMm.out _).mono ?_;rintro e w5 ⟨A5,n5,c5,rfl,o5,b5⟩;replace HK0:=zH (HK0.out.called b5 o5);simp only[lnA,lcA] at HK0;have hs:=zH (HK0.out.takeR 0);clear b5 o5
 refine hK.out _ _ hs (fun hHeld=>?_)
 clear hK K
 try simp only[ap1,ap2,ap3,ap4,ap5]
 refine srd1 25 (some 28) rfl (fun K hK=>?_)
 refine step_mks5 itemLay itNest HK0 (by rfl) _ _ _ _ _ (by rfl) (by rfl) (by rfl) (by rfl) (by rfl) (by rfl) ?_;intro _ g6 HK' _;simp only[lcA,lnA] at HK';replace HK0:=HK';clear HK';have hs:=zH ((HK0.out.takeL 1).takeR 0)
 refine hK.out _ _ hs (fun hHeld=>?_)
 clear hK K
 try simp only[ap1,ap2,ap3,ap4,ap5]
 refine srd1 26 (some 29) rfl (fun K hK=>?_)
 go_simp
 go_at_call 50
 refine(HJ.out.five HK0 1 rfl (Sls.own (HK0.out.own 0 rfl) (HF.out _ (by show 4≤1000;decide))) (Sls.own (HK0.out.own 1 rfl) HF2.out) (Sls.own (HK0.out.own 2 rfl) HF3.out) (Sls.own (HK0.out.own 3 rfl) HF4.out) (Sls.own (HK0.out.own 4 rfl) HF5.out) HBg.out).mono ?_;rintro e w7 ⟨A9,n9,c9,rfl,o9,b9⟩;replace HK0:=zH (HK0.out.called b9 o9).frontR;clear o9 b9;have hs:=zH ((HK0.out.takeL 1).takeR 0)
 refine hK.out _ _ hs (fun hHeld=>?_)
 clear hK K
 try simp only[ap1,ap2,ap3,ap4,ap5]
 refine stk 27 2 rfl ?_
 refine wpAnyH_done (by kernel_rfl) ?_ _
 rotate_left
 go_simp
 go_at_call 58
 refine(HMm.out _).mono ?_;rintro e w5 ⟨A5,n5,c5,rfl,o5,b5⟩;replace HK0:=zH (HK0.out.called b5 o5);simp only[lnA,lcA] at HK0;have hs:=zH (HK0.out.takeR 0);clear b5 o5
 refine hK.out _ _ hs (fun hHeld=>?_)
 clear hK K
 try simp only[ap1,ap2,ap3,ap4,ap5]
 refine srd1 12 (some 15) rfl (fun K hK=>?_)
 refine step_mk4 itemLay (p1:=Snp.t1 x.v.name) (p2:=Snp.n1 x.v.kind) (p3:=Snp.n1 x.v.cap) (p4:=Snp.n1 x.v.round) HK0 (by decide) (by rfl) _ _ _ _ (by rfl) (by rfl) (by rfl) (by rfl) (by rfl) (by rfl) (by rfl) (by rfl) (by rfl) ?_;intro _ g5 HK' _;replace HK0:=zH HK'.out.frontR;clear HK';have hs:=zH (HK0.out.takeR 0)
 refine hK.out _ _ hs (fun hHeld=>?_)
 clear hK K
 try simp only[ap1,ap2,ap3,ap4,ap5]
 refine srd1 25 (some 28) rfl (fun K hK=>?_)
 refine step_mks5 itemLay itNest HK0 (by rfl) _ _ _ _ _ (by rfl) (by rfl) (by rfl) (by rfl) (by rfl) (by rfl) ?_;intro _ g6 HK' _;simp only[lcA,lnA] at HK';replace HK0:=HK';clear HK';have hs:=zH ((HK0.out.takeL 1).takeR 0)
 refine hK.out _ _ hs (fun hHeld=>?_)
 clear hK K
 try simp only[ap1,ap2,ap3,ap4,ap5]
 refine srd1 26 (some 29) rfl (fun K hK=>?_)
 go_simp
 go_at_call 50
 refine(HJ.out.five HK0 1 rfl (Sls.own (HK0.out.own 0 rfl) (HF.out _ (by show 4≤1000;decide))) (Sls.own (HK0.out.own 1 rfl) HF2.out) (Sls.own (HK0.out.own 2 rfl) HF3.out) (Sls.own (HK0.out.own 3 rfl) HF4.out) (Sls.own (HK0.out.own 4 rfl) HF5.out) HBg.out).mono ?_;rintro e w7 ⟨A9,n9,c9,rfl,o9,b9⟩;replace HK0:=zH (HK0.out.called b9 o9).frontR;clear o9 b9;have hs:=zH ((HK0.out.takeL 1).takeR 0)
 refine hK.out _ _ hs (fun hHeld=>?_)
 clear hK K
 try simp only[ap1,ap2,ap3,ap4,ap5]
 refine stk 27 2 rfl ?_
 refine wpAnyH_done (by kernel_rfl) ?_ _
 rotate_left
 all_goals
  go_wp2_with fail
  go_ret
  exact⟨_,_,_,rfl,HK0.out.own 0 rfl,HK0.out.b⟩
end
section
open Go.RowKit
def Snp.ss(z:Snp.Its)(t:Ses.T):Nat→Snp.Its
 | 0=>z
 | k+1=>Snp.ss z t k++Snp.seI (t.get k)
theorem Snp.ss_all(z:Snp.Its)(t:Ses.T):Snp.ss z t 5=z++Snp.tbI t:=by
 show((((z++Snp.seI (t.get (0:Nat)))++Snp.seI (t.get (1:Nat)))++Snp.seI (t.get (2:Nat)))++Snp.seI (t.get (3:Nat)))++Snp.seI (t.get (4:Nat))=_
 unfold Snp.tbI
 simp only[List.append_assoc]
 rfl
theorem Snp.seI_len(s:Ses.S):(Snp.seI s).length≤7:=by
 have:=nit_len s.p.v
 unfold Snp.seI
 rw[List.length_append]
 show 5+_≤_
 omega
theorem Snp.obs_len{w:World}{A:Option Addr}{k c:Nat}{lo:List Oh}(hs:Obs w A k c lo)(hk:k≤8)(hsh:∀x∈lo,Short x):(Snp.many (fun x:Oh=>Snp.obI x.v) lo).length≤561:=by
 have h1:=Snp.many_le (fun x:Oh=>Snp.obI x.v) 70 (l:=lo) fun x hx=>Snp.obI_len (hs.i x hx) (hsh x hx)
 have:=hs.len
 omega
theorem Snp.many_vs(lo:List Oh):Snp.many (fun x:Oh=>Snp.obI x.v) lo=Snp.many Snp.obI (vs lo):=by
 unfold Snp.many vs
 rw[List.length_map,List.flatMap_map]
theorem nitems_any(n:Int)(A:Option Addr)(k c:Nat)(t:Ses.T)(lo:List Oh)(w:World)(hs:Obs w A k c lo)(hf:Ses.Fit t)(hk:k≤8)(hsh:∀x∈lo,Short x):
  Calls Try.prog 13 #[.agg (stA n A k c t)] w (IsLg itemLay (Snp.stI ⟨n,vs lo,t⟩) w):=by
 have HMo:Hid (∀W,Below w.heap.size w W→Calls Try.prog 30 #[.slice A k c,.func (.func 31) #[] #[]] W (IsLg itemLay (Snp.many Snp.obI (vs lo)) W)):=zH fun W hW=>by
  rw[← Snp.many_vs]
  exact many_ob_any (fun x:Oh=>Snp.obI x.v) _ _ _ _ W (hs.s.later hW) hk (fun x hx V hV=>nob_any x V ((hs.i x hx).later (hW.trans (hV.mono hW.size))) (hsh x hx)) fun x hx=>Snp.obI_len (hs.i x hx) (hsh x hx)
 have hlo:=Snp.obs_len hs hk hsh
 rw[Snp.many_vs] at hlo
 have HSe:Hid (∀(i:Nat) (W:World),i<5→Calls Try.prog 32 #[.agg (seA (t.get i))] W (IsLg itemLay (Snp.seI (t.get i)) W)):=zH fun i W hi=>nse_any (t.get i) W (hf i ⟨by omega,by omega⟩)
 have HAll:Hid (Snp.stI ⟨n,vs lo,t⟩=Snp.ss (Snp.n1 n::Snp.many Snp.obI (vs lo)) t 5):=zH (by rw[Snp.ss_all];rfl)
 have HZ:Hid (Snp.ss ([Snp.n1 n]++Snp.many Snp.obI (vs lo)) t 0=[Snp.n1 n]++Snp.many Snp.obI (vs lo)):=zH rfl
 have HMore:Hid (∀k,Snp.ss ([Snp.n1 n]++Snp.many Snp.obI (vs lo)) t (k+1)=Snp.ss ([Snp.n1 n]++Snp.many Snp.obI (vs lo)) t k++Snp.seI (t.get k)):=zH fun k=>rfl
 have HNm:=zH nnum_any
 have HN1:Hid (([Snp.n1 n]++Snp.many Snp.obI (vs lo)).length=1+(Snp.many Snp.obI (vs lo)).length):=zH (by rw[List.length_append];rfl)
 have HL1:=grow_ok (La:=itemLay) HN1 (by show(1+(Snp.many Snp.obI (vs lo)).length)*32≤_;omega) (by omega)
 have HM0:Hid (1+(Snp.many Snp.obI (vs lo)).length≤562+0*7):=zH (by omega)
 have HK:=kn1 w 33 (stA n A k c t)
 unfold IsI at HNm
 unfold IsLg at HMo HSe ⊢
 rw[HAll.out]
 clear HAll hlo hs hf hsh
 change Calls _ _ _ _ (fun e w'=>∃A n_1 c,e=.returned (.slice A n_1 c)∧itemLay.Own w.heap.size w' (.slice A n_1 c) (Snp.ss ([Snp.n1 n]++Snp.many Snp.obI (vs lo)) t 5)∧Below w.heap.size w w')
 generalize Snp.many Snp.obI (vs lo)=lb at *
 generalize Snp.ss ([Snp.n1 n]++lb) t=M at *
 go_enter Try.func13,Try.ntmps13
 go_wp2_with fail
 have HK0:=zH HK.out.drew
 refine wp_region_held_drew (S:=(fun W=>Hid (Kn w.heap.size w W [(w.heap.size,33,stA n A k c t)] []))) (by kernel_rfl) ?_ (fun hHeld=>?_)
 ·(try dsimp only);exact zH HK.out.drew
 refine stk 0 6 rfl ?_
 refine stk 1 7 rfl ?_ (fun w hSw=>kst_n hSw 0 _ (by rfl) (by rfl) (by rfl))
 refine stk 4 10 rfl ?_
 refine stk 5 11 rfl ?_ (fun w hSw=>kst_o hSw 0 _ (by rfl) (by rfl) (by rfl))
 refine srd1 2 (some 8) rfl (fun K hK=>?_)
 go_simp
 go_at_call 29
 refine(HNm.out _ _).mono ?_;rintro e w5 ⟨rfl,b5⟩;replace HK0:=zH (HK0.out.call b5);have hs:=zH (HK0.out.takeR 0);clear b5
 refine hK.out _ _ hs (fun hHeld=>?_)
 clear hK K
 try simp only[ap1,ap2,ap3,ap4,ap5]
 refine srd2 3 (some 9) 6 (some 12) rfl rfl (fun K hK=>?_) (fun K hK=>?_)
 refine step_mk1 itemLay (p:=Snp.n1 n) HK0 (by decide) (by rfl) _ (by rfl) (by rfl) (by rfl) ?_;intro _ g5 HK' _;replace HK0:=zH HK'.out.frontR;clear HK';have hs:=zH (HK0.out.takeR 0)
 refine hK.out _ _ hs (fun hHeld=>?_)
 clear hK K
 try simp only[ap1,ap2,ap3,ap4,ap5]
 refine srd1 6 (some 12) rfl (fun K hK=>?_)
 go_simp
 go_at_call 30
 refine(HMo.out _ HK0.out.b).mono ?_;rintro e w5 ⟨A5,n5,c5,rfl,o5,b5⟩;replace HK0:=zH (HK0.out.called b5 o5);have HI5:=zH (Lay.Own.reads o5).1;simp only[lnA,lcA] at HK0;have hs:=zH (HK0.out.takeR 0);clear b5 o5
 refine hK.out _ _ hs (fun hHeld=>?_)
 clear hK K
 try simp only[ap1,ap2,ap3,ap4,ap5]
 refine srd1 7 (some 13) rfl (fun K hK=>?_)
 have HR2:=zH (Kn.own HK0.out 1 rfl).rd;refine step_more2 itemLay HK0 0 (by rfl) _ _ (by rfl) (by rfl) (by rfl) lb (by rfl) HI5.out HR2 HL1 (N:=1+lb.length) HN1 ?_;intro A9 c9 _ HK';simp only[List.set] at HK';replace HK0:=HK';clear HK' HR2;have hs:=zH (HK0.out.takeR 0)
 refine hK.out _ _ hs (fun hHeld=>?_)
 clear hK K
 try simp only[ap1,ap2,ap3,ap4,ap5]
 refine stk 8 3 rfl ?_
 refine wpAnyH_done (by kernel_rfl) ?_ _
 rotate_left
 go_simp
 go_at_call 30
 refine(HMo.out _ HK0.out.b).mono ?_;rintro e w5 ⟨A5,n5,c5,rfl,o5,b5⟩;replace HK0:=zH (HK0.out.called b5 o5);have HI5:=zH (Lay.Own.reads o5).1;simp only[lnA,lcA] at HK0;have hs:=zH (HK0.out.takeR 0);clear b5 o5
 refine hK.out _ _ hs (fun hHeld=>?_)
 clear hK K
 try simp only[ap1,ap2,ap3,ap4,ap5]
 refine srd1 3 (some 9) rfl (fun K hK=>?_)
 refine step_mk1 itemLay (p:=Snp.n1 n) HK0 (by decide) (by rfl) _ (by rfl) (by rfl) (by rfl) ?_;intro _ g5 HK' _;replace HK0:=zH HK'.out.frontR;clear HK';have hs:=zH (HK0.out.takeR 0)
 refine hK.out _ _ hs (fun hHeld=>?_)
 clear hK K
 try simp only[ap1,ap2,ap3,ap4,ap5]
 refine srd1 7 (some 13) rfl (fun K hK=>?_)
 have HR2:=zH (Kn.own HK0.out 1 rfl).rd;refine step_more2 itemLay HK0 0 (by rfl) _ _ (by rfl) (by rfl) (by rfl) lb (by rfl) HI5.out HR2 HL1 (N:=1+lb.length) HN1 ?_;intro A9 c9 _ HK';simp only[List.set] at HK';replace HK0:=HK';clear HK' HR2;have hs:=zH (HK0.out.takeR 0)
 refine hK.out _ _ hs (fun hHeld=>?_)
 clear hK K
 try simp only[ap1,ap2,ap3,ap4,ap5]
 refine stk 8 3 rfl ?_
 refine wpAnyH_done (by kernel_rfl) ?_ _
 rotate_left
 all_goals
  rw[← HZ.out] at HK0
  have HN0:Hid ((M 0).length=1+lb.length):=zH (by rw[HZ.out];exact HN1.out)
  replace HK0:=zH (HK0.out.takeR 1)
  simp only[List.take] at HK0
  clear hHeld HK HZ HN1 HL1 HMo
  go_wp2_with (first|refine zX (kst_t HK0 0 _ (by rfl) (by rfl) (by rfl)) ?_)
  go_loopw [3,16] (fun vl vi wr=>∃(i:Nat) (A1:Option Addr) (N1 c1:Nat),i≤5∧vl=.slice A1 N1 c1∧vi=.int .i64 i∧Hid (N1≤562+i*7)∧Hid ((M i).length=N1)∧Hid (Kn w.heap.size w wr [(w.heap.size,33,stA n A k c t)] [row itemLay (.slice A1 N1 c1) (M i)])) (fun _ vi _=>5-(intOf vi).toNat)
  case atStart=>exact⟨0,_,_,_,Nat.zero_le _,rfl,rfl,HM0,HN0,HK0⟩
  case round=>
   clear HK0 HM0 HN0
   obtain⟨i,A1,N1,c1,hi,rfl,rfl,HB1,HM,HK⟩:=hrel
   by_cases hlt:i<5
   ·have HSi:=zH (fun W=>HSe.out i W hlt)
    have hsl:=Snp.seI_len (t.get i)
    have HN2:Hid ((M i++Snp.seI (t.get i)).length=N1+(Snp.seI (t.get i)).length):=zH (by rw[List.length_append,HM.out])
    have hB1:=HB1.out
    have HL2:=grow_ok (La:=itemLay) HN2 (by show(N1+(Snp.seI (t.get i)).length)*32≤_;omega) (by omega)
    have HB2:Hid (N1+(Snp.seI (t.get i)).length≤562+(i+1)*7):=zH (by omega)
    clear hsl hB1
    have hk1:(0:Int)≤(i:Int):=by omega
    have hk2:(i:Int)<5:=by omega
    go_wp2_with (first|refine zX (exec_ixs (c:=(i:Int)) (t:=t) ⟨hk1,hk2⟩ _ _ (by rfl) (by rfl) (by rfl)) ?_|(refine wpList_ase HK rfl rfl ?_;intro _ g5 HK';simp only[lcA,lnA] at HK';replace HK:=HK';clear HK')|(refine wpList_sse (u:=t.get i) HK 1 rfl _ _ rfl rfl rfl rfl ?_;intro _ HK';simp only[List.set] at HK';replace HK:=HK';clear HK')|refine zX (kse HK 1 _ (by rfl) (by rfl) (by rfl)) ?_)
    refine(HSi.out _).mono ?_;rintro e w2 ⟨A5,n5,c5,rfl,o5,b5⟩
    have HI5:=zH (Lay.Own.reads o5).1
    replace HK:=zH (HK.out.called b5 o5)
    simp only[lcA,lnA] at HK
    clear o5 b5
    have HR:=zH (HK.out.own 1 rfl).rd
    go_wp2_with (first|(at_builtin;refine wpList_kmore HK itemLay 0 rfl _ _ rfl rfl rfl (Snp.seI (t.get i)) rfl HI5.out HR HL2 (N:=N1+(Snp.seI (t.get i)).length) HN2 ?_;intro A7 c7 _ HK';simp only[List.set] at HK';replace HK:=HK';clear HK'))
    refine⟨⟨i+1,A7,_,c7,by omega,rfl,by go_num,HB2,zH (by rw[HMore.out];exact HN2.out),zH ?_⟩,by simp[intOf];omega⟩
    rw[HMore.out]
    exact(HK.out.takeL 1).takeR 1
   ·obtain rfl:i=5:=by omega
    go_wp2_with fail
    go_ret
    exact⟨_,_,_,rfl,HK.out.own 0 rfl,HK.out.b⟩
end
end Go.Proofs.Ytieoeendnccafaa
