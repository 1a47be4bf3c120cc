/- What phalanxref18.object returns: an object's items. No condition but those named. -/
import Derived.Test.YtieoeendnccafaaGreatMTK
import Derived.Test.YtieoeendnccafaaGreatMAO
set_option linter.unusedSimpArgs false
set_option linter.unusedVariables false
set_option maxRecDepth 100000
set_option maxHeartbeats 25600000
namespace Go.Proofs.YtieoeendnccafaaGreat
section
open Go.RowKit
section
variable {P:Program}{α:Type}{La:Lay P α}{F:α→Prop}{b0:Nat}{w0 w w':World}{L:List (Nat×TypeId×Array Value)}{R:List RowE}{f:FuncId}{g:Nat}{A1 A2 A3 A4 A5:Option Addr}{n1 c1 n2 c2 n3 c3 n4 c4 n5 c5:Nat}{l1 l2 l3 l4 l5:List α}
theorem Joins.five(J:Joins P f La F)(HK:Hid (Kn b0 w0 w L R))(i:Nat)(hL:L[i]?=some (g,La.t,#[.slice A1 n1 c1,.slice A2 n2 c2,.slice A3 n3 c3,.slice A4 n4 c4,.slice A5 n5 c5]))(h1:Sls La F w A1 n1 c1 l1)(h2:Sls La F w A2 n2 c2 l2)(h3:Sls La F w A3 n3 c3 l3)(h4:Sls La F w A4 n4 c4 l4)(h5:Sls La F w A5 n5 c5 l5)
  (ht:(l1.length+l2.length+l3.length+l4.length+l5.length)*La.bytes≤140737488355328) :
  Calls P f #[.slice (some ⟨g,0,none⟩) 5 5] w (IsLg La (l1++(l2++(l3++(l4++l5)))) w):=by
 have e:catP [(⟨A1,n1,c1,l1⟩:Pce α),⟨A2,n2,c2,l2⟩,⟨A3,n3,c3,l3⟩,⟨A4,n4,c4,l4⟩,⟨A5,n5,c5,l5⟩]=l1++(l2++(l3++(l4++l5))):=by show l1++(l2++(l3++(l4++(l5++[]))))=_;rw[List.append_nil]
 have h:=J g 5 [⟨A1,n1,c1,l1⟩,⟨A2,n2,c2,l2⟩,⟨A3,n3,c3,l3⟩,⟨A4,n4,c4,l4⟩,⟨A5,n5,c5,l5⟩] w rfl (by decide) (HK.out.blk i hL).lt (fun j p hp=>by
  match j,hp with
  | 0,hp=>simp at hp;subst hp;exact HK.out.cell i hL 0 rfl
  | 1,hp=>simp at hp;subst hp;exact HK.out.cell i hL 1 rfl
  | 2,hp=>simp at hp;subst hp;exact HK.out.cell i hL 2 rfl
  | 3,hp=>simp at hp;subst hp;exact HK.out.cell i hL 3 rfl
  | 4,hp=>simp at hp;subst hp;exact HK.out.cell i hL 4 rfl) (fun p hp=>by
   simp only[List.mem_cons,List.not_mem_nil,or_false] at hp
   rcases hp with rfl|rfl|rfl|rfl|rfl
   ·exact h1
   ·exact h2
   ·exact h3
   ·exact h4
   ·exact h5) (by
   rw[e]
   simp only[List.length_append]
   rw[← Nat.add_assoc,← Nat.add_assoc,← Nat.add_assoc];exact ht)
 rw[e] at h
 exact h
end
theorem Snp.flat_le{α:Type}(f:α→Snp.Its)(m:Nat):∀(l:List α),(∀x∈l,(f x).length≤m)→(l.flatMap f).length≤l.length*m
 | [],_=>Nat.zero_le _
 | x::l,h=>by
  have h1:=h x (List.mem_cons_self ..)
  have h2:=flat_le f m l fun y hy=>h y (List.mem_cons_of_mem x hy)
  rw[List.flatMap_cons,List.length_append,List.length_cons,Nat.succ_mul]
  omega
theorem Snp.many_le{α:Type}(f:α→Snp.Its)(m:Nat){l:List α}(h:∀x∈l,(f x).length≤m):(Snp.many f l).length≤1+l.length*m:=by
 have:=flat_le f m l h
 unfold Snp.many
 rw[List.length_cons]
 omega
theorem Snp.prI_len(p:Dct.Pr):(Snp.prI p).length≤3:=by
 have:=nit_len p.val
 unfold Snp.prI
 rw[List.length_cons]
 omega
def Short(x:Oh):Prop:=x.pn≤8∧x.vn≤8∧x.rn≤5
theorem Snp.obI_len{w:World}{x:Oh}(hx:In w x)(hs:Short x):(Snp.obI x.v).length≤70:=by
 have h1:=Snp.many_le Snp.prI 3 (l:=x.v.prs) fun p _=>Snp.prI_len p
 have h2:=Snp.many_le Val.items 2 (l:=x.v.vals) fun v _=>(nit_len v).2
 have h3:=Snp.many_le Snp.rfI 3 (l:=x.v.refs) fun r _=>Nat.le_refl _
 have e1:=hx.p.sls.len
 have e2:=hx.v.len
 have e3:=hx.r.len
 obtain⟨s1,s2,s3⟩:=hs
 unfold Snp.obI Snp.mtI
 simp only[List.length_append,List.length_cons,List.length_nil]
 omega
theorem nob_any(x:Oh)(w:World)(hx:In w x)(hs:Short x):Calls Tryz.prog 94 #[.agg (obA x)] w (IsLg itemLay (Snp.obI x.v) w):=by
 have h1:=Snp.many_le Snp.prI 3 (l:=x.v.prs) fun p _=>Snp.prI_len p
 have h2:=Snp.many_le Val.items 2 (l:=x.v.vals) fun v _=>(nit_len v).2
 have h3:=Snp.many_le Snp.rfI 3 (l:=x.v.refs) fun r _=>Nat.le_refl _
 have HMp:Hid (∀W,Below w.heap.size w W→Calls Tryz.prog 158 #[.slice x.pA x.pn x.pc,.func (.func 159) #[] #[]] W (IsLg itemLay (Snp.many Snp.prI x.v.prs) W)):=zH fun W hW=>
  many_pr_any Snp.prI _ _ _ _ W (hx.p.sls.later hW) hs.1 (fun p hp V _=>npr_any p V (hx.p.sls.fit.fs p hp)) fun p _=>Nat.le_trans (Snp.prI_len p) (by decide)
 have HMv:Hid (∀W,Below w.heap.size w W→Calls Tryz.prog 160 #[.slice x.vA x.vn x.vc,.func (.func 161) #[] #[]] W (IsLg itemLay (Snp.many Val.items x.v.vals) W)):=zH fun W hW=>
  many_va_any Val.items _ _ _ _ W (hx.v.later hW) hs.2.1 (fun v hv V _=>nvit_any v V (hx.v.fit.fs v hv)) fun v _=>Nat.le_trans (nit_len v).2 (by decide)
 have HMr:Hid (∀W,Below w.heap.size w W→Calls Tryz.prog 162 #[.slice x.rA x.rn x.rc,.func (.func 163) #[] #[]] W (IsLg itemLay (Snp.many Snp.rfI x.v.refs) W)):=zH fun W hW=>
  many_rf_any Snp.rfI _ _ _ _ W (hx.r.later hW) (Nat.le_trans hs.2.2 (by decide)) (fun r _ V _=>nrf_any r V) fun r _=>by show 3≤70;decide
 have HMm:=zH (fun W=>nmt_any x.v.mt W ⟨hx.m.2.1,hx.m.2.2.1,hx.m.2.2.2⟩)
 have e1:=hx.p.sls.len
 have e2:=hx.v.len
 have e3:=hx.r.len
 obtain⟨s1,s2,s3⟩:=hs
 have HBg:Hid (([Snp.t1 x.v.name,Snp.n1 x.v.kind,Snp.n1 x.v.cap,Snp.n1 x.v.round].length+(Snp.many Snp.prI x.v.prs).length+(Snp.many Val.items x.v.vals).length+(Snp.many Snp.rfI x.v.refs).length+(Snp.mtI x.v.mt).length)*itemLay.bytes≤140737488355328):=zH (by
  show(4+(Snp.many Snp.prI x.v.prs).length+(Snp.many Val.items x.v.vals).length+(Snp.many Snp.rfI x.v.refs).length+4)*32≤_
  omega)
 have HF:Hid (∀l:List Itm.It,l.length≤1000→Fits itemLay iF l):=zH fun l h=>⟨fun _ _=>trivial,by show l.length*32≤_;omega⟩
 have HF2:=zH (HF.out (Snp.many Snp.prI x.v.prs) (by omega))
 have HF3:=zH (HF.out (Snp.many Val.items x.v.vals) (by omega))
 have HF4:=zH (HF.out (Snp.many Snp.rfI x.v.refs) (by omega))
 have HF5:=zH (HF.out (Snp.mtI x.v.mt) (by show 4≤1000;decide))
 have HNm:=zH nnum_any
 have HTx:=zH ntxt_any
 have HJ:=zH iconcat_any
 have HK:=kn1 w 63 (obA x)
 unfold IsI at HNm HTx
 unfold IsLg at HMp HMv HMr HMm
 unfold IsLg Snp.obI
 clear h1 h2 h3 e1 e2 e3 s1 s2 s3 hx
 generalize Snp.many Snp.prI x.v.prs=lp at *
 generalize Snp.many Val.items x.v.vals=lv at *
 generalize Snp.many Snp.rfI x.v.refs=lr at *
 generalize Snp.mtI x.v.mt=lm at *
 go_enter Tryz.func94,Tryz.ntmps94
 go_wp2_with fail
 have HK0:=zH HK.out.drew
 refine wp_region_held_drew (S:=(fun W=>Hid (Kn w.heap.size w W [(w.heap.size,63,obA x)] []))) (by kernel_rfl) ?_ (fun hHeld=>?_)
 ·(try dsimp only);exact zH HK.out.drew
 refine stk 0 3 rfl ?_
 refine stk 1 4 rfl ?_ (fun w hSw=>kob_n hSw 0 _ (by rfl) (by rfl) (by rfl))
 refine stk 3 6 rfl ?_
 refine stk 4 7 rfl ?_ (fun w hSw=>kob_k hSw 0 _ (by rfl) (by rfl) (by rfl))
 refine stk 6 9 rfl ?_
 refine stk 7 10 rfl ?_ (fun w hSw=>kob_c hSw 0 _ (by rfl) (by rfl) (by rfl))
 refine stk 9 12 rfl ?_
 refine stk 10 13 rfl ?_ (fun w hSw=>kob_d hSw 0 _ (by rfl) (by rfl) (by rfl))
 refine stk 13 16 rfl ?_
 refine stk 14 17 rfl ?_ (fun w hSw=>kob_p hSw 0 _ (by rfl) (by rfl) (by rfl))
 refine stk 16 19 rfl ?_
 refine stk 17 20 rfl ?_ (fun w hSw=>kob_v hSw 0 _ (by rfl) (by rfl) (by rfl))
 refine stk 19 22 rfl ?_
 refine stk 20 23 rfl ?_ (fun w hSw=>kob_r hSw 0 _ (by rfl) (by rfl) (by rfl))
 refine stk 22 25 rfl ?_
 refine stk 23 26 rfl ?_ (fun w hSw=>kob_m hSw 0 _ (by rfl) (by rfl) (by rfl))
 refine srd1 2 (some 5) rfl (fun K hK=>?_)
 go_simp
 go_at_call 157
 refine(HTx.out _ _).mono ?_;rintro e w5 ⟨rfl,b5⟩;replace HK0:=zH (HK0.out.call b5);have hs:=HK0;clear b5
 refine hK.out _ _ hs (fun hHeld=>?_)
 clear hK K
 try simp only[ap1,ap2,ap3,ap4,ap5]
 refine srd1 5 (some 8) rfl (fun K hK=>?_)
 go_simp
 go_at_call 92
 refine(HNm.out _ _).mono ?_;rintro e w5 ⟨rfl,b5⟩;replace HK0:=zH (HK0.out.call b5);have hs:=HK0;clear b5
 refine hK.out _ _ hs (fun hHeld=>?_)
 clear hK K
 try simp only[ap1,ap2,ap3,ap4,ap5]
 refine srd1 8 (some 11) rfl (fun K hK=>?_)
 go_simp
 go_at_call 92
 refine(HNm.out _ _).mono ?_;rintro e w5 ⟨rfl,b5⟩;replace HK0:=zH (HK0.out.call b5);have hs:=HK0;clear b5
 refine hK.out _ _ hs (fun hHeld=>?_)
 clear hK K
 try simp only[ap1,ap2,ap3,ap4,ap5]
 refine srd1 11 (some 14) rfl (fun K hK=>?_)
 go_simp
 go_at_call 92
 refine(HNm.out _ _).mono ?_;rintro e w5 ⟨rfl,b5⟩;replace HK0:=zH (HK0.out.call b5);have hs:=HK0;clear b5
 refine hK.out _ _ hs (fun hHeld=>?_)
 clear hK K
 try simp only[ap1,ap2,ap3,ap4,ap5]
 refine srd2 12 (some 15) 15 (some 18) rfl rfl (fun K hK=>?_) (fun K hK=>?_)
 refine step_mk4 itemLay (p1:=Snp.t1 x.v.name) (p2:=Snp.n1 x.v.kind) (p3:=Snp.n1 x.v.cap) (p4:=Snp.n1 x.v.round) HK0 (by decide) (by rfl) _ _ _ _ (by rfl) (by rfl) (by rfl) (by rfl) (by rfl) (by rfl) (by rfl) (by rfl) (by rfl) ?_;intro _ g5 HK' _;replace HK0:=zH HK'.out.frontR;clear HK';have hs:=zH (HK0.out.takeR 0)
 refine hK.out _ _ hs (fun hHeld=>?_)
 clear hK K
 try simp only[ap1,ap2,ap3,ap4,ap5]
 refine srd1 15 (some 18) rfl (fun K hK=>?_)
 go_simp
 go_at_call 158
 refine(HMp.out _ HK0.out.b).mono ?_;rintro e w5 ⟨A5,n5,c5,rfl,o5,b5⟩;replace HK0:=zH (HK0.out.called b5 o5);simp only[lnA,lcA] at HK0;have hs:=zH (HK0.out.takeR 0);clear b5 o5
 refine hK.out _ _ hs (fun hHeld=>?_)
 clear hK K
 try simp only[ap1,ap2,ap3,ap4,ap5]
 refine srd1 18 (some 21) rfl (fun K hK=>?_)
 go_simp
 go_at_call 160
 refine(HMv.out _ HK0.out.b).mono ?_;rintro e w5 ⟨A5,n5,c5,rfl,o5,b5⟩;replace HK0:=zH (HK0.out.called b5 o5);simp only[lnA,lcA] at HK0;have hs:=zH (HK0.out.takeR 0);clear b5 o5
 refine hK.out _ _ hs (fun hHeld=>?_)
 clear hK K
 try simp only[ap1,ap2,ap3,ap4,ap5]
 refine srd1 21 (some 24) rfl (fun K hK=>?_)
 go_simp
 go_at_call 162
 refine(HMr.out _ HK0.out.b).mono ?_;rintro e w5 ⟨A5,n5,c5,rfl,o5,b5⟩;replace HK0:=zH (HK0.out.called b5 o5);simp only[lnA,lcA] at HK0;have hs:=zH (HK0.out.takeR 0);clear b5 o5
 refine hK.out _ _ hs (fun hHeld=>?_)
 clear hK K
 try simp only[ap1,ap2,ap3,ap4,ap5]
 refine srd1 24 (some 27) rfl (fun K hK=>?_)
 go_simp
 go_at_call 164
 refine(HMm.out _).mono ?_;rintro e w5 ⟨A5,n5,c5,rfl,o5,b5⟩;replace HK0:=zH (HK0.out.called b5 o5);simp only[lnA,lcA] at HK0;have hs:=zH (HK0.out.takeR 0);clear b5 o5
 refine hK.out _ _ hs (fun hHeld=>?_)
 clear hK K
 try simp only[ap1,ap2,ap3,ap4,ap5]
 refine srd1 25 (some 28) rfl (fun K hK=>?_)
 refine step_mks5 itemLay itNest HK0 (by rfl) _ _ _ _ _ (by rfl) (by rfl) (by rfl) (by rfl) (by rfl) (by rfl) ?_;intro _ g6 HK' _;simp only[lcA,lnA] at HK';replace HK0:=HK';clear HK';have hs:=zH ((HK0.out.takeL 1).takeR 0)
 refine hK.out _ _ hs (fun hHeld=>?_)
 clear hK K
 try simp only[ap1,ap2,ap3,ap4,ap5]
 refine srd1 26 (some 29) rfl (fun K hK=>?_)
 go_simp
 go_at_call 156
 refine(HJ.out.five HK0 1 rfl (Sls.own (HK0.out.own 0 rfl) (HF.out _ (by show 4≤1000;decide))) (Sls.own (HK0.out.own 1 rfl) HF2.out) (Sls.own (HK0.out.own 2 rfl) HF3.out) (Sls.own (HK0.out.own 3 rfl) HF4.out) (Sls.own (HK0.out.own 4 rfl) HF5.out) HBg.out).mono ?_;rintro e w7 ⟨A9,n9,c9,rfl,o9,b9⟩;replace HK0:=zH (HK0.out.called b9 o9).frontR;clear o9 b9;have hs:=zH ((HK0.out.takeL 1).takeR 0)
 refine hK.out _ _ hs (fun hHeld=>?_)
 clear hK K
 try simp only[ap1,ap2,ap3,ap4,ap5]
 refine stk 27 2 rfl ?_
 refine wpAnyH_done (by kernel_rfl) ?_ _
 rotate_left
 go_simp
 go_at_call 158
 refine(HMp.out _ HK0.out.b).mono ?_;rintro e w5 ⟨A5,n5,c5,rfl,o5,b5⟩;replace HK0:=zH (HK0.out.called b5 o5);simp only[lnA,lcA] at HK0;have hs:=zH (HK0.out.takeR 0);clear b5 o5
 refine hK.out _ _ hs (fun hHeld=>?_)
 clear hK K
 try simp only[ap1,ap2,ap3,ap4,ap5]
 refine srd2 12 (some 15) 18 (some 21) rfl rfl (fun K hK=>?_) (fun K hK=>?_)
 refine step_mk4 itemLay (p1:=Snp.t1 x.v.name) (p2:=Snp.n1 x.v.kind) (p3:=Snp.n1 x.v.cap) (p4:=Snp.n1 x.v.round) HK0 (by decide) (by rfl) _ _ _ _ (by rfl) (by rfl) (by rfl) (by rfl) (by rfl) (by rfl) (by rfl) (by rfl) (by rfl) ?_;intro _ g5 HK' _;replace HK0:=zH HK'.out.frontR;clear HK';have hs:=zH (HK0.out.takeR 0)
 refine hK.out _ _ hs (fun hHeld=>?_)
 clear hK K
 try simp only[ap1,ap2,ap3,ap4,ap5]
 refine srd1 18 (some 21) rfl (fun K hK=>?_)
 go_simp
 go_at_call 160
 refine(HMv.out _ HK0.out.b).mono ?_;rintro e w5 ⟨A5,n5,c5,rfl,o5,b5⟩;replace HK0:=zH (HK0.out.called b5 o5);simp only[lnA,lcA] at HK0;have hs:=zH (HK0.out.takeR 0);clear b5 o5
 refine hK.out _ _ hs (fun hHeld=>?_)
 clear hK K
 try simp only[ap1,ap2,ap3,ap4,ap5]
 refine srd1 21 (some 24) rfl (fun K hK=>?_)
 go_simp
 go_at_call 162
 refine(HMr.out _ HK0.out.b).mono ?_;rintro e w5 ⟨A5,n5,c5,rfl,o5,b5⟩;replace HK0:=zH (HK0.out.called b5 o5);simp only[lnA,lcA] at HK0;have hs:=zH (HK0.out.takeR 0);clear b5 o5
 refine hK.out _ _ hs (fun hHeld=>?_)
 clear hK K
 try simp only[ap1,ap2,ap3,ap4,ap5]
 refine srd1 24 (some 27) rfl (fun K hK=>?_)
 go_simp
 go_at_call 164
 refine(HMm.out _).mono ?_;rintro e w5 ⟨A5,n5,c5,rfl,o5,b5⟩;replace HK0:=zH (HK0.out.called b5 o5);simp only[lnA,lcA] at HK0;have hs:=zH (HK0.out.takeR 0);clear b5 o5
 refine hK.out _ _ hs (fun hHeld=>?_)
 clear hK K
 try simp only[ap1,ap2,ap3,ap4,ap5]
 refine srd1 25 (some 28) rfl (fun K hK=>?_)
 refine step_mks5 itemLay itNest HK0 (by rfl) _ _ _ _ _ (by rfl) (by rfl) (by rfl) (by rfl) (by rfl) (by rfl) ?_;intro _ g6 HK' _;simp only[lcA,lnA] at HK';replace HK0:=HK';clear HK';have hs:=zH ((HK0.out.takeL 1).takeR 0)
 refine hK.out _ _ hs (fun hHeld=>?_)
 clear hK K
 try simp only[ap1,ap2,ap3,ap4,ap5]
 refine srd1 26 (some 29) rfl (fun K hK=>?_)
 go_simp
 go_at_call 156
 refine(HJ.out.five HK0 1 rfl (Sls.own (HK0.out.own 0 rfl) (HF.out _ (by show 4≤1000;decide))) (Sls.own (HK0.out.own 1 rfl) HF2.out) (Sls.own (HK0.out.own 2 rfl) HF3.out) (Sls.own (HK0.out.own 3 rfl) HF4.out) (Sls.own (HK0.out.own 4 rfl) HF5.out) HBg.out).mono ?_;rintro e w7 ⟨A9,n9,c9,rfl,o9,b9⟩;replace HK0:=zH (HK0.out.called b9 o9).frontR;clear o9 b9;have hs:=zH ((HK0.out.takeL 1).takeR 0)
 refine hK.out _ _ hs (fun hHeld=>?_)
 clear hK K
 try simp only[ap1,ap2,ap3,ap4,ap5]
 refine stk 27 2 rfl ?_
 refine wpAnyH_done (by kernel_rfl) ?_ _
 rotate_left
 go_simp
 go_at_call 160
 refine(HMv.out _ HK0.out.b).mono ?_;rintro e w5 ⟨A5,n5,c5,rfl,o5,b5⟩;replace HK0:=zH (HK0.out.called b5 o5);simp only[lnA,lcA] at HK0;have hs:=zH (HK0.out.takeR 0);clear b5 o5
 refine hK.out _ _ hs (fun hHeld=>?_)
 clear hK K
 try simp only[ap1,ap2,ap3,ap4,ap5]
 refine srd2 12 (some 15) 21 (some 24) rfl rfl (fun K hK=>?_) (fun K hK=>?_)
 refine step_mk4 itemLay (p1:=Snp.t1 x.v.name) (p2:=Snp.n1 x.v.kind) (p3:=Snp.n1 x.v.cap) (p4:=Snp.n1 x.v.round) HK0 (by decide) (by rfl) _ _ _ _ (by rfl) (by rfl) (by rfl) (by rfl) (by rfl) (by rfl) (by rfl) (by rfl) (by rfl) ?_;intro _ g5 HK' _;replace HK0:=zH HK'.out.frontR;clear HK';have hs:=zH (HK0.out.takeR 0)
 refine hK.out _ _ hs (fun hHeld=>?_)
 clear hK K
 try simp only[ap1,ap2,ap3,ap4,ap5]
 refine srd1 21 (some 24) rfl (fun K hK=>?_)
 go_simp
 go_at_call 162
 refine(HMr.out _ HK0.out.b).mono ?_;rintro e w5 ⟨A5,n5,c5,rfl,o5,b5⟩;replace HK0:=zH (HK0.out.called b5 o5);simp only[lnA,lcA] at HK0;have hs:=zH (HK0.out.takeR 0);clear b5 o5
 refine hK.out _ _ hs (fun hHeld=>?_)
 clear hK K
 try simp only[ap1,ap2,ap3,ap4,ap5]
 refine srd1 24 (some 27) rfl (fun K hK=>?_)
 go_simp
 go_at_call 164
 refine(HMm.out _).mono ?_;rintro e w5 ⟨A5,n5,c5,rfl,o5,b5⟩;replace HK0:=zH (HK0.out.called b5 o5);simp only[lnA,lcA] at HK0;have hs:=zH (HK0.out.takeR 0);clear b5 o5
 refine hK.out _ _ hs (fun hHeld=>?_)
 clear hK K
 try simp only[ap1,ap2,ap3,ap4,ap5]
 refine srd1 25 (some 28) rfl (fun K hK=>?_)
 refine step_mks5 itemLay itNest HK0 (by rfl) _ _ _ _ _ (by rfl) (by rfl) (by rfl) (by rfl) (by rfl) (by rfl) ?_;intro _ g6 HK' _;simp only[lcA,lnA] at HK';replace HK0:=HK';clear HK';have hs:=zH ((HK0.out.takeL 1).takeR 0)
 refine hK.out _ _ hs (fun hHeld=>?_)
 clear hK K
 try simp only[ap1,ap2,ap3,ap4,ap5]
 refine srd1 26 (some 29) rfl (fun K hK=>?_)
 go_simp
 go_at_call 156
 refine(HJ.out.five HK0 1 rfl (Sls.own (HK0.out.own 0 rfl) (HF.out _ (by show 4≤1000;decide))) (Sls.own (HK0.out.own 1 rfl) HF2.out) (Sls.own (HK0.out.own 2 rfl) HF3.out) (Sls.own (HK0.out.own 3 rfl) HF4.out) (Sls.own (HK0.out.own 4 rfl) HF5.out) HBg.out).mono ?_;rintro e w7 ⟨A9,n9,c9,rfl,o9,b9⟩;replace HK0:=zH (HK0.out.called b9 o9).frontR;clear o9 b9;have hs:=zH ((HK0.out.takeL 1).takeR 0)
 refine hK.out _ _ hs (fun hHeld=>?_)
 clear hK K
 try simp only[ap1,ap2,ap3,ap4,ap5]
 refine stk 27 2 rfl ?_
 refine wpAnyH_done (by kernel_rfl) ?_ _
 rotate_left
 go_simp
 go_at_call 162
 refine(HMr.out _ HK0.out.b).mono ?_;rintro e w5 ⟨A5,n5,c5,rfl,o5,b5⟩;replace HK0:=zH (HK0.out.called b5 o5);simp only[lnA,lcA] at HK0;have hs:=zH (HK0.out.takeR 0);clear b5 o5
 refine hK.out _ _ hs (fun hHeld=>?_)
 clear hK K
 try simp only[ap1,ap2,ap3,ap4,ap5]
 refine srd2 12 (some 15) 24 (some 27) rfl rfl (fun K hK=>?_) (fun K hK=>?_)
 refine step_mk4 itemLay (p1:=Snp.t1 x.v.name) (p2:=Snp.n1 x.v.kind) (p3:=Snp.n1 x.v.cap) (p4:=Snp.n1 x.v.round) HK0 (by decide) (by rfl) _ _ _ _ (by rfl) (by rfl) (by rfl) (by rfl) (by rfl) (by rfl) (by rfl) (by rfl) (by rfl) ?_;intro _ g5 HK' _;replace HK0:=zH HK'.out.frontR;clear HK';have hs:=zH (HK0.out.takeR 0)
 refine hK.out _ _ hs (fun hHeld=>?_)
 clear hK K
 try simp only[ap1,ap2,ap3,ap4,ap5]
 refine srd1 24 (some 27) rfl (fun K hK=>?_)
 go_simp
 go_at_call 164
 refine(HMm.out _).mono ?_;rintro e w5 ⟨A5,n5,c5,rfl,o5,b5⟩;replace HK0:=zH (HK0.out.called b5 o5);simp only[lnA,lcA] at HK0;have hs:=zH (HK0.out.takeR 0);clear b5 o5
 refine hK.out _ _ hs (fun hHeld=>?_)
 clear hK K
 try simp only[ap1,ap2,ap3,ap4,ap5]
 refine srd1 25 (some 28) rfl (fun K hK=>?_)
 refine step_mks5 itemLay itNest HK0 (by rfl) _ _ _ _ _ (by rfl) (by rfl) (by rfl) (by rfl) (by rfl) (by rfl) ?_;intro _ g6 HK' _;simp only[lcA,lnA] at HK';replace HK0:=HK';clear HK';have hs:=zH ((HK0.out.takeL 1).takeR 0)
 refine hK.out _ _ hs (fun hHeld=>?_)
 clear hK K
 try simp only[ap1,ap2,ap3,ap4,ap5]
 refine srd1 26 (some 29) rfl (fun K hK=>?_)
 go_simp
 go_at_call 156
 refine(HJ.out.five HK0 1 rfl (Sls.own (HK0.out.own 0 rfl) (HF.out _ (by show 4≤1000;decide))) (Sls.own (HK0.out.own 1 rfl) HF2.out) (Sls.own (HK0.out.own 2 rfl) HF3.out) (Sls.own (HK0.out.own 3 rfl) HF4.out) (Sls.own (HK0.out.own 4 rfl) HF5.out) HBg.out).mono ?_;rintro e w7 ⟨A9,n9,c9,rfl,o9,b9⟩;replace HK0:=zH (HK0.out.called b9 o9).frontR;clear o9 b9;have hs:=zH ((HK0.out.takeL 1).takeR 0)
 refine hK.out _ _ hs (fun hHeld=>?_)
 clear hK K
 try simp only[ap1,ap2,ap3,ap4,ap5]
 refine stk 27 2 rfl ?_
 refine wpAnyH_done (by kernel_rfl) ?_ _
 rotate_left
 go_simp
 go_at_call 164
 refine(HMm.out _).mono ?_;rintro e w5 ⟨A5,n5,c5,rfl,o5,b5⟩;replace HK0:=zH (HK0.out.called b5 o5);simp only[lnA,lcA] at HK0;have hs:=zH (HK0.out.takeR 0);clear b5 o5
 refine hK.out _ _ hs (fun hHeld=>?_)
 clear hK K
 try simp only[ap1,ap2,ap3,ap4,ap5]
 refine srd1 12 (some 15) rfl (fun K hK=>?_)
 refine step_mk4 itemLay (p1:=Snp.t1 x.v.name) (p2:=Snp.n1 x.v.kind) (p3:=Snp.n1 x.v.cap) (p4:=Snp.n1 x.v.round) HK0 (by decide) (by rfl) _ _ _ _ (by rfl) (by rfl) (by rfl) (by rfl) (by rfl) (by rfl) (by rfl) (by rfl) (by rfl) ?_;intro _ g5 HK' _;replace HK0:=zH HK'.out.frontR;clear HK';have hs:=zH (HK0.out.takeR 0)
 refine hK.out _ _ hs (fun hHeld=>?_)
 clear hK K
 try simp only[ap1,ap2,ap3,ap4,ap5]
 refine srd1 25 (some 28) rfl (fun K hK=>?_)
 refine step_mks5 itemLay itNest HK0 (by rfl) _ _ _ _ _ (by rfl) (by rfl) (by rfl) (by rfl) (by rfl) (by rfl) ?_;intro _ g6 HK' _;simp only[lcA,lnA] at HK';replace HK0:=HK';clear HK';have hs:=zH ((HK0.out.takeL 1).takeR 0)
 refine hK.out _ _ hs (fun hHeld=>?_)
 clear hK K
 try simp only[ap1,ap2,ap3,ap4,ap5]
 refine srd1 26 (some 29) rfl (fun K hK=>?_)
 go_simp
 go_at_call 156
 refine(HJ.out.five HK0 1 rfl (Sls.own (HK0.out.own 0 rfl) (HF.out _ (by show 4≤1000;decide))) (Sls.own (HK0.out.own 1 rfl) HF2.out) (Sls.own (HK0.out.own 2 rfl) HF3.out) (Sls.own (HK0.out.own 3 rfl) HF4.out) (Sls.own (HK0.out.own 4 rfl) HF5.out) HBg.out).mono ?_;rintro e w7 ⟨A9,n9,c9,rfl,o9,b9⟩;replace HK0:=zH (HK0.out.called b9 o9).frontR;clear o9 b9;have hs:=zH ((HK0.out.takeL 1).takeR 0)
 refine hK.out _ _ hs (fun hHeld=>?_)
 clear hK K
 try simp only[ap1,ap2,ap3,ap4,ap5]
 refine stk 27 2 rfl ?_
 refine wpAnyH_done (by kernel_rfl) ?_ _
 rotate_left
 all_goals
  go_wp2_with fail
  go_ret
  exact⟨_,_,_,rfl,HK0.out.own 0 rfl,HK0.out.b⟩
end
section
open Go.RowKit
def Snp.ss(z:Snp.Its)(t:Ses.T):Nat→Snp.Its
 | 0=>z
 | k+1=>Snp.ss z t k++Snp.seI (t.get k)
theorem Snp.ss_all(z:Snp.Its)(t:Ses.T):Snp.ss z t 5=z++Snp.tbI t:=by
 show((((z++Snp.seI (t.get (0:Nat)))++Snp.seI (t.get (1:Nat)))++Snp.seI (t.get (2:Nat)))++Snp.seI (t.get (3:Nat)))++Snp.seI (t.get (4:Nat))=_
 unfold Snp.tbI
 simp only[List.append_assoc]
 rfl
theorem Snp.seI_len(s:Ses.S):(Snp.seI s).length≤7:=by
 have:=nit_len s.p.v
 unfold Snp.seI
 rw[List.length_append]
 show 5+_≤_
 omega
theorem Snp.obs_len{w:World}{A:Option Addr}{k c:Nat}{lo:List Oh}(hs:Obs w A k c lo)(hk:k≤8)(hsh:∀x∈lo,Short x):(Snp.many (fun x:Oh=>Snp.obI x.v) lo).length≤561:=by
 have h1:=Snp.many_le (fun x:Oh=>Snp.obI x.v) 70 (l:=lo) fun x hx=>Snp.obI_len (hs.i x hx) (hsh x hx)
 have:=hs.len
 omega
theorem Snp.many_vs(lo:List Oh):Snp.many (fun x:Oh=>Snp.obI x.v) lo=Snp.many Snp.obI (vs lo):=by
 unfold Snp.many vs
 rw[List.length_map,List.flatMap_map]
theorem nitems_any(n:Int)(A:Option Addr)(k c:Nat)(t:Ses.T)(lo:List Oh)(w:World)(hs:Obs w A k c lo)(hf:Ses.Fit t)(hk:k≤8)(hsh:∀x∈lo,Short x):
  Calls Tryz.prog 46 #[.agg (stA n A k c t)] w (IsLg itemLay (Snp.stI ⟨n,vs lo,t⟩) w):=by
 have HMo:Hid (∀W,Below w.heap.size w W→Calls Tryz.prog 93 #[.slice A k c,.func (.func 94) #[] #[]] W (IsLg itemLay (Snp.many Snp.obI (vs lo)) W)):=zH fun W hW=>by
  rw[← Snp.many_vs]
  exact many_ob_any (fun x:Oh=>Snp.obI x.v) _ _ _ _ W (hs.s.later hW) hk (fun x hx V hV=>nob_any x V ((hs.i x hx).later (hW.trans (hV.mono hW.size))) (hsh x hx)) fun x hx=>Snp.obI_len (hs.i x hx) (hsh x hx)
 have hlo:=Snp.obs_len hs hk hsh
 rw[Snp.many_vs] at hlo
 have HSe:Hid (∀(i:Nat) (W:World),i<5→Calls Tryz.prog 95 #[.agg (seA (t.get i))] W (IsLg itemLay (Snp.seI (t.get i)) W)):=zH fun i W hi=>nse_any (t.get i) W (hf i ⟨by omega,by omega⟩)
 have HAll:Hid (Snp.stI ⟨n,vs lo,t⟩=Snp.ss (Snp.n1 n::Snp.many Snp.obI (vs lo)) t 5):=zH (by rw[Snp.ss_all];rfl)
 have HZ:Hid (Snp.ss ([Snp.n1 n]++Snp.many Snp.obI (vs lo)) t 0=[Snp.n1 n]++Snp.many Snp.obI (vs lo)):=zH rfl
 have HMore:Hid (∀k,Snp.ss ([Snp.n1 n]++Snp.many Snp.obI (vs lo)) t (k+1)=Snp.ss ([Snp.n1 n]++Snp.many Snp.obI (vs lo)) t k++Snp.seI (t.get k)):=zH fun k=>rfl
 have HNm:=zH nnum_any
 have HN1:Hid (([Snp.n1 n]++Snp.many Snp.obI (vs lo)).length=1+(Snp.many Snp.obI (vs lo)).length):=zH (by rw[List.length_append];rfl)
 have HL1:=grow_ok (La:=itemLay) HN1 (by show(1+(Snp.many Snp.obI (vs lo)).length)*32≤_;omega) (by omega)
 have HM0:Hid (1+(Snp.many Snp.obI (vs lo)).length≤562+0*7):=zH (by omega)
 have HK:=kn1 w 33 (stA n A k c t)
 unfold IsI at HNm
 unfold IsLg at HMo HSe ⊢
 rw[HAll.out]
 clear HAll hlo hs hf hsh
 change Calls _ _ _ _ (fun e w'=>∃A n_1 c,e=.returned (.slice A n_1 c)∧itemLay.Own w.heap.size w' (.slice A n_1 c) (Snp.ss ([Snp.n1 n]++Snp.many Snp.obI (vs lo)) t 5)∧Below w.heap.size w w')
 generalize Snp.many Snp.obI (vs lo)=lb at *
 generalize Snp.ss ([Snp.n1 n]++lb) t=M at *
 go_enter Tryz.func46,Tryz.ntmps46
 go_wp2_with fail
 have HK0:=zH HK.out.drew
 refine wp_region_held_drew (S:=(fun W=>Hid (Kn w.heap.size w W [(w.heap.size,33,stA n A k c t)] []))) (by kernel_rfl) ?_ (fun hHeld=>?_)
 ·(try dsimp only);exact zH HK.out.drew
 refine stk 0 6 rfl ?_
 refine stk 1 7 rfl ?_ (fun w hSw=>kst_n hSw 0 _ (by rfl) (by rfl) (by rfl))
 refine stk 4 10 rfl ?_
 refine stk 5 11 rfl ?_ (fun w hSw=>kst_o hSw 0 _ (by rfl) (by rfl) (by rfl))
 refine srd1 2 (some 8) rfl (fun K hK=>?_)
 go_simp
 go_at_call 92
 refine(HNm.out _ _).mono ?_;rintro e w5 ⟨rfl,b5⟩;replace HK0:=zH (HK0.out.call b5);have hs:=zH (HK0.out.takeR 0);clear b5
 refine hK.out _ _ hs (fun hHeld=>?_)
 clear hK K
 try simp only[ap1,ap2,ap3,ap4,ap5]
 refine srd2 3 (some 9) 6 (some 12) rfl rfl (fun K hK=>?_) (fun K hK=>?_)
 refine step_mk1 itemLay (p:=Snp.n1 n) HK0 (by decide) (by rfl) _ (by rfl) (by rfl) (by rfl) ?_;intro _ g5 HK' _;replace HK0:=zH HK'.out.frontR;clear HK';have hs:=zH (HK0.out.takeR 0)
 refine hK.out _ _ hs (fun hHeld=>?_)
 clear hK K
 try simp only[ap1,ap2,ap3,ap4,ap5]
 refine srd1 6 (some 12) rfl (fun K hK=>?_)
 go_simp
 go_at_call 93
 refine(HMo.out _ HK0.out.b).mono ?_;rintro e w5 ⟨A5,n5,c5,rfl,o5,b5⟩;replace HK0:=zH (HK0.out.called b5 o5);have HI5:=zH (Lay.Own.reads o5).1;simp only[lnA,lcA] at HK0;have hs:=zH (HK0.out.takeR 0);clear b5 o5
 refine hK.out _ _ hs (fun hHeld=>?_)
 clear hK K
 try simp only[ap1,ap2,ap3,ap4,ap5]
 refine srd1 7 (some 13) rfl (fun K hK=>?_)
 have HR2:=zH (Kn.own HK0.out 1 rfl).rd;refine step_more2 itemLay HK0 0 (by rfl) _ _ (by rfl) (by rfl) (by rfl) lb (by rfl) HI5.out HR2 HL1 (N:=1+lb.length) HN1 ?_;intro A9 c9 _ HK';simp only[List.set] at HK';replace HK0:=HK';clear HK' HR2;have hs:=zH (HK0.out.takeR 0)
 refine hK.out _ _ hs (fun hHeld=>?_)
 clear hK K
 try simp only[ap1,ap2,ap3,ap4,ap5]
 refine stk 8 3 rfl ?_
 refine wpAnyH_done (by kernel_rfl) ?_ _
 rotate_left
 go_simp
 go_at_call 93
 refine(HMo.out _ HK0.out.b).mono ?_;rintro e w5 ⟨A5,n5,c5,rfl,o5,b5⟩;replace HK0:=zH (HK0.out.called b5 o5);have HI5:=zH (Lay.Own.reads o5).1;simp only[lnA,lcA] at HK0;have hs:=zH (HK0.out.takeR 0);clear b5 o5
 refine hK.out _ _ hs (fun hHeld=>?_)
 clear hK K
 try simp only[ap1,ap2,ap3,ap4,ap5]
 refine srd1 3 (some 9) rfl (fun K hK=>?_)
 refine step_mk1 itemLay (p:=Snp.n1 n) HK0 (by decide) (by rfl) _ (by rfl) (by rfl) (by rfl) ?_;intro _ g5 HK' _;replace HK0:=zH HK'.out.frontR;clear HK';have hs:=zH (HK0.out.takeR 0)
 refine hK.out _ _ hs (fun hHeld=>?_)
 clear hK K
 try simp only[ap1,ap2,ap3,ap4,ap5]
 refine srd1 7 (some 13) rfl (fun K hK=>?_)
 have HR2:=zH (Kn.own HK0.out 1 rfl).rd;refine step_more2 itemLay HK0 0 (by rfl) _ _ (by rfl) (by rfl) (by rfl) lb (by rfl) HI5.out HR2 HL1 (N:=1+lb.length) HN1 ?_;intro A9 c9 _ HK';simp only[List.set] at HK';replace HK0:=HK';clear HK' HR2;have hs:=zH (HK0.out.takeR 0)
 refine hK.out _ _ hs (fun hHeld=>?_)
 clear hK K
 try simp only[ap1,ap2,ap3,ap4,ap5]
 refine stk 8 3 rfl ?_
 refine wpAnyH_done (by kernel_rfl) ?_ _
 rotate_left
 all_goals
  rw[← HZ.out] at HK0
  have HN0:Hid ((M 0).length=1+lb.length):=zH (by rw[HZ.out];exact HN1.out)
  replace HK0:=zH (HK0.out.takeR 1)
  simp only[List.take] at HK0
  clear hHeld HK HZ HN1 HL1 HMo
  go_wp2_with (first|refine zX (kst_t HK0 0 _ (by rfl) (by rfl) (by rfl)) ?_)
  go_loopw [3,16] (fun vl vi wr=>∃(i:Nat) (A1:Option Addr) (N1 c1:Nat),i≤5∧vl=.slice A1 N1 c1∧vi=.int .i64 i∧Hid (N1≤562+i*7)∧Hid ((M i).length=N1)∧Hid (Kn w.heap.size w wr [(w.heap.size,33,stA n A k c t)] [row itemLay (.slice A1 N1 c1) (M i)])) (fun _ vi _=>5-(intOf vi).toNat)
  case atStart=>exact⟨0,_,_,_,Nat.zero_le _,rfl,rfl,HM0,HN0,HK0⟩
  case round=>
   clear HK0 HM0 HN0
   obtain⟨i,A1,N1,c1,hi,rfl,rfl,HB1,HM,HK⟩:=hrel
   by_cases hlt:i<5
   ·have HSi:=zH (fun W=>HSe.out i W hlt)
    have hsl:=Snp.seI_len (t.get i)
    have HN2:Hid ((M i++Snp.seI (t.get i)).length=N1+(Snp.seI (t.get i)).length):=zH (by rw[List.length_append,HM.out])
    have hB1:=HB1.out
    have HL2:=grow_ok (La:=itemLay) HN2 (by show(N1+(Snp.seI (t.get i)).length)*32≤_;omega) (by omega)
    have HB2:Hid (N1+(Snp.seI (t.get i)).length≤562+(i+1)*7):=zH (by omega)
    clear hsl hB1
    have hk1:(0:Int)≤(i:Int):=by omega
    have hk2:(i:Int)<5:=by omega
    go_wp2_with (first|refine zX (exec_ixs (c:=(i:Int)) (t:=t) ⟨hk1,hk2⟩ _ _ (by rfl) (by rfl) (by rfl)) ?_|(refine wpList_ase HK rfl rfl ?_;intro _ g5 HK';simp only[lcA,lnA] at HK';replace HK:=HK';clear HK')|(refine wpList_sse (u:=t.get i) HK 1 rfl _ _ rfl rfl rfl rfl ?_;intro _ HK';simp only[List.set] at HK';replace HK:=HK';clear HK')|refine zX (kse HK 1 _ (by rfl) (by rfl) (by rfl)) ?_)
    refine(HSi.out _).mono ?_;rintro e w2 ⟨A5,n5,c5,rfl,o5,b5⟩
    have HI5:=zH (Lay.Own.reads o5).1
    replace HK:=zH (HK.out.called b5 o5)
    simp only[lcA,lnA] at HK
    clear o5 b5
    have HR:=zH (HK.out.own 1 rfl).rd
    go_wp2_with (first|(at_builtin;refine wpList_kmore HK itemLay 0 rfl _ _ rfl rfl rfl (Snp.seI (t.get i)) rfl HI5.out HR HL2 (N:=N1+(Snp.seI (t.get i)).length) HN2 ?_;intro A7 c7 _ HK';simp only[List.set] at HK';replace HK:=HK';clear HK'))
    refine⟨⟨i+1,A7,_,c7,by omega,rfl,by go_num,HB2,zH (by rw[HMore.out];exact HN2.out),zH ?_⟩,by simp[intOf];omega⟩
    rw[HMore.out]
    exact(HK.out.takeL 1).takeR 1
   ·obtain rfl:i=5:=by omega
    go_wp2_with fail
    go_ret
    exact⟨_,_,_,rfl,HK.out.own 0 rfl,HK.out.b⟩
end
section
open Go.RowKit
section
variable {P:Program}{α:Type}(La:Lay P α){b0:Nat}{w0 w:World}{L:List (Nat×TypeId×Array Value)}{R:List RowE}{ops:Array Oper}{rest:List Oper}{o:Oper}{a:Act}{Q:Exit→Act→World→Prop}{K:Act→World→Prop}{E:Prop}
theorem wpList_mk2{p1 p2:α}(HK:Hid (Kn b0 w0 w L R))(hk:2*La.k≤65536)(hgd:o.guard=none)(x y:Operand)(ho:o.op=.buildSlice La.t 2 #[(0,x),(1,y)]){v1 v2:Value}(h1:a.eval x=v1)(h2:a.eval y=v2)(c1:v1.cells.toList=La.f p1)(c2:v2.cells.toList=La.f p2)
  (h:∀w' g,Hid (Kn b0 w0 w' L (R++[row La (.slice (some ⟨g,0,none⟩) 2 2) [p1,p2]]))→wpList P ops Q rest (a.put o.dst (.slice (some ⟨g,0,none⟩) 2 2)) w'):wpList P ops Q (o::rest) a w:=
 wpList_plain hgd fun _ hK=>kwp_mk La HK [p1,p2] 2 _ ho [v1,v2] (by simp[h1,h2]) (by simp[c1,c2]) rfl hk fun w' g h1 _=>hK _ _ (h w' g h1)
theorem wpList_mk4{p1 p2 p3 p4:α}(HK:Hid (Kn b0 w0 w L R))(hk:4*La.k≤65536)(hgd:o.guard=none)(x y z u:Operand)(ho:o.op=.buildSlice La.t 4 #[(0,x),(1,y),(2,z),(3,u)]){v1 v2 v3 v4:Value}(h1:a.eval x=v1)(h2:a.eval y=v2)(h3:a.eval z=v3)(h4:a.eval u=v4)(c1:v1.cells.toList=La.f p1)(c2:v2.cells.toList=La.f p2)(c3:v3.cells.toList=La.f p3)(c4:v4.cells.toList=La.f p4)
  (h:∀w' g,Hid (Kn b0 w0 w' L (R++[row La (.slice (some ⟨g,0,none⟩) 4 4) [p1,p2,p3,p4]]))→wpList P ops Q rest (a.put o.dst (.slice (some ⟨g,0,none⟩) 4 4)) w'):wpList P ops Q (o::rest) a w:=
 wpList_plain hgd fun _ hK=>kwp_mk La HK [p1,p2,p3,p4] 4 _ ho [v1,v2,v3,v4] (by simp[h1,h2,h3,h4]) (by simp[c1,c2,c3,c4]) rfl hk fun w' g h1 _=>hK _ _ (h w' g h1)
theorem wpList_mk5{p1 p2 p3 p4 p5:α}(HK:Hid (Kn b0 w0 w L R))(hk:5*La.k≤65536)(hgd:o.guard=none)(x y z u t:Operand)(ho:o.op=.buildSlice La.t 5 #[(0,x),(1,y),(2,z),(3,u),(4,t)]){v1 v2 v3 v4 v5:Value}(h1:a.eval x=v1)(h2:a.eval y=v2)(h3:a.eval z=v3)(h4:a.eval u=v4)(h5:a.eval t=v5)(c1:v1.cells.toList=La.f p1)(c2:v2.cells.toList=La.f p2)(c3:v3.cells.toList=La.f p3)(c4:v4.cells.toList=La.f p4)(c5:v5.cells.toList=La.f p5)
  (h:∀w' g,Hid (Kn b0 w0 w' L (R++[row La (.slice (some ⟨g,0,none⟩) 5 5) [p1,p2,p3,p4,p5]]))→wpList P ops Q rest (a.put o.dst (.slice (some ⟨g,0,none⟩) 5 5)) w'):wpList P ops Q (o::rest) a w:=
 wpList_plain hgd fun _ hK=>kwp_mk La HK [p1,p2,p3,p4,p5] 5 _ ho [v1,v2,v3,v4,v5] (by simp[h1,h2,h3,h4,h5]) (by simp[c1,c2,c3,c4,c5]) rfl hk fun w' g h1 _=>hK _ _ (h w' g h1)
end
section
variable {w:World}{o:Oper}{a:Act}
theorem exec_lrr{b off:Nat}{x:Rf}(p:Operand)(ho:o.op=.load 3 p)(hx:a.eval p=.pointer (some ⟨b,off+2,none⟩))(hc:∀j v,(rfL x)[j]?=some v→w.cell? ⟨b,off+j,none⟩=some v):
  (execOp a.eval o).run Tryz.prog w=.ok (.value (.int .i64 x.r)) w:=exec_cell p ho hx (hc 2 _ rfl) Tryz.underlying3 rfl
end
def IsInt2(n:Int)(w:World)(e:Ending)(w':World):Prop:=e=.returned (.int .i64 n)∧w'=w
theorem rnbit_any(b:Bool)(w:World):Calls Tryz.prog 98 #[.bool b] w (IsInt2 (if b=true then 1 else 0) w):=by
 cases b
 all_goals
  go_enter Tryz.func98,Tryz.ntmps98
  go_wp2_with fail
  go_ret
  exact⟨rfl,rfl⟩
theorem rnvit_any(v:Val.V)(w:World)(hf:v.f<18446744073709551616):Calls Tryz.prog 96 #[vv v] w (IsLg itemLay (Val.items v) w):=(rvitems_any v w hf).mono fun e w' h=>isIt_lg h
theorem rnrefs_any(A:Option Addr)(n c:Nat)(l:List Rf)(w:World)(hs:Sls rfLay rF w A n c l)(hn:n≤8):Calls Tryz.prog 97 #[.slice A n c] w (IsLg itemLay (Snp.many Snp.rfI l) w):=by
 have HS:=zH hs
 have HLen:=zH hs.len
 have HAll:=zH (Snp.mk_all n Snp.rfI hs.len)
 have HMore:=zH (fun(k:Nat) (x:Rf) (h:l[k]?=some x)=>Snp.mk_more n Snp.rfI h)
 have HZ:Hid (Snp.mk n Snp.rfI l 0=[Snp.n1 n]):=zH rfl
 have HK:=zH (Kn.start w)
 unfold IsLg
 rw[← HAll.out]
 clear hs HAll
 generalize Snp.mk n Snp.rfI l=M at *
 go_enter Tryz.func97,Tryz.ntmps97
 go_wp2_with (first|(refine wpList_mk1 itemLay (p:=Snp.n1 n) HK (by decide) rfl _ rfl rfl rfl ?_;intro _ g2 HK';simp only[lnA] at HK';replace HK:=HK';clear HK'))
 go_loopw [3,4] (fun vl vi wr=>∃(k:Nat) (A1:Option Addr) (N1 c1:Nat),k≤n∧vl=.slice A1 N1 c1∧vi=.int .i64 k∧Hid (N1=1+k*3)∧Hid ((M k).length=N1)∧Hid (Kn w.heap.size w wr [] [row itemLay (.slice A1 N1 c1) (M k)])) (fun _ vi _=>n-(intOf vi).toNat)
 case atStart=>exact⟨0,_,1,1,Nat.zero_le _,rfl,rfl,zH (by omega),zH (by rw[HZ.out];rfl),by rw[HZ.out];exact HK⟩
 case round=>
  clear HK
  obtain⟨k,A1,N1,c1,hk,rfl,rfl,HB1,HM,HK⟩:=hrel
  by_cases hlt:k<n
  ·obtain⟨x,hx⟩:=Lay.get_of (l:=l) (k:=k) (by rw[HLen.out];exact hlt)
   obtain⟨b,o,rfl,hat⟩:=HS.out.at (Nat.lt_of_le_of_lt (Nat.zero_le _) hlt)
   have HX:Hid (∀W,Below w.heap.size w W→∀j v,(rfL x)[j]?=some v→W.cell? ⟨b,o+k*3+j,none⟩=some v):=zH fun W hW=>hat W hW k x hx
   have HM1:=zH (HMore.out k x hx)
   have HN2:Hid ((M k++[Snp.n1 x.c,Snp.n1 x.e,Snp.n1 x.r]).length=N1+3):=zH (by rw[List.length_append,HM.out];rfl)
   have hB1:=HB1.out
   have HL2:=grow_ok (La:=itemLay) HN2 (by show(N1+3)*32≤_;omega) (by omega)
   have HB2:Hid (N1+3=1+(k+1)*3):=zH (by omega)
   clear hat hx hB1
   have hk1:(0:Int)≤(k:Int):=by omega
   have hk2:(k:Int)<(n:Int):=by omega
   have hk3:IntKind.i64.wrap ((k:Int)+1)=((k+1:Nat):Int):=by rw[IntKind.wrap_i64];omega
   have HK0:=zH HK.out.drew
   go_wp2_with fail
   refine wp_region_held_drew (S:=(fun W=>Hid (Kn w.heap.size w W [] []))) (by kernel_rfl) ?_ (fun hHeld=>?_)
   ·(try dsimp only);exact zH (HK.out.drew.takeR 0)
   refine stk 0 15 rfl ?_
   refine stk 1 16 rfl ?_
   refine stk 2 17 rfl ?_
   refine stk 3 18 rfl ?_ (fun w hSw=>exec_slx rfLay (off:=o) (i:=k) _ _ (by rfl) (by rfl) (by rfl) hlt)
   refine stk 4 19 rfl ?_
   refine stk 5 20 rfl ?_ (fun w hSw=>exec_lrc (x:=x) (off:=o+k*3) _ (by rfl) (by rfl) (HX.out _ hSw.out.b))
   refine stk 6 21 rfl ?_
   refine stk 7 22 rfl ?_
   refine stk 8 23 rfl ?_
   refine stk 9 24 rfl ?_ (fun w hSw=>exec_slx rfLay (off:=o) (i:=k) _ _ (by rfl) (by rfl) (by rfl) hlt)
   refine stk 10 25 rfl ?_
   refine stk 11 26 rfl ?_ (fun w hSw=>exec_lre (x:=x) (off:=o+k*3) _ (by rfl) (by rfl) (HX.out _ hSw.out.b))
   refine stk 12 27 rfl ?_
   refine stk 13 28 rfl ?_
   refine stk 14 29 rfl ?_
   refine stk 15 30 rfl ?_ (fun w hSw=>exec_slx rfLay (off:=o) (i:=k) _ _ (by rfl) (by rfl) (by rfl) hlt)
   refine stk 16 31 rfl ?_
   refine stk 17 32 rfl ?_ (fun w hSw=>exec_lrr (x:=x) (off:=o+k*3) _ (by rfl) (by rfl) (HX.out _ hSw.out.b))
   refine stk 18 33 rfl ?_
   refine srd1 19 (some 34) rfl (fun K hK=>?_)
   refine step_mk3 itemLay (p1:=Snp.n1 x.c) (p2:=Snp.n1 x.e) (p3:=Snp.n1 x.r) HK0 (by decide) (by rfl) _ _ _ (by rfl) (by rfl) (by rfl) (by rfl) (by rfl) (by rfl) (by rfl) ?_;intro _ g5 HK' _;simp only[lnA,lcA] at HK';replace HK0:=HK';clear HK';have hs:=zH (HK0.out.takeR 0)
   refine hK.out _ _ hs (fun hHeld=>?_)
   clear hK K
   try simp only[ap1,ap2,ap3,ap4,ap5]
   refine srd1 20 (some 35) rfl (fun K hK=>?_)
   have HR2:=zH (Kn.own HK0.out 1 rfl).rd;refine step_more2 itemLay HK0 0 (by rfl) _ _ (by rfl) (by rfl) (by rfl) [Snp.n1 x.c,Snp.n1 x.e,Snp.n1 x.r] (by rfl) (by rfl) HR2 HL2 (N:=N1+3) HN2 ?_;intro A9 c9 _ HK';simp only[List.set] at HK';replace HK0:=HK';clear HK' HR2;have hs:=zH (HK0.out.takeR 0)
   refine hK.out _ _ hs (fun hHeld=>?_)
   clear hK K
   try simp only[ap1,ap2,ap3,ap4,ap5]
   refine stk 21 3 rfl ?_
   refine wpAnyH_done (by kernel_rfl) ?_ _
   all_goals
    go_wp2_with (first|refine zX (exec_add1 (j:=k) _ (by rfl) (by rfl) hk3) ?_)
    refine⟨⟨k+1,A9,_,c9,by omega,rfl,rfl,HB2,zH (by rw[HM1.out];exact HN2.out),zH ?_⟩,by simp[intOf];omega⟩
    rw[HM1.out]
    exact HK0.out.takeR 1
  ·obtain rfl:k=n:=by omega
   go_wp2_with fail
   go_ret
   exact⟨_,_,_,rfl,HK.out.own 0 rfl,HK.out.b⟩
theorem rnse_any(x:Ses.S)(w:World)(hf:x.p.v.f<18446744073709551616):Calls Tryz.prog 48 #[.agg (seA x)] w (IsLg itemLay (Snp.seI x) w):=by
 have HIv:=zH (fun W=>rnvit_any x.p.v W hf)
 have hil:=nit_len x.p.v
 have hb1:=fun W=>rnbit_any x.live W
 have hb2:=fun W=>rnbit_any x.dn W
 have HK:=kn1 w 30 (seA x)
 unfold IsInt2 at hb1 hb2
 unfold IsLg vv at HIv
 unfold IsLg Snp.seI Snp.fl
 generalize (if x.live=true then (1:Int) else 0)=u1 at *
 generalize (if x.dn=true then (1:Int) else 0)=u2 at *
 have HB1:=zH hb1
 have HB2:=zH hb2
 clear hb1 hb2
 generalize Val.items x.p.v=lv at *
 have HN2:Hid (([Snp.n1 u1,Snp.n1 x.ep,Snp.n1 x.rq,Snp.n1 u2,Snp.n1 x.p.e]++lv).length=5+lv.length):=zH (by rw[List.length_append];rfl)
 have HL2:=grow_ok (La:=itemLay) HN2 (by show(5+lv.length)*32≤_;omega) (by omega)
 obtain⟨F,hF⟩:∃F,F=[Snp.n1 u1,Snp.n1 x.ep,Snp.n1 x.rq,Snp.n1 u2,Snp.n1 x.p.e]++lv:=⟨_,rfl⟩
 have HF:=zH hF
 rw[← hF]
 clear hil hf hF
 go_enter Tryz.func48,Tryz.ntmps48
 go_wp2_with fail
 have HK0:=zH HK.out.drew
 refine wp_region_held_drew (S:=(fun W=>Hid (Kn w.heap.size w W [(w.heap.size,30,seA x)] []))) (by kernel_rfl) ?_ (fun hHeld=>?_)
 ·(try dsimp only);exact zH HK.out.drew
 refine stk 0 4 rfl ?_
 refine stk 1 5 rfl ?_ (fun w hSw=>kse_l hSw 0 _ (by rfl) (by rfl) (by rfl))
 refine stk 4 8 rfl ?_
 refine stk 5 9 rfl ?_ (fun w hSw=>kse_e hSw 0 _ (by rfl) (by rfl) (by rfl))
 refine stk 6 10 rfl ?_
 refine stk 7 11 rfl ?_
 refine stk 8 12 rfl ?_ (fun w hSw=>kse_r hSw 0 _ (by rfl) (by rfl) (by rfl))
 refine stk 9 13 rfl ?_
 refine stk 10 14 rfl ?_
 refine stk 11 15 rfl ?_ (fun w hSw=>kse_d hSw 0 _ (by rfl) (by rfl) (by rfl))
 refine stk 14 18 rfl ?_
 refine stk 15 19 rfl ?_
 refine stk 16 20 rfl ?_ (fun w hSw=>kse_pe hSw 0 _ (by rfl) (by rfl) (by rfl))
 refine stk 17 21 rfl ?_
 refine srd1 2 (some 6) rfl (fun K hK=>?_)
 go_simp
 go_at_call 98
 refine(HB1.out _).mono ?_;rintro e w5 ⟨rfl,rfl⟩;have hs:=HK0
 refine hK.out _ _ hs (fun hHeld=>?_)
 clear hK K
 try simp only[ap1,ap2,ap3,ap4,ap5]
 refine stk 3 7 rfl ?_
 refine srd1 12 (some 16) rfl (fun K hK=>?_)
 go_simp
 go_at_call 98
 refine(HB2.out _).mono ?_;rintro e w5 ⟨rfl,rfl⟩;have hs:=HK0
 refine hK.out _ _ hs (fun hHeld=>?_)
 clear hK K
 try simp only[ap1,ap2,ap3,ap4,ap5]
 refine stk 13 17 rfl ?_
 refine srd1 18 (some 22) rfl (fun K hK=>?_)
 refine step_mk5 itemLay (p1:=Snp.n1 u1) (p2:=Snp.n1 x.ep) (p3:=Snp.n1 x.rq) (p4:=Snp.n1 u2) (p5:=Snp.n1 x.p.e) HK0 (by decide) (by rfl) _ _ _ _ _ (by rfl) (by rfl) (by rfl) (by rfl) (by rfl) (by rfl) (by rfl) (by rfl) (by rfl) (by rfl) (by rfl) ?_;intro _ g5 HK' _;simp only[lnA] at HK';replace HK0:=HK';clear HK';have hs:=zH (HK0.out.takeR 0)
 refine hK.out _ _ hs (fun hHeld=>?_)
 clear hK K
 try simp only[ap1,ap2,ap3,ap4,ap5]
 refine stk 19 3 rfl ?_
 refine wpAnyH_done (by kernel_rfl) ?_ _
 have HK:=HK0
 clear HK0 hHeld
 go_wp2_with (first|refine zX (kse_pv HK 0 _ (by rfl) (by rfl) (by rfl)) ?_)
 refine(HIv.out _).mono ?_;rintro e w5 ⟨A5,n5,c5,rfl,o5,b5⟩
 replace HK:=zH (HK.out.called b5 o5)
 have HI5:=zH (Lay.Own.reads o5).1
 simp only[lcA,lnA] at HK
 clear b5 o5
 have HR:=zH (HK.out.own 1 rfl).rd
 go_wp2_with (first|(at_builtin;refine wpList_kmore HK itemLay 0 rfl _ _ rfl rfl rfl lv rfl HI5.out HR HL2 (N:=5+lv.length) HN2 ?_;intro A7 c7 _ HK';simp only[List.set] at HK';replace HK:=HK';clear HK'))
 go_ret
 exact⟨_,_,_,rfl,by rw[HF.out];exact HK.out.own 0 rfl,HK.out.b⟩
end
section
open Go.RowKit
def Snp.mq{α:Type}(z:Snp.Its)(f:α→Snp.Its)(l:List α)(k:Nat):Snp.Its:=z++(l.take k).flatMap f
theorem Snp.mq_more{α:Type}(z:Snp.Its)(f:α→Snp.Its){l:List α}{k:Nat}{x:α}(h:l[k]?=some x):Snp.mq z f l (k+1)=Snp.mq z f l k++f x:=by
 unfold Snp.mq
 rw[Lay.take_succ h,List.flatMap_append]
 simp
theorem Snp.mq_zero{α:Type}(z:Snp.Its)(f:α→Snp.Its)(l:List α):Snp.mq z f l 0=z:=by
 unfold Snp.mq;simp
theorem Snp.mq_all{α:Type}(z:Snp.Its)(f:α→Snp.Its){l:List α}{n:Nat}(h:l.length=n):Snp.mq z f l n=z++l.flatMap f:=by
 unfold Snp.mq;rw[← h,List.take_length]
theorem rnob_any(x:Oh)(w:World)(hx:In w x)(hs:Short x):Calls Tryz.prog 47 #[.agg (obA x)] w (IsLg itemLay (Snp.obI x.v) w):=by
 have HP:=zH hx.p.sls
 have HV:=zH hx.v
 have HPl:=zH hx.p.sls.len
 have HVl:=zH hx.v.len
 have HIv:=zH rnvit_any
 have HRf:Hid (∀W,Below w.heap.size w W→Calls Tryz.prog 97 #[.slice x.rA x.rn x.rc] W (IsLg itemLay (Snp.many Snp.rfI x.v.refs) W)):=zH fun W hW=>rnrefs_any _ _ _ _ W (hx.r.later hW) (Nat.le_trans hs.2.2 (by decide))
 have h3:=Snp.many_le Snp.rfI 3 (l:=x.v.refs) fun r _=>Nat.le_refl _
 have e3:=hx.r.len
 have hs1:=wrap_sg hx.m.2.1
 have hs2:=wrap_sg hx.m.2.2.1
 have hs3:=wrap_sg hx.m.2.2.2
 have s1:=hs.1
 have s2:=hs.2.1
 have s3:=hs.2.2
 have h4:(Snp.many Snp.rfI x.v.refs).length≤16:=by omega
 obtain⟨Z1,hZ1⟩:∃Z:Snp.Its,Z=[Snp.t1 x.v.name,Snp.n1 x.v.kind,Snp.n1 x.v.cap,Snp.n1 x.v.round,Snp.n1 x.pn]:=⟨_,rfl⟩
 obtain⟨M1,hM1⟩:∃M:Nat→Snp.Its,M=Snp.mq Z1 Snp.prI x.v.prs:=⟨_,rfl⟩
 obtain⟨M2,hM2⟩:∃M:Nat→Snp.Its,M=Snp.mq (M1 x.pn++[Snp.n1 x.vn]) Val.items x.v.vals:=⟨_,rfl⟩
 have HZ1:=zH hZ1
 have HM10:Hid (M1 0=Z1):=zH (by rw[hM1,Snp.mq_zero])
 have HM20:Hid (M2 0=M1 x.pn++[Snp.n1 x.vn]):=zH (by rw[hM2,Snp.mq_zero])
 have HMo1:Hid (∀(k:Nat) p,x.v.prs[k]?=some p→M1 (k+1)=(M1 k++[Snp.t1 p.key])++Val.items p.val):=zH fun k p h=>by
  rw[hM1,Snp.mq_more _ _ h,List.append_assoc];rfl
 have HMo2:Hid (∀(k:Nat) v,x.v.vals[k]?=some v→M2 (k+1)=M2 k++Val.items v):=zH fun k v h=>by
  rw[hM2,Snp.mq_more _ _ h]
 have HAll:Hid ((M2 x.vn++Snp.many Snp.rfI x.v.refs)++[Snp.n1 x.v.mt.n,Snp.n1 (Val.sg x.v.mt.s),Snp.n1 (Val.sg x.v.mt.l),Snp.n1 (Val.sg x.v.mt.m)]=Snp.obI x.v):=zH (by
  rw[hM2,Snp.mq_all _ _ hx.v.len,hM1,Snp.mq_all _ _ hx.p.sls.len,hZ1]
  unfold Snp.obI Snp.many Snp.mtI
  rw[hx.p.sls.len,hx.v.len]
  simp only[List.append_assoc,lcA,lnA])
 have HK:=kn1 w 63 (obA x)
 unfold vv at HIv
 unfold IsLg at HRf HIv ⊢
 rw[← HAll.out]
 clear hM1 hM2 hZ1 h3 e3 hx hs
 generalize Snp.many Snp.rfI x.v.refs=lr at *
 generalize Val.sg x.v.mt.s=z1 at *
 generalize Val.sg x.v.mt.l=z2 at *
 generalize Val.sg x.v.mt.m=z3 at *
 obtain⟨Fin,hFin⟩:∃F,F=(M2 x.vn++lr)++[Snp.n1 x.v.mt.n,Snp.n1 z1,Snp.n1 z2,Snp.n1 z3]:=⟨_,rfl⟩
 rw[← hFin]
 have HFin:=zH hFin
 have HLr:=zH h4
 have HS3:Hid (IntKind.i64.wrap (x.v.mt.s:Int)=z1∧IntKind.i64.wrap (x.v.mt.l:Int)=z2∧IntKind.i64.wrap (x.v.mt.m:Int)=z3):=zH ⟨hs1,hs2,hs3⟩
 clear HAll hFin h4 hs1 hs2 hs3
 go_enter Tryz.func47,Tryz.ntmps47
 go_wp2_with (first|refine zX (kob_n HK 0 _ (by rfl) (by rfl) (by rfl)) ?_|refine zX (kob_k HK 0 _ (by rfl) (by rfl) (by rfl)) ?_|refine zX (kob_c HK 0 _ (by rfl) (by rfl) (by rfl)) ?_|refine zX (kob_d HK 0 _ (by rfl) (by rfl) (by rfl)) ?_|refine zX (kob_p HK 0 _ (by rfl) (by rfl) (by rfl)) ?_|(refine wpList_mk5 itemLay (p1:=Snp.t1 x.v.name) (p2:=Snp.n1 x.v.kind) (p3:=Snp.n1 x.v.cap) (p4:=Snp.n1 x.v.round) (p5:=Snp.n1 x.pn) HK (by decide) rfl _ _ _ _ _ rfl rfl rfl rfl rfl rfl rfl rfl rfl rfl rfl ?_;intro _ g2 HK';simp only[lnA] at HK';rw[← HZ1.out,← HM10.out] at HK';replace HK:=HK';clear HK'))
 go_loopw [3,4] (fun vl vi wr=>∃(k:Nat) (A1:Option Addr) (N1 c1:Nat),k≤x.pn∧vl=.slice A1 N1 c1∧vi=.int .i64 k∧Hid (N1≤5+k*3)∧Hid ((M1 k).length=N1)∧Hid (Kn w.heap.size w wr [(w.heap.size,63,obA x)] [row itemLay (.slice A1 N1 c1) (M1 k)])) (fun _ vi _=>x.pn-(intOf vi).toNat)
 case atStart=>exact⟨0,_,5,5,Nat.zero_le _,rfl,rfl,zH (by omega),zH (by rw[HM10.out,HZ1.out];rfl),HK⟩
 case round=>
  clear HK
  obtain⟨k,A1,N1,c1,hk,rfl,rfl,HB1,HM,HK⟩:=hrel
  by_cases hlt:k<x.pn
  ·obtain⟨y,hy⟩:=Lay.get_of (l:=x.v.prs) (k:=k) (by rw[HPl.out];exact hlt)
   have hyf:y.val.f<18446744073709551616:=HP.out.fit.fs y (List.mem_of_getElem? hy)
   obtain⟨b,o,hA,hat⟩:=HP.out.at (Nat.lt_of_le_of_lt (Nat.zero_le _) hlt)
   have HX:Hid (∀W,Below w.heap.size w W→∀j v,(prL y)[j]?=some v→W.cell? ⟨b,o+k*5+j,none⟩=some v):=zH fun W hW=>hat W hW k y hy
   have HIy:=zH (fun W=>HIv.out y.val W hyf)
   have hil:=(nit_len y.val).2
   have HM1:=zH (HMo1.out k y hy)
   have HN2:Hid ((M1 k++[Snp.t1 y.key]).length=N1+1):=zH (by rw[List.length_append,HM.out];rfl)
   generalize Val.items y.val=ly at *
   have HN3:Hid (((M1 k++[Snp.t1 y.key])++ly).length=N1+1+ly.length):=zH (by rw[List.length_append,HN2.out])
   have hB1:=HB1.out
   have HL2:=grow_ok (La:=itemLay) HN2 (by show(N1+1)*32≤_;omega) (by omega)
   have HL3:=grow_ok (La:=itemLay) HN3 (by show(N1+1+ly.length)*32≤_;omega) (by omega)
   have HB2:Hid (N1+1+ly.length≤5+(k+1)*3):=zH (by omega)
   have HA:=zH hA
   clear hat hy hyf hil hB1 hA
   have hk1:(0:Int)≤(k:Int):=by omega
   have hk2:(k:Int)<(x.pn:Int):=by omega
   have hk3:IntKind.i64.wrap ((k:Int)+1)=((k+1:Nat):Int):=by rw[IntKind.wrap_i64];omega
   go_wp2_with (first|refine zX (kob_p HK 0 _ (by rfl) (by rfl) (by rfl)) ?_|refine zX (exec_slx prLay (b:=b) (off:=o) (i:=k) _ _ (by rfl) (by rw[← HA.out];rfl) (by rfl) hlt) ?_|refine zX (exec_lpk (x:=y) (off:=o+k*5) _ (by rfl) (by rfl) (HX.out _ HK.out.b)) ?_|refine zX (exec_lpv (x:=y) (off:=o+k*5) _ (by rfl) (by rfl) (by rfl) (HX.out _ HK.out.b)) ?_|(refine wpList_mk1 itemLay (p:=Snp.t1 y.key) HK (by decide) rfl _ rfl rfl rfl ?_;intro _ g2 HK';simp only[lnA,lcA] at HK';have HR:=zH (HK'.out.own 1 rfl).rd;replace HK:=HK';clear HK')|(at_builtin;refine wpList_kmore HK itemLay 0 rfl _ _ rfl rfl rfl [Snp.t1 y.key] rfl rfl HR HL2 (N:=N1+1) HN2 ?_;intro A7 c7 _ HK';simp only[List.set] at HK';replace HK:=zH (HK'.out.takeR 1);simp only[List.take] at HK;clear HK' HR))
   refine(HIy.out _).mono ?_;rintro e w5 ⟨A5,n5,c5,rfl,o5,b5⟩
   replace HK:=zH (HK.out.called b5 o5)
   have HI5:=zH (Lay.Own.reads o5).1
   simp only[lcA,lnA] at HK
   clear b5 o5
   have HR:=zH (HK.out.own 1 rfl).rd
   go_wp2_with (first|(at_builtin;refine wpList_kmore HK itemLay 0 rfl _ _ rfl rfl rfl ly rfl HI5.out HR HL3 (N:=N1+1+ly.length) HN3 ?_;intro A8 c8 _ HK';simp only[List.set] at HK';replace HK:=zH (HK'.out.takeR 1);simp only[List.take] at HK;clear HK' HR)|refine zX (exec_add1 (j:=k) _ (by rfl) (by rfl) hk3) ?_)
   have HKn:=HK
   rw[← HM1.out] at HKn
   go_roundw
   case rel=>exact⟨k+1,A8,_,c8,by omega,rfl,by go_num,HB2,zH (by rw[HM1.out];exact HN3.out),HKn⟩
   case measure=>simp[intOf];omega
  ·obtain rfl:k=x.pn:=by omega
   have HN2:Hid ((M1 x.pn++[Snp.n1 x.vn]).length=N1+1):=zH (by rw[List.length_append,HM.out];rfl)
   have hB1:=HB1.out
   have HL2:=grow_ok (La:=itemLay) HN2 (by show(N1+1)*32≤_;omega) (by omega)
   clear hB1
   go_wp2_with (first|refine zX (kob_p HK 0 _ (by rfl) (by rfl) (by rfl)) ?_|refine zX (kob_v HK 0 _ (by rfl) (by rfl) (by rfl)) ?_|(refine wpList_mk1 itemLay (p:=Snp.n1 x.vn) HK (by decide) rfl _ rfl rfl rfl ?_;intro _ g2 HK';simp only[lnA,lcA] at HK';have HR:=zH (HK'.out.own 1 rfl).rd;replace HK:=HK';clear HK')|(at_builtin;refine wpList_kmore HK itemLay 0 rfl _ _ rfl rfl rfl [Snp.n1 x.vn] rfl rfl HR HL2 (N:=N1+1) HN2 ?_;intro A7 c7 _ HK';simp only[List.set] at HK';rw[← HM20.out] at HK';replace HK:=zH (HK'.out.takeR 1);simp only[List.take] at HK;clear HK' HR))
   have HN3:Hid ((M2 0).length=N1+1):=zH (by rw[HM20.out];exact HN2.out)
   have HB3:Hid (N1+1≤6+x.pn*3+0*2):=zH (by have:=HB1.out;omega)
   clear HN2 HL2 HM HB1
   go_loopw [3,5] (fun vl vi wr=>∃(k:Nat) (A1:Option Addr) (N1 c1:Nat),k≤x.vn∧vl=.slice A1 N1 c1∧vi=.int .i64 k∧Hid (N1≤6+x.pn*3+k*2)∧Hid ((M2 k).length=N1)∧Hid (Kn w.heap.size w wr [(w.heap.size,63,obA x)] [row itemLay (.slice A1 N1 c1) (M2 k)])) (fun _ vi _=>x.vn-(intOf vi).toNat)
   case atStart=>exact⟨0,_,_,_,Nat.zero_le _,rfl,rfl,HB3,HN3,HK⟩
   case round=>
    clear HK HN3 HB3
    obtain⟨k,A1,N1,c1,hk,rfl,rfl,HB1,HM,HK⟩:=hrel
    by_cases hlt:k<x.vn
    ·obtain⟨y,hy⟩:=Lay.get_of (l:=x.v.vals) (k:=k) (by rw[HVl.out];exact hlt)
     have hyf:y.f<18446744073709551616:=HV.out.fit.fs y (List.mem_of_getElem? hy)
     obtain⟨b,o,hA,hat⟩:=HV.out.at (Nat.lt_of_le_of_lt (Nat.zero_le _) hlt)
     have HX:Hid (∀W,Below w.heap.size w W→∀j v,(vaL y)[j]?=some v→W.cell? ⟨b,o+k*4+j,none⟩=some v):=zH fun W hW=>hat W hW k y hy
     have HIy:=zH (fun W=>HIv.out y W hyf)
     have hil:=(nit_len y).2
     have HM1:=zH (HMo2.out k y hy)
     generalize Val.items y=ly at *
     have HN3:Hid ((M2 k++ly).length=N1+ly.length):=zH (by rw[List.length_append,HM.out])
     have hB1:=HB1.out
     have HL3:=grow_ok (La:=itemLay) HN3 (by show(N1+ly.length)*32≤_;omega) (by omega)
     have HB2:Hid (N1+ly.length≤6+x.pn*3+(k+1)*2):=zH (by omega)
     have HA:=zH hA
     clear hat hy hyf hil hB1 hA
     have hk1:(0:Int)≤(k:Int):=by omega
     have hk2:(k:Int)<(x.vn:Int):=by omega
     have hk3:IntKind.i64.wrap ((k:Int)+1)=((k+1:Nat):Int):=by rw[IntKind.wrap_i64];omega
     go_wp2_with (first|refine zX (kob_v HK 0 _ (by rfl) (by rfl) (by rfl)) ?_|refine zX (exec_slx vaLay (b:=b) (off:=o) (i:=k) _ _ (by rfl) (by rw[← HA.out];rfl) (by rfl) hlt) ?_|refine zX (exec_slv vaLay (off:=o+k*4) (x:=y) _ (by rfl) (by rfl) Tryz.underlying26 (HX.out _ HK.out.b)) ?_)
     refine(HIy.out _).mono ?_;rintro e w5 ⟨A5,n5,c5,rfl,o5,b5⟩
     replace HK:=zH (HK.out.called b5 o5)
     have HI5:=zH (Lay.Own.reads o5).1
     simp only[lcA,lnA] at HK
     clear b5 o5
     have HR:=zH (HK.out.own 1 rfl).rd
     go_wp2_with (first|(at_builtin;refine wpList_kmore HK itemLay 0 rfl _ _ rfl rfl rfl ly rfl HI5.out HR HL3 (N:=N1+ly.length) HN3 ?_;intro A8 c8 _ HK';simp only[List.set] at HK';replace HK:=zH (HK'.out.takeR 1);simp only[List.take] at HK;clear HK' HR)|refine zX (exec_add1 (j:=k) _ (by rfl) (by rfl) hk3) ?_)
     have HKn:=HK
     rw[← HM1.out] at HKn
     go_roundw
     case rel=>exact⟨k+1,A8,_,c8,by omega,rfl,by go_num,HB2,zH (by rw[HM1.out];exact HN3.out),HKn⟩
     case measure=>simp[intOf];omega
    ·obtain rfl:k=x.vn:=by omega
     have HN3:Hid ((M2 x.vn++lr).length=N1+lr.length):=zH (by rw[List.length_append,HM.out])
     have HN4:Hid (((M2 x.vn++lr)++[Snp.n1 x.v.mt.n,Snp.n1 z1,Snp.n1 z2,Snp.n1 z3]).length=N1+lr.length+4):=zH (by rw[List.length_append,HN3.out];rfl)
     have hB1:=HB1.out
     have hLr:=HLr.out
     have HL3:=grow_ok (La:=itemLay) HN3 (by show(N1+lr.length)*32≤_;omega) (by omega)
     have HL4:=grow_ok (La:=itemLay) HN4 (by show(N1+lr.length+4)*32≤_;omega) (by omega)
     clear hB1 hLr
     go_wp2_with (first|refine zX (kob_v HK 0 _ (by rfl) (by rfl) (by rfl)) ?_|refine zX (kob_r HK 0 _ (by rfl) (by rfl) (by rfl)) ?_)
     refine(HRf.out _ HK.out.b).mono ?_;rintro e w5 ⟨A5,n5,c5,rfl,o5,b5⟩
     replace HK:=zH (HK.out.called b5 o5)
     have HI5:=zH (Lay.Own.reads o5).1
     simp only[lcA,lnA] at HK
     clear b5 o5
     have HR:=zH (HK.out.own 1 rfl).rd
     obtain⟨hs1,hs2,hs3⟩:=HS3.out
     go_wp2_with (first|(at_builtin;refine wpList_kmore HK itemLay 0 rfl _ _ rfl rfl rfl lr rfl HI5.out HR HL3 (N:=N1+lr.length) HN3 ?_;intro A8 c8 _ HK';simp only[List.set] at HK';replace HK:=zH (HK'.out.takeR 1);simp only[List.take] at HK;clear HK' HR)|refine zX (kob_m HK 0 _ (by rfl) (by rfl) (by rfl)) ?_|(refine wpList_akm HK rfl rfl ?_;intro _ g5 HK';simp only[lcA,lnA] at HK';replace HK:=HK';clear HK')|(refine wpList_sm HK 1 rfl _ _ rfl rfl rfl rfl ?_;intro _ HK';simp only[List.set] at HK';replace HK:=HK';clear HK')|refine zX (kexec_mn HK 1 _ (by rfl) (by rfl) (by rfl)) ?_|refine zX (kexec_ms HK 1 _ (by rfl) (by rfl) (by rfl)) ?_|refine zX (kexec_ml HK 1 _ (by rfl) (by rfl) (by rfl)) ?_|refine zX (kexec_mm HK 1 _ (by rfl) (by rfl) (by rfl)) ?_|(refine wpList_mk4 itemLay (p1:=Snp.n1 x.v.mt.n) (p2:=Snp.n1 z1) (p3:=Snp.n1 z2) (p4:=Snp.n1 z3) HK (by decide) rfl _ _ _ _ rfl rfl rfl rfl rfl rfl rfl rfl rfl ?_;intro _ g7 HK';simp only[lnA,lcA] at HK';have HR4:=zH (HK'.out.own 1 rfl).rd;replace HK:=HK';clear HK')|(at_builtin;refine wpList_kmore HK itemLay 0 rfl _ _ rfl rfl rfl [Snp.n1 x.v.mt.n,Snp.n1 z1,Snp.n1 z2,Snp.n1 z3] rfl rfl HR4 HL4 (N:=N1+lr.length+4) HN4 ?_;intro A9 c9 _ HK';simp only[List.set] at HK';rw[← HFin.out] at HK';replace HK:=HK';clear HK'))
     go_ret
     exact⟨_,_,_,rfl,HK.out.own 0 rfl,HK.out.b⟩
end
end Go.Proofs.YtieoeendnccafaaGreat
