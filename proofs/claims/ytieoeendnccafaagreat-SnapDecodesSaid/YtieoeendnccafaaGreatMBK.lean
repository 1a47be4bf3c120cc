/- What the document's reader's object returns. No condition but those named. -/
import Derived.Test.YtieoeendnccafaaGreatMTK
import Derived.Test.YtieoeendnccafaaGreatMBJ
import Derived.Test.YtieoeendnccafaaGreatMBG
import Derived.Deep.DeepCutAuto
set_option linter.unusedSimpArgs false
set_option linter.unusedVariables false
set_option maxRecDepth 100000
set_option maxHeartbeats 25600000
namespace Go.Proofs.YtieoeendnccafaaGreat
section
open Go.RowKit
section
variable {b0:Nat}{w0 w:World}{L:List (Nat×TypeId×Array Value)}{R:List RowE}{ops:Array Oper}{o:Oper}{a:Act}{Q:Exit→Act→World→Prop}{K:Act→World→Prop}{E:Prop}{g:Nat}{x:Oh}
theorem step_sop2(HK:Hid (Kn b0 w0 w L R))(i:Nat)(hgd:o.guard=none)(p q:Operand)(ho:o.op=.store 57 p q)(hL:L[i]?=some (g,63,obA x))(hx:a.eval p=.pointer (some ⟨g,3,none⟩)){A:Option Addr}{n c:Nat}(hy:a.eval q=.slice A n c)(l:List Dct.Pr)
  (h:∀w',Hid (Kn b0 w0 w' (L.set i (g,63,obA (x.sp A n c l))) R)→K (a.put o.dst undef) w'):if Region.wanted o (yielded ops a.tmps)=true then Oper.wp Tryz.prog o a w K Q else E:=by
 rw[if_pos (by simp[Region.wanted,hgd])]
 exact kwp_sc HK _ p q ho i hL hx hy rfl rfl (by show 3<11;decide) info_pr1 fun w' h1 _=>h w' h1
theorem step_sov2(HK:Hid (Kn b0 w0 w L R))(i:Nat)(hgd:o.guard=none)(p q:Operand)(ho:o.op=.store 58 p q)(hL:L[i]?=some (g,63,obA x))(hx:a.eval p=.pointer (some ⟨g,4,none⟩)){A:Option Addr}{n c:Nat}(hy:a.eval q=.slice A n c)(l:List Val.V)
  (h:∀w',Hid (Kn b0 w0 w' (L.set i (g,63,obA (x.sv A n c l))) R)→K (a.put o.dst undef) w'):if Region.wanted o (yielded ops a.tmps)=true then Oper.wp Tryz.prog o a w K Q else E:=by
 rw[if_pos (by simp[Region.wanted,hgd])]
 exact kwp_sc HK _ p q ho i hL hx hy rfl rfl (by show 4<11;decide) info_va1 fun w' h1 _=>h w' h1
theorem step_sor2(HK:Hid (Kn b0 w0 w L R))(i:Nat)(hgd:o.guard=none)(p q:Operand)(ho:o.op=.store 59 p q)(hL:L[i]?=some (g,63,obA x))(hx:a.eval p=.pointer (some ⟨g,5,none⟩)){A:Option Addr}{n c:Nat}(hy:a.eval q=.slice A n c)(l:List Rf)
  (h:∀w',Hid (Kn b0 w0 w' (L.set i (g,63,obA (x.sr A n c l))) R)→K (a.put o.dst undef) w'):if Region.wanted o (yielded ops a.tmps)=true then Oper.wp Tryz.prog o a w K Q else E:=by
 rw[if_pos (by simp[Region.wanted,hgd])]
 exact kwp_sc HK _ p q ho i hL hx hy rfl rfl (by show 5<11;decide) info_rf1 fun w' h1 _=>h w' h1
end
def RqO(g:Nat)(A:Option Addr)(n c:Nat)(l:Snp.Its)(a:Nat)(b:Bool)(w:World)(e:Ending)(w':World):Prop:=
 ∃(x:Oh) (a':Nat) (b':Bool),e=.returned (.agg (obA x))∧Snp.Q (Snp.obP true) l a b x.v a' b'∧a'≤a+100∧Rof g A n c l a' b' (rows3 x) w w'
theorem Snp.Q.fin{α:Type}{p:Snp.P α}{l:Snp.Its}{a a1 i N:Nat}{b b1:Bool}{xs:List α}(h:Snp.Q (Snp.rep p i) l a b xs a1 b1)(hi:i≤N)(hq:¬(i<N∧b1=false)):Snp.Q (Snp.rep p N) l a b xs a1 b1:=by
 by_cases e:i=N
 ·rw[← e];exact h
 ·cases b1 with
  | false=>exact absurd ⟨by omega,rfl⟩ hq
  | true=>exact h.stop hi
theorem rfobj_any(g:Nat)(A:Option Addr)(n c:Nat)(l:Snp.Its)(hf:Snp.Fit l)(a:Nat)(b:Bool)(w:World)(h:Rdf g A n c l a b w)(ha:a≤50000):Calls Tryz.prog 55 #[.pointer (some ⟨g,0,none⟩)] w (RqO g A n c l a b w):=by
 have HT_:=zH (rftext_any g A n c l)
 have HN_:=zH (rfnum_any g A n c l)
 have HV_:=zH (rfval_any g A n c l hf)
 have HM8:=zH (rfmany_any g A n c l 8 (by decide))
 have HM5:=zH (rfmany_any g A n c l 5 (by decide))
 have HW:=zH (Rsf.start h)
 have HK:=zH (Kn.start w)
 unfold vv at HV_
 clear h hf
 go_enter Tryz.func55,Tryz.ntmps55
 go_wp2_with (first|(refine wpList_aob HK rfl rfl ?_;intro _ g1 HK';simp only[lnA] at HK';replace HK:=HK';clear HK'))
 refine(HT_.out _ _ _ (HW.out.at HK.out) (by omega)).mono ?_;rintro e w1 ⟨nm,a1,b1,rfl,q1,u1,hk⟩;obtain⟨W1,HW1,HK1⟩:=hk.join HW.out HK.out;replace HW:=HW1;replace HK:=HK1;have HQ1:=zH q1;clear HW1 HK1 hk q1;simp only[List.append_nil] at HK
 go_wp2_with fail
 refine(HN_.out _ _ _ (HW.out.at HK.out) (by omega)).mono ?_;rintro e w1 ⟨kd,a2,b2,rfl,q1,u2,hk⟩;obtain⟨W1,HW1,HK1⟩:=hk.join HW.out HK.out;replace HW:=HW1;replace HK:=HK1;have HQ2:=zH q1;clear HW1 HK1 hk q1;simp only[List.append_nil] at HK
 go_wp2_with fail
 refine(HN_.out _ _ _ (HW.out.at HK.out) (by omega)).mono ?_;rintro e w1 ⟨cp,a3,b3,rfl,q1,u3,hk⟩;obtain⟨W1,HW1,HK1⟩:=hk.join HW.out HK.out;replace HW:=HW1;replace HK:=HK1;have HQ3:=zH q1;clear HW1 HK1 hk q1;simp only[List.append_nil] at HK
 go_wp2_with fail
 refine(HN_.out _ _ _ (HW.out.at HK.out) (by omega)).mono ?_;rintro e w1 ⟨rd,a4,b4,rfl,q1,u4,hk⟩;obtain⟨W1,HW1,HK1⟩:=hk.join HW.out HK.out;replace HW:=HW1;replace HK:=HK1;have HQ4:=zH q1;clear HW1 HK1 hk q1;simp only[List.append_nil] at HK
 go_wp2_with (first|(refine wpList_aob HK rfl rfl ?_;intro _ g3 HK';simp only[lcA,lnA] at HK';replace HK:=HK';clear HK')|(refine wpList_sob (x:=ohZ) (y:=⟨⟨nm,kd,cp,[],[],[],rd,Mt.zero⟩,none,0,0,none,0,0,none,0,0⟩) HK 1 rfl _ _ rfl rfl rfl rfl ?_;intro _ HK';simp only[List.set] at HK';replace HK:=HK';clear HK'))
 refine(HM8.out _ _ _ (HW.out.at HK.out) (by omega)).mono ?_;rintro e w1 ⟨N1,a5,b5,rfl,q1,u5,hk,m5⟩;obtain⟨W1,HW1,HK1⟩:=hk.join HW.out HK.out;replace HW:=HW1;replace HK:=HK1;have HQ5:=zH q1;clear HW1 HK1 hk q1;simp only[List.append_nil] at HK
 have m5':N1≤8:=by omega
 clear m5
 replace HK:=zH (HK.out.nilR prLay)
 simp only[lnA] at HK
 go_upto_region 4 with fail
 go_loopw [5] (fun vi wr=>∃(j1:Nat) (A1:Option Addr) (c1:Nat) (xs:List Dct.Pr) (e1:Nat) (f1:Bool) (W2:World),j1≤N1∧vi=.int .i64 j1∧e1≤a5+j1*3∧Hid (xs.length=j1)∧Hid (Snp.Q (Snp.rep Snp.prP j1) l a5 b5 xs e1 f1)∧Hid (Rsf g A n c l e1 f1 w W2)∧Hid (Kn w.heap.size W2 wr [(g1,63,obA ohZ),(g3,63,obA ⟨⟨nm,kd,cp,xs,[],[],rd,Mt.zero⟩,A1,j1,c1,none,0,0,none,0,0⟩)] [row prLay (.slice A1 j1 c1) xs])) (fun vi _=>N1-(intOf vi).toNat)
 case atStart=>exact⟨0,none,0,[],a5,b5,_,Nat.zero_le _,rfl,by omega,zH rfl,zH (Snp.Q.ret [] HQ5.out.le),HW,HK⟩
 case round=>
  clear HK HW
  obtain⟨j1,A1,c1,xs,e1,f1,W2,hj,rfl,ub1,HLx,HQr,HW,HK⟩:=hrel
  go_upto_region 4 with fail
  go_cut [29] (fun v wx=>∃q:Bool,v=.bool q∧Hid (q=true↔(j1<N1∧f1=false))∧Hid (Kn w.heap.size W2 wx [(g1,63,obA ohZ),(g3,63,obA ⟨⟨nm,kd,cp,xs,[],[],rd,Mt.zero⟩,A1,j1,c1,none,0,0,none,0,0⟩)] [row prLay (.slice A1 j1 c1) xs]))
  case first=>
   have hk1:(0:Int)≤(j1:Int):=by omega
   by_cases hlt:j1<N1
   ·have hk2:(j1:Int)<(N1:Int):=by omega
    cases f1
    ·go_wp2_with (first|go_big_skip|refine zX (exec_rfb HW HK _ (by rfl) (by rfl)) ?_)
     go_meet
     exact⟨true,rfl,zH (by simp[hlt]),HK⟩
    ·go_wp2_with (first|go_big_skip|refine zX (exec_rfb HW HK _ (by rfl) (by rfl)) ?_)
     go_meet
     exact⟨false,rfl,zH ⟨(fun h=>by cases h),fun h=>by cases h.2⟩,HK⟩
   ·have hk2:¬((j1:Int)<(N1:Int)):=by omega
    go_wp2_with (first|go_big_skip)
    go_meet
    exact⟨false,rfl,zH ⟨(fun h=>by cases h),fun h=>absurd h.1 hlt⟩,HK⟩
  case rest=>
  clear HK
  obtain⟨q,rfl,HQq,HK⟩:=hcut
  cases q
  case true=>
   obtain⟨hlt,rfl⟩:=HQq.out.1 rfl
   clear HQq
   have hk3:IntKind.i64.wrap ((j1:Int)+1)=((j1+1:Nat):Int):=by rw[IntKind.wrap_i64];omega
   have HN2:Hid (∀y:Dct.Pr,(xs++[y]).length=j1+1):=zH fun y=>by rw[List.length_append,HLx.out];rfl
   have HL2:Hid (xs.length+1≤9223372036854775807∧(xs.length+1)*prLay.bytes≤211106232532992):=zH (by
    rw[HLx.out]
    refine⟨by omega,?_⟩
    show(j1+1)*56≤_
    omega)
   go_wp2_with fail
   refine(HT_.out _ _ _ (HW.out.at HK.out) (by omega)).mono ?_;rintro e w1 ⟨key,p1,d1,rfl,q1,v1,hk⟩;obtain⟨W1,HW1,HK1⟩:=hk.join HW.out HK.out;replace HW:=HW1;replace HK:=HK1;have HP1:=zH q1;clear HW1 HK1 hk q1;simp only[List.append_nil] at HK
   go_wp2_with fail
   have HK0:=zH HK.out.drew
   refine wp_region_any (by kernel_rfl) ?_
   change wpAny _ _ _ _ _ _ _ (World.drew _)
   refine wpAny_take (i:=0) (oi:=⟨some 34,_,_,_,_,_⟩) (v:=?_) rfl (by kernel_rfl) (by kernel_rfl) (by kernel_rfl) (fun _ _ _ h=>h) (Or.inl ⟨by rfl,?_⟩) ?_
   rotate_left
   ·(intro w;go_simp;try with_reducible rfl)
   try simp only[ap1,ap2,ap3,ap4,ap5]
   refine wpAny_take (i:=2) (oi:=⟨some 36,_,_,_,_,_⟩) (v:=?_) rfl (by kernel_rfl) (by kernel_rfl) (by kernel_rfl) (fun _ _ _ h=>h) (Or.inl ⟨by rfl,?_⟩) ?_
   rotate_left
   ·(intro w;go_simp;try with_reducible rfl)
   try simp only[ap1,ap2,ap3,ap4,ap5]
   refine wpAny_take (i:=3) (oi:=⟨some 37,_,_,_,_,_⟩) (v:=?_) rfl (by kernel_rfl) (by kernel_rfl) (by kernel_rfl) (fun _ _ _ h=>h) (Or.inl ⟨by rfl,?_⟩) ?_
   rotate_left
   ·(intro w;go_simp;try with_reducible rfl)
   try simp only[ap1,ap2,ap3,ap4,ap5]
   refine wpAny_ready (rs:=[1,4]) (by kernel_rfl) (by simp) ?_
   refine AllReady.cons (o:=⟨some 35,_,_,_,_,_⟩) rfl (fun K hK=>?_) (AllReady.cons (o:=⟨some 38,_,_,_,_,_⟩) rfl (fun K hK=>?_) AllReady.nil)
   replace hK:=zH hK
   refine step_of_exec (by rfl) (kob_p HK0 1 _ (by rfl) (by rfl) (by rfl)) ?_
   refine hK.out _ _ ?_
   clear hK K
   try simp only[ap1,ap2,ap3,ap4,ap5]
   refine wpAny_ready (rs:=[4]) (by kernel_rfl) (by simp) ?_
   refine AllReady.cons (o:=⟨some 38,_,_,_,_,_⟩) rfl (fun K hK=>?_) AllReady.nil
   replace hK:=zH hK
   go_simp
   go_at_call 108
   refine(HV_.out _ _ _ (HW.out.at HK0.out) (by omega)).mono ?_;rintro e w5 ⟨v,p2,d2,rfl,q1,v2,hk⟩;obtain⟨W1,HW1,HK1⟩:=hk.join HW.out HK0.out;replace HW:=HW1;replace HK0:=HK1;have HP2:=zH q1;clear HW1 HK1 hk q1;simp only[List.append_nil] at HK0
   refine hK.out _ _ ?_
   clear hK K
   try simp only[ap1,ap2,ap3,ap4,ap5]
   refine wpAny_take (i:=5) (oi:=⟨some 39,_,_,_,_,_⟩) (v:=?_) rfl (by kernel_rfl) (by kernel_rfl) (by kernel_rfl) (fun _ _ _ h=>h) (Or.inl ⟨by rfl,?_⟩) ?_
   rotate_left
   ·(intro w;go_simp;try with_reducible rfl)
   try simp only[ap1,ap2,ap3,ap4,ap5]
   refine wpAny_ready (rs:=[6]) (by kernel_rfl) (by simp) ?_
   refine AllReady.cons (o:=⟨some 40,_,_,_,_,_⟩) rfl (fun K hK=>?_) AllReady.nil
   replace hK:=zH hK
   refine step_mk1 prLay (p:=(⟨key,v⟩:Dct.Pr)) HK0 (by decide) (by rfl) _ (by rfl) (by rfl) (by rfl) ?_;intro w6 g5 HK' _;simp only[lcA,lnA] at HK';replace HK0:=HK';clear HK'
   refine hK.out _ _ ?_
   clear hK K
   try simp only[ap1,ap2,ap3,ap4,ap5]
   refine wpAny_ready (rs:=[7]) (by kernel_rfl) (by simp) ?_
   refine AllReady.cons (o:=⟨some 41,_,_,_,_,_⟩) rfl (fun K hK=>?_) AllReady.nil
   replace hK:=zH hK
   have HR2:=zH (Kn.own HK0.out 1 rfl).rd;refine step_more2 prLay HK0 0 (by rfl) _ _ (by rfl) (by rfl) (by rfl) [(⟨key,v⟩:Dct.Pr)] (by rfl) (by rfl) HR2 HL2 (N:=j1+1) (zH (HN2.out _)) ?_;intro A9 c9 w7 HK';simp only[List.set] at HK';replace HK0:=HK';clear HK' HR2
   refine hK.out _ _ ?_
   clear hK K
   try simp only[ap1,ap2,ap3,ap4,ap5]
   refine wpAny_take (i:=8) (oi:=⟨some 42,_,_,_,_,_⟩) (v:=?_) rfl (by kernel_rfl) (by kernel_rfl) (by kernel_rfl) (fun _ _ _ h=>h) (Or.inl ⟨by rfl,?_⟩) ?_
   rotate_left
   ·(intro w;go_simp;try with_reducible rfl)
   try simp only[ap1,ap2,ap3,ap4,ap5]
   refine wpAny_ready (rs:=[9]) (by kernel_rfl) (by simp) ?_
   refine AllReady.cons (o:=⟨none,_,_,_,_,_⟩) rfl (fun K hK=>?_) AllReady.nil
   replace hK:=zH hK
   refine step_sop2 HK0 1 (by rfl) _ _ (by rfl) (by rfl) (by rfl) (by rfl) (xs++[(⟨key,v⟩:Dct.Pr)]) ?_;intro w8 HK';simp only[List.set] at HK';replace HK0:=zH (HK'.out.takeR 1);simp only[List.take] at HK0;clear HK'
   refine hK.out _ _ ?_
   clear hK K
   try simp only[ap1,ap2,ap3,ap4,ap5]
   refine wpAny_done (by kernel_rfl) ?_ _
   rotate_left
   replace hK:=zH hK
   go_simp
   go_at_call 108
   refine(HV_.out _ _ _ (HW.out.at HK0.out) (by omega)).mono ?_;rintro e w5 ⟨v,p2,d2,rfl,q1,v2,hk⟩;obtain⟨W1,HW1,HK1⟩:=hk.join HW.out HK0.out;replace HW:=HW1;replace HK0:=HK1;have HP2:=zH q1;clear HW1 HK1 hk q1;simp only[List.append_nil] at HK0
   refine hK.out _ _ ?_
   clear hK K
   try simp only[ap1,ap2,ap3,ap4,ap5]
   refine wpAny_take (i:=5) (oi:=⟨some 39,_,_,_,_,_⟩) (v:=?_) rfl (by kernel_rfl) (by kernel_rfl) (by kernel_rfl) (fun _ _ _ h=>h) (Or.inl ⟨by rfl,?_⟩) ?_
   rotate_left
   ·(intro w;go_simp;try with_reducible rfl)
   try simp only[ap1,ap2,ap3,ap4,ap5]
   refine wpAny_ready (rs:=[1,6]) (by kernel_rfl) (by simp) ?_
   refine AllReady.cons (o:=⟨some 35,_,_,_,_,_⟩) rfl (fun K hK=>?_) (AllReady.cons (o:=⟨some 40,_,_,_,_,_⟩) rfl (fun K hK=>?_) AllReady.nil)
   replace hK:=zH hK
   refine step_of_exec (by rfl) (kob_p HK0 1 _ (by rfl) (by rfl) (by rfl)) ?_
   refine hK.out _ _ ?_
   clear hK K
   try simp only[ap1,ap2,ap3,ap4,ap5]
   refine wpAny_ready (rs:=[6]) (by kernel_rfl) (by simp) ?_
   refine AllReady.cons (o:=⟨some 40,_,_,_,_,_⟩) rfl (fun K hK=>?_) AllReady.nil
   replace hK:=zH hK
   refine step_mk1 prLay (p:=(⟨key,v⟩:Dct.Pr)) HK0 (by decide) (by rfl) _ (by rfl) (by rfl) (by rfl) ?_;intro w6 g5 HK' _;simp only[lcA,lnA] at HK';replace HK0:=HK';clear HK'
   refine hK.out _ _ ?_
   clear hK K
   try simp only[ap1,ap2,ap3,ap4,ap5]
   refine wpAny_ready (rs:=[7]) (by kernel_rfl) (by simp) ?_
   refine AllReady.cons (o:=⟨some 41,_,_,_,_,_⟩) rfl (fun K hK=>?_) AllReady.nil
   replace hK:=zH hK
   have HR2:=zH (Kn.own HK0.out 1 rfl).rd;refine step_more2 prLay HK0 0 (by rfl) _ _ (by rfl) (by rfl) (by rfl) [(⟨key,v⟩:Dct.Pr)] (by rfl) (by rfl) HR2 HL2 (N:=j1+1) (zH (HN2.out _)) ?_;intro A9 c9 w7 HK';simp only[List.set] at HK';replace HK0:=HK';clear HK' HR2
   refine hK.out _ _ ?_
   clear hK K
   try simp only[ap1,ap2,ap3,ap4,ap5]
   refine wpAny_take (i:=8) (oi:=⟨some 42,_,_,_,_,_⟩) (v:=?_) rfl (by kernel_rfl) (by kernel_rfl) (by kernel_rfl) (fun _ _ _ h=>h) (Or.inl ⟨by rfl,?_⟩) ?_
   rotate_left
   ·(intro w;go_simp;try with_reducible rfl)
   try simp only[ap1,ap2,ap3,ap4,ap5]
   refine wpAny_ready (rs:=[9]) (by kernel_rfl) (by simp) ?_
   refine AllReady.cons (o:=⟨none,_,_,_,_,_⟩) rfl (fun K hK=>?_) AllReady.nil
   replace hK:=zH hK
   refine step_sop2 HK0 1 (by rfl) _ _ (by rfl) (by rfl) (by rfl) (by rfl) (xs++[(⟨key,v⟩:Dct.Pr)]) ?_;intro w8 HK';simp only[List.set] at HK';replace HK0:=zH (HK'.out.takeR 1);simp only[List.take] at HK0;clear HK'
   refine hK.out _ _ ?_
   clear hK K
   try simp only[ap1,ap2,ap3,ap4,ap5]
   refine wpAny_done (by kernel_rfl) ?_ _
   rotate_left
   replace hK:=zH hK
   refine step_mk1 prLay (p:=(⟨key,v⟩:Dct.Pr)) HK0 (by decide) (by rfl) _ (by rfl) (by rfl) (by rfl) ?_;intro w6 g5 HK' _;simp only[lcA,lnA] at HK';replace HK0:=HK';clear HK'
   refine hK.out _ _ ?_
   clear hK K
   try simp only[ap1,ap2,ap3,ap4,ap5]
   refine wpAny_ready (rs:=[1]) (by kernel_rfl) (by simp) ?_
   refine AllReady.cons (o:=⟨some 35,_,_,_,_,_⟩) rfl (fun K hK=>?_) AllReady.nil
   replace hK:=zH hK
   refine step_of_exec (by rfl) (kob_p HK0 1 _ (by rfl) (by rfl) (by rfl)) ?_
   refine hK.out _ _ ?_
   clear hK K
   try simp only[ap1,ap2,ap3,ap4,ap5]
   refine wpAny_ready (rs:=[7]) (by kernel_rfl) (by simp) ?_
   refine AllReady.cons (o:=⟨some 41,_,_,_,_,_⟩) rfl (fun K hK=>?_) AllReady.nil
   replace hK:=zH hK
   have HR2:=zH (Kn.own HK0.out 1 rfl).rd;refine step_more2 prLay HK0 0 (by rfl) _ _ (by rfl) (by rfl) (by rfl) [(⟨key,v⟩:Dct.Pr)] (by rfl) (by rfl) HR2 HL2 (N:=j1+1) (zH (HN2.out _)) ?_;intro A9 c9 w7 HK';simp only[List.set] at HK';replace HK0:=HK';clear HK' HR2
   refine hK.out _ _ ?_
   clear hK K
   try simp only[ap1,ap2,ap3,ap4,ap5]
   refine wpAny_take (i:=8) (oi:=⟨some 42,_,_,_,_,_⟩) (v:=?_) rfl (by kernel_rfl) (by kernel_rfl) (by kernel_rfl) (fun _ _ _ h=>h) (Or.inl ⟨by rfl,?_⟩) ?_
   rotate_left
   ·(intro w;go_simp;try with_reducible rfl)
   try simp only[ap1,ap2,ap3,ap4,ap5]
   refine wpAny_ready (rs:=[9]) (by kernel_rfl) (by simp) ?_
   refine AllReady.cons (o:=⟨none,_,_,_,_,_⟩) rfl (fun K hK=>?_) AllReady.nil
   replace hK:=zH hK
   refine step_sop2 HK0 1 (by rfl) _ _ (by rfl) (by rfl) (by rfl) (by rfl) (xs++[(⟨key,v⟩:Dct.Pr)]) ?_;intro w8 HK';simp only[List.set] at HK';replace HK0:=zH (HK'.out.takeR 1);simp only[List.take] at HK0;clear HK'
   refine hK.out _ _ ?_
   clear hK K
   try simp only[ap1,ap2,ap3,ap4,ap5]
   refine wpAny_done (by kernel_rfl) ?_ _
   rotate_left
   all_goals
    have HQ2:=zH (HQr.out.more (Snp.Q.bnd HP1.out (Snp.Q.bnd HP2.out (Snp.Q.ret _ HP2.out.le)):Snp.Q Snp.prP l _ _ _ _ _))
    have HK1:=HK0
    clear HK HK0 HQr
    have HK:=HK1
    clear HK1
    go_wp2_with (first|refine zX (exec_add1 (j:=j1) _ (by rfl) (by rfl) hk3) ?_)
    exact⟨⟨j1+1,A9,c9,xs++[(⟨key,v⟩:Dct.Pr)],p2,d2,_,hlt,rfl,by omega,zH (HN2.out _),HQ2,HW,HK⟩,by simp[intOf];omega⟩
  case false=>
   have HQe1:=zH (HQr.out.fin hj (fun h=>by have:=HQq.out.2 h;cases this))
   have ue1:e1≤a5+8*3:=by omega
   clear HQr HQq HLx ub1
   go_wp2_with fail
   refine(HM8.out _ _ _ (HW.out.at HK.out) (by omega)).mono ?_;rintro e w1 ⟨N2,a7,b7,rfl,q1,u7,hk,m7⟩;obtain⟨W1,HW1,HK1⟩:=hk.join HW.out HK.out;replace HW:=HW1;replace HK:=HK1;have HQ7:=zH q1;clear HW1 HK1 hk q1;simp only[List.append_nil] at HK
   have m7':N2≤8:=by omega
   clear m7
   replace HK:=zH (HK.out.nilR vaLay)
   simp only[lcA,lnA] at HK
   go_upto_region 10 with fail
   go_loopw [7] (fun vi wr=>∃(j2:Nat) (A2:Option Addr) (c2:Nat) (ys:List Val.V) (e2:Nat) (f2:Bool) (W2:World),j2≤N2∧vi=.int .i64 j2∧e2≤a7+j2*2∧Hid (ys.length=j2)∧Hid (Snp.Q (Snp.rep Snp.val j2) l a7 b7 ys e2 f2)∧Hid (Rsf g A n c l e2 f2 w W2)∧Hid (Kn w.heap.size W2 wr [(g1,63,obA ohZ),(g3,63,obA ⟨⟨nm,kd,cp,xs,ys,[],rd,Mt.zero⟩,A1,j1,c1,A2,j2,c2,none,0,0⟩)] [row prLay (.slice A1 j1 c1) xs,row vaLay (.slice A2 j2 c2) ys])) (fun vi _=>N2-(intOf vi).toNat)
   case atStart=>exact⟨0,none,0,[],a7,b7,_,Nat.zero_le _,rfl,by omega,zH rfl,zH (Snp.Q.ret [] HQ7.out.le),HW,HK⟩
   case round=>
    clear HK HW
    obtain⟨j2,A2,c2,ys,e2,f2,W2,hj,rfl,ub2,HLx,HQr,HW,HK⟩:=hrel
    go_upto_region 10 with fail
    go_cut [54] (fun v wx=>∃q:Bool,v=.bool q∧Hid (q=true↔(j2<N2∧f2=false))∧Hid (Kn w.heap.size W2 wx [(g1,63,obA ohZ),(g3,63,obA ⟨⟨nm,kd,cp,xs,ys,[],rd,Mt.zero⟩,A1,j1,c1,A2,j2,c2,none,0,0⟩)] [row prLay (.slice A1 j1 c1) xs,row vaLay (.slice A2 j2 c2) ys]))
    case first=>
     have hk1:(0:Int)≤(j2:Int):=by omega
     by_cases hlt:j2<N2
     ·have hk2:(j2:Int)<(N2:Int):=by omega
      cases f2
      ·go_wp2_with (first|go_big_skip|refine zX (exec_rfb HW HK _ (by rfl) (by rfl)) ?_)
       go_meet
       exact⟨true,rfl,zH (by simp[hlt]),HK⟩
      ·go_wp2_with (first|go_big_skip|refine zX (exec_rfb HW HK _ (by rfl) (by rfl)) ?_)
       go_meet
       exact⟨false,rfl,zH ⟨(fun h=>by cases h),fun h=>by cases h.2⟩,HK⟩
     ·have hk2:¬((j2:Int)<(N2:Int)):=by omega
      go_wp2_with (first|go_big_skip)
      go_meet
      exact⟨false,rfl,zH ⟨(fun h=>by cases h),fun h=>absurd h.1 hlt⟩,HK⟩
    case rest=>
    clear HK
    obtain⟨q,rfl,HQq,HK⟩:=hcut
    cases q
    case true=>
     obtain⟨hlt,rfl⟩:=HQq.out.1 rfl
     clear HQq
     have hk3:IntKind.i64.wrap ((j2:Int)+1)=((j2+1:Nat):Int):=by rw[IntKind.wrap_i64];omega
     have HN2:Hid (∀y:Val.V,(ys++[y]).length=j2+1):=zH fun y=>by rw[List.length_append,HLx.out];rfl
     have HL2:Hid (ys.length+1≤9223372036854775807∧(ys.length+1)*vaLay.bytes≤211106232532992):=zH (by
      rw[HLx.out]
      refine⟨by omega,?_⟩
      show(j2+1)*40≤_
      omega)
     go_wp2_with fail
     have HK0:=zH HK.out.drew
     refine wp_region_any (by kernel_rfl) ?_
     change wpAny _ _ _ _ _ _ _ (World.drew _)
     refine wpAny_take (i:=0) (oi:=⟨some 57,_,_,_,_,_⟩) (v:=?_) rfl (by kernel_rfl) (by kernel_rfl) (by kernel_rfl) (fun _ _ _ h=>h) (Or.inl ⟨by rfl,?_⟩) ?_
     rotate_left
     ·(intro w;go_simp;try with_reducible rfl)
     try simp only[ap1,ap2,ap3,ap4,ap5]
     refine wpAny_take (i:=2) (oi:=⟨some 59,_,_,_,_,_⟩) (v:=?_) rfl (by kernel_rfl) (by kernel_rfl) (by kernel_rfl) (fun _ _ _ h=>h) (Or.inl ⟨by rfl,?_⟩) ?_
     rotate_left
     ·(intro w;go_simp;try with_reducible rfl)
     try simp only[ap1,ap2,ap3,ap4,ap5]
     refine wpAny_ready (rs:=[1,3]) (by kernel_rfl) (by simp) ?_
     refine AllReady.cons (o:=⟨some 58,_,_,_,_,_⟩) rfl (fun K hK=>?_) (AllReady.cons (o:=⟨some 60,_,_,_,_,_⟩) rfl (fun K hK=>?_) AllReady.nil)
     replace hK:=zH hK
     refine step_of_exec (by rfl) (kob_v HK0 1 _ (by rfl) (by rfl) (by rfl)) ?_
     refine hK.out _ _ ?_
     clear hK K
     try simp only[ap1,ap2,ap3,ap4,ap5]
     refine wpAny_ready (rs:=[3]) (by kernel_rfl) (by simp) ?_
     refine AllReady.cons (o:=⟨some 60,_,_,_,_,_⟩) rfl (fun K hK=>?_) AllReady.nil
     replace hK:=zH hK
     go_simp
     go_at_call 108
     refine(HV_.out _ _ _ (HW.out.at HK0.out) (by omega)).mono ?_;rintro e w5 ⟨v,p2,d2,rfl,q1,v2,hk⟩;obtain⟨W1,HW1,HK1⟩:=hk.join HW.out HK0.out;replace HW:=HW1;replace HK0:=HK1;have HP2:=zH q1;clear HW1 HK1 hk q1;simp only[List.append_nil] at HK0
     refine hK.out _ _ ?_
     clear hK K
     try simp only[ap1,ap2,ap3,ap4,ap5]
     refine wpAny_ready (rs:=[4]) (by kernel_rfl) (by simp) ?_
     refine AllReady.cons (o:=⟨some 61,_,_,_,_,_⟩) rfl (fun K hK=>?_) AllReady.nil
     replace hK:=zH hK
     refine step_mk1 vaLay (p:=v) HK0 (by decide) (by rfl) _ (by rfl) (by rfl) (by rfl) ?_;intro w6 g5 HK' _;simp only[lcA,lnA] at HK';replace HK0:=HK';clear HK'
     refine hK.out _ _ ?_
     clear hK K
     try simp only[ap1,ap2,ap3,ap4,ap5]
     refine wpAny_ready (rs:=[5]) (by kernel_rfl) (by simp) ?_
     refine AllReady.cons (o:=⟨some 62,_,_,_,_,_⟩) rfl (fun K hK=>?_) AllReady.nil
     replace hK:=zH hK
     have HR2:=zH (Kn.own HK0.out 2 rfl).rd;refine step_more2 vaLay HK0 1 (by rfl) _ _ (by rfl) (by rfl) (by rfl) [v] (by rfl) (by rfl) HR2 HL2 (N:=j2+1) (zH (HN2.out _)) ?_;intro A9 c9 w7 HK';simp only[List.set] at HK';replace HK0:=HK';clear HK' HR2
     refine hK.out _ _ ?_
     clear hK K
     try simp only[ap1,ap2,ap3,ap4,ap5]
     refine wpAny_take (i:=6) (oi:=⟨some 63,_,_,_,_,_⟩) (v:=?_) rfl (by kernel_rfl) (by kernel_rfl) (by kernel_rfl) (fun _ _ _ h=>h) (Or.inl ⟨by rfl,?_⟩) ?_
     rotate_left
     ·(intro w;go_simp;try with_reducible rfl)
     try simp only[ap1,ap2,ap3,ap4,ap5]
     refine wpAny_ready (rs:=[7]) (by kernel_rfl) (by simp) ?_
     refine AllReady.cons (o:=⟨none,_,_,_,_,_⟩) rfl (fun K hK=>?_) AllReady.nil
     replace hK:=zH hK
     refine step_sov2 HK0 1 (by rfl) _ _ (by rfl) (by rfl) (by rfl) (by rfl) (ys++[v]) ?_;intro w8 HK';simp only[List.set] at HK';replace HK0:=zH (HK'.out.takeR 2);simp only[List.take] at HK0;clear HK'
     refine hK.out _ _ ?_
     clear hK K
     try simp only[ap1,ap2,ap3,ap4,ap5]
     refine wpAny_done (by kernel_rfl) ?_ _
     rotate_left
     replace hK:=zH hK
     go_simp
     go_at_call 108
     refine(HV_.out _ _ _ (HW.out.at HK0.out) (by omega)).mono ?_;rintro e w5 ⟨v,p2,d2,rfl,q1,v2,hk⟩;obtain⟨W1,HW1,HK1⟩:=hk.join HW.out HK0.out;replace HW:=HW1;replace HK0:=HK1;have HP2:=zH q1;clear HW1 HK1 hk q1;simp only[List.append_nil] at HK0
     refine hK.out _ _ ?_
     clear hK K
     try simp only[ap1,ap2,ap3,ap4,ap5]
     refine wpAny_ready (rs:=[1,4]) (by kernel_rfl) (by simp) ?_
     refine AllReady.cons (o:=⟨some 58,_,_,_,_,_⟩) rfl (fun K hK=>?_) (AllReady.cons (o:=⟨some 61,_,_,_,_,_⟩) rfl (fun K hK=>?_) AllReady.nil)
     replace hK:=zH hK
     refine step_of_exec (by rfl) (kob_v HK0 1 _ (by rfl) (by rfl) (by rfl)) ?_
     refine hK.out _ _ ?_
     clear hK K
     try simp only[ap1,ap2,ap3,ap4,ap5]
     refine wpAny_ready (rs:=[4]) (by kernel_rfl) (by simp) ?_
     refine AllReady.cons (o:=⟨some 61,_,_,_,_,_⟩) rfl (fun K hK=>?_) AllReady.nil
     replace hK:=zH hK
     refine step_mk1 vaLay (p:=v) HK0 (by decide) (by rfl) _ (by rfl) (by rfl) (by rfl) ?_;intro w6 g5 HK' _;simp only[lcA,lnA] at HK';replace HK0:=HK';clear HK'
     refine hK.out _ _ ?_
     clear hK K
     try simp only[ap1,ap2,ap3,ap4,ap5]
     refine wpAny_ready (rs:=[5]) (by kernel_rfl) (by simp) ?_
     refine AllReady.cons (o:=⟨some 62,_,_,_,_,_⟩) rfl (fun K hK=>?_) AllReady.nil
     replace hK:=zH hK
     have HR2:=zH (Kn.own HK0.out 2 rfl).rd;refine step_more2 vaLay HK0 1 (by rfl) _ _ (by rfl) (by rfl) (by rfl) [v] (by rfl) (by rfl) HR2 HL2 (N:=j2+1) (zH (HN2.out _)) ?_;intro A9 c9 w7 HK';simp only[List.set] at HK';replace HK0:=HK';clear HK' HR2
     refine hK.out _ _ ?_
     clear hK K
     try simp only[ap1,ap2,ap3,ap4,ap5]
     refine wpAny_take (i:=6) (oi:=⟨some 63,_,_,_,_,_⟩) (v:=?_) rfl (by kernel_rfl) (by kernel_rfl) (by kernel_rfl) (fun _ _ _ h=>h) (Or.inl ⟨by rfl,?_⟩) ?_
     rotate_left
     ·(intro w;go_simp;try with_reducible rfl)
     try simp only[ap1,ap2,ap3,ap4,ap5]
     refine wpAny_ready (rs:=[7]) (by kernel_rfl) (by simp) ?_
     refine AllReady.cons (o:=⟨none,_,_,_,_,_⟩) rfl (fun K hK=>?_) AllReady.nil
     replace hK:=zH hK
     refine step_sov2 HK0 1 (by rfl) _ _ (by rfl) (by rfl) (by rfl) (by rfl) (ys++[v]) ?_;intro w8 HK';simp only[List.set] at HK';replace HK0:=zH (HK'.out.takeR 2);simp only[List.take] at HK0;clear HK'
     refine hK.out _ _ ?_
     clear hK K
     try simp only[ap1,ap2,ap3,ap4,ap5]
     refine wpAny_done (by kernel_rfl) ?_ _
     rotate_left
     replace hK:=zH hK
     refine step_mk1 vaLay (p:=v) HK0 (by decide) (by rfl) _ (by rfl) (by rfl) (by rfl) ?_;intro w6 g5 HK' _;simp only[lcA,lnA] at HK';replace HK0:=HK';clear HK'
     refine hK.out _ _ ?_
     clear hK K
     try simp only[ap1,ap2,ap3,ap4,ap5]
     refine wpAny_ready (rs:=[1]) (by kernel_rfl) (by simp) ?_
     refine AllReady.cons (o:=⟨some 58,_,_,_,_,_⟩) rfl (fun K hK=>?_) AllReady.nil
     replace hK:=zH hK
     refine step_of_exec (by rfl) (kob_v HK0 1 _ (by rfl) (by rfl) (by rfl)) ?_
     refine hK.out _ _ ?_
     clear hK K
     try simp only[ap1,ap2,ap3,ap4,ap5]
     refine wpAny_ready (rs:=[5]) (by kernel_rfl) (by simp) ?_
     refine AllReady.cons (o:=⟨some 62,_,_,_,_,_⟩) rfl (fun K hK=>?_) AllReady.nil
     replace hK:=zH hK
     have HR2:=zH (Kn.own HK0.out 2 rfl).rd;refine step_more2 vaLay HK0 1 (by rfl) _ _ (by rfl) (by rfl) (by rfl) [v] (by rfl) (by rfl) HR2 HL2 (N:=j2+1) (zH (HN2.out _)) ?_;intro A9 c9 w7 HK';simp only[List.set] at HK';replace HK0:=HK';clear HK' HR2
     refine hK.out _ _ ?_
     clear hK K
     try simp only[ap1,ap2,ap3,ap4,ap5]
     refine wpAny_take (i:=6) (oi:=⟨some 63,_,_,_,_,_⟩) (v:=?_) rfl (by kernel_rfl) (by kernel_rfl) (by kernel_rfl) (fun _ _ _ h=>h) (Or.inl ⟨by rfl,?_⟩) ?_
     rotate_left
     ·(intro w;go_simp;try with_reducible rfl)
     try simp only[ap1,ap2,ap3,ap4,ap5]
     refine wpAny_ready (rs:=[7]) (by kernel_rfl) (by simp) ?_
     refine AllReady.cons (o:=⟨none,_,_,_,_,_⟩) rfl (fun K hK=>?_) AllReady.nil
     replace hK:=zH hK
     refine step_sov2 HK0 1 (by rfl) _ _ (by rfl) (by rfl) (by rfl) (by rfl) (ys++[v]) ?_;intro w8 HK';simp only[List.set] at HK';replace HK0:=zH (HK'.out.takeR 2);simp only[List.take] at HK0;clear HK'
     refine hK.out _ _ ?_
     clear hK K
     try simp only[ap1,ap2,ap3,ap4,ap5]
     refine wpAny_done (by kernel_rfl) ?_ _
     rotate_left
     all_goals
      have HQ2:=zH (HQr.out.more HP2.out)
      have HK1:=HK0
      clear HK HK0 HQr
      have HK:=HK1
      clear HK1
      go_wp2_with (first|refine zX (exec_add1 (j:=j2) _ (by rfl) (by rfl) hk3) ?_)
      exact⟨⟨j2+1,A9,c9,ys++[v],p2,d2,_,hlt,rfl,by omega,zH (HN2.out _),HQ2,HW,HK⟩,by simp[intOf];omega⟩
    case false=>
     have HQe2:=zH (HQr.out.fin hj (fun h=>by have:=HQq.out.2 h;cases this))
     have ue2:e2≤a7+8*2:=by omega
     clear HQr HQq HLx ub2
     go_wp2_with fail
     refine(HM5.out _ _ _ (HW.out.at HK.out) (by omega)).mono ?_;rintro e w1 ⟨N3,a9,b9,rfl,q1,u9,hk,m9⟩;obtain⟨W1,HW1,HK1⟩:=hk.join HW.out HK.out;replace HW:=HW1;replace HK:=HK1;have HQ9:=zH q1;clear HW1 HK1 hk q1;simp only[List.append_nil] at HK
     have m9':N3≤8:=by omega
     clear m9
     replace HK:=zH (HK.out.nilR rfLay)
     simp only[lcA,lnA] at HK
     go_upto_region 15 with fail
     go_loopw [8] (fun vi wr=>∃(j3:Nat) (A3:Option Addr) (c3:Nat) (zs:List Rf) (e3:Nat) (f3:Bool) (W2:World),j3≤N3∧vi=.int .i64 j3∧e3≤a9+j3*3∧Hid (zs.length=j3)∧Hid (Snp.Q (Snp.rep Snp.rfP j3) l a9 b9 zs e3 f3)∧Hid (Rsf g A n c l e3 f3 w W2)∧Hid (Kn w.heap.size W2 wr [(g1,63,obA ohZ),(g3,63,obA ⟨⟨nm,kd,cp,xs,ys,zs,rd,Mt.zero⟩,A1,j1,c1,A2,j2,c2,A3,j3,c3⟩)] [row prLay (.slice A1 j1 c1) xs,row vaLay (.slice A2 j2 c2) ys,row rfLay (.slice A3 j3 c3) zs])) (fun vi _=>N3-(intOf vi).toNat)
     case atStart=>exact⟨0,none,0,[],a9,b9,_,Nat.zero_le _,rfl,by omega,zH rfl,zH (Snp.Q.ret [] HQ9.out.le),HW,HK⟩
     case round=>
      clear HK HW
      obtain⟨j3,A3,c3,zs,e3,f3,W2,hj,rfl,ub3,HLx,HQr,HW,HK⟩:=hrel
      go_upto_region 15 with fail
      go_cut [75] (fun v wx=>∃q:Bool,v=.bool q∧Hid (q=true↔(j3<N3∧f3=false))∧Hid (Kn w.heap.size W2 wx [(g1,63,obA ohZ),(g3,63,obA ⟨⟨nm,kd,cp,xs,ys,zs,rd,Mt.zero⟩,A1,j1,c1,A2,j2,c2,A3,j3,c3⟩)] [row prLay (.slice A1 j1 c1) xs,row vaLay (.slice A2 j2 c2) ys,row rfLay (.slice A3 j3 c3) zs]))
      case first=>
       have hk1:(0:Int)≤(j3:Int):=by omega
       by_cases hlt:j3<N3
       ·have hk2:(j3:Int)<(N3:Int):=by omega
        cases f3
        ·go_wp2_with (first|go_big_skip|refine zX (exec_rfb HW HK _ (by rfl) (by rfl)) ?_)
         go_meet
         exact⟨true,rfl,zH (by simp[hlt]),HK⟩
        ·go_wp2_with (first|go_big_skip|refine zX (exec_rfb HW HK _ (by rfl) (by rfl)) ?_)
         go_meet
         exact⟨false,rfl,zH ⟨(fun h=>by cases h),fun h=>by cases h.2⟩,HK⟩
       ·have hk2:¬((j3:Int)<(N3:Int)):=by omega
        go_wp2_with (first|go_big_skip)
        go_meet
        exact⟨false,rfl,zH ⟨(fun h=>by cases h),fun h=>absurd h.1 hlt⟩,HK⟩
      case rest=>
      clear HK
      obtain⟨q,rfl,HQq,HK⟩:=hcut
      cases q
      case true=>
       obtain⟨hlt,rfl⟩:=HQq.out.1 rfl
       clear HQq
       have hk3:IntKind.i64.wrap ((j3:Int)+1)=((j3+1:Nat):Int):=by rw[IntKind.wrap_i64];omega
       have HN2:Hid (∀y:Rf,(zs++[y]).length=j3+1):=zH fun y=>by rw[List.length_append,HLx.out];rfl
       have HL2:Hid (zs.length+1≤9223372036854775807∧(zs.length+1)*rfLay.bytes≤211106232532992):=zH (by
        rw[HLx.out]
        refine⟨by omega,?_⟩
        show(j3+1)*24≤_
        omega)
       go_wp2_with fail
       have HK0:=zH HK.out.drew
       refine wp_region_any (by kernel_rfl) ?_
       change wpAny _ _ _ _ _ _ _ (World.drew _)
       refine wpAny_take (i:=0) (oi:=⟨some 78,_,_,_,_,_⟩) (v:=?_) rfl (by kernel_rfl) (by kernel_rfl) (by kernel_rfl) (fun _ _ _ h=>h) (Or.inl ⟨by rfl,?_⟩) ?_
       rotate_left
       ·(intro w;go_simp;try with_reducible rfl)
       try simp only[ap1,ap2,ap3,ap4,ap5]
       refine wpAny_take (i:=2) (oi:=⟨some 80,_,_,_,_,_⟩) (v:=?_) rfl (by kernel_rfl) (by kernel_rfl) (by kernel_rfl) (fun _ _ _ h=>h) (Or.inl ⟨by rfl,?_⟩) ?_
       rotate_left
       ·(intro w;go_simp;try with_reducible rfl)
       try simp only[ap1,ap2,ap3,ap4,ap5]
       refine wpAny_take (i:=4) (oi:=⟨some 82,_,_,_,_,_⟩) (v:=?_) rfl (by kernel_rfl) (by kernel_rfl) (by kernel_rfl) (fun _ _ _ h=>h) (Or.inl ⟨by rfl,?_⟩) ?_
       rotate_left
       ·(intro w;go_simp;try with_reducible rfl)
       try simp only[ap1,ap2,ap3,ap4,ap5]
       refine wpAny_take (i:=6) (oi:=⟨some 84,_,_,_,_,_⟩) (v:=?_) rfl (by kernel_rfl) (by kernel_rfl) (by kernel_rfl) (fun _ _ _ h=>h) (Or.inl ⟨by rfl,?_⟩) ?_
       rotate_left
       ·(intro w;go_simp;try with_reducible rfl)
       try simp only[ap1,ap2,ap3,ap4,ap5]
       refine wpAny_ready (rs:=[1,3]) (by kernel_rfl) (by simp) ?_
       refine AllReady.cons (o:=⟨some 79,_,_,_,_,_⟩) rfl (fun K hK=>?_) (AllReady.cons (o:=⟨some 81,_,_,_,_,_⟩) rfl (fun K hK=>?_) AllReady.nil)
       replace hK:=zH hK
       refine step_of_exec (by rfl) (kob_r HK0 1 _ (by rfl) (by rfl) (by rfl)) ?_
       refine hK.out _ _ ?_
       clear hK K
       try simp only[ap1,ap2,ap3,ap4,ap5]
       refine wpAny_ready (rs:=[3]) (by kernel_rfl) (by simp) ?_
       refine AllReady.cons (o:=⟨some 81,_,_,_,_,_⟩) rfl (fun K hK=>?_) AllReady.nil
       replace hK:=zH hK
       go_simp
       go_at_call 53
       refine(HN_.out _ _ _ (HW.out.at HK0.out) (by omega)).mono ?_;rintro e w5 ⟨y1,p1,d1,rfl,q1,v1,hk⟩;obtain⟨W1,HW1,HK1⟩:=hk.join HW.out HK0.out;replace HW:=HW1;replace HK0:=HK1;have HP1:=zH q1;clear HW1 HK1 hk q1;simp only[List.append_nil] at HK0
       refine hK.out _ _ ?_
       clear hK K
       try simp only[ap1,ap2,ap3,ap4,ap5]
       refine wpAny_ready (rs:=[5]) (by kernel_rfl) (by simp) ?_
       refine AllReady.cons (o:=⟨some 83,_,_,_,_,_⟩) rfl (fun K hK=>?_) AllReady.nil
       replace hK:=zH hK
       go_simp
       go_at_call 53
       refine(HN_.out _ _ _ (HW.out.at HK0.out) (by omega)).mono ?_;rintro e w5 ⟨y2,p2,d2,rfl,q1,v2,hk⟩;obtain⟨W1,HW1,HK1⟩:=hk.join HW.out HK0.out;replace HW:=HW1;replace HK0:=HK1;have HP2:=zH q1;clear HW1 HK1 hk q1;simp only[List.append_nil] at HK0
       refine hK.out _ _ ?_
       clear hK K
       try simp only[ap1,ap2,ap3,ap4,ap5]
       refine wpAny_ready (rs:=[7]) (by kernel_rfl) (by simp) ?_
       refine AllReady.cons (o:=⟨some 85,_,_,_,_,_⟩) rfl (fun K hK=>?_) AllReady.nil
       replace hK:=zH hK
       go_simp
       go_at_call 53
       refine(HN_.out _ _ _ (HW.out.at HK0.out) (by omega)).mono ?_;rintro e w5 ⟨y3,p3,d3,rfl,q1,v3,hk⟩;obtain⟨W1,HW1,HK1⟩:=hk.join HW.out HK0.out;replace HW:=HW1;replace HK0:=HK1;have HP3:=zH q1;clear HW1 HK1 hk q1;simp only[List.append_nil] at HK0
       refine hK.out _ _ ?_
       clear hK K
       try simp only[ap1,ap2,ap3,ap4,ap5]
       refine wpAny_take (i:=8) (oi:=⟨some 86,_,_,_,_,_⟩) (v:=?_) rfl (by kernel_rfl) (by kernel_rfl) (by kernel_rfl) (fun _ _ _ h=>h) (Or.inl ⟨by rfl,?_⟩) ?_
       rotate_left
       ·(intro w;go_simp;try with_reducible rfl)
       try simp only[ap1,ap2,ap3,ap4,ap5]
       refine wpAny_ready (rs:=[9]) (by kernel_rfl) (by simp) ?_
       refine AllReady.cons (o:=⟨some 87,_,_,_,_,_⟩) rfl (fun K hK=>?_) AllReady.nil
       replace hK:=zH hK
       refine step_mk1 rfLay (p:=(⟨y1,y2,y3⟩:Rf)) HK0 (by decide) (by rfl) _ (by rfl) (by rfl) (by rfl) ?_;intro w6 g5 HK' _;simp only[lcA,lnA] at HK';replace HK0:=HK';clear HK'
       refine hK.out _ _ ?_
       clear hK K
       try simp only[ap1,ap2,ap3,ap4,ap5]
       refine wpAny_ready (rs:=[10]) (by kernel_rfl) (by simp) ?_
       refine AllReady.cons (o:=⟨some 88,_,_,_,_,_⟩) rfl (fun K hK=>?_) AllReady.nil
       replace hK:=zH hK
       have HR2:=zH (Kn.own HK0.out 3 rfl).rd;refine step_more2 rfLay HK0 2 (by rfl) _ _ (by rfl) (by rfl) (by rfl) [(⟨y1,y2,y3⟩:Rf)] (by rfl) (by rfl) HR2 HL2 (N:=j3+1) (zH (HN2.out _)) ?_;intro A9 c9 w7 HK';simp only[List.set] at HK';replace HK0:=HK';clear HK' HR2
       refine hK.out _ _ ?_
       clear hK K
       try simp only[ap1,ap2,ap3,ap4,ap5]
       refine wpAny_take (i:=11) (oi:=⟨some 89,_,_,_,_,_⟩) (v:=?_) rfl (by kernel_rfl) (by kernel_rfl) (by kernel_rfl) (fun _ _ _ h=>h) (Or.inl ⟨by rfl,?_⟩) ?_
       rotate_left
       ·(intro w;go_simp;try with_reducible rfl)
       try simp only[ap1,ap2,ap3,ap4,ap5]
       refine wpAny_ready (rs:=[12]) (by kernel_rfl) (by simp) ?_
       refine AllReady.cons (o:=⟨none,_,_,_,_,_⟩) rfl (fun K hK=>?_) AllReady.nil
       replace hK:=zH hK
       refine step_sor2 HK0 1 (by rfl) _ _ (by rfl) (by rfl) (by rfl) (by rfl) (zs++[(⟨y1,y2,y3⟩:Rf)]) ?_;intro w8 HK';simp only[List.set] at HK';replace HK0:=zH (HK'.out.takeR 3);simp only[List.take] at HK0;clear HK'
       refine hK.out _ _ ?_
       clear hK K
       try simp only[ap1,ap2,ap3,ap4,ap5]
       refine wpAny_done (by kernel_rfl) ?_ _
       rotate_left
       replace hK:=zH hK
       go_simp
       go_at_call 53
       refine(HN_.out _ _ _ (HW.out.at HK0.out) (by omega)).mono ?_;rintro e w5 ⟨y1,p1,d1,rfl,q1,v1,hk⟩;obtain⟨W1,HW1,HK1⟩:=hk.join HW.out HK0.out;replace HW:=HW1;replace HK0:=HK1;have HP1:=zH q1;clear HW1 HK1 hk q1;simp only[List.append_nil] at HK0
       refine hK.out _ _ ?_
       clear hK K
       try simp only[ap1,ap2,ap3,ap4,ap5]
       refine wpAny_ready (rs:=[1,5]) (by kernel_rfl) (by simp) ?_
       refine AllReady.cons (o:=⟨some 79,_,_,_,_,_⟩) rfl (fun K hK=>?_) (AllReady.cons (o:=⟨some 83,_,_,_,_,_⟩) rfl (fun K hK=>?_) AllReady.nil)
       replace hK:=zH hK
       refine step_of_exec (by rfl) (kob_r HK0 1 _ (by rfl) (by rfl) (by rfl)) ?_
       refine hK.out _ _ ?_
       clear hK K
       try simp only[ap1,ap2,ap3,ap4,ap5]
       refine wpAny_ready (rs:=[5]) (by kernel_rfl) (by simp) ?_
       refine AllReady.cons (o:=⟨some 83,_,_,_,_,_⟩) rfl (fun K hK=>?_) AllReady.nil
       replace hK:=zH hK
       go_simp
       go_at_call 53
       refine(HN_.out _ _ _ (HW.out.at HK0.out) (by omega)).mono ?_;rintro e w5 ⟨y2,p2,d2,rfl,q1,v2,hk⟩;obtain⟨W1,HW1,HK1⟩:=hk.join HW.out HK0.out;replace HW:=HW1;replace HK0:=HK1;have HP2:=zH q1;clear HW1 HK1 hk q1;simp only[List.append_nil] at HK0
       refine hK.out _ _ ?_
       clear hK K
       try simp only[ap1,ap2,ap3,ap4,ap5]
       refine wpAny_ready (rs:=[7]) (by kernel_rfl) (by simp) ?_
       refine AllReady.cons (o:=⟨some 85,_,_,_,_,_⟩) rfl (fun K hK=>?_) AllReady.nil
       replace hK:=zH hK
       go_simp
       go_at_call 53
       refine(HN_.out _ _ _ (HW.out.at HK0.out) (by omega)).mono ?_;rintro e w5 ⟨y3,p3,d3,rfl,q1,v3,hk⟩;obtain⟨W1,HW1,HK1⟩:=hk.join HW.out HK0.out;replace HW:=HW1;replace HK0:=HK1;have HP3:=zH q1;clear HW1 HK1 hk q1;simp only[List.append_nil] at HK0
       refine hK.out _ _ ?_
       clear hK K
       try simp only[ap1,ap2,ap3,ap4,ap5]
       refine wpAny_take (i:=8) (oi:=⟨some 86,_,_,_,_,_⟩) (v:=?_) rfl (by kernel_rfl) (by kernel_rfl) (by kernel_rfl) (fun _ _ _ h=>h) (Or.inl ⟨by rfl,?_⟩) ?_
       rotate_left
       ·(intro w;go_simp;try with_reducible rfl)
       try simp only[ap1,ap2,ap3,ap4,ap5]
       refine wpAny_ready (rs:=[9]) (by kernel_rfl) (by simp) ?_
       refine AllReady.cons (o:=⟨some 87,_,_,_,_,_⟩) rfl (fun K hK=>?_) AllReady.nil
       replace hK:=zH hK
       refine step_mk1 rfLay (p:=(⟨y1,y2,y3⟩:Rf)) HK0 (by decide) (by rfl) _ (by rfl) (by rfl) (by rfl) ?_;intro w6 g5 HK' _;simp only[lcA,lnA] at HK';replace HK0:=HK';clear HK'
       refine hK.out _ _ ?_
       clear hK K
       try simp only[ap1,ap2,ap3,ap4,ap5]
       refine wpAny_ready (rs:=[10]) (by kernel_rfl) (by simp) ?_
       refine AllReady.cons (o:=⟨some 88,_,_,_,_,_⟩) rfl (fun K hK=>?_) AllReady.nil
       replace hK:=zH hK
       have HR2:=zH (Kn.own HK0.out 3 rfl).rd;refine step_more2 rfLay HK0 2 (by rfl) _ _ (by rfl) (by rfl) (by rfl) [(⟨y1,y2,y3⟩:Rf)] (by rfl) (by rfl) HR2 HL2 (N:=j3+1) (zH (HN2.out _)) ?_;intro A9 c9 w7 HK';simp only[List.set] at HK';replace HK0:=HK';clear HK' HR2
       refine hK.out _ _ ?_
       clear hK K
       try simp only[ap1,ap2,ap3,ap4,ap5]
       refine wpAny_take (i:=11) (oi:=⟨some 89,_,_,_,_,_⟩) (v:=?_) rfl (by kernel_rfl) (by kernel_rfl) (by kernel_rfl) (fun _ _ _ h=>h) (Or.inl ⟨by rfl,?_⟩) ?_
       rotate_left
       ·(intro w;go_simp;try with_reducible rfl)
       try simp only[ap1,ap2,ap3,ap4,ap5]
       refine wpAny_ready (rs:=[12]) (by kernel_rfl) (by simp) ?_
       refine AllReady.cons (o:=⟨none,_,_,_,_,_⟩) rfl (fun K hK=>?_) AllReady.nil
       replace hK:=zH hK
       refine step_sor2 HK0 1 (by rfl) _ _ (by rfl) (by rfl) (by rfl) (by rfl) (zs++[(⟨y1,y2,y3⟩:Rf)]) ?_;intro w8 HK';simp only[List.set] at HK';replace HK0:=zH (HK'.out.takeR 3);simp only[List.take] at HK0;clear HK'
       refine hK.out _ _ ?_
       clear hK K
       try simp only[ap1,ap2,ap3,ap4,ap5]
       refine wpAny_done (by kernel_rfl) ?_ _
       rotate_left
       replace hK:=zH hK
       go_simp
       go_at_call 53
       refine(HN_.out _ _ _ (HW.out.at HK0.out) (by omega)).mono ?_;rintro e w5 ⟨y2,p2,d2,rfl,q1,v2,hk⟩;obtain⟨W1,HW1,HK1⟩:=hk.join HW.out HK0.out;replace HW:=HW1;replace HK0:=HK1;have HP2:=zH q1;clear HW1 HK1 hk q1;simp only[List.append_nil] at HK0
       refine hK.out _ _ ?_
       clear hK K
       try simp only[ap1,ap2,ap3,ap4,ap5]
       refine wpAny_ready (rs:=[1,7]) (by kernel_rfl) (by simp) ?_
       refine AllReady.cons (o:=⟨some 79,_,_,_,_,_⟩) rfl (fun K hK=>?_) (AllReady.cons (o:=⟨some 85,_,_,_,_,_⟩) rfl (fun K hK=>?_) AllReady.nil)
       replace hK:=zH hK
       refine step_of_exec (by rfl) (kob_r HK0 1 _ (by rfl) (by rfl) (by rfl)) ?_
       refine hK.out _ _ ?_
       clear hK K
       try simp only[ap1,ap2,ap3,ap4,ap5]
       refine wpAny_ready (rs:=[7]) (by kernel_rfl) (by simp) ?_
       refine AllReady.cons (o:=⟨some 85,_,_,_,_,_⟩) rfl (fun K hK=>?_) AllReady.nil
       replace hK:=zH hK
       go_simp
       go_at_call 53
       refine(HN_.out _ _ _ (HW.out.at HK0.out) (by omega)).mono ?_;rintro e w5 ⟨y3,p3,d3,rfl,q1,v3,hk⟩;obtain⟨W1,HW1,HK1⟩:=hk.join HW.out HK0.out;replace HW:=HW1;replace HK0:=HK1;have HP3:=zH q1;clear HW1 HK1 hk q1;simp only[List.append_nil] at HK0
       refine hK.out _ _ ?_
       clear hK K
       try simp only[ap1,ap2,ap3,ap4,ap5]
       refine wpAny_take (i:=8) (oi:=⟨some 86,_,_,_,_,_⟩) (v:=?_) rfl (by kernel_rfl) (by kernel_rfl) (by kernel_rfl) (fun _ _ _ h=>h) (Or.inl ⟨by rfl,?_⟩) ?_
       rotate_left
       ·(intro w;go_simp;try with_reducible rfl)
       try simp only[ap1,ap2,ap3,ap4,ap5]
       refine wpAny_ready (rs:=[9]) (by kernel_rfl) (by simp) ?_
       refine AllReady.cons (o:=⟨some 87,_,_,_,_,_⟩) rfl (fun K hK=>?_) AllReady.nil
       replace hK:=zH hK
       refine step_mk1 rfLay (p:=(⟨y1,y2,y3⟩:Rf)) HK0 (by decide) (by rfl) _ (by rfl) (by rfl) (by rfl) ?_;intro w6 g5 HK' _;simp only[lcA,lnA] at HK';replace HK0:=HK';clear HK'
       refine hK.out _ _ ?_
       clear hK K
       try simp only[ap1,ap2,ap3,ap4,ap5]
       refine wpAny_ready (rs:=[10]) (by kernel_rfl) (by simp) ?_
       refine AllReady.cons (o:=⟨some 88,_,_,_,_,_⟩) rfl (fun K hK=>?_) AllReady.nil
       replace hK:=zH hK
       have HR2:=zH (Kn.own HK0.out 3 rfl).rd;refine step_more2 rfLay HK0 2 (by rfl) _ _ (by rfl) (by rfl) (by rfl) [(⟨y1,y2,y3⟩:Rf)] (by rfl) (by rfl) HR2 HL2 (N:=j3+1) (zH (HN2.out _)) ?_;intro A9 c9 w7 HK';simp only[List.set] at HK';replace HK0:=HK';clear HK' HR2
       refine hK.out _ _ ?_
       clear hK K
       try simp only[ap1,ap2,ap3,ap4,ap5]
       refine wpAny_take (i:=11) (oi:=⟨some 89,_,_,_,_,_⟩) (v:=?_) rfl (by kernel_rfl) (by kernel_rfl) (by kernel_rfl) (fun _ _ _ h=>h) (Or.inl ⟨by rfl,?_⟩) ?_
       rotate_left
       ·(intro w;go_simp;try with_reducible rfl)
       try simp only[ap1,ap2,ap3,ap4,ap5]
       refine wpAny_ready (rs:=[12]) (by kernel_rfl) (by simp) ?_
       refine AllReady.cons (o:=⟨none,_,_,_,_,_⟩) rfl (fun K hK=>?_) AllReady.nil
       replace hK:=zH hK
       refine step_sor2 HK0 1 (by rfl) _ _ (by rfl) (by rfl) (by rfl) (by rfl) (zs++[(⟨y1,y2,y3⟩:Rf)]) ?_;intro w8 HK';simp only[List.set] at HK';replace HK0:=zH (HK'.out.takeR 3);simp only[List.take] at HK0;clear HK'
       refine hK.out _ _ ?_
       clear hK K
       try simp only[ap1,ap2,ap3,ap4,ap5]
       refine wpAny_done (by kernel_rfl) ?_ _
       rotate_left
       replace hK:=zH hK
       go_simp
       go_at_call 53
       refine(HN_.out _ _ _ (HW.out.at HK0.out) (by omega)).mono ?_;rintro e w5 ⟨y3,p3,d3,rfl,q1,v3,hk⟩;obtain⟨W1,HW1,HK1⟩:=hk.join HW.out HK0.out;replace HW:=HW1;replace HK0:=HK1;have HP3:=zH q1;clear HW1 HK1 hk q1;simp only[List.append_nil] at HK0
       refine hK.out _ _ ?_
       clear hK K
       try simp only[ap1,ap2,ap3,ap4,ap5]
       refine wpAny_take (i:=8) (oi:=⟨some 86,_,_,_,_,_⟩) (v:=?_) rfl (by kernel_rfl) (by kernel_rfl) (by kernel_rfl) (fun _ _ _ h=>h) (Or.inl ⟨by rfl,?_⟩) ?_
       rotate_left
       ·(intro w;go_simp;try with_reducible rfl)
       try simp only[ap1,ap2,ap3,ap4,ap5]
       refine wpAny_ready (rs:=[1,9]) (by kernel_rfl) (by simp) ?_
       refine AllReady.cons (o:=⟨some 79,_,_,_,_,_⟩) rfl (fun K hK=>?_) (AllReady.cons (o:=⟨some 87,_,_,_,_,_⟩) rfl (fun K hK=>?_) AllReady.nil)
       replace hK:=zH hK
       refine step_of_exec (by rfl) (kob_r HK0 1 _ (by rfl) (by rfl) (by rfl)) ?_
       refine hK.out _ _ ?_
       clear hK K
       try simp only[ap1,ap2,ap3,ap4,ap5]
       refine wpAny_ready (rs:=[9]) (by kernel_rfl) (by simp) ?_
       refine AllReady.cons (o:=⟨some 87,_,_,_,_,_⟩) rfl (fun K hK=>?_) AllReady.nil
       replace hK:=zH hK
       refine step_mk1 rfLay (p:=(⟨y1,y2,y3⟩:Rf)) HK0 (by decide) (by rfl) _ (by rfl) (by rfl) (by rfl) ?_;intro w6 g5 HK' _;simp only[lcA,lnA] at HK';replace HK0:=HK';clear HK'
       refine hK.out _ _ ?_
       clear hK K
       try simp only[ap1,ap2,ap3,ap4,ap5]
       refine wpAny_ready (rs:=[10]) (by kernel_rfl) (by simp) ?_
       refine AllReady.cons (o:=⟨some 88,_,_,_,_,_⟩) rfl (fun K hK=>?_) AllReady.nil
       replace hK:=zH hK
       have HR2:=zH (Kn.own HK0.out 3 rfl).rd;refine step_more2 rfLay HK0 2 (by rfl) _ _ (by rfl) (by rfl) (by rfl) [(⟨y1,y2,y3⟩:Rf)] (by rfl) (by rfl) HR2 HL2 (N:=j3+1) (zH (HN2.out _)) ?_;intro A9 c9 w7 HK';simp only[List.set] at HK';replace HK0:=HK';clear HK' HR2
       refine hK.out _ _ ?_
       clear hK K
       try simp only[ap1,ap2,ap3,ap4,ap5]
       refine wpAny_take (i:=11) (oi:=⟨some 89,_,_,_,_,_⟩) (v:=?_) rfl (by kernel_rfl) (by kernel_rfl) (by kernel_rfl) (fun _ _ _ h=>h) (Or.inl ⟨by rfl,?_⟩) ?_
       rotate_left
       ·(intro w;go_simp;try with_reducible rfl)
       try simp only[ap1,ap2,ap3,ap4,ap5]
       refine wpAny_ready (rs:=[12]) (by kernel_rfl) (by simp) ?_
       refine AllReady.cons (o:=⟨none,_,_,_,_,_⟩) rfl (fun K hK=>?_) AllReady.nil
       replace hK:=zH hK
       refine step_sor2 HK0 1 (by rfl) _ _ (by rfl) (by rfl) (by rfl) (by rfl) (zs++[(⟨y1,y2,y3⟩:Rf)]) ?_;intro w8 HK';simp only[List.set] at HK';replace HK0:=zH (HK'.out.takeR 3);simp only[List.take] at HK0;clear HK'
       refine hK.out _ _ ?_
       clear hK K
       try simp only[ap1,ap2,ap3,ap4,ap5]
       refine wpAny_done (by kernel_rfl) ?_ _
       rotate_left
       replace hK:=zH hK
       refine step_mk1 rfLay (p:=(⟨y1,y2,y3⟩:Rf)) HK0 (by decide) (by rfl) _ (by rfl) (by rfl) (by rfl) ?_;intro w6 g5 HK' _;simp only[lcA,lnA] at HK';replace HK0:=HK';clear HK'
       refine hK.out _ _ ?_
       clear hK K
       try simp only[ap1,ap2,ap3,ap4,ap5]
       refine wpAny_ready (rs:=[1]) (by kernel_rfl) (by simp) ?_
       refine AllReady.cons (o:=⟨some 79,_,_,_,_,_⟩) rfl (fun K hK=>?_) AllReady.nil
       replace hK:=zH hK
       refine step_of_exec (by rfl) (kob_r HK0 1 _ (by rfl) (by rfl) (by rfl)) ?_
       refine hK.out _ _ ?_
       clear hK K
       try simp only[ap1,ap2,ap3,ap4,ap5]
       refine wpAny_ready (rs:=[10]) (by kernel_rfl) (by simp) ?_
       refine AllReady.cons (o:=⟨some 88,_,_,_,_,_⟩) rfl (fun K hK=>?_) AllReady.nil
       replace hK:=zH hK
       have HR2:=zH (Kn.own HK0.out 3 rfl).rd;refine step_more2 rfLay HK0 2 (by rfl) _ _ (by rfl) (by rfl) (by rfl) [(⟨y1,y2,y3⟩:Rf)] (by rfl) (by rfl) HR2 HL2 (N:=j3+1) (zH (HN2.out _)) ?_;intro A9 c9 w7 HK';simp only[List.set] at HK';replace HK0:=HK';clear HK' HR2
       refine hK.out _ _ ?_
       clear hK K
       try simp only[ap1,ap2,ap3,ap4,ap5]
       refine wpAny_take (i:=11) (oi:=⟨some 89,_,_,_,_,_⟩) (v:=?_) rfl (by kernel_rfl) (by kernel_rfl) (by kernel_rfl) (fun _ _ _ h=>h) (Or.inl ⟨by rfl,?_⟩) ?_
       rotate_left
       ·(intro w;go_simp;try with_reducible rfl)
       try simp only[ap1,ap2,ap3,ap4,ap5]
       refine wpAny_ready (rs:=[12]) (by kernel_rfl) (by simp) ?_
       refine AllReady.cons (o:=⟨none,_,_,_,_,_⟩) rfl (fun K hK=>?_) AllReady.nil
       replace hK:=zH hK
       refine step_sor2 HK0 1 (by rfl) _ _ (by rfl) (by rfl) (by rfl) (by rfl) (zs++[(⟨y1,y2,y3⟩:Rf)]) ?_;intro w8 HK';simp only[List.set] at HK';replace HK0:=zH (HK'.out.takeR 3);simp only[List.take] at HK0;clear HK'
       refine hK.out _ _ ?_
       clear hK K
       try simp only[ap1,ap2,ap3,ap4,ap5]
       refine wpAny_done (by kernel_rfl) ?_ _
       rotate_left
       all_goals
        have HQ2:=zH (HQr.out.more (Snp.Q.bnd HP1.out (Snp.Q.bnd HP2.out (Snp.Q.bnd HP3.out (Snp.Q.ret _ HP3.out.le))):Snp.Q Snp.rfP l _ _ _ _ _))
        have HK1:=HK0
        clear HK HK0 HQr
        have HK:=HK1
        clear HK1
        go_wp2_with (first|refine zX (exec_add1 (j:=j3) _ (by rfl) (by rfl) hk3) ?_)
        exact⟨⟨j3+1,A9,c9,zs++[(⟨y1,y2,y3⟩:Rf)],p3,d3,_,hlt,rfl,by omega,zH (HN2.out _),HQ2,HW,HK⟩,by simp[intOf];omega⟩
      case false=>
       have HQe3:=zH (HQr.out.fin hj (fun h=>by have:=HQq.out.2 h;cases this))
       have ue3:e3≤a9+8*3:=by omega
       clear HQr HQq HLx ub3
       go_wp2_with fail
       refine(HN_.out _ _ _ (HW.out.at HK.out) (by omega)).mono ?_;rintro e w1 ⟨t1,s10,r10,rfl,q1,v10,hk⟩;obtain⟨W1,HW1,HK1⟩:=hk.join HW.out HK.out;replace HW:=HW1;replace HK:=HK1;have HR10:=zH q1;clear HW1 HK1 hk q1;simp only[List.append_nil] at HK
       go_wp2_with fail
       refine(HN_.out _ _ _ (HW.out.at HK.out) (by omega)).mono ?_;rintro e w1 ⟨t2,s11,r11,rfl,q1,v11,hk⟩;obtain⟨W1,HW1,HK1⟩:=hk.join HW.out HK.out;replace HW:=HW1;replace HK:=HK1;have HR11:=zH q1;clear HW1 HK1 hk q1;simp only[List.append_nil] at HK
       have hus1:=wrap_us2 t2
       go_wp2_with fail
       refine(HN_.out _ _ _ (HW.out.at HK.out) (by omega)).mono ?_;rintro e w1 ⟨t3,s12,r12,rfl,q1,v12,hk⟩;obtain⟨W1,HW1,HK1⟩:=hk.join HW.out HK.out;replace HW:=HW1;replace HK:=HK1;have HR12:=zH q1;clear HW1 HK1 hk q1;simp only[List.append_nil] at HK
       have hus2:=wrap_us2 t3
       go_wp2_with fail
       refine(HN_.out _ _ _ (HW.out.at HK.out) (by omega)).mono ?_;rintro e w1 ⟨t4,s13,r13,rfl,q1,v13,hk⟩;obtain⟨W1,HW1,HK1⟩:=hk.join HW.out HK.out;replace HW:=HW1;replace HK:=HK1;have HR13:=zH q1;clear HW1 HK1 hk q1;simp only[List.append_nil] at HK
       have hus3:=wrap_us2 t4
       go_wp2_with (first|(refine wpList_som (m:=⟨t1,Val.us t2,Val.us t3,Val.us t4⟩) HK 1 rfl _ _ rfl rfl rfl rfl ?_;intro _ HK';simp only[List.set] at HK';replace HK:=HK';clear HK')|refine zX (kob HK 1 _ (by rfl) (by rfl) (by rfl)) ?_|(refine wpList_sob (x:=ohZ) (y:=⟨⟨nm,kd,cp,xs,ys,zs,rd,⟨t1,Val.us t2,Val.us t3,Val.us t4⟩⟩,A1,j1,c1,A2,j2,c2,A3,j3,c3⟩) HK 0 rfl _ _ rfl rfl rfl rfl ?_;intro _ HK';simp only[List.set] at HK';replace HK:=HK';clear HK'))
       have HQm:Hid (Snp.Q Snp.mtP l e3 f3 (⟨t1,Val.us t2,Val.us t3,Val.us t4⟩:Mtr) s13 r13):=zH (Snp.Q.bnd HR10.out (Snp.Q.bnd (HR11.out.map Val.us) (Snp.Q.bnd (HR12.out.map Val.us) (Snp.Q.bnd (HR13.out.map Val.us) (Snp.Q.ret _ HR13.out.le)))))
       have HQa:Hid (Snp.Q (Snp.lst true 8 Snp.prP) l a4 b4 xs e1 f1):=zH ((Snp.Q.bnd HQ5.out HQe1.out).to (by rw[Snp.lst_cnt]))
       have HQb:Hid (Snp.Q (Snp.lst true 8 Snp.val) l e1 f1 ys e2 f2):=zH ((Snp.Q.bnd HQ7.out HQe2.out).to (by rw[Snp.lst_cnt]))
       have HQc:Hid (Snp.Q (Snp.lst true 5 Snp.rfP) l e2 f2 zs e3 f3):=zH ((Snp.Q.bnd HQ9.out HQe3.out).to (by rw[Snp.lst_cnt]))
       have HQo:Hid (Snp.Q (Snp.obP true) l a b (⟨nm,kd,cp,xs,ys,zs,rd,⟨t1,Val.us t2,Val.us t3,Val.us t4⟩⟩:Sto.Ob) s13 r13):=zH (Snp.Q.bnd HQ1.out (Snp.Q.bnd HQ2.out (Snp.Q.bnd HQ3.out (Snp.Q.bnd HQ4.out (Snp.Q.bnd HQa.out (Snp.Q.bnd HQb.out (Snp.Q.bnd HQc.out (Snp.Q.bnd HQm.out (Snp.Q.ret _ HQm.out.le)))))))))
       exact ret_c Tryz.results55 rfl rfl (HK.out.blk 0 rfl) Tryz.underlying63 info_ob ⟨(⟨⟨nm,kd,cp,xs,ys,zs,rd,⟨t1,Val.us t2,Val.us t3,Val.us t4⟩⟩,A1,j1,c1,A2,j2,c2,A3,j3,c3⟩:Oh),s13,r13,rfl,HQo.out,by omega,Rof.mk HW.out HK.out⟩
end
end Go.Proofs.YtieoeendnccafaaGreat
