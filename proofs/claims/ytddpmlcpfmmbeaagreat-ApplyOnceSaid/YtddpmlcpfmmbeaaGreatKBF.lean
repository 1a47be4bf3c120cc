/- What Drop returns at a gate. No condition but those named. -/
import Derived.Test.YtddpmlcpfmmbeaaGreatTk
import Derived.Test.YtddpmlcpfmmbeaaGreatKBE
import Derived.Test.YtddpmlcpfmmbeaaGreatKAQ
import Derived.Test.YtddpmlcpfmmbeaaGreatKAL
import Derived.Test.YtddpmlcpfmmbeaaGreatKBD
import Derived.Test.YtddpmlcpfmmbeaaGreatKAM
import Derived.Test.YtddpmlcpfmmbeaaGreatKAW
import Derived.Test.YtddpmlcpfmmbeaaGreatKBC
import Derived.Test.YtddpmlcpfmmbeaaGreatKAK
import Derived.Test.YtddpmlcpfmmbeaaGreatKAU
import Derived.Test.YtddpmlcpfmmbeaaGreatKAX
import Derived.Deep.DeepCutAuto
set_option linter.unusedSimpArgs false
set_option linter.unusedVariables false
set_option maxRecDepth 100000
set_option maxHeartbeats 25600000
namespace Go.Proofs.YtddpmlcpfmmbeaaGreat
section
open Go.RowKit
theorem send_all(t:Ses.T)(r:Rf)(x:Sto.Rp)(w:World)(hf:Ses.Fit t)(hx:x.v.f<18446744073709551616):Calls Tryz.prog 87 #[.agg (tbA t),.agg #[.int .i64 r.c,.int .i64 r.e,.int .i64 r.r],.agg (rpA x)] w (IsT (Ses.endT t r x) w):=by
 have HL:=zH (fun W=>slook_all t r W hf)
 have HK:=kn3 w 31 (tbA t) 35 #[.int .i64 r.c,.int .i64 r.e,.int .i64 r.r] 28 (rpA x)
 have HP:=zH (fun W=>sreply_any x W hx)
 have HY:=zH (fun h1 h2=>Ses.end_yes (t:=t) (r:=r) (x:=x) h1 h2)
 have HN1:=zH (fun h=>Ses.end_no1 (t:=t) (r:=r) (x:=x) h)
 have HN2:=zH (fun h=>Ses.end_no2 (t:=t) (r:=r) (x:=x) h)
 have HC:=zH (fun h=>Ses.look_c (t:=t) (r:=r) (k:=3) h (by decide))
 have HD:=zH (fun W=>sdone_any (t.get r.c) x W)
 unfold IsT
 unfold IsInt at HL
 unfold IsB at HP
 unfold IsS at HD
 clear hf hx
 have H3:=Ses.lookW_3 t r
 generalize Ses.lookW t r=z at *
 generalize Ses.endT t r x=y at *
 generalize Sto.rep x=b2 at *
 generalize h1:decide (Ses.look t r=3)=b1 at *
 have H1:=zH H3
 have H9:=zH h1
 clear h1 H3
 cases b1
 case false=>
  have HX:=zH (HN1.out (by simp))
  go_enter Tryz.func87,Tryz.ntmps87
  go_wp2_with (first|refine wpList_exe (ktb HK 0 _ (by rfl) (by rfl) (by rfl)) (by rfl) ?_|refine wpList_exe (kexec_lr HK 1 _ (by rfl) (by rfl) (by rfl)) (by rfl) ?_|(refine wpList_atb HK rfl rfl ?_;intro _ g1 HK';simp only[lcA,lnA] at HK';replace HK:=HK';clear HK'))
  refine(HL.out _).mono ?_;rintro e w1 ⟨rfl,b1⟩
  replace HK:=hkC HK b1;clear b1
  go_wp2_with (first|refine wpList_exe (exec_iE (m:=z) (n:=3) _ _ (by rfl) (by rfl) (by rfl) H1.out) (by rfl) ?_|refine wpList_exe (ktb HK 0 _ (by rfl) (by rfl) (by rfl)) (by rfl) ?_|(refine wpList_stb (t2:=t) HK 3 rfl _ _ rfl rfl rfl rfl ?_;intro _ HK';simp only[List.set] at HK';replace HK:=HK';clear HK'))
  rw[← HX.out] at HK
  exact ret_tb Tryz.results87 rfl rfl (HK.out.blk 3 rfl) ⟨rfl,HK.out.b⟩
 have hc:=HC.out (of_decide_eq_true H9.out)
 go_enter Tryz.func87,Tryz.ntmps87
 go_wp2_with (first|refine wpList_exe (ktb HK 0 _ (by rfl) (by rfl) (by rfl)) (by rfl) ?_|refine wpList_exe (kexec_lr HK 1 _ (by rfl) (by rfl) (by rfl)) (by rfl) ?_|(refine wpList_atb HK rfl rfl ?_;intro _ g1 HK';simp only[lcA,lnA] at HK';replace HK:=HK';clear HK'))
 refine(HL.out _).mono ?_;rintro e w1 ⟨rfl,b1⟩
 replace HK:=hkC HK b1;clear b1
 go_wp2_with (first|refine wpList_exe (exec_iE (m:=z) (n:=3) _ _ (by rfl) (by rfl) (by rfl) H1.out) (by rfl) ?_|refine wpList_exe (krp HK 2 _ (by rfl) (by rfl) (by rfl)) (by rfl) ?_)
 refine(HP.out _).mono ?_;rintro e w1 ⟨rfl,b1⟩
 replace HK:=hkC HK b1;clear b1
 cases b2
 case false=>
  have HX:=zH (HN2.out (by simp))
  go_wp2_with (first|refine wpList_exe (ktb HK 0 _ (by rfl) (by rfl) (by rfl)) (by rfl) ?_|(refine wpList_stb (t2:=t) HK 3 rfl _ _ rfl rfl rfl rfl ?_;intro _ HK';simp only[List.set] at HK';replace HK:=HK';clear HK'))
  rw[← HX.out] at HK
  exact ret_tb Tryz.results87 rfl rfl (HK.out.blk 3 rfl) ⟨rfl,HK.out.b⟩
 have HX:=zH (HY.out (by simp) (by simp))
 go_upto_region 2 with fail
 have HK0:=zH HK.out.drew
 clear HK
 refine wp_region_held_drew (S:=(fun W=>Hid (Kn w.heap.size w W [(w.heap.size+1,35,#[.int .i64 r.c,.int .i64 r.e,.int .i64 r.r]),(w.heap.size+2,28,rpA x),(g1,31,tbA tz)] []))) (by kernel_rfl) ?_ (fun hHeld=>?_)
 ·(try dsimp only);exact zH (HK0.out.dropL 1)
 refine wpAnyH_take (i:=0) (oi:=⟨some 15,_,_,_,_,_⟩) (v:=?_) rfl (by kernel_rfl) (by kernel_rfl) (by kernel_rfl) (fun _ _ _ h=>h) (Or.inl ⟨by rfl,?_⟩) (by assumption) ?_
 rotate_left
 ·(intro w hSw;(try dsimp only at hSw);go_simp;try with_reducible rfl)
 try simp only[Act.put,List.setIfInBounds_toArray,List.set_cons_zero,List.set_cons_succ]
 refine wpAnyH_take (i:=1) (oi:=⟨some 16,_,_,_,_,_⟩) (v:=?_) rfl (by kernel_rfl) (by kernel_rfl) (by kernel_rfl) (fun _ _ _ h=>h) (Or.inl ⟨by rfl,?_⟩) (by assumption) ?_
 rotate_left
 ·(intro w hSw;refine Eq.trans (krf_c (x:=r) hSw 0 _ (by rfl) (by rfl) (by rfl)) ?_;with_reducible rfl)
 try simp only[Act.put,List.setIfInBounds_toArray,List.set_cons_zero,List.set_cons_succ]
 refine wpAnyH_take (i:=2) (oi:=⟨some 17,_,_,_,_,_⟩) (v:=?_) rfl (by kernel_rfl) (by kernel_rfl) (by kernel_rfl) (fun _ _ _ h=>h) (Or.inl ⟨by rfl,?_⟩) (by assumption) ?_
 rotate_left
 ·(intro w hSw;(try dsimp only at hSw);go_simp;try with_reducible rfl)
 try simp only[Act.put,List.setIfInBounds_toArray,List.set_cons_zero,List.set_cons_succ]
 refine wpAnyH_take (i:=3) (oi:=⟨some 18,_,_,_,_,_⟩) (v:=?_) rfl (by kernel_rfl) (by kernel_rfl) (by kernel_rfl) (fun _ _ _ h=>h) (Or.inl ⟨by rfl,?_⟩) (by assumption) ?_
 rotate_left
 ·(intro w hSw;refine Eq.trans (krf_c (x:=r) hSw 0 _ (by rfl) (by rfl) (by rfl)) ?_;with_reducible rfl)
 try simp only[Act.put,List.setIfInBounds_toArray,List.set_cons_zero,List.set_cons_succ]
 refine wpAnyH_take (i:=4) (oi:=⟨some 19,_,_,_,_,_⟩) (v:=?_) rfl (by kernel_rfl) (by kernel_rfl) (by kernel_rfl) (fun _ _ _ h=>h) (Or.inl ⟨by rfl,?_⟩) (by assumption) ?_
 rotate_left
 ·(intro w hSw;refine Eq.trans (exec_ixt hc _ _ (by rfl) (by rfl) (by rfl)) ?_;with_reducible rfl)
 try simp only[Act.put,List.setIfInBounds_toArray,List.set_cons_zero,List.set_cons_succ]
 refine wpAnyH_take (i:=6) (oi:=⟨some 21,_,_,_,_,_⟩) (v:=?_) rfl (by kernel_rfl) (by kernel_rfl) (by kernel_rfl) (fun _ _ _ h=>h) (Or.inl ⟨by rfl,?_⟩) (by assumption) ?_
 rotate_left
 ·(intro w hSw;refine Eq.trans (krp hSw 1 _ (by rfl) (by rfl) (by rfl)) ?_;with_reducible rfl)
 try simp only[Act.put,List.setIfInBounds_toArray,List.set_cons_zero,List.set_cons_succ]
 refine wpAnyH_ready (rs:=[5]) (by kernel_rfl) (by simp) ?_
 refine AllReadyH.cons (o:=⟨some 20,_,_,_,_,_⟩) rfl (fun K hK=>?_) AllReadyH.nil
 refine step_of_exec (by rfl) (kts HK0 0 hc _ (by rfl) (by rfl) (by rfl)) ?_;have hs:=hHeld
 refine hK.out _ _ hs (fun hHeld=>?_)
 clear hK K
 try simp only[ap1,ap2,ap3,ap4,ap5]
 refine wpAnyH_ready (rs:=[7]) (by kernel_rfl) (by simp) ?_
 refine AllReadyH.cons (o:=⟨some 22,_,_,_,_,_⟩) rfl (fun K hK=>?_) AllReadyH.nil
 go_simp
 go_at_call 128
 refine(HD.out _).mono ?_;rintro e w5 ⟨rfl,b5⟩;have hs:=zH (hHeld.out.call b5);replace HK0:=zH (HK0.out.call b5);clear b5
 refine hK.out _ _ hs (fun hHeld=>?_)
 clear hK K
 try simp only[ap1,ap2,ap3,ap4,ap5]
 refine wpAnyH_take (i:=8) (oi:=⟨some 23,_,_,_,_,_⟩) (v:=?_) rfl (by kernel_rfl) (by kernel_rfl) (by kernel_rfl) (fun _ _ _ h=>h) (Or.inl ⟨by rfl,?_⟩) (by assumption) ?_
 rotate_left
 ·(intro w hSw;refine Eq.trans (exec_ixt hc _ _ (by rfl) (by rfl) (by rfl)) ?_;with_reducible rfl)
 try simp only[Act.put,List.setIfInBounds_toArray,List.set_cons_zero,List.set_cons_succ]
 refine wpAnyH_ready (rs:=[9]) (by kernel_rfl) (by simp) ?_
 refine AllReadyH.cons (o:=⟨none,_,_,_,_,_⟩) rfl (fun K hK=>?_) AllReadyH.nil
 refine step_tss (s:={ t.get r.c with dn:=true,p:=x }) HK0 0 (by rfl) hc _ _ (by rfl) (by rfl) (by rfl) (by rfl) ?_;intro w6 HK';simp only[List.set] at HK';replace HK0:=HK';clear HK';have hs:=zH (HK0.out.dropL 1)
 refine hK.out _ _ hs (fun hHeld=>?_)
 clear hK K
 try simp only[ap1,ap2,ap3,ap4,ap5]
 refine wpAnyH_done (by kernel_rfl) ?_ _
 have HK:=HK0
 clear HK0 hHeld
 go_wp2_with (first|refine wpList_exe (ktb HK 0 _ (by rfl) (by rfl) (by rfl)) (by rfl) ?_|(refine wpList_stb  HK 3 rfl _ _ rfl rfl rfl rfl ?_;intro _ HK';simp only[List.set] at HK';replace HK:=HK';clear HK'))
 rw[← HX.out] at HK
 exact ret_tb Tryz.results87 rfl rfl (HK.out.blk 3 rfl) ⟨rfl,HK.out.b⟩
end
section
open Go.RowKit
theorem info_ots:(Tryz.prog.info? 41).map (fun i=>(i.zero,i.size))=some (some (Value.slice none 0 0),1):=by kernel_rfl
def otNest:Nest otLay where
 tt:=152
 und:=Tryz.underlying152
 info:=info_ots
section
variable {b0:Nat}{w0 w:World}{L:List (Nat×TypeId×Array Value)}{R:List RowE}{ops:Array Oper}{rest:List Oper}{o:Oper}{a:Act}{Q:Exit→Act→World→Prop}{g:Nat}{y z:Sto.Ot}
theorem wpList_aot(HK:Hid (Kn b0 w0 w L R))(hgd:o.guard=none)(ho:o.op=.alloc 64)
  (h:∀w' g,Hid (Kn b0 w0 w' (L++[(g,64,otA otZ)]) R)→wpList Tryz.prog ops Q rest (a.put o.dst (.pointer (some ⟨g,0,none⟩))) w'):wpList Tryz.prog ops Q (o::rest) a w:=
 wpList_plain hgd fun _ hK=>kwp_made info_otl HK ho fun w' g h1 _=>hK _ _ (h w' g h1)
theorem wpList_sot(HK:Hid (Kn b0 w0 w L R))(i:Nat)(hgd:o.guard=none)(p q:Operand)(ho:o.op=.store 64 p q)(hL:L[i]?=some (g,64,otA y))(hx:a.eval p=.pointer (some ⟨g,0,none⟩))(hy:a.eval q=.agg (otA z))
  (h:∀w',Hid (Kn b0 w0 w' (L.set i (g,64,otA z)) R)→wpList Tryz.prog ops Q rest (a.put o.dst undef) w'):wpList Tryz.prog ops Q (o::rest) a w:=
 wpList_plain hgd fun _ hK=>kwp_ss HK _ p q ho i hL hx hy (by show 8≤8;decide) info_ot (by simp[otA,Value.oneCell']) fun w' h1 _=>hK _ _ (h w' (by
  have e:putCells (otA y) 0 (otA z).toList=otA z:=by rw[putCells_all (vs:=(otA z).toList) (cs:=otA y) rfl,Array.toArray_toList]
  rw[e] at h1
  exact h1))
theorem kot_r(HK:Hid (Kn b0 w0 w L R))(i:Nat)(p:Operand)(ho:o.op=.load 35 p)(hL:L[i]?=some (g,64,otA y))(hx:a.eval p=.pointer (some ⟨g,0,none⟩)):
  (execOp a.eval o).run Tryz.prog w=.ok (.value (.agg #[.int .i64 y.r.c,.int .i64 y.r.e,.int .i64 y.r.r])) w:=
 kexec_lw HK _ p ho i hL hx #[.int .i64 y.r.c,.int .i64 y.r.e,.int .i64 y.r.r] (fun j hj=>by
  match j,hj with
  | 0,_|1,_|2,_=>rfl) Tryz.underlying35 rfl info_rf3
theorem kot_p(HK:Hid (Kn b0 w0 w L R))(i:Nat)(p:Operand)(ho:o.op=.load 28 p)(hL:L[i]?=some (g,64,otA y))(hx:a.eval p=.pointer (some ⟨g,3,none⟩)):
  (execOp a.eval o).run Tryz.prog w=.ok (.value (.agg (rpA y.p))) w:=
 kexec_lw HK _ p ho i hL hx (rpA y.p) (fun j hj=>by
  match j,hj with
  | 0,_|1,_|2,_|3,_|4,_=>rfl) Tryz.underlying28 rfl info_rp
end
theorem aptold_any(r:Rf)(p:Sto.Rp)(w:World):Calls Tryz.prog 25 #[.agg #[.int .i64 r.c,.int .i64 r.e,.int .i64 r.r],.agg (rpA p)] w (IsLg otLay [⟨r,p⟩] w):=by
 have HK:=kn2 w 35 #[.int .i64 r.c,.int .i64 r.e,.int .i64 r.r] 28 (rpA p)
 unfold IsLg
 go_enter Tryz.func25,Tryz.ntmps25
 go_wp2_with (first|refine wpList_exe (kexec_lr HK 0 _ (by rfl) (by rfl) (by rfl)) (by rfl) ?_|refine wpList_exe (krp HK 1 _ (by rfl) (by rfl) (by rfl)) (by rfl) ?_|refine wpList_exe (exec_bo2 (r:=r) (p:=p) _ _ (by rfl) (by rfl) (by rfl)) (by rfl) ?_|(refine wpList_mk1 otLay (p:=⟨r,p⟩) HK (by decide) rfl _ rfl rfl rfl ?_;intro _ g7 HK';simp only[lnA] at HK';replace HK:=HK';clear HK'))
 go_ret
 exact⟨_,_,_,rfl,HK.out.own 0 rfl,HK.out.b⟩
theorem finish_any(n:Int)(A:Option Addr)(k cp:Nat)(t:Ses.T)(O:Option Addr)(m d:Nat)(os:List Sto.Ot)(w:World)(hf:Ses.Fit t)(hs:Sls otLay tF w O m d os)(ho:∀y∈os,y.p.v.f<18446744073709551616):
  Calls Tryz.prog 53 #[.agg (stA n A k cp t),.slice O m d] w (fun e w'=>e=.returned (.tuple #[.agg (stA n A k cp (Ap.ends t (Ap.prs os))),.slice O m d])∧Below w.heap.size w w'):=by
 have HS:=zH hs
 have HFo:=zH ho
 have HFt:=zH hf
 have HK:=kn1 w 33 (stA n A k cp t)
 have HEn:Hid (Ap.ends t (Ap.prs (os.drop 0))=Ap.ends t (Ap.prs os)):=zH rfl
 have hn63:m<9223372036854775807:=by
  have h:m*72≤140737488355328:=hs.big
  omega
 generalize Ap.ends t (Ap.prs os)=y at *
 clear hs ho hf
 go_enter Tryz.func53,Tryz.ntmps53
 go_wp2_with (first|(refine wpList_ast HK rfl rfl ?_;intro _ g1 HK';simp only[lcA,lnA] at HK';replace HK:=HK';clear HK'))
 go_loopw [10] (fun v5 wr=>∃(j:Nat) (u:Ses.T),j≤m∧v5=.int .i64 j∧Hid (Ses.Fit u)∧Hid (Ap.ends u (Ap.prs (os.drop j))=y)∧Hid (Kn w.heap.size w wr [(w.heap.size,33,stA n A k cp u),(g1,33,stA 0 none 0 0 tz)] [])) (fun v5 _=>m-(intOf v5).toNat)
 case atStart=>exact⟨0,t,Nat.zero_le _,rfl,HFt,HEn,HK⟩
 case round=>
  clear HK HEn HFt
  obtain⟨j,u,hj,rfl,HFt,HEn,HK⟩:=hrel
  have hj1:(0:Int)≤(j:Int):=by omega
  by_cases hlt:j<m
  case pos=>
   have hj2:(j:Int)<(m:Int):=by omega
   have hj3:j<9223372036854775807:=by omega
   obtain⟨x,hx,_⟩:=HS.out.get hlt
   obtain⟨b,o,rfl,hat⟩:=HS.out.at (Nat.lt_of_le_of_lt (Nat.zero_le _) hlt)
   have HX:Hid (∀W,Below w.heap.size w W→∀q v,(otL x)[q]?=some v→W.cell? ⟨b,o+j*8+q,none⟩=some v):=zH (fun W hW=>hat W hW j x hx)
   have hxf:=HFo.out x (List.mem_of_getElem? hx)
   have HE:=zH (fun W=>send_all u x.r x.p W HFt.out hxf)
   have HF2:=zH (Ses.fit_end HFt.out x.r hxf)
   have HEn2:Hid (Ap.ends (Ses.endT u x.r x.p) (Ap.prs (os.drop (j+1)))=y):=zH (by
    have h:=HEn.out
    rw[List.drop_eq_getElem_cons (List.getElem?_eq_some_iff.1 hx).1,(List.getElem?_eq_some_iff.1 hx).2] at h
    exact h)
   unfold IsT at HE
   clear hat hx hxf HEn
   generalize Ses.endT u x.r x.p=u2 at *
   go_wp2_with (first|(refine wpList_of_exec (v:=.agg (otA x)) (by rfl) (exec_slv otLay (off:=o+j*8) (x:=x) _ (by rfl) (by rfl) Tryz.underlying64 (HX.out _ HK.out.b)) ?_)|(refine wpList_aot HK rfl rfl ?_;intro _ g7 HK';simp only[lcA,lnA] at HK';replace HK:=HK';clear HK')|(refine wpList_sot (z:=x) HK 2 rfl _ _ rfl rfl rfl rfl ?_;intro _ HK';simp only[List.set] at HK';replace HK:=HK';clear HK')|refine wpList_exe (kst_t HK 0 _ (by rfl) (by rfl) (by rfl)) (by rfl) ?_|refine wpList_exe (kot_r HK 2 _ (by rfl) (by rfl) (by rfl)) (by rfl) ?_|refine wpList_exe (kot_p HK 2 _ (by rfl) (by rfl) (by rfl)) (by rfl) ?_)
   refine(HE.out _).mono ?_;rintro e w5 ⟨rfl,b1⟩
   replace HK:=hkC HK b1;clear b1
   go_wp2_with (first|(refine wpList_sstt (u:=u2) HK 0 rfl _ _ rfl rfl rfl rfl ?_;intro _ HK';simp only[List.set] at HK';replace HK:=HK';clear HK')|refine wpList_exe (exec_add1 (j:=j) _ (by rfl) (by rfl) hj3) (by rfl) ?_)
   exact⟨⟨j+1,u2,hlt,rfl,HF2,HEn2,zH (HK.out.takeL 2)⟩,by simp[intOf];omega⟩
  case neg=>
   obtain rfl:j=m:=by omega
   have hj2:¬(j:Int)<(j:Int):=by omega
   have hu:u=y:=by
    have h:=HEn.out
    rw[List.drop_eq_nil_of_le (by rw[HS.out.len];exact Nat.le_refl _)] at h
    exact h
   subst hu
   go_wp2_with (first|refine wpList_exe (kst HK 0 _ (by rfl) (by rfl) (by rfl)) (by rfl) ?_|(refine wpList_sst HK 1 rfl _ _ rfl rfl rfl rfl ?_;intro _ HK';simp only[List.set] at HK';replace HK:=HK';clear HK'))
   exact ret_sto Tryz.results53 rfl rfl rfl (HK.out.blk 1 rfl) ⟨rfl,HK.out.b⟩
end
section
namespace Ap
open Sto
def FlOb(o:Ob):Prop:=(∀p∈o.prs,p.val.f<18446744073709551616)∧(∀v∈o.vals,v.f<18446744073709551616)∧o.mt.s<18446744073709551616∧o.mt.l<18446744073709551616∧o.mt.m<18446744073709551616
theorem zf:(0:Nat)<18446744073709551616:=by decide
theorem gtV_float{l:List Dct.Pr}(h:∀p∈l,p.val.f<18446744073709551616)(k:ByteArray):(Dct.gtV l k).f<18446744073709551616:=by
 unfold Dct.gtV
 split
 ·cases hf:Dct.fnd l k with
  | none=>exact zf
  | some v=>
   obtain⟨x,hx,_,e⟩:=Dct.fnd_some hf
   show v.f<_
   rw[← e]
   exact h x hx
 ·exact zf
theorem swV_float{l:List Dct.Pr}(h:∀p∈l,p.val.f<18446744073709551616)(k:ByteArray)(o:Val.V):(Dct.swV l k o).f<18446744073709551616:=by
 unfold Dct.swV
 split
 ·exact zf
 ·exact gtV_float h k
theorem ppV_float{n:Int}{l:List Val.V}(h:∀v∈l,v.f<18446744073709551616):(Que.ppV n l).f<18446744073709551616:=by
 unfold Que.ppV
 split
 ·cases l with
  | nil=>exact zf
  | cons v m=>exact h v (List.mem_cons_self ..)
 ·exact zf
theorem rd_float{x:Mtr}(h1:x.s<18446744073709551616)(h2:x.l<18446744073709551616)(h3:x.m<18446744073709551616)(q:Int):(Mt.rd x q).f<18446744073709551616:=by
 unfold Mt.rd
 repeat' split
 all_goals first|exact zf|exact h1|exact h2|exact h3
theorem held_flt(y:Rf)(b:Bool):∀z∈held y b,z.p.v.f<18446744073709551616:=fun z hz=>by
 unfold held at hz
 split at hz
 ·rw[List.mem_singleton.1 hz];exact zf
 ·cases hz
theorem wait_float(o:Ob)(r:Rf):(wait o r).p.v.f<18446744073709551616∧∀y∈(wait o r).outs,y.p.v.f<18446744073709551616:=by
 generalize hx:wait o r=x
 unfold wait at hx
 split at hx
 ·subst hx;exact⟨zf,fun y hy=>by cases hy⟩
 split at hx
 ·subst hx;exact⟨zf,fun y hy=>by cases hy⟩
 ·subst hx
  refine⟨zf,fun y hy=>?_⟩
  obtain⟨x,_,e⟩:=List.mem_map.1 hy
  rw[← e]
  exact zf
theorem act_float{o:Ob}(h:FlOb o)(r:Rf)(c:Cmd.C):(act o r c).p.v.f<18446744073709551616∧∀y∈(act o r c).outs,y.p.v.f<18446744073709551616:=by
 obtain⟨g1,g2,g3,g4,g5⟩:=h
 have none:∀y∈([]:List Ot),y.p.v.f<18446744073709551616:=fun y hy=>by cases hy
 generalize hx:act o r c=x
 unfold act at hx
 by_cases h12:c.k=12
 ·rw[if_pos h12] at hx;subst hx;exact⟨zf,none⟩
 rw[if_neg h12] at hx
 by_cases h13:c.k=13
 ·rw[if_pos h13] at hx;subst hx;exact⟨zf,held_flt _ _⟩
 rw[if_neg h13] at hx
 by_cases h14:c.k=14
 ·rw[if_pos h14] at hx;subst hx;exact wait_float o r
 rw[if_neg h14] at hx
 by_cases h6:c.k=6
 ·rw[if_pos h6] at hx;subst hx;exact⟨gtV_float g1 _,none⟩
 rw[if_neg h6] at hx
 by_cases h7:c.k=7
 ·rw[if_pos h7] at hx;subst hx;exact⟨zf,none⟩
 rw[if_neg h7] at hx
 by_cases h8:c.k=8
 ·rw[if_pos h8] at hx;subst hx;exact⟨gtV_float g1 _,none⟩
 rw[if_neg h8] at hx
 by_cases h9:c.k=9
 ·rw[if_pos h9] at hx;subst hx;exact⟨swV_float g1 _ _,none⟩
 rw[if_neg h9] at hx
 by_cases h10:c.k=10
 ·rw[if_pos h10] at hx;subst hx;exact⟨zf,none⟩
 rw[if_neg h10] at hx
 by_cases h11:c.k=11
 ·rw[if_pos h11] at hx;subst hx;exact⟨ppV_float g2,none⟩
 rw[if_neg h11] at hx
 by_cases h15:c.k=15
 ·rw[if_pos h15] at hx;subst hx;exact⟨zf,none⟩
 rw[if_neg h15] at hx
 by_cases h16:c.k=16
 ·rw[if_pos h16] at hx;subst hx;exact⟨rd_float g3 g4 g5 _,none⟩
 rw[if_neg h16] at hx
 by_cases h17:c.k=17
 ·rw[if_pos h17] at hx;subst hx;exact⟨zf,none⟩
 rw[if_neg h17] at hx
 subst hx;exact⟨zf,none⟩
theorem doo_float{l:List Ob}(h:∀o∈l,FlOb o)(r:Rf)(c:Cmd.C):(doo l r c).p.v.f<18446744073709551616∧∀y∈(doo l r c).outs,y.p.v.f<18446744073709551616:=by
 have none:∀y∈([]:List Ot),y.p.v.f<18446744073709551616:=fun y hy=>by cases hy
 generalize hx:doo l r c=x
 unfold doo at hx
 split at hx
 ·subst hx;exact⟨zf,none⟩
 split at hx
 ·subst hx;exact⟨zf,none⟩
 split at hx
 ·subst hx;exact⟨zf,none⟩
 split at hx
 ·subst hx;exact⟨zf,none⟩
 next o ho=>
  subst hx
  exact act_float (h o (fnd_is ho).1) r c
theorem held_len(y:Rf)(b:Bool):(held y b).length≤1:=by
 unfold held
 split
 ·exact Nat.le_refl 1
 ·exact Nat.zero_le 1
theorem wtA_few{o:Ob}(h:One o=true)(r:Rf):(wait o r).outs.length≤8:=by
 generalize hx:wait o r=x
 unfold wait at hx
 split at hx
 ·subst hx;exact Nat.zero_le 8
 split at hx
 ·subst hx;exact Nat.zero_le 8
 ·subst hx
  show(thru ((Gt.wtA o.cap o.refs r).take _) _).length≤8
  unfold thru
  rw[List.length_map,List.length_take]
  have:(Gt.wtA o.cap o.refs r).length≤6:=by
   unfold Gt.wtA
   split
   next g=>
    have:=Lck.right_len (Gt.wt_is g.1).1.2.2.2
    rw[List.length_append]
    show _+1≤6
    omega
   next=>exact Nat.zero_le _
  omega
theorem act_few{o:Ob}(h:One o=true)(r:Rf)(c:Cmd.C):(act o r c).outs.length≤8:=by
 generalize hx:act o r c=x
 unfold act at hx
 by_cases h12:c.k=12
 ·rw[if_pos h12] at hx;subst hx;exact Nat.zero_le 8
 rw[if_neg h12] at hx
 by_cases h13:c.k=13
 ·rw[if_pos h13] at hx;subst hx
  show(held _ _).length≤8
  exact Nat.le_trans (Ap.held_len _ _) (by decide)
 rw[if_neg h13] at hx
 by_cases h14:c.k=14
 ·rw[if_pos h14] at hx;subst hx;exact wtA_few h r
 rw[if_neg h14] at hx
 have:x.outs=[]:=by
  subst hx
  repeat' split
  all_goals rfl
 rw[this]
 exact Nat.zero_le 8
theorem doo_few(l:List Ob)(r:Rf)(c:Cmd.C):(doo l r c).outs.length≤8:=by
 by_cases hc:chk l r c=0
 case neg=>rw[doo_err hc];exact Nat.zero_le 8
 obtain⟨⟨hR,_⟩,_,_,ho⟩:=chk_ok hc
 by_cases h4:c.k=4
 ·rw[doo_new hc h4];exact Nat.zero_le 8
 by_cases h5:c.k=5
 ·rw[doo_cut hc h5];exact Nat.zero_le 8
 obtain⟨o,ho1,_⟩:=ho h4
 rw[doo_act hc h4 h5 ho1]
 exact act_few (hR.ok o (fnd_is ho1).1) r c
end Ap
end
section
open Go.RowKit
theorem sclose_any(t:Ses.T)(c:Int)(w:World)(hf:Ses.Fit t):Calls Tryz.prog 84 #[.agg (tbA t),.int .i64 c] w (IsT (Ses.closeT t c) w):=by
 have HR:=zH (fun W=>sright_any t W hf)
 have HK:=kn1 w 31 (tbA t)
 have HLo:=zH (fun h=>Ses.cl_lo (t:=t) (c:=c) h)
 have HHi:=zH (fun h=>Ses.cl_hi (t:=t) (c:=c) h)
 have HNo:=zH (fun h=>Ses.cl_no (t:=t) (c:=c) h)
 have HDe:=zH (fun h=>Ses.cl_dead (t:=t) (c:=c) h)
 have HIn:=zH (fun h1 h2=>Ses.cl_in (c:=c) h1 h2)
 have HDo:=zH (fun h1 h2 h3 h4=>Ses.cl_done (t:=t) (c:=c) h1 h2 h3 h4)
 have HOp:=zH (fun h1 h2 h3 h4=>Ses.cl_open (t:=t) (c:=c) h1 h2 h3 h4)
 have HD:=zH (fun W=>sdone_any (t.get c) (Sto.err 14) W)
 unfold IsS at HD
 unfold IsT
 unfold IsB at HR
 clear hf
 generalize Ses.closeT t c=y at *
 generalize decide (Ses.Right t)=b3 at *
 generalize h1:decide (c<0)=b1 at *
 have H1:=zH h1
 generalize h2:decide (5≤c)=b2 at *
 have H2:=zH h2
 clear h1 h2
 cases b1
 case true=>
  have HX:=zH (HLo.out (by simp))
  go_enter Tryz.func84,Tryz.ntmps84
  go_wp2_with (first|(refine wpList_atb HK rfl rfl ?_;intro _ g1 HK';simp only[lcA,lnA] at HK';replace HK:=HK';clear HK')|refine wpList_exe (exec_iL (m:=c) (n:=0) _ _ (by rfl) (by rfl) (by rfl) H1.out) (by rfl) ?_|refine wpList_exe (ktb HK 0 _ (by rfl) (by rfl) (by rfl)) (by rfl) ?_|(refine wpList_stb (t2:=t) HK 1 rfl _ _ rfl rfl rfl rfl ?_;intro _ HK';simp only[List.set] at HK';replace HK:=HK';clear HK'))
  rw[← HX.out] at HK
  exact ret_tb Tryz.results84 rfl rfl (HK.out.blk 1 rfl) ⟨rfl,HK.out.b⟩
 cases b2
 case true=>
  have HX:=zH (HHi.out (by simp))
  go_enter Tryz.func84,Tryz.ntmps84
  go_wp2_with (first|(refine wpList_atb HK rfl rfl ?_;intro _ g1 HK';simp only[lcA,lnA] at HK';replace HK:=HK';clear HK')|refine wpList_exe (exec_iL (m:=c) (n:=0) _ _ (by rfl) (by rfl) (by rfl) H1.out) (by rfl) ?_|refine wpList_exe (exec_iGe (m:=c) (n:=5) _ _ (by rfl) (by rfl) (by rfl) H2.out) (by rfl) ?_|refine wpList_exe (ktb HK 0 _ (by rfl) (by rfl) (by rfl)) (by rfl) ?_|(refine wpList_stb (t2:=t) HK 1 rfl _ _ rfl rfl rfl rfl ?_;intro _ HK';simp only[List.set] at HK';replace HK:=HK';clear HK'))
  rw[← HX.out] at HK
  exact ret_tb Tryz.results84 rfl rfl (HK.out.blk 1 rfl) ⟨rfl,HK.out.b⟩
 have hc:=HIn.out (by simp) (by simp)
 go_enter Tryz.func84,Tryz.ntmps84
 go_wp2_with (first|(refine wpList_atb HK rfl rfl ?_;intro _ g1 HK';simp only[lcA,lnA] at HK';replace HK:=HK';clear HK')|refine wpList_exe (exec_iL (m:=c) (n:=0) _ _ (by rfl) (by rfl) (by rfl) H1.out) (by rfl) ?_|refine wpList_exe (exec_iGe (m:=c) (n:=5) _ _ (by rfl) (by rfl) (by rfl) H2.out) (by rfl) ?_|refine wpList_exe (ktb HK 0 _ (by rfl) (by rfl) (by rfl)) (by rfl) ?_)
 refine(HR.out _).mono ?_;rintro e w1 ⟨rfl,b1⟩
 replace HK:=hkC HK b1;clear b1
 cases b3
 case false=>
  have HX:=zH (HNo.out (by simp))
  go_wp2_with (first|refine wpList_exe (ktb HK 0 _ (by rfl) (by rfl) (by rfl)) (by rfl) ?_|(refine wpList_stb (t2:=t) HK 1 rfl _ _ rfl rfl rfl rfl ?_;intro _ HK';simp only[List.set] at HK';replace HK:=HK';clear HK'))
  rw[← HX.out] at HK
  exact ret_tb Tryz.results84 rfl rfl (HK.out.blk 1 rfl) ⟨rfl,HK.out.b⟩
 cases hl:(t.get c).live
 case false=>
  have HX:=zH (HDe.out hl)
  have HV:=zH hl
  clear hl
  go_wp2_with (first|refine wpList_exe (exec_ixt hc _ _ (by rfl) (by rfl) (by rfl)) (by rfl) ?_|refine wpList_exe ((kts_l HK 0 hc _ (by rfl) (by rfl) (by rfl)).trans (by rw[HV.out])) (by rfl) ?_|refine wpList_exe (ktb HK 0 _ (by rfl) (by rfl) (by rfl)) (by rfl) ?_|(refine wpList_stb (t2:=t) HK 1 rfl _ _ rfl rfl rfl rfl ?_;intro _ HK';simp only[List.set] at HK';replace HK:=HK';clear HK'))
  rw[← HX.out] at HK
  exact ret_tb Tryz.results84 rfl rfl (HK.out.blk 1 rfl) ⟨rfl,HK.out.b⟩
 cases hd:(t.get c).dn
 case false=>
  have HX:=zH (HOp.out hc (by simp) hl hd)
  have HV:=zH hl
  have HW:=zH hd
  clear hl hd
  go_wp2_with (first|refine wpList_exe (exec_ixt hc _ _ (by rfl) (by rfl) (by rfl)) (by rfl) ?_|refine wpList_exe ((kts_l HK 0 hc _ (by rfl) (by rfl) (by rfl)).trans (by rw[HV.out])) (by rfl) ?_|refine wpList_exe ((kts_d HK 0 hc _ (by rfl) (by rfl) (by rfl)).trans (by rw[HW.out])) (by rfl) ?_|refine wpList_exe (kts HK 0 hc _ (by rfl) (by rfl) (by rfl)) (by rfl) ?_|refine wpList_exe (exec_rk (e:=14) (by rfl)) (by rfl) ?_)
  refine(HD.out _).mono ?_;rintro e w1 ⟨rfl,b1⟩
  replace HK:=hkC HK b1;clear b1
  go_wp2_with (first|refine wpList_exe (exec_ixt hc _ _ (by rfl) (by rfl) (by rfl)) (by rfl) ?_|(refine wpList_tss (s:={ t.get c with dn:=true,p:=Sto.err 14 }) HK 0 rfl hc _ _ rfl rfl rfl rfl ?_;intro _ HK';simp only[List.set] at HK';replace HK:=HK';clear HK')|(refine wpList_tsl (d:=false) HK 0 rfl hc _ _ rfl rfl rfl rfl ?_;intro _ HK';simp only[List.set] at HK';replace HK:=HK';clear HK')|refine wpList_exe (ktb HK 0 _ (by rfl) (by rfl) (by rfl)) (by rfl) ?_|(refine wpList_stb  HK 1 rfl _ _ rfl rfl rfl rfl ?_;intro _ HK';simp only[List.set] at HK';replace HK:=HK';clear HK'))
  (try simp only[Ses.get_set hc,Ses.set_set hc] at HK)
  (try dsimp only at HK)
  rw[← HX.out] at HK
  exact ret_tb Tryz.results84 rfl rfl (HK.out.blk 1 rfl) ⟨rfl,HK.out.b⟩
 case true=>
  have HX:=zH (HDo.out hc (by simp) hl hd)
  have HV:=zH hl
  have HW:=zH hd
  clear hl hd
  go_wp2_with (first|refine wpList_exe (exec_ixt hc _ _ (by rfl) (by rfl) (by rfl)) (by rfl) ?_|refine wpList_exe ((kts_l HK 0 hc _ (by rfl) (by rfl) (by rfl)).trans (by rw[HV.out])) (by rfl) ?_|refine wpList_exe ((kts_d HK 0 hc _ (by rfl) (by rfl) (by rfl)).trans (by rw[HW.out])) (by rfl) ?_|(refine wpList_tsl (d:=false) HK 0 rfl hc _ _ rfl rfl rfl rfl ?_;intro _ HK';simp only[List.set] at HK';replace HK:=HK';clear HK')|refine wpList_exe (ktb HK 0 _ (by rfl) (by rfl) (by rfl)) (by rfl) ?_|(refine wpList_stb  HK 1 rfl _ _ rfl rfl rfl rfl ?_;intro _ HK';simp only[List.set] at HK';replace HK:=HK';clear HK'))
  (try simp only[Ses.get_set hc,Ses.set_set hc] at HK)
  (try dsimp only at HK)
  rw[← HX.out] at HK
  exact ret_tb Tryz.results84 rfl rfl (HK.out.blk 1 rfl) ⟨rfl,HK.out.b⟩
end
section
open Go.RowKit
theorem exec_ixo0{w:World}{o:Oper}{a:Act}{b n c i:Nat}(q r:Operand)(ho:o.op=.indexAddr 22 q r)(hx:a.eval q=.slice (some ⟨b,0,none⟩) n c)(hq:a.eval r=.int .i64 (i:Int))(h:i<n):
  (execOp a.eval o).run Tryz.prog w=.ok (.value (.pointer (some ⟨b,i*11,none⟩))) w:=by
 have h1:=exec_ixo (w:=w) (off:=0) q r ho hx hq h
 rwa [Nat.zero_add] at h1
end
section
open Go.RowKit
theorem exec_ier{w:World}{o:Oper}{a:Act}{x k:Int}{b:Bool}(p:Operand)(ho:o.op=.binOp .eql 3 p (.const (.int .i64 k)) 3)(hp:a.eval p=.int .i64 x)(hb:decide (x=k)=b):
  (execOp a.eval o).run Tryz.prog w=.ok (.value (.bool b)) w:=by
 have he:a.eval (.const (.int .i64 k))=.int .i64 k:=rfl
 subst hb
 unfold execOp
 simp only[ho,hp,he]
 go_simp
 try rfl
end
section
open Go.RowKit
theorem gsession_any(x:Rf)(w:World):Calls Tryz.prog 156 #[.agg #[.int .i64 x.c,.int .i64 x.e,.int .i64 x.r]] w (fun e w'=>e=.returned (.agg #[.int .i64 x.c,.int .i64 x.e,.int .i64 0])∧Below w.heap.size w w'):=by
 have HK:=zH (kn1 w 35 #[.int .i64 x.c,.int .i64 x.e,.int .i64 x.r]).out
 go_enter Tryz.func156,Tryz.ntmps156
 go_wp2_with (first|(refine wpList_akr HK rfl rfl ?_;intro _ g1 HK';simp only[lcA,lnA] at HK';replace HK:=HK';clear HK')|refine wpList_exe (kexec_lc0 HK 0 _ (by rfl) (by rfl) (by rfl)) (by rfl) ?_|refine wpList_exe (kexec_lc1 HK 0 _ (by rfl) (by rfl) (by rfl)) (by rfl) ?_|(refine wpList_sr HK 1 rfl _ _ rfl rfl rfl rfl ?_;intro _ HK';simp only[List.set] at HK';replace HK:=HK';clear HK'))
 exact ret_r Tryz.results156 rfl rfl (HK.out.blk 1 rfl) ⟨rfl,HK.out.b⟩
end
section
open Go.RowKit
theorem gdrop_any(m:Int)(A:Option Addr)(c n:Nat)(l:List Rf)(r:Rf)(w:World)(hs:Sls rfLay rF w A n c l):
  Calls Tryz.prog 127 #[.int .i64 m,.slice A n c,.agg #[.int .i64 r.c,.int .i64 r.e,.int .i64 r.r]] w (IsLg rfLay (Gt.drL m l r) w):=by
 have HM:=zH (fun W (hW:Below w.heap.size w W)=>gright_any m A c n l W (hs.later hW))
 have HS:=zH hs
 have HJ:=zH rconcat_any
 have HSe:=zH (fun x W=>gsession_any x W)
 have HK:=kn1 w 35 #[.int .i64 r.c,.int .i64 r.e,.int .i64 r.r]
 unfold IsB IsLg at *
 by_cases hr:Gt.Right m l
 case neg=>
  rw[decide_eq_false hr] at HM
  rw[Gt.dr_no hr]
  clear hr hs HSe
  go_enter Tryz.func127,Tryz.ntmps127
  go_wp2_with fail
  refine(HM.out _ HK.out.b).mono ?_;rintro e w1 ⟨rfl,b1⟩
  replace HK:=hkC HK b1;clear b1
  go_wp2_with (first|(refine wpList_mks1 rfLay rfNest HK rfl _ rfl rfl ?_;intro w2 g7 HK' _;simp only[lcA,lnA] at HK';replace HK:=HK';clear HK'))
  refine(HJ.out.one HK 1 rfl (HS.out.later HK.out.b)).mono ?_;rintro e w3 ⟨A4,n4,c4,rfl,o4,b4⟩;replace HK:=zH (HK.out.called b4 o4);simp only[lnA] at HK;clear o4 b4
  go_wp2_with fail
  go_ret
  exact⟨A4,n4,c4,rfl,HK.out.own 0 rfl,HK.out.b⟩
 case pos=>
 rw[decide_eq_true hr] at HM
 rw[Gt.dr_yes hr]
 have hbig:n*24≤140737488355328:=hs.big
 have hn63:n<9223372036854775807:=by omega
 have HTake:Hid (l.take n=l):=zH (by rw[← hs.len];exact List.take_length)
 have HTl:Hid (∀k,k≤n→(Lck.wo (l.take k) r).length≤k):=zH fun k hk=>Nat.le_trans (Lck.wo_le _ _) (by rw[List.length_take];omega)
 clear hs hr HJ
 go_enter Tryz.func127,Tryz.ntmps127
 go_wp2_with fail
 refine(HM.out _ HK.out.b).mono ?_;rintro e w1 ⟨rfl,b1⟩
 replace HK:=hkC HK b1;clear b1
 clear HM
 go_wp2_with (first|(refine wpList_mk0 rfLay HK rfl rfl ?_;intro _ g2 HK';simp only[lnA] at HK';replace HK:=HK';clear HK'))
 go_loopw [7,20] (fun vs vi wr=>∃(k:Nat) (A1:Option Addr) (c1 N:Nat),k≤n∧vs=.slice A1 N c1∧vi=.int .i64 k∧Hid ((Lck.wo (l.take k) r).length=N)∧Hid (Kn w.heap.size w wr [(w.heap.size,35,#[.int .i64 r.c,.int .i64 r.e,.int .i64 r.r])] [row rfLay (.slice A1 N c1) (Lck.wo (l.take k) r)])) (fun _ vi _=>n-(intOf vi).toNat)
 case atStart=>exact⟨0,_,_,0,Nat.zero_le _,rfl,rfl,zH rfl,HK⟩
 case round=>
  clear HK
  obtain⟨k,A1,c1,N,hk,rfl,rfl,hN,HK⟩:=hrel
  have hk1:(0:Int)≤(k:Int):=by omega
  by_cases hlt:k<n
  ·have hk2:(k:Int)<(n:Int):=by omega
   have hk3:k<9223372036854775807:=by omega
   obtain⟨x,hx,_⟩:=HS.out.get hlt
   obtain⟨b,o,rfl,hat⟩:=HS.out.at (Nat.lt_of_le_of_lt (Nat.zero_le _) hlt)
   have HX:=zH (fun W hW=>hat W hW k x hx)
   have hNk:N≤k:=by rw[← hN.out];exact HTl.out k hk
   have HMi:=mine_ne x r
   by_cases hm:Lck.mine x r
   ·have HE:=zH (Lck.wo_take_out hx hm)
    rw[decide_eq_true hm] at HMi
    replace HMi:=zH HMi
    clear hat hx hm
    go_wp2_with (first|refine wpList_exe (exec_lr (x:=x) (off:=o+k*3) _ (by rfl) (by rfl) (HX.out _ HK.out.b)) (by rfl) ?_|(refine wpList_akr HK rfl rfl ?_;intro _ g2 HK';simp only[lcA,lnA] at HK';replace HK:=HK';clear HK')|(refine wpList_sr HK 1 rfl _ _ rfl rfl rfl rfl ?_;intro _ HK';simp only[List.set] at HK';replace HK:=HK';clear HK'))
    refine wp_region_held_drew (S:=(fun W=>Hid (Kn w.heap.size w W [(w.heap.size,35,#[.int .i64 r.c,.int .i64 r.e,.int .i64 r.r]),(g2,35,#[.int .i64 x.c,.int .i64 x.e,.int .i64 x.r])] [row rfLay (.slice A1 N c1) (Lck.wo (l.take k) r)]))) (by kernel_rfl) ?_ (fun hHeld=>?_)
    ·(try dsimp only);exact zH HK.out.drew
    refine wpAnyH_take (i:=0) (oi:=⟨some 24,_,_,_,_,_⟩) (v:=?_) rfl (by kernel_rfl) (by kernel_rfl) (by kernel_rfl) (fun _ _ _ h=>h) (Or.inl ⟨by rfl,?_⟩) (by assumption) ?_
    rotate_left
    ·(intro w hSw;refine Eq.trans (kexec_lr hSw 1 _ (by rfl) (by rfl) (by rfl)) ?_;with_reducible rfl)
    try simp only[Act.put,List.setIfInBounds_toArray,List.set_cons_zero,List.set_cons_succ]
    refine wpAnyH_take (i:=2) (oi:=⟨some 26,_,_,_,_,_⟩) (v:=?_) rfl (by kernel_rfl) (by kernel_rfl) (by kernel_rfl) (fun _ _ _ h=>h) (Or.inl ⟨by rfl,?_⟩) (by assumption) ?_
    rotate_left
    ·(intro w hSw;refine Eq.trans (kexec_lr hSw 0 _ (by rfl) (by rfl) (by rfl)) ?_;with_reducible rfl)
    try simp only[Act.put,List.setIfInBounds_toArray,List.set_cons_zero,List.set_cons_succ]
    refine wpAnyH_ready (rs:=[1]) (by kernel_rfl) (by simp) ?_
    refine AllReadyH.cons (o:=⟨some 25,_,_,_,_,_⟩) rfl (fun K hK=>?_) AllReadyH.nil
    go_simp
    go_at_call 156
    refine(HSe.out x _).mono ?_;rintro e w5 ⟨rfl,b5⟩;have hs:=zH (hHeld.out.call b5);clear b5
    refine hK.out _ _ hs (fun hHeld=>?_)
    clear hK K
    try simp only[ap1,ap2,ap3,ap4,ap5]
    refine wpAnyH_ready (rs:=[3]) (by kernel_rfl) (by simp) ?_
    refine AllReadyH.cons (o:=⟨some 27,_,_,_,_,_⟩) rfl (fun K hK=>?_) AllReadyH.nil
    go_simp
    go_at_call 156
    refine(HSe.out r _).mono ?_;rintro e w5 ⟨rfl,b5⟩;have hs:=zH (hHeld.out.call b5);clear b5
    refine hK.out _ _ hs (fun hHeld=>?_)
    clear hK K
    try simp only[ap1,ap2,ap3,ap4,ap5]
    refine wpAnyH_take (i:=4) (oi:=⟨some 28,_,_,_,_,_⟩) (v:=?_) rfl (by kernel_rfl) (by kernel_rfl) (by kernel_rfl) (fun _ _ _ h=>h) (Or.inl ⟨by rfl,?_⟩) (by assumption) ?_
    rotate_left
    ·(intro w hSw;refine Eq.trans (exec_rne (v:=⟨x.c,x.e,0⟩) (u:=⟨r.c,r.e,0⟩) _ _ (by rfl) (by rfl) (by rfl) HMi.out) ?_;with_reducible rfl)
    try simp only[Act.put,List.setIfInBounds_toArray,List.set_cons_zero,List.set_cons_succ]
    refine wpAnyH_done (by kernel_rfl) ?_ _
    replace HK:=hHeld
    clear hHeld
    go_wp2_with (first|refine wpList_exe (exec_add1 (j:=k) _ (by rfl) (by rfl) hk3) (by rfl) ?_)
    refine⟨⟨k+1,A1,c1,N,hlt,rfl,rfl,zH (by rw[HE.out,hN.out]),?_⟩,by simp[intOf];omega⟩
    rw[HE.out]
    exact zH (HK.out.takeL 1)
   ·have HE:=zH (Lck.wo_take_in hx hm)
    rw[decide_eq_false hm] at HMi
    replace HMi:=zH HMi
    have HN2:Hid ((Lck.wo (l.take k) r++[x]).length=N+1):=zH (by rw[List.length_append,hN.out];rfl)
    have HL2:=grow_ok (La:=rfLay) HN2 (by show(N+1)*24≤_;omega) (by omega)
    clear hat hx hm
    go_wp2_with (first|refine wpList_exe (exec_lr (x:=x) (off:=o+k*3) _ (by rfl) (by rfl) (HX.out _ HK.out.b)) (by rfl) ?_|(refine wpList_akr HK rfl rfl ?_;intro _ g2 HK';simp only[lcA,lnA] at HK';replace HK:=HK';clear HK')|(refine wpList_sr HK 1 rfl _ _ rfl rfl rfl rfl ?_;intro _ HK';simp only[List.set] at HK';replace HK:=HK';clear HK'))
    refine wp_region_held_drew (S:=(fun W=>Hid (Kn w.heap.size w W [(w.heap.size,35,#[.int .i64 r.c,.int .i64 r.e,.int .i64 r.r]),(g2,35,#[.int .i64 x.c,.int .i64 x.e,.int .i64 x.r])] [row rfLay (.slice A1 N c1) (Lck.wo (l.take k) r)]))) (by kernel_rfl) ?_ (fun hHeld=>?_)
    ·(try dsimp only);exact zH HK.out.drew
    refine wpAnyH_take (i:=0) (oi:=⟨some 24,_,_,_,_,_⟩) (v:=?_) rfl (by kernel_rfl) (by kernel_rfl) (by kernel_rfl) (fun _ _ _ h=>h) (Or.inl ⟨by rfl,?_⟩) (by assumption) ?_
    rotate_left
    ·(intro w hSw;refine Eq.trans (kexec_lr hSw 1 _ (by rfl) (by rfl) (by rfl)) ?_;with_reducible rfl)
    try simp only[Act.put,List.setIfInBounds_toArray,List.set_cons_zero,List.set_cons_succ]
    refine wpAnyH_take (i:=2) (oi:=⟨some 26,_,_,_,_,_⟩) (v:=?_) rfl (by kernel_rfl) (by kernel_rfl) (by kernel_rfl) (fun _ _ _ h=>h) (Or.inl ⟨by rfl,?_⟩) (by assumption) ?_
    rotate_left
    ·(intro w hSw;refine Eq.trans (kexec_lr hSw 0 _ (by rfl) (by rfl) (by rfl)) ?_;with_reducible rfl)
    try simp only[Act.put,List.setIfInBounds_toArray,List.set_cons_zero,List.set_cons_succ]
    refine wpAnyH_ready (rs:=[1]) (by kernel_rfl) (by simp) ?_
    refine AllReadyH.cons (o:=⟨some 25,_,_,_,_,_⟩) rfl (fun K hK=>?_) AllReadyH.nil
    go_simp
    go_at_call 156
    refine(HSe.out x _).mono ?_;rintro e w5 ⟨rfl,b5⟩;have hs:=zH (hHeld.out.call b5);clear b5
    refine hK.out _ _ hs (fun hHeld=>?_)
    clear hK K
    try simp only[ap1,ap2,ap3,ap4,ap5]
    refine wpAnyH_ready (rs:=[3]) (by kernel_rfl) (by simp) ?_
    refine AllReadyH.cons (o:=⟨some 27,_,_,_,_,_⟩) rfl (fun K hK=>?_) AllReadyH.nil
    go_simp
    go_at_call 156
    refine(HSe.out r _).mono ?_;rintro e w5 ⟨rfl,b5⟩;have hs:=zH (hHeld.out.call b5);clear b5
    refine hK.out _ _ hs (fun hHeld=>?_)
    clear hK K
    try simp only[ap1,ap2,ap3,ap4,ap5]
    refine wpAnyH_take (i:=4) (oi:=⟨some 28,_,_,_,_,_⟩) (v:=?_) rfl (by kernel_rfl) (by kernel_rfl) (by kernel_rfl) (fun _ _ _ h=>h) (Or.inl ⟨by rfl,?_⟩) (by assumption) ?_
    rotate_left
    ·(intro w hSw;refine Eq.trans (exec_rne (v:=⟨x.c,x.e,0⟩) (u:=⟨r.c,r.e,0⟩) _ _ (by rfl) (by rfl) (by rfl) HMi.out) ?_;with_reducible rfl)
    try simp only[Act.put,List.setIfInBounds_toArray,List.set_cons_zero,List.set_cons_succ]
    refine wpAnyH_done (by kernel_rfl) ?_ _
    replace HK:=hHeld
    clear hHeld
    go_wp2_with (first|refine wpList_exe (kexec_lr HK 1 _ (by rfl) (by rfl) (by rfl)) (by rfl) ?_|(refine wpList_mk1 rfLay (p:=x) HK (by decide) rfl _ rfl rfl rfl ?_;intro _ g5 HK';simp only[lcA,lnA] at HK';have HR:=zH (HK'.out.own 1 rfl).rd;replace HK:=HK';clear HK')|(at_builtin;refine wpList_kmore HK rfLay 0 rfl _ _ rfl rfl rfl [x] rfl rfl HR HL2 (N:=N+1) HN2 ?_;intro A4 c4 _ HK';simp only[List.set] at HK';replace HK:=HK';clear HK')|refine wpList_exe (exec_add1 (j:=k) _ (by rfl) (by rfl) hk3) (by rfl) ?_)
    refine⟨⟨k+1,A4,c4,N+1,hlt,rfl,rfl,zH (by rw[HE.out,HN2.out]),?_⟩,by simp[intOf];omega⟩
    rw[HE.out]
    exact zH ((HK.out.takeL 1).takeR 1)
  ·obtain rfl:k=n:=by omega
   rw[HTake.out] at HK
   go_wp2_with fail
   go_ret
   exact⟨A1,_,c1,rfl,HK.out.own 0 rfl,HK.out.b⟩
end
end Go.Proofs.YtddpmlcpfmmbeaaGreat
