/- What snap's number, text, flag, ref, meter, pair and session return: their items, new. No condition but those named. -/
import Derived.Test.YtieoeendnccafaaNTK
import Derived.Test.YtieoeendnccafaaNAE
import Derived.Test.YtieoeendnccafaaNAH
import Derived.Test.YtieoeendnccafaaNAJ
import Derived.Test.YtieoeendnccafaaNAK
import Derived.Test.YtieoeendnccafaaNAL
import Derived.Test.YtieoeendnccafaaNAP
import Derived.Deep.RegionWith
import Derived.Deep.RegionHeld3
import Derived.Deep.Draws
import Derived.Lib.Hide
set_option linter.unusedSimpArgs false
set_option linter.unusedVariables false
set_option maxRecDepth 100000
set_option maxHeartbeats 25600000
namespace Go.Proofs.Ytieoeendnccafaa
section
open Go.RowKit
theorem info_it3:(Try.prog.info? 54).map (·.size)=some 3:=by kernel_rfl
def itA(x:Itm.It):Array Value:=#[.int .i64 x.k,.int .i64 x.n,.string x.s]
theorem ret_it{f:Func}{R:Ending→World→Prop}{a:Act}{w:World}{B:Nat}{x:Itm.It}{q:Tmp}(hf:f.results=#[.cell q 54])(h2:a.tmps[q]?=some (.pointer (some ⟨B,0,none⟩)))(hd:a.defers=[])(hb:Blk w B 54 (itA x))
  (hR:R (.returned (.agg (itA x))) w):bodyPost Try.prog f R Exit.ret a w:=
 bodyPost_ret (results_cell_row hf a.tmps w B _ _ (0,0) _ (by simp[h2]) hb Try.underlying54 rfl info_it3) hd hR
def IsI(x:Itm.It)(w:World)(e:Ending)(w':World):Prop:=e=.returned (.agg (itA x))∧Below w.heap.size w w'
theorem nnum_any(n:Int)(w:World):Calls Try.prog 29 #[.int .i64 n] w (IsI (Snp.n1 n) w):=by
 have HB:=zH ((Below.refl w.heap.size w).alloc (Nat.le_refl _) (.cells #[.int .i64 0,.int .i64 n,.string ⟨#[]⟩] 54))
 go_enter Try.func29,Try.ntmps29
 go_wp2_with fail
 exact ret_it (x:=Snp.n1 n) Try.results29 rfl rfl (Blk.new w _ _) ⟨rfl,HB.out⟩
theorem ntxt_any(s:ByteArray)(w:World):Calls Try.prog 51 #[.string s] w (IsI (Snp.t1 s) w):=by
 have HB:=zH ((Below.refl w.heap.size w).alloc (Nat.le_refl _) (.cells #[.int .i64 1,.int .i64 0,.string s] 54))
 go_enter Try.func51,Try.ntmps51
 go_wp2_with fail
 exact ret_it (x:=Snp.t1 s) Try.results51 rfl rfl (Blk.new w _ _) ⟨rfl,HB.out⟩
section
variable {b0:Nat}{w0 w:World}{L:List (Nat×TypeId×Array Value)}{R:List RowE}{ops:Array Oper}{rest:List Oper}{o:Oper}{a:Act}{Q:Exit→Act→World→Prop}
theorem wpList_ait(HK:Hid (Kn b0 w0 w L R))(hgd:o.guard=none)(ho:o.op=.alloc 54)
  (h:∀w' g,Hid (Kn b0 w0 w' (L++[(g,54,itA ⟨0,0,⟨#[]⟩⟩)]) R)→wpList Try.prog ops Q rest (a.put o.dst (.pointer (some ⟨g,0,none⟩))) w'):wpList Try.prog ops Q (o::rest) a w:=
 wpList_plain hgd fun K hK=>by
  have h4:=h _ w.heap.size (zH (HK.out.alloc _ _))
  unfold Oper.wp execOp
  simp only[ho]
  unfold itA at h4
  go_simp
  exact hK _ _ h4
theorem wpList_sit{g:Nat}{x y:Itm.It}(HK:Hid (Kn b0 w0 w L R))(i:Nat)(hgd:o.guard=none)(p q:Operand)(ho:o.op=.store 54 p q)(hL:L[i]?=some (g,54,itA x))(hx:a.eval p=.pointer (some ⟨g,0,none⟩))(hy:a.eval q=.agg (itA y))
  (h:∀w',Hid (Kn b0 w0 w' (L.set i (g,54,itA y)) R)→wpList Try.prog ops Q rest (a.put o.dst undef) w'):wpList Try.prog ops Q (o::rest) a w:=
 wpList_ss HK i hgd _ p q ho hL hx hy (by show 3≤3;decide) info_it3 (by simp[itA,Value.oneCell']) fun w' h1 h2=>h w' (by
  have e:putCells (itA x) 0 (itA y).toList=itA y:=by
   rw[putCells_all (vs:=(itA y).toList) (cs:=itA x) rfl,Array.toArray_toList]
  rw[e] at h1
  exact h1)
end
theorem nflg_any(b:Bool)(w:World):Calls Try.prog 59 #[.bool b] w (IsI (Snp.fl b) w):=by
 have HNm:=zH nnum_any
 have HK:=zH (Kn.start w)
 unfold IsI at HNm
 cases b
 all_goals
  go_enter Try.func59,Try.ntmps59
  go_wp2_with (first|(refine wpList_ait HK rfl rfl ?_;intro _ g1 HK';simp only[lnA] at HK';replace HK:=HK';clear HK'))
  refine(HNm.out _ _).mono ?_;rintro e w1 ⟨rfl,b1⟩
  replace HK:=hkC HK b1
  clear b1
  go_wp2_with (first|(refine wpList_sit HK 0 rfl _ _ rfl rfl rfl rfl ?_;intro _ HK';simp only[List.set] at HK';replace HK:=HK';clear HK'))
  exact ret_it Try.results59 rfl rfl (HK.out.blk 0 rfl) ⟨rfl,HK.out.b⟩
section
variable {P:Program}{α:Type}(La:Lay P α){b0:Nat}{w0 w:World}{L:List (Nat×TypeId×Array Value)}{R:List RowE}{ops:Array Oper}{rest:List Oper}{o:Oper}{a:Act}{Q:Exit→Act→World→Prop}{K:Act→World→Prop}{E:Prop}
theorem step_mk3{p1 p2 p3:α}(HK:Hid (Kn b0 w0 w L R))(hk:3*La.k≤65536)(hgd:o.guard=none)(x y z:Operand)(ho:o.op=.buildSlice La.t 3 #[(0,x),(1,y),(2,z)]){v1 v2 v3:Value}(h1:a.eval x=v1)(h2:a.eval y=v2)(h3:a.eval z=v3)(c1:v1.cells.toList=La.f p1)(c2:v2.cells.toList=La.f p2)(c3:v3.cells.toList=La.f p3)
  (h:∀w' g,Hid (Kn b0 w0 w' L (R++[row La (.slice (some ⟨g,0,none⟩) 3 3) [p1,p2,p3]]))→Hid (Below w.heap.size w w')→K (a.put o.dst (.slice (some ⟨g,0,none⟩) 3 3)) w'):if Region.wanted o (yielded ops a.tmps)=true then Oper.wp P o a w K Q else E:=by
 rw[if_pos (by simp[Region.wanted,hgd])]
 exact kwp_mk La HK [p1,p2,p3] 3 _ ho [v1,v2,v3] (by simp[h1,h2,h3]) (by simp[c1,c2,c3]) rfl hk h
theorem step_mk4{p1 p2 p3 p4:α}(HK:Hid (Kn b0 w0 w L R))(hk:4*La.k≤65536)(hgd:o.guard=none)(x y z u:Operand)(ho:o.op=.buildSlice La.t 4 #[(0,x),(1,y),(2,z),(3,u)]){v1 v2 v3 v4:Value}(h1:a.eval x=v1)(h2:a.eval y=v2)(h3:a.eval z=v3)(h4:a.eval u=v4)(c1:v1.cells.toList=La.f p1)(c2:v2.cells.toList=La.f p2)(c3:v3.cells.toList=La.f p3)(c4:v4.cells.toList=La.f p4)
  (h:∀w' g,Hid (Kn b0 w0 w' L (R++[row La (.slice (some ⟨g,0,none⟩) 4 4) [p1,p2,p3,p4]]))→Hid (Below w.heap.size w w')→K (a.put o.dst (.slice (some ⟨g,0,none⟩) 4 4)) w'):if Region.wanted o (yielded ops a.tmps)=true then Oper.wp P o a w K Q else E:=by
 rw[if_pos (by simp[Region.wanted,hgd])]
 exact kwp_mk La HK [p1,p2,p3,p4] 4 _ ho [v1,v2,v3,v4] (by simp[h1,h2,h3,h4]) (by simp[c1,c2,c3,c4]) rfl hk h
theorem step_mk5{p1 p2 p3 p4 p5:α}(HK:Hid (Kn b0 w0 w L R))(hk:5*La.k≤65536)(hgd:o.guard=none)(x y z u t:Operand)(ho:o.op=.buildSlice La.t 5 #[(0,x),(1,y),(2,z),(3,u),(4,t)]){v1 v2 v3 v4 v5:Value}(h1:a.eval x=v1)(h2:a.eval y=v2)(h3:a.eval z=v3)(h4:a.eval u=v4)(h5:a.eval t=v5)(c1:v1.cells.toList=La.f p1)(c2:v2.cells.toList=La.f p2)(c3:v3.cells.toList=La.f p3)(c4:v4.cells.toList=La.f p4)(c5:v5.cells.toList=La.f p5)
  (h:∀w' g,Hid (Kn b0 w0 w' L (R++[row La (.slice (some ⟨g,0,none⟩) 5 5) [p1,p2,p3,p4,p5]]))→Hid (Below w.heap.size w w')→K (a.put o.dst (.slice (some ⟨g,0,none⟩) 5 5)) w'):if Region.wanted o (yielded ops a.tmps)=true then Oper.wp P o a w K Q else E:=by
 rw[if_pos (by simp[Region.wanted,hgd])]
 exact kwp_mk La HK [p1,p2,p3,p4,p5] 5 _ ho [v1,v2,v3,v4,v5] (by simp[h1,h2,h3,h4,h5]) (by simp[c1,c2,c3,c4,c5]) rfl hk h
theorem step_mks5(N:Nest La){A1 A2 A3 A4 A5:Option Addr}{n1 c1 n2 c2 n3 c3 n4 c4 n5 c5:Nat}(HK:Hid (Kn b0 w0 w L R))(hgd:o.guard=none)(x y z u t:Operand)(ho:o.op=.buildSlice N.tt 5 #[(0,x),(1,y),(2,z),(3,u),(4,t)])(h1:a.eval x=.slice A1 n1 c1)(h2:a.eval y=.slice A2 n2 c2)(h3:a.eval z=.slice A3 n3 c3)(h4:a.eval u=.slice A4 n4 c4)(h5:a.eval t=.slice A5 n5 c5)
  (h:∀w' g,Hid (Kn b0 w0 w' (L++[(g,La.t,#[.slice A1 n1 c1,.slice A2 n2 c2,.slice A3 n3 c3,.slice A4 n4 c4,.slice A5 n5 c5])]) R)→Hid (Below w.heap.size w w')→K (a.put o.dst (.slice (some ⟨g,0,none⟩) 5 5)) w'):if Region.wanted o (yielded ops a.tmps)=true then Oper.wp P o a w K Q else E:=by
 rw[if_pos (by simp[Region.wanted,hgd])]
 exact kwp_mks La N HK 5 _ ho [.slice A1 n1 c1,.slice A2 n2 c2,.slice A3 n3 c3,.slice A4 n4 c4,.slice A5 n5 c5] (by simp[h1,h2,h3,h4,h5]) (by simp[Value.cells]) rfl (by decide) (by decide) h
end
theorem nit_len(v:Val.V):1≤(Val.items v).length∧(Val.items v).length≤2:=by
 rw[items_split];(repeat' split)<;>simp
section
variable {b0:Nat}{w0 w:World}{L:List (Nat×TypeId×Array Value)}{R:List RowE}{o:Oper}{a:Act}{g:Nat}{s:Ses.S}
theorem kse_pe(HK:Hid (Kn b0 w0 w L R))(i:Nat)(x:Operand)(ho:o.op=.load 23 x)(hL:L[i]?=some (g,30,seA s))(hx:a.eval x=.pointer (some ⟨g,4,none⟩)):
  (execOp a.eval o).run Try.prog w=.ok (.value (.int .i64 s.p.e)) w:=kexec_lc HK 23 x ho i hL hx rfl Try.underlying23 rfl
theorem kse_pv(HK:Hid (Kn b0 w0 w L R))(i:Nat)(x:Operand)(ho:o.op=.load 26 x)(hL:L[i]?=some (g,30,seA s))(hx:a.eval x=.pointer (some ⟨g,5,none⟩)):
  (execOp a.eval o).run Try.prog w=.ok (.value (.agg #[.int .i64 s.p.v.k,.int .i64 s.p.v.n,.int .u64 (s.p.v.f:Int),.string s.p.v.s])) w:=
 kexec_ls HK _ x ho i hL hx #[.int .i64 s.p.v.k,.int .i64 s.p.v.n,.int .u64 (s.p.v.f:Int),.string s.p.v.s] (fun j hj=>by
  match j,hj with
  | 0,_|1,_|2,_|3,_=>rfl) Try.underlying26 info_v4
end
theorem isIt_lg{l:List Itm.It}{w:World}{e:Ending}{w':World}(h:IsIt l w e w'):IsLg itemLay l w e w':=by
 obtain⟨A,c,h1,h2,h3⟩:=h
 exact⟨A,_,c,h1,h2,h3⟩
theorem nvit_any(v:Val.V)(w:World)(hf:v.f<18446744073709551616):Calls Try.prog 55 #[vv v] w (IsLg itemLay (Val.items v) w):=(vitems_any v w hf).mono fun e w' h=>isIt_lg h
theorem nrf_any(r:Rf)(w:World):Calls Try.prog 57 #[rv r] w (IsLg itemLay (Snp.rfI r) w):=by
 have HNm:=zH nnum_any
 have HK:=kn1 w 74 #[.int .i64 r.c,.int .i64 r.e,.int .i64 r.r]
 unfold IsI at HNm
 unfold rv IsLg Snp.rfI
 go_enter Try.func57,Try.ntmps57
 go_wp2_with fail
 have HK0:=zH HK.out.drew
 refine wp_region_held_drew (S:=(fun W=>Hid (Kn w.heap.size w W [(w.heap.size,74,#[.int .i64 r.c,.int .i64 r.e,.int .i64 r.r])] []))) (by kernel_rfl) ?_ (fun hHeld=>?_)
 ·(try dsimp only);exact zH HK.out.drew
 refine wpAnyH_take (i:=0) (oi:=⟨some 3,_,_,_,_,_⟩) (v:=?_) rfl (by kernel_rfl) (by kernel_rfl) (by kernel_rfl) (fun _ _ _ h=>h) (Or.inl ⟨by rfl,?_⟩) (by assumption) ?_
 rotate_left
 ·(intro w hSw;(try dsimp only at hSw);go_simp;try with_reducible rfl)
 try simp only[Act.put,List.setIfInBounds_toArray,List.set_cons_zero,List.set_cons_succ]
 refine wpAnyH_take (i:=1) (oi:=⟨some 4,_,_,_,_,_⟩) (v:=?_) rfl (by kernel_rfl) (by kernel_rfl) (by kernel_rfl) (fun _ _ _ h=>h) (Or.inl ⟨by rfl,?_⟩) (by assumption) ?_
 rotate_left
 ·(intro w hSw;refine Eq.trans (kexec_lc0 hSw 0 _ (by rfl) (by rfl) (by rfl)) ?_;with_reducible rfl)
 try simp only[Act.put,List.setIfInBounds_toArray,List.set_cons_zero,List.set_cons_succ]
 refine wpAnyH_take (i:=3) (oi:=⟨some 6,_,_,_,_,_⟩) (v:=?_) rfl (by kernel_rfl) (by kernel_rfl) (by kernel_rfl) (fun _ _ _ h=>h) (Or.inl ⟨by rfl,?_⟩) (by assumption) ?_
 rotate_left
 ·(intro w hSw;(try dsimp only at hSw);go_simp;try with_reducible rfl)
 try simp only[Act.put,List.setIfInBounds_toArray,List.set_cons_zero,List.set_cons_succ]
 refine wpAnyH_take (i:=4) (oi:=⟨some 7,_,_,_,_,_⟩) (v:=?_) rfl (by kernel_rfl) (by kernel_rfl) (by kernel_rfl) (fun _ _ _ h=>h) (Or.inl ⟨by rfl,?_⟩) (by assumption) ?_
 rotate_left
 ·(intro w hSw;refine Eq.trans (kexec_lc1 hSw 0 _ (by rfl) (by rfl) (by rfl)) ?_;with_reducible rfl)
 try simp only[Act.put,List.setIfInBounds_toArray,List.set_cons_zero,List.set_cons_succ]
 refine wpAnyH_take (i:=6) (oi:=⟨some 9,_,_,_,_,_⟩) (v:=?_) rfl (by kernel_rfl) (by kernel_rfl) (by kernel_rfl) (fun _ _ _ h=>h) (Or.inl ⟨by rfl,?_⟩) (by assumption) ?_
 rotate_left
 ·(intro w hSw;(try dsimp only at hSw);go_simp;try with_reducible rfl)
 try simp only[Act.put,List.setIfInBounds_toArray,List.set_cons_zero,List.set_cons_succ]
 refine wpAnyH_take (i:=7) (oi:=⟨some 10,_,_,_,_,_⟩) (v:=?_) rfl (by kernel_rfl) (by kernel_rfl) (by kernel_rfl) (fun _ _ _ h=>h) (Or.inl ⟨by rfl,?_⟩) (by assumption) ?_
 rotate_left
 ·(intro w hSw;refine Eq.trans (krf_r hSw 0 _ (by rfl) (by rfl) (by rfl)) ?_;with_reducible rfl)
 try simp only[Act.put,List.setIfInBounds_toArray,List.set_cons_zero,List.set_cons_succ]
 refine wpAnyH_ready (rs:=[2]) (by kernel_rfl) (by simp) ?_
 refine AllReadyH.cons (o:=⟨some 5,_,_,_,_,_⟩) rfl (fun K hK=>?_) AllReadyH.nil
 go_simp
 go_at_call 29
 refine(HNm.out _ _).mono ?_;rintro e w5 ⟨rfl,b5⟩;replace HK0:=zH (HK0.out.call b5);have hs:=HK0;clear b5
 refine hK.out _ _ hs (fun hHeld=>?_)
 clear hK K
 try simp only[ap1,ap2,ap3,ap4,ap5]
 refine wpAnyH_ready (rs:=[5]) (by kernel_rfl) (by simp) ?_
 refine AllReadyH.cons (o:=⟨some 8,_,_,_,_,_⟩) rfl (fun K hK=>?_) AllReadyH.nil
 go_simp
 go_at_call 29
 refine(HNm.out _ _).mono ?_;rintro e w5 ⟨rfl,b5⟩;replace HK0:=zH (HK0.out.call b5);have hs:=HK0;clear b5
 refine hK.out _ _ hs (fun hHeld=>?_)
 clear hK K
 try simp only[ap1,ap2,ap3,ap4,ap5]
 refine wpAnyH_ready (rs:=[8]) (by kernel_rfl) (by simp) ?_
 refine AllReadyH.cons (o:=⟨some 11,_,_,_,_,_⟩) rfl (fun K hK=>?_) AllReadyH.nil
 go_simp
 go_at_call 29
 refine(HNm.out _ _).mono ?_;rintro e w5 ⟨rfl,b5⟩;replace HK0:=zH (HK0.out.call b5);have hs:=HK0;clear b5
 refine hK.out _ _ hs (fun hHeld=>?_)
 clear hK K
 try simp only[ap1,ap2,ap3,ap4,ap5]
 refine wpAnyH_ready (rs:=[9]) (by kernel_rfl) (by simp) ?_
 refine AllReadyH.cons (o:=⟨some 12,_,_,_,_,_⟩) rfl (fun K hK=>?_) AllReadyH.nil
 refine step_mk3 itemLay (p1:=Snp.n1 r.c) (p2:=Snp.n1 r.e) (p3:=Snp.n1 r.r) HK0 (by decide) (by rfl) _ _ _ (by rfl) (by rfl) (by rfl) (by rfl) (by rfl) (by rfl) (by rfl) ?_;intro _ g5 HK' _;simp only[lnA] at HK';replace HK0:=HK';clear HK';have hs:=zH (HK0.out.takeR 0)
 refine hK.out _ _ hs (fun hHeld=>?_)
 clear hK K
 try simp only[ap1,ap2,ap3,ap4,ap5]
 refine wpAnyH_take (i:=10) (oi:=⟨some 2,_,_,_,_,_⟩) (v:=?_) rfl (by kernel_rfl) (by kernel_rfl) (by kernel_rfl) (fun _ _ _ h=>h) (Or.inl ⟨by rfl,?_⟩) (by assumption) ?_
 rotate_left
 ·(intro w hSw;(try dsimp only at hSw);go_simp;try with_reducible rfl)
 try simp only[Act.put,List.setIfInBounds_toArray,List.set_cons_zero,List.set_cons_succ]
 refine wpAnyH_done (by kernel_rfl) ?_ _
 go_wp2_with fail
 go_ret
 exact⟨_,_,_,rfl,HK0.out.own 0 rfl,HK0.out.b⟩
theorem nmt_any(m:Mtr)(w:World)(hm:Snp.mG m):Calls Try.prog 58 #[.agg #[.int .i64 m.n,.int .u64 (m.s:Int),.int .u64 (m.l:Int),.int .u64 (m.m:Int)]] w (IsLg itemLay (Snp.mtI m) w):=by
 have HNm:=zH nnum_any
 obtain⟨n,s,l,m⟩:=m
 unfold Snp.mG at hm
 simp only at hm ⊢
 have hs1:=wrap_sg hm.1
 have hs2:=wrap_sg hm.2.1
 have hs3:=wrap_sg hm.2.2
 have HK:=kn1 w 67 (mC n s l m)
 unfold IsI at HNm
 unfold IsLg Snp.mtI
 simp only
 clear hm
 generalize Val.sg s=z1 at *
 generalize Val.sg l=z2 at *
 generalize Val.sg m=z3 at *
 go_enter Try.func58,Try.ntmps58
 go_wp2_with fail
 have HK0:=zH HK.out.drew
 refine wp_region_held_drew (S:=(fun W=>Hid (Kn w.heap.size w W [(w.heap.size,67,mC n s l m)] []))) (by kernel_rfl) ?_ (fun hHeld=>?_)
 ·(try dsimp only);exact zH HK.out.drew
 refine wpAnyH_take (i:=0) (oi:=⟨some 3,_,_,_,_,_⟩) (v:=?_) rfl (by kernel_rfl) (by kernel_rfl) (by kernel_rfl) (fun _ _ _ h=>h) (Or.inl ⟨by rfl,?_⟩) (by assumption) ?_
 rotate_left
 ·(intro w hSw;(try dsimp only at hSw);go_simp;try with_reducible rfl)
 try simp only[Act.put,List.setIfInBounds_toArray,List.set_cons_zero,List.set_cons_succ]
 refine wpAnyH_take (i:=1) (oi:=⟨some 4,_,_,_,_,_⟩) (v:=?_) rfl (by kernel_rfl) (by kernel_rfl) (by kernel_rfl) (fun _ _ _ h=>h) (Or.inl ⟨by rfl,?_⟩) (by assumption) ?_
 rotate_left
 ·(intro w hSw;refine Eq.trans (kexec_mn hSw 0 _ (by rfl) (by rfl) (by rfl)) ?_;with_reducible rfl)
 try simp only[Act.put,List.setIfInBounds_toArray,List.set_cons_zero,List.set_cons_succ]
 refine wpAnyH_take (i:=3) (oi:=⟨some 6,_,_,_,_,_⟩) (v:=?_) rfl (by kernel_rfl) (by kernel_rfl) (by kernel_rfl) (fun _ _ _ h=>h) (Or.inl ⟨by rfl,?_⟩) (by assumption) ?_
 rotate_left
 ·(intro w hSw;(try dsimp only at hSw);go_simp;try with_reducible rfl)
 try simp only[Act.put,List.setIfInBounds_toArray,List.set_cons_zero,List.set_cons_succ]
 refine wpAnyH_take (i:=4) (oi:=⟨some 7,_,_,_,_,_⟩) (v:=?_) rfl (by kernel_rfl) (by kernel_rfl) (by kernel_rfl) (fun _ _ _ h=>h) (Or.inl ⟨by rfl,?_⟩) (by assumption) ?_
 rotate_left
 ·(intro w hSw;refine Eq.trans (kexec_ms hSw 0 _ (by rfl) (by rfl) (by rfl)) ?_;with_reducible rfl)
 try simp only[Act.put,List.setIfInBounds_toArray,List.set_cons_zero,List.set_cons_succ]
 refine wpAnyH_take (i:=5) (oi:=⟨some 8,_,_,_,_,_⟩) (v:=?_) rfl (by kernel_rfl) (by kernel_rfl) (by kernel_rfl) (fun _ _ _ h=>h) (Or.inl ⟨by rfl,?_⟩) (by assumption) ?_
 rotate_left
 ·(intro w hSw;(try dsimp only at hSw);go_simp;try with_reducible rfl)
 try simp only[Act.put,List.setIfInBounds_toArray,List.set_cons_zero,List.set_cons_succ]
 refine wpAnyH_take (i:=7) (oi:=⟨some 10,_,_,_,_,_⟩) (v:=?_) rfl (by kernel_rfl) (by kernel_rfl) (by kernel_rfl) (fun _ _ _ h=>h) (Or.inl ⟨by rfl,?_⟩) (by assumption) ?_
 rotate_left
 ·(intro w hSw;(try dsimp only at hSw);go_simp;try with_reducible rfl)
 try simp only[Act.put,List.setIfInBounds_toArray,List.set_cons_zero,List.set_cons_succ]
 refine wpAnyH_take (i:=8) (oi:=⟨some 11,_,_,_,_,_⟩) (v:=?_) rfl (by kernel_rfl) (by kernel_rfl) (by kernel_rfl) (fun _ _ _ h=>h) (Or.inl ⟨by rfl,?_⟩) (by assumption) ?_
 rotate_left
 ·(intro w hSw;refine Eq.trans (kexec_ml hSw 0 _ (by rfl) (by rfl) (by rfl)) ?_;with_reducible rfl)
 try simp only[Act.put,List.setIfInBounds_toArray,List.set_cons_zero,List.set_cons_succ]
 refine wpAnyH_take (i:=9) (oi:=⟨some 12,_,_,_,_,_⟩) (v:=?_) rfl (by kernel_rfl) (by kernel_rfl) (by kernel_rfl) (fun _ _ _ h=>h) (Or.inl ⟨by rfl,?_⟩) (by assumption) ?_
 rotate_left
 ·(intro w hSw;(try dsimp only at hSw);go_simp;try with_reducible rfl)
 try simp only[Act.put,List.setIfInBounds_toArray,List.set_cons_zero,List.set_cons_succ]
 refine wpAnyH_take (i:=11) (oi:=⟨some 14,_,_,_,_,_⟩) (v:=?_) rfl (by kernel_rfl) (by kernel_rfl) (by kernel_rfl) (fun _ _ _ h=>h) (Or.inl ⟨by rfl,?_⟩) (by assumption) ?_
 rotate_left
 ·(intro w hSw;(try dsimp only at hSw);go_simp;try with_reducible rfl)
 try simp only[Act.put,List.setIfInBounds_toArray,List.set_cons_zero,List.set_cons_succ]
 refine wpAnyH_take (i:=12) (oi:=⟨some 15,_,_,_,_,_⟩) (v:=?_) rfl (by kernel_rfl) (by kernel_rfl) (by kernel_rfl) (fun _ _ _ h=>h) (Or.inl ⟨by rfl,?_⟩) (by assumption) ?_
 rotate_left
 ·(intro w hSw;refine Eq.trans (kexec_mm hSw 0 _ (by rfl) (by rfl) (by rfl)) ?_;with_reducible rfl)
 try simp only[Act.put,List.setIfInBounds_toArray,List.set_cons_zero,List.set_cons_succ]
 refine wpAnyH_take (i:=13) (oi:=⟨some 16,_,_,_,_,_⟩) (v:=?_) rfl (by kernel_rfl) (by kernel_rfl) (by kernel_rfl) (fun _ _ _ h=>h) (Or.inl ⟨by rfl,?_⟩) (by assumption) ?_
 rotate_left
 ·(intro w hSw;(try dsimp only at hSw);go_simp;try with_reducible rfl)
 try simp only[Act.put,List.setIfInBounds_toArray,List.set_cons_zero,List.set_cons_succ]
 refine wpAnyH_ready (rs:=[2]) (by kernel_rfl) (by simp) ?_
 refine AllReadyH.cons (o:=⟨some 5,_,_,_,_,_⟩) rfl (fun K hK=>?_) AllReadyH.nil
 go_simp
 go_at_call 29
 refine(HNm.out _ _).mono ?_;rintro e w5 ⟨rfl,b5⟩;replace HK0:=zH (HK0.out.call b5);have hs:=HK0;clear b5
 refine hK.out _ _ hs (fun hHeld=>?_)
 clear hK K
 try simp only[ap1,ap2,ap3,ap4,ap5]
 refine wpAnyH_ready (rs:=[6]) (by kernel_rfl) (by simp) ?_
 refine AllReadyH.cons (o:=⟨some 9,_,_,_,_,_⟩) rfl (fun K hK=>?_) AllReadyH.nil
 go_simp
 go_at_call 29
 refine(HNm.out _ _).mono ?_;rintro e w5 ⟨rfl,b5⟩;replace HK0:=zH (HK0.out.call b5);have hs:=HK0;clear b5
 refine hK.out _ _ hs (fun hHeld=>?_)
 clear hK K
 try simp only[ap1,ap2,ap3,ap4,ap5]
 refine wpAnyH_ready (rs:=[10]) (by kernel_rfl) (by simp) ?_
 refine AllReadyH.cons (o:=⟨some 13,_,_,_,_,_⟩) rfl (fun K hK=>?_) AllReadyH.nil
 go_simp
 go_at_call 29
 refine(HNm.out _ _).mono ?_;rintro e w5 ⟨rfl,b5⟩;replace HK0:=zH (HK0.out.call b5);have hs:=HK0;clear b5
 refine hK.out _ _ hs (fun hHeld=>?_)
 clear hK K
 try simp only[ap1,ap2,ap3,ap4,ap5]
 refine wpAnyH_ready (rs:=[14]) (by kernel_rfl) (by simp) ?_
 refine AllReadyH.cons (o:=⟨some 17,_,_,_,_,_⟩) rfl (fun K hK=>?_) AllReadyH.nil
 go_simp
 go_at_call 29
 refine(HNm.out _ _).mono ?_;rintro e w5 ⟨rfl,b5⟩;replace HK0:=zH (HK0.out.call b5);have hs:=HK0;clear b5
 refine hK.out _ _ hs (fun hHeld=>?_)
 clear hK K
 try simp only[ap1,ap2,ap3,ap4,ap5]
 refine wpAnyH_ready (rs:=[15]) (by kernel_rfl) (by simp) ?_
 refine AllReadyH.cons (o:=⟨some 18,_,_,_,_,_⟩) rfl (fun K hK=>?_) AllReadyH.nil
 refine step_mk4 itemLay (p1:=Snp.n1 n) (p2:=Snp.n1 z1) (p3:=Snp.n1 z2) (p4:=Snp.n1 z3) HK0 (by decide) (by rfl) _ _ _ _ (by rfl) (by rfl) (by rfl) (by rfl) (by rfl) (by rfl) (by rfl) (by rfl) (by rfl) ?_;intro _ g5 HK' _;simp only[lnA] at HK';replace HK0:=HK';clear HK';have hs:=zH (HK0.out.takeR 0)
 refine hK.out _ _ hs (fun hHeld=>?_)
 clear hK K
 try simp only[ap1,ap2,ap3,ap4,ap5]
 refine wpAnyH_take (i:=16) (oi:=⟨some 2,_,_,_,_,_⟩) (v:=?_) rfl (by kernel_rfl) (by kernel_rfl) (by kernel_rfl) (fun _ _ _ h=>h) (Or.inl ⟨by rfl,?_⟩) (by assumption) ?_
 rotate_left
 ·(intro w hSw;(try dsimp only at hSw);go_simp;try with_reducible rfl)
 try simp only[Act.put,List.setIfInBounds_toArray,List.set_cons_zero,List.set_cons_succ]
 refine wpAnyH_done (by kernel_rfl) ?_ _
 go_wp2_with fail
 go_ret
 exact⟨_,_,_,rfl,HK0.out.own 0 rfl,HK0.out.b⟩
theorem npr_any(p:Dct.Pr)(w:World)(hf:p.val.f<18446744073709551616):Calls Try.prog 53 #[.agg (prA p)] w (IsLg itemLay (Snp.prI p) w):=by
 have HTx:=zH ntxt_any
 have HIv:=zH (fun W=>nvit_any p.val W hf)
 have hil:=nit_len p.val
 obtain⟨key,k,n,f,s⟩:=p
 have HK:=kn1 w 101 (prC key k n f s)
 unfold IsI at HTx
 unfold IsLg vv at HIv
 unfold IsLg Snp.prI prA
 simp only at HIv hil ⊢
 generalize Val.items ⟨k,n,f,s⟩=lv at *
 have HN2:Hid (([Snp.t1 key]++lv).length=1+lv.length):=zH (by simp;omega)
 have HL2:=grow_ok (La:=itemLay) HN2 (by show(1+lv.length)*32≤_;omega) (by omega)
 clear hil hf
 go_enter Try.func53,Try.ntmps53
 go_wp2_with fail
 have HK0:=zH HK.out.drew
 refine wp_region_held_drew (S:=(fun W=>Hid (Kn w.heap.size w W [(w.heap.size,101,prC key k n f s)] []))) (by kernel_rfl) ?_ (fun hHeld=>?_)
 ·(try dsimp only);exact zH HK.out.drew
 refine wpAnyH_take (i:=0) (oi:=⟨some 3,_,_,_,_,_⟩) (v:=?_) rfl (by kernel_rfl) (by kernel_rfl) (by kernel_rfl) (fun _ _ _ h=>h) (Or.inl ⟨by rfl,?_⟩) (by assumption) ?_
 rotate_left
 ·(intro w hSw;(try dsimp only at hSw);go_simp;try with_reducible rfl)
 try simp only[Act.put,List.setIfInBounds_toArray,List.set_cons_zero,List.set_cons_succ]
 refine wpAnyH_take (i:=1) (oi:=⟨some 4,_,_,_,_,_⟩) (v:=?_) rfl (by kernel_rfl) (by kernel_rfl) (by kernel_rfl) (fun _ _ _ h=>h) (Or.inl ⟨by rfl,?_⟩) (by assumption) ?_
 rotate_left
 ·(intro w hSw;refine Eq.trans (kexec_ppk hSw 0 _ (by rfl) (by rfl) (by rfl)) ?_;with_reducible rfl)
 try simp only[Act.put,List.setIfInBounds_toArray,List.set_cons_zero,List.set_cons_succ]
 refine wpAnyH_take (i:=4) (oi:=⟨some 7,_,_,_,_,_⟩) (v:=?_) rfl (by kernel_rfl) (by kernel_rfl) (by kernel_rfl) (fun _ _ _ h=>h) (Or.inl ⟨by rfl,?_⟩) (by assumption) ?_
 rotate_left
 ·(intro w hSw;(try dsimp only at hSw);go_simp;try with_reducible rfl)
 try simp only[Act.put,List.setIfInBounds_toArray,List.set_cons_zero,List.set_cons_succ]
 refine wpAnyH_take (i:=5) (oi:=⟨some 8,_,_,_,_,_⟩) (v:=?_) rfl (by kernel_rfl) (by kernel_rfl) (by kernel_rfl) (fun _ _ _ h=>h) (Or.inl ⟨by rfl,?_⟩) (by assumption) ?_
 rotate_left
 ·(intro w hSw;refine Eq.trans (kexec_ppv hSw 0 _ (by rfl) (by rfl) (by rfl)) ?_;with_reducible rfl)
 try simp only[Act.put,List.setIfInBounds_toArray,List.set_cons_zero,List.set_cons_succ]
 refine wpAnyH_ready (rs:=[2]) (by kernel_rfl) (by simp) ?_
 refine AllReadyH.cons (o:=⟨some 5,_,_,_,_,_⟩) rfl (fun K hK=>?_) AllReadyH.nil
 go_simp
 go_at_call 51
 refine(HTx.out _ _).mono ?_;rintro e w5 ⟨rfl,b5⟩;replace HK0:=zH (HK0.out.call b5);have hs:=zH (HK0.out.takeR 0);clear b5
 refine hK.out _ _ hs (fun hHeld=>?_)
 clear hK K
 try simp only[ap1,ap2,ap3,ap4,ap5]
 refine wpAnyH_ready (rs:=[3,6]) (by kernel_rfl) (by simp) ?_
 refine AllReadyH.cons (o:=⟨some 6,_,_,_,_,_⟩) rfl (fun K hK=>?_) (AllReadyH.cons (o:=⟨some 9,_,_,_,_,_⟩) rfl (fun K hK=>?_) AllReadyH.nil)
 refine step_mk1 itemLay (p:=Snp.t1 key) HK0 (by decide) (by rfl) _ (by rfl) (by rfl) (by rfl) ?_;intro _ g5 HK' _;replace HK0:=zH HK'.out.frontR;clear HK';have hs:=zH (HK0.out.takeR 0)
 refine hK.out _ _ hs (fun hHeld=>?_)
 clear hK K
 try simp only[ap1,ap2,ap3,ap4,ap5]
 refine wpAnyH_ready (rs:=[6]) (by kernel_rfl) (by simp) ?_
 refine AllReadyH.cons (o:=⟨some 9,_,_,_,_,_⟩) rfl (fun K hK=>?_) AllReadyH.nil
 go_simp
 go_at_call 55
 refine(HIv.out _).mono ?_;rintro e w5 ⟨A5,n5,c5,rfl,o5,b5⟩;replace HK0:=zH (HK0.out.called b5 o5);have HI5:=zH (Lay.Own.reads o5).1;simp only[lnA,lcA] at HK0;have hs:=zH (HK0.out.takeR 0);clear b5 o5
 refine hK.out _ _ hs (fun hHeld=>?_)
 clear hK K
 try simp only[ap1,ap2,ap3,ap4,ap5]
 refine wpAnyH_ready (rs:=[7]) (by kernel_rfl) (by simp) ?_
 refine AllReadyH.cons (o:=⟨some 10,_,_,_,_,_⟩) rfl (fun K hK=>?_) AllReadyH.nil
 have HR2:=zH (Kn.own HK0.out 1 rfl).rd;refine step_more2 itemLay HK0 0 (by rfl) _ _ (by rfl) (by rfl) (by rfl) lv (by rfl) HI5.out HR2 HL2 (N:=1+lv.length) HN2 ?_;intro A9 c9 _ HK';simp only[List.set] at HK';replace HK0:=HK';clear HK' HR2;have hs:=zH (HK0.out.takeR 0)
 refine hK.out _ _ hs (fun hHeld=>?_)
 clear hK K
 try simp only[ap1,ap2,ap3,ap4,ap5]
 refine wpAnyH_take (i:=8) (oi:=⟨some 2,_,_,_,_,_⟩) (v:=?_) rfl (by kernel_rfl) (by kernel_rfl) (by kernel_rfl) (fun _ _ _ h=>h) (Or.inl ⟨by rfl,?_⟩) (by assumption) ?_
 rotate_left
 ·(intro w hSw;(try dsimp only at hSw);go_simp;try with_reducible rfl)
 try simp only[Act.put,List.setIfInBounds_toArray,List.set_cons_zero,List.set_cons_succ]
 refine wpAnyH_done (by kernel_rfl) ?_ _
 rotate_left
 go_simp
 go_at_call 55
 refine(HIv.out _).mono ?_;rintro e w5 ⟨A5,n5,c5,rfl,o5,b5⟩;replace HK0:=zH (HK0.out.called b5 o5);have HI5:=zH (Lay.Own.reads o5).1;simp only[lnA,lcA] at HK0;have hs:=zH (HK0.out.takeR 0);clear b5 o5
 refine hK.out _ _ hs (fun hHeld=>?_)
 clear hK K
 try simp only[ap1,ap2,ap3,ap4,ap5]
 refine wpAnyH_ready (rs:=[3]) (by kernel_rfl) (by simp) ?_
 refine AllReadyH.cons (o:=⟨some 6,_,_,_,_,_⟩) rfl (fun K hK=>?_) AllReadyH.nil
 refine step_mk1 itemLay (p:=Snp.t1 key) HK0 (by decide) (by rfl) _ (by rfl) (by rfl) (by rfl) ?_;intro _ g5 HK' _;replace HK0:=zH HK'.out.frontR;clear HK';have hs:=zH (HK0.out.takeR 0)
 refine hK.out _ _ hs (fun hHeld=>?_)
 clear hK K
 try simp only[ap1,ap2,ap3,ap4,ap5]
 refine wpAnyH_ready (rs:=[7]) (by kernel_rfl) (by simp) ?_
 refine AllReadyH.cons (o:=⟨some 10,_,_,_,_,_⟩) rfl (fun K hK=>?_) AllReadyH.nil
 have HR2:=zH (Kn.own HK0.out 1 rfl).rd;refine step_more2 itemLay HK0 0 (by rfl) _ _ (by rfl) (by rfl) (by rfl) lv (by rfl) HI5.out HR2 HL2 (N:=1+lv.length) HN2 ?_;intro A9 c9 _ HK';simp only[List.set] at HK';replace HK0:=HK';clear HK' HR2;have hs:=zH (HK0.out.takeR 0)
 refine hK.out _ _ hs (fun hHeld=>?_)
 clear hK K
 try simp only[ap1,ap2,ap3,ap4,ap5]
 refine wpAnyH_take (i:=8) (oi:=⟨some 2,_,_,_,_,_⟩) (v:=?_) rfl (by kernel_rfl) (by kernel_rfl) (by kernel_rfl) (fun _ _ _ h=>h) (Or.inl ⟨by rfl,?_⟩) (by assumption) ?_
 rotate_left
 ·(intro w hSw;(try dsimp only at hSw);go_simp;try with_reducible rfl)
 try simp only[Act.put,List.setIfInBounds_toArray,List.set_cons_zero,List.set_cons_succ]
 refine wpAnyH_done (by kernel_rfl) ?_ _
 rotate_left
 all_goals
  go_wp2_with fail
  go_ret
  exact⟨_,_,_,rfl,HK0.out.own 0 rfl,HK0.out.b⟩
theorem info_its:(Try.prog.info? 41).map (fun i=>(i.zero,i.size))=some (some (Value.slice none 0 0),1):=by kernel_rfl
def itNest:Nest itemLay where
 tt:=132
 und:=Try.underlying132
 info:=info_its
theorem nse_any(x:Ses.S)(w:World)(hf:x.p.v.f<18446744073709551616):Calls Try.prog 32 #[.agg (seA x)] w (IsLg itemLay (Snp.seI x) w):=by
 have HIv:=zH (fun W=>nvit_any x.p.v W hf)
 have hil:=nit_len x.p.v
 have HNm:=zH nnum_any
 have HFl:=zH nflg_any
 have HJ:=zH iconcat_any
 have HF:Hid (∀l:List Itm.It,l.length≤1000→Fits itemLay iF l):=zH fun l h=>⟨fun _ _=>trivial,by show l.length*32≤_;omega⟩
 have HK:=kn1 w 30 (seA x)
 unfold IsI at HNm HFl
 unfold IsLg vv at HIv
 unfold IsLg Snp.seI
 generalize Val.items x.p.v=lv at *
 have HBg:Hid ((5+lv.length)*itemLay.bytes≤140737488355328):=zH (by show(5+lv.length)*32≤_;omega)
 have HL:Hid (lv.length≤1000):=zH (by omega)
 clear hil hf
 go_enter Try.func32,Try.ntmps32
 go_wp2_with fail
 have HK0:=zH HK.out.drew
 refine wp_region_held_drew (S:=(fun W=>Hid (Kn w.heap.size w W [(w.heap.size,30,seA x)] []))) (by kernel_rfl) ?_ (fun hHeld=>?_)
 ·(try dsimp only);exact zH HK.out.drew
 refine wpAnyH_take (i:=0) (oi:=⟨some 3,_,_,_,_,_⟩) (v:=?_) rfl (by kernel_rfl) (by kernel_rfl) (by kernel_rfl) (fun _ _ _ h=>h) (Or.inl ⟨by rfl,?_⟩) (by assumption) ?_
 rotate_left
 ·(intro w hSw;(try dsimp only at hSw);go_simp;try with_reducible rfl)
 try simp only[Act.put,List.setIfInBounds_toArray,List.set_cons_zero,List.set_cons_succ]
 refine wpAnyH_take (i:=1) (oi:=⟨some 4,_,_,_,_,_⟩) (v:=?_) rfl (by kernel_rfl) (by kernel_rfl) (by kernel_rfl) (fun _ _ _ h=>h) (Or.inl ⟨by rfl,?_⟩) (by assumption) ?_
 rotate_left
 ·(intro w hSw;refine Eq.trans (kse_l hSw 0 _ (by rfl) (by rfl) (by rfl)) ?_;with_reducible rfl)
 try simp only[Act.put,List.setIfInBounds_toArray,List.set_cons_zero,List.set_cons_succ]
 refine wpAnyH_take (i:=3) (oi:=⟨some 6,_,_,_,_,_⟩) (v:=?_) rfl (by kernel_rfl) (by kernel_rfl) (by kernel_rfl) (fun _ _ _ h=>h) (Or.inl ⟨by rfl,?_⟩) (by assumption) ?_
 rotate_left
 ·(intro w hSw;(try dsimp only at hSw);go_simp;try with_reducible rfl)
 try simp only[Act.put,List.setIfInBounds_toArray,List.set_cons_zero,List.set_cons_succ]
 refine wpAnyH_take (i:=4) (oi:=⟨some 7,_,_,_,_,_⟩) (v:=?_) rfl (by kernel_rfl) (by kernel_rfl) (by kernel_rfl) (fun _ _ _ h=>h) (Or.inl ⟨by rfl,?_⟩) (by assumption) ?_
 rotate_left
 ·(intro w hSw;refine Eq.trans (kse_e hSw 0 _ (by rfl) (by rfl) (by rfl)) ?_;with_reducible rfl)
 try simp only[Act.put,List.setIfInBounds_toArray,List.set_cons_zero,List.set_cons_succ]
 refine wpAnyH_take (i:=6) (oi:=⟨some 9,_,_,_,_,_⟩) (v:=?_) rfl (by kernel_rfl) (by kernel_rfl) (by kernel_rfl) (fun _ _ _ h=>h) (Or.inl ⟨by rfl,?_⟩) (by assumption) ?_
 rotate_left
 ·(intro w hSw;(try dsimp only at hSw);go_simp;try with_reducible rfl)
 try simp only[Act.put,List.setIfInBounds_toArray,List.set_cons_zero,List.set_cons_succ]
 refine wpAnyH_take (i:=7) (oi:=⟨some 10,_,_,_,_,_⟩) (v:=?_) rfl (by kernel_rfl) (by kernel_rfl) (by kernel_rfl) (fun _ _ _ h=>h) (Or.inl ⟨by rfl,?_⟩) (by assumption) ?_
 rotate_left
 ·(intro w hSw;refine Eq.trans (kse_r hSw 0 _ (by rfl) (by rfl) (by rfl)) ?_;with_reducible rfl)
 try simp only[Act.put,List.setIfInBounds_toArray,List.set_cons_zero,List.set_cons_succ]
 refine wpAnyH_take (i:=9) (oi:=⟨some 12,_,_,_,_,_⟩) (v:=?_) rfl (by kernel_rfl) (by kernel_rfl) (by kernel_rfl) (fun _ _ _ h=>h) (Or.inl ⟨by rfl,?_⟩) (by assumption) ?_
 rotate_left
 ·(intro w hSw;(try dsimp only at hSw);go_simp;try with_reducible rfl)
 try simp only[Act.put,List.setIfInBounds_toArray,List.set_cons_zero,List.set_cons_succ]
 refine wpAnyH_take (i:=10) (oi:=⟨some 13,_,_,_,_,_⟩) (v:=?_) rfl (by kernel_rfl) (by kernel_rfl) (by kernel_rfl) (fun _ _ _ h=>h) (Or.inl ⟨by rfl,?_⟩) (by assumption) ?_
 rotate_left
 ·(intro w hSw;refine Eq.trans (kse_d hSw 0 _ (by rfl) (by rfl) (by rfl)) ?_;with_reducible rfl)
 try simp only[Act.put,List.setIfInBounds_toArray,List.set_cons_zero,List.set_cons_succ]
 refine wpAnyH_take (i:=12) (oi:=⟨some 15,_,_,_,_,_⟩) (v:=?_) rfl (by kernel_rfl) (by kernel_rfl) (by kernel_rfl) (fun _ _ _ h=>h) (Or.inl ⟨by rfl,?_⟩) (by assumption) ?_
 rotate_left
 ·(intro w hSw;(try dsimp only at hSw);go_simp;try with_reducible rfl)
 try simp only[Act.put,List.setIfInBounds_toArray,List.set_cons_zero,List.set_cons_succ]
 refine wpAnyH_take (i:=13) (oi:=⟨some 16,_,_,_,_,_⟩) (v:=?_) rfl (by kernel_rfl) (by kernel_rfl) (by kernel_rfl) (fun _ _ _ h=>h) (Or.inl ⟨by rfl,?_⟩) (by assumption) ?_
 rotate_left
 ·(intro w hSw;(try dsimp only at hSw);go_simp;try with_reducible rfl)
 try simp only[Act.put,List.setIfInBounds_toArray,List.set_cons_zero,List.set_cons_succ]
 refine wpAnyH_take (i:=14) (oi:=⟨some 17,_,_,_,_,_⟩) (v:=?_) rfl (by kernel_rfl) (by kernel_rfl) (by kernel_rfl) (fun _ _ _ h=>h) (Or.inl ⟨by rfl,?_⟩) (by assumption) ?_
 rotate_left
 ·(intro w hSw;refine Eq.trans (kse_pe hSw 0 _ (by rfl) (by rfl) (by rfl)) ?_;with_reducible rfl)
 try simp only[Act.put,List.setIfInBounds_toArray,List.set_cons_zero,List.set_cons_succ]
 refine wpAnyH_take (i:=17) (oi:=⟨some 20,_,_,_,_,_⟩) (v:=?_) rfl (by kernel_rfl) (by kernel_rfl) (by kernel_rfl) (fun _ _ _ h=>h) (Or.inl ⟨by rfl,?_⟩) (by assumption) ?_
 rotate_left
 ·(intro w hSw;(try dsimp only at hSw);go_simp;try with_reducible rfl)
 try simp only[Act.put,List.setIfInBounds_toArray,List.set_cons_zero,List.set_cons_succ]
 refine wpAnyH_take (i:=18) (oi:=⟨some 21,_,_,_,_,_⟩) (v:=?_) rfl (by kernel_rfl) (by kernel_rfl) (by kernel_rfl) (fun _ _ _ h=>h) (Or.inl ⟨by rfl,?_⟩) (by assumption) ?_
 rotate_left
 ·(intro w hSw;(try dsimp only at hSw);go_simp;try with_reducible rfl)
 try simp only[Act.put,List.setIfInBounds_toArray,List.set_cons_zero,List.set_cons_succ]
 refine wpAnyH_take (i:=19) (oi:=⟨some 22,_,_,_,_,_⟩) (v:=?_) rfl (by kernel_rfl) (by kernel_rfl) (by kernel_rfl) (fun _ _ _ h=>h) (Or.inl ⟨by rfl,?_⟩) (by assumption) ?_
 rotate_left
 ·(intro w hSw;refine Eq.trans (kse_pv hSw 0 _ (by rfl) (by rfl) (by rfl)) ?_;with_reducible rfl)
 try simp only[Act.put,List.setIfInBounds_toArray,List.set_cons_zero,List.set_cons_succ]
 refine wpAnyH_ready (rs:=[2]) (by kernel_rfl) (by simp) ?_
 refine AllReadyH.cons (o:=⟨some 5,_,_,_,_,_⟩) rfl (fun K hK=>?_) AllReadyH.nil
 go_simp
 go_at_call 59
 refine(HFl.out _ _).mono ?_;rintro e w5 ⟨rfl,b5⟩;replace HK0:=zH (HK0.out.call b5);have hs:=HK0;clear b5
 refine hK.out _ _ hs (fun hHeld=>?_)
 clear hK K
 try simp only[ap1,ap2,ap3,ap4,ap5]
 refine wpAnyH_ready (rs:=[5]) (by kernel_rfl) (by simp) ?_
 refine AllReadyH.cons (o:=⟨some 8,_,_,_,_,_⟩) rfl (fun K hK=>?_) AllReadyH.nil
 go_simp
 go_at_call 29
 refine(HNm.out _ _).mono ?_;rintro e w5 ⟨rfl,b5⟩;replace HK0:=zH (HK0.out.call b5);have hs:=HK0;clear b5
 refine hK.out _ _ hs (fun hHeld=>?_)
 clear hK K
 try simp only[ap1,ap2,ap3,ap4,ap5]
 refine wpAnyH_ready (rs:=[8]) (by kernel_rfl) (by simp) ?_
 refine AllReadyH.cons (o:=⟨some 11,_,_,_,_,_⟩) rfl (fun K hK=>?_) AllReadyH.nil
 go_simp
 go_at_call 29
 refine(HNm.out _ _).mono ?_;rintro e w5 ⟨rfl,b5⟩;replace HK0:=zH (HK0.out.call b5);have hs:=HK0;clear b5
 refine hK.out _ _ hs (fun hHeld=>?_)
 clear hK K
 try simp only[ap1,ap2,ap3,ap4,ap5]
 refine wpAnyH_ready (rs:=[11]) (by kernel_rfl) (by simp) ?_
 refine AllReadyH.cons (o:=⟨some 14,_,_,_,_,_⟩) rfl (fun K hK=>?_) AllReadyH.nil
 go_simp
 go_at_call 59
 refine(HFl.out _ _).mono ?_;rintro e w5 ⟨rfl,b5⟩;replace HK0:=zH (HK0.out.call b5);have hs:=HK0;clear b5
 refine hK.out _ _ hs (fun hHeld=>?_)
 clear hK K
 try simp only[ap1,ap2,ap3,ap4,ap5]
 refine wpAnyH_ready (rs:=[15]) (by kernel_rfl) (by simp) ?_
 refine AllReadyH.cons (o:=⟨some 18,_,_,_,_,_⟩) rfl (fun K hK=>?_) AllReadyH.nil
 go_simp
 go_at_call 29
 refine(HNm.out _ _).mono ?_;rintro e w5 ⟨rfl,b5⟩;replace HK0:=zH (HK0.out.call b5);have hs:=HK0;clear b5
 refine hK.out _ _ hs (fun hHeld=>?_)
 clear hK K
 try simp only[ap1,ap2,ap3,ap4,ap5]
 refine wpAnyH_ready (rs:=[16,20]) (by kernel_rfl) (by simp) ?_
 refine AllReadyH.cons (o:=⟨some 19,_,_,_,_,_⟩) rfl (fun K hK=>?_) (AllReadyH.cons (o:=⟨some 23,_,_,_,_,_⟩) rfl (fun K hK=>?_) AllReadyH.nil)
 refine step_mk5 itemLay (p1:=Snp.fl x.live) (p2:=Snp.n1 x.ep) (p3:=Snp.n1 x.rq) (p4:=Snp.fl x.dn) (p5:=Snp.n1 x.p.e) HK0 (by decide) (by rfl) _ _ _ _ _ (by rfl) (by rfl) (by rfl) (by rfl) (by rfl) (by rfl) (by rfl) (by rfl) (by rfl) (by rfl) (by rfl) ?_;intro _ g5 HK' _;replace HK0:=zH HK'.out.frontR;clear HK';have hs:=zH (HK0.out.takeR 0)
 refine hK.out _ _ hs (fun hHeld=>?_)
 clear hK K
 try simp only[ap1,ap2,ap3,ap4,ap5]
 refine wpAnyH_ready (rs:=[20]) (by kernel_rfl) (by simp) ?_
 refine AllReadyH.cons (o:=⟨some 23,_,_,_,_,_⟩) rfl (fun K hK=>?_) AllReadyH.nil
 go_simp
 go_at_call 55
 refine(HIv.out _).mono ?_;rintro e w5 ⟨A5,n5,c5,rfl,o5,b5⟩;replace HK0:=zH (HK0.out.called b5 o5);have HI5:=zH (Lay.Own.reads o5).1;simp only[lnA,lcA] at HK0;have hs:=zH (HK0.out.takeR 0);clear b5 o5
 refine hK.out _ _ hs (fun hHeld=>?_)
 clear hK K
 try simp only[ap1,ap2,ap3,ap4,ap5]
 refine wpAnyH_ready (rs:=[21]) (by kernel_rfl) (by simp) ?_
 refine AllReadyH.cons (o:=⟨some 24,_,_,_,_,_⟩) rfl (fun K hK=>?_) AllReadyH.nil
 refine step_mks2 itemLay itNest HK0 (by rfl) _ _ (by rfl) (by rfl) (by rfl) ?_;intro _ g6 HK' _;simp only[lcA,lnA] at HK';replace HK0:=HK';clear HK';have hs:=zH ((HK0.out.takeL 1).takeR 0)
 refine hK.out _ _ hs (fun hHeld=>?_)
 clear hK K
 try simp only[ap1,ap2,ap3,ap4,ap5]
 refine wpAnyH_ready (rs:=[22]) (by kernel_rfl) (by simp) ?_
 refine AllReadyH.cons (o:=⟨some 25,_,_,_,_,_⟩) rfl (fun K hK=>?_) AllReadyH.nil
 go_simp
 go_at_call 50
 obtain rfl:=HI5.out;refine(HJ.out.two HK0 1 rfl (Sls.own (HK0.out.own 0 rfl) (HF.out _ (by show 5≤1000;decide))) (Sls.own (HK0.out.own 1 rfl) (HF.out _ HL.out)) HBg.out).mono ?_;rintro e w7 ⟨A9,n9,c9,rfl,o9,b9⟩;replace HK0:=zH (HK0.out.called b9 o9).frontR;clear o9 b9;have hs:=zH ((HK0.out.takeL 1).takeR 0)
 refine hK.out _ _ hs (fun hHeld=>?_)
 clear hK K
 try simp only[ap1,ap2,ap3,ap4,ap5]
 refine wpAnyH_take (i:=23) (oi:=⟨some 2,_,_,_,_,_⟩) (v:=?_) rfl (by kernel_rfl) (by kernel_rfl) (by kernel_rfl) (fun _ _ _ h=>h) (Or.inl ⟨by rfl,?_⟩) (by assumption) ?_
 rotate_left
 ·(intro w hSw;(try dsimp only at hSw);go_simp;try with_reducible rfl)
 try simp only[Act.put,List.setIfInBounds_toArray,List.set_cons_zero,List.set_cons_succ]
 refine wpAnyH_done (by kernel_rfl) ?_ _
 rotate_left
 go_simp
 go_at_call 55
 refine(HIv.out _).mono ?_;rintro e w5 ⟨A5,n5,c5,rfl,o5,b5⟩;replace HK0:=zH (HK0.out.called b5 o5);have HI5:=zH (Lay.Own.reads o5).1;simp only[lnA,lcA] at HK0;have hs:=zH (HK0.out.takeR 0);clear b5 o5
 refine hK.out _ _ hs (fun hHeld=>?_)
 clear hK K
 try simp only[ap1,ap2,ap3,ap4,ap5]
 refine wpAnyH_ready (rs:=[16]) (by kernel_rfl) (by simp) ?_
 refine AllReadyH.cons (o:=⟨some 19,_,_,_,_,_⟩) rfl (fun K hK=>?_) AllReadyH.nil
 refine step_mk5 itemLay (p1:=Snp.fl x.live) (p2:=Snp.n1 x.ep) (p3:=Snp.n1 x.rq) (p4:=Snp.fl x.dn) (p5:=Snp.n1 x.p.e) HK0 (by decide) (by rfl) _ _ _ _ _ (by rfl) (by rfl) (by rfl) (by rfl) (by rfl) (by rfl) (by rfl) (by rfl) (by rfl) (by rfl) (by rfl) ?_;intro _ g5 HK' _;replace HK0:=zH HK'.out.frontR;clear HK';have hs:=zH (HK0.out.takeR 0)
 refine hK.out _ _ hs (fun hHeld=>?_)
 clear hK K
 try simp only[ap1,ap2,ap3,ap4,ap5]
 refine wpAnyH_ready (rs:=[21]) (by kernel_rfl) (by simp) ?_
 refine AllReadyH.cons (o:=⟨some 24,_,_,_,_,_⟩) rfl (fun K hK=>?_) AllReadyH.nil
 refine step_mks2 itemLay itNest HK0 (by rfl) _ _ (by rfl) (by rfl) (by rfl) ?_;intro _ g6 HK' _;simp only[lcA,lnA] at HK';replace HK0:=HK';clear HK';have hs:=zH ((HK0.out.takeL 1).takeR 0)
 refine hK.out _ _ hs (fun hHeld=>?_)
 clear hK K
 try simp only[ap1,ap2,ap3,ap4,ap5]
 refine wpAnyH_ready (rs:=[22]) (by kernel_rfl) (by simp) ?_
 refine AllReadyH.cons (o:=⟨some 25,_,_,_,_,_⟩) rfl (fun K hK=>?_) AllReadyH.nil
 go_simp
 go_at_call 50
 obtain rfl:=HI5.out;refine(HJ.out.two HK0 1 rfl (Sls.own (HK0.out.own 0 rfl) (HF.out _ (by show 5≤1000;decide))) (Sls.own (HK0.out.own 1 rfl) (HF.out _ HL.out)) HBg.out).mono ?_;rintro e w7 ⟨A9,n9,c9,rfl,o9,b9⟩;replace HK0:=zH (HK0.out.called b9 o9).frontR;clear o9 b9;have hs:=zH ((HK0.out.takeL 1).takeR 0)
 refine hK.out _ _ hs (fun hHeld=>?_)
 clear hK K
 try simp only[ap1,ap2,ap3,ap4,ap5]
 refine wpAnyH_take (i:=23) (oi:=⟨some 2,_,_,_,_,_⟩) (v:=?_) rfl (by kernel_rfl) (by kernel_rfl) (by kernel_rfl) (fun _ _ _ h=>h) (Or.inl ⟨by rfl,?_⟩) (by assumption) ?_
 rotate_left
 ·(intro w hSw;(try dsimp only at hSw);go_simp;try with_reducible rfl)
 try simp only[Act.put,List.setIfInBounds_toArray,List.set_cons_zero,List.set_cons_succ]
 refine wpAnyH_done (by kernel_rfl) ?_ _
 rotate_left
 all_goals
  go_wp2_with fail
  go_ret
  exact⟨_,_,_,rfl,HK0.out.own 0 rfl,HK0.out.b⟩
end
end Go.Proofs.Ytieoeendnccafaa
