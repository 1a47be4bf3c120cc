/- What snap's many returns: how many things there are, and each one's items. No condition but those named. -/
import Derived.Test.YtieoeendnccafaaGreatMTK
import Derived.Test.YtieoeendnccafaaGreatMAE
import Derived.Test.YtieoeendnccafaaGreatMAH
import Derived.Test.YtieoeendnccafaaGreatMAJ
import Derived.Test.YtieoeendnccafaaGreatMAK
import Derived.Test.YtieoeendnccafaaGreatMAL
import Derived.Test.YtieoeendnccafaaGreatMAN
import Derived.Deep.RegionWith
import Derived.Deep.RegionHeld3
import Derived.Deep.Draws
import Derived.Lib.Hide
set_option linter.unusedSimpArgs false
set_option linter.unusedVariables false
set_option maxRecDepth 100000
set_option maxHeartbeats 25600000
namespace Go.Proofs.YtieoeendnccafaaGreat
section
open Go.RowKit
theorem info_it3:(Tryz.prog.info? 87).map (·.size)=some 3:=by kernel_rfl
def itA(x:Itm.It):Array Value:=#[.int .i64 x.k,.int .i64 x.n,.string x.s]
theorem ret_it{f:Func}{R:Ending→World→Prop}{a:Act}{w:World}{B:Nat}{x:Itm.It}{q:Tmp}(hf:f.results=#[.cell q 87])(h2:a.tmps[q]?=some (.pointer (some ⟨B,0,none⟩)))(hd:a.defers=[])(hb:Blk w B 87 (itA x))
  (hR:R (.returned (.agg (itA x))) w):bodyPost Tryz.prog f R Exit.ret a w:=
 bodyPost_ret (results_cell_row hf a.tmps w B _ _ (0,0) _ (by simp[h2]) hb Tryz.underlying87 rfl info_it3) hd hR
def IsI(x:Itm.It)(w:World)(e:Ending)(w':World):Prop:=e=.returned (.agg (itA x))∧Below w.heap.size w w'
theorem nnum_any(n:Int)(w:World):Calls Tryz.prog 92 #[.int .i64 n] w (IsI (Snp.n1 n) w):=by
 have HB:=zH ((Below.refl w.heap.size w).alloc (Nat.le_refl _) (.cells #[.int .i64 0,.int .i64 n,.string ⟨#[]⟩] 87))
 go_enter Tryz.func92,Tryz.ntmps92
 go_wp2_with fail
 exact ret_it (x:=Snp.n1 n) Tryz.results92 rfl rfl (Blk.new w _ _) ⟨rfl,HB.out⟩
theorem ntxt_any(s:ByteArray)(w:World):Calls Tryz.prog 157 #[.string s] w (IsI (Snp.t1 s) w):=by
 have HB:=zH ((Below.refl w.heap.size w).alloc (Nat.le_refl _) (.cells #[.int .i64 1,.int .i64 0,.string s] 87))
 go_enter Tryz.func157,Tryz.ntmps157
 go_wp2_with fail
 exact ret_it (x:=Snp.t1 s) Tryz.results157 rfl rfl (Blk.new w _ _) ⟨rfl,HB.out⟩
section
variable {b0:Nat}{w0 w:World}{L:List (Nat×TypeId×Array Value)}{R:List RowE}{ops:Array Oper}{rest:List Oper}{o:Oper}{a:Act}{Q:Exit→Act→World→Prop}
theorem wpList_ait(HK:Hid (Kn b0 w0 w L R))(hgd:o.guard=none)(ho:o.op=.alloc 87)
  (h:∀w' g,Hid (Kn b0 w0 w' (L++[(g,87,itA ⟨0,0,⟨#[]⟩⟩)]) R)→wpList Tryz.prog ops Q rest (a.put o.dst (.pointer (some ⟨g,0,none⟩))) w'):wpList Tryz.prog ops Q (o::rest) a w:=
 wpList_plain hgd fun K hK=>by
  have h4:=h _ w.heap.size (zH (HK.out.alloc _ _))
  unfold Oper.wp execOp
  simp only[ho]
  unfold itA at h4
  go_simp
  exact hK _ _ h4
theorem wpList_sit{g:Nat}{x y:Itm.It}(HK:Hid (Kn b0 w0 w L R))(i:Nat)(hgd:o.guard=none)(p q:Operand)(ho:o.op=.store 87 p q)(hL:L[i]?=some (g,87,itA x))(hx:a.eval p=.pointer (some ⟨g,0,none⟩))(hy:a.eval q=.agg (itA y))
  (h:∀w',Hid (Kn b0 w0 w' (L.set i (g,87,itA y)) R)→wpList Tryz.prog ops Q rest (a.put o.dst undef) w'):wpList Tryz.prog ops Q (o::rest) a w:=
 wpList_ss HK i hgd _ p q ho hL hx hy (by show 3≤3;decide) info_it3 (by simp[itA,Value.oneCell']) fun w' h1 h2=>h w' (by
  have e:putCells (itA x) 0 (itA y).toList=itA y:=by
   rw[putCells_all (vs:=(itA y).toList) (cs:=itA x) rfl,Array.toArray_toList]
  rw[e] at h1
  exact h1)
end
theorem nflg_any(b:Bool)(w:World):Calls Tryz.prog 165 #[.bool b] w (IsI (Snp.fl b) w):=by
 have HNm:=zH nnum_any
 have HK:=zH (Kn.start w)
 unfold IsI at HNm
 cases b
 all_goals
  go_enter Tryz.func165,Tryz.ntmps165
  go_wp2_with (first|(refine wpList_ait HK rfl rfl ?_;intro _ g1 HK';simp only[lnA] at HK';replace HK:=HK';clear HK'))
  refine(HNm.out _ _).mono ?_;rintro e w1 ⟨rfl,b1⟩
  replace HK:=hkC HK b1
  clear b1
  go_wp2_with (first|(refine wpList_sit HK 0 rfl _ _ rfl rfl rfl rfl ?_;intro _ HK';simp only[List.set] at HK';replace HK:=HK';clear HK'))
  exact ret_it Tryz.results165 rfl rfl (HK.out.blk 0 rfl) ⟨rfl,HK.out.b⟩
section
variable {P:Program}{α:Type}(La:Lay P α){b0:Nat}{w0 w:World}{L:List (Nat×TypeId×Array Value)}{R:List RowE}{ops:Array Oper}{rest:List Oper}{o:Oper}{a:Act}{Q:Exit→Act→World→Prop}{K:Act→World→Prop}{E:Prop}
theorem step_mk3{p1 p2 p3:α}(HK:Hid (Kn b0 w0 w L R))(hk:3*La.k≤65536)(hgd:o.guard=none)(x y z:Operand)(ho:o.op=.buildSlice La.t 3 #[(0,x),(1,y),(2,z)]){v1 v2 v3:Value}(h1:a.eval x=v1)(h2:a.eval y=v2)(h3:a.eval z=v3)(c1:v1.cells.toList=La.f p1)(c2:v2.cells.toList=La.f p2)(c3:v3.cells.toList=La.f p3)
  (h:∀w' g,Hid (Kn b0 w0 w' L (R++[row La (.slice (some ⟨g,0,none⟩) 3 3) [p1,p2,p3]]))→Hid (Below w.heap.size w w')→K (a.put o.dst (.slice (some ⟨g,0,none⟩) 3 3)) w'):if Region.wanted o (yielded ops a.tmps)=true then Oper.wp P o a w K Q else E:=by
 rw[if_pos (by simp[Region.wanted,hgd])]
 exact kwp_mk La HK [p1,p2,p3] 3 _ ho [v1,v2,v3] (by simp[h1,h2,h3]) (by simp[c1,c2,c3]) rfl hk h
theorem step_mk4{p1 p2 p3 p4:α}(HK:Hid (Kn b0 w0 w L R))(hk:4*La.k≤65536)(hgd:o.guard=none)(x y z u:Operand)(ho:o.op=.buildSlice La.t 4 #[(0,x),(1,y),(2,z),(3,u)]){v1 v2 v3 v4:Value}(h1:a.eval x=v1)(h2:a.eval y=v2)(h3:a.eval z=v3)(h4:a.eval u=v4)(c1:v1.cells.toList=La.f p1)(c2:v2.cells.toList=La.f p2)(c3:v3.cells.toList=La.f p3)(c4:v4.cells.toList=La.f p4)
  (h:∀w' g,Hid (Kn b0 w0 w' L (R++[row La (.slice (some ⟨g,0,none⟩) 4 4) [p1,p2,p3,p4]]))→Hid (Below w.heap.size w w')→K (a.put o.dst (.slice (some ⟨g,0,none⟩) 4 4)) w'):if Region.wanted o (yielded ops a.tmps)=true then Oper.wp P o a w K Q else E:=by
 rw[if_pos (by simp[Region.wanted,hgd])]
 exact kwp_mk La HK [p1,p2,p3,p4] 4 _ ho [v1,v2,v3,v4] (by simp[h1,h2,h3,h4]) (by simp[c1,c2,c3,c4]) rfl hk h
theorem step_mk5{p1 p2 p3 p4 p5:α}(HK:Hid (Kn b0 w0 w L R))(hk:5*La.k≤65536)(hgd:o.guard=none)(x y z u t:Operand)(ho:o.op=.buildSlice La.t 5 #[(0,x),(1,y),(2,z),(3,u),(4,t)]){v1 v2 v3 v4 v5:Value}(h1:a.eval x=v1)(h2:a.eval y=v2)(h3:a.eval z=v3)(h4:a.eval u=v4)(h5:a.eval t=v5)(c1:v1.cells.toList=La.f p1)(c2:v2.cells.toList=La.f p2)(c3:v3.cells.toList=La.f p3)(c4:v4.cells.toList=La.f p4)(c5:v5.cells.toList=La.f p5)
  (h:∀w' g,Hid (Kn b0 w0 w' L (R++[row La (.slice (some ⟨g,0,none⟩) 5 5) [p1,p2,p3,p4,p5]]))→Hid (Below w.heap.size w w')→K (a.put o.dst (.slice (some ⟨g,0,none⟩) 5 5)) w'):if Region.wanted o (yielded ops a.tmps)=true then Oper.wp P o a w K Q else E:=by
 rw[if_pos (by simp[Region.wanted,hgd])]
 exact kwp_mk La HK [p1,p2,p3,p4,p5] 5 _ ho [v1,v2,v3,v4,v5] (by simp[h1,h2,h3,h4,h5]) (by simp[c1,c2,c3,c4,c5]) rfl hk h
theorem step_mks5(N:Nest La){A1 A2 A3 A4 A5:Option Addr}{n1 c1 n2 c2 n3 c3 n4 c4 n5 c5:Nat}(HK:Hid (Kn b0 w0 w L R))(hgd:o.guard=none)(x y z u t:Operand)(ho:o.op=.buildSlice N.tt 5 #[(0,x),(1,y),(2,z),(3,u),(4,t)])(h1:a.eval x=.slice A1 n1 c1)(h2:a.eval y=.slice A2 n2 c2)(h3:a.eval z=.slice A3 n3 c3)(h4:a.eval u=.slice A4 n4 c4)(h5:a.eval t=.slice A5 n5 c5)
  (h:∀w' g,Hid (Kn b0 w0 w' (L++[(g,La.t,#[.slice A1 n1 c1,.slice A2 n2 c2,.slice A3 n3 c3,.slice A4 n4 c4,.slice A5 n5 c5])]) R)→Hid (Below w.heap.size w w')→K (a.put o.dst (.slice (some ⟨g,0,none⟩) 5 5)) w'):if Region.wanted o (yielded ops a.tmps)=true then Oper.wp P o a w K Q else E:=by
 rw[if_pos (by simp[Region.wanted,hgd])]
 exact kwp_mks La N HK 5 _ ho [.slice A1 n1 c1,.slice A2 n2 c2,.slice A3 n3 c3,.slice A4 n4 c4,.slice A5 n5 c5] (by simp[h1,h2,h3,h4,h5]) (by simp[Value.cells]) rfl (by decide) (by decide) h
end
theorem nit_len(v:Val.V):1≤(Val.items v).length∧(Val.items v).length≤2:=by
 rw[items_split];(repeat' split)<;>simp
section
variable {b0:Nat}{w0 w:World}{L:List (Nat×TypeId×Array Value)}{R:List RowE}{o:Oper}{a:Act}{g:Nat}{s:Ses.S}
theorem kse_pe(HK:Hid (Kn b0 w0 w L R))(i:Nat)(x:Operand)(ho:o.op=.load 23 x)(hL:L[i]?=some (g,30,seA s))(hx:a.eval x=.pointer (some ⟨g,4,none⟩)):
  (execOp a.eval o).run Tryz.prog w=.ok (.value (.int .i64 s.p.e)) w:=kexec_lc HK 23 x ho i hL hx rfl Tryz.underlying23 rfl
theorem kse_pv(HK:Hid (Kn b0 w0 w L R))(i:Nat)(x:Operand)(ho:o.op=.load 26 x)(hL:L[i]?=some (g,30,seA s))(hx:a.eval x=.pointer (some ⟨g,5,none⟩)):
  (execOp a.eval o).run Tryz.prog w=.ok (.value (.agg #[.int .i64 s.p.v.k,.int .i64 s.p.v.n,.int .u64 (s.p.v.f:Int),.string s.p.v.s])) w:=
 kexec_ls HK _ x ho i hL hx #[.int .i64 s.p.v.k,.int .i64 s.p.v.n,.int .u64 (s.p.v.f:Int),.string s.p.v.s] (fun j hj=>by
  match j,hj with
  | 0,_|1,_|2,_|3,_=>rfl) Tryz.underlying26 info_v4
end
theorem isIt_lg{l:List Itm.It}{w:World}{e:Ending}{w':World}(h:IsIt l w e w'):IsLg itemLay l w e w':=by
 obtain⟨A,c,h1,h2,h3⟩:=h
 exact⟨A,_,c,h1,h2,h3⟩
theorem nvit_any(v:Val.V)(w:World)(hf:v.f<18446744073709551616):Calls Tryz.prog 161 #[vv v] w (IsLg itemLay (Val.items v) w):=(vitems_any v w hf).mono fun e w' h=>isIt_lg h
theorem nrf_any(r:Rf)(w:World):Calls Tryz.prog 163 #[rv r] w (IsLg itemLay (Snp.rfI r) w):=by
 have HNm:=zH nnum_any
 have HK:=kn1 w 35 #[.int .i64 r.c,.int .i64 r.e,.int .i64 r.r]
 unfold IsI at HNm
 unfold rv IsLg Snp.rfI
 go_enter Tryz.func163,Tryz.ntmps163
 go_wp2_with fail
 have HK0:=zH HK.out.drew
 refine wp_region_held_drew (S:=(fun W=>Hid (Kn w.heap.size w W [(w.heap.size,35,#[.int .i64 r.c,.int .i64 r.e,.int .i64 r.r])] []))) (by kernel_rfl) ?_ (fun hHeld=>?_)
 ·(try dsimp only);exact zH HK.out.drew
 refine stk 0 3 rfl ?_
 refine stk 1 4 rfl ?_ (fun w hSw=>kexec_lc0 hSw 0 _ (by rfl) (by rfl) (by rfl))
 refine stk 3 6 rfl ?_
 refine stk 4 7 rfl ?_ (fun w hSw=>kexec_lc1 hSw 0 _ (by rfl) (by rfl) (by rfl))
 refine stk 6 9 rfl ?_
 refine stk 7 10 rfl ?_ (fun w hSw=>krf_r hSw 0 _ (by rfl) (by rfl) (by rfl))
 refine srd1 2 (some 5) rfl (fun K hK=>?_)
 go_simp
 go_at_call 92
 refine(HNm.out _ _).mono ?_;rintro e w5 ⟨rfl,b5⟩;replace HK0:=zH (HK0.out.call b5);have hs:=HK0;clear b5
 refine hK.out _ _ hs (fun hHeld=>?_)
 clear hK K
 try simp only[ap1,ap2,ap3,ap4,ap5]
 refine srd1 5 (some 8) rfl (fun K hK=>?_)
 go_simp
 go_at_call 92
 refine(HNm.out _ _).mono ?_;rintro e w5 ⟨rfl,b5⟩;replace HK0:=zH (HK0.out.call b5);have hs:=HK0;clear b5
 refine hK.out _ _ hs (fun hHeld=>?_)
 clear hK K
 try simp only[ap1,ap2,ap3,ap4,ap5]
 refine srd1 8 (some 11) rfl (fun K hK=>?_)
 go_simp
 go_at_call 92
 refine(HNm.out _ _).mono ?_;rintro e w5 ⟨rfl,b5⟩;replace HK0:=zH (HK0.out.call b5);have hs:=HK0;clear b5
 refine hK.out _ _ hs (fun hHeld=>?_)
 clear hK K
 try simp only[ap1,ap2,ap3,ap4,ap5]
 refine srd1 9 (some 12) rfl (fun K hK=>?_)
 refine step_mk3 itemLay (p1:=Snp.n1 r.c) (p2:=Snp.n1 r.e) (p3:=Snp.n1 r.r) HK0 (by decide) (by rfl) _ _ _ (by rfl) (by rfl) (by rfl) (by rfl) (by rfl) (by rfl) (by rfl) ?_;intro _ g5 HK' _;simp only[lnA] at HK';replace HK0:=HK';clear HK';have hs:=zH (HK0.out.takeR 0)
 refine hK.out _ _ hs (fun hHeld=>?_)
 clear hK K
 try simp only[ap1,ap2,ap3,ap4,ap5]
 refine stk 10 2 rfl ?_
 refine wpAnyH_done (by kernel_rfl) ?_ _
 go_wp2_with fail
 go_ret
 exact⟨_,_,_,rfl,HK0.out.own 0 rfl,HK0.out.b⟩
theorem nmt_any(m:Mtr)(w:World)(hm:Snp.mG m):Calls Tryz.prog 164 #[.agg #[.int .i64 m.n,.int .u64 (m.s:Int),.int .u64 (m.l:Int),.int .u64 (m.m:Int)]] w (IsLg itemLay (Snp.mtI m) w):=by
 have HNm:=zH nnum_any
 obtain⟨n,s,l,m⟩:=m
 unfold Snp.mG at hm
 simp only at hm ⊢
 have hs1:=wrap_sg hm.1
 have hs2:=wrap_sg hm.2.1
 have hs3:=wrap_sg hm.2.2
 have HK:=kn1 w 61 (mC n s l m)
 unfold IsI at HNm
 unfold IsLg Snp.mtI
 simp only
 clear hm
 generalize Val.sg s=z1 at *
 generalize Val.sg l=z2 at *
 generalize Val.sg m=z3 at *
 go_enter Tryz.func164,Tryz.ntmps164
 go_wp2_with fail
 have HK0:=zH HK.out.drew
 refine wp_region_held_drew (S:=(fun W=>Hid (Kn w.heap.size w W [(w.heap.size,61,mC n s l m)] []))) (by kernel_rfl) ?_ (fun hHeld=>?_)
 ·(try dsimp only);exact zH HK.out.drew
 refine stk 0 3 rfl ?_
 refine stk 1 4 rfl ?_ (fun w hSw=>kexec_mn hSw 0 _ (by rfl) (by rfl) (by rfl))
 refine stk 3 6 rfl ?_
 refine stk 4 7 rfl ?_ (fun w hSw=>kexec_ms hSw 0 _ (by rfl) (by rfl) (by rfl))
 refine stk 5 8 rfl ?_
 refine stk 7 10 rfl ?_
 refine stk 8 11 rfl ?_ (fun w hSw=>kexec_ml hSw 0 _ (by rfl) (by rfl) (by rfl))
 refine stk 9 12 rfl ?_
 refine stk 11 14 rfl ?_
 refine stk 12 15 rfl ?_ (fun w hSw=>kexec_mm hSw 0 _ (by rfl) (by rfl) (by rfl))
 refine stk 13 16 rfl ?_
 refine srd1 2 (some 5) rfl (fun K hK=>?_)
 go_simp
 go_at_call 92
 refine(HNm.out _ _).mono ?_;rintro e w5 ⟨rfl,b5⟩;replace HK0:=zH (HK0.out.call b5);have hs:=HK0;clear b5
 refine hK.out _ _ hs (fun hHeld=>?_)
 clear hK K
 try simp only[ap1,ap2,ap3,ap4,ap5]
 refine srd1 6 (some 9) rfl (fun K hK=>?_)
 go_simp
 go_at_call 92
 refine(HNm.out _ _).mono ?_;rintro e w5 ⟨rfl,b5⟩;replace HK0:=zH (HK0.out.call b5);have hs:=HK0;clear b5
 refine hK.out _ _ hs (fun hHeld=>?_)
 clear hK K
 try simp only[ap1,ap2,ap3,ap4,ap5]
 refine srd1 10 (some 13) rfl (fun K hK=>?_)
 go_simp
 go_at_call 92
 refine(HNm.out _ _).mono ?_;rintro e w5 ⟨rfl,b5⟩;replace HK0:=zH (HK0.out.call b5);have hs:=HK0;clear b5
 refine hK.out _ _ hs (fun hHeld=>?_)
 clear hK K
 try simp only[ap1,ap2,ap3,ap4,ap5]
 refine srd1 14 (some 17) rfl (fun K hK=>?_)
 go_simp
 go_at_call 92
 refine(HNm.out _ _).mono ?_;rintro e w5 ⟨rfl,b5⟩;replace HK0:=zH (HK0.out.call b5);have hs:=HK0;clear b5
 refine hK.out _ _ hs (fun hHeld=>?_)
 clear hK K
 try simp only[ap1,ap2,ap3,ap4,ap5]
 refine srd1 15 (some 18) rfl (fun K hK=>?_)
 refine step_mk4 itemLay (p1:=Snp.n1 n) (p2:=Snp.n1 z1) (p3:=Snp.n1 z2) (p4:=Snp.n1 z3) HK0 (by decide) (by rfl) _ _ _ _ (by rfl) (by rfl) (by rfl) (by rfl) (by rfl) (by rfl) (by rfl) (by rfl) (by rfl) ?_;intro _ g5 HK' _;simp only[lnA] at HK';replace HK0:=HK';clear HK';have hs:=zH (HK0.out.takeR 0)
 refine hK.out _ _ hs (fun hHeld=>?_)
 clear hK K
 try simp only[ap1,ap2,ap3,ap4,ap5]
 refine stk 16 2 rfl ?_
 refine wpAnyH_done (by kernel_rfl) ?_ _
 go_wp2_with fail
 go_ret
 exact⟨_,_,_,rfl,HK0.out.own 0 rfl,HK0.out.b⟩
theorem npr_any(p:Dct.Pr)(w:World)(hf:p.val.f<18446744073709551616):Calls Tryz.prog 159 #[.agg (prA p)] w (IsLg itemLay (Snp.prI p) w):=by
 have HTx:=zH ntxt_any
 have HIv:=zH (fun W=>nvit_any p.val W hf)
 have hil:=nit_len p.val
 obtain⟨key,k,n,f,s⟩:=p
 have HK:=kn1 w 103 (prC key k n f s)
 unfold IsI at HTx
 unfold IsLg vv at HIv
 unfold IsLg Snp.prI prA
 simp only at HIv hil ⊢
 generalize Val.items ⟨k,n,f,s⟩=lv at *
 have HN2:Hid (([Snp.t1 key]++lv).length=1+lv.length):=zH (by simp;omega)
 have HL2:=grow_ok (La:=itemLay) HN2 (by show(1+lv.length)*32≤_;omega) (by omega)
 clear hil hf
 go_enter Tryz.func159,Tryz.ntmps159
 go_wp2_with fail
 have HK0:=zH HK.out.drew
 refine wp_region_held_drew (S:=(fun W=>Hid (Kn w.heap.size w W [(w.heap.size,103,prC key k n f s)] []))) (by kernel_rfl) ?_ (fun hHeld=>?_)
 ·(try dsimp only);exact zH HK.out.drew
 refine stk 0 3 rfl ?_
 refine stk 1 4 rfl ?_ (fun w hSw=>kexec_ppk hSw 0 _ (by rfl) (by rfl) (by rfl))
 refine stk 4 7 rfl ?_
 refine stk 5 8 rfl ?_ (fun w hSw=>kexec_ppv hSw 0 _ (by rfl) (by rfl) (by rfl))
 refine srd1 2 (some 5) rfl (fun K hK=>?_)
 go_simp
 go_at_call 157
 refine(HTx.out _ _).mono ?_;rintro e w5 ⟨rfl,b5⟩;replace HK0:=zH (HK0.out.call b5);have hs:=zH (HK0.out.takeR 0);clear b5
 refine hK.out _ _ hs (fun hHeld=>?_)
 clear hK K
 try simp only[ap1,ap2,ap3,ap4,ap5]
 refine srd2 3 (some 6) 6 (some 9) rfl rfl (fun K hK=>?_) (fun K hK=>?_)
 refine step_mk1 itemLay (p:=Snp.t1 key) HK0 (by decide) (by rfl) _ (by rfl) (by rfl) (by rfl) ?_;intro _ g5 HK' _;replace HK0:=zH HK'.out.frontR;clear HK';have hs:=zH (HK0.out.takeR 0)
 refine hK.out _ _ hs (fun hHeld=>?_)
 clear hK K
 try simp only[ap1,ap2,ap3,ap4,ap5]
 refine srd1 6 (some 9) rfl (fun K hK=>?_)
 go_simp
 go_at_call 161
 refine(HIv.out _).mono ?_;rintro e w5 ⟨A5,n5,c5,rfl,o5,b5⟩;replace HK0:=zH (HK0.out.called b5 o5);have HI5:=zH (Lay.Own.reads o5).1;simp only[lnA,lcA] at HK0;have hs:=zH (HK0.out.takeR 0);clear b5 o5
 refine hK.out _ _ hs (fun hHeld=>?_)
 clear hK K
 try simp only[ap1,ap2,ap3,ap4,ap5]
 refine srd1 7 (some 10) rfl (fun K hK=>?_)
 have HR2:=zH (Kn.own HK0.out 1 rfl).rd;refine step_more2 itemLay HK0 0 (by rfl) _ _ (by rfl) (by rfl) (by rfl) lv (by rfl) HI5.out HR2 HL2 (N:=1+lv.length) HN2 ?_;intro A9 c9 _ HK';simp only[List.set] at HK';replace HK0:=HK';clear HK' HR2;have hs:=zH (HK0.out.takeR 0)
 refine hK.out _ _ hs (fun hHeld=>?_)
 clear hK K
 try simp only[ap1,ap2,ap3,ap4,ap5]
 refine stk 8 2 rfl ?_
 refine wpAnyH_done (by kernel_rfl) ?_ _
 rotate_left
 go_simp
 go_at_call 161
 refine(HIv.out _).mono ?_;rintro e w5 ⟨A5,n5,c5,rfl,o5,b5⟩;replace HK0:=zH (HK0.out.called b5 o5);have HI5:=zH (Lay.Own.reads o5).1;simp only[lnA,lcA] at HK0;have hs:=zH (HK0.out.takeR 0);clear b5 o5
 refine hK.out _ _ hs (fun hHeld=>?_)
 clear hK K
 try simp only[ap1,ap2,ap3,ap4,ap5]
 refine srd1 3 (some 6) rfl (fun K hK=>?_)
 refine step_mk1 itemLay (p:=Snp.t1 key) HK0 (by decide) (by rfl) _ (by rfl) (by rfl) (by rfl) ?_;intro _ g5 HK' _;replace HK0:=zH HK'.out.frontR;clear HK';have hs:=zH (HK0.out.takeR 0)
 refine hK.out _ _ hs (fun hHeld=>?_)
 clear hK K
 try simp only[ap1,ap2,ap3,ap4,ap5]
 refine srd1 7 (some 10) rfl (fun K hK=>?_)
 have HR2:=zH (Kn.own HK0.out 1 rfl).rd;refine step_more2 itemLay HK0 0 (by rfl) _ _ (by rfl) (by rfl) (by rfl) lv (by rfl) HI5.out HR2 HL2 (N:=1+lv.length) HN2 ?_;intro A9 c9 _ HK';simp only[List.set] at HK';replace HK0:=HK';clear HK' HR2;have hs:=zH (HK0.out.takeR 0)
 refine hK.out _ _ hs (fun hHeld=>?_)
 clear hK K
 try simp only[ap1,ap2,ap3,ap4,ap5]
 refine stk 8 2 rfl ?_
 refine wpAnyH_done (by kernel_rfl) ?_ _
 rotate_left
 all_goals
  go_wp2_with fail
  go_ret
  exact⟨_,_,_,rfl,HK0.out.own 0 rfl,HK0.out.b⟩
theorem info_its:(Tryz.prog.info? 84).map (fun i=>(i.zero,i.size))=some (some (Value.slice none 0 0),1):=by kernel_rfl
def itNest:Nest itemLay where
 tt:=251
 und:=Tryz.underlying251
 info:=info_its
theorem nse_any(x:Ses.S)(w:World)(hf:x.p.v.f<18446744073709551616):Calls Tryz.prog 95 #[.agg (seA x)] w (IsLg itemLay (Snp.seI x) w):=by
 have HIv:=zH (fun W=>nvit_any x.p.v W hf)
 have hil:=nit_len x.p.v
 have HNm:=zH nnum_any
 have HFl:=zH nflg_any
 have HJ:=zH iconcat_any
 have HF:Hid (∀l:List Itm.It,l.length≤1000→Fits itemLay iF l):=zH fun l h=>⟨fun _ _=>trivial,by show l.length*32≤_;omega⟩
 have HK:=kn1 w 30 (seA x)
 unfold IsI at HNm HFl
 unfold IsLg vv at HIv
 unfold IsLg Snp.seI
 generalize Val.items x.p.v=lv at *
 have HBg:Hid ((5+lv.length)*itemLay.bytes≤140737488355328):=zH (by show(5+lv.length)*32≤_;omega)
 have HL:Hid (lv.length≤1000):=zH (by omega)
 clear hil hf
 go_enter Tryz.func95,Tryz.ntmps95
 go_wp2_with fail
 have HK0:=zH HK.out.drew
 refine wp_region_held_drew (S:=(fun W=>Hid (Kn w.heap.size w W [(w.heap.size,30,seA x)] []))) (by kernel_rfl) ?_ (fun hHeld=>?_)
 ·(try dsimp only);exact zH HK.out.drew
 refine stk 0 3 rfl ?_
 refine stk 1 4 rfl ?_ (fun w hSw=>kse_l hSw 0 _ (by rfl) (by rfl) (by rfl))
 refine stk 3 6 rfl ?_
 refine stk 4 7 rfl ?_ (fun w hSw=>kse_e hSw 0 _ (by rfl) (by rfl) (by rfl))
 refine stk 6 9 rfl ?_
 refine stk 7 10 rfl ?_ (fun w hSw=>kse_r hSw 0 _ (by rfl) (by rfl) (by rfl))
 refine stk 9 12 rfl ?_
 refine stk 10 13 rfl ?_ (fun w hSw=>kse_d hSw 0 _ (by rfl) (by rfl) (by rfl))
 refine stk 12 15 rfl ?_
 refine stk 13 16 rfl ?_
 refine stk 14 17 rfl ?_ (fun w hSw=>kse_pe hSw 0 _ (by rfl) (by rfl) (by rfl))
 refine stk 17 20 rfl ?_
 refine stk 18 21 rfl ?_
 refine stk 19 22 rfl ?_ (fun w hSw=>kse_pv hSw 0 _ (by rfl) (by rfl) (by rfl))
 refine srd1 2 (some 5) rfl (fun K hK=>?_)
 go_simp
 go_at_call 165
 refine(HFl.out _ _).mono ?_;rintro e w5 ⟨rfl,b5⟩;replace HK0:=zH (HK0.out.call b5);have hs:=HK0;clear b5
 refine hK.out _ _ hs (fun hHeld=>?_)
 clear hK K
 try simp only[ap1,ap2,ap3,ap4,ap5]
 refine srd1 5 (some 8) rfl (fun K hK=>?_)
 go_simp
 go_at_call 92
 refine(HNm.out _ _).mono ?_;rintro e w5 ⟨rfl,b5⟩;replace HK0:=zH (HK0.out.call b5);have hs:=HK0;clear b5
 refine hK.out _ _ hs (fun hHeld=>?_)
 clear hK K
 try simp only[ap1,ap2,ap3,ap4,ap5]
 refine srd1 8 (some 11) rfl (fun K hK=>?_)
 go_simp
 go_at_call 92
 refine(HNm.out _ _).mono ?_;rintro e w5 ⟨rfl,b5⟩;replace HK0:=zH (HK0.out.call b5);have hs:=HK0;clear b5
 refine hK.out _ _ hs (fun hHeld=>?_)
 clear hK K
 try simp only[ap1,ap2,ap3,ap4,ap5]
 refine srd1 11 (some 14) rfl (fun K hK=>?_)
 go_simp
 go_at_call 165
 refine(HFl.out _ _).mono ?_;rintro e w5 ⟨rfl,b5⟩;replace HK0:=zH (HK0.out.call b5);have hs:=HK0;clear b5
 refine hK.out _ _ hs (fun hHeld=>?_)
 clear hK K
 try simp only[ap1,ap2,ap3,ap4,ap5]
 refine srd1 15 (some 18) rfl (fun K hK=>?_)
 go_simp
 go_at_call 92
 refine(HNm.out _ _).mono ?_;rintro e w5 ⟨rfl,b5⟩;replace HK0:=zH (HK0.out.call b5);have hs:=HK0;clear b5
 refine hK.out _ _ hs (fun hHeld=>?_)
 clear hK K
 try simp only[ap1,ap2,ap3,ap4,ap5]
 refine srd2 16 (some 19) 20 (some 23) rfl rfl (fun K hK=>?_) (fun K hK=>?_)
 refine step_mk5 itemLay (p1:=Snp.fl x.live) (p2:=Snp.n1 x.ep) (p3:=Snp.n1 x.rq) (p4:=Snp.fl x.dn) (p5:=Snp.n1 x.p.e) HK0 (by decide) (by rfl) _ _ _ _ _ (by rfl) (by rfl) (by rfl) (by rfl) (by rfl) (by rfl) (by rfl) (by rfl) (by rfl) (by rfl) (by rfl) ?_;intro _ g5 HK' _;replace HK0:=zH HK'.out.frontR;clear HK';have hs:=zH (HK0.out.takeR 0)
 refine hK.out _ _ hs (fun hHeld=>?_)
 clear hK K
 try simp only[ap1,ap2,ap3,ap4,ap5]
 refine srd1 20 (some 23) rfl (fun K hK=>?_)
 go_simp
 go_at_call 161
 refine(HIv.out _).mono ?_;rintro e w5 ⟨A5,n5,c5,rfl,o5,b5⟩;replace HK0:=zH (HK0.out.called b5 o5);have HI5:=zH (Lay.Own.reads o5).1;simp only[lnA,lcA] at HK0;have hs:=zH (HK0.out.takeR 0);clear b5 o5
 refine hK.out _ _ hs (fun hHeld=>?_)
 clear hK K
 try simp only[ap1,ap2,ap3,ap4,ap5]
 refine srd1 21 (some 24) rfl (fun K hK=>?_)
 refine step_mks2 itemLay itNest HK0 (by rfl) _ _ (by rfl) (by rfl) (by rfl) ?_;intro _ g6 HK' _;simp only[lcA,lnA] at HK';replace HK0:=HK';clear HK';have hs:=zH ((HK0.out.takeL 1).takeR 0)
 refine hK.out _ _ hs (fun hHeld=>?_)
 clear hK K
 try simp only[ap1,ap2,ap3,ap4,ap5]
 refine srd1 22 (some 25) rfl (fun K hK=>?_)
 go_simp
 go_at_call 156
 obtain rfl:=HI5.out;refine(HJ.out.two HK0 1 rfl (Sls.own (HK0.out.own 0 rfl) (HF.out _ (by show 5≤1000;decide))) (Sls.own (HK0.out.own 1 rfl) (HF.out _ HL.out)) HBg.out).mono ?_;rintro e w7 ⟨A9,n9,c9,rfl,o9,b9⟩;replace HK0:=zH (HK0.out.called b9 o9).frontR;clear o9 b9;have hs:=zH ((HK0.out.takeL 1).takeR 0)
 refine hK.out _ _ hs (fun hHeld=>?_)
 clear hK K
 try simp only[ap1,ap2,ap3,ap4,ap5]
 refine stk 23 2 rfl ?_
 refine wpAnyH_done (by kernel_rfl) ?_ _
 rotate_left
 go_simp
 go_at_call 161
 refine(HIv.out _).mono ?_;rintro e w5 ⟨A5,n5,c5,rfl,o5,b5⟩;replace HK0:=zH (HK0.out.called b5 o5);have HI5:=zH (Lay.Own.reads o5).1;simp only[lnA,lcA] at HK0;have hs:=zH (HK0.out.takeR 0);clear b5 o5
 refine hK.out _ _ hs (fun hHeld=>?_)
 clear hK K
 try simp only[ap1,ap2,ap3,ap4,ap5]
 refine srd1 16 (some 19) rfl (fun K hK=>?_)
 refine step_mk5 itemLay (p1:=Snp.fl x.live) (p2:=Snp.n1 x.ep) (p3:=Snp.n1 x.rq) (p4:=Snp.fl x.dn) (p5:=Snp.n1 x.p.e) HK0 (by decide) (by rfl) _ _ _ _ _ (by rfl) (by rfl) (by rfl) (by rfl) (by rfl) (by rfl) (by rfl) (by rfl) (by rfl) (by rfl) (by rfl) ?_;intro _ g5 HK' _;replace HK0:=zH HK'.out.frontR;clear HK';have hs:=zH (HK0.out.takeR 0)
 refine hK.out _ _ hs (fun hHeld=>?_)
 clear hK K
 try simp only[ap1,ap2,ap3,ap4,ap5]
 refine srd1 21 (some 24) rfl (fun K hK=>?_)
 refine step_mks2 itemLay itNest HK0 (by rfl) _ _ (by rfl) (by rfl) (by rfl) ?_;intro _ g6 HK' _;simp only[lcA,lnA] at HK';replace HK0:=HK';clear HK';have hs:=zH ((HK0.out.takeL 1).takeR 0)
 refine hK.out _ _ hs (fun hHeld=>?_)
 clear hK K
 try simp only[ap1,ap2,ap3,ap4,ap5]
 refine srd1 22 (some 25) rfl (fun K hK=>?_)
 go_simp
 go_at_call 156
 obtain rfl:=HI5.out;refine(HJ.out.two HK0 1 rfl (Sls.own (HK0.out.own 0 rfl) (HF.out _ (by show 5≤1000;decide))) (Sls.own (HK0.out.own 1 rfl) (HF.out _ HL.out)) HBg.out).mono ?_;rintro e w7 ⟨A9,n9,c9,rfl,o9,b9⟩;replace HK0:=zH (HK0.out.called b9 o9).frontR;clear o9 b9;have hs:=zH ((HK0.out.takeL 1).takeR 0)
 refine hK.out _ _ hs (fun hHeld=>?_)
 clear hK K
 try simp only[ap1,ap2,ap3,ap4,ap5]
 refine stk 23 2 rfl ?_
 refine wpAnyH_done (by kernel_rfl) ?_ _
 rotate_left
 all_goals
  go_wp2_with fail
  go_ret
  exact⟨_,_,_,rfl,HK0.out.own 0 rfl,HK0.out.b⟩
end
section
open Go.RowKit
def Snp.mk{α:Type}(n:Nat)(f:α→Snp.Its)(l:List α)(k:Nat):Snp.Its:=Snp.n1 n::(l.take k).flatMap f
theorem Snp.mk_more{α:Type}(n:Nat)(f:α→Snp.Its){l:List α}{k:Nat}{x:α}(h:l[k]?=some x):Snp.mk n f l (k+1)=Snp.mk n f l k++f x:=by
 unfold Snp.mk
 rw[Lay.take_succ h,List.flatMap_append]
 simp
theorem Snp.mk_all{α:Type}(n:Nat)(f:α→Snp.Its){l:List α}(h:l.length=n):Snp.mk n f l n=Snp.many f l:=by
 unfold Snp.mk Snp.many
 rw[← h,List.take_length]
theorem many_pr_any(f:Dct.Pr→Snp.Its)(A:Option Addr)(n c:Nat)(l:List Dct.Pr)(w:World)(hs:Sls prLay prF w A n c l)(hn:n≤8)
  (hp:∀x∈l,∀W,Below w.heap.size w W→Calls Tryz.prog 159 #[.agg (prLay.f x).toArray] W (IsLg itemLay (f x) W)) (hl:∀x∈l,(f x).length≤70) :
  Calls Tryz.prog 158 #[.slice A n c,.func (.func 159) #[] #[]] w (IsLg itemLay (Snp.many f l) w):=by
 have HS:=zH hs
 have HLen:=zH hs.len
 have HNm:=zH nnum_any
 have HP:=zH hp
 have HPl:=zH hl
 have HAll:=zH (Snp.mk_all n f hs.len)
 have HMore:=zH (fun(k:Nat) (x:Dct.Pr) (h:l[k]?=some x)=>Snp.mk_more n f h)
 have HZ:Hid (Snp.mk n f l 0=[Snp.n1 n]):=zH rfl
 have HK:=zH (Kn.start w)
 unfold IsI at HNm
 unfold IsLg at HP ⊢
 rw[← HAll.out]
 clear hs hp hl HAll
 generalize Snp.mk n f l=M at *
 go_enter Tryz.func158,Tryz.ntmps158
 go_wp2_with fail
 refine(HNm.out _ _).mono ?_;rintro e w1 ⟨rfl,b1⟩
 replace HK:=hkC HK b1
 clear b1
 go_wp2_with (first|(refine wpList_mk1 itemLay (p:=Snp.n1 n) HK (by decide) rfl _ rfl rfl rfl ?_;intro _ g2 HK';simp only[lnA] at HK';replace HK:=HK';clear HK'))
 go_loopw [5,14] (fun vl vi wr=>∃(k:Nat) (A1:Option Addr) (N1 c1:Nat),k≤n∧vl=.slice A1 N1 c1∧vi=.int .i64 k∧Hid (N1≤1+k*70)∧Hid ((M k).length=N1)∧Hid (Kn w.heap.size w wr [] [row itemLay (.slice A1 N1 c1) (M k)])) (fun _ vi _=>n-(intOf vi).toNat)
 case atStart=>exact⟨0,_,1,1,Nat.zero_le _,rfl,rfl,zH (by omega),zH (by rw[HZ.out];rfl),by rw[HZ.out];exact HK⟩
 case round=>
  clear HK
  obtain⟨k,A1,N1,c1,hk,rfl,rfl,HB1,HM,HK⟩:=hrel
  by_cases hlt:k<n
  ·obtain⟨x,hx⟩:=Lay.get_of (l:=l) (k:=k) (by rw[HLen.out];exact hlt)
   have hsl:Sls prLay prF wr A n c l:=HS.out.later HK.out.b
   obtain⟨b,o,rfl,hat⟩:=hsl.at (Nat.lt_of_le_of_lt (Nat.zero_le _) hlt)
   have HX:Hid (∀j v,(prLay.f x)[j]?=some v→wr.cell? ⟨b,o+k*5+j,none⟩=some v):=zH (hat wr (Below.refl _ _) k x hx)
   have HPx:=zH (HP.out x (List.mem_of_getElem? hx))
   have hPl:=HPl.out x (List.mem_of_getElem? hx)
   have HM1:=zH (HMore.out k x hx)
   have HN2:Hid ((M k++f x).length=N1+(f x).length):=zH (by rw[List.length_append,HM.out])
   have hB1:=HB1.out
   have HL2:=grow_ok (La:=itemLay) HN2 (by show(N1+(f x).length)*32≤_;omega) (by omega)
   have HB2:Hid (N1+(f x).length≤1+(k+1)*70):=zH (by omega)
   clear hsl hat hx hPl hB1
   have hk1:(0:Int)≤(k:Int):=by omega
   have hk2:(k:Int)<(n:Int):=by omega
   go_wp2_with (first|refine zX (exec_slx prLay (off:=o) (i:=k) _ _ (by rfl) (by rfl) (by rfl) hlt) ?_|refine zX (exec_slv prLay (off:=o+k*5) (x:=x) _ (by rfl) (by rfl) Tryz.underlying103 HX.out) ?_|(refine wpList_ak prLay HK rfl rfl ?_;intro _ g5 HK';simp only[lnA] at HK';replace HK:=HK';clear HK')|(refine wpList_st prLay (p2:=x) HK 0 rfl _ _ rfl rfl rfl rfl rfl ?_;intro _ HK';simp only[List.set] at HK';replace HK:=HK';clear HK')|refine zX (kexec_ld prLay (p:=x) Tryz.underlying103 HK 0 _ (by rfl) (by rfl) (by rfl)) ?_)
   refine(HPx.out _ HK.out.b).mono ?_;rintro e w2 ⟨A5,n5,c5,rfl,o5,b5⟩
   have HI5:=zH (Lay.Own.reads o5).1
   replace HK:=zH (HK.out.called b5 o5)
   simp only[lcA,lnA] at HK
   clear o5 b5
   have HR:=zH (HK.out.own 1 rfl).rd
   go_wp2_with (first|(at_builtin;refine wpList_kmore HK itemLay 0 rfl _ _ rfl rfl rfl (f x) rfl HI5.out HR HL2 (N:=N1+(f x).length) HN2 ?_;intro A7 c7 _ HK';simp only[List.set] at HK';replace HK:=HK';clear HK'))
   refine⟨⟨k+1,A7,_,c7,by omega,rfl,by go_num,HB2,zH (by rw[HM1.out];exact HN2.out),zH ?_⟩,by simp[intOf];omega⟩
   rw[HM1.out]
   exact(HK.out.takeL 0).takeR 1
  ·obtain rfl:k=n:=by omega
   go_wp2_with fail
   go_ret
   exact⟨_,_,_,rfl,HK.out.own 0 rfl,HK.out.b⟩
theorem many_va_any(f:Val.V→Snp.Its)(A:Option Addr)(n c:Nat)(l:List Val.V)(w:World)(hs:Sls vaLay vF w A n c l)(hn:n≤8)
  (hp:∀x∈l,∀W,Below w.heap.size w W→Calls Tryz.prog 161 #[.agg (vaLay.f x).toArray] W (IsLg itemLay (f x) W)) (hl:∀x∈l,(f x).length≤70) :
  Calls Tryz.prog 160 #[.slice A n c,.func (.func 161) #[] #[]] w (IsLg itemLay (Snp.many f l) w):=by
 have HS:=zH hs
 have HLen:=zH hs.len
 have HNm:=zH nnum_any
 have HP:=zH hp
 have HPl:=zH hl
 have HAll:=zH (Snp.mk_all n f hs.len)
 have HMore:=zH (fun(k:Nat) (x:Val.V) (h:l[k]?=some x)=>Snp.mk_more n f h)
 have HZ:Hid (Snp.mk n f l 0=[Snp.n1 n]):=zH rfl
 have HK:=zH (Kn.start w)
 unfold IsI at HNm
 unfold IsLg at HP ⊢
 rw[← HAll.out]
 clear hs hp hl HAll
 generalize Snp.mk n f l=M at *
 go_enter Tryz.func160,Tryz.ntmps160
 go_wp2_with fail
 refine(HNm.out _ _).mono ?_;rintro e w1 ⟨rfl,b1⟩
 replace HK:=hkC HK b1
 clear b1
 go_wp2_with (first|(refine wpList_mk1 itemLay (p:=Snp.n1 n) HK (by decide) rfl _ rfl rfl rfl ?_;intro _ g2 HK';simp only[lnA] at HK';replace HK:=HK';clear HK'))
 go_loopw [5,14] (fun vl vi wr=>∃(k:Nat) (A1:Option Addr) (N1 c1:Nat),k≤n∧vl=.slice A1 N1 c1∧vi=.int .i64 k∧Hid (N1≤1+k*70)∧Hid ((M k).length=N1)∧Hid (Kn w.heap.size w wr [] [row itemLay (.slice A1 N1 c1) (M k)])) (fun _ vi _=>n-(intOf vi).toNat)
 case atStart=>exact⟨0,_,1,1,Nat.zero_le _,rfl,rfl,zH (by omega),zH (by rw[HZ.out];rfl),by rw[HZ.out];exact HK⟩
 case round=>
  clear HK
  obtain⟨k,A1,N1,c1,hk,rfl,rfl,HB1,HM,HK⟩:=hrel
  by_cases hlt:k<n
  ·obtain⟨x,hx⟩:=Lay.get_of (l:=l) (k:=k) (by rw[HLen.out];exact hlt)
   have hsl:Sls vaLay vF wr A n c l:=HS.out.later HK.out.b
   obtain⟨b,o,rfl,hat⟩:=hsl.at (Nat.lt_of_le_of_lt (Nat.zero_le _) hlt)
   have HX:Hid (∀j v,(vaLay.f x)[j]?=some v→wr.cell? ⟨b,o+k*4+j,none⟩=some v):=zH (hat wr (Below.refl _ _) k x hx)
   have HPx:=zH (HP.out x (List.mem_of_getElem? hx))
   have hPl:=HPl.out x (List.mem_of_getElem? hx)
   have HM1:=zH (HMore.out k x hx)
   have HN2:Hid ((M k++f x).length=N1+(f x).length):=zH (by rw[List.length_append,HM.out])
   have hB1:=HB1.out
   have HL2:=grow_ok (La:=itemLay) HN2 (by show(N1+(f x).length)*32≤_;omega) (by omega)
   have HB2:Hid (N1+(f x).length≤1+(k+1)*70):=zH (by omega)
   clear hsl hat hx hPl hB1
   have hk1:(0:Int)≤(k:Int):=by omega
   have hk2:(k:Int)<(n:Int):=by omega
   go_wp2_with (first|refine zX (exec_slx vaLay (off:=o) (i:=k) _ _ (by rfl) (by rfl) (by rfl) hlt) ?_|refine zX (exec_slv vaLay (off:=o+k*4) (x:=x) _ (by rfl) (by rfl) Tryz.underlying26 HX.out) ?_|(refine wpList_ak vaLay HK rfl rfl ?_;intro _ g5 HK';simp only[lnA] at HK';replace HK:=HK';clear HK')|(refine wpList_st vaLay (p2:=x) HK 0 rfl _ _ rfl rfl rfl rfl rfl ?_;intro _ HK';simp only[List.set] at HK';replace HK:=HK';clear HK')|refine zX (kexec_ld vaLay (p:=x) Tryz.underlying26 HK 0 _ (by rfl) (by rfl) (by rfl)) ?_)
   refine(HPx.out _ HK.out.b).mono ?_;rintro e w2 ⟨A5,n5,c5,rfl,o5,b5⟩
   have HI5:=zH (Lay.Own.reads o5).1
   replace HK:=zH (HK.out.called b5 o5)
   simp only[lcA,lnA] at HK
   clear o5 b5
   have HR:=zH (HK.out.own 1 rfl).rd
   go_wp2_with (first|(at_builtin;refine wpList_kmore HK itemLay 0 rfl _ _ rfl rfl rfl (f x) rfl HI5.out HR HL2 (N:=N1+(f x).length) HN2 ?_;intro A7 c7 _ HK';simp only[List.set] at HK';replace HK:=HK';clear HK'))
   refine⟨⟨k+1,A7,_,c7,by omega,rfl,by go_num,HB2,zH (by rw[HM1.out];exact HN2.out),zH ?_⟩,by simp[intOf];omega⟩
   rw[HM1.out]
   exact(HK.out.takeL 0).takeR 1
  ·obtain rfl:k=n:=by omega
   go_wp2_with fail
   go_ret
   exact⟨_,_,_,rfl,HK.out.own 0 rfl,HK.out.b⟩
theorem many_rf_any(f:Rf→Snp.Its)(A:Option Addr)(n c:Nat)(l:List Rf)(w:World)(hs:Sls rfLay rF w A n c l)(hn:n≤8)
  (hp:∀x∈l,∀W,Below w.heap.size w W→Calls Tryz.prog 163 #[.agg (rfLay.f x).toArray] W (IsLg itemLay (f x) W)) (hl:∀x∈l,(f x).length≤70) :
  Calls Tryz.prog 162 #[.slice A n c,.func (.func 163) #[] #[]] w (IsLg itemLay (Snp.many f l) w):=by
 have HS:=zH hs
 have HLen:=zH hs.len
 have HNm:=zH nnum_any
 have HP:=zH hp
 have HPl:=zH hl
 have HAll:=zH (Snp.mk_all n f hs.len)
 have HMore:=zH (fun(k:Nat) (x:Rf) (h:l[k]?=some x)=>Snp.mk_more n f h)
 have HZ:Hid (Snp.mk n f l 0=[Snp.n1 n]):=zH rfl
 have HK:=zH (Kn.start w)
 unfold IsI at HNm
 unfold IsLg at HP ⊢
 rw[← HAll.out]
 clear hs hp hl HAll
 generalize Snp.mk n f l=M at *
 go_enter Tryz.func162,Tryz.ntmps162
 go_wp2_with fail
 refine(HNm.out _ _).mono ?_;rintro e w1 ⟨rfl,b1⟩
 replace HK:=hkC HK b1
 clear b1
 go_wp2_with (first|(refine wpList_mk1 itemLay (p:=Snp.n1 n) HK (by decide) rfl _ rfl rfl rfl ?_;intro _ g2 HK';simp only[lnA] at HK';replace HK:=HK';clear HK'))
 go_loopw [5,14] (fun vl vi wr=>∃(k:Nat) (A1:Option Addr) (N1 c1:Nat),k≤n∧vl=.slice A1 N1 c1∧vi=.int .i64 k∧Hid (N1≤1+k*70)∧Hid ((M k).length=N1)∧Hid (Kn w.heap.size w wr [] [row itemLay (.slice A1 N1 c1) (M k)])) (fun _ vi _=>n-(intOf vi).toNat)
 case atStart=>exact⟨0,_,1,1,Nat.zero_le _,rfl,rfl,zH (by omega),zH (by rw[HZ.out];rfl),by rw[HZ.out];exact HK⟩
 case round=>
  clear HK
  obtain⟨k,A1,N1,c1,hk,rfl,rfl,HB1,HM,HK⟩:=hrel
  by_cases hlt:k<n
  ·obtain⟨x,hx⟩:=Lay.get_of (l:=l) (k:=k) (by rw[HLen.out];exact hlt)
   have hsl:Sls rfLay rF wr A n c l:=HS.out.later HK.out.b
   obtain⟨b,o,rfl,hat⟩:=hsl.at (Nat.lt_of_le_of_lt (Nat.zero_le _) hlt)
   have HX:Hid (∀j v,(rfLay.f x)[j]?=some v→wr.cell? ⟨b,o+k*3+j,none⟩=some v):=zH (hat wr (Below.refl _ _) k x hx)
   have HPx:=zH (HP.out x (List.mem_of_getElem? hx))
   have hPl:=HPl.out x (List.mem_of_getElem? hx)
   have HM1:=zH (HMore.out k x hx)
   have HN2:Hid ((M k++f x).length=N1+(f x).length):=zH (by rw[List.length_append,HM.out])
   have hB1:=HB1.out
   have HL2:=grow_ok (La:=itemLay) HN2 (by show(N1+(f x).length)*32≤_;omega) (by omega)
   have HB2:Hid (N1+(f x).length≤1+(k+1)*70):=zH (by omega)
   clear hsl hat hx hPl hB1
   have hk1:(0:Int)≤(k:Int):=by omega
   have hk2:(k:Int)<(n:Int):=by omega
   go_wp2_with (first|refine zX (exec_slx rfLay (off:=o) (i:=k) _ _ (by rfl) (by rfl) (by rfl) hlt) ?_|refine zX (exec_slv rfLay (off:=o+k*3) (x:=x) _ (by rfl) (by rfl) Tryz.underlying35 HX.out) ?_|(refine wpList_ak rfLay HK rfl rfl ?_;intro _ g5 HK';simp only[lnA] at HK';replace HK:=HK';clear HK')|(refine wpList_st rfLay (p2:=x) HK 0 rfl _ _ rfl rfl rfl rfl rfl ?_;intro _ HK';simp only[List.set] at HK';replace HK:=HK';clear HK')|refine zX (kexec_ld rfLay (p:=x) Tryz.underlying35 HK 0 _ (by rfl) (by rfl) (by rfl)) ?_)
   refine(HPx.out _ HK.out.b).mono ?_;rintro e w2 ⟨A5,n5,c5,rfl,o5,b5⟩
   have HI5:=zH (Lay.Own.reads o5).1
   replace HK:=zH (HK.out.called b5 o5)
   simp only[lcA,lnA] at HK
   clear o5 b5
   have HR:=zH (HK.out.own 1 rfl).rd
   go_wp2_with (first|(at_builtin;refine wpList_kmore HK itemLay 0 rfl _ _ rfl rfl rfl (f x) rfl HI5.out HR HL2 (N:=N1+(f x).length) HN2 ?_;intro A7 c7 _ HK';simp only[List.set] at HK';replace HK:=HK';clear HK'))
   refine⟨⟨k+1,A7,_,c7,by omega,rfl,by go_num,HB2,zH (by rw[HM1.out];exact HN2.out),zH ?_⟩,by simp[intOf];omega⟩
   rw[HM1.out]
   exact(HK.out.takeL 0).takeR 1
  ·obtain rfl:k=n:=by omega
   go_wp2_with fail
   go_ret
   exact⟨_,_,_,rfl,HK.out.own 0 rfl,HK.out.b⟩
theorem many_ob_any(f:Oh→Snp.Its)(A:Option Addr)(n c:Nat)(l:List Oh)(w:World)(hs:Sls obLay oF w A n c l)(hn:n≤8)
  (hp:∀x∈l,∀W,Below w.heap.size w W→Calls Tryz.prog 94 #[.agg (obLay.f x).toArray] W (IsLg itemLay (f x) W)) (hl:∀x∈l,(f x).length≤70) :
  Calls Tryz.prog 93 #[.slice A n c,.func (.func 94) #[] #[]] w (IsLg itemLay (Snp.many f l) w):=by
 have HS:=zH hs
 have HLen:=zH hs.len
 have HNm:=zH nnum_any
 have HP:=zH hp
 have HPl:=zH hl
 have HAll:=zH (Snp.mk_all n f hs.len)
 have HMore:=zH (fun(k:Nat) (x:Oh) (h:l[k]?=some x)=>Snp.mk_more n f h)
 have HZ:Hid (Snp.mk n f l 0=[Snp.n1 n]):=zH rfl
 have HK:=zH (Kn.start w)
 unfold IsI at HNm
 unfold IsLg at HP ⊢
 rw[← HAll.out]
 clear hs hp hl HAll
 generalize Snp.mk n f l=M at *
 go_enter Tryz.func93,Tryz.ntmps93
 go_wp2_with fail
 refine(HNm.out _ _).mono ?_;rintro e w1 ⟨rfl,b1⟩
 replace HK:=hkC HK b1
 clear b1
 go_wp2_with (first|(refine wpList_mk1 itemLay (p:=Snp.n1 n) HK (by decide) rfl _ rfl rfl rfl ?_;intro _ g2 HK';simp only[lnA] at HK';replace HK:=HK';clear HK'))
 go_loopw [5,14] (fun vl vi wr=>∃(k:Nat) (A1:Option Addr) (N1 c1:Nat),k≤n∧vl=.slice A1 N1 c1∧vi=.int .i64 k∧Hid (N1≤1+k*70)∧Hid ((M k).length=N1)∧Hid (Kn w.heap.size w wr [] [row itemLay (.slice A1 N1 c1) (M k)])) (fun _ vi _=>n-(intOf vi).toNat)
 case atStart=>exact⟨0,_,1,1,Nat.zero_le _,rfl,rfl,zH (by omega),zH (by rw[HZ.out];rfl),by rw[HZ.out];exact HK⟩
 case round=>
  clear HK
  obtain⟨k,A1,N1,c1,hk,rfl,rfl,HB1,HM,HK⟩:=hrel
  by_cases hlt:k<n
  ·obtain⟨x,hx⟩:=Lay.get_of (l:=l) (k:=k) (by rw[HLen.out];exact hlt)
   have hsl:Sls obLay oF wr A n c l:=HS.out.later HK.out.b
   obtain⟨b,o,rfl,hat⟩:=hsl.at (Nat.lt_of_le_of_lt (Nat.zero_le _) hlt)
   have HX:Hid (∀j v,(obLay.f x)[j]?=some v→wr.cell? ⟨b,o+k*11+j,none⟩=some v):=zH (hat wr (Below.refl _ _) k x hx)
   have HPx:=zH (HP.out x (List.mem_of_getElem? hx))
   have hPl:=HPl.out x (List.mem_of_getElem? hx)
   have HM1:=zH (HMore.out k x hx)
   have HN2:Hid ((M k++f x).length=N1+(f x).length):=zH (by rw[List.length_append,HM.out])
   have hB1:=HB1.out
   have HL2:=grow_ok (La:=itemLay) HN2 (by show(N1+(f x).length)*32≤_;omega) (by omega)
   have HB2:Hid (N1+(f x).length≤1+(k+1)*70):=zH (by omega)
   clear hsl hat hx hPl hB1
   have hk1:(0:Int)≤(k:Int):=by omega
   have hk2:(k:Int)<(n:Int):=by omega
   go_wp2_with (first|refine zX (exec_slx obLay (off:=o) (i:=k) _ _ (by rfl) (by rfl) (by rfl) hlt) ?_|refine zX (exec_slv obLay (off:=o+k*11) (x:=x) _ (by rfl) (by rfl) Tryz.underlying63 HX.out) ?_|(refine wpList_ak obLay HK rfl rfl ?_;intro _ g5 HK';simp only[lnA] at HK';replace HK:=HK';clear HK')|(refine wpList_st obLay (p2:=x) HK 0 rfl _ _ rfl rfl rfl rfl rfl ?_;intro _ HK';simp only[List.set] at HK';replace HK:=HK';clear HK')|refine zX (kexec_ld obLay (p:=x) Tryz.underlying63 HK 0 _ (by rfl) (by rfl) (by rfl)) ?_)
   refine(HPx.out _ HK.out.b).mono ?_;rintro e w2 ⟨A5,n5,c5,rfl,o5,b5⟩
   have HI5:=zH (Lay.Own.reads o5).1
   replace HK:=zH (HK.out.called b5 o5)
   simp only[lcA,lnA] at HK
   clear o5 b5
   have HR:=zH (HK.out.own 1 rfl).rd
   go_wp2_with (first|(at_builtin;refine wpList_kmore HK itemLay 0 rfl _ _ rfl rfl rfl (f x) rfl HI5.out HR HL2 (N:=N1+(f x).length) HN2 ?_;intro A7 c7 _ HK';simp only[List.set] at HK';replace HK:=HK';clear HK'))
   refine⟨⟨k+1,A7,_,c7,by omega,rfl,by go_num,HB2,zH (by rw[HM1.out];exact HN2.out),zH ?_⟩,by simp[intOf];omega⟩
   rw[HM1.out]
   exact(HK.out.takeL 0).takeR 1
  ·obtain rfl:k=n:=by omega
   go_wp2_with fail
   go_ret
   exact⟨_,_,_,rfl,HK.out.own 0 rfl,HK.out.b⟩
end
end Go.Proofs.YtieoeendnccafaaGreat
