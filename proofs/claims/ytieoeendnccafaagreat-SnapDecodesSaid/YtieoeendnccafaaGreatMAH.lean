/- What value.Items and the document's Items of a value return: its items. No condition but those named. -/
import Derived.Test.YtieoeendnccafaaGreatMTK
import Derived.Test.YtieoeendnccafaaGreatMAE
import Derived.Test.YtieoeendnccafaaGreatMAF
import Derived.Test.YtieoeendnccafaaGreatMAG
import Derived.Deep.CutBlock
import Derived.Deep.DeepCutAuto
set_option linter.unusedSimpArgs false
set_option linter.unusedVariables false
set_option maxRecDepth 100000
set_option maxHeartbeats 25600000
namespace Go.Proofs.YtieoeendnccafaaGreat
section
open Go.RowKit
def IsIt(l:List Itm.It)(w:World)(e:Ending)(w':World):Prop:=∃A c,e=.returned (.slice A l.length c)∧itemLay.Own w.heap.size w' (.slice A l.length c) l∧Below w.heap.size w w'
theorem wrap_sg{f:Nat}(h:f<18446744073709551616):IntKind.i64.wrap (f:Int)=Val.sg f:=by
 rw[IntKind.wrap_i64];unfold Val.sg;split<;>omega
theorem two_ok{x y:Itm.It}:Hid ([x].length+[y].length≤9223372036854775807∧([x].length+[y].length)*itemLay.bytes≤211106232532992):=zH ⟨by show(2:Nat)≤_;decide,by show(2:Nat)*32≤_;decide⟩
def f3(a b c:Bool):Array Value:=#[.bool a,.bool b,.bool c]
theorem info_f3:(Tryz.prog.info? 208).map (·.size)=some 3:=by kernel_rfl
section
variable {b0:Nat}{w0 w:World}{L:List (Nat×TypeId×Array Value)}{R:List RowE}{ops:Array Oper}{rest:List Oper}{o:Oper}{a:Act}{Q:Exit→Act→World→Prop}
theorem Kn.mkR(h:Kn b0 w0 w L R)(l:List Itm.It)(C:Array Value)(hC:C=(itemLay.flat l).toArray)(n:Nat)(hn:n=l.length)(hl:l.length≤65536):
  Kn b0 w0 (w.alloc (.cells C itemLay.e)) L (R++[row itemLay (.slice (some ⟨w.heap.size,0,none⟩) n n) l]):=
 h.called ((Below.refl _ w).alloc (Nat.le_refl _) _) (Lay.Own.new w l C _ _ _ hC (Nat.le_refl _) rfl hn hn hl)
theorem wpList_bs1(HK:Hid (Kn b0 w0 w L R))(hgd:o.guard=none)(x:Operand)(ho:o.op=.buildSlice 84 1 #[(0,x)]){k n:Int}{s:ByteArray}(hx:a.eval x=.agg #[.int .i64 k,.int .i64 n,.string s])
  (h:∀w' g,Hid (Kn b0 w0 w' L (R++[row itemLay (.slice (some ⟨g,0,none⟩) 1 1) [⟨k,n,s⟩]]))→wpList Tryz.prog ops Q rest (a.put o.dst (.slice (some ⟨g,0,none⟩) 1 1)) w'):wpList Tryz.prog ops Q (o::rest) a w:=
 wpList_plain hgd fun K hK=>by
  have h4:=h _ w.heap.size (zH (HK.out.mkR [⟨k,n,s⟩] #[.int .i64 k,.int .i64 n,.string s] rfl 1 rfl (by show 1≤65536;decide)))
  have hr:(Instr.buildSlice 84 1 #[(0,.agg #[.int .i64 k,.int .i64 n,.string s])]).run Tryz.prog w=.ok (.slice (some ⟨w.heap.size,0,none⟩) 1 1) (w.alloc (.cells #[.int .i64 k,.int .i64 n,.string s] itemLay.e)):=by
   go_simp
   rfl
  unfold Oper.wp execOp
  simp only[ho,Sem.run_bind,Sem.run_pure,Result.andThen_ok,List.map_toArray,List.map_cons,List.map_nil,hx,hr]
  exact hK _ _ h4
theorem wpList_ak3(HK:Hid (Kn b0 w0 w L R))(hgd:o.guard=none)(ho:o.op=.alloc 208)
  (h:∀w' g,Hid (Kn b0 w0 w' (L++[(g,208,f3 false false false)]) R)→wpList Tryz.prog ops Q rest (a.put o.dst (.pointer (some ⟨g,0,none⟩))) w'):wpList Tryz.prog ops Q (o::rest) a w:=
 wpList_plain hgd fun K hK=>by
  have h4:=h _ w.heap.size (zH (HK.out.alloc _ _))
  unfold Oper.wp execOp
  simp only[ho]
  unfold f3 at h4
  go_simp
  exact hK _ _ h4
theorem wpList_sf3(HK:Hid (Kn b0 w0 w L R))(i:Nat)(hgd:o.guard=none)(p q:Operand)(ho:o.op=.store 208 p q){g:Nat}{x0 x1 x2 y0 y1 y2:Bool}(hL:L[i]?=some (g,208,f3 x0 x1 x2))(hx:a.eval p=.pointer (some ⟨g,0,none⟩))(hy:a.eval q=.agg #[.bool y0,.bool y1,.bool y2])
  (h:∀w',Hid (Kn b0 w0 w' (L.set i (g,208,f3 y0 y1 y2)) R)→wpList Tryz.prog ops Q rest (a.put o.dst undef) w'):wpList Tryz.prog ops Q (o::rest) a w:=
 wpList_ss HK i hgd _ p q ho hL hx hy (by show 3≤3;decide) info_f3 (by simp[Value.oneCell']) fun w' h1 h2=>h w' (by
  have e:putCells (f3 x0 x1 x2) 0 (#[Value.bool y0,.bool y1,.bool y2]:Array Value).toList=f3 y0 y1 y2:=by
   show putCells (f3 x0 x1 x2) 0 (f3 y0 y1 y2).toList=f3 y0 y1 y2
   rw[putCells_all (vs:=(f3 y0 y1 y2).toList) (cs:=f3 x0 x1 x2) rfl,Array.toArray_toList]
  rw[e] at h1
  exact h1)
end
section
variable (n:Int)(f:Nat)(s:ByteArray)(w:World)
theorem vits0(k:Int)(b:Bool)(hN:∀W,Calls Tryz.prog 180 #[.int .i64 k] W (IsNamed false false false b W)):Calls Tryz.prog 161 #[.agg #[.int .i64 k,.int .i64 n,.int .u64 (f:Int),.string s]] w (IsIt [⟨0,k,⟨#[]⟩⟩] w):=by
 have HN:=zH hN
 clear hN
 have HK:=kn1 w 26 #[.int .i64 k,.int .i64 n,.int .u64 (f:Int),.string s]
 have x0:=HK.out.cell 0 rfl 0 (v:=.int .i64 k) rfl
 go_enter Tryz.func161,Tryz.ntmps161
 go_wp2_with fail
 refine(HN.out _).mono ?_;rintro e w1 ⟨rfl,b1⟩
 replace HK:=hkC HK b1
 clear b1 x0
 have x0:=HK.out.cell 0 rfl 0 (v:=.int .i64 k) rfl
 go_upto_region 3 with (first|(refine wpList_ak3 HK rfl rfl ?_;intro _ g3 HK';simp only[lcA,lnA] at HK';replace HK:=HK';clear HK')|(refine wpList_sf3 HK 1 rfl _ _ rfl rfl rfl rfl ?_;intro _ HK';simp only[List.set] at HK';replace HK:=HK';clear HK';have x0:=HK.out.cell 0 rfl 0 (v:=.int .i64 k) rfl;have x1:=HK.out.cell 0 rfl 1 (v:=.int .i64 n) rfl;have x2:=HK.out.cell 0 rfl 2 (v:=.int .u64 (f:Int)) rfl;have x3:=HK.out.cell 0 rfl 3 (v:=.string s) rfl;have y0:=HK.out.cell 1 rfl 0 (v:=.bool false) rfl;have y1:=HK.out.cell 1 rfl 1 (v:=.bool false) rfl;have y2:=HK.out.cell 1 rfl 2 (v:=.bool false) rfl)|(refine wpList_bs1 HK rfl _ rfl rfl ?_;intro _ g4 HK';simp only[lnA] at HK';replace HK:=HK';clear HK';clear x0 x1 x2 x3 y0 y1 y2;have x0:=HK.out.cell 0 rfl 0 (v:=.int .i64 k) rfl;have x1:=HK.out.cell 0 rfl 1 (v:=.int .i64 n) rfl;have x2:=HK.out.cell 0 rfl 2 (v:=.int .u64 (f:Int)) rfl;have x3:=HK.out.cell 0 rfl 3 (v:=.string s) rfl;have y0:=HK.out.cell 1 rfl 0 (v:=.bool false) rfl;have y1:=HK.out.cell 1 rfl 1 (v:=.bool false) rfl;have y2:=HK.out.cell 1 rfl 2 (v:=.bool false) rfl))
 go_wp2_with fail
 go_ret
 exact⟨_,_,rfl,HK.out.own 0 rfl,HK.out.b⟩
theorem vits1:Calls Tryz.prog 161 #[.agg #[.int .i64 1,.int .i64 n,.int .u64 (f:Int),.string s]] w (IsIt [⟨0,1,⟨#[]⟩⟩,⟨0,n,⟨#[]⟩⟩] w):=by
 have HN:=zH named1
 have HK:=kn1 w 26 #[.int .i64 1,.int .i64 n,.int .u64 (f:Int),.string s]
 have x0:=HK.out.cell 0 rfl 0 (v:=.int .i64 1) rfl
 go_enter Tryz.func161,Tryz.ntmps161
 go_wp2_with fail
 refine(HN.out _).mono ?_;rintro e w1 ⟨rfl,b1⟩
 replace HK:=hkC HK b1
 clear b1 x0
 have x0:=HK.out.cell 0 rfl 0 (v:=.int .i64 1) rfl
 go_upto_region 3 with (first|(refine wpList_ak3 HK rfl rfl ?_;intro _ g3 HK';simp only[lcA,lnA] at HK';replace HK:=HK';clear HK')|(refine wpList_sf3 HK 1 rfl _ _ rfl rfl rfl rfl ?_;intro _ HK';simp only[List.set] at HK';replace HK:=HK';clear HK';have x0:=HK.out.cell 0 rfl 0 (v:=.int .i64 1) rfl;have x1:=HK.out.cell 0 rfl 1 (v:=.int .i64 n) rfl;have x2:=HK.out.cell 0 rfl 2 (v:=.int .u64 (f:Int)) rfl;have x3:=HK.out.cell 0 rfl 3 (v:=.string s) rfl;have y0:=HK.out.cell 1 rfl 0 (v:=.bool true) rfl;have y1:=HK.out.cell 1 rfl 1 (v:=.bool false) rfl;have y2:=HK.out.cell 1 rfl 2 (v:=.bool false) rfl)|(refine wpList_bs1 HK rfl _ rfl rfl ?_;intro _ g4 HK';simp only[lnA] at HK';replace HK:=HK';clear HK';clear x0 x1 x2 x3 y0 y1 y2;have x0:=HK.out.cell 0 rfl 0 (v:=.int .i64 1) rfl;have x1:=HK.out.cell 0 rfl 1 (v:=.int .i64 n) rfl;have x2:=HK.out.cell 0 rfl 2 (v:=.int .u64 (f:Int)) rfl;have x3:=HK.out.cell 0 rfl 3 (v:=.string s) rfl;have y0:=HK.out.cell 1 rfl 0 (v:=.bool true) rfl;have y1:=HK.out.cell 1 rfl 1 (v:=.bool false) rfl;have y2:=HK.out.cell 1 rfl 2 (v:=.bool false) rfl))
 go_wp2_with (first|(at_builtin;refine wpList_kpush HK itemLay 0 rfl _ _ rfl rfl rfl [⟨0,n,⟨#[]⟩⟩] rfl rfl rfl rfl two_ok (zH rfl) ?_;intro A4 c4 _ HK';simp only[List.set,lcA,lnA] at HK';replace HK:=HK';clear HK';clear x0 x1 x2 x3 y0 y1 y2;have x0:=HK.out.cell 0 rfl 0 (v:=.int .i64 1) rfl;have x1:=HK.out.cell 0 rfl 1 (v:=.int .i64 n) rfl;have x2:=HK.out.cell 0 rfl 2 (v:=.int .u64 (f:Int)) rfl;have x3:=HK.out.cell 0 rfl 3 (v:=.string s) rfl;have y0:=HK.out.cell 1 rfl 0 (v:=.bool true) rfl;have y1:=HK.out.cell 1 rfl 1 (v:=.bool false) rfl;have y2:=HK.out.cell 1 rfl 2 (v:=.bool false) rfl))
 go_ret
 exact⟨_,_,rfl,HK.out.own 0 rfl,HK.out.b⟩
theorem vits2(hf:f<18446744073709551616):Calls Tryz.prog 161 #[.agg #[.int .i64 2,.int .i64 n,.int .u64 (f:Int),.string s]] w (IsIt [⟨0,2,⟨#[]⟩⟩,⟨0,Val.sg f,⟨#[]⟩⟩] w):=by
 have HN:=zH named2
 have hsg:=wrap_sg hf
 generalize Val.sg f=z at *
 have HK:=kn1 w 26 #[.int .i64 2,.int .i64 n,.int .u64 (f:Int),.string s]
 have x0:=HK.out.cell 0 rfl 0 (v:=.int .i64 2) rfl
 go_enter Tryz.func161,Tryz.ntmps161
 go_wp2_with fail
 refine(HN.out _).mono ?_;rintro e w1 ⟨rfl,b1⟩
 replace HK:=hkC HK b1
 clear b1 x0
 have x0:=HK.out.cell 0 rfl 0 (v:=.int .i64 2) rfl
 go_upto_region 3 with (first|(refine wpList_ak3 HK rfl rfl ?_;intro _ g3 HK';simp only[lcA,lnA] at HK';replace HK:=HK';clear HK')|(refine wpList_sf3 HK 1 rfl _ _ rfl rfl rfl rfl ?_;intro _ HK';simp only[List.set] at HK';replace HK:=HK';clear HK';have x0:=HK.out.cell 0 rfl 0 (v:=.int .i64 2) rfl;have x1:=HK.out.cell 0 rfl 1 (v:=.int .i64 n) rfl;have x2:=HK.out.cell 0 rfl 2 (v:=.int .u64 (f:Int)) rfl;have x3:=HK.out.cell 0 rfl 3 (v:=.string s) rfl;have y0:=HK.out.cell 1 rfl 0 (v:=.bool false) rfl;have y1:=HK.out.cell 1 rfl 1 (v:=.bool true) rfl;have y2:=HK.out.cell 1 rfl 2 (v:=.bool false) rfl)|(refine wpList_bs1 HK rfl _ rfl rfl ?_;intro _ g4 HK';simp only[lnA] at HK';replace HK:=HK';clear HK';clear x0 x1 x2 x3 y0 y1 y2;have x0:=HK.out.cell 0 rfl 0 (v:=.int .i64 2) rfl;have x1:=HK.out.cell 0 rfl 1 (v:=.int .i64 n) rfl;have x2:=HK.out.cell 0 rfl 2 (v:=.int .u64 (f:Int)) rfl;have x3:=HK.out.cell 0 rfl 3 (v:=.string s) rfl;have y0:=HK.out.cell 1 rfl 0 (v:=.bool false) rfl;have y1:=HK.out.cell 1 rfl 1 (v:=.bool true) rfl;have y2:=HK.out.cell 1 rfl 2 (v:=.bool false) rfl))
 go_wp2_with (first|(at_builtin;refine wpList_kpush HK itemLay 0 rfl _ _ rfl rfl rfl [⟨0,z,⟨#[]⟩⟩] rfl rfl rfl rfl two_ok (zH rfl) ?_;intro A4 c4 _ HK';simp only[List.set,lcA,lnA] at HK';replace HK:=HK';clear HK';clear x0 x1 x2 x3 y0 y1 y2;have x0:=HK.out.cell 0 rfl 0 (v:=.int .i64 2) rfl;have x1:=HK.out.cell 0 rfl 1 (v:=.int .i64 n) rfl;have x2:=HK.out.cell 0 rfl 2 (v:=.int .u64 (f:Int)) rfl;have x3:=HK.out.cell 0 rfl 3 (v:=.string s) rfl;have y0:=HK.out.cell 1 rfl 0 (v:=.bool false) rfl;have y1:=HK.out.cell 1 rfl 1 (v:=.bool true) rfl;have y2:=HK.out.cell 1 rfl 2 (v:=.bool false) rfl))
 go_ret
 exact⟨_,_,rfl,HK.out.own 0 rfl,HK.out.b⟩
theorem vits3:Calls Tryz.prog 161 #[.agg #[.int .i64 3,.int .i64 n,.int .u64 (f:Int),.string s]] w (IsIt [⟨0,3,⟨#[]⟩⟩,⟨1,0,s⟩] w):=by
 have HN:=zH named3
 have HK:=kn1 w 26 #[.int .i64 3,.int .i64 n,.int .u64 (f:Int),.string s]
 have x0:=HK.out.cell 0 rfl 0 (v:=.int .i64 3) rfl
 go_enter Tryz.func161,Tryz.ntmps161
 go_wp2_with fail
 refine(HN.out _).mono ?_;rintro e w1 ⟨rfl,b1⟩
 replace HK:=hkC HK b1
 clear b1 x0
 have x0:=HK.out.cell 0 rfl 0 (v:=.int .i64 3) rfl
 go_upto_region 3 with (first|(refine wpList_ak3 HK rfl rfl ?_;intro _ g3 HK';simp only[lcA,lnA] at HK';replace HK:=HK';clear HK')|(refine wpList_sf3 HK 1 rfl _ _ rfl rfl rfl rfl ?_;intro _ HK';simp only[List.set] at HK';replace HK:=HK';clear HK';have x0:=HK.out.cell 0 rfl 0 (v:=.int .i64 3) rfl;have x1:=HK.out.cell 0 rfl 1 (v:=.int .i64 n) rfl;have x2:=HK.out.cell 0 rfl 2 (v:=.int .u64 (f:Int)) rfl;have x3:=HK.out.cell 0 rfl 3 (v:=.string s) rfl;have y0:=HK.out.cell 1 rfl 0 (v:=.bool false) rfl;have y1:=HK.out.cell 1 rfl 1 (v:=.bool false) rfl;have y2:=HK.out.cell 1 rfl 2 (v:=.bool true) rfl)|(refine wpList_bs1 HK rfl _ rfl rfl ?_;intro _ g4 HK';simp only[lnA] at HK';replace HK:=HK';clear HK';clear x0 x1 x2 x3 y0 y1 y2;have x0:=HK.out.cell 0 rfl 0 (v:=.int .i64 3) rfl;have x1:=HK.out.cell 0 rfl 1 (v:=.int .i64 n) rfl;have x2:=HK.out.cell 0 rfl 2 (v:=.int .u64 (f:Int)) rfl;have x3:=HK.out.cell 0 rfl 3 (v:=.string s) rfl;have y0:=HK.out.cell 1 rfl 0 (v:=.bool false) rfl;have y1:=HK.out.cell 1 rfl 1 (v:=.bool false) rfl;have y2:=HK.out.cell 1 rfl 2 (v:=.bool true) rfl))
 go_wp2_with (first|(at_builtin;refine wpList_kpush HK itemLay 0 rfl _ _ rfl rfl rfl [⟨1,0,s⟩] rfl rfl rfl rfl two_ok (zH rfl) ?_;intro A4 c4 _ HK';simp only[List.set,lcA,lnA] at HK';replace HK:=HK';clear HK';clear x0 x1 x2 x3 y0 y1 y2;have x0:=HK.out.cell 0 rfl 0 (v:=.int .i64 3) rfl;have x1:=HK.out.cell 0 rfl 1 (v:=.int .i64 n) rfl;have x2:=HK.out.cell 0 rfl 2 (v:=.int .u64 (f:Int)) rfl;have x3:=HK.out.cell 0 rfl 3 (v:=.string s) rfl;have y0:=HK.out.cell 1 rfl 0 (v:=.bool false) rfl;have y1:=HK.out.cell 1 rfl 1 (v:=.bool false) rfl;have y2:=HK.out.cell 1 rfl 2 (v:=.bool true) rfl))
 go_ret
 exact⟨_,_,rfl,HK.out.own 0 rfl,HK.out.b⟩
theorem rvits0(k:Int)(h1:¬k=1)(h2:¬k=2)(h3:¬k=3):Calls Tryz.prog 96 #[.agg #[.int .i64 k,.int .i64 n,.int .u64 (f:Int),.string s]] w (IsIt [⟨0,k,⟨#[]⟩⟩] w):=by
 have HK:=kn1 w 26 #[.int .i64 k,.int .i64 n,.int .u64 (f:Int),.string s]
 have x0:=HK.out.cell 0 rfl 0 (v:=.int .i64 k) rfl
 go_enter Tryz.func96,Tryz.ntmps96
 go_upto_region 2 with (first|(refine wpList_bs1 HK rfl _ rfl rfl ?_;intro _ g4 HK';simp only[lnA] at HK';replace HK:=HK';clear HK';clear x0;have x0:=HK.out.cell 0 rfl 0 (v:=.int .i64 k) rfl;have x1:=HK.out.cell 0 rfl 1 (v:=.int .i64 n) rfl;have x2:=HK.out.cell 0 rfl 2 (v:=.int .u64 (f:Int)) rfl;have x3:=HK.out.cell 0 rfl 3 (v:=.string s) rfl))
 go_wp2_with fail
 go_ret
 exact⟨_,_,rfl,HK.out.own 0 rfl,HK.out.b⟩
theorem rvits1:Calls Tryz.prog 96 #[.agg #[.int .i64 1,.int .i64 n,.int .u64 (f:Int),.string s]] w (IsIt [⟨0,1,⟨#[]⟩⟩,⟨0,n,⟨#[]⟩⟩] w):=by
 have HK:=kn1 w 26 #[.int .i64 1,.int .i64 n,.int .u64 (f:Int),.string s]
 have x0:=HK.out.cell 0 rfl 0 (v:=.int .i64 1) rfl
 go_enter Tryz.func96,Tryz.ntmps96
 go_upto_region 2 with (first|(refine wpList_bs1 HK rfl _ rfl rfl ?_;intro _ g4 HK';simp only[lnA] at HK';replace HK:=HK';clear HK';clear x0;have x0:=HK.out.cell 0 rfl 0 (v:=.int .i64 1) rfl;have x1:=HK.out.cell 0 rfl 1 (v:=.int .i64 n) rfl;have x2:=HK.out.cell 0 rfl 2 (v:=.int .u64 (f:Int)) rfl;have x3:=HK.out.cell 0 rfl 3 (v:=.string s) rfl))
 go_wp2_with (first|(at_builtin;refine wpList_kpush HK itemLay 0 rfl _ _ rfl rfl rfl [⟨0,n,⟨#[]⟩⟩] rfl rfl rfl rfl two_ok (zH rfl) ?_;intro A4 c4 _ HK';simp only[List.set,lcA,lnA] at HK';replace HK:=HK';clear HK';clear x0 x1 x2 x3;have x0:=HK.out.cell 0 rfl 0 (v:=.int .i64 1) rfl;have x1:=HK.out.cell 0 rfl 1 (v:=.int .i64 n) rfl;have x2:=HK.out.cell 0 rfl 2 (v:=.int .u64 (f:Int)) rfl;have x3:=HK.out.cell 0 rfl 3 (v:=.string s) rfl))
 go_ret
 exact⟨_,_,rfl,HK.out.own 0 rfl,HK.out.b⟩
theorem rvits2(hf:f<18446744073709551616):Calls Tryz.prog 96 #[.agg #[.int .i64 2,.int .i64 n,.int .u64 (f:Int),.string s]] w (IsIt [⟨0,2,⟨#[]⟩⟩,⟨0,Val.sg f,⟨#[]⟩⟩] w):=by
 have hsg:=wrap_sg hf
 generalize Val.sg f=z at *
 have HK:=kn1 w 26 #[.int .i64 2,.int .i64 n,.int .u64 (f:Int),.string s]
 have x0:=HK.out.cell 0 rfl 0 (v:=.int .i64 2) rfl
 go_enter Tryz.func96,Tryz.ntmps96
 go_upto_region 2 with (first|(refine wpList_bs1 HK rfl _ rfl rfl ?_;intro _ g4 HK';simp only[lnA] at HK';replace HK:=HK';clear HK';clear x0;have x0:=HK.out.cell 0 rfl 0 (v:=.int .i64 2) rfl;have x1:=HK.out.cell 0 rfl 1 (v:=.int .i64 n) rfl;have x2:=HK.out.cell 0 rfl 2 (v:=.int .u64 (f:Int)) rfl;have x3:=HK.out.cell 0 rfl 3 (v:=.string s) rfl))
 go_wp2_with (first|(at_builtin;refine wpList_kpush HK itemLay 0 rfl _ _ rfl rfl rfl [⟨0,z,⟨#[]⟩⟩] rfl rfl rfl rfl two_ok (zH rfl) ?_;intro A4 c4 _ HK';simp only[List.set,lcA,lnA] at HK';replace HK:=HK';clear HK';clear x0 x1 x2 x3;have x0:=HK.out.cell 0 rfl 0 (v:=.int .i64 2) rfl;have x1:=HK.out.cell 0 rfl 1 (v:=.int .i64 n) rfl;have x2:=HK.out.cell 0 rfl 2 (v:=.int .u64 (f:Int)) rfl;have x3:=HK.out.cell 0 rfl 3 (v:=.string s) rfl))
 go_ret
 exact⟨_,_,rfl,HK.out.own 0 rfl,HK.out.b⟩
theorem rvits3:Calls Tryz.prog 96 #[.agg #[.int .i64 3,.int .i64 n,.int .u64 (f:Int),.string s]] w (IsIt [⟨0,3,⟨#[]⟩⟩,⟨1,0,s⟩] w):=by
 have HK:=kn1 w 26 #[.int .i64 3,.int .i64 n,.int .u64 (f:Int),.string s]
 have x0:=HK.out.cell 0 rfl 0 (v:=.int .i64 3) rfl
 go_enter Tryz.func96,Tryz.ntmps96
 go_upto_region 2 with (first|(refine wpList_bs1 HK rfl _ rfl rfl ?_;intro _ g4 HK';simp only[lnA] at HK';replace HK:=HK';clear HK';clear x0;have x0:=HK.out.cell 0 rfl 0 (v:=.int .i64 3) rfl;have x1:=HK.out.cell 0 rfl 1 (v:=.int .i64 n) rfl;have x2:=HK.out.cell 0 rfl 2 (v:=.int .u64 (f:Int)) rfl;have x3:=HK.out.cell 0 rfl 3 (v:=.string s) rfl))
 go_wp2_with (first|(at_builtin;refine wpList_kpush HK itemLay 0 rfl _ _ rfl rfl rfl [⟨1,0,s⟩] rfl rfl rfl rfl two_ok (zH rfl) ?_;intro A4 c4 _ HK';simp only[List.set,lcA,lnA] at HK';replace HK:=HK';clear HK';clear x0 x1 x2 x3;have x0:=HK.out.cell 0 rfl 0 (v:=.int .i64 3) rfl;have x1:=HK.out.cell 0 rfl 1 (v:=.int .i64 n) rfl;have x2:=HK.out.cell 0 rfl 2 (v:=.int .u64 (f:Int)) rfl;have x3:=HK.out.cell 0 rfl 3 (v:=.string s) rfl))
 go_ret
 exact⟨_,_,rfl,HK.out.own 0 rfl,HK.out.b⟩
end
theorem items_split(v:Val.V):Val.items v=if v.k=1 then [⟨0,1,⟨#[]⟩⟩,⟨0,v.n,⟨#[]⟩⟩] else if v.k=2 then [⟨0,2,⟨#[]⟩⟩,⟨0,Val.sg v.f,⟨#[]⟩⟩] else if v.k=3 then [⟨0,3,⟨#[]⟩⟩,⟨1,0,v.s⟩] else [⟨0,v.k,⟨#[]⟩⟩]:=by
 unfold Val.items
 split
 ·next h=>rw[h];rfl
 ·split
  ·next h=>rw[h];rfl
  ·split
   ·next h=>rw[h];rfl
   ·rfl
theorem vitems_any(v:Val.V)(w:World)(hf:v.f<18446744073709551616):Calls Tryz.prog 161 #[vv v] w (IsIt (Val.items v) w):=by
 rw[items_split]
 obtain⟨k,n,f,s⟩:=v
 simp only at hf ⊢
 by_cases h1:k=1
 ·subst h1;rw[if_pos rfl];exact vits1 n f s w
 ·rw[if_neg h1]
  by_cases h2:k=2
  ·subst h2;rw[if_pos rfl];exact vits2 n f s w hf
  ·rw[if_neg h2]
   by_cases h3:k=3
   ·subst h3;rw[if_pos rfl];exact vits3 n f s w
   ·rw[if_neg h3]
    by_cases h0:k=0
    ·subst h0;exact vits0 n f s w 0 true named0
    ·exact vits0 n f s w k false (fun W=>named9 k W (by omega))
theorem rvitems_any(v:Val.V)(w:World)(hf:v.f<18446744073709551616):Calls Tryz.prog 96 #[vv v] w (IsIt (Val.items v) w):=by
 rw[items_split]
 obtain⟨k,n,f,s⟩:=v
 simp only at hf ⊢
 by_cases h1:k=1
 ·subst h1;rw[if_pos rfl];exact rvits1 n f s w
 ·rw[if_neg h1]
  by_cases h2:k=2
  ·subst h2;rw[if_pos rfl];exact rvits2 n f s w hf
  ·rw[if_neg h2]
   by_cases h3:k=3
   ·subst h3;rw[if_pos rfl];exact rvits3 n f s w
   ·rw[if_neg h3];exact rvits0 n f s w k h1 h2 h3
end
end Go.Proofs.YtieoeendnccafaaGreat
