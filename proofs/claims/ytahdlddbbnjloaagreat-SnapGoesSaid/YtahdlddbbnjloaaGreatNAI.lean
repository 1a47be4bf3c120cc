/- What value.Items and the document's Items of a value return: its items. No condition but those named. -/
import Derived.Test.YtahdlddbbnjloaaGreatNAF
import Derived.Test.YtahdlddbbnjloaaGreatNAG
import Derived.Test.YtahdlddbbnjloaaGreatNAH
set_option linter.unusedSimpArgs false
set_option linter.unusedVariables false
set_option maxRecDepth 100000
set_option maxHeartbeats 25600000
open Go.RowKit
namespace Go.Proofs.YtahdlddbbnjloaaGreat
open _root_.Go.Proofs.Tryz
section
def MP(l:List ny.It)(w:World)(e:Ending)(w':World):Prop:=∃A c,e=.returned (.slice A l.length c)∧aD.Own w.heap.size w' (.slice A l.length c) l∧Below w.heap.size w w'
theorem zk{f:Nat}(h:f<18446744073709551616):IntKind.i64.wrap (f:Int)=Val.sg f:=by
 rw[IntKind.wrap_i64];unfold Val.sg;split<;>omega
theorem Kg{x y:ny.It}:Hid ([x].length+[y].length≤9223372036854775807∧([x].length+[y].length)*aD.bytes≤211106232532992):=zH ⟨by show(2:Nat)≤_;decide,by show(2:Nat)*32≤_;decide⟩
def f3(a b c:Bool):Array Value:=#[.bool a,.bool b,.bool c]
theorem aaC:(prog.info? 170).map (·.size)=some 3:=by kernel_rfl
section
variable {b0:Nat}{w0 w:World}{L:List (Nat×TypeId×Array Value)}{R:List bV}{ops:Array Oper}{rest:List Oper}{o:Oper}{a:Act}{Q:Exit→Act→World→Prop}
theorem Kn.mkR(h:Kn b0 w0 w L R)(l:List ny.It)(C:Array Value)(hC:C=(aD.flat l).toArray)(n:Nat)(hn:n=l.length)(hl:l.length≤65536):
  Kn b0 w0 (w.alloc (.cells C aD.e)) L (R++[row aD (.slice (some ⟨w.heap.size,0,none⟩) n n) l]):=
 h.called ((Below.refl _ w).alloc (Nat.le_refl _) _) (Lay.Own.new w l C _ _ _ hC (Nat.le_refl _) rfl hn hn hl)
theorem pU(HK:Hid (Kn b0 w0 w L R)){x:Operand}{k n:Int}{s:ByteArray}
  (h:∀w' g,Hid (Kn b0 w0 w' L (R++[row aD (.slice (some ⟨g,0,none⟩) 1 1) [⟨k,n,s⟩]]))→wpList prog ops Q rest (a.put o.dst (.slice (some ⟨g,0,none⟩) 1 1)) w') (hgd:o.guard=none:=by rfl)(ho:o.op=.buildSlice 53 1 #[(0,x)]:=by rfl)(hx:a.eval x=.agg #[.int .i64 k,.int .i64 n,.string s]:=by rfl):wpList prog ops Q (o::rest) a w:=
 wpList_plain hgd fun K hK=>by
  have h4:=h _ w.heap.size (zH (HK.out.mkR [⟨k,n,s⟩] #[.int .i64 k,.int .i64 n,.string s] rfl 1 rfl (by show 1≤65536;decide)))
  have hr:(Instr.buildSlice 53 1 #[(0,.agg #[.int .i64 k,.int .i64 n,.string s])]).run prog w=.ok (.slice (some ⟨w.heap.size,0,none⟩) 1 1) (w.alloc (.cells #[.int .i64 k,.int .i64 n,.string s] aD.e)):=by
   go_simp
   rfl
  exact ahi
theorem jd(HK:Hid (Kn b0 w0 w L R))
  (h:∀w' g,Hid (Kn b0 w0 w' (L++[(g,170,f3 false false false)]) R)→wpList prog ops Q rest (a.put o.dst (.pointer (some ⟨g,0,none⟩))) w') (hgd:o.guard=none:=by rfl)(ho:o.op=.alloc 170:=by rfl):wpList prog ops Q (o::rest) a w:=
 wpList_plain hgd fun K hK=>by
  have h4:=h _ w.heap.size (zH (HK.out.alloc _ _));unfold Oper.wp execOp;simp only[ho];unfold f3 at h4;exact zV
theorem iZ(HK:Hid (Kn b0 w0 w L R))(i:Nat){p:Operand}{q:Operand}{g:Nat}{x0 x1 x2 y0 y1 y2:Bool}
  (h:∀w',Hid (Kn b0 w0 w' (L.set i (g,170,f3 y0 y1 y2)) R)→wpList prog ops Q rest (a.put o.dst undef) w') (hgd:o.guard=none:=by rfl)(ho:o.op=.store 170 p q:=by rfl)(hL:L[i]?=some (g,170,f3 x0 x1 x2):=by rfl)(hx:a.eval p=.pointer (some ⟨g,0,none⟩):=by rfl)(hy:a.eval q=.agg #[.bool y0,.bool y1,.bool y2]:=by rfl):wpList prog ops Q (o::rest) a w:=
 iL HK i hgd p q ho hL hx hy (by show 3≤3;decide) aaC fun w' h1 h2=>h w' (by
  have e:putCells (f3 x0 x1 x2) 0 (#[Value.bool y0,.bool y1,.bool y2]:Array Value).toList=f3 y0 y1 y2:=by
   show putCells (f3 x0 x1 x2) 0 (f3 y0 y1 y2).toList=f3 y0 y1 y2
   rw[cK (vs:=(f3 y0 y1 y2).toList) (cs:=f3 x0 x1 x2),Array.toArray_toList]
  rw[e] at h1
  exact h1)
end
section
variable (n:Int)(f:Nat)(s:ByteArray)(w:World)
theorem acU(k:Int)(b:Bool)(hN:∀W,Calls prog 109 #[.int .i64 k] W (gN false false false b W)):Calls prog 67 #[.agg #[.int .i64 k,.int .i64 n,.int .u64 (f:Int),.string s]] w (MP [⟨0,k,⟨#[]⟩⟩] w):=by
 have HN:=zH hN;clear hN;have HK:=jw w 26 #[.int .i64 k,.int .i64 n,.int .u64 (f:Int),.string s];have x0:=HK.out.cell 0 rfl 0 (v:=.int .i64 k) rfl;go_enter func67,ntmps67;go_wp2_with fail;refine(HN.out _).mono ?_;rintro e w1 ⟨rfl,b1⟩;replace HK:=iH HK b1;clear b1 x0;have x0:=HK.out.cell 0 rfl 0 (v:=.int .i64 k) rfl;go_upto_region 3 with (first|(refine jd HK ?_;clear HK;intro _ g3 HK;simp only[aS,aK] at HK)|(refine iZ HK 1 ?_;clear HK;intro _ HK;simp only[lS] at HK;have x0:=HK.out.cell 0 rfl 0 (v:=.int .i64 k) rfl;have x1:=HK.out.cell 0 rfl 1 (v:=.int .i64 n) rfl;have x2:=HK.out.cell 0 rfl 2 (v:=.int .u64 (f:Int)) rfl;have x3:=HK.out.cell 0 rfl 3 (v:=.string s) rfl;have y0:=HK.out.cell 1 rfl 0 (v:=.bool false) rfl;have y1:=HK.out.cell 1 rfl 1 (v:=.bool false) rfl;have y2:=HK.out.cell 1 rfl 2 (v:=.bool false) rfl)|(refine pU HK ?_;clear HK;intro _ g4 HK;simp only[aK] at HK;clear x0 x1 x2 x3 y0 y1 y2;have x0:=HK.out.cell 0 rfl 0 (v:=.int .i64 k) rfl;have x1:=HK.out.cell 0 rfl 1 (v:=.int .i64 n) rfl;have x2:=HK.out.cell 0 rfl 2 (v:=.int .u64 (f:Int)) rfl;have x3:=HK.out.cell 0 rfl 3 (v:=.string s) rfl;have y0:=HK.out.cell 1 rfl 0 (v:=.bool false) rfl;have y1:=HK.out.cell 1 rfl 1 (v:=.bool false) rfl;have y2:=HK.out.cell 1 rfl 2 (v:=.bool false) rfl));go_wp2_with fail;exact Yx
theorem ahU:Calls prog 67 #[.agg #[.int .i64 1,.int .i64 n,.int .u64 (f:Int),.string s]] w (MP [⟨0,1,⟨#[]⟩⟩,⟨0,n,⟨#[]⟩⟩] w):=by
 have HN:=zH Lu;have HK:=jw w 26 #[.int .i64 1,.int .i64 n,.int .u64 (f:Int),.string s];have x0:=HK.out.cell 0 rfl 0 (v:=.int .i64 1) rfl;go_enter func67,ntmps67;go_wp2_with fail;refine(HN.out _).mono ?_;rintro e w1 ⟨rfl,b1⟩;replace HK:=iH HK b1;clear b1 x0;have x0:=HK.out.cell 0 rfl 0 (v:=.int .i64 1) rfl;go_upto_region 3 with (first|(refine jd HK ?_;clear HK;intro _ g3 HK;simp only[aS,aK] at HK)|(refine iZ HK 1 ?_;clear HK;intro _ HK;simp only[lS] at HK;have x0:=HK.out.cell 0 rfl 0 (v:=.int .i64 1) rfl;have x1:=HK.out.cell 0 rfl 1 (v:=.int .i64 n) rfl;have x2:=HK.out.cell 0 rfl 2 (v:=.int .u64 (f:Int)) rfl;have x3:=HK.out.cell 0 rfl 3 (v:=.string s) rfl;have y0:=HK.out.cell 1 rfl 0 (v:=.bool true) rfl;have y1:=HK.out.cell 1 rfl 1 (v:=.bool false) rfl;have y2:=HK.out.cell 1 rfl 2 (v:=.bool false) rfl)|(refine pU HK ?_;clear HK;intro _ g4 HK;simp only[aK] at HK;clear x0 x1 x2 x3 y0 y1 y2;have x0:=HK.out.cell 0 rfl 0 (v:=.int .i64 1) rfl;have x1:=HK.out.cell 0 rfl 1 (v:=.int .i64 n) rfl;have x2:=HK.out.cell 0 rfl 2 (v:=.int .u64 (f:Int)) rfl;have x3:=HK.out.cell 0 rfl 3 (v:=.string s) rfl;have y0:=HK.out.cell 1 rfl 0 (v:=.bool true) rfl;have y1:=HK.out.cell 1 rfl 1 (v:=.bool false) rfl;have y2:=HK.out.cell 1 rfl 2 (v:=.bool false) rfl));go_wp2_with (at_builtin;refine pR HK aD 0 [⟨0,n,⟨#[]⟩⟩] Kg (zH rfl) ?_;clear HK;intro A4 c4 _ HK;simp only[List.set,aS,aK] at HK;clear x0 x1 x2 x3 y0 y1 y2;have x0:=HK.out.cell 0 rfl 0 (v:=.int .i64 1) rfl;have x1:=HK.out.cell 0 rfl 1 (v:=.int .i64 n) rfl;have x2:=HK.out.cell 0 rfl 2 (v:=.int .u64 (f:Int)) rfl;have x3:=HK.out.cell 0 rfl 3 (v:=.string s) rfl;have y0:=HK.out.cell 1 rfl 0 (v:=.bool true) rfl;have y1:=HK.out.cell 1 rfl 1 (v:=.bool false) rfl;have y2:=HK.out.cell 1 rfl 2 (v:=.bool false) rfl);exact Yx
theorem ahT(hf:f<18446744073709551616):Calls prog 67 #[.agg #[.int .i64 2,.int .i64 n,.int .u64 (f:Int),.string s]] w (MP [⟨0,2,⟨#[]⟩⟩,⟨0,Val.sg f,⟨#[]⟩⟩] w):=by
 have HN:=zH Ls;have hsg:=zk hf;generalize Val.sg f=z at *
 have HK:=jw w 26 #[.int .i64 2,.int .i64 n,.int .u64 (f:Int),.string s];have x0:=HK.out.cell 0 rfl 0 (v:=.int .i64 2) rfl;go_enter func67,ntmps67;go_wp2_with fail;refine(HN.out _).mono ?_;rintro e w1 ⟨rfl,b1⟩;replace HK:=iH HK b1;clear b1 x0;have x0:=HK.out.cell 0 rfl 0 (v:=.int .i64 2) rfl;go_upto_region 3 with (first|(refine jd HK ?_;clear HK;intro _ g3 HK;simp only[aS,aK] at HK)|(refine iZ HK 1 ?_;clear HK;intro _ HK;simp only[lS] at HK;have x0:=HK.out.cell 0 rfl 0 (v:=.int .i64 2) rfl;have x1:=HK.out.cell 0 rfl 1 (v:=.int .i64 n) rfl;have x2:=HK.out.cell 0 rfl 2 (v:=.int .u64 (f:Int)) rfl;have x3:=HK.out.cell 0 rfl 3 (v:=.string s) rfl;have y0:=HK.out.cell 1 rfl 0 (v:=.bool false) rfl;have y1:=HK.out.cell 1 rfl 1 (v:=.bool true) rfl;have y2:=HK.out.cell 1 rfl 2 (v:=.bool false) rfl)|(refine pU HK ?_;clear HK;intro _ g4 HK;simp only[aK] at HK;clear x0 x1 x2 x3 y0 y1 y2;have x0:=HK.out.cell 0 rfl 0 (v:=.int .i64 2) rfl;have x1:=HK.out.cell 0 rfl 1 (v:=.int .i64 n) rfl;have x2:=HK.out.cell 0 rfl 2 (v:=.int .u64 (f:Int)) rfl;have x3:=HK.out.cell 0 rfl 3 (v:=.string s) rfl;have y0:=HK.out.cell 1 rfl 0 (v:=.bool false) rfl;have y1:=HK.out.cell 1 rfl 1 (v:=.bool true) rfl;have y2:=HK.out.cell 1 rfl 2 (v:=.bool false) rfl));go_wp2_with (at_builtin;refine pR HK aD 0 [⟨0,z,⟨#[]⟩⟩] Kg (zH rfl) ?_;clear HK;intro A4 c4 _ HK;simp only[List.set,aS,aK] at HK;clear x0 x1 x2 x3 y0 y1 y2;have x0:=HK.out.cell 0 rfl 0 (v:=.int .i64 2) rfl;have x1:=HK.out.cell 0 rfl 1 (v:=.int .i64 n) rfl;have x2:=HK.out.cell 0 rfl 2 (v:=.int .u64 (f:Int)) rfl;have x3:=HK.out.cell 0 rfl 3 (v:=.string s) rfl;have y0:=HK.out.cell 1 rfl 0 (v:=.bool false) rfl;have y1:=HK.out.cell 1 rfl 1 (v:=.bool true) rfl;have y2:=HK.out.cell 1 rfl 2 (v:=.bool false) rfl);exact Yx
theorem ahS:Calls prog 67 #[.agg #[.int .i64 3,.int .i64 n,.int .u64 (f:Int),.string s]] w (MP [⟨0,3,⟨#[]⟩⟩,⟨1,0,s⟩] w):=by
 have HN:=zH Lr;have HK:=jw w 26 #[.int .i64 3,.int .i64 n,.int .u64 (f:Int),.string s];have x0:=HK.out.cell 0 rfl 0 (v:=.int .i64 3) rfl;go_enter func67,ntmps67;go_wp2_with fail;refine(HN.out _).mono ?_;rintro e w1 ⟨rfl,b1⟩;replace HK:=iH HK b1;clear b1 x0;have x0:=HK.out.cell 0 rfl 0 (v:=.int .i64 3) rfl;go_upto_region 3 with (first|(refine jd HK ?_;clear HK;intro _ g3 HK;simp only[aS,aK] at HK)|(refine iZ HK 1 ?_;clear HK;intro _ HK;simp only[lS] at HK;have x0:=HK.out.cell 0 rfl 0 (v:=.int .i64 3) rfl;have x1:=HK.out.cell 0 rfl 1 (v:=.int .i64 n) rfl;have x2:=HK.out.cell 0 rfl 2 (v:=.int .u64 (f:Int)) rfl;have x3:=HK.out.cell 0 rfl 3 (v:=.string s) rfl;have y0:=HK.out.cell 1 rfl 0 (v:=.bool false) rfl;have y1:=HK.out.cell 1 rfl 1 (v:=.bool false) rfl;have y2:=HK.out.cell 1 rfl 2 (v:=.bool true) rfl)|(refine pU HK ?_;clear HK;intro _ g4 HK;simp only[aK] at HK;clear x0 x1 x2 x3 y0 y1 y2;have x0:=HK.out.cell 0 rfl 0 (v:=.int .i64 3) rfl;have x1:=HK.out.cell 0 rfl 1 (v:=.int .i64 n) rfl;have x2:=HK.out.cell 0 rfl 2 (v:=.int .u64 (f:Int)) rfl;have x3:=HK.out.cell 0 rfl 3 (v:=.string s) rfl;have y0:=HK.out.cell 1 rfl 0 (v:=.bool false) rfl;have y1:=HK.out.cell 1 rfl 1 (v:=.bool false) rfl;have y2:=HK.out.cell 1 rfl 2 (v:=.bool true) rfl));go_wp2_with (at_builtin;refine pR HK aD 0 [⟨1,0,s⟩] Kg (zH rfl) ?_;clear HK;intro A4 c4 _ HK;simp only[List.set,aS,aK] at HK;clear x0 x1 x2 x3 y0 y1 y2;have x0:=HK.out.cell 0 rfl 0 (v:=.int .i64 3) rfl;have x1:=HK.out.cell 0 rfl 1 (v:=.int .i64 n) rfl;have x2:=HK.out.cell 0 rfl 2 (v:=.int .u64 (f:Int)) rfl;have x3:=HK.out.cell 0 rfl 3 (v:=.string s) rfl;have y0:=HK.out.cell 1 rfl 0 (v:=.bool false) rfl;have y1:=HK.out.cell 1 rfl 1 (v:=.bool false) rfl;have y2:=HK.out.cell 1 rfl 2 (v:=.bool true) rfl);exact Yx
end
theorem sI(v:Val.V):Val.items v=if v.k=1 then [⟨0,1,⟨#[]⟩⟩,⟨0,v.n,⟨#[]⟩⟩] else if v.k=2 then [⟨0,2,⟨#[]⟩⟩,⟨0,Val.sg v.f,⟨#[]⟩⟩] else if v.k=3 then [⟨0,3,⟨#[]⟩⟩,⟨1,0,v.s⟩] else [⟨0,v.k,⟨#[]⟩⟩]:=by
 unfold Val.items
 split
 ·next h=>rw[h];rfl
 ·split
  ·next h=>rw[h];rfl
  ·split
   ·next h=>rw[h];rfl
   ·rfl
theorem Ag(v:Val.V)(w:World)(hf:v.f<18446744073709551616):Calls prog 67 #[vv v] w (MP (Val.items v) w):=by
 rw[sI];obtain⟨k,n,f,s⟩:=v;simp only at hf ⊢;by_cases h1:k=1
 ·subst h1;rw[if_pos rfl];exact ahU n f s w
 ·rw[if_neg h1]
  by_cases h2:k=2
  ·subst h2;rw[if_pos rfl];exact ahT n f s w hf
  ·rw[if_neg h2]
   by_cases h3:k=3
   ·subst h3;rw[if_pos rfl];exact ahS n f s w
   ·rw[if_neg h3]
    by_cases h0:k=0
    ·subst h0;exact acU n f s w 0 true Lv
    ·exact acU n f s w k false (fun W=>Lp k W)
end
end Go.Proofs.YtahdlddbbnjloaaGreat
