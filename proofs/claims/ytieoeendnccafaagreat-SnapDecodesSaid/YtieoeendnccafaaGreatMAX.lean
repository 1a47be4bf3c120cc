/- How five numbers lie, one a client: blocks that hold them, loads and stores of one, comparison, ways out. No condition but those named. -/
import Derived.Test.YtieoeendnccafaaGreatMTK
import Derived.Test.YtieoeendnccafaaGreatMAJ
import Derived.Test.YtieoeendnccafaaGreatMAL
set_option linter.unusedSimpArgs false
set_option linter.unusedVariables false
set_option maxRecDepth 100000
set_option maxHeartbeats 25600000
namespace Go.Proofs.YtieoeendnccafaaGreat
section
open Go.RowKit
def pcA(f:Int→Nat):Array Value:=#[.int .i64 (f 0),.int .i64 (f 1),.int .i64 (f 2),.int .i64 (f 3),.int .i64 (f 4)]
def pcZ:Int→Nat:=fun _=>0
def pcU(f:Int→Nat)(c:Int)(v:Nat):Int→Nat:=fun d=>if d=c then v else f d
theorem info_pcz:(Tryz.prog.info? 76).map (fun i=>(i.zero,i.size,i.bytes))=some (some (Value.agg (pcA pcZ)),5,40):=by kernel_rfl
theorem info_pc:(Tryz.prog.info? 76).map (·.size)=some 5:=by kernel_rfl
theorem pc_at{c:Int}(hc:0≤c∧c<5)(f:Int→Nat):(pcA f)[c.toNat]?=some (.int .i64 (f c)):=by
 rcases Ses.cases5 hc with rfl|rfl|rfl|rfl|rfl<;>rfl
theorem pc_put{c:Int}(hc:0≤c∧c<5)(f:Int→Nat)(v:Nat):(pcA f).setIfInBounds c.toNat (.int .i64 v)=pcA (pcU f c v):=by
 rcases Ses.cases5 hc with rfl|rfl|rfl|rfl|rfl<;>kernel_rfl
section
variable {b0:Nat}{w0 w:World}{L:List (Nat×TypeId×Array Value)}{R:List RowE}{ops:Array Oper}{rest:List Oper}{o:Oper}{a:Act}{Q:Exit→Act→World→Prop}{K:Act→World→Prop}{E:Prop}{g:Nat}{f h2:Int→Nat}{c:Int}
theorem wpList_apc(HK:Hid (Kn b0 w0 w L R))(hgd:o.guard=none)(ho:o.op=.alloc 76)
  (h:∀w' g,Hid (Kn b0 w0 w' (L++[(g,76,pcA pcZ)]) R)→wpList Tryz.prog ops Q rest (a.put o.dst (.pointer (some ⟨g,0,none⟩))) w'):wpList Tryz.prog ops Q (o::rest) a w:=
 wpList_plain hgd fun _ hK=>kwp_made info_pcz HK ho fun w' g h1 _=>hK _ _ (h w' g h1)
theorem wpList_spc(HK:Hid (Kn b0 w0 w L R))(i:Nat)(hgd:o.guard=none)(x y:Operand)(ho:o.op=.store 76 x y)(hL:L[i]?=some (g,76,pcA f))(hx:a.eval x=.pointer (some ⟨g,0,none⟩))(hy:a.eval y=.agg (pcA h2))
  (h:∀w',Hid (Kn b0 w0 w' (L.set i (g,76,pcA h2)) R)→wpList Tryz.prog ops Q rest (a.put o.dst undef) w'):wpList Tryz.prog ops Q (o::rest) a w:=
 wpList_plain hgd fun _ hK=>kwp_ss HK _ x y ho i hL hx hy (by show 5≤5;decide) info_pc (by simp[pcA,Value.oneCell']) fun w' h1 _=>hK _ _ (h w' (by
  have e:putCells (pcA f) 0 (pcA h2).toList=pcA h2:=by rw[putCells_all (vs:=(pcA h2).toList) (cs:=pcA f) rfl,Array.toArray_toList]
  rw[e] at h1
  exact h1))
theorem wpList_sp1(HK:Hid (Kn b0 w0 w L R))(i:Nat)(hgd:o.guard=none)(hc:0≤c∧c<5){v:Nat}(x y:Operand)(ho:o.op=.store 3 x y)(hL:L[i]?=some (g,76,pcA f))(hx:a.eval x=.pointer (some ⟨g,c.toNat,none⟩))(hy:a.eval y=.int .i64 v)
  (h:∀w',Hid (Kn b0 w0 w' (L.set i (g,76,pcA (pcU f c v))) R)→wpList Tryz.prog ops Q rest (a.put o.dst undef) w'):wpList Tryz.prog ops Q (o::rest) a w:=
 wpList_plain hgd fun _ hK=>kwp_sc HK _ x y ho i hL hx hy rfl rfl (by show c.toNat<5;omega) (by kernel_rfl) fun w' h1 _=>hK _ _ (h w' (by rw[pc_put hc] at h1;exact h1))
theorem kpc(HK:Hid (Kn b0 w0 w L R))(i:Nat)(x:Operand)(ho:o.op=.load 76 x)(hL:L[i]?=some (g,76,pcA f))(hx:a.eval x=.pointer (some ⟨g,0,none⟩)):
  (execOp a.eval o).run Tryz.prog w=.ok (.value (.agg (pcA f))) w:=
 kexec_lw HK _ x ho i hL hx (pcA f) (fun j _=>by rw[Nat.zero_add]) Tryz.underlying76 rfl info_pc
theorem kpc1(HK:Hid (Kn b0 w0 w L R))(i:Nat)(hc:0≤c∧c<5)(x:Operand)(ho:o.op=.load 3 x)(hL:L[i]?=some (g,76,pcA f))(hx:a.eval x=.pointer (some ⟨g,c.toNat,none⟩)):
  (execOp a.eval o).run Tryz.prog w=.ok (.value (.int .i64 (f c))) w:=
 kexec_lc HK _ x ho i hL hx (pc_at hc f) Tryz.underlying3 rfl
theorem exec_ixp(hc:0≤c∧c<5)(x y:Operand)(ho:o.op=.indexAddr 76 x y)(hx:a.eval x=.pointer (some ⟨g,0,none⟩))(hy:a.eval y=.int .i64 c):
  (execOp a.eval o).run Tryz.prog w=.ok (.value (.pointer (some ⟨g,c.toNat,none⟩))) w:=by
 have h:(Instr.indexAt 76 (.pointer (some ⟨g,0,none⟩)) (.int .i64 c)).run Tryz.prog w=.ok (.pointer (some ⟨g,c.toNat,none⟩)) w:=by
  rcases Ses.cases5 hc with rfl|rfl|rfl|rfl|rfl<;>kernel_rfl
 unfold execOp
 simp only[ho,hx,hy,Sem.run_bind,Sem.run_pure,Result.andThen_ok,h]
theorem exec_bpz(ho:o.op=.build 76 #[]):(execOp a.eval o).run Tryz.prog w=.ok (.value (.agg (pcA pcZ))) w:=by
 have h:(Instr.build 76 #[]).run Tryz.prog w=.ok (.agg (pcA pcZ)) w:=by kernel_rfl
 unfold execOp
 simp only[ho,Sem.run_bind,Sem.run_pure,Result.andThen_ok,List.map_toArray,List.map_cons,List.map_nil,h]
theorem cells_in:Tryz.prog.cellsOf 3=1:=by kernel_rfl
theorem part_pc(f:Int→Nat)(w:World):(part 3 (pcA f) (0*1)).run Tryz.prog w=.ok (.int .i64 (f 0)) w∧(part 3 (pcA f) (1*1)).run Tryz.prog w=.ok (.int .i64 (f 1)) w∧(part 3 (pcA f) (2*1)).run Tryz.prog w=.ok (.int .i64 (f 2)) w∧(part 3 (pcA f) (3*1)).run Tryz.prog w=.ok (.int .i64 (f 3)) w∧(part 3 (pcA f) (4*1)).run Tryz.prog w=.ok (.int .i64 (f 4)) w:=by
 refine⟨?_,?_,?_,?_,?_⟩<;>kernel_rfl
theorem run_ieq(m n:Nat)(w:World):(Op.equalIn 9999 3 (.int .i64 m) (.int .i64 n)).run Tryz.prog w=.ok (decide (m=n)) w:=by
 have e:decide (m=n)=decide ((m:Int)=(n:Int)):=decide_eq_decide.2 ⟨fun h=>by rw[h],fun h=>by omega⟩
 rw[e]
 go_simp
 rw[Bool.eq_iff_iff]
 simp
theorem run_pceq(f h:Int→Nat)(w:World):(Op.equalIn 10000 76 (.agg (pcA f)) (.agg (pcA h))).run Tryz.prog w=.ok (decide (∀c∈([0,1,2,3,4]:List Int),f c=h c)) w:=by
 obtain⟨i,hi⟩:∃i,Tryz.prog.info? 3=some i:=Option.isSome_iff_exists.1 (by kernel_rfl)
 obtain⟨a0,a1,a2,a3,a4⟩:=part_pc f w
 obtain⟨b0,b1,b2,b3,b4⟩:=part_pc h w
 have e:decide (∀c∈([0,1,2,3,4]:List Int),f c=h c)=(decide (f 0=h 0)&&(decide (f 1=h 1)&&(decide (f 2=h 2)&&(decide (f 3=h 3)&&decide (f 4=h 4))))):=by
  rw[Bool.eq_iff_iff]
  simp
 rw[e,run_equalIn_array w 9999 _ _ Tryz.underlying76 hi,cells_in]
 simp only[List.range,List.range.loop,Op.eqItems,Sem.run_bind,a0,a1,a2,a3,a4,b0,b1,b2,b3,b4,run_ieq,Result.andThen_ok]
 by_cases e0:f 0=h 0
 case neg=>rw[decide_eq_false e0];rfl
 rw[decide_eq_true e0]
 by_cases e1:f 1=h 1
 case neg=>simp only[decide_eq_false e1,Sem.run_bind,Sem.run_pure,a1,a2,a3,a4,b1,b2,b3,b4,run_ieq,Result.andThen_ok,Bool.not_true,Bool.not_false,Bool.false_eq_true,if_true,if_false,Bool.true_and,Bool.false_and,Bool.and_true,reduceIte]
 by_cases e2:f 2=h 2
 case neg=>simp only[decide_eq_false e2,Sem.run_bind,Sem.run_pure,a1,a2,a3,a4,b1,b2,b3,b4,run_ieq,Result.andThen_ok,Bool.not_true,Bool.not_false,Bool.false_eq_true,if_true,if_false,Bool.true_and,Bool.false_and,Bool.and_true,reduceIte,decide_eq_true e1]
 by_cases e3:f 3=h 3
 case neg=>simp only[decide_eq_false e3,Sem.run_bind,Sem.run_pure,a1,a2,a3,a4,b1,b2,b3,b4,run_ieq,Result.andThen_ok,Bool.not_true,Bool.not_false,Bool.false_eq_true,if_true,if_false,Bool.true_and,Bool.false_and,Bool.and_true,reduceIte,decide_eq_true e1,decide_eq_true e2]
 by_cases e4:f 4=h 4
 case neg=>simp only[decide_eq_false e4,Sem.run_bind,Sem.run_pure,a1,a2,a3,a4,b1,b2,b3,b4,run_ieq,Result.andThen_ok,Bool.not_true,Bool.not_false,Bool.false_eq_true,if_true,if_false,Bool.true_and,Bool.false_and,Bool.and_true,reduceIte,decide_eq_true e1,decide_eq_true e2,decide_eq_true e3]
 simp only[decide_eq_true e1,decide_eq_true e2,decide_eq_true e3,decide_eq_true e4,Sem.run_bind,Sem.run_pure,a1,a2,a3,a4,b1,b2,b3,b4,run_ieq,Result.andThen_ok,Bool.not_true,Bool.not_false,Bool.false_eq_true,if_true,if_false,Bool.true_and,Bool.false_and,Bool.and_true,reduceIte]
theorem exec_pcE{b:Bool}(x y:Operand)(ho:o.op=.binOp .eql 76 x y 76)(hx:a.eval x=.agg (pcA f))(hy:a.eval y=.agg (pcA h2))(hb:decide (∀c∈([0,1,2,3,4]:List Int),f c=h2 c)=b):
  (execOp a.eval o).run Tryz.prog w=.ok (.value (.bool b)) w:=by
 have h:=run_pceq f h2 w
 rw[hb] at h
 unfold execOp
 simp only[ho,hx,hy]
 go_simp
end
section
variable {fn:Func}{R:Ending→World→Prop}{a:Act}{w:World}{B:Nat}{f:Int→Nat}{q:Tmp}
theorem ret_pc(hf:fn.results=#[.cell q 76])(h2:a.tmps[q]?=some (.pointer (some ⟨B,0,none⟩)))(hd:a.defers=[])(hb:Blk w B 76 (pcA f))
  (hR:R (.returned (.agg (pcA f))) w):bodyPost Tryz.prog fn R Exit.ret a w:=
 bodyPost_ret (results_cell_row hf a.tmps w B _ _ (0,0) _ (by simp[h2]) hb Tryz.underlying76 rfl info_pc) hd hR
def IsPc(f:Int→Nat)(w:World)(e:Ending)(w':World):Prop:=e=.returned (.agg (pcA f))∧Below w.heap.size w w'
end
end
end Go.Proofs.YtieoeendnccafaaGreat
