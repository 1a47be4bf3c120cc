/- How states lie: blocks that hold one, loads and stores of it and of its parts, places of its table; replies of requests made; ways out. No condition but those named. -/
import Derived.Test.YtieoeendnccafaaGreatMTK
import Derived.Test.YtieoeendnccafaaGreatMAJ
import Derived.Test.YtieoeendnccafaaGreatMAL
import Derived.Test.YtieoeendnccafaaGreatMAM
set_option linter.unusedSimpArgs false
set_option linter.unusedVariables false
set_option maxRecDepth 100000
set_option maxHeartbeats 25600000
namespace Go.Proofs.YtieoeendnccafaaGreat
section
open Go.RowKit
def stA(n:Int)(A:Option Addr)(k c:Nat)(t:Ses.T):Array Value:=#[.int .i64 n,.slice A k c,.bool t.s0.live,.int .i64 t.s0.ep,.int .i64 t.s0.rq,.bool t.s0.dn,.int .i64 t.s0.p.e,.int .i64 t.s0.p.v.k,.int .i64 t.s0.p.v.n,.int .u64 (t.s0.p.v.f:Int),.string t.s0.p.v.s,.bool t.s1.live,.int .i64 t.s1.ep,.int .i64 t.s1.rq,.bool t.s1.dn,.int .i64 t.s1.p.e,.int .i64 t.s1.p.v.k,.int .i64 t.s1.p.v.n,.int .u64 (t.s1.p.v.f:Int),.string t.s1.p.v.s,.bool t.s2.live,.int .i64 t.s2.ep,.int .i64 t.s2.rq,.bool t.s2.dn,.int .i64 t.s2.p.e,.int .i64 t.s2.p.v.k,.int .i64 t.s2.p.v.n,.int .u64 (t.s2.p.v.f:Int),.string t.s2.p.v.s,.bool t.s3.live,.int .i64 t.s3.ep,.int .i64 t.s3.rq,.bool t.s3.dn,.int .i64 t.s3.p.e,.int .i64 t.s3.p.v.k,.int .i64 t.s3.p.v.n,.int .u64 (t.s3.p.v.f:Int),.string t.s3.p.v.s,.bool t.s4.live,.int .i64 t.s4.ep,.int .i64 t.s4.rq,.bool t.s4.dn,.int .i64 t.s4.p.e,.int .i64 t.s4.p.v.k,.int .i64 t.s4.p.v.n,.int .u64 (t.s4.p.v.f:Int),.string t.s4.p.v.s]
theorem info_stz:(Tryz.prog.info? 33).map (fun i=>(i.zero,i.size,i.bytes))=some (some (Value.agg (stA 0 none 0 0 tz)),47,432):=by kernel_rfl
theorem info_st:(Tryz.prog.info? 33).map (·.size)=some 47:=by kernel_rfl
theorem st_tb(n:Int)(A:Option Addr)(k c:Nat)(t:Ses.T)(j:Nat)(hj:j<45):(stA n A k c t)[2+j]?=(tbA t)[j]?:=by
 have h:(stA n A k c t).toList=.int .i64 n::.slice A k c::(tbA t).toList:=rfl
 rw[← Array.getElem?_toList,← Array.getElem?_toList,h,Nat.add_comm]
 rfl
theorem st_at{q:Int}(hc:0≤q∧q<5)(n:Int)(A:Option Addr)(k c:Nat)(t:Ses.T)(j:Nat)(hj:j<9):(stA n A k c t)[2+q.toNat*9+j]?=(seA (t.get q))[j]?:=by
 rw[Nat.add_assoc,st_tb n A k c t _ (by omega),tb_at hc t j hj]
section
variable {b0:Nat}{w0 w:World}{L:List (Nat×TypeId×Array Value)}{R:List RowE}{ops:Array Oper}{rest:List Oper}{o:Oper}{a:Act}{Q:Exit→Act→World→Prop}{K:Act→World→Prop}{E:Prop}{g:Nat}{n m:Int}{A B:Option Addr}{k c i j:Nat}{t u:Ses.T}{p q:Sto.Rp}{q1:Int}
theorem wpList_ast(HK:Hid (Kn b0 w0 w L R))(hgd:o.guard=none)(ho:o.op=.alloc 33)
  (h:∀w' g,Hid (Kn b0 w0 w' (L++[(g,33,stA 0 none 0 0 tz)]) R)→wpList Tryz.prog ops Q rest (a.put o.dst (.pointer (some ⟨g,0,none⟩))) w'):wpList Tryz.prog ops Q (o::rest) a w:=
 wpList_plain hgd fun _ hK=>kwp_made info_stz HK ho fun w' g h1 _=>hK _ _ (h w' g h1)
theorem kwp_sst(HK:Hid (Kn b0 w0 w L R))(i2:Nat)(x y:Operand)(ho:o.op=.store 33 x y)(hL:L[i2]?=some (g,33,stA n A k c t))(hx:a.eval x=.pointer (some ⟨g,0,none⟩))(hy:a.eval y=.agg (stA m B i j u))
  (h:∀w',Hid (Kn b0 w0 w' (L.set i2 (g,33,stA m B i j u)) R)→K (a.put o.dst undef) w'):o.wp Tryz.prog a w K Q:=
 kwp_ss HK _ x y ho i2 hL hx hy (by show 47≤47;decide) info_st (by simp[stA,Value.oneCell']) fun w' h1 _=>h w' (by
  have e:putCells (stA n A k c t) 0 (stA m B i j u).toList=stA m B i j u:=by rw[putCells_all (vs:=(stA m B i j u).toList) (cs:=stA n A k c t) rfl,Array.toArray_toList]
  rw[e] at h1
  exact h1)
theorem wpList_sst(HK:Hid (Kn b0 w0 w L R))(i2:Nat)(hgd:o.guard=none)(x y:Operand)(ho:o.op=.store 33 x y)(hL:L[i2]?=some (g,33,stA n A k c t))(hx:a.eval x=.pointer (some ⟨g,0,none⟩))(hy:a.eval y=.agg (stA m B i j u))
  (h:∀w',Hid (Kn b0 w0 w' (L.set i2 (g,33,stA m B i j u)) R)→wpList Tryz.prog ops Q rest (a.put o.dst undef) w'):wpList Tryz.prog ops Q (o::rest) a w:=
 wpList_plain hgd fun _ hK=>kwp_sst HK i2 x y ho hL hx hy fun w' h1=>hK _ _ (h w' h1)
theorem step_sst(HK:Hid (Kn b0 w0 w L R))(i2:Nat)(hgd:o.guard=none)(x y:Operand)(ho:o.op=.store 33 x y)(hL:L[i2]?=some (g,33,stA n A k c t))(hx:a.eval x=.pointer (some ⟨g,0,none⟩))(hy:a.eval y=.agg (stA m B i j u))
  (h:∀w',Hid (Kn b0 w0 w' (L.set i2 (g,33,stA m B i j u)) R)→K (a.put o.dst undef) w'):if Region.wanted o (yielded ops a.tmps)=true then Oper.wp Tryz.prog o a w K Q else E:=by
 rw[if_pos (by simp[Region.wanted,hgd])]
 exact kwp_sst HK i2 x y ho hL hx hy h
theorem kwp_ssto(HK:Hid (Kn b0 w0 w L R))(i2:Nat)(x y:Operand)(ho:o.op=.store 22 x y)(hL:L[i2]?=some (g,33,stA n A k c t))(hx:a.eval x=.pointer (some ⟨g,1,none⟩))(hy:a.eval y=.slice B i j)
  (h:∀w',Hid (Kn b0 w0 w' (L.set i2 (g,33,stA n B i j t)) R)→K (a.put o.dst undef) w'):o.wp Tryz.prog a w K Q:=
 kwp_sc HK _ x y ho i2 hL hx hy rfl rfl (by show 1<47;decide) (by kernel_rfl) fun w' h1 _=>h w' h1
theorem step_ssto(HK:Hid (Kn b0 w0 w L R))(i2:Nat)(hgd:o.guard=none)(x y:Operand)(ho:o.op=.store 22 x y)(hL:L[i2]?=some (g,33,stA n A k c t))(hx:a.eval x=.pointer (some ⟨g,1,none⟩))(hy:a.eval y=.slice B i j)
  (h:∀w',Hid (Kn b0 w0 w' (L.set i2 (g,33,stA n B i j t)) R)→K (a.put o.dst undef) w'):if Region.wanted o (yielded ops a.tmps)=true then Oper.wp Tryz.prog o a w K Q else E:=by
 rw[if_pos (by simp[Region.wanted,hgd])]
 exact kwp_ssto HK i2 x y ho hL hx hy h
theorem kst(HK:Hid (Kn b0 w0 w L R))(i:Nat)(x:Operand)(ho:o.op=.load 33 x)(hL:L[i]?=some (g,33,stA n A k c t))(hx:a.eval x=.pointer (some ⟨g,0,none⟩)):
  (execOp a.eval o).run Tryz.prog w=.ok (.value (.agg (stA n A k c t))) w:=
 kexec_lw HK _ x ho i hL hx (stA n A k c t) (fun j _=>by rw[Nat.zero_add]) Tryz.underlying33 rfl info_st
theorem kst_n(HK:Hid (Kn b0 w0 w L R))(i:Nat)(x:Operand)(ho:o.op=.load 3 x)(hL:L[i]?=some (g,33,stA n A k c t))(hx:a.eval x=.pointer (some ⟨g,0,none⟩)):
  (execOp a.eval o).run Tryz.prog w=.ok (.value (.int .i64 n)) w:=
 kexec_lc HK _ x ho i hL hx rfl Tryz.underlying3 rfl
theorem kst_o(HK:Hid (Kn b0 w0 w L R))(i:Nat)(x:Operand)(ho:o.op=.load 22 x)(hL:L[i]?=some (g,33,stA n A k c t))(hx:a.eval x=.pointer (some ⟨g,1,none⟩)):
  (execOp a.eval o).run Tryz.prog w=.ok (.value (.slice A k c)) w:=
 kexec_lc HK _ x ho i hL hx rfl Tryz.underlying22 rfl
theorem kst_t(HK:Hid (Kn b0 w0 w L R))(i:Nat)(x:Operand)(ho:o.op=.load 31 x)(hL:L[i]?=some (g,33,stA n A k c t))(hx:a.eval x=.pointer (some ⟨g,2,none⟩)):
  (execOp a.eval o).run Tryz.prog w=.ok (.value (.agg (tbA t))) w:=
 kexec_lw HK _ x ho i hL hx (tbA t) (fun j hj=>st_tb n A k c t j hj) Tryz.underlying31 rfl info_tb
theorem kst_s(HK:Hid (Kn b0 w0 w L R))(i:Nat)(hc:0≤q1∧q1<5)(x:Operand)(ho:o.op=.load 30 x)(hL:L[i]?=some (g,33,stA n A k c t))(hx:a.eval x=.pointer (some ⟨g,2+q1.toNat*9,none⟩)):
  (execOp a.eval o).run Tryz.prog w=.ok (.value (.agg (seA (t.get q1)))) w:=
 kexec_lw HK _ x ho i hL hx (seA (t.get q1)) (fun j hj=>st_at hc n A k c t j hj) Tryz.underlying30 rfl info_se
theorem kst_e(HK:Hid (Kn b0 w0 w L R))(i:Nat)(hc:0≤q1∧q1<5)(x:Operand)(ho:o.op=.load 3 x)(hL:L[i]?=some (g,33,stA n A k c t))(hx:a.eval x=.pointer (some ⟨g,2+q1.toNat*9+1,none⟩)):
  (execOp a.eval o).run Tryz.prog w=.ok (.value (.int .i64 (t.get q1).ep)) w:=
 kexec_lc HK _ x ho i hL hx (st_at hc n A k c t 1 (by decide)) Tryz.underlying3 rfl
theorem kst_d(HK:Hid (Kn b0 w0 w L R))(i:Nat)(hc:0≤q1∧q1<5)(x:Operand)(ho:o.op=.load 4 x)(hL:L[i]?=some (g,33,stA n A k c t))(hx:a.eval x=.pointer (some ⟨g,2+q1.toNat*9+3,none⟩)):
  (execOp a.eval o).run Tryz.prog w=.ok (.value (.bool (t.get q1).dn)) w:=
 kexec_lc HK _ x ho i hL hx (st_at hc n A k c t 3 (by decide)) Tryz.underlying4 rfl
theorem exec_ixq(hc:0≤q1∧q1<5)(x y:Operand)(ho:o.op=.indexAddr 31 x y)(hx:a.eval x=.pointer (some ⟨g,2,none⟩))(hy:a.eval y=.int .i64 q1):
  (execOp a.eval o).run Tryz.prog w=.ok (.value (.pointer (some ⟨g,2+q1.toNat*9,none⟩))) w:=by
 have h:(Instr.indexAt 31 (.pointer (some ⟨g,2,none⟩)) (.int .i64 q1)).run Tryz.prog w=.ok (.pointer (some ⟨g,2+q1.toNat*9,none⟩)) w:=by
  rcases Ses.cases5 hc with rfl|rfl|rfl|rfl|rfl<;>kernel_rfl
 unfold execOp
 simp only[ho,hx,hy,Sem.run_bind,Sem.run_pure,Result.andThen_ok,h]
end
section
variable {fn:Func}{R:Ending→World→Prop}{a:Act}{w:World}{B:Nat}{n:Int}{A:Option Addr}{k c:Nat}{t:Ses.T}{u:Value}{q q2:Tmp}
theorem ret_st(hf:fn.results=#[.cell q 33])(h2:a.tmps[q]?=some (.pointer (some ⟨B,0,none⟩)))(hd:a.defers=[])(hb:Blk w B 33 (stA n A k c t))
  (hR:R (.returned (.agg (stA n A k c t))) w):bodyPost Tryz.prog fn R Exit.ret a w:=
 bodyPost_ret (results_cell_row hf a.tmps w B _ _ (0,0) _ (by simp[h2]) hb Tryz.underlying33 rfl info_st) hd hR
theorem ret_sto(hf:fn.results=#[.cell q 33,.tmp q2])(h2:a.tmps[q]?=some (.pointer (some ⟨B,0,none⟩)))(h3:a.tmps[q2]?=some u)(hd:a.defers=[])(hb:Blk w B 33 (stA n A k c t))
  (hR:R (.returned (.tuple #[.agg (stA n A k c t),u])) w):bodyPost Tryz.prog fn R Exit.ret a w:=by
 refine bodyPost_ret (v:=.tuple #[.agg (stA n A k c t),u]) ?_ hd hR
 have h:(loadVar 33 ⟨B,0,none⟩).run Tryz.prog w=.ok (.agg (stA n A k c t)) w:=run_loadVar_row (P:=Tryz.prog) w B _ _ _ (0,0) _ hb Tryz.underlying33 rfl info_st
 simp[results,hf,asAddr,Sem.run_bind,h2,h3,h]
end
section
variable {b0:Nat}{w0 w:World}{L:List (Nat×TypeId×Array Value)}{R:List RowE}
theorem Kn.frontR{y:RowE}(h:Kn b0 w0 w L (R++[y])):Kn b0 w0 w L (y::R):=by
 refine h.pick id (fun j=>if j=0 then R.length else j-1) (fun i j _ _ h=>h) (fun i j hi hj h=>?_) (fun i x hx=>hx) (fun i x hx=>?_)
 ·simp at hi hj;(try dsimp only);split<;>split<;>omega
 ·match i,hx with
  | 0,hx=>simp at hx ⊢;exact hx
  | i+1,hx=>
   rw[List.getElem?_cons_succ] at hx
   rw[if_neg (by omega)]
   show(R++[y])[i+1-1]?=_
   rw[Nat.add_sub_cancel,List.getElem?_append_left (List.getElem?_eq_some_iff.1 hx).1]
   exact hx
end
end
end Go.Proofs.YtieoeendnccafaaGreat
