/- What Reply returns, and the document's: whether a reply may be. No condition but those named. -/
import Derived.Test.YtddpmlcpfmmbeaaGreatTk
import Derived.Test.YtddpmlcpfmmbeaaGreatKAG
import Derived.Test.YtddpmlcpfmmbeaaGreatKAK
import Derived.Test.YtddpmlcpfmmbeaaGreatKAN
import Derived.Test.YtddpmlcpfmmbeaaGreatKBC
import Derived.Test.YtddpmlcpfmmbeaaGreatKAE
import Derived.Test.YtddpmlcpfmmbeaaGreatKAB
import Derived.Lib.AppendZeros
set_option linter.unusedSimpArgs false
set_option linter.unusedVariables false
set_option maxRecDepth 100000
set_option maxHeartbeats 25600000
namespace Go.Proofs.YtddpmlcpfmmbeaaGreat
section
open Go.RowKit
def stA(n:Int)(A:Option Addr)(k c:Nat)(t:Ses.T):Array Value:=#[.int .i64 n,.slice A k c,.bool t.s0.live,.int .i64 t.s0.ep,.int .i64 t.s0.rq,.bool t.s0.dn,.int .i64 t.s0.p.e,.int .i64 t.s0.p.v.k,.int .i64 t.s0.p.v.n,.int .u64 (t.s0.p.v.f:Int),.string t.s0.p.v.s,.bool t.s1.live,.int .i64 t.s1.ep,.int .i64 t.s1.rq,.bool t.s1.dn,.int .i64 t.s1.p.e,.int .i64 t.s1.p.v.k,.int .i64 t.s1.p.v.n,.int .u64 (t.s1.p.v.f:Int),.string t.s1.p.v.s,.bool t.s2.live,.int .i64 t.s2.ep,.int .i64 t.s2.rq,.bool t.s2.dn,.int .i64 t.s2.p.e,.int .i64 t.s2.p.v.k,.int .i64 t.s2.p.v.n,.int .u64 (t.s2.p.v.f:Int),.string t.s2.p.v.s,.bool t.s3.live,.int .i64 t.s3.ep,.int .i64 t.s3.rq,.bool t.s3.dn,.int .i64 t.s3.p.e,.int .i64 t.s3.p.v.k,.int .i64 t.s3.p.v.n,.int .u64 (t.s3.p.v.f:Int),.string t.s3.p.v.s,.bool t.s4.live,.int .i64 t.s4.ep,.int .i64 t.s4.rq,.bool t.s4.dn,.int .i64 t.s4.p.e,.int .i64 t.s4.p.v.k,.int .i64 t.s4.p.v.n,.int .u64 (t.s4.p.v.f:Int),.string t.s4.p.v.s]
theorem info_stz:(Tryz.prog.info? 33).map (fun i=>(i.zero,i.size,i.bytes))=some (some (Value.agg (stA 0 none 0 0 tz)),47,432):=by kernel_rfl
theorem info_st:(Tryz.prog.info? 33).map (·.size)=some 47:=by kernel_rfl
theorem st_tb(n:Int)(A:Option Addr)(k c:Nat)(t:Ses.T)(j:Nat)(hj:j<45):(stA n A k c t)[2+j]?=(tbA t)[j]?:=by
 have h:(stA n A k c t).toList=.int .i64 n::.slice A k c::(tbA t).toList:=rfl
 rw[← Array.getElem?_toList,← Array.getElem?_toList,h,Nat.add_comm]
 rfl
theorem st_put(n:Int)(A:Option Addr)(k c:Nat)(t u:Ses.T):putCells (stA n A k c t) 2 (tbA u).toList=stA n A k c u:=by kernel_rfl
theorem st_at{q:Int}(hc:0≤q∧q<5)(n:Int)(A:Option Addr)(k c:Nat)(t:Ses.T)(j:Nat)(hj:j<9):(stA n A k c t)[2+q.toNat*9+j]?=(seA (t.get q))[j]?:=by
 rw[Nat.add_assoc,st_tb n A k c t _ (by omega),tb_at hc t j hj]
section
variable {b0:Nat}{w0 w:World}{L:List (Nat×TypeId×Array Value)}{R:List RowE}{ops:Array Oper}{rest:List Oper}{o:Oper}{a:Act}{Q:Exit→Act→World→Prop}{K:Act→World→Prop}{E:Prop}{g:Nat}{n m:Int}{A B:Option Addr}{k c i j:Nat}{t u:Ses.T}{p q:Sto.Rp}{q1:Int}
theorem wpList_ast(HK:Hid (Kn b0 w0 w L R))(hgd:o.guard=none)(ho:o.op=.alloc 33)
  (h:∀w' g,Hid (Kn b0 w0 w' (L++[(g,33,stA 0 none 0 0 tz)]) R)→wpList Tryz.prog ops Q rest (a.put o.dst (.pointer (some ⟨g,0,none⟩))) w'):wpList Tryz.prog ops Q (o::rest) a w:=
 wpList_plain hgd fun _ hK=>kwp_made info_stz HK ho fun w' g h1 _=>hK _ _ (h w' g h1)
theorem step_ast(HK:Hid (Kn b0 w0 w L R))(hgd:o.guard=none)(ho:o.op=.alloc 33)
  (h:∀w' g,Hid (Kn b0 w0 w' (L++[(g,33,stA 0 none 0 0 tz)]) R)→K (a.put o.dst (.pointer (some ⟨g,0,none⟩))) w'):if Region.wanted o (yielded ops a.tmps)=true then Oper.wp Tryz.prog o a w K Q else E:=by
 rw[if_pos (by simp[Region.wanted,hgd])]
 exact kwp_made info_stz HK ho fun w' g h1 _=>h w' g h1
theorem kwp_sst(HK:Hid (Kn b0 w0 w L R))(i2:Nat)(x y:Operand)(ho:o.op=.store 33 x y)(hL:L[i2]?=some (g,33,stA n A k c t))(hx:a.eval x=.pointer (some ⟨g,0,none⟩))(hy:a.eval y=.agg (stA m B i j u))
  (h:∀w',Hid (Kn b0 w0 w' (L.set i2 (g,33,stA m B i j u)) R)→K (a.put o.dst undef) w'):o.wp Tryz.prog a w K Q:=
 kwp_ss HK _ x y ho i2 hL hx hy (by show 47≤47;decide) info_st (by simp[stA,Value.oneCell']) fun w' h1 _=>h w' (by
  have e:putCells (stA n A k c t) 0 (stA m B i j u).toList=stA m B i j u:=by rw[putCells_all (vs:=(stA m B i j u).toList) (cs:=stA n A k c t) rfl,Array.toArray_toList]
  rw[e] at h1
  exact h1)
theorem wpList_sst(HK:Hid (Kn b0 w0 w L R))(i2:Nat)(hgd:o.guard=none)(x y:Operand)(ho:o.op=.store 33 x y)(hL:L[i2]?=some (g,33,stA n A k c t))(hx:a.eval x=.pointer (some ⟨g,0,none⟩))(hy:a.eval y=.agg (stA m B i j u))
  (h:∀w',Hid (Kn b0 w0 w' (L.set i2 (g,33,stA m B i j u)) R)→wpList Tryz.prog ops Q rest (a.put o.dst undef) w'):wpList Tryz.prog ops Q (o::rest) a w:=
 wpList_plain hgd fun _ hK=>kwp_sst HK i2 x y ho hL hx hy fun w' h1=>hK _ _ (h w' h1)
theorem step_sst(HK:Hid (Kn b0 w0 w L R))(i2:Nat)(hgd:o.guard=none)(x y:Operand)(ho:o.op=.store 33 x y)(hL:L[i2]?=some (g,33,stA n A k c t))(hx:a.eval x=.pointer (some ⟨g,0,none⟩))(hy:a.eval y=.agg (stA m B i j u))
  (h:∀w',Hid (Kn b0 w0 w' (L.set i2 (g,33,stA m B i j u)) R)→K (a.put o.dst undef) w'):if Region.wanted o (yielded ops a.tmps)=true then Oper.wp Tryz.prog o a w K Q else E:=by
 rw[if_pos (by simp[Region.wanted,hgd])]
 exact kwp_sst HK i2 x y ho hL hx hy h
theorem kwp_sstn(HK:Hid (Kn b0 w0 w L R))(i:Nat)(x y:Operand)(ho:o.op=.store 3 x y)(hL:L[i]?=some (g,33,stA n A k c t))(hx:a.eval x=.pointer (some ⟨g,0,none⟩))(hy:a.eval y=.int .i64 m)
  (h:∀w',Hid (Kn b0 w0 w' (L.set i (g,33,stA m A k c t)) R)→K (a.put o.dst undef) w'):o.wp Tryz.prog a w K Q:=
 kwp_sc HK _ x y ho i hL hx hy rfl rfl (by show 0<47;decide) (by kernel_rfl) fun w' h1 _=>h w' h1
theorem wpList_sstn(HK:Hid (Kn b0 w0 w L R))(i:Nat)(hgd:o.guard=none)(x y:Operand)(ho:o.op=.store 3 x y)(hL:L[i]?=some (g,33,stA n A k c t))(hx:a.eval x=.pointer (some ⟨g,0,none⟩))(hy:a.eval y=.int .i64 m)
  (h:∀w',Hid (Kn b0 w0 w' (L.set i (g,33,stA m A k c t)) R)→wpList Tryz.prog ops Q rest (a.put o.dst undef) w'):wpList Tryz.prog ops Q (o::rest) a w:=
 wpList_plain hgd fun _ hK=>kwp_sstn HK i x y ho hL hx hy fun w' h1=>hK _ _ (h w' h1)
theorem kwp_ssto(HK:Hid (Kn b0 w0 w L R))(i2:Nat)(x y:Operand)(ho:o.op=.store 22 x y)(hL:L[i2]?=some (g,33,stA n A k c t))(hx:a.eval x=.pointer (some ⟨g,1,none⟩))(hy:a.eval y=.slice B i j)
  (h:∀w',Hid (Kn b0 w0 w' (L.set i2 (g,33,stA n B i j t)) R)→K (a.put o.dst undef) w'):o.wp Tryz.prog a w K Q:=
 kwp_sc HK _ x y ho i2 hL hx hy rfl rfl (by show 1<47;decide) (by kernel_rfl) fun w' h1 _=>h w' h1
theorem wpList_ssto(HK:Hid (Kn b0 w0 w L R))(i2:Nat)(hgd:o.guard=none)(x y:Operand)(ho:o.op=.store 22 x y)(hL:L[i2]?=some (g,33,stA n A k c t))(hx:a.eval x=.pointer (some ⟨g,1,none⟩))(hy:a.eval y=.slice B i j)
  (h:∀w',Hid (Kn b0 w0 w' (L.set i2 (g,33,stA n B i j t)) R)→wpList Tryz.prog ops Q rest (a.put o.dst undef) w'):wpList Tryz.prog ops Q (o::rest) a w:=
 wpList_plain hgd fun _ hK=>kwp_ssto HK i2 x y ho hL hx hy fun w' h1=>hK _ _ (h w' h1)
theorem kwp_sstt(HK:Hid (Kn b0 w0 w L R))(i:Nat)(x y:Operand)(ho:o.op=.store 31 x y)(hL:L[i]?=some (g,33,stA n A k c t))(hx:a.eval x=.pointer (some ⟨g,2,none⟩))(hy:a.eval y=.agg (tbA u))
  (h:∀w',Hid (Kn b0 w0 w' (L.set i (g,33,stA n A k c u)) R)→K (a.put o.dst undef) w'):o.wp Tryz.prog a w K Q:=
 kwp_ss HK _ x y ho i hL hx hy (by show 2+45≤47;decide) info_tb (by simp[tbA,Value.oneCell']) fun w' h1 _=>h w' (by
  rw[st_put] at h1
  exact h1)
theorem wpList_sstt(HK:Hid (Kn b0 w0 w L R))(i:Nat)(hgd:o.guard=none)(x y:Operand)(ho:o.op=.store 31 x y)(hL:L[i]?=some (g,33,stA n A k c t))(hx:a.eval x=.pointer (some ⟨g,2,none⟩))(hy:a.eval y=.agg (tbA u))
  (h:∀w',Hid (Kn b0 w0 w' (L.set i (g,33,stA n A k c u)) R)→wpList Tryz.prog ops Q rest (a.put o.dst undef) w'):wpList Tryz.prog ops Q (o::rest) a w:=
 wpList_plain hgd fun _ hK=>kwp_sstt HK i x y ho hL hx hy fun w' h1=>hK _ _ (h w' h1)
theorem kst(HK:Hid (Kn b0 w0 w L R))(i:Nat)(x:Operand)(ho:o.op=.load 33 x)(hL:L[i]?=some (g,33,stA n A k c t))(hx:a.eval x=.pointer (some ⟨g,0,none⟩)):
  (execOp a.eval o).run Tryz.prog w=.ok (.value (.agg (stA n A k c t))) w:=
 kexec_lw HK _ x ho i hL hx (stA n A k c t) (fun j _=>by rw[Nat.zero_add]) Tryz.underlying33 rfl info_st
theorem kst_n(HK:Hid (Kn b0 w0 w L R))(i:Nat)(x:Operand)(ho:o.op=.load 3 x)(hL:L[i]?=some (g,33,stA n A k c t))(hx:a.eval x=.pointer (some ⟨g,0,none⟩)):
  (execOp a.eval o).run Tryz.prog w=.ok (.value (.int .i64 n)) w:=
 kexec_lc HK _ x ho i hL hx rfl Tryz.underlying3 rfl
theorem kst_o(HK:Hid (Kn b0 w0 w L R))(i:Nat)(x:Operand)(ho:o.op=.load 22 x)(hL:L[i]?=some (g,33,stA n A k c t))(hx:a.eval x=.pointer (some ⟨g,1,none⟩)):
  (execOp a.eval o).run Tryz.prog w=.ok (.value (.slice A k c)) w:=
 kexec_lc HK _ x ho i hL hx rfl Tryz.underlying22 rfl
theorem kst_t(HK:Hid (Kn b0 w0 w L R))(i:Nat)(x:Operand)(ho:o.op=.load 31 x)(hL:L[i]?=some (g,33,stA n A k c t))(hx:a.eval x=.pointer (some ⟨g,2,none⟩)):
  (execOp a.eval o).run Tryz.prog w=.ok (.value (.agg (tbA t))) w:=
 kexec_lw HK _ x ho i hL hx (tbA t) (fun j hj=>st_tb n A k c t j hj) Tryz.underlying31 rfl info_tb
theorem kst_s(HK:Hid (Kn b0 w0 w L R))(i:Nat)(hc:0≤q1∧q1<5)(x:Operand)(ho:o.op=.load 30 x)(hL:L[i]?=some (g,33,stA n A k c t))(hx:a.eval x=.pointer (some ⟨g,2+q1.toNat*9,none⟩)):
  (execOp a.eval o).run Tryz.prog w=.ok (.value (.agg (seA (t.get q1)))) w:=
 kexec_lw HK _ x ho i hL hx (seA (t.get q1)) (fun j hj=>st_at hc n A k c t j hj) Tryz.underlying30 rfl info_se
theorem kst_l(HK:Hid (Kn b0 w0 w L R))(i:Nat)(hc:0≤q1∧q1<5)(x:Operand)(ho:o.op=.load 4 x)(hL:L[i]?=some (g,33,stA n A k c t))(hx:a.eval x=.pointer (some ⟨g,2+q1.toNat*9,none⟩)):
  (execOp a.eval o).run Tryz.prog w=.ok (.value (.bool (t.get q1).live)) w:=
 kexec_lc HK _ x ho i hL hx (st_at hc n A k c t 0 (by decide)) Tryz.underlying4 rfl
theorem kst_e(HK:Hid (Kn b0 w0 w L R))(i:Nat)(hc:0≤q1∧q1<5)(x:Operand)(ho:o.op=.load 3 x)(hL:L[i]?=some (g,33,stA n A k c t))(hx:a.eval x=.pointer (some ⟨g,2+q1.toNat*9+1,none⟩)):
  (execOp a.eval o).run Tryz.prog w=.ok (.value (.int .i64 (t.get q1).ep)) w:=
 kexec_lc HK _ x ho i hL hx (st_at hc n A k c t 1 (by decide)) Tryz.underlying3 rfl
theorem kst_r(HK:Hid (Kn b0 w0 w L R))(i:Nat)(hc:0≤q1∧q1<5)(x:Operand)(ho:o.op=.load 3 x)(hL:L[i]?=some (g,33,stA n A k c t))(hx:a.eval x=.pointer (some ⟨g,2+q1.toNat*9+2,none⟩)):
  (execOp a.eval o).run Tryz.prog w=.ok (.value (.int .i64 (t.get q1).rq)) w:=
 kexec_lc HK _ x ho i hL hx (st_at hc n A k c t 2 (by decide)) Tryz.underlying3 rfl
theorem kst_p(HK:Hid (Kn b0 w0 w L R))(i:Nat)(hc:0≤q1∧q1<5)(x:Operand)(ho:o.op=.load 28 x)(hL:L[i]?=some (g,33,stA n A k c t))(hx:a.eval x=.pointer (some ⟨g,2+q1.toNat*9+4,none⟩)):
  (execOp a.eval o).run Tryz.prog w=.ok (.value (.agg (rpA (t.get q1).p))) w:=
 kexec_lw HK _ x ho i hL hx (rpA (t.get q1).p) (fun j hj=>by
  rw[Nat.add_assoc,st_at hc n A k c t (4+j) (by have:j<5:=hj;omega)]
  match j,hj with
  | 0,_|1,_|2,_|3,_|4,_=>rfl) Tryz.underlying28 rfl info_rp
theorem exec_ixq(hc:0≤q1∧q1<5)(x y:Operand)(ho:o.op=.indexAddr 31 x y)(hx:a.eval x=.pointer (some ⟨g,2,none⟩))(hy:a.eval y=.int .i64 q1):
  (execOp a.eval o).run Tryz.prog w=.ok (.value (.pointer (some ⟨g,2+q1.toNat*9,none⟩))) w:=by
 have h:(Instr.indexAt 31 (.pointer (some ⟨g,2,none⟩)) (.int .i64 q1)).run Tryz.prog w=.ok (.pointer (some ⟨g,2+q1.toNat*9,none⟩)) w:=by
  rcases Ses.cases5 hc with rfl|rfl|rfl|rfl|rfl<;>kernel_rfl
 unfold execOp
 simp only[ho,hx,hy,Sem.run_bind,Sem.run_pure,Result.andThen_ok,h]
theorem exec_brf{r:Rf}(x y z:Operand)(ho:o.op=.build 35 #[(0,x),(1,y),(2,z)])(hx:a.eval x=.int .i64 r.c)(hy:a.eval y=.int .i64 r.e)(hz:a.eval z=.int .i64 r.r):
  (execOp a.eval o).run Tryz.prog w=.ok (.value (.agg #[.int .i64 r.c,.int .i64 r.e,.int .i64 r.r])) w:=by
 have h:(Instr.build 35 #[(0,.int .i64 r.c),(1,.int .i64 r.e),(2,.int .i64 r.r)]).run Tryz.prog w=.ok (.agg #[.int .i64 r.c,.int .i64 r.e,.int .i64 r.r]) w:=by go_simp
 unfold execOp
 simp only[ho,Sem.run_bind,Sem.run_pure,Result.andThen_ok,List.map_toArray,List.map_cons,List.map_nil,hx,hy,hz,h]
end
section
variable {fn:Func}{R:Ending→World→Prop}{a:Act}{w:World}{B:Nat}{n:Int}{A:Option Addr}{k c:Nat}{t:Ses.T}{u:Value}{q q2:Tmp}
theorem ret_st(hf:fn.results=#[.cell q 33])(h2:a.tmps[q]?=some (.pointer (some ⟨B,0,none⟩)))(hd:a.defers=[])(hb:Blk w B 33 (stA n A k c t))
  (hR:R (.returned (.agg (stA n A k c t))) w):bodyPost Tryz.prog fn R Exit.ret a w:=
 bodyPost_ret (results_cell_row hf a.tmps w B _ _ (0,0) _ (by simp[h2]) hb Tryz.underlying33 rfl info_st) hd hR
theorem ret_sto(hf:fn.results=#[.cell q 33,.tmp q2])(h2:a.tmps[q]?=some (.pointer (some ⟨B,0,none⟩)))(h3:a.tmps[q2]?=some u)(hd:a.defers=[])(hb:Blk w B 33 (stA n A k c t))
  (hR:R (.returned (.tuple #[.agg (stA n A k c t),u])) w):bodyPost Tryz.prog fn R Exit.ret a w:=by
 refine bodyPost_ret (v:=.tuple #[.agg (stA n A k c t),u]) ?_ hd hR
 have h:(loadVar 33 ⟨B,0,none⟩).run Tryz.prog w=.ok (.agg (stA n A k c t)) w:=run_loadVar_row (P:=Tryz.prog) w B _ _ _ (0,0) _ hb Tryz.underlying33 rfl info_st
 simp[results,hf,asAddr,Sem.run_bind,h2,h3,h]
end
section
variable {b0:Nat}{w0 w:World}{L:List (Nat×TypeId×Array Value)}{R:List RowE}
theorem Kn.frontR{y:RowE}(h:Kn b0 w0 w L (R++[y])):Kn b0 w0 w L (y::R):=by
 refine h.pick id (fun j=>if j=0 then R.length else j-1) (fun i j _ _ h=>h) (fun i j hi hj h=>?_) (fun i x hx=>hx) (fun i x hx=>?_)
 ·simp at hi hj;(try dsimp only);split<;>split<;>omega
 ·match i,hx with
  | 0,hx=>simp at hx ⊢;exact hx
  | i+1,hx=>
   rw[List.getElem?_cons_succ] at hx
   rw[if_neg (by omega)]
   show(R++[y])[i+1-1]?=_
   rw[Nat.add_sub_cancel,List.getElem?_append_left (List.getElem?_eq_some_iff.1 hx).1]
   exact hx
end
section
variable {w:World}{o:Oper}{a:Act}{y:Sto.Ot}
theorem exec_otr{b off:Nat}(p:Operand)(ho:o.op=.load 35 p)(hx:a.eval p=.pointer (some ⟨b,off,none⟩))(hc:∀j v,(otL y)[j]?=some v→w.cell? ⟨b,off+j,none⟩=some v):
  (execOp a.eval o).run Tryz.prog w=.ok (.value (.agg #[.int .i64 y.r.c,.int .i64 y.r.e,.int .i64 y.r.r])) w:=
 exec_lr (x:=y.r) p ho hx (fun j v hj=>by
  match j,hj with
  | 0,hj=>exact hc 0 v hj
  | 1,hj=>exact hc 1 v hj
  | 2,hj=>exact hc 2 v hj)
theorem exec_otp{b off:Nat}(p:Operand)(ho:o.op=.load 28 p)(hx:a.eval p=.pointer (some ⟨b,off+3,none⟩))(hc:∀j v,(otL y)[j]?=some v→w.cell? ⟨b,off+j,none⟩=some v):
  (execOp a.eval o).run Tryz.prog w=.ok (.value (.agg (rpA y.p))) w:=by
 have hr:w.rangeAt b (off+3) (rpA y.p).toList:=fun j v hj=>by
  have h2:(otL y)[3+j]?=some v:=by
   rw[← hj]
   match j with
   | 0=>rfl
   | 1=>rfl
   | 2=>rfl
   | 3=>rfl
   | 4=>rfl
   | j+5=>
    rw[List.getElem?_eq_none (by show 8≤3+(j+5);omega),List.getElem?_eq_none (by show 5≤j+5;omega)]
  rw[Nat.add_assoc]
  exact hc (3+j) v h2
 have h:=run_loadVar_mid (P:=Tryz.prog) w b (off+3) _ (rpA y.p).toList _ hr Tryz.underlying28 rfl info_rp
 unfold execOp
 simp only[ho,hx,Instr.loadAt,Instr.sureAddr,Sem.run_bind,Sem.run_pure,Result.andThen_ok,h,Array.toArray_toList]
end
theorem dropO_few(l:List Sto.Ob)(r:Rf):(Sto.dropO l r).length≤8:=by
 unfold Sto.dropO
 split
 next h=>
  have h1:∀m:List Sto.Ob,(m.flatMap fun o=>Sto.drO o r).length≤m.length:=fun m=>by
   induction m with
   | nil=>exact Nat.le_refl 0
   | cons o m ih=>
    have h2:=Sto.drO_len o r
    rw[List.flatMap_cons,List.length_append,List.length_cons]
    omega
  exact Nat.le_trans (h1 l) h.len
 next=>exact Nat.zero_le 8
theorem held_float(y:Rf)(b:Bool):∀z∈Sto.held y b,z.p.v.f<18446744073709551616:=fun z hz=>by
 unfold Sto.held at hz
 split at hz
 ·rw[List.mem_singleton.1 hz];show(0:Nat)<18446744073709551616;decide
 ·cases hz
theorem dropO_float(l:List Sto.Ob)(r:Rf):∀z∈Sto.dropO l r,z.p.v.f<18446744073709551616:=fun z hz=>by
 unfold Sto.dropO at hz
 split at hz
 ·obtain⟨o,_,hz⟩:=List.mem_flatMap.1 hz
  unfold Sto.drO at hz
  split at hz
  ·exact held_float _ _ z hz
  ·cases hz
 ·cases hz
theorem fits_out{l:List Sto.Ot}(h:l.length≤1000):Fits otLay tF l:=⟨fun x hx=>trivial,by show l.length*72≤_;omega⟩
def IsSt(G:World→Prop)(s:Ap.St)(os:List Sto.Ot)(w:World)(e:Ending)(w':World):Prop:=∃(A:Option Addr) (k c:Nat) (l:List Oh) (O:Option Addr) (m d:Nat) (Rn:List RowE),e=.returned (.tuple #[.agg (stA s.n A k c s.t),.slice O m d])∧Hid (vs l=s.l)∧Kn w.heap.size w w' [] Rn∧
 Hid (∀(b:Nat) (W0 W:World) L R,Kn b W0 W L R→(∀z∈Rn,z∈R)→G W→Obs W A k c l∧Sls otLay tF W O m d os)
end
section
open Go.RowKit
theorem qgrow_any(n:Nat)(w:World)(hB0:n*72≤140737488355328):Calls Tryz.prog 129 #[.slice none 0 0,.int .i64 n] w fun e w'=>∃A c,e=.returned (.slice A 0 c)∧otLay.Own w.heap.size w' (.slice A 0 c) []∧Below w.heap.size w w':=by
 by_cases h0:n=0
 ·subst h0
  have HK:=zH (Kn.start w)
  clear hB0
  go_enter Tryz.func129,Tryz.ntmps129
  go_wp2_with fail
  go_ret
  exact⟨_,_,rfl,Lay.Own.none _ _,HK.out.b⟩
 obtain⟨i0,hi,hz0,hz1,hz2⟩:=info_parts otLay.info
 have hc1:=grownCap_ge w n 0 64
 have hr:=Lib.run_append_nil_zeros (P:=Tryz.prog) w 41 3 41 64 i0 otLay.z .i64 .i64 otLay.und Tryz.underlying3 hi hz0 n (by omega) (by rw[hz1];decide) (by omega) (by rw[hz2];show n*72≤_;omega)
 have HR:=zH hr
 have hc2:=grownCap_le_maxLen w n 0 64 (by unfold maxLen;omega)
 generalize grownCap w n 0 64=G at *
 have HO:Hid (otLay.Own w.heap.size (w.drew.alloc (.cells (Builtin.zeroCells otLay.z.cells n++Builtin.zeroCells otLay.z.cells (G-n)) 64)) (.slice (some ⟨w.heap.size,0,none⟩) 0 G) []):=by
  have:=World.ownsRow_made (base:=w.heap.size) (e:=64) (size:=8) w.drew (Builtin.zeroCells otLay.z.cells n++Builtin.zeroCells otLay.z.cells (G-n)) G (Nat.le_refl _) hc2 (by
   rw[Array.size_append,size_zeroCells,size_zeroCells]
   have:otLay.z.cells.size=8:=rfl
   rw[this];omega)
  exact zH this
 have HB:Hid (Below w.heap.size w (w.drew.alloc (.cells (Builtin.zeroCells otLay.z.cells n++Builtin.zeroCells otLay.z.cells (G-n)) 64))):=zH ((Below.refl _ w).drew.alloc (Nat.le_refl _) _)
 generalize w.drew.alloc (.cells (Builtin.zeroCells otLay.z.cells n++Builtin.zeroCells otLay.z.cells (G-n)) 64)=wz at *
 clear hr hi hz0 hz1 hz2 hc1 hc2
 have h1:¬((n:Int)<0):=by omega
 have h2:(0:Int)<(n:Int):=by omega
 have h3:wrap64 (n:Int)=(n:Int):=by unfold wrap64;omega
 go_enter Tryz.func129,Tryz.ntmps129
 go_wp2_with (first|(at_builtin;refine Lib.wpList_append_run _ rfl _ _ _ _ rfl _ _ rfl rfl _ _ HR.out ?_))
 go_ret
 exact⟨_,_,rfl,HO.out,HB.out⟩
theorem qconcat_any:Joins Tryz.prog 85 otLay tF:=by
 intro g m ps w hm hb hg hc hs ht
 replace ht:(catP ps).length*72≤140737488355328:=ht
 have HGo:Hid (∀k,k<m→∃p,ps[k]?=some p∧Sls otLay tF w p.A p.n p.c p.l∧∀W,Below w.heap.size w W→W.cell? ⟨g,k,none⟩=some (.slice p.A p.n p.c)):=zH fun k hk=>by
  obtain⟨p,hp⟩:=Lay.get_of (l:=ps) (k:=k) (by rw[hm];exact hk)
  exact⟨p,hp,hs p (List.mem_of_getElem? hp),fun W hW=>(hW.cell (p:=⟨g,k,none⟩) hg).trans (hc k p hp)⟩
 have HLen:Hid (∀k,(catP (ps.take k)).length*72≤140737488355328):=zH fun k=>Nat.le_trans (Nat.mul_le_mul_right _ (catP_le ps k)) ht
 have HTake:Hid (ps.take m=ps):=zH (by rw[← hm];exact List.take_length)
 have HG:=zH (fun W=>qgrow_any (catP ps).length W ht)
 clear hc hs ht hm hg
 go_enter Tryz.func85,Tryz.ntmps85
 go_wp2_with fail
 go_loopw [3,11] (fun vs vi wr=>∃k:Nat,k≤m∧vs=.int .i64 ((catP (ps.take k)).length:Nat)∧vi=.int .i64 k∧w=wr) (fun _ vi _=>m-(intOf vi).toNat)
 case atStart=>exact⟨0,Nat.zero_le _,rfl,rfl,rfl⟩
 case round=>
  obtain⟨k,hk,rfl,rfl,rfl⟩:=hrel
  by_cases hlt:k<m
  ·obtain⟨p,hp,hsl,hcl⟩:=HGo.out k hlt
   have hcell:=hcl _ (Below.refl _ _)
   have ht:=HLen.out (k+1)
   have he:=catP_more hp
   have hpn:=hsl.len
   rw[he,List.length_append] at ht
   have HE:Hid ((catP (ps.take (k+1))).length=(catP (ps.take k)).length+p.n):=zH (by rw[he,List.length_append,hpn])
   rw[hpn] at ht
   clear he hp hsl hcl hpn
   obtain⟨A,n,c,l⟩:=p
   simp only at hcell ht HE
   generalize (catP (ps.take k)).length=q at *
   have h1:wrap64 ((q:Int)+(n:Int))=((q+n:Nat):Int):=by unfold wrap64;omega
   have h2:¬(((q+n:Nat):Int)<0):=by omega
   have h3:¬((q:Int)+(n:Int)<0):=by omega
   go_wp2_with fail
   exact⟨⟨k+1,by omega,by rw[HE.out];go_num,by go_num,by simp⟩,by simp[intOf];omega⟩
  ·obtain rfl:k=m:=by omega
   rw[HTake.out]
   go_wp2_with fail
   refine(HG.out _).mono ?_;rintro e w1 ⟨A0,c0,rfl,o1,b1⟩
   have HK:=zH ((Kn.start _).called b1 o1)
   simp only[lnA] at HK
   clear b1 o1
   go_wp2_with fail
   go_loopw [6,27] (fun vs vi wr=>∃(q:Nat) (A:Option Addr) (c N:Nat),q≤k∧Hid ((catP (ps.take q)).length=N)∧vs=.slice A N c∧vi=.int .i64 q∧Hid (Kn w.heap.size w wr [] [row otLay (.slice A N c) (catP (ps.take q))])) (fun _ vi _=>k-(intOf vi).toNat)
   case atStart=>exact⟨0,A0,c0,0,Nat.zero_le _,zH rfl,rfl,rfl,HK⟩
   case round=>
    clear HK
    obtain⟨q,A,c,N,hq,hN,rfl,rfl,HK⟩:=hrel
    by_cases hlt:q<k
    ·obtain⟨p,hp,hsl,hcl⟩:=HGo.out q hlt
     have hcell:=hcl _ HK.out.b
     have HR:=zH (let h:=hsl.later HK.out.b;And.intro h.rd h.nl)
     have hlen:=HLen.out (q+1)
     have he:=catP_more hp
     rw[he,List.length_append,hN.out] at hlen
     have HE:=zH he
     have HPl:Hid (p.n=p.l.length):=zH hsl.len.symm
     have HL:Hid ((catP (ps.take q)).length+p.l.length≤9223372036854775807∧((catP (ps.take q)).length+p.l.length)*otLay.bytes≤211106232532992):=zH ⟨by rw[hN.out];omega,by show _*72≤_;rw[hN.out];omega⟩
     have HN2:Hid ((catP (ps.take q)++p.l).length=N+p.l.length):=zH (by rw[List.length_append,hN.out])
     clear he hp hlen hsl hcl
     obtain⟨Ap,np,cp,lp⟩:=p
     simp only at hcell HR HPl HL HN2 HE
     go_wp2_with (first|(at_builtin;refine wpList_kmore HK otLay 0 rfl _ _ rfl rfl rfl lp rfl HPl.out HR HL (N:=N+lp.length) HN2 ?_;intro A4 c4 _ HK';simp only[List.set] at HK';replace HK:=HK';clear HK'))
     refine⟨⟨q+1,A4,c4,N+lp.length,by omega,zH (by rw[HE.out,HN2.out]),rfl,by go_num,?_⟩,by simp[intOf];omega⟩
     rw[HE.out]
     exact HK
    ·obtain rfl:q=k:=by omega
     rw[HTake.out] at HK hN
     obtain rfl:=hN.out
     go_wp2_with fail
     go_ret
     exact⟨A,_,c,rfl,HK.out.own 0 rfl,HK.out.b⟩
end
section
open Go.RowKit
section
variable {b0:Nat}{w0 w:World}{L:List (Nat×TypeId×Array Value)}{R:List RowE}{o:Oper}{a:Act}{g:Nat}{p:Sto.Rp}
theorem krp_e(HK:Hid (Kn b0 w0 w L R))(i:Nat)(r:Operand)(ho:o.op=.load 23 r)(hL:L[i]?=some (g,28,rpA p))(hx:a.eval r=.pointer (some ⟨g,0,none⟩)):
  (execOp a.eval o).run Tryz.prog w=.ok (.value (.int .i64 p.e)) w:=kexec_lc HK _ r ho i hL hx rfl Tryz.underlying23 rfl
theorem krp_v(HK:Hid (Kn b0 w0 w L R))(i:Nat)(r:Operand)(ho:o.op=.load 26 r)(hL:L[i]?=some (g,28,rpA p))(hx:a.eval r=.pointer (some ⟨g,1,none⟩)):
  (execOp a.eval o).run Tryz.prog w=.ok (.value (.agg #[.int .i64 p.v.k,.int .i64 p.v.n,.int .u64 (p.v.f:Int),.string p.v.s])) w:=
 kexec_ls HK _ r ho i hL hx #[.int .i64 p.v.k,.int .i64 p.v.n,.int .u64 (p.v.f:Int),.string p.v.s] (fun j hj=>by
  match j,hj with
  | 0,_|1,_|2,_|3,_=>rfl) Tryz.underlying26 info_v4
theorem exec_e0l{x:Int}{b:Bool}(q:Operand)(ho:o.op=.binOp .leq 23 (.const (.int .i64 0)) q 23)(hq:a.eval q=.int .i64 x)(hb:decide (0≤x)=b):
  (execOp a.eval o).run Tryz.prog w=.ok (.value (.bool b)) w:=by
 have he:a.eval (.const (.int .i64 0))=.int .i64 0:=rfl
 subst hb
 unfold execOp
 simp only[ho,hq,he]
 go_simp
theorem exec_e0g{x:Int}{b:Bool}(q:Operand)(ho:o.op=.binOp .geq 23 q (.const (.int .i64 0)) 23)(hq:a.eval q=.int .i64 x)(hb:decide (0≤x)=b):
  (execOp a.eval o).run Tryz.prog w=.ok (.value (.bool b)) w:=by
 have he:a.eval (.const (.int .i64 0))=.int .i64 0:=rfl
 subst hb
 unfold execOp
 simp only[ho,hq,he]
 go_simp
theorem exec_e18{x:Int}{b:Bool}(q:Operand)(ho:o.op=.binOp .leq 23 q (.const (.int .i64 18)) 23)(hq:a.eval q=.int .i64 x)(hb:decide (x≤18)=b):
  (execOp a.eval o).run Tryz.prog w=.ok (.value (.bool b)) w:=by
 have he:a.eval (.const (.int .i64 18))=.int .i64 18:=rfl
 subst hb
 unfold execOp
 simp only[ho,hq,he]
 go_simp
end
theorem sreply_any(p:Sto.Rp)(w:World)(hf:p.v.f<18446744073709551616):Calls Tryz.prog 111 #[.agg (rpA p)] w (IsB (Sto.rep p) w):=by
 have HC:=zH (fun W=>check_any p.v W hf)
 have HK:=kn1 w 28 (rpA p)
 unfold IsB Sto.rep
 unfold IsE vv at HC
 generalize h1:decide (0≤p.e)=b1
 have H1:=zH h1
 generalize h2:decide (p.e≤18)=b2
 have H2:=zH h2
 generalize Val.chk p.v=z at *
 clear h1 h2 hf
 cases b1
 ·go_enter Tryz.func111,Tryz.ntmps111
  go_wp2_with (first|refine wpList_exe (krp_e HK 0 _ (by rfl) (by rfl) (by rfl)) (by rfl) ?_|refine wpList_exe (krp_v HK 0 _ (by rfl) (by rfl) (by rfl)) (by rfl) ?_|refine wpList_exe (exec_e0l (x:=p.e) _ (by rfl) (by rfl) H1.out) (by rfl) ?_|refine wpList_exe (exec_e0g (x:=p.e) _ (by rfl) (by rfl) H1.out) (by rfl) ?_|refine wpList_exe (exec_e18 (x:=p.e) _ (by rfl) (by rfl) H2.out) (by rfl) ?_)
  go_ret
  exact⟨rfl,HK.out.b⟩
 cases b2
 ·go_enter Tryz.func111,Tryz.ntmps111
  go_wp2_with (first|refine wpList_exe (krp_e HK 0 _ (by rfl) (by rfl) (by rfl)) (by rfl) ?_|refine wpList_exe (krp_v HK 0 _ (by rfl) (by rfl) (by rfl)) (by rfl) ?_|refine wpList_exe (exec_e0l (x:=p.e) _ (by rfl) (by rfl) H1.out) (by rfl) ?_|refine wpList_exe (exec_e0g (x:=p.e) _ (by rfl) (by rfl) H1.out) (by rfl) ?_|refine wpList_exe (exec_e18 (x:=p.e) _ (by rfl) (by rfl) H2.out) (by rfl) ?_)
  go_ret
  exact⟨rfl,HK.out.b⟩
 ·go_enter Tryz.func111,Tryz.ntmps111
  go_wp2_with (first|refine wpList_exe (krp_e HK 0 _ (by rfl) (by rfl) (by rfl)) (by rfl) ?_|refine wpList_exe (krp_v HK 0 _ (by rfl) (by rfl) (by rfl)) (by rfl) ?_|refine wpList_exe (exec_e0l (x:=p.e) _ (by rfl) (by rfl) H1.out) (by rfl) ?_|refine wpList_exe (exec_e0g (x:=p.e) _ (by rfl) (by rfl) H1.out) (by rfl) ?_|refine wpList_exe (exec_e18 (x:=p.e) _ (by rfl) (by rfl) H2.out) (by rfl) ?_)
  refine(HC.out _).mono ?_;rintro e w1 ⟨rfl,x1⟩
  replace HK:=hkC HK x1
  clear x1
  go_wp2_with fail
  go_ret
  exact⟨rfl,HK.out.b⟩
end
end Go.Proofs.YtddpmlcpfmmbeaaGreat
