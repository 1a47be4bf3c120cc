/- How objects lie: their own cells and the slices that they hold; loads and stores of them and of their fields, blocks that hold one, an outcome's block; ways out. No condition but those named. -/
import Derived.Test.YtddpmlcpfmmbeaaGreatTk
import Derived.Test.YtddpmlcpfmmbeaaGreatKAI
import Derived.Test.YtddpmlcpfmmbeaaGreatKAD
import Derived.Test.YtddpmlcpfmmbeaaGreatKAE
import Derived.Test.YtddpmlcpfmmbeaaGreatKAF
import Derived.KernelRfl
set_option linter.unusedSimpArgs false
set_option linter.unusedVariables false
set_option maxRecDepth 100000
set_option maxHeartbeats 25600000
namespace Go.Proofs.YtddpmlcpfmmbeaaGreat
section
open Go.ChangeShapes Go.WideShapes Go.Deep Go.RowKit
def mC(n:Int)(s l m:Nat):Array Value:=#[.int .i64 n,.int .u64 (s:Int),.int .u64 (l:Int),.int .u64 (m:Int)]
def arC(n:Int)(s l m:Nat):Array Value:=#[.int .i64 1,.int .i64 n,.int .u64 0,.string ⟨#[]⟩,.int .i64 2,.int .i64 0,.int .u64 (s:Int),.string ⟨#[]⟩,.int .i64 2,.int .i64 0,.int .u64 (l:Int),.string ⟨#[]⟩,.int .i64 2,.int .i64 0,.int .u64 (m:Int),.string ⟨#[]⟩]
def zrC:Array Value:=#[.int .i64 0,.int .i64 0,.int .u64 0,.string ⟨#[]⟩,.int .i64 0,.int .i64 0,.int .u64 0,.string ⟨#[]⟩,.int .i64 0,.int .i64 0,.int .u64 0,.string ⟨#[]⟩,.int .i64 0,.int .i64 0,.int .u64 0,.string ⟨#[]⟩]
theorem info_m4:(Tryz.prog.info? 58).map (·.size)=some 4:=by kernel_rfl
theorem told_ar(n:Int)(s l m:Nat)(w:World):
  Calls Tryz.prog 150 #[.agg #[.int .i64 n,.int .u64 (s:Int),.int .u64 (l:Int),.int .u64 (m:Int)]] w (fun e w'=>e=.returned (.agg (arC n s l m))∧Below w.heap.size w w'):=
 (told_any n s l m w).mono fun e w' ⟨h1,h2⟩=>⟨h1,by subst h2;go_grown⟩
section
variable {b0:Nat}{w0 w:World}{L:List (Nat×TypeId×Array Value)}{R:List RowE}{ops:Array Oper}{rest:List Oper}{o:Oper}{a:Act}{Q:Exit→Act→World→Prop}{K:Act→World→Prop}{E:Prop}{g:Nat}{n n2:Int}{s l m s2 l2 m2:Nat}
theorem wpList_aka(HK:Hid (Kn b0 w0 w L R))(hgd:o.guard=none)(ho:o.op=.alloc 184)
  (h:∀w' g,Hid (Kn b0 w0 w' (L++[(g,184,zrC)]) R)→wpList Tryz.prog ops Q rest (a.put o.dst (.pointer (some ⟨g,0,none⟩))) w'):wpList Tryz.prog ops Q (o::rest) a w:=
 wpList_plain hgd fun K hK=>by
  have h4:=h _ w.heap.size (zH (HK.out.alloc _ _))
  unfold Oper.wp execOp
  simp only[ho]
  unfold zrC at h4
  go_simp
  exact hK _ _ h4
theorem kwp_sm(HK:Hid (Kn b0 w0 w L R))(i:Nat)(p q:Operand)(ho:o.op=.store 58 p q)(hL:L[i]?=some (g,58,mC n s l m))(hx:a.eval p=.pointer (some ⟨g,0,none⟩))(hy:a.eval q=.agg #[.int .i64 n2,.int .u64 (s2:Int),.int .u64 (l2:Int),.int .u64 (m2:Int)])
  (h:∀w',Hid (Kn b0 w0 w' (L.set i (g,58,mC n2 s2 l2 m2)) R)→K (a.put o.dst undef) w'):o.wp Tryz.prog a w K Q:=
 kwp_ss HK _ p q ho i hL hx hy (by show 4≤4;decide) info_m4 (by simp[Value.oneCell']) fun w' h1 _=>h w' (by
  have e:putCells (mC n s l m) 0 (#[Value.int .i64 n2,.int .u64 (s2:Int),.int .u64 (l2:Int),.int .u64 (m2:Int)]:Array Value).toList=mC n2 s2 l2 m2:=by
   show putCells (mC n s l m) 0 (mC n2 s2 l2 m2).toList=mC n2 s2 l2 m2
   rw[putCells_all (vs:=(mC n2 s2 l2 m2).toList) (cs:=mC n s l m) rfl,Array.toArray_toList]
  rw[e] at h1
  exact h1)
theorem wpList_sm(HK:Hid (Kn b0 w0 w L R))(i:Nat)(hgd:o.guard=none)(p q:Operand)(ho:o.op=.store 58 p q)(hL:L[i]?=some (g,58,mC n s l m))(hx:a.eval p=.pointer (some ⟨g,0,none⟩))(hy:a.eval q=.agg #[.int .i64 n2,.int .u64 (s2:Int),.int .u64 (l2:Int),.int .u64 (m2:Int)])
  (h:∀w',Hid (Kn b0 w0 w' (L.set i (g,58,mC n2 s2 l2 m2)) R)→wpList Tryz.prog ops Q rest (a.put o.dst undef) w'):wpList Tryz.prog ops Q (o::rest) a w:=
 wpList_plain hgd fun _ hK=>kwp_sm HK i p q ho hL hx hy fun w' h1=>hK _ _ (h w' h1)
theorem step_sm(HK:Hid (Kn b0 w0 w L R))(i:Nat)(hgd:o.guard=none)(p q:Operand)(ho:o.op=.store 58 p q)(hL:L[i]?=some (g,58,mC n s l m))(hx:a.eval p=.pointer (some ⟨g,0,none⟩))(hy:a.eval q=.agg #[.int .i64 n2,.int .u64 (s2:Int),.int .u64 (l2:Int),.int .u64 (m2:Int)])
  (h:∀w',Hid (Kn b0 w0 w' (L.set i (g,58,mC n2 s2 l2 m2)) R)→K (a.put o.dst undef) w'):if Region.wanted o (yielded ops a.tmps)=true then Oper.wp Tryz.prog o a w K Q else E:=by
 rw[if_pos (by simp[Region.wanted,hgd])]
 exact kwp_sm HK i p q ho hL hx hy h
theorem wpList_sa(HK:Hid (Kn b0 w0 w L R))(i:Nat)(hgd:o.guard=none)(p q:Operand)(ho:o.op=.store 184 p q)(hL:L[i]?=some (g,184,zrC))(hx:a.eval p=.pointer (some ⟨g,0,none⟩))(hy:a.eval q=.agg (arC n s l m))
  (h:∀w',Hid (Kn b0 w0 w' (L.set i (g,184,arC n s l m)) R)→wpList Tryz.prog ops Q rest (a.put o.dst undef) w'):wpList Tryz.prog ops Q (o::rest) a w:=
 wpList_ss HK i hgd _ p q ho hL hx hy (by show 16≤16;decide) info_ar (by simp[arC,Value.oneCell']) fun w' h1 _=>h w' (by
  have e:putCells zrC 0 (arC n s l m).toList=arC n s l m:=by
   rw[putCells_all (vs:=(arC n s l m).toList) (cs:=zrC) rfl,Array.toArray_toList]
  rw[e] at h1
  exact h1)
theorem kexec_lm(HK:Hid (Kn b0 w0 w L R))(i:Nat)(x:Operand)(ho:o.op=.load 58 x)(hL:L[i]?=some (g,58,mC n s l m))(hx:a.eval x=.pointer (some ⟨g,0,none⟩)):
  (execOp a.eval o).run Tryz.prog w=.ok (.value (.agg #[.int .i64 n,.int .u64 (s:Int),.int .u64 (l:Int),.int .u64 (m:Int)])) w:=
 kexec_ls HK _ x ho i hL hx (mC n s l m) (fun j _=>by rw[Nat.zero_add]) Tryz.underlying58 info_m4
theorem kexec_mn(HK:Hid (Kn b0 w0 w L R))(i:Nat)(x:Operand)(ho:o.op=.load 3 x)(hL:L[i]?=some (g,58,mC n s l m))(hx:a.eval x=.pointer (some ⟨g,0,none⟩)):
  (execOp a.eval o).run Tryz.prog w=.ok (.value (.int .i64 n)) w:=
 kexec_lc HK 3 x ho i hL hx (v:=.int .i64 n) rfl Tryz.underlying3 rfl
theorem kexec_ms(HK:Hid (Kn b0 w0 w L R))(i:Nat)(x:Operand)(ho:o.op=.load 24 x)(hL:L[i]?=some (g,58,mC n s l m))(hx:a.eval x=.pointer (some ⟨g,1,none⟩)):
  (execOp a.eval o).run Tryz.prog w=.ok (.value (.int .u64 (s:Int))) w:=
 kexec_lc HK 24 x ho i hL hx (v:=.int .u64 (s:Int)) rfl Tryz.underlying24 rfl
theorem kexec_ml(HK:Hid (Kn b0 w0 w L R))(i:Nat)(x:Operand)(ho:o.op=.load 24 x)(hL:L[i]?=some (g,58,mC n s l m))(hx:a.eval x=.pointer (some ⟨g,2,none⟩)):
  (execOp a.eval o).run Tryz.prog w=.ok (.value (.int .u64 (l:Int))) w:=
 kexec_lc HK 24 x ho i hL hx (v:=.int .u64 (l:Int)) rfl Tryz.underlying24 rfl
theorem kexec_mm(HK:Hid (Kn b0 w0 w L R))(i:Nat)(x:Operand)(ho:o.op=.load 24 x)(hL:L[i]?=some (g,58,mC n s l m))(hx:a.eval x=.pointer (some ⟨g,3,none⟩)):
  (execOp a.eval o).run Tryz.prog w=.ok (.value (.int .u64 (m:Int))) w:=
 kexec_lc HK 24 x ho i hL hx (v:=.int .u64 (m:Int)) rfl Tryz.underlying24 rfl
theorem kexec_a1(HK:Hid (Kn b0 w0 w L R))(i:Nat)(x:Operand)(ho:o.op=.load 26 x)(hL:L[i]?=some (g,184,arC n s l m))(hx:a.eval x=.pointer (some ⟨g,4,none⟩)):
  (execOp a.eval o).run Tryz.prog w=.ok (.value (.agg #[.int .i64 2,.int .i64 0,.int .u64 (s:Int),.string ⟨#[]⟩])) w:=
 kexec_ls HK _ x ho i hL hx #[.int .i64 2,.int .i64 0,.int .u64 (s:Int),.string ⟨#[]⟩] (fun j hj=>by
  match j,hj with
  | 0,_=>rfl
  | 1,_=>rfl
  | 2,_=>rfl
  | 3,_=>rfl) Tryz.underlying26 info_v4
theorem kexec_a2(HK:Hid (Kn b0 w0 w L R))(i:Nat)(x:Operand)(ho:o.op=.load 26 x)(hL:L[i]?=some (g,184,arC n s l m))(hx:a.eval x=.pointer (some ⟨g,8,none⟩)):
  (execOp a.eval o).run Tryz.prog w=.ok (.value (.agg #[.int .i64 2,.int .i64 0,.int .u64 (l:Int),.string ⟨#[]⟩])) w:=
 kexec_ls HK _ x ho i hL hx #[.int .i64 2,.int .i64 0,.int .u64 (l:Int),.string ⟨#[]⟩] (fun j hj=>by
  match j,hj with
  | 0,_=>rfl
  | 1,_=>rfl
  | 2,_=>rfl
  | 3,_=>rfl) Tryz.underlying26 info_v4
theorem kexec_a3(HK:Hid (Kn b0 w0 w L R))(i:Nat)(x:Operand)(ho:o.op=.load 26 x)(hL:L[i]?=some (g,184,arC n s l m))(hx:a.eval x=.pointer (some ⟨g,12,none⟩)):
  (execOp a.eval o).run Tryz.prog w=.ok (.value (.agg #[.int .i64 2,.int .i64 0,.int .u64 (m:Int),.string ⟨#[]⟩])) w:=
 kexec_ls HK _ x ho i hL hx #[.int .i64 2,.int .i64 0,.int .u64 (m:Int),.string ⟨#[]⟩] (fun j hj=>by
  match j,hj with
  | 0,_=>rfl
  | 1,_=>rfl
  | 2,_=>rfl
  | 3,_=>rfl) Tryz.underlying26 info_v4
theorem kexec_vf{k:Int}{f:Nat}{t:ByteArray}(HK:Hid (Kn b0 w0 w L R))(i:Nat)(x:Operand)(ho:o.op=.load 24 x)(hL:L[i]?=some (g,26,vC k n f t))(hx:a.eval x=.pointer (some ⟨g,2,none⟩)):
  (execOp a.eval o).run Tryz.prog w=.ok (.value (.int .u64 (f:Int))) w:=
 kexec_lc HK 24 x ho i hL hx (v:=.int .u64 (f:Int)) rfl Tryz.underlying24 rfl
theorem exec_inc{x y:Int}(p:Operand)(ho:o.op=.binOp .add 3 p (.const (.int .i64 1)) 3)(hp:a.eval p=.int .i64 x)(hy:IntKind.i64.wrap (x+1)=y):
  (execOp a.eval o).run Tryz.prog w=.ok (.value (.int .i64 y)) w:=by
 have he:a.eval (.const (.int .i64 1))=.int .i64 1:=rfl
 unfold execOp
 simp only[ho,hp,he]
 go_simp
theorem meq_all(x y:Mtr):decide (x=y)=(decide (x.n=y.n)&&decide ((x.s:Int)=(y.s:Int))&&decide ((x.l:Int)=(y.l:Int))&&decide ((x.m:Int)=(y.m:Int))):=by
 obtain⟨n,s,l,m⟩:=x
 obtain⟨n',s',l',m'⟩:=y
 rw[Bool.eq_iff_iff]
 simp only[decide_eq_true_eq,Bool.and_eq_true,Mtr.mk.injEq,Int.natCast_inj,and_assoc]
theorem exec_meq{x y:Mtr}{b:Bool}(p q:Operand)(ho:o.op=.binOp .eql 58 p q 58)(hx:a.eval p=.agg #[.int .i64 x.n,.int .u64 (x.s:Int),.int .u64 (x.l:Int),.int .u64 (x.m:Int)])(hy:a.eval q=.agg #[.int .i64 y.n,.int .u64 (y.s:Int),.int .u64 (y.l:Int),.int .u64 (y.m:Int)])(hb:decide (x=y)=b):
  (execOp a.eval o).run Tryz.prog w=.ok (.value (.bool b)) w:=by
 rw[meq_all] at hb
 subst hb
 unfold execOp
 simp only[ho,hx,hy]
 go_simp
 by_cases h1:x.n=y.n<;>by_cases h2:(x.s:Int)=(y.s:Int)<;>by_cases h3:(x.l:Int)=(y.l:Int)<;>by_cases h4:(x.m:Int)=(y.m:Int)<;>simp[h1,h2,h3,h4]
end
theorem ix_ar0(n:Int)(s l m:Nat)(w:World):(Instr.index 184 (.agg #[.int .i64 1,.int .i64 n,.int .u64 0,.string ⟨#[]⟩,.int .i64 2,.int .i64 0,.int .u64 (s:Int),.string ⟨#[]⟩,.int .i64 2,.int .i64 0,.int .u64 (l:Int),.string ⟨#[]⟩,.int .i64 2,.int .i64 0,.int .u64 (m:Int),.string ⟨#[]⟩]) (.int .i64 0)).run Tryz.prog w=.ok (.agg #[.int .i64 1,.int .i64 n,.int .u64 0,.string ⟨#[]⟩]) w:=by kernel_rfl
theorem ix_ar1(n:Int)(s l m:Nat)(w:World):(Instr.index 184 (.agg #[.int .i64 1,.int .i64 n,.int .u64 0,.string ⟨#[]⟩,.int .i64 2,.int .i64 0,.int .u64 (s:Int),.string ⟨#[]⟩,.int .i64 2,.int .i64 0,.int .u64 (l:Int),.string ⟨#[]⟩,.int .i64 2,.int .i64 0,.int .u64 (m:Int),.string ⟨#[]⟩]) (.int .i64 1)).run Tryz.prog w=.ok (.agg #[.int .i64 2,.int .i64 0,.int .u64 (s:Int),.string ⟨#[]⟩]) w:=by kernel_rfl
theorem ix_ar2(n:Int)(s l m:Nat)(w:World):(Instr.index 184 (.agg #[.int .i64 1,.int .i64 n,.int .u64 0,.string ⟨#[]⟩,.int .i64 2,.int .i64 0,.int .u64 (s:Int),.string ⟨#[]⟩,.int .i64 2,.int .i64 0,.int .u64 (l:Int),.string ⟨#[]⟩,.int .i64 2,.int .i64 0,.int .u64 (m:Int),.string ⟨#[]⟩]) (.int .i64 2)).run Tryz.prog w=.ok (.agg #[.int .i64 2,.int .i64 0,.int .u64 (l:Int),.string ⟨#[]⟩]) w:=by kernel_rfl
theorem ix_ar3(n:Int)(s l m:Nat)(w:World):(Instr.index 184 (.agg #[.int .i64 1,.int .i64 n,.int .u64 0,.string ⟨#[]⟩,.int .i64 2,.int .i64 0,.int .u64 (s:Int),.string ⟨#[]⟩,.int .i64 2,.int .i64 0,.int .u64 (l:Int),.string ⟨#[]⟩,.int .i64 2,.int .i64 0,.int .u64 (m:Int),.string ⟨#[]⟩]) (.int .i64 3)).run Tryz.prog w=.ok (.agg #[.int .i64 2,.int .i64 0,.int .u64 (m:Int),.string ⟨#[]⟩]) w:=by kernel_rfl
def IsVe(y:Mt.Rd)(w:World)(e:Ending)(w':World):Prop:=e=.returned (.tuple #[.agg #[.int .i64 y.k,.int .i64 y.n,.int .u64 (y.f:Int),.string ⟨#[]⟩],.int .i64 y.e])∧Below w.heap.size w w'
theorem add_below(a b:Nat)(w:World)(ha:a<18446744073709551616)(hb:b<18446744073709551616):
  Calls Tryz.prog 191 #[.int .u64 a,.int .u64 b] w fun e w'=>e=.returned (.int .u64 (Num.S a b:Nat))∧Below w.heap.size w w':=
 (add_any a b w ha hb).mono fun e w' ⟨h1,n,h2⟩=>⟨h1,by subst h2;exact⟨rfl,rfl,rfl,Nat.le_refl _,fun _ _=>rfl⟩⟩
def IsMe(y:Mtr)(x:Int)(w:World)(e:Ending)(w':World):Prop:=e=.returned (.tuple #[.agg #[.int .i64 y.n,.int .u64 (y.s:Int),.int .u64 (y.l:Int),.int .u64 (y.m:Int)],.int .i64 x])∧Below w.heap.size w w'
theorem ret_me{fn:Func}{R:Ending→World→Prop}{a:Act}{w:World}{B:Nat}{n:Int}{s l m:Nat}{u:Value}{q q2:Tmp}(hf:fn.results=#[.cell q 58,.tmp q2])(h2:a.tmps[q]?=some (.pointer (some ⟨B,0,none⟩)))(h3:a.tmps[q2]?=some u)(hd:a.defers=[])(hb:Blk w B 58 (mC n s l m))
  (hR:R (.returned (.tuple #[.agg #[.int .i64 n,.int .u64 (s:Int),.int .u64 (l:Int),.int .u64 (m:Int)],u])) w):bodyPost Tryz.prog fn R Exit.ret a w:=by
 refine bodyPost_ret (v:=.tuple #[.agg #[.int .i64 n,.int .u64 (s:Int),.int .u64 (l:Int),.int .u64 (m:Int)],u]) ?_ hd hR
 have h:(loadVar 58 ⟨B,0,none⟩).run Tryz.prog w=.ok (.agg (mC n s l m)) w:=run_loadVar_row (P:=Tryz.prog) w B _ _ _ (0,0) _ hb Tryz.underlying58 rfl info_m4
 unfold mC at h
 simp[results,hf,asAddr,Sem.run_bind,h2,h3,h]
theorem ret_va{fn:Func}{R:Ending→World→Prop}{a:Act}{w:World}{B:Nat}{k n:Int}{f:Nat}{s:ByteArray}{u:Value}{q q2:Tmp}(hf:fn.results=#[.cell q 26,.tmp q2])(h2:a.tmps[q]?=some (.pointer (some ⟨B,0,none⟩)))(h3:a.tmps[q2]?=some u)(hd:a.defers=[])(hb:Blk w B 26 (vC k n f s))
  (hR:R (.returned (.tuple #[.agg #[.int .i64 k,.int .i64 n,.int .u64 (f:Int),.string s],u])) w):bodyPost Tryz.prog fn R Exit.ret a w:=by
 refine bodyPost_ret (v:=.tuple #[.agg #[.int .i64 k,.int .i64 n,.int .u64 (f:Int),.string s],u]) ?_ hd hR
 have h:(loadVar 26 ⟨B,0,none⟩).run Tryz.prog w=.ok (.agg (vC k n f s)) w:=run_loadVar_row (P:=Tryz.prog) w B _ _ _ (0,0) _ hb Tryz.underlying26 rfl info_v4
 unfold vC at h
 simp[results,hf,asAddr,Sem.run_bind,h2,h3,h]
def mL(x:Mtr):List Value:=[.int .i64 x.n,.int .u64 (x.s:Int),.int .u64 (x.l:Int),.int .u64 (x.m:Int)]
section
variable {H:Type}{enc:TypeId×Value→H}{W:World}{base:Nat}
theorem cells_mt:Tryz.prog.cellsOf 58=4:=by kernel_rfl
theorem opens_mt:OpensT enc 58 mL Mt.Fit:=fun W n cs x ht=>by
 obtain⟨ys,m,_,hx,hlen,hyl,hf⟩:=DataW.trod_struct Tryz.underlying58 ht
 have hlen:cs.length=Tryz.prog.cellsOf 58:=hlen
 rw[cells_mt] at hlen
 match cs,hlen,ys,hyl with
 | [v0,v1,v2,v3],_,[y0,y1,y2,y3],_=>
  have f0:=hf 0 _ rfl
  have f1:=hf 1 _ rfl
  have f2:=hf 2 _ rfl
  have f3:=hf 3 _ rfl
  simp only[List.getElem?_cons_zero,List.getElem?_cons_succ] at f0 f1 f2 f3
  obtain⟨a0,e0,_,w0⟩:=DataW.trod_int Tryz.underlying3 f0
  obtain⟨a1,e1,_,w1⟩:=DataW.trod_int Tryz.underlying24 f1
  obtain⟨a2,e2,_,w2⟩:=DataW.trod_int Tryz.underlying24 f2
  obtain⟨a3,e3,_,w3⟩:=DataW.trod_int Tryz.underlying24 f3
  cases e0;cases e1;cases e2;cases e3
  obtain⟨u1,rfl,hu1⟩:=u64_lt w1
  obtain⟨u2,rfl,hu2⟩:=u64_lt w2
  obtain⟨u3,rfl,hu3⟩:=u64_lt w3
  exact⟨⟨a0,u1,u2,u3⟩,rfl,by have:=bounds_i64 w0;show a0≤_;omega,hu1,hu2,hu3⟩
end
end
section
open Go.RowKit
structure Oh where
 v:Sto.Ob
 pA:Option Addr
 pn:Nat
 pc:Nat
 vA:Option Addr
 vn:Nat
 vc:Nat
 rA:Option Addr
 rn:Nat
 rc:Nat
def obL(x:Oh):List Value:=[.string x.v.name,.int .i64 x.v.kind,.int .i64 x.v.cap,.slice x.pA x.pn x.pc,.slice x.vA x.vn x.vc,.slice x.rA x.rn x.rc,.int .i64 x.v.round,.int .i64 x.v.mt.n,.int .u64 (x.v.mt.s:Int),.int .u64 (x.v.mt.l:Int),.int .u64 (x.v.mt.m:Int)]
def obA(x:Oh):Array Value:=#[.string x.v.name,.int .i64 x.v.kind,.int .i64 x.v.cap,.slice x.pA x.pn x.pc,.slice x.vA x.vn x.vc,.slice x.rA x.rn x.rc,.int .i64 x.v.round,.int .i64 x.v.mt.n,.int .u64 (x.v.mt.s:Int),.int .u64 (x.v.mt.l:Int),.int .u64 (x.v.mt.m:Int)]
def ohZ:Oh:=⟨⟨⟨#[]⟩,0,0,[],[],[],0,Mt.zero⟩,none,0,0,none,0,0,none,0,0⟩
theorem info_obl:(Tryz.prog.info? 60).map (fun i=>(i.zero,i.size,i.bytes))=some (some (Value.agg (obA ohZ)),11,144):=by kernel_rfl
theorem info_ob:(Tryz.prog.info? 60).map (·.size)=some 11:=by kernel_rfl
def obLay:Lay Tryz.prog Oh where
 t:=22
 e:=60
 k:=11
 bytes:=144
 z:=.agg (obA ohZ)
 f:=obL
 len:=fun _=>rfl
 one:=fun x u hu=>by
  unfold obL at hu
  simp only[List.mem_cons,List.not_mem_nil,or_false] at hu
  rcases hu with rfl|rfl|rfl|rfl|rfl|rfl|rfl|rfl|rfl|rfl|rfl<;>rfl
 und:=Tryz.underlying22
 info:=info_obl
 zs:=rfl
 pos:=by decide
 small:=by decide
theorem info_obs:(Tryz.prog.info? 22).map (fun i=>(i.zero,i.size))=some (some (Value.slice none 0 0),1):=by kernel_rfl
def obNest:Nest obLay where
 tt:=187
 und:=Tryz.underlying187
 info:=info_obs
def oF(_:Oh):Prop:=True
structure In(w:World)(x:Oh):Prop where
 p:Sl w x.pA x.pn x.pc x.v.prs
 v:Sls vaLay vF w x.vA x.vn x.vc x.v.vals
 r:Sls rfLay rF w x.rA x.rn x.rc x.v.refs
 m:Mt.Fit x.v.mt
 d:x.v.round≤9223372036854775807
theorem In.later{w w':World}{x:Oh}(h:In w x)(hb:Below w.heap.size w w'):In w' x:=⟨h.p.later hb,h.v.later hb,h.r.later hb,h.m,h.d⟩
structure Obs(w:World)(A:Option Addr)(n c:Nat)(l:List Oh):Prop where
 s:Sls obLay oF w A n c l
 i:∀x∈l,In w x
def vs(l:List Oh):List Sto.Ob:=l.map (·.v)
theorem vs_len(l:List Oh):(vs l).length=l.length:=List.length_map ..
theorem vs_get{l:List Oh}{i:Nat}{x:Oh}(h:l[i]?=some x):(vs l)[i]?=some x.v:=by
 unfold vs
 rw[List.getElem?_map,h];rfl
theorem Obs.later{w w':World}{A:Option Addr}{n c:Nat}{l:List Oh}(h:Obs w A n c l)(hb:Below w.heap.size w w'):Obs w' A n c l:=⟨h.s.later hb,fun x hx=>(h.i x hx).later hb⟩
theorem Obs.none(w:World):Obs w none 0 0 []:=⟨Sls.none w,fun x hx=>by simp at hx⟩
theorem Obs.len{w:World}{A:Option Addr}{n c:Nat}{l:List Oh}(h:Obs w A n c l):l.length=n:=h.s.len
theorem Obs.take{w:World}{A:Option Addr}{n c:Nat}{l:List Oh}(h:Obs w A n c l){hi:Nat}(h2:hi≤n):Obs w A hi c (l.take hi):=⟨h.s.take h2,fun x hx=>h.i x (List.mem_of_mem_take hx)⟩
theorem Obs.drop{w:World}{A:Option Addr}{n c:Nat}{l:List Oh}(h:Obs w A n c l){lo:Nat}(h2:lo≤n):Obs w (subA 11 A lo c) (n-lo) (c-lo) (l.drop lo):=⟨h.s.drop h2,fun x hx=>h.i x (List.mem_of_mem_drop hx)⟩
theorem Obs.sub{w:World}{A:Option Addr}{n c:Nat}{l:List Oh}(h:Obs w A n c l){lo hi:Nat}(h1:lo≤hi)(h2:hi≤n):Obs w (subA 11 A lo c) (hi-lo) (c-lo) ((l.drop lo).take (hi-lo)):=⟨h.s.sub h1 h2,fun x hx=>h.i x (List.mem_of_mem_drop (List.mem_of_mem_take hx))⟩
theorem Obs.get{w:World}{A:Option Addr}{n c:Nat}{l:List Oh}(h:Obs w A n c l){k:Nat}(hk:k<n):∃x,l[k]?=some x∧In w x:=by
 obtain⟨x,hx,_⟩:=h.s.get hk
 exact⟨x,hx,h.i x (List.mem_of_getElem? hx)⟩
def Oh.sp(x:Oh)(A:Option Addr)(n c:Nat)(l:List Dct.Pr):Oh:=⟨{ x.v with prs:=l },A,n,c,x.vA,x.vn,x.vc,x.rA,x.rn,x.rc⟩
def Oh.sv(x:Oh)(A:Option Addr)(n c:Nat)(l:List Val.V):Oh:=⟨{ x.v with vals:=l },x.pA,x.pn,x.pc,A,n,c,x.rA,x.rn,x.rc⟩
def Oh.sr(x:Oh)(A:Option Addr)(n c:Nat)(l:List Rf):Oh:=⟨{ x.v with refs:=l },x.pA,x.pn,x.pc,x.vA,x.vn,x.vc,A,n,c⟩
def Oh.sd(x:Oh)(d:Int):Oh:=⟨{ x.v with round:=d },x.pA,x.pn,x.pc,x.vA,x.vn,x.vc,x.rA,x.rn,x.rc⟩
def Oh.sm(x:Oh)(m:Mtr):Oh:=⟨{ x.v with mt:=m },x.pA,x.pn,x.pc,x.vA,x.vn,x.vc,x.rA,x.rn,x.rc⟩
section
variable {w:World}{x:Oh}{A:Option Addr}{n c:Nat}
theorem In.sp(h:In w x){l:List Dct.Pr}(hs:Sl w A n c l):In w (x.sp A n c l):=⟨hs,h.v,h.r,h.m,h.d⟩
theorem In.sv(h:In w x){l:List Val.V}(hs:Sls vaLay vF w A n c l):In w (x.sv A n c l):=⟨h.p,hs,h.r,h.m,h.d⟩
theorem In.sr(h:In w x){l:List Rf}(hs:Sls rfLay rF w A n c l):In w (x.sr A n c l):=⟨h.p,h.v,hs,h.m,h.d⟩
theorem In.sd(h:In w x){d:Int}(hd:d≤9223372036854775807):In w (x.sd d):=⟨h.p,h.v,h.r,h.m,hd⟩
theorem In.sm(h:In w x){m:Mtr}(hm:Mt.Fit m):In w (x.sm m):=⟨h.p,h.v,h.r,hm,h.d⟩
end
theorem info_pr1:(Tryz.prog.info? 54).map (·.size)=some 1:=by kernel_rfl
theorem info_va1:(Tryz.prog.info? 55).map (·.size)=some 1:=by kernel_rfl
theorem info_rf1:(Tryz.prog.info? 56).map (·.size)=some 1:=by kernel_rfl
section
variable {b0:Nat}{w0 w:World}{L:List (Nat×TypeId×Array Value)}{R:List RowE}{ops:Array Oper}{rest:List Oper}{o:Oper}{a:Act}{Q:Exit→Act→World→Prop}{K:Act→World→Prop}{E:Prop}{g:Nat}{x y:Oh}
theorem kob(HK:Hid (Kn b0 w0 w L R))(i:Nat)(p:Operand)(ho:o.op=.load 60 p)(hL:L[i]?=some (g,60,obA x))(hx:a.eval p=.pointer (some ⟨g,0,none⟩)):
  (execOp a.eval o).run Tryz.prog w=.ok (.value (.agg (obA x))) w:=
 kexec_ls HK _ p ho i hL hx (obA x) (fun j _=>by rw[Nat.zero_add]) Tryz.underlying60 info_ob
theorem kob_n(HK:Hid (Kn b0 w0 w L R))(i:Nat)(p:Operand)(ho:o.op=.load 9 p)(hL:L[i]?=some (g,60,obA x))(hx:a.eval p=.pointer (some ⟨g,0,none⟩)):
  (execOp a.eval o).run Tryz.prog w=.ok (.value (.string x.v.name)) w:=kexec_lc HK _ p ho i hL hx rfl Tryz.underlying9 rfl
theorem kob_k(HK:Hid (Kn b0 w0 w L R))(i:Nat)(p:Operand)(ho:o.op=.load 3 p)(hL:L[i]?=some (g,60,obA x))(hx:a.eval p=.pointer (some ⟨g,1,none⟩)):
  (execOp a.eval o).run Tryz.prog w=.ok (.value (.int .i64 x.v.kind)) w:=kexec_lc HK _ p ho i hL hx rfl Tryz.underlying3 rfl
theorem kob_c(HK:Hid (Kn b0 w0 w L R))(i:Nat)(p:Operand)(ho:o.op=.load 3 p)(hL:L[i]?=some (g,60,obA x))(hx:a.eval p=.pointer (some ⟨g,2,none⟩)):
  (execOp a.eval o).run Tryz.prog w=.ok (.value (.int .i64 x.v.cap)) w:=kexec_lc HK _ p ho i hL hx rfl Tryz.underlying3 rfl
theorem kob_p(HK:Hid (Kn b0 w0 w L R))(i:Nat)(p:Operand)(ho:o.op=.load 54 p)(hL:L[i]?=some (g,60,obA x))(hx:a.eval p=.pointer (some ⟨g,3,none⟩)):
  (execOp a.eval o).run Tryz.prog w=.ok (.value (.slice x.pA x.pn x.pc)) w:=kexec_lc HK _ p ho i hL hx rfl Tryz.underlying54 rfl
theorem kob_v(HK:Hid (Kn b0 w0 w L R))(i:Nat)(p:Operand)(ho:o.op=.load 55 p)(hL:L[i]?=some (g,60,obA x))(hx:a.eval p=.pointer (some ⟨g,4,none⟩)):
  (execOp a.eval o).run Tryz.prog w=.ok (.value (.slice x.vA x.vn x.vc)) w:=kexec_lc HK _ p ho i hL hx rfl Tryz.underlying55 rfl
theorem kob_r(HK:Hid (Kn b0 w0 w L R))(i:Nat)(p:Operand)(ho:o.op=.load 56 p)(hL:L[i]?=some (g,60,obA x))(hx:a.eval p=.pointer (some ⟨g,5,none⟩)):
  (execOp a.eval o).run Tryz.prog w=.ok (.value (.slice x.rA x.rn x.rc)) w:=kexec_lc HK _ p ho i hL hx rfl Tryz.underlying56 rfl
theorem kob_d(HK:Hid (Kn b0 w0 w L R))(i:Nat)(p:Operand)(ho:o.op=.load 3 p)(hL:L[i]?=some (g,60,obA x))(hx:a.eval p=.pointer (some ⟨g,6,none⟩)):
  (execOp a.eval o).run Tryz.prog w=.ok (.value (.int .i64 x.v.round)) w:=kexec_lc HK _ p ho i hL hx rfl Tryz.underlying3 rfl
theorem kob_mn(HK:Hid (Kn b0 w0 w L R))(i:Nat)(p:Operand)(ho:o.op=.load 3 p)(hL:L[i]?=some (g,60,obA x))(hx:a.eval p=.pointer (some ⟨g,7,none⟩)):
  (execOp a.eval o).run Tryz.prog w=.ok (.value (.int .i64 x.v.mt.n)) w:=kexec_lc HK _ p ho i hL hx rfl Tryz.underlying3 rfl
theorem kob_m(HK:Hid (Kn b0 w0 w L R))(i:Nat)(p:Operand)(ho:o.op=.load 58 p)(hL:L[i]?=some (g,60,obA x))(hx:a.eval p=.pointer (some ⟨g,7,none⟩)):
  (execOp a.eval o).run Tryz.prog w=.ok (.value (.agg #[.int .i64 x.v.mt.n,.int .u64 (x.v.mt.s:Int),.int .u64 (x.v.mt.l:Int),.int .u64 (x.v.mt.m:Int)])) w:=
 kexec_ls HK _ p ho i hL hx #[.int .i64 x.v.mt.n,.int .u64 (x.v.mt.s:Int),.int .u64 (x.v.mt.l:Int),.int .u64 (x.v.mt.m:Int)] (fun j hj=>by
  match j,hj with
  | 0,_|1,_|2,_|3,_=>rfl) Tryz.underlying58 info_m4
theorem wpList_aob(HK:Hid (Kn b0 w0 w L R))(hgd:o.guard=none)(ho:o.op=.alloc 60)
  (h:∀w' g,Hid (Kn b0 w0 w' (L++[(g,60,obA ohZ)]) R)→wpList Tryz.prog ops Q rest (a.put o.dst (.pointer (some ⟨g,0,none⟩))) w'):wpList Tryz.prog ops Q (o::rest) a w:=
 wpList_ak obLay HK hgd ho h
theorem wpList_sob(HK:Hid (Kn b0 w0 w L R))(i:Nat)(hgd:o.guard=none)(p q:Operand)(ho:o.op=.store 60 p q)(hL:L[i]?=some (g,60,obA x))(hx:a.eval p=.pointer (some ⟨g,0,none⟩))(hy:a.eval q=.agg (obA y))
  (h:∀w',Hid (Kn b0 w0 w' (L.set i (g,60,obA y)) R)→wpList Tryz.prog ops Q rest (a.put o.dst undef) w'):wpList Tryz.prog ops Q (o::rest) a w:=
 wpList_st obLay (p2:=y) HK i hgd p q ho hL rfl hx hy h
theorem wpList_sop(HK:Hid (Kn b0 w0 w L R))(i:Nat)(hgd:o.guard=none)(p q:Operand)(ho:o.op=.store 54 p q)(hL:L[i]?=some (g,60,obA x))(hx:a.eval p=.pointer (some ⟨g,3,none⟩)){A:Option Addr}{n c:Nat}(hy:a.eval q=.slice A n c)(l:List Dct.Pr)
  (h:∀w',Hid (Kn b0 w0 w' (L.set i (g,60,obA (x.sp A n c l))) R)→wpList Tryz.prog ops Q rest (a.put o.dst undef) w'):wpList Tryz.prog ops Q (o::rest) a w:=
 wpList_sc HK i hgd _ p q ho hL hx hy rfl rfl (by show 3<11;decide) info_pr1 fun w' h1 _=>h w' h1
theorem wpList_sov(HK:Hid (Kn b0 w0 w L R))(i:Nat)(hgd:o.guard=none)(p q:Operand)(ho:o.op=.store 55 p q)(hL:L[i]?=some (g,60,obA x))(hx:a.eval p=.pointer (some ⟨g,4,none⟩)){A:Option Addr}{n c:Nat}(hy:a.eval q=.slice A n c)(l:List Val.V)
  (h:∀w',Hid (Kn b0 w0 w' (L.set i (g,60,obA (x.sv A n c l))) R)→wpList Tryz.prog ops Q rest (a.put o.dst undef) w'):wpList Tryz.prog ops Q (o::rest) a w:=
 wpList_sc HK i hgd _ p q ho hL hx hy rfl rfl (by show 4<11;decide) info_va1 fun w' h1 _=>h w' h1
theorem wpList_sor(HK:Hid (Kn b0 w0 w L R))(i:Nat)(hgd:o.guard=none)(p q:Operand)(ho:o.op=.store 56 p q)(hL:L[i]?=some (g,60,obA x))(hx:a.eval p=.pointer (some ⟨g,5,none⟩)){A:Option Addr}{n c:Nat}(hy:a.eval q=.slice A n c)(l:List Rf)
  (h:∀w',Hid (Kn b0 w0 w' (L.set i (g,60,obA (x.sr A n c l))) R)→wpList Tryz.prog ops Q rest (a.put o.dst undef) w'):wpList Tryz.prog ops Q (o::rest) a w:=
 wpList_sc HK i hgd _ p q ho hL hx hy rfl rfl (by show 5<11;decide) info_rf1 fun w' h1 _=>h w' h1
theorem wpList_sod(HK:Hid (Kn b0 w0 w L R))(i:Nat)(hgd:o.guard=none)(p q:Operand)(ho:o.op=.store 3 p q)(hL:L[i]?=some (g,60,obA x))(hx:a.eval p=.pointer (some ⟨g,6,none⟩)){d:Int}(hy:a.eval q=.int .i64 d)
  (h:∀w',Hid (Kn b0 w0 w' (L.set i (g,60,obA (x.sd d))) R)→wpList Tryz.prog ops Q rest (a.put o.dst undef) w'):wpList Tryz.prog ops Q (o::rest) a w:=
 wpList_sc HK i hgd _ p q ho hL hx hy rfl rfl (by show 6<11;decide) info_i1 fun w' h1 _=>h w' h1
theorem wpList_som(HK:Hid (Kn b0 w0 w L R))(i:Nat)(hgd:o.guard=none)(p q:Operand)(ho:o.op=.store 58 p q)(hL:L[i]?=some (g,60,obA x))(hx:a.eval p=.pointer (some ⟨g,7,none⟩)){m:Mtr}(hy:a.eval q=.agg #[.int .i64 m.n,.int .u64 (m.s:Int),.int .u64 (m.l:Int),.int .u64 (m.m:Int)])
  (h:∀w',Hid (Kn b0 w0 w' (L.set i (g,60,obA (x.sm m))) R)→wpList Tryz.prog ops Q rest (a.put o.dst undef) w'):wpList Tryz.prog ops Q (o::rest) a w:=
 wpList_ss HK i hgd _ p q ho hL hx hy (by show 7+4≤11;decide) info_m4 (by simp[Value.oneCell']) fun w' h1 _=>h w' (by
  have e:putCells (obA x) 7 (#[Value.int .i64 m.n,.int .u64 (m.s:Int),.int .u64 (m.l:Int),.int .u64 (m.m:Int)]:Array Value).toList=obA (x.sm m):=rfl
  rw[e] at h1
  exact h1)
end
section
variable {w:World}{o:Oper}{a:Act}{x:Oh}
theorem exec_obx{b off:Nat}(p:Operand)(ho:o.op=.load 60 p)(hx:a.eval p=.pointer (some ⟨b,off,none⟩))(hc:∀j v,(obL x)[j]?=some v→w.cell? ⟨b,off+j,none⟩=some v):
  (execOp a.eval o).run Tryz.prog w=.ok (.value (.agg (obA x))) w:=exec_slv obLay (x:=x) p ho hx Tryz.underlying60 hc
theorem exec_obn{b off:Nat}(p:Operand)(ho:o.op=.load 9 p)(hx:a.eval p=.pointer (some ⟨b,off,none⟩))(hc:∀j v,(obL x)[j]?=some v→w.cell? ⟨b,off+j,none⟩=some v):
  (execOp a.eval o).run Tryz.prog w=.ok (.value (.string x.v.name)) w:=exec_cell p ho hx (hc 0 _ rfl) Tryz.underlying9 rfl
theorem exec_obk{b off:Nat}(p:Operand)(ho:o.op=.load 3 p)(hx:a.eval p=.pointer (some ⟨b,off+1,none⟩))(hc:∀j v,(obL x)[j]?=some v→w.cell? ⟨b,off+j,none⟩=some v):
  (execOp a.eval o).run Tryz.prog w=.ok (.value (.int .i64 x.v.kind)) w:=exec_cell p ho hx (hc 1 _ rfl) Tryz.underlying3 rfl
theorem exec_obr{b off:Nat}(p:Operand)(ho:o.op=.load 56 p)(hx:a.eval p=.pointer (some ⟨b,off+5,none⟩))(hc:∀j v,(obL x)[j]?=some v→w.cell? ⟨b,off+j,none⟩=some v):
  (execOp a.eval o).run Tryz.prog w=.ok (.value (.slice x.rA x.rn x.rc)) w:=exec_cell p ho hx (hc 5 _ rfl) Tryz.underlying56 rfl
theorem exec_ixo{b off n c i:Nat}(q r:Operand)(ho:o.op=.indexAddr 22 q r)(hx:a.eval q=.slice (some ⟨b,off,none⟩) n c)(hq:a.eval r=.int .i64 (i:Int))(h:i<n):
  (execOp a.eval o).run Tryz.prog w=.ok (.value (.pointer (some ⟨b,off+i*11,none⟩))) w:=exec_slx obLay q r ho hx hq h
end
def ocA(x:Oh)(p:Sto.Rp)(t:Bool)(A:Option Addr)(n c:Nat):Array Value:=#[.string x.v.name,.int .i64 x.v.kind,.int .i64 x.v.cap,.slice x.pA x.pn x.pc,.slice x.vA x.vn x.vc,.slice x.rA x.rn x.rc,.int .i64 x.v.round,.int .i64 x.v.mt.n,.int .u64 (x.v.mt.s:Int),.int .u64 (x.v.mt.l:Int),.int .u64 (x.v.mt.m:Int),.int .i64 p.e,.int .i64 p.v.k,.int .i64 p.v.n,.int .u64 (p.v.f:Int),.string p.v.s,.bool t,.slice A n c]
theorem info_oc:(Tryz.prog.info? 158).map (·.size)=some 18:=by kernel_rfl
section
variable {w:World}{o:Oper}{a:Act}{x:Oh}{p:Sto.Rp}{t:Bool}{A:Option Addr}{n c:Nat}
theorem exec_b2(q r:Operand)(ho:o.op=.build 158 #[(0,q),(1,r)])(hq:a.eval q=.agg (obA x))(hr:a.eval r=.agg (rpA p)):
  (execOp a.eval o).run Tryz.prog w=.ok (.value (.agg (ocA x p false none 0 0))) w:=by
 have h:(Instr.build 158 #[(0,.agg (obA x)),(1,.agg (rpA p))]).run Tryz.prog w=.ok (.agg (ocA x p false none 0 0)) w:=by
  unfold obA rpA ocA
  go_simp
 unfold execOp
 simp only[ho,Sem.run_bind,Sem.run_pure,Result.andThen_ok,List.map_toArray,List.map_cons,List.map_nil,hq,hr,h]
theorem exec_b3(q r s:Operand)(ho:o.op=.build 158 #[(0,q),(1,r),(2,s)])(hq:a.eval q=.agg (obA x))(hr:a.eval r=.agg (rpA p))(hs:a.eval s=.bool t):
  (execOp a.eval o).run Tryz.prog w=.ok (.value (.agg (ocA x p t none 0 0))) w:=by
 have h:(Instr.build 158 #[(0,.agg (obA x)),(1,.agg (rpA p)),(2,.bool t)]).run Tryz.prog w=.ok (.agg (ocA x p t none 0 0)) w:=by
  unfold obA rpA ocA
  go_simp
 unfold execOp
 simp only[ho,Sem.run_bind,Sem.run_pure,Result.andThen_ok,List.map_toArray,List.map_cons,List.map_nil,hq,hr,hs,h]
theorem exec_b4(q r s:Operand)(ho:o.op=.build 158 #[(0,q),(1,r),(3,s)])(hq:a.eval q=.agg (obA x))(hr:a.eval r=.agg (rpA p))(hs:a.eval s=.slice A n c):
  (execOp a.eval o).run Tryz.prog w=.ok (.value (.agg (ocA x p false A n c))) w:=by
 have h:(Instr.build 158 #[(0,.agg (obA x)),(1,.agg (rpA p)),(3,.slice A n c)]).run Tryz.prog w=.ok (.agg (ocA x p false A n c)) w:=by
  unfold obA rpA ocA
  go_simp
 unfold execOp
 simp only[ho,Sem.run_bind,Sem.run_pure,Result.andThen_ok,List.map_toArray,List.map_cons,List.map_nil,hq,hr,hs,h]
end
end
end Go.Proofs.YtddpmlcpfmmbeaaGreat
