/- What a command does, by the document's place of its name: the ways through, pure. No condition but those named. -/
import Derived.Test.YtieoeendnccafaaGreatNAH
set_option linter.unusedSimpArgs false
set_option linter.unusedVariables false
set_option maxRecDepth 100000
set_option maxHeartbeats 25600000
open Go.RowKit
namespace Go.Proofs.YtieoeendnccafaaGreat
open _root_.Go.Proofs.Tryz
section
open Go.ChangeShapes Go.WideShapes Go.Deep Go.RowKit
def mC(n:Int)(s l m:Nat):Array Value:=#[.int .i64 n,.int .u64 (s:Int),.int .u64 (l:Int),.int .u64 (m:Int)]
def VR(n:Int)(s l m:Nat):Array Value:=#[.int .i64 1,.int .i64 n,.int .u64 0,.string ⟨#[]⟩,.int .i64 2,.int .i64 0,.int .u64 (s:Int),.string ⟨#[]⟩,.int .i64 2,.int .i64 0,.int .u64 (l:Int),.string ⟨#[]⟩,.int .i64 2,.int .i64 0,.int .u64 (m:Int),.string ⟨#[]⟩]
def zrC:Array Value:=#[.int .i64 0,.int .i64 0,.int .u64 0,.string ⟨#[]⟩,.int .i64 0,.int .i64 0,.int .u64 0,.string ⟨#[]⟩,.int .i64 0,.int .i64 0,.int .u64 0,.string ⟨#[]⟩,.int .i64 0,.int .i64 0,.int .u64 0,.string ⟨#[]⟩]
theorem wJ:(prog.info? 61).map (·.size)=some 4:=by kernel_rfl
theorem LU(n:Int)(s l m:Nat)(w:World):
  Calls prog 210 #[.agg #[.int .i64 n,.int .u64 (s:Int),.int .u64 (l:Int),.int .u64 (m:Int)]] w (fun e w'=>e=.returned (.agg (VR n s l m))∧Below w.heap.size w w'):=
 (RN n s l m w).mono fun e w' ⟨h1,h2⟩=>⟨h1,by subst h2;go_grown⟩
section
variable {b0:Nat}{w0 w:World}{L:List (Nat×TypeId×Array Value)}{R:List dA}{ops:Array Oper}{rest:List Oper}{o:Oper}{a:Act}{Q:Exit→Act→World→Prop}{K:Act→World→Prop}{E:Prop}{g:Nat}{n n2:Int}{s l m s2 l2 m2:Nat}
theorem qH(HK:Hid (Kn b0 w0 w L R))
  (h:∀w' g,Hid (Kn b0 w0 w' (L++[(g,248,zrC)]) R)→wpList prog ops Q rest (a.put o.dst (.pointer (some ⟨g,0,none⟩))) w') (hgd:o.guard=none:=by rfl)(ho:o.op=.alloc 248:=by rfl):wpList prog ops Q (o::rest) a w:=
 wpList_plain hgd fun K hK=>by
  have h4:=h _ w.heap.size (zH (HK.out.alloc _ _));unfold Oper.wp execOp;simp only[ho];unfold zrC at h4;go_simp;exact hK _ _ h4
theorem Ud(HK:Hid (Kn b0 w0 w L R))(i:Nat)(p q:Operand)(ho:o.op=.store 61 p q)(hL:L[i]?=some (g,61,mC n s l m))(hx:a.eval p=.pointer (some ⟨g,0,none⟩))(hy:a.eval q=.agg #[.int .i64 n2,.int .u64 (s2:Int),.int .u64 (l2:Int),.int .u64 (m2:Int)])
  (h:∀w',Hid (Kn b0 w0 w' (L.set i (g,61,mC n2 s2 l2 m2)) R)→K (a.put o.dst undef) w'):o.wp prog a w K Q:=
 kM HK p q ho i hL hx hy (by show 4≤4;decide) wJ (by simp[Value.oneCell']) fun w' h1 _=>h w' (by
  have e:putCells (mC n s l m) 0 (#[Value.int .i64 n2,.int .u64 (s2:Int),.int .u64 (l2:Int),.int .u64 (m2:Int)]:Array Value).toList=mC n2 s2 l2 m2:=by
   show putCells (mC n s l m) 0 (mC n2 s2 l2 m2).toList=mC n2 s2 l2 m2
   rw[dJ (vs:=(mC n2 s2 l2 m2).toList) (cs:=mC n s l m),Array.toArray_toList]
  rw[e] at h1
  exact h1)
theorem jZ(HK:Hid (Kn b0 w0 w L R))(i:Nat){p:Operand}{q:Operand}
  (h:∀w',Hid (Kn b0 w0 w' (L.set i (g,61,mC n2 s2 l2 m2)) R)→wpList prog ops Q rest (a.put o.dst undef) w') (hgd:o.guard=none:=by rfl)(ho:o.op=.store 61 p q:=by rfl)(hL:L[i]?=some (g,61,mC n s l m):=by rfl)(hx:a.eval p=.pointer (some ⟨g,0,none⟩):=by rfl)(hy:a.eval q=.agg #[.int .i64 n2,.int .u64 (s2:Int),.int .u64 (l2:Int),.int .u64 (m2:Int)]:=by rfl):wpList prog ops Q (o::rest) a w:=
 wpList_plain hgd fun _ hK=>Ud HK i p q ho hL hx hy fun w' h1=>hK _ _ (h w' h1)
theorem LX(HK:Hid (Kn b0 w0 w L R))(i:Nat){p:Operand}{q:Operand}
  (h:∀w',Hid (Kn b0 w0 w' (L.set i (g,61,mC n2 s2 l2 m2)) R)→K (a.put o.dst undef) w') (hgd:o.guard=none:=by rfl)(ho:o.op=.store 61 p q:=by rfl)(hL:L[i]?=some (g,61,mC n s l m):=by rfl)(hx:a.eval p=.pointer (some ⟨g,0,none⟩):=by rfl)(hy:a.eval q=.agg #[.int .i64 n2,.int .u64 (s2:Int),.int .u64 (l2:Int),.int .u64 (m2:Int)]:=by rfl):if Region.wanted o (yielded ops a.tmps)=true then Oper.wp prog o a w K Q else E:=by
 rw[if_pos (by simp[Region.wanted,hgd])];exact Ud HK i p q ho hL hx hy h
theorem tL(HK:Hid (Kn b0 w0 w L R))(i:Nat){p:Operand}{q:Operand}
  (h:∀w',Hid (Kn b0 w0 w' (L.set i (g,248,VR n s l m)) R)→wpList prog ops Q rest (a.put o.dst undef) w') (hgd:o.guard=none:=by rfl)(ho:o.op=.store 248 p q:=by rfl)(hL:L[i]?=some (g,248,zrC):=by rfl)(hx:a.eval p=.pointer (some ⟨g,0,none⟩):=by rfl)(hy:a.eval q=.agg (VR n s l m):=by rfl):wpList prog ops Q (o::rest) a w:=
 jJ HK i hgd p q ho hL hx hy (by show 16≤16;decide) MP (h1:=(by simp[VR,Value.oneCell'])) fun w' h1 _=>h w' (by
  have e:putCells zrC 0 (VR n s l m).toList=VR n s l m:=by
   rw[dJ (vs:=(VR n s l m).toList) (cs:=zrC),Array.toArray_toList]
  rw[e] at h1
  exact h1)
theorem bB(HK:Hid (Kn b0 w0 w L R))(i:Nat){x:Operand}(ho:o.op=.load 61 x:=by rfl)(hL:L[i]?=some (g,61,mC n s l m):=by rfl)(hx:a.eval x=.pointer (some ⟨g,0,none⟩):=by rfl):
  (execOp a.eval o).run prog w=.ok (.value (.agg #[.int .i64 n,.int .u64 (s:Int),.int .u64 (l:Int),.int .u64 (m:Int)])) w:=
 dU HK x ho i hL hx (mC n s l m) (fun j _=>by rw[Nat.zero_add]) underlying61 wJ
theorem bX(HK:Hid (Kn b0 w0 w L R))(i:Nat){x:Operand}(ho:o.op=.load 3 x:=by rfl)(hL:L[i]?=some (g,61,mC n s l m):=by rfl)(hx:a.eval x=.pointer (some ⟨g,0,none⟩):=by rfl):
  (execOp a.eval o).run prog w=.ok (.value (.int .i64 n)) w:=
 aV HK 3 x ho i hL hx (v:=.int .i64 n) underlying3
theorem fQ(HK:Hid (Kn b0 w0 w L R))(i:Nat){x:Operand}(ho:o.op=.load 24 x:=by rfl)(hL:L[i]?=some (g,61,mC n s l m):=by rfl)(hx:a.eval x=.pointer (some ⟨g,1,none⟩):=by rfl):
  (execOp a.eval o).run prog w=.ok (.value (.int .u64 (s:Int))) w:=
 aV HK 24 x ho i hL hx (v:=.int .u64 (s:Int)) underlying24
theorem fZ(HK:Hid (Kn b0 w0 w L R))(i:Nat){x:Operand}(ho:o.op=.load 24 x:=by rfl)(hL:L[i]?=some (g,61,mC n s l m):=by rfl)(hx:a.eval x=.pointer (some ⟨g,2,none⟩):=by rfl):
  (execOp a.eval o).run prog w=.ok (.value (.int .u64 (l:Int))) w:=
 aV HK 24 x ho i hL hx (v:=.int .u64 (l:Int)) underlying24
theorem gV(HK:Hid (Kn b0 w0 w L R))(i:Nat){x:Operand}(ho:o.op=.load 24 x:=by rfl)(hL:L[i]?=some (g,61,mC n s l m):=by rfl)(hx:a.eval x=.pointer (some ⟨g,3,none⟩):=by rfl):
  (execOp a.eval o).run prog w=.ok (.value (.int .u64 (m:Int))) w:=
 aV HK 24 x ho i hL hx (v:=.int .u64 (m:Int)) underlying24
theorem wI(HK:Hid (Kn b0 w0 w L R))(i:Nat){x:Operand}(ho:o.op=.load 26 x:=by rfl)(hL:L[i]?=some (g,248,VR n s l m):=by rfl)(hx:a.eval x=.pointer (some ⟨g,4,none⟩):=by rfl):
  (execOp a.eval o).run prog w=.ok (.value (.agg #[.int .i64 2,.int .i64 0,.int .u64 (s:Int),.string ⟨#[]⟩])) w:=
 dU HK x ho i hL hx #[.int .i64 2,.int .i64 0,.int .u64 (s:Int),.string ⟨#[]⟩] (fun j hj=>by
  match j,hj with
  | 0,_=>rfl
  | 1,_=>rfl
  | 2,_=>rfl
  | 3,_=>rfl) underlying26 iT
theorem AZ(HK:Hid (Kn b0 w0 w L R))(i:Nat){x:Operand}(ho:o.op=.load 26 x:=by rfl)(hL:L[i]?=some (g,248,VR n s l m):=by rfl)(hx:a.eval x=.pointer (some ⟨g,8,none⟩):=by rfl):
  (execOp a.eval o).run prog w=.ok (.value (.agg #[.int .i64 2,.int .i64 0,.int .u64 (l:Int),.string ⟨#[]⟩])) w:=
 dU HK x ho i hL hx #[.int .i64 2,.int .i64 0,.int .u64 (l:Int),.string ⟨#[]⟩] (fun j hj=>by
  match j,hj with
  | 0,_=>rfl
  | 1,_=>rfl
  | 2,_=>rfl
  | 3,_=>rfl) underlying26 iT
theorem Ho(HK:Hid (Kn b0 w0 w L R))(i:Nat){x:Operand}(ho:o.op=.load 26 x:=by rfl)(hL:L[i]?=some (g,248,VR n s l m):=by rfl)(hx:a.eval x=.pointer (some ⟨g,12,none⟩):=by rfl):
  (execOp a.eval o).run prog w=.ok (.value (.agg #[.int .i64 2,.int .i64 0,.int .u64 (m:Int),.string ⟨#[]⟩])) w:=
 dU HK x ho i hL hx #[.int .i64 2,.int .i64 0,.int .u64 (m:Int),.string ⟨#[]⟩] (fun j hj=>by
  match j,hj with
  | 0,_=>rfl
  | 1,_=>rfl
  | 2,_=>rfl
  | 3,_=>rfl) underlying26 iT
theorem fA{k:Int}{f:Nat}{t:ByteArray}(HK:Hid (Kn b0 w0 w L R))(i:Nat){x:Operand}(ho:o.op=.load 24 x:=by rfl)(hL:L[i]?=some (g,26,vC k n f t):=by rfl)(hx:a.eval x=.pointer (some ⟨g,2,none⟩):=by rfl):
  (execOp a.eval o).run prog w=.ok (.value (.int .u64 (f:Int))) w:=
 aV HK 24 x ho i hL hx (v:=.int .u64 (f:Int)) underlying24
theorem jd{x y:Nat}{b:Bool}{p:Operand}{q:Operand}(hb:decide (x=y)=b)(ho:o.op=.binOp .eql 24 p q 24:=by rfl)(hp:a.eval p=.int .u64 (x:Int):=by rfl)(hq:a.eval q=.int .u64 (y:Int):=by rfl):
  (execOp a.eval o).run prog w=.ok (.value (.bool b)) w:=by
 have e:((x:Int)==(y:Int))=b:=by
  rw[← hb,Bool.eq_iff_iff,beq_iff_eq,decide_eq_true_eq];omega
 unfold execOp;simp only[ho,hp,hq];go_simp
theorem Bq{x y:Int}(p:Operand)(hy:IntKind.i64.wrap (x+1)=y)(ho:o.op=.binOp .add 3 p (.const (.int .i64 1)) 3:=by rfl)(hp:a.eval p=.int .i64 x:=by rfl):
  (execOp a.eval o).run prog w=.ok (.value (.int .i64 y)) w:=by
 exact Rw
theorem Mw(x y:mG):decide (x=y)=(decide (x.n=y.n)&&decide ((x.s:Int)=(y.s:Int))&&decide ((x.l:Int)=(y.l:Int))&&decide ((x.m:Int)=(y.m:Int))):=by
 obtain⟨n,s,l,m⟩:=x;obtain⟨n',s',l',m'⟩:=y;rw[Bool.eq_iff_iff];simp only[decide_eq_true_eq,Bool.and_eq_true,mG.mk.injEq,Int.natCast_inj,and_assoc]
theorem Io{x y:mG}{b:Bool}{p:Operand}{q:Operand}(hb:decide (x=y)=b)(ho:o.op=.binOp .eql 61 p q 61:=by rfl)(hx:a.eval p=.agg #[.int .i64 x.n,.int .u64 (x.s:Int),.int .u64 (x.l:Int),.int .u64 (x.m:Int)]:=by rfl)(hy:a.eval q=.agg #[.int .i64 y.n,.int .u64 (y.s:Int),.int .u64 (y.l:Int),.int .u64 (y.m:Int)]:=by rfl):
  (execOp a.eval o).run prog w=.ok (.value (.bool b)) w:=by
 rw[Mw] at hb;subst hb;unfold execOp;simp only[ho,hx,hy];go_simp;by_cases h1:x.n=y.n<;>by_cases h2:(x.s:Int)=(y.s:Int)<;>by_cases h3:(x.l:Int)=(y.l:Int)<;>by_cases h4:(x.m:Int)=(y.m:Int)<;>simp[h1,h2,h3,h4]
end
theorem acP(n:Int)(s l m:Nat)(w:World):(Instr.index 248 (.agg #[.int .i64 1,.int .i64 n,.int .u64 0,.string ⟨#[]⟩,.int .i64 2,.int .i64 0,.int .u64 (s:Int),.string ⟨#[]⟩,.int .i64 2,.int .i64 0,.int .u64 (l:Int),.string ⟨#[]⟩,.int .i64 2,.int .i64 0,.int .u64 (m:Int),.string ⟨#[]⟩]) (.int .i64 0)).run prog w=.ok (.agg #[.int .i64 1,.int .i64 n,.int .u64 0,.string ⟨#[]⟩]) w:=by kernel_rfl
theorem acO(n:Int)(s l m:Nat)(w:World):(Instr.index 248 (.agg #[.int .i64 1,.int .i64 n,.int .u64 0,.string ⟨#[]⟩,.int .i64 2,.int .i64 0,.int .u64 (s:Int),.string ⟨#[]⟩,.int .i64 2,.int .i64 0,.int .u64 (l:Int),.string ⟨#[]⟩,.int .i64 2,.int .i64 0,.int .u64 (m:Int),.string ⟨#[]⟩]) (.int .i64 1)).run prog w=.ok (.agg #[.int .i64 2,.int .i64 0,.int .u64 (s:Int),.string ⟨#[]⟩]) w:=by kernel_rfl
theorem acN(n:Int)(s l m:Nat)(w:World):(Instr.index 248 (.agg #[.int .i64 1,.int .i64 n,.int .u64 0,.string ⟨#[]⟩,.int .i64 2,.int .i64 0,.int .u64 (s:Int),.string ⟨#[]⟩,.int .i64 2,.int .i64 0,.int .u64 (l:Int),.string ⟨#[]⟩,.int .i64 2,.int .i64 0,.int .u64 (m:Int),.string ⟨#[]⟩]) (.int .i64 2)).run prog w=.ok (.agg #[.int .i64 2,.int .i64 0,.int .u64 (l:Int),.string ⟨#[]⟩]) w:=by kernel_rfl
theorem acM(n:Int)(s l m:Nat)(w:World):(Instr.index 248 (.agg #[.int .i64 1,.int .i64 n,.int .u64 0,.string ⟨#[]⟩,.int .i64 2,.int .i64 0,.int .u64 (s:Int),.string ⟨#[]⟩,.int .i64 2,.int .i64 0,.int .u64 (l:Int),.string ⟨#[]⟩,.int .i64 2,.int .i64 0,.int .u64 (m:Int),.string ⟨#[]⟩]) (.int .i64 3)).run prog w=.ok (.agg #[.int .i64 2,.int .i64 0,.int .u64 (m:Int),.string ⟨#[]⟩]) w:=by kernel_rfl
def QF(y:Mt.Rd)(w:World)(e:Ending)(w':World):Prop:=e=.returned (.tuple #[.agg #[.int .i64 y.k,.int .i64 y.n,.int .u64 (y.f:Int),.string ⟨#[]⟩],.int .i64 y.e])∧Below w.heap.size w w'
theorem QA(a b:Nat)(w:World)(ha:a<18446744073709551616)(hb:b<18446744073709551616):
  Calls prog 266 #[.int .u64 a,.int .u64 b] w fun e w'=>e=.returned (.int .u64 (Num.S a b:Nat))∧Below w.heap.size w w':=
 (YT a b w ha hb).mono fun e w' ⟨h1,n,h2⟩=>⟨h1,by subst h2;exact⟨rfl,rfl,rfl,Nat.le_refl _,fun _ _=>rfl⟩⟩
theorem kG(x:Nat):decide (x=x)=true:=decide_eq_true rfl
def QH(y:mG)(x:Int)(w:World)(e:Ending)(w':World):Prop:=e=.returned (.tuple #[.agg #[.int .i64 y.n,.int .u64 (y.s:Int),.int .u64 (y.l:Int),.int .u64 (y.m:Int)],.int .i64 x])∧Below w.heap.size w w'
theorem EC{fn:Func}{R:Ending→World→Prop}{a:Act}{w:World}{B:Nat}{n:Int}{s l m:Nat}{u:Value}{q q2:Tmp}(hf:fn.results=#[.cell q 61,.tmp q2])(hb:gD w B 61 (mC n s l m))
  (hR:R (.returned (.tuple #[.agg #[.int .i64 n,.int .u64 (s:Int),.int .u64 (l:Int),.int .u64 (m:Int)],u])) w) (h2:a.tmps[q]?=some (.pointer (some ⟨B,0,none⟩)):=by rfl)(h3:a.tmps[q2]?=some u:=by rfl)(hd:a.defers=[]:=by rfl):bodyPost prog fn R Exit.ret a w:=by
 refine bodyPost_ret (v:=.tuple #[.agg #[.int .i64 n,.int .u64 (s:Int),.int .u64 (l:Int),.int .u64 (m:Int)],u]) ?_ hd hR;have h:(loadVar 61 ⟨B,0,none⟩).run prog w=.ok (.agg (mC n s l m)) w:=run_loadVar_row (P:=prog) w B _ _ _ (0,0) _ hb underlying61 rfl wJ;unfold mC at h;simp[results,hf,asAddr,Sem.run_bind,h2,h3,h]
theorem EB{fn:Func}{R:Ending→World→Prop}{a:Act}{w:World}{B:Nat}{k n:Int}{f:Nat}{s:ByteArray}{u:Value}{q q2:Tmp}(hf:fn.results=#[.cell q 26,.tmp q2])(hb:gD w B 26 (vC k n f s))
  (hR:R (.returned (.tuple #[.agg #[.int .i64 k,.int .i64 n,.int .u64 (f:Int),.string s],u])) w) (h2:a.tmps[q]?=some (.pointer (some ⟨B,0,none⟩)):=by rfl)(h3:a.tmps[q2]?=some u:=by rfl)(hd:a.defers=[]:=by rfl):bodyPost prog fn R Exit.ret a w:=by
 exact aeu
def mL(x:mG):List Value:=[.int .i64 x.n,.int .u64 (x.s:Int),.int .u64 (x.l:Int),.int .u64 (x.m:Int)]
section
variable {H:Type}{enc:TypeId×Value→H}{W:World}{base:Nat}
theorem VH:prog.cellsOf 61=4:=by kernel_rfl
theorem GJ:nY enc 61 mL Mt.Fit:=fun W n cs x ht=>by
 obtain⟨ys,m,_,hx,hlen,hyl,hf⟩:=DataW.trod_struct underlying61 ht;have hlen:cs.length=prog.cellsOf 61:=hlen;rw[VH] at hlen
 match cs,hlen,ys,hyl with
 | [v0,v1,v2,v3],_,[y0,y1,y2,y3],_=>
  have f0:=hf 0 _ rfl;have f1:=hf 1 _ rfl;have f2:=hf 2 _ rfl;have f3:=hf 3 _ rfl;simp only[List.getElem?_cons_zero,List.getElem?_cons_succ] at f0 f1 f2 f3;obtain⟨a0,e0,_,w0⟩:=DataW.trod_int underlying3 f0;obtain⟨a1,e1,_,w1⟩:=DataW.trod_int underlying24 f1;obtain⟨a2,e2,_,w2⟩:=DataW.trod_int underlying24 f2;obtain⟨a3,e3,_,w3⟩:=DataW.trod_int underlying24 f3;cases e0;cases e1;cases e2;cases e3;obtain⟨u1,rfl,hu1⟩:=Ep w1;obtain⟨u2,rfl,hu2⟩:=Ep w2;obtain⟨u3,rfl,hu3⟩:=Ep w3;exact⟨⟨a0,u1,u2,u3⟩,rfl,by have:=bounds_i64 w0;show a0≤_;omega,hu1,hu2,hu3⟩
end
end
section
structure Oh where
 v:av.Ob
 pA:Option Addr
 pn:Nat
 pc:Nat
 vA:Option Addr
 vn:Nat
 vc:Nat
 rA:Option Addr
 rn:Nat
 rc:Nat
def vR(x:Oh):List Value:=[.string x.v.name,.int .i64 x.v.kind,.int .i64 x.v.cap,.slice x.pA x.pn x.pc,.slice x.vA x.vn x.vc,.slice x.rA x.rn x.rc,.int .i64 x.v.round,.int .i64 x.v.mt.n,.int .u64 (x.v.mt.s:Int),.int .u64 (x.v.mt.l:Int),.int .u64 (x.v.mt.m:Int)]
def bS(x:Oh):Array Value:=#[.string x.v.name,.int .i64 x.v.kind,.int .i64 x.v.cap,.slice x.pA x.pn x.pc,.slice x.vA x.vn x.vc,.slice x.rA x.rn x.rc,.int .i64 x.v.round,.int .i64 x.v.mt.n,.int .u64 (x.v.mt.s:Int),.int .u64 (x.v.mt.l:Int),.int .u64 (x.v.mt.m:Int)]
def rU:Oh:=⟨⟨⟨#[]⟩,0,0,[],[],[],0,Mt.zero⟩,none,0,0,none,0,0,none,0,0⟩
theorem Uy:(prog.info? 63).map (fun i=>(i.zero,i.size,i.bytes))=some (some (Value.agg (bS rU)),11,144):=by kernel_rfl
theorem zI:(prog.info? 63).map (·.size)=some 11:=by kernel_rfl
def aP:Lay prog Oh where
 t:=22
 e:=63
 k:=11
 bytes:=144
 z:=.agg (bS rU)
 f:=vR
 len:=fun _=>rfl
 one:=fun x u hu=>by
  unfold vR at hu;simp only[List.mem_cons,List.not_mem_nil,or_false] at hu
  rcases hu with rfl|rfl|rfl|rfl|rfl|rfl|rfl|rfl|rfl|rfl|rfl<;>rfl
 und:=underlying22
 info:=Uy
 zs:=rfl
 pos:=by decide
 small:=by decide
theorem Ux:(prog.info? 22).map (fun i=>(i.zero,i.size))=some (some (Value.slice none 0 0),1):=by kernel_rfl
def xZ:Cn aP where
 tt:=259
 und:=underlying259
 info:=Ux
def oF(_:Oh):Prop:=True
structure In(w:World)(x:Oh):Prop where
 p:Sl w x.pA x.pn x.pc x.v.dP
 v:bJ bg vF w x.vA x.vn x.vc x.v.vals
 r:bJ aG rF w x.rA x.rn x.rc x.v.refs
 m:Mt.Fit x.v.mt
 d:x.v.round≤9223372036854775807
theorem In.later{w w':World}{x:Oh}(h:In w x)(hb:Below w.heap.size w w'):In w' x:=⟨h.p.later hb,h.v.later hb,h.r.later hb,h.m,h.d⟩
structure bY(w:World)(A:Option Addr)(n c:Nat)(l:List Oh):Prop where
 s:bJ aP oF w A n c l
 i:∀x∈l,In w x
def vs(l:List Oh):List av.Ob:=l.map (·.v)
theorem fF(l:List Oh):(vs l).length=l.length:=List.length_map ..
theorem dL{l:List Oh}{i:Nat}{x:Oh}(h:l[i]?=some x):(vs l)[i]?=some x.v:=by
 unfold vs;rw[List.getElem?_map,h];rfl
theorem bY.later{w w':World}{A:Option Addr}{n c:Nat}{l:List Oh}(h:bY w A n c l)(hb:Below w.heap.size w w'):bY w' A n c l:=⟨h.s.later hb,fun x hx=>(h.i x hx).later hb⟩
theorem bY.none(w:World):bY w none 0 0 []:=⟨bJ.none w,fun x hx=>by simp at hx⟩
theorem bY.len{w:World}{A:Option Addr}{n c:Nat}{l:List Oh}(h:bY w A n c l):l.length=n:=h.s.len
theorem bY.take{w:World}{A:Option Addr}{n c:Nat}{l:List Oh}(h:bY w A n c l){hi:Nat}(h2:hi≤n):bY w A hi c (l.take hi):=⟨h.s.take h2,fun x hx=>h.i x (List.mem_of_mem_take hx)⟩
theorem bY.drop{w:World}{A:Option Addr}{n c:Nat}{l:List Oh}(h:bY w A n c l){lo:Nat}(h2:lo≤n):bY w (uZ 11 A lo c) (n-lo) (c-lo) (l.drop lo):=⟨h.s.drop h2,fun x hx=>h.i x (List.mem_of_mem_drop hx)⟩
theorem bY.sub{w:World}{A:Option Addr}{n c:Nat}{l:List Oh}(h:bY w A n c l){lo hi:Nat}(h1:lo≤hi)(h2:hi≤n):bY w (uZ 11 A lo c) (hi-lo) (c-lo) ((l.drop lo).take (hi-lo)):=⟨h.s.sub h1 h2,fun x hx=>h.i x (List.mem_of_mem_drop (List.mem_of_mem_take hx))⟩
theorem bY.get{w:World}{A:Option Addr}{n c:Nat}{l:List Oh}(h:bY w A n c l){k:Nat}(hk:k<n):∃x,l[k]?=some x∧In w x:=by
 obtain⟨x,hx,_⟩:=h.s.get hk;exact⟨x,hx,h.i x (List.mem_of_getElem? hx)⟩
def Oh.sp(x:Oh)(A:Option Addr)(n c:Nat)(l:List aK.Pr):Oh:=⟨{ x.v with dP:=l },A,n,c,x.vA,x.vn,x.vc,x.rA,x.rn,x.rc⟩
def Oh.sv(x:Oh)(A:Option Addr)(n c:Nat)(l:List Val.V):Oh:=⟨{ x.v with vals:=l },x.pA,x.pn,x.pc,A,n,c,x.rA,x.rn,x.rc⟩
def Oh.sr(x:Oh)(A:Option Addr)(n c:Nat)(l:List Rf):Oh:=⟨{ x.v with refs:=l },x.pA,x.pn,x.pc,x.vA,x.vn,x.vc,A,n,c⟩
def Oh.sd(x:Oh)(d:Int):Oh:=⟨{ x.v with round:=d },x.pA,x.pn,x.pc,x.vA,x.vn,x.vc,x.rA,x.rn,x.rc⟩
def Oh.sm(x:Oh)(m:mG):Oh:=⟨{ x.v with mt:=m },x.pA,x.pn,x.pc,x.vA,x.vn,x.vc,x.rA,x.rn,x.rc⟩
section
variable {w:World}{x:Oh}{A:Option Addr}{n c:Nat}
theorem In.sp(h:In w x){l:List aK.Pr}(hs:Sl w A n c l):In w (x.sp A n c l):=⟨hs,h.v,h.r,h.m,h.d⟩
theorem In.sv(h:In w x){l:List Val.V}(hs:bJ bg vF w A n c l):In w (x.sv A n c l):=⟨h.p,hs,h.r,h.m,h.d⟩
theorem In.sr(h:In w x){l:List Rf}(hs:bJ aG rF w A n c l):In w (x.sr A n c l):=⟨h.p,h.v,hs,h.m,h.d⟩
theorem In.sd(h:In w x){d:Int}(hd:d≤9223372036854775807):In w (x.sd d):=⟨h.p,h.v,h.r,h.m,hd⟩
theorem In.sm(h:In w x){m:mG}(hm:Mt.Fit m):In w (x.sm m):=⟨h.p,h.v,h.r,hm,h.d⟩
end
theorem Uu:(prog.info? 57).map (·.size)=some 1:=by kernel_rfl
theorem Ul:(prog.info? 58).map (·.size)=some 1:=by kernel_rfl
theorem qb:(prog.info? 59).map (·.size)=some 1:=by kernel_rfl
section
variable {b0:Nat}{w0 w:World}{L:List (Nat×TypeId×Array Value)}{R:List dA}{ops:Array Oper}{rest:List Oper}{o:Oper}{a:Act}{Q:Exit→Act→World→Prop}{K:Act→World→Prop}{E:Prop}{g:Nat}{x y:Oh}
theorem jv(HK:Hid (Kn b0 w0 w L R))(i:Nat){p:Operand}(ho:o.op=.load 63 p:=by rfl)(hL:L[i]?=some (g,63,bS x):=by rfl)(hx:a.eval p=.pointer (some ⟨g,0,none⟩):=by rfl):
  (execOp a.eval o).run prog w=.ok (.value (.agg (bS x))) w:=
 dU HK p ho i hL hx (bS x) (fun j _=>by rw[Nat.zero_add]) underlying63 zI
theorem lW(HK:Hid (Kn b0 w0 w L R))(i:Nat){p:Operand}(ho:o.op=.load 9 p:=by rfl)(hL:L[i]?=some (g,63,bS x):=by rfl)(hx:a.eval p=.pointer (some ⟨g,0,none⟩):=by rfl):
  (execOp a.eval o).run prog w=.ok (.value (.string x.v.name)) w:=aV HK _ p ho i hL hx underlying9
theorem iM(HK:Hid (Kn b0 w0 w L R))(i:Nat){p:Operand}(ho:o.op=.load 3 p:=by rfl)(hL:L[i]?=some (g,63,bS x):=by rfl)(hx:a.eval p=.pointer (some ⟨g,1,none⟩):=by rfl):
  (execOp a.eval o).run prog w=.ok (.value (.int .i64 x.v.kind)) w:=aV HK _ p ho i hL hx underlying3
theorem jP(HK:Hid (Kn b0 w0 w L R))(i:Nat){p:Operand}(ho:o.op=.load 3 p:=by rfl)(hL:L[i]?=some (g,63,bS x):=by rfl)(hx:a.eval p=.pointer (some ⟨g,2,none⟩):=by rfl):
  (execOp a.eval o).run prog w=.ok (.value (.int .i64 x.v.cap)) w:=aV HK _ p ho i hL hx underlying3
theorem mK(HK:Hid (Kn b0 w0 w L R))(i:Nat){p:Operand}(ho:o.op=.load 57 p:=by rfl)(hL:L[i]?=some (g,63,bS x):=by rfl)(hx:a.eval p=.pointer (some ⟨g,3,none⟩):=by rfl):
  (execOp a.eval o).run prog w=.ok (.value (.slice x.pA x.pn x.pc)) w:=aV HK _ p ho i hL hx underlying57
theorem rM(HK:Hid (Kn b0 w0 w L R))(i:Nat){p:Operand}(ho:o.op=.load 58 p:=by rfl)(hL:L[i]?=some (g,63,bS x):=by rfl)(hx:a.eval p=.pointer (some ⟨g,4,none⟩):=by rfl):
  (execOp a.eval o).run prog w=.ok (.value (.slice x.vA x.vn x.vc)) w:=aV HK _ p ho i hL hx underlying58
theorem gK(HK:Hid (Kn b0 w0 w L R))(i:Nat){p:Operand}(ho:o.op=.load 59 p:=by rfl)(hL:L[i]?=some (g,63,bS x):=by rfl)(hx:a.eval p=.pointer (some ⟨g,5,none⟩):=by rfl):
  (execOp a.eval o).run prog w=.ok (.value (.slice x.rA x.rn x.rc)) w:=aV HK _ p ho i hL hx underlying59
theorem yO(HK:Hid (Kn b0 w0 w L R))(i:Nat){p:Operand}(ho:o.op=.load 3 p:=by rfl)(hL:L[i]?=some (g,63,bS x):=by rfl)(hx:a.eval p=.pointer (some ⟨g,6,none⟩):=by rfl):
  (execOp a.eval o).run prog w=.ok (.value (.int .i64 x.v.round)) w:=aV HK _ p ho i hL hx underlying3
theorem Ug(HK:Hid (Kn b0 w0 w L R))(i:Nat){p:Operand}(ho:o.op=.load 3 p:=by rfl)(hL:L[i]?=some (g,63,bS x):=by rfl)(hx:a.eval p=.pointer (some ⟨g,7,none⟩):=by rfl):
  (execOp a.eval o).run prog w=.ok (.value (.int .i64 x.v.mt.n)) w:=aV HK _ p ho i hL hx underlying3
theorem AX(HK:Hid (Kn b0 w0 w L R))(i:Nat){p:Operand}(ho:o.op=.load 61 p:=by rfl)(hL:L[i]?=some (g,63,bS x):=by rfl)(hx:a.eval p=.pointer (some ⟨g,7,none⟩):=by rfl):
  (execOp a.eval o).run prog w=.ok (.value (.agg #[.int .i64 x.v.mt.n,.int .u64 (x.v.mt.s:Int),.int .u64 (x.v.mt.l:Int),.int .u64 (x.v.mt.m:Int)])) w:=
 dU HK p ho i hL hx #[.int .i64 x.v.mt.n,.int .u64 (x.v.mt.s:Int),.int .u64 (x.v.mt.l:Int),.int .u64 (x.v.mt.m:Int)] (fun j hj=>by
  match j,hj with
  | 0,_|1,_|2,_|3,_=>rfl) underlying61 wJ
theorem gY(HK:Hid (Kn b0 w0 w L R))
  (h:∀w' g,Hid (Kn b0 w0 w' (L++[(g,63,bS rU)]) R)→wpList prog ops Q rest (a.put o.dst (.pointer (some ⟨g,0,none⟩))) w') (hgd:o.guard=none:=by rfl)(ho:o.op=.alloc 63:=by rfl):wpList prog ops Q (o::rest) a w:=
 Cx aP HK hgd ho h
theorem fD(HK:Hid (Kn b0 w0 w L R))(i:Nat){p:Operand}{q:Operand}
  (h:∀w',Hid (Kn b0 w0 w' (L.set i (g,63,bS y)) R)→wpList prog ops Q rest (a.put o.dst undef) w') (hgd:o.guard=none:=by rfl)(ho:o.op=.store 63 p q:=by rfl)(hL:L[i]?=some (g,63,bS x):=by rfl)(hx:a.eval p=.pointer (some ⟨g,0,none⟩):=by rfl)(hy:a.eval q=.agg (bS y):=by rfl):wpList prog ops Q (o::rest) a w:=
 Cw aP (p2:=y) HK i hgd p q ho hL rfl hx hy h
theorem gI(HK:Hid (Kn b0 w0 w L R))(i:Nat){p:Operand}{q:Operand}{A:Option Addr}{n c:Nat}(l:List aK.Pr)
  (h:∀w',Hid (Kn b0 w0 w' (L.set i (g,63,bS (x.sp A n c l))) R)→wpList prog ops Q rest (a.put o.dst undef) w') (hgd:o.guard=none:=by rfl)(ho:o.op=.store 57 p q:=by rfl)(hL:L[i]?=some (g,63,bS x):=by rfl)(hx:a.eval p=.pointer (some ⟨g,3,none⟩):=by rfl)(hy:a.eval q=.slice A n c:=by rfl):wpList prog ops Q (o::rest) a w:=
 pR HK i hgd p q ho hL hx hy (by show 3<11;decide) Uu fun w' h1 _=>h w' h1
theorem iP(HK:Hid (Kn b0 w0 w L R))(i:Nat){p:Operand}{q:Operand}{A:Option Addr}{n c:Nat}(l:List Val.V)
  (h:∀w',Hid (Kn b0 w0 w' (L.set i (g,63,bS (x.sv A n c l))) R)→wpList prog ops Q rest (a.put o.dst undef) w') (hgd:o.guard=none:=by rfl)(ho:o.op=.store 58 p q:=by rfl)(hL:L[i]?=some (g,63,bS x):=by rfl)(hx:a.eval p=.pointer (some ⟨g,4,none⟩):=by rfl)(hy:a.eval q=.slice A n c:=by rfl):wpList prog ops Q (o::rest) a w:=
 pR HK i hgd p q ho hL hx hy (by show 4<11;decide) Ul fun w' h1 _=>h w' h1
theorem cu(HK:Hid (Kn b0 w0 w L R))(i:Nat){p:Operand}{q:Operand}{A:Option Addr}{n c:Nat}(l:List Rf)
  (h:∀w',Hid (Kn b0 w0 w' (L.set i (g,63,bS (x.sr A n c l))) R)→wpList prog ops Q rest (a.put o.dst undef) w') (hgd:o.guard=none:=by rfl)(ho:o.op=.store 59 p q:=by rfl)(hL:L[i]?=some (g,63,bS x):=by rfl)(hx:a.eval p=.pointer (some ⟨g,5,none⟩):=by rfl)(hy:a.eval q=.slice A n c:=by rfl):wpList prog ops Q (o::rest) a w:=
 pR HK i hgd p q ho hL hx hy (by show 5<11;decide) qb fun w' h1 _=>h w' h1
theorem Ac(HK:Hid (Kn b0 w0 w L R))(i:Nat)(hgd:o.guard=none){p:Operand}{q:Operand}(ho:o.op=.store 3 p q)(hL:L[i]?=some (g,63,bS x))(hx:a.eval p=.pointer (some ⟨g,6,none⟩)){d:Int}(hy:a.eval q=.int .i64 d)
  (h:∀w',Hid (Kn b0 w0 w' (L.set i (g,63,bS (x.sd d))) R)→wpList prog ops Q rest (a.put o.dst undef) w'):wpList prog ops Q (o::rest) a w:=
 pR HK i hgd p q ho hL hx hy (by show 6<11;decide) Yl fun w' h1 _=>h w' h1
theorem Ab(HK:Hid (Kn b0 w0 w L R))(i:Nat)(hgd:o.guard=none){p:Operand}{q:Operand}(ho:o.op=.store 61 p q)(hL:L[i]?=some (g,63,bS x))(hx:a.eval p=.pointer (some ⟨g,7,none⟩)){m:mG}(hy:a.eval q=.agg #[.int .i64 m.n,.int .u64 (m.s:Int),.int .u64 (m.l:Int),.int .u64 (m.m:Int)])
  (h:∀w',Hid (Kn b0 w0 w' (L.set i (g,63,bS (x.sm m))) R)→wpList prog ops Q rest (a.put o.dst undef) w'):wpList prog ops Q (o::rest) a w:=
 jJ HK i hgd p q ho hL hx hy (by show 7+4≤11;decide) wJ fun w' h1 _=>h w' (by
  have e:putCells (bS x) 7 (#[Value.int .i64 m.n,.int .u64 (m.s:Int),.int .u64 (m.l:Int),.int .u64 (m.m:Int)]:Array Value).toList=bS (x.sm m):=rfl;rw[e] at h1
  exact h1)
end
section
variable {w:World}{o:Oper}{a:Act}{x:Oh}
theorem eB{b off:Nat}{p:Operand}(hc:∀j v,(vR x)[j]?=some v→w.cell? ⟨b,off+j,none⟩=some v)(ho:o.op=.load 63 p:=by rfl)(hx:a.eval p=.pointer (some ⟨b,off,none⟩):=by rfl):
  (execOp a.eval o).run prog w=.ok (.value (.agg (bS x))) w:=je aP (x:=x) p (ho:=ho) (hx:=hx) underlying63 hc
theorem iJ{b off:Nat}{p:Operand}(hc:∀j v,(vR x)[j]?=some v→w.cell? ⟨b,off+j,none⟩=some v)(ho:o.op=.load 9 p:=by rfl)(hx:a.eval p=.pointer (some ⟨b,off,none⟩):=by rfl):
  (execOp a.eval o).run prog w=.ok (.value (.string x.v.name)) w:=jh p ho hx (hc 0 _ rfl) underlying9
theorem eD{b off:Nat}{p:Operand}(hc:∀j v,(vR x)[j]?=some v→w.cell? ⟨b,off+j,none⟩=some v)(ho:o.op=.load 3 p:=by rfl)(hx:a.eval p=.pointer (some ⟨b,off+1,none⟩):=by rfl):
  (execOp a.eval o).run prog w=.ok (.value (.int .i64 x.v.kind)) w:=jh p ho hx (hc 1 _ rfl) underlying3
theorem lZ{b off:Nat}{p:Operand}(hc:∀j v,(vR x)[j]?=some v→w.cell? ⟨b,off+j,none⟩=some v)(ho:o.op=.load 59 p:=by rfl)(hx:a.eval p=.pointer (some ⟨b,off+5,none⟩):=by rfl):
  (execOp a.eval o).run prog w=.ok (.value (.slice x.rA x.rn x.rc)) w:=jh p ho hx (hc 5 _ rfl) underlying59
theorem bL{b off n c i:Nat}{q:Operand}{r:Operand}(h:i<n)(ho:o.op=.indexAddr 22 q r:=by rfl)(hx:a.eval q=.slice (some ⟨b,off,none⟩) n c:=by rfl)(hq:a.eval r=.int .i64 (i:Int):=by rfl):
  (execOp a.eval o).run prog w=.ok (.value (.pointer (some ⟨b,off+i*11,none⟩))) w:=gM aP (x:=q) (q:=r) (ho:=ho) (hx:=hx) (hq:=hq) h
end
def mX(x:Oh)(p:av.Rp)(t:Bool)(A:Option Addr)(n c:Nat):Array Value:=#[.string x.v.name,.int .i64 x.v.kind,.int .i64 x.v.cap,.slice x.pA x.pn x.pc,.slice x.vA x.vn x.vc,.slice x.rA x.rn x.rc,.int .i64 x.v.round,.int .i64 x.v.mt.n,.int .u64 (x.v.mt.s:Int),.int .u64 (x.v.mt.l:Int),.int .u64 (x.v.mt.m:Int),.int .i64 p.e,.int .i64 p.v.k,.int .i64 p.v.n,.int .u64 (p.v.f:Int),.string p.v.s,.bool t,.slice A n c]
theorem MN:(prog.info? 222).map (·.size)=some 18:=by kernel_rfl
section
variable {w:World}{o:Oper}{a:Act}{x:Oh}{p:av.Rp}{t:Bool}{A:Option Addr}{n c:Nat}
theorem mP{q:Operand}{r:Operand}(ho:o.op=.build 222 #[(0,q),(1,r)]:=by rfl)(hq:a.eval q=.agg (bS x):=by rfl)(hr:a.eval r=.agg (cB p):=by rfl):
  (execOp a.eval o).run prog w=.ok (.value (.agg (mX x p false none 0 0))) w:=by
 have h:(Instr.build 222 #[(0,.agg (bS x)),(1,.agg (cB p))]).run prog w=.ok (.agg (mX x p false none 0 0)) w:=by
  unfold bS cB mX;go_simp
 unfold execOp;simp only[ho,Sem.run_bind,Sem.run_pure,Result.andThen_ok,List.map_toArray,List.map_cons,List.map_nil,hq,hr,h]
theorem zM{q:Operand}{r:Operand}{s:Operand}(ho:o.op=.build 222 #[(0,q),(1,r),(2,s)]:=by rfl)(hq:a.eval q=.agg (bS x):=by rfl)(hr:a.eval r=.agg (cB p):=by rfl)(hs:a.eval s=.bool t:=by rfl):
  (execOp a.eval o).run prog w=.ok (.value (.agg (mX x p t none 0 0))) w:=by
 have h:(Instr.build 222 #[(0,.agg (bS x)),(1,.agg (cB p)),(2,.bool t)]).run prog w=.ok (.agg (mX x p t none 0 0)) w:=by
  unfold bS cB mX;go_simp
 exact ZQ
theorem zL{q:Operand}{r:Operand}{s:Operand}(ho:o.op=.build 222 #[(0,q),(1,r),(3,s)]:=by rfl)(hq:a.eval q=.agg (bS x):=by rfl)(hr:a.eval r=.agg (cB p):=by rfl)(hs:a.eval s=.slice A n c:=by rfl):
  (execOp a.eval o).run prog w=.ok (.value (.agg (mX x p false A n c))) w:=by
 have h:(Instr.build 222 #[(0,.agg (bS x)),(1,.agg (cB p)),(3,.slice A n c)]).run prog w=.ok (.agg (mX x p false A n c)) w:=by
  unfold bS cB mX;go_simp
 exact ZQ
end
end
section
def XI(x:av.Ot):List Value:=[.int .i64 x.r.c,.int .i64 x.r.e,.int .i64 x.r.r,.int .i64 x.p.e,.int .i64 x.p.v.k,.int .i64 x.p.v.n,.int .u64 (x.p.v.f:Int),.string x.p.v.s]
def za(x:av.Ot):Array Value:=#[.int .i64 x.r.c,.int .i64 x.r.e,.int .i64 x.r.r,.int .i64 x.p.e,.int .i64 x.p.v.k,.int .i64 x.p.v.n,.int .u64 (x.p.v.f:Int),.string x.p.v.s]
def otZ:av.Ot:=⟨⟨0,0,0⟩,av.rz⟩
theorem Hw:(prog.info? 71).map (fun i=>(i.zero,i.size,i.bytes))=some (some (Value.agg (za otZ)),8,72):=by kernel_rfl
theorem Yk:(prog.info? 71).map (·.size)=some 8:=by kernel_rfl
def aR:Lay prog av.Ot where
 t:=41
 e:=71
 k:=8
 bytes:=72
 z:=.agg (za otZ)
 f:=XI
 len:=fun _=>rfl
 one:=fun x u hu=>by
  unfold XI at hu;simp only[List.mem_cons,List.not_mem_nil,or_false] at hu
  rcases hu with rfl|rfl|rfl|rfl|rfl|rfl|rfl|rfl<;>rfl
 und:=underlying41
 info:=Hw
 zs:=rfl
 pos:=by decide
 small:=by decide
def tF(_:av.Ot):Prop:=True
section
variable {b0:Nat}{w0 w:World}{L:List (Nat×TypeId×Array Value)}{R:List dA}{ops:Array Oper}{rest:List Oper}{o:Oper}{a:Act}{Q:Exit→Act→World→Prop}{K:Act→World→Prop}{E:Prop}{g:Nat}{x y:Oh}{p q:av.Rp}{t u:Bool}{A B:Option Addr}{n c m d:Nat}
theorem Gg(HK:Hid (Kn b0 w0 w L R))
  (h:∀w' g,Hid (Kn b0 w0 w' (L++[(g,222,mX rU av.rz false none 0 0)]) R)→Hid (Below w.heap.size w w')→K (a.put o.dst (.pointer (some ⟨g,0,none⟩))) w') (hgd:o.guard=none:=by rfl)(ho:o.op=.alloc 222:=by rfl):if Region.wanted o (yielded ops a.tmps)=true then Oper.wp prog o a w K Q else E:=by
 rw[if_pos (by simp[Region.wanted,hgd])];have h4:=h _ w.heap.size (zH (HK.out.alloc _ _)) (zH ((Below.refl _ w).alloc (Nat.le_refl _) _));unfold Oper.wp execOp;simp only[ho];unfold mX rU av.rz Mt.zero at h4;go_simp;exact h4
theorem MI(HK:Hid (Kn b0 w0 w L R))(i:Nat)(r s:Operand)(ho:o.op=.store 222 r s)(hL:L[i]?=some (g,222,mX x p t A n c))(hx:a.eval r=.pointer (some ⟨g,0,none⟩))(hy:a.eval s=.agg (mX y q u B m d))
  (h:∀w',Hid (Kn b0 w0 w' (L.set i (g,222,mX y q u B m d)) R)→K (a.put o.dst undef) w'):o.wp prog a w K Q:=
 kM HK r s ho i hL hx hy (by show 18≤18;decide) MN (by simp[mX,Value.oneCell']) fun w' h1 _=>h w' (by
  have e:putCells (mX x p t A n c) 0 (mX y q u B m d).toList=mX y q u B m d:=by rw[dJ (vs:=(mX y q u B m d).toList) (cs:=mX x p t A n c),Array.toArray_toList]
  rw[e] at h1
  exact h1)
theorem eT(HK:Hid (Kn b0 w0 w L R))(i:Nat){r:Operand}{s:Operand}
  (h:∀w',Hid (Kn b0 w0 w' (L.set i (g,222,mX y q u B m d)) R)→wpList prog ops Q rest (a.put o.dst undef) w') (hgd:o.guard=none:=by rfl)(ho:o.op=.store 222 r s:=by rfl)(hL:L[i]?=some (g,222,mX x p t A n c):=by rfl)(hx:a.eval r=.pointer (some ⟨g,0,none⟩):=by rfl)(hy:a.eval s=.agg (mX y q u B m d):=by rfl):wpList prog ops Q (o::rest) a w:=
 wpList_plain hgd fun _ hK=>MI HK i r s ho hL hx hy fun w' h1=>hK _ _ (h w' h1)
theorem rY(HK:Hid (Kn b0 w0 w L R))(i:Nat){r:Operand}{s:Operand}
  (h:∀w',Hid (Kn b0 w0 w' (L.set i (g,222,mX y q u B m d)) R)→K (a.put o.dst undef) w') (hgd:o.guard=none:=by rfl)(ho:o.op=.store 222 r s:=by rfl)(hL:L[i]?=some (g,222,mX x p t A n c):=by rfl)(hx:a.eval r=.pointer (some ⟨g,0,none⟩):=by rfl)(hy:a.eval s=.agg (mX y q u B m d):=by rfl):if Region.wanted o (yielded ops a.tmps)=true then Oper.wp prog o a w K Q else E:=by
 rw[if_pos (by simp[Region.wanted,hgd])];exact MI HK i r s ho hL hx hy h
theorem afB(HK:Hid (Kn b0 w0 w L R))(i:Nat){r:Operand}(ho:o.op=.load 63 r)(hL:L[i]?=some (g,222,mX x p t A n c))(hx:a.eval r=.pointer (some ⟨g,0,none⟩)):
  (execOp a.eval o).run prog w=.ok (.value (.agg (bS x))) w:=
 dU HK r ho i hL hx (bS x) (fun j hj=>by
  have hj:j<11:=hj
  match j,hj with
  | 0,_|1,_|2,_|3,_|4,_|5,_|6,_|7,_|8,_|9,_|10,_=>rfl) underlying63 zI
theorem afA(HK:Hid (Kn b0 w0 w L R))(i:Nat){r:Operand}(ho:o.op=.load 28 r)(hL:L[i]?=some (g,222,mX x p t A n c))(hx:a.eval r=.pointer (some ⟨g,11,none⟩)):
  (execOp a.eval o).run prog w=.ok (.value (.agg (cB p))) w:=
 dU HK r ho i hL hx (cB p) (fun j hj=>by
  have hj:j<5:=hj
  match j,hj with
  | 0,_|1,_|2,_|3,_|4,_=>rfl) underlying28 jm
theorem afy(HK:Hid (Kn b0 w0 w L R))(i:Nat){r:Operand}(ho:o.op=.load 4 r)(hL:L[i]?=some (g,222,mX x p t A n c))(hx:a.eval r=.pointer (some ⟨g,16,none⟩)):
  (execOp a.eval o).run prog w=.ok (.value (.bool t)) w:=aV HK _ r ho i hL hx underlying4
theorem afz(HK:Hid (Kn b0 w0 w L R))(i:Nat){r:Operand}(ho:o.op=.load 41 r)(hL:L[i]?=some (g,222,mX x p t A n c))(hx:a.eval r=.pointer (some ⟨g,17,none⟩)):
  (execOp a.eval o).run prog w=.ok (.value (.slice A n c)) w:=aV HK _ r ho i hL hx underlying41
end
section
variable {w:World}{o:Oper}{a:Act}{p q:av.Rp}{r:Rf}
theorem qw{i:Operand}(ho:o.op=.build 71 #[(0,i)]:=by rfl)(hi:a.eval i=.agg #[.int .i64 r.c,.int .i64 r.e,.int .i64 r.r]:=by rfl):
  (execOp a.eval o).run prog w=.ok (.value (.agg (za ⟨r,av.rz⟩))) w:=by
 have h:(Instr.build 71 #[(0,.agg #[.int .i64 r.c,.int .i64 r.e,.int .i64 r.r])]).run prog w=.ok (.agg (za ⟨r,av.rz⟩)) w:=by
  unfold za av.rz;go_simp
 unfold execOp;simp only[ho,Sem.run_bind,Sem.run_pure,Result.andThen_ok,List.map_toArray,List.map_cons,List.map_nil,hi,h]
theorem kU{i:Operand}{j:Operand}(ho:o.op=.build 71 #[(0,i),(1,j)]:=by rfl)(hi:a.eval i=.agg #[.int .i64 r.c,.int .i64 r.e,.int .i64 r.r]:=by rfl)(hj:a.eval j=.agg (cB p):=by rfl):
  (execOp a.eval o).run prog w=.ok (.value (.agg (za ⟨r,p⟩))) w:=by
 have h:(Instr.build 71 #[(0,.agg #[.int .i64 r.c,.int .i64 r.e,.int .i64 r.r]),(1,.agg (cB p))]).run prog w=.ok (.agg (za ⟨r,p⟩)) w:=by
  unfold za cB;go_simp
 unfold execOp;simp only[ho,Sem.run_bind,Sem.run_pure,Result.andThen_ok,List.map_toArray,List.map_cons,List.map_nil,hi,hj,h]
end
section
variable {fn:Func}{R:Ending→World→Prop}{a:Act}{w:World}{B:Nat}{x:Oh}{p:av.Rp}{t:Bool}{A:Option Addr}{n c:Nat}{u z y:Value}{q q2 q3 q4:Tmp}
theorem nH(hf:fn.results=#[.cell q 222])(hb:gD w B 222 (mX x p t A n c))
  (hR:R (.returned (.agg (mX x p t A n c))) w) (h2:a.tmps[q]?=some (.pointer (some ⟨B,0,none⟩)):=by rfl)(hd:a.defers=[]:=by rfl):bodyPost prog fn R Exit.ret a w:=
 bodyPost_ret (results_cell_row hf a.tmps w B _ _ (0,0) _ (by simp[h2]) hb underlying222 rfl MN) hd hR
theorem qL(hf:fn.results=#[.tmp q2,.cell q 28,.tmp q3,.tmp q4])(hb:gD w B 28 (cB p))
  (h2:a.tmps[q]?=some (.pointer (some ⟨B,0,none⟩)):=by rfl)(h3:a.tmps[q2]?=some u:=by rfl)(h4:a.tmps[q3]?=some z:=by rfl)(h5:a.tmps[q4]?=some y:=by rfl)(hd:a.defers=[]:=by rfl)(hR:R (.returned (.tuple #[u,.agg (cB p),z,y])) w:=by unfold mQ;exact⟨_,_,_,l,_,_,_,_,rfl,rfl,HK.out.aA 0,fun _ _ _ _ _ K hm hb=>⟨yF.out _ hb,bJ.none _⟩⟩):bodyPost prog fn R Exit.ret a w:=by
 refine bodyPost_ret (v:=.tuple #[u,.agg (cB p),z,y]) ?_ hd hR;have h:(loadVar 28 ⟨B,0,none⟩).run prog w=.ok (.agg (cB p)) w:=run_loadVar_row (P:=prog) w B _ _ _ (0,0) _ hb underlying28 rfl jm;simp[results,hf,asAddr,Sem.run_bind,h2,h3,h4,h5,h]
end
end
section
namespace av
theorem TD{l:List Ob}(h:Up l)(k:ByteArray):((l.drop (idx l k)).take (fin l k-idx l k))[0]?=jc l k:=by
 obtain⟨_,_,h3,h4⟩:=fu h k;obtain⟨h5,h6⟩:=kQ l k;rw[h3];by_cases hq:fin l k=idx l k
 ·rw[if_pos hq,hq,Nat.sub_self];rfl
 ·rw[if_neg hq,show fin l k-idx l k=1 from by omega,List.getElem?_take_of_lt (by decide),List.getElem?_drop]
  rfl
theorem GD{l:List Ob}(h:Up l)(k:ByteArray):(jc l k).isSome=decide (0<fin l k-idx l k):=by
 obtain⟨_,_,h3,h4⟩:=fu h k;obtain⟨h5,h6⟩:=kQ l k;rw[h3];by_cases hq:fin l k=idx l k
 ·rw[if_pos hq,hq,Nat.sub_self];rfl
 ·rw[if_neg hq,List.getElem?_eq_getElem (by omega)]
  have:0<fin l k-idx l k:=by omega
  simp[this]
theorem uz{l:List Ob}{r:Rf}{c:aF.C}(h:¬(Right l∧aS.ok r∧4≤c.k∧c.k≤17)):bG l r c=1:=if_pos h
theorem Fv{l:List Ob}{r:Rf}{c:aF.C}(h:Right l∧aS.ok r∧4≤c.k∧c.k≤17)(h2:aF.bG c≠0):bG l r c=aF.bG c:=by unfold bG;rw[if_neg (fun g=>g h),if_pos h2]
theorem wY{l:List Ob}{r:Rf}{c:aF.C}(h:Right l∧aS.ok r∧4≤c.k∧c.k≤17)(h2:aF.bG c=0)(h3:c.k=4):bG l r c=IU l c.name:=by unfold bG;rw[if_neg (fun g=>g h),if_neg (fun g=>g h2),if_pos h3]
theorem uy{l:List Ob}{r:Rf}{c:aF.C}(h:Right l∧aS.ok r∧4≤c.k∧c.k≤17)(h2:aF.bG c=0)(h3:¬c.k=4):bG l r c=Fw (jc l c.name) c.k:=by unfold bG;rw[if_neg (fun g=>g h),if_neg (fun g=>g h2),if_neg h3]
theorem Bz{l:List Ob}{r:Rf}{c:aF.C}(h:bG l r c=0):(Right l∧aS.ok r∧4≤c.k∧c.k≤17)∧aF.bG c=0∧(c.k=4→(jc l c.name).isSome=false∧¬l.length=8)∧(¬c.k=4→∃o,jc l c.name=some o∧fits c.k o.kind=true∧¬(c.k=5∧0<o.refs.length)):=by
 by_cases g:Right l∧aS.ok r∧4≤c.k∧c.k≤17
 case neg=>rw[uz g] at h;cases h
 by_cases g2:aF.bG c=0
 case neg=>rw[Fv g g2] at h;exact absurd h g2
 refine⟨g,g2,fun g3=>?_,fun g3=>?_⟩
 ·rw[wY g g2 g3] at h
  unfold IU at h
  split at h
  ·cases h
  ·split at h
   ·cases h
   ·rename_i a b;exact⟨Bool.eq_false_iff.2 a,b⟩
 ·rw[uy g g2 g3] at h
  cases hf:jc l c.name with
  | none=>rw[hf] at h;cases h
  | some o=>
   rw[hf] at h;unfold Fw at h;simp only at h
   split at h
   ·cases h
   ·split at h
    ·cases h
    ·rename_i a b;exact⟨o,rfl,by cases hx:fits c.k o.kind<;>simp_all,b⟩
end av
end
section
namespace av
theorem uw{l:List Ob}{r:Rf}{c:aF.C}(h:bG l r c≠0):iC l r c=⟨l,err (bG l r c),false,[]⟩:=if_pos h
theorem wT{l:List Ob}{r:Rf}{c:aF.C}(h:bG l r c=0)(h4:c.k=4):iC l r c=⟨put l c.name (fresh c),rz,false,[]⟩:=by unfold iC;rw[if_neg (fun g=>g h),if_pos h4]
theorem wU{l:List Ob}{r:Rf}{c:aF.C}(h:bG l r c=0)(h5:c.k=5):iC l r c=⟨wo l c.name,rz,false,[]⟩:=by unfold iC;rw[if_neg (fun g=>g h),if_neg (by omega),if_pos h5]
theorem wV{l:List Ob}{r:Rf}{c:aF.C}(h:bG l r c=0)(h4:¬c.k=4)(h5:¬c.k=5){o:Ob}(ho:jc l c.name=some o):iC l r c=⟨put l c.name (act o r c).o,(act o r c).p,(act o r c).later,(act o r c).outs⟩:=by
 unfold iC;rw[if_neg (fun g=>g h),if_neg h4,if_neg h5,ho]
theorem Bh{l:List Ob}{k:ByteArray}{o:Ob}(h:jc l k=some o):o∈l∧o.name=k:=by
 induction l with
 | nil=>cases h
 | cons x r ih=>
  unfold jc at h
  split at h
  next hx=>injection h with h;subst h;exact⟨List.mem_cons_self ..,hx⟩
  next=>exact⟨List.mem_cons_of_mem _ (ih h).1,(ih h).2⟩
theorem jK{o:Ob}(h:One o=true):named o.name∧clean o=true∧sound o=true:=by
 unfold One at h;simp only[Bool.and_eq_true,decide_eq_true_eq] at h;exact⟨h.1.1,h.1.2,h.2⟩
theorem Gl{o:Ob}(h:One o=true)(hk:fits 14 o.kind=true):0≤o.round:=by
 have h3:=(jK h).2.2
 have h4:o.kind=4:=by
  unfold fits at hk
  simpa using hk
 unfold sound at h3;rw[h4] at h3;simp at h3;exact h3.2
theorem qz{k:Int}(h:4≤k∧k≤17)(h4:¬k=4)(h5:¬k=5):k=6∨k=7∨k=8∨k=9∨k=10∨k=11∨k=12∨k=13∨k=14∨k=15∨k=16∨k=17:=by omega
end av
end
section
namespace av
def vn:Val.V:=⟨0,0,0,⟨#[]⟩⟩
theorem Tj{l:List Ob}(h:Up l){k:ByteArray}{o:Ob}(ho:jc l k=some o):put l k o=l:=by
 obtain⟨_,_,h3,h4⟩:=fu h k;obtain⟨h5,h6⟩:=kQ l k;rw[ho] at h3;by_cases hq:fin l k=idx l k
 ·rw[if_pos hq] at h3;cases h3
 ·rw[if_neg hq] at h3
  have hf:fin l k=idx l k+1:=by omega
  obtain⟨hl,he⟩:=List.getElem?_eq_some_iff.1 h3.symm;unfold put;rw[hf,← he,List.append_assoc,List.singleton_append,← List.drop_eq_getElem_cons hl,List.take_append_drop]
theorem Oa(o:Ob)(r:Rf):(wait o r).o.name=o.name:=by
 unfold wait;by_cases h1:(Gt.zk o.cap o.refs r).length=0
 ·rw[if_pos h1]
 ·rw[if_neg h1]
  by_cases h2:o.round=9223372036854775807
  ·rw[if_pos h2]
  ·rw[if_neg h2]
theorem Wn(o:Ob)(r:Rf)(c:aF.C):(act o r c).o.name=o.name:=by
 unfold act;by_cases k12:c.k=12
 ·rw[if_pos k12]
  rfl
 rw[if_neg k12];by_cases k13:c.k=13
 ·rw[if_pos k13]
  rfl
 rw[if_neg k13];by_cases k14:c.k=14
 ·rw[if_pos k14]
  exact Oa o r
 rw[if_neg k14];by_cases k6:c.k=6
 ·rw[if_pos k6]
 rw[if_neg k6];by_cases k7:c.k=7
 ·rw[if_pos k7]
 rw[if_neg k7];by_cases k8:c.k=8
 ·rw[if_pos k8]
 rw[if_neg k8];by_cases k9:c.k=9
 ·rw[if_pos k9]
 rw[if_neg k9];by_cases k10:c.k=10
 ·rw[if_pos k10]
 rw[if_neg k10];by_cases k11:c.k=11
 ·rw[if_pos k11]
 rw[if_neg k11];by_cases k15:c.k=15
 ·rw[if_pos k15]
 rw[if_neg k15];by_cases k16:c.k=16
 ·rw[if_pos k16]
 rw[if_neg k16];by_cases k17:c.k=17
 ·rw[if_pos k17]
 rw[if_neg k17]
end av
end
section
namespace av
def nm:ByteArray:=⟨#[108]⟩
def lk(r:List Rf):Ob:=⟨nm,3,0,[],[],r,0,Mt.zero⟩
end av
end
section
namespace av
theorem KZ{l:List Ob}(h:Up l){x:Ob}(hx:x∈l):jc l x.name=some x:=by
 induction l with
 | nil=>simp at hx
 | cons y r ih=>
  unfold jc
  rcases List.mem_cons.1 hx with rfl|hx
  ·rw[if_pos rfl]
  ·rw[if_neg (aK.rJ ((List.pairwise_cons.1 h).1 x hx))]
   exact ih (List.pairwise_cons.1 h).2 hx
end av
end
section
namespace av
theorem jW{l:List Ob}(h:Up l){i:Nat}{x:Ob}{k:ByteArray}(hx:l[i]?=some x)(hn:x.name=k):idx l k=i∧fin l k=i+1∧jc l k=some x:=by
 subst hn;have hi:=(List.getElem?_eq_some_iff.1 hx).1
 have e:idx l x.name=i:=by
  refine Bb (fun j y hj hy=>?_) (Nat.le_of_lt hi) (fun y hy=>?_)
  ·obtain⟨hj2,e1⟩:=List.getElem?_eq_some_iff.1 hy
   obtain⟨hi2,e2⟩:=List.getElem?_eq_some_iff.1 hx;have:=(List.pairwise_iff_getElem.1 h) j i hj2 hi2 hj
   rwa [e1,e2] at this
  ·rw[hx] at hy
   injection hy with hy;subst hy;exact aK.lt_irrefl _
 refine⟨e,?_,KZ h (List.mem_of_getElem? hx)⟩;unfold fin;rw[e,hx];simp
theorem sM{l:List Ob}{k:ByteArray}(h:∀(j:Nat) (y:Ob),l[j]?=some y→¬y.name=k):fin l k=idx l k∧jc l k=none:=by
 refine⟨?_,yw fun x hx=>?_⟩
 ·unfold fin
  split
  next x hx=>rw[if_neg (h _ x hx)]
  next=>rfl
 ·obtain⟨j,hj⟩:=List.mem_iff_getElem?.1 hx
  exact h j x hj
theorem Xv{l:List Ob}(h:Up l){i:Nat}{x:Ob}{k:ByteArray}(hx:l[i]?=some x)(hn:x.name=k)(o:Ob):l.set i o=put l k o:=by
 obtain⟨e1,e2,_⟩:=jW h hx hn;have hi:=(List.getElem?_eq_some_iff.1 hx).1;unfold put;rw[e1,e2,List.set_eq_take_append_cons_drop,if_pos hi];simp
theorem adg{l:List Ob}(h:Up l){i:Nat}{x:Ob}{k:ByteArray}(hx:l[i]?=some x)(hn:x.name=k):l.take i++l.drop (i+1)=wo l k:=by
 obtain⟨e1,e2,_⟩:=jW h hx hn;have:=(fu h k).1
 rwa [e1,e2] at this
end av
end
section
namespace av
def All(l:List Ob)(r:Rf)(c:aF.C):Prop:=Right l∧aS.ok r∧4≤c.k∧c.k≤17
section
variable {l:List Ob}{r:Rf}{c:aF.C}{i:Nat}{x:Ob}
theorem zQ(h:¬All l r c):iC l r c=⟨l,err 1,false,[]⟩:=by
 have e:=uz (l:=l) (r:=r) (c:=c) h;exact Cu
theorem YE(h:All l r c)(he:aF.bG c≠0):iC l r c=⟨l,err (aF.bG c),false,[]⟩:=by
 have e:=Fv h he;rw[uw (by rw[e];exact he),e]
theorem afQ(h:All l r c)(he:aF.bG c=0)(h4:c.k=4)(hf:jc l c.name=some x):iC l r c=⟨l,err 8,false,[]⟩:=by
 have e:bG l r c=8:=by rw[wY h he h4];unfold IU;rw[hf];rfl
 exact Cu
theorem afS(h:All l r c)(he:aF.bG c=0)(h4:c.k=4)(hf:jc l c.name=none)(h8:l.length=8):iC l r c=⟨l,err 6,false,[]⟩:=by
 have e:bG l r c=6:=by rw[wY h he h4];unfold IU;rw[hf,if_neg (by simp),if_pos h8]
 exact Cu
theorem Vr(h:All l r c)(he:aF.bG c=0)(h4:c.k=4)(hf:jc l c.name=none)(h8:¬l.length=8):iC l r c=⟨l.take (idx l c.name)++[fresh c]++l.drop (idx l c.name),rz,false,[]⟩:=by
 have e:bG l r c=0:=by rw[wY h he h4];unfold IU;rw[hf,if_neg (by simp),if_neg h8]
 rw[wT e h4]
 have hq:fin l c.name=idx l c.name:=by
  obtain⟨_,_,h3,h4⟩:=fu h.1.up c.name;by_cases hq:fin l c.name=idx l c.name
  ·exact hq
  ·rw[if_neg hq,hf] at h3
   obtain⟨h5,h6⟩:=kQ l c.name;rw[List.getElem?_eq_getElem (by omega)] at h3;cases h3
 unfold put;rw[hq]
theorem afT(h:All l r c)(he:aF.bG c=0)(h4:¬c.k=4)(hf:jc l c.name=none):iC l r c=⟨l,err 5,false,[]⟩:=by
 have e:bG l r c=5:=by rw[uy h he h4,hf];rfl
 exact Cu
theorem afR(h:All l r c)(he:aF.bG c=0)(h4:¬c.k=4)(hf:jc l c.name=some x)(hk:fits c.k x.kind=false):iC l r c=⟨l,err 7,false,[]⟩:=by
 have e:bG l r c=7:=by rw[uy h he h4,hf];unfold Fw;simp only;rw[if_pos hk]
 exact Cu
theorem adf(h:All l r c)(he:aF.bG c=0)(h5:c.k=5)(hf:jc l c.name=some x)(hr:0<x.refs.length):iC l r c=⟨l,err 13,false,[]⟩:=by
 have hk:fits c.k x.kind=true:=by rw[h5];rfl
 have e:bG l r c=13:=by rw[uy h he (by omega),hf];unfold Fw;simp only;rw[if_neg (by rw[hk];simp),if_pos ⟨h5,hr⟩]
 exact Cu
theorem VD(h:All l r c)(he:aF.bG c=0)(h4:¬c.k=4)(hf:jc l c.name=some x)(hk:fits c.k x.kind=true)(hr:¬(c.k=5∧0<x.refs.length)):bG l r c=0:=by
 rw[uy h he h4,hf];unfold Fw;simp only;rw[if_neg (by rw[hk];simp),if_neg hr]
theorem ade(h:All l r c)(he:aF.bG c=0)(h5:c.k=5)(hx:l[i]?=some x)(hn:x.name=c.name)(hr:¬0<x.refs.length):iC l r c=⟨l.take i++l.drop (i+1),rz,false,[]⟩:=by
 obtain⟨_,_,hf⟩:=jW h.1.up hx hn;rw[wU (VD h he (by omega) hf (by rw[h5];rfl) (fun g=>hr g.2)) h5,adg h.1.up hx hn]
theorem zP(h:All l r c)(he:aF.bG c=0)(h4:¬c.k=4)(h5:¬c.k=5)(hx:l[i]?=some x)(hn:x.name=c.name)(hk:fits c.k x.kind=true):iC l r c=⟨l.set i (act x r c).o,(act x r c).p,(act x r c).later,(act x r c).outs⟩:=by
 obtain⟨_,_,hf⟩:=jW h.1.up hx hn;rw[wV (VD h he h4 hf hk (fun g=>h5 g.1)) h4 h5 hf,Xv h.1.up hx hn]
theorem lV{o:Ob}(h:named o.name)(hc:clean o=true)(hs:sound o=true):One o=true:=by
 unfold One;rw[hc,hs,decide_eq_true h];rfl
end
end av
end
end Go.Proofs.YtieoeendnccafaaGreat
