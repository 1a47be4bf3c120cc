/- How sessions lie, and tables of five of them: blocks that hold one, loads and stores of a session, of its fields, of a place in a table; comparisons; made ones; ways out; arguments. No condition but those named. -/
import Derived.Test.YtahdlddbbnjloaaGreatNAJ
import Derived.Test.YtahdlddbbnjloaaGreatNAB
set_option linter.unusedSimpArgs false
set_option linter.unusedVariables false
set_option maxRecDepth 100000
set_option maxHeartbeats 25600000
open Go.RowKit
namespace Go.Proofs.YtahdlddbbnjloaaGreat
open _root_.Go.Proofs.Tryz
section
open Go.ChangeShapes Go.WideShapes Go.Deep Go.RowKit
def mC(n:Int)(s l m:Nat):Array Value:=#[.int .i64 n,.int .u64 (s:Int),.int .u64 (l:Int),.int .u64 (m:Int)]
def Yn(n:Int)(s l m:Nat):Array Value:=#[.int .i64 1,.int .i64 n,.int .u64 0,.string ⟨#[]⟩,.int .i64 2,.int .i64 0,.int .u64 (s:Int),.string ⟨#[]⟩,.int .i64 2,.int .i64 0,.int .u64 (l:Int),.string ⟨#[]⟩,.int .i64 2,.int .i64 0,.int .u64 (m:Int),.string ⟨#[]⟩]
def zrC:Array Value:=#[.int .i64 0,.int .i64 0,.int .u64 0,.string ⟨#[]⟩,.int .i64 0,.int .i64 0,.int .u64 0,.string ⟨#[]⟩,.int .i64 0,.int .i64 0,.int .u64 0,.string ⟨#[]⟩,.int .i64 0,.int .i64 0,.int .u64 0,.string ⟨#[]⟩]
theorem tV:(prog.info? 73).map (·.size)=some 4:=by kernel_rfl
theorem YR(n:Int)(s l m:Nat)(w:World):
  Calls prog 144 #[.agg #[.int .i64 n,.int .u64 (s:Int),.int .u64 (l:Int),.int .u64 (m:Int)]] w (fun e w'=>e=.returned (.agg (Yn n s l m))∧Below w.heap.size w w'):=
 (Tg n s l m w).mono fun e w' ⟨h1,h2⟩=>⟨h1,by subst h2;go_grown⟩
section
variable {b0:Nat}{w0 w:World}{L:List (Nat×TypeId×Array Value)}{R:List bV}{ops:Array Oper}{rest:List Oper}{o:Oper}{a:Act}{Q:Exit→Act→World→Prop}{K:Act→World→Prop}{E:Prop}{g:Nat}{n n2:Int}{s l m s2 l2 m2:Nat}
theorem JV(HK:Hid (Kn b0 w0 w L R))(hgd:o.guard=none)(ho:o.op=.alloc 73)
  (h:∀w' g,Hid (Kn b0 w0 w' (L++[(g,73,mC 0 0 0 0)]) R)→wpList prog ops Q rest (a.put o.dst (.pointer (some ⟨g,0,none⟩))) w'):wpList prog ops Q (o::rest) a w:=
 wpList_plain hgd fun K hK=>by
  have h4:=h _ w.heap.size (zH (HK.out.alloc _ _));unfold Oper.wp execOp;simp only[ho];unfold mC at h4;exact zV
theorem pW(HK:Hid (Kn b0 w0 w L R))
  (h:∀w' g,Hid (Kn b0 w0 w' (L++[(g,206,zrC)]) R)→wpList prog ops Q rest (a.put o.dst (.pointer (some ⟨g,0,none⟩))) w') (hgd:o.guard=none:=by rfl)(ho:o.op=.alloc 206:=by rfl):wpList prog ops Q (o::rest) a w:=
 wpList_plain hgd fun K hK=>by
  have h4:=h _ w.heap.size (zH (HK.out.alloc _ _));unfold Oper.wp execOp;simp only[ho];unfold zrC at h4;exact zV
theorem Vv(HK:Hid (Kn b0 w0 w L R))(i:Nat)(p q:Operand)(ho:o.op=.store 73 p q)(hL:L[i]?=some (g,73,mC n s l m))(hx:a.eval p=.pointer (some ⟨g,0,none⟩))(hy:a.eval q=.agg #[.int .i64 n2,.int .u64 (s2:Int),.int .u64 (l2:Int),.int .u64 (m2:Int)])
  (h:∀w',Hid (Kn b0 w0 w' (L.set i (g,73,mC n2 s2 l2 m2)) R)→K (a.put o.dst undef) w'):o.wp prog a w K Q:=
 lQ HK p q ho i hL hx hy (by show 4≤4;decide) tV (h1:=(by simp[Value.oneCell'])) fun w' h1 _=>h w' (by
  have e:putCells (mC n s l m) 0 (#[Value.int .i64 n2,.int .u64 (s2:Int),.int .u64 (l2:Int),.int .u64 (m2:Int)]:Array Value).toList=mC n2 s2 l2 m2:=by
   show putCells (mC n s l m) 0 (mC n2 s2 l2 m2).toList=mC n2 s2 l2 m2
   rw[cK (vs:=(mC n2 s2 l2 m2).toList) (cs:=mC n s l m),Array.toArray_toList]
  rw[e] at h1
  exact h1)
theorem nZ(HK:Hid (Kn b0 w0 w L R))(i:Nat){p:Operand}{q:Operand}
  (h:∀w',Hid (Kn b0 w0 w' (L.set i (g,73,mC n2 s2 l2 m2)) R)→wpList prog ops Q rest (a.put o.dst undef) w') (hgd:o.guard=none:=by rfl)(ho:o.op=.store 73 p q:=by rfl)(hL:L[i]?=some (g,73,mC n s l m):=by rfl)(hx:a.eval p=.pointer (some ⟨g,0,none⟩):=by rfl)(hy:a.eval q=.agg #[.int .i64 n2,.int .u64 (s2:Int),.int .u64 (l2:Int),.int .u64 (m2:Int)]:=by rfl):wpList prog ops Q (o::rest) a w:=
 wpList_plain hgd fun _ hK=>Vv HK i p q ho hL hx hy fun w' h1=>hK _ _ (h w' h1)
theorem YZ(HK:Hid (Kn b0 w0 w L R))(i:Nat)(hgd:o.guard=none){p:Operand}{q:Operand}(ho:o.op=.store 73 p q)(hL:L[i]?=some (g,73,mC n s l m))(hx:a.eval p=.pointer (some ⟨g,0,none⟩))(hy:a.eval q=.agg #[.int .i64 n2,.int .u64 (s2:Int),.int .u64 (l2:Int),.int .u64 (m2:Int)])
  (h:∀w',Hid (Kn b0 w0 w' (L.set i (g,73,mC n2 s2 l2 m2)) R)→K (a.put o.dst undef) w'):if Region.wanted o (yielded ops a.tmps)=true then Oper.wp prog o a w K Q else E:=by
 rw[if_pos (by simp[Region.wanted,hgd])];exact Vv HK i p q ho hL hx hy h
theorem tH(HK:Hid (Kn b0 w0 w L R))(i:Nat){p:Operand}{q:Operand}
  (h:∀w',Hid (Kn b0 w0 w' (L.set i (g,206,Yn n s l m)) R)→wpList prog ops Q rest (a.put o.dst undef) w') (hgd:o.guard=none:=by rfl)(ho:o.op=.store 206 p q:=by rfl)(hL:L[i]?=some (g,206,zrC):=by rfl)(hx:a.eval p=.pointer (some ⟨g,0,none⟩):=by rfl)(hy:a.eval q=.agg (Yn n s l m):=by rfl):wpList prog ops Q (o::rest) a w:=
 iL HK i hgd p q ho hL hx hy (by show 16≤16;decide) Oa (h1:=(by simp[Yn,Value.oneCell'])) fun w' h1 _=>h w' (by
  have e:putCells zrC 0 (Yn n s l m).toList=Yn n s l m:=by
   rw[cK (vs:=(Yn n s l m).toList) (cs:=zrC),Array.toArray_toList]
  rw[e] at h1
  exact h1)
theorem cO(HK:Hid (Kn b0 w0 w L R))(i:Nat){x:Operand}(ho:o.op=.load 73 x:=by rfl)(hL:L[i]?=some (g,73,mC n s l m):=by rfl)(hx:a.eval x=.pointer (some ⟨g,0,none⟩):=by rfl):
  (execOp a.eval o).run prog w=.ok (.value (.agg #[.int .i64 n,.int .u64 (s:Int),.int .u64 (l:Int),.int .u64 (m:Int)])) w:=
 dY HK x ho i hL hx (mC n s l m) (fun j _=>by rw[Nat.zero_add]) underlying73 tV
theorem dO(HK:Hid (Kn b0 w0 w L R))(i:Nat){x:Operand}(ho:o.op=.load 3 x:=by rfl)(hL:L[i]?=some (g,73,mC n s l m):=by rfl)(hx:a.eval x=.pointer (some ⟨g,0,none⟩):=by rfl):
  (execOp a.eval o).run prog w=.ok (.value (.int .i64 n)) w:=
 aT HK 3 x ho i hL hx (v:=.int .i64 n) underlying3
theorem fu(HK:Hid (Kn b0 w0 w L R))(i:Nat){x:Operand}(ho:o.op=.load 24 x:=by rfl)(hL:L[i]?=some (g,73,mC n s l m):=by rfl)(hx:a.eval x=.pointer (some ⟨g,1,none⟩):=by rfl):
  (execOp a.eval o).run prog w=.ok (.value (.int .u64 (s:Int))) w:=
 aT HK 24 x ho i hL hx (v:=.int .u64 (s:Int)) underlying24
theorem fH(HK:Hid (Kn b0 w0 w L R))(i:Nat){x:Operand}(ho:o.op=.load 24 x:=by rfl)(hL:L[i]?=some (g,73,mC n s l m):=by rfl)(hx:a.eval x=.pointer (some ⟨g,2,none⟩):=by rfl):
  (execOp a.eval o).run prog w=.ok (.value (.int .u64 (l:Int))) w:=
 aT HK 24 x ho i hL hx (v:=.int .u64 (l:Int)) underlying24
theorem gK(HK:Hid (Kn b0 w0 w L R))(i:Nat){x:Operand}(ho:o.op=.load 24 x:=by rfl)(hL:L[i]?=some (g,73,mC n s l m):=by rfl)(hx:a.eval x=.pointer (some ⟨g,3,none⟩):=by rfl):
  (execOp a.eval o).run prog w=.ok (.value (.int .u64 (m:Int))) w:=
 aT HK 24 x ho i hL hx (v:=.int .u64 (m:Int)) underlying24
theorem vZ(HK:Hid (Kn b0 w0 w L R))(i:Nat){x:Operand}(ho:o.op=.load 26 x:=by rfl)(hL:L[i]?=some (g,206,Yn n s l m):=by rfl)(hx:a.eval x=.pointer (some ⟨g,4,none⟩):=by rfl):
  (execOp a.eval o).run prog w=.ok (.value (.agg #[.int .i64 2,.int .i64 0,.int .u64 (s:Int),.string ⟨#[]⟩])) w:=
 dY HK x ho i hL hx #[.int .i64 2,.int .i64 0,.int .u64 (s:Int),.string ⟨#[]⟩] (fun j hj=>by
  match j,hj with
  | 0,_=>rfl
  | 1,_=>rfl
  | 2,_=>rfl
  | 3,_=>rfl) underlying26 iy
theorem Bp(HK:Hid (Kn b0 w0 w L R))(i:Nat){x:Operand}(ho:o.op=.load 26 x:=by rfl)(hL:L[i]?=some (g,206,Yn n s l m):=by rfl)(hx:a.eval x=.pointer (some ⟨g,8,none⟩):=by rfl):
  (execOp a.eval o).run prog w=.ok (.value (.agg #[.int .i64 2,.int .i64 0,.int .u64 (l:Int),.string ⟨#[]⟩])) w:=
 dY HK x ho i hL hx #[.int .i64 2,.int .i64 0,.int .u64 (l:Int),.string ⟨#[]⟩] (fun j hj=>by
  match j,hj with
  | 0,_=>rfl
  | 1,_=>rfl
  | 2,_=>rfl
  | 3,_=>rfl) underlying26 iy
theorem Ih(HK:Hid (Kn b0 w0 w L R))(i:Nat){x:Operand}(ho:o.op=.load 26 x:=by rfl)(hL:L[i]?=some (g,206,Yn n s l m):=by rfl)(hx:a.eval x=.pointer (some ⟨g,12,none⟩):=by rfl):
  (execOp a.eval o).run prog w=.ok (.value (.agg #[.int .i64 2,.int .i64 0,.int .u64 (m:Int),.string ⟨#[]⟩])) w:=
 dY HK x ho i hL hx #[.int .i64 2,.int .i64 0,.int .u64 (m:Int),.string ⟨#[]⟩] (fun j hj=>by
  match j,hj with
  | 0,_=>rfl
  | 1,_=>rfl
  | 2,_=>rfl
  | 3,_=>rfl) underlying26 iy
theorem dX{k:Int}{f:Nat}{t:ByteArray}(HK:Hid (Kn b0 w0 w L R))(i:Nat){x:Operand}(ho:o.op=.load 24 x:=by rfl)(hL:L[i]?=some (g,26,vC k n f t):=by rfl)(hx:a.eval x=.pointer (some ⟨g,2,none⟩):=by rfl):
  (execOp a.eval o).run prog w=.ok (.value (.int .u64 (f:Int))) w:=
 aT HK 24 x ho i hL hx (v:=.int .u64 (f:Int)) underlying24
theorem iI{x y:Nat}{b:Bool}{p:Operand}{q:Operand}(hb:decide (x=y)=b)(ho:o.op=.binOp .eql 24 p q 24:=by rfl)(hp:a.eval p=.int .u64 (x:Int):=by rfl)(hq:a.eval q=.int .u64 (y:Int):=by rfl):
  (execOp a.eval o).run prog w=.ok (.value (.bool b)) w:=by
 have e:((x:Int)==(y:Int))=b:=by
  rw[← hb,Bool.eq_iff_iff,beq_iff_eq,decide_eq_true_eq];omega
 unfold execOp;simp only[ho,hp,hq];go_simp
theorem IL{x y:Int}(p:Operand)(ho:o.op=.binOp .add 3 p (.const (.int .i64 1)) 3)(hp:a.eval p=.int .i64 x)(hy:IntKind.i64.wrap (x+1)=y):
  (execOp a.eval o).run prog w=.ok (.value (.int .i64 y)) w:=by
 exact adZ
theorem NI(x y:kC):decide (x=y)=(decide (x.n=y.n)&&decide ((x.s:Int)=(y.s:Int))&&decide ((x.l:Int)=(y.l:Int))&&decide ((x.m:Int)=(y.m:Int))):=by
 obtain⟨n,s,l,m⟩:=x;obtain⟨n',s',l',m'⟩:=y;rw[Bool.eq_iff_iff];simp only[decide_eq_true_eq,Bool.and_eq_true,kC.mk.injEq,Int.natCast_inj,and_assoc]
theorem II{x y:kC}{b:Bool}{p:Operand}{q:Operand}(hb:decide (x=y)=b)(ho:o.op=.binOp .eql 73 p q 73:=by rfl)(hx:a.eval p=.agg #[.int .i64 x.n,.int .u64 (x.s:Int),.int .u64 (x.l:Int),.int .u64 (x.m:Int)]:=by rfl)(hy:a.eval q=.agg #[.int .i64 y.n,.int .u64 (y.s:Int),.int .u64 (y.l:Int),.int .u64 (y.m:Int)]:=by rfl):
  (execOp a.eval o).run prog w=.ok (.value (.bool b)) w:=by
 rw[NI] at hb;subst hb;unfold execOp;simp only[ho,hx,hy];go_simp;by_cases h1:x.n=y.n<;>by_cases h2:(x.s:Int)=(y.s:Int)<;>by_cases h3:(x.l:Int)=(y.l:Int)<;>by_cases h4:(x.m:Int)=(y.m:Int)<;>simp[h1,h2,h3,h4]
end
def agr(y:Mt.Rd)(w:World)(e:Ending)(w':World):Prop:=e=.returned (.tuple #[.agg #[.int .i64 y.k,.int .i64 y.n,.int .u64 (y.f:Int),.string ⟨#[]⟩],.int .i64 y.e])∧Below w.heap.size w w'
theorem jU(x:Nat):decide (x=x)=true:=decide_eq_true rfl
def agt(y:kC)(x:Int)(w:World)(e:Ending)(w':World):Prop:=e=.returned (.tuple #[.agg #[.int .i64 y.n,.int .u64 (y.s:Int),.int .u64 (y.l:Int),.int .u64 (y.m:Int)],.int .i64 x])∧Below w.heap.size w w'
theorem Uq{fn:Func}{R:Ending→World→Prop}{a:Act}{w:World}{B:Nat}{n:Int}{s l m:Nat}{u:Value}{q q2:Tmp}(hf:fn.results=#[.cell q 73,.tmp q2])(hb:eT w B 73 (mC n s l m))
  (hR:R (.returned (.tuple #[.agg #[.int .i64 n,.int .u64 (s:Int),.int .u64 (l:Int),.int .u64 (m:Int)],u])) w) (h2:a.tmps[q]?=some (.pointer (some ⟨B,0,none⟩)):=by rfl)(h3:a.tmps[q2]?=some u:=by rfl)(hd:a.defers=[]:=by rfl):bodyPost prog fn R Exit.ret a w:=by
 refine bodyPost_ret (v:=.tuple #[.agg #[.int .i64 n,.int .u64 (s:Int),.int .u64 (l:Int),.int .u64 (m:Int)],u]) ?_ hd hR;have h:(loadVar 73 ⟨B,0,none⟩).run prog w=.ok (.agg (mC n s l m)) w:=run_loadVar_row (P:=prog) w B _ _ _ (0,0) _ hb underlying73 rfl tV;unfold mC at h;simp[results,hf,asAddr,Sem.run_bind,h2,h3,h]
theorem Un{fn:Func}{R:Ending→World→Prop}{a:Act}{w:World}{B:Nat}{k n:Int}{f:Nat}{s:ByteArray}{u:Value}{q q2:Tmp}(hf:fn.results=#[.cell q 26,.tmp q2])(hb:eT w B 26 (vC k n f s))
  (hR:R (.returned (.tuple #[.agg #[.int .i64 k,.int .i64 n,.int .u64 (f:Int),.string s],u])) w) (h2:a.tmps[q]?=some (.pointer (some ⟨B,0,none⟩)):=by rfl)(h3:a.tmps[q2]?=some u:=by rfl)(hd:a.defers=[]:=by rfl):bodyPost prog fn R Exit.ret a w:=by
 exact ahB
def mL(x:kC):List Value:=[.int .i64 x.n,.int .u64 (x.s:Int),.int .u64 (x.l:Int),.int .u64 (x.m:Int)]
section
variable {H:Type}{enc:TypeId×Value→H}{W:World}{base:Nat}
theorem Jj:prog.cellsOf 73=4:=by kernel_rfl
theorem He:jm enc 73 mL Mt.Fit:=fun W n cs x ht=>by
 obtain⟨ys,m,_,hx,hlen,hyl,hf⟩:=DataW.trod_struct underlying73 ht;have hlen:cs.length=prog.cellsOf 73:=hlen;rw[Jj] at hlen
 match cs,hlen,ys,hyl with
 | [v0,v1,v2,v3],_,[y0,y1,y2,y3],_=>
  have f0:=hf 0 _ rfl;have f1:=hf 1 _ rfl;have f2:=hf 2 _ rfl;have f3:=hf 3 _ rfl;simp only[List.getElem?_cons_zero,List.getElem?_cons_succ] at f0 f1 f2 f3;obtain⟨a0,e0,_,w0⟩:=DataW.trod_int underlying3 f0;obtain⟨a1,e1,_,w1⟩:=DataW.trod_int underlying24 f1;obtain⟨a2,e2,_,w2⟩:=DataW.trod_int underlying24 f2;obtain⟨a3,e3,_,w3⟩:=DataW.trod_int underlying24 f3;cases e0;cases e1;cases e2;cases e3;obtain⟨u1,rfl,hu1⟩:=rC w1;obtain⟨u2,rfl,hu2⟩:=rC w2;obtain⟨u3,rfl,hu3⟩:=rC w3;exact⟨⟨a0,u1,u2,u3⟩,rfl,by have:=bounds_i64 w0;show a0≤_;omega,hu1,hu2,hu3⟩
end
end
section
structure Oh where
 v:au.Ob
 pA:Option Addr
 pn:Nat
 pc:Nat
 vA:Option Addr
 vn:Nat
 vc:Nat
 rA:Option Addr
 rn:Nat
 rc:Nat
def yY(x:Oh):List Value:=[.string x.v.name,.int .i64 x.v.kind,.int .i64 x.v.cap,.slice x.pA x.pn x.pc,.slice x.vA x.vn x.vc,.slice x.rA x.rn x.rc,.int .i64 x.v.round,.int .i64 x.v.mt.n,.int .u64 (x.v.mt.s:Int),.int .u64 (x.v.mt.l:Int),.int .u64 (x.v.mt.m:Int)]
def cu(x:Oh):Array Value:=#[.string x.v.name,.int .i64 x.v.kind,.int .i64 x.v.cap,.slice x.pA x.pn x.pc,.slice x.vA x.vn x.vc,.slice x.rA x.rn x.rc,.int .i64 x.v.round,.int .i64 x.v.mt.n,.int .u64 (x.v.mt.s:Int),.int .u64 (x.v.mt.l:Int),.int .u64 (x.v.mt.m:Int)]
def Co:Oh:=⟨⟨⟨#[]⟩,0,0,[],[],[],0,Mt.zero⟩,none,0,0,none,0,0,none,0,0⟩
theorem VU:(prog.info? 75).map (fun i=>(i.zero,i.size,i.bytes))=some (some (Value.agg (cu Co)),11,144):=by kernel_rfl
theorem zK:(prog.info? 75).map (·.size)=some 11:=by kernel_rfl
def bB:Lay prog Oh where
 t:=22
 e:=75
 k:=11
 bytes:=144
 z:=.agg (cu Co)
 f:=yY
 len:=fun _=>rfl
 one:=fun x u hu=>by
  unfold yY at hu;simp only[List.mem_cons,List.not_mem_nil,or_false] at hu
  rcases hu with rfl|rfl|rfl|rfl|rfl|rfl|rfl|rfl|rfl|rfl|rfl<;>rfl
 und:=underlying22
 info:=VU
 zs:=rfl
 pos:=by decide
 small:=by decide
def oF(_:Oh):Prop:=True
structure In(w:World)(x:Oh):Prop where
 p:Sl w x.pA x.pn x.pc x.v.dV
 v:bT bG vF w x.vA x.vn x.vc x.v.vals
 r:bT aN rF w x.rA x.rn x.rc x.v.refs
 m:Mt.Fit x.v.mt
 d:x.v.round≤9223372036854775807
theorem In.later{w w':World}{x:Oh}(h:In w x)(hb:Below w.heap.size w w'):In w' x:=⟨h.p.later hb,h.v.later hb,h.r.later hb,h.m,h.d⟩
structure dS(w:World)(A:Option Addr)(n c:Nat)(l:List Oh):Prop where
 s:bT bB oF w A n c l
 i:∀x∈l,In w x
def vs(l:List Oh):List au.Ob:=l.map (·.v)
theorem gq(l:List Oh):(vs l).length=l.length:=List.length_map ..
theorem dB{l:List Oh}{i:Nat}{x:Oh}(h:l[i]?=some x):(vs l)[i]?=some x.v:=by
 unfold vs;rw[List.getElem?_map,h];rfl
theorem dS.later{w w':World}{A:Option Addr}{n c:Nat}{l:List Oh}(h:dS w A n c l)(hb:Below w.heap.size w w'):dS w' A n c l:=⟨h.s.later hb,fun x hx=>(h.i x hx).later hb⟩
theorem dS.none(w:World):dS w none 0 0 []:=⟨bT.none w,fun x hx=>by simp at hx⟩
theorem dS.len{w:World}{A:Option Addr}{n c:Nat}{l:List Oh}(h:dS w A n c l):l.length=n:=h.s.len
theorem dS.take{w:World}{A:Option Addr}{n c:Nat}{l:List Oh}(h:dS w A n c l){hi:Nat}(h2:hi≤n):dS w A hi c (l.take hi):=⟨h.s.take h2,fun x hx=>h.i x (List.mem_of_mem_take hx)⟩
theorem dS.drop{w:World}{A:Option Addr}{n c:Nat}{l:List Oh}(h:dS w A n c l){lo:Nat}(h2:lo≤n):dS w (mE 11 A lo c) (n-lo) (c-lo) (l.drop lo):=⟨h.s.drop h2,fun x hx=>h.i x (List.mem_of_mem_drop hx)⟩
theorem dS.sub{w:World}{A:Option Addr}{n c:Nat}{l:List Oh}(h:dS w A n c l){lo hi:Nat}(h1:lo≤hi)(h2:hi≤n):dS w (mE 11 A lo c) (hi-lo) (c-lo) ((l.drop lo).take (hi-lo)):=⟨h.s.sub h1 h2,fun x hx=>h.i x (List.mem_of_mem_drop (List.mem_of_mem_take hx))⟩
theorem dS.get{w:World}{A:Option Addr}{n c:Nat}{l:List Oh}(h:dS w A n c l){k:Nat}(hk:k<n):∃x,l[k]?=some x∧In w x:=by
 obtain⟨x,hx,_⟩:=h.s.get hk;exact⟨x,hx,h.i x (List.mem_of_getElem? hx)⟩
def Oh.sp(x:Oh)(A:Option Addr)(n c:Nat)(l:List aQ.Pr):Oh:=⟨{ x.v with dV:=l },A,n,c,x.vA,x.vn,x.vc,x.rA,x.rn,x.rc⟩
def Oh.sv(x:Oh)(A:Option Addr)(n c:Nat)(l:List Val.V):Oh:=⟨{ x.v with vals:=l },x.pA,x.pn,x.pc,A,n,c,x.rA,x.rn,x.rc⟩
def Oh.sr(x:Oh)(A:Option Addr)(n c:Nat)(l:List Rf):Oh:=⟨{ x.v with refs:=l },x.pA,x.pn,x.pc,x.vA,x.vn,x.vc,A,n,c⟩
def Oh.sd(x:Oh)(d:Int):Oh:=⟨{ x.v with round:=d },x.pA,x.pn,x.pc,x.vA,x.vn,x.vc,x.rA,x.rn,x.rc⟩
def Oh.sm(x:Oh)(m:kC):Oh:=⟨{ x.v with mt:=m },x.pA,x.pn,x.pc,x.vA,x.vn,x.vc,x.rA,x.rn,x.rc⟩
section
variable {w:World}{x:Oh}{A:Option Addr}{n c:Nat}
theorem In.sp(h:In w x){l:List aQ.Pr}(hs:Sl w A n c l):In w (x.sp A n c l):=⟨hs,h.v,h.r,h.m,h.d⟩
theorem In.sv(h:In w x){l:List Val.V}(hs:bT bG vF w A n c l):In w (x.sv A n c l):=⟨h.p,hs,h.r,h.m,h.d⟩
theorem In.sr(h:In w x){l:List Rf}(hs:bT aN rF w A n c l):In w (x.sr A n c l):=⟨h.p,h.v,hs,h.m,h.d⟩
theorem In.sd(h:In w x){d:Int}(hd:d≤9223372036854775807):In w (x.sd d):=⟨h.p,h.v,h.r,h.m,hd⟩
theorem In.sm(h:In w x){m:kC}(hm:Mt.Fit m):In w (x.sm m):=⟨h.p,h.v,h.r,hm,h.d⟩
end
theorem VQ:(prog.info? 69).map (·.size)=some 1:=by kernel_rfl
theorem VH:(prog.info? 70).map (·.size)=some 1:=by kernel_rfl
theorem wu:(prog.info? 71).map (·.size)=some 1:=by kernel_rfl
section
variable {b0:Nat}{w0 w:World}{L:List (Nat×TypeId×Array Value)}{R:List bV}{ops:Array Oper}{rest:List Oper}{o:Oper}{a:Act}{Q:Exit→Act→World→Prop}{K:Act→World→Prop}{E:Prop}{g:Nat}{x y:Oh}
theorem lV(HK:Hid (Kn b0 w0 w L R))(i:Nat){p:Operand}(ho:o.op=.load 75 p:=by rfl)(hL:L[i]?=some (g,75,cu x):=by rfl)(hx:a.eval p=.pointer (some ⟨g,0,none⟩):=by rfl):
  (execOp a.eval o).run prog w=.ok (.value (.agg (cu x))) w:=
 dY HK p ho i hL hx (cu x) (fun j _=>by rw[Nat.zero_add]) underlying75 zK
theorem kJ(HK:Hid (Kn b0 w0 w L R))(i:Nat){p:Operand}(ho:o.op=.load 9 p:=by rfl)(hL:L[i]?=some (g,75,cu x):=by rfl)(hx:a.eval p=.pointer (some ⟨g,0,none⟩):=by rfl):
  (execOp a.eval o).run prog w=.ok (.value (.string x.v.name)) w:=aT HK _ p ho i hL hx underlying9
theorem jM(HK:Hid (Kn b0 w0 w L R))(i:Nat){p:Operand}(ho:o.op=.load 3 p:=by rfl)(hL:L[i]?=some (g,75,cu x):=by rfl)(hx:a.eval p=.pointer (some ⟨g,1,none⟩):=by rfl):
  (execOp a.eval o).run prog w=.ok (.value (.int .i64 x.v.kind)) w:=aT HK _ p ho i hL hx underlying3
theorem ow(HK:Hid (Kn b0 w0 w L R))(i:Nat){p:Operand}(ho:o.op=.load 3 p:=by rfl)(hL:L[i]?=some (g,75,cu x):=by rfl)(hx:a.eval p=.pointer (some ⟨g,2,none⟩):=by rfl):
  (execOp a.eval o).run prog w=.ok (.value (.int .i64 x.v.cap)) w:=aT HK _ p ho i hL hx underlying3
theorem vX(HK:Hid (Kn b0 w0 w L R))(i:Nat){p:Operand}(ho:o.op=.load 69 p:=by rfl)(hL:L[i]?=some (g,75,cu x):=by rfl)(hx:a.eval p=.pointer (some ⟨g,3,none⟩):=by rfl):
  (execOp a.eval o).run prog w=.ok (.value (.slice x.pA x.pn x.pc)) w:=aT HK _ p ho i hL hx underlying69
theorem Bn(HK:Hid (Kn b0 w0 w L R))(i:Nat){p:Operand}(ho:o.op=.load 70 p:=by rfl)(hL:L[i]?=some (g,75,cu x):=by rfl)(hx:a.eval p=.pointer (some ⟨g,4,none⟩):=by rfl):
  (execOp a.eval o).run prog w=.ok (.value (.slice x.vA x.vn x.vc)) w:=aT HK _ p ho i hL hx underlying70
theorem kI(HK:Hid (Kn b0 w0 w L R))(i:Nat){p:Operand}(ho:o.op=.load 71 p:=by rfl)(hL:L[i]?=some (g,75,cu x):=by rfl)(hx:a.eval p=.pointer (some ⟨g,5,none⟩):=by rfl):
  (execOp a.eval o).run prog w=.ok (.value (.slice x.rA x.rn x.rc)) w:=aT HK _ p ho i hL hx underlying71
theorem Dw(HK:Hid (Kn b0 w0 w L R))(i:Nat){p:Operand}(ho:o.op=.load 3 p:=by rfl)(hL:L[i]?=some (g,75,cu x):=by rfl)(hx:a.eval p=.pointer (some ⟨g,6,none⟩):=by rfl):
  (execOp a.eval o).run prog w=.ok (.value (.int .i64 x.v.round)) w:=aT HK _ p ho i hL hx underlying3
theorem afz(HK:Hid (Kn b0 w0 w L R))(i:Nat){p:Operand}(ho:o.op=.load 3 p)(hL:L[i]?=some (g,75,cu x))(hx:a.eval p=.pointer (some ⟨g,7,none⟩)):
  (execOp a.eval o).run prog w=.ok (.value (.int .i64 x.v.mt.n)) w:=aT HK _ p ho i hL hx underlying3
theorem Dv(HK:Hid (Kn b0 w0 w L R))(i:Nat){p:Operand}(ho:o.op=.load 73 p:=by rfl)(hL:L[i]?=some (g,75,cu x):=by rfl)(hx:a.eval p=.pointer (some ⟨g,7,none⟩):=by rfl):
  (execOp a.eval o).run prog w=.ok (.value (.agg #[.int .i64 x.v.mt.n,.int .u64 (x.v.mt.s:Int),.int .u64 (x.v.mt.l:Int),.int .u64 (x.v.mt.m:Int)])) w:=
 dY HK p ho i hL hx #[.int .i64 x.v.mt.n,.int .u64 (x.v.mt.s:Int),.int .u64 (x.v.mt.l:Int),.int .u64 (x.v.mt.m:Int)] (fun j hj=>by
  match j,hj with
  | 0,_|1,_|2,_|3,_=>rfl) underlying73 tV
theorem pV(HK:Hid (Kn b0 w0 w L R))
  (h:∀w' g,Hid (Kn b0 w0 w' (L++[(g,75,cu Co)]) R)→wpList prog ops Q rest (a.put o.dst (.pointer (some ⟨g,0,none⟩))) w') (hgd:o.guard=none:=by rfl)(ho:o.op=.alloc 75:=by rfl):wpList prog ops Q (o::rest) a w:=
 lZ bB HK hgd ho h
theorem jF(HK:Hid (Kn b0 w0 w L R))(i:Nat){p:Operand}{q:Operand}
  (h:∀w',Hid (Kn b0 w0 w' (L.set i (g,75,cu y)) R)→wpList prog ops Q rest (a.put o.dst undef) w') (hgd:o.guard=none:=by rfl)(ho:o.op=.store 75 p q:=by rfl)(hL:L[i]?=some (g,75,cu x):=by rfl)(hx:a.eval p=.pointer (some ⟨g,0,none⟩):=by rfl)(hy:a.eval q=.agg (cu y):=by rfl):wpList prog ops Q (o::rest) a w:=
 lY bB (p2:=y) HK i hgd p q ho hL hx hy h
theorem kL(HK:Hid (Kn b0 w0 w L R))(i:Nat){p:Operand}{q:Operand}{A:Option Addr}{n c:Nat}(l:List aQ.Pr)
  (h:∀w',Hid (Kn b0 w0 w' (L.set i (g,75,cu (x.sp A n c l))) R)→wpList prog ops Q rest (a.put o.dst undef) w') (hgd:o.guard=none:=by rfl)(ho:o.op=.store 69 p q:=by rfl)(hL:L[i]?=some (g,75,cu x):=by rfl)(hx:a.eval p=.pointer (some ⟨g,3,none⟩):=by rfl)(hy:a.eval q=.slice A n c:=by rfl):wpList prog ops Q (o::rest) a w:=
 jK HK i hgd p q ho hL hx hy (by show 3<11;decide) VQ fun w' h1 _=>h w' h1
theorem pO(HK:Hid (Kn b0 w0 w L R))(i:Nat){p:Operand}{q:Operand}{A:Option Addr}{n c:Nat}(l:List Val.V)
  (h:∀w',Hid (Kn b0 w0 w' (L.set i (g,75,cu (x.sv A n c l))) R)→wpList prog ops Q rest (a.put o.dst undef) w') (hgd:o.guard=none:=by rfl)(ho:o.op=.store 70 p q:=by rfl)(hL:L[i]?=some (g,75,cu x):=by rfl)(hx:a.eval p=.pointer (some ⟨g,4,none⟩):=by rfl)(hy:a.eval q=.slice A n c:=by rfl):wpList prog ops Q (o::rest) a w:=
 jK HK i hgd p q ho hL hx hy (by show 4<11;decide) VH fun w' h1 _=>h w' h1
theorem fE(HK:Hid (Kn b0 w0 w L R))(i:Nat){p:Operand}{q:Operand}{A:Option Addr}{n c:Nat}(l:List Rf)
  (h:∀w',Hid (Kn b0 w0 w' (L.set i (g,75,cu (x.sr A n c l))) R)→wpList prog ops Q rest (a.put o.dst undef) w') (hgd:o.guard=none:=by rfl)(ho:o.op=.store 71 p q:=by rfl)(hL:L[i]?=some (g,75,cu x):=by rfl)(hx:a.eval p=.pointer (some ⟨g,5,none⟩):=by rfl)(hy:a.eval q=.slice A n c:=by rfl):wpList prog ops Q (o::rest) a w:=
 jK HK i hgd p q ho hL hx hy (by show 5<11;decide) wu fun w' h1 _=>h w' h1
theorem JO(HK:Hid (Kn b0 w0 w L R))(i:Nat)(hgd:o.guard=none){p:Operand}{q:Operand}(ho:o.op=.store 3 p q)(hL:L[i]?=some (g,75,cu x))(hx:a.eval p=.pointer (some ⟨g,6,none⟩)){d:Int}(hy:a.eval q=.int .i64 d)
  (h:∀w',Hid (Kn b0 w0 w' (L.set i (g,75,cu (x.sd d))) R)→wpList prog ops Q rest (a.put o.dst undef) w'):wpList prog ops Q (o::rest) a w:=
 jK HK i hgd p q ho hL hx hy (by show 6<11;decide) NY fun w' h1 _=>h w' h1
theorem JN(HK:Hid (Kn b0 w0 w L R))(i:Nat)(hgd:o.guard=none){p:Operand}{q:Operand}(ho:o.op=.store 73 p q)(hL:L[i]?=some (g,75,cu x))(hx:a.eval p=.pointer (some ⟨g,7,none⟩)){m:kC}(hy:a.eval q=.agg #[.int .i64 m.n,.int .u64 (m.s:Int),.int .u64 (m.l:Int),.int .u64 (m.m:Int)])
  (h:∀w',Hid (Kn b0 w0 w' (L.set i (g,75,cu (x.sm m))) R)→wpList prog ops Q rest (a.put o.dst undef) w'):wpList prog ops Q (o::rest) a w:=
 iL HK i hgd p q ho hL hx hy (by show 7+4≤11;decide) tV fun w' h1 _=>h w' (by
  have e:putCells (cu x) 7 (#[Value.int .i64 m.n,.int .u64 (m.s:Int),.int .u64 (m.l:Int),.int .u64 (m.m:Int)]:Array Value).toList=cu (x.sm m):=rfl;rw[e] at h1
  exact h1)
end
section
variable {w:World}{o:Oper}{a:Act}{x:Oh}
theorem gL{b off:Nat}{p:Operand}(hc:∀j v,(yY x)[j]?=some v→w.cell? ⟨b,off+j,none⟩=some v)(ho:o.op=.load 75 p:=by rfl)(hx:a.eval p=.pointer (some ⟨b,off,none⟩):=by rfl):
  (execOp a.eval o).run prog w=.ok (.value (.agg (cu x))) w:=fI bB (x:=x) (p:=p) (ho:=ho) (hx:=hx) underlying75 hc
theorem jB{b off:Nat}{p:Operand}(hc:∀j v,(yY x)[j]?=some v→w.cell? ⟨b,off+j,none⟩=some v)(ho:o.op=.load 9 p:=by rfl)(hx:a.eval p=.pointer (some ⟨b,off,none⟩):=by rfl):
  (execOp a.eval o).run prog w=.ok (.value (.string x.v.name)) w:=dQ p (ho:=ho) (hx:=hx) (hc 0 _ rfl) underlying9
theorem fB{b off:Nat}{p:Operand}(hc:∀j v,(yY x)[j]?=some v→w.cell? ⟨b,off+j,none⟩=some v)(ho:o.op=.load 3 p:=by rfl)(hx:a.eval p=.pointer (some ⟨b,off+1,none⟩):=by rfl):
  (execOp a.eval o).run prog w=.ok (.value (.int .i64 x.v.kind)) w:=dQ p (ho:=ho) (hx:=hx) (hc 1 _ rfl) underlying3
theorem sM{b off:Nat}{p:Operand}(hc:∀j v,(yY x)[j]?=some v→w.cell? ⟨b,off+j,none⟩=some v)(ho:o.op=.load 71 p:=by rfl)(hx:a.eval p=.pointer (some ⟨b,off+5,none⟩):=by rfl):
  (execOp a.eval o).run prog w=.ok (.value (.slice x.rA x.rn x.rc)) w:=dQ p (ho:=ho) (hx:=hx) (hc 5 _ rfl) underlying71
theorem bH{b off n c i:Nat}{q:Operand}{r:Operand}(h:i<n)(ho:o.op=.indexAddr 22 q r:=by rfl)(hx:a.eval q=.slice (some ⟨b,off,none⟩) n c:=by rfl)(hq:a.eval r=.int .i64 (i:Int):=by rfl):
  (execOp a.eval o).run prog w=.ok (.value (.pointer (some ⟨b,off+i*11,none⟩))) w:=dZ bB (x:=q) (q:=r) (ho:=ho) (hx:=hx) (hq:=hq) h
end
end
section
open Go.ChangeShapes Go.WideShapes Go.Deep Go.RowKit
def fK(s:aG.S):Array Value:=#[.bool s.live,.int .i64 s.ep,.int .i64 s.rq,.bool s.dn,.int .i64 s.p.e,.int .i64 s.p.v.k,.int .i64 s.p.v.n,.int .u64 (s.p.v.f:Int),.string s.p.v.s]
def dU(t:aG.T):Array Value:=#[.bool t.s0.live,.int .i64 t.s0.ep,.int .i64 t.s0.rq,.bool t.s0.dn,.int .i64 t.s0.p.e,.int .i64 t.s0.p.v.k,.int .i64 t.s0.p.v.n,.int .u64 (t.s0.p.v.f:Int),.string t.s0.p.v.s,.bool t.s1.live,.int .i64 t.s1.ep,.int .i64 t.s1.rq,.bool t.s1.dn,.int .i64 t.s1.p.e,.int .i64 t.s1.p.v.k,.int .i64 t.s1.p.v.n,.int .u64 (t.s1.p.v.f:Int),.string t.s1.p.v.s,.bool t.s2.live,.int .i64 t.s2.ep,.int .i64 t.s2.rq,.bool t.s2.dn,.int .i64 t.s2.p.e,.int .i64 t.s2.p.v.k,.int .i64 t.s2.p.v.n,.int .u64 (t.s2.p.v.f:Int),.string t.s2.p.v.s,.bool t.s3.live,.int .i64 t.s3.ep,.int .i64 t.s3.rq,.bool t.s3.dn,.int .i64 t.s3.p.e,.int .i64 t.s3.p.v.k,.int .i64 t.s3.p.v.n,.int .u64 (t.s3.p.v.f:Int),.string t.s3.p.v.s,.bool t.s4.live,.int .i64 t.s4.ep,.int .i64 t.s4.rq,.bool t.s4.dn,.int .i64 t.s4.p.e,.int .i64 t.s4.p.v.k,.int .i64 t.s4.p.v.n,.int .u64 (t.s4.p.v.f:Int),.string t.s4.p.v.s]
def tz:aG.T:=⟨aG.z,aG.z,aG.z,aG.z,aG.z⟩
theorem VK:(prog.info? 30).map (fun i=>(i.zero,i.size,i.bytes))=some (some (Value.agg (fK aG.z)),9,80):=by kernel_rfl
theorem qh:(prog.info? 30).map (·.size)=some 9:=by kernel_rfl
theorem VI:(prog.info? 31).map (fun i=>(i.zero,i.size,i.bytes))=some (some (Value.agg (dU tz)),45,400):=by kernel_rfl
theorem tT:(prog.info? 31).map (·.size)=some 45:=by kernel_rfl
theorem Tk{c:Int}(h:0≤c∧c<5)(t:aG.T)(j:Nat)(hj:j<9):(dU t)[c.toNat*9+j]?=(fK (t.get c))[j]?:=by
 rcases aG.fO h with rfl|rfl|rfl|rfl|rfl
 ·match j,hj with
  | 0,_|1,_|2,_|3,_|4,_|5,_|6,_|7,_|8,_=>rfl
 ·match j,hj with
  | 0,_|1,_|2,_|3,_|4,_|5,_|6,_|7,_|8,_=>rfl
 ·match j,hj with
  | 0,_|1,_|2,_|3,_|4,_|5,_|6,_|7,_|8,_=>rfl
 ·match j,hj with
  | 0,_|1,_|2,_|3,_|4,_|5,_|6,_|7,_|8,_=>rfl
 ·match j,hj with
  | 0,_|1,_|2,_|3,_|4,_|5,_|6,_|7,_|8,_=>rfl
theorem aew{c:Int}(h:0≤c∧c<5)(t:aG.T)(s:aG.S):putCells (dU t) (c.toNat*9) (fK s).toList=dU (t.set c s):=by
 rcases aG.fO h with rfl|rfl|rfl|rfl|rfl<;>kernel_rfl
theorem ahZ{c:Int}(h:0≤c∧c<5)(t:aG.T)(b:Bool):(dU t).setIfInBounds (c.toNat*9+3) (.bool b)=dU (t.set c { t.get c with dn:=b }):=by
 rcases aG.fO h with rfl|rfl|rfl|rfl|rfl<;>kernel_rfl
theorem akM{c:Int}(h:0≤c∧c<5)(t:aG.T)(p:au.Rp):putCells (dU t) (c.toNat*9+4) (dG p).toList=dU (t.set c { t.get c with p:=p }):=by
 rcases aG.fO h with rfl|rfl|rfl|rfl|rfl<;>kernel_rfl
theorem Tj{c:Int}(h:0≤c∧c<5)(t:aG.T)(j:Nat)(hj:j<9:=by decide):c.toNat*9+j<(dU t).size:=by
 show _<45
 omega
theorem TN{P:Program}{e:TypeId}{z:Value}{k b:Nat}(hi:(P.info? e).map (fun i=>(i.zero,i.size,i.bytes))=some (some z,k,b))(w:World):(Instr.alloc e true (.tuple #[])).run P w=.ok (.pointer (some ⟨w.heap.size,0,none⟩)) (w.alloc (.cells z.cells e)):=by
 obtain⟨i0,hi,hz0,hz1,hz2⟩:=info_parts hi;simp[Instr.alloc,zeroValue,typeInfo,hi,hz0,newVar,newRow]
section
variable {b0:Nat}{w0 w:World}{L:List (Nat×TypeId×Array Value)}{R:List bV}{ops:Array Oper}{rest:List Oper}{o:Oper}{a:Act}{Q:Exit→Act→World→Prop}{K:Act→World→Prop}{E:Prop}{g:Nat}{s u:aG.S}{t t2:aG.T}{p q:au.Rp}{c:Int}
theorem vW{e:TypeId}{z:Value}{k b:Nat}(hi:(prog.info? e).map (fun i=>(i.zero,i.size,i.bytes))=some (some z,k,b))(HK:Hid (Kn b0 w0 w L R))(ho:o.op=.alloc e)
  (h:∀w' g,Hid (Kn b0 w0 w' (L++[(g,e,z.cells)]) R)→Hid (Below w.heap.size w w')→K (a.put o.dst (.pointer (some ⟨g,0,none⟩))) w'):o.wp prog a w K Q:=by
 have h4:=h _ w.heap.size (zH (HK.out.alloc e z.cells)) (zH ((Below.refl _ w).alloc (Nat.le_refl _) _));unfold Oper.wp execOp;simp only[ho,Sem.run_bind,Sem.run_pure,TN hi,Result.andThen_ok];exact h4
theorem lC(HK:Hid (Kn b0 w0 w L R)){ty:TypeId}(x:Operand)(ho:o.op=.load ty x)(i:Nat){off:Nat}{e:TypeId}{cs:Array Value}(hL:L[i]?=some (g,e,cs))(hx:a.eval x=.pointer (some ⟨g,off,none⟩))
  (vs:Array Value) (hv:∀j,j<vs.size→cs[off+j]?=vs[j]?) {d:TypeDesc} (hu:prog.underlying ty=some d)  (hi:(prog.info? ty).map (·.size)=some vs.size) (hd:d.isRow=true:=by rfl) :
  (execOp a.eval o).run prog w=.ok (.value (.agg vs)) w:=by
 have hc:w.rangeAt g off vs.toList:=fun j v hj=>by
  exact acQ
 have h:=run_loadVar_mid (P:=prog) w g off ty vs.toList _ hc hu hd (by simpa using hi);exact YF
theorem bE(HK:Hid (Kn b0 w0 w L R))
  (h:∀w' g,Hid (Kn b0 w0 w' (L++[(g,30,fK aG.z)]) R)→wpList prog ops Q rest (a.put o.dst (.pointer (some ⟨g,0,none⟩))) w') (hgd:o.guard=none:=by rfl)(ho:o.op=.alloc 30:=by rfl):wpList prog ops Q (o::rest) a w:=
 wpList_plain hgd fun _ hK=>vW VK HK ho fun w' g h1 _=>hK _ _ (h w' g h1)
theorem eO(HK:Hid (Kn b0 w0 w L R))
  (h:∀w' g,Hid (Kn b0 w0 w' (L++[(g,31,dU tz)]) R)→wpList prog ops Q rest (a.put o.dst (.pointer (some ⟨g,0,none⟩))) w') (hgd:o.guard=none:=by rfl)(ho:o.op=.alloc 31:=by rfl):wpList prog ops Q (o::rest) a w:=
 wpList_plain hgd fun _ hK=>vW VI HK ho fun w' g h1 _=>hK _ _ (h w' g h1)
theorem aas(HK:Hid (Kn b0 w0 w L R))(i:Nat)(x y:Operand)(ho:o.op=.store 30 x y)(hL:L[i]?=some (g,30,fK s))(hx:a.eval x=.pointer (some ⟨g,0,none⟩))(hy:a.eval y=.agg (fK u))
  (h:∀w',Hid (Kn b0 w0 w' (L.set i (g,30,fK u)) R)→K (a.put o.dst undef) w'):o.wp prog a w K Q:=
 lQ HK x y ho i hL hx hy (by show 9≤9;decide) qh (h1:=(by simp[fK,Value.oneCell'])) fun w' h1 _=>h w' (by
  have e:putCells (fK s) 0 (fK u).toList=fK u:=by rw[cK (vs:=(fK u).toList) (cs:=fK s),Array.toArray_toList]
  rw[e] at h1
  exact h1)
theorem bD(HK:Hid (Kn b0 w0 w L R))(i:Nat){x:Operand}{y:Operand}
  (h:∀w',Hid (Kn b0 w0 w' (L.set i (g,30,fK u)) R)→wpList prog ops Q rest (a.put o.dst undef) w') (hgd:o.guard=none:=by rfl)(ho:o.op=.store 30 x y:=by rfl)(hL:L[i]?=some (g,30,fK s):=by rfl)(hx:a.eval x=.pointer (some ⟨g,0,none⟩):=by rfl)(hy:a.eval y=.agg (fK u):=by rfl):wpList prog ops Q (o::rest) a w:=
 wpList_plain hgd fun _ hK=>aas HK i x y ho hL hx hy fun w' h1=>hK _ _ (h w' h1)
theorem NR(HK:Hid (Kn b0 w0 w L R))(i:Nat)(x y:Operand)(ho:o.op=.store 31 x y)(hL:L[i]?=some (g,31,dU t))(hx:a.eval x=.pointer (some ⟨g,0,none⟩))(hy:a.eval y=.agg (dU t2))
  (h:∀w',Hid (Kn b0 w0 w' (L.set i (g,31,dU t2)) R)→K (a.put o.dst undef) w'):o.wp prog a w K Q:=
 lQ HK x y ho i hL hx hy (by show 45≤45;decide) tT (h1:=(by simp[dU,Value.oneCell'])) fun w' h1 _=>h w' (by
  have e:putCells (dU t) 0 (dU t2).toList=dU t2:=by rw[cK (vs:=(dU t2).toList) (cs:=dU t),Array.toArray_toList]
  rw[e] at h1
  exact h1)
theorem dH(HK:Hid (Kn b0 w0 w L R))(i:Nat){x:Operand}{y:Operand}
  (h:∀w',Hid (Kn b0 w0 w' (L.set i (g,31,dU t2)) R)→wpList prog ops Q rest (a.put o.dst undef) w') (hgd:o.guard=none:=by rfl)(ho:o.op=.store 31 x y:=by rfl)(hL:L[i]?=some (g,31,dU t):=by rfl)(hx:a.eval x=.pointer (some ⟨g,0,none⟩):=by rfl)(hy:a.eval y=.agg (dU t2):=by rfl):wpList prog ops Q (o::rest) a w:=
 wpList_plain hgd fun _ hK=>NR HK i x y ho hL hx hy fun w' h1=>hK _ _ (h w' h1)
theorem Gh(HK:Hid (Kn b0 w0 w L R))(i:Nat){x:Operand}{y:Operand}
  (h:∀w',Hid (Kn b0 w0 w' (L.set i (g,31,dU t2)) R)→K (a.put o.dst undef) w') (hgd:o.guard=none:=by rfl)(ho:o.op=.store 31 x y:=by rfl)(hL:L[i]?=some (g,31,dU t):=by rfl)(hx:a.eval x=.pointer (some ⟨g,0,none⟩):=by rfl)(hy:a.eval y=.agg (dU t2):=by rfl):if Region.wanted o (yielded ops a.tmps)=true then Oper.wp prog o a w K Q else E:=by
 rw[if_pos (by simp[Region.wanted,hgd])];exact NR HK i x y ho hL hx hy h
theorem aal(HK:Hid (Kn b0 w0 w L R))(i:Nat)(hc:0≤c∧c<5)(x y:Operand)(ho:o.op=.store 30 x y)(hL:L[i]?=some (g,31,dU t))(hx:a.eval x=.pointer (some ⟨g,c.toNat*9,none⟩))(hy:a.eval y=.agg (fK s))
  (h:∀w',Hid (Kn b0 w0 w' (L.set i (g,31,dU (t.set c s))) R)→K (a.put o.dst undef) w'):o.wp prog a w K Q:=
 lQ HK x y ho i hL hx hy (by have:=Tj hc t 8;show _+9≤_;omega) qh (h1:=(by simp[fK,Value.oneCell'])) fun w' h1 _=>h w' (by
  rw[aew hc] at h1
  exact h1)
theorem mq(HK:Hid (Kn b0 w0 w L R))(i:Nat)(hc:0≤c∧c<5){x:Operand}{y:Operand}
  (h:∀w',Hid (Kn b0 w0 w' (L.set i (g,31,dU (t.set c s))) R)→wpList prog ops Q rest (a.put o.dst undef) w') (hgd:o.guard=none:=by rfl)(ho:o.op=.store 30 x y:=by rfl)(hL:L[i]?=some (g,31,dU t):=by rfl)(hx:a.eval x=.pointer (some ⟨g,c.toNat*9,none⟩):=by rfl)(hy:a.eval y=.agg (fK s):=by rfl):wpList prog ops Q (o::rest) a w:=
 wpList_plain hgd fun _ hK=>aal HK i hc x y ho hL hx hy fun w' h1=>hK _ _ (h w' h1)
theorem aam(HK:Hid (Kn b0 w0 w L R))(i:Nat)(hc:0≤c∧c<5)(x y:Operand)(ho:o.op=.store 28 x y)(hL:L[i]?=some (g,31,dU t))(hx:a.eval x=.pointer (some ⟨g,c.toNat*9+4,none⟩))(hy:a.eval y=.agg (dG p))
  (h:∀w',Hid (Kn b0 w0 w' (L.set i (g,31,dU (t.set c { t.get c with p:=p }))) R)→K (a.put o.dst undef) w'):o.wp prog a w K Q:=
 lQ HK x y ho i hL hx hy (by have:=Tj hc t 8;show _+5≤_;omega) kg fun w' h1 _=>h w' (by
  rw[akM hc] at h1
  exact h1)
theorem JI(HK:Hid (Kn b0 w0 w L R))(i:Nat)(hgd:o.guard=none)(hc:0≤c∧c<5){x:Operand}{y:Operand}(ho:o.op=.store 28 x y)(hL:L[i]?=some (g,31,dU t))(hx:a.eval x=.pointer (some ⟨g,c.toNat*9+4,none⟩))(hy:a.eval y=.agg (dG p))
  (h:∀w',Hid (Kn b0 w0 w' (L.set i (g,31,dU (t.set c { t.get c with p:=p }))) R)→wpList prog ops Q rest (a.put o.dst undef) w'):wpList prog ops Q (o::rest) a w:=
 wpList_plain hgd fun _ hK=>aam HK i hc x y ho hL hx hy fun w' h1=>hK _ _ (h w' h1)
theorem aan{d:Bool}(HK:Hid (Kn b0 w0 w L R))(i:Nat)(hc:0≤c∧c<5)(x y:Operand)(ho:o.op=.store 4 x y)(hL:L[i]?=some (g,31,dU t))(hx:a.eval x=.pointer (some ⟨g,c.toNat*9+3,none⟩))(hy:a.eval y=.bool d)
  (h:∀w',Hid (Kn b0 w0 w' (L.set i (g,31,dU (t.set c { t.get c with dn:=d }))) R)→K (a.put o.dst undef) w'):o.wp prog a w K Q:=
 nR HK x y ho i hL hx hy (by have:=Tj hc t 3;omega) fun w' h1 _=>h w' (by rw[ahZ hc] at h1;exact h1)
theorem JJ{d:Bool}(HK:Hid (Kn b0 w0 w L R))(i:Nat)(hgd:o.guard=none)(hc:0≤c∧c<5){x:Operand}{y:Operand}(ho:o.op=.store 4 x y)(hL:L[i]?=some (g,31,dU t))(hx:a.eval x=.pointer (some ⟨g,c.toNat*9+3,none⟩))(hy:a.eval y=.bool d)
  (h:∀w',Hid (Kn b0 w0 w' (L.set i (g,31,dU (t.set c { t.get c with dn:=d }))) R)→wpList prog ops Q rest (a.put o.dst undef) w'):wpList prog ops Q (o::rest) a w:=
 wpList_plain hgd fun _ hK=>aan HK i hc x y ho hL hx hy fun w' h1=>hK _ _ (h w' h1)
theorem aar{d:Bool}(HK:Hid (Kn b0 w0 w L R))(i:Nat)(x y:Operand)(ho:o.op=.store 4 x y)(hL:L[i]?=some (g,30,fK s))(hx:a.eval x=.pointer (some ⟨g,0,none⟩))(hy:a.eval y=.bool d)
  (h:∀w',Hid (Kn b0 w0 w' (L.set i (g,30,fK { s with live:=d })) R)→K (a.put o.dst undef) w'):o.wp prog a w K Q:=
 nR HK x y ho i hL hx hy (by show 0<9;decide) fun w' h1 _=>h w' h1
theorem uL{d:Bool}(HK:Hid (Kn b0 w0 w L R))(i:Nat){x:Operand}{y:Operand}
  (h:∀w',Hid (Kn b0 w0 w' (L.set i (g,30,fK { s with live:=d })) R)→wpList prog ops Q rest (a.put o.dst undef) w') (hgd:o.guard=none:=by rfl)(ho:o.op=.store 4 x y:=by rfl)(hL:L[i]?=some (g,30,fK s):=by rfl)(hx:a.eval x=.pointer (some ⟨g,0,none⟩):=by rfl)(hy:a.eval y=.bool d:=by rfl):wpList prog ops Q (o::rest) a w:=
 wpList_plain hgd fun _ hK=>aar HK i x y ho hL hx hy fun w' h1=>hK _ _ (h w' h1)
theorem aap{n:Int}(HK:Hid (Kn b0 w0 w L R))(i:Nat)(x y:Operand)(ho:o.op=.store 3 x y)(hL:L[i]?=some (g,30,fK s))(hx:a.eval x=.pointer (some ⟨g,2,none⟩))(hy:a.eval y=.int .i64 n)
  (h:∀w',Hid (Kn b0 w0 w' (L.set i (g,30,fK { s with rq:=n })) R)→K (a.put o.dst undef) w'):o.wp prog a w K Q:=
 nR HK x y ho i hL hx hy (by show 2<9;decide) fun w' h1 _=>h w' h1
theorem JM{n:Int}(HK:Hid (Kn b0 w0 w L R))(i:Nat)(hgd:o.guard=none){x:Operand}{y:Operand}(ho:o.op=.store 3 x y)(hL:L[i]?=some (g,30,fK s))(hx:a.eval x=.pointer (some ⟨g,2,none⟩))(hy:a.eval y=.int .i64 n)
  (h:∀w',Hid (Kn b0 w0 w' (L.set i (g,30,fK { s with rq:=n })) R)→wpList prog ops Q rest (a.put o.dst undef) w'):wpList prog ops Q (o::rest) a w:=
 wpList_plain hgd fun _ hK=>aap HK i x y ho hL hx hy fun w' h1=>hK _ _ (h w' h1)
theorem aat{d:Bool}(HK:Hid (Kn b0 w0 w L R))(i:Nat)(x y:Operand)(ho:o.op=.store 4 x y)(hL:L[i]?=some (g,30,fK s))(hx:a.eval x=.pointer (some ⟨g,3,none⟩))(hy:a.eval y=.bool d)
  (h:∀w',Hid (Kn b0 w0 w' (L.set i (g,30,fK { s with dn:=d })) R)→K (a.put o.dst undef) w'):o.wp prog a w K Q:=
 nR HK x y ho i hL hx hy (by show 3<9;decide) fun w' h1 _=>h w' h1
theorem zY{d:Bool}(HK:Hid (Kn b0 w0 w L R))(i:Nat)(hgd:o.guard=none){x:Operand}{y:Operand}(ho:o.op=.store 4 x y)(hL:L[i]?=some (g,30,fK s))(hx:a.eval x=.pointer (some ⟨g,3,none⟩))(hy:a.eval y=.bool d)
  (h:∀w',Hid (Kn b0 w0 w' (L.set i (g,30,fK { s with dn:=d })) R)→wpList prog ops Q rest (a.put o.dst undef) w'):wpList prog ops Q (o::rest) a w:=
 wpList_plain hgd fun _ hK=>aat HK i x y ho hL hx hy fun w' h1=>hK _ _ (h w' h1)
theorem aao{n:Int}(HK:Hid (Kn b0 w0 w L R))(i:Nat)(x y:Operand)(ho:o.op=.store 23 x y)(hL:L[i]?=some (g,30,fK s))(hx:a.eval x=.pointer (some ⟨g,4,none⟩))(hy:a.eval y=.int .i64 n)
  (h:∀w',Hid (Kn b0 w0 w' (L.set i (g,30,fK { s with p:=⟨n,s.p.v⟩ })) R)→K (a.put o.dst undef) w'):o.wp prog a w K Q:=
 nR HK x y ho i hL hx hy (by show 4<9;decide) fun w' h1 _=>h w' h1
theorem JL{n:Int}(HK:Hid (Kn b0 w0 w L R))(i:Nat)(hgd:o.guard=none){x:Operand}{y:Operand}(ho:o.op=.store 23 x y)(hL:L[i]?=some (g,30,fK s))(hx:a.eval x=.pointer (some ⟨g,4,none⟩))(hy:a.eval y=.int .i64 n)
  (h:∀w',Hid (Kn b0 w0 w' (L.set i (g,30,fK { s with p:=⟨n,s.p.v⟩ })) R)→wpList prog ops Q rest (a.put o.dst undef) w'):wpList prog ops Q (o::rest) a w:=
 wpList_plain hgd fun _ hK=>aao HK i x y ho hL hx hy fun w' h1=>hK _ _ (h w' h1)
theorem aaq(HK:Hid (Kn b0 w0 w L R))(i:Nat)(x y:Operand)(ho:o.op=.store 28 x y)(hL:L[i]?=some (g,30,fK s))(hx:a.eval x=.pointer (some ⟨g,4,none⟩))(hy:a.eval y=.agg (dG p))
  (h:∀w',Hid (Kn b0 w0 w' (L.set i (g,30,fK { s with p:=p })) R)→K (a.put o.dst undef) w'):o.wp prog a w K Q:=
 lQ HK x y ho i hL hx hy (by show 4+5≤9;decide) kg fun w' h1 _=>h w' h1
theorem zW(HK:Hid (Kn b0 w0 w L R))(i:Nat)(hgd:o.guard=none){x:Operand}{y:Operand}(ho:o.op=.store 28 x y)(hL:L[i]?=some (g,30,fK s))(hx:a.eval x=.pointer (some ⟨g,4,none⟩))(hy:a.eval y=.agg (dG p))
  (h:∀w',Hid (Kn b0 w0 w' (L.set i (g,30,fK { s with p:=p })) R)→wpList prog ops Q rest (a.put o.dst undef) w'):wpList prog ops Q (o::rest) a w:=
 wpList_plain hgd fun _ hK=>aaq HK i x y ho hL hx hy fun w' h1=>hK _ _ (h w' h1)
theorem Ie(HK:Hid (Kn b0 w0 w L R))(i:Nat){x:Operand}(ho:o.op=.load 30 x:=by rfl)(hL:L[i]?=some (g,30,fK s):=by rfl)(hx:a.eval x=.pointer (some ⟨g,0,none⟩):=by rfl):
  (execOp a.eval o).run prog w=.ok (.value (.agg (fK s))) w:=
 lC HK x ho i hL hx (fK s) (fun j _=>by rw[Nat.zero_add]) underlying30 qh
theorem qR(HK:Hid (Kn b0 w0 w L R))(i:Nat){x:Operand}(ho:o.op=.load 31 x:=by rfl)(hL:L[i]?=some (g,31,dU t):=by rfl)(hx:a.eval x=.pointer (some ⟨g,0,none⟩):=by rfl):
  (execOp a.eval o).run prog w=.ok (.value (.agg (dU t))) w:=
 lC HK x ho i hL hx (dU t) (fun j _=>by rw[Nat.zero_add]) underlying31 tT
theorem kts(HK:Hid (Kn b0 w0 w L R))(i:Nat)(hc:0≤c∧c<5){x:Operand}(ho:o.op=.load 30 x:=by rfl)(hL:L[i]?=some (g,31,dU t):=by rfl)(hx:a.eval x=.pointer (some ⟨g,c.toNat*9,none⟩):=by rfl):
  (execOp a.eval o).run prog w=.ok (.value (.agg (fK (t.get c)))) w:=
 lC HK x ho i hL hx (fK (t.get c)) (fun j hj=>Tk hc t j hj) underlying30 qh
theorem lU(HK:Hid (Kn b0 w0 w L R))(i:Nat){x:Operand}(ho:o.op=.load 4 x:=by rfl)(hL:L[i]?=some (g,30,fK s):=by rfl)(hx:a.eval x=.pointer (some ⟨g,0,none⟩):=by rfl):
  (execOp a.eval o).run prog w=.ok (.value (.bool s.live)) w:=
 aT HK _ x ho i hL hx underlying4
theorem nI(HK:Hid (Kn b0 w0 w L R))(i:Nat){x:Operand}(ho:o.op=.load 3 x:=by rfl)(hL:L[i]?=some (g,30,fK s):=by rfl)(hx:a.eval x=.pointer (some ⟨g,1,none⟩):=by rfl):
  (execOp a.eval o).run prog w=.ok (.value (.int .i64 s.ep)) w:=
 aT HK _ x ho i hL hx underlying3
theorem ou(HK:Hid (Kn b0 w0 w L R))(i:Nat){x:Operand}(ho:o.op=.load 3 x:=by rfl)(hL:L[i]?=some (g,30,fK s):=by rfl)(hx:a.eval x=.pointer (some ⟨g,2,none⟩):=by rfl):
  (execOp a.eval o).run prog w=.ok (.value (.int .i64 s.rq)) w:=
 aT HK _ x ho i hL hx underlying3
theorem jL(HK:Hid (Kn b0 w0 w L R))(i:Nat){x:Operand}(ho:o.op=.load 4 x:=by rfl)(hL:L[i]?=some (g,30,fK s):=by rfl)(hx:a.eval x=.pointer (some ⟨g,3,none⟩):=by rfl):
  (execOp a.eval o).run prog w=.ok (.value (.bool s.dn)) w:=
 aT HK _ x ho i hL hx underlying4
theorem kH(HK:Hid (Kn b0 w0 w L R))(i:Nat){x:Operand}(ho:o.op=.load 28 x:=by rfl)(hL:L[i]?=some (g,30,fK s):=by rfl)(hx:a.eval x=.pointer (some ⟨g,4,none⟩):=by rfl):
  (execOp a.eval o).run prog w=.ok (.value (.agg (dG s.p))) w:=
 lC HK x ho i hL hx (dG s.p) (fun j hj=>by
  have hj:j<5:=hj
  match j,hj with
  | 0,_|1,_|2,_|3,_|4,_=>rfl) underlying28 kg
theorem NV(HK:Hid (Kn b0 w0 w L R))(i:Nat)(hc:0≤c∧c<5){x:Operand}(ho:o.op=.load 4 x:=by rfl)(hL:L[i]?=some (g,31,dU t):=by rfl)(hx:a.eval x=.pointer (some ⟨g,c.toNat*9,none⟩):=by rfl):
  (execOp a.eval o).run prog w=.ok (.value (.bool (t.get c).live)) w:=
 aT HK _ x ho i hL hx (hv:=(Tk hc t 0 (by decide))) underlying4
theorem qO{x:Rf}(HK:Hid (Kn b0 w0 w L R))(i:Nat){y:Operand}(ho:o.op=.load 3 y:=by rfl)(hL:L[i]?=some (g,44,#[.int .i64 x.c,.int .i64 x.e,.int .i64 x.r]):=by rfl)(hx:a.eval y=.pointer (some ⟨g,0,none⟩):=by rfl):
  (execOp a.eval o).run prog w=.ok (.value (.int .i64 x.c)) w:=aT HK _ y ho i hL hx underlying3
theorem aiQ{x:Rf}(HK:Hid (Kn b0 w0 w L R))(i:Nat){y:Operand}(ho:o.op=.load 3 y)(hL:L[i]?=some (g,44,#[.int .i64 x.c,.int .i64 x.e,.int .i64 x.r]))(hx:a.eval y=.pointer (some ⟨g,1,none⟩)):
  (execOp a.eval o).run prog w=.ok (.value (.int .i64 x.e)) w:=aT HK _ y ho i hL hx underlying3
theorem Ig{x:Rf}(HK:Hid (Kn b0 w0 w L R))(i:Nat){y:Operand}(ho:o.op=.load 3 y:=by rfl)(hL:L[i]?=some (g,44,#[.int .i64 x.c,.int .i64 x.e,.int .i64 x.r]):=by rfl)(hx:a.eval y=.pointer (some ⟨g,2,none⟩):=by rfl):
  (execOp a.eval o).run prog w=.ok (.value (.int .i64 x.r)) w:=aT HK _ y ho i hL hx underlying3
theorem gM(hc:0≤c∧c<5){x:Operand}{y:Operand}(ho:o.op=.indexAddr 31 x y:=by rfl)(hx:a.eval x=.pointer (some ⟨g,0,none⟩):=by rfl)(hy:a.eval y=.int .i64 c:=by rfl):
  (execOp a.eval o).run prog w=.ok (.value (.pointer (some ⟨g,c.toNat*9,none⟩))) w:=by
 have h:(Instr.indexAt 31 (.pointer (some ⟨g,0,none⟩)) (.int .i64 c)).run prog w=.ok (.pointer (some ⟨g,c.toNat*9,none⟩)) w:=by
  rcases aG.fO hc with rfl|rfl|rfl|rfl|rfl<;>kernel_rfl
 exact YB
theorem afH(t:aG.T)(w:World):(Instr.index 31 (.agg (dU t)) (.int .i64 0)).run prog w=.ok (.agg (fK t.s0)) w:=by kernel_rfl
theorem afG(t:aG.T)(w:World):(Instr.index 31 (.agg (dU t)) (.int .i64 1)).run prog w=.ok (.agg (fK t.s1)) w:=by kernel_rfl
theorem afF(t:aG.T)(w:World):(Instr.index 31 (.agg (dU t)) (.int .i64 2)).run prog w=.ok (.agg (fK t.s2)) w:=by kernel_rfl
theorem afE(t:aG.T)(w:World):(Instr.index 31 (.agg (dU t)) (.int .i64 3)).run prog w=.ok (.agg (fK t.s3)) w:=by kernel_rfl
theorem afD(t:aG.T)(w:World):(Instr.index 31 (.agg (dU t)) (.int .i64 4)).run prog w=.ok (.agg (fK t.s4)) w:=by kernel_rfl
theorem ku(hc:0≤c∧c<5){x:Operand}{y:Operand}(ho:o.op=.index 31 x y:=by rfl)(hx:a.eval x=.agg (dU t):=by rfl)(hy:a.eval y=.int .i64 c:=by rfl):
  (execOp a.eval o).run prog w=.ok (.value (.agg (fK (t.get c)))) w:=by
 have h:(Instr.index 31 (.agg (dU t)) (.int .i64 c)).run prog w=.ok (.agg (fK (t.get c))) w:=by
  rcases aG.fO hc with rfl|rfl|rfl|rfl|rfl
  ·exact afH t w
  ·exact afG t w
  ·exact afF t w
  ·exact afE t w
  ·exact afD t w
 exact YB
theorem qw(ho:o.op=.build 30 #[]:=by rfl):
  (execOp a.eval o).run prog w=.ok (.value (.agg (fK aG.z))) w:=by
 have h:(Instr.build 30 #[]).run prog w=.ok (.agg (fK aG.z)) w:=by
  unfold fK aG.z au.rz;go_simp
 exact YE
theorem abd{e:Int}{x:Operand}(ho:o.op=.build 30 #[(0,.const (.bool true)),(1,x),(3,.const (.bool true))])(hx:a.eval x=.int .i64 e):
  (execOp a.eval o).run prog w=.ok (.value (.agg (fK ⟨true,e,0,true,au.rz⟩))) w:=by
 have h:(Instr.build 30 #[(0,.bool true),(1,.int .i64 e),(3,.bool true)]).run prog w=.ok (.agg (fK ⟨true,e,0,true,au.rz⟩)) w:=by
  unfold fK au.rz;go_simp
 unfold execOp;simp only[ho,Sem.run_bind,Sem.run_pure,Result.andThen_ok,List.map_toArray,List.map_cons,List.map_nil,hx,show a.eval (.const (.bool true))=.bool true from rfl,h]
theorem gF(ho:o.op=.build 28 #[]:=by rfl):
  (execOp a.eval o).run prog w=.ok (.value (.agg (dG au.rz))) w:=by
 have h:(Instr.build 28 #[]).run prog w=.ok (.agg (dG au.rz)) w:=by
  unfold dG au.rz;go_simp
 exact YE
theorem wL{e:Int}(ho:o.op=.build 28 #[(0,.const (.int .i64 e))]:=by rfl):
  (execOp a.eval o).run prog w=.ok (.value (.agg (dG (au.err e)))) w:=by
 have h:(Instr.build 28 #[(0,.int .i64 e)]).run prog w=.ok (.agg (dG (au.err e))) w:=by
  unfold dG au.err;go_simp
 unfold execOp;simp only[ho,Sem.run_bind,Sem.run_pure,Result.andThen_ok,List.map_toArray,List.map_cons,List.map_nil,show a.eval (.const (.int .i64 e))=.int .i64 e from rfl,h]
theorem Nl(s u:aG.S):decide (s=u)=(decide (s.live=u.live)&&decide (s.ep=u.ep)&&decide (s.rq=u.rq)&&decide (s.dn=u.dn)&&(decide (s.p.e=u.p.e)&&(decide (s.p.v.k=u.p.v.k)&&decide (s.p.v.n=u.p.v.n)&&decide ((s.p.v.f:Int)=(u.p.v.f:Int))&&decide (s.p.v.s.toList=u.p.v.s.toList)))):=by
 rw[← Ew s.p u.p];obtain⟨l,e,r,d,p⟩:=s;obtain⟨l',e',r',d',p'⟩:=u;dsimp only;rw[Bool.eq_iff_iff];simp only[decide_eq_true_eq,Bool.and_eq_true,aG.S.mk.injEq,and_assoc]
theorem WJ{b:Bool}{x:Operand}{y:Operand}(ho:o.op=.binOp .eql 30 x y 30)(hx:a.eval x=.agg (fK s))(hy:a.eval y=.agg (fK u))(hb:decide (s=u)=b):
  (execOp a.eval o).run prog w=.ok (.value (.bool b)) w:=by
 rw[Nl] at hb;subst hb;unfold execOp;simp only[ho,hx,hy];unfold fK;go_simp;by_cases h0:s.live=u.live<;>by_cases h1:s.ep=u.ep<;>by_cases h2:s.rq=u.rq<;>by_cases h3:s.dn=u.dn<;>try simp[h0,h1,h2,h3]
 by_cases h4:s.p.e=u.p.e<;>by_cases h5:s.p.v.k=u.p.v.k<;>by_cases h6:s.p.v.n=u.p.v.n<;>by_cases h7:(s.p.v.f:Int)=(u.p.v.f:Int)<;>by_cases h8:s.p.v.s.toList=u.p.v.s.toList<;>simp[h4,h5,h6,h7,h8]
theorem oK{b:Bool}{x:Operand}{y:Operand}(hb:(!decide (s=u))=b)(ho:o.op=.binOp .neq 30 x y 30:=by rfl)(hx:a.eval x=.agg (fK s):=by rfl)(hy:a.eval y=.agg (fK u):=by rfl):
  (execOp a.eval o).run prog w=.ok (.value (.bool b)) w:=by
 rw[Nl] at hb;subst hb;unfold execOp;simp only[ho,hx,hy];unfold fK;go_simp;by_cases h0:s.live=u.live<;>by_cases h1:s.ep=u.ep<;>by_cases h2:s.rq=u.rq<;>by_cases h3:s.dn=u.dn<;>try simp[h0,h1,h2,h3]
 by_cases h4:s.p.e=u.p.e<;>by_cases h5:s.p.v.k=u.p.v.k<;>by_cases h6:s.p.v.n=u.p.v.n<;>by_cases h7:(s.p.v.f:Int)=(u.p.v.f:Int)<;>by_cases h8:s.p.v.s.toList=u.p.v.s.toList<;>simp[h4,h5,h6,h7,h8]
theorem aJ{m n:Int}{b:Bool}{x:Operand}{y:Operand}(hb:decide (m=n)=b)(ho:o.op=.binOp .eql 3 x y 3:=by rfl)(hx:a.eval x=.int .i64 m:=by rfl)(hy:a.eval y=.int .i64 n:=by rfl):
  (execOp a.eval o).run prog w=.ok (.value (.bool b)) w:=by
 exact acs
theorem bJ{m n:Int}{b:Bool}{x:Operand}{y:Operand}(hb:(!decide (m=n))=b)(ho:o.op=.binOp .neq 3 x y 3:=by rfl)(hx:a.eval x=.int .i64 m:=by rfl)(hy:a.eval y=.int .i64 n:=by rfl):
  (execOp a.eval o).run prog w=.ok (.value (.bool b)) w:=by
 exact acs
theorem bM{m n:Int}{b:Bool}{x:Operand}{y:Operand}(hb:decide (m<n)=b)(ho:o.op=.binOp .lss 3 x y 3:=by rfl)(hx:a.eval x=.int .i64 m:=by rfl)(hy:a.eval y=.int .i64 n:=by rfl):
  (execOp a.eval o).run prog w=.ok (.value (.bool b)) w:=by
 subst hb;exact Ed
theorem bN{m n:Int}{b:Bool}{x:Operand}{y:Operand}(hb:decide (n<m)=b)(ho:o.op=.binOp .gtr 3 x y 3:=by rfl)(hx:a.eval x=.int .i64 m:=by rfl)(hy:a.eval y=.int .i64 n:=by rfl):
  (execOp a.eval o).run prog w=.ok (.value (.bool b)) w:=by
 subst hb;exact Ed
theorem jh{m n:Int}{b:Bool}{x:Operand}{y:Operand}(hb:decide (m≤n)=b)(ho:o.op=.binOp .leq 3 x y 3:=by rfl)(hx:a.eval x=.int .i64 m:=by rfl)(hy:a.eval y=.int .i64 n:=by rfl):
  (execOp a.eval o).run prog w=.ok (.value (.bool b)) w:=by
 subst hb;exact Ed
theorem oN{m n:Int}{b:Bool}{x:Operand}{y:Operand}(hb:decide (n≤m)=b)(ho:o.op=.binOp .geq 3 x y 3:=by rfl)(hx:a.eval x=.int .i64 m:=by rfl)(hy:a.eval y=.int .i64 n:=by rfl):
  (execOp a.eval o).run prog w=.ok (.value (.bool b)) w:=by
 subst hb;exact Ed
theorem WS{m n:Int}{x:Operand}(hw:IntKind.i64.wrap (m-1)=n)(ho:o.op=.binOp .sub 3 x (.const (.int .i64 1)) 3:=by rfl)(hx:a.eval x=.int .i64 m:=by rfl):
  (execOp a.eval o).run prog w=.ok (.value (.int .i64 n)) w:=by
 exact acF
theorem fZ{m n:Int}{x:Operand}(hw:IntKind.i64.wrap (m+1)=n)(ho:o.op=.binOp .add 3 x (.const (.int .i64 1)) 3:=by rfl)(hx:a.eval x=.int .i64 m:=by rfl):
  (execOp a.eval o).run prog w=.ok (.value (.int .i64 n)) w:=by
 exact acF
end
section
variable {fn:Func}{R:Ending→World→Prop}{a:Act}{w:World}{B B2:Nat}{s:aG.S}{t:aG.T}{p:au.Rp}{q q2:Tmp}
theorem aeI(hf:fn.results=#[.cell q 30])(h2:a.tmps[q]?=some (.pointer (some ⟨B,0,none⟩)))(hd:a.defers=[])(hb:eT w B 30 (fK s))
  (hR:R (.returned (.agg (fK s))) w):bodyPost prog fn R Exit.ret a w:=
 bodyPost_ret (results_cell_row hf a.tmps w B _ _ (0,0) _ (by simp[h2]) hb underlying30 rfl qh) hd hR
theorem KI(hf:fn.results=#[.cell q 31])(hb:eT w B 31 (dU t))
  (hR:R (.returned (.agg (dU t))) w) (h2:a.tmps[q]?=some (.pointer (some ⟨B,0,none⟩)):=by rfl)(hd:a.defers=[]:=by rfl):bodyPost prog fn R Exit.ret a w:=
 bodyPost_ret (results_cell_row hf a.tmps w B _ _ (0,0) _ (by simp[h2]) hb underlying31 rfl tT) hd hR
theorem aeH(hf:fn.results=#[.cell q 31,.cell q2 28])(hb:eT w B 31 (dU t))(hb2:eT w B2 28 (dG p))
  (hR:R (.returned (.tuple #[.agg (dU t),.agg (dG p)])) w) (h2:a.tmps[q]?=some (.pointer (some ⟨B,0,none⟩)):=by rfl)(h3:a.tmps[q2]?=some (.pointer (some ⟨B2,0,none⟩)):=by rfl)(hd:a.defers=[]:=by rfl):bodyPost prog fn R Exit.ret a w:=by
 refine bodyPost_ret (v:=.tuple #[.agg (dU t),.agg (dG p)]) ?_ hd hR;have h:(loadVar 31 ⟨B,0,none⟩).run prog w=.ok (.agg (dU t)) w:=run_loadVar_row (P:=prog) w B _ _ _ (0,0) _ hb underlying31 rfl tT;have h':(loadVar 28 ⟨B2,0,none⟩).run prog w=.ok (.agg (dG p)) w:=run_loadVar_row (P:=prog) w B2 _ _ _ (0,0) _ hb2 underlying28 rfl kg;simp[results,hf,asAddr,Sem.run_bind,h2,h3,h,h']
end
def RQ(t:aG.T)(w:World)(e:Ending)(w':World):Prop:=e=.returned (.agg (dU t))∧Below w.heap.size w w'
def abY(t:aG.T)(p:au.Rp)(w:World)(e:Ending)(w':World):Prop:=e=.returned (.tuple #[.agg (dU t),.agg (dG p)])∧Below w.heap.size w w'
def jo(x:Int)(w:World)(e:Ending)(w':World):Prop:=e=.returned (.int .i64 x)∧Below w.heap.size w w'
end
end Go.Proofs.YtahdlddbbnjloaaGreat
