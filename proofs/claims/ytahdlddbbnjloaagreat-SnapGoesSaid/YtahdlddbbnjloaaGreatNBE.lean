/- What the document's with returns: the objects with one in another state. No condition but those named. -/
import Derived.Test.YtahdlddbbnjloaaGreatNBC
import Derived.Test.YtahdlddbbnjloaaGreatApSm
set_option linter.unusedSimpArgs false
set_option linter.unusedVariables false
set_option maxRecDepth 100000
set_option maxHeartbeats 25600000
open Go.RowKit
namespace Go.Proofs.YtahdlddbbnjloaaGreat
open _root_.Go.Proofs.Tryz
section
namespace Ap
open au
def Yc(o:Ob):Prop:=(∀p∈o.dV,p.val.f<18446744073709551616)∧(∀v∈o.vals,v.f<18446744073709551616)∧o.mt.s<18446744073709551616∧o.mt.l<18446744073709551616∧o.mt.m<18446744073709551616
theorem zf:(0:Nat)<18446744073709551616:=by decide
theorem xX{l:List aQ.Pr}(h:∀p∈l,p.val.f<18446744073709551616)(k:ByteArray):(aQ.sJ l k).f<18446744073709551616:=by
 unfold aQ.sJ
 split
 ·cases hf:aQ.iV l k with
  | none=>exact zf
  | some v=>
   obtain⟨x,hx,_,e⟩:=aQ.Bz hf
   show v.f<_
   rw[← e];exact h x hx
 ·exact zf
theorem Pq{l:List aQ.Pr}(h:∀p∈l,p.val.f<18446744073709551616){k:ByteArray}{o:Val.V}:(aQ.Kl l k o).f<18446744073709551616:=by
 unfold aQ.Kl
 split
 ·exact zf
 ·exact xX h k
theorem Qm{n:Int}{l:List Val.V}(h:∀v∈l,v.f<18446744073709551616):(fG.KW n l).f<18446744073709551616:=by
 unfold fG.KW
 split
 ·cases l with
  | nil=>exact zf
  | cons v m=>exact h v (List.mem_cons_self ..)
 ·exact zf
theorem Uy{x:kC}(h1:x.s<18446744073709551616)(h2:x.l<18446744073709551616)(h3:x.m<18446744073709551616){q:Int}:(Mt.rd x q).f<18446744073709551616:=by
 unfold Mt.rd
 repeat' split
 all_goals first|exact zf|exact h1|exact h2|exact h3
theorem Wh{y:Rf}{b:Bool}:∀z∈held y b,z.p.v.f<18446744073709551616:=fun z hz=>by
 unfold held at hz
 split at hz
 ·rw[List.mem_singleton.1 hz];exact zf
 ·cases hz
theorem JY(o:Ob)(r:Rf):(wait o r).p.v.f<18446744073709551616∧∀y∈(wait o r).outs,y.p.v.f<18446744073709551616:=by
 generalize hx:wait o r=x;unfold wait at hx
 split at hx
 ·subst hx;exact⟨zf,fun y hy=>by cases hy⟩
 split at hx
 ·subst hx;exact⟨zf,fun y hy=>by cases hy⟩
 ·subst hx
  refine⟨zf,fun y hy=>?_⟩;obtain⟨x,_,e⟩:=List.mem_map.1 hy;rw[← e];exact zf
theorem RN{o:Ob}(h:Yc o)(r:Rf)(c:aI.C):(act o r c).p.v.f<18446744073709551616∧∀y∈(act o r c).outs,y.p.v.f<18446744073709551616:=by
 obtain⟨g1,g2,g3,g4,g5⟩:=h;have none:∀y∈([]:List Ot),y.p.v.f<18446744073709551616:=fun y hy=>by cases hy
 generalize hx:act o r c=x;unfold act at hx;by_cases h12:c.k=12
 ·rw[if_pos h12] at hx;subst hx;exact⟨zf,none⟩
 rw[if_neg h12] at hx;by_cases Bu:c.k=13
 ·rw[if_pos Bu] at hx;subst hx;exact⟨zf,Wh⟩
 rw[if_neg Bu] at hx;by_cases uY:c.k=14
 ·rw[if_pos uY] at hx;subst hx;exact JY o r
 rw[if_neg uY] at hx;by_cases h6:c.k=6
 ·rw[if_pos h6] at hx;subst hx;exact⟨xX g1 _,none⟩
 rw[if_neg h6] at hx;by_cases h7:c.k=7
 ·rw[if_pos h7] at hx;subst hx;exact⟨zf,none⟩
 rw[if_neg h7] at hx;by_cases h8:c.k=8
 ·rw[if_pos h8] at hx;subst hx;exact⟨xX g1 _,none⟩
 rw[if_neg h8] at hx;by_cases h9:c.k=9
 ·rw[if_pos h9] at hx;subst hx;exact⟨Pq g1,none⟩
 rw[if_neg h9] at hx;by_cases h10:c.k=10
 ·rw[if_pos h10] at hx;subst hx;exact⟨zf,none⟩
 rw[if_neg h10] at hx;by_cases h11:c.k=11
 ·rw[if_pos h11] at hx;subst hx;exact⟨Qm g2,none⟩
 rw[if_neg h11] at hx;by_cases h15:c.k=15
 ·rw[if_pos h15] at hx;subst hx;exact⟨zf,none⟩
 rw[if_neg h15] at hx;by_cases h16:c.k=16
 ·rw[if_pos h16] at hx;subst hx;exact⟨Uy g3 g4 g5,none⟩
 rw[if_neg h16] at hx;by_cases LV:c.k=17
 ·rw[if_pos LV] at hx;subst hx;exact⟨zf,none⟩
 rw[if_neg LV] at hx;subst hx;exact⟨zf,none⟩
theorem yh{l:List Ob}(h:∀o∈l,Yc o)(r:Rf)(c:aI.C):(iq l r c).p.v.f<18446744073709551616∧∀y∈(iq l r c).outs,y.p.v.f<18446744073709551616:=by
 have none:∀y∈([]:List Ot),y.p.v.f<18446744073709551616:=fun y hy=>by cases hy
 generalize hx:iq l r c=x;unfold iq at hx
 split at hx
 ·subst hx;exact⟨zf,none⟩
 split at hx
 ·subst hx;exact⟨zf,none⟩
 split at hx
 ·subst hx;exact⟨zf,none⟩
 split at hx
 ·subst hx;exact⟨zf,none⟩
 next o ho=>
  subst hx;exact RN (h o (BA ho).1) r c
theorem wC(y:Rf)(b:Bool):(held y b).length≤1:=by
 unfold held
 split
 ·exact Nat.le_refl 1
 ·exact Nat.zero_le 1
theorem YL{o:Ob}(h:One o=true)(r:Rf):(wait o r).outs.length≤8:=by
 generalize hx:wait o r=x;unfold wait at hx
 split at hx
 ·subst hx;exact Nat.zero_le 8
 split at hx
 ·subst hx;exact Nat.zero_le 8
 ·subst hx
  show(xB ((Gt.Ck o.cap o.refs r).take _) _).length≤8
  unfold xB;rw[List.length_map,List.length_take]
  have:(Gt.Ck o.cap o.refs r).length≤6:=by
   unfold Gt.Ck
   split
   next g=>
    have:=aY.fV (Gt.Ga g.1).1.2.2.2;rw[List.length_append]
    show _+1≤6
    omega
   next=>exact Nat.zero_le _
  omega
theorem abT{o:Ob}(h:One o=true)(r:Rf)(c:aI.C):(act o r c).outs.length≤8:=by
 generalize hx:act o r c=x;unfold act at hx;by_cases h12:c.k=12
 ·rw[if_pos h12] at hx;subst hx;exact Nat.zero_le 8
 rw[if_neg h12] at hx;by_cases Bu:c.k=13
 ·rw[if_pos Bu] at hx;subst hx
  show(held _ _).length≤8
  exact Nat.le_trans (Ap.wC _ _) (by decide)
 rw[if_neg Bu] at hx;by_cases uY:c.k=14
 ·rw[if_pos uY] at hx;subst hx;exact YL h r
 rw[if_neg uY] at hx
 have:x.outs=[]:=by
  subst hx
  repeat' split
  all_goals rfl
 rw[this];exact Nat.zero_le 8
theorem abq(l:List Ob)(r:Rf)(c:aI.C):(iq l r c).outs.length≤8:=by
 by_cases hc:aX l r c=0
 case neg=>rw[tX hc];exact Nat.zero_le 8
 obtain⟨⟨hR,_⟩,_,_,ho⟩:=sU hc;by_cases h4:c.k=4
 ·rw[wO hc h4];exact Nat.zero_le 8
 by_cases h5:c.k=5
 ·rw[wP hc h5];exact Nat.zero_le 8
 obtain⟨o,ho1,_⟩:=ho h4;rw[wQ hc h4 h5 ho1];exact abT (hR.ok o (BA ho1).1) r c
end Ap
end
section
def evC(c e r k:Int)(name key:ByteArray)(vk vn:Int)(vf:Nat)(vs:ByteArray)(ok on:Int)(of:Nat)(os:ByteArray)(n m:Int):Array Value:=
 #[.int .i64 c,.int .i64 e,.int .i64 r,.int .i64 k,.string name,.string key,.int .i64 vk,.int .i64 vn,.int .u64 (vf:Int),.string vs,.int .i64 ok,.int .i64 on,.int .u64 (of:Int),.string os,.int .i64 n,.int .i64 m]
def yZ(e:aI.E):Array Value:=evC e.c e.e e.r e.cmd.k e.cmd.name e.cmd.key e.cmd.val.k e.cmd.val.n e.cmd.val.f e.cmd.val.s e.cmd.old.k e.cmd.old.n e.cmd.old.f e.cmd.old.s e.cmd.n e.cmd.m
theorem aaD:(prog.info? 48).map (·.size)=some 16:=by kernel_rfl
theorem VO:(prog.info? 44).map (·.size)=some 3:=by kernel_rfl
theorem VY:(prog.info? 46).map (·.size)=some 13:=by kernel_rfl
section
variable {b0:Nat}{w0 w:World}{L:List (Nat×TypeId×Array Value)}{R:List bV}{ops:Array Oper}{rest:List Oper}{o:Oper}{a:Act}{Q:Exit→Act→World→Prop}
variable {g:Nat}{t:TypeId}{c e r k:Int}{name key:ByteArray}{vk vn:Int}{vf:Nat}{vs:ByteArray}{ok on:Int}{of:Nat}{os:ByteArray}{n m:Int}
theorem bS(HK:Hid (Kn b0 w0 w L R))(i:Nat){x:Operand}(ho:o.op=.load 44 x:=by rfl)(hL:L[i]?=some (g,t,evC c e r k name key vk vn vf vs ok on of os n m):=by rfl)(hx:a.eval x=.pointer (some ⟨g,0,none⟩):=by rfl):
  (execOp a.eval o).run prog w=.ok (.value (.agg #[.int .i64 c,.int .i64 e,.int .i64 r])) w:=
 dY HK x ho i hL hx #[.int .i64 c,.int .i64 e,.int .i64 r] (fun j hj=>by
  match j,hj with
  | 0,_|1,_|2,_=>rfl) underlying44 VO
theorem xS(HK:Hid (Kn b0 w0 w L R))(i:Nat){x:Operand}(ho:o.op=.load 46 x:=by rfl)(hL:L[i]?=some (g,t,evC c e r k name key vk vn vf vs ok on of os n m):=by rfl)(hx:a.eval x=.pointer (some ⟨g,3,none⟩):=by rfl):
  (execOp a.eval o).run prog w=.ok (.value (.agg (dh k name key vk vn vf vs ok on of os n m))) w:=
 dY HK x ho i hL hx (dh k name key vk vn vf vs ok on of os n m) (fun j hj=>by
  match j,hj with
  | 0,_|1,_|2,_|3,_|4,_|5,_|6,_|7,_|8,_|9,_|10,_|11,_|12,_=>rfl) underlying46 VY
theorem vY(HK:Hid (Kn b0 w0 w L R))(i:Nat){x:Operand}(ho:o.op=.load 48 x:=by rfl)(hL:L[i]?=some (g,t,evC c e r k name key vk vn vf vs ok on of os n m):=by rfl)(hx:a.eval x=.pointer (some ⟨g,0,none⟩):=by rfl):
  (execOp a.eval o).run prog w=.ok (.value (.agg (evC c e r k name key vk vn vf vs ok on of os n m))) w:=
 dY HK x ho i hL hx (evC c e r k name key vk vn vf vs ok on of os n m) (fun j _=>by rw[Nat.zero_add]) underlying48 aaD
theorem Kn.ev(h:Kn b0 w0 w L R)(i:Nat)(hi:L[i]?=some (g,t,evC c e r k name key vk vn vf vs ok on of os n m)):
  w.cell? ⟨g,0,none⟩=some (.int .i64 c)∧w.cell? ⟨g,1,none⟩=some (.int .i64 e)∧w.cell? ⟨g,2,none⟩=some (.int .i64 r)∧w.cell? ⟨g,3,none⟩=some (.int .i64 k)∧w.cell? ⟨g,4,none⟩=some (.string name)∧w.cell? ⟨g,5,none⟩=some (.string key)∧
  w.cell? ⟨g,14,none⟩=some (.int .i64 n)∧w.cell? ⟨g,15,none⟩=some (.int .i64 m):=
 ⟨h.cell i hi 0 rfl,h.cell i hi 1 rfl,h.cell i hi 2 rfl,h.cell i hi 3 rfl,h.cell i hi 4 rfl,h.cell i hi 5 rfl,h.cell i hi 14 rfl,h.cell i hi 15 rfl⟩
end
end
section
theorem oD{b0:Nat}{w0 w:World}{L:List (Nat×TypeId×Array Value)}{R:List bV}{o:Oper}{a:Act}{g:Nat}{e:aI.E}(HK:Hid (Kn b0 w0 w L R))(i:Nat){x:Operand}(ho:o.op=.load 3 x:=by rfl)(hL:L[i]?=some (g,48,yZ e):=by rfl)(hx:a.eval x=.pointer (some ⟨g,3,none⟩):=by rfl):
  (execOp a.eval o).run prog w=.ok (.value (.int .i64 e.cmd.k)) w:=aT HK _ x ho i hL hx underlying3
theorem wh{b0:Nat}{w0 w:World}{L:List (Nat×TypeId×Array Value)}{R:List bV}{o:Oper}{a:Act}{g:Nat}{e:aI.E}(HK:Hid (Kn b0 w0 w L R))(i:Nat){x:Operand}(ho:o.op=.load 3 x:=by rfl)(hL:L[i]?=some (g,48,yZ e):=by rfl)(hx:a.eval x=.pointer (some ⟨g,0,none⟩):=by rfl):
  (execOp a.eval o).run prog w=.ok (.value (.int .i64 e.c)) w:=aT HK _ x ho i hL hx underlying3
theorem xO{w:World}{A:Option Addr}{n c:Nat}{l:List Oh}(h:dS w A n c l):∀o∈vs l,Ap.Yc o:=fun o ho=>by
 obtain⟨x,hx,e⟩:=List.mem_map.1 ho;have hi:=h.i x hx;rw[← e];exact⟨hi.p.fs,hi.v.fit.fs,hi.m.2.1,hi.m.2.2.1,hi.m.2.2.2⟩
end
section
open Go.ChangeShapes Go.WideShapes Go.Deep Go.RowKit
def cmL(c:aI.C):List Value:=
 [.int .i64 c.k,.string c.name,.string c.key,.int .i64 c.val.k,.int .i64 c.val.n,.int .u64 (c.val.f:Int),.string c.val.s,.int .i64 c.old.k,.int .i64 c.old.n,.int .u64 (c.old.f:Int),.string c.old.s,.int .i64 c.n,.int .i64 c.m]
section
variable {H:Type}{enc:TypeId×Value→H}{W:World}{base:Nat}{α:Type}
theorem DL:prog.cellsOf 46=13:=by kernel_rfl
theorem Dj:jm enc 46 cmL (fun c=>c.val.f<18446744073709551616∧c.old.f<18446744073709551616):=fun W n cs x ht=>by
 obtain⟨ys,m,_,hx,hlen,hyl,hf⟩:=DataW.trod_struct underlying46 ht;have hlen:cs.length=prog.cellsOf 46:=hlen;rw[DL] at hlen
 match cs,hlen,ys,hyl with
 | [v0,v1,v2,v3,v4,v5,v6,v7,v8,v9,v10,v11,v12],_,[y0,y1,y2,y3,y4,y5,y6],_=>
  have f0:=hf 0 _ rfl;have f1:=hf 1 _ rfl;have f2:=hf 2 _ rfl;have f3:=hf 3 _ rfl;have f4:=hf 4 _ rfl;have f5:=hf 5 _ rfl;have f6:=hf 6 _ rfl;simp only[List.getElem?_cons_zero,List.getElem?_cons_succ] at f0 f1 f2 f3 f4 f5 f6;obtain⟨a0,e0,_,_⟩:=DataW.trod_int underlying3 f0;obtain⟨a1,e1,_,_⟩:=DataW.trod_string underlying9 f1;obtain⟨a2,e2,_,_⟩:=DataW.trod_string underlying9 f2;obtain⟨a3,e3,w3⟩:=mo (enc:=enc) W _ _ _ f3;obtain⟨a4,e4,w4⟩:=mo (enc:=enc) W _ _ _ f4;obtain⟨a5,e5,_,_⟩:=DataW.trod_int underlying3 f5;obtain⟨a6,e6,_,_⟩:=DataW.trod_int underlying3 f6;cases e0;cases e1;cases e2;cases e3;cases e4;cases e5;cases e6;exact⟨⟨a0,a1,a2,a3,a4,a5,a6⟩,rfl,w3,w4⟩
theorem Lift.Given.cmd{ts:List TypeId}{args:List Value}{ds:List (DataW H)}{before:List MemPlace}(h:Lift.Given enc prog (46::ts) W base args ds before):
  ∃(x:aI.C) (vs:List Value) (d:DataW H) (ds':List (DataW H)) (q:List MemPlace),args=.agg (cmL x).toArray::vs∧ds=d::ds'∧(x.val.f<18446744073709551616∧x.old.f<18446744073709551616)∧Lift.Given enc prog ts W base vs ds' q:=h.one Dj underlying46
end
end
section
open Go.ChangeShapes Go.WideShapes Go.Deep Go.RowKit
section
variable {H:Type}{enc:TypeId×Value→H}{W:World}{base:Nat}
theorem Lift.Given.mt{ts:List TypeId}{args:List Value}{ds:List (DataW H)}{before:List MemPlace}(h:Lift.Given enc prog (73::ts) W base args ds before):
  ∃(x:kC) (vs:List Value) (d:DataW H) (ds':List (DataW H)) (q:List MemPlace),args=.agg (mL x).toArray::vs∧ds=d::ds'∧Mt.Fit x∧Lift.Given enc prog ts W base vs ds' q:=h.one He underlying73
end
end
section
open Go.ChangeShapes Go.WideShapes Go.Deep Go.RowKit
section
variable {H:Type}{enc:TypeId×Value→H}{P:Program}{W:World}{base:Nat}{α:Type}
def ML(enc:TypeId×Value→H)(W:World)(L:Lay P α)(Good:α→DataW H→Prop):Prop:=
 ∀(n:Nat) (cs:List Value) (x:DataW H×List MemPlace),DataW.trod enc P W 0 (fun _=>true) true n L.e cs=some x→∃it:α,cs=L.f it∧Good it x.1
theorem iM{L:Lay P α}{Good:α→DataW H→Prop}(hop:Opens enc L Good)(hcells:P.cellsOf L.e=L.k)(hbytes:P.bytesOf L.e=L.bytes)
  {fuel:Nat} {cs:List Value} {d:DataW H} {p:List MemPlace} (h0:DataW.trod enc P W 0 (fun _=>true) true fuel L.t cs=some (d,p)) (hw:(d.weights P L.t).all (·≤reachBytes)=true) :
  ∃(A:Option Addr) (c:Nat) (l:List α),cs=[.slice A l.length c]∧L.Reads W W.heap.size A l∧(A=none→l=[])∧(∀x∈l,∃dx,Good x dx)∧l.length*L.bytes≤reachBytes∧l.length≤c:=by
 rcases open_slice L.und h0 with ⟨hcs,hx⟩|⟨a,len,cap,m,n,D,Pl,hcs,_,hl,hm,hmm,hx,hi⟩
 ·exact⟨none,0,[],hcs,Lay.Reads.nil _ _ _,fun _=>rfl,(fun x hx=>by cases hx),by simp,Nat.le_refl _⟩
 ·simp only[if_true] at hmm
  subst hmm;cases hx
  have hall:∀i,i<m→∃it:α,(∀j u,(L.f it)[j]?=some u→W.cell? ((a.add (i*L.k)).add j)=some u)∧Good it (D i):=fun i him=>by
   obtain⟨cs,hc,ht⟩:=hi i him;obtain⟨it,rfl,hg⟩:=hop W _ _ _ ht;exact aeg
  by_cases h0:len=0
  ·subst h0
   exact acP
  have:Inhabited α:=⟨(hall 0 (by omega)).choose⟩;obtain⟨f,hf⟩:=choose_lt hall;have hlen:((List.range len).map f).length=len:=by simp
  have hget:∀i x,((List.range len).map f)[i]?=some x→i<len∧x=f i:=fun i x hx=>by
   rw[List.getElem?_map] at hx;obtain⟨j,hj,rfl⟩:=Option.map_eq_some_iff.1 hx
   have hlt:i<len:=by
    rcases Nat.lt_or_ge i len with h|h
    ·exact h
    ·rw[List.getElem?_eq_none (by simpa using h)] at hj;cases hj
   rw[List.getElem?_range hlt] at hj;cases hj;exact⟨hlt,rfl⟩
  have hsome:∃u,W.cell? a=some u:=by
   exact aeh
  obtain⟨u0,hu0⟩:=hsome
  have ha:a=⟨a.block,a.off,none⟩:=by
   obtain⟨b,o,sp⟩:=a
   cases sp with
   | none=>rfl
   | some z=>unfold World.cell? at hu0;split at hu0<;>simp at hu0
  have hW:(DataW.weights P L.t (.slice ((List.range len).map D) ((List.range (m-len)).map fun j=>D (len+j)):DataW H)).all (·≤reachBytes)=true:=hw;unfold DataW.weights at hW;rw[L.und] at hW;simp only[List.all_cons,List.all_append,Bool.and_eq_true,decide_eq_true_eq,List.length_map,List.length_range,hbytes] at hW;obtain⟨hW1,_,_⟩:=hW;refine⟨some a,m,(List.range len).map f,by rw[hlen];exact hcs,fun hp=>?_,(fun h=>by cases h),(fun x hx=>?_),?_,by rw[hlen];exact hl⟩
  ·refine⟨a.block,a.off,by rw[← ha],World.block_lt_of_cell? W a hu0,fun i x hx j u hu=>?_⟩
   exact aee
  ·obtain⟨i,hi',rfl⟩:=List.mem_map.1 hx
   exact⟨D i,(hf i (by have:=List.mem_range.1 hi';omega)).2⟩
  ·rw[hlen]
   exact SH
end
section
variable {H:Type}{enc:TypeId×Value→H}{W:World}{base:Nat}
theorem wT:prog.cellsOf 124=5:=by kernel_rfl
theorem Jk:prog.bytesOf 124=56:=by kernel_rfl
theorem UR:Opens enc bY (fun p _=>p.val.f<18446744073709551616):=fun W n cs x ht=>by
 obtain⟨ys,m,_,hx,hlen,hyl,hf⟩:=DataW.trod_struct underlying124 ht;have hlen:cs.length=prog.cellsOf 124:=hlen;rw[wT] at hlen
 match cs,hlen,ys,hyl with
 | [v0,v1,v2,v3,v4],_,[y0,y1],_=>
  have f0:=hf 0 _ rfl;have f1:=hf 1 _ rfl;simp only[List.getElem?_cons_zero,List.getElem?_cons_succ] at f0 f1;obtain⟨a0,e0,_,_⟩:=DataW.trod_string underlying9 f0;obtain⟨a1,e1,w1⟩:=mo (enc:=enc) W _ _ _ f1;cases e0;cases e1;exact⟨⟨a0,a1⟩,rfl,w1⟩
theorem wU:prog.cellsOf 75=11:=by kernel_rfl
theorem Jl:prog.bytesOf 75=144:=by kernel_rfl
theorem iG:reachBytes=140737488351232:=rfl
theorem UU:ML enc W bB (fun x dx=>(dx.weights prog 75).all (·≤reachBytes)=true→In W x):=fun n cs x ht=>by
 obtain⟨ys,m,_,hx,hlen,hyl,hf⟩:=DataW.trod_struct underlying75 ht;have hlen:cs.length=prog.cellsOf 75:=hlen;rw[wU] at hlen
 match cs,hlen,ys,hyl with
 | [v0,v1,v2,v3,v4,v5,v6,v7,v8,v9,v10],_,[y0,y1,y2,(d3,p3),(d4,p4),(d5,p5),y6,y7],_=>
  have f0:=hf 0 _ rfl;have f1:=hf 1 _ rfl;have f2:=hf 2 _ rfl;have f3:=hf 3 _ rfl;have f4:=hf 4 _ rfl;have f5:=hf 5 _ rfl;have f6:=hf 6 _ rfl;have f7:=hf 7 _ rfl;simp only[List.getElem?_cons_zero,List.getElem?_cons_succ] at f0 f1 f2 f3 f4 f5 f6 f7;obtain⟨a0,e0,_,_⟩:=DataW.trod_string underlying9 f0;obtain⟨a1,e1,_,_⟩:=DataW.trod_int underlying3 f1;obtain⟨a2,e2,_,_⟩:=DataW.trod_int underlying3 f2;obtain⟨a6,e6,_,w6⟩:=DataW.trod_int underlying3 f6;obtain⟨a7,e7,w7⟩:=He (enc:=enc) W _ _ _ f7;have hd:x.1=.agg [y0.1,y1.1,y2.1,d3,d4,d5,y6.1,y7.1]:=congrArg Prod.fst hx;by_cases hw:(x.1.weights prog 75).all (·≤reachBytes)=true
  case neg=>
   have hs3:∃A n c,v3=.slice A n c:=by
    rcases open_slice underlying69 f3 with ⟨hcs,_⟩|⟨a,len,cap,m,n,D,Pl,hcs,_⟩
    ·injection hcs with h;exact⟨_,_,_,h⟩
    ·injection hcs with h;exact⟨_,_,_,h⟩
   have hs4:∃A n c,v4=.slice A n c:=by
    rcases open_slice underlying70 f4 with ⟨hcs,_⟩|⟨a,len,cap,m,n,D,Pl,hcs,_⟩
    ·injection hcs with h;exact⟨_,_,_,h⟩
    ·injection hcs with h;exact⟨_,_,_,h⟩
   have hs5:∃A n c,v5=.slice A n c:=by
    rcases open_slice underlying71 f5 with ⟨hcs,_⟩|⟨a,len,cap,m,n,D,Pl,hcs,_⟩
    ·injection hcs with h;exact⟨_,_,_,h⟩
    ·injection hcs with h;exact⟨_,_,_,h⟩
   obtain⟨A3,n3,c3,rfl⟩:=hs3;obtain⟨A4,n4,c4,rfl⟩:=hs4;obtain⟨A5,n5,c5,rfl⟩:=hs5;cases e0;cases e1;cases e2;cases e6;cases e7;exact acE
  case pos=>
   have hw2:=hw;rw[hd] at hw2;unfold DataW.weights at hw2;rw[underlying75] at hw2;simp only[List.map_cons,List.map_nil,DataW.weightsEach,List.all_append,Bool.and_eq_true] at hw2;obtain⟨_,_,_,hw3,hw4,hw5,_⟩:=hw2;obtain⟨A3,c3,l3,hc3,r3,n3,g3,b3,k3⟩:=iM (L:=bY) UR wT Jk (cs:=[v3]) f3 hw3;obtain⟨A4,c4,l4,hc4,r4,n4,g4,b4,k4⟩:=iM (L:=bG) Di oV yj (cs:=[v4]) f4 hw4;obtain⟨A5,c5,l5,hc5,r5,n5,g5,b5,k5⟩:=iM (L:=aN) AP sV BS (cs:=[v5]) f5 hw5;injection hc3 with hc3;injection hc4 with hc4;injection hc5 with hc5;subst hc3 hc4 hc5;cases e0;cases e1;cases e2;cases e6;cases e7;refine⟨⟨⟨a0,a1,a2,l3,l4,l5,a6,a7⟩,A3,l3.length,c3,A4,l4.length,c4,A5,l5.length,c5⟩,rfl,fun _=>⟨?_,?_,?_,w7,by have:=bounds_i64 w6;show a6≤_;omega⟩⟩
   ·refine bT.sl ⟨rfl,k3,r3,n3,fun y hy=>?_,?_⟩
    ·obtain⟨_,g⟩:=g3 y hy;exact g
    ·have h:l3.length*56≤reachBytes:=b3
     rw[iG] at h
     show l3.length*56≤_
     omega
   ·refine⟨rfl,k4,r4,n4,fun y hy=>?_,?_⟩
    ·obtain⟨_,g⟩:=g4 y hy;exact g
    ·have h:l4.length*40≤reachBytes:=b4
     rw[iG] at h
     show l4.length*40≤_
     omega
   ·refine⟨rfl,k5,r5,n5,fun y hy=>trivial,?_⟩
    have h:l5.length*24≤reachBytes:=b5;rw[iG] at h
    show l5.length*24≤_
    omega
end
end
section
open Go.ChangeShapes Go.WideShapes Go.Deep Go.RowKit
def evL(e:aI.E):List Value:=
 [.int .i64 e.c,.int .i64 e.e,.int .i64 e.r,.int .i64 e.cmd.k,.string e.cmd.name,.string e.cmd.key,.int .i64 e.cmd.val.k,.int .i64 e.cmd.val.n,.int .u64 (e.cmd.val.f:Int),.string e.cmd.val.s,.int .i64 e.cmd.old.k,.int .i64 e.cmd.old.n,.int .u64 (e.cmd.old.f:Int),.string e.cmd.old.s,.int .i64 e.cmd.n,.int .i64 e.cmd.m]
theorem VX:(prog.info? 48).map (fun i=>(i.zero,i.size,i.bytes))=some (some (Value.agg #[.int .i64 0,.int .i64 0,.int .i64 0,.int .i64 0,.string ⟨#[]⟩,.string ⟨#[]⟩,.int .i64 0,.int .i64 0,.int .u64 0,.string ⟨#[]⟩,.int .i64 0,.int .i64 0,.int .u64 0,.string ⟨#[]⟩,.int .i64 0,.int .i64 0]),16,160):=by kernel_rfl
def uG:Lay prog aI.E where
 t:=34
 e:=48
 k:=16
 bytes:=160
 z:=.agg #[.int .i64 0,.int .i64 0,.int .i64 0,.int .i64 0,.string ⟨#[]⟩,.string ⟨#[]⟩,.int .i64 0,.int .i64 0,.int .u64 0,.string ⟨#[]⟩,.int .i64 0,.int .i64 0,.int .u64 0,.string ⟨#[]⟩,.int .i64 0,.int .i64 0]
 f:=evL
 len:=fun _=>rfl
 one:=fun x u hu=>by
  unfold evL at hu;simp only[List.mem_cons,List.not_mem_nil,or_false] at hu
  rcases hu with rfl|rfl|rfl|rfl|rfl|rfl|rfl|rfl|rfl|rfl|rfl|rfl|rfl|rfl|rfl|rfl<;>rfl
 und:=underlying34
 info:=VX
 zs:=rfl
 pos:=by decide
 small:=by decide
section
variable {H:Type}{enc:TypeId×Value→H}{W:World}{base:Nat}{α:Type}
theorem RF:prog.cellsOf 44=3:=by kernel_rfl
theorem BR:prog.cellsOf 48=16:=by kernel_rfl
theorem Xp:prog.bytesOf 48=160:=by kernel_rfl
theorem Qu:jm enc 44 (fun r:Int×Int×Int=>[.int .i64 r.1,.int .i64 r.2.1,.int .i64 r.2.2]) (fun _=>True):=fun W n cs x ht=>by
 obtain⟨ys,m,_,hx,hlen,hyl,hf⟩:=DataW.trod_struct underlying44 ht;have hlen:cs.length=prog.cellsOf 44:=hlen;rw[RF] at hlen
 match cs,hlen,ys,hyl with
 | [v0,v1,v2],_,[y0,y1,y2],_=>
  have f0:=hf 0 _ rfl;have f1:=hf 1 _ rfl;have f2:=hf 2 _ rfl;simp only[List.getElem?_cons_zero,List.getElem?_cons_succ] at f0 f1 f2;obtain⟨a0,e0,_,_⟩:=DataW.trod_int underlying3 f0;obtain⟨a1,e1,_,_⟩:=DataW.trod_int underlying3 f1;obtain⟨a2,e2,_,_⟩:=DataW.trod_int underlying3 f2;cases e0;cases e1;cases e2;exact⟨(a0,a1,a2),rfl,trivial⟩
theorem Qy:jm enc 48 evL (fun e=>e.cmd.val.f<18446744073709551616∧e.cmd.old.f<18446744073709551616):=fun W n cs x ht=>by
 obtain⟨ys,m,_,hx,hlen,hyl,hf⟩:=DataW.trod_struct underlying48 ht;have hlen:cs.length=prog.cellsOf 48:=hlen;rw[BR] at hlen
 match cs,hlen,ys,hyl with
 | [v0,v1,v2,v3,v4,v5,v6,v7,v8,v9,v10,v11,v12,v13,v14,v15],_,[y0,y1],_=>
  have f0:=hf 0 _ rfl;have f1:=hf 1 _ rfl;simp only[List.getElem?_cons_zero,List.getElem?_cons_succ] at f0 f1;obtain⟨⟨a0,a1,a2⟩,e0,_⟩:=Qu (enc:=enc) W _ _ _ f0;obtain⟨a3,e1,w3⟩:=Dj (enc:=enc) W _ _ _ f1;cases e0;cases e1;exact⟨⟨a0,a1,a2,a3⟩,rfl,w3⟩
theorem Lift.Given.ev{ts:List TypeId}{args:List Value}{ds:List (DataW H)}{before:List MemPlace}(h:Lift.Given enc prog (48::ts) W base args ds before):
  ∃(x:aI.E) (vs:List Value) (d:DataW H) (ds':List (DataW H)) (q:List MemPlace),args=.agg (evL x).toArray::vs∧ds=d::ds'∧(x.cmd.val.f<18446744073709551616∧x.cmd.old.f<18446744073709551616)∧Lift.Given enc prog ts W base vs ds' q:=h.one Qy underlying48
end
end
section
open Go.ChangeShapes Go.WideShapes Go.Deep Go.RowKit
section
variable {H:Type}{enc:TypeId×Value→H}{W:World}{base:Nat}
def Yh(s:aG.S):List Value:=[.bool s.live,.int .i64 s.ep,.int .i64 s.rq,.bool s.dn,.int .i64 s.p.e,.int .i64 s.p.v.k,.int .i64 s.p.v.n,.int .u64 (s.p.v.f:Int),.string s.p.v.s]
theorem uf:prog.cellsOf 30=9:=by kernel_rfl
theorem tZ:prog.cellsOf 31=45:=by kernel_rfl
theorem UO:jm enc 30 Yh (fun s=>s.p.v.f<18446744073709551616):=fun W n cs x ht=>by
 obtain⟨ys,m,_,hx,hlen,hyl,hf⟩:=DataW.trod_struct underlying30 ht;have hlen:cs.length=prog.cellsOf 30:=hlen;rw[uf] at hlen
 match cs,hlen,ys,hyl with
 | [v0,v1,v2,v3,v4,v5,v6,v7,v8],_,[y0,y1,y2,y3,y4],_=>
  have f0:=hf 0 _ rfl;have f1:=hf 1 _ rfl;have f2:=hf 2 _ rfl;have f3:=hf 3 _ rfl;have f4:=hf 4 _ rfl;simp only[List.getElem?_cons_zero,List.getElem?_cons_succ] at f0 f1 f2 f3 f4;obtain⟨a0,e0,_⟩:=DataW.trod_bool underlying4 f0;obtain⟨a1,e1,_,_⟩:=DataW.trod_int underlying3 f1;obtain⟨a2,e2,_,_⟩:=DataW.trod_int underlying3 f2;obtain⟨a3,e3,_⟩:=DataW.trod_bool underlying4 f3;obtain⟨a4,e4,w4⟩:=UQ (enc:=enc) W _ _ _ f4;cases e0;cases e1;cases e2;cases e3;cases e4;exact⟨⟨a0,a1,a2,a3,a4⟩,rfl,w4⟩
theorem NH{l:List Value}(h:l.length=45)(f:Nat→aG.S)(hf:∀i,i<5→(l.drop (i*9)).take 9=Yh (f i)):l=Yh (f 0)++(Yh (f 1)++(Yh (f 2)++(Yh (f 3)++Yh (f 4)))):=by
 have cut:∀k,(l.drop k).take 9++l.drop (k+9)=l.drop k:=fun k=>by
  rw[← List.drop_drop];exact List.take_append_drop 9 (l.drop k)
 have last:(l.drop 36).take 9=l.drop 36:=List.take_of_length_le (by rw[List.length_drop];omega);rw[← hf 0 (by decide),← hf 1 (by decide),← hf 2 (by decide),← hf 3 (by decide),← hf 4 (by decide)];have c0:=cut 0;have c1:=cut 9;have c2:=cut 18;have c3:=cut 27;simp only[Nat.reduceMul,Nat.reduceAdd,Nat.zero_mul,Nat.zero_add] at c0 c1 c2 c3 ⊢;rw[last,c3,c2,c1,c0]
 rfl
theorem Qq:jm enc 31 (fun t=>(dU t).toList) aG.Fit:=fun W n cs x ht=>by
 obtain⟨xs,m,_,hx,hlen,hxl,hel⟩:=DataW.trod_array underlying31 ht;rw[tZ] at hlen;rw[uf] at hel
 have hall:∀i,i<5→∃s:aG.S,(cs.drop (i*9)).take 9=Yh s∧s.p.v.f<18446744073709551616:=fun i hi=>by
  have h1:=hel i hi;rw[List.getElem?_eq_getElem (by omega)] at h1;obtain⟨s,e,g⟩:=UO (enc:=enc) W _ _ _ h1;exact⟨s,e,g⟩
 have:Inhabited aG.S:=⟨aG.z⟩;obtain⟨f,hf⟩:=choose_lt hall;refine⟨⟨f 0,f 1,f 2,f 3,f 4⟩,(NH hlen f (fun i hi=>(hf i hi).1)).trans rfl,fun c hc=>?_⟩
 rcases aG.fO hc with rfl|rfl|rfl|rfl|rfl
 ·exact(hf 0 (by decide)).2
 ·exact(hf 1 (by decide)).2
 ·exact(hf 2 (by decide)).2
 ·exact(hf 3 (by decide)).2
 ·exact(hf 4 (by decide)).2
end
end
section
open Go.ChangeShapes Go.WideShapes Go.Deep Go.RowKit
def eF(e:aI.E):Prop:=e.cmd.val.f<18446744073709551616∧e.cmd.old.f<18446744073709551616∧e.r≤9223372036854775807
section
variable {H:Type}{enc:TypeId×Value→H}{P:Program}{W:World}{base:Nat}{α:Type}
theorem uz{L:Lay P α}{Good:α→DataW H→Prop}(hop:ML enc W L Good)(hcells:P.cellsOf L.e=L.k)(hbytes:P.bytesOf L.e=L.bytes)
  {fuel:Nat} {cs:List Value} {d:DataW H} {p:List MemPlace} (h0:DataW.trod enc P W 0 (fun _=>true) true fuel L.t cs=some (d,p)) (hw:(d.weights P L.t).all (·≤reachBytes)=true) :
  ∃(A:Option Addr) (c:Nat) (l:List α),cs=[.slice A l.length c]∧L.Reads W W.heap.size A l∧(A=none→l=[])∧(∀x∈l,∃dx,Good x dx∧(dx.weights P L.e).all (·≤reachBytes)=true)∧l.length*L.bytes≤reachBytes∧l.length≤c:=by
 rcases open_slice L.und h0 with ⟨hcs,hx⟩|⟨a,len,cap,m,n,D,Pl,hcs,_,hl,hm,hmm,hx,hi⟩
 ·exact⟨none,0,[],hcs,Lay.Reads.nil _ _ _,fun _=>rfl,(fun x hx=>by cases hx),by simp,Nat.le_refl _⟩
 ·simp only[if_true] at hmm
  subst hmm;cases hx
  have hall:∀i,i<m→∃it:α,(∀j u,(L.f it)[j]?=some u→W.cell? ((a.add (i*L.k)).add j)=some u)∧Good it (D i):=fun i him=>by
   obtain⟨cs,hc,ht⟩:=hi i him;obtain⟨it,rfl,hg⟩:=hop _ _ _ ht;exact aeg
  by_cases h0:len=0
  ·subst h0
   exact acP
  have:Inhabited α:=⟨(hall 0 (by omega)).choose⟩;obtain⟨f,hf⟩:=choose_lt hall;have hlen:((List.range len).map f).length=len:=by simp
  have hget:∀i x,((List.range len).map f)[i]?=some x→i<len∧x=f i:=fun i x hx=>by
   rw[List.getElem?_map] at hx;obtain⟨j,hj,rfl⟩:=Option.map_eq_some_iff.1 hx
   have hlt:i<len:=by
    rcases Nat.lt_or_ge i len with h|h
    ·exact h
    ·rw[List.getElem?_eq_none (by simpa using h)] at hj;cases hj
   rw[List.getElem?_range hlt] at hj;cases hj;exact⟨hlt,rfl⟩
  have hsome:∃u,W.cell? a=some u:=by
   exact aeh
  obtain⟨u0,hu0⟩:=hsome
  have ha:a=⟨a.block,a.off,none⟩:=by
   obtain⟨b,o,sp⟩:=a
   cases sp with
   | none=>rfl
   | some z=>unfold World.cell? at hu0;split at hu0<;>simp at hu0
  have hW:(DataW.weights P L.t (.slice ((List.range len).map D) ((List.range (m-len)).map fun j=>D (len+j)):DataW H)).all (·≤reachBytes)=true:=hw;unfold DataW.weights at hW;rw[L.und] at hW;simp only[List.all_cons,List.all_append,Bool.and_eq_true,decide_eq_true_eq,List.length_map,List.length_range,hbytes] at hW;obtain⟨hW1,hW2,_⟩:=hW;refine⟨some a,m,(List.range len).map f,by rw[hlen];exact hcs,fun hp=>?_,(fun h=>by cases h),(fun x hx=>?_),?_,by rw[hlen];exact hl⟩
  ·refine⟨a.block,a.off,by rw[← ha],World.block_lt_of_cell? W a hu0,fun i x hx j u hu=>?_⟩
   exact aee
  ·obtain⟨i,hi',rfl⟩:=List.mem_map.1 hx
   have hD:D i∈(List.range len).map D:=List.mem_map.2 ⟨i,hi',rfl⟩;exact⟨D i,(hf i (by have:=List.mem_range.1 hi';omega)).2,List.all_eq_true.2 fun n hn=>List.all_eq_true.1 hW2 n (mD hn hD)⟩
  ·rw[hlen]
   exact SH
end
section
variable {H:Type}{enc:TypeId×Value→H}{W:World}{base:Nat}
theorem Jh:prog.cellsOf 33=47:=by kernel_rfl
theorem Lift.Given.state{ts:List TypeId}{args:List Value}{ds:List (DataW H)}{before:List MemPlace}(h:Lift.Given enc prog (33::ts) W base args ds before):
  ∃(n:Int) (A:Option Addr) (c:Nat) (l:List Oh) (t:aG.T) (vs:List Value) (d:DataW H) (ds':List (DataW H)) (q:List MemPlace),args=.agg (stA n A l.length c t)::vs∧ds=d::ds'∧(-9223372036854775808≤n∧n≤9223372036854775807)∧dS W A l.length c l∧aG.Fit t∧Lift.Given enc prog ts W base vs ds' q:=by
 obtain⟨v,vs,d,ds',p,q,rfl,rfl,rfl,h0,hok,_,hw,hg⟩:=h.cons;obtain⟨fuel,h0⟩:=h0;obtain⟨cs,rfl,hsz⟩:=okWide_struct underlying33 hok;have hcl:(Value.agg cs).cells.toList=cs.toList:=by simp[Value.cells]
 rw[hcl] at h0;obtain⟨ys,m,_,hx,hlen,hyl,hf⟩:=DataW.trod_struct underlying33 h0;have hlen:cs.toList.length=prog.cellsOf 33:=hlen;rw[Jh] at hlen;obtain⟨cl⟩:=cs
 match cl,hlen,ys,hyl with
 | v0::v1::rest,hlen,[y0,(d1,p1),y2],_=>
  have hrl:rest.length=45:=by
   have h:rest.length+1+1=47:=hlen;omega
  have f0:=hf 0 _ rfl;have f1:=hf 1 _ rfl;have f2:=hf 2 _ rfl;simp only[List.getElem?_cons_zero,List.getElem?_cons_succ] at f0 f1 f2;obtain⟨n,e0,w0,w1⟩:=DataW.trod_int underlying3 f0;obtain⟨t,e2,w2⟩:=Qq (enc:=enc) W _ _ _ f2;have hd:d=.agg [y0.1,d1,y2.1]:=congrArg Prod.fst hx;rw[hd] at hw;unfold DataW.weights at hw;rw[underlying33] at hw;simp only[List.map_cons,List.map_nil,DataW.weightsEach,List.all_append,Bool.and_eq_true] at hw;obtain⟨_,hw1,_⟩:=hw;obtain⟨A,c,l,hc,rd,nl,gd,bd,kd⟩:=uz (L:=bB) UU wU Jl (cs:=[v1]) f1 hw1;injection hc with hc;subst hc;have hb:l.length*144≤reachBytes:=bd;rw[iG] at hb
  have e3:rest=(dU t).toList:=by
   refine Eq.trans ?_ e2
   show rest=rest.take (prog.cellsOf 31)
   rw[tZ,List.take_of_length_le (by omega)]
  have hv:(⟨v0::.slice A l.length c::rest⟩:Array Value)=stA n A l.length c t:=by
   cases e0;rw[e3]
   rfl
  refine⟨n,A,c,l,t,vs,d,ds',q,by rw[hv],rfl,?_,⟨⟨rfl,kd,rd,nl,fun x hx=>trivial,by show l.length*144≤_;omega⟩,fun x hx=>?_⟩,w2,hg⟩
  ·have:=bounds_i64 w1
   exact⟨by omega,by omega⟩
  ·obtain⟨dx,g,hwx⟩:=gd x hx
   exact g hwx
end
end
section
open Go.ChangeShapes Go.WideShapes Go.Deep Go.RowKit
theorem Val.rH{u:Nat}(h:u<18446744073709551616): -9223372036854775808≤Val.sg u∧Val.sg u≤9223372036854775807:=by
 unfold Val.sg
 split<;>omega
theorem aA.aaY{k n:Int}{f:Nat}{s:ByteArray}(hk : -9223372036854775808≤k∧k≤9223372036854775807)(hn : -9223372036854775808≤n∧n≤9223372036854775807)(hf:f<18446744073709551616):aA.Fit (Val.items ⟨k,n,f,s⟩):=by
 unfold Val.items;refine aA.Fit.num hk.1 hk.2 ?_;dsimp only
 split
 ·exact aA.Fit.num hn.1 hn.2 aA.Fit.nil
 ·split
  ·exact aA.Fit.num (Val.rH hf).1 (Val.rH hf).2 aA.Fit.nil
  ·split
   ·exact aA.Fit.txt aA.Fit.nil
   ·exact aA.Fit.nil
theorem eY{n:Int}(h:Lit.wf (.int .i64 n)=true): -9223372036854775808≤n∧n≤9223372036854775807:=by
 have:=bounds_i64 h;exact⟨by omega,by omega⟩
theorem aA.wH{α:Type}{f:α→aA.Its}{l:List α}(hl:l.length≤9223372036854775807)(h:∀x∈l,aA.Fit (f x)):aA.Fit (aA.many f l):=aA.Fit.num (by omega) (by omega) (aA.Fit.flat h)
section
variable {H:Type}{enc:TypeId×Value→H}{W:World}{base:Nat}{α:Type}
theorem mO:jm enc 26 vaL (fun v=>v.f<18446744073709551616∧aA.Fit (Val.items v)):=fun W n cs x ht=>by
 obtain⟨ys,m,_,hx,hlen,hyl,hf⟩:=DataW.trod_struct underlying26 ht;have hlen:cs.length=prog.cellsOf 26:=hlen;rw[oV] at hlen
 match cs,hlen,ys,hyl with
 | [v0,v1,v2,v3],_,[y0,y1,y2,y3],_=>
  have f0:=hf 0 _ rfl;have f1:=hf 1 _ rfl;have f2:=hf 2 _ rfl;have f3:=hf 3 _ rfl;simp only[List.getElem?_cons_zero,List.getElem?_cons_succ] at f0 f1 f2 f3;obtain⟨a0,e0,_,z0⟩:=DataW.trod_int underlying3 f0;obtain⟨a1,e1,_,z1⟩:=DataW.trod_int underlying3 f1;obtain⟨a2,e2,_,z2⟩:=DataW.trod_int underlying24 f2;obtain⟨a3,e3,_,_⟩:=DataW.trod_string underlying9 f3;cases e0;cases e1;cases e2;cases e3;obtain⟨u,rfl,hu⟩:=rC z2;exact⟨⟨a0,a1,u,a3⟩,rfl,hu,aA.aaY (eY z0) (eY z1) hu⟩
theorem Qv:Opens enc bY (fun p _=>p.val.f<18446744073709551616∧aA.Fit (aA.xL p)):=fun W n cs x ht=>by
 obtain⟨ys,m,_,hx,hlen,hyl,hf⟩:=DataW.trod_struct underlying124 ht;have hlen:cs.length=prog.cellsOf 124:=hlen;rw[wT] at hlen
 match cs,hlen,ys,hyl with
 | [v0,v1,v2,v3,v4],_,[y0,y1],_=>
  have f0:=hf 0 _ rfl;have f1:=hf 1 _ rfl;simp only[List.getElem?_cons_zero,List.getElem?_cons_succ] at f0 f1;obtain⟨a0,e0,_,_⟩:=DataW.trod_string underlying9 f0;obtain⟨a1,e1,w1⟩:=mO (enc:=enc) W _ _ _ f1;cases e0;cases e1;exact⟨⟨a0,a1⟩,rfl,w1.1,aA.Fit.txt w1.2⟩
theorem Qp:Opens enc bG (fun v _=>vF v∧aA.Fit (Val.items v)):=fun W n cs x ht=>by
 obtain⟨v,h1,h2⟩:=mO (enc:=enc) W n cs x ht;exact⟨v,h1,h2⟩
theorem AO:jm enc 44 Zp (fun x=>aA.Fit (aA.yV x)):=fun W n cs x ht=>by
 obtain⟨ys,m,_,hx,hlen,hyl,hf⟩:=DataW.trod_struct underlying44 ht;have hlen:cs.length=prog.cellsOf 44:=hlen;rw[sV] at hlen
 match cs,hlen,ys,hyl with
 | [v0,v1,v2],_,[y0,y1,y2],_=>
  have f0:=hf 0 _ rfl;have f1:=hf 1 _ rfl;have f2:=hf 2 _ rfl;simp only[List.getElem?_cons_zero,List.getElem?_cons_succ] at f0 f1 f2;obtain⟨a0,e0,_,z0⟩:=DataW.trod_int underlying3 f0;obtain⟨a1,e1,_,z1⟩:=DataW.trod_int underlying3 f1;obtain⟨a2,e2,_,z2⟩:=DataW.trod_int underlying3 f2;cases e0;cases e1;cases e2;exact⟨⟨a0,a1,a2⟩,rfl,aA.Fit.num (eY z0).1 (eY z0).2 (aA.Fit.num (eY z1).1 (eY z1).2 (aA.Fit.num (eY z2).1 (eY z2).2 aA.Fit.nil))⟩
theorem Qt:Opens enc aN (fun x _=>aA.Fit (aA.yV x)):=fun W n cs x ht=>by
 obtain⟨v,h1,h2⟩:=AO (enc:=enc) W n cs x ht;exact⟨v,h1,h2⟩
theorem Qx:jm enc 73 mL (fun m=>Mt.Fit m∧aA.Fit (aA.FW m)):=fun W n cs x ht=>by
 obtain⟨ys,m,_,hx,hlen,hyl,hf⟩:=DataW.trod_struct underlying73 ht;have hlen:cs.length=prog.cellsOf 73:=hlen;rw[Jj] at hlen
 match cs,hlen,ys,hyl with
 | [v0,v1,v2,v3],_,[y0,y1,y2,y3],_=>
  have f0:=hf 0 _ rfl;have f1:=hf 1 _ rfl;have f2:=hf 2 _ rfl;have f3:=hf 3 _ rfl;simp only[List.getElem?_cons_zero,List.getElem?_cons_succ] at f0 f1 f2 f3;obtain⟨a0,e0,_,z0⟩:=DataW.trod_int underlying3 f0;obtain⟨a1,e1,_,z1⟩:=DataW.trod_int underlying24 f1;obtain⟨a2,e2,_,z2⟩:=DataW.trod_int underlying24 f2;obtain⟨a3,e3,_,z3⟩:=DataW.trod_int underlying24 f3;cases e0;cases e1;cases e2;cases e3;obtain⟨u1,rfl,hu1⟩:=rC z1;obtain⟨u2,rfl,hu2⟩:=rC z2;obtain⟨u3,rfl,hu3⟩:=rC z3;exact⟨⟨a0,u1,u2,u3⟩,rfl,⟨by have:=bounds_i64 z0;show a0≤_;omega,hu1,hu2,hu3⟩,aA.Fit.num (eY z0).1 (eY z0).2 (aA.Fit.num (Val.rH hu1).1 (Val.rH hu1).2 (aA.Fit.num (Val.rH hu2).1 (Val.rH hu2).2 (aA.Fit.num (Val.rH hu3).1 (Val.rH hu3).2 aA.Fit.nil)))⟩
theorem Qw:ML enc W bB (fun x dx=>(dx.weights prog 75).all (·≤reachBytes)=true→In W x∧aA.Fit (aA.mV x.v)):=fun n cs x ht=>by
 obtain⟨ys,m,_,hx,hlen,hyl,hf⟩:=DataW.trod_struct underlying75 ht;have hlen:cs.length=prog.cellsOf 75:=hlen;rw[wU] at hlen
 match cs,hlen,ys,hyl with
 | [v0,v1,v2,v3,v4,v5,v6,v7,v8,v9,v10],_,[y0,y1,y2,(d3,p3),(d4,p4),(d5,p5),y6,y7],_=>
  have f0:=hf 0 _ rfl;have f1:=hf 1 _ rfl;have f2:=hf 2 _ rfl;have f3:=hf 3 _ rfl;have f4:=hf 4 _ rfl;have f5:=hf 5 _ rfl;have f6:=hf 6 _ rfl;have f7:=hf 7 _ rfl;simp only[List.getElem?_cons_zero,List.getElem?_cons_succ] at f0 f1 f2 f3 f4 f5 f6 f7;obtain⟨a0,e0,_,_⟩:=DataW.trod_string underlying9 f0;obtain⟨a1,e1,_,z1⟩:=DataW.trod_int underlying3 f1;obtain⟨a2,e2,_,z2⟩:=DataW.trod_int underlying3 f2;obtain⟨a6,e6,_,z6⟩:=DataW.trod_int underlying3 f6;obtain⟨a7,e7,w7⟩:=Qx (enc:=enc) W _ _ _ f7;have hd:x.1=.agg [y0.1,y1.1,y2.1,d3,d4,d5,y6.1,y7.1]:=congrArg Prod.fst hx;by_cases hw:(x.1.weights prog 75).all (·≤reachBytes)=true
  case neg=>
   have hs3:∃A n c,v3=.slice A n c:=by
    rcases open_slice underlying69 f3 with ⟨hcs,_⟩|⟨a,len,cap,m,n,D,Pl,hcs,_⟩
    ·injection hcs with h;exact⟨_,_,_,h⟩
    ·injection hcs with h;exact⟨_,_,_,h⟩
   have hs4:∃A n c,v4=.slice A n c:=by
    rcases open_slice underlying70 f4 with ⟨hcs,_⟩|⟨a,len,cap,m,n,D,Pl,hcs,_⟩
    ·injection hcs with h;exact⟨_,_,_,h⟩
    ·injection hcs with h;exact⟨_,_,_,h⟩
   have hs5:∃A n c,v5=.slice A n c:=by
    rcases open_slice underlying71 f5 with ⟨hcs,_⟩|⟨a,len,cap,m,n,D,Pl,hcs,_⟩
    ·injection hcs with h;exact⟨_,_,_,h⟩
    ·injection hcs with h;exact⟨_,_,_,h⟩
   obtain⟨A3,n3,c3,rfl⟩:=hs3;obtain⟨A4,n4,c4,rfl⟩:=hs4;obtain⟨A5,n5,c5,rfl⟩:=hs5;cases e0;cases e1;cases e2;cases e6;cases e7;exact acE
  case pos=>
   have hw2:=hw;rw[hd] at hw2;unfold DataW.weights at hw2;rw[underlying75] at hw2;simp only[List.map_cons,List.map_nil,DataW.weightsEach,List.all_append,Bool.and_eq_true] at hw2;obtain⟨_,_,_,hw3,hw4,hw5,_⟩:=hw2;obtain⟨A3,c3,l3,hc3,r3,n3,g3,b3,k3⟩:=iM (L:=bY) Qv wT Jk (cs:=[v3]) f3 hw3;obtain⟨A4,c4,l4,hc4,r4,n4,g4,b4,k4⟩:=iM (L:=bG) Qp oV yj (cs:=[v4]) f4 hw4;obtain⟨A5,c5,l5,hc5,r5,n5,g5,b5,k5⟩:=iM (L:=aN) Qt sV BS (cs:=[v5]) f5 hw5;injection hc3 with hc3;injection hc4 with hc4;injection hc5 with hc5;subst hc3 hc4 hc5;cases e0;cases e1;cases e2;cases e6;cases e7;refine⟨⟨⟨a0,a1,a2,l3,l4,l5,a6,a7⟩,A3,l3.length,c3,A4,l4.length,c4,A5,l5.length,c5⟩,rfl,fun _=>⟨⟨?_,?_,?_,w7.1,by have:=bounds_i64 z6;show a6≤_;omega⟩,?_⟩⟩
   ·refine bT.sl ⟨rfl,k3,r3,n3,fun y hy=>?_,?_⟩
    ·obtain⟨_,g⟩:=g3 y hy;exact g.1
    ·have h:l3.length*56≤reachBytes:=b3
     rw[iG] at h
     show l3.length*56≤_
     omega
   ·refine⟨rfl,k4,r4,n4,fun y hy=>?_,?_⟩
    ·obtain⟨_,g⟩:=g4 y hy;exact g.1
    ·have h:l4.length*40≤reachBytes:=b4
     rw[iG] at h
     show l4.length*40≤_
     omega
   ·refine⟨rfl,k5,r5,n5,fun y hy=>trivial,?_⟩
    have h:l5.length*24≤reachBytes:=b5;rw[iG] at h
    show l5.length*24≤_
    omega
   ·have q3:l3.length≤9223372036854775807:=by
     have h:l3.length*56≤reachBytes:=b3;rw[iG] at h;omega
    have q4:l4.length≤9223372036854775807:=by
     have h:l4.length*40≤reachBytes:=b4;rw[iG] at h;omega
    have q5:l5.length≤9223372036854775807:=by
     have h:l5.length*24≤reachBytes:=b5;rw[iG] at h;omega
    exact(aA.Fit.txt (aA.Fit.num (eY z1).1 (eY z1).2 (aA.Fit.num (eY z2).1 (eY z2).2 (aA.Fit.num (eY z6).1 (eY z6).2 aA.Fit.nil)))).app ((aA.wH q3 fun y hy=>by obtain⟨_,g⟩:=g3 y hy;exact g.2).app ((aA.wH q4 fun y hy=>by obtain⟨_,g⟩:=g4 y hy;exact g.2).app ((aA.wH q5 fun y hy=>by obtain⟨_,g⟩:=g5 y hy;exact g).app w7.2)))
theorem Qs:jm enc 28 rpL (fun p=>p.v.f<18446744073709551616∧(-9223372036854775808≤p.e∧p.e≤9223372036854775807)∧aA.Fit (Val.items p.v)):=fun W n cs x ht=>by
 obtain⟨ys,m,_,hx,hlen,hyl,hf⟩:=DataW.trod_struct underlying28 ht;have hlen:cs.length=prog.cellsOf 28:=hlen;rw[Ji] at hlen
 match cs,hlen,ys,hyl with
 | [v0,v1,v2,v3,v4],_,[y0,y1],_=>
  have f0:=hf 0 _ rfl;have f1:=hf 1 _ rfl;simp only[List.getElem?_cons_zero,List.getElem?_cons_succ] at f0 f1;obtain⟨a0,e0,_,z0⟩:=DataW.trod_int underlying23 f0;obtain⟨a1,e1,w1⟩:=mO (enc:=enc) W _ _ _ f1;cases e0;cases e1;exact⟨⟨a0,a1⟩,rfl,w1.1,eY z0,w1.2⟩
theorem Qr:jm enc 30 Yh (fun s=>s.p.v.f<18446744073709551616∧aA.Fit (aA.nD s)):=fun W n cs x ht=>by
 obtain⟨ys,m,_,hx,hlen,hyl,hf⟩:=DataW.trod_struct underlying30 ht;have hlen:cs.length=prog.cellsOf 30:=hlen;rw[uf] at hlen
 match cs,hlen,ys,hyl with
 | [v0,v1,v2,v3,v4,v5,v6,v7,v8],_,[y0,y1,y2,y3,y4],_=>
  have f0:=hf 0 _ rfl;have f1:=hf 1 _ rfl;have f2:=hf 2 _ rfl;have f3:=hf 3 _ rfl;have f4:=hf 4 _ rfl;simp only[List.getElem?_cons_zero,List.getElem?_cons_succ] at f0 f1 f2 f3 f4;obtain⟨a0,e0,_⟩:=DataW.trod_bool underlying4 f0;obtain⟨a1,e1,_,z1⟩:=DataW.trod_int underlying3 f1;obtain⟨a2,e2,_,z2⟩:=DataW.trod_int underlying3 f2;obtain⟨a3,e3,_⟩:=DataW.trod_bool underlying4 f3;obtain⟨a4,e4,w4⟩:=Qs (enc:=enc) W _ _ _ f4;cases e0;cases e1;cases e2;cases e3;cases e4;exact⟨⟨a0,a1,a2,a3,a4⟩,rfl,w4.1,(aA.Fit.flg (aA.Fit.num (eY z1).1 (eY z1).2 (aA.Fit.num (eY z2).1 (eY z2).2 (aA.Fit.flg (aA.Fit.num w4.2.1.1 w4.2.1.2 aA.Fit.nil))))).app w4.2.2⟩
theorem Ld:jm enc 31 (fun t=>(dU t).toList) (fun t=>aG.Fit t∧aA.Fit (aA.Jy t)):=fun W n cs x ht=>by
 obtain⟨xs,m,_,hx,hlen,hxl,hel⟩:=DataW.trod_array underlying31 ht;rw[tZ] at hlen;rw[uf] at hel
 have hall:∀i,i<5→∃s:aG.S,(cs.drop (i*9)).take 9=Yh s∧(s.p.v.f<18446744073709551616∧aA.Fit (aA.nD s)):=fun i hi=>by
  have h1:=hel i hi;rw[List.getElem?_eq_getElem (by omega)] at h1;obtain⟨s,e,g⟩:=Qr (enc:=enc) W _ _ _ h1;exact⟨s,e,g⟩
 have:Inhabited aG.S:=⟨aG.z⟩;obtain⟨f,hf⟩:=choose_lt hall;refine⟨⟨f 0,f 1,f 2,f 3,f 4⟩,(NH hlen f (fun i hi=>(hf i hi).1)).trans rfl,fun c hc=>?_,((hf 0 (by decide)).2.2).app (((hf 1 (by decide)).2.2).app (((hf 2 (by decide)).2.2).app (((hf 3 (by decide)).2.2).app (hf 4 (by decide)).2.2)))⟩
 rcases aG.fO hc with rfl|rfl|rfl|rfl|rfl
 ·exact(hf 0 (by decide)).2.1
 ·exact(hf 1 (by decide)).2.1
 ·exact(hf 2 (by decide)).2.1
 ·exact(hf 3 (by decide)).2.1
 ·exact(hf 4 (by decide)).2.1
theorem Lift.Given.aeC{ts:List TypeId}{args:List Value}{ds:List (DataW H)}{before:List MemPlace}(h:Lift.Given enc prog (33::ts) W base args ds before):
  ∃(n:Int) (A:Option Addr) (c:Nat) (l:List Oh) (t:aG.T) (vs:List Value) (d:DataW H) (ds':List (DataW H)) (q:List MemPlace),args=.agg (stA n A l.length c t)::vs∧ds=d::ds'∧(-9223372036854775808≤n∧n≤9223372036854775807)∧dS W A l.length c l∧aG.Fit t∧aA.Fit (aA.mH ⟨n,Go.Proofs.YtahdlddbbnjloaaGreat.vs l,t⟩)∧Lift.Given enc prog ts W base vs ds' q:=by
 obtain⟨v,vs,d,ds',p,q,rfl,rfl,rfl,h0,hok,_,hw,hg⟩:=h.cons;obtain⟨fuel,h0⟩:=h0;obtain⟨cs,rfl,hsz⟩:=okWide_struct underlying33 hok;have hcl:(Value.agg cs).cells.toList=cs.toList:=by simp[Value.cells]
 rw[hcl] at h0;obtain⟨ys,m,_,hx,hlen,hyl,hf⟩:=DataW.trod_struct underlying33 h0;have hlen:cs.toList.length=prog.cellsOf 33:=hlen;rw[Jh] at hlen;obtain⟨cl⟩:=cs
 match cl,hlen,ys,hyl with
 | v0::v1::rest,hlen,[y0,(d1,p1),y2],_=>
  have hrl:rest.length=45:=by
   have h:rest.length+1+1=47:=hlen;omega
  have f0:=hf 0 _ rfl;have f1:=hf 1 _ rfl;have f2:=hf 2 _ rfl;simp only[List.getElem?_cons_zero,List.getElem?_cons_succ] at f0 f1 f2;obtain⟨n,e0,w0,w1⟩:=DataW.trod_int underlying3 f0;obtain⟨t,e2,w2⟩:=Ld (enc:=enc) W _ _ _ f2;have hd:d=.agg [y0.1,d1,y2.1]:=congrArg Prod.fst hx;rw[hd] at hw;unfold DataW.weights at hw;rw[underlying33] at hw;simp only[List.map_cons,List.map_nil,DataW.weightsEach,List.all_append,Bool.and_eq_true] at hw;obtain⟨_,hw1,_⟩:=hw;obtain⟨A,c,l,hc,rd,nl,gd,bd,kd⟩:=uz (L:=bB) Qw wU Jl (cs:=[v1]) f1 hw1;injection hc with hc;subst hc;have hb:l.length*144≤reachBytes:=bd;rw[iG] at hb
  have e3:rest=(dU t).toList:=by
   refine Eq.trans ?_ e2
   show rest=rest.take (prog.cellsOf 31)
   rw[tZ,List.take_of_length_le (by omega)]
  have hv:(⟨v0::.slice A l.length c::rest⟩:Array Value)=stA n A l.length c t:=by
   cases e0;rw[e3]
   rfl
  refine⟨n,A,c,l,t,vs,d,ds',q,by rw[hv],rfl,?_,⟨⟨rfl,kd,rd,nl,fun x hx=>trivial,by show l.length*144≤_;omega⟩,fun x hx=>?_⟩,w2.1,?_,hg⟩
  ·have:=bounds_i64 w1
   exact⟨by omega,by omega⟩
  ·obtain⟨dx,g,hwx⟩:=gd x hx
   exact(g hwx).1
  ·have hr : -9223372036854775808≤n∧n≤9223372036854775807:=by
    have:=bounds_i64 w1;exact⟨by omega,by omega⟩
   refine aA.Fit.num hr.1 hr.2 (aA.Fit.app (aA.wH ?_ fun y hy=>?_) w2.2)
   ·rw[gq]
    omega
   ·obtain⟨x,hx,rfl⟩:=List.mem_map.1 hy
    obtain⟨dx,g,hwx⟩:=gd x hx;exact(g hwx).2
end
end
section
theorem aA.agI(c:Bool)(b:ByteArray):aA.Fit (aA.mH (aA.D c b).1)∧aA.Ft (aA.D c b).1∧aA.Zd c (aA.D c b).1∧(aA.mH (aA.D c b).1).length≤16384:=by
 by_cases h0:(aA.D c b).2=0
 ·obtain⟨s,h1,h2,h3,h4,h5⟩:=aA.once h0
  rw[h1];refine⟨h3,h4,aA.afr h2 h4 c,?_⟩;have h:=aA.aki s h3;rw[aA.RZ h2 h3] at h;have h':=Af ((aA.mH s).map aA.toW);rw[List.length_map] at h';have h2:((aF.all ((aA.mH s).map aA.toW)).toArray).size≤16384:=h;rw[List.size_toArray] at h2
  show(aA.mH s).length≤_
  omega
 ·rw[aA.adP h0]
  exact⟨aA.Ox,aA.aaO,aA.afr aA.afo aA.aaO c,by decide⟩
theorem abt{c:Bool}{b:ByteArray}{n:Int}{A:Option Addr}{k m:Nat}{l:List Oh}{t:aG.T}{b0:Nat}{w0 W:World}{L:List (Nat×TypeId×Array Value)}{R:List bV}(hv:Sh.v ⟨n,⟨A,k,m,l⟩,t⟩=(aA.D c b).1)(hk:Kn b0 w0 W L R)(hR:∀y∈mQ ⟨A,k,m,l⟩,y∈R):dS W A k m l:=by
 obtain⟨h1,h2,h3,h4⟩:=aA.agI c b;rw[← hv] at h1 h3 h4;exact(Sh.obs (x:=⟨n,⟨A,k,m,l⟩,t⟩) (c:=c) hk hR h1 h3 h4).1
theorem Vg{n:Int}{t:aG.T}{W:World}{A:Option Addr}{k m:Nat}{l:List Oh}(h:dS W A k m l)(ht:aG.Fit t):aA.Ft ⟨n,vs l,t⟩:=by
 have hi:∀o∈vs l,∃x∈l,x.v=o:=fun o ho=>List.mem_map.1 ho
 refine⟨fun o ho=>?_,fun o ho=>?_,fun o ho=>?_,ht⟩
 ·obtain⟨x,hx,rfl⟩:=hi o ho
  exact(h.i x hx).p.fs
 ·obtain⟨x,hx,rfl⟩:=hi o ho
  exact(h.i x hx).v.fit.fs
 ·obtain⟨x,hx,rfl⟩:=hi o ho
  exact⟨(h.i x hx).m.2.1,(h.i x hx).m.2.2.1,(h.i x hx).m.2.2.2⟩
end
section
namespace aA
def B(n:Int):Prop:=-9223372036854775808≤n∧n≤9223372036854775807
def VB(v:Val.V):Prop:=v.k=1→B v.n
def RB(r:Rf):Prop:=B r.c∧B r.e∧B r.r
structure OB(o:au.Ob):Prop where
 p:∀x∈o.dV,VB x.val
 v:∀x∈o.vals,VB x
 r:∀x∈o.refs,RB x
 m:o.mt.n≤9223372036854775807
 d:o.round≤9223372036854775807
structure SB(s:aG.S):Prop where
 e:B s.ep
 q:B s.rq
 v:VB s.p.v
def TB(t:aG.T):Prop:=∀c:Int,0≤c∧c<5→SB (t.get c)
structure NB(s:Ap.St):Prop where
 n:s.n≤9223372036854775807
 l:∀o∈s.l,OB o
 t:TB s.t
theorem vb0{v:Val.V}(h:¬v.k=1:=by decide):VB v:=fun e=>absurd e h
theorem YP:VB au.rz.v:=vb0
theorem Yg{n:Int}:VB (au.err n).v:=vb0 (h:=(show ¬(0:Int)=1 by decide))
theorem b0:B 0:=⟨by decide,by decide⟩
theorem Dk{o:au.Ob}(h:au.One o=true):0≤o.round:=by
 obtain⟨a,b,c⟩:=au.fD h;obtain⟨_,_,_,_,_,b4,_⟩:=au.jl b
 rcases b4 with g|g
 ·unfold au.f4 at g
  have:o.round=0:=by simpa using g
  omega
 ·unfold au.h4 at g
  have hk:o.kind=4:=of_decide_eq_true g;unfold au.sound at c;rw[if_neg (by omega),if_neg (by omega),if_neg (by omega),if_pos hk] at c;simp only[Bool.and_eq_true,decide_eq_true_eq] at c;exact c.2
theorem adh{m:kC}(h:Mt.Ok m):0≤m.n:=by
 rcases h with g|g
 ·omega
 ·omega
theorem EP{o:au.Ob}(h:au.One o=true):0≤o.mt.n:=by
 obtain⟨a,b,c⟩:=au.fD h;obtain⟨_,_,_,_,_,_,b5⟩:=au.jl b
 rcases b5 with g|g
 ·unfold au.f5 at g
  have:o.mt=Mt.zero:=by simpa using g
  rw[this];exact Int.le_refl 0
 ·unfold au.h5 at g
  have hk:o.kind=5:=of_decide_eq_true g;unfold au.sound at c;rw[if_neg (by omega),if_neg (by omega),if_neg (by omega),if_neg (by omega),if_pos hk] at c;exact adh (of_decide_eq_true c)
theorem UZ{o:au.Ob}(h:au.One o=true):1≤o.kind∧o.kind≤5:=by
 obtain⟨a,b,c⟩:=au.fD h;have g:=(au.jl b).1;unfold au.is at g;exact of_decide_eq_true g
theorem ZO{o:au.Ob}(h:au.One o=true):0≤o.cap∧o.cap≤8:=by
 obtain⟨a,b,c⟩:=au.fD h;obtain⟨_,b0,_⟩:=au.jl b
 rcases b0 with g|g
 ·unfold au.f0 at g
  have:o.cap=0:=by simpa using g
  omega
 ·unfold au.h0 at g
  have hk:o.kind=2∨o.kind=4:=of_decide_eq_true g;unfold au.sound at c
  rcases hk with hk|hk
  ·rw[if_neg (by omega),if_pos hk] at c
   have:=of_decide_eq_true c;have h1:=this.lo;have h2:=this.hi;omega
  ·rw[if_neg (by omega),if_neg (by omega),if_neg (by omega),if_pos hk] at c
   simp only[Bool.and_eq_true,decide_eq_true_eq] at c;have h1:=c.1.1;have h2:=c.1.2.1;omega
theorem aeF{o:au.Ob}(h:OB o)(ho:au.One o=true):B (au.size o):=by
 have b:=AX ho;have b1:=b.p;have b2:=b.v;have b3:=b.r;have b4:=EP ho;have b5:=h.m;unfold au.size B
 repeat' split
 all_goals omega
theorem Wn{l:List aQ.Pr}(h:∀p∈l,VB p.val)(k:ByteArray):VB (aQ.sJ l k):=by
 unfold aQ.sJ
 split
 ·cases hf:aQ.iV l k with
  | none=>exact vb0
  | some v=>
   obtain⟨x,hx,_,e⟩:=aQ.Bz hf
   show VB v
   rw[← e];exact h x hx
 ·exact vb0
theorem aib{l:List aQ.Pr}(h:∀p∈l,VB p.val){k:ByteArray}{o:Val.V}:VB (aQ.Kl l k o):=by
 unfold aQ.Kl
 split
 ·exact vb0
 ·exact Wn h k
theorem aiB{n:Int}{l:List Val.V}(h:∀v∈l,VB v):VB (fG.KW n l):=by
 unfold fG.KW
 split
 ·cases l with
  | nil=>exact vb0
  | cons v m=>exact h v (List.mem_cons_self ..)
 ·exact vb0
theorem adq{l:List aQ.Pr}(h:∀p∈l,VB p.val)(k:ByteArray){v:Val.V}(hv:VB v):∀p∈aQ.ins l k v,VB p.val:=fun p hp=>by
 unfold aQ.ins at hp
 rcases List.mem_append.1 hp with hp|hp
 ·rcases List.mem_append.1 hp with hp|hp
  ·exact h p (List.mem_of_mem_take hp)
  ·rw[List.mem_singleton.1 hp];exact hv
 ·exact h p (List.mem_of_mem_drop hp)
theorem adv{l:List aQ.Pr}(h:∀p∈l,VB p.val)(k:ByteArray):∀p∈aQ.wo l k,VB p.val:=fun p hp=>h p (List.mem_filter.1 hp).1
theorem aix{l:List aQ.Pr}(h:∀p∈l,VB p.val){k:ByteArray}{v:Val.V}(hv:VB v):∀p∈aQ.yI l k v,VB p.val:=by
 unfold aQ.yI
 split
 ·exact adq h k hv
 ·exact h
theorem ajp{l:List aQ.Pr}(h:∀p∈l,VB p.val){k:ByteArray}:∀p∈aQ.Xg l k,VB p.val:=by
 unfold aQ.Xg
 split
 ·exact adv h k
 ·exact h
theorem aic{l:List aQ.Pr}(h:∀p∈l,VB p.val){k:ByteArray}{o:Val.V}{v:Val.V}(hv:VB v):∀p∈aQ.Gg l k o v,VB p.val:=by
 unfold aQ.Gg
 split
 ·split
  ·exact adv h k
  ·exact adq h k hv
 ·exact h
theorem aiz{n:Int}{l:List Val.V}(h:∀v∈l,VB v){v:Val.V}(hv:VB v):∀x∈fG.Cj n l v,VB x:=by
 unfold fG.Cj
 split
 ·intro x hx
  rcases List.mem_append.1 hx with hx|hx
  ·exact h x hx
  ·rw[List.mem_singleton.1 hx];exact hv
 ·exact h
theorem aiC{n:Int}{l:List Val.V}(h:∀v∈l,VB v):∀x∈fG.KX n l,VB x:=by
 unfold fG.KX
 split
 ·exact fun x hx=>h x (List.mem_of_mem_drop hx)
 ·exact h
theorem TI{l:List Rf}(h:∀x∈l,RB x){r:Rf}(hr:RB r):∀x∈l++[r],RB x:=fun x hx=>by
 rcases List.mem_append.1 hx with hx|hx
 ·exact h x hx
 ·rw[List.mem_singleton.1 hx];exact hr
theorem ahY{l:List Rf}(h:∀x∈l,RB x){r:Rf}(hr:RB r):∀x∈aY.CP l r,RB x:=by
 unfold aY.CP
 split
 ·exact TI h hr
 ·exact h
theorem aji{l:List Rf}(h:∀x∈l,RB x)(r:Rf):∀x∈aY.Fj l r,RB x:=by
 unfold aY.Fj
 split
 ·exact fun x hx=>h x (List.mem_of_mem_drop hx)
 ·exact h
theorem adj{l:List Rf}(h:∀x∈l,RB x)(r:Rf):∀x∈aY.wo l r,RB x:=fun x hx=>h x (List.mem_filter.1 hx).1
theorem aiP{l:List Rf}(h:∀x∈l,RB x)(r:Rf):∀x∈aY.sS l r,RB x:=by
 unfold aY.sS
 split
 ·exact adj h r
 ·exact h
theorem ajh{m:Int}{l:List Rf}(h:∀x∈l,RB x)(r:Rf):∀x∈Gt.sS m l r,RB x:=by
 unfold Gt.sS
 split
 ·exact adj h r
 ·exact h
theorem acT{m:Int}{l:List Rf}(h:∀x∈l,RB x){r:Rf}(hr:RB r):∀x∈Gt.Ef m l r,RB x:=by
 unfold Gt.Ef
 split
 ·split
  ·exact fun x hx=>by cases hx
  ·exact TI h hr
 ·exact h
theorem alG{x:kC}(h:x.n≤9223372036854775807){b:Nat}:(Mt.ad x b).n≤9223372036854775807:=by
 unfold Mt.ad
 split
 ·exact h
 split
 ·exact h
 split
 ·show(1:Int)≤_;decide
 ·show x.n+1≤_;omega
theorem akS{x:kC}(h:x.n≤9223372036854775807){q:Int}:VB ⟨(Mt.rd x q).k,(Mt.rd x q).n,(Mt.rd x q).f,⟨#[]⟩⟩:=by
 unfold Mt.rd
 split
 ·exact vb0
 next g=>
  split
  ·intro _
   have hok:Mt.Ok x:=Classical.byContradiction fun q=>g (.inl q)
   have:=adh hok;exact⟨by show _≤x.n;omega,h⟩
  ·split
   ·exact vb0 (h:=(show ¬(0:Int)=1 by decide))
   ·exact vb0 (h:=(show ¬(2:Int)=1 by decide))
theorem Wi{y:Rf}{b:Bool}:∀z∈au.held y b,VB z.p.v:=fun z hz=>by
 unfold au.held at hz
 split at hz
 ·rw[List.mem_singleton.1 hz];exact YP
 ·cases hz
theorem aer{o:au.Ob}(h:OB o)(ho:au.One o=true){r:Rf}(hr:RB r):OB (au.wait o r).o∧VB (au.wait o r).p.v∧∀y∈(au.wait o r).outs,VB y.p.v:=by
 have hrd:=Dk ho;have hd:=h.d;have hv:VB (au.num o.round):=fun _=>⟨by show _≤o.round;omega,hd⟩
 generalize hx:au.wait o r=x;unfold au.wait at hx
 split at hx
 ·subst hx;exact⟨⟨h.p,h.v,acT h.r hr,h.m,h.d⟩,Yg,fun y hy=>by cases hy⟩
 split at hx
 ·subst hx;exact⟨h,Yg,fun y hy=>by cases hy⟩
 ·subst hx
  refine⟨⟨h.p,h.v,acT h.r hr,h.m,by show o.round+1≤_;omega⟩,hv,fun y hy=>?_⟩;obtain⟨x,_,e⟩:=List.mem_map.1 hy;rw[← e];exact hv
theorem ajA{o:au.Ob}(h:OB o)(ho:au.One o=true){r:Rf}(hr:RB r){c:aI.C}(hc:VB c.val):OB (au.act o r c).o∧VB (au.act o r c).p.v∧∀y∈(au.act o r c).outs,VB y.p.v:=by
 have none:∀y∈([]:List au.Ot),VB y.p.v:=fun y hy=>by cases hy
 generalize hx:au.act o r c=x;unfold au.act at hx;by_cases h12:c.k=12
 ·rw[if_pos h12] at hx;subst hx;exact⟨⟨h.p,h.v,ahY h.r hr,h.m,h.d⟩,Yg,none⟩
 rw[if_neg h12] at hx;by_cases Bu:c.k=13
 ·rw[if_pos Bu] at hx;subst hx;exact⟨⟨h.p,h.v,aji h.r r,h.m,h.d⟩,Yg,Wi⟩
 rw[if_neg Bu] at hx;by_cases uY:c.k=14
 ·rw[if_pos uY] at hx;subst hx;exact aer h ho hr
 rw[if_neg uY] at hx;by_cases h6:c.k=6
 ·rw[if_pos h6] at hx;subst hx;exact⟨h,Wn h.p _,none⟩
 rw[if_neg h6] at hx;by_cases h7:c.k=7
 ·rw[if_pos h7] at hx;subst hx;exact⟨⟨aix h.p hc,h.v,h.r,h.m,h.d⟩,Yg,none⟩
 rw[if_neg h7] at hx;by_cases h8:c.k=8
 ·rw[if_pos h8] at hx;subst hx;exact⟨⟨ajp h.p,h.v,h.r,h.m,h.d⟩,Wn h.p _,none⟩
 rw[if_neg h8] at hx;by_cases h9:c.k=9
 ·rw[if_pos h9] at hx;subst hx;exact⟨⟨aic h.p hc,h.v,h.r,h.m,h.d⟩,aib h.p,none⟩
 rw[if_neg h9] at hx;by_cases h10:c.k=10
 ·rw[if_pos h10] at hx;subst hx;exact⟨⟨h.p,aiz h.v hc,h.r,h.m,h.d⟩,Yg,none⟩
 rw[if_neg h10] at hx;by_cases h11:c.k=11
 ·rw[if_pos h11] at hx;subst hx;exact⟨⟨h.p,aiC h.v,h.r,h.m,h.d⟩,aiB h.v,none⟩
 rw[if_neg h11] at hx;by_cases h15:c.k=15
 ·rw[if_pos h15] at hx;subst hx;exact⟨⟨h.p,h.v,h.r,alG h.m,h.d⟩,Yg,none⟩
 rw[if_neg h15] at hx;by_cases h16:c.k=16
 ·rw[if_pos h16] at hx;subst hx;exact⟨h,akS h.m,none⟩
 rw[if_neg h16] at hx;by_cases LV:c.k=17
 ·rw[if_pos LV] at hx;subst hx;exact⟨h,fun _=>aeF h ho,none⟩
 rw[if_neg LV] at hx;subst hx;exact⟨h,YP,none⟩
theorem ada{l:List au.Ob}(h:∀o∈l,OB o){k:ByteArray}{o:au.Ob}(ho:OB o):∀x∈au.put l k o,OB x:=fun x hx=>by
 unfold au.put at hx
 rcases List.mem_append.1 hx with hx|hx
 ·rcases List.mem_append.1 hx with hx|hx
  ·exact h x (List.mem_of_mem_take hx)
  ·rw[List.mem_singleton.1 hx];exact ho
 ·exact h x (List.mem_of_mem_drop hx)
theorem ajk{l:List au.Ob}(h:∀o∈l,OB o){r:Rf}(hr:RB r){c:aI.C}(hc:VB c.val):(∀o∈(au.iq l r c).l,OB o)∧VB (au.iq l r c).p.v∧∀y∈(au.iq l r c).outs,VB y.p.v:=by
 have none:∀y∈([]:List au.Ot),VB y.p.v:=fun y hy=>by cases hy
 by_cases hk:au.aX l r c=0
 case neg=>rw[au.tX hk];exact⟨h,Yg,none⟩
 obtain⟨⟨hR,_⟩,_,_,ho⟩:=au.sU hk;by_cases h4:c.k=4
 ·rw[au.wO hk h4]
  exact⟨ada h ⟨fun x hx=>(by cases hx),fun x hx=>(by cases hx),fun x hx=>(by cases hx),by show(0:Int)≤_;decide,by show(0:Int)≤_;decide⟩,YP,none⟩
 by_cases h5:c.k=5
 ·rw[au.wP hk h5]
  exact⟨fun o ho=>h o (List.mem_filter.1 ho).1,YP,none⟩
 obtain⟨o,ho1,_⟩:=ho h4;rw[au.wQ hk h4 h5 ho1];have hm:=(au.BA ho1).1;obtain⟨a,b,c⟩:=ajA (h o hm) (hR.ok o hm) hr hc;exact⟨ada h a,b,c⟩
theorem abn{l:List au.Ob}(h:∀o∈l,OB o){r:Rf}:∀o∈au.aO l r,OB o:=by
 unfold au.aO
 split
 ·intro x hx
  obtain⟨o,ho,rfl⟩:=List.mem_map.1 hx;have g:=h o ho;unfold au.dr
  split
  ·exact⟨g.p,g.v,aiP g.r r,g.m,g.d⟩
  split
  ·exact⟨g.p,g.v,ajh g.r r,g.m,g.d⟩
  ·exact g
 ·exact h
theorem abm{l:List au.Ob}{r:Rf}:∀z∈au.jR l r,VB z.p.v:=fun z hz=>by
 unfold au.jR at hz
 split at hz
 ·obtain⟨o,_,hz⟩:=List.mem_flatMap.1 hz
  unfold au.xg at hz
  split at hz
  ·exact Wi z hz
  ·cases hz
 ·cases hz
theorem TB.set{t:aG.T}{c:Int}{s:aG.S}(h:TB t)(hs:SB s):TB (t.set c s):=fun d hd=>by
 by_cases hc:0≤c∧c<5
 ·by_cases e:d=c
  ·rw[e,aG.bQ hc];exact hs
  ·rw[aG.jH hc hd e];exact h d hd
 ·rw[aG.Nk hc];exact h d hd
theorem TB.get{t:aG.T}(h:TB t)(c:Int):SB (t.get c):=by
 by_cases hc:0≤c∧c<5
 ·exact h c hc
 ·unfold aG.T.get
  rw[if_neg (by omega),if_neg (by omega),if_neg (by omega),if_neg (by omega),if_neg (by omega)];exact⟨b0,b0,YP⟩
theorem TB.open{t:aG.T}(h:TB t){r:Rf}(hr:RB r):TB (aG.jv t r):=by
 unfold aG.jv
 split
 ·refine h.set ?_
  unfold aG.lT
  split
  ·exact⟨hr.2.1,b0,YP⟩
  ·exact⟨hr.2.1,b0,Yg (n:=6)⟩
 ·exact h
theorem TB.beg{t:aG.T}(h:TB t){r:Rf}(hr:RB r):TB (aG.iT t r):=by
 unfold aG.iT
 split
 ·exact h.set ⟨(h.get r.c).e,hr.2.2,YP⟩
 ·exact h
theorem TB.end_{t:aG.T}(h:TB t)(r:Rf){x:au.Rp}(hx:VB x.v):TB (aG.ji t r x):=by
 unfold aG.ji
 split
 ·exact h.set ⟨(h.get r.c).e,(h.get r.c).q,hx⟩
 ·exact h
theorem TB.close{t:aG.T}(h:TB t)(c:Int):TB (aG.fF t c):=by
 unfold aG.fF
 split
 ·refine h.set ?_
  unfold aG.iA
  split
  ·exact⟨(h.get c).e,(h.get c).q,(h.get c).v⟩
  ·exact⟨(h.get c).e,(h.get c).q,Yg (n:=14)⟩
 ·exact h
theorem Mg:∀{Y:List (Rf×au.Rp)} {t:aG.T},(∀y∈Y,VB y.2.v)→TB t→TB (Ap.ends t Y)
 | [],_,_,h=>h
 | y::m,t,hy,h=>Mg (Y:=m) (fun z hz=>hy z (List.mem_cons_of_mem _ hz)) (h.end_ y.1 (hy y (List.mem_cons_self ..)))
theorem adb{Y:List au.Ot}(h:∀y∈Y,VB y.p.v):∀z∈Ap.dV Y,VB z.2.v:=fun z hz=>by
 exact SK
theorem EZ{s:Ap.St}(h:NB s)(c:Int):NB (Ap.iR s c):=⟨h.n,abn h.l,Mg (adb (abm)) (h.t.close c)⟩
theorem LA{s:Ap.St}(h:NB s){c:Int}:NB (Ap.left s c):=by
 unfold Ap.left
 split
 ·exact EZ h c
 ·exact h
def EB(e:aI.E):Prop:=RB (Ap.ref e)∧VB e.cmd.val
theorem aaP{s:Ap.St}(h:NB s){r:Rf}(hr:RB r){c:aI.C}(hc:VB c.val):NB (Ap.gH s r c):=by
 have hd:=ajk h.l hr hc;unfold Ap.gH
 split
 ·exact⟨h.n,h.l,(h.t.beg hr).end_ _ YP⟩
 split
 ·exact EZ (s:=Ap.touch s r) ⟨h.n,h.l,(h.t.beg hr).end_ _ YP⟩ _
 split
 ·exact⟨h.n,hd.1,h.t.beg hr⟩
 ·exact⟨h.n,hd.1,Mg (adb hd.2.2) ((h.t.beg hr).end_ _ hd.2.1)⟩
theorem alE{s:Ap.St}(h:NB s){e:aI.E}(he:EB e):NB (Ap.Cu s e):=by
 unfold Ap.Cu
 split
 next g=>
  have hu:NB (Ap.up s):=⟨by show s.n+1≤_;have:=h.n;have:=g.2.2;omega,h.l,h.t⟩;unfold Ap.zL
  split
  ·split
   ·exact EZ hu _
   ·exact hu
  split
  ·split
   ·exact⟨(LA hu).n,(LA hu).l,(LA hu).t.open he.1⟩
   ·exact aaP hu he.1 he.2
  ·exact hu
 next=>exact h
theorem WB{v:Val.V}(hc:Val.aX v=0)(hb:VB v)(hf:v.f<18446744073709551616):Fit (Val.items v):=by
 have hk:0≤v.k∧v.k≤3:=by
  unfold Val.aX at hc
  repeat' split at hc
  all_goals first|omega|cases hc
 unfold Val.items;refine Fit.num (by omega) (by omega) ?_
 split
 next h1=>exact Fit.num (hb h1).1 (hb h1).2 Fit.nil
 ·split
  ·exact Fit.num (by unfold Val.sg;split<;>omega) (by unfold Val.sg;split<;>omega) Fit.nil
  ·split
   ·exact Fit.txt Fit.nil
   ·exact Fit.nil
theorem PE{u:Nat}(h:u<18446744073709551616):B (Val.sg u):=by
 unfold Val.sg B
 split<;>omega
theorem afZ{o:au.Ob}(ho:au.One o=true)(h:OB o)(hp:∀x∈o.dV,x.val.f<18446744073709551616)(hv:∀x∈o.vals,x.f<18446744073709551616)(hm:mG o.mt):Fit (mV o):=by
 have b:=AX ho;have b1:=b.p;have b2:=b.v;have b3:=b.r;have k:=UZ ho;have c:=ZO ho;have r:=Dk ho;have m:=EP ho;have q1:=h.m;have q2:=h.d;refine(Fit.txt (Fit.num (by omega) (by omega) (Fit.num (by omega) (by omega) (Fit.num (by omega) (by omega) Fit.nil)))).app (Fit.app (Fit.num (by omega) (by omega) (Fit.flat fun x hx=>Fit.txt (WB (b.k x hx).2 (h.p x hx) (hp x hx)))) (Fit.app (Fit.num (by omega) (by omega) (Fit.flat fun x hx=>WB (b.c x hx) (h.v x hx) (hv x hx))) (Fit.app (Fit.num (by omega) (by omega) (Fit.flat fun x hx=>?_)) ?_)))
 ·have g:=h.r x hx
  exact Fit.num g.1.1 g.1.2 (Fit.num g.2.1.1 g.2.1.2 (Fit.num g.2.2.1 g.2.2.2 Fit.nil))
 ·exact Fit.num (by omega) (by omega) (Fit.num (PE hm.1).1 (PE hm.1).2 (Fit.num (PE hm.2.1).1 (PE hm.2.1).2 (Fit.num (PE hm.2.2).1 (PE hm.2.2).2 Fit.nil)))
theorem ZL{s:aG.S}(h:aG.one s=true):0≤s.p.e∧s.p.e≤18∧Val.aX s.p.v=0:=by
 unfold aG.one at h
 split at h
 ·rw[of_decide_eq_true h];decide
 ·simp only[Bool.and_eq_true,decide_eq_true_eq] at h
  have g:=h.2;unfold au.rep at g;simp only[Bool.and_eq_true,decide_eq_true_eq] at g;exact⟨g.1.1,g.1.2,g.2⟩
theorem BG{s:aG.S}(ho:aG.one s=true)(h:SB s)(hf:s.p.v.f<18446744073709551616):Fit (nD s):=by
 obtain⟨a,b,c⟩:=ZL ho;exact(Fit.flg (Fit.num h.e.1 h.e.2 (Fit.num h.q.1 h.q.2 (Fit.flg (Fit.num (by omega) (by omega) Fit.nil))))).app (WB c h.v hf)
theorem afY{s:Ap.St}(h:Ap.Ok s)(hb:NB s)(hf:Ft s):Fit (mH s):=by
 have h1:=h.n;have h2:=hb.n;have h3:=h.l.len;obtain⟨o0,o1,o2,o3,o4⟩:=h.t.1;have ht:=hf.t;have hq:=hb.t;refine Fit.num (by omega) (by omega) (Fit.app (Fit.num (by omega) (by omega) (Fit.flat fun o ho=>afZ (h.l.ok o ho) (hb.l o ho) (hf.p o ho) (hf.v o ho) (hf.m o ho))) ?_);exact(BG o0 (hq 0 (by decide)) (ht 0 (by decide))).app ((BG o1 (hq 1 (by decide)) (ht 1 (by decide))).app ((BG o2 (hq 2 (by decide)) (ht 2 (by decide))).app ((BG o3 (hq 3 (by decide)) (ht 3 (by decide))).app (BG o4 (hq 4 (by decide)) (ht 4 (by decide))))))
end aA
end
section
theorem vN(t:aG.T)(r:Rf)(x:au.Rp)(w:World)(hf:aG.Fit t)(hx:x.v.f<18446744073709551616):Calls prog 48 #[.agg (dU t),.agg #[.int .i64 r.c,.int .i64 r.e,.int .i64 r.r],.agg (dG x)] w (RQ (aG.ji t r x) w):=by
 have HL:=zH (fun W=>xH t r W hf);have HK:=FX w 31 (dU t) 44 #[.int .i64 r.c,.int .i64 r.e,.int .i64 r.r] 28 (dG x);have HP:=zH (fun W=>Au x W hx);have HY:=zH (fun h1 h2=>aG.abf (t:=t) (r:=r) (x:=x) h1 h2);have kU:=zH (fun h=>aG.abh (t:=t) (r:=r) (x:=x) h);have fP:=zH (fun h=>aG.abg (t:=t) (r:=r) (x:=x) h);have HC:=zH (fun h=>aG.sF (t:=t) (r:=r) (k:=3) h (by decide));unfold RQ;unfold jo at HL;unfold dw at HP;clear hf hx;have H3:=aG.zG t r;generalize aG.lookW t r=z at *
 generalize aG.ji t r x=y at *
 generalize au.rep x=b2 at *
 generalize h1:decide (aG.look t r=3)=b1 at *
 have H1:=zH H3;have H9:=zH h1;clear h1 H3;cases b1
 case false=>
  have HX:=zH (kU.out (by simp));go_enter func48,ntmps48;go_wp2_with (first|refine zX (qR HK 0) ?_|refine zX (aP HK 1) ?_|(refine eO HK ?_;clear HK;intro _ g1 HK;simp only[aS,aK] at HK));refine cb (HL.out _) HK ?_;clear HK;intro _ HK;go_wp2_with (first|refine zX (bJ (m:=z) (n:=3) (by rw[H1.out])) ?_|refine zX (qR HK 0) ?_|(refine dH (t2:=t) HK 3 ?_;clear HK;intro _ HK;simp only[lS] at HK));exact aec
 have hc:=HC.out (of_decide_eq_true H9.out);go_enter func48,ntmps48;go_wp2_with (first|refine zX (qR HK 0) ?_|refine zX (aP HK 1) ?_|(refine eO HK ?_;clear HK;intro _ g1 HK;simp only[aS,aK] at HK));refine cb (HL.out _) HK ?_;clear HK;intro _ HK;go_wp2_with (first|refine zX (bJ (m:=z) (n:=3) (by rw[H1.out])) ?_|refine zX (Sg HK 2) ?_);refine cb (HP.out _) HK ?_;clear HK;intro _ HK;cases b2
 case false=>
  have HX:=zH (fP.out (by simp));go_wp2_with (first|refine zX (qR HK 0) ?_|(refine dH (t2:=t) HK 3 ?_;clear HK;intro _ HK;simp only[lS] at HK));exact aec
 have HX:=zH (HY.out (by simp) (by simp));go_wp2_with (first|refine zX (qO (x:=r) HK 1) ?_|refine zX (gM hc) ?_|(refine JJ (d:=true) HK 0 rfl hc rfl rfl rfl rfl ?_;clear HK;intro _ HK;simp only[lS] at HK)|refine zX (Sg HK 2) ?_|(refine JI (p:=x) HK 0 rfl hc rfl rfl rfl rfl ?_;clear HK;intro _ HK;simp only[lS] at HK)|refine zX (qR HK 0) ?_|(refine dH  HK 3 ?_;clear HK;intro _ HK;simp only[lS] at HK))
 (try simp only[aG.bQ hc,aG.set_set hc] at HK)
 (try dsimp only at HK)
 exact aec
end
section
theorem KP(t:aG.T)(c:Int)(w:World)(hf:aG.Fit t):Calls prog 44 #[.agg (dU t),.int .i64 c] w (RQ (aG.fF t c) w):=by
 have HR:=zH (fun W=>nO t W hf);have HK:=jw w 31 (dU t);have HLo:=zH (fun h=>aG.ajs (t:=t) (c:=c) h);have HHi:=zH (fun h=>aG.aju (t:=t) (c:=c) h);have gX:=zH (fun h=>aG.ajr (t:=t) (c:=c) h);have HDe:=zH (fun h=>aG.abA (t:=t) (c:=c) h);have HIn:=zH (fun h1 h2=>aG.ajt (c:=c) h1 h2);have Eb:=zH (fun h1 h2 h3 h4=>aG.abz (t:=t) (c:=c) h1 h2 h3 h4);have HOp:=zH (fun h1 h2 h3 h4=>aG.aby (t:=t) (c:=c) h1 h2 h3 h4);unfold RQ;unfold dw at HR;clear hf;generalize aG.fF t c=y at *
 generalize decide (aG.Right t)=b3 at *
 generalize h1:decide (c<0)=b1 at *
 have H1:=zH h1;generalize h2:decide (5≤c)=b2 at *
 have H2:=zH h2;clear h1 h2;cases b1
 case true=>
  have HX:=zH (HLo.out (by simp));go_enter func44,ntmps44;go_wp2_with (first|(refine eO HK ?_;clear HK;intro _ g1 HK;simp only[aS,aK] at HK)|refine zX (bM (m:=c) (n:=0) H1.out) ?_|refine zX (qR HK 0) ?_|(refine dH (t2:=t) HK 1 ?_;clear HK;intro _ HK;simp only[lS] at HK));exact OY
 cases b2
 case true=>
  have HX:=zH (HHi.out (by simp));go_enter func44,ntmps44;go_wp2_with (first|(refine eO HK ?_;clear HK;intro _ g1 HK;simp only[aS,aK] at HK)|refine zX (bM (m:=c) (n:=0) H1.out) ?_|refine zX (oN (m:=c) (n:=5) H2.out) ?_|refine zX (qR HK 0) ?_|(refine dH (t2:=t) HK 1 ?_;clear HK;intro _ HK;simp only[lS] at HK));exact OY
 have hc:=HIn.out (by simp) (by simp);go_enter func44,ntmps44;go_wp2_with (first|(refine eO HK ?_;clear HK;intro _ g1 HK;simp only[aS,aK] at HK)|refine zX (bM (m:=c) (n:=0) H1.out) ?_|refine zX (oN (m:=c) (n:=5) H2.out) ?_|refine zX (qR HK 0) ?_);refine cb (HR.out _) HK ?_;clear HK;intro _ HK;cases b3
 case false=>
  have HX:=zH (gX.out (by simp));go_wp2_with (first|refine zX (qR HK 0) ?_|(refine dH (t2:=t) HK 1 ?_;clear HK;intro _ HK;simp only[lS] at HK));exact OY
 cases hl:(t.get c).live
 case false=>
  have HX:=zH (HDe.out hl);have HV:=zH hl;clear hl;go_wp2_with (first|refine zX (gM hc) ?_|refine zX ((NV HK 0 hc).trans (by rw[HV.out])) ?_|refine zX (qR HK 0) ?_|(refine dH (t2:=t) HK 1 ?_;clear HK;intro _ HK;simp only[lS] at HK));exact OY
 cases hd:(t.get c).dn
 case false=>
  obtain⟨ep,rq,p,hs⟩:=aG.Wp hl hd;have HX:=zH (HOp.out hc (by simp) hl hd);have HV:=zH hl;have HW:=zH hd;clear hl hd;have HS:=zH hs;clear hs;rw[HS.out] at HX;dsimp only at HX;go_wp2_with (first|refine zX (gM hc) ?_|refine zX ((NV HK 0 hc).trans (by rw[HV.out])) ?_|refine zX ((kts HK 0 hc).trans (by rw[HS.out])) ?_|(refine bE HK ?_;clear HK;intro _ g2 HK;simp only[aS,aK] at HK)|(refine bD (s:=aG.z) (u:=⟨true,ep,rq,false,p⟩) HK 2 ?_;clear HK;intro _ HK;simp only[lS] at HK)|(refine uL (d:=false) HK 2 ?_;clear HK;intro _ HK;simp only[lS] at HK)|refine zX (jL HK 2) ?_|(refine zY (d:=true) HK 2 rfl rfl rfl rfl rfl ?_;clear HK;intro _ HK;simp only[lS] at HK)|(refine zW (p:=au.err 14) HK 2 rfl rfl rfl rfl rfl ?_;clear HK;intro _ HK;simp only[lS] at HK)|refine zX (wL (e:=14)) ?_|refine zX (Ie HK 2) ?_|(refine mq  HK 0 hc ?_;clear HK;intro _ HK;simp only[lS] at HK)|refine zX (qR HK 0) ?_|(refine dH  HK 1 ?_;clear HK;intro _ HK;simp only[lS] at HK))
  (try simp only[aG.bQ hc,aG.set_set hc] at HK)
  (try dsimp only at HK)
  exact OY
 case true=>
  obtain⟨ep,rq,p,hs⟩:=aG.Wp hl hd;have HX:=zH (Eb.out hc (by simp) hl hd);have HV:=zH hl;have HW:=zH hd;clear hl hd;have HS:=zH hs;clear hs;rw[HS.out] at HX;dsimp only at HX;go_wp2_with (first|refine zX (gM hc) ?_|refine zX ((NV HK 0 hc).trans (by rw[HV.out])) ?_|refine zX ((kts HK 0 hc).trans (by rw[HS.out])) ?_|(refine bE HK ?_;clear HK;intro _ g2 HK;simp only[aS,aK] at HK)|(refine bD (s:=aG.z) (u:=⟨true,ep,rq,true,p⟩) HK 2 ?_;clear HK;intro _ HK;simp only[lS] at HK)|(refine uL (d:=false) HK 2 ?_;clear HK;intro _ HK;simp only[lS] at HK)|refine zX (jL HK 2) ?_|refine zX (Ie HK 2) ?_|(refine mq  HK 0 hc ?_;clear HK;intro _ HK;simp only[lS] at HK)|refine zX (qR HK 0) ?_|(refine dH  HK 1 ?_;clear HK;intro _ HK;simp only[lS] at HK))
  (try simp only[aG.bQ hc,aG.set_set hc] at HK)
  (try dsimp only at HK)
  exact OY
end
section
def FK(l:List Oh)(w:World)(e:Ending)(w':World):Prop:=∃(A:Option Addr) (n c:Nat),e=.returned (.slice A n c)∧bB.Own w.heap.size w' (.slice A n c) l∧Below w.heap.size w w'
theorem gW{w:World}{o:Oper}{a:Act}{b n c i:Nat}{q:Operand}{r:Operand}(h:i<n)(ho:o.op=.indexAddr 22 q r:=by rfl)(hx:a.eval q=.slice (some ⟨b,0,none⟩) n c:=by rfl)(hq:a.eval r=.int .i64 (i:Int):=by rfl):
  (execOp a.eval o).run prog w=.ok (.value (.pointer (some ⟨b,i*11,none⟩))) w:=by
 have h1:=bH (w:=w) (off:=0) (q:=q) (r:=r) (ho:=ho) (hx:=hx) (hq:=hq) h
 rwa [Nat.zero_add] at h1
theorem tL{A:Option Addr}(c n:Nat)(l:List Oh)(i:Nat)(x:Oh)(w:World)(hs:dS w A n c l)(hi:i<n):
  Calls prog 96 #[.slice A n c,.int .i64 i,.agg (cu x)] w (FK (l.set i x) w):=by
 unfold FK;have HS:=zH hs;have uJ:Hid (l.length=n):=zH hs.len;have hbig:n*144≤140737488355328:=hs.s.big;have hi2:i<l.length:=by rw[hs.len];exact hi
 have hi0:(0:Int)≤(i:Int):=by omega
 have hi1:(i:Int)<(n:Int):=by omega
 have HL:Hid (([]:List Oh).length+l.length≤9223372036854775807∧(([]:List Oh).length+l.length)*bB.bytes≤211106232532992):=zH (by
  rw[List.length_nil,Nat.zero_add,uJ.out];refine⟨by omega,?_⟩
  show n*144≤_
  omega)
 have fP:Hid ((([]:List Oh)++l).length=n):=zH uJ.out;have HRd:Hid (∀W,Below w.heap.size w W→bB.Reads W W.heap.size A l∧(A=none→l=[])):=zH fun W hW=>⟨(hs.later hW).s.rd,(hs.later hW).s.nl⟩
 have HK:=jw w 75 (cu x);clear hs;go_enter func96,ntmps96;go_wp2_with (first|(refine kM bB HK ?_;clear HK;intro _ g2 HK;simp only[aK] at HK;have HR:=zH (HRd.out _ HK.out.b))|(at_builtin;refine bA HK bB 0 l uJ.out.symm HR HL (N:=n) fP ?_;clear HK;intro A8 c8 _ HK;simp only[List.set,aK] at HK;obtain⟨g8,rfl⟩:=HK.out.Wj (La:=bB) (j:=0) rfl (by omega))|refine zX (lV HK 0) ?_|refine zX (gW (b:=g8) (i:=i) hi) ?_|(refine JR (La:=bB) HK 0 rfl rfl rfl i hi2 rfl x rfl rfl ?_;clear HK;intro _ HK;simp only[lS] at HK));go_wp2_with fail;go_ret;exact⟨_,_,_,rfl,HK.out.own (La:=bB) 0 rfl,HK.out.b⟩
end
end Go.Proofs.YtahdlddbbnjloaaGreat
