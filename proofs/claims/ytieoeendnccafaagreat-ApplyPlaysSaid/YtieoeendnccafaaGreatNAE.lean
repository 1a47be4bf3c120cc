/- How requests lie in a slice; loads of one, of its client; blocks that hold one; two compared; ways out; arguments that are requests, or slices of them. No condition but those named. -/
import Derived.Test.YtieoeendnccafaaGreatNAD
set_option linter.unusedSimpArgs false
set_option linter.unusedVariables false
set_option maxRecDepth 100000
set_option maxHeartbeats 25600000
open Go.RowKit
namespace Go.Proofs.YtieoeendnccafaaGreat
open _root_.Go.Proofs.Tryz
section
section
variable {P:Program}{α:Type}(La:Lay P α){b0:Nat}{w0 w:World}{L:List (Nat×TypeId×Array Value)}{R:List dA}{ops:Array Oper}{rest:List Oper}{o:Oper}{a:Act}{Q:Exit→Act→World→Prop}{K:Act→World→Prop}{E:Prop}{g:Nat}
theorem Lay.xO(w:World):(Instr.alloc La.e true (.tuple #[])).run P w=.ok (.pointer (some ⟨w.heap.size,0,none⟩)) (w.alloc (.cells La.z.cells La.e)):=by
 obtain⟨i0,hi,hz0,hz1,hz2⟩:=info_parts La.info;simp[Instr.alloc,zeroValue,typeInfo,hi,hz0,newVar,newRow]
theorem Cx(HK:Hid (Kn b0 w0 w L R))(hgd:o.guard=none)(ho:o.op=.alloc La.e)
  (h:∀w' g,Hid (Kn b0 w0 w' (L++[(g,La.e,La.z.cells)]) R)→wpList P ops Q rest (a.put o.dst (.pointer (some ⟨g,0,none⟩))) w'):wpList P ops Q (o::rest) a w:=
 wpList_plain hgd fun K hK=>by
  have h4:=h _ w.heap.size (zH (HK.out.alloc La.e La.z.cells));unfold Oper.wp execOp;simp only[ho,Sem.run_bind,Sem.run_pure,La.xO,Result.andThen_ok];exact hK _ _ h4
theorem Lay.xM:(P.info? La.e).map (·.size)=some La.k:=by
 obtain⟨i0,hi,hz0,hz1,hz2⟩:=info_parts La.info;rw[hi];simp[hz1]
theorem Lay.FD(p:α):(La.f p).toArray.all (·.oneCell')=true:=by
 rw[List.all_toArray,List.all_eq_true];exact La.one p
theorem Cw{p2:α}{cs:Array Value}(HK:Hid (Kn b0 w0 w L R))(i:Nat)(hgd:o.guard=none)(p q:Operand)(ho:o.op=.store La.e p q)(hL:L[i]?=some (g,La.e,cs))(hcs:cs.size=La.k)(hx:a.eval p=.pointer (some ⟨g,0,none⟩))(hy:a.eval q=.agg (La.f p2).toArray)
  (h:∀w',Hid (Kn b0 w0 w' (L.set i (g,La.e,(La.f p2).toArray)) R)→wpList P ops Q rest (a.put o.dst undef) w'):wpList P ops Q (o::rest) a w:=
 jJ HK i hgd p q ho hL hx hy (by rw[hcs];simp[La.len]) (by rw[La.xM];simp[La.len]) (h1:=(La.FD p2)) fun w' h1 h2=>h w' (by
  have e:putCells cs 0 (La.f p2).toArray.toList=(La.f p2).toArray:=by
   rw[dJ (h:=(by simp[hcs,La.len])),Array.toArray_toList]
  rw[e] at h1
  exact h1)
theorem LW{p2:α}{cs:Array Value}(HK:Hid (Kn b0 w0 w L R))(i:Nat)(hgd:o.guard=none)(p q:Operand)(ho:o.op=.store La.e p q)(hL:L[i]?=some (g,La.e,cs))(hcs:cs.size=La.k)(hx:a.eval p=.pointer (some ⟨g,0,none⟩))(hy:a.eval q=.agg (La.f p2).toArray)
  (h:∀w',Hid (Kn b0 w0 w' (L.set i (g,La.e,(La.f p2).toArray)) R)→K (a.put o.dst undef) w'):if Region.wanted o (yielded ops a.tmps)=true then Oper.wp P o a w K Q else E:=
 zu HK i hgd p q ho hL hx hy (hsz:=(by rw[hcs];simp[La.len])) (by rw[La.xM];simp[La.len]) (h1:=(La.FD p2)) fun w' h1 h2=>h w' (by
  have e:putCells cs 0 (La.f p2).toArray.toList=(La.f p2).toArray:=by
   rw[dJ (h:=(by simp[hcs,La.len])),Array.toArray_toList]
  rw[e] at h1
  exact h1)
theorem Ui{p:α}{fs:Array Field}(hs:P.underlying La.e=some (.struct fs))(HK:Hid (Kn b0 w0 w L R))(i:Nat)(x:Operand)(ho:o.op=.load La.e x)(hL:L[i]?=some (g,La.e,(La.f p).toArray))(hx:a.eval x=.pointer (some ⟨g,0,none⟩)):
  (execOp a.eval o).run P w=.ok (.value (.agg (La.f p).toArray)) w:=
 dU HK x ho i hL hx (La.f p).toArray (fun j _=>by rw[Nat.zero_add]) hs (by rw[La.xM];simp[La.len])
theorem Lay.run_mk(w:World)(l:List α)(vs:List Value)(hv:vs.map (fun v=>v.cells.toList)=l.map La.f)(n:Nat)(hn:n=l.length)(hsm:n*La.k≤65536)(parts:Array (Nat×Value))(hp:parts.toList=(vs.zipIdx 0).map fun x=>(x.2,x.1)):
  (Instr.buildSlice La.t n parts).run P w=.ok (.slice (some ⟨w.heap.size,0,none⟩) n n) (w.alloc (.cells (La.flat l).toArray La.e)):=by
 obtain⟨i0,hi,hz0,hz1,hz2⟩:=info_parts La.info;have hlen:vs.length=l.length:=by have:=congrArg List.length hv;simpa using this
 have hfl:(vs.flatMap fun v=>v.cells.toList)=La.flat l:=by
  unfold Lay.flat;rw[List.flatMap_def,List.flatMap_def,hv]
 by_cases h0:l=[]
 ·subst h0
  have hvs:vs=[]:=List.length_eq_zero_iff.1 hlen;subst hvs;have hpp:parts=#[]:=Array.toList_inj.1 (by rw[hp];rfl);subst hpp;obtain rfl:n=0:=hn;simp[Instr.buildSlice,run_underlying La.und,sizeOf,typeInfo,hi,Instr.fill,newRow,Lay.flat];rw[show Array.range 0=#[] from Array.eq_empty_of_size_eq_zero (by simp),Array.map_empty]
 ·have hpos:0<l.length:=List.length_pos_iff.2 h0
  have hk:=La.pos
  have hne:¬n*i0.size=0:=by
   rw[hz1,hn];exact Nat.ne_of_gt (Nat.mul_pos hpos hk)
  refine Go.run_buildSlice w La.t La.e n parts _ i0 La.z La.und hi hz0 (by rw[hz1];omega) hne ?_;rw[hp,hz1]
  have h1:∀v∈vs,v.cells.size=La.k:=fun v hvm=>by
   have:v.cells.toList∈l.map La.f:=by rw[← hv];exact List.mem_map.2 ⟨v,hvm,rfl⟩
   obtain⟨x,_,hx⟩:=List.mem_map.1 this;rw[← La.len x,hx,Array.length_toList]
  rw[Great.fill_whole hk vs _ h1 (by simp[hlen,hn]),hfl]
theorem Kn.mkS(h:Kn b0 w0 w L R)(l:List α)(n:Nat)(hn:n=l.length)(hl:n≤65536):
  Kn b0 w0 (w.alloc (.cells (La.flat l).toArray La.e)) L (R++[row La (.slice (some ⟨w.heap.size,0,none⟩) n n) l]):=
 h.called ((Below.refl _ w).alloc (Nat.le_refl _) _) (Lay.Own.new w l _ _ _ _ rfl (Nat.le_refl _) rfl hn hn (by omega))
theorem AU(HK:Hid (Kn b0 w0 w L R))(l:List α)(n:Nat)(parts:Array (Nat×Operand))(ho:o.op=.buildSlice La.t n parts)(vs:List Value)(hp:(parts.map fun(i,x)=>(i,a.eval x)).toList=(vs.zipIdx 0).map fun x=>(x.2,x.1))(hv:vs.map (fun v=>v.cells.toList)=l.map La.f)
  (h:∀w' g,Hid (Kn b0 w0 w' L (R++[row La (.slice (some ⟨g,0,none⟩) n n) l]))→Hid (Below w.heap.size w w')→K (a.put o.dst (.slice (some ⟨g,0,none⟩) n n)) w') (hn:n=l.length:=by rfl)(hsm:n*La.k≤65536:=by omega):o.wp P a w K Q:=by
 have hle:n≤65536:=Nat.le_trans (Nat.le_mul_of_pos_right n La.pos) hsm;have h4:=h _ w.heap.size (zH (HK.out.mkS La l n hn hle)) (zH ((Below.refl _ w).alloc (Nat.le_refl _) _));have hr:=La.run_mk w l vs hv n hn hsm _ hp;exact Zv
theorem fE(HK:Hid (Kn b0 w0 w L R))
  (h:∀w' g,Hid (Kn b0 w0 w' L (R++[row La (.slice (some ⟨g,0,none⟩) 0 0) []]))→wpList P ops Q rest (a.put o.dst (.slice (some ⟨g,0,none⟩) 0 0)) w') (hgd:o.guard=none:=by rfl)(ho:o.op=.buildSlice La.t 0 #[]:=by rfl):wpList P ops Q (o::rest) a w:=
 wpList_plain hgd fun _ hK=>AU La HK [] 0 #[] ho [] (by simp) rfl fun w' g h1 _=>hK _ _ (h w' g h1)
theorem dI{p:α}(HK:Hid (Kn b0 w0 w L R)){x:Operand}{v:Value}
  (h:∀w' g,Hid (Kn b0 w0 w' L (R++[row La (.slice (some ⟨g,0,none⟩) 1 1) [p]]))→wpList P ops Q rest (a.put o.dst (.slice (some ⟨g,0,none⟩) 1 1)) w') (hk:La.k≤65536:=by decide)(hgd:o.guard=none:=by rfl)(ho:o.op=.buildSlice La.t 1 #[(0,x)]:=by rfl)(hx:a.eval x=v:=by rfl)(hv:v.cells.toList=La.f p:=by rfl):wpList P ops Q (o::rest) a w:=
 wpList_plain hgd fun _ hK=>AU La HK [p] 1 _ ho [v] (by simp[hx]) (by simp[hv]) fun w' g h1 _=>hK _ _ (h w' g h1)
theorem kH(HK:Hid (Kn b0 w0 w L R))
  (h:∀w' g,Hid (Kn b0 w0 w' L (R++[row La (.slice (some ⟨g,0,none⟩) 0 0) []]))→Hid (Below w.heap.size w w')→K (a.put o.dst (.slice (some ⟨g,0,none⟩) 0 0)) w') (hgd:o.guard=none:=by rfl)(ho:o.op=.buildSlice La.t 0 #[]:=by rfl):if Region.wanted o (yielded ops a.tmps)=true then Oper.wp P o a w K Q else E:=by
 rw[if_pos (by simp[Region.wanted,hgd])];exact AU La HK [] 0 #[] ho [] (by simp) rfl h
theorem dw{p:α}(HK:Hid (Kn b0 w0 w L R)){x:Operand}{v:Value}
  (h:∀w' g,Hid (Kn b0 w0 w' L (R++[row La (.slice (some ⟨g,0,none⟩) 1 1) [p]]))→Hid (Below w.heap.size w w')→K (a.put o.dst (.slice (some ⟨g,0,none⟩) 1 1)) w') (hk:La.k≤65536:=by decide)(hgd:o.guard=none:=by rfl)(ho:o.op=.buildSlice La.t 1 #[(0,x)]:=by rfl)(hx:a.eval x=v:=by rfl)(hv:v.cells.toList=La.f p:=by rfl):if Region.wanted o (yielded ops a.tmps)=true then Oper.wp P o a w K Q else E:=by
 rw[if_pos (by simp[Region.wanted,hgd])];exact AU La HK [p] 1 _ ho [v] (by simp[hx]) (by simp[hv]) h
theorem aT(HK:Hid (Kn b0 w0 w L R))(j:Nat){s:Operand}{x:Operand}
  {v:Value} {l:List α}   (m:List α) {A:Option Addr} {n c B:Nat}   (hI:Hid (La.Reads w B A m∧(A=none→m=[])))
  (hl:Hid (l.length+m.length≤9223372036854775807∧(l.length+m.length)*La.bytes≤211106232532992))
  {N:Nat} (hN:Hid ((l++m).length=N)) (h:∀A' c' w',Hid (Kn b0 w0 w' L (R.set j (row La (.slice A' N c') (l++m))))→K (a.put o.dst (.slice A' N c')) w') (hgd:o.guard=none:=by rfl)(ho:o.op=.call { callee:=.builtin .append,args:=#[s,x],argTypes:=#[La.t,La.t] }:=by rfl)(hR:R[j]?=some (row La v l):=by rfl)(hs:a.eval s=v:=by rfl)(hx:a.eval x=.slice A n c:=by rfl)(hn:n=m.length:=by rfl):if Region.wanted o (yielded ops a.tmps)=true then Oper.wp P o a w K Q else E:=by
 rw[if_pos (by simp[Region.wanted,hgd])];exact He HK La j s x ho hR hs m hx hn hI hl hN h
structure Cn(La:Lay P α) where
 tt:TypeId
 und:P.underlying tt=some (.slice La.t)
 info:(P.info? La.t).map (fun i=>(i.zero,i.size))=some (some (.slice none 0 0),1)
theorem Cn.run(N:Cn La)(w:World)(vs:List Value)(hv:∀v∈vs,v.cells=#[v])(n:Nat)(hn:n=vs.length)(h0:0<n)(hsm:n≤65536)(parts:Array (Nat×Value))(hp:parts.toList=(vs.zipIdx 0).map fun x=>(x.2,x.1)):
  (Instr.buildSlice N.tt n parts).run P w=.ok (.slice (some ⟨w.heap.size,0,none⟩) n n) (w.alloc (.cells vs.toArray La.t)):=by
 have hi:=N.info
 cases hq:P.info? La.t with
 | none=>simp[hq] at hi
 | some i0=>
  simp only[hq,Option.map_some,Option.some.injEq,Prod.mk.injEq] at hi;obtain⟨hz0,hz1⟩:=hi;refine Go.run_buildSlice w N.tt La.t n parts _ i0 _ N.und hq hz0 (by rw[hz1];omega) (by rw[hz1];omega) ?_;rw[hp,hz1];exact Great.fill_flat vs _ hv (by simp[hn])
theorem tZ(N:Cn La)(HK:Hid (Kn b0 w0 w L R))(n:Nat){parts:Array (Nat×Operand)}(ho:o.op=.buildSlice N.tt n parts)(vs:List Value)(hp:(parts.map fun(i,x)=>(i,a.eval x)).toList=(vs.zipIdx 0).map fun x=>(x.2,x.1))
  (h:∀w' g,Hid (Kn b0 w0 w' (L++[(g,La.t,vs.toArray)]) R)→Hid (Below w.heap.size w w')→K (a.put o.dst (.slice (some ⟨g,0,none⟩) n n)) w') (hv:∀v∈vs,v.cells=#[v]:=by simp[Value.cells])(hn:n=vs.length:=by rfl)(h0:0<n:=by decide)(hsm:n≤65536:=by decide):o.wp P a w K Q:=by
 have h4:=h _ w.heap.size (zH (HK.out.alloc La.t vs.toArray)) (zH ((Below.refl _ w).alloc (Nat.le_refl _) _));have hr:=N.run La w vs hv n hn h0 hsm _ hp;exact Zv
variable (N:Cn La){A A2 A3:Option Addr}{n c n2 c2 n3 c3:Nat}
theorem dG(HK:Hid (Kn b0 w0 w L R)){x:Operand}
  (h:∀w' g,Hid (Kn b0 w0 w' (L++[(g,La.t,#[.slice A n c])]) R)→Hid (Below w.heap.size w w')→wpList P ops Q rest (a.put o.dst (.slice (some ⟨g,0,none⟩) 1 1)) w') (hgd:o.guard=none:=by rfl)(ho:o.op=.buildSlice N.tt 1 #[(0,x)]:=by rfl)(hx:a.eval x=.slice A n c:=by rfl):wpList P ops Q (o::rest) a w:=
 wpList_plain hgd fun _ hK=>tZ La N HK 1 ho [.slice A n c] (by simp[hx]) fun w' g h1 h2=>hK _ _ (h w' g h1 h2)
theorem lT(HK:Hid (Kn b0 w0 w L R)){x:Operand}{y:Operand}
  (h:∀w' g,Hid (Kn b0 w0 w' (L++[(g,La.t,#[.slice A n c,.slice A2 n2 c2])]) R)→Hid (Below w.heap.size w w')→wpList P ops Q rest (a.put o.dst (.slice (some ⟨g,0,none⟩) 2 2)) w') (hgd:o.guard=none:=by rfl)(ho:o.op=.buildSlice N.tt 2 #[(0,x),(1,y)]:=by rfl)(hx:a.eval x=.slice A n c:=by rfl)(hy:a.eval y=.slice A2 n2 c2:=by rfl):wpList P ops Q (o::rest) a w:=
 wpList_plain hgd fun _ hK=>tZ La N HK 2 ho [.slice A n c,.slice A2 n2 c2] (by simp[hx,hy]) fun w' g h1 h2=>hK _ _ (h w' g h1 h2)
theorem FX(HK:Hid (Kn b0 w0 w L R))(hgd:o.guard=none){x:Operand}{y:Operand}{z:Operand}(ho:o.op=.buildSlice N.tt 3 #[(0,x),(1,y),(2,z)])(hx:a.eval x=.slice A n c)(hy:a.eval y=.slice A2 n2 c2)(hz:a.eval z=.slice A3 n3 c3)
  (h:∀w' g,Hid (Kn b0 w0 w' (L++[(g,La.t,#[.slice A n c,.slice A2 n2 c2,.slice A3 n3 c3])]) R)→Hid (Below w.heap.size w w')→wpList P ops Q rest (a.put o.dst (.slice (some ⟨g,0,none⟩) 3 3)) w'):wpList P ops Q (o::rest) a w:=
 wpList_plain hgd fun _ hK=>tZ La N HK 3 ho [.slice A n c,.slice A2 n2 c2,.slice A3 n3 c3] (by simp[hx,hy,hz]) fun w' g h1 h2=>hK _ _ (h w' g h1 h2)
theorem Ou(HK:Hid (Kn b0 w0 w L R))(hgd:o.guard=none){x:Operand}(ho:o.op=.buildSlice N.tt 1 #[(0,x)])(hx:a.eval x=.slice A n c)
  (h:∀w' g,Hid (Kn b0 w0 w' (L++[(g,La.t,#[.slice A n c])]) R)→Hid (Below w.heap.size w w')→K (a.put o.dst (.slice (some ⟨g,0,none⟩) 1 1)) w'):if Region.wanted o (yielded ops a.tmps)=true then Oper.wp P o a w K Q else E:=by
 rw[if_pos (by simp[Region.wanted,hgd])];exact tZ La N HK 1 ho [.slice A n c] (by simp[hx]) h
theorem tT(HK:Hid (Kn b0 w0 w L R)){x:Operand}{y:Operand}
  (h:∀w' g,Hid (Kn b0 w0 w' (L++[(g,La.t,#[.slice A n c,.slice A2 n2 c2])]) R)→Hid (Below w.heap.size w w')→K (a.put o.dst (.slice (some ⟨g,0,none⟩) 2 2)) w') (hgd:o.guard=none:=by rfl)(ho:o.op=.buildSlice N.tt 2 #[(0,x),(1,y)]:=by rfl)(hx:a.eval x=.slice A n c:=by rfl)(hy:a.eval y=.slice A2 n2 c2:=by rfl):if Region.wanted o (yielded ops a.tmps)=true then Oper.wp P o a w K Q else E:=by
 rw[if_pos (by simp[Region.wanted,hgd])];exact tZ La N HK 2 ho [.slice A n c,.slice A2 n2 c2] (by simp[hx,hy]) h
end
def uG{P:Program}{α:Type}(La:Lay P α)(r:List α)(w:World)(e:Ending)(w':World):Prop:=∃A n c,e=.returned (.slice A n c)∧La.Own w.heap.size w' (.slice A n c) r∧Below w.heap.size w w'
def Wy{P:Program}{α:Type}(La:Lay P α)(r:List α)(x:Int)(w:World)(e:Ending)(w':World):Prop:=∃A n c,e=.returned (.tuple #[.slice A n c,.int .i64 x])∧La.Own w.heap.size w' (.slice A n c) r∧Below w.heap.size w w'
def uQ{P:Program}{α:Type}(La:Lay P α)(b:Nat)(w:World)(A:Option Addr)(n c:Nat)(l:List α)(A':Option Addr)(n' c':Nat)(r:List α):Prop:=La.Own b w (.slice A' n' c') r∨(A'=A∧n'=n∧c'=c∧r=l)
section
variable {P:Program}{α:Type}{La:Lay P α}{F:α→Prop}{b0:Nat}{w0 w w':World}{L:List (Nat×TypeId×Array Value)}{R:List dA}
structure QU(α:Type) where
 A:Option Addr
 n:Nat
 c:Nat
 l:List α
def dN{α:Type}(ps:List (QU α)):List α:=ps.flatMap (·.l)
theorem lH{α:Type}{ps:List (QU α)}{k:Nat}{p:QU α}(h:ps[k]?=some p):dN (ps.take (k+1))=dN (ps.take k)++p.l:=by
 unfold dN;exact Ru
theorem uD{α:Type}(ps:List (QU α))(k:Nat):(dN (ps.take k)).length≤(dN ps).length:=by
 have h:dN ps=dN (ps.take k)++dN (ps.drop k):=by unfold dN;rw[← List.flatMap_append,List.take_append_drop]
 rw[h,List.length_append];omega
def Joins(P:Program)(f:FuncId)(La:Lay P α)(F:α→Prop):Prop:=∀(g m:Nat) (ps:List (QU α)) (w:World),ps.length=m→m≤8→g<w.heap.size→(∀i p,ps[i]?=some p→w.cell? ⟨g,i,none⟩=some (.slice p.A p.n p.c))→
 (∀p∈ps,bJ La F w p.A p.n p.c p.l)→(dN ps).length*La.bytes≤140737488355328→Calls P f #[.slice (some ⟨g,0,none⟩) m m] w (uG La (dN ps) w)
variable {f:FuncId}{g:Nat}{A1 A2 A3:Option Addr}{n1 c1 n2 c2 n3 c3:Nat}{l1 l2 l3:List α}
theorem Joins.one(J:Joins P f La F)(HK:Hid (Kn b0 w0 w L R))(i:Nat)(hL:L[i]?=some (g,La.t,#[.slice A1 n1 c1]))(h1:bJ La F w A1 n1 c1 l1):
  Calls P f #[.slice (some ⟨g,0,none⟩) 1 1] w (uG La l1 w):=by
 have h:=J g 1 [⟨A1,n1,c1,l1⟩] w rfl (by decide) (HK.out.blk i hL).lt (fun j p hp=>by
  match j,hp with
  | 0,hp=>simp at hp;subst hp;exact HK.out.cell i hL 0 rfl) (fun p hp=>by
   rw[List.mem_singleton] at hp;subst hp;exact h1) (by
   show(l1++[]).length*_≤_
   rw[List.append_nil];exact h1.fit.big)
 have e:dN [(⟨A1,n1,c1,l1⟩:QU α)]=l1:=by show l1++[]=l1;rw[List.append_nil]
 exact vS
theorem Joins.two(J:Joins P f La F)(HK:Hid (Kn b0 w0 w L R))(i:Nat)(hL:L[i]?=some (g,La.t,#[.slice A1 n1 c1,.slice A2 n2 c2]))(h1:bJ La F w A1 n1 c1 l1)(h2:bJ La F w A2 n2 c2 l2)(ht:(n1+n2)*La.bytes≤140737488355328):
  Calls P f #[.slice (some ⟨g,0,none⟩) 2 2] w (uG La (l1++l2) w):=by
 have h:=J g 2 [⟨A1,n1,c1,l1⟩,⟨A2,n2,c2,l2⟩] w rfl (by decide) (HK.out.blk i hL).lt (fun j p hp=>by
  match j,hp with
  | 0,hp=>simp at hp;subst hp;exact HK.out.cell i hL 0 rfl
  | 1,hp=>simp at hp;subst hp;exact HK.out.cell i hL 1 rfl) (fun p hp=>by
   simp only[List.mem_cons,List.not_mem_nil,or_false] at hp
   rcases hp with rfl|rfl
   ·exact h1
   ·exact h2) (by
   show(l1++(l2++[])).length*_≤_
   rw[List.append_nil,List.length_append,h1.len,h2.len];exact ht)
 have e:dN [(⟨A1,n1,c1,l1⟩:QU α),⟨A2,n2,c2,l2⟩]=l1++l2:=by show l1++(l2++[])=_;rw[List.append_nil]
 exact vS
theorem Joins.three(J:Joins P f La F)(HK:Hid (Kn b0 w0 w L R))(i:Nat)(hL:L[i]?=some (g,La.t,#[.slice A1 n1 c1,.slice A2 n2 c2,.slice A3 n3 c3]))(h1:bJ La F w A1 n1 c1 l1)(h2:bJ La F w A2 n2 c2 l2)(h3:bJ La F w A3 n3 c3 l3)(ht:(n1+n2+n3)*La.bytes≤140737488355328):
  Calls P f #[.slice (some ⟨g,0,none⟩) 3 3] w (uG La (l1++l2++l3) w):=by
 have h:=J g 3 [⟨A1,n1,c1,l1⟩,⟨A2,n2,c2,l2⟩,⟨A3,n3,c3,l3⟩] w rfl (by decide) (HK.out.blk i hL).lt (fun j p hp=>by
  match j,hp with
  | 0,hp=>simp at hp;subst hp;exact HK.out.cell i hL 0 rfl
  | 1,hp=>simp at hp;subst hp;exact HK.out.cell i hL 1 rfl
  | 2,hp=>simp at hp;subst hp;exact HK.out.cell i hL 2 rfl) (fun p hp=>by
   simp only[List.mem_cons,List.not_mem_nil,or_false] at hp
   rcases hp with rfl|rfl|rfl
   ·exact h1
   ·exact h2
   ·exact h3) (by
   show(l1++(l2++(l3++[]))).length*_≤_
   rw[List.append_nil,List.length_append,List.length_append,h1.len,h2.len,h3.len,← Nat.add_assoc];exact ht)
 have e:dN [(⟨A1,n1,c1,l1⟩:QU α),⟨A2,n2,c2,l2⟩,⟨A3,n3,c3,l3⟩]=l1++l2++l3:=by show l1++(l2++(l3++[]))=_;rw[List.append_nil,List.append_assoc]
 exact vS
theorem Ev{α:Type}[DecidableEq α]{a b:List α}{n:Nat}(ha:a.length=n)(hb:b.length=n):(∀i x y,i<n→a[i]?=some x→b[i]?=some y→¬x=y→decide (a=b)=false)∧((∀i,i<n→a[i]?=b[i]?)→decide (a=b)=true):=by
 refine⟨fun i x y hi hx hy hne=>decide_eq_false fun h=>?_,fun h=>decide_eq_true (List.ext_getElem? fun i=>?_)⟩
 ·subst h
  rw[hx] at hy;injection hy with hy;exact hne hy
 ·by_cases hi:i<n
  ·exact h i hi
  ·rw[List.getElem?_eq_none (by omega),List.getElem?_eq_none (by omega)]
theorem fV{l m:List α}{N:Nat}(h:Hid ((l++m).length=N))(hB:N*La.bytes≤211106232532992:=by have:=tJ.out;show _*72≤_;omega)(hN:N≤9223372036854775807:=by omega):Hid (l.length+m.length≤9223372036854775807∧(l.length+m.length)*La.bytes≤211106232532992):=by
 have e:=h.out;rw[List.length_append] at e;exact zH ⟨by rw[e];exact hN,by rw[e];exact hB⟩
end
end
section
open Go.ChangeShapes Go.WideShapes Go.Deep Go.RowKit
def WR(x:Rf):List Value:=[.int .i64 x.c,.int .i64 x.e,.int .i64 x.r]
def rfC(c e r:Int):Array Value:=#[.int .i64 c,.int .i64 e,.int .i64 r]
theorem Uq:(prog.info? 35).map (fun i=>(i.zero,i.size,i.bytes))=some (some (Value.agg #[.int .i64 0,.int .i64 0,.int .i64 0]),3,24):=by kernel_rfl
theorem Hu:(prog.info? 35).map (·.size)=some 3:=by kernel_rfl
def aG:Lay prog Rf where
 t:=59
 e:=35
 k:=3
 bytes:=24
 z:=.agg #[.int .i64 0,.int .i64 0,.int .i64 0]
 f:=WR
 len:=fun _=>rfl
 one:=fun x u hu=>by
  unfold WR at hu;simp only[List.mem_cons,List.not_mem_nil,or_false] at hu
  rcases hu with rfl|rfl|rfl<;>rfl
 und:=underlying59
 info:=Uq
 zs:=rfl
 pos:=by decide
 small:=by decide
def rF(_:Rf):Prop:=True
def rv(x:Rf):Value:=.agg #[.int .i64 x.c,.int .i64 x.e,.int .i64 x.r]
section
variable {w:World}{o:Oper}{a:Act}
theorem bV{b off:Nat}{x:Rf}{p:Operand}(hc:∀j v,(WR x)[j]?=some v→w.cell? ⟨b,off+j,none⟩=some v)(ho:o.op=.load 35 p:=by rfl)(hx:a.eval p=.pointer (some ⟨b,off,none⟩):=by rfl):
  (execOp a.eval o).run prog w=.ok (.value (.agg #[.int .i64 x.c,.int .i64 x.e,.int .i64 x.r])) w:=
 je aG (x:=x) p (ho:=ho) (hx:=hx) underlying35 hc
theorem nU{b off:Nat}{x:Rf}{p:Operand}(hc:∀j v,(WR x)[j]?=some v→w.cell? ⟨b,off+j,none⟩=some v)(ho:o.op=.load 3 p:=by rfl)(hx:a.eval p=.pointer (some ⟨b,off,none⟩):=by rfl):
  (execOp a.eval o).run prog w=.ok (.value (.int .i64 x.c)) w:=
 jh p ho hx (hc 0 _ rfl) underlying3
theorem dM{b off n c i:Nat}{x:Operand}{q:Operand}(h:i<n)(ho:o.op=.indexAddr 59 x q:=by rfl)(hx:a.eval x=.slice (some ⟨b,off,none⟩) n c:=by rfl)(hq:a.eval q=.int .i64 (i:Int):=by rfl):
  (execOp a.eval o).run prog w=.ok (.value (.pointer (some ⟨b,off+i*3,none⟩))) w:=gM aG (x:=x) (q:=q) (ho:=ho) (hx:=hx) (hq:=hq) h
theorem Bl{A:Option Addr}{n c lo:Nat}{x:Operand}{p:Operand}(h1:lo≤n)(ho:o.op=.slice 59 x (some p) none none:=by rfl)(hx:a.eval x=.slice A n c:=by rfl)(hp:a.eval p=.int .i64 (lo:Int):=by rfl):
  (execOp a.eval o).run prog w=.ok (.value (.slice (uZ 3 A lo c) (n-lo) (c-lo))) w:=lD aG (x:=x) (p:=p) (ho:=ho) (hx:=hx) (hp:=hp) h1
theorem Bn{A:Option Addr}{n c hi:Nat}{x:Operand}{q:Operand}(h2:hi≤c)(ho:o.op=.slice 59 x none (some q) none:=by rfl)(hx:a.eval x=.slice A n c:=by rfl)(hq:a.eval q=.int .i64 (hi:Int):=by rfl):
  (execOp a.eval o).run prog w=.ok (.value (.slice A hi c)) w:=nT aG (x:=x) (q:=q) (ho:=ho) (hx:=hx) (hq:=hq) h2
theorem Md(v u:Rf):decide (v=u)=(decide (v.c=u.c)&&decide (v.e=u.e)&&decide (v.r=u.r)):=by
 obtain⟨c,e,r⟩:=v;obtain⟨c',e',r'⟩:=u;rw[Bool.eq_iff_iff];simp[and_assoc]
theorem wQ{v u:Rf}{b:Bool}{p:Operand}{q:Operand}(hb:decide (v=u)=b)(ho:o.op=.binOp .eql 35 p q 35:=by rfl)(hx:a.eval p=.agg #[.int .i64 v.c,.int .i64 v.e,.int .i64 v.r]:=by rfl)(hy:a.eval q=.agg #[.int .i64 u.c,.int .i64 u.e,.int .i64 u.r]:=by rfl):
  (execOp a.eval o).run prog w=.ok (.value (.bool b)) w:=by
 rw[Md] at hb;subst hb;unfold execOp;simp only[ho,hx,hy];go_simp;by_cases h1:v.c=u.c<;>by_cases h2:v.e=u.e<;>by_cases h3:v.r=u.r<;>simp[h1,h2,h3]
theorem lY{v u:Rf}{b:Bool}{p:Operand}{q:Operand}(hb:(!decide (v=u))=b)(ho:o.op=.binOp .neq 35 p q 35:=by rfl)(hx:a.eval p=.agg #[.int .i64 v.c,.int .i64 v.e,.int .i64 v.r]:=by rfl)(hy:a.eval q=.agg #[.int .i64 u.c,.int .i64 u.e,.int .i64 u.r]:=by rfl):
  (execOp a.eval o).run prog w=.ok (.value (.bool b)) w:=by
 rw[Md] at hb;subst hb;unfold execOp;simp only[ho,hx,hy];go_simp;by_cases h1:v.c=u.c<;>by_cases h2:v.e=u.e<;>by_cases h3:v.r=u.r<;>simp[h1,h2,h3]
end
theorem SS(x:Rf):decide (x=x)=true:=decide_eq_true rfl
section
variable {b0:Nat}{w0 w:World}{L:List (Nat×TypeId×Array Value)}{R:List dA}{ops:Array Oper}{rest:List Oper}{o:Oper}{a:Act}{Q:Exit→Act→World→Prop}{K:Act→World→Prop}{E:Prop}{g:Nat}{c e r c2 e2 r2:Int}
theorem aQ(HK:Hid (Kn b0 w0 w L R))
  (h:∀w' g,Hid (Kn b0 w0 w' (L++[(g,35,#[.int .i64 0,.int .i64 0,.int .i64 0])]) R)→wpList prog ops Q rest (a.put o.dst (.pointer (some ⟨g,0,none⟩))) w') (hgd:o.guard=none:=by rfl)(ho:o.op=.alloc 35:=by rfl):wpList prog ops Q (o::rest) a w:=
 Cx aG HK hgd ho h
theorem aW(HK:Hid (Kn b0 w0 w L R))(i:Nat){p:Operand}{q:Operand}
  (h:∀w',Hid (Kn b0 w0 w' (L.set i (g,35,#[.int .i64 c2,.int .i64 e2,.int .i64 r2])) R)→wpList prog ops Q rest (a.put o.dst undef) w') (hgd:o.guard=none:=by rfl)(ho:o.op=.store 35 p q:=by rfl)(hL:L[i]?=some (g,35,#[.int .i64 c,.int .i64 e,.int .i64 r]):=by rfl)(hx:a.eval p=.pointer (some ⟨g,0,none⟩):=by rfl)(hy:a.eval q=.agg #[.int .i64 c2,.int .i64 e2,.int .i64 r2]:=by rfl):wpList prog ops Q (o::rest) a w:=
 Cw aG (p2:=⟨c2,e2,r2⟩) HK i hgd p q ho hL rfl hx hy h
theorem tQ(HK:Hid (Kn b0 w0 w L R))(i:Nat){p:Operand}{q:Operand}
  (h:∀w',Hid (Kn b0 w0 w' (L.set i (g,35,#[.int .i64 c2,.int .i64 e2,.int .i64 r2])) R)→K (a.put o.dst undef) w') (hgd:o.guard=none:=by rfl)(ho:o.op=.store 35 p q:=by rfl)(hL:L[i]?=some (g,35,#[.int .i64 c,.int .i64 e,.int .i64 r]):=by rfl)(hx:a.eval p=.pointer (some ⟨g,0,none⟩):=by rfl)(hy:a.eval q=.agg #[.int .i64 c2,.int .i64 e2,.int .i64 r2]:=by rfl):if Region.wanted o (yielded ops a.tmps)=true then Oper.wp prog o a w K Q else E:=
 LW aG (p2:=⟨c2,e2,r2⟩) HK i hgd p q ho hL rfl hx hy h
theorem aB(HK:Hid (Kn b0 w0 w L R))(i:Nat){x:Operand}(ho:o.op=.load 35 x:=by rfl)(hL:L[i]?=some (g,35,#[.int .i64 c,.int .i64 e,.int .i64 r]):=by rfl)(hx:a.eval x=.pointer (some ⟨g,0,none⟩):=by rfl):
  (execOp a.eval o).run prog w=.ok (.value (.agg #[.int .i64 c,.int .i64 e,.int .i64 r])) w:=
 Ui aG (p:=⟨c,e,r⟩) underlying35 HK i x ho hL hx
theorem fH(HK:Hid (Kn b0 w0 w L R))(i:Nat){x:Operand}(ho:o.op=.load 3 x:=by rfl)(hL:L[i]?=some (g,35,#[.int .i64 c,.int .i64 e,.int .i64 r]):=by rfl)(hx:a.eval x=.pointer (some ⟨g,0,none⟩):=by rfl):
  (execOp a.eval o).run prog w=.ok (.value (.int .i64 c)) w:=
 aV HK 3 x ho i hL hx (v:=.int .i64 c) underlying3
theorem Dt(HK:Hid (Kn b0 w0 w L R))(i:Nat){x:Operand}(ho:o.op=.load 3 x:=by rfl)(hL:L[i]?=some (g,35,#[.int .i64 c,.int .i64 e,.int .i64 r]):=by rfl)(hx:a.eval x=.pointer (some ⟨g,1,none⟩):=by rfl):
  (execOp a.eval o).run prog w=.ok (.value (.int .i64 e)) w:=
 aV HK 3 x ho i hL hx (v:=.int .i64 e) underlying3
end
section
variable {fn:Func}{R:Ending→World→Prop}{a:Act}{w:World}{B:Nat}{c e r:Int}{u z y:Value}{q q2 q3 q4:Tmp}
theorem wH(hb:gD w B 35 (rfC c e r)):(loadVar 35 ⟨B,0,none⟩).run prog w=.ok (.agg #[.int .i64 c,.int .i64 e,.int .i64 r]) w:=
 run_loadVar_row (P:=prog) w B _ _ _ (0,0) _ hb underlying35 rfl Hu
theorem aaq(hf:fn.results=#[.cell q 35])(h2:a.tmps[q]?=some (.pointer (some ⟨B,0,none⟩)))(hd:a.defers=[])(hb:gD w B 35 (rfC c e r))
  (hR:R (.returned (.agg #[.int .i64 c,.int .i64 e,.int .i64 r])) w):bodyPost prog fn R Exit.ret a w:=by
 refine bodyPost_ret (v:=.agg #[.int .i64 c,.int .i64 e,.int .i64 r]) ?_ hd hR;simp[results,hf,asAddr,Sem.run_bind,h2,wH hb]
theorem abJ(hf:fn.results=#[.cell q 35,.tmp q2])(h2:a.tmps[q]?=some (.pointer (some ⟨B,0,none⟩)))(h3:a.tmps[q2]?=some u)(hd:a.defers=[])(hb:gD w B 35 (rfC c e r))
  (hR:R (.returned (.tuple #[.agg #[.int .i64 c,.int .i64 e,.int .i64 r],u])) w):bodyPost prog fn R Exit.ret a w:=by
 refine bodyPost_ret (v:=.tuple #[.agg #[.int .i64 c,.int .i64 e,.int .i64 r],u]) ?_ hd hR;simp[results,hf,asAddr,Sem.run_bind,h2,h3,wH hb]
theorem qK(hf:fn.results=#[.tmp q2,.cell q 35,.tmp q3])(hb:gD w B 35 (rfC c e r))
  (hR:R (.returned (.tuple #[u,.agg #[.int .i64 c,.int .i64 e,.int .i64 r],z])) w) (h2:a.tmps[q]?=some (.pointer (some ⟨B,0,none⟩)):=by rfl)(h3:a.tmps[q2]?=some u:=by rfl)(h4:a.tmps[q3]?=some z:=by rfl)(hd:a.defers=[]:=by rfl):bodyPost prog fn R Exit.ret a w:=by
 refine bodyPost_ret (v:=.tuple #[u,.agg #[.int .i64 c,.int .i64 e,.int .i64 r],z]) ?_ hd hR;simp[results,hf,asAddr,Sem.run_bind,h2,h3,h4,wH hb]
theorem nG(hf:fn.results=#[.tmp q2,.cell q 35,.tmp q3,.tmp q4])(hb:gD w B 35 (rfC c e r))
  (hR:R (.returned (.tuple #[u,.agg #[.int .i64 c,.int .i64 e,.int .i64 r],z,y])) w) (h2:a.tmps[q]?=some (.pointer (some ⟨B,0,none⟩)):=by rfl)(h3:a.tmps[q2]?=some u:=by rfl)(h4:a.tmps[q3]?=some z:=by rfl)(h5:a.tmps[q4]?=some y:=by rfl)(hd:a.defers=[]:=by rfl):bodyPost prog fn R Exit.ret a w:=by
 refine bodyPost_ret (v:=.tuple #[u,.agg #[.int .i64 c,.int .i64 e,.int .i64 r],z,y]) ?_ hd hR;simp[results,hf,asAddr,Sem.run_bind,h2,h3,h4,h5,wH hb]
end
section
variable {H:Type}{enc:TypeId×Value→H}{W:World}{base:Nat}
theorem xg:prog.cellsOf 35=3:=by kernel_rfl
theorem IY:prog.bytesOf 35=24:=by kernel_rfl
theorem Ay:Opens enc aG (fun _ _=>True):=fun W n cs x ht=>by
 obtain⟨ys,m,_,hx,hlen,hyl,hf⟩:=DataW.trod_struct underlying35 ht;have hlen:cs.length=prog.cellsOf 35:=hlen;rw[xg] at hlen
 match cs,hlen,ys,hyl with
 | [v0,v1,v2],_,[y0,y1,y2],_=>
  have f0:=hf 0 _ rfl;have f1:=hf 1 _ rfl;have f2:=hf 2 _ rfl;simp only[List.getElem?_cons_zero,List.getElem?_cons_succ] at f0 f1 f2;obtain⟨a0,e0,_,_⟩:=DataW.trod_int underlying3 f0;obtain⟨a1,e1,_,_⟩:=DataW.trod_int underlying3 f1;obtain⟨a2,e2,_,_⟩:=DataW.trod_int underlying3 f2;cases e0;cases e1;cases e2;exact⟨⟨a0,a1,a2⟩,rfl,trivial⟩
theorem Lift.Given.refs{ts:List TypeId}{args:List Value}{ds:List (DataW H)}{before:List MemPlace}(h:Lift.Given enc prog (59::ts) W base args ds before):
  ∃(A:Option Addr) (c:Nat) (l:List Rf) (vs:List Value) (d:DataW H) (ds':List (DataW H)) (q:List MemPlace),args=.slice A l.length c::vs∧ds=d::ds'∧bJ aG rF W A l.length c l∧Lift.Given enc prog ts W base vs ds' q:=by
 obtain⟨A,c,l,vs,d,ds',q,h1,h2,h3,h4,h5,h6,_,h8,h9⟩:=h.things (L:=aG) Ay xg IY;have hb:l.length*24≤reachBytes:=h6;refine⟨A,c,l,vs,d,ds',q,h1,h2,⟨rfl,h8,h3,h4,fun x hx=>trivial,?_⟩,h9⟩;have:reachBytes=140737488351232:=rfl
 show l.length*24≤_
 omega
theorem Lift.Given.ref{ts:List TypeId}{args:List Value}{ds:List (DataW H)}{before:List MemPlace}(h:Lift.Given enc prog (35::ts) W base args ds before):
  ∃(x:Rf) (vs:List Value) (d:DataW H) (ds':List (DataW H)) (q:List MemPlace),args=.agg #[.int .i64 x.c,.int .i64 x.e,.int .i64 x.r]::vs∧ds=d::ds'∧Lift.Given enc prog ts W base vs ds' q:=by
 obtain⟨x,vs,d,ds',q,h1,h2,_,_,h5⟩:=h.thing (L:=aG) Ay underlying35;exact⟨x,vs,d,ds',q,h1,h2,h5⟩
end
end
end Go.Proofs.YtieoeendnccafaaGreat
