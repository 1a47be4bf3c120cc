/- What the document's one and live return. No condition but those named. -/
import Derived.Test.YtieoeendnccafaaGreatNAQ
import Derived.Test.YtieoeendnccafaaGreatNAF
set_option linter.unusedSimpArgs false
set_option linter.unusedVariables false
set_option maxRecDepth 100000
set_option maxHeartbeats 25600000
open Go.RowKit
namespace Go.Proofs.YtieoeendnccafaaGreat
open _root_.Go.Proofs.Tryz
section
namespace av
def Ld(l:List Ob)(r:Rf)(k:Nat):List Ob:=(l.take k).map (fun o=>dr o r)++l.drop k
def zB(l:List Ob)(r:Rf)(k:Nat):List Ot:=(l.take k).flatMap fun o=>uF o r
theorem YD{l:List Ob}{r:Rf}{k:Nat}{x:Ob}(h:l[k]?=some x):(Ld l r k)[k]?=some x:=by
 have hk:=(List.getElem?_eq_some_iff.1 h).1;have e:((l.take k).map (fun o=>dr o r)).length=k:=by rw[List.length_map,List.length_take];omega
 unfold Ld;rw[List.getElem?_append_right (by omega),e,Nat.sub_self,List.getElem?_drop];exact h
theorem Bt{l:List Ob}{r:Rf}{k:Nat}{x:Ob}(h:l[k]?=some x):Ld l r (k+1)=(Ld l r k).set k (dr x r):=by
 have hk:=(List.getElem?_eq_some_iff.1 h).1;have hx:=(List.getElem?_eq_some_iff.1 h).2;have e:((l.take k).map (fun o=>dr o r)).length=k:=by rw[List.length_map,List.length_take];omega
 unfold Ld;rw[Lay.take_succ h,List.map_append,List.set_append_right _ _ (by omega),e,Nat.sub_self,List.drop_eq_getElem_cons hk,List.set_cons_zero,List.append_assoc]
 rfl
theorem IE{l:List Ob}{r:Rf}{k:Nat}{x:Ob}(h:l[k]?=some x)(hd:dr x r=x):Ld l r (k+1)=Ld l r k:=by
 rw[Bt h,hd];have h2:=YD (r:=r) h;obtain⟨hk,he⟩:=List.getElem?_eq_some_iff.1 h2
 conv=>lhs;rw[← he]
 exact List.set_getElem_self hk
theorem Np{l:List Ob}{r:Rf}{k:Nat}(h:l.length≤k):Ld l r k=l.map fun o=>dr o r:=by
 unfold Ld;rw[List.take_of_length_le h,List.drop_of_length_le h,List.append_nil]
theorem zA{l:List Ob}{r:Rf}{k:Nat}(h:l.length≤k):zB l r k=l.flatMap fun o=>uF o r:=by
 unfold zB;rw[List.take_of_length_le h]
theorem Aw{l:List Ob}{r:Rf}{k:Nat}{x:Ob}(h:l[k]?=some x):zB l r (k+1)=zB l r k++uF x r:=by
 unfold zB;exact Ru
theorem qc(y:Rf)(h:Bool):(held y h).length≤1:=by
 unfold held
 split<;>simp
theorem Nr(x:Ob)(r:Rf):(uF x r).length≤1:=by
 unfold uF
 split
 ·exact qc _ _
 ·simp
theorem wC(l:List Ob)(r:Rf):∀k,(zB l r k).length≤k
 | 0=>by simp[zB]
 | k+1=>by
  have ih:=wC l r k
  cases h:l[k]? with
  | none=>
   have e:zB l r (k+1)=zB l r k:=by
    have:=List.getElem?_eq_none_iff.1 h;rw[zA this,zA (by omega)]
   rw[e];omega
  | some x=>
   rw[Aw h,List.length_append];have:=Nr x r;omega
end av
def Jk(G:World→Prop)(y:List av.Ob)(os:List av.Ot)(w:World)(e:Ending)(w':World):Prop:=∃(A:Option Addr) (n c:Nat) (l:List Oh) (O:Option Addr) (k d:Nat) (Rn:List dA),e=.returned (.tuple #[.slice A n c,.slice O k d])∧Hid (vs l=y)∧Kn w.heap.size w w' [] Rn∧
 Hid (∀(b:Nat) (W0 W:World) L R,Kn b W0 W L R→(∀z∈Rn,z∈R)→G W→bY W A n c l∧bJ aR tF W O k d os)
section
variable {b0:Nat}{w0 w:World}{L:List (Nat×TypeId×Array Value)}{R:List dA}
theorem uQ.kn{w':World}{A A':Option Addr}{n c n' c':Nat}{l r:List Rf}(h:uQ aG w.heap.size w' A n c l A' n' c' r)(hb:Below w.heap.size w w')(hf:Fits aG rF r):∃Rn,Kn w.heap.size w w' [] Rn∧Hid (∀(b:Nat) (W0 W:World) L R,Kn b W0 W L R→(∀z∈Rn,z∈R)→bJ aG rF W A n c l→bJ aG rF W A' n' c' r):=by
 rcases h with h|⟨rfl,rfl,rfl,rfl⟩
 ·exact⟨_,(Kn.start w).called hb h,zH fun _ _ _ _ _ K hm _=>bJ.own (K.mem (hm _ (List.mem_cons_self ..))) hf⟩
 ·exact⟨_,(Kn.start w).call hb,zH fun _ _ _ _ _ _ _ h=>h⟩
theorem Kn.rot{a b:dA}{T:List dA}(h:Kn b0 w0 w L ((a::T)++[b])):Kn b0 w0 w L (a::b::T):=by
 refine h.pick (fun i=>i) (fun i=>if i=0 then 0 else if i=1 then T.length+1 else i-1) (fun i j _ _ hij=>hij) (fun i j hi hj hij=>?_) (fun i x hx=>hx) (fun i x hx=>?_)
 ·simp only[List.length_cons] at hi hj
  show(if i=0 then 0 else if i=1 then T.length+1 else i-1)≠(if j=0 then 0 else if j=1 then T.length+1 else j-1)
  split<;>split<;>(try split)<;>(try split)<;>omega
 ·match i,hx with
  | 0,hx=>simpa using hx
  | 1,hx=>
   show((a::T)++[b])[T.length+1]?=some x
   rw[List.getElem?_append_right (by simp)]
   simpa using hx
  | i+2,hx=>
   have hl:=(List.getElem?_eq_some_iff.1 hx).1;simp only[List.length_cons] at hl
   show((a::T)++[b])[i+1]?=some x
   rw[List.getElem?_append_left (by simp;omega)]
   simpa using hx
theorem Kn.ze{P:Program}{α:Type}{La:Lay P α}(h:Kn b0 w0 w L R){j g n c:Nat}{l:List α}(hR:R[j]?=some (row La (.slice (some ⟨g,0,none⟩) n c) l)){i:Nat}{x:α}(hx:l[i]?=some x)(q:Nat)(v:Value)(hv:(La.f x)[q]?=some v):w.cell? ⟨g,i*La.k+q,none⟩=some v:=by
 have h1:=h.atR hR hx q v hv
 rwa [Nat.zero_add] at h1
theorem Kn.afV{a b m:dA}{T:List dA}(h:Kn b0 w0 w L (a::b::(T++[m]))):Kn b0 w0 w L (a::b::T):=by
 have h1:=h.ay (T.length+2)
 have e:(a::b::(T++[m])).take (T.length+2)=a::b::T:=by
  rw[List.take_succ_cons,List.take_succ_cons,List.take_left']
  rfl
 rwa [e] at h1
theorem CJ{ops:Array Oper}{o:Oper}{a:Act}{Q:Exit→Act→World→Prop}{K:Act→World→Prop}{E:Prop}(HK:Hid (Kn b0 w0 w L R))
  (h:∀w' g,Hid (Kn b0 w0 w' (L++[(g,35,#[.int .i64 0,.int .i64 0,.int .i64 0])]) R)→K (a.put o.dst (.pointer (some ⟨g,0,none⟩))) w') (hgd:o.guard=none:=by rfl)(ho:o.op=.alloc 35:=by rfl):if Region.wanted o (yielded ops a.tmps)=true then Oper.wp prog o a w K Q else E:=by
 rw[if_pos (by simp[Region.wanted,hgd])];have h4:=h _ w.heap.size (zH (HK.out.alloc 35 #[.int .i64 0,.int .i64 0,.int .i64 0]));have hr:(Instr.alloc 35 true (.tuple #[])).run prog w=.ok (.pointer (some ⟨w.heap.size,0,none⟩)) (w.alloc (.cells #[.int .i64 0,.int .i64 0,.int .i64 0] 35)):=aG.xO w;exact Zw
end
end
section
def stA(n:Int)(A:Option Addr)(k c:Nat)(t:aH.T):Array Value:=#[.int .i64 n,.slice A k c,.bool t.s0.live,.int .i64 t.s0.ep,.int .i64 t.s0.rq,.bool t.s0.dn,.int .i64 t.s0.p.e,.int .i64 t.s0.p.v.k,.int .i64 t.s0.p.v.n,.int .u64 (t.s0.p.v.f:Int),.string t.s0.p.v.s,.bool t.s1.live,.int .i64 t.s1.ep,.int .i64 t.s1.rq,.bool t.s1.dn,.int .i64 t.s1.p.e,.int .i64 t.s1.p.v.k,.int .i64 t.s1.p.v.n,.int .u64 (t.s1.p.v.f:Int),.string t.s1.p.v.s,.bool t.s2.live,.int .i64 t.s2.ep,.int .i64 t.s2.rq,.bool t.s2.dn,.int .i64 t.s2.p.e,.int .i64 t.s2.p.v.k,.int .i64 t.s2.p.v.n,.int .u64 (t.s2.p.v.f:Int),.string t.s2.p.v.s,.bool t.s3.live,.int .i64 t.s3.ep,.int .i64 t.s3.rq,.bool t.s3.dn,.int .i64 t.s3.p.e,.int .i64 t.s3.p.v.k,.int .i64 t.s3.p.v.n,.int .u64 (t.s3.p.v.f:Int),.string t.s3.p.v.s,.bool t.s4.live,.int .i64 t.s4.ep,.int .i64 t.s4.rq,.bool t.s4.dn,.int .i64 t.s4.p.e,.int .i64 t.s4.p.v.k,.int .i64 t.s4.p.v.n,.int .u64 (t.s4.p.v.f:Int),.string t.s4.p.v.s]
theorem Ht:(prog.info? 33).map (fun i=>(i.zero,i.size,i.bytes))=some (some (Value.agg (stA 0 none 0 0 tz)),47,432):=by kernel_rfl
theorem zG:(prog.info? 33).map (·.size)=some 47:=by kernel_rfl
theorem aao(n:Int)(A:Option Addr)(k c:Nat)(t:aH.T)(j:Nat)(hj:j<45):(stA n A k c t)[2+j]?=(dR t)[j]?:=by
 have h:(stA n A k c t).toList=.int .i64 n::.slice A k c::(dR t).toList:=rfl;rw[← Array.getElem?_toList,← Array.getElem?_toList,h,Nat.add_comm]
 rfl
theorem abE(n:Int)(A:Option Addr)(k c:Nat)(t u:aH.T):putCells (stA n A k c t) 2 (dR u).toList=stA n A k c u:=by kernel_rfl
theorem Gh{q:Int}(hc:0≤q∧q<5)(n:Int)(A:Option Addr)(k c:Nat)(t:aH.T)(j:Nat)(hj:j<9:=by decide):(stA n A k c t)[2+q.toNat*9+j]?=(gq (t.get q))[j]?:=by
 rw[Nat.add_assoc,aao n A k c t _ (by omega),LV hc t j hj]
section
variable {b0:Nat}{w0 w:World}{L:List (Nat×TypeId×Array Value)}{R:List dA}{ops:Array Oper}{rest:List Oper}{o:Oper}{a:Act}{Q:Exit→Act→World→Prop}{K:Act→World→Prop}{E:Prop}{g:Nat}{n m:Int}{A B:Option Addr}{k c i j:Nat}{t u:aH.T}{p q:av.Rp}{q1:Int}
theorem aU(HK:Hid (Kn b0 w0 w L R))
  (h:∀w' g,Hid (Kn b0 w0 w' (L++[(g,33,stA 0 none 0 0 tz)]) R)→wpList prog ops Q rest (a.put o.dst (.pointer (some ⟨g,0,none⟩))) w') (hgd:o.guard=none:=by rfl)(ho:o.op=.alloc 33:=by rfl):wpList prog ops Q (o::rest) a w:=
 wpList_plain hgd fun _ hK=>pX Ht HK ho fun w' g h1 _=>hK _ _ (h w' g h1)
theorem kI(HK:Hid (Kn b0 w0 w L R))
  (h:∀w' g,Hid (Kn b0 w0 w' (L++[(g,33,stA 0 none 0 0 tz)]) R)→K (a.put o.dst (.pointer (some ⟨g,0,none⟩))) w') (hgd:o.guard=none:=by rfl)(ho:o.op=.alloc 33:=by rfl):if Region.wanted o (yielded ops a.tmps)=true then Oper.wp prog o a w K Q else E:=by
 rw[if_pos (by simp[Region.wanted,hgd])];exact pX Ht HK ho fun w' g h1 _=>h w' g h1
theorem MG(HK:Hid (Kn b0 w0 w L R))(i2:Nat)(x y:Operand)(ho:o.op=.store 33 x y)(hL:L[i2]?=some (g,33,stA n A k c t))(hx:a.eval x=.pointer (some ⟨g,0,none⟩))(hy:a.eval y=.agg (stA m B i j u))
  (h:∀w',Hid (Kn b0 w0 w' (L.set i2 (g,33,stA m B i j u)) R)→K (a.put o.dst undef) w'):o.wp prog a w K Q:=
 kM HK x y ho i2 hL hx hy (by show 47≤47;decide) zG (by simp[stA,Value.oneCell']) fun w' h1 _=>h w' (by
  have e:putCells (stA n A k c t) 0 (stA m B i j u).toList=stA m B i j u:=by rw[dJ (vs:=(stA m B i j u).toList) (cs:=stA n A k c t),Array.toArray_toList]
  rw[e] at h1
  exact h1)
theorem bA(HK:Hid (Kn b0 w0 w L R))(i2:Nat){x:Operand}{y:Operand}
  (h:∀w',Hid (Kn b0 w0 w' (L.set i2 (g,33,stA m B i j u)) R)→wpList prog ops Q rest (a.put o.dst undef) w') (hgd:o.guard=none:=by rfl)(ho:o.op=.store 33 x y:=by rfl)(hL:L[i2]?=some (g,33,stA n A k c t):=by rfl)(hx:a.eval x=.pointer (some ⟨g,0,none⟩):=by rfl)(hy:a.eval y=.agg (stA m B i j u):=by rfl):wpList prog ops Q (o::rest) a w:=
 wpList_plain hgd fun _ hK=>MG HK i2 x y ho hL hx hy fun w' h1=>hK _ _ (h w' h1)
theorem bZ(HK:Hid (Kn b0 w0 w L R))(i2:Nat){x:Operand}{y:Operand}
  (h:∀w',Hid (Kn b0 w0 w' (L.set i2 (g,33,stA m B i j u)) R)→K (a.put o.dst undef) w') (hgd:o.guard=none:=by rfl)(ho:o.op=.store 33 x y:=by rfl)(hL:L[i2]?=some (g,33,stA n A k c t):=by rfl)(hx:a.eval x=.pointer (some ⟨g,0,none⟩):=by rfl)(hy:a.eval y=.agg (stA m B i j u):=by rfl):if Region.wanted o (yielded ops a.tmps)=true then Oper.wp prog o a w K Q else E:=by
 rw[if_pos (by simp[Region.wanted,hgd])];exact MG HK i2 x y ho hL hx hy h
theorem Uc(HK:Hid (Kn b0 w0 w L R))(i:Nat)(x y:Operand)(ho:o.op=.store 3 x y)(hL:L[i]?=some (g,33,stA n A k c t))(hx:a.eval x=.pointer (some ⟨g,0,none⟩))(hy:a.eval y=.int .i64 m)
  (h:∀w',Hid (Kn b0 w0 w' (L.set i (g,33,stA m A k c t)) R)→K (a.put o.dst undef) w'):o.wp prog a w K Q:=
 nP HK x y ho i hL hx hy (by show 0<47;decide) fun w' h1 _=>h w' h1
theorem eY(HK:Hid (Kn b0 w0 w L R))(i:Nat){x:Operand}{y:Operand}
  (h:∀w',Hid (Kn b0 w0 w' (L.set i (g,33,stA m A k c t)) R)→wpList prog ops Q rest (a.put o.dst undef) w') (hgd:o.guard=none:=by rfl)(ho:o.op=.store 3 x y:=by rfl)(hL:L[i]?=some (g,33,stA n A k c t):=by rfl)(hx:a.eval x=.pointer (some ⟨g,0,none⟩):=by rfl)(hy:a.eval y=.int .i64 m:=by rfl):wpList prog ops Q (o::rest) a w:=
 wpList_plain hgd fun _ hK=>Uc HK i x y ho hL hx hy fun w' h1=>hK _ _ (h w' h1)
theorem Ub(HK:Hid (Kn b0 w0 w L R))(i2:Nat)(x y:Operand)(ho:o.op=.store 22 x y)(hL:L[i2]?=some (g,33,stA n A k c t))(hx:a.eval x=.pointer (some ⟨g,1,none⟩))(hy:a.eval y=.slice B i j)
  (h:∀w',Hid (Kn b0 w0 w' (L.set i2 (g,33,stA n B i j t)) R)→K (a.put o.dst undef) w'):o.wp prog a w K Q:=
 nP HK x y ho i2 hL hx hy (by show 1<47;decide) fun w' h1 _=>h w' h1
theorem dF(HK:Hid (Kn b0 w0 w L R))(i2:Nat){x:Operand}{y:Operand}
  (h:∀w',Hid (Kn b0 w0 w' (L.set i2 (g,33,stA n B i j t)) R)→wpList prog ops Q rest (a.put o.dst undef) w') (hgd:o.guard=none:=by rfl)(ho:o.op=.store 22 x y:=by rfl)(hL:L[i2]?=some (g,33,stA n A k c t):=by rfl)(hx:a.eval x=.pointer (some ⟨g,1,none⟩):=by rfl)(hy:a.eval y=.slice B i j:=by rfl):wpList prog ops Q (o::rest) a w:=
 wpList_plain hgd fun _ hK=>Ub HK i2 x y ho hL hx hy fun w' h1=>hK _ _ (h w' h1)
theorem GY(HK:Hid (Kn b0 w0 w L R))(i:Nat)(x y:Operand)(ho:o.op=.store 31 x y)(hL:L[i]?=some (g,33,stA n A k c t))(hx:a.eval x=.pointer (some ⟨g,2,none⟩))(hy:a.eval y=.agg (dR u))
  (h:∀w',Hid (Kn b0 w0 w' (L.set i (g,33,stA n A k c u)) R)→K (a.put o.dst undef) w'):o.wp prog a w K Q:=
 kM HK x y ho i hL hx hy (by show 2+45≤47;decide) uh (by simp[dR,Value.oneCell']) fun w' h1 _=>h w' (by
  rw[abE] at h1
  exact h1)
theorem dD(HK:Hid (Kn b0 w0 w L R))(i:Nat){x:Operand}{y:Operand}
  (h:∀w',Hid (Kn b0 w0 w' (L.set i (g,33,stA n A k c u)) R)→wpList prog ops Q rest (a.put o.dst undef) w') (hgd:o.guard=none:=by rfl)(ho:o.op=.store 31 x y:=by rfl)(hL:L[i]?=some (g,33,stA n A k c t):=by rfl)(hx:a.eval x=.pointer (some ⟨g,2,none⟩):=by rfl)(hy:a.eval y=.agg (dR u):=by rfl):wpList prog ops Q (o::rest) a w:=
 wpList_plain hgd fun _ hK=>GY HK i x y ho hL hx hy fun w' h1=>hK _ _ (h w' h1)
theorem Om(HK:Hid (Kn b0 w0 w L R))(i:Nat)(hgd:o.guard=none){x:Operand}{y:Operand}(ho:o.op=.store 31 x y)(hL:L[i]?=some (g,33,stA n A k c t))(hx:a.eval x=.pointer (some ⟨g,2,none⟩))(hy:a.eval y=.agg (dR u))
  (h:∀w',Hid (Kn b0 w0 w' (L.set i (g,33,stA n A k c u)) R)→K (a.put o.dst undef) w'):if Region.wanted o (yielded ops a.tmps)=true then Oper.wp prog o a w K Q else E:=by
 rw[if_pos (by simp[Region.wanted,hgd])];exact GY HK i x y ho hL hx hy h
theorem iB(HK:Hid (Kn b0 w0 w L R))(i:Nat){x:Operand}(ho:o.op=.load 33 x:=by rfl)(hL:L[i]?=some (g,33,stA n A k c t):=by rfl)(hx:a.eval x=.pointer (some ⟨g,0,none⟩):=by rfl):
  (execOp a.eval o).run prog w=.ok (.value (.agg (stA n A k c t))) w:=
 jC HK x ho i hL hx (stA n A k c t) (fun j _=>by rw[Nat.zero_add]) underlying33 zG
theorem jL(HK:Hid (Kn b0 w0 w L R))(i:Nat){x:Operand}(ho:o.op=.load 3 x:=by rfl)(hL:L[i]?=some (g,33,stA n A k c t):=by rfl)(hx:a.eval x=.pointer (some ⟨g,0,none⟩):=by rfl):
  (execOp a.eval o).run prog w=.ok (.value (.int .i64 n)) w:=
 aV HK _ x ho i hL hx underlying3
theorem jl(HK:Hid (Kn b0 w0 w L R))(i:Nat){x:Operand}(ho:o.op=.load 22 x:=by rfl)(hL:L[i]?=some (g,33,stA n A k c t):=by rfl)(hx:a.eval x=.pointer (some ⟨g,1,none⟩):=by rfl):
  (execOp a.eval o).run prog w=.ok (.value (.slice A k c)) w:=
 aV HK _ x ho i hL hx underlying22
theorem eU(HK:Hid (Kn b0 w0 w L R))(i:Nat){x:Operand}(ho:o.op=.load 31 x:=by rfl)(hL:L[i]?=some (g,33,stA n A k c t):=by rfl)(hx:a.eval x=.pointer (some ⟨g,2,none⟩):=by rfl):
  (execOp a.eval o).run prog w=.ok (.value (.agg (dR t))) w:=
 jC HK x ho i hL hx (dR t) (fun j hj=>aao n A k c t j hj) underlying31 uh
theorem oK(HK:Hid (Kn b0 w0 w L R))(i:Nat)(hc:0≤q1∧q1<5){x:Operand}(ho:o.op=.load 30 x:=by rfl)(hL:L[i]?=some (g,33,stA n A k c t):=by rfl)(hx:a.eval x=.pointer (some ⟨g,2+q1.toNat*9,none⟩):=by rfl):
  (execOp a.eval o).run prog w=.ok (.value (.agg (gq (t.get q1)))) w:=
 jC HK x ho i hL hx (gq (t.get q1)) (fun j hj=>Gh hc n A k c t j (hj:=hj)) underlying30 uj
theorem Ue(HK:Hid (Kn b0 w0 w L R))(i:Nat)(hc:0≤q1∧q1<5){x:Operand}(ho:o.op=.load 4 x:=by rfl)(hL:L[i]?=some (g,33,stA n A k c t):=by rfl)(hx:a.eval x=.pointer (some ⟨g,2+q1.toNat*9,none⟩):=by rfl):
  (execOp a.eval o).run prog w=.ok (.value (.bool (t.get q1).live)) w:=
 aV HK _ x ho i hL hx (hv:=(Gh hc n A k c t 0)) underlying4
theorem Uf(HK:Hid (Kn b0 w0 w L R))(i:Nat)(hc:0≤q1∧q1<5){x:Operand}(ho:o.op=.load 3 x:=by rfl)(hL:L[i]?=some (g,33,stA n A k c t):=by rfl)(hx:a.eval x=.pointer (some ⟨g,2+q1.toNat*9+1,none⟩):=by rfl):
  (execOp a.eval o).run prog w=.ok (.value (.int .i64 (t.get q1).ep)) w:=
 aV HK _ x ho i hL hx (hv:=(Gh hc n A k c t 1)) underlying3
theorem aaz(HK:Hid (Kn b0 w0 w L R))(i:Nat)(hc:0≤q1∧q1<5){x:Operand}(ho:o.op=.load 4 x:=by rfl)(hL:L[i]?=some (g,33,stA n A k c t):=by rfl)(hx:a.eval x=.pointer (some ⟨g,2+q1.toNat*9+3,none⟩):=by rfl):
  (execOp a.eval o).run prog w=.ok (.value (.bool (t.get q1).dn)) w:=
 aV HK _ x ho i hL hx (hv:=(Gh hc n A k c t 3)) underlying4
theorem aay(HK:Hid (Kn b0 w0 w L R))(i:Nat)(hc:0≤q1∧q1<5){x:Operand}(ho:o.op=.load 28 x:=by rfl)(hL:L[i]?=some (g,33,stA n A k c t):=by rfl)(hx:a.eval x=.pointer (some ⟨g,2+q1.toNat*9+4,none⟩):=by rfl):
  (execOp a.eval o).run prog w=.ok (.value (.agg (cB (t.get q1).p))) w:=
 jC HK x ho i hL hx (cB (t.get q1).p) (fun j hj=>by
  rw[Nat.add_assoc,Gh hc n A k c t (4+j) (hj:=(by have:j<5:=hj;omega))]
  match j,hj with
  | 0,_|1,_|2,_|3,_|4,_=>rfl) underlying28 jm
theorem dV(hc:0≤q1∧q1<5){x:Operand}{y:Operand}(ho:o.op=.indexAddr 31 x y:=by rfl)(hx:a.eval x=.pointer (some ⟨g,2,none⟩):=by rfl)(hy:a.eval y=.int .i64 q1:=by rfl):
  (execOp a.eval o).run prog w=.ok (.value (.pointer (some ⟨g,2+q1.toNat*9,none⟩))) w:=by
 have h:(Instr.indexAt 31 (.pointer (some ⟨g,2,none⟩)) (.int .i64 q1)).run prog w=.ok (.pointer (some ⟨g,2+q1.toNat*9,none⟩)) w:=by
  rcases aH.gN hc with rfl|rfl|rfl|rfl|rfl<;>kernel_rfl
 exact Xa
theorem Br{r:Rf}{x:Operand}{y:Operand}{z:Operand}(ho:o.op=.build 35 #[(0,x),(1,y),(2,z)]:=by rfl)(hx:a.eval x=.int .i64 r.c:=by rfl)(hy:a.eval y=.int .i64 r.e:=by rfl)(hz:a.eval z=.int .i64 r.r:=by rfl):
  (execOp a.eval o).run prog w=.ok (.value (.agg #[.int .i64 r.c,.int .i64 r.e,.int .i64 r.r])) w:=by
 have h:(Instr.build 35 #[(0,.int .i64 r.c),(1,.int .i64 r.e),(2,.int .i64 r.r)]).run prog w=.ok (.agg #[.int .i64 r.c,.int .i64 r.e,.int .i64 r.r]) w:=by go_simp
 unfold execOp;simp only[ho,Sem.run_bind,Sem.run_pure,Result.andThen_ok,List.map_toArray,List.map_cons,List.map_nil,hx,hy,hz,h]
end
section
variable {fn:Func}{R:Ending→World→Prop}{a:Act}{w:World}{B:Nat}{n:Int}{A:Option Addr}{k c:Nat}{t:aH.T}{u:Value}{q q2:Tmp}
theorem SQ(hf:fn.results=#[.cell q 33])(h2:a.tmps[q]?=some (.pointer (some ⟨B,0,none⟩)))(hd:a.defers=[])(hb:gD w B 33 (stA n A k c t))
  (hR:R (.returned (.agg (stA n A k c t))) w):bodyPost prog fn R Exit.ret a w:=
 bodyPost_ret (results_cell_row hf a.tmps w B _ _ (0,0) _ (by simp[h2]) hb underlying33 rfl zG) hd hR
theorem dQ(hf:fn.results=#[.cell q 33,.tmp q2])(hb:gD w B 33 (stA n A k c t))
  (hR:R (.returned (.tuple #[.agg (stA n A k c t),u])) w) (h2:a.tmps[q]?=some (.pointer (some ⟨B,0,none⟩)):=by rfl)(h3:a.tmps[q2]?=some u:=by rfl)(hd:a.defers=[]:=by rfl):bodyPost prog fn R Exit.ret a w:=by
 refine bodyPost_ret (v:=.tuple #[.agg (stA n A k c t),u]) ?_ hd hR;have h:(loadVar 33 ⟨B,0,none⟩).run prog w=.ok (.agg (stA n A k c t)) w:=run_loadVar_row (P:=prog) w B _ _ _ (0,0) _ hb underlying33 rfl zG;simp[results,hf,asAddr,Sem.run_bind,h2,h3,h]
end
section
variable {b0:Nat}{w0 w:World}{L:List (Nat×TypeId×Array Value)}{R:List dA}
theorem Kn.lC{y:dA}(h:Kn b0 w0 w L (R++[y])):Kn b0 w0 w L (y::R):=by
 refine h.pick id (fun j=>if j=0 then R.length else j-1) (fun i j _ _ h=>h) (fun i j hi hj h=>?_) (fun i x hx=>hx) (fun i x hx=>?_)
 ·simp at hi hj;(try dsimp only);split<;>split<;>omega
 ·match i,hx with
  | 0,hx=>simp at hx ⊢;exact hx
  | i+1,hx=>
   rw[List.getElem?_cons_succ] at hx;rw[if_neg (by omega)]
   show(R++[y])[i+1-1]?=_
   rw[Nat.add_sub_cancel,List.getElem?_append_left (List.getElem?_eq_some_iff.1 hx).1];exact hx
end
section
variable {w:World}{o:Oper}{a:Act}{y:av.Ot}
theorem Ve{b off:Nat}{p:Operand}(ho:o.op=.load 35 p)(hx:a.eval p=.pointer (some ⟨b,off,none⟩))(hc:∀j v,(XI y)[j]?=some v→w.cell? ⟨b,off+j,none⟩=some v):
  (execOp a.eval o).run prog w=.ok (.value (.agg #[.int .i64 y.r.c,.int .i64 y.r.e,.int .i64 y.r.r])) w:=
 bV (x:=y.r) (p:=p) (ho:=ho) (hx:=hx) (fun j v hj=>by
  match j,hj with
  | 0,hj=>exact hc 0 v hj
  | 1,hj=>exact hc 1 v hj
  | 2,hj=>exact hc 2 v hj)
theorem Vf{b off:Nat}{p:Operand}(ho:o.op=.load 28 p)(hx:a.eval p=.pointer (some ⟨b,off+3,none⟩))(hc:∀j v,(XI y)[j]?=some v→w.cell? ⟨b,off+j,none⟩=some v):
  (execOp a.eval o).run prog w=.ok (.value (.agg (cB y.p))) w:=by
 have hr:w.rangeAt b (off+3) (cB y.p).toList:=fun j v hj=>by
  have h2:(XI y)[3+j]?=some v:=by
   rw[← hj]
   match j with
   | 0=>rfl
   | 1=>rfl
   | 2=>rfl
   | 3=>rfl
   | 4=>rfl
   | j+5=>
    rw[List.getElem?_eq_none (by show 8≤3+(j+5);omega),List.getElem?_eq_none (by show 5≤j+5;omega)]
  rw[Nat.add_assoc];exact hc (3+j) v h2
 have h:=run_loadVar_mid (P:=prog) w b (off+3) _ (cB y.p).toList _ hr underlying28 rfl jm;exact Xf
end
theorem lF(l:List av.Ob)(r:Rf):(av.jM l r).length≤8:=by
 unfold av.jM
 split
 next h=>
  have h1:∀m:List av.Ob,(m.flatMap fun o=>av.uF o r).length≤m.length:=fun m=>by
   induction m with
   | nil=>exact Nat.le_refl 0
   | cons o m ih=>
    have h2:=av.Nr o r;rw[List.flatMap_cons,List.length_append,List.length_cons];omega
  exact Nat.le_trans (h1 l) h.len
 next=>exact Nat.zero_le 8
theorem KT{y:Rf}{b:Bool}:∀z∈av.held y b,z.p.v.f<18446744073709551616:=fun z hz=>by
 unfold av.held at hz
 split at hz
 ·rw[List.mem_singleton.1 hz];show(0:Nat)<18446744073709551616;decide
 ·cases hz
theorem mo{l:List av.Ob}{r:Rf}:∀z∈av.jM l r,z.p.v.f<18446744073709551616:=fun z hz=>by
 unfold av.jM at hz
 split at hz
 ·obtain⟨o,_,hz⟩:=List.mem_flatMap.1 hz
  unfold av.uF at hz
  split at hz
  ·exact KT z hz
  ·cases hz
 ·cases hz
theorem eu{l:List av.Ot}(h:l.length≤1000:=by show 1≤1000;decide):Fits aR tF l:=⟨fun x hx=>trivial,by show l.length*72≤_;omega⟩
def dB(G:World→Prop)(s:Ap.St)(os:List av.Ot)(w:World)(e:Ending)(w':World):Prop:=∃(A:Option Addr) (k c:Nat) (l:List Oh) (O:Option Addr) (m d:Nat) (Rn:List dA),e=.returned (.tuple #[.agg (stA s.n A k c s.t),.slice O m d])∧Hid (vs l=s.l)∧Kn w.heap.size w w' [] Rn∧
 Hid (∀(b:Nat) (W0 W:World) L R,Kn b W0 W L R→(∀z∈Rn,z∈R)→G W→bY W A k c l∧bJ aR tF W O m d os)
end
section
theorem Pg(n:Nat)(w:World)(hB0:n*72≤140737488355328):Calls prog 189 #[.slice none 0 0,.int .i64 n] w fun e w'=>∃A c,e=.returned (.slice A 0 c)∧aR.Own w.heap.size w' (.slice A 0 c) []∧Below w.heap.size w w':=by
 by_cases h0:n=0
 ·subst h0
  have HK:=zH (Kn.start w);clear hB0;go_enter func189,ntmps189;exact QX
 obtain⟨i0,hi,hz0,hz1,hz2⟩:=info_parts aR.info;have hc1:=grownCap_ge w n 0 71;have hr:=Lib.run_append_nil_zeros (P:=prog) w 41 3 41 71 i0 aR.z .i64 .i64 aR.und underlying3 hi hz0 n (by omega) (by rw[hz1];decide) (by omega) (by rw[hz2];show n*72≤_;omega);have HR:=zH hr;have hc2:=grownCap_le_maxLen w n 0 71 (by unfold maxLen;omega);generalize grownCap w n 0 71=G at *
 have HO:Hid (aR.Own w.heap.size (w.drew.alloc (.cells (Builtin.zeroCells aR.z.cells n++Builtin.zeroCells aR.z.cells (G-n)) 71)) (.slice (some ⟨w.heap.size,0,none⟩) 0 G) []):=by
  have:=World.ownsRow_made (base:=w.heap.size) (e:=71) (size:=8) w.drew (Builtin.zeroCells aR.z.cells n++Builtin.zeroCells aR.z.cells (G-n)) G (Nat.le_refl _) hc2 (by
   rw[Array.size_append,size_zeroCells,size_zeroCells];have:aR.z.cells.size=8:=rfl
   rw[this];omega)
  exact zH this
 have HB:Hid (Below w.heap.size w (w.drew.alloc (.cells (Builtin.zeroCells aR.z.cells n++Builtin.zeroCells aR.z.cells (G-n)) 71))):=zH ((Below.refl _ w).drew.alloc (Nat.le_refl _) _);generalize w.drew.alloc (.cells (Builtin.zeroCells aR.z.cells n++Builtin.zeroCells aR.z.cells (G-n)) 71)=wz at *
 clear hr hi hz0 hz1 hz2 hc1 hc2;have h1:¬((n:Int)<0):=by omega
 have h2:(0:Int)<(n:Int):=by omega
 have h3:wrap64 (n:Int)=(n:Int):=by unfold wrap64;omega
 go_enter func189,ntmps189;exact Rh
theorem oG:Joins prog 121 aR tF:=by
 intro g m ps w hm hb hg hc hs ht;replace ht:(dN ps).length*72≤140737488355328:=ht
 have iA:Hid (∀k,k<m→∃p,ps[k]?=some p∧bJ aR tF w p.A p.n p.c p.l∧∀W,Below w.heap.size w W→W.cell? ⟨g,k,none⟩=some (.slice p.A p.n p.c)):=zH fun k hk=>by
  exact Jy
 have HLen:Hid (∀k,(dN (ps.take k)).length*72≤140737488355328):=zH fun k=>Nat.le_trans (Nat.mul_le_mul_right _ (uD ps k)) ht
 have jo:Hid (ps.take m=ps):=zH (by rw[← hm];exact List.take_length);have HG:=zH (fun W=>Pg (dN ps).length W ht);clear hc hs ht hm hg;go_enter func121,ntmps121;go_wp2_with fail;go_loopw [3,11] (fun vs vi wr=>∃k:Nat,k≤m∧vs=.int .i64 ((dN (ps.take k)).length:Nat)∧vi=.int .i64 k∧w=wr) (fun _ vi _=>m-(intOf vi).toNat)
 case atStart=>exact⟨0,Nat.zero_le _,rfl,rfl,rfl⟩
 case round=>
  obtain⟨k,hk,rfl,rfl,rfl⟩:=hrel;by_cases hlt:k<m
  ·obtain⟨p,hp,hsl,hcl⟩:=iA.out k hlt
   exact zq4
  ·obtain rfl:k=m:=by omega
   rw[jo.out];go_wp2_with fail;refine(HG.out _).mono ?_;rintro e w1 ⟨A0,c0,rfl,o1,b1⟩;have HK:=zH ((Kn.start _).called b1 o1);simp only[aJ] at HK;clear b1 o1;go_wp2_with fail;go_loopw [6,27] (fun vs vi wr=>∃(q:Nat) (A:Option Addr) (c N:Nat),q≤k∧Hid ((dN (ps.take q)).length=N)∧vs=.slice A N c∧vi=.int .i64 q∧Hid (Kn w.heap.size w wr [] [row aR (.slice A N c) (dN (ps.take q))])) (fun _ vi _=>k-(intOf vi).toNat)
   case atStart=>exact⟨0,A0,c0,0,Nat.zero_le _,zH rfl,rfl,rfl,HK⟩
   case round=>
    clear HK;obtain⟨q,A,c,N,hq,hN,rfl,rfl,HK⟩:=hrel;by_cases hlt:q<k
    ·obtain⟨p,hp,hsl,hcl⟩:=iA.out q hlt
     have hcell:=hcl _ HK.out.b;have HR:=zH (let h:=hsl.later HK.out.b;And.intro h.rd h.nl);have hlen:=HLen.out (q+1);have he:=lH hp;rw[he,List.length_append,hN.out] at hlen;have HE:=zH he;have BU:Hid (p.n=p.l.length):=zH hsl.len.symm;have HL:Hid ((dN (ps.take q)).length+p.l.length≤9223372036854775807∧((dN (ps.take q)).length+p.l.length)*aR.bytes≤211106232532992):=zH ⟨by rw[hN.out];omega,by show _*72≤_;rw[hN.out];omega⟩;have fB:Hid ((dN (ps.take q)++p.l).length=N+p.l.length):=zH (by rw[List.length_append,hN.out]);clear he hp hlen hsl hcl;obtain⟨Ap,np,cp,lp⟩:=p;simp only at hcell HR BU HL fB HE;go_wp2_with (at_builtin;refine aX HK aR 0 lp BU.out HR HL (N:=N+lp.length) fB ?_;clear HK;intro A4 c4 _ HK;simp only[lS] at HK);exact Rb
    ·obtain rfl:q=k:=by omega
     exact Ra
end
section
section
variable {b0:Nat}{w0 w:World}{L:List (Nat×TypeId×Array Value)}{R:List dA}{o:Oper}{a:Act}{g:Nat}{p:av.Rp}
theorem Dq(HK:Hid (Kn b0 w0 w L R))(i:Nat){r:Operand}(ho:o.op=.load 23 r:=by rfl)(hL:L[i]?=some (g,28,cB p):=by rfl)(hx:a.eval r=.pointer (some ⟨g,0,none⟩):=by rfl):
  (execOp a.eval o).run prog w=.ok (.value (.int .i64 p.e)) w:=aV HK _ r ho i hL hx underlying23
theorem Dp(HK:Hid (Kn b0 w0 w L R))(i:Nat){r:Operand}(ho:o.op=.load 26 r:=by rfl)(hL:L[i]?=some (g,28,cB p):=by rfl)(hx:a.eval r=.pointer (some ⟨g,1,none⟩):=by rfl):
  (execOp a.eval o).run prog w=.ok (.value (.agg #[.int .i64 p.v.k,.int .i64 p.v.n,.int .u64 (p.v.f:Int),.string p.v.s])) w:=
 dU HK r ho i hL hx #[.int .i64 p.v.k,.int .i64 p.v.n,.int .u64 (p.v.f:Int),.string p.v.s] (fun j hj=>by
  match j,hj with
  | 0,_|1,_|2,_|3,_=>rfl) underlying26 iT
theorem qo{x:Int}{b:Bool}{q:Operand}(hb:decide (0≤x)=b)(ho:o.op=.binOp .leq 23 (.const (.int .i64 0)) q 23:=by rfl)(hq:a.eval q=.int .i64 x:=by rfl):
  (execOp a.eval o).run prog w=.ok (.value (.bool b)) w:=by
 exact ZJ
theorem qp{x:Int}{b:Bool}{q:Operand}(hb:decide (0≤x)=b)(ho:o.op=.binOp .geq 23 q (.const (.int .i64 0)) 23:=by rfl)(hq:a.eval q=.int .i64 x:=by rfl):
  (execOp a.eval o).run prog w=.ok (.value (.bool b)) w:=by
 exact ZJ
theorem qm{x:Int}{b:Bool}{q:Operand}(hb:decide (x≤18)=b)(ho:o.op=.binOp .leq 23 q (.const (.int .i64 18)) 23:=by rfl)(hq:a.eval q=.int .i64 x:=by rfl):
  (execOp a.eval o).run prog w=.ok (.value (.bool b)) w:=by
 have he:a.eval (.const (.int .i64 18))=.int .i64 18:=rfl;subst hb;unfold execOp;simp only[ho,hq,he];go_simp
end
theorem Ai(p:av.Rp)(w:World)(hf:p.v.f<18446744073709551616):Calls prog 147 #[.agg (cB p)] w (cZ (av.rep p) w):=by
 have HC:=zH (fun W=>qy p.v W hf);have HK:=iK w 28 (cB p);unfold cZ av.rep;unfold gX vv at HC;generalize h1:decide (0≤p.e)=b1;have H1:=zH h1;generalize h2:decide (p.e≤18)=b2;have H2:=zH h2;generalize Val.bG p.v=z at *
 clear h1 h2 hf;cases b1
 ·go_enter func147,ntmps147
  go_wp2_with (first|refine zX (Dq HK 0) ?_|refine zX (Dp HK 0) ?_|refine zX (qo (x:=p.e) H1.out) ?_|refine zX (qp (x:=p.e) H1.out) ?_|refine zX (qm (x:=p.e) H2.out) ?_);exact lQ
 cases b2
 ·go_enter func147,ntmps147
  go_wp2_with (first|refine zX (Dq HK 0) ?_|refine zX (Dp HK 0) ?_|refine zX (qo (x:=p.e) H1.out) ?_|refine zX (qp (x:=p.e) H1.out) ?_|refine zX (qm (x:=p.e) H2.out) ?_);exact lQ
 ·go_enter func147,ntmps147
  go_wp2_with (first|refine zX (Dq HK 0) ?_|refine zX (Dp HK 0) ?_|refine zX (qo (x:=p.e) H1.out) ?_|refine zX (qp (x:=p.e) H1.out) ?_|refine zX (qm (x:=p.e) H2.out) ?_);refine cb (HC.out _) HK ?_;clear HK;intro _ HK;exact iU
theorem Al(p:av.Rp)(w:World)(hf:p.v.f<18446744073709551616):Calls prog 131 #[.agg (cB p)] w (cZ (av.rep p) w):=by
 have HC:=zH (fun W=>bR p.v W hf);have HK:=iK w 28 (cB p);unfold cZ av.rep;unfold gX vv at HC;generalize h1:decide (0≤p.e)=b1;have H1:=zH h1;generalize h2:decide (p.e≤18)=b2;have H2:=zH h2;generalize Val.bG p.v=z at *
 clear h1 h2 hf;cases b1
 ·go_enter func131,ntmps131
  go_wp2_with (first|refine zX (Dq HK 0) ?_|refine zX (Dp HK 0) ?_|refine zX (qo (x:=p.e) H1.out) ?_|refine zX (qp (x:=p.e) H1.out) ?_|refine zX (qm (x:=p.e) H2.out) ?_);exact lQ
 cases b2
 ·go_enter func131,ntmps131
  go_wp2_with (first|refine zX (Dq HK 0) ?_|refine zX (Dp HK 0) ?_|refine zX (qo (x:=p.e) H1.out) ?_|refine zX (qp (x:=p.e) H1.out) ?_|refine zX (qm (x:=p.e) H2.out) ?_);exact lQ
 ·go_enter func131,ntmps131
  go_wp2_with (first|refine zX (Dq HK 0) ?_|refine zX (Dp HK 0) ?_|refine zX (qo (x:=p.e) H1.out) ?_|refine zX (qp (x:=p.e) H1.out) ?_|refine zX (qm (x:=p.e) H2.out) ?_);refine cb (HC.out _) HK ?_;clear HK;intro _ HK;exact iU
end
section
theorem JZ(s:aH.S)(w:World)(hf:s.p.v.f<18446744073709551616):Calls prog 81 #[.agg (gq s)] w (cZ (aH.snd s) w):=by
 obtain⟨l,ep,rq,dn,p⟩:=s;have HC:=zH (fun W=>Ai p W hf);have HK:=iK w 30 (gq ⟨l,ep,rq,dn,p⟩);unfold cZ aH.snd;unfold cZ at HC;dsimp only;generalize h1:decide (0<ep)=b1;have H1:Hid (decide (ep≤0)=!b1):=zH (by rw[← h1,Bool.eq_iff_iff];simp);generalize h2:decide (0≤rq)=b2;have H2:Hid (decide (rq<0)=!b2):=zH (by rw[← h2,Bool.eq_iff_iff];simp);generalize h4:decide (0<rq)=b4;have H4:=zH h4;generalize h5:decide (p=av.rz)=b5;have H5:=zH h5;generalize av.rep p=b3 at *
 clear h1 h2 h4 h5 hf;cases b1
 case false=>
  go_enter func81,ntmps81;go_wp2_with (first|refine zX (oM HK 0) ?_|refine zX (pY HK 0) ?_|refine zX (jO HK 0) ?_|refine zX (nQ HK 0) ?_|refine zX (kg HK 0) ?_|refine zX (jG (m:=ep) (n:=0) H1.out) ?_|refine zX (bI (m:=rq) (n:=0) H2.out) ?_|refine zX (bT (m:=rq) (n:=0) H4.out) ?_|refine zX (fO) ?_|refine zX (kT (p:=p) (q:=av.rz) H5.out) ?_);exact lQ
 cases b2
 case false=>
  go_enter func81,ntmps81;go_wp2_with (first|refine zX (oM HK 0) ?_|refine zX (pY HK 0) ?_|refine zX (jO HK 0) ?_|refine zX (nQ HK 0) ?_|refine zX (kg HK 0) ?_|refine zX (jG (m:=ep) (n:=0) H1.out) ?_|refine zX (bI (m:=rq) (n:=0) H2.out) ?_|refine zX (bT (m:=rq) (n:=0) H4.out) ?_|refine zX (fO) ?_|refine zX (kT (p:=p) (q:=av.rz) H5.out) ?_);exact lQ
 cases b3
 case false=>
  go_enter func81,ntmps81;go_wp2_with (first|refine zX (oM HK 0) ?_|refine zX (pY HK 0) ?_|refine zX (jO HK 0) ?_|refine zX (nQ HK 0) ?_|refine zX (kg HK 0) ?_|refine zX (jG (m:=ep) (n:=0) H1.out) ?_|refine zX (bI (m:=rq) (n:=0) H2.out) ?_|refine zX (bT (m:=rq) (n:=0) H4.out) ?_|refine zX (fO) ?_|refine zX (kT (p:=p) (q:=av.rz) H5.out) ?_);refine cb (HC.out _) HK ?_;clear HK;intro _ HK;go_wp2_with (first|refine zX (oM HK 0) ?_|refine zX (pY HK 0) ?_|refine zX (jO HK 0) ?_|refine zX (nQ HK 0) ?_|refine zX (kg HK 0) ?_|refine zX (jG (m:=ep) (n:=0) H1.out) ?_|refine zX (bI (m:=rq) (n:=0) H2.out) ?_|refine zX (bT (m:=rq) (n:=0) H4.out) ?_|refine zX (fO) ?_|refine zX (kT (p:=p) (q:=av.rz) H5.out) ?_);exact lQ
 cases dn
 case true=>
  go_enter func81,ntmps81;go_wp2_with (first|refine zX (oM HK 0) ?_|refine zX (pY HK 0) ?_|refine zX (jO HK 0) ?_|refine zX (nQ HK 0) ?_|refine zX (kg HK 0) ?_|refine zX (jG (m:=ep) (n:=0) H1.out) ?_|refine zX (bI (m:=rq) (n:=0) H2.out) ?_|refine zX (bT (m:=rq) (n:=0) H4.out) ?_|refine zX (fO) ?_|refine zX (kT (p:=p) (q:=av.rz) H5.out) ?_);refine cb (HC.out _) HK ?_;clear HK;intro _ HK;have k3:=HK.out.cell 0 rfl 3 (v:=.bool true) rfl;exact iU
 cases l
 case false=>
  go_enter func81,ntmps81;go_wp2_with (first|refine zX (oM HK 0) ?_|refine zX (pY HK 0) ?_|refine zX (jO HK 0) ?_|refine zX (nQ HK 0) ?_|refine zX (kg HK 0) ?_|refine zX (jG (m:=ep) (n:=0) H1.out) ?_|refine zX (bI (m:=rq) (n:=0) H2.out) ?_|refine zX (bT (m:=rq) (n:=0) H4.out) ?_|refine zX (fO) ?_|refine zX (kT (p:=p) (q:=av.rz) H5.out) ?_);refine cb (HC.out _) HK ?_;clear HK;intro _ HK;go_wp2_with (first|refine zX (jO HK 0) ?_|refine zX (nQ HK 0) ?_);exact lQ
 cases b4
 case false=>
  go_enter func81,ntmps81;go_wp2_with (first|refine zX (oM HK 0) ?_|refine zX (pY HK 0) ?_|refine zX (jO HK 0) ?_|refine zX (nQ HK 0) ?_|refine zX (kg HK 0) ?_|refine zX (jG (m:=ep) (n:=0) H1.out) ?_|refine zX (bI (m:=rq) (n:=0) H2.out) ?_|refine zX (bT (m:=rq) (n:=0) H4.out) ?_|refine zX (fO) ?_|refine zX (kT (p:=p) (q:=av.rz) H5.out) ?_);refine cb (HC.out _) HK ?_;clear HK;intro _ HK;go_wp2_with (first|refine zX (jO HK 0) ?_|refine zX (nQ HK 0) ?_|refine zX (pY HK 0) ?_|refine zX (bT (m:=rq) (n:=0) H4.out) ?_);exact lQ
 go_enter func81,ntmps81;go_wp2_with (first|refine zX (oM HK 0) ?_|refine zX (pY HK 0) ?_|refine zX (jO HK 0) ?_|refine zX (nQ HK 0) ?_|refine zX (kg HK 0) ?_|refine zX (jG (m:=ep) (n:=0) H1.out) ?_|refine zX (bI (m:=rq) (n:=0) H2.out) ?_|refine zX (bT (m:=rq) (n:=0) H4.out) ?_|refine zX (fO) ?_|refine zX (kT (p:=p) (q:=av.rz) H5.out) ?_);refine cb (HC.out _) HK ?_;clear HK;intro _ HK;go_wp2_with (first|refine zX (oM HK 0) ?_|refine zX (pY HK 0) ?_|refine zX (jO HK 0) ?_|refine zX (nQ HK 0) ?_|refine zX (kg HK 0) ?_|refine zX (jG (m:=ep) (n:=0) H1.out) ?_|refine zX (bI (m:=rq) (n:=0) H2.out) ?_|refine zX (bT (m:=rq) (n:=0) H4.out) ?_|refine zX (fO) ?_|refine zX (kT (p:=p) (q:=av.rz) H5.out) ?_);exact lQ
theorem CK(t:aH.T)(w:World):Calls prog 82 #[.agg (dR t)] w (gG (aH.live t (-1)) w):=by
 rw[← aH.afW];have HK:=iK w 31 (dR t);unfold gG;go_enter func82,ntmps82;go_wp2_with refine zX (jV HK 0) ?_;go_loopw [3,7] (fun v3 v7 wr=>∃k:Nat,k≤5∧v3=.int .i64 (aH.cnt t (-1) k)∧v7=.int .i64 k∧Hid (Kn w.heap.size w wr [(w.heap.size,31,dR t)] [])) (fun _ v7 _=>5-(intOf v7).toNat)
 case atStart=>exact⟨0,Nat.zero_le _,rfl,rfl,HK⟩
 case round=>
  clear HK;obtain⟨k,hk,rfl,rfl,HK⟩:=hrel;have hk1:(0:Int)≤(k:Int):=by omega
  by_cases hlt:k<5
  ·have hk2:(k:Int)<(5:Int):=by omega
   have hk3:k<9223372036854775807:=by omega
   have hc:0≤(k:Int)∧(k:Int)<5:=⟨hk1,hk2⟩;have hcn:=aH.Lg t (-1) k;have hW:IntKind.i64.wrap (aH.cnt t (-1) k+1)=aH.cnt t (-1) k+1:=by rw[IntKind.wrap_i64];omega
   have hS:aH.cnt t (-1) (k+1)=aH.cnt t (-1) k+aH.Cj (t.get (k:Int)).live:=by
    show _+aH.Cj (_&&!decide ((k:Int) = -1))=_
    rw[decide_eq_false (by omega)];simp
   have HW:=zH hW;have HS:=zH hS;clear hW hS hcn;generalize aH.cnt t (-1) k=z at *
   generalize hs:t.get (k:Int)=s at *
   have HI:Hid (t.get (k:Int)=s):=zH hs;clear hs;obtain⟨l,ep,rq,dn,p⟩:=s;cases l
   ·go_wp2_with (first|refine zX ((mg (t:=t) hc).trans (by rw[HI.out])) ?_|(refine bE HK ?_;clear HK;intro _ g1 HK;simp only[aO,aJ] at HK)|(refine bD (u:=⟨false,ep,rq,dn,p⟩) HK 1 ?_;clear HK;intro _ HK;simp only[lS] at HK)|refine zX (nQ HK 1) ?_|refine zX (dZ (m:=z) HW.out) ?_|refine zX (aL (j:=k) hk3) ?_)
    exact ZE
   ·go_wp2_with (first|refine zX ((mg (t:=t) hc).trans (by rw[HI.out])) ?_|(refine bE HK ?_;clear HK;intro _ g1 HK;simp only[aO,aJ] at HK)|(refine bD (u:=⟨true,ep,rq,dn,p⟩) HK 1 ?_;clear HK;intro _ HK;simp only[lS] at HK)|refine zX (nQ HK 1) ?_|refine zX (dZ (m:=z) HW.out) ?_|refine zX (aL (j:=k) hk3) ?_)
    exact ZE
  ·obtain rfl:k=5:=by omega
   exact iU
theorem Oz(s:aH.S)(w:World):Calls prog 63 #[.agg (gq s)] w (gG (if s.dn=true then 2 else 3) w):=by
 obtain⟨l,ep,rq,dn,p⟩:=s;have HK:=iK w 30 (gq ⟨l,ep,rq,dn,p⟩);unfold gG;cases dn
 ·go_enter func63,ntmps63
  go_wp2_with refine zX (jO HK 0) ?_;exact lQ
 ·go_enter func63,ntmps63
  go_wp2_with refine zX (jO HK 0) ?_;exact lQ
theorem CP(s:aH.S)(x:av.Rp)(w:World):Calls prog 188 #[.agg (gq s),.agg (cB x)] w (IsS { s with dn:=true,p:=x } w):=by
 have HK:=kX w 30 (gq s) 28 (cB x);unfold IsS;go_enter func188,ntmps188;go_wp2_with (first|(refine bE HK ?_;clear HK;intro _ g1 HK;simp only[aO,aJ] at HK)|(refine uV (d:=true) HK 0 ?_;clear HK;intro _ HK;simp only[lS] at HK)|refine zX (xC HK 1) ?_|(refine uU (p:=x) HK 0 ?_;clear HK;intro _ HK;simp only[lS] at HK)|refine zX (ER HK 0) ?_|(refine bD (u:={ s with dn:=true,p:=x }) HK 2 ?_;clear HK;intro _ HK;simp only[lS] at HK));exact abH results188 rfl rfl (HK.out.blk 2 rfl) ⟨rfl,HK.out.b⟩
end
section
theorem Kh(s:aH.S)(w:World)(hf:s.p.v.f<18446744073709551616):Calls prog 84 #[.agg (gq s)] w (cZ (aH.one s) w):=by
 obtain⟨l,ep,rq,dn,p⟩:=s;have HC:=zH (fun W=>Al p W hf);have HK:=iK w 30 (gq ⟨l,ep,rq,dn,p⟩);unfold cZ aH.one;unfold cZ at HC;dsimp only;by_cases he:ep=0
 ·rw[if_pos he]
  generalize h0:decide ((⟨l,ep,rq,dn,p⟩:aH.S)=aH.z)=b0;have H0:=zH h0;have H1:Hid (decide (ep=0)=true):=zH (decide_eq_true he);clear h0 he;go_enter func84,ntmps84;go_wp2_with (first|refine zX (oM HK 0) ?_|refine zX (ER HK 0) ?_|refine zX (aD (m:=ep) (n:=0) H1.out) ?_|refine zX (oO) ?_|refine zX (Vb (s:=⟨l,ep,rq,dn,p⟩) (u:=aH.z) (by rfl) (by rfl) (by rfl) H0.out) ?_);exact lQ
 rw[if_neg he];have H1:Hid (decide (ep=0)=false):=zH (decide_eq_false he);have HZ:Hid ((ep==0)=false):=zH (by rw[beq_eq_false_iff_ne];exact he);clear he;generalize h2:decide (0<ep)=b2;have H2:=zH h2;generalize h3:decide (0≤rq)=b3;have H3:=zH h3;generalize h5:decide (p=av.rz)=b5;have H5:Hid ((!decide (p=av.rz))=!b5):=zH (by rw[h5]);generalize h6:decide (1≤rq)=b6;have H6:Hid (decide (rq<1)=!b6):=zH (by rw[← h6,Bool.eq_iff_iff];simp);generalize av.rep p=b4 at *
 clear h2 h3 h5 h6 hf;cases dn
 case true=>
  have hz:=HZ.out;cases b2
  ·have hp:¬0<ep:=of_decide_eq_false H2.out
   have hp2:=H2.out;go_enter func84,ntmps84;have k0:=HK.out.cell 0 rfl 0 (v:=.bool l) rfl;have k1:=HK.out.cell 0 rfl 1 (v:=.int .i64 ep) rfl;have k2:=HK.out.cell 0 rfl 2 (v:=.int .i64 rq) rfl;have k3:=HK.out.cell 0 rfl 3 (v:=.bool true) rfl;exact iU
  have hp:0<ep:=of_decide_eq_true H2.out;have hp2:=H2.out;cases b3
  ·have hr:¬0≤rq:=of_decide_eq_false H3.out
   have hr2:=H3.out;go_enter func84,ntmps84;have k0:=HK.out.cell 0 rfl 0 (v:=.bool l) rfl;have k1:=HK.out.cell 0 rfl 1 (v:=.int .i64 ep) rfl;have k2:=HK.out.cell 0 rfl 2 (v:=.int .i64 rq) rfl;have k3:=HK.out.cell 0 rfl 3 (v:=.bool true) rfl;exact iU
  ·have hr:0≤rq:=of_decide_eq_true H3.out
   have hr2:=H3.out;go_enter func84,ntmps84;have k0:=HK.out.cell 0 rfl 0 (v:=.bool l) rfl;have k1:=HK.out.cell 0 rfl 1 (v:=.int .i64 ep) rfl;have k2:=HK.out.cell 0 rfl 2 (v:=.int .i64 rq) rfl;have k3:=HK.out.cell 0 rfl 3 (v:=.bool true) rfl;have k4:=HK.out.cell 0 rfl 4 (v:=.int .i64 p.e) rfl;have k5:=HK.out.cell 0 rfl 5 (v:=.int .i64 p.v.k) rfl;have k6:=HK.out.cell 0 rfl 6 (v:=.int .i64 p.v.n) rfl;have k7:=HK.out.cell 0 rfl 7 (v:=.int .u64 (p.v.f:Int)) rfl;have k8:=HK.out.cell 0 rfl 8 (v:=.string p.v.s) rfl;go_wp2_with fail;clear k0 k1 k2 k3 k4 k5 k6 k7 k8;refine cb (HC.out _) HK ?_;clear HK;intro _ HK;exact iU
 cases b5
 ·go_enter func84,ntmps84
  have k0:=HK.out.cell 0 rfl 0 (v:=.bool l) rfl;have k1:=HK.out.cell 0 rfl 1 (v:=.int .i64 ep) rfl;have k2:=HK.out.cell 0 rfl 2 (v:=.int .i64 rq) rfl;have k3:=HK.out.cell 0 rfl 3 (v:=.bool false) rfl;go_wp2_with (first|refine zX (aD (m:=ep) (n:=0) H1.out) ?_|refine zX (kg HK 0) ?_|refine zX (qj (p:=p) (q:=av.rz) H5.out) ?_|refine zX (fO) ?_);exact lQ
 cases b6
 ·go_enter func84,ntmps84
  have k0:=HK.out.cell 0 rfl 0 (v:=.bool l) rfl;have k1:=HK.out.cell 0 rfl 1 (v:=.int .i64 ep) rfl;have k2:=HK.out.cell 0 rfl 2 (v:=.int .i64 rq) rfl;have k3:=HK.out.cell 0 rfl 3 (v:=.bool false) rfl;go_wp2_with (first|refine zX (aD (m:=ep) (n:=0) H1.out) ?_|refine zX (kg HK 0) ?_|refine zX (qj (p:=p) (q:=av.rz) H5.out) ?_|refine zX (fO) ?_|refine zX (bI (m:=rq) (n:=1) H6.out) ?_);exact lQ
 cases l
 ·go_enter func84,ntmps84
  have k0:=HK.out.cell 0 rfl 0 (v:=.bool false) rfl;have k1:=HK.out.cell 0 rfl 1 (v:=.int .i64 ep) rfl;have k2:=HK.out.cell 0 rfl 2 (v:=.int .i64 rq) rfl;have k3:=HK.out.cell 0 rfl 3 (v:=.bool false) rfl;go_wp2_with (first|refine zX (aD (m:=ep) (n:=0) H1.out) ?_|refine zX (kg HK 0) ?_|refine zX (qj (p:=p) (q:=av.rz) H5.out) ?_|refine zX (fO) ?_|refine zX (bI (m:=rq) (n:=1) H6.out) ?_);exact lQ
 cases b2
 ·go_enter func84,ntmps84
  have k0:=HK.out.cell 0 rfl 0 (v:=.bool true) rfl;have k1:=HK.out.cell 0 rfl 1 (v:=.int .i64 ep) rfl;have k2:=HK.out.cell 0 rfl 2 (v:=.int .i64 rq) rfl;have k3:=HK.out.cell 0 rfl 3 (v:=.bool false) rfl;go_wp2_with (first|refine zX (aD (m:=ep) (n:=0) H1.out) ?_|refine zX (kg HK 0) ?_|refine zX (qj (p:=p) (q:=av.rz) H5.out) ?_|refine zX (fO) ?_|refine zX (bI (m:=rq) (n:=1) H6.out) ?_|refine zX (bT (m:=ep) (n:=0) H2.out) ?_);exact lQ
 cases b3
 ·go_enter func84,ntmps84
  have k0:=HK.out.cell 0 rfl 0 (v:=.bool true) rfl;have k1:=HK.out.cell 0 rfl 1 (v:=.int .i64 ep) rfl;have k2:=HK.out.cell 0 rfl 2 (v:=.int .i64 rq) rfl;have k3:=HK.out.cell 0 rfl 3 (v:=.bool false) rfl;go_wp2_with (first|refine zX (aD (m:=ep) (n:=0) H1.out) ?_|refine zX (kg HK 0) ?_|refine zX (qj (p:=p) (q:=av.rz) H5.out) ?_|refine zX (fO) ?_|refine zX (bI (m:=rq) (n:=1) H6.out) ?_|refine zX (bT (m:=ep) (n:=0) H2.out) ?_|refine zX (mh (m:=rq) (n:=0) H3.out) ?_);exact lQ
 ·go_enter func84,ntmps84
  have k0:=HK.out.cell 0 rfl 0 (v:=.bool true) rfl;have k1:=HK.out.cell 0 rfl 1 (v:=.int .i64 ep) rfl;have k2:=HK.out.cell 0 rfl 2 (v:=.int .i64 rq) rfl;have k3:=HK.out.cell 0 rfl 3 (v:=.bool false) rfl;go_wp2_with (first|refine zX (aD (m:=ep) (n:=0) H1.out) ?_|refine zX (kg HK 0) ?_|refine zX (qj (p:=p) (q:=av.rz) H5.out) ?_|refine zX (fO) ?_|refine zX (bI (m:=rq) (n:=1) H6.out) ?_|refine zX (bT (m:=ep) (n:=0) H2.out) ?_|refine zX (mh (m:=rq) (n:=0) H3.out) ?_);clear k0 k1 k2 k3;refine cb (HC.out _) HK ?_;clear HK;intro _ HK;exact iU
theorem CS(t:aH.T)(q:Int)(w:World):Calls prog 85 #[.agg (dR t),.int .i64 q] w (gG (aH.live t q) w):=by
 rw[← aH.afW];have HK:=iK w 31 (dR t);unfold gG;go_enter func85,ntmps85;go_wp2_with fail;go_loopw [5,6] (fun v5 v6 wr=>∃k:Nat,k≤5∧v5=.int .i64 (aH.cnt t q k)∧v6=.int .i64 k∧Hid (Kn w.heap.size w wr [(w.heap.size,31,dR t)] [])) (fun _ v6 _=>5-(intOf v6).toNat)
 case atStart=>exact⟨0,Nat.zero_le _,rfl,rfl,HK⟩
 case round=>
  clear HK;obtain⟨k,hk,rfl,rfl,HK⟩:=hrel;have hk1:(0:Int)≤(k:Int):=by omega
  by_cases hlt:k<5
  ·have hk2:(k:Int)<(5:Int):=by omega
   have hk3:k<9223372036854775807:=by omega
   have hc:0≤(k:Int)∧(k:Int)<5:=⟨hk1,hk2⟩;have hcn:=aH.Lg t q k;have hW:IntKind.i64.wrap (aH.cnt t q k+1)=aH.cnt t q k+1:=by rw[IntKind.wrap_i64];omega
   have HW:=zH hW;have HS:Hid (aH.cnt t q (k+1)=aH.cnt t q k+aH.Cj ((t.get (k:Int)).live&&!decide ((k:Int)=q))):=zH rfl;clear hW hcn;generalize aH.cnt t q k=z at *
   have HL:Hid (∀{o:Oper} {a:Act} (x:Operand),o.op=.load 4 x→a.eval x=.pointer (some ⟨w.heap.size,(k:Int).toNat*9,none⟩)→(execOp a.eval o).run prog wr=.ok (.value (.bool (t.get (k:Int)).live)) wr):=zH (fun x ho hx=>AV HK 0 hc (x:=x) (ho:=ho) (hx:=hx));generalize hl:(t.get (k:Int)).live=l at *
   clear hl;generalize hq:decide ((k:Int)=q)=b at *
   have HQ:Hid ((!decide ((k:Int)=q))=!b):=zH (by rw[hq]);clear hq;cases l
   ·go_wp2_with (first|refine zX (dO hc) ?_|refine zX (HL.out _ (by rfl) (by rfl)) ?_|refine zX (aL (j:=k) hk3) ?_)
    exact Rq
   cases b
   ·go_wp2_with (first|refine zX (dO hc) ?_|refine zX (HL.out _ (by rfl) (by rfl)) ?_|refine zX (bH (m:=(k:Int)) (n:=q) HQ.out) ?_|refine zX (dZ (m:=z) HW.out) ?_|refine zX (aL (j:=k) hk3) ?_)
    exact Rq
   ·go_wp2_with (first|refine zX (dO hc) ?_|refine zX (HL.out _ (by rfl) (by rfl)) ?_|refine zX (bH (m:=(k:Int)) (n:=q) HQ.out) ?_|refine zX (dZ (m:=z) HW.out) ?_|refine zX (aL (j:=k) hk3) ?_)
    exact Rq
  ·obtain rfl:k=5:=by omega
   exact iU
end
end Go.Proofs.YtieoeendnccafaaGreat
