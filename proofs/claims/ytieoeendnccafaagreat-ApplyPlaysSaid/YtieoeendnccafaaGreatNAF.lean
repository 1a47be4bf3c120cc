/- A table compared with itself. No condition but those named. -/
import Derived.Test.YtieoeendnccafaaGreatNAE
set_option linter.unusedSimpArgs false
set_option linter.unusedVariables false
set_option maxRecDepth 100000
set_option maxHeartbeats 25600000
open Go.RowKit
namespace Go.Proofs.YtieoeendnccafaaGreat
open _root_.Go.Proofs.Tryz
section
open Go.ChangeShapes Go.WideShapes Go.Deep Go.RowKit
def gq(s:aH.S):Array Value:=#[.bool s.live,.int .i64 s.ep,.int .i64 s.rq,.bool s.dn,.int .i64 s.p.e,.int .i64 s.p.v.k,.int .i64 s.p.v.n,.int .u64 (s.p.v.f:Int),.string s.p.v.s]
def dR(t:aH.T):Array Value:=#[.bool t.s0.live,.int .i64 t.s0.ep,.int .i64 t.s0.rq,.bool t.s0.dn,.int .i64 t.s0.p.e,.int .i64 t.s0.p.v.k,.int .i64 t.s0.p.v.n,.int .u64 (t.s0.p.v.f:Int),.string t.s0.p.v.s,.bool t.s1.live,.int .i64 t.s1.ep,.int .i64 t.s1.rq,.bool t.s1.dn,.int .i64 t.s1.p.e,.int .i64 t.s1.p.v.k,.int .i64 t.s1.p.v.n,.int .u64 (t.s1.p.v.f:Int),.string t.s1.p.v.s,.bool t.s2.live,.int .i64 t.s2.ep,.int .i64 t.s2.rq,.bool t.s2.dn,.int .i64 t.s2.p.e,.int .i64 t.s2.p.v.k,.int .i64 t.s2.p.v.n,.int .u64 (t.s2.p.v.f:Int),.string t.s2.p.v.s,.bool t.s3.live,.int .i64 t.s3.ep,.int .i64 t.s3.rq,.bool t.s3.dn,.int .i64 t.s3.p.e,.int .i64 t.s3.p.v.k,.int .i64 t.s3.p.v.n,.int .u64 (t.s3.p.v.f:Int),.string t.s3.p.v.s,.bool t.s4.live,.int .i64 t.s4.ep,.int .i64 t.s4.rq,.bool t.s4.dn,.int .i64 t.s4.p.e,.int .i64 t.s4.p.v.k,.int .i64 t.s4.p.v.n,.int .u64 (t.s4.p.v.f:Int),.string t.s4.p.v.s]
def tz:aH.T:=⟨aH.z,aH.z,aH.z,aH.z,aH.z⟩
theorem Un:(prog.info? 30).map (fun i=>(i.zero,i.size,i.bytes))=some (some (Value.agg (gq aH.z)),9,80):=by kernel_rfl
theorem uj:(prog.info? 30).map (·.size)=some 9:=by kernel_rfl
theorem Um:(prog.info? 31).map (fun i=>(i.zero,i.size,i.bytes))=some (some (Value.agg (dR tz)),45,400):=by kernel_rfl
theorem uh:(prog.info? 31).map (·.size)=some 45:=by kernel_rfl
theorem LV{c:Int}(h:0≤c∧c<5)(t:aH.T)(j:Nat)(hj:j<9):(dR t)[c.toNat*9+j]?=(gq (t.get c))[j]?:=by
 rcases aH.gN h with rfl|rfl|rfl|rfl|rfl
 ·match j,hj with
  | 0,_|1,_|2,_|3,_|4,_|5,_|6,_|7,_|8,_=>rfl
 ·match j,hj with
  | 0,_|1,_|2,_|3,_|4,_|5,_|6,_|7,_|8,_=>rfl
 ·match j,hj with
  | 0,_|1,_|2,_|3,_|4,_|5,_|6,_|7,_|8,_=>rfl
 ·match j,hj with
  | 0,_|1,_|2,_|3,_|4,_|5,_|6,_|7,_|8,_=>rfl
 ·match j,hj with
  | 0,_|1,_|2,_|3,_|4,_|5,_|6,_|7,_|8,_=>rfl
theorem abC{c:Int}(h:0≤c∧c<5)(t:aH.T)(s:aH.S):putCells (dR t) (c.toNat*9) (gq s).toList=dR (t.set c s):=by
 rcases aH.gN h with rfl|rfl|rfl|rfl|rfl<;>kernel_rfl
theorem Xq{c:Int}(h:0≤c∧c<5)(t:aH.T)(b:Bool):(dR t).setIfInBounds (c.toNat*9) (.bool b)=dR (t.set c { t.get c with live:=b }):=by
 rcases aH.gN h with rfl|rfl|rfl|rfl|rfl<;>kernel_rfl
theorem aeV{c:Int}(h:0≤c∧c<5)(t:aH.T)(n:Int):(dR t).setIfInBounds (c.toNat*9+2) (.int .i64 n)=dR (t.set c { t.get c with rq:=n }):=by
 rcases aH.gN h with rfl|rfl|rfl|rfl|rfl<;>kernel_rfl
theorem aeW{c:Int}(h:0≤c∧c<5)(t:aH.T)(b:Bool):(dR t).setIfInBounds (c.toNat*9+3) (.bool b)=dR (t.set c { t.get c with dn:=b }):=by
 rcases aH.gN h with rfl|rfl|rfl|rfl|rfl<;>kernel_rfl
theorem ahd{c:Int}(h:0≤c∧c<5)(t:aH.T)(p:av.Rp):putCells (dR t) (c.toNat*9+4) (cB p).toList=dR (t.set c { t.get c with p:=p }):=by
 rcases aH.gN h with rfl|rfl|rfl|rfl|rfl<;>kernel_rfl
theorem Gf{c:Int}(h:0≤c∧c<5)(t:aH.T)(j:Nat)(hj:j<9:=by decide):c.toNat*9+j<(dR t).size:=by
 show _<45
 omega
theorem Sm{P:Program}{e:TypeId}{z:Value}{k b:Nat}(hi:(P.info? e).map (fun i=>(i.zero,i.size,i.bytes))=some (some z,k,b))(w:World):(Instr.alloc e true (.tuple #[])).run P w=.ok (.pointer (some ⟨w.heap.size,0,none⟩)) (w.alloc (.cells z.cells e)):=by
 obtain⟨i0,hi,hz0,hz1,hz2⟩:=info_parts hi;simp[Instr.alloc,zeroValue,typeInfo,hi,hz0,newVar,newRow]
section
variable {b0:Nat}{w0 w:World}{L:List (Nat×TypeId×Array Value)}{R:List dA}{ops:Array Oper}{rest:List Oper}{o:Oper}{a:Act}{Q:Exit→Act→World→Prop}{K:Act→World→Prop}{E:Prop}{g:Nat}{s u:aH.S}{t t2:aH.T}{p q:av.Rp}{c:Int}
theorem pX{e:TypeId}{z:Value}{k b:Nat}(hi:(prog.info? e).map (fun i=>(i.zero,i.size,i.bytes))=some (some z,k,b))(HK:Hid (Kn b0 w0 w L R))(ho:o.op=.alloc e)
  (h:∀w' g,Hid (Kn b0 w0 w' (L++[(g,e,z.cells)]) R)→Hid (Below w.heap.size w w')→K (a.put o.dst (.pointer (some ⟨g,0,none⟩))) w'):o.wp prog a w K Q:=by
 have h4:=h _ w.heap.size (zH (HK.out.alloc e z.cells)) (zH ((Below.refl _ w).alloc (Nat.le_refl _) _));unfold Oper.wp execOp;simp only[ho,Sem.run_bind,Sem.run_pure,Sm hi,Result.andThen_ok];exact h4
theorem jC(HK:Hid (Kn b0 w0 w L R)){ty:TypeId}(x:Operand)(ho:o.op=.load ty x)(i:Nat){off:Nat}{e:TypeId}{cs:Array Value}(hL:L[i]?=some (g,e,cs))(hx:a.eval x=.pointer (some ⟨g,off,none⟩))
  (vs:Array Value) (hv:∀j,j<vs.size→cs[off+j]?=vs[j]?) {d:TypeDesc} (hu:prog.underlying ty=some d)  (hi:(prog.info? ty).map (·.size)=some vs.size) (hd:d.isRow=true:=by rfl) :
  (execOp a.eval o).run prog w=.ok (.value (.agg vs)) w:=by
 have hc:w.rangeAt g off vs.toList:=fun j v hj=>by
  exact ZN
 have h:=run_loadVar_mid (P:=prog) w g off ty vs.toList _ hc hu hd (by simpa using hi);exact Xf
theorem bE(HK:Hid (Kn b0 w0 w L R))
  (h:∀w' g,Hid (Kn b0 w0 w' (L++[(g,30,gq aH.z)]) R)→wpList prog ops Q rest (a.put o.dst (.pointer (some ⟨g,0,none⟩))) w') (hgd:o.guard=none:=by rfl)(ho:o.op=.alloc 30:=by rfl):wpList prog ops Q (o::rest) a w:=
 wpList_plain hgd fun _ hK=>pX Un HK ho fun w' g h1 _=>hK _ _ (h w' g h1)
theorem bP(HK:Hid (Kn b0 w0 w L R))
  (h:∀w' g,Hid (Kn b0 w0 w' (L++[(g,31,dR tz)]) R)→wpList prog ops Q rest (a.put o.dst (.pointer (some ⟨g,0,none⟩))) w') (hgd:o.guard=none:=by rfl)(ho:o.op=.alloc 31:=by rfl):wpList prog ops Q (o::rest) a w:=
 wpList_plain hgd fun _ hK=>pX Um HK ho fun w' g h1 _=>hK _ _ (h w' g h1)
theorem Yh(HK:Hid (Kn b0 w0 w L R))(i:Nat)(x y:Operand)(ho:o.op=.store 30 x y)(hL:L[i]?=some (g,30,gq s))(hx:a.eval x=.pointer (some ⟨g,0,none⟩))(hy:a.eval y=.agg (gq u))
  (h:∀w',Hid (Kn b0 w0 w' (L.set i (g,30,gq u)) R)→K (a.put o.dst undef) w'):o.wp prog a w K Q:=
 kM HK x y ho i hL hx hy (by show 9≤9;decide) uj (by simp[gq,Value.oneCell']) fun w' h1 _=>h w' (by
  have e:putCells (gq s) 0 (gq u).toList=gq u:=by rw[dJ (vs:=(gq u).toList) (cs:=gq s),Array.toArray_toList]
  rw[e] at h1
  exact h1)
theorem bD(HK:Hid (Kn b0 w0 w L R))(i:Nat){x:Operand}{y:Operand}
  (h:∀w',Hid (Kn b0 w0 w' (L.set i (g,30,gq u)) R)→wpList prog ops Q rest (a.put o.dst undef) w') (hgd:o.guard=none:=by rfl)(ho:o.op=.store 30 x y:=by rfl)(hL:L[i]?=some (g,30,gq s):=by rfl)(hx:a.eval x=.pointer (some ⟨g,0,none⟩):=by rfl)(hy:a.eval y=.agg (gq u):=by rfl):wpList prog ops Q (o::rest) a w:=
 wpList_plain hgd fun _ hK=>Yh HK i x y ho hL hx hy fun w' h1=>hK _ _ (h w' h1)
theorem MF(HK:Hid (Kn b0 w0 w L R))(i:Nat)(x y:Operand)(ho:o.op=.store 31 x y)(hL:L[i]?=some (g,31,dR t))(hx:a.eval x=.pointer (some ⟨g,0,none⟩))(hy:a.eval y=.agg (dR t2))
  (h:∀w',Hid (Kn b0 w0 w' (L.set i (g,31,dR t2)) R)→K (a.put o.dst undef) w'):o.wp prog a w K Q:=
 kM HK x y ho i hL hx hy (by show 45≤45;decide) uh (by simp[dR,Value.oneCell']) fun w' h1 _=>h w' (by
  have e:putCells (dR t) 0 (dR t2).toList=dR t2:=by rw[dJ (vs:=(dR t2).toList) (cs:=dR t),Array.toArray_toList]
  rw[e] at h1
  exact h1)
theorem bC(HK:Hid (Kn b0 w0 w L R))(i:Nat){x:Operand}{y:Operand}
  (h:∀w',Hid (Kn b0 w0 w' (L.set i (g,31,dR t2)) R)→wpList prog ops Q rest (a.put o.dst undef) w') (hgd:o.guard=none:=by rfl)(ho:o.op=.store 31 x y:=by rfl)(hL:L[i]?=some (g,31,dR t):=by rfl)(hx:a.eval x=.pointer (some ⟨g,0,none⟩):=by rfl)(hy:a.eval y=.agg (dR t2):=by rfl):wpList prog ops Q (o::rest) a w:=
 wpList_plain hgd fun _ hK=>MF HK i x y ho hL hx hy fun w' h1=>hK _ _ (h w' h1)
theorem vW(HK:Hid (Kn b0 w0 w L R))(i:Nat){x:Operand}{y:Operand}
  (h:∀w',Hid (Kn b0 w0 w' (L.set i (g,31,dR t2)) R)→K (a.put o.dst undef) w') (hgd:o.guard=none:=by rfl)(ho:o.op=.store 31 x y:=by rfl)(hL:L[i]?=some (g,31,dR t):=by rfl)(hx:a.eval x=.pointer (some ⟨g,0,none⟩):=by rfl)(hy:a.eval y=.agg (dR t2):=by rfl):if Region.wanted o (yielded ops a.tmps)=true then Oper.wp prog o a w K Q else E:=by
 rw[if_pos (by simp[Region.wanted,hgd])];exact MF HK i x y ho hL hx hy h
theorem ME(HK:Hid (Kn b0 w0 w L R))(i:Nat)(hc:0≤c∧c<5)(x y:Operand)(ho:o.op=.store 30 x y)(hL:L[i]?=some (g,31,dR t))(hx:a.eval x=.pointer (some ⟨g,c.toNat*9,none⟩))(hy:a.eval y=.agg (gq s))
  (h:∀w',Hid (Kn b0 w0 w' (L.set i (g,31,dR (t.set c s))) R)→K (a.put o.dst undef) w'):o.wp prog a w K Q:=
 kM HK x y ho i hL hx hy (by have:=Gf hc t 8;show _+9≤_;omega) uj (by simp[gq,Value.oneCell']) fun w' h1 _=>h w' (by
  rw[abC hc] at h1
  exact h1)
theorem iO(HK:Hid (Kn b0 w0 w L R))(i:Nat)(hc:0≤c∧c<5){x:Operand}{y:Operand}
  (h:∀w',Hid (Kn b0 w0 w' (L.set i (g,31,dR (t.set c s))) R)→wpList prog ops Q rest (a.put o.dst undef) w') (hgd:o.guard=none:=by rfl)(ho:o.op=.store 30 x y:=by rfl)(hL:L[i]?=some (g,31,dR t):=by rfl)(hx:a.eval x=.pointer (some ⟨g,c.toNat*9,none⟩):=by rfl)(hy:a.eval y=.agg (gq s):=by rfl):wpList prog ops Q (o::rest) a w:=
 wpList_plain hgd fun _ hK=>ME HK i hc x y ho hL hx hy fun w' h1=>hK _ _ (h w' h1)
theorem RY(HK:Hid (Kn b0 w0 w L R))(i:Nat)(hgd:o.guard=none)(hc:0≤c∧c<5){x:Operand}{y:Operand}(ho:o.op=.store 30 x y)(hL:L[i]?=some (g,31,dR t))(hx:a.eval x=.pointer (some ⟨g,c.toNat*9,none⟩))(hy:a.eval y=.agg (gq s))
  (h:∀w',Hid (Kn b0 w0 w' (L.set i (g,31,dR (t.set c s))) R)→K (a.put o.dst undef) w'):if Region.wanted o (yielded ops a.tmps)=true then Oper.wp prog o a w K Q else E:=by
 rw[if_pos (by simp[Region.wanted,hgd])];exact ME HK i hc x y ho hL hx hy h
theorem Ya(HK:Hid (Kn b0 w0 w L R))(i:Nat)(hc:0≤c∧c<5)(x y:Operand)(ho:o.op=.store 28 x y)(hL:L[i]?=some (g,31,dR t))(hx:a.eval x=.pointer (some ⟨g,c.toNat*9+4,none⟩))(hy:a.eval y=.agg (cB p))
  (h:∀w',Hid (Kn b0 w0 w' (L.set i (g,31,dR (t.set c { t.get c with p:=p }))) R)→K (a.put o.dst undef) w'):o.wp prog a w K Q:=
 kM HK x y ho i hL hx hy (by have:=Gf hc t 8;show _+5≤_;omega) jm (by simp[cB,Value.oneCell']) fun w' h1 _=>h w' (by
  rw[ahd hc] at h1
  exact h1)
theorem zV(HK:Hid (Kn b0 w0 w L R))(i:Nat)(hgd:o.guard=none)(hc:0≤c∧c<5){x:Operand}{y:Operand}(ho:o.op=.store 28 x y)(hL:L[i]?=some (g,31,dR t))(hx:a.eval x=.pointer (some ⟨g,c.toNat*9+4,none⟩))(hy:a.eval y=.agg (cB p))
  (h:∀w',Hid (Kn b0 w0 w' (L.set i (g,31,dR (t.set c { t.get c with p:=p }))) R)→wpList prog ops Q rest (a.put o.dst undef) w'):wpList prog ops Q (o::rest) a w:=
 wpList_plain hgd fun _ hK=>Ya HK i hc x y ho hL hx hy fun w' h1=>hK _ _ (h w' h1)
theorem Yb{d:Bool}(HK:Hid (Kn b0 w0 w L R))(i:Nat)(hc:0≤c∧c<5)(x y:Operand)(ho:o.op=.store 4 x y)(hL:L[i]?=some (g,31,dR t))(hx:a.eval x=.pointer (some ⟨g,c.toNat*9,none⟩))(hy:a.eval y=.bool d)
  (h:∀w',Hid (Kn b0 w0 w' (L.set i (g,31,dR (t.set c { t.get c with live:=d }))) R)→K (a.put o.dst undef) w'):o.wp prog a w K Q:=
 nP HK x y ho i hL hx hy (by have:=Gf hc t 0;omega) fun w' h1 _=>h w' (by rw[Xq hc] at h1;exact h1)
theorem zW{d:Bool}(HK:Hid (Kn b0 w0 w L R))(i:Nat)(hgd:o.guard=none)(hc:0≤c∧c<5){x:Operand}{y:Operand}(ho:o.op=.store 4 x y)(hL:L[i]?=some (g,31,dR t))(hx:a.eval x=.pointer (some ⟨g,c.toNat*9,none⟩))(hy:a.eval y=.bool d)
  (h:∀w',Hid (Kn b0 w0 w' (L.set i (g,31,dR (t.set c { t.get c with live:=d }))) R)→wpList prog ops Q rest (a.put o.dst undef) w'):wpList prog ops Q (o::rest) a w:=
 wpList_plain hgd fun _ hK=>Yb HK i hc x y ho hL hx hy fun w' h1=>hK _ _ (h w' h1)
theorem XZ{n:Int}(HK:Hid (Kn b0 w0 w L R))(i:Nat)(hc:0≤c∧c<5)(x y:Operand)(ho:o.op=.store 3 x y)(hL:L[i]?=some (g,31,dR t))(hx:a.eval x=.pointer (some ⟨g,c.toNat*9+2,none⟩))(hy:a.eval y=.int .i64 n)
  (h:∀w',Hid (Kn b0 w0 w' (L.set i (g,31,dR (t.set c { t.get c with rq:=n }))) R)→K (a.put o.dst undef) w'):o.wp prog a w K Q:=
 nP HK x y ho i hL hx hy (by have:=Gf hc t 2;omega) fun w' h1 _=>h w' (by rw[aeV hc] at h1;exact h1)
theorem Jz{n:Int}(HK:Hid (Kn b0 w0 w L R))(i:Nat)(hgd:o.guard=none)(hc:0≤c∧c<5){x:Operand}{y:Operand}(ho:o.op=.store 3 x y)(hL:L[i]?=some (g,31,dR t))(hx:a.eval x=.pointer (some ⟨g,c.toNat*9+2,none⟩))(hy:a.eval y=.int .i64 n)
  (h:∀w',Hid (Kn b0 w0 w' (L.set i (g,31,dR (t.set c { t.get c with rq:=n }))) R)→wpList prog ops Q rest (a.put o.dst undef) w'):wpList prog ops Q (o::rest) a w:=
 wpList_plain hgd fun _ hK=>XZ HK i hc x y ho hL hx hy fun w' h1=>hK _ _ (h w' h1)
theorem Yc{d:Bool}(HK:Hid (Kn b0 w0 w L R))(i:Nat)(hc:0≤c∧c<5)(x y:Operand)(ho:o.op=.store 4 x y)(hL:L[i]?=some (g,31,dR t))(hx:a.eval x=.pointer (some ⟨g,c.toNat*9+3,none⟩))(hy:a.eval y=.bool d)
  (h:∀w',Hid (Kn b0 w0 w' (L.set i (g,31,dR (t.set c { t.get c with dn:=d }))) R)→K (a.put o.dst undef) w'):o.wp prog a w K Q:=
 nP HK x y ho i hL hx hy (by have:=Gf hc t 3;omega) fun w' h1 _=>h w' (by rw[aeW hc] at h1;exact h1)
theorem zY{d:Bool}(HK:Hid (Kn b0 w0 w L R))(i:Nat)(hgd:o.guard=none)(hc:0≤c∧c<5){x:Operand}{y:Operand}(ho:o.op=.store 4 x y)(hL:L[i]?=some (g,31,dR t))(hx:a.eval x=.pointer (some ⟨g,c.toNat*9+3,none⟩))(hy:a.eval y=.bool d)
  (h:∀w',Hid (Kn b0 w0 w' (L.set i (g,31,dR (t.set c { t.get c with dn:=d }))) R)→wpList prog ops Q rest (a.put o.dst undef) w'):wpList prog ops Q (o::rest) a w:=
 wpList_plain hgd fun _ hK=>Yc HK i hc x y ho hL hx hy fun w' h1=>hK _ _ (h w' h1)
theorem Yg{d:Bool}(HK:Hid (Kn b0 w0 w L R))(i:Nat)(x y:Operand)(ho:o.op=.store 4 x y)(hL:L[i]?=some (g,30,gq s))(hx:a.eval x=.pointer (some ⟨g,0,none⟩))(hy:a.eval y=.bool d)
  (h:∀w',Hid (Kn b0 w0 w' (L.set i (g,30,gq { s with live:=d })) R)→K (a.put o.dst undef) w'):o.wp prog a w K Q:=
 nP HK x y ho i hL hx hy (by show 0<9;decide) fun w' h1 _=>h w' h1
theorem qF{d:Bool}(HK:Hid (Kn b0 w0 w L R))(i:Nat){x:Operand}{y:Operand}
  (h:∀w',Hid (Kn b0 w0 w' (L.set i (g,30,gq { s with live:=d })) R)→wpList prog ops Q rest (a.put o.dst undef) w') (hgd:o.guard=none:=by rfl)(ho:o.op=.store 4 x y:=by rfl)(hL:L[i]?=some (g,30,gq s):=by rfl)(hx:a.eval x=.pointer (some ⟨g,0,none⟩):=by rfl)(hy:a.eval y=.bool d:=by rfl):wpList prog ops Q (o::rest) a w:=
 wpList_plain hgd fun _ hK=>Yg HK i x y ho hL hx hy fun w' h1=>hK _ _ (h w' h1)
theorem Ye{n:Int}(HK:Hid (Kn b0 w0 w L R))(i:Nat)(x y:Operand)(ho:o.op=.store 3 x y)(hL:L[i]?=some (g,30,gq s))(hx:a.eval x=.pointer (some ⟨g,2,none⟩))(hy:a.eval y=.int .i64 n)
  (h:∀w',Hid (Kn b0 w0 w' (L.set i (g,30,gq { s with rq:=n })) R)→K (a.put o.dst undef) w'):o.wp prog a w K Q:=
 nP HK x y ho i hL hx hy (by show 2<9;decide) fun w' h1 _=>h w' h1
theorem JA{n:Int}(HK:Hid (Kn b0 w0 w L R))(i:Nat)(hgd:o.guard=none){x:Operand}{y:Operand}(ho:o.op=.store 3 x y)(hL:L[i]?=some (g,30,gq s))(hx:a.eval x=.pointer (some ⟨g,2,none⟩))(hy:a.eval y=.int .i64 n)
  (h:∀w',Hid (Kn b0 w0 w' (L.set i (g,30,gq { s with rq:=n })) R)→wpList prog ops Q rest (a.put o.dst undef) w'):wpList prog ops Q (o::rest) a w:=
 wpList_plain hgd fun _ hK=>Ye HK i x y ho hL hx hy fun w' h1=>hK _ _ (h w' h1)
theorem Yi{d:Bool}(HK:Hid (Kn b0 w0 w L R))(i:Nat)(x y:Operand)(ho:o.op=.store 4 x y)(hL:L[i]?=some (g,30,gq s))(hx:a.eval x=.pointer (some ⟨g,3,none⟩))(hy:a.eval y=.bool d)
  (h:∀w',Hid (Kn b0 w0 w' (L.set i (g,30,gq { s with dn:=d })) R)→K (a.put o.dst undef) w'):o.wp prog a w K Q:=
 nP HK x y ho i hL hx hy (by show 3<9;decide) fun w' h1 _=>h w' h1
theorem uV{d:Bool}(HK:Hid (Kn b0 w0 w L R))(i:Nat){x:Operand}{y:Operand}
  (h:∀w',Hid (Kn b0 w0 w' (L.set i (g,30,gq { s with dn:=d })) R)→wpList prog ops Q rest (a.put o.dst undef) w') (hgd:o.guard=none:=by rfl)(ho:o.op=.store 4 x y:=by rfl)(hL:L[i]?=some (g,30,gq s):=by rfl)(hx:a.eval x=.pointer (some ⟨g,3,none⟩):=by rfl)(hy:a.eval y=.bool d:=by rfl):wpList prog ops Q (o::rest) a w:=
 wpList_plain hgd fun _ hK=>Yi HK i x y ho hL hx hy fun w' h1=>hK _ _ (h w' h1)
theorem Yd{n:Int}(HK:Hid (Kn b0 w0 w L R))(i:Nat)(x y:Operand)(ho:o.op=.store 23 x y)(hL:L[i]?=some (g,30,gq s))(hx:a.eval x=.pointer (some ⟨g,4,none⟩))(hy:a.eval y=.int .i64 n)
  (h:∀w',Hid (Kn b0 w0 w' (L.set i (g,30,gq { s with p:=⟨n,s.p.v⟩ })) R)→K (a.put o.dst undef) w'):o.wp prog a w K Q:=
 nP HK x y ho i hL hx hy (by show 4<9;decide) fun w' h1 _=>h w' h1
theorem zZ{n:Int}(HK:Hid (Kn b0 w0 w L R))(i:Nat)(hgd:o.guard=none){x:Operand}{y:Operand}(ho:o.op=.store 23 x y)(hL:L[i]?=some (g,30,gq s))(hx:a.eval x=.pointer (some ⟨g,4,none⟩))(hy:a.eval y=.int .i64 n)
  (h:∀w',Hid (Kn b0 w0 w' (L.set i (g,30,gq { s with p:=⟨n,s.p.v⟩ })) R)→wpList prog ops Q rest (a.put o.dst undef) w'):wpList prog ops Q (o::rest) a w:=
 wpList_plain hgd fun _ hK=>Yd HK i x y ho hL hx hy fun w' h1=>hK _ _ (h w' h1)
theorem Yf(HK:Hid (Kn b0 w0 w L R))(i:Nat)(x y:Operand)(ho:o.op=.store 28 x y)(hL:L[i]?=some (g,30,gq s))(hx:a.eval x=.pointer (some ⟨g,4,none⟩))(hy:a.eval y=.agg (cB p))
  (h:∀w',Hid (Kn b0 w0 w' (L.set i (g,30,gq { s with p:=p })) R)→K (a.put o.dst undef) w'):o.wp prog a w K Q:=
 kM HK x y ho i hL hx hy (by show 4+5≤9;decide) jm (by simp[cB,Value.oneCell']) fun w' h1 _=>h w' h1
theorem uU(HK:Hid (Kn b0 w0 w L R))(i:Nat){x:Operand}{y:Operand}
  (h:∀w',Hid (Kn b0 w0 w' (L.set i (g,30,gq { s with p:=p })) R)→wpList prog ops Q rest (a.put o.dst undef) w') (hgd:o.guard=none:=by rfl)(ho:o.op=.store 28 x y:=by rfl)(hL:L[i]?=some (g,30,gq s):=by rfl)(hx:a.eval x=.pointer (some ⟨g,4,none⟩):=by rfl)(hy:a.eval y=.agg (cB p):=by rfl):wpList prog ops Q (o::rest) a w:=
 wpList_plain hgd fun _ hK=>Yf HK i x y ho hL hx hy fun w' h1=>hK _ _ (h w' h1)
theorem ER(HK:Hid (Kn b0 w0 w L R))(i:Nat){x:Operand}(ho:o.op=.load 30 x:=by rfl)(hL:L[i]?=some (g,30,gq s):=by rfl)(hx:a.eval x=.pointer (some ⟨g,0,none⟩):=by rfl):
  (execOp a.eval o).run prog w=.ok (.value (.agg (gq s))) w:=
 jC HK x ho i hL hx (gq s) (fun j _=>by rw[Nat.zero_add]) underlying30 uj
theorem jV(HK:Hid (Kn b0 w0 w L R))(i:Nat){x:Operand}(ho:o.op=.load 31 x:=by rfl)(hL:L[i]?=some (g,31,dR t):=by rfl)(hx:a.eval x=.pointer (some ⟨g,0,none⟩):=by rfl):
  (execOp a.eval o).run prog w=.ok (.value (.agg (dR t))) w:=
 jC HK x ho i hL hx (dR t) (fun j _=>by rw[Nat.zero_add]) underlying31 uh
theorem Yj(HK:Hid (Kn b0 w0 w L R))(i:Nat)(hc:0≤c∧c<5){x:Operand}(ho:o.op=.load 30 x:=by rfl)(hL:L[i]?=some (g,31,dR t):=by rfl)(hx:a.eval x=.pointer (some ⟨g,c.toNat*9,none⟩):=by rfl):
  (execOp a.eval o).run prog w=.ok (.value (.agg (gq (t.get c)))) w:=
 jC HK x ho i hL hx (gq (t.get c)) (fun j hj=>LV hc t j hj) underlying30 uj
theorem nQ(HK:Hid (Kn b0 w0 w L R))(i:Nat){x:Operand}(ho:o.op=.load 4 x:=by rfl)(hL:L[i]?=some (g,30,gq s):=by rfl)(hx:a.eval x=.pointer (some ⟨g,0,none⟩):=by rfl):
  (execOp a.eval o).run prog w=.ok (.value (.bool s.live)) w:=
 aV HK _ x ho i hL hx underlying4
theorem oM(HK:Hid (Kn b0 w0 w L R))(i:Nat){x:Operand}(ho:o.op=.load 3 x:=by rfl)(hL:L[i]?=some (g,30,gq s):=by rfl)(hx:a.eval x=.pointer (some ⟨g,1,none⟩):=by rfl):
  (execOp a.eval o).run prog w=.ok (.value (.int .i64 s.ep)) w:=
 aV HK _ x ho i hL hx underlying3
theorem pY(HK:Hid (Kn b0 w0 w L R))(i:Nat){x:Operand}(ho:o.op=.load 3 x:=by rfl)(hL:L[i]?=some (g,30,gq s):=by rfl)(hx:a.eval x=.pointer (some ⟨g,2,none⟩):=by rfl):
  (execOp a.eval o).run prog w=.ok (.value (.int .i64 s.rq)) w:=
 aV HK _ x ho i hL hx underlying3
theorem jO(HK:Hid (Kn b0 w0 w L R))(i:Nat){x:Operand}(ho:o.op=.load 4 x:=by rfl)(hL:L[i]?=some (g,30,gq s):=by rfl)(hx:a.eval x=.pointer (some ⟨g,3,none⟩):=by rfl):
  (execOp a.eval o).run prog w=.ok (.value (.bool s.dn)) w:=
 aV HK _ x ho i hL hx underlying4
theorem kg(HK:Hid (Kn b0 w0 w L R))(i:Nat){x:Operand}(ho:o.op=.load 28 x:=by rfl)(hL:L[i]?=some (g,30,gq s):=by rfl)(hx:a.eval x=.pointer (some ⟨g,4,none⟩):=by rfl):
  (execOp a.eval o).run prog w=.ok (.value (.agg (cB s.p))) w:=
 jC HK x ho i hL hx (cB s.p) (fun j hj=>by
  have hj:j<5:=hj
  match j,hj with
  | 0,_|1,_|2,_|3,_|4,_=>rfl) underlying28 jm
theorem AV(HK:Hid (Kn b0 w0 w L R))(i:Nat)(hc:0≤c∧c<5){x:Operand}(ho:o.op=.load 4 x:=by rfl)(hL:L[i]?=some (g,31,dR t):=by rfl)(hx:a.eval x=.pointer (some ⟨g,c.toNat*9,none⟩):=by rfl):
  (execOp a.eval o).run prog w=.ok (.value (.bool (t.get c).live)) w:=
 aV HK _ x ho i hL hx (hv:=(LV hc t 0 (by decide))) underlying4
theorem aax(HK:Hid (Kn b0 w0 w L R))(i:Nat)(hc:0≤c∧c<5){x:Operand}(ho:o.op=.load 4 x:=by rfl)(hL:L[i]?=some (g,31,dR t):=by rfl)(hx:a.eval x=.pointer (some ⟨g,c.toNat*9+3,none⟩):=by rfl):
  (execOp a.eval o).run prog w=.ok (.value (.bool (t.get c).dn)) w:=
 aV HK _ x ho i hL hx (hv:=(LV hc t 3 (by decide))) underlying4
theorem iY{x:Rf}(HK:Hid (Kn b0 w0 w L R))(i:Nat){y:Operand}(ho:o.op=.load 3 y:=by rfl)(hL:L[i]?=some (g,35,#[.int .i64 x.c,.int .i64 x.e,.int .i64 x.r]):=by rfl)(hx:a.eval y=.pointer (some ⟨g,0,none⟩):=by rfl):
  (execOp a.eval o).run prog w=.ok (.value (.int .i64 x.c)) w:=aV HK _ y ho i hL hx underlying3
theorem aaA{x:Rf}(HK:Hid (Kn b0 w0 w L R))(i:Nat){y:Operand}(ho:o.op=.load 3 y:=by rfl)(hL:L[i]?=some (g,35,#[.int .i64 x.c,.int .i64 x.e,.int .i64 x.r]):=by rfl)(hx:a.eval y=.pointer (some ⟨g,1,none⟩):=by rfl):
  (execOp a.eval o).run prog w=.ok (.value (.int .i64 x.e)) w:=aV HK _ y ho i hL hx underlying3
theorem yN{x:Rf}(HK:Hid (Kn b0 w0 w L R))(i:Nat){y:Operand}(ho:o.op=.load 3 y:=by rfl)(hL:L[i]?=some (g,35,#[.int .i64 x.c,.int .i64 x.e,.int .i64 x.r]):=by rfl)(hx:a.eval y=.pointer (some ⟨g,2,none⟩):=by rfl):
  (execOp a.eval o).run prog w=.ok (.value (.int .i64 x.r)) w:=aV HK _ y ho i hL hx underlying3
theorem dO(hc:0≤c∧c<5){x:Operand}{y:Operand}(ho:o.op=.indexAddr 31 x y:=by rfl)(hx:a.eval x=.pointer (some ⟨g,0,none⟩):=by rfl)(hy:a.eval y=.int .i64 c:=by rfl):
  (execOp a.eval o).run prog w=.ok (.value (.pointer (some ⟨g,c.toNat*9,none⟩))) w:=by
 have h:(Instr.indexAt 31 (.pointer (some ⟨g,0,none⟩)) (.int .i64 c)).run prog w=.ok (.pointer (some ⟨g,c.toNat*9,none⟩)) w:=by
  rcases aH.gN hc with rfl|rfl|rfl|rfl|rfl<;>kernel_rfl
 exact Xa
theorem acL(t:aH.T)(w:World):(Instr.index 31 (.agg (dR t)) (.int .i64 0)).run prog w=.ok (.agg (gq t.s0)) w:=by kernel_rfl
theorem acK(t:aH.T)(w:World):(Instr.index 31 (.agg (dR t)) (.int .i64 1)).run prog w=.ok (.agg (gq t.s1)) w:=by kernel_rfl
theorem acJ(t:aH.T)(w:World):(Instr.index 31 (.agg (dR t)) (.int .i64 2)).run prog w=.ok (.agg (gq t.s2)) w:=by kernel_rfl
theorem acI(t:aH.T)(w:World):(Instr.index 31 (.agg (dR t)) (.int .i64 3)).run prog w=.ok (.agg (gq t.s3)) w:=by kernel_rfl
theorem acH(t:aH.T)(w:World):(Instr.index 31 (.agg (dR t)) (.int .i64 4)).run prog w=.ok (.agg (gq t.s4)) w:=by kernel_rfl
theorem mg(hc:0≤c∧c<5){x:Operand}{y:Operand}(ho:o.op=.index 31 x y:=by rfl)(hx:a.eval x=.agg (dR t):=by rfl)(hy:a.eval y=.int .i64 c:=by rfl):
  (execOp a.eval o).run prog w=.ok (.value (.agg (gq (t.get c)))) w:=by
 have h:(Instr.index 31 (.agg (dR t)) (.int .i64 c)).run prog w=.ok (.agg (gq (t.get c))) w:=by
  rcases aH.gN hc with rfl|rfl|rfl|rfl|rfl
  ·exact acL t w
  ·exact acK t w
  ·exact acJ t w
  ·exact acI t w
  ·exact acH t w
 exact Xa
theorem oO(ho:o.op=.build 30 #[]:=by rfl):
  (execOp a.eval o).run prog w=.ok (.value (.agg (gq aH.z))) w:=by
 have h:(Instr.build 30 #[]).run prog w=.ok (.agg (gq aH.z)) w:=by
  unfold gq aH.z av.rz;go_simp
 exact abf
theorem YA{e:Int}{x:Operand}(ho:o.op=.build 30 #[(1,x),(3,.const (.bool true))])(hx:a.eval x=.int .i64 e):
  (execOp a.eval o).run prog w=.ok (.value (.agg (gq ⟨false,e,0,true,av.rz⟩))) w:=by
 have h:(Instr.build 30 #[(1,.int .i64 e),(3,.bool true)]).run prog w=.ok (.agg (gq ⟨false,e,0,true,av.rz⟩)) w:=by
  unfold gq av.rz;go_simp
 exact aae
theorem Yz{e:Int}{x:Operand}(ho:o.op=.build 30 #[(0,.const (.bool true)),(1,x),(3,.const (.bool true))])(hx:a.eval x=.int .i64 e):
  (execOp a.eval o).run prog w=.ok (.value (.agg (gq ⟨true,e,0,true,av.rz⟩))) w:=by
 have h:(Instr.build 30 #[(0,.bool true),(1,.int .i64 e),(3,.bool true)]).run prog w=.ok (.agg (gq ⟨true,e,0,true,av.rz⟩)) w:=by
  unfold gq av.rz;go_simp
 exact aae
theorem fO(ho:o.op=.build 28 #[]:=by rfl):
  (execOp a.eval o).run prog w=.ok (.value (.agg (cB av.rz))) w:=by
 have h:(Instr.build 28 #[]).run prog w=.ok (.agg (cB av.rz)) w:=by
  unfold cB av.rz;go_simp
 exact abf
theorem mO{e:Int}(ho:o.op=.build 28 #[(0,.const (.int .i64 e))]:=by rfl):
  (execOp a.eval o).run prog w=.ok (.value (.agg (cB (av.err e)))) w:=by
 have h:(Instr.build 28 #[(0,.int .i64 e)]).run prog w=.ok (.agg (cB (av.err e))) w:=by
  unfold cB av.err;go_simp
 unfold execOp;simp only[ho,Sem.run_bind,Sem.run_pure,Result.andThen_ok,List.map_toArray,List.map_cons,List.map_nil,show a.eval (.const (.int .i64 e))=.int .i64 e from rfl,h]
theorem LY(s u:aH.S):decide (s=u)=(decide (s.live=u.live)&&decide (s.ep=u.ep)&&decide (s.rq=u.rq)&&decide (s.dn=u.dn)&&(decide (s.p.e=u.p.e)&&(decide (s.p.v.k=u.p.v.k)&&decide (s.p.v.n=u.p.v.n)&&decide ((s.p.v.f:Int)=(u.p.v.f:Int))&&decide (s.p.v.s.toList=u.p.v.s.toList)))):=by
 rw[← Ez s.p u.p];obtain⟨l,e,r,d,p⟩:=s;obtain⟨l',e',r',d',p'⟩:=u;dsimp only;rw[Bool.eq_iff_iff];simp only[decide_eq_true_eq,Bool.and_eq_true,aH.S.mk.injEq,and_assoc]
theorem Vb{b:Bool}{x:Operand}{y:Operand}(ho:o.op=.binOp .eql 30 x y 30)(hx:a.eval x=.agg (gq s))(hy:a.eval y=.agg (gq u))(hb:decide (s=u)=b):
  (execOp a.eval o).run prog w=.ok (.value (.bool b)) w:=by
 rw[LY] at hb;subst hb;unfold execOp;simp only[ho,hx,hy];unfold gq;go_simp;by_cases h0:s.live=u.live<;>by_cases h1:s.ep=u.ep<;>by_cases h2:s.rq=u.rq<;>by_cases h3:s.dn=u.dn<;>try simp[h0,h1,h2,h3]
 by_cases h4:s.p.e=u.p.e<;>by_cases h5:s.p.v.k=u.p.v.k<;>by_cases h6:s.p.v.n=u.p.v.n<;>by_cases h7:(s.p.v.f:Int)=(u.p.v.f:Int)<;>by_cases h8:s.p.v.s.toList=u.p.v.s.toList<;>simp[h4,h5,h6,h7,h8]
theorem qh{b:Bool}{x:Operand}{y:Operand}(hb:(!decide (s=u))=b)(ho:o.op=.binOp .neq 30 x y 30:=by rfl)(hx:a.eval x=.agg (gq s):=by rfl)(hy:a.eval y=.agg (gq u):=by rfl):
  (execOp a.eval o).run prog w=.ok (.value (.bool b)) w:=by
 rw[LY] at hb;subst hb;unfold execOp;simp only[ho,hx,hy];unfold gq;go_simp;by_cases h0:s.live=u.live<;>by_cases h1:s.ep=u.ep<;>by_cases h2:s.rq=u.rq<;>by_cases h3:s.dn=u.dn<;>try simp[h0,h1,h2,h3]
 by_cases h4:s.p.e=u.p.e<;>by_cases h5:s.p.v.k=u.p.v.k<;>by_cases h6:s.p.v.n=u.p.v.n<;>by_cases h7:(s.p.v.f:Int)=(u.p.v.f:Int)<;>by_cases h8:s.p.v.s.toList=u.p.v.s.toList<;>simp[h4,h5,h6,h7,h8]
theorem aD{m n:Int}{b:Bool}{x:Operand}{y:Operand}(hb:decide (m=n)=b)(ho:o.op=.binOp .eql 3 x y 3:=by rfl)(hx:a.eval x=.int .i64 m:=by rfl)(hy:a.eval y=.int .i64 n:=by rfl):
  (execOp a.eval o).run prog w=.ok (.value (.bool b)) w:=by
 exact Zq
theorem bH{m n:Int}{b:Bool}{x:Operand}{y:Operand}(hb:(!decide (m=n))=b)(ho:o.op=.binOp .neq 3 x y 3:=by rfl)(hx:a.eval x=.int .i64 m:=by rfl)(hy:a.eval y=.int .i64 n:=by rfl):
  (execOp a.eval o).run prog w=.ok (.value (.bool b)) w:=by
 exact Zq
theorem bI{m n:Int}{b:Bool}{x:Operand}{y:Operand}(hb:decide (m<n)=b)(ho:o.op=.binOp .lss 3 x y 3:=by rfl)(hx:a.eval x=.int .i64 m:=by rfl)(hy:a.eval y=.int .i64 n:=by rfl):
  (execOp a.eval o).run prog w=.ok (.value (.bool b)) w:=by
 subst hb;exact Ei
theorem bT{m n:Int}{b:Bool}{x:Operand}{y:Operand}(hb:decide (n<m)=b)(ho:o.op=.binOp .gtr 3 x y 3:=by rfl)(hx:a.eval x=.int .i64 m:=by rfl)(hy:a.eval y=.int .i64 n:=by rfl):
  (execOp a.eval o).run prog w=.ok (.value (.bool b)) w:=by
 subst hb;exact Ei
theorem jG{m n:Int}{b:Bool}{x:Operand}{y:Operand}(hb:decide (m≤n)=b)(ho:o.op=.binOp .leq 3 x y 3:=by rfl)(hx:a.eval x=.int .i64 m:=by rfl)(hy:a.eval y=.int .i64 n:=by rfl):
  (execOp a.eval o).run prog w=.ok (.value (.bool b)) w:=by
 subst hb;exact Ei
theorem mh{m n:Int}{b:Bool}{x:Operand}{y:Operand}(hb:decide (n≤m)=b)(ho:o.op=.binOp .geq 3 x y 3:=by rfl)(hx:a.eval x=.int .i64 m:=by rfl)(hy:a.eval y=.int .i64 n:=by rfl):
  (execOp a.eval o).run prog w=.ok (.value (.bool b)) w:=by
 subst hb;exact Ei
theorem Vj{m n:Int}{x:Operand}(hw:IntKind.i64.wrap (m-1)=n)(ho:o.op=.binOp .sub 3 x (.const (.int .i64 1)) 3:=by rfl)(hx:a.eval x=.int .i64 m:=by rfl):
  (execOp a.eval o).run prog w=.ok (.value (.int .i64 n)) w:=by
 exact ZC
theorem dZ{m n:Int}{x:Operand}(hw:IntKind.i64.wrap (m+1)=n)(ho:o.op=.binOp .add 3 x (.const (.int .i64 1)) 3:=by rfl)(hx:a.eval x=.int .i64 m:=by rfl):
  (execOp a.eval o).run prog w=.ok (.value (.int .i64 n)) w:=by
 exact ZC
end
section
variable {fn:Func}{R:Ending→World→Prop}{a:Act}{w:World}{B B2:Nat}{s:aH.S}{t:aH.T}{p:av.Rp}{q q2:Tmp}
theorem abH(hf:fn.results=#[.cell q 30])(h2:a.tmps[q]?=some (.pointer (some ⟨B,0,none⟩)))(hd:a.defers=[])(hb:gD w B 30 (gq s))
  (hR:R (.returned (.agg (gq s))) w):bodyPost prog fn R Exit.ret a w:=
 bodyPost_ret (results_cell_row hf a.tmps w B _ _ (0,0) _ (by simp[h2]) hb underlying30 rfl uj) hd hR
theorem xR(hf:fn.results=#[.cell q 31])(hb:gD w B 31 (dR t))
  (hR:R (.returned (.agg (dR t))) w) (h2:a.tmps[q]?=some (.pointer (some ⟨B,0,none⟩)):=by rfl)(hd:a.defers=[]:=by rfl):bodyPost prog fn R Exit.ret a w:=
 bodyPost_ret (results_cell_row hf a.tmps w B _ _ (0,0) _ (by simp[h2]) hb underlying31 rfl uh) hd hR
theorem SN(hf:fn.results=#[.cell q 31,.cell q2 28])(hb:gD w B 31 (dR t))(hb2:gD w B2 28 (cB p))
  (hR:R (.returned (.tuple #[.agg (dR t),.agg (cB p)])) w) (h2:a.tmps[q]?=some (.pointer (some ⟨B,0,none⟩)):=by rfl)(h3:a.tmps[q2]?=some (.pointer (some ⟨B2,0,none⟩)):=by rfl)(hd:a.defers=[]:=by rfl):bodyPost prog fn R Exit.ret a w:=by
 refine bodyPost_ret (v:=.tuple #[.agg (dR t),.agg (cB p)]) ?_ hd hR;have h:(loadVar 31 ⟨B,0,none⟩).run prog w=.ok (.agg (dR t)) w:=run_loadVar_row (P:=prog) w B _ _ _ (0,0) _ hb underlying31 rfl uh;have h':(loadVar 28 ⟨B2,0,none⟩).run prog w=.ok (.agg (cB p)) w:=run_loadVar_row (P:=prog) w B2 _ _ _ (0,0) _ hb2 underlying28 rfl jm;simp[results,hf,asAddr,Sem.run_bind,h2,h3,h,h']
end
def IsS(s:aH.S)(w:World)(e:Ending)(w':World):Prop:=e=.returned (.agg (gq s))∧Below w.heap.size w w'
def BR(t:aH.T)(w:World)(e:Ending)(w':World):Prop:=e=.returned (.agg (dR t))∧Below w.heap.size w w'
def Ls(t:aH.T)(p:av.Rp)(w:World)(e:Ending)(w':World):Prop:=e=.returned (.tuple #[.agg (dR t),.agg (cB p)])∧Below w.heap.size w w'
def gG(x:Int)(w:World)(e:Ending)(w':World):Prop:=e=.returned (.int .i64 x)∧Below w.heap.size w w'
end
section
theorem VF:prog.cellsOf 30=9:=by kernel_rfl
theorem run_seq(s:aH.S)(w:World):(Op.equalIn 9999 30 (.agg (gq s)) (.agg (gq s))).run prog w=.ok true w:=by
 unfold gq;go_simp
theorem acj(t:aH.T)(w:World):(part 30 (dR t) (0*9)).run prog w=.ok (.agg (gq t.s0)) w:=by kernel_rfl
theorem aci(t:aH.T)(w:World):(part 30 (dR t) (1*9)).run prog w=.ok (.agg (gq t.s1)) w:=by kernel_rfl
theorem ach(t:aH.T)(w:World):(part 30 (dR t) (2*9)).run prog w=.ok (.agg (gq t.s2)) w:=by kernel_rfl
theorem acg(t:aH.T)(w:World):(part 30 (dR t) (3*9)).run prog w=.ok (.agg (gq t.s3)) w:=by kernel_rfl
theorem acf(t:aH.T)(w:World):(part 30 (dR t) (4*9)).run prog w=.ok (.agg (gq t.s4)) w:=by kernel_rfl
theorem Xy(t:aH.T)(w:World):(Op.equalIn 10000 31 (.agg (dR t)) (.agg (dR t))).run prog w=.ok true w:=by
 obtain⟨i,hi⟩:∃i,prog.info? 30=some i:=Option.isSome_iff_exists.1 (by kernel_rfl);rw[run_equalIn_array w 9999 _ _ underlying31 hi,VF];simp only[List.range,List.range.loop,Op.eqItems,Sem.run_bind,acj,aci,ach,acg,acf,run_seq,Result.andThen_ok,Bool.not_true,Bool.false_eq_true,if_false,Sem.run_pure]
theorem Va{w:World}{o:Oper}{a:Act}{t:aH.T}{x:Operand}{y:Operand}(ho:o.op=.binOp .eql 31 x y 31)(hx:a.eval x=.agg (dR t))(hy:a.eval y=.agg (dR t)):
  (execOp a.eval o).run prog w=.ok (.value (.bool true)) w:=by
 have h:=Xy t;exact Ei
end
end Go.Proofs.YtieoeendnccafaaGreat
