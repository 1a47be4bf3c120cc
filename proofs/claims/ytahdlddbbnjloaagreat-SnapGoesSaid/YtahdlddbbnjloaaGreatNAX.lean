/- What session.Look and the document's Look return. No condition but those named. -/
import Derived.Test.YtahdlddbbnjloaaGreatNAN
set_option linter.unusedSimpArgs false
set_option linter.unusedVariables false
set_option maxRecDepth 100000
set_option maxHeartbeats 25600000
open Go.RowKit
namespace Go.Proofs.YtahdlddbbnjloaaGreat
open _root_.Go.Proofs.Tryz
section
def nV(f:Int→Nat):Array Value:=#[.int .i64 (f 0),.int .i64 (f 1),.int .i64 (f 2),.int .i64 (f 3),.int .i64 (f 4)]
def Yk:Int→Nat:=fun _=>0
def pcU(f:Int→Nat)(c:Int)(v:Nat):Int→Nat:=fun d=>if d=c then v else f d
theorem VR:(prog.info? 68).map (fun i=>(i.zero,i.size,i.bytes))=some (some (Value.agg (nV Yk)),5,40):=by kernel_rfl
theorem Fg:(prog.info? 68).map (·.size)=some 5:=by kernel_rfl
theorem aiD{c:Int}(hc:0≤c∧c<5)(f:Int→Nat):(nV f)[c.toNat]?=some (.int .i64 (f c)):=by
 rcases aG.fO hc with rfl|rfl|rfl|rfl|rfl<;>rfl
theorem afe{c:Int}(hc:0≤c∧c<5)(f:Int→Nat)(v:Nat):(nV f).setIfInBounds c.toNat (.int .i64 v)=nV (pcU f c v):=by
 rcases aG.fO hc with rfl|rfl|rfl|rfl|rfl<;>kernel_rfl
section
variable {b0:Nat}{w0 w:World}{L:List (Nat×TypeId×Array Value)}{R:List bV}{ops:Array Oper}{rest:List Oper}{o:Oper}{a:Act}{Q:Exit→Act→World→Prop}{K:Act→World→Prop}{E:Prop}{g:Nat}{f h2:Int→Nat}{c:Int}
theorem uO(HK:Hid (Kn b0 w0 w L R))
  (h:∀w' g,Hid (Kn b0 w0 w' (L++[(g,68,nV Yk)]) R)→wpList prog ops Q rest (a.put o.dst (.pointer (some ⟨g,0,none⟩))) w') (hgd:o.guard=none:=by rfl)(ho:o.op=.alloc 68:=by rfl):wpList prog ops Q (o::rest) a w:=
 wpList_plain hgd fun _ hK=>vW VR HK ho fun w' g h1 _=>hK _ _ (h w' g h1)
theorem uM(HK:Hid (Kn b0 w0 w L R))(i:Nat){x:Operand}{y:Operand}
  (h:∀w',Hid (Kn b0 w0 w' (L.set i (g,68,nV h2)) R)→wpList prog ops Q rest (a.put o.dst undef) w') (hgd:o.guard=none:=by rfl)(ho:o.op=.store 68 x y:=by rfl)(hL:L[i]?=some (g,68,nV f):=by rfl)(hx:a.eval x=.pointer (some ⟨g,0,none⟩):=by rfl)(hy:a.eval y=.agg (nV h2):=by rfl):wpList prog ops Q (o::rest) a w:=
 wpList_plain hgd fun _ hK=>lQ HK x y ho i hL hx hy (by show 5≤5;decide) Fg (h1:=(by simp[nV,Value.oneCell'])) fun w' h1 _=>hK _ _ (h w' (by
  have e:putCells (nV f) 0 (nV h2).toList=nV h2:=by rw[cK (vs:=(nV h2).toList) (cs:=nV f),Array.toArray_toList]
  rw[e] at h1
  exact h1))
theorem Aa(HK:Hid (Kn b0 w0 w L R))(i:Nat)(hgd:o.guard=none)(hc:0≤c∧c<5){v:Nat}{x:Operand}{y:Operand}(ho:o.op=.store 3 x y)(hL:L[i]?=some (g,68,nV f))(hx:a.eval x=.pointer (some ⟨g,c.toNat,none⟩))(hy:a.eval y=.int .i64 v)
  (h:∀w',Hid (Kn b0 w0 w' (L.set i (g,68,nV (pcU f c v))) R)→wpList prog ops Q rest (a.put o.dst undef) w'):wpList prog ops Q (o::rest) a w:=
 wpList_plain hgd fun _ hK=>nR HK x y ho i hL hx hy (by show c.toNat<5;omega) fun w' h1 _=>hK _ _ (h w' (by rw[afe hc] at h1;exact h1))
theorem kpc(HK:Hid (Kn b0 w0 w L R))(i:Nat){x:Operand}(ho:o.op=.load 68 x:=by rfl)(hL:L[i]?=some (g,68,nV f):=by rfl)(hx:a.eval x=.pointer (some ⟨g,0,none⟩):=by rfl):
  (execOp a.eval o).run prog w=.ok (.value (.agg (nV f))) w:=
 lC HK x ho i hL hx (nV f) (fun j _=>by rw[Nat.zero_add]) underlying68 Fg
theorem ali(HK:Hid (Kn b0 w0 w L R))(i:Nat)(hc:0≤c∧c<5){x:Operand}(ho:o.op=.load 3 x)(hL:L[i]?=some (g,68,nV f))(hx:a.eval x=.pointer (some ⟨g,c.toNat,none⟩)):
  (execOp a.eval o).run prog w=.ok (.value (.int .i64 (f c))) w:=
 aT HK _ x ho i hL hx (hv:=(aiD hc f)) underlying3
theorem IK(hc:0≤c∧c<5){x:Operand}{y:Operand}(ho:o.op=.indexAddr 68 x y:=by rfl)(hx:a.eval x=.pointer (some ⟨g,0,none⟩):=by rfl)(hy:a.eval y=.int .i64 c:=by rfl):
  (execOp a.eval o).run prog w=.ok (.value (.pointer (some ⟨g,c.toNat,none⟩))) w:=by
 have h:(Instr.indexAt 68 (.pointer (some ⟨g,0,none⟩)) (.int .i64 c)).run prog w=.ok (.pointer (some ⟨g,c.toNat,none⟩)) w:=by
  rcases aG.fO hc with rfl|rfl|rfl|rfl|rfl<;>kernel_rfl
 exact YB
theorem IU(ho:o.op=.build 68 #[]:=by rfl):(execOp a.eval o).run prog w=.ok (.value (.agg (nV Yk))) w:=by
 have h:(Instr.build 68 #[]).run prog w=.ok (.agg (nV Yk)) w:=by kernel_rfl
 exact YE
theorem Xo:prog.cellsOf 3=1:=by kernel_rfl
theorem Ny(f:Int→Nat)(w:World):(part 3 (nV f) (0*1)).run prog w=.ok (.int .i64 (f 0)) w∧(part 3 (nV f) (1*1)).run prog w=.ok (.int .i64 (f 1)) w∧(part 3 (nV f) (2*1)).run prog w=.ok (.int .i64 (f 2)) w∧(part 3 (nV f) (3*1)).run prog w=.ok (.int .i64 (f 3)) w∧(part 3 (nV f) (4*1)).run prog w=.ok (.int .i64 (f 4)) w:=by
 refine⟨?_,?_,?_,?_,?_⟩<;>kernel_rfl
theorem tN(m n:Nat)(w:World):(Op.equalIn 9999 3 (.int .i64 m) (.int .i64 n)).run prog w=.ok (decide (m=n)) w:=by
 have e:decide (m=n)=decide ((m:Int)=(n:Int)):=decide_eq_decide.2 ⟨fun h=>by rw[h],fun h=>by omega⟩;rw[e];go_simp;rw[Bool.eq_iff_iff];simp
theorem TM(f h:Int→Nat)(w:World):(Op.equalIn 10000 68 (.agg (nV f)) (.agg (nV h))).run prog w=.ok (decide (∀c∈([0,1,2,3,4]:List Int),f c=h c)) w:=by
 obtain⟨i,hi⟩:∃i,prog.info? 3=some i:=Option.isSome_iff_exists.1 (by kernel_rfl);obtain⟨a0,a1,a2,a3,a4⟩:=Ny f w;obtain⟨b0,b1,b2,b3,b4⟩:=Ny h w
 have e:decide (∀c∈([0,1,2,3,4]:List Int),f c=h c)=(decide (f 0=h 0)&&(decide (f 1=h 1)&&(decide (f 2=h 2)&&(decide (f 3=h 3)&&decide (f 4=h 4))))):=by
  rw[Bool.eq_iff_iff];simp
 rw[e,run_equalIn_array w 9999 _ _ underlying68 hi,Xo];simp only[List.range,List.range.loop,Op.eqItems,Sem.run_bind,a0,a1,a2,a3,a4,b0,b1,b2,b3,b4,tN,Result.andThen_ok];by_cases e0:f 0=h 0
 case neg=>rw[decide_eq_false e0];rfl
 rw[decide_eq_true e0];by_cases e1:f 1=h 1
 case neg=>simp only[decide_eq_false e1,Sem.run_bind,Sem.run_pure,a1,a2,a3,a4,b1,b2,b3,b4,tN,Result.andThen_ok,Bool.not_true,Bool.not_false,Bool.false_eq_true,if_true,if_false,Bool.true_and,Bool.false_and,Bool.and_true,reduceIte]
 by_cases e2:f 2=h 2
 case neg=>simp only[decide_eq_false e2,Sem.run_bind,Sem.run_pure,a1,a2,a3,a4,b1,b2,b3,b4,tN,Result.andThen_ok,Bool.not_true,Bool.not_false,Bool.false_eq_true,if_true,if_false,Bool.true_and,Bool.false_and,Bool.and_true,reduceIte,decide_eq_true e1]
 by_cases e3:f 3=h 3
 case neg=>simp only[decide_eq_false e3,Sem.run_bind,Sem.run_pure,a1,a2,a3,a4,b1,b2,b3,b4,tN,Result.andThen_ok,Bool.not_true,Bool.not_false,Bool.false_eq_true,if_true,if_false,Bool.true_and,Bool.false_and,Bool.and_true,reduceIte,decide_eq_true e1,decide_eq_true e2]
 by_cases e4:f 4=h 4
 case neg=>simp only[decide_eq_false e4,Sem.run_bind,Sem.run_pure,a1,a2,a3,a4,b1,b2,b3,b4,tN,Result.andThen_ok,Bool.not_true,Bool.not_false,Bool.false_eq_true,if_true,if_false,Bool.true_and,Bool.false_and,Bool.and_true,reduceIte,decide_eq_true e1,decide_eq_true e2,decide_eq_true e3]
 simp only[decide_eq_true e1,decide_eq_true e2,decide_eq_true e3,decide_eq_true e4,Sem.run_bind,Sem.run_pure,a1,a2,a3,a4,b1,b2,b3,b4,tN,Result.andThen_ok,Bool.not_true,Bool.not_false,Bool.false_eq_true,if_true,if_false,Bool.true_and,Bool.false_and,Bool.and_true,reduceIte]
theorem WK{b:Bool}{x:Operand}{y:Operand}(ho:o.op=.binOp .eql 68 x y 68)(hx:a.eval x=.agg (nV f))(hy:a.eval y=.agg (nV h2))(hb:decide (∀c∈([0,1,2,3,4]:List Int),f c=h2 c)=b):
  (execOp a.eval o).run prog w=.ok (.value (.bool b)) w:=by
 have h:=TM f h2 w;rw[hb] at h;exact Ed
end
section
variable {fn:Func}{R:Ending→World→Prop}{a:Act}{w:World}{B:Nat}{f:Int→Nat}{q:Tmp}
theorem aeK(hf:fn.results=#[.cell q 68])(h2:a.tmps[q]?=some (.pointer (some ⟨B,0,none⟩)))(hd:a.defers=[])(hb:eT w B 68 (nV f))
  (hR:R (.returned (.agg (nV f))) w):bodyPost prog fn R Exit.ret a w:=
 bodyPost_ret (results_cell_row hf a.tmps w B _ _ (0,0) _ (by simp[h2]) hb underlying68 rfl Fg) hd hR
def ags(f:Int→Nat)(w:World)(e:Ending)(w':World):Prop:=e=.returned (.agg (nV f))∧Below w.heap.size w w'
end
end
section
namespace Ap
open au aG
def kG(t:T)(o:Ob)(j:Nat)(r:Rf):Prop:=if j=0∧o.kind=3 then (Hd t r∧¬(r.r=(t.get r.c).rq∧(t.get r.c).dn=false)) else aG.look t r=3
instance (t:T) (o:Ob) (j:Nat) (r:Rf):Decidable (kG t o j r):=by unfold kG;infer_instance
def Known(l:List Ob)(t:T):Prop:=(∀r∈W l,aG.look t r=3)∧∀r∈H l,Hd t r∧¬(r.r=(t.get r.c).rq∧(t.get r.c).dn=false)
instance (l:List Ob) (t:T):Decidable (Known l t):=by unfold Known;infer_instance
theorem xQ(t:T)(o:Ob):(∀(j:Nat) r,o.refs[j]?=some r→kG t o j r)↔((∀r∈jS o,aG.look t r=3)∧∀r∈hld o,Hd t r∧¬(r.r=(t.get r.c).rq∧(t.get r.c).dn=false)):=by
 unfold jS hld;by_cases h3:o.kind=3
 ·rw[if_pos h3,if_pos h3]
  constructor
  ·intro h
   refine⟨fun r hr=>?_,fun r hr=>?_⟩
   ·obtain⟨j,hj⟩:=List.mem_iff_getElem?.1 hr
    rw[List.getElem?_drop] at hj;have:=h (1+j) r hj;unfold kG at this
    rwa [if_neg (by omega)] at this
   ·obtain⟨j,hj⟩:=List.mem_iff_getElem?.1 hr
    rw[List.getElem?_take] at hj
    split at hj
    next g=>
     obtain rfl:j=0:=by omega
     have:=h 0 r hj;unfold kG at this
     rwa [if_pos ⟨rfl,h3⟩] at this
    next=>cases hj
  ·rintro ⟨h1,h2⟩ j r hr
   unfold kG
   split
   next g=>
    obtain⟨rfl,_⟩:=g;exact h2 r (List.mem_iff_getElem?.2 ⟨0,by rw[List.getElem?_take,if_pos (by decide)];exact hr⟩)
   next g=>
    have hj:j≠0:=fun e=>g ⟨e,h3⟩
    exact h1 r (List.mem_iff_getElem?.2 ⟨j-1,by rw[List.getElem?_drop,show 1+(j-1)=j by omega];exact hr⟩)
 ·rw[if_neg h3,if_neg h3]
  constructor
  ·intro h
   refine⟨fun r hr=>?_,fun r hr=>by cases hr⟩;obtain⟨j,hj⟩:=List.mem_iff_getElem?.1 hr;have:=h j r hj;unfold kG at this
   rwa [if_neg (fun g=>h3 g.2)] at this
  ·rintro ⟨h1,_⟩ j r hr
   unfold kG;rw[if_neg (fun g=>h3 g.2)];exact h1 r (List.mem_of_getElem? hr)
theorem Dx(l:List Ob)(t:T):Known l t↔∀(i:Nat) o,l[i]?=some o→∀(j:Nat) r,o.refs[j]?=some r→kG t o j r:=by
 constructor
 ·rintro ⟨h1,h2⟩ i o ho
  have hm:=List.mem_of_getElem? ho;exact(xQ t o).2 ⟨fun r hr=>h1 r (List.mem_flatMap.2 ⟨o,hm,hr⟩),fun r hr=>h2 r (List.mem_flatMap.2 ⟨o,hm,hr⟩)⟩
 ·intro h
  refine⟨fun r hr=>?_,fun r hr=>?_⟩
  ·obtain⟨o,ho,hr⟩:=List.mem_flatMap.1 hr
   obtain⟨i,hi⟩:=List.mem_iff_getElem?.1 ho;exact((xQ t o).1 (h i o hi)).1 r hr
  ·obtain⟨o,ho,hr⟩:=List.mem_flatMap.1 hr
   obtain⟨i,hi⟩:=List.mem_iff_getElem?.1 ho;exact((xQ t o).1 (h i o hi)).2 r hr
theorem Vy{l:List Ob}{t:T}{i:Nat}{o:Ob}(ho:l[i]?=some o){j:Nat}{r:Rf}(hr:o.refs[j]?=some r)(h:¬kG t o j r):decide (Known l t)=false:=decide_eq_false fun g=>h ((Dx l t).1 g i o ho j r hr)
theorem QK{l:List Ob}{t:T}(h:∀(i:Nat) o,i<l.length→l[i]?=some o→∀(j:Nat) r,o.refs[j]?=some r→kG t o j r):decide (Known l t)=true:=
 decide_eq_true ((Dx l t).2 fun i o ho=>h i o (List.getElem?_eq_some_iff.1 ho).1 ho)
def Vb(o:Ob)(c:Int)(j:Nat):Nat:=match o.refs[j]? with
 | some r=>if r.c=c∧(0<j∨o.kind=4) then 1 else 0
 | none=>0
def BO(o:Ob)(c:Int):Nat→Nat
 | 0=>0
 | j+1=>BO o c j+Vb o c j
theorem Dl{o:Ob}{c:Int}{j:Nat}{r:Rf}(h:o.refs[j]?=some r):Vb o c j=if r.c=c∧(0<j∨o.kind=4) then 1 else 0:=by
 unfold Vb;rw[h]
theorem Je{l:List Rf}{c:Int}{j:Nat}{r:Rf}(h:l[j]?=some r):cnt (l.take (j+1)) c=cnt (l.take j) c+if r.c=c then 1 else 0:=by
 rw[List.take_add_one,h,jk]
 show _+cnt [r] c=_
 rw[wR]
 show _+(0+_)=_
 rw[Nat.zero_add]
theorem OG{o:Ob}(h:One o=true)(c:Int):∀j,j≤o.refs.length→BO o c j=if o.kind=3 then cnt ((o.refs.take j).drop 1) c else cnt (o.refs.take j) c
 | 0,_=>by
  show 0=_
  split<;>(rw[List.take_zero];rfl)
 | j+1,hj=>by
  have ih:=OG h c j (by omega);obtain⟨r,hr⟩:∃r,o.refs[j]?=some r:=⟨_,List.getElem?_eq_getElem (by omega)⟩
  show BO o c j+Vb o c j=_
  rw[ih,Dl hr];by_cases h3:o.kind=3
  ·rw[if_pos h3,if_pos h3]
   cases j with
   | zero=>
    rw[if_neg (fun g=>by omega)];rw[List.take_zero];have:(o.refs.take 1).drop 1=[]:=List.drop_eq_nil_of_le (by rw[List.length_take];omega);rw[this]
    rfl
   | succ j=>
    have e:(o.refs.take (j+1+1)).drop 1=(o.refs.take (j+1)).drop 1++[r]:=by
     rw[List.take_add_one,hr,List.drop_append_of_le_length (by rw[List.length_take];omega)]
     rfl
    rw[e,jk]
    show _=_+cnt [r] c
    rw[wR]
    show _=_+(0+_)
    rw[Nat.zero_add]
    congr 1
    by_cases g:r.c=c
    ·rw[if_pos ⟨g,.inl (by omega)⟩,if_pos g]
    ·rw[if_neg (fun q=>g q.1),if_neg g]
  ·rw[if_neg h3,if_neg h3,Je hr]
   congr 1
   have h4:o.kind=4:=Decidable.byContradiction fun g=>by
    rw[uW h h3 g] at hr;cases hr
   by_cases g:r.c=c
   ·rw[if_pos ⟨g,.inr h4⟩,if_pos g]
   ·rw[if_neg (fun q=>g q.1),if_neg g]
theorem Xi{o:Ob}(h:One o=true)(c:Int):BO o c o.refs.length=cnt (jS o) c:=by
 rw[OG h c _ (Nat.le_refl _),List.take_length];unfold jS
 split<;>rfl
theorem XF{l:List Ob}{i:Nat}{o:Ob}(h:l[i]?=some o)(c:Int):cnt (W (l.take (i+1))) c=cnt (W (l.take i)) c+cnt (jS o) c:=by
 rw[List.take_add_one,h];unfold W;rw[List.flatMap_append,jk]
 congr 2
 simp
theorem abv(l:List Rf)(c:Int):cnt l c≤l.length:=List.countP_le_length
theorem aiK(s:St):decide (Ok s)=(decide (0≤s.n)&&decide (au.Right s.l)&&decide (aG.Right s.t)&&decide (Known s.l s.t)&&decide (∀c∈([0,1,2,3,4]:List Int),cnt (W s.l) c=if opn (s.t.get c)=true then 1 else 0)):=by
 rw[Bool.eq_iff_iff];simp only[decide_eq_true_eq,Bool.and_eq_true]
 constructor
 ·exact fun h=>⟨⟨⟨⟨h.n,h.l⟩,h.t⟩,h.w,h.h⟩,h.p⟩
 ·rintro ⟨⟨⟨⟨a,b⟩,c⟩,d,e⟩,f⟩
  exact⟨a,b,c,d,e,f⟩
end Ap
end
section
def pN(x:Oh):Nat:=if x.v.kind=3 then min 1 x.rn else 0
theorem aiE(x:Oh):pN x≤x.rn:=by unfold pN;split<;>omega
theorem ZH{x:Oh}(h:x.v.refs.length=x.rn):Ap.hld x.v=x.v.refs.take (pN x)∧Ap.jS x.v=x.v.refs.drop (pN x):=by
 unfold Ap.hld Ap.jS pN;rw[← h]
 split
 ·cases hr:x.v.refs with
  | nil=>exact⟨rfl,rfl⟩
  | cons r m=>rw[show min 1 (r::m).length=1 from by rw[List.length_cons];omega];exact⟨rfl,rfl⟩
 ·exact⟨List.take_zero.symm,rfl⟩
def adB(x:Oh)(w:World)(e:Ending)(w':World):Prop:=∃(A1:Option Addr) (n1 c1:Nat) (A2:Option Addr) (n2 c2:Nat),e=.returned (.tuple #[.slice A1 n1 c1,.slice A2 n2 c2])∧(∀W,In W x→bT aN rF W A1 n1 c1 (Ap.hld x.v)∧bT aN rF W A2 n2 c2 (Ap.jS x.v))∧Below w.heap.size w w'
theorem Jq(x:Oh)(w:World)(hx:In w x):Calls prog 23 #[.agg (cu x)] w (adB x w):=by
 have HR:=zH hx.r;obtain⟨q1,q2⟩:=ZH hx.r.len;have hle:=aiE x;have hlc:x.rn≤x.rc:=hx.r.cap;have HN:Hid (pN x=if x.v.kind=3 then min 1 x.rn else 0):=zH rfl;have HS1:Hid (∀W,In W x→bT aN rF W x.rA (pN x) x.rc (Ap.hld x.v)∧bT aN rF W (mE 3 x.rA (pN x) x.rc) (x.rn-pN x) (x.rc-pN x) (Ap.jS x.v)):=zH fun W h=>⟨by rw[q1];exact h.r.take hle,by rw[q2];exact h.r.drop hle⟩
 have aiZ:pN x≤x.rc:=Nat.le_trans hle hlc;clear q1 q2 hlc hx;generalize pN x=N at *
 have HK:=jw w 75 (cu x);go_enter func23,ntmps23;have HT:Hid (decide (x.v.kind=3)=true→N=min 1 x.rn):=zH fun h=>by rw[HN.out,if_pos (of_decide_eq_true h)]
 have HF:Hid (decide (x.v.kind=3)=false→N=0):=zH fun h=>by rw[HN.out,if_neg (of_decide_eq_false h)]
 obtain⟨b,hb⟩:∃b,decide (x.v.kind=3)=b:=⟨_,rfl⟩;have E3:=zH hb;rw[hb] at HT HF;clear hb HN;go_upto_if 7 with (first|refine zX (jM HK 0) ?_|refine zX (aJ (m:=x.v.kind) (n:=3) E3.out) ?_)
 try simp only[qY,qX,qW,qV,qU]
 go_cut [4] (fun v wx=>v=.int .i64 (N:Int)∧Hid (Kn w.heap.size w wx [(w.heap.size,75,cu x)] []))
 case first=>
  clear HS1 hle aiZ
  cases b with
  | true=>
   have hN:=HT.out rfl;clear HT HF;by_cases h0:1≤x.rn
   ·have hN:(N:Int)=1:=by omega
    have h1:(1:Int)≤(x.rn:Int):=by omega
    have h2:¬(x.rn:Int)<1:=by omega
    go_wp2_with refine zX (kI HK 0) ?_
    all_goals (try omega)
    go_meet;exact⟨by congr 1;omega,HK⟩
   ·have hN:(N:Int)=0:=by omega
    have h1:(x.rn:Int)=0:=by omega
    have h2:(x.rn:Int)<1:=by omega
    go_wp2_with refine zX (kI HK 0) ?_
    all_goals (try omega)
    go_meet;exact⟨by congr 1;omega,HK⟩
  | false=>
   have hN:=HF.out rfl;clear HT HF;go_wp2_with fail;go_meet;exact⟨by rw[hN];rfl,HK⟩
 case rest=>
 clear HK HT HF;obtain⟨rfl,HK⟩:=hcut;go_wp2_with fail;have aj:=zH HK.out.drew;refine zR aj.out fun ah=>?_
 refine ak 0 rfl ?_;refine ak 1 rfl ?_ fun _ s=>kI s 0
 refine ak 2 rfl ?_;refine ak 3 rfl ?_ fun _ s=>BI (hi:=N) aiZ
 refine ak 4 rfl ?_;refine ak 5 rfl ?_ fun _ s=>kI s 0
 refine ak 6 rfl ?_;refine ak 7 rfl ?_ fun _ s=>Iz (lo:=N) hle
 refine ak 8 rfl ?_;refine ak 9 rfl ?_;refine cB ?_;go_wp2_with fail;exact rR results23 ⟨_,_,_,_,_,_,rfl,HS1.out,ah.out.b⟩
end
section
namespace Ap
def MQ(s:aG.S)(r:Rf):Bool:=s.live&&decide (s.ep=r.e)&&decide (1≤r.r)&&(decide (r.r<s.rq) || decide (r.r=s.rq)&&s.dn)
theorem Wm(t:aG.T)(r:Rf):MQ (t.get r.c) r=true↔(Hd t r∧¬(r.r=(t.get r.c).rq∧(t.get r.c).dn=false)):=by
 unfold MQ Hd;generalize t.get r.c=s;cases s.live<;>cases s.dn<;>simp<;>omega
def WW(s:aG.S):Nat:=if s≠aG.z∧s.dn=false then 1 else 0
def due(t:aG.T):Int→Nat:=fun c=>WW (t.get c)
theorem WV{t:aG.T}(h:aG.Right t){c:Int}(hc:0≤c∧c<5):due t c=if opn (t.get c)=true then 1 else 0:=by
 have h1:=aG.kN h hc;unfold due WW opn;by_cases he:(t.get c).ep=0
 ·rw[aG.vV h1 he]
  rfl
 ·have hp:=(aG.one_pos h1 he).2.1
  have hz:t.get c≠aG.z:=fun g=>he (by rw[g];rfl)
  have hep:decide (0<(t.get c).ep)=true:=decide_eq_true (by omega);rw[hep];cases hd:(t.get c).dn
  ·rw[if_pos ⟨hz,rfl⟩];rfl
  ·rw[if_neg (fun g=>by cases g.2)];rfl
end Ap
theorem QW(t:aG.T)(r:Rf)(w:World)(hc:0≤r.c∧r.c<5):
  Calls prog 24 #[.agg (dU t),.agg #[.int .i64 r.c,.int .i64 r.e,.int .i64 r.r]] w (dw (Ap.MQ (t.get r.c) r) w):=by
 have HK:=uj w 31 (dU t) 44 #[.int .i64 r.c,.int .i64 r.e,.int .i64 r.r];have HB:Hid (Ap.MQ (t.get r.c) r=((t.get r.c).live&&decide ((t.get r.c).ep=r.e)&&decide (1≤r.r)&&(decide (r.r<(t.get r.c).rq) || decide (r.r=(t.get r.c).rq)&&(t.get r.c).dn))):=zH rfl;generalize Ap.MQ (t.get r.c) r=b at *
 unfold dw;go_enter func24,ntmps24;go_upto_region 2 with (first|refine zX (qO (x:=r) HK 1) ?_|refine zX (gM hc) ?_|refine zX (kts HK 0 hc) ?_|(refine bE HK ?_;clear HK;intro _ g2 HK;simp only[aS,aK] at HK)|(refine bD (u:=t.get r.c) HK 2 ?_;clear HK;intro _ HK;simp only[lS] at HK));have fe:=HK.out.cell 1 rfl 1 (v:=.int .i64 r.e) rfl;have fr:=HK.out.cell 1 rfl 2 (v:=.int .i64 r.r) rfl;have fl:=HK.out.cell 2 rfl 0 (v:=.bool (t.get r.c).live) rfl;have fp:=HK.out.cell 2 rfl 1 (v:=.int .i64 (t.get r.c).ep) rfl;have fq:=HK.out.cell 2 rfl 2 (v:=.int .i64 (t.get r.c).rq) rfl;have fd:=HK.out.cell 2 rfl 3 (v:=.bool (t.get r.c).dn) rfl;generalize (t.get r.c).live=lv at *
 generalize (t.get r.c).ep=ep at *
 generalize (t.get r.c).rq=rq at *
 generalize (t.get r.c).dn=dn at *
 clear hc
 cases lv with
 | false=>
  have hb:b=false:=by rw[HB.out];rfl
  subst hb;clear HB;exact jq
 | true=>
 by_cases h1:ep=r.e
 case neg=>
  have hb:b=false:=by rw[HB.out,decide_eq_false h1];rfl
  subst hb;have hb1:(ep==r.e)=false:=by simpa using h1
  have hb2:(ep != r.e)=true:=by simpa using h1
  clear HB h1;exact jq
 case pos=>
 have hb1:(ep==r.e)=true:=by simpa using h1
 have hb2:(ep != r.e)=false:=by simpa using h1
 rw[decide_eq_true h1] at HB;clear h1;by_cases h2:r.r<1
 case pos=>
  have hb:b=false:=by rw[HB.out,decide_eq_false (show ¬1≤r.r by omega)];rfl
  subst hb;clear HB;exact jq
 case neg=>
 rw[decide_eq_true (show 1≤r.r by omega)] at HB;by_cases h3:r.r<rq
 case pos=>
  have hb:b=true:=by rw[HB.out,decide_eq_true h3];rfl
  subst hb;clear HB;exact jq
 case neg=>
 rw[decide_eq_false h3] at HB;by_cases h4:r.r=rq
 case neg=>
  have hb:b=false:=by rw[HB.out,decide_eq_false h4];rfl
  subst hb;have hb3:(r.r==rq)=false:=by simpa using h4
  clear HB h4;exact jq
 case pos=>
 have hb:b=dn:=by rw[HB.out,decide_eq_true h4];cases dn<;>rfl
 subst hb;have hb3:(r.r==rq)=true:=by simpa using h4
 clear HB h4;cases b<;>(go_wp2_with fail;go_ret;exact⟨rfl,HK.out.b⟩)
theorem abk(t:aG.T)(w:World)(hf:aG.Fit t):Calls prog 26 #[.agg (dU t)] w (ags (Ap.due t) w):=by
 have HK:=jw w 31 (dU t);unfold ags;go_enter func26,ntmps26;go_upto_region 1 with (refine uO HK ?_;clear HK;intro _ g0 HK;simp only[aS,aK] at HK);go_wp2_with (first|(refine uO HK ?_;clear HK;intro _ g1 HK;simp only[aS,aK] at HK)|refine zX (IU) ?_|(refine uM (h2:=Yk) HK 2 ?_;clear HK;intro _ HK;simp only[lS] at HK)|refine zX (qR HK 0) ?_);go_loopw [8] (fun v8 wr=>∃(j:Nat) (f:Int→Nat),j≤5∧v8=.int .i64 j∧Hid (∀c:Int,0≤c∧c<5→f c=if c<(j:Int) then Ap.due t c else 0)∧Hid (Kn w.heap.size w wr [(w.heap.size,31,dU t),(g0,68,nV Yk),(g1,68,nV f)] [])) (fun v8 _=>5-(intOf v8).toNat)
 case atStart=>exact⟨0,Yk,by omega,rfl,zH (fun c hc=>by rw[if_neg (by omega)];rfl),HK⟩
 case round=>
  clear HK;obtain⟨j,f,hj,rfl,HF,HK⟩:=hrel;have hj1:(0:Int)≤(j:Int):=by omega
  by_cases hlt:j<5
  case neg=>
   obtain rfl:j=5:=by omega
   have he:nV f=nV (Ap.due t):=by
    unfold nV;rw[HF.out 0 (by decide),HF.out 1 (by decide),HF.out 2 (by decide),HF.out 3 (by decide),HF.out 4 (by decide)]
    rfl
   rw[he] at HK;go_wp2_with (first|refine zX (kpc HK 2) ?_|(refine uM (h2:=Ap.due t) HK 1 ?_;clear HK;intro _ HK;simp only[lS] at HK));exact aeK results26 rfl rfl (HK.out.blk 1 rfl) ⟨rfl,HK.out.b⟩
  case pos=>
  have hj2:(j:Int)<5:=by omega
  have hj3:j<9223372036854775807:=by omega
  have hc:0≤(j:Int)∧(j:Int)<5:=⟨hj1,hj2⟩;by_cases hz:t.get (j:Int)=aG.z
  case pos=>
   have HZ:Hid ((!decide (t.get (j:Int)=aG.z))=false):=zH (by rw[decide_eq_true hz];rfl)
   have RX:Hid (∀c:Int,0≤c∧c<5→f c=if c<((j+1:Nat):Int) then Ap.due t c else 0):=zH fun c hc2=>by
    rw[HF.out c hc2];by_cases e:c=(j:Int)
    ·rw[if_neg (by omega),if_pos (by omega),e]
     unfold Ap.due Ap.WW;rw[if_neg (fun g=>g.1 hz)]
    ·by_cases e2:c<(j:Int)
     ·rw[if_pos e2,if_pos (by omega)]
     ·rw[if_neg e2,if_neg (by omega)]
   clear hz HF;go_wp2_with (first|refine zX (ku (t:=t) hc) ?_|(refine bE HK ?_;clear HK;intro _ g5 HK;simp only[aS,aK] at HK)|(refine bD (u:=t.get (j:Int)) HK 3 ?_;clear HK;intro _ HK;simp only[lS] at HK)|refine zX (Ie HK 3) ?_|refine zX (qw) ?_|refine zX (oK HZ.out) ?_|refine zX (aR (j:=j) hj3) ?_);exact⟨⟨j+1,f,hlt,rfl,RX,zH (HK.out.aB 3)⟩,by simp[intOf];omega⟩
  case neg=>
  have HZ:Hid ((!decide (t.get (j:Int)=aG.z))=true):=zH (by rw[decide_eq_false hz];rfl)
  cases hd:(t.get (j:Int)).dn with
  | true=>
   have HD:=zH hd
   have RX:Hid (∀c:Int,0≤c∧c<5→f c=if c<((j+1:Nat):Int) then Ap.due t c else 0):=zH fun c hc2=>by
    rw[HF.out c hc2];by_cases e:c=(j:Int)
    ·rw[if_neg (by omega),if_pos (by omega),e]
     unfold Ap.due Ap.WW;rw[if_neg (fun g=>by rw[hd] at g;cases g.2)]
    ·by_cases e2:c<(j:Int)
     ·rw[if_pos e2,if_pos (by omega)]
     ·rw[if_neg e2,if_neg (by omega)]
   clear hz hd HF;go_wp2_with (first|refine zX (ku (t:=t) hc) ?_|(refine bE HK ?_;clear HK;intro _ g5 HK;simp only[aS,aK] at HK)|(refine bD (u:=t.get (j:Int)) HK 3 ?_;clear HK;intro _ HK;simp only[lS] at HK)|refine zX (Ie HK 3) ?_|refine zX (qw) ?_|refine zX (oK HZ.out) ?_|refine zX ((jL HK 3).trans (by rw[HD.out])) ?_|refine zX (aR (j:=j) hj3) ?_);exact⟨⟨j+1,f,hlt,rfl,RX,zH (HK.out.aB 3)⟩,by simp[intOf];omega⟩
  | false=>
   have HD:=zH hd
   have RX:Hid (∀c:Int,0≤c∧c<5→pcU f (j:Int) 1 c=if c<((j+1:Nat):Int) then Ap.due t c else 0):=zH fun c hc2=>by
    unfold pcU;by_cases e:c=(j:Int)
    ·rw[if_pos e,if_pos (by omega),e]
     unfold Ap.due Ap.WW;rw[if_pos ⟨hz,hd⟩]
    ·rw[if_neg e,HF.out c hc2]
     by_cases e2:c<(j:Int)
     ·rw[if_pos e2,if_pos (by omega)]
     ·rw[if_neg e2,if_neg (by omega)]
   clear hz hd HF;go_wp2_with (first|refine zX (ku (t:=t) hc) ?_|(refine bE HK ?_;clear HK;intro _ g5 HK;simp only[aS,aK] at HK)|(refine bD (u:=t.get (j:Int)) HK 3 ?_;clear HK;intro _ HK;simp only[lS] at HK)|refine zX (Ie HK 3) ?_|refine zX (qw) ?_|refine zX (oK HZ.out) ?_|refine zX ((jL HK 3).trans (by rw[HD.out])) ?_|refine zX (IK hc) ?_|(refine Aa (v:=1) HK 2 rfl hc rfl rfl rfl rfl ?_;clear HK;intro _ HK;simp only[lS] at HK)|refine zX (aR (j:=j) hj3) ?_);exact⟨⟨j+1,_,hlt,rfl,RX,zH (HK.out.aB 3)⟩,by simp[intOf];omega⟩
end
section
namespace Ap
open au aG
structure sZ(l:List Ob)(t:T)(f:Int→Nat)(i:Nat):Prop where
 h:∀r∈H (l.take i),MQ (t.get r.c) r=true
 w:∀r∈W (l.take i),aG.look t r=3
 p:∀c:Int,0≤c∧c<5→f c=cnt (W (l.take i)) c
 b:∀c:Int,0≤c∧c<5→f c≤5*i
theorem sZ.nil(l:List Ob)(t:T):sZ l t Yk 0:=by
 refine⟨fun r hr=>?_,fun r hr=>?_,fun c _=>?_,fun c _=>Nat.zero_le _⟩
 ·rw[List.take_zero] at hr;cases hr
 ·rw[List.take_zero] at hr;cases hr
 ·rw[List.take_zero];rfl
structure ni(m:List Rf)(t:T)(f f2:Int→Nat)(j:Nat):Prop where
 w:∀r∈m.take j,aG.look t r=3
 p:∀c:Int,0≤c∧c<5→f2 c=f c+cnt (m.take j) c
theorem ni.nil(m:List Rf)(t:T)(f:Int→Nat):ni m t f f 0:=
 ⟨fun r hr=>(by rw[List.take_zero] at hr;cases hr),fun c _=>(by rw[List.take_zero];rfl)⟩
theorem ni.le{m:List Rf}{t:T}{f f2:Int→Nat}{j:Nat}(h:ni m t f f2 j){c:Int}(hc:0≤c∧c<5):f2 c≤f c+j:=by
 rw[h.p c hc];have:=abv (m.take j) c;rw[List.length_take] at this;omega
theorem ni.step{m:List Rf}{t:T}{f f2:Int→Nat}{j:Nat}{r:Rf}(h:ni m t f f2 j)(hr:m[j]?=some r)(hl:aG.look t r=3):ni m t f (pcU f2 r.c (f2 r.c+1)) (j+1):=by
 refine⟨fun q hq=>?_,fun c hc=>?_⟩
 ·rw[List.take_add_one,hr] at hq
  rcases List.mem_append.1 hq with hq|hq
  ·exact h.w q hq
  ·have:q=r:=by simpa using hq
   rw[this];exact hl
 ·rw[Je hr]
  unfold pcU;by_cases e:c=r.c
  ·rw[if_pos e,if_pos e.symm,← e,h.p c hc]
   omega
  ·rw[if_neg e,if_neg (fun g=>e g.symm),h.p c hc]
   omega
theorem sZ.step{l:List Ob}{t:T}{f f2:Int→Nat}{i:Nat}{o:Ob}(h:sZ l t f i)(ho:l[i]?=some o)(h5:(jS o).length≤5)(hh:∀r∈hld o,MQ (t.get r.c) r=true)(h1:ni (jS o) t f f2 (jS o).length):sZ l t f2 (i+1):=by
 have eH:∀r,r∈H (l.take (i+1))→r∈H (l.take i)∨r∈hld o:=fun r hr=>by
  unfold H at hr;rw[List.take_add_one,ho,List.flatMap_append] at hr
  rcases List.mem_append.1 hr with hr|hr
  ·exact .inl hr
  ·exact .inr (by simpa using hr)
 have eW:∀r,r∈W (l.take (i+1))→r∈W (l.take i)∨r∈jS o:=fun r hr=>by
  unfold W at hr;rw[List.take_add_one,ho,List.flatMap_append] at hr
  rcases List.mem_append.1 hr with hr|hr
  ·exact .inl hr
  ·exact .inr (by simpa using hr)
 refine⟨fun r hr=>(eH r hr).elim (h.h r) (hh r),fun r hr=>(eW r hr).elim (h.w r) fun g=>h1.w r (by rw[List.take_length];exact g),fun c hc=>?_,fun c hc=>?_⟩
 ·rw[XF ho,h1.p c hc,List.take_length,h.p c hc]
 ·have:=h1.le hc
  have:=h.b c hc;omega
theorem ZR{n:Int}{l:List Ob}{t:T}{i:Nat}{o:Ob}{r:Rf}(ho:l[i]?=some o)(hr:r∈hld o)(hb:MQ (t.get r.c) r=false):decide (Ok ⟨n,l,t⟩)=false:=
 decide_eq_false fun h=>by
  have:=(Wm t r).2 (h.h r (List.mem_flatMap.2 ⟨o,List.mem_of_getElem? ho,hr⟩));rw[hb] at this;cases this
theorem ZQ{n:Int}{l:List Ob}{t:T}{i:Nat}{o:Ob}{r:Rf}(ho:l[i]?=some o)(hr:r∈jS o)(hb:¬aG.look t r=3):decide (Ok ⟨n,l,t⟩)=false:=
 decide_eq_false fun h=>hb (h.w r (List.mem_flatMap.2 ⟨o,List.mem_of_getElem? ho,hr⟩))
theorem aiJ{n:Int}{l:List Ob}{t:T}(h:¬0≤n∨¬au.Right l∨¬aG.Right t):decide (Ok ⟨n,l,t⟩)=false:=
 decide_eq_false fun g=>by
  rcases h with h|h|h
  ·exact h g.n
  ·exact h g.l
  ·exact h g.t
theorem afq{n:Int}{l:List Ob}{t:T}{f:Int→Nat}(hn:0≤n)(hl:au.Right l)(ht:aG.Right t)(h:sZ l t f l.length):decide (∀c∈([0,1,2,3,4]:List Int),f c=due t c)=decide (Ok ⟨n,l,t⟩):=by
 have e:l.take l.length=l:=List.take_length;obtain⟨h1,h2,h3,_⟩:=h;rw[e] at h1 h2 h3;refine decide_eq_decide.2 ⟨fun g=>⟨hn,hl,ht,h2,fun r hr=>(Wm t r).1 (h1 r hr),fun c hc=>?_⟩,fun g c hc=>?_⟩
 ·rw[← h3 c (five.1 hc),g c hc,WV ht (five.1 hc)]
 ·rw[h3 c (five.1 hc),WV ht (five.1 hc)]
  exact g.p c hc
theorem YK{o:Ob}(h:One o=true):(jS o).length≤5:=by
 have:=aY.fV (gB h);unfold jS
 split
 ·rw[List.length_drop];omega
 ·exact this
end Ap
end
section
section
variable {b0:Nat}{w0 w:World}{L:List (Nat×TypeId×Array Value)}{R:List bV}{o:Oper}{a:Act}{g:Nat}{p:au.Rp}
theorem Du(HK:Hid (Kn b0 w0 w L R))(i:Nat){r:Operand}(ho:o.op=.load 23 r:=by rfl)(hL:L[i]?=some (g,28,dG p):=by rfl)(hx:a.eval r=.pointer (some ⟨g,0,none⟩):=by rfl):
  (execOp a.eval o).run prog w=.ok (.value (.int .i64 p.e)) w:=aT HK _ r ho i hL hx underlying23
theorem Dt(HK:Hid (Kn b0 w0 w L R))(i:Nat){r:Operand}(ho:o.op=.load 26 r:=by rfl)(hL:L[i]?=some (g,28,dG p):=by rfl)(hx:a.eval r=.pointer (some ⟨g,1,none⟩):=by rfl):
  (execOp a.eval o).run prog w=.ok (.value (.agg #[.int .i64 p.v.k,.int .i64 p.v.n,.int .u64 (p.v.f:Int),.string p.v.s])) w:=
 dY HK r ho i hL hx #[.int .i64 p.v.k,.int .i64 p.v.n,.int .u64 (p.v.f:Int),.string p.v.s] (fun j hj=>by
  match j,hj with
  | 0,_|1,_|2,_|3,_=>rfl) underlying26 iy
theorem oP{x:Int}{b:Bool}{q:Operand}(hb:decide (0≤x)=b)(ho:o.op=.binOp .leq 23 (.const (.int .i64 0)) q 23:=by rfl)(hq:a.eval q=.int .i64 x:=by rfl):
  (execOp a.eval o).run prog w=.ok (.value (.bool b)) w:=by
 exact acM
theorem oQ{x:Int}{b:Bool}{q:Operand}(hb:decide (0≤x)=b)(ho:o.op=.binOp .geq 23 q (.const (.int .i64 0)) 23:=by rfl)(hq:a.eval q=.int .i64 x:=by rfl):
  (execOp a.eval o).run prog w=.ok (.value (.bool b)) w:=by
 exact acM
theorem oO{x:Int}{b:Bool}{q:Operand}(hb:decide (x≤18)=b)(ho:o.op=.binOp .leq 23 q (.const (.int .i64 18)) 23:=by rfl)(hq:a.eval q=.int .i64 x:=by rfl):
  (execOp a.eval o).run prog w=.ok (.value (.bool b)) w:=by
 have he:a.eval (.const (.int .i64 18))=.int .i64 18:=rfl;subst hb;unfold execOp;simp only[ho,hq,he];go_simp
end
theorem Ko(p:au.Rp)(w:World)(hf:p.v.f<18446744073709551616):Calls prog 106 #[.agg (dG p)] w (dw (au.rep p) w):=by
 have HC:=zH (fun W=>tY p.v W hf);have HK:=jw w 28 (dG p);unfold dw au.rep;unfold iQ vv at HC;generalize h1:decide (0≤p.e)=b1;have H1:=zH h1;generalize h2:decide (p.e≤18)=b2;have H2:=zH h2;generalize Val.aX p.v=z at *
 clear h1 h2 hf;cases b1
 ·go_enter func106,ntmps106
  go_wp2_with (first|refine zX (Du HK 0) ?_|refine zX (Dt HK 0) ?_|refine zX (oP (x:=p.e) H1.out) ?_|refine zX (oQ (x:=p.e) H1.out) ?_|refine zX (oO (x:=p.e) H2.out) ?_);exact nu
 cases b2
 ·go_enter func106,ntmps106
  go_wp2_with (first|refine zX (Du HK 0) ?_|refine zX (Dt HK 0) ?_|refine zX (oP (x:=p.e) H1.out) ?_|refine zX (oQ (x:=p.e) H1.out) ?_|refine zX (oO (x:=p.e) H2.out) ?_);exact nu
 ·go_enter func106,ntmps106
  go_wp2_with (first|refine zX (Du HK 0) ?_|refine zX (Dt HK 0) ?_|refine zX (oP (x:=p.e) H1.out) ?_|refine zX (oQ (x:=p.e) H1.out) ?_|refine zX (oO (x:=p.e) H2.out) ?_);refine cb (HC.out _) HK ?_;clear HK;intro _ HK;exact jq
theorem Au(p:au.Rp)(w:World)(hf:p.v.f<18446744073709551616):Calls prog 90 #[.agg (dG p)] w (dw (au.rep p) w):=by
 have HC:=zH (fun W=>bK p.v W hf);have HK:=jw w 28 (dG p);unfold dw au.rep;unfold iQ vv at HC;generalize h1:decide (0≤p.e)=b1;have H1:=zH h1;generalize h2:decide (p.e≤18)=b2;have H2:=zH h2;generalize Val.aX p.v=z at *
 clear h1 h2 hf;cases b1
 ·go_enter func90,ntmps90
  go_wp2_with (first|refine zX (Du HK 0) ?_|refine zX (Dt HK 0) ?_|refine zX (oP (x:=p.e) H1.out) ?_|refine zX (oQ (x:=p.e) H1.out) ?_|refine zX (oO (x:=p.e) H2.out) ?_);exact nu
 cases b2
 ·go_enter func90,ntmps90
  go_wp2_with (first|refine zX (Du HK 0) ?_|refine zX (Dt HK 0) ?_|refine zX (oP (x:=p.e) H1.out) ?_|refine zX (oQ (x:=p.e) H1.out) ?_|refine zX (oO (x:=p.e) H2.out) ?_);exact nu
 ·go_enter func90,ntmps90
  go_wp2_with (first|refine zX (Du HK 0) ?_|refine zX (Dt HK 0) ?_|refine zX (oP (x:=p.e) H1.out) ?_|refine zX (oQ (x:=p.e) H1.out) ?_|refine zX (oO (x:=p.e) H2.out) ?_);refine cb (HC.out _) HK ?_;clear HK;intro _ HK;exact jq
end
section
theorem Km(s:aG.S)(w:World)(hf:s.p.v.f<18446744073709551616):Calls prog 56 #[.agg (fK s)] w (dw (aG.snd s) w):=by
 obtain⟨l,ep,rq,dn,p⟩:=s;have HC:=zH (fun W=>Ko p W hf);have HK:=jw w 30 (fK ⟨l,ep,rq,dn,p⟩);unfold dw aG.snd;unfold dw at HC;dsimp only;generalize h1:decide (0<ep)=b1;have H1:Hid (decide (ep≤0)=!b1):=zH (by rw[← h1,Bool.eq_iff_iff];simp);generalize h2:decide (0≤rq)=b2;have H2:Hid (decide (rq<0)=!b2):=zH (by rw[← h2,Bool.eq_iff_iff];simp);generalize h4:decide (0<rq)=b4;have H4:=zH h4;generalize h5:decide (p=au.rz)=b5;have H5:=zH h5;generalize au.rep p=b3 at *
 clear h1 h2 h4 h5 hf;cases b1
 case false=>
  go_enter func56,ntmps56;go_wp2_with (first|refine zX (nI HK 0) ?_|refine zX (ou HK 0) ?_|refine zX (jL HK 0) ?_|refine zX (lU HK 0) ?_|refine zX (kH HK 0) ?_|refine zX (jh (m:=ep) (n:=0) H1.out) ?_|refine zX (bM (m:=rq) (n:=0) H2.out) ?_|refine zX (bN (m:=rq) (n:=0) H4.out) ?_|refine zX (gF) ?_|refine zX (kr (p:=p) (q:=au.rz) H5.out) ?_);exact nu
 cases b2
 case false=>
  go_enter func56,ntmps56;go_wp2_with (first|refine zX (nI HK 0) ?_|refine zX (ou HK 0) ?_|refine zX (jL HK 0) ?_|refine zX (lU HK 0) ?_|refine zX (kH HK 0) ?_|refine zX (jh (m:=ep) (n:=0) H1.out) ?_|refine zX (bM (m:=rq) (n:=0) H2.out) ?_|refine zX (bN (m:=rq) (n:=0) H4.out) ?_|refine zX (gF) ?_|refine zX (kr (p:=p) (q:=au.rz) H5.out) ?_);exact nu
 cases b3
 case false=>
  go_enter func56,ntmps56;go_wp2_with (first|refine zX (nI HK 0) ?_|refine zX (ou HK 0) ?_|refine zX (jL HK 0) ?_|refine zX (lU HK 0) ?_|refine zX (kH HK 0) ?_|refine zX (jh (m:=ep) (n:=0) H1.out) ?_|refine zX (bM (m:=rq) (n:=0) H2.out) ?_|refine zX (bN (m:=rq) (n:=0) H4.out) ?_|refine zX (gF) ?_|refine zX (kr (p:=p) (q:=au.rz) H5.out) ?_);refine cb (HC.out _) HK ?_;clear HK;intro _ HK;go_wp2_with (first|refine zX (nI HK 0) ?_|refine zX (ou HK 0) ?_|refine zX (jL HK 0) ?_|refine zX (lU HK 0) ?_|refine zX (kH HK 0) ?_|refine zX (jh (m:=ep) (n:=0) H1.out) ?_|refine zX (bM (m:=rq) (n:=0) H2.out) ?_|refine zX (bN (m:=rq) (n:=0) H4.out) ?_|refine zX (gF) ?_|refine zX (kr (p:=p) (q:=au.rz) H5.out) ?_);exact nu
 cases dn
 case true=>
  go_enter func56,ntmps56;go_wp2_with (first|refine zX (nI HK 0) ?_|refine zX (ou HK 0) ?_|refine zX (jL HK 0) ?_|refine zX (lU HK 0) ?_|refine zX (kH HK 0) ?_|refine zX (jh (m:=ep) (n:=0) H1.out) ?_|refine zX (bM (m:=rq) (n:=0) H2.out) ?_|refine zX (bN (m:=rq) (n:=0) H4.out) ?_|refine zX (gF) ?_|refine zX (kr (p:=p) (q:=au.rz) H5.out) ?_);refine cb (HC.out _) HK ?_;clear HK;intro _ HK;have k3:=HK.out.cell 0 rfl 3 (v:=.bool true) rfl;exact jq
 cases l
 case false=>
  go_enter func56,ntmps56;go_wp2_with (first|refine zX (nI HK 0) ?_|refine zX (ou HK 0) ?_|refine zX (jL HK 0) ?_|refine zX (lU HK 0) ?_|refine zX (kH HK 0) ?_|refine zX (jh (m:=ep) (n:=0) H1.out) ?_|refine zX (bM (m:=rq) (n:=0) H2.out) ?_|refine zX (bN (m:=rq) (n:=0) H4.out) ?_|refine zX (gF) ?_|refine zX (kr (p:=p) (q:=au.rz) H5.out) ?_);refine cb (HC.out _) HK ?_;clear HK;intro _ HK;go_wp2_with (first|refine zX (jL HK 0) ?_|refine zX (lU HK 0) ?_);exact nu
 cases b4
 case false=>
  go_enter func56,ntmps56;go_wp2_with (first|refine zX (nI HK 0) ?_|refine zX (ou HK 0) ?_|refine zX (jL HK 0) ?_|refine zX (lU HK 0) ?_|refine zX (kH HK 0) ?_|refine zX (jh (m:=ep) (n:=0) H1.out) ?_|refine zX (bM (m:=rq) (n:=0) H2.out) ?_|refine zX (bN (m:=rq) (n:=0) H4.out) ?_|refine zX (gF) ?_|refine zX (kr (p:=p) (q:=au.rz) H5.out) ?_);refine cb (HC.out _) HK ?_;clear HK;intro _ HK;go_wp2_with (first|refine zX (jL HK 0) ?_|refine zX (lU HK 0) ?_|refine zX (ou HK 0) ?_|refine zX (bN (m:=rq) (n:=0) H4.out) ?_);exact nu
 go_enter func56,ntmps56;go_wp2_with (first|refine zX (nI HK 0) ?_|refine zX (ou HK 0) ?_|refine zX (jL HK 0) ?_|refine zX (lU HK 0) ?_|refine zX (kH HK 0) ?_|refine zX (jh (m:=ep) (n:=0) H1.out) ?_|refine zX (bM (m:=rq) (n:=0) H2.out) ?_|refine zX (bN (m:=rq) (n:=0) H4.out) ?_|refine zX (gF) ?_|refine zX (kr (p:=p) (q:=au.rz) H5.out) ?_);refine cb (HC.out _) HK ?_;clear HK;intro _ HK;go_wp2_with (first|refine zX (nI HK 0) ?_|refine zX (ou HK 0) ?_|refine zX (jL HK 0) ?_|refine zX (lU HK 0) ?_|refine zX (kH HK 0) ?_|refine zX (jh (m:=ep) (n:=0) H1.out) ?_|refine zX (bM (m:=rq) (n:=0) H2.out) ?_|refine zX (bN (m:=rq) (n:=0) H4.out) ?_|refine zX (gF) ?_|refine zX (kr (p:=p) (q:=au.rz) H5.out) ?_);exact nu
theorem Pz(t:aG.T)(w:World):Calls prog 57 #[.agg (dU t)] w (jo (aG.live t (-1)) w):=by
 rw[← aG.ajq];have HK:=jw w 31 (dU t);unfold jo;go_enter func57,ntmps57;go_wp2_with refine zX (qR HK 0) ?_;go_loopw [3,7] (fun v3 v7 wr=>∃k:Nat,k≤5∧v3=.int .i64 (aG.cnt t (-1) k)∧v7=.int .i64 k∧Hid (Kn w.heap.size w wr [(w.heap.size,31,dU t)] [])) (fun _ v7 _=>5-(intOf v7).toNat)
 case atStart=>exact⟨0,Nat.zero_le _,rfl,rfl,HK⟩
 case round=>
  clear HK;obtain⟨k,hk,rfl,rfl,HK⟩:=hrel;have hk1:(0:Int)≤(k:Int):=by omega
  by_cases hlt:k<5
  ·have hk2:(k:Int)<(5:Int):=by omega
   have hk3:k<9223372036854775807:=by omega
   have hc:0≤(k:Int)∧(k:Int)<5:=⟨hk1,hk2⟩;have hcn:=aG.Mr t (-1) k;have hW:IntKind.i64.wrap (aG.cnt t (-1) k+1)=aG.cnt t (-1) k+1:=by rw[IntKind.wrap_i64];omega
   have hS:aG.cnt t (-1) (k+1)=aG.cnt t (-1) k+aG.Ct (t.get (k:Int)).live:=by
    show _+aG.Ct (_&&!decide ((k:Int) = -1))=_
    rw[decide_eq_false (by omega)];simp
   have HW:=zH hW;have HS:=zH hS;clear hW hS hcn;generalize aG.cnt t (-1) k=z at *
   generalize hs:t.get (k:Int)=s at *
   have HI:Hid (t.get (k:Int)=s):=zH hs;clear hs;obtain⟨l,ep,rq,dn,p⟩:=s;cases l
   ·go_wp2_with (first|refine zX ((ku (t:=t) hc).trans (by rw[HI.out])) ?_|(refine bE HK ?_;clear HK;intro _ g1 HK;simp only[aS,aK] at HK)|(refine bD (u:=⟨false,ep,rq,dn,p⟩) HK 1 ?_;clear HK;intro _ HK;simp only[lS] at HK)|refine zX (lU HK 1) ?_|refine zX (fZ (m:=z) HW.out) ?_|refine zX (aR (j:=k) hk3) ?_)
    exact acG
   ·go_wp2_with (first|refine zX ((ku (t:=t) hc).trans (by rw[HI.out])) ?_|(refine bE HK ?_;clear HK;intro _ g1 HK;simp only[aS,aK] at HK)|(refine bD (u:=⟨true,ep,rq,dn,p⟩) HK 1 ?_;clear HK;intro _ HK;simp only[lS] at HK)|refine zX (lU HK 1) ?_|refine zX (fZ (m:=z) HW.out) ?_|refine zX (aR (j:=k) hk3) ?_)
    exact acG
  ·obtain rfl:k=5:=by omega
   exact jq
theorem PD(s:aG.S)(w:World):Calls prog 59 #[.agg (fK s)] w (jo (if s.dn=true then 2 else 3) w):=by
 obtain⟨l,ep,rq,dn,p⟩:=s;have HK:=jw w 30 (fK ⟨l,ep,rq,dn,p⟩);unfold jo;cases dn
 ·go_enter func59,ntmps59
  go_wp2_with refine zX (jL HK 0) ?_;exact nu
 ·go_enter func59,ntmps59
  go_wp2_with refine zX (jL HK 0) ?_;exact nu
end
section
theorem Kw(s:aG.S)(w:World)(hf:s.p.v.f<18446744073709551616):Calls prog 81 #[.agg (fK s)] w (dw (aG.one s) w):=by
 obtain⟨l,ep,rq,dn,p⟩:=s;have HC:=zH (fun W=>Au p W hf);have HK:=jw w 30 (fK ⟨l,ep,rq,dn,p⟩);unfold dw aG.one;unfold dw at HC;dsimp only;by_cases he:ep=0
 ·rw[if_pos he]
  generalize h0:decide ((⟨l,ep,rq,dn,p⟩:aG.S)=aG.z)=b0;have H0:=zH h0;have H1:Hid (decide (ep=0)=true):=zH (decide_eq_true he);clear h0 he;go_enter func81,ntmps81;go_wp2_with (first|refine zX (nI HK 0) ?_|refine zX (Ie HK 0) ?_|refine zX (aJ (m:=ep) (n:=0) H1.out) ?_|refine zX (qw) ?_|refine zX (WJ (s:=⟨l,ep,rq,dn,p⟩) (u:=aG.z) (by rfl) (by rfl) (by rfl) H0.out) ?_);exact nu
 rw[if_neg he];have H1:Hid (decide (ep=0)=false):=zH (decide_eq_false he);have HZ:Hid ((ep==0)=false):=zH (by rw[beq_eq_false_iff_ne];exact he);clear he;generalize h2:decide (0<ep)=b2;have H2:=zH h2;generalize h3:decide (0≤rq)=b3;have H3:=zH h3;generalize h5:decide (p=au.rz)=b5;have H5:Hid ((!decide (p=au.rz))=!b5):=zH (by rw[h5]);generalize h6:decide (1≤rq)=b6;have H6:Hid (decide (rq<1)=!b6):=zH (by rw[← h6,Bool.eq_iff_iff];simp);generalize au.rep p=b4 at *
 clear h2 h3 h5 h6 hf;cases dn
 case true=>
  have hz:=HZ.out;cases b2
  ·have hp:¬0<ep:=of_decide_eq_false H2.out
   have hp2:=H2.out;go_enter func81,ntmps81;have k0:=HK.out.cell 0 rfl 0 (v:=.bool l) rfl;have k1:=HK.out.cell 0 rfl 1 (v:=.int .i64 ep) rfl;have k2:=HK.out.cell 0 rfl 2 (v:=.int .i64 rq) rfl;have k3:=HK.out.cell 0 rfl 3 (v:=.bool true) rfl;exact jq
  have hp:0<ep:=of_decide_eq_true H2.out;have hp2:=H2.out;cases b3
  ·have hr:¬0≤rq:=of_decide_eq_false H3.out
   have hr2:=H3.out;go_enter func81,ntmps81;have k0:=HK.out.cell 0 rfl 0 (v:=.bool l) rfl;have k1:=HK.out.cell 0 rfl 1 (v:=.int .i64 ep) rfl;have k2:=HK.out.cell 0 rfl 2 (v:=.int .i64 rq) rfl;have k3:=HK.out.cell 0 rfl 3 (v:=.bool true) rfl;exact jq
  ·have hr:0≤rq:=of_decide_eq_true H3.out
   have hr2:=H3.out;go_enter func81,ntmps81;have k0:=HK.out.cell 0 rfl 0 (v:=.bool l) rfl;have k1:=HK.out.cell 0 rfl 1 (v:=.int .i64 ep) rfl;have k2:=HK.out.cell 0 rfl 2 (v:=.int .i64 rq) rfl;have k3:=HK.out.cell 0 rfl 3 (v:=.bool true) rfl;have k4:=HK.out.cell 0 rfl 4 (v:=.int .i64 p.e) rfl;have k5:=HK.out.cell 0 rfl 5 (v:=.int .i64 p.v.k) rfl;have k6:=HK.out.cell 0 rfl 6 (v:=.int .i64 p.v.n) rfl;have k7:=HK.out.cell 0 rfl 7 (v:=.int .u64 (p.v.f:Int)) rfl;have k8:=HK.out.cell 0 rfl 8 (v:=.string p.v.s) rfl;go_wp2_with fail;clear k0 k1 k2 k3 k4 k5 k6 k7 k8;refine cb (HC.out _) HK ?_;clear HK;intro _ HK;exact jq
 cases b5
 ·go_enter func81,ntmps81
  have k0:=HK.out.cell 0 rfl 0 (v:=.bool l) rfl;have k1:=HK.out.cell 0 rfl 1 (v:=.int .i64 ep) rfl;have k2:=HK.out.cell 0 rfl 2 (v:=.int .i64 rq) rfl;have k3:=HK.out.cell 0 rfl 3 (v:=.bool false) rfl;go_wp2_with (first|refine zX (aJ (m:=ep) (n:=0) H1.out) ?_|refine zX (kH HK 0) ?_|refine zX (oM (p:=p) (q:=au.rz) H5.out) ?_|refine zX (gF) ?_);exact nu
 cases b6
 ·go_enter func81,ntmps81
  have k0:=HK.out.cell 0 rfl 0 (v:=.bool l) rfl;have k1:=HK.out.cell 0 rfl 1 (v:=.int .i64 ep) rfl;have k2:=HK.out.cell 0 rfl 2 (v:=.int .i64 rq) rfl;have k3:=HK.out.cell 0 rfl 3 (v:=.bool false) rfl;go_wp2_with (first|refine zX (aJ (m:=ep) (n:=0) H1.out) ?_|refine zX (kH HK 0) ?_|refine zX (oM (p:=p) (q:=au.rz) H5.out) ?_|refine zX (gF) ?_|refine zX (bM (m:=rq) (n:=1) H6.out) ?_);exact nu
 cases l
 ·go_enter func81,ntmps81
  have k0:=HK.out.cell 0 rfl 0 (v:=.bool false) rfl;have k1:=HK.out.cell 0 rfl 1 (v:=.int .i64 ep) rfl;have k2:=HK.out.cell 0 rfl 2 (v:=.int .i64 rq) rfl;have k3:=HK.out.cell 0 rfl 3 (v:=.bool false) rfl;go_wp2_with (first|refine zX (aJ (m:=ep) (n:=0) H1.out) ?_|refine zX (kH HK 0) ?_|refine zX (oM (p:=p) (q:=au.rz) H5.out) ?_|refine zX (gF) ?_|refine zX (bM (m:=rq) (n:=1) H6.out) ?_);exact nu
 cases b2
 ·go_enter func81,ntmps81
  have k0:=HK.out.cell 0 rfl 0 (v:=.bool true) rfl;have k1:=HK.out.cell 0 rfl 1 (v:=.int .i64 ep) rfl;have k2:=HK.out.cell 0 rfl 2 (v:=.int .i64 rq) rfl;have k3:=HK.out.cell 0 rfl 3 (v:=.bool false) rfl;go_wp2_with (first|refine zX (aJ (m:=ep) (n:=0) H1.out) ?_|refine zX (kH HK 0) ?_|refine zX (oM (p:=p) (q:=au.rz) H5.out) ?_|refine zX (gF) ?_|refine zX (bM (m:=rq) (n:=1) H6.out) ?_|refine zX (bN (m:=ep) (n:=0) H2.out) ?_);exact nu
 cases b3
 ·go_enter func81,ntmps81
  have k0:=HK.out.cell 0 rfl 0 (v:=.bool true) rfl;have k1:=HK.out.cell 0 rfl 1 (v:=.int .i64 ep) rfl;have k2:=HK.out.cell 0 rfl 2 (v:=.int .i64 rq) rfl;have k3:=HK.out.cell 0 rfl 3 (v:=.bool false) rfl;go_wp2_with (first|refine zX (aJ (m:=ep) (n:=0) H1.out) ?_|refine zX (kH HK 0) ?_|refine zX (oM (p:=p) (q:=au.rz) H5.out) ?_|refine zX (gF) ?_|refine zX (bM (m:=rq) (n:=1) H6.out) ?_|refine zX (bN (m:=ep) (n:=0) H2.out) ?_|refine zX (oN (m:=rq) (n:=0) H3.out) ?_);exact nu
 ·go_enter func81,ntmps81
  have k0:=HK.out.cell 0 rfl 0 (v:=.bool true) rfl;have k1:=HK.out.cell 0 rfl 1 (v:=.int .i64 ep) rfl;have k2:=HK.out.cell 0 rfl 2 (v:=.int .i64 rq) rfl;have k3:=HK.out.cell 0 rfl 3 (v:=.bool false) rfl;go_wp2_with (first|refine zX (aJ (m:=ep) (n:=0) H1.out) ?_|refine zX (kH HK 0) ?_|refine zX (oM (p:=p) (q:=au.rz) H5.out) ?_|refine zX (gF) ?_|refine zX (bM (m:=rq) (n:=1) H6.out) ?_|refine zX (bN (m:=ep) (n:=0) H2.out) ?_|refine zX (oN (m:=rq) (n:=0) H3.out) ?_);clear k0 k1 k2 k3;refine cb (HC.out _) HK ?_;clear HK;intro _ HK;exact jq
theorem CY(t:aG.T)(q:Int)(w:World):Calls prog 82 #[.agg (dU t),.int .i64 q] w (jo (aG.live t q) w):=by
 rw[← aG.ajq];have HK:=jw w 31 (dU t);unfold jo;go_enter func82,ntmps82;go_wp2_with fail;go_loopw [5,6] (fun v5 v6 wr=>∃k:Nat,k≤5∧v5=.int .i64 (aG.cnt t q k)∧v6=.int .i64 k∧Hid (Kn w.heap.size w wr [(w.heap.size,31,dU t)] [])) (fun _ v6 _=>5-(intOf v6).toNat)
 case atStart=>exact⟨0,Nat.zero_le _,rfl,rfl,HK⟩
 case round=>
  clear HK;obtain⟨k,hk,rfl,rfl,HK⟩:=hrel;have hk1:(0:Int)≤(k:Int):=by omega
  by_cases hlt:k<5
  ·have hk2:(k:Int)<(5:Int):=by omega
   have hk3:k<9223372036854775807:=by omega
   have hc:0≤(k:Int)∧(k:Int)<5:=⟨hk1,hk2⟩;have hcn:=aG.Mr t q k;have hW:IntKind.i64.wrap (aG.cnt t q k+1)=aG.cnt t q k+1:=by rw[IntKind.wrap_i64];omega
   have HW:=zH hW;have HS:Hid (aG.cnt t q (k+1)=aG.cnt t q k+aG.Ct ((t.get (k:Int)).live&&!decide ((k:Int)=q))):=zH rfl;clear hW hcn;generalize aG.cnt t q k=z at *
   have HL:Hid (∀{o:Oper} {a:Act} (x:Operand),o.op=.load 4 x→a.eval x=.pointer (some ⟨w.heap.size,(k:Int).toNat*9,none⟩)→(execOp a.eval o).run prog wr=.ok (.value (.bool (t.get (k:Int)).live)) wr):=zH (fun x ho hx=>NV HK 0 hc (x:=x) (ho:=ho) (hx:=hx));generalize hl:(t.get (k:Int)).live=l at *
   clear hl;generalize hq:decide ((k:Int)=q)=b at *
   have HQ:Hid ((!decide ((k:Int)=q))=!b):=zH (by rw[hq]);clear hq;cases l
   ·go_wp2_with (first|refine zX (gM hc) ?_|refine zX (HL.out _ (by rfl) (by rfl)) ?_|refine zX (aR (j:=k) hk3) ?_)
    exact adW
   cases b
   ·go_wp2_with (first|refine zX (gM hc) ?_|refine zX (HL.out _ (by rfl) (by rfl)) ?_|refine zX (bJ (m:=(k:Int)) (n:=q) HQ.out) ?_|refine zX (fZ (m:=z) HW.out) ?_|refine zX (aR (j:=k) hk3) ?_)
    exact adW
   ·go_wp2_with (first|refine zX (gM hc) ?_|refine zX (HL.out _ (by rfl) (by rfl)) ?_|refine zX (bJ (m:=(k:Int)) (n:=q) HQ.out) ?_|refine zX (fZ (m:=z) HW.out) ?_|refine zX (aR (j:=k) hk3) ?_)
    exact adW
  ·obtain rfl:k=5:=by omega
   exact jq
end
section
theorem Al(t:aG.T)(w:World)(hf:aG.Fit t):Calls prog 22 #[.agg (dU t)] w (dw (decide (aG.Right t)) w):=by
 have iK:=zH (aG.Da t);have gX:=zH (fun(c:Int) hc=>aG.Gv (t:=t) (c:=c) hc);have HL:=zH (fun W=>Pz t W);have HF:=zH hf;have HK:=jw w 31 (dU t);unfold dw;unfold jo at HL;clear hf;generalize decide (aG.Right t)=r at *
 go_enter func22,ntmps22;go_wp2_with refine zX (qR HK 0) ?_;go_loopw [6] (fun v6 wr=>∃k:Nat,k≤5∧v6=.int .i64 k∧Hid (∀c:Int,0≤c∧c<(k:Int)→aG.one (t.get c)=true)∧Hid (Kn w.heap.size w wr [(w.heap.size,31,dU t)] [])) (fun v6 _=>5-(intOf v6).toNat)
 case atStart=>exact⟨0,Nat.zero_le _,rfl,zH (fun c hc=>by omega),HK⟩
 case round=>
  clear HK;obtain⟨k,hk,rfl,kE,HK⟩:=hrel;have hk1:(0:Int)≤(k:Int):=by omega
  by_cases hlt:k<5
  ·have hk2:(k:Int)<(5:Int):=by omega
   have hk3:k<9223372036854775807:=by omega
   have hc:0≤(k:Int)∧(k:Int)<5:=⟨hk1,hk2⟩;have HN:=zH (gX.out (k:Int) hc);have HC:=zH (fun W=>Km (t.get (k:Int)) W (HF.out _ hc));have uX:=zH (aG.ZK (t.get (k:Int)))
   have nU:Hid (aG.one (t.get (k:Int))=true→∀c:Int,0≤c∧c<((k+1:Nat):Int)→aG.one (t.get c)=true):=zH fun h c hc=>by
    by_cases e:c=(k:Int)
    ·rw[e];exact h
    ·exact kE.out c (by omega)
   generalize hs:t.get (k:Int)=s at *
   have HI:Hid (t.get (k:Int)=s):=zH hs;clear hs;unfold dw at HC;generalize h0:decide (s=aG.z)=b0 at *
   have H0:Hid ((!decide (s=aG.z))=!b0):=zH (by rw[h0]);clear h0;generalize aG.snd s=b1 at *
   cases b0
   ·cases b1
    ·have HR:=zH (HN.out (by rw[uX.out];rfl))
     clear nU uX HN;go_wp2_with (first|refine zX ((ku (t:=t) hc).trans (by rw[HI.out])) ?_|(refine bE HK ?_;clear HK;intro _ g1 HK;simp only[aS,aK] at HK)|(refine bD (u:=s) HK 1 ?_;clear HK;intro _ HK;simp only[lS] at HK)|refine zX (Ie HK 1) ?_|refine zX (qw) ?_|refine zX (oK (s:=s) (u:=aG.z) H0.out) ?_);refine cb (HC.out _) HK ?_;clear HK;intro _ HK;exact qZ
    ·replace nU:=zH (nU.out (by rw[uX.out];rfl))
     clear uX HN;go_wp2_with (first|refine zX ((ku (t:=t) hc).trans (by rw[HI.out])) ?_|(refine bE HK ?_;clear HK;intro _ g1 HK;simp only[aS,aK] at HK)|(refine bD (u:=s) HK 1 ?_;clear HK;intro _ HK;simp only[lS] at HK)|refine zX (Ie HK 1) ?_|refine zX (qw) ?_|refine zX (oK (s:=s) (u:=aG.z) H0.out) ?_);refine cb (HC.out _) HK ?_;clear HK;intro _ HK;go_wp2_with refine zX (aR (j:=k) hk3) ?_;exact⟨⟨k+1,hlt,rfl,nU,zH (HK.out.aB 1)⟩,by simp[intOf];omega⟩
   ·replace nU:=zH (nU.out (by rw[uX.out];rfl))
    clear uX HN;go_wp2_with (first|refine zX ((ku (t:=t) hc).trans (by rw[HI.out])) ?_|(refine bE HK ?_;clear HK;intro _ g1 HK;simp only[aS,aK] at HK)|(refine bD (u:=s) HK 1 ?_;clear HK;intro _ HK;simp only[lS] at HK)|refine zX (Ie HK 1) ?_|refine zX (qw) ?_|refine zX (oK (s:=s) (u:=aG.z) H0.out) ?_|refine zX (aR (j:=k) hk3) ?_);exact⟨⟨k+1,hlt,rfl,nU,zH (HK.out.aB 1)⟩,by simp[intOf];omega⟩
  ·obtain rfl:k=5:=by omega
   have HR:=zH (iK.out kE.out);go_wp2_with refine zX (qR HK 0) ?_;refine cb (HL.out _) HK ?_;clear HK;intro _ HK;generalize aG.live t (-1)=z at *
   go_wp2_with refine zX (jh (m:=z) (n:=4) HR.out.symm) ?_;exact nu
theorem nO(t:aG.T)(w:World)(hf:aG.Fit t):Calls prog 38 #[.agg (dU t)] w (dw (decide (aG.Right t)) w):=by
 have iK:=zH (aG.Da t);have gX:=zH (fun(c:Int) hc=>aG.Gv (t:=t) (c:=c) hc);have HL:=zH (fun W=>CY t (-1) W);have HF:=zH hf;have HK:=jw w 31 (dU t);unfold dw;unfold jo at HL;clear hf;generalize decide (aG.Right t)=r at *
 go_enter func38,ntmps38;go_wp2_with fail;go_loopw [3] (fun v6 wr=>∃k:Nat,k≤5∧v6=.int .i64 k∧Hid (∀c:Int,0≤c∧c<(k:Int)→aG.one (t.get c)=true)∧Hid (Kn w.heap.size w wr [(w.heap.size,31,dU t)] [])) (fun v6 _=>5-(intOf v6).toNat)
 case atStart=>exact⟨0,Nat.zero_le _,rfl,zH (fun c hc=>by omega),HK⟩
 case round=>
  clear HK;obtain⟨k,hk,rfl,kE,HK⟩:=hrel;have hk1:(0:Int)≤(k:Int):=by omega
  by_cases hlt:k<5
  ·have hk2:(k:Int)<(5:Int):=by omega
   have hk3:k<9223372036854775807:=by omega
   have hc:0≤(k:Int)∧(k:Int)<5:=⟨hk1,hk2⟩;have HN:=zH (gX.out (k:Int) hc);have HC:=zH (fun W=>Kw (t.get (k:Int)) W (HF.out _ hc))
   have nU:Hid (aG.one (t.get (k:Int))=true→∀c:Int,0≤c∧c<((k+1:Nat):Int)→aG.one (t.get c)=true):=zH fun h c hc=>by
    by_cases e:c=(k:Int)
    ·rw[e];exact h
    ·exact kE.out c (by omega)
   unfold dw at HC;generalize aG.one (t.get (k:Int))=b1 at *
   go_wp2_with (first|refine zX (gM hc) ?_|refine zX (kts HK 0 hc) ?_);refine cb (HC.out _) HK ?_;clear HK;intro _ HK;cases b1
   ·have HR:=zH (HN.out rfl)
    clear nU HN;exact qZ
   ·replace nU:=zH (nU.out rfl)
    clear HN;go_wp2_with refine zX (aR (j:=k) hk3) ?_;exact⟨⟨k+1,hlt,rfl,nU,HK⟩,by simp[intOf];omega⟩
  ·obtain rfl:k=5:=by omega
   have HR:=zH (iK.out kE.out);go_wp2_with refine zX (qR HK 0) ?_;refine cb (HL.out _) HK ?_;clear HK;intro _ HK;generalize aG.live t (-1)=z at *
   go_wp2_with refine zX (jh (m:=z) (n:=4) HR.out.symm) ?_;exact nu
end
section
namespace aG
def Dq(b1 b2 b3 b4 b5 l b6 d:Bool):Int:=if (b1&&b2)=true then 1 else if (b3 || b4)=true then 5 else if b5=true then (if d=true then 2 else 3) else if l=false then 4 else if (b6&&d)=true then 1 else 5
theorem Vm(s:S)(r:Rf):nH s r=Dq (decide (r.r=0)) (decide (s.ep<r.e)) (!decide (r.e=s.ep)) (decide (r.r<s.rq)) (decide (r.r=s.rq)) s.live (decide (r.r-1=s.rq)) s.dn:=by
 unfold nH Dq
 congr 1
 ·simp
 ·congr 1
  ·simp
  ·simp
theorem ZP{r:Rf}(h1:decide (aY.ok r)=true)(h:r.r≤9223372036854775807):IntKind.i64.wrap (r.r-1)=r.r-1:=by
 obtain⟨_,_,_,h0⟩:=of_decide_eq_true h1;rw[IntKind.wrap_i64];omega
def lookW(t:T)(r:Rf):Int:=if aY.ok r∧Right t then Dq (decide (r.r=0)) (decide ((t.get r.c).ep<r.e)) (!decide (r.e=(t.get r.c).ep)) (decide (r.r<(t.get r.c).rq)) (decide (r.r=(t.get r.c).rq)) (t.get r.c).live (decide (IntKind.i64.wrap (r.r-1)=(t.get r.c).rq)) (t.get r.c).dn else 5
theorem Hy{t:T}{r:Rf}(h1:decide (aY.ok r)=true)(h2:decide (Right t)=true):lookW t r=Dq (decide (r.r=0)) (decide ((t.get r.c).ep<r.e)) (!decide (r.e=(t.get r.c).ep)) (decide (r.r<(t.get r.c).rq)) (decide (r.r=(t.get r.c).rq)) (t.get r.c).live (decide (IntKind.i64.wrap (r.r-1)=(t.get r.c).rq)) (t.get r.c).dn:=if_pos ⟨of_decide_eq_true h1,of_decide_eq_true h2⟩
theorem Dp{t:T}{r:Rf}(h1:decide (aY.ok r)=false):lookW t r=5:=if_neg fun h=>of_decide_eq_false h1 h.1
theorem Dn{t:T}{r:Rf}(h2:decide (Right t)=false):lookW t r=5:=if_neg fun h=>of_decide_eq_false h2 h.2
theorem Vo{t:T}{r:Rf}(h:r.r≤9223372036854775807):lookW t r=look t r:=by
 unfold lookW look;by_cases g:aY.ok r∧Right t
 ·rw[if_pos g,if_pos g,Vm,ZP (decide_eq_true g.1) h]
 ·rw[if_neg g,if_neg g]
theorem aai(b1 b2 b3 b4 b5 l b6 b7 d:Bool):decide (Dq b1 b2 b3 b4 b5 l b6 d=3)=decide (Dq b1 b2 b3 b4 b5 l b7 d=3):=by
 cases b1<;>cases b2<;>cases b3<;>cases b4<;>cases b5<;>cases l<;>cases b6<;>cases b7<;>cases d<;>rfl
theorem zG(t:T)(r:Rf):decide (lookW t r=3)=decide (look t r=3):=by
 unfold lookW look;by_cases g:aY.ok r∧Right t
 ·rw[if_pos g,if_pos g,Vm]
  exact aai ..
 ·rw[if_neg g,if_neg g]
end aG
end
section
theorem Py(t:aG.T)(r:Rf)(w:World)(hf:aG.Fit t):Calls prog 25 #[.agg (dU t),.agg #[.int .i64 r.c,.int .i64 r.e,.int .i64 r.r]] w (jo (aG.lookW t r) w):=by
 have HM:=zH (fun W=>OH r W);have HT:=zH (fun W=>Al t W hf);have HK:=uj w 31 (dU t) 44 #[.int .i64 r.c,.int .i64 r.e,.int .i64 r.r];have HO1:=zH (fun h=>aG.Dp (t:=t) (r:=r) h);have FY:=zH (fun h=>aG.Dn (t:=t) (r:=r) h);have HO3:=zH (fun h1 h2=>aG.Hy (t:=t) (r:=r) h1 h2);have HO5:Hid (decide (aY.ok r)=true→0≤r.c∧r.c<5):=zH (fun h=>aG.mR (of_decide_eq_true h));unfold jo;unfold dw at HM HT;clear hf;generalize aG.lookW t r=x at *
 generalize decide (aG.Right t)=y at *
 generalize decide (aY.ok r)=z at *
 go_enter func25,ntmps25;go_wp2_with refine zX (aP HK 1) ?_;refine cb (HM.out _) HK ?_;clear HK;intro _ HK;cases z
 case false=>
  have HX:=zH (HO1.out (by simp));go_wp2_with fail;exact yD
 go_wp2_with refine zX (qR HK 0) ?_;refine cb (HT.out _) HK ?_;clear HK;intro _ HK;cases y
 case false=>
  have HX:=zH (FY.out (by simp));go_wp2_with fail;exact yD
 have HX:=zH (HO3.out (by simp) (by simp));have hc:=HO5.out (by simp);clear HO1 FY HO3 HO5;go_upto_region 4 with (first|refine zX (qO (x:=r) HK 1) ?_|refine zX (gM hc) ?_|refine zX (kts HK 0 hc) ?_|(refine bE HK ?_;clear HK;intro _ g1 HK;simp only[aS,aK] at HK)|(refine bD (u:=t.get r.c) HK 2 ?_;clear HK;intro _ HK;simp only[lS] at HK));generalize t.get r.c=s at *
 obtain⟨rc,re,rr⟩:=r;obtain⟨l,ep,rq,d,p⟩:=s;dsimp only at *
 have HLa:=zH (fun W=>PD ⟨l,ep,rq,d,p⟩ W);have k0:=HK.out.cell 2 rfl 0 (v:=.bool l) rfl;have k1:=HK.out.cell 2 rfl 1 (v:=.int .i64 ep) rfl;have k2:=HK.out.cell 2 rfl 2 (v:=.int .i64 rq) rfl;have k3:=HK.out.cell 2 rfl 3 (v:=.bool d) rfl;have q0:=HK.out.cell 1 rfl 0 (v:=.int .i64 rc) rfl;have q1:=HK.out.cell 1 rfl 1 (v:=.int .i64 re) rfl;have q2:=HK.out.cell 1 rfl 2 (v:=.int .i64 rr) rfl;generalize h1:decide (rr=0)=b1 at *
 have H1:=zH h1;generalize h2:decide (ep<re)=b2 at *
 have H2:=zH h2;generalize h3:(!decide (re=ep))=b3 at *
 have H3:=zH h3;generalize h4:decide (rr<rq)=b4 at *
 have H4:=zH h4;generalize h5:decide (rr=rq)=b5 at *
 have H5:=zH h5;generalize hw:IntKind.i64.wrap (rr-1)=rv at *
 have HW:=zH hw;clear hw;generalize h6:decide (rv=rq)=b6 at *
 have H6:=zH h6;clear h1 h2 h3 h4 h5 h6 hc;unfold jo at HLa;cases b1
 case false=>
  cases b3
  case true=>
   go_wp2_with (first|refine zX (aJ (m:=rr) (n:=0) H1.out) ?_|refine zX (bN (m:=re) (n:=ep) H2.out) ?_|refine zX (bJ (m:=re) (n:=ep) H3.out) ?_);exact yD
  cases b4
  case true=>
   go_wp2_with (first|refine zX (aJ (m:=rr) (n:=0) H1.out) ?_|refine zX (bN (m:=re) (n:=ep) H2.out) ?_|refine zX (bJ (m:=re) (n:=ep) H3.out) ?_|refine zX (bM (m:=rr) (n:=rq) H4.out) ?_);exact yD
  cases b5
  case true=>
   cases d
   ·go_wp2_with (first|refine zX (aJ (m:=rr) (n:=0) H1.out) ?_|refine zX (bN (m:=re) (n:=ep) H2.out) ?_|refine zX (bJ (m:=re) (n:=ep) H3.out) ?_|refine zX (bM (m:=rr) (n:=rq) H4.out) ?_|refine zX (aJ (m:=rr) (n:=rq) H5.out) ?_|refine zX (Ie HK 2) ?_)
    refine(HLa.out _).mono ?_;rintro e w1 ⟨rfl,b1⟩;replace HK:=iH HK b1;clear b1 k0 k1 k2 k3 q0 q1 q2;go_wp2_with fail;exact yD
   ·go_wp2_with (first|refine zX (aJ (m:=rr) (n:=0) H1.out) ?_|refine zX (bN (m:=re) (n:=ep) H2.out) ?_|refine zX (bJ (m:=re) (n:=ep) H3.out) ?_|refine zX (bM (m:=rr) (n:=rq) H4.out) ?_|refine zX (aJ (m:=rr) (n:=rq) H5.out) ?_|refine zX (Ie HK 2) ?_)
    refine(HLa.out _).mono ?_;rintro e w1 ⟨rfl,b1⟩;replace HK:=iH HK b1;clear b1 k0 k1 k2 k3 q0 q1 q2;go_wp2_with fail;exact yD
  cases l
  case false=>
   go_wp2_with (first|refine zX (aJ (m:=rr) (n:=0) H1.out) ?_|refine zX (bN (m:=re) (n:=ep) H2.out) ?_|refine zX (bJ (m:=re) (n:=ep) H3.out) ?_|refine zX (bM (m:=rr) (n:=rq) H4.out) ?_|refine zX (aJ (m:=rr) (n:=rq) H5.out) ?_);exact yD
  cases b6
  case false=>
   exact Sc
  cases d
  case true=>
   exact Sc
  exact Sc
 cases b2
 case false=>
  cases b3
  case true=>
   go_wp2_with (first|refine zX (aJ (m:=rr) (n:=0) H1.out) ?_|refine zX (bN (m:=re) (n:=ep) H2.out) ?_|refine zX (bJ (m:=re) (n:=ep) H3.out) ?_);exact yD
  cases b4
  case true=>
   go_wp2_with (first|refine zX (aJ (m:=rr) (n:=0) H1.out) ?_|refine zX (bN (m:=re) (n:=ep) H2.out) ?_|refine zX (bJ (m:=re) (n:=ep) H3.out) ?_|refine zX (bM (m:=rr) (n:=rq) H4.out) ?_);exact yD
  cases b5
  case true=>
   cases d
   ·go_wp2_with (first|refine zX (aJ (m:=rr) (n:=0) H1.out) ?_|refine zX (bN (m:=re) (n:=ep) H2.out) ?_|refine zX (bJ (m:=re) (n:=ep) H3.out) ?_|refine zX (bM (m:=rr) (n:=rq) H4.out) ?_|refine zX (aJ (m:=rr) (n:=rq) H5.out) ?_|refine zX (Ie HK 2) ?_)
    refine(HLa.out _).mono ?_;rintro e w1 ⟨rfl,b1⟩;replace HK:=iH HK b1;clear b1 k0 k1 k2 k3 q0 q1 q2;go_wp2_with fail;exact yD
   ·go_wp2_with (first|refine zX (aJ (m:=rr) (n:=0) H1.out) ?_|refine zX (bN (m:=re) (n:=ep) H2.out) ?_|refine zX (bJ (m:=re) (n:=ep) H3.out) ?_|refine zX (bM (m:=rr) (n:=rq) H4.out) ?_|refine zX (aJ (m:=rr) (n:=rq) H5.out) ?_|refine zX (Ie HK 2) ?_)
    refine(HLa.out _).mono ?_;rintro e w1 ⟨rfl,b1⟩;replace HK:=iH HK b1;clear b1 k0 k1 k2 k3 q0 q1 q2;go_wp2_with fail;exact yD
  cases l
  case false=>
   go_wp2_with (first|refine zX (aJ (m:=rr) (n:=0) H1.out) ?_|refine zX (bN (m:=re) (n:=ep) H2.out) ?_|refine zX (bJ (m:=re) (n:=ep) H3.out) ?_|refine zX (bM (m:=rr) (n:=rq) H4.out) ?_|refine zX (aJ (m:=rr) (n:=rq) H5.out) ?_);exact yD
  cases b6
  case false=>
   exact Sc
  cases d
  case true=>
   exact Sc
  exact Sc
 go_wp2_with (first|refine zX (aJ (m:=rr) (n:=0) H1.out) ?_|refine zX (bN (m:=re) (n:=ep) H2.out) ?_);exact yD
end
end Go.Proofs.YtahdlddbbnjloaaGreat
