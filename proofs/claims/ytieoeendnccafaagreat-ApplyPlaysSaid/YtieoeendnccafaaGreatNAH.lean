/- What meter.told returns: all that may be asked of a meter, each in its place; the memory behind it has two blocks more. No condition but those named. -/
import Derived.Test.YtieoeendnccafaaGreatNAG
import Derived.Test.YtieoeendnccafaaGreatNAE
set_option linter.unusedSimpArgs false
set_option linter.unusedVariables false
set_option maxRecDepth 100000
set_option maxHeartbeats 25600000
open Go.RowKit
namespace Go.Proofs.YtieoeendnccafaaGreat
open _root_.Go.Proofs.Tryz
section
namespace av
structure Ob where
 name:ByteArray
 kind:Int
 cap:Int
 dP:List aK.Pr
 vals:List Val.V
 refs:List Rf
 round:Int
 mt:mG
 deriving DecidableEq
structure Ot where
 r:Rf
 p:Rp
 deriving DecidableEq
structure Oc where
 o:Ob
 p:Rp
 later:Bool
 outs:List Ot
structure Rs where
 l:List Ob
 p:Rp
 later:Bool
 outs:List Ot
def named(s:ByteArray):Prop:=¬s.size=0∧s.size≤16
instance (s:ByteArray):Decidable (named s):=by unfold named;infer_instance
def h0(k:Int):Bool:=decide (k=2∨k=4)
def h1(k:Int):Bool:=decide (k=1)
def h2(k:Int):Bool:=decide (k=2)
def h3(k:Int):Bool:=decide (k=3∨k=4)
def h4(k:Int):Bool:=decide (k=4)
def h5(k:Int):Bool:=decide (k=5)
def is(k:Int):Bool:=decide (1≤k∧k≤5)
def f0(o:Ob):Bool:=!decide (o.cap=0)
def f1(o:Ob):Bool:=decide (0<o.dP.length)
def f2(o:Ob):Bool:=decide (0<o.vals.length)
def f3(o:Ob):Bool:=decide (0<o.refs.length)
def f4(o:Ob):Bool:=!decide (o.round=0)
def f5(o:Ob):Bool:=!decide (o.mt=Mt.zero)
def clean(o:Ob):Bool:=is o.kind&&((!f0 o || h0 o.kind)&&(!f1 o || h1 o.kind)&&(!f2 o || h2 o.kind)&&(!f3 o || h3 o.kind)&&(!f4 o || h4 o.kind)&&(!f5 o || h5 o.kind))
def sound(o:Ob):Bool:=if o.kind=1 then decide (aK.Right o.dP) else if o.kind=2 then decide (dK.Right o.cap o.vals) else if o.kind=3 then decide (aS.Right o.refs) else if o.kind=4 then decide (Gt.Right o.cap o.refs)&&decide (0≤o.round) else if o.kind=5 then decide (Mt.Ok o.mt) else false
def One(o:Ob):Bool:=decide (named o.name)&&clean o&&sound o
theorem Sc{o:Ob}(h:sound o=true):is o.kind=true:=by
 unfold sound at h;unfold is;by_cases g1:o.kind=1
 ·rw[g1];rfl
 by_cases g2:o.kind=2
 ·rw[g2];rfl
 by_cases g3:o.kind=3
 ·rw[g3];rfl
 by_cases g4:o.kind=4
 ·rw[g4];rfl
 by_cases g5:o.kind=5
 ·rw[g5];rfl
 rw[if_neg g1,if_neg g2,if_neg g3,if_neg g4,if_neg g5] at h;cases h
def Up(l:List Ob):Prop:=l.Pairwise fun a b=>aK.lt a.name b.name=true
theorem RL{l:List Ob}(h:∀i x y,l[i]?=some x→l[i+1]?=some y→aK.lt x.name y.name=true):Up l:=by
 induction l with
 | nil=>exact List.Pairwise.nil
 | cons a r ih=>
  have hr:=ih fun i x y hx hy=>h (i+1) x y (by simpa using hx) (by simpa using hy)
  refine List.Pairwise.cons (fun b hb=>?_) hr
  match r,hb,hr,h with
  | c::r',hb,hr,h=>
   have h0:=h 0 a c rfl rfl
   rcases List.mem_cons.1 hb with rfl|hb
   ·exact h0
   ·exact aK.lt_trans h0 ((List.pairwise_cons.1 hr).1 b hb)
def jc:List Ob→ByteArray→Option Ob
 | [],_=>none
 | x::r,k=>if x.name=k then some x else jc r k
def wo(l:List Ob)(k:ByteArray):List Ob:=l.filter fun p=>!decide (p.name=k)
def idx:List Ob→ByteArray→Nat
 | [],_=>0
 | x::r,k=>if aK.lt x.name k=true then idx r k+1 else 0
def fin(l:List Ob)(k:ByteArray):Nat:=match l[idx l k]? with
 | some x=>if x.name=k then idx l k+1 else idx l k
 | none=>idx l k
theorem nR(l:List Ob)(k:ByteArray):idx l k≤l.length:=by
 induction l with
 | nil=>exact Nat.le_refl _
 | cons x r ih=>unfold idx;split<;>simp<;>omega
theorem sQ{l:List Ob}{k:ByteArray}{i:Nat}{x:Ob}(h:i<idx l k)(hx:l[i]?=some x):aK.lt x.name k=true:=by
 induction l generalizing i with
 | nil=>simp at hx
 | cons y r ih=>
  unfold idx at h
  split at h
  next hy=>
   match i,h,hx with
   | 0,_,hx=>simp at hx;subst hx;exact hy
   | i+1,h,hx=>exact ih (i:=i) (Nat.lt_of_succ_lt_succ h) (by simpa using hx)
  ·omega
theorem sS{l:List Ob}{k:ByteArray}{x:Ob}(hx:l[idx l k]?=some x):aK.lt x.name k=false:=by
 induction l with
 | nil=>simp at hx
 | cons y r ih=>
  unfold idx at hx
  split at hx
  ·exact ih (by simpa using hx)
  next hy=>simp at hx;subst hx;simpa using hy
theorem Bb{l:List Ob}{k:ByteArray}{i:Nat}(h1:∀j x,j<i→l[j]?=some x→aK.lt x.name k=true)(hi:i≤l.length)(h2:∀x,l[i]?=some x→aK.lt x.name k=false):idx l k=i:=by
 rcases Nat.lt_trichotomy (idx l k) i with h|h|h
 ·obtain⟨x,hx⟩:∃x,l[idx l k]?=some x:=⟨_,List.getElem?_eq_getElem (by omega)⟩
  have e1:=h1 _ x h hx;rw[sS hx] at e1;cases e1
 ·exact h
 ·have hle:=nR l k
  obtain⟨x,hx⟩:∃x,l[i]?=some x:=⟨_,List.getElem?_eq_getElem (by omega)⟩;have e1:=sQ h hx;rw[h2 x hx] at e1;cases e1
theorem kQ(l:List Ob)(k:ByteArray):idx l k≤fin l k∧fin l k≤l.length:=by
 have h:=nR l k;unfold fin
 split
 next x hx=>
  have:=(List.getElem?_eq_some_iff.1 hx).1
  split<;>omega
 next=>omega
theorem kC{x:Ob}{r:List Ob}{k:ByteArray}(h:aK.lt x.name k=true):idx (x::r) k=idx r k+1∧fin (x::r) k=fin r k+1:=by
 have e:idx (x::r) k=idx r k+1:=by conv=>lhs;unfold idx;rw[if_pos h]
 refine⟨e,?_⟩;unfold fin;rw[e,List.getElem?_cons_succ]
 split<;>(try split)<;>rfl
theorem oN{x:Ob}{r:List Ob}:idx (x::r) x.name=0∧fin (x::r) x.name=1:=by
 have e:idx (x::r) x.name=0:=by unfold idx;rw[if_neg (by rw[aK.lt_irrefl];simp)]
 refine⟨e,?_⟩;unfold fin;rw[e];simp
theorem kD{x:Ob}{r:List Ob}{k:ByteArray}(h:aK.lt k x.name=true):idx (x::r) k=0∧fin (x::r) k=0:=by
 have e:idx (x::r) k=0:=by unfold idx;rw[if_neg (by rw[aK.lt_asymm h];simp)]
 refine⟨e,?_⟩;unfold fin;rw[e];have hne:¬x.name=k:=fun e=>aK.rJ h e.symm
 simp[hne]
theorem rX{l:List Ob}{k:ByteArray}(h:∀x∈l,¬x.name=k):wo l k=l:=by
 unfold wo;rw[List.filter_eq_self];intro x hx;simp[h x hx]
theorem yw{l:List Ob}{k:ByteArray}(h:∀x∈l,¬x.name=k):jc l k=none:=by
 induction l with
 | nil=>rfl
 | cons x r ih=>
  exact ZI
theorem above{x:Ob}{r:List Ob}(h:Up (x::r)){k:ByteArray}(hk:x.name=k∨aK.lt k x.name=true):∀y∈r,aK.lt k y.name=true:=fun y hy=>by
 have h1:=(List.pairwise_cons.1 h).1 y hy
 rcases hk with rfl|hk
 ·exact h1
 ·exact aK.lt_trans hk h1
theorem yj{l:List Ob}{k:ByteArray}(h:∀y∈l,aK.lt k y.name=true):idx l k=0:=by
 match l,h with
 | [],_=>rfl
 | x::r,h=>exact(kD (h x (List.mem_cons_self ..))).1
theorem fu{l:List Ob}(h:Up l)(k:ByteArray):l.take (idx l k)++l.drop (fin l k)=wo l k∧idx (wo l k) k=idx l k∧(jc l k=if fin l k=idx l k then none else l[idx l k]?)∧fin l k≤idx l k+1:=by
 induction l with
 | nil=>exact⟨rfl,rfl,rfl,Nat.le_succ 0⟩
 | cons x r ih=>
  obtain⟨i1,i2,i3,i4⟩:=ih (List.pairwise_cons.1 h).2
  rcases aK.AO x.name k with hk|hk|hk
  ·obtain⟨e1,e2⟩:=kC (r:=r) hk
   have hne:=aK.rJ hk;have ew:wo (x::r) k=x::wo r k:=by unfold wo;rw[List.filter_cons_of_pos (by simp[hne])]
   refine⟨?_,?_,?_,by omega⟩
   ·rw[e1,e2,ew,List.take_succ_cons,List.drop_succ_cons,aO,i1]
   ·rw[ew,(kC hk).1,i2,e1]
   ·rw[e1,e2,List.getElem?_cons_succ]
    have ef:jc (x::r) k=jc r k:=by conv=>lhs;unfold jc;rw[if_neg hne]
    rw[ef,i3];by_cases hh:fin r k=idx r k
    ·rw[if_pos hh,if_pos (by omega)]
    ·rw[if_neg hh,if_neg (by omega)]
  ·subst hk
   obtain⟨e1,e2⟩:=oN (x:=x) (r:=r);have hab:=above h (.inl rfl);have hr:wo r x.name=r:=rX fun y hy e=>aK.rJ (hab y hy) e.symm
   have ew:wo (x::r) x.name=r:=by unfold wo;rw[List.filter_cons_of_neg (by simp)];exact hr
   refine⟨?_,?_,?_,by omega⟩
   ·rw[e1,e2,ew];rfl
   ·rw[ew,e1];exact yj hab
   ·rw[e1,e2];unfold jc;simp
  ·obtain⟨e1,e2⟩:=kD (r:=r) hk
   have hab:=above h (.inr hk)
   have hne:∀y∈x::r,¬y.name=k:=fun y hy e=>by
    rcases List.mem_cons.1 hy with rfl|hy
    ·exact aK.rJ hk e.symm
    ·exact aK.rJ (hab y hy) e.symm
   exact Zm
theorem zo{l:List Ob}(h:Up l)(k:ByteArray):(wo l k).take (idx l k)=l.take (idx l k)∧(wo l k).drop (idx l k)=l.drop (fin l k):=by
 have e:=(fu h k).1;have hl:(l.take (idx l k)).length=idx l k:=by rw[List.length_take];have:=nR l k;omega
 rw[← e]
 constructor
 ·exact List.take_left' hl
 ·exact List.drop_left' hl
theorem LP{l:List Ob}(h:Up l)(k:ByteArray):Up (wo l k):=List.Pairwise.filter _ h
theorem xG{l:List Ob}{k:ByteArray}{x:Ob}:x∈wo l k↔x∈l∧¬x.name=k:=by
 unfold wo;rw[List.mem_filter];simp
structure Right(l:List Ob):Prop where
 len:l.length≤8
 ok:∀x∈l,One x=true
 up:Up l
instance (l:List Ob):Decidable (Right l):=decidable_of_iff (l.length≤8∧(∀x∈l,One x=true)∧l.Pairwise (fun(a b:Ob)=>aK.lt a.name b.name=true)) ⟨fun h=>⟨h.1,h.2.1,h.2.2⟩,fun h=>⟨h.len,h.ok,h.up⟩⟩
def Good(l:List Ob)(i:Nat):Prop:=∀x,l[i]?=some x→One x=true∧∀j y,i=j+1→l[j]?=some y→aK.lt y.name x.name=true
theorem lg(l:List Ob):Right l↔l.length≤8∧∀i,i<l.length→Good l i:=by
 constructor
 ·intro h
  exact aep
 ·intro h
  refine⟨h.1,fun x hx=>?_,RL fun i x y hx hy=>?_⟩
  ·obtain⟨i,hi,e⟩:=List.getElem_of_mem hx
   exact(h.2 i hi x (by rw[List.getElem?_eq_getElem hi,e])).1
  ·exact(h.2 (i+1) (List.getElem?_eq_some_iff.1 hy).1 y hy).2 i x rfl hx
theorem jg:Right []:=⟨by simp,fun x hx=>by simp at hx,List.Pairwise.nil⟩
theorem gJ{l:List Ob}{n:Nat}(hl:l.length=n)(hn:n≤8):(∀i,i<n→¬Good l i→decide (Right l)=false)∧((∀i,i<n→Good l i)→decide (Right l)=true):=by
 subst hl;refine⟨fun i hi h=>decide_eq_false fun hr=>h (((lg l).1 hr).2 i hi),fun h=>decide_eq_true ((lg l).2 ⟨hn,h⟩)⟩
def put(l:List Ob)(k:ByteArray)(o:Ob):List Ob:=l.take (idx l k)++[o]++l.drop (fin l k)
def num(n:Int):Val.V:=⟨1,n,0,⟨#[]⟩⟩
def fits(k z:Int):Bool:=if k=5∨k=17 then true else if k=6∨k=7∨k=8∨k=9 then decide (z=1) else if k=10∨k=11 then decide (z=2) else if k=12∨k=13 then decide (z=3) else if k=14 then decide (z=4) else if k=15∨k=16 then decide (z=5) else false
def size(o:Ob):Int:=if o.kind=1 then (o.dP.length:Int) else if o.kind=2 then (o.vals.length:Int) else if o.kind=5 then o.mt.n else (o.refs.length:Int)
def held(y:Rf)(h:Bool):List Ot:=if h=true then [⟨y,rz⟩] else []
def take(o:Ob)(r:Rf):Oc:=⟨{ o with refs:=aS.CF o.refs r },err (aS.yY o.refs r),decide (aS.yY o.refs r=0)&&!aS.JU o.refs r,[]⟩
def free(o:Ob)(r:Rf):Oc:=⟨{ o with refs:=aS.Ci o.refs r },err (aS.zJ o.refs r),false,held (aS.EZ o.refs r) (aS.Dy o.refs r)⟩
def rR(l:List Rf)(p:Rp):List Ot:=l.map fun x=>⟨x,p⟩
def wait(o:Ob)(r:Rf):Oc:=
 if (Gt.zk o.cap o.refs r).length=0 then ⟨{ o with refs:=Gt.Em o.cap o.refs r },err (Gt.qB o.cap o.refs r),decide (Gt.qB o.cap o.refs r=0),[]⟩
 else if o.round=9223372036854775807 then ⟨o,err 6,false,[]⟩
 else ⟨{ o with refs:=Gt.Em o.cap o.refs r,round:=o.round+1 },⟨0,num o.round⟩,false,rR ((Gt.zk o.cap o.refs r).take ((Gt.zk o.cap o.refs r).length-1)) ⟨0,num o.round⟩⟩
def act(o:Ob)(r:Rf)(c:aF.C):Oc:=
 if c.k=12 then take o r else if c.k=13 then free o r else if c.k=14 then wait o r
 else if c.k=6 then ⟨o,⟨aK.pE o.dP c.key,aK.pK o.dP c.key⟩,false,[]⟩
 else if c.k=7 then ⟨{ o with dP:=aK.uL o.dP c.key c.val },err (aK.rT o.dP c.key c.val),false,[]⟩
 else if c.k=8 then ⟨{ o with dP:=aK.Qo o.dP c.key },⟨aK.pE o.dP c.key,aK.pK o.dP c.key⟩,false,[]⟩
 else if c.k=9 then ⟨{ o with dP:=aK.FP o.dP c.key c.old c.val },⟨aK.Ah o.dP c.key c.old c.val,aK.Jo o.dP c.key c.old⟩,false,[]⟩
 else if c.k=10 then ⟨{ o with vals:=dK.xV o.cap o.vals c.val },err (dK.uM o.cap o.vals c.val),false,[]⟩
 else if c.k=11 then ⟨{ o with vals:=dK.Jq o.cap o.vals },⟨dK.KF o.cap o.vals,dK.Jp o.cap o.vals⟩,false,[]⟩
 else if c.k=15 then ⟨{ o with mt:=Mt.ad o.mt c.val.f },err (Mt.Lr o.mt),false,[]⟩
 else if c.k=16 then ⟨o,⟨(Mt.rd o.mt c.n).e,⟨(Mt.rd o.mt c.n).k,(Mt.rd o.mt c.n).n,(Mt.rd o.mt c.n).f,⟨#[]⟩⟩⟩,false,[]⟩
 else if c.k=17 then ⟨o,⟨0,num (size o)⟩,false,[]⟩
 else ⟨o,rz,false,[]⟩
def IU(l:List Ob)(k:ByteArray):Int:=if (jc l k).isSome=true then 8 else if l.length=8 then 6 else 0
def Fw(x:Option Ob)(k:Int):Int:=match x with
 | none=>5
 | some o=>if fits k o.kind=false then 7 else if k=5∧0<o.refs.length then 13 else 0
def bG(l:List Ob)(r:Rf)(c:aF.C):Int:=
 if ¬(Right l∧aS.ok r∧4≤c.k∧c.k≤17) then 1 else if aF.bG c≠0 then aF.bG c
 else if c.k=4 then IU l c.name else Fw (jc l c.name) c.k
def fresh(c:aF.C):Ob:=⟨c.name,c.n,c.m,[],[],[],0,Mt.zero⟩
def iC(l:List Ob)(r:Rf)(c:aF.C):Rs:=
 if bG l r c≠0 then ⟨l,err (bG l r c),false,[]⟩
 else if c.k=4 then ⟨put l c.name (fresh c),rz,false,[]⟩
 else if c.k=5 then ⟨wo l c.name,rz,false,[]⟩
 else match jc l c.name with
  | none=>⟨l,rz,false,[]⟩
  | some o=>⟨put l c.name (act o r c).o,(act o r c).p,(act o r c).later,(act o r c).outs⟩
def dr(o:Ob)(r:Rf):Ob:=if o.kind=3 then { o with refs:=aS.pF o.refs r } else if o.kind=4 then { o with refs:=Gt.pF o.cap o.refs r } else o
def uF(o:Ob)(r:Rf):List Ot:=if o.kind=3 then held (aS.zO o.refs r) (aS.uP o.refs r) else []
def aI(l:List Ob)(r:Rf):List Ob:=if Right l then l.map fun o=>dr o r else l
def jM(l:List Ob)(r:Rf):List Ot:=if Right l then l.flatMap fun o=>uF o r else []
end av
end
section
def Tv(p:aK.Pr):List Value:=[.string p.key,.int .i64 p.val.k,.int .i64 p.val.n,.int .u64 (p.val.f:Int),.string p.val.s]
def prC(key:ByteArray)(k n:Int)(f:Nat)(s:ByteArray):Array Value:=#[.string key,.int .i64 k,.int .i64 n,.int .u64 (f:Int),.string s]
def yZ(p:aK.Pr):Array Value:=prC p.key p.val.k p.val.n p.val.f p.val.s
theorem Ut:(prog.info? 103).map (fun i=>(i.zero,i.size,i.bytes))=some (some (Value.agg #[.string ⟨#[]⟩,.int .i64 0,.int .i64 0,.int .u64 0,.string ⟨#[]⟩]),5,56):=by kernel_rfl
theorem ML:(prog.info? 103).map (·.size)=some 5:=by kernel_rfl
def bO:Lay prog aK.Pr where
 t:=57
 e:=103
 k:=5
 bytes:=56
 z:=.agg #[.string ⟨#[]⟩,.int .i64 0,.int .i64 0,.int .u64 0,.string ⟨#[]⟩]
 f:=Tv
 len:=fun _=>rfl
 one:=fun x u hu=>by
  unfold Tv at hu;simp only[List.mem_cons,List.not_mem_nil,or_false] at hu
  rcases hu with rfl|rfl|rfl|rfl|rfl<;>rfl
 und:=underlying57
 info:=Ut
 zs:=rfl
 pos:=by decide
 small:=by decide
structure Sl(w:World)(A:Option Addr)(n c:Nat)(l:List aK.Pr):Prop where
 len:l.length=n
 cap:n≤c
 rd:bO.Reads w w.heap.size A l
 nl:A=none→l=[]
 fs:∀x∈l,x.val.f<18446744073709551616
 big:n≤2513169434916
theorem Sl.later{w w':World}{A:Option Addr}{n c:Nat}{l:List aK.Pr}(h:Sl w A n c l)(hb:Below w.heap.size w w'):Sl w' A n c l:=
 ⟨h.len,h.cap,h.rd.later hb (Nat.le_refl _),h.nl,h.fs,h.big⟩
theorem Sl.none(w:World):Sl w none 0 0 []:=⟨rfl,Nat.le_refl _,Lay.Reads.nil _ _ _,fun _=>rfl,(fun x hx=>by simp at hx),by decide⟩
structure Fit(l:List aK.Pr):Prop where
 fs:∀x∈l,x.val.f<18446744073709551616
 big:l.length≤2513169434916
theorem Sl.fit{w:World}{A:Option Addr}{n c:Nat}{l:List aK.Pr}(h:Sl w A n c l):Fit l:=⟨h.fs,by rw[h.len];exact h.big⟩
theorem Fit.wo{l:List aK.Pr}(h:Fit l)(k:ByteArray):Fit (aK.wo l k):=⟨fun x hx=>h.fs x (aK.xG.1 hx).1,Nat.le_trans (List.length_filter_le _ _) h.big⟩
theorem Fit.ins{l:List aK.Pr}(h:Fit l)(hu:aK.Up l)(k:ByteArray){v:Val.V}(hv:v.f<18446744073709551616)(hn:(aK.wo l k).length<8):Fit (aK.ins l k v):=by
 have hp:=aK.Hq hu k v;refine⟨fun x hx=>?_,?_⟩
 ·rcases List.mem_append.1 (hp.mem_iff.1 hx) with hx|hx
  ·exact(h.wo k).fs x hx
  ·rw[List.mem_singleton] at hx;subst hx;exact hv
 ·rw[hp.length_eq,List.length_append]
  show _+1≤_
  omega
theorem Sl.own{w:World}{base:Nat}{A:Option Addr}{n c:Nat}{l:List aK.Pr}(h:bO.Own base w (.slice A n c) l)(hfit:Fit l):Sl w A n c l:=by
 obtain⟨hf,hb⟩:=hfit;have hr:=h.reads;have hn:=hr.1;subst hn;refine⟨rfl,h.cap,hr.2,fun hA=>?_,hf,hb⟩;subst hA
 rcases h.2 with ⟨_,h0⟩|⟨g,cap,cur,e,_⟩
 ·exact List.length_eq_zero_iff.1 h0
 ·cases e
theorem Sl.at{w:World}{A:Option Addr}{n c:Nat}{l:List aK.Pr}(h:Sl w A n c l)(hn:0<n):∃b o,A=some ⟨b,o,Option.none⟩∧
  ∀W,Below w.heap.size w W→∀i x,l[i]?=some x→∀j v,(Tv x)[j]?=some v→W.cell? ⟨b,o+i*5+j,Option.none⟩=some v:=by
 have hl:=h.len;obtain⟨b,o,rfl,hb,hc⟩:=h.rd (by omega);exact⟨b,o,rfl,fun W hW i x hx j v hv=>(hW.cell (p:=⟨b,o+i*5+j,Option.none⟩) hb).trans (hc i x hx j v hv)⟩
theorem Sl.take{w:World}{A:Option Addr}{n c:Nat}{l:List aK.Pr}(h:Sl w A n c l){hi:Nat}(h2:hi≤n):Sl w A hi c (l.take hi):=
 ⟨by rw[List.length_take,h.len];omega,Nat.le_trans h2 h.cap,h.rd.take hi,(fun e=>by rw[h.nl e];simp),(fun x hx=>h.fs x (List.mem_of_mem_take hx)),Nat.le_trans h2 h.big⟩
def sub(A:Option Addr)(lo c:Nat):Option Addr:=if c=lo then A else A.map (·.add (lo*5))
theorem Sl.sub{w:World}{A:Option Addr}{n c:Nat}{l:List aK.Pr}(h:Sl w A n c l){lo hi:Nat}(h1:lo≤hi)(h2:hi≤n):Sl w (sub A lo c) (hi-lo) (c-lo) ((l.drop lo).take (hi-lo)):=by
 have hl:=h.len;have hc:=h.cap;have hb:=h.big;have hle:((l.drop lo).take (hi-lo)).length=hi-lo:=by rw[List.length_take,List.length_drop];omega
 have hfs:∀x∈(l.drop lo).take (hi-lo),x.val.f<18446744073709551616:=fun x hx=>h.fs x (List.mem_of_mem_drop (List.mem_of_mem_take hx))
 by_cases h0:hi-lo=0
 ·have he:(l.drop lo).take (hi-lo)=[]:=by rw[h0];rfl
  rw[he];exact⟨by rw[h0];rfl,by omega,Lay.Reads.nil _ _ _,fun _=>rfl,(fun x hx=>by simp at hx),by omega⟩
 ·obtain⟨b,o,rfl,hb',hc'⟩:=h.rd (by omega)
  have hA:Go.Proofs.YtieoeendnccafaaGreat.sub (some ⟨b,o,Option.none⟩) lo c=some ⟨b,o+lo*5,Option.none⟩:=by
   unfold Go.Proofs.YtieoeendnccafaaGreat.sub;rw[if_neg (by omega),Option.map_some,Lay.vO]
  rw[hA];have hr:=((h.rd.drop lo).take (hi-lo));exact⟨hle,by omega,hr,(fun e=>by cases e),hfs,by omega⟩
section
variable {b0:Nat}{w0 w:World}{L:List (Nat×TypeId×Array Value)}{R:List dA}{ops:Array Oper}{rest:List Oper}{o:Oper}{a:Act}{Q:Exit→Act→World→Prop}{K:Act→World→Prop}{E:Prop}{g:Nat}
theorem Dz{A:Option Addr}{n c hi:Nat}{x:Operand}{q:Operand}(h2:hi≤c)(ho:o.op=.slice 57 x none (some q) none:=by rfl)(hx:a.eval x=.slice A n c:=by rfl)(hq:a.eval q=.int .i64 (hi:Int):=by rfl):
  (execOp a.eval o).run prog w=.ok (.value (.slice A hi c)) w:=by
 unfold execOp;simp only[ho,Option.map_some,Option.map_none,hx,hq];go_simp
theorem Bo{A:Option Addr}{n c lo hi:Nat}{x:Operand}{p:Operand}{q:Operand}(h1:lo≤hi)(h2:hi≤c)(ho:o.op=.slice 57 x (some p) (some q) none:=by rfl)(hx:a.eval x=.slice A n c:=by rfl)(hp:a.eval p=.int .i64 (lo:Int):=by rfl)(hq:a.eval q=.int .i64 (hi:Int):=by rfl):
  (execOp a.eval o).run prog w=.ok (.value (.slice (sub A lo c) (hi-lo) (c-lo))) w:=by
 unfold execOp;simp only[ho,Option.map_some,Option.map_none,hx,hp,hq];go_simp
 rfl
theorem uo{A:Option Addr}{n c lo:Nat}{x:Operand}{p:Operand}(h1:lo≤n)(ho:o.op=.slice 57 x (some p) none none:=by rfl)(hx:a.eval x=.slice A n c:=by rfl)(hp:a.eval p=.int .i64 (lo:Int):=by rfl):
  (execOp a.eval o).run prog w=.ok (.value (.slice (sub A lo c) (n-lo) (c-lo))) w:=by
 unfold execOp;simp only[ho,Option.map_some,Option.map_none,hx,hp];go_simp
 rfl
theorem eO{b off n c i:Nat}{x:Operand}{q:Operand}(h:i<n)(ho:o.op=.indexAddr 57 x q:=by rfl)(hx:a.eval x=.slice (some ⟨b,off,none⟩) n c:=by rfl)(hq:a.eval q=.int .i64 (i:Int):=by rfl):
  (execOp a.eval o).run prog w=.ok (.value (.pointer (some ⟨b,off+i*5,none⟩))) w:=by
 have h1:(0:Int)≤(i:Int):=by omega
 have h2:(i:Int)<(n:Int):=by omega
 unfold execOp;simp only[ho,hx,hq];go_simp
theorem jQ{x y:ByteArray}{b:Bool}{p:Operand}{q:Operand}(hb:aK.lt x y=b)(ho:o.op=.binOp .lss 9 p q 9:=by rfl)(hx:a.eval p=.string x:=by rfl)(hy:a.eval q=.string y:=by rfl):
  (execOp a.eval o).run prog w=.ok (.value (.bool b)) w:=by
 subst hb;unfold execOp aK.lt;simp only[ho,hx,hy];go_simp
theorem wO{x y:ByteArray}{b:Bool}{p:Operand}{q:Operand}(hb:(!aK.lt y x)=b)(ho:o.op=.binOp .leq 9 p q 9:=by rfl)(hx:a.eval p=.string x:=by rfl)(hy:a.eval q=.string y:=by rfl):
  (execOp a.eval o).run prog w=.ok (.value (.bool b)) w:=by
 have he:(Go.Op.bytesLess x.toList y.toList || x.toList==y.toList)=b:=by
  rw[← hb]
  show(aK.lt x y || x.toList==y.toList)=!aK.lt y x
  rcases aK.AO x y with h|rfl|h
  ·rw[h,aK.lt_asymm h];rfl
  ·rw[aK.lt_irrefl];simp
  ·rw[h,aK.lt_asymm h]
   have hne:¬x.toList=y.toList:=fun e=>aK.rJ h (aK.toList_inj e).symm
   simp[hne]
 exact Ei
theorem wP{x y:ByteArray}{b:Bool}{p:Operand}{q:Operand}(hb:(!aK.lt x y)=b)(ho:o.op=.binOp .geq 9 p q 9:=by rfl)(hx:a.eval p=.string x:=by rfl)(hy:a.eval q=.string y:=by rfl):
  (execOp a.eval o).run prog w=.ok (.value (.bool b)) w:=by
 subst hb;unfold execOp aK.lt;simp only[ho,hx,hy];go_simp
theorem kR{x y:ByteArray}{b:Bool}{p:Operand}{q:Operand}(hb:decide (x=y)=b)(ho:o.op=.binOp .eql 9 p q 9:=by rfl)(hx:a.eval p=.string x:=by rfl)(hy:a.eval q=.string y:=by rfl):
  (execOp a.eval o).run prog w=.ok (.value (.bool b)) w:=by
 have he:(x.toList==y.toList)=b:=by rw[← hb];by_cases h:x=y<;>simp[h,aK.eq_iff.symm]
 exact Ei
theorem Il{x y:ByteArray}{b:Bool}{p:Operand}{q:Operand}(hb:(!decide (x=y))=b)(ho:o.op=.binOp .neq 9 p q 9:=by rfl)(hx:a.eval p=.string x:=by rfl)(hy:a.eval q=.string y:=by rfl):
  (execOp a.eval o).run prog w=.ok (.value (.bool b)) w:=by
 have he:(!(x.toList==y.toList))=b:=by rw[← hb];by_cases h:x=y<;>simp[h,aK.eq_iff.symm]
 exact Ei
theorem nV{b off:Nat}{x:aK.Pr}{p:Operand}(hc:∀j v,(Tv x)[j]?=some v→w.cell? ⟨b,off+j,none⟩=some v)(ho:o.op=.load 103 p:=by rfl)(hx:a.eval p=.pointer (some ⟨b,off,none⟩):=by rfl):
  (execOp a.eval o).run prog w=.ok (.value (.agg (yZ x))) w:=by
 have hr:w.rangeAt b off (yZ x).toList:=fun j v hj=>hc j v hj
 have h:=run_loadVar_mid (P:=prog) w b off 103 (yZ x).toList _ hr underlying103 rfl (by
  have h:(prog.info? 103).map (·.size)=some (yZ x).size:=ML
  simpa using h)
 exact Xf
theorem ql{b off off2:Nat}{x:aK.Pr}{p:Operand}(hc:∀j v,(Tv x)[j]?=some v→w.cell? ⟨b,off+j,none⟩=some v)(ho:o.op=.load 26 p:=by rfl)(hx:a.eval p=.pointer (some ⟨b,off2,none⟩):=by rfl)(ho2:off2=off+1:=by rfl):
  (execOp a.eval o).run prog w=.ok (.value (.agg #[.int .i64 x.val.k,.int .i64 x.val.n,.int .u64 (x.val.f:Int),.string x.val.s])) w:=by
 subst ho2
 have hr:w.rangeAt b (off+1) (vC x.val.k x.val.n x.val.f x.val.s).toList:=fun j v hj=>by
  rw[Nat.add_assoc,Nat.add_comm 1 j];exact hc (j+1) v hj
 have h:=run_loadVar_mid (P:=prog) w b (off+1) 26 (vC x.val.k x.val.n x.val.f x.val.s).toList _ hr underlying26 rfl (by
  have h:(prog.info? 26).map (·.size)=some (vC x.val.k x.val.n x.val.f x.val.s).size:=iT
  simpa using h)
 unfold execOp;simp only[ho,hx,Instr.loadAt,Instr.sureAddr,Sem.run_bind,Sem.run_pure,Result.andThen_ok,h,Array.toArray_toList]
 rfl
theorem eG{b off:Nat}{x:aK.Pr}{p:Operand}(hc:∀j v,(Tv x)[j]?=some v→w.cell? ⟨b,off+j,none⟩=some v)(ho:o.op=.load 9 p:=by rfl)(hx:a.eval p=.pointer (some ⟨b,off,none⟩):=by rfl):
  (execOp a.eval o).run prog w=.ok (.value (.string x.key)) w:=
 jh p ho hx (hc 0 _ rfl) underlying9
theorem sV{b off off2:Nat}{x:aK.Pr}{p:Operand}(hc:∀j v,(Tv x)[j]?=some v→w.cell? ⟨b,off+j,none⟩=some v)(ho:o.op=.load 3 p:=by rfl)(hx:a.eval p=.pointer (some ⟨b,off2,none⟩):=by rfl)(ho2:off2=off+1:=by rfl):
  (execOp a.eval o).run prog w=.ok (.value (.int .i64 x.val.k)) w:=by
 subst ho2;exact jh p ho hx (hc 1 _ rfl) underlying3
theorem mY{key:ByteArray}{k n:Int}{f:Nat}{s:ByteArray}(HK:Hid (Kn b0 w0 w L R))(i:Nat){x:Operand}(ho:o.op=.load 9 x:=by rfl)(hL:L[i]?=some (g,103,prC key k n f s):=by rfl)(hx:a.eval x=.pointer (some ⟨g,0,none⟩):=by rfl):
  (execOp a.eval o).run prog w=.ok (.value (.string key)) w:=aV HK _ x ho i hL hx underlying9
theorem uf{key:ByteArray}{k n:Int}{f:Nat}{s:ByteArray}(HK:Hid (Kn b0 w0 w L R))(i:Nat){x:Operand}(ho:o.op=.load 26 x:=by rfl)(hL:L[i]?=some (g,103,prC key k n f s):=by rfl)(hx:a.eval x=.pointer (some ⟨g,1,none⟩):=by rfl):
  (execOp a.eval o).run prog w=.ok (.value (.agg #[.int .i64 k,.int .i64 n,.int .u64 (f:Int),.string s])) w:=
 dU HK x ho i hL hx #[.int .i64 k,.int .i64 n,.int .u64 (f:Int),.string s] (fun j hj=>by
  match j,hj with
  | 0,_|1,_|2,_|3,_=>rfl) underlying26 iT
theorem JJ(HK:Hid (Kn b0 w0 w L R))(hgd:o.guard=none)(ho:o.op=.alloc 103)
  (h:∀w' g,Hid (Kn b0 w0 w' (L++[(g,103,prC ⟨#[]⟩ 0 0 0 ⟨#[]⟩)]) R)→wpList prog ops Q rest (a.put o.dst (.pointer (some ⟨g,0,none⟩))) w'):wpList prog ops Q (o::rest) a w:=
 wpList_plain hgd fun K hK=>by
  have h4:=h _ w.heap.size (zH (HK.out.alloc _ _));unfold Oper.wp execOp;simp only[ho];unfold prC at h4;go_simp;exact hK _ _ h4
theorem NY{p1 p2:aK.Pr}(HK:Hid (Kn b0 w0 w L R))(i:Nat)(hgd:o.guard=none){p:Operand}{q:Operand}(ho:o.op=.store 103 p q)(hL:L[i]?=some (g,103,yZ p1))(hx:a.eval p=.pointer (some ⟨g,0,none⟩))(hy:a.eval q=.agg (yZ p2))
  (h:∀w',Hid (Kn b0 w0 w' (L.set i (g,103,yZ p2)) R)→wpList prog ops Q rest (a.put o.dst undef) w'):wpList prog ops Q (o::rest) a w:=
 jJ HK i hgd p q ho hL hx hy (by show 5≤5;decide) ML (h1:=(by simp[yZ,prC,Value.oneCell'])) fun w' h1 h2=>h w' (by
  have e:putCells (yZ p1) 0 (yZ p2).toList=yZ p2:=by
   rw[dJ (vs:=(yZ p2).toList) (cs:=yZ p1),Array.toArray_toList]
  rw[e] at h1
  exact h1)
theorem Kn.mkP(h:Kn b0 w0 w L R)(l:List aK.Pr)(C:Array Value)(hC:C=(bO.flat l).toArray)(n:Nat)(hn:n=l.length)(hl:l.length≤65536):
  Kn b0 w0 (w.alloc (.cells C bO.e)) L (R++[row bO (.slice (some ⟨w.heap.size,0,none⟩) n n) l]):=
 h.called ((Below.refl _ w).alloc (Nat.le_refl _) _) (Lay.Own.new w l C _ _ _ hC (Nat.le_refl _) rfl hn hn hl)
theorem JG(HK:Hid (Kn b0 w0 w L R))(hgd:o.guard=none)(ho:o.op=.buildSlice 57 0 #[])
  (h:∀w' g,Hid (Kn b0 w0 w' L (R++[row bO (.slice (some ⟨g,0,none⟩) 0 0) []]))→wpList prog ops Q rest (a.put o.dst (.slice (some ⟨g,0,none⟩) 0 0)) w'):wpList prog ops Q (o::rest) a w:=
 wpList_plain hgd fun K hK=>by
  have h4:=h _ w.heap.size (zH (HK.out.mkP [] #[] rfl 0 rfl (by show 0≤65536;decide)))
  have hr:(Instr.buildSlice 57 0 #[]).run prog w=.ok (.slice (some ⟨w.heap.size,0,none⟩) 0 0) (w.alloc (.cells #[] bO.e)):=by
   go_simp
   rfl
  unfold Oper.wp execOp;simp only[ho,Sem.run_bind,Sem.run_pure,Result.andThen_ok,List.map_toArray,List.map_nil,hr];exact hK _ _ h4
theorem nu(HK:Hid (Kn b0 w0 w L R)){x:Operand}{p:aK.Pr}
  (h:∀w' g,Hid (Kn b0 w0 w' L (R++[row bO (.slice (some ⟨g,0,none⟩) 1 1) [p]]))→wpList prog ops Q rest (a.put o.dst (.slice (some ⟨g,0,none⟩) 1 1)) w') (hgd:o.guard=none:=by rfl)(ho:o.op=.buildSlice 57 1 #[(0,x)]:=by rfl)(hx:a.eval x=.agg (yZ p):=by rfl):wpList prog ops Q (o::rest) a w:=
 wpList_plain hgd fun K hK=>by
  have h4:=h _ w.heap.size (zH (HK.out.mkP [p] (yZ p) rfl 1 rfl (by show 1≤65536;decide)))
  have hr:(Instr.buildSlice 57 1 #[(0,.agg (yZ p))]).run prog w=.ok (.slice (some ⟨w.heap.size,0,none⟩) 1 1) (w.alloc (.cells (yZ p) bO.e)):=by
   unfold yZ prC;go_simp
   rfl
  unfold Oper.wp execOp;simp only[ho,Sem.run_bind,Sem.run_pure,Result.andThen_ok,List.map_toArray,List.map_cons,List.map_nil,hx,hr];exact hK _ _ h4
theorem MJ(HK:Hid (Kn b0 w0 w L R))(x:Operand)(ho:o.op=.buildSlice 150 1 #[(0,x)]){A:Option Addr}{n c:Nat}(hx:a.eval x=.slice A n c)
  (h:∀w' g,Hid (Kn b0 w0 w' (L++[(g,57,#[.slice A n c])]) R)→Hid (Below w.heap.size w w')→K (a.put o.dst (.slice (some ⟨g,0,none⟩) 1 1)) w'):o.wp prog a w K Q:=by
 have h4:=h _ w.heap.size (zH (HK.out.alloc 57 #[.slice A n c])) (zH ((Below.refl _ w).alloc (Nat.le_refl _) _))
 have hr:(Instr.buildSlice 150 1 #[(0,.slice A n c)]).run prog w=.ok (.slice (some ⟨w.heap.size,0,none⟩) 1 1) (w.alloc (.cells #[.slice A n c] 57)):=by
  go_simp
 unfold Oper.wp execOp;simp only[ho,Sem.run_bind,Sem.run_pure,Result.andThen_ok,List.map_toArray,List.map_cons,List.map_nil,hx,hr];exact h4
theorem uX(HK:Hid (Kn b0 w0 w L R)){x:Operand}{A:Option Addr}{n c:Nat}
  (h:∀w' g,Hid (Kn b0 w0 w' (L++[(g,57,#[.slice A n c])]) R)→Hid (Below w.heap.size w w')→wpList prog ops Q rest (a.put o.dst (.slice (some ⟨g,0,none⟩) 1 1)) w') (hgd:o.guard=none:=by rfl)(ho:o.op=.buildSlice 150 1 #[(0,x)]:=by rfl)(hx:a.eval x=.slice A n c:=by rfl):wpList prog ops Q (o::rest) a w:=
 wpList_plain hgd fun _ hK=>MJ HK x ho hx fun w' g h1 h2=>hK _ _ (h w' g h1 h2)
theorem RZ(HK:Hid (Kn b0 w0 w L R))(hgd:o.guard=none){x:Operand}(ho:o.op=.buildSlice 150 1 #[(0,x)]){A:Option Addr}{n c:Nat}(hx:a.eval x=.slice A n c)
  (h:∀w' g,Hid (Kn b0 w0 w' (L++[(g,57,#[.slice A n c])]) R)→Hid (Below w.heap.size w w')→K (a.put o.dst (.slice (some ⟨g,0,none⟩) 1 1)) w'):if Region.wanted o (yielded ops a.tmps)=true then Oper.wp prog o a w K Q else E:=by
 rw[if_pos (by simp[Region.wanted,hgd])];exact MJ HK x ho hx h
theorem JF(HK:Hid (Kn b0 w0 w L R))(hgd:o.guard=none){x:Operand}{y:Operand}(ho:o.op=.buildSlice 150 2 #[(0,x),(1,y)]){A A2:Option Addr}{n c n2 c2:Nat}(hx:a.eval x=.slice A n c)(hy:a.eval y=.slice A2 n2 c2)
  (h:∀w' g,Hid (Kn b0 w0 w' (L++[(g,57,#[.slice A n c,.slice A2 n2 c2])]) R)→Hid (Below w.heap.size w w')→wpList prog ops Q rest (a.put o.dst (.slice (some ⟨g,0,none⟩) 2 2)) w'):wpList prog ops Q (o::rest) a w:=
 wpList_plain hgd fun K hK=>by
  have h4:=h _ w.heap.size (zH (HK.out.alloc 57 #[.slice A n c,.slice A2 n2 c2])) (zH ((Below.refl _ w).alloc (Nat.le_refl _) _))
  have hr:(Instr.buildSlice 150 2 #[(0,.slice A n c),(1,.slice A2 n2 c2)]).run prog w=.ok (.slice (some ⟨w.heap.size,0,none⟩) 2 2) (w.alloc (.cells #[.slice A n c,.slice A2 n2 c2] 57)):=by
   go_simp
  unfold Oper.wp execOp;simp only[ho,Sem.run_bind,Sem.run_pure,Result.andThen_ok,List.map_toArray,List.map_cons,List.map_nil,hx,hy,hr];exact hK _ _ h4
theorem JE(HK:Hid (Kn b0 w0 w L R))(hgd:o.guard=none){x:Operand}{y:Operand}{z:Operand}(ho:o.op=.buildSlice 150 3 #[(0,x),(1,y),(2,z)]){A A2 A3:Option Addr}{n c n2 c2 n3 c3:Nat}(hx:a.eval x=.slice A n c)(hy:a.eval y=.slice A2 n2 c2)(hz:a.eval z=.slice A3 n3 c3)
  (h:∀w' g,Hid (Kn b0 w0 w' (L++[(g,57,#[.slice A n c,.slice A2 n2 c2,.slice A3 n3 c3])]) R)→Hid (Below w.heap.size w w')→wpList prog ops Q rest (a.put o.dst (.slice (some ⟨g,0,none⟩) 3 3)) w'):wpList prog ops Q (o::rest) a w:=
 wpList_plain hgd fun K hK=>by
  have h4:=h _ w.heap.size (zH (HK.out.alloc 57 #[.slice A n c,.slice A2 n2 c2,.slice A3 n3 c3])) (zH ((Below.refl _ w).alloc (Nat.le_refl _) _))
  have hr:(Instr.buildSlice 150 3 #[(0,.slice A n c),(1,.slice A2 n2 c2),(2,.slice A3 n3 c3)]).run prog w=.ok (.slice (some ⟨w.heap.size,0,none⟩) 3 3) (w.alloc (.cells #[.slice A n c,.slice A2 n2 c2,.slice A3 n3 c3] 57)):=by
   go_simp
  unfold Oper.wp execOp;simp only[ho,Sem.run_bind,Sem.run_pure,Result.andThen_ok,List.map_toArray,List.map_cons,List.map_nil,hx,hy,hz,hr];exact hK _ _ h4
end
def IsL(r:List aK.Pr)(w:World)(e:Ending)(w':World):Prop:=∃A n c,e=.returned (.slice A n c)∧bO.Own w.heap.size w' (.slice A n c) r∧Below w.heap.size w w'
end
section
open Go.ChangeShapes Go.WideShapes Go.Deep Go.RowKit
theorem Uk:(prog.info? 26).map (fun i=>(i.zero,i.size,i.bytes))=some (some (Value.agg #[.int .i64 0,.int .i64 0,.int .u64 0,.string ⟨#[]⟩]),4,40):=by kernel_rfl
def bg:Lay prog Val.V where
 t:=58
 e:=26
 k:=4
 bytes:=40
 z:=.agg #[.int .i64 0,.int .i64 0,.int .u64 0,.string ⟨#[]⟩]
 f:=vaL
 len:=fun _=>rfl
 one:=fun x u hu=>by
  unfold vaL at hu;simp only[List.mem_cons,List.not_mem_nil,or_false] at hu
  rcases hu with rfl|rfl|rfl|rfl<;>rfl
 und:=underlying58
 info:=Uk
 zs:=rfl
 pos:=by decide
 small:=by decide
def vF(v:Val.V):Prop:=v.f<18446744073709551616
theorem Uj:(prog.info? 58).map (fun i=>(i.zero,i.size))=some (some (Value.slice none 0 0),1):=by kernel_rfl
def xI:Cn bg where
 tt:=152
 und:=underlying152
 info:=Uj
section
variable {w:World}{o:Oper}{a:Act}
theorem wR{b off:Nat}{k n:Int}{f:Nat}{s:ByteArray}{p:Operand}(hc:∀j v,(vaL ⟨k,n,f,s⟩)[j]?=some v→w.cell? ⟨b,off+j,none⟩=some v)(ho:o.op=.load 26 p:=by rfl)(hx:a.eval p=.pointer (some ⟨b,off,none⟩):=by rfl):
  (execOp a.eval o).run prog w=.ok (.value (.agg #[.int .i64 k,.int .i64 n,.int .u64 (f:Int),.string s])) w:=
 je bg (x:=⟨k,n,f,s⟩) p (ho:=ho) (hx:=hx) underlying26 hc
theorem Ip{b off:Nat}{k n:Int}{f:Nat}{s:ByteArray}{p:Operand}(hc:∀j v,(vaL ⟨k,n,f,s⟩)[j]?=some v→w.cell? ⟨b,off+j,none⟩=some v)(ho:o.op=.load 3 p:=by rfl)(hx:a.eval p=.pointer (some ⟨b,off,none⟩):=by rfl):
  (execOp a.eval o).run prog w=.ok (.value (.int .i64 k)) w:=
 jh p ho hx (hc 0 _ rfl) underlying3
theorem Ir{b off n c i:Nat}{x:Operand}{q:Operand}(h:i<n)(ho:o.op=.indexAddr 58 x q:=by rfl)(hx:a.eval x=.slice (some ⟨b,off,none⟩) n c:=by rfl)(hq:a.eval q=.int .i64 (i:Int):=by rfl):
  (execOp a.eval o).run prog w=.ok (.value (.pointer (some ⟨b,off+i*4,none⟩))) w:=gM bg (x:=x) (q:=q) (ho:=ho) (hx:=hx) (hq:=hq) h
theorem Ik{A:Option Addr}{n c lo:Nat}{x:Operand}{p:Operand}(h1:lo≤n)(ho:o.op=.slice 58 x (some p) none none:=by rfl)(hx:a.eval x=.slice A n c:=by rfl)(hp:a.eval p=.int .i64 (lo:Int):=by rfl):
  (execOp a.eval o).run prog w=.ok (.value (.slice (uZ 4 A lo c) (n-lo) (c-lo))) w:=lD bg (x:=x) (p:=p) (ho:=ho) (hx:=hx) (hp:=hp) h1
end
section
variable {H:Type}{enc:TypeId×Value→H}{W:World}{base:Nat}
theorem DR:prog.bytesOf 26=40:=by kernel_rfl
theorem Db:Opens enc bg (fun v _=>vF v):=fun W n cs x ht=>by
 obtain⟨v,h1,h2⟩:=mW (enc:=enc) W n cs x ht;exact⟨v,h1,h2⟩
theorem Lift.Given.vals{ts:List TypeId}{args:List Value}{ds:List (DataW H)}{before:List MemPlace}(h:Lift.Given enc prog (58::ts) W base args ds before):
  ∃(A:Option Addr) (c:Nat) (l:List Val.V) (vs:List Value) (d:DataW H) (ds':List (DataW H)) (q:List MemPlace),args=.slice A l.length c::vs∧ds=d::ds'∧bJ bg vF W A l.length c l∧Lift.Given enc prog ts W base vs ds' q:=by
 obtain⟨A,c,l,vs,d,ds',q,h1,h2,h3,h4,h5,h6,_,h8,h9⟩:=h.things (L:=bg) Db yx DR;have hb:l.length*40≤reachBytes:=h6;refine⟨A,c,l,vs,d,ds',q,h1,h2,⟨rfl,h8,h3,h4,fun x hx=>?_,?_⟩,h9⟩
 ·obtain⟨dx,g,_⟩:=h5 x hx
  exact g
 ·have:reachBytes=140737488351232:=rfl
  show l.length*40≤_
  omega
end
end
section
theorem MP:(prog.info? 248).map (·.size)=some 16:=by kernel_rfl
theorem abL{fn:Func}{R:Ending→World→Prop}{a:Act}{w:World}{B:Nat}{cs:Array Value}{q:Tmp}(hf:fn.results=#[.cell q 248])(h2:a.tmps[q]?=some (.pointer (some ⟨B,0,none⟩)))(hd:a.defers=[])(hb:gD w B 248 cs)(hs:cs.size=16)
  (hR:R (.returned (.agg cs)) w):bodyPost prog fn R Exit.ret a w:=
 bodyPost_ret (results_cell_row hf a.tmps w B _ _ (0,0) _ (by simp[h2]) hb underlying248 rfl (by rw[hs];exact MP)) hd hR
theorem ahH{w:World}{t1:TypeId}{t2:TypeId}{c1:Array Value}{c2:Array Value}:gD ((w.alloc (.cells c1 t1)).alloc (.cells c2 t2)) (w.heap.size+1) t2 c2:=by
 have h:=gD.new (w.alloc (.cells c1 t1)) t2 c2
 rwa [World.size_alloc] at h
theorem RN(n:Int)(s l m:Nat)(w:World):
  Calls prog 210 #[.agg #[.int .i64 n,.int .u64 (s:Int),.int .u64 (l:Int),.int .u64 (m:Int)]] w (fun e w'=>e=.returned (.agg #[.int .i64 1,.int .i64 n,.int .u64 0,.string ⟨#[]⟩,.int .i64 2,.int .i64 0,.int .u64 (s:Int),.string ⟨#[]⟩,.int .i64 2,.int .i64 0,.int .u64 (l:Int),.string ⟨#[]⟩,.int .i64 2,.int .i64 0,.int .u64 (m:Int),.string ⟨#[]⟩])∧
   w'=(w.alloc (.cells #[.int .i64 n,.int .u64 (s:Int),.int .u64 (l:Int),.int .u64 (m:Int)] 61)).alloc (.cells #[.int .i64 1,.int .i64 n,.int .u64 0,.string ⟨#[]⟩,.int .i64 2,.int .i64 0,.int .u64 (s:Int),.string ⟨#[]⟩,.int .i64 2,.int .i64 0,.int .u64 (l:Int),.string ⟨#[]⟩,.int .i64 2,.int .i64 0,.int .u64 (m:Int),.string ⟨#[]⟩] 248)):=by
 go_enter func210,ntmps210;go_wp2_with fail;refine abL (B:=w.heap.size+1) results210 rfl rfl (ahH) rfl ⟨rfl,rfl⟩
end
end Go.Proofs.YtieoeendnccafaaGreat
