/- What meter.told returns: all that may be asked of a meter, each in its place; the memory behind it has two blocks more. No condition but those named. -/
import Derived.Test.YtddpmlcpfmmbeaaGreatTk
import Derived.Test.YtddpmlcpfmmbeaaGreatKAA
import Derived.Test.YtddpmlcpfmmbeaaGreatKAH
import Derived.Test.YtddpmlcpfmmbeaaGreatKAE
import Derived.Test.YtddpmlcpfmmbeaaGreatKAF
import Derived.Test.YtddpmlcpfmmbeaaGreatKAD
import Derived.Deep.RegionWith
import Derived.Deep.RegionHeld3
import Derived.Deep.Draws
import Derived.Lib.Hide
import Derived.KernelRfl
set_option linter.unusedSimpArgs false
set_option linter.unusedVariables false
set_option maxRecDepth 100000
set_option maxHeartbeats 25600000
namespace Go.Proofs.YtddpmlcpfmmbeaaGreat
section
namespace Cmd
structure C where
 k:Int
 name:ByteArray
 key:ByteArray
 val:Val.V
 old:Val.V
 n:Int
 m:Int
structure E where
 c:Int
 e:Int
 r:Int
 cmd:C
def f0(k:Int):Bool:=decide (4≤k∧k≤17)
def f1(k:Int):Bool:=decide (6≤k∧k≤9)
def f2(k:Int):Bool:=decide (k=9)
def f3(k:Int):Bool:=decide (k=7∨k=9∨k=10∨k=15)
def f4(k:Int):Bool:=decide (k=4∨k=16)
def f5(k:Int):Bool:=decide (k=4)
def nil(v:Val.V):Prop:=v.k=0∧v.n=0∧v.f=0∧v.s.size=0
instance (v:Val.V):Decidable (nil v):=by unfold nil;infer_instance
def others(c:C):Prop:=(f0 c.k=true∨c.name.size=0)∧(f1 c.k=true∨c.key.size=0)∧(f2 c.k=true∨nil c.old)∧(f3 c.k=true∨nil c.val)∧(f4 c.k=true∨c.n=0)∧(f5 c.k=true∨c.m=0)
instance (c:C):Decidable (others c):=by unfold others;infer_instance
def nums(c:C):Prop:=
 if c.k=16 then 0≤c.n∧c.n≤3 else if c.k≠4 then True else
 if c.n=2 then 1≤c.m∧c.m≤8 else if c.n=4 then 1≤c.m∧c.m≤5 else 1≤c.n∧c.n≤5∧c.m=0
instance (c:C):Decidable (nums c):=by unfold nums;infer_instance
def chk(c:C):Int:=
 if c.k<1∨18<c.k∨¬others c∨(f0 c.k=true∧c.name.size=0) then 1
 else if 16<c.name.size∨64<c.key.size then 2
 else if Val.chk c.old≠0 then Val.chk c.old
 else if Val.chk c.val≠0 then Val.chk c.val
 else if (c.k=7∨c.k=10)∧c.val.k=0 then 1
 else if c.k=15∧c.val.k≠2 then 7
 else if ¬nums c then 1 else 0
def right(e:E):Prop:=0≤e.c∧e.c<5∧1≤e.e∧0≤e.r
instance (e:E):Decidable (right e):=by unfold right;infer_instance
def fits(e:E):Prop:=right e∧chk e.cmd=0∧(e.r=0↔(e.cmd.k=1∨e.cmd.k=18))
instance (e:E):Decidable (fits e):=by unfold fits;infer_instance
def emp:ByteArray:=⟨#[]⟩
theorem flags_none{k:Int}(h:k<4∨17<k):f0 k=false∧f1 k=false∧f2 k=false∧f3 k=false∧f4 k=false∧f5 k=false:=by
 unfold f0 f1 f2 f3 f4 f5
 refine⟨?_,?_,?_,?_,?_,?_⟩<;>simp<;>omega
theorem size_emp{s:ByteArray}(h:s.size=0):s=emp:=Val.size_zero h
end Cmd
end
section
namespace Sto
structure Ob where
 name:ByteArray
 kind:Int
 cap:Int
 prs:List Dct.Pr
 vals:List Val.V
 refs:List Rf
 round:Int
 mt:Mtr
 deriving DecidableEq
structure Ot where
 r:Rf
 p:Rp
 deriving DecidableEq
structure Oc where
 o:Ob
 p:Rp
 later:Bool
 outs:List Ot
structure Rs where
 l:List Ob
 p:Rp
 later:Bool
 outs:List Ot
def named(s:ByteArray):Prop:=¬s.size=0∧s.size≤16
instance (s:ByteArray):Decidable (named s):=by unfold named;infer_instance
def h0(k:Int):Bool:=decide (k=2∨k=4)
def h1(k:Int):Bool:=decide (k=1)
def h2(k:Int):Bool:=decide (k=2)
def h3(k:Int):Bool:=decide (k=3∨k=4)
def h4(k:Int):Bool:=decide (k=4)
def h5(k:Int):Bool:=decide (k=5)
def is(k:Int):Bool:=decide (1≤k∧k≤5)
def f0(o:Ob):Bool:=!decide (o.cap=0)
def f1(o:Ob):Bool:=decide (0<o.prs.length)
def f2(o:Ob):Bool:=decide (0<o.vals.length)
def f3(o:Ob):Bool:=decide (0<o.refs.length)
def f4(o:Ob):Bool:=!decide (o.round=0)
def f5(o:Ob):Bool:=!decide (o.mt=Mt.zero)
def clean(o:Ob):Bool:=is o.kind&&((!f0 o || h0 o.kind)&&(!f1 o || h1 o.kind)&&(!f2 o || h2 o.kind)&&(!f3 o || h3 o.kind)&&(!f4 o || h4 o.kind)&&(!f5 o || h5 o.kind))
def sound(o:Ob):Bool:=if o.kind=1 then decide (Dct.Right o.prs) else if o.kind=2 then decide (Que.Right o.cap o.vals) else if o.kind=3 then decide (Lck.Right o.refs) else if o.kind=4 then decide (Gt.Right o.cap o.refs)&&decide (0≤o.round) else if o.kind=5 then decide (Mt.Ok o.mt) else false
def One(o:Ob):Bool:=decide (named o.name)&&clean o&&sound o
def Up(l:List Ob):Prop:=l.Pairwise fun a b=>Dct.lt a.name b.name=true
theorem up_of{l:List Ob}(h:∀i x y,l[i]?=some x→l[i+1]?=some y→Dct.lt x.name y.name=true):Up l:=by
 induction l with
 | nil=>exact List.Pairwise.nil
 | cons a r ih=>
  have hr:=ih fun i x y hx hy=>h (i+1) x y (by simpa using hx) (by simpa using hy)
  refine List.Pairwise.cons (fun b hb=>?_) hr
  match r,hb,hr,h with
  | c::r',hb,hr,h=>
   have h0:=h 0 a c rfl rfl
   rcases List.mem_cons.1 hb with rfl|hb
   ·exact h0
   ·exact Dct.lt_trans h0 ((List.pairwise_cons.1 hr).1 b hb)
def fnd:List Ob→ByteArray→Option Ob
 | [],_=>none
 | x::r,k=>if x.name=k then some x else fnd r k
def wo(l:List Ob)(k:ByteArray):List Ob:=l.filter fun p=>!decide (p.name=k)
def idx:List Ob→ByteArray→Nat
 | [],_=>0
 | x::r,k=>if Dct.lt x.name k=true then idx r k+1 else 0
def fin(l:List Ob)(k:ByteArray):Nat:=match l[idx l k]? with
 | some x=>if x.name=k then idx l k+1 else idx l k
 | none=>idx l k
theorem idx_le(l:List Ob)(k:ByteArray):idx l k≤l.length:=by
 induction l with
 | nil=>exact Nat.le_refl _
 | cons x r ih=>unfold idx;split<;>simp<;>omega
theorem idx_lt{l:List Ob}{k:ByteArray}{i:Nat}{x:Ob}(h:i<idx l k)(hx:l[i]?=some x):Dct.lt x.name k=true:=by
 induction l generalizing i with
 | nil=>simp at hx
 | cons y r ih=>
  unfold idx at h
  split at h
  next hy=>
   match i,h,hx with
   | 0,_,hx=>simp at hx;subst hx;exact hy
   | i+1,h,hx=>exact ih (i:=i) (Nat.lt_of_succ_lt_succ h) (by simpa using hx)
  ·omega
theorem idx_at{l:List Ob}{k:ByteArray}{x:Ob}(hx:l[idx l k]?=some x):Dct.lt x.name k=false:=by
 induction l with
 | nil=>simp at hx
 | cons y r ih=>
  unfold idx at hx
  split at hx
  ·exact ih (by simpa using hx)
  next hy=>simp at hx;subst hx;simpa using hy
theorem fin_le(l:List Ob)(k:ByteArray):idx l k≤fin l k∧fin l k≤l.length:=by
 have h:=idx_le l k
 unfold fin
 split
 next x hx=>
  have:=(List.getElem?_eq_some_iff.1 hx).1
  split<;>omega
 next=>omega
theorem fin_cons_lt{x:Ob}{r:List Ob}{k:ByteArray}(h:Dct.lt x.name k=true):idx (x::r) k=idx r k+1∧fin (x::r) k=fin r k+1:=by
 have e:idx (x::r) k=idx r k+1:=by conv=>lhs;unfold idx;rw[if_pos h]
 refine⟨e,?_⟩
 unfold fin
 rw[e,List.getElem?_cons_succ]
 split<;>(try split)<;>rfl
theorem fin_cons_eq{x:Ob}{r:List Ob}:idx (x::r) x.name=0∧fin (x::r) x.name=1:=by
 have e:idx (x::r) x.name=0:=by unfold idx;rw[if_neg (by rw[Dct.lt_irrefl];simp)]
 refine⟨e,?_⟩
 unfold fin
 rw[e]
 simp
theorem fin_cons_gt{x:Ob}{r:List Ob}{k:ByteArray}(h:Dct.lt k x.name=true):idx (x::r) k=0∧fin (x::r) k=0:=by
 have e:idx (x::r) k=0:=by unfold idx;rw[if_neg (by rw[Dct.lt_asymm h];simp)]
 refine⟨e,?_⟩
 unfold fin
 rw[e]
 have hne:¬x.name=k:=fun e=>Dct.lt_ne h e.symm
 simp[hne]
theorem wo_above{l:List Ob}{k:ByteArray}(h:∀x∈l,¬x.name=k):wo l k=l:=by
 unfold wo
 rw[List.filter_eq_self]
 intro x hx
 simp[h x hx]
theorem fnd_above{l:List Ob}{k:ByteArray}(h:∀x∈l,¬x.name=k):fnd l k=none:=by
 induction l with
 | nil=>rfl
 | cons x r ih=>
  unfold fnd
  rw[if_neg (h x (List.mem_cons_self ..))]
  exact ih fun y hy=>h y (List.mem_cons_of_mem _ hy)
theorem above{x:Ob}{r:List Ob}(h:Up (x::r)){k:ByteArray}(hk:x.name=k∨Dct.lt k x.name=true):∀y∈r,Dct.lt k y.name=true:=fun y hy=>by
 have h1:=(List.pairwise_cons.1 h).1 y hy
 rcases hk with rfl|hk
 ·exact h1
 ·exact Dct.lt_trans hk h1
theorem idx_above{l:List Ob}{k:ByteArray}(h:∀y∈l,Dct.lt k y.name=true):idx l k=0:=by
 match l,h with
 | [],_=>rfl
 | x::r,h=>exact(fin_cons_gt (h x (List.mem_cons_self ..))).1
theorem wo_parts{l:List Ob}(h:Up l)(k:ByteArray):l.take (idx l k)++l.drop (fin l k)=wo l k∧idx (wo l k) k=idx l k∧(fnd l k=if fin l k=idx l k then none else l[idx l k]?)∧fin l k≤idx l k+1:=by
 induction l with
 | nil=>exact⟨rfl,rfl,rfl,Nat.le_succ 0⟩
 | cons x r ih=>
  obtain⟨i1,i2,i3,i4⟩:=ih (List.pairwise_cons.1 h).2
  rcases Dct.lt_tri x.name k with hk|hk|hk
  ·obtain⟨e1,e2⟩:=fin_cons_lt (r:=r) hk
   have hne:=Dct.lt_ne hk
   have ew:wo (x::r) k=x::wo r k:=by unfold wo;rw[List.filter_cons_of_pos (by simp[hne])]
   refine⟨?_,?_,?_,by omega⟩
   ·rw[e1,e2,ew,List.take_succ_cons,List.drop_succ_cons,lcA,i1]
   ·rw[ew,(fin_cons_lt hk).1,i2,e1]
   ·rw[e1,e2,List.getElem?_cons_succ]
    have ef:fnd (x::r) k=fnd r k:=by conv=>lhs;unfold fnd;rw[if_neg hne]
    rw[ef,i3]
    by_cases hh:fin r k=idx r k
    ·rw[if_pos hh,if_pos (by omega)]
    ·rw[if_neg hh,if_neg (by omega)]
  ·subst hk
   obtain⟨e1,e2⟩:=fin_cons_eq (x:=x) (r:=r)
   have hab:=above h (.inl rfl)
   have hr:wo r x.name=r:=wo_above fun y hy e=>Dct.lt_ne (hab y hy) e.symm
   have ew:wo (x::r) x.name=r:=by unfold wo;rw[List.filter_cons_of_neg (by simp)];exact hr
   refine⟨?_,?_,?_,by omega⟩
   ·rw[e1,e2,ew];rfl
   ·rw[ew,e1];exact idx_above hab
   ·rw[e1,e2];unfold fnd;simp
  ·obtain⟨e1,e2⟩:=fin_cons_gt (r:=r) hk
   have hab:=above h (.inr hk)
   have hne:∀y∈x::r,¬y.name=k:=fun y hy e=>by
    rcases List.mem_cons.1 hy with rfl|hy
    ·exact Dct.lt_ne hk e.symm
    ·exact Dct.lt_ne (hab y hy) e.symm
   rw[wo_above hne,fnd_above hne,e1,e2]
   exact⟨rfl,rfl,by simp,Nat.le_succ 0⟩
theorem wo_take{l:List Ob}(h:Up l)(k:ByteArray):(wo l k).take (idx l k)=l.take (idx l k)∧(wo l k).drop (idx l k)=l.drop (fin l k):=by
 have e:=(wo_parts h k).1
 have hl:(l.take (idx l k)).length=idx l k:=by rw[List.length_take];have:=idx_le l k;omega
 rw[← e]
 constructor
 ·exact List.take_left' hl
 ·exact List.drop_left' hl
theorem wo_up{l:List Ob}(h:Up l)(k:ByteArray):Up (wo l k):=List.Pairwise.filter _ h
theorem wo_mem{l:List Ob}{k:ByteArray}{x:Ob}:x∈wo l k↔x∈l∧¬x.name=k:=by
 unfold wo;rw[List.mem_filter];simp
structure Right(l:List Ob):Prop where
 len:l.length≤8
 ok:∀x∈l,One x=true
 up:Up l
instance (l:List Ob):Decidable (Right l):=decidable_of_iff (l.length≤8∧(∀x∈l,One x=true)∧l.Pairwise (fun(a b:Ob)=>Dct.lt a.name b.name=true)) ⟨fun h=>⟨h.1,h.2.1,h.2.2⟩,fun h=>⟨h.len,h.ok,h.up⟩⟩
def Good(l:List Ob)(i:Nat):Prop:=∀x,l[i]?=some x→One x=true∧∀j y,i=j+1→l[j]?=some y→Dct.lt y.name x.name=true
theorem right_iff(l:List Ob):Right l↔l.length≤8∧∀i,i<l.length→Good l i:=by
 constructor
 ·intro h
  refine⟨h.len,fun i hi x hx=>⟨h.ok x (List.mem_of_getElem? hx),fun j y hj hy=>?_⟩⟩
  subst hj
  obtain⟨h1,e1⟩:=List.getElem?_eq_some_iff.1 hx
  obtain⟨h2,e2⟩:=List.getElem?_eq_some_iff.1 hy
  have:=(List.pairwise_iff_getElem.1 h.up) j (j+1) h2 h1 (by omega)
  rw[e1,e2] at this
  exact this
 ·intro h
  refine⟨h.1,fun x hx=>?_,up_of fun i x y hx hy=>?_⟩
  ·obtain⟨i,hi,e⟩:=List.getElem_of_mem hx
   exact(h.2 i hi x (by rw[List.getElem?_eq_getElem hi,e])).1
  ·exact(h.2 (i+1) (List.getElem?_eq_some_iff.1 hy).1 y hy).2 i x rfl hx
theorem right_nil:Right []:=⟨by simp,fun x hx=>by simp at hx,List.Pairwise.nil⟩
theorem right_told{l:List Ob}{n:Nat}(hl:l.length=n)(hn:n≤8):(∀i,i<n→¬Good l i→decide (Right l)=false)∧((∀i,i<n→Good l i)→decide (Right l)=true):=by
 subst hl
 refine⟨fun i hi h=>decide_eq_false fun hr=>h (((right_iff l).1 hr).2 i hi),fun h=>decide_eq_true ((right_iff l).2 ⟨hn,h⟩)⟩
def put(l:List Ob)(k:ByteArray)(o:Ob):List Ob:=l.take (idx l k)++[o]++l.drop (fin l k)
def num(n:Int):Val.V:=⟨1,n,0,⟨#[]⟩⟩
def fits(k z:Int):Bool:=if k=5∨k=17 then true else if k=6∨k=7∨k=8∨k=9 then decide (z=1) else if k=10∨k=11 then decide (z=2) else if k=12∨k=13 then decide (z=3) else if k=14 then decide (z=4) else if k=15∨k=16 then decide (z=5) else false
def size(o:Ob):Int:=if o.kind=1 then (o.prs.length:Int) else if o.kind=2 then (o.vals.length:Int) else if o.kind=5 then o.mt.n else (o.refs.length:Int)
def held(y:Rf)(h:Bool):List Ot:=if h=true then [⟨y,rz⟩] else []
def take(o:Ob)(r:Rf):Oc:=⟨{ o with refs:=Lck.tkL o.refs r },err (Lck.tkE o.refs r),decide (Lck.tkE o.refs r=0)&&!Lck.tkH o.refs r,[]⟩
def free(o:Ob)(r:Rf):Oc:=⟨{ o with refs:=Lck.frL o.refs r },err (Lck.frE o.refs r),false,held (Lck.frN o.refs r) (Lck.frS o.refs r)⟩
def thru(l:List Rf)(p:Rp):List Ot:=l.map fun x=>⟨x,p⟩
def wait(o:Ob)(r:Rf):Oc:=
 if (Gt.wtA o.cap o.refs r).length=0 then ⟨{ o with refs:=Gt.wtL o.cap o.refs r },err (Gt.wtE o.cap o.refs r),decide (Gt.wtE o.cap o.refs r=0),[]⟩
 else if o.round=9223372036854775807 then ⟨o,err 6,false,[]⟩
 else ⟨{ o with refs:=Gt.wtL o.cap o.refs r,round:=o.round+1 },⟨0,num o.round⟩,false,thru ((Gt.wtA o.cap o.refs r).take ((Gt.wtA o.cap o.refs r).length-1)) ⟨0,num o.round⟩⟩
def act(o:Ob)(r:Rf)(c:Cmd.C):Oc:=
 if c.k=12 then take o r else if c.k=13 then free o r else if c.k=14 then wait o r
 else if c.k=6 then ⟨o,⟨Dct.gtE o.prs c.key,Dct.gtV o.prs c.key⟩,false,[]⟩
 else if c.k=7 then ⟨{ o with prs:=Dct.ptL o.prs c.key c.val },err (Dct.ptE o.prs c.key c.val),false,[]⟩
 else if c.k=8 then ⟨{ o with prs:=Dct.ctL o.prs c.key },⟨Dct.gtE o.prs c.key,Dct.gtV o.prs c.key⟩,false,[]⟩
 else if c.k=9 then ⟨{ o with prs:=Dct.swL o.prs c.key c.old c.val },⟨Dct.swE o.prs c.key c.old c.val,Dct.swV o.prs c.key c.old⟩,false,[]⟩
 else if c.k=10 then ⟨{ o with vals:=Que.psL o.cap o.vals c.val },err (Que.psE o.cap o.vals c.val),false,[]⟩
 else if c.k=11 then ⟨{ o with vals:=Que.ppL o.cap o.vals },⟨Que.ppE o.cap o.vals,Que.ppV o.cap o.vals⟩,false,[]⟩
 else if c.k=15 then ⟨{ o with mt:=Mt.ad o.mt c.val.f },err (Mt.adE o.mt),false,[]⟩
 else if c.k=16 then ⟨o,⟨(Mt.rd o.mt c.n).e,⟨(Mt.rd o.mt c.n).k,(Mt.rd o.mt c.n).n,(Mt.rd o.mt c.n).f,⟨#[]⟩⟩⟩,false,[]⟩
 else if c.k=17 then ⟨o,⟨0,num (size o)⟩,false,[]⟩
 else ⟨o,rz,false,[]⟩
def chkN(l:List Ob)(k:ByteArray):Int:=if (fnd l k).isSome=true then 8 else if l.length=8 then 6 else 0
def chkO(x:Option Ob)(k:Int):Int:=match x with
 | none=>5
 | some o=>if fits k o.kind=false then 7 else if k=5∧0<o.refs.length then 13 else 0
def chk(l:List Ob)(r:Rf)(c:Cmd.C):Int:=
 if ¬(Right l∧Lck.ok r∧4≤c.k∧c.k≤17) then 1 else if Cmd.chk c≠0 then Cmd.chk c
 else if c.k=4 then chkN l c.name else chkO (fnd l c.name) c.k
def fresh(c:Cmd.C):Ob:=⟨c.name,c.n,c.m,[],[],[],0,Mt.zero⟩
def doo(l:List Ob)(r:Rf)(c:Cmd.C):Rs:=
 if chk l r c≠0 then ⟨l,err (chk l r c),false,[]⟩
 else if c.k=4 then ⟨put l c.name (fresh c),rz,false,[]⟩
 else if c.k=5 then ⟨wo l c.name,rz,false,[]⟩
 else match fnd l c.name with
  | none=>⟨l,rz,false,[]⟩
  | some o=>⟨put l c.name (act o r c).o,(act o r c).p,(act o r c).later,(act o r c).outs⟩
def dr(o:Ob)(r:Rf):Ob:=if o.kind=3 then { o with refs:=Lck.drL o.refs r } else if o.kind=4 then { o with refs:=Gt.drL o.cap o.refs r } else o
def drO(o:Ob)(r:Rf):List Ot:=if o.kind=3 then held (Lck.drN o.refs r) (Lck.drS o.refs r) else []
def dropL(l:List Ob)(r:Rf):List Ob:=if Right l then l.map fun o=>dr o r else l
def dropO(l:List Ob)(r:Rf):List Ot:=if Right l then l.flatMap fun o=>drO o r else []
end Sto
end
section
open Go.RowKit
def prL(p:Dct.Pr):List Value:=[.string p.key,.int .i64 p.val.k,.int .i64 p.val.n,.int .u64 (p.val.f:Int),.string p.val.s]
def prC(key:ByteArray)(k n:Int)(f:Nat)(s:ByteArray):Array Value:=#[.string key,.int .i64 k,.int .i64 n,.int .u64 (f:Int),.string s]
def prA(p:Dct.Pr):Array Value:=prC p.key p.val.k p.val.n p.val.f p.val.s
theorem info_prl:(Tryz.prog.info? 85).map (fun i=>(i.zero,i.size,i.bytes))=some (some (Value.agg #[.string ⟨#[]⟩,.int .i64 0,.int .i64 0,.int .u64 0,.string ⟨#[]⟩]),5,56):=by kernel_rfl
theorem info_pr:(Tryz.prog.info? 85).map (·.size)=some 5:=by kernel_rfl
def prLay:Lay Tryz.prog Dct.Pr where
 t:=54
 e:=85
 k:=5
 bytes:=56
 z:=.agg #[.string ⟨#[]⟩,.int .i64 0,.int .i64 0,.int .u64 0,.string ⟨#[]⟩]
 f:=prL
 len:=fun _=>rfl
 one:=fun x u hu=>by
  unfold prL at hu
  simp only[List.mem_cons,List.not_mem_nil,or_false] at hu
  rcases hu with rfl|rfl|rfl|rfl|rfl<;>rfl
 und:=Tryz.underlying54
 info:=info_prl
 zs:=rfl
 pos:=by decide
 small:=by decide
structure Sl(w:World)(A:Option Addr)(n c:Nat)(l:List Dct.Pr):Prop where
 len:l.length=n
 cap:n≤c
 rd:prLay.Reads w w.heap.size A l
 nl:A=none→l=[]
 fs:∀x∈l,x.val.f<18446744073709551616
 big:n≤2513169434916
theorem Sl.later{w w':World}{A:Option Addr}{n c:Nat}{l:List Dct.Pr}(h:Sl w A n c l)(hb:Below w.heap.size w w'):Sl w' A n c l:=
 ⟨h.len,h.cap,h.rd.later hb (Nat.le_refl _),h.nl,h.fs,h.big⟩
theorem Sl.none(w:World):Sl w none 0 0 []:=⟨rfl,Nat.le_refl _,Lay.Reads.nil _ _ _,fun _=>rfl,(fun x hx=>by simp at hx),by decide⟩
structure Fit(l:List Dct.Pr):Prop where
 fs:∀x∈l,x.val.f<18446744073709551616
 big:l.length≤2513169434916
theorem Sl.fit{w:World}{A:Option Addr}{n c:Nat}{l:List Dct.Pr}(h:Sl w A n c l):Fit l:=⟨h.fs,by rw[h.len];exact h.big⟩
theorem Fit.wo{l:List Dct.Pr}(h:Fit l)(k:ByteArray):Fit (Dct.wo l k):=⟨fun x hx=>h.fs x (Dct.wo_mem.1 hx).1,Nat.le_trans (List.length_filter_le _ _) h.big⟩
theorem Fit.ins{l:List Dct.Pr}(h:Fit l)(hu:Dct.Up l)(k:ByteArray){v:Val.V}(hv:v.f<18446744073709551616)(hn:(Dct.wo l k).length<8):Fit (Dct.ins l k v):=by
 have hp:=Dct.ins_perm hu k v
 refine⟨fun x hx=>?_,?_⟩
 ·rcases List.mem_append.1 (hp.mem_iff.1 hx) with hx|hx
  ·exact(h.wo k).fs x hx
  ·rw[List.mem_singleton] at hx;subst hx;exact hv
 ·rw[hp.length_eq,List.length_append]
  show _+1≤_
  omega
theorem Sl.own{w:World}{base:Nat}{A:Option Addr}{n c:Nat}{l:List Dct.Pr}(h:prLay.Own base w (.slice A n c) l)(hfit:Fit l):Sl w A n c l:=by
 obtain⟨hf,hb⟩:=hfit
 have hr:=h.reads
 have hn:=hr.1
 subst hn
 refine⟨rfl,h.cap,hr.2,fun hA=>?_,hf,hb⟩
 subst hA
 rcases h.2 with ⟨_,h0⟩|⟨g,cap,cur,e,_⟩
 ·exact List.length_eq_zero_iff.1 h0
 ·cases e
theorem Sl.at{w:World}{A:Option Addr}{n c:Nat}{l:List Dct.Pr}(h:Sl w A n c l)(hn:0<n):∃b o,A=some ⟨b,o,Option.none⟩∧
  ∀W,Below w.heap.size w W→∀i x,l[i]?=some x→∀j v,(prL x)[j]?=some v→W.cell? ⟨b,o+i*5+j,Option.none⟩=some v:=by
 have hl:=h.len
 obtain⟨b,o,rfl,hb,hc⟩:=h.rd (by omega)
 exact⟨b,o,rfl,fun W hW i x hx j v hv=>(hW.cell (p:=⟨b,o+i*5+j,Option.none⟩) hb).trans (hc i x hx j v hv)⟩
theorem Sl.take{w:World}{A:Option Addr}{n c:Nat}{l:List Dct.Pr}(h:Sl w A n c l){hi:Nat}(h2:hi≤n):Sl w A hi c (l.take hi):=
 ⟨by rw[List.length_take,h.len];omega,Nat.le_trans h2 h.cap,h.rd.take hi,(fun e=>by rw[h.nl e];simp),(fun x hx=>h.fs x (List.mem_of_mem_take hx)),Nat.le_trans h2 h.big⟩
def sub(A:Option Addr)(lo c:Nat):Option Addr:=if c=lo then A else A.map (·.add (lo*5))
theorem Sl.sub{w:World}{A:Option Addr}{n c:Nat}{l:List Dct.Pr}(h:Sl w A n c l){lo hi:Nat}(h1:lo≤hi)(h2:hi≤n):Sl w (sub A lo c) (hi-lo) (c-lo) ((l.drop lo).take (hi-lo)):=by
 have hl:=h.len
 have hc:=h.cap
 have hb:=h.big
 have hle:((l.drop lo).take (hi-lo)).length=hi-lo:=by rw[List.length_take,List.length_drop];omega
 have hfs:∀x∈(l.drop lo).take (hi-lo),x.val.f<18446744073709551616:=fun x hx=>h.fs x (List.mem_of_mem_drop (List.mem_of_mem_take hx))
 by_cases h0:hi-lo=0
 ·have he:(l.drop lo).take (hi-lo)=[]:=by rw[h0];rfl
  rw[he]
  exact⟨by rw[h0];rfl,by omega,Lay.Reads.nil _ _ _,fun _=>rfl,(fun x hx=>by simp at hx),by omega⟩
 ·obtain⟨b,o,rfl,hb',hc'⟩:=h.rd (by omega)
  have hA:Go.Proofs.YtddpmlcpfmmbeaaGreat.sub (some ⟨b,o,Option.none⟩) lo c=some ⟨b,o+lo*5,Option.none⟩:=by
   unfold Go.Proofs.YtddpmlcpfmmbeaaGreat.sub
   rw[if_neg (by omega),Option.map_some,Lay.add_at]
  rw[hA]
  have hr:=((h.rd.drop lo).take (hi-lo))
  exact⟨hle,by omega,hr,(fun e=>by cases e),hfs,by omega⟩
section
variable {b0:Nat}{w0 w:World}{L:List (Nat×TypeId×Array Value)}{R:List RowE}{ops:Array Oper}{rest:List Oper}{o:Oper}{a:Act}{Q:Exit→Act→World→Prop}{K:Act→World→Prop}{E:Prop}{g:Nat}
theorem exec_sl_h{A:Option Addr}{n c hi:Nat}(x q:Operand)(ho:o.op=.slice 54 x none (some q) none)(hx:a.eval x=.slice A n c)(hq:a.eval q=.int .i64 (hi:Int))(h2:hi≤c):
  (execOp a.eval o).run Tryz.prog w=.ok (.value (.slice A hi c)) w:=by
 unfold execOp
 simp only[ho,Option.map_some,Option.map_none,hx,hq]
 go_simp
theorem exec_sl_lh{A:Option Addr}{n c lo hi:Nat}(x p q:Operand)(ho:o.op=.slice 54 x (some p) (some q) none)(hx:a.eval x=.slice A n c)(hp:a.eval p=.int .i64 (lo:Int))(hq:a.eval q=.int .i64 (hi:Int))(h1:lo≤hi)(h2:hi≤c):
  (execOp a.eval o).run Tryz.prog w=.ok (.value (.slice (sub A lo c) (hi-lo) (c-lo))) w:=by
 unfold execOp
 simp only[ho,Option.map_some,Option.map_none,hx,hp,hq]
 go_simp
 rfl
theorem exec_sl_l{A:Option Addr}{n c lo:Nat}(x p:Operand)(ho:o.op=.slice 54 x (some p) none none)(hx:a.eval x=.slice A n c)(hp:a.eval p=.int .i64 (lo:Int))(h1:lo≤n):
  (execOp a.eval o).run Tryz.prog w=.ok (.value (.slice (sub A lo c) (n-lo) (c-lo))) w:=by
 unfold execOp
 simp only[ho,Option.map_some,Option.map_none,hx,hp]
 go_simp
 rfl
theorem exec_ix{b off n c i:Nat}(x q:Operand)(ho:o.op=.indexAddr 54 x q)(hx:a.eval x=.slice (some ⟨b,off,none⟩) n c)(hq:a.eval q=.int .i64 (i:Int))(h:i<n):
  (execOp a.eval o).run Tryz.prog w=.ok (.value (.pointer (some ⟨b,off+i*5,none⟩))) w:=by
 have h1:(0:Int)≤(i:Int):=by omega
 have h2:(i:Int)<(n:Int):=by omega
 unfold execOp
 simp only[ho,hx,hq]
 go_simp
theorem exec_slt{x y:ByteArray}{b:Bool}(p q:Operand)(ho:o.op=.binOp .lss 9 p q 9)(hx:a.eval p=.string x)(hy:a.eval q=.string y)(hb:Dct.lt x y=b):
  (execOp a.eval o).run Tryz.prog w=.ok (.value (.bool b)) w:=by
 subst hb
 unfold execOp Dct.lt
 simp only[ho,hx,hy]
 go_simp
theorem exec_sle{x y:ByteArray}{b:Bool}(p q:Operand)(ho:o.op=.binOp .leq 9 p q 9)(hx:a.eval p=.string x)(hy:a.eval q=.string y)(hb:(!Dct.lt y x)=b):
  (execOp a.eval o).run Tryz.prog w=.ok (.value (.bool b)) w:=by
 have he:(Go.Op.bytesLess x.toList y.toList || x.toList==y.toList)=b:=by
  rw[← hb]
  show(Dct.lt x y || x.toList==y.toList)=!Dct.lt y x
  rcases Dct.lt_tri x y with h|rfl|h
  ·rw[h,Dct.lt_asymm h];rfl
  ·rw[Dct.lt_irrefl];simp
  ·rw[h,Dct.lt_asymm h]
   have hne:¬x.toList=y.toList:=fun e=>Dct.lt_ne h (Dct.toList_inj e).symm
   simp[hne]
 unfold execOp
 simp only[ho,hx,hy]
 go_simp
theorem exec_seq{x y:ByteArray}{b:Bool}(p q:Operand)(ho:o.op=.binOp .eql 9 p q 9)(hx:a.eval p=.string x)(hy:a.eval q=.string y)(hb:decide (x=y)=b):
  (execOp a.eval o).run Tryz.prog w=.ok (.value (.bool b)) w:=by
 have he:(x.toList==y.toList)=b:=by rw[← hb];by_cases h:x=y<;>simp[h,Dct.eq_iff.symm]
 unfold execOp
 simp only[ho,hx,hy]
 go_simp
theorem exec_lpr{b off:Nat}{x:Dct.Pr}(p:Operand)(ho:o.op=.load 85 p)(hx:a.eval p=.pointer (some ⟨b,off,none⟩))(hc:∀j v,(prL x)[j]?=some v→w.cell? ⟨b,off+j,none⟩=some v):
  (execOp a.eval o).run Tryz.prog w=.ok (.value (.agg (prA x))) w:=by
 have hr:w.rangeAt b off (prA x).toList:=fun j v hj=>hc j v hj
 have h:=run_loadVar_mid (P:=Tryz.prog) w b off 85 (prA x).toList _ hr Tryz.underlying85 rfl (by
  have h:(Tryz.prog.info? 85).map (·.size)=some (prA x).size:=info_pr
  simpa using h)
 unfold execOp
 simp only[ho,hx,Instr.loadAt,Instr.sureAddr,Sem.run_bind,Sem.run_pure,Result.andThen_ok,h,Array.toArray_toList]
theorem exec_lpv{b off off2:Nat}{x:Dct.Pr}(p:Operand)(ho:o.op=.load 26 p)(hx:a.eval p=.pointer (some ⟨b,off2,none⟩))(ho2:off2=off+1)(hc:∀j v,(prL x)[j]?=some v→w.cell? ⟨b,off+j,none⟩=some v):
  (execOp a.eval o).run Tryz.prog w=.ok (.value (.agg #[.int .i64 x.val.k,.int .i64 x.val.n,.int .u64 (x.val.f:Int),.string x.val.s])) w:=by
 subst ho2
 have hr:w.rangeAt b (off+1) (vC x.val.k x.val.n x.val.f x.val.s).toList:=fun j v hj=>by
  rw[Nat.add_assoc,Nat.add_comm 1 j]
  exact hc (j+1) v hj
 have h:=run_loadVar_mid (P:=Tryz.prog) w b (off+1) 26 (vC x.val.k x.val.n x.val.f x.val.s).toList _ hr Tryz.underlying26 rfl (by
  have h:(Tryz.prog.info? 26).map (·.size)=some (vC x.val.k x.val.n x.val.f x.val.s).size:=info_v4
  simpa using h)
 unfold execOp
 simp only[ho,hx,Instr.loadAt,Instr.sureAddr,Sem.run_bind,Sem.run_pure,Result.andThen_ok,h,Array.toArray_toList]
 rfl
theorem exec_lpk{b off:Nat}{x:Dct.Pr}(p:Operand)(ho:o.op=.load 9 p)(hx:a.eval p=.pointer (some ⟨b,off,none⟩))(hc:∀j v,(prL x)[j]?=some v→w.cell? ⟨b,off+j,none⟩=some v):
  (execOp a.eval o).run Tryz.prog w=.ok (.value (.string x.key)) w:=
 exec_cell p ho hx (hc 0 _ rfl) Tryz.underlying9 rfl
theorem kexec_ppk{key:ByteArray}{k n:Int}{f:Nat}{s:ByteArray}(HK:Hid (Kn b0 w0 w L R))(i:Nat)(x:Operand)(ho:o.op=.load 9 x)(hL:L[i]?=some (g,85,prC key k n f s))(hx:a.eval x=.pointer (some ⟨g,0,none⟩)):
  (execOp a.eval o).run Tryz.prog w=.ok (.value (.string key)) w:=kexec_lc HK _ x ho i hL hx rfl Tryz.underlying9 rfl
theorem kexec_ppv{key:ByteArray}{k n:Int}{f:Nat}{s:ByteArray}(HK:Hid (Kn b0 w0 w L R))(i:Nat)(x:Operand)(ho:o.op=.load 26 x)(hL:L[i]?=some (g,85,prC key k n f s))(hx:a.eval x=.pointer (some ⟨g,1,none⟩)):
  (execOp a.eval o).run Tryz.prog w=.ok (.value (.agg #[.int .i64 k,.int .i64 n,.int .u64 (f:Int),.string s])) w:=
 kexec_ls HK _ x ho i hL hx #[.int .i64 k,.int .i64 n,.int .u64 (f:Int),.string s] (fun j hj=>by
  match j,hj with
  | 0,_|1,_|2,_|3,_=>rfl) Tryz.underlying26 info_v4
theorem wpList_akp(HK:Hid (Kn b0 w0 w L R))(hgd:o.guard=none)(ho:o.op=.alloc 85)
  (h:∀w' g,Hid (Kn b0 w0 w' (L++[(g,85,prC ⟨#[]⟩ 0 0 0 ⟨#[]⟩)]) R)→wpList Tryz.prog ops Q rest (a.put o.dst (.pointer (some ⟨g,0,none⟩))) w'):wpList Tryz.prog ops Q (o::rest) a w:=
 wpList_plain hgd fun K hK=>by
  have h4:=h _ w.heap.size (zH (HK.out.alloc _ _))
  unfold Oper.wp execOp
  simp only[ho]
  unfold prC at h4
  go_simp
  exact hK _ _ h4
theorem wpList_sp{p1 p2:Dct.Pr}(HK:Hid (Kn b0 w0 w L R))(i:Nat)(hgd:o.guard=none)(p q:Operand)(ho:o.op=.store 85 p q)(hL:L[i]?=some (g,85,prA p1))(hx:a.eval p=.pointer (some ⟨g,0,none⟩))(hy:a.eval q=.agg (prA p2))
  (h:∀w',Hid (Kn b0 w0 w' (L.set i (g,85,prA p2)) R)→wpList Tryz.prog ops Q rest (a.put o.dst undef) w'):wpList Tryz.prog ops Q (o::rest) a w:=
 wpList_ss HK i hgd _ p q ho hL hx hy (by show 5≤5;decide) info_pr (by simp[prA,prC,Value.oneCell']) fun w' h1 h2=>h w' (by
  have e:putCells (prA p1) 0 (prA p2).toList=prA p2:=by
   rw[putCells_all (vs:=(prA p2).toList) (cs:=prA p1) rfl,Array.toArray_toList]
  rw[e] at h1
  exact h1)
theorem Kn.mkP(h:Kn b0 w0 w L R)(l:List Dct.Pr)(C:Array Value)(hC:C=(prLay.flat l).toArray)(n:Nat)(hn:n=l.length)(hl:l.length≤65536):
  Kn b0 w0 (w.alloc (.cells C prLay.e)) L (R++[row prLay (.slice (some ⟨w.heap.size,0,none⟩) n n) l]):=
 h.called ((Below.refl _ w).alloc (Nat.le_refl _) _) (Lay.Own.new w l C _ _ _ hC (Nat.le_refl _) rfl hn hn hl)
theorem wpList_mp0(HK:Hid (Kn b0 w0 w L R))(hgd:o.guard=none)(ho:o.op=.buildSlice 54 0 #[])
  (h:∀w' g,Hid (Kn b0 w0 w' L (R++[row prLay (.slice (some ⟨g,0,none⟩) 0 0) []]))→wpList Tryz.prog ops Q rest (a.put o.dst (.slice (some ⟨g,0,none⟩) 0 0)) w'):wpList Tryz.prog ops Q (o::rest) a w:=
 wpList_plain hgd fun K hK=>by
  have h4:=h _ w.heap.size (zH (HK.out.mkP [] #[] rfl 0 rfl (by show 0≤65536;decide)))
  have hr:(Instr.buildSlice 54 0 #[]).run Tryz.prog w=.ok (.slice (some ⟨w.heap.size,0,none⟩) 0 0) (w.alloc (.cells #[] prLay.e)):=by
   go_simp
   rfl
  unfold Oper.wp execOp
  simp only[ho,Sem.run_bind,Sem.run_pure,Result.andThen_ok,List.map_toArray,List.map_nil,hr]
  exact hK _ _ h4
theorem wpList_mp1(HK:Hid (Kn b0 w0 w L R))(hgd:o.guard=none)(x:Operand)(ho:o.op=.buildSlice 54 1 #[(0,x)]){p:Dct.Pr}(hx:a.eval x=.agg (prA p))
  (h:∀w' g,Hid (Kn b0 w0 w' L (R++[row prLay (.slice (some ⟨g,0,none⟩) 1 1) [p]]))→wpList Tryz.prog ops Q rest (a.put o.dst (.slice (some ⟨g,0,none⟩) 1 1)) w'):wpList Tryz.prog ops Q (o::rest) a w:=
 wpList_plain hgd fun K hK=>by
  have h4:=h _ w.heap.size (zH (HK.out.mkP [p] (prA p) rfl 1 rfl (by show 1≤65536;decide)))
  have hr:(Instr.buildSlice 54 1 #[(0,.agg (prA p))]).run Tryz.prog w=.ok (.slice (some ⟨w.heap.size,0,none⟩) 1 1) (w.alloc (.cells (prA p) prLay.e)):=by
   unfold prA prC
   go_simp
   rfl
  unfold Oper.wp execOp
  simp only[ho,Sem.run_bind,Sem.run_pure,Result.andThen_ok,List.map_toArray,List.map_cons,List.map_nil,hx,hr]
  exact hK _ _ h4
theorem kwp_ms1(HK:Hid (Kn b0 w0 w L R))(x:Operand)(ho:o.op=.buildSlice 107 1 #[(0,x)]){A:Option Addr}{n c:Nat}(hx:a.eval x=.slice A n c)
  (h:∀w' g,Hid (Kn b0 w0 w' (L++[(g,54,#[.slice A n c])]) R)→Hid (Below w.heap.size w w')→K (a.put o.dst (.slice (some ⟨g,0,none⟩) 1 1)) w'):o.wp Tryz.prog a w K Q:=by
 have h4:=h _ w.heap.size (zH (HK.out.alloc 54 #[.slice A n c])) (zH ((Below.refl _ w).alloc (Nat.le_refl _) _))
 have hr:(Instr.buildSlice 107 1 #[(0,.slice A n c)]).run Tryz.prog w=.ok (.slice (some ⟨w.heap.size,0,none⟩) 1 1) (w.alloc (.cells #[.slice A n c] 54)):=by
  go_simp
 unfold Oper.wp execOp
 simp only[ho,Sem.run_bind,Sem.run_pure,Result.andThen_ok,List.map_toArray,List.map_cons,List.map_nil,hx,hr]
 exact h4
theorem wpList_ms1(HK:Hid (Kn b0 w0 w L R))(hgd:o.guard=none)(x:Operand)(ho:o.op=.buildSlice 107 1 #[(0,x)]){A:Option Addr}{n c:Nat}(hx:a.eval x=.slice A n c)
  (h:∀w' g,Hid (Kn b0 w0 w' (L++[(g,54,#[.slice A n c])]) R)→Hid (Below w.heap.size w w')→wpList Tryz.prog ops Q rest (a.put o.dst (.slice (some ⟨g,0,none⟩) 1 1)) w'):wpList Tryz.prog ops Q (o::rest) a w:=
 wpList_plain hgd fun _ hK=>kwp_ms1 HK x ho hx fun w' g h1 h2=>hK _ _ (h w' g h1 h2)
theorem step_ms1(HK:Hid (Kn b0 w0 w L R))(hgd:o.guard=none)(x:Operand)(ho:o.op=.buildSlice 107 1 #[(0,x)]){A:Option Addr}{n c:Nat}(hx:a.eval x=.slice A n c)
  (h:∀w' g,Hid (Kn b0 w0 w' (L++[(g,54,#[.slice A n c])]) R)→Hid (Below w.heap.size w w')→K (a.put o.dst (.slice (some ⟨g,0,none⟩) 1 1)) w'):if Region.wanted o (yielded ops a.tmps)=true then Oper.wp Tryz.prog o a w K Q else E:=by
 rw[if_pos (by simp[Region.wanted,hgd])]
 exact kwp_ms1 HK x ho hx h
theorem wpList_ms2(HK:Hid (Kn b0 w0 w L R))(hgd:o.guard=none)(x y:Operand)(ho:o.op=.buildSlice 107 2 #[(0,x),(1,y)]){A A2:Option Addr}{n c n2 c2:Nat}(hx:a.eval x=.slice A n c)(hy:a.eval y=.slice A2 n2 c2)
  (h:∀w' g,Hid (Kn b0 w0 w' (L++[(g,54,#[.slice A n c,.slice A2 n2 c2])]) R)→Hid (Below w.heap.size w w')→wpList Tryz.prog ops Q rest (a.put o.dst (.slice (some ⟨g,0,none⟩) 2 2)) w'):wpList Tryz.prog ops Q (o::rest) a w:=
 wpList_plain hgd fun K hK=>by
  have h4:=h _ w.heap.size (zH (HK.out.alloc 54 #[.slice A n c,.slice A2 n2 c2])) (zH ((Below.refl _ w).alloc (Nat.le_refl _) _))
  have hr:(Instr.buildSlice 107 2 #[(0,.slice A n c),(1,.slice A2 n2 c2)]).run Tryz.prog w=.ok (.slice (some ⟨w.heap.size,0,none⟩) 2 2) (w.alloc (.cells #[.slice A n c,.slice A2 n2 c2] 54)):=by
   go_simp
  unfold Oper.wp execOp
  simp only[ho,Sem.run_bind,Sem.run_pure,Result.andThen_ok,List.map_toArray,List.map_cons,List.map_nil,hx,hy,hr]
  exact hK _ _ h4
theorem wpList_ms3(HK:Hid (Kn b0 w0 w L R))(hgd:o.guard=none)(x y z:Operand)(ho:o.op=.buildSlice 107 3 #[(0,x),(1,y),(2,z)]){A A2 A3:Option Addr}{n c n2 c2 n3 c3:Nat}(hx:a.eval x=.slice A n c)(hy:a.eval y=.slice A2 n2 c2)(hz:a.eval z=.slice A3 n3 c3)
  (h:∀w' g,Hid (Kn b0 w0 w' (L++[(g,54,#[.slice A n c,.slice A2 n2 c2,.slice A3 n3 c3])]) R)→Hid (Below w.heap.size w w')→wpList Tryz.prog ops Q rest (a.put o.dst (.slice (some ⟨g,0,none⟩) 3 3)) w'):wpList Tryz.prog ops Q (o::rest) a w:=
 wpList_plain hgd fun K hK=>by
  have h4:=h _ w.heap.size (zH (HK.out.alloc 54 #[.slice A n c,.slice A2 n2 c2,.slice A3 n3 c3])) (zH ((Below.refl _ w).alloc (Nat.le_refl _) _))
  have hr:(Instr.buildSlice 107 3 #[(0,.slice A n c),(1,.slice A2 n2 c2),(2,.slice A3 n3 c3)]).run Tryz.prog w=.ok (.slice (some ⟨w.heap.size,0,none⟩) 3 3) (w.alloc (.cells #[.slice A n c,.slice A2 n2 c2,.slice A3 n3 c3] 54)):=by
   go_simp
  unfold Oper.wp execOp
  simp only[ho,Sem.run_bind,Sem.run_pure,Result.andThen_ok,List.map_toArray,List.map_cons,List.map_nil,hx,hy,hz,hr]
  exact hK _ _ h4
end
def IsL(r:List Dct.Pr)(w:World)(e:Ending)(w':World):Prop:=∃A n c,e=.returned (.slice A n c)∧prLay.Own w.heap.size w' (.slice A n c) r∧Below w.heap.size w w'
end
section
open Go.ChangeShapes Go.WideShapes Go.Deep Go.RowKit
theorem info_val:(Tryz.prog.info? 26).map (fun i=>(i.zero,i.size,i.bytes))=some (some (Value.agg #[.int .i64 0,.int .i64 0,.int .u64 0,.string ⟨#[]⟩]),4,40):=by kernel_rfl
def vaLay:Lay Tryz.prog Val.V where
 t:=55
 e:=26
 k:=4
 bytes:=40
 z:=.agg #[.int .i64 0,.int .i64 0,.int .u64 0,.string ⟨#[]⟩]
 f:=vaL
 len:=fun _=>rfl
 one:=fun x u hu=>by
  unfold vaL at hu
  simp only[List.mem_cons,List.not_mem_nil,or_false] at hu
  rcases hu with rfl|rfl|rfl|rfl<;>rfl
 und:=Tryz.underlying55
 info:=info_val
 zs:=rfl
 pos:=by decide
 small:=by decide
def vF(v:Val.V):Prop:=v.f<18446744073709551616
theorem info_vas:(Tryz.prog.info? 55).map (fun i=>(i.zero,i.size))=some (some (Value.slice none 0 0),1):=by kernel_rfl
def vaNest:Nest vaLay where
 tt:=109
 und:=Tryz.underlying109
 info:=info_vas
section
variable {w:World}{o:Oper}{a:Act}
theorem exec_lva{b off:Nat}{k n:Int}{f:Nat}{s:ByteArray}(p:Operand)(ho:o.op=.load 26 p)(hx:a.eval p=.pointer (some ⟨b,off,none⟩))(hc:∀j v,(vaL ⟨k,n,f,s⟩)[j]?=some v→w.cell? ⟨b,off+j,none⟩=some v):
  (execOp a.eval o).run Tryz.prog w=.ok (.value (.agg #[.int .i64 k,.int .i64 n,.int .u64 (f:Int),.string s])) w:=
 exec_slv vaLay (x:=⟨k,n,f,s⟩) p ho hx Tryz.underlying26 hc
theorem exec_ixv{b off n c i:Nat}(x q:Operand)(ho:o.op=.indexAddr 55 x q)(hx:a.eval x=.slice (some ⟨b,off,none⟩) n c)(hq:a.eval q=.int .i64 (i:Int))(h:i<n):
  (execOp a.eval o).run Tryz.prog w=.ok (.value (.pointer (some ⟨b,off+i*4,none⟩))) w:=exec_slx vaLay x q ho hx hq h
theorem exec_svl{A:Option Addr}{n c lo:Nat}(x p:Operand)(ho:o.op=.slice 55 x (some p) none none)(hx:a.eval x=.slice A n c)(hp:a.eval p=.int .i64 (lo:Int))(h1:lo≤n):
  (execOp a.eval o).run Tryz.prog w=.ok (.value (.slice (subA 4 A lo c) (n-lo) (c-lo))) w:=exec_sls_l vaLay x p ho hx hp h1
end
section
variable {H:Type}{enc:TypeId×Value→H}{W:World}{base:Nat}
theorem bytes_val:Tryz.prog.bytesOf 26=40:=by kernel_rfl
theorem opens_vas:Opens enc vaLay (fun v _=>vF v):=fun W n cs x ht=>by
 obtain⟨v,h1,h2⟩:=opens_val (enc:=enc) W n cs x ht
 exact⟨v,h1,h2⟩
theorem Lift.Given.vals{ts:List TypeId}{args:List Value}{ds:List (DataW H)}{before:List MemPlace}(h:Lift.Given enc Tryz.prog (55::ts) W base args ds before):
  ∃(A:Option Addr) (c:Nat) (l:List Val.V) (vs:List Value) (d:DataW H) (ds':List (DataW H)) (q:List MemPlace),args=.slice A l.length c::vs∧ds=d::ds'∧Sls vaLay vF W A l.length c l∧Lift.Given enc Tryz.prog ts W base vs ds' q:=by
 obtain⟨A,c,l,vs,d,ds',q,h1,h2,h3,h4,h5,h6,_,h8,h9⟩:=h.things (L:=vaLay) opens_vas cells_val bytes_val
 have hb:l.length*40≤reachBytes:=h6
 refine⟨A,c,l,vs,d,ds',q,h1,h2,⟨rfl,h8,h3,h4,fun x hx=>?_,?_⟩,h9⟩
 ·obtain⟨dx,g,_⟩:=h5 x hx
  exact g
 ·have:reachBytes=140737488351232:=rfl
  show l.length*40≤_
  omega
end
end
section
open Go.RowKit
theorem info_ar:(Tryz.prog.info? 184).map (·.size)=some 16:=by kernel_rfl
theorem ret_ar{fn:Func}{R:Ending→World→Prop}{a:Act}{w:World}{B:Nat}{cs:Array Value}{q:Tmp}(hf:fn.results=#[.cell q 184])(h2:a.tmps[q]?=some (.pointer (some ⟨B,0,none⟩)))(hd:a.defers=[])(hb:Blk w B 184 cs)(hs:cs.size=16)
  (hR:R (.returned (.agg cs)) w):bodyPost Tryz.prog fn R Exit.ret a w:=
 bodyPost_ret (results_cell_row hf a.tmps w B _ _ (0,0) _ (by simp[h2]) hb Tryz.underlying184 rfl (by rw[hs];exact info_ar)) hd hR
theorem blk2(w:World)(t1 t2:TypeId)(c1 c2:Array Value):Blk ((w.alloc (.cells c1 t1)).alloc (.cells c2 t2)) (w.heap.size+1) t2 c2:=by
 have h:=Blk.new (w.alloc (.cells c1 t1)) t2 c2
 rwa [World.size_alloc] at h
theorem told_any(n:Int)(s l m:Nat)(w:World):
  Calls Tryz.prog 150 #[.agg #[.int .i64 n,.int .u64 (s:Int),.int .u64 (l:Int),.int .u64 (m:Int)]] w (fun e w'=>e=.returned (.agg #[.int .i64 1,.int .i64 n,.int .u64 0,.string ⟨#[]⟩,.int .i64 2,.int .i64 0,.int .u64 (s:Int),.string ⟨#[]⟩,.int .i64 2,.int .i64 0,.int .u64 (l:Int),.string ⟨#[]⟩,.int .i64 2,.int .i64 0,.int .u64 (m:Int),.string ⟨#[]⟩])∧
   w'=(w.alloc (.cells #[.int .i64 n,.int .u64 (s:Int),.int .u64 (l:Int),.int .u64 (m:Int)] 58)).alloc (.cells #[.int .i64 1,.int .i64 n,.int .u64 0,.string ⟨#[]⟩,.int .i64 2,.int .i64 0,.int .u64 (s:Int),.string ⟨#[]⟩,.int .i64 2,.int .i64 0,.int .u64 (l:Int),.string ⟨#[]⟩,.int .i64 2,.int .i64 0,.int .u64 (m:Int),.string ⟨#[]⟩] 184)):=by
 go_enter Tryz.func150,Tryz.ntmps150
 go_wp2_with fail
 refine ret_ar (B:=w.heap.size+1) Tryz.results150 rfl rfl (blk2 _ _ _ _ _) rfl ⟨rfl,rfl⟩
end
end Go.Proofs.YtddpmlcpfmmbeaaGreat
