/- Who waits, who is being done, who holds: what stays so when a request is begun, ends, a session closes or opens. No condition but those named. -/
import Derived.Test.YtahdlddbbnjloaaGreatNAA
set_option linter.unusedSimpArgs false
set_option linter.unusedVariables false
set_option maxRecDepth 100000
set_option maxHeartbeats 25600000
open Go.RowKit
namespace Go.Proofs.YtahdlddbbnjloaaGreat
section
namespace au
structure Ob where
 name:ByteArray
 kind:Int
 cap:Int
 dV:List aQ.Pr
 vals:List Val.V
 refs:List Rf
 round:Int
 mt:kC
 deriving DecidableEq
structure Ot where
 r:Rf
 p:Rp
 deriving DecidableEq
structure Oc where
 o:Ob
 p:Rp
 later:Bool
 outs:List Ot
structure Rs where
 l:List Ob
 p:Rp
 later:Bool
 outs:List Ot
def named(s:ByteArray):Prop:=¬s.size=0∧s.size≤16
instance (s:ByteArray):Decidable (named s):=by unfold named;infer_instance
def h0(k:Int):Bool:=decide (k=2∨k=4)
def h1(k:Int):Bool:=decide (k=1)
def h2(k:Int):Bool:=decide (k=2)
def h3(k:Int):Bool:=decide (k=3∨k=4)
def h4(k:Int):Bool:=decide (k=4)
def h5(k:Int):Bool:=decide (k=5)
def is(k:Int):Bool:=decide (1≤k∧k≤5)
def f0(o:Ob):Bool:=!decide (o.cap=0)
def f1(o:Ob):Bool:=decide (0<o.dV.length)
def f2(o:Ob):Bool:=decide (0<o.vals.length)
def f3(o:Ob):Bool:=decide (0<o.refs.length)
def f4(o:Ob):Bool:=!decide (o.round=0)
def f5(o:Ob):Bool:=!decide (o.mt=Mt.zero)
def clean(o:Ob):Bool:=is o.kind&&((!f0 o || h0 o.kind)&&(!f1 o || h1 o.kind)&&(!f2 o || h2 o.kind)&&(!f3 o || h3 o.kind)&&(!f4 o || h4 o.kind)&&(!f5 o || h5 o.kind))
def sound(o:Ob):Bool:=if o.kind=1 then decide (aQ.Right o.dV) else if o.kind=2 then decide (fG.Right o.cap o.vals) else if o.kind=3 then decide (aY.Right o.refs) else if o.kind=4 then decide (Gt.Right o.cap o.refs)&&decide (0≤o.round) else if o.kind=5 then decide (Mt.Ok o.mt) else false
def One(o:Ob):Bool:=decide (named o.name)&&clean o&&sound o
theorem TH{o:Ob}(h:sound o=true):is o.kind=true:=by
 unfold sound at h;unfold is;by_cases g1:o.kind=1
 ·rw[g1];rfl
 by_cases g2:o.kind=2
 ·rw[g2];rfl
 by_cases g3:o.kind=3
 ·rw[g3];rfl
 by_cases g4:o.kind=4
 ·rw[g4];rfl
 by_cases g5:o.kind=5
 ·rw[g5];rfl
 rw[if_neg g1,if_neg g2,if_neg g3,if_neg g4,if_neg g5] at h;cases h
def Up(l:List Ob):Prop:=l.Pairwise fun a b=>aQ.lt a.name b.name=true
theorem Td{l:List Ob}(h:∀i x y,l[i]?=some x→l[i+1]?=some y→aQ.lt x.name y.name=true):Up l:=by
 induction l with
 | nil=>exact List.Pairwise.nil
 | cons a r ih=>
  have hr:=ih fun i x y hx hy=>h (i+1) x y (by simpa using hx) (by simpa using hy)
  refine List.Pairwise.cons (fun b hb=>?_) hr
  match r,hb,hr,h with
  | c::r',hb,hr,h=>
   have h0:=h 0 a c rfl rfl
   rcases List.mem_cons.1 hb with rfl|hb
   ·exact h0
   ·exact aQ.lt_trans h0 ((List.pairwise_cons.1 hr).1 b hb)
def iV:List Ob→ByteArray→Option Ob
 | [],_=>none
 | x::r,k=>if x.name=k then some x else iV r k
def wo(l:List Ob)(k:ByteArray):List Ob:=l.filter fun p=>!decide (p.name=k)
def idx:List Ob→ByteArray→Nat
 | [],_=>0
 | x::r,k=>if aQ.lt x.name k=true then idx r k+1 else 0
def fin(l:List Ob)(k:ByteArray):Nat:=match l[idx l k]? with
 | some x=>if x.name=k then idx l k+1 else idx l k
 | none=>idx l k
theorem qj(l:List Ob)(k:ByteArray):idx l k≤l.length:=by
 induction l with
 | nil=>exact Nat.le_refl _
 | cons x r ih=>unfold idx;split<;>simp<;>omega
theorem xU{l:List Ob}{k:ByteArray}{i:Nat}{x:Ob}(h:i<idx l k)(hx:l[i]?=some x):aQ.lt x.name k=true:=by
 induction l generalizing i with
 | nil=>simp at hx
 | cons y r ih=>
  unfold idx at h
  split at h
  next hy=>
   match i,h,hx with
   | 0,_,hx=>simp at hx;subst hx;exact hy
   | i+1,h,hx=>exact ih (i:=i) (Nat.lt_of_succ_lt_succ h) (by simpa using hx)
  ·omega
theorem xV{l:List Ob}{k:ByteArray}{x:Ob}(hx:l[idx l k]?=some x):aQ.lt x.name k=false:=by
 induction l with
 | nil=>simp at hx
 | cons y r ih=>
  unfold idx at hx
  split at hx
  ·exact ih (by simpa using hx)
  next hy=>simp at hx;subst hx;simpa using hy
theorem Bq{l:List Ob}{k:ByteArray}{i:Nat}(h1:∀j x,j<i→l[j]?=some x→aQ.lt x.name k=true)(hi:i≤l.length)(h2:∀x,l[i]?=some x→aQ.lt x.name k=false):idx l k=i:=by
 rcases Nat.lt_trichotomy (idx l k) i with h|h|h
 ·obtain⟨x,hx⟩:∃x,l[idx l k]?=some x:=⟨_,List.getElem?_eq_getElem (by omega)⟩
  have e1:=h1 _ x h hx;rw[xV hx] at e1;cases e1
 ·exact h
 ·have hle:=qj l k
  obtain⟨x,hx⟩:∃x,l[i]?=some x:=⟨_,List.getElem?_eq_getElem (by omega)⟩;have e1:=xU h hx;rw[h2 x hx] at e1;cases e1
theorem BH(l:List Ob)(k:ByteArray):idx l k≤fin l k∧fin l k≤l.length:=by
 have h:=qj l k;unfold fin
 split
 next x hx=>
  have:=(List.getElem?_eq_some_iff.1 hx).1
  split<;>omega
 next=>omega
theorem jP{x:Ob}{r:List Ob}{k:ByteArray}(h:aQ.lt x.name k=true):idx (x::r) k=idx r k+1∧fin (x::r) k=fin r k+1:=by
 have e:idx (x::r) k=idx r k+1:=by conv=>lhs;unfold idx;rw[if_pos h]
 refine⟨e,?_⟩;unfold fin;rw[e,List.getElem?_cons_succ]
 split<;>(try split)<;>rfl
theorem nK{x:Ob}{r:List Ob}:idx (x::r) x.name=0∧fin (x::r) x.name=1:=by
 have e:idx (x::r) x.name=0:=by unfold idx;rw[if_neg (by rw[aQ.lt_irrefl];simp)]
 refine⟨e,?_⟩;unfold fin;rw[e];simp
theorem jQ{x:Ob}{r:List Ob}{k:ByteArray}(h:aQ.lt k x.name=true):idx (x::r) k=0∧fin (x::r) k=0:=by
 have e:idx (x::r) k=0:=by unfold idx;rw[if_neg (by rw[aQ.lt_asymm h];simp)]
 refine⟨e,?_⟩;unfold fin;rw[e];have hne:¬x.name=k:=fun e=>aQ.qM h e.symm
 simp[hne]
theorem ru{l:List Ob}{k:ByteArray}(h:∀x∈l,¬x.name=k):wo l k=l:=by
 unfold wo;rw[List.filter_eq_self];intro x hx;simp[h x hx]
theorem xY{l:List Ob}{k:ByteArray}(h:∀x∈l,¬x.name=k):iV l k=none:=by
 induction l with
 | nil=>rfl
 | cons x r ih=>
  exact acK
theorem above{x:Ob}{r:List Ob}(h:Up (x::r)){k:ByteArray}(hk:x.name=k∨aQ.lt k x.name=true):∀y∈r,aQ.lt k y.name=true:=fun y hy=>by
 have h1:=(List.pairwise_cons.1 h).1 y hy
 rcases hk with rfl|hk
 ·exact h1
 ·exact aQ.lt_trans hk h1
theorem xW{l:List Ob}{k:ByteArray}(h:∀y∈l,aQ.lt k y.name=true):idx l k=0:=by
 match l,h with
 | [],_=>rfl
 | x::r,h=>exact(jQ (h x (List.mem_cons_self ..))).1
theorem je{l:List Ob}(h:Up l)(k:ByteArray):l.take (idx l k)++l.drop (fin l k)=wo l k∧idx (wo l k) k=idx l k∧(iV l k=if fin l k=idx l k then none else l[idx l k]?)∧fin l k≤idx l k+1:=by
 induction l with
 | nil=>exact⟨rfl,rfl,rfl,Nat.le_succ 0⟩
 | cons x r ih=>
  obtain⟨i1,i2,i3,i4⟩:=ih (List.pairwise_cons.1 h).2
  rcases aQ.Bb x.name k with hk|hk|hk
  ·obtain⟨e1,e2⟩:=jP (r:=r) hk
   have hne:=aQ.qM hk;have ew:wo (x::r) k=x::wo r k:=by unfold wo;rw[List.filter_cons_of_pos (by simp[hne])]
   refine⟨?_,?_,?_,by omega⟩
   ·rw[e1,e2,ew,List.take_succ_cons,List.drop_succ_cons,aS,i1]
   ·rw[ew,(jP hk).1,i2,e1]
   ·rw[e1,e2,List.getElem?_cons_succ]
    have ef:iV (x::r) k=iV r k:=by conv=>lhs;unfold iV;rw[if_neg hne]
    rw[ef,i3];by_cases hh:fin r k=idx r k
    ·rw[if_pos hh,if_pos (by omega)]
    ·rw[if_neg hh,if_neg (by omega)]
  ·subst hk
   obtain⟨e1,e2⟩:=nK (x:=x) (r:=r);have hab:=above h (.inl rfl);have hr:wo r x.name=r:=ru fun y hy e=>aQ.qM (hab y hy) e.symm
   have ew:wo (x::r) x.name=r:=by unfold wo;rw[List.filter_cons_of_neg (by simp)];exact hr
   refine⟨?_,?_,?_,by omega⟩
   ·rw[e1,e2,ew];rfl
   ·rw[ew,e1];exact xW hab
   ·rw[e1,e2];unfold iV;simp
  ·obtain⟨e1,e2⟩:=jQ (r:=r) hk
   have hab:=above h (.inr hk)
   have hne:∀y∈x::r,¬y.name=k:=fun y hy e=>by
    rcases List.mem_cons.1 hy with rfl|hy
    ·exact aQ.qM hk e.symm
    ·exact aQ.qM (hab y hy) e.symm
   exact aco
theorem zl{l:List Ob}(h:Up l)(k:ByteArray):(wo l k).take (idx l k)=l.take (idx l k)∧(wo l k).drop (idx l k)=l.drop (fin l k):=by
 have e:=(je h k).1;have hl:(l.take (idx l k)).length=idx l k:=by rw[List.length_take];have:=qj l k;omega
 rw[← e]
 constructor
 ·exact List.take_left' hl
 ·exact List.drop_left' hl
theorem Na{l:List Ob}(h:Up l)(k:ByteArray):Up (wo l k):=List.Pairwise.filter _ h
theorem xw{l:List Ob}{k:ByteArray}{x:Ob}:x∈wo l k↔x∈l∧¬x.name=k:=by
 unfold wo;rw[List.mem_filter];simp
structure Right(l:List Ob):Prop where
 len:l.length≤8
 ok:∀x∈l,One x=true
 up:Up l
instance (l:List Ob):Decidable (Right l):=decidable_of_iff (l.length≤8∧(∀x∈l,One x=true)∧l.Pairwise (fun(a b:Ob)=>aQ.lt a.name b.name=true)) ⟨fun h=>⟨h.1,h.2.1,h.2.2⟩,fun h=>⟨h.len,h.ok,h.up⟩⟩
def Good(l:List Ob)(i:Nat):Prop:=∀x,l[i]?=some x→One x=true∧∀j y,i=j+1→l[j]?=some y→aQ.lt y.name x.name=true
theorem kP(l:List Ob):Right l↔l.length≤8∧∀i,i<l.length→Good l i:=by
 constructor
 ·intro h
  exact ahy
 ·intro h
  refine⟨h.1,fun x hx=>?_,Td fun i x y hx hy=>?_⟩
  ·obtain⟨i,hi,e⟩:=List.getElem_of_mem hx
   exact(h.2 i hi x (by rw[List.getElem?_eq_getElem hi,e])).1
  ·exact(h.2 (i+1) (List.getElem?_eq_some_iff.1 hy).1 y hy).2 i x rfl hx
theorem iN:Right []:=⟨by simp,fun x hx=>by simp at hx,List.Pairwise.nil⟩
theorem gu{l:List Ob}{n:Nat}(hl:l.length=n)(hn:n≤8):(∀i,i<n→¬Good l i→decide (Right l)=false)∧((∀i,i<n→Good l i)→decide (Right l)=true):=by
 subst hl;refine⟨fun i hi h=>decide_eq_false fun hr=>h (((kP l).1 hr).2 i hi),fun h=>decide_eq_true ((kP l).2 ⟨hn,h⟩)⟩
def put(l:List Ob)(k:ByteArray)(o:Ob):List Ob:=l.take (idx l k)++[o]++l.drop (fin l k)
def num(n:Int):Val.V:=⟨1,n,0,⟨#[]⟩⟩
def fits(k z:Int):Bool:=if k=5∨k=17 then true else if k=6∨k=7∨k=8∨k=9 then decide (z=1) else if k=10∨k=11 then decide (z=2) else if k=12∨k=13 then decide (z=3) else if k=14 then decide (z=4) else if k=15∨k=16 then decide (z=5) else false
def size(o:Ob):Int:=if o.kind=1 then (o.dV.length:Int) else if o.kind=2 then (o.vals.length:Int) else if o.kind=5 then o.mt.n else (o.refs.length:Int)
def held(y:Rf)(h:Bool):List Ot:=if h=true then [⟨y,rz⟩] else []
def take(o:Ob)(r:Rf):Oc:=⟨{ o with refs:=aY.CP o.refs r },err (aY.Ak o.refs r),decide (aY.Ak o.refs r=0)&&!aY.Pj o.refs r,[]⟩
def free(o:Ob)(r:Rf):Oc:=⟨{ o with refs:=aY.Fj o.refs r },err (aY.Cr o.refs r),false,held (aY.Sk o.refs r) (aY.Rb o.refs r)⟩
def xB(l:List Rf)(p:Rp):List Ot:=l.map fun x=>⟨x,p⟩
def wait(o:Ob)(r:Rf):Oc:=
 if (Gt.Ck o.cap o.refs r).length=0 then ⟨{ o with refs:=Gt.Ef o.cap o.refs r },err (Gt.qQ o.cap o.refs r),decide (Gt.qQ o.cap o.refs r=0),[]⟩
 else if o.round=9223372036854775807 then ⟨o,err 6,false,[]⟩
 else ⟨{ o with refs:=Gt.Ef o.cap o.refs r,round:=o.round+1 },⟨0,num o.round⟩,false,xB ((Gt.Ck o.cap o.refs r).take ((Gt.Ck o.cap o.refs r).length-1)) ⟨0,num o.round⟩⟩
def act(o:Ob)(r:Rf)(c:aI.C):Oc:=
 if c.k=12 then take o r else if c.k=13 then free o r else if c.k=14 then wait o r
 else if c.k=6 then ⟨o,⟨aQ.uZ o.dV c.key,aQ.sJ o.dV c.key⟩,false,[]⟩
 else if c.k=7 then ⟨{ o with dV:=aQ.yI o.dV c.key c.val },err (aQ.vR o.dV c.key c.val),false,[]⟩
 else if c.k=8 then ⟨{ o with dV:=aQ.Xg o.dV c.key },⟨aQ.uZ o.dV c.key,aQ.sJ o.dV c.key⟩,false,[]⟩
 else if c.k=9 then ⟨{ o with dV:=aQ.Gg o.dV c.key c.old c.val },⟨aQ.CS o.dV c.key c.old c.val,aQ.Kl o.dV c.key c.old⟩,false,[]⟩
 else if c.k=10 then ⟨{ o with vals:=fG.Cj o.cap o.vals c.val },err (fG.yX o.cap o.vals c.val),false,[]⟩
 else if c.k=11 then ⟨{ o with vals:=fG.KX o.cap o.vals },⟨fG.Sd o.cap o.vals,fG.KW o.cap o.vals⟩,false,[]⟩
 else if c.k=15 then ⟨{ o with mt:=Mt.ad o.mt c.val.f },err (Mt.Sn o.mt),false,[]⟩
 else if c.k=16 then ⟨o,⟨(Mt.rd o.mt c.n).e,⟨(Mt.rd o.mt c.n).k,(Mt.rd o.mt c.n).n,(Mt.rd o.mt c.n).f,⟨#[]⟩⟩⟩,false,[]⟩
 else if c.k=17 then ⟨o,⟨0,num (size o)⟩,false,[]⟩
 else ⟨o,rz,false,[]⟩
def MB(l:List Ob)(k:ByteArray):Int:=if (iV l k).isSome=true then 8 else if l.length=8 then 6 else 0
def Mx(x:Option Ob)(k:Int):Int:=match x with
 | none=>5
 | some o=>if fits k o.kind=false then 7 else if k=5∧0<o.refs.length then 13 else 0
def aX(l:List Ob)(r:Rf)(c:aI.C):Int:=
 if ¬(Right l∧aY.ok r∧4≤c.k∧c.k≤17) then 1 else if aI.aX c≠0 then aI.aX c
 else if c.k=4 then MB l c.name else Mx (iV l c.name) c.k
def fresh(c:aI.C):Ob:=⟨c.name,c.n,c.m,[],[],[],0,Mt.zero⟩
def iq(l:List Ob)(r:Rf)(c:aI.C):Rs:=
 if aX l r c≠0 then ⟨l,err (aX l r c),false,[]⟩
 else if c.k=4 then ⟨put l c.name (fresh c),rz,false,[]⟩
 else if c.k=5 then ⟨wo l c.name,rz,false,[]⟩
 else match iV l c.name with
  | none=>⟨l,rz,false,[]⟩
  | some o=>⟨put l c.name (act o r c).o,(act o r c).p,(act o r c).later,(act o r c).outs⟩
def dr(o:Ob)(r:Rf):Ob:=if o.kind=3 then { o with refs:=aY.sS o.refs r } else if o.kind=4 then { o with refs:=Gt.sS o.cap o.refs r } else o
def xg(o:Ob)(r:Rf):List Ot:=if o.kind=3 then held (aY.JB o.refs r) (aY.zN o.refs r) else []
def aO(l:List Ob)(r:Rf):List Ob:=if Right l then l.map fun o=>dr o r else l
def jR(l:List Ob)(r:Rf):List Ot:=if Right l then l.flatMap fun o=>xg o r else []
end au
end
section
namespace au
theorem OL{l:List Ob}{r:Rf}{c:aI.C}(h:¬(Right l∧aY.ok r∧4≤c.k∧c.k≤17)):aX l r c=1:=if_pos h
theorem OJ{l:List Ob}{r:Rf}{c:aI.C}(h:Right l∧aY.ok r∧4≤c.k∧c.k≤17)(h2:aI.aX c≠0):aX l r c=aI.aX c:=by unfold aX;rw[if_neg (fun g=>g h),if_pos h2]
theorem zQ{l:List Ob}{r:Rf}{c:aI.C}(h:Right l∧aY.ok r∧4≤c.k∧c.k≤17)(h2:aI.aX c=0)(h3:c.k=4):aX l r c=MB l c.name:=by unfold aX;rw[if_neg (fun g=>g h),if_neg (fun g=>g h2),if_pos h3]
theorem wS{l:List Ob}{r:Rf}{c:aI.C}(h:Right l∧aY.ok r∧4≤c.k∧c.k≤17)(h2:aI.aX c=0)(h3:¬c.k=4):aX l r c=Mx (iV l c.name) c.k:=by unfold aX;rw[if_neg (fun g=>g h),if_neg (fun g=>g h2),if_neg h3]
theorem sU{l:List Ob}{r:Rf}{c:aI.C}(h:aX l r c=0):(Right l∧aY.ok r∧4≤c.k∧c.k≤17)∧aI.aX c=0∧(c.k=4→(iV l c.name).isSome=false∧¬l.length=8)∧(¬c.k=4→∃o,iV l c.name=some o∧fits c.k o.kind=true∧¬(c.k=5∧0<o.refs.length)):=by
 by_cases g:Right l∧aY.ok r∧4≤c.k∧c.k≤17
 case neg=>rw[OL g] at h;cases h
 by_cases g2:aI.aX c=0
 case neg=>rw[OJ g g2] at h;exact absurd h g2
 refine⟨g,g2,fun g3=>?_,fun g3=>?_⟩
 ·rw[zQ g g2 g3] at h
  unfold MB at h
  split at h
  ·cases h
  ·split at h
   ·cases h
   ·rename_i a b;exact⟨Bool.eq_false_iff.2 a,b⟩
 ·rw[wS g g2 g3] at h
  cases hf:iV l c.name with
  | none=>rw[hf] at h;cases h
  | some o=>
   rw[hf] at h;unfold Mx at h;simp only at h
   split at h
   ·cases h
   ·split at h
    ·cases h
    ·rename_i a b;exact⟨o,rfl,by cases hx:fits c.k o.kind<;>simp_all,b⟩
end au
end
section
namespace au
theorem tX{l:List Ob}{r:Rf}{c:aI.C}(h:aX l r c≠0):iq l r c=⟨l,err (aX l r c),false,[]⟩:=if_pos h
theorem wO{l:List Ob}{r:Rf}{c:aI.C}(h:aX l r c=0)(h4:c.k=4):iq l r c=⟨put l c.name (fresh c),rz,false,[]⟩:=by unfold iq;rw[if_neg (fun g=>g h),if_pos h4]
theorem wP{l:List Ob}{r:Rf}{c:aI.C}(h:aX l r c=0)(h5:c.k=5):iq l r c=⟨wo l c.name,rz,false,[]⟩:=by unfold iq;rw[if_neg (fun g=>g h),if_neg (by omega),if_pos h5]
theorem wQ{l:List Ob}{r:Rf}{c:aI.C}(h:aX l r c=0)(h4:¬c.k=4)(h5:¬c.k=5){o:Ob}(ho:iV l c.name=some o):iq l r c=⟨put l c.name (act o r c).o,(act o r c).p,(act o r c).later,(act o r c).outs⟩:=by
 unfold iq;rw[if_neg (fun g=>g h),if_neg h4,if_neg h5,ho]
theorem BA{l:List Ob}{k:ByteArray}{o:Ob}(h:iV l k=some o):o∈l∧o.name=k:=by
 induction l with
 | nil=>cases h
 | cons x r ih=>
  unfold iV at h
  split at h
  next hx=>injection h with h;subst h;exact⟨List.mem_cons_self ..,hx⟩
  next=>exact⟨List.mem_cons_of_mem _ (ih h).1,(ih h).2⟩
theorem fD{o:Ob}(h:One o=true):named o.name∧clean o=true∧sound o=true:=by
 unfold One at h;simp only[Bool.and_eq_true,decide_eq_true_eq] at h;exact⟨h.1.1,h.1.2,h.2⟩
theorem TW{o:Ob}(h:One o=true)(hk:fits 14 o.kind=true):0≤o.round:=by
 have h3:=(fD h).2.2
 have h4:o.kind=4:=by
  unfold fits at hk
  simpa using hk
 unfold sound at h3;rw[h4] at h3;simp at h3;exact h3.2
theorem uh{k:Int}(h:4≤k∧k≤17)(h4:¬k=4)(h5:¬k=5):k=6∨k=7∨k=8∨k=9∨k=10∨k=11∨k=12∨k=13∨k=14∨k=15∨k=16∨k=17:=by omega
end au
end
section
namespace au
def vn:Val.V:=⟨0,0,0,⟨#[]⟩⟩
theorem UE{l:List Ob}(h:Up l){k:ByteArray}{o:Ob}(ho:iV l k=some o):put l k o=l:=by
 obtain⟨_,_,h3,h4⟩:=je h k;obtain⟨h5,h6⟩:=BH l k;rw[ho] at h3;by_cases hq:fin l k=idx l k
 ·rw[if_pos hq] at h3;cases h3
 ·rw[if_neg hq] at h3
  have hf:fin l k=idx l k+1:=by omega
  obtain⟨hl,he⟩:=List.getElem?_eq_some_iff.1 h3.symm;unfold put;rw[hf,← he,List.append_assoc,List.singleton_append,← List.drop_eq_getElem_cons hl,List.take_append_drop]
theorem Pf(o:Ob)(r:Rf):(wait o r).o.name=o.name:=by
 unfold wait;by_cases h1:(Gt.Ck o.cap o.refs r).length=0
 ·rw[if_pos h1]
 ·rw[if_neg h1]
  by_cases h2:o.round=9223372036854775807
  ·rw[if_pos h2]
  ·rw[if_neg h2]
theorem XE(o:Ob)(r:Rf)(c:aI.C):(act o r c).o.name=o.name:=by
 unfold act;by_cases k12:c.k=12
 ·rw[if_pos k12]
  rfl
 rw[if_neg k12];by_cases k13:c.k=13
 ·rw[if_pos k13]
  rfl
 rw[if_neg k13];by_cases k14:c.k=14
 ·rw[if_pos k14]
  exact Pf o r
 rw[if_neg k14];by_cases k6:c.k=6
 ·rw[if_pos k6]
 rw[if_neg k6];by_cases k7:c.k=7
 ·rw[if_pos k7]
 rw[if_neg k7];by_cases k8:c.k=8
 ·rw[if_pos k8]
 rw[if_neg k8];by_cases k9:c.k=9
 ·rw[if_pos k9]
 rw[if_neg k9];by_cases k10:c.k=10
 ·rw[if_pos k10]
 rw[if_neg k10];by_cases k11:c.k=11
 ·rw[if_pos k11]
 rw[if_neg k11];by_cases k15:c.k=15
 ·rw[if_pos k15]
 rw[if_neg k15];by_cases k16:c.k=16
 ·rw[if_pos k16]
 rw[if_neg k16];by_cases k17:c.k=17
 ·rw[if_pos k17]
 rw[if_neg k17]
end au
end
section
namespace au
def nm:ByteArray:=⟨#[108]⟩
def lk(r:List Rf):Ob:=⟨nm,3,0,[],[],r,0,Mt.zero⟩
end au
end
section
namespace au
theorem Md{l:List Ob}(h:Up l){x:Ob}(hx:x∈l):iV l x.name=some x:=by
 induction l with
 | nil=>simp at hx
 | cons y r ih=>
  unfold iV
  rcases List.mem_cons.1 hx with rfl|hx
  ·rw[if_pos rfl]
  ·rw[if_neg (aQ.qM ((List.pairwise_cons.1 h).1 x hx))]
   exact ih (List.pairwise_cons.1 h).2 hx
end au
end
section
namespace au
theorem jI{l:List Ob}(h:Up l){i:Nat}{x:Ob}{k:ByteArray}(hx:l[i]?=some x)(hn:x.name=k):idx l k=i∧fin l k=i+1∧iV l k=some x:=by
 subst hn;have hi:=(List.getElem?_eq_some_iff.1 hx).1
 have e:idx l x.name=i:=by
  refine Bq (fun j y hj hy=>?_) (Nat.le_of_lt hi) (fun y hy=>?_)
  ·obtain⟨hj2,e1⟩:=List.getElem?_eq_some_iff.1 hy
   obtain⟨hi2,e2⟩:=List.getElem?_eq_some_iff.1 hx;have:=(List.pairwise_iff_getElem.1 h) j i hj2 hi2 hj
   rwa [e1,e2] at this
  ·rw[hx] at hy
   injection hy with hy;subst hy;exact aQ.lt_irrefl _
 refine⟨e,?_,Md h (List.mem_of_getElem? hx)⟩;unfold fin;rw[e,hx];simp
theorem rY{l:List Ob}{k:ByteArray}(h:∀(j:Nat) (y:Ob),l[j]?=some y→¬y.name=k):fin l k=idx l k∧iV l k=none:=by
 refine⟨?_,xY fun x hx=>?_⟩
 ·unfold fin
  split
  next x hx=>rw[if_neg (h _ x hx)]
  next=>rfl
 ·obtain⟨j,hj⟩:=List.mem_iff_getElem?.1 hx
  exact h j x hj
theorem Zg{l:List Ob}(h:Up l){i:Nat}{x:Ob}{k:ByteArray}(hx:l[i]?=some x)(hn:x.name=k)(o:Ob):l.set i o=put l k o:=by
 obtain⟨e1,e2,_⟩:=jI h hx hn;have hi:=(List.getElem?_eq_some_iff.1 hx).1;unfold put;rw[e1,e2,List.set_eq_take_append_cons_drop,if_pos hi];simp
theorem agh{l:List Ob}(h:Up l){i:Nat}{x:Ob}{k:ByteArray}(hx:l[i]?=some x)(hn:x.name=k):l.take i++l.drop (i+1)=wo l k:=by
 obtain⟨e1,e2,_⟩:=jI h hx hn;have:=(je h k).1
 rwa [e1,e2] at this
end au
end
section
namespace au
def All(l:List Ob)(r:Rf)(c:aI.C):Prop:=Right l∧aY.ok r∧4≤c.k∧c.k≤17
section
variable {l:List Ob}{r:Rf}{c:aI.C}{i:Nat}{x:Ob}
theorem zP(h:¬All l r c):iq l r c=⟨l,err 1,false,[]⟩:=by
 have e:=OL (l:=l) (r:=r) (c:=c) h;exact CB
theorem abr(h:All l r c)(he:aI.aX c≠0):iq l r c=⟨l,err (aI.aX c),false,[]⟩:=by
 have e:=OJ h he;rw[tX (by rw[e];exact he),e]
theorem ajl(h:All l r c)(he:aI.aX c=0)(h4:c.k=4)(hf:iV l c.name=some x):iq l r c=⟨l,err 8,false,[]⟩:=by
 have e:aX l r c=8:=by rw[zQ h he h4];unfold MB;rw[hf];rfl
 exact CB
theorem ajn(h:All l r c)(he:aI.aX c=0)(h4:c.k=4)(hf:iV l c.name=none)(h8:l.length=8):iq l r c=⟨l,err 6,false,[]⟩:=by
 have e:aX l r c=6:=by rw[zQ h he h4];unfold MB;rw[hf,if_neg (by simp),if_pos h8]
 exact CB
theorem Xc(h:All l r c)(he:aI.aX c=0)(h4:c.k=4)(hf:iV l c.name=none)(h8:¬l.length=8):iq l r c=⟨l.take (idx l c.name)++[fresh c]++l.drop (idx l c.name),rz,false,[]⟩:=by
 have e:aX l r c=0:=by rw[zQ h he h4];unfold MB;rw[hf,if_neg (by simp),if_neg h8]
 rw[wO e h4]
 have hq:fin l c.name=idx l c.name:=by
  obtain⟨_,_,h3,h4⟩:=je h.1.up c.name;by_cases hq:fin l c.name=idx l c.name
  ·exact hq
  ·rw[if_neg hq,hf] at h3
   obtain⟨h5,h6⟩:=BH l c.name;rw[List.getElem?_eq_getElem (by omega)] at h3;cases h3
 unfold put;rw[hq]
theorem ajo(h:All l r c)(he:aI.aX c=0)(h4:¬c.k=4)(hf:iV l c.name=none):iq l r c=⟨l,err 5,false,[]⟩:=by
 have e:aX l r c=5:=by rw[wS h he h4,hf];rfl
 exact CB
theorem ajm(h:All l r c)(he:aI.aX c=0)(h4:¬c.k=4)(hf:iV l c.name=some x)(hk:fits c.k x.kind=false):iq l r c=⟨l,err 7,false,[]⟩:=by
 have e:aX l r c=7:=by rw[wS h he h4,hf];unfold Mx;simp only;rw[if_pos hk]
 exact CB
theorem agf(h:All l r c)(he:aI.aX c=0)(h5:c.k=5)(hf:iV l c.name=some x)(hr:0<x.refs.length):iq l r c=⟨l,err 13,false,[]⟩:=by
 have hk:fits c.k x.kind=true:=by rw[h5];rfl
 have e:aX l r c=13:=by rw[wS h he (by omega),hf];unfold Mx;simp only;rw[if_neg (by rw[hk];simp),if_pos ⟨h5,hr⟩]
 exact CB
theorem Xm(h:All l r c)(he:aI.aX c=0)(h4:¬c.k=4)(hf:iV l c.name=some x)(hk:fits c.k x.kind=true)(hr:¬(c.k=5∧0<x.refs.length)):aX l r c=0:=by
 rw[wS h he h4,hf];unfold Mx;simp only;rw[if_neg (by rw[hk];simp),if_neg hr]
theorem agd(h:All l r c)(he:aI.aX c=0)(h5:c.k=5)(hx:l[i]?=some x)(hn:x.name=c.name)(hr:¬0<x.refs.length):iq l r c=⟨l.take i++l.drop (i+1),rz,false,[]⟩:=by
 obtain⟨_,_,hf⟩:=jI h.1.up hx hn;rw[wP (Xm h he (by omega) hf (by rw[h5];rfl) (fun g=>hr g.2)) h5,agh h.1.up hx hn]
theorem zO(h:All l r c)(he:aI.aX c=0)(h4:¬c.k=4)(h5:¬c.k=5)(hx:l[i]?=some x)(hn:x.name=c.name)(hk:fits c.k x.kind=true):iq l r c=⟨l.set i (act x r c).o,(act x r c).p,(act x r c).later,(act x r c).outs⟩:=by
 obtain⟨_,_,hf⟩:=jI h.1.up hx hn;rw[wQ (Xm h he h4 hf hk (fun g=>h5 g.1)) h4 h5 hf,Zg h.1.up hx hn]
theorem kZ{o:Ob}(h:named o.name)(hc:clean o=true)(hs:sound o=true):One o=true:=by
 unfold One;rw[hc,hs,decide_eq_true h];rfl
end
end au
end
section
namespace Mt
theorem alI{u:Nat}{v:Nat}:Num.S u v<18446744073709551616:=by
 unfold Num.S
 split
 ·rename_i r h
  exact Num.qx (Ieee.Format.add_lt _ h)
 ·decide
theorem agn{u:Nat}{v:Nat}:Num.M (Num.S u v)=Num.S u v:=by
 unfold Num.S
 split
 ·exact Num.M_M _
 ·rfl
theorem LB{a:Nat}{b:Nat}:Num.M (least a b)=least a b:=by unfold least;split<;>exact Num.M_M _
theorem QE{a:Nat}{b:Nat}:Num.M (most a b)=most a b:=by unfold most;split<;>exact Num.M_M _
theorem KR(a b:Nat):Num.rank (least a b)≤Num.rank a∧Num.rank (least a b)≤Num.rank b:=by
 unfold least;split<;>simp only[Num.KS]<;>omega
theorem Qi(a b:Nat):Num.rank a≤Num.rank (most a b)∧Num.rank b≤Num.rank (most a b):=by
 unfold most;split<;>simp only[Num.KS]<;>omega
theorem aga{x:kC}{b:Nat}(hf:Fit x)(hb:b<18446744073709551616):Fit (ad x b):=by
 unfold ad
 split
 ·exact hf
 ·split
  ·exact hf
  ·split
   ·exact⟨by show(1:Int)≤_;decide,Num.qx hb,Num.qx hb,Num.qx hb⟩
   ·rename_i h1 h2 h3
    refine⟨?_,alI,Vs hf.2.2.1 (Num.qx hb),aah hf.2.2.2 (Num.qx hb)⟩;have:=hf.1
    show x.n+1≤_
    omega
structure Inv(l:List Nat)(x:kC):Prop where
 n:x.n=(l.length:Int)
 ok:Ok x
 fit:Fit x
 le:∀b∈l,Num.rank x.l≤Num.rank b∧Num.rank b≤Num.rank x.m
 hit:l≠[]→(∃b∈l,Num.M b=x.l)∧(∃b∈l,Num.M b=x.m)
theorem Inv.sum{l:List Nat}{x:kC}(h:Inv l x)(hn:l.length<9223372036854775807)(b:Nat):(ad x b).s=if l.length=0 then Num.M b else Num.S x.s b:=by
 have hmx:x.n≠9223372036854775807:=by rw[h.n];omega
 by_cases h0:l.length=0
 ·rw[if_pos h0,FI h.ok (by rw[h.n,h0];rfl)]
 ·have hz:x.n≠0:=by rw[h.n];omega
  rw[if_neg h0,zT h.ok hmx hz]
  have hs:Num.M x.s=x.s:=by
   rcases h.ok with ⟨h1,_⟩|h1
   ·exact absurd h1 hz
   ·exact h1.2.1
  show Num.S x.s (Num.M b)=Num.S x.s b
  have e:=Num.S_M x.s (Num.M b);rw[Num.M_M,Num.S_M] at e;exact e.symm
/- Two floats in either order. -/
theorem LD{a b:Nat}(ha:a<18446744073709551616)(hb:b<18446744073709551616):least a b=least b a:=by
 unfold least
 rcases Nat.lt_trichotomy (Num.rank a) (Num.rank b) with h|h|h
 ·rw[if_neg (by omega),if_pos h]
 ·rw[if_neg (by omega),if_neg (by omega)];exact Num.GN ha hb h
 ·rw[if_pos h,if_neg (by omega)]
theorem QF{a b:Nat}(ha:a<18446744073709551616)(hb:b<18446744073709551616):most a b=most b a:=by
 unfold most
 rcases Nat.lt_trichotomy (Num.rank a) (Num.rank b) with h|h|h
 ·rw[if_pos h,if_neg (by omega)]
 ·rw[if_neg (by omega),if_neg (by omega)];exact Num.GN ha hb h
 ·rw[if_neg (by omega),if_pos h]
theorem ok_one(a:Nat):Ok ⟨1,Num.M a,Num.M a,Num.M a⟩:=.inr ⟨(by decide:(0:Int)<1),Num.M_M a,Num.M_M a,Num.M_M a,Nat.le_refl _⟩
theorem two(a b:Nat):ad (ad zero a) b=⟨2,Num.S (Num.M a) (Num.M b),least (Num.M a) (Num.M b),most (Num.M a) (Num.M b)⟩:=by
 rw[FI NA rfl,zT (ok_one a) (by show(1:Int)≠_;decide) (by show(1:Int)≠_;decide)]
 rfl
theorem turned{a b:Nat}(ha:a<18446744073709551616)(hb:b<18446744073709551616):ad (ad zero a) b=ad (ad zero b) a:=by
 rw[two,two,Num.XH,LD (Num.qx ha) (Num.qx hb),QF (Num.qx ha) (Num.qx hb)]
end Mt
end
section
namespace aQ
theorem GU{l:List Pr}(h:Right l)(k:ByteArray)(v:Val.V):Right (yI l k v):=by
 unfold yI
 split
 next he=>
  unfold vR at he;rw[if_pos h] at he
  split at he
  next hp=>
   split at he
   next hn=>exact QS h hp hn
   next=>cases he
  next hp=>exact absurd he hp
 next=>exact h
theorem Xf{l:List Pr}(h:Right l)(k:ByteArray):Right (Xg l k):=by
 unfold Xg
 split
 ·exact og h k
 ·exact h
theorem Tv{l:List Pr}(h:Right l)(k:ByteArray)(o v:Val.V):Right (Gg l k o v):=by
 unfold Gg
 split
 next he=>
  split
  next=>exact og h k
  next hv=>
   unfold CS at he;rw[if_pos h] at he
   split at he
   next hg=>
    have hp:=GU h k v;unfold yI at hp
    rwa [if_pos he] at hp
   next=>cases he
 next=>exact h
end aQ
namespace Mt
theorem XC{x:kC}(h:Ok x)(b:Nat):Ok (ad x b):=by
 by_cases hm:x.n=9223372036854775807
 ·rw[OQ h hm];exact h
 by_cases h0:x.n=0
 ·rw[FI h h0];exact ok_one b
 rw[zT h hm h0]
 have hok:0<x.n∧Num.M x.s=x.s∧Num.M x.l=x.l∧Num.M x.m=x.m∧Num.rank x.l≤Num.rank x.m:=by
  rcases h with ⟨h1,_⟩|h1
  ·exact absurd h1 h0
  ·exact h1
 obtain⟨o1,o2,o3,o4,o5⟩:=hok;have r1:=KR x.l (Num.M b);have r2:=Qi x.m (Num.M b);rw[Num.KS] at r1 r2;exact .inr ⟨by show 0<x.n+1;omega,agn,LB,QE,by show Num.rank (least x.l (Num.M b))≤Num.rank (most x.m (Num.M b));omega⟩
end Mt
namespace au
theorem Qk{l:List Ob}(h:Up l)(k:ByteArray):(∀x∈l.take (idx l k),aQ.lt x.name k=true)∧(∀x∈l.drop (fin l k),aQ.lt k x.name=true):=by
 induction l with
 | nil=>exact⟨fun x hx=>by simp at hx,fun x hx=>by simp at hx⟩
 | cons x r ih=>
  obtain⟨i1,i2⟩:=ih (List.pairwise_cons.1 h).2
  rcases aQ.Bb x.name k with hk|hk|hk
  ·obtain⟨e1,e2⟩:=jP (r:=r) hk
   rw[e1,e2];refine⟨fun y hy=>?_,i2⟩;rw[List.take_succ_cons] at hy
   rcases List.mem_cons.1 hy with rfl|hy
   ·exact hk
   ·exact i1 y hy
  ·subst hk
   obtain⟨e1,e2⟩:=nK (x:=x) (r:=r);rw[e1,e2];exact⟨fun y hy=>by simp at hy,above h (.inl rfl)⟩
  ·obtain⟨e1,e2⟩:=jQ (r:=r) hk
   rw[e1,e2];refine⟨fun y hy=>by simp at hy,fun y hy=>?_⟩
   rcases List.mem_cons.1 hy with rfl|hy
   ·exact hk
   ·exact above h (.inr hk) y hy
theorem Dc{l:List Ob}(h:Right l){k:ByteArray}{o:Ob}(hn:o.name=k)(ho:One o=true)(hl:(iV l k).isSome=true∨¬l.length=8):Right (put l k o):=by
 obtain⟨p1,p2⟩:=Qk h.up k;obtain⟨_,_,h3,h4⟩:=je h.up k;obtain⟨h5,h6⟩:=BH l k;have h8:=h.len;subst hn;refine⟨?_,fun x hx=>?_,?_⟩
 ·unfold put
  rw[List.length_append,List.length_append,List.length_take,List.length_drop,List.length_singleton];by_cases hq:fin l o.name=idx l o.name
  ·rw[h3,if_pos hq] at hl
   rcases hl with hl|hl
   ·cases hl
   ·omega
  ·omega
 ·unfold put at hx
  rcases List.mem_append.1 hx with hx|hx
  ·rcases List.mem_append.1 hx with hx|hx
   ·exact h.ok x (List.mem_of_mem_take hx)
   ·rw[List.mem_singleton.1 hx];exact ho
  ·exact h.ok x (List.mem_of_mem_drop hx)
 ·unfold put Up
  rw[List.pairwise_append,List.pairwise_append];refine⟨⟨List.Pairwise.sublist (List.take_sublist _ _) h.up,List.pairwise_singleton _ _,fun a ha b hb=>?_⟩,List.Pairwise.sublist (List.drop_sublist _ _) h.up,fun a ha b hb=>?_⟩
  ·rw[List.mem_singleton.1 hb]
   exact p1 a ha
  ·rcases List.mem_append.1 ha with ha|ha
   ·exact aQ.lt_trans (p1 a ha) (p2 b hb)
   ·rw[List.mem_singleton.1 ha]
    exact p2 b hb
theorem og{l:List Ob}(h:Right l)(k:ByteArray):Right (wo l k):=
 ⟨Nat.le_trans (List.length_filter_le _ _) h.len,fun x hx=>h.ok x (xw.1 hx).1,Na h.up k⟩
section
variable {o:Ob}
theorem lH(q1:is o.kind=true)(q2:f0 o=false∨h0 o.kind=true)(q3:f1 o=false∨h1 o.kind=true)(q4:f2 o=false∨h2 o.kind=true)(q5:f3 o=false∨h3 o.kind=true)(q6:f4 o=false∨h4 o.kind=true)(q7:f5 o=false∨h5 o.kind=true):clean o=true:=by
 unfold clean;simp only[Bool.and_eq_true,Bool.or_eq_true,Bool.not_eq_true'];exact⟨q1,⟨⟨⟨⟨⟨q2,q3⟩,q4⟩,q5⟩,q6⟩,q7⟩⟩
theorem jl(h:clean o=true):is o.kind=true∧(f0 o=false∨h0 o.kind=true)∧(f1 o=false∨h1 o.kind=true)∧(f2 o=false∨h2 o.kind=true)∧(f3 o=false∨h3 o.kind=true)∧(f4 o=false∨h4 o.kind=true)∧(f5 o=false∨h5 o.kind=true):=by
 unfold clean at h;simp only[Bool.and_eq_true,Bool.or_eq_true,Bool.not_eq_true'] at h;obtain⟨a,⟨⟨⟨⟨⟨b,c⟩,d⟩,e⟩,f⟩,g⟩⟩:=h;exact⟨a,b,c,d,e,f,g⟩
theorem zu(h:o.kind=1):sound o=decide (aQ.Right o.dV):=by unfold sound;rw[if_pos h]
theorem zq(h:o.kind=2):sound o=decide (fG.Right o.cap o.vals):=by unfold sound;rw[if_neg (by omega),if_pos h]
theorem zo(h:o.kind=3):sound o=decide (aY.Right o.refs):=by unfold sound;rw[if_neg (by omega),if_neg (by omega),if_pos h]
theorem vE(h:o.kind=4):sound o=(decide (Gt.Right o.cap o.refs)&&decide (0≤o.round)):=by unfold sound;rw[if_neg (by omega),if_neg (by omega),if_neg (by omega),if_pos h]
theorem Er(h:o.kind=5):sound o=decide (Mt.Ok o.mt):=by unfold sound;rw[if_neg (by omega),if_neg (by omega),if_neg (by omega),if_neg (by omega),if_pos h]
theorem EO(h:One o=true)(hk:o.kind=1){m:List aQ.Pr}(hm:aQ.Right o.dV→aQ.Right m):One { o with dV:=m } = true:=by
 obtain⟨a,b,c⟩:=fD h;obtain⟨b0,b1,b2,b3,b4,b5,b6⟩:=jl b;rw[zu hk] at c;refine kZ a (lH b0 b1 (.inr (by show h1 o.kind=true;rw[hk];rfl)) b3 b4 b5 b6) ?_;rw[zu (o:={ o with dV:=m }) hk];exact Yv
theorem Hf(h:One o=true)(hk:o.kind=2){m:List Val.V}(hm:fG.Right o.cap o.vals→fG.Right o.cap m):One { o with vals:=m } = true:=by
 obtain⟨a,b,c⟩:=fD h;obtain⟨b0,b1,b2,b3,b4,b5,b6⟩:=jl b;rw[zq hk] at c;refine kZ a (lH b0 b1 b2 (.inr (by show h2 o.kind=true;rw[hk];rfl)) b4 b5 b6) ?_;rw[zq (o:={ o with vals:=m }) hk];exact Yv
theorem AU(h:One o=true)(hk:o.kind=3){m:List Rf}(hm:aY.Right o.refs→aY.Right m):One { o with refs:=m } = true:=by
 obtain⟨a,b,c⟩:=fD h;obtain⟨b0,b1,b2,b3,b4,b5,b6⟩:=jl b;rw[zo hk] at c;refine kZ a (lH b0 b1 b2 b3 (.inr (by show h3 o.kind=true;rw[hk];rfl)) b5 b6) ?_;rw[zo (o:={ o with refs:=m }) hk];exact Yv
theorem AV(h:One o=true)(hk:o.kind=4){m:List Rf}{d:Int}(hm:Gt.Right o.cap o.refs→Gt.Right o.cap m)(hd:0≤o.round→0≤d):One { o with refs:=m,round:=d } = true:=by
 obtain⟨a,b,c⟩:=fD h;obtain⟨b0,b1,b2,b3,b4,b5,b6⟩:=jl b;rw[vE hk,Bool.and_eq_true] at c;refine kZ a (lH b0 b1 b2 b3 (.inr (by show h3 o.kind=true;rw[hk];rfl)) (.inr (by show h4 o.kind=true;rw[hk];rfl)) b6) ?_;rw[vE (o:={ o with refs:=m,round:=d }) hk,Bool.and_eq_true];exact⟨decide_eq_true (hm (of_decide_eq_true c.1)),decide_eq_true (hd (of_decide_eq_true c.2))⟩
theorem EP(h:One o=true)(hk:o.kind=5){m:kC}(hm:Mt.Ok o.mt→Mt.Ok m):One { o with mt:=m } = true:=by
 obtain⟨a,b,c⟩:=fD h;obtain⟨b0,b1,b2,b3,b4,b5,b6⟩:=jl b;rw[Er hk] at c;refine kZ a (lH b0 b1 b2 b3 b4 b5 (.inr (by show h5 o.kind=true;rw[hk];rfl))) ?_;rw[Er (o:={ o with mt:=m }) hk];exact Yv
theorem SY(h:One o=true)(hk:o.kind=4)(r:Rf):One (wait o r).o=true:=by
 unfold wait
 split
 next h0=>
  refine AV (d:=o.round) h hk (fun hr=>?_) id;by_cases he:Gt.qQ o.cap o.refs r=0
  ·obtain⟨g1,g2,g3⟩:=Gt.Ga he
   by_cases hf:(o.refs.length:Int)+1=o.cap
   ·rw[(Gt.tC g1 g2 g3 hf).2.2,List.length_append] at h0
    simp at h0
   ·rw[(Gt.tu g1 g2 g3 hf).2.1]
    exact Gt.rP g1 g2 g3 hf
  ·rw[(Gt.yE (z:=Gt.qQ o.cap o.refs r) rfl he).2.1]
   exact hr
 next h0=>
  split
  next=>exact h
  next=>
   refine AV h hk (fun hr=>?_) (fun hd=>by omega);by_cases he:Gt.qQ o.cap o.refs r=0
   ·obtain⟨g1,g2,g3⟩:=Gt.Ga he
    by_cases hf:(o.refs.length:Int)+1=o.cap
    ·rw[(Gt.tC g1 g2 g3 hf).2.1]
     exact Gt.Gu hr.1 hr.2.1
    ·rw[(Gt.tu g1 g2 g3 hf).2.1]
     exact Gt.rP g1 g2 g3 hf
   ·rw[(Gt.yE (z:=Gt.qQ o.cap o.refs r) rfl he).2.1]
    exact hr
theorem abS(h:One o=true)(r:Rf){c:aI.C}(hk:4≤c.k∧c.k≤17)(h4:¬c.k=4)(h5:¬c.k=5)(hf:fits c.k o.kind=true):One (act o r c).o=true:=by
 unfold act
 rcases uh hk h4 h5 with k|k|k|k|k|k|k|k|k|k|k|k<;>rw[k] at hf<;>simp only[k]<;>unfold fits at hf<;>simp at hf ⊢
 ·exact h
 ·exact EO h hf (fun g=>aQ.GU g _ _)
 ·exact EO h hf (fun g=>aQ.Xf g _)
 ·exact EO h hf (fun g=>aQ.Tv g _ _ _)
 ·exact Hf h hf (fun g=>fG.UG g _)
 ·exact Hf h hf (fun g=>fG.UJ g)
 ·exact AU h hf (fun g=>aY.Ti g r)
 ·exact AU h hf (fun g=>aY.Wu g r)
 ·exact SY h hf r
 ·exact EP h hf (fun g=>Mt.XC g _)
 ·exact h
 ·exact h
theorem agb(h:One o=true)(r:Rf):One (dr o r)=true:=by
 unfold dr
 split
 next hk=>exact AU h hk (fun g=>aY.WY g r)
 next=>
  split
  next hk=>
   refine AV (d:=o.round) h hk (fun g=>?_) id;rw[Gt.Mj g];exact Gt.Uj g r
  next=>exact h
theorem Oz(o:Ob)(r:Rf):(dr o r).name=o.name:=by
 unfold dr
 split
 ·rfl
 ·split<;>rfl
end
theorem QY{c:aI.C}(he:aI.aX c=0)(h4:c.k=4):One (fresh c)=true:=by
 have hn:named c.name∧aI.nums c:=by
  unfold aI.aX at he
  split at he
  ·cases he
  next g=>
   split at he
   ·cases he
   next g2=>
    split at he
    next g3=>exact absurd he g3
    next=>
     split at he
     next g3=>exact absurd he g3
     next=>
      split at he
      ·cases he
      next=>
       split at he
       ·cases he
       next=>
        split at he
        ·cases he
        next g4=>
         refine⟨⟨fun hs=>g (.inr (.inr (.inr ⟨by rw[h4];rfl,hs⟩))),by omega⟩,Decidable.byContradiction g4⟩
 obtain⟨h1,h2⟩:=hn;unfold aI.nums at h2;rw[if_neg (by omega),if_neg (by omega)] at h2;have hz:f5 (fresh c)=false:=by unfold f5 fresh;simp
 by_cases n2:c.n=2
 ·rw[if_pos n2] at h2
  refine kZ h1 (lH (by show is c.n=true;rw[n2];rfl) (.inr (by show h0 c.n=true;rw[n2];rfl)) (.inl rfl) (.inl rfl) (.inl rfl) (.inl rfl) (.inl hz)) ?_;rw[zq (o:=fresh c) n2];exact decide_eq_true (fG.iN h2.1 h2.2)
 rw[if_neg n2] at h2;by_cases n4:c.n=4
 ·rw[if_pos n4] at h2
  refine kZ h1 (lH (by show is c.n=true;rw[n4];rfl) (.inr (by show h0 c.n=true;rw[n4];rfl)) (.inl rfl) (.inl rfl) (.inl rfl) (.inl rfl) (.inl hz)) ?_;rw[vE (o:=fresh c) n4,Bool.and_eq_true];exact⟨decide_eq_true (Gt.Gu h2.1 h2.2),rfl⟩
 rw[if_neg n4] at h2;have hcap:f0 (fresh c)=false:=by show(!decide (c.m=0))=false;rw[h2.2.2];rfl
 have hk:c.n=1∨c.n=3∨c.n=5:=by omega
 refine kZ h1 (lH (by show decide (1≤c.n∧c.n≤5)=true;exact decide_eq_true (by omega)) (.inl hcap) (.inl rfl) (.inl rfl) (.inl rfl) (.inl rfl) (.inl hz)) ?_
 rcases hk with hk|hk|hk
 ·rw[zu (o:=fresh c) hk];exact decide_eq_true aQ.iN
 ·rw[zo (o:=fresh c) hk];exact decide_eq_true aY.iN
 ·rw[Er (o:=fresh c) hk];exact decide_eq_true Mt.NA
theorem Rt{l:List Ob}(h:Right l)(r:Rf)(c:aI.C):Right (iq l r c).l:=by
 by_cases hc:aX l r c=0
 case neg=>rw[tX hc];exact h
 obtain⟨⟨_,_,hk⟩,he,hnew,hown⟩:=sU hc;by_cases h4:c.k=4
 ·rw[wO hc h4]
  exact Dc h rfl (QY he h4) (.inr (hnew h4).2)
 by_cases h5:c.k=5
 ·rw[wP hc h5]
  exact og h _
 obtain⟨o,ho,hf,_⟩:=hown h4;rw[wQ hc h4 h5 ho];obtain⟨hm,hn⟩:=BA ho;exact Dc h ((XE o r c).trans hn) (abS (h.ok o hm) r hk h4 h5 hf) (.inl (by rw[ho];rfl))
theorem uV{l:List Ob}(h:Right l)(r:Rf):Right (aO l r):=by
 unfold aO;rw[if_pos h];refine⟨by rw[List.length_map];exact h.len,fun x hx=>?_,?_⟩
 ·obtain⟨y,hy,rfl⟩:=List.mem_map.1 hx
  exact agb (h.ok y hy) r
 ·unfold Up
  rw[List.pairwise_map];exact h.up.imp fun {a b} hab=>by rw[Oz,Oz];exact hab
end au
end
section
namespace aG
structure S where
 live:Bool
 ep:Int
 rq:Int
 dn:Bool
 p:au.Rp
 deriving DecidableEq
def z:S:=⟨false,0,0,false,au.rz⟩
structure T where
 s0:S
 s1:S
 s2:S
 s3:S
 s4:S
 deriving DecidableEq
def T.get(t:T)(c:Int):S:=if c=0 then t.s0 else if c=1 then t.s1 else if c=2 then t.s2 else if c=3 then t.s3 else if c=4 then t.s4 else z
def T.set(t:T)(c:Int)(s:S):T:=if c=0 then { t with s0:=s } else if c=1 then { t with s1:=s } else if c=2 then { t with s2:=s } else if c=3 then { t with s3:=s } else if c=4 then { t with s4:=s } else t
def one(s:S):Bool:=if s.ep=0 then decide (s=z) else (s.dn || (decide (s.p=au.rz)&&decide (1≤s.rq)&&s.live))&&decide (0<s.ep)&&decide (0≤s.rq)&&au.rep s.p
def Ct(b:Bool):Int:=if b=true then 1 else 0
def live(t:T)(q:Int):Int:=Ct (t.s0.live&&!decide (0=q))+Ct (t.s1.live&&!decide (1=q))+Ct (t.s2.live&&!decide (2=q))+Ct (t.s3.live&&!decide (3=q))+Ct (t.s4.live&&!decide (4=q))
def Right(t:T):Prop:=(one t.s0=true∧one t.s1=true∧one t.s2=true∧one t.s3=true∧one t.s4=true)∧live t (-1)≤4
instance (t:T):Decidable (Right t):=by unfold Right;infer_instance
def nH(s:S)(r:Rf):Int:=
 if r.r=0∧s.ep<r.e then 1 else if r.e≠s.ep∨r.r<s.rq then 5 else if r.r=s.rq then (if s.dn=true then 2 else 3) else if s.live=false then 4 else if r.r-1=s.rq∧s.dn=true then 1 else 5
def look(t:T)(r:Rf):Int:=if aY.ok r∧Right t then nH (t.get r.c) r else 5
def lT(t:T)(r:Rf):S:=if live t r.c<4 then ⟨true,r.e,0,true,au.rz⟩ else ⟨false,r.e,0,true,au.err 6⟩
def jv(t:T)(r:Rf):T:=if look t r=1∧r.r=0 then t.set r.c (lT t r) else t
def rW(t:T)(r:Rf):au.Rp:=if look t r=1∧r.r=0 then (lT t r).p else au.err 1
def iT(t:T)(r:Rf):T:=if look t r=1∧¬r.r=0 then t.set r.c { t.get r.c with rq:=r.r,dn:=false,p:=au.rz } else t
def ji(t:T)(r:Rf)(x:au.Rp):T:=if look t r=3∧au.rep x=true then t.set r.c { t.get r.c with dn:=true,p:=x } else t
def iA(s:S):S:=if s.dn=true then { s with live:=false } else { s with live:=false,dn:=true,p:=au.err 14 }
def fF(t:T)(c:Int):T:=if 0≤c∧c<5∧Right t∧(t.get c).live=true then t.set c (iA (t.get c)) else t
theorem fO{c:Int}(h:0≤c∧c<5):c=0∨c=1∨c=2∨c=3∨c=4:=by omega
theorem mR{r:Rf}(h:aY.ok r):0≤r.c∧r.c<5:=⟨h.1,h.2.1⟩
theorem bQ{t:T}{c:Int}(h:0≤c∧c<5)(s:S):(t.set c s).get c=s:=by
 rcases fO h with rfl|rfl|rfl|rfl|rfl<;>rfl
theorem jH{t:T}{c d:Int}(hc:0≤c∧c<5)(hd:0≤d∧d<5)(hn:¬d=c)(s:S):(t.set c s).get d=t.get d:=by
 rcases fO hc with rfl|rfl|rfl|rfl|rfl<;>rcases fO hd with rfl|rfl|rfl|rfl|rfl<;>first|exact absurd rfl hn|rfl
theorem Xu(b:Bool):(b=true∧Ct b=1)∨(b=false∧Ct b=0):=by cases b<;>simp[Ct]
theorem Vr{t:T}{c:Int}(h:0≤c∧c<5)(s:S):live (t.set c s) (-1)=live t c+Ct s.live:=by
 rcases fO h with rfl|rfl|rfl|rfl|rfl<;>simp[live,T.set,Ct]<;>omega
theorem EX{t:T}{c:Int}(h:0≤c∧c<5):live t (-1)=live t c+Ct (t.get c).live:=by
 rcases fO h with rfl|rfl|rfl|rfl|rfl<;>simp[live,T.get,Ct]<;>omega
theorem kN{t:T}(h:Right t){c:Int}(hc:0≤c∧c<5):one (t.get c)=true:=by
 obtain⟨⟨h0,h1,h2,h3,h4⟩,_⟩:=h
 rcases fO hc with rfl|rfl|rfl|rfl|rfl
 ·exact h0
 ·exact h1
 ·exact h2
 ·exact h3
 ·exact h4
theorem mh{t:T}(h:Right t){c:Int}(hc:0≤c∧c<5){s:S}(hs:one s=true)(hl:live t c+Ct s.live≤4:=by show live t c+0≤4;omega):Right (t.set c s):=by
 obtain⟨⟨h0,h1,h2,h3,h4⟩,_⟩:=h;refine⟨?_,by rw[Vr hc];exact hl⟩
 rcases fO hc with rfl|rfl|rfl|rfl|rfl
 ·exact⟨hs,h1,h2,h3,h4⟩
 ·exact⟨h0,hs,h2,h3,h4⟩
 ·exact⟨h0,h1,hs,h3,h4⟩
 ·exact⟨h0,h1,h2,hs,h4⟩
 ·exact⟨h0,h1,h2,h3,hs⟩
def snd(s:S):Bool:=decide (0<s.ep)&&decide (0≤s.rq)&&au.rep s.p&&(s.dn || (s.live&&decide (0<s.rq)&&decide (s.p=au.rz)))
theorem ZK(s:S):one s=(decide (s=z) || snd s):=by
 unfold one;by_cases h:s.ep=0
 ·rw[if_pos h]
  unfold snd;rw[decide_eq_false (p:=0<s.ep) (by omega)];simp
 ·rw[if_neg h,decide_eq_false (p:=s=z) (fun e=>h (by rw[e];rfl))]
  unfold snd;rw[Bool.eq_iff_iff];simp only[Bool.and_eq_true,Bool.or_eq_true,decide_eq_true_eq,Bool.false_or]
  constructor
  ·rintro ⟨⟨⟨h1,h2⟩,h3⟩,h4⟩
   exact⟨⟨⟨h2,h3⟩,h4⟩,h1.imp id fun⟨⟨a,b⟩,c⟩=>⟨⟨c,by omega⟩,a⟩⟩
  ·rintro ⟨⟨⟨h2,h3⟩,h4⟩,h1⟩
   exact⟨⟨⟨h1.imp id fun⟨⟨c,b⟩,a⟩=>⟨⟨a,by omega⟩,c⟩,h2⟩,h3⟩,h4⟩
def cnt(t:T)(q:Int):Nat→Int
 | 0=>0
 | k+1=>cnt t q k+Ct ((t.get k).live&&!decide ((k:Int)=q))
theorem ajq(t:T)(q:Int):cnt t q 5=live t q:=by
 unfold live;simp[cnt,T.get]
theorem Mr(t:T)(q:Int):∀k:Nat,0≤cnt t q k∧cnt t q k≤k
 | 0=>⟨Int.le_refl 0,Int.le_refl 0⟩
 | k+1=>by
  have h:=Mr t q k
  rcases Xu ((t.get k).live&&!decide ((k:Int)=q)) with ⟨_,g⟩|⟨_,g⟩<;>(show 0≤cnt t q k+_∧cnt t q k+_≤_;rw[g];omega)
theorem Da(t:T):(∀c:Int,0≤c∧c<5→one (t.get c)=true)→decide (Right t)=decide (live t (-1)≤4):=fun h=>by
 have e:Right t↔live t (-1)≤4:=⟨fun g=>g.2,fun g=>⟨⟨h 0 (by decide),h 1 (by decide),h 2 (by decide),h 3 (by decide),h 4 (by decide)⟩,g⟩⟩;rw[Bool.eq_iff_iff,decide_eq_true_eq,decide_eq_true_eq];exact e
theorem Gv{t:T}{c:Int}(hc:0≤c∧c<5)(h:one (t.get c)=false):decide (Right t)=false:=
 decide_eq_false fun g=>by rw[kN g hc] at h;cases h
def Fit(t:T):Prop:=∀c:Int,0≤c∧c<5→(t.get c).p.v.f<18446744073709551616
theorem jE{t:T}{r:Rf}{k:Int}(h:look t r=k)(hk:¬k=5:=by decide):aY.ok r∧Right t∧nH (t.get r.c) r=k:=by
 unfold look at h
 split at h
 next g=>exact⟨g.1,g.2,h⟩
 next=>exact absurd h.symm hk
theorem Hw{t:T}{r:Rf}(h:¬(aY.ok r∧Right t)):look t r=5:=if_neg h
theorem Ut:au.rep au.rz=true:=by decide
theorem Nr{e:Int}(h:0≤e∧e≤18:=by decide):au.rep (au.err e)=true:=by
 unfold au.rep au.err;rw[decide_eq_true h.1,decide_eq_true h.2]
 rfl
theorem wF{s:S}{r:Rf}(h:nH s r=1):(r.r=0∧s.ep<r.e)∨(r.e=s.ep∧r.r=s.rq+1∧s.live=true∧s.dn=true):=by
 unfold nH at h;by_cases h1:r.r=0∧s.ep<r.e
 ·exact .inl h1
 rw[if_neg h1] at h;by_cases h2:r.e≠s.ep∨r.r<s.rq
 ·rw[if_pos h2] at h;cases h
 rw[if_neg h2] at h;by_cases h3:r.r=s.rq
 ·rw[if_pos h3] at h
  split at h<;>cases h
 rw[if_neg h3] at h;by_cases h4:s.live=false
 ·rw[if_pos h4] at h;cases h
 rw[if_neg h4] at h;by_cases h5:r.r-1=s.rq∧s.dn=true
 ·exact .inr ⟨by omega,by omega,by simpa using h4,h5.2⟩
 ·rw[if_neg h5] at h;cases h
theorem Gc{s:S}{r:Rf}(h:nH s r=3):r.e=s.ep∧r.r=s.rq∧s.dn=false:=by
 unfold nH at h;by_cases h1:r.r=0∧s.ep<r.e
 ·rw[if_pos h1] at h;cases h
 rw[if_neg h1] at h;by_cases h2:r.e≠s.ep∨r.r<s.rq
 ·rw[if_pos h2] at h;cases h
 rw[if_neg h2] at h;by_cases h3:r.r=s.rq
 ·rw[if_pos h3] at h
  by_cases h6:s.dn=true
  ·rw[if_pos h6] at h;cases h
  ·exact⟨by omega,h3,by simpa using h6⟩
 rw[if_neg h3] at h;by_cases h4:s.live=false
 ·rw[if_pos h4] at h;cases h
 rw[if_neg h4] at h;by_cases h5:r.r-1=s.rq∧s.dn=true
 ·rw[if_pos h5] at h;cases h
 ·rw[if_neg h5] at h;cases h
theorem one_pos{s:S}(h:one s=true)(he:¬s.ep=0):(s.dn=true∨(s.p=au.rz∧1≤s.rq∧s.live=true))∧0<s.ep∧0≤s.rq∧au.rep s.p=true:=by
 unfold one at h;rw[if_neg he] at h;simp only[Bool.and_eq_true,Bool.or_eq_true,decide_eq_true_eq] at h;exact⟨h.1.1.1.imp id fun g=>⟨g.1.1,g.1.2,g.2⟩,h.1.1.2,h.1.2,h.2⟩
theorem xM{s:S}(h1:s.dn=true∨(s.p=au.rz∧1≤s.rq∧s.live=true))(h2:0≤s.rq)(h3:au.rep s.p=true)(h0:0<s.ep:=by show 0<r.e;omega):one s=true:=by
 unfold one;rw[if_neg (by omega)];simp only[Bool.and_eq_true,Bool.or_eq_true,decide_eq_true_eq];exact⟨⟨⟨h1.imp id fun g=>⟨⟨g.1,g.2.1⟩,g.2.2⟩,h0⟩,h2⟩,h3⟩
theorem vV{s:S}(h:one s=true)(he:s.ep=0):s=z:=by
 unfold one at h;rw[if_pos he] at h;exact of_decide_eq_true h
theorem NM{t:T}(h:Right t){c:Int}(hc:0≤c∧c<5):live t c≤4:=by
 have h1:=EX (t:=t) hc;have h2:=h.2
 rcases Xu (t.get c).live with ⟨_,g⟩|⟨_,g⟩<;>omega
theorem Lh{t:T}(h:Right t)(r:Rf):Right (jv t r):=by
 unfold jv
 split
 next g=>
  obtain⟨hk,_,hl⟩:=jE g.1;have hc:=mR hk;have hm:=NM h hc;have he:1≤r.e:=hk.2.2.1;unfold lT
  split
  next hl4=>exact mh h hc (xM (.inl rfl) (Int.le_refl 0) Ut) (hl:=(by show live t r.c+1≤4;omega))
  next hl4=>exact mh h hc (xM (.inl rfl) (Int.le_refl 0) (Nr)) (hl:=(by show live t r.c+0≤4;omega))
 next=>exact h
theorem DU{t:T}(h:Right t)(r:Rf):Right (iT t r):=by
 unfold iT
 split
 next g=>
  obtain⟨hk,_,hl⟩:=jE g.1;have hc:=mR hk
  rcases wF hl with ⟨h0,_⟩|⟨h1,h2,h3,h4⟩
  ·exact absurd h0 g.2
  have he:1≤r.e:=hk.2.2.1;have hr:0≤r.r:=hk.2.2.2;have h0:=g.2;have hla:=EX (t:=t) hc;have h5:=h.2;refine mh h hc (xM (h0:=(by show 0<(t.get r.c).ep;omega)) (.inr ⟨rfl,by show 1≤r.r;omega,h3⟩) hr Ut) (hl:=?_)
  show live t r.c+Ct (t.get r.c).live≤4
  omega
 next=>exact h
theorem Ro{t:T}(h:Right t)(r:Rf)(x:au.Rp):Right (ji t r x):=by
 unfold ji
 split
 next g=>
  obtain⟨hk,_,hl⟩:=jE g.1;have hc:=mR hk;obtain⟨h1,h2,h3⟩:=Gc hl;have he:1≤r.e:=hk.2.2.1;have hr:0≤r.r:=hk.2.2.2;have hla:=EX (t:=t) hc;have h5:=h.2;refine mh h hc (xM (h0:=(by show 0<(t.get r.c).ep;omega)) (.inl rfl) (by show 0≤(t.get r.c).rq;omega) g.2) (hl:=?_)
  show live t r.c+Ct (t.get r.c).live≤4
  omega
 next=>exact h
theorem Jf{t:T}(h:Right t)(c:Int):Right (fF t c):=by
 unfold fF
 split
 next g=>
  obtain⟨h1,h2,_,hl⟩:=g;have hc:0≤c∧c<5:=⟨h1,h2⟩;have ho:=kN h hc;have he:¬(t.get c).ep=0:=fun e=>by rw[vV ho e] at hl;cases hl
  obtain⟨o1,o2,o3,o4⟩:=one_pos ho he;have hm:=NM h hc;unfold iA
  split
  next hd=>exact mh h hc (xM (h0:=o2) (.inl hd) o3 o4)
  next hd=>exact mh h hc (xM (h0:=o2) (.inl rfl) o3 (Nr))
 next=>exact h
end aG
end
section
namespace aG
theorem set_set{t:T}{c:Int}(h:0≤c∧c<5)(a b:S):(t.set c a).set c b=t.set c b:=by
 rcases fO h with rfl|rfl|rfl|rfl|rfl<;>rfl
theorem Wp{s:S}{l d:Bool}(hl:s.live=l)(hd:s.dn=d):∃ep rq p,s=⟨l,ep,rq,d,p⟩:=⟨s.ep,s.rq,s.p,by rw[← hl,← hd]⟩
theorem sF{t:T}{r:Rf}{k:Int}(h:look t r=k)(hk:¬k=5):0≤r.c∧r.c<5:=mR (jE h (hk:=hk)).1
theorem abJ{t:T}{r:Rf}(h1:decide (look t r=1)=true)(h2:decide (r.r=0)=false):iT t r=t.set r.c { t.get r.c with rq:=r.r,dn:=false,p:=au.rz }:=if_pos ⟨of_decide_eq_true h1,of_decide_eq_false h2⟩
theorem abL{t:T}{r:Rf}(h1:decide (look t r=1)=false):iT t r=t:=if_neg fun h=>of_decide_eq_false h1 h.1
theorem abK{t:T}{r:Rf}(h2:decide (r.r=0)=true):iT t r=t:=if_neg fun h=>h.2 (of_decide_eq_true h2)
theorem abf{t:T}{r:Rf}{x:au.Rp}(h1:decide (look t r=3)=true)(h2:au.rep x=true):ji t r x=t.set r.c { t.get r.c with dn:=true,p:=x }:=if_pos ⟨of_decide_eq_true h1,h2⟩
theorem abh{t:T}{r:Rf}{x:au.Rp}(h1:decide (look t r=3)=false):ji t r x=t:=if_neg fun h=>of_decide_eq_false h1 h.1
theorem abg{t:T}{r:Rf}{x:au.Rp}(h2:au.rep x=false):ji t r x=t:=if_neg fun h=>by rw[h2] at h;cases h.2
theorem afn{t:T}{r:Rf}(h1:decide (look t r=1)=false):jv t r=t∧rW t r=au.err 1:=⟨if_neg fun h=>of_decide_eq_false h1 h.1,if_neg fun h=>of_decide_eq_false h1 h.1⟩
theorem afm{t:T}{r:Rf}(h2:decide (r.r=0)=false):jv t r=t∧rW t r=au.err 1:=⟨if_neg fun h=>of_decide_eq_false h2 h.2,if_neg fun h=>of_decide_eq_false h2 h.2⟩
theorem afl{t:T}{r:Rf}(h1:decide (look t r=1)=true)(h2:decide (r.r=0)=true)(h3:decide (live t r.c<4)=true):jv t r=t.set r.c ⟨true,r.e,0,true,au.rz⟩∧rW t r=au.rz:=by
 have e:lT t r=⟨true,r.e,0,true,au.rz⟩:=if_pos (of_decide_eq_true h3);exact ahm
theorem ZJ{t:T}{r:Rf}(h1:decide (look t r=1)=true)(h2:decide (r.r=0)=true)(h3:decide (live t r.c<4)=false):jv t r=t.set r.c ⟨false,r.e,0,true,au.err 6⟩∧rW t r=au.err 6:=by
 have e:lT t r=⟨false,r.e,0,true,au.err 6⟩:=if_neg (of_decide_eq_false h3);exact ahm
theorem ajs{t:T}{c:Int}(h:decide (c<0)=true):fF t c=t:=if_neg fun g=>by have:=of_decide_eq_true h;omega
theorem aju{t:T}{c:Int}(h:decide (5≤c)=true):fF t c=t:=if_neg fun g=>by have:=of_decide_eq_true h;omega
theorem ajr{t:T}{c:Int}(h:decide (Right t)=false):fF t c=t:=if_neg fun g=>of_decide_eq_false h g.2.2.1
theorem abA{t:T}{c:Int}(h:(t.get c).live=false):fF t c=t:=if_neg fun g=>by rw[h] at g;cases g.2.2.2
theorem ajt{c:Int}(h1:decide (c<0)=false)(h2:decide (5≤c)=false):0≤c∧c<5:=by
 have:=of_decide_eq_false h1;have:=of_decide_eq_false h2;omega
theorem abz{t:T}{c:Int}(h:0≤c∧c<5)(h2:decide (Right t)=true)(h3:(t.get c).live=true)(h4:(t.get c).dn=true):fF t c=t.set c { t.get c with live:=false }:=
 (if_pos ⟨h.1,h.2,of_decide_eq_true h2,h3⟩).trans (by rw[iA,if_pos h4])
theorem aby{t:T}{c:Int}(h:0≤c∧c<5)(h2:decide (Right t)=true)(h3:(t.get c).live=true)(h4:(t.get c).dn=false):fF t c=t.set c { t.get c with live:=false,dn:=true,p:=au.err 14 }:=
 (if_pos ⟨h.1,h.2,of_decide_eq_true h2,h3⟩).trans (by rw[iA,if_neg (by rw[h4];decide)])
end aG
end
section
namespace aG
theorem Nk{t:T}{c:Int}(h:¬(0≤c∧c<5))(s:S):t.set c s=t:=by
 unfold T.set;rw[if_neg (by omega),if_neg (by omega),if_neg (by omega),if_neg (by omega),if_neg (by omega)]
theorem zM{t:T}{c:Int}{s:S}(h:Fit t)(hs:s.p.v.f<18446744073709551616):Fit (t.set c s):=fun d hd=>by
 by_cases hc:0≤c∧c<5
 ·by_cases e:d=c
  ·rw[e,bQ hc];exact hs
  ·rw[jH hc hd e];exact h d hd
 ·rw[Nk hc];exact h d hd
theorem aaZ{t:T}(h:Fit t)(c:Int):(t.get c).p.v.f<18446744073709551616:=by
 by_cases hc:0≤c∧c<5
 ·exact h c hc
 ·unfold T.get
  rw[if_neg (by omega),if_neg (by omega),if_neg (by omega),if_neg (by omega),if_neg (by omega)]
  decide
theorem WC{t:T}(h:Fit t)(r:Rf):Fit (jv t r):=by
 unfold jv
 split
 ·refine zM h ?_
  unfold lT
  split
  ·show 0<_;decide
  ·show 0<_;decide
 ·exact h
theorem lW{t:T}(h:Fit t)(r:Rf):Fit (iT t r):=by
 unfold iT
 split
 ·exact zM h (by show 0<_;decide)
 ·exact h
theorem qo{t:T}(h:Fit t)(r:Rf){x:au.Rp}(hx:x.v.f<18446744073709551616):Fit (ji t r x):=by
 unfold ji
 split
 ·exact zM h hx
 ·exact h
theorem xZ{t:T}(h:Fit t)(c:Int):Fit (fF t c):=by
 unfold fF
 split
 ·refine zM h ?_
  unfold iA
  split
  ·exact aaZ h c
  ·show 0<_;decide
 ·exact h
def t0:T:=⟨z,z,z,z,z⟩
def t1:T:=⟨⟨true,1,0,true,au.rz⟩,z,z,z,z⟩
def t2:T:=⟨⟨true,1,1,false,au.rz⟩,z,z,z,z⟩
end aG
end
section
namespace Ap
open aG
def Hd(t:T)(r:Rf):Prop:=(t.get r.c).live=true∧(t.get r.c).ep=r.e∧r.r≤(t.get r.c).rq∧1≤r.r
instance (t:T) (r:Rf):Decidable (Hd t r):=by unfold Hd;infer_instance
def opn(s:S):Bool:=decide (0<s.ep)&&!s.dn
def cnt(l:List Rf)(c:Int):Nat:=l.countP fun x=>decide (x.c=c)
theorem jk(l m:List Rf)(c:Int):cnt (l++m) c=cnt l c+cnt m c:=List.countP_append ..
theorem wR(r:Rf)(l:List Rf)(c:Int):cnt (r::l) c=cnt l c+if r.c=c then 1 else 0:=by
 unfold cnt;rw[List.countP_cons];simp
theorem Xh{l m:List Rf}(h:l.Perm m)(c:Int):cnt l c=cnt m c:=h.countP_eq _
theorem Jd{l:List Rf}{c:Int}(h:cnt l c=0){r:Rf}(hr:r∈l):¬r.c=c:=fun e=>by
 have:=List.countP_eq_zero.1 h r hr;simp[e] at this
theorem Mq{l:List Rf}{c:Int}(h:∀r∈l,¬r.c=c):cnt l c=0:=List.countP_eq_zero.2 fun r hr=>by simp[h r hr]
theorem abw{l:List Rf}{c q:Int}(h:¬c=q):cnt (l.filter fun x=>!decide (x.c=q)) c=cnt l c:=by
 unfold cnt;rw[List.countP_filter];refine List.countP_congr fun x _=>?_
 simp only[Bool.and_eq_true,decide_eq_true_eq,Bool.not_eq_true',decide_eq_false_iff_not]
 constructor
 ·exact fun g=>g.1
 ·intro g
  exact⟨g,fun e=>h (by omega)⟩
theorem Fx{l:List Rf}{q:Int}:cnt (l.filter fun x=>!decide (x.c=q)) q=0:=Mq fun r hr=>by
 have:=(List.mem_filter.1 hr).2
 simpa using this
theorem qc{t:T}{c:Int}{s:S}{r:Rf}(hc:0≤c∧c<5)(h1:Right t)(h2:Right (t.set c s))(hn:¬r.c=c):aG.look (t.set c s) r=aG.look t r:=by
 by_cases hk:aY.ok r
 ·unfold aG.look
  rw[if_pos ⟨hk,h2⟩,if_pos ⟨hk,h1⟩,jH hc (mR hk) hn]
 ·rw[Hw fun g=>hk g.1,Hw fun g=>hk g.1]
theorem wE{t:T}{c:Int}{s:S}{r:Rf}(hc:0≤c∧c<5)(hr:0≤r.c∧r.c<5)(hn:¬r.c=c):Hd (t.set c s) r↔Hd t r:=by
 unfold Hd;rw[jH hc hr hn]
theorem oh{t:T}{r:Rf}(h:aG.look t r=3):(0≤r.c∧r.c<5)∧Hd t r∧(t.get r.c).dn=false∧r.r=(t.get r.c).rq∧opn (t.get r.c)=true:=by
 obtain⟨hk,hR,hl⟩:=jE h;obtain⟨h1,h2,h3⟩:=Gc hl;have he:1≤r.e:=hk.2.2.1
 rcases(one_pos (kN hR (mR hk)) (by omega)).1 with g|⟨_,g2,g⟩
 ·rw[h3] at g;cases g
 ·refine⟨mR hk,⟨g,h1.symm,by omega,by omega⟩,h3,h2,?_⟩
  unfold opn;rw[h3,decide_eq_true (by omega)]
  rfl
theorem Vn{t:T}{r:Rf}(hk:aY.ok r)(hR:Right t)(h1:r.e=(t.get r.c).ep)(h2:r.r=(t.get r.c).rq)(h3:(t.get r.c).dn=false):aG.look t r=3:=by
 unfold aG.look;rw[if_pos ⟨hk,hR⟩];unfold nH;rw[if_neg (by omega),if_neg (by omega),if_pos h2,h3]
 rfl
structure J(t:T)(W P H:List Rf):Prop where
 ok:Right t
 w:∀r∈W++P,aG.look t r=3
 p:∀c:Int,0≤c∧c<5→cnt (W++P) c=if opn (t.get c)=true then 1 else 0
 h:∀r∈H,(0≤r.c∧r.c<5)∧Hd t r∧(r.r=(t.get r.c).rq→(t.get r.c).dn=false→r∈P)
section
variable {t:T}{W P H W' P' H':List Rf}{r:Rf}{c:Int}
theorem J.range(j:J t W P H)(hr:r∈W++P):0≤r.c∧r.c<5:=(oh (j.w r hr)).1
theorem J.none(j:J t W P H)(hc:0≤c∧c<5)(h:opn (t.get c)=false)(hr:r∈W++P):¬r.c=c:=
 Jd (by rw[j.p c hc,h];rfl) hr
theorem J.perm(j:J t W P H)(hp:(W'++P').Perm (W++P))(hh:∀r∈H',(r∈H∧(r∈P→r∈P'))∨r∈P'):J t W' P' H':=by
 refine⟨j.ok,fun r hr=>j.w r (hp.mem_iff.1 hr),fun c hc=>by rw[Xh hp];exact j.p c hc,fun r hr=>?_⟩
 rcases hh r hr with ⟨h1,h2⟩|h1
 ·obtain⟨a,b,d⟩:=j.h r h1
  exact⟨a,b,fun e1 e2=>h2 (d e1 e2)⟩
 ·obtain⟨a,b,_⟩:=oh (j.w r (hp.mem_iff.1 (List.mem_append.2 (.inr h1))))
  exact⟨a,b,fun _ _=>h1⟩
theorem jO(hl:aG.look t r=1)(h0:¬r.r=0):aY.ok r∧Right t∧r.e=(t.get r.c).ep∧r.r=(t.get r.c).rq+1∧(t.get r.c).live=true∧(t.get r.c).dn=true:=by
 obtain⟨hk,hR,hs⟩:=jE hl
 rcases wF hs with ⟨g,_⟩|⟨g1,g2,g3,g4⟩
 ·exact absurd g h0
 ·exact⟨hk,hR,g1,g2,g3,g4⟩
theorem J.QZ(j:J t W P H)(hl:aG.look t r=1)(h0:¬r.r=0):r ∉ H:=fun h=>by
 obtain⟨_,_,_,g,_,_⟩:=jO hl h0;have:=(j.h r h).2.1.2.2.1;omega
theorem J.begin(j:J t W P H)(hl:aG.look t r=1)(h0:¬r.r=0):J (iT t r) W (P++[r]) H:=by
 obtain⟨hk,hR,g1,g2,g3,g4⟩:=jO hl h0;have hc:=mR hk;have hR2:=DU j.ok r;have e:iT t r=t.set r.c { t.get r.c with rq:=r.r,dn:=false,p:=au.rz }:=if_pos ⟨hl,h0⟩;have ho:opn (t.get r.c)=false:=by unfold opn;rw[g4];simp
 have he:1≤r.e:=hk.2.2.1;rw[e] at hR2 ⊢;refine⟨hR2,fun q hq=>?_,fun c hc2=>?_,fun q hq=>?_⟩
 ·rw[← List.append_assoc] at hq
  rcases List.mem_append.1 hq with hq|hq
  ·rw[qc hc j.ok hR2 (j.none hc ho hq)]
   exact j.w q hq
  ·rw[List.mem_singleton.1 hq]
   refine Vn hk hR2 ?_ ?_ ?_<;>rw[bQ hc];exact g1
 ·rw[← List.append_assoc,jk,j.p c hc2]
  by_cases e2:c=r.c
  ·subst e2
   rw[bQ hc,ho];unfold cnt opn;rw[decide_eq_true (by show 0<(t.get r.c).ep;omega)];simp
  ·rw[jH hc hc2 e2]
   have:cnt [r] c=0:=Mq fun x hx=>by rw[List.mem_singleton.1 hx];exact fun g=>e2 g.symm
   omega
 ·obtain⟨a,b,d⟩:=j.h q hq
  by_cases e2:q.c=r.c
  ·obtain⟨b1,b2,b3,b4⟩:=b
   rw[e2] at b1 b2 b3;refine⟨a,⟨?_,?_,?_,b4⟩,fun f1 f2=>?_⟩
   ·rw[e2,bQ hc];exact b1
   ·rw[e2,bQ hc];exact b2
   ·rw[e2,bQ hc];show q.r≤r.r;omega
   ·rw[e2,bQ hc] at f1
    exfalso
    have:q.r=r.r:=f1;omega
  ·refine⟨a,(wE hc a e2).2 b,fun f1 f2=>?_⟩
   rw[jH hc a e2] at f1 f2;exact List.mem_append.2 (.inl (d f1 f2))
theorem J.end_(j:J t W (r::P) H){x:au.Rp}(hx:au.rep x=true):J (ji t r x) W P H:=by
 have hl:aG.look t r=3:=j.w r (List.mem_append.2 (.inr (List.mem_cons_self ..)));obtain⟨hc,hd,g3,g4,ho⟩:=oh hl;have hR2:=Ro j.ok r x;have e:ji t r x=t.set r.c { t.get r.c with dn:=true,p:=x }:=if_pos ⟨hl,hx⟩;rw[e] at hR2 ⊢
 have h1:cnt (W++P) r.c=0:=by
  have:=j.p r.c hc;rw[ho,jk,wR,if_pos rfl,if_pos rfl] at this;rw[jk];omega
 refine⟨hR2,fun q hq=>?_,fun c hc2=>?_,fun q hq=>?_⟩
 ·rw[qc hc j.ok hR2 (Jd h1 hq)]
  refine j.w q ?_
  rcases List.mem_append.1 hq with hq|hq
  ·exact List.mem_append.2 (.inl hq)
  ·exact List.mem_append.2 (.inr (List.mem_cons_of_mem _ hq))
 ·by_cases e2:c=r.c
  ·subst e2
   rw[h1,bQ hc];unfold opn;simp
  ·rw[jH hc hc2 e2,← j.p c hc2,jk,jk,wR,if_neg (fun g=>e2 g.symm)]
   rfl
 ·obtain⟨a,b,d⟩:=j.h q hq
  by_cases e2:q.c=r.c
  ·obtain⟨b1,b2,b3,b4⟩:=b
   rw[e2] at b1 b2 b3;refine⟨a,⟨?_,?_,?_,b4⟩,fun f1 f2=>?_⟩
   ·rw[e2,bQ hc];exact b1
   ·rw[e2,bQ hc];exact b2
   ·rw[e2,bQ hc];exact b3
   ·rw[e2,bQ hc] at f2
    cases f2
  ·refine⟨a,(wE hc a e2).2 b,fun f1 f2=>?_⟩
   rw[jH hc a e2] at f1 f2
   rcases List.mem_cons.1 (d f1 f2) with g|g
   ·exact absurd (congrArg Rf.c g) e2
   ·exact g
def ends(t:T):List (Rf×au.Rp)→T
 | []=>t
 | y::m=>ends (ji t y.1 y.2) m
theorem J.ends:∀{Y:List (Rf×au.Rp)} {t:T},J t W (Y.map (·.1)++P) H→(∀y∈Y,au.rep y.2=true)→J (Ap.ends t Y) W P H
 | [],t,j,_=>j
 | y::m,t,j,hy=>J.ends (Y:=m) (t:=ji t y.1 y.2) (J.end_ j (hy y (List.mem_cons_self ..))) fun z hz=>hy z (List.mem_cons_of_mem _ hz)
theorem J.close(j:J t W P H)(hc:0≤c∧c<5)(hl:(t.get c).live=true):
  J (fF t c) (W.filter fun x=>!decide (x.c=c)) (P.filter fun x=>!decide (x.c=c)) (H.filter fun x=>!decide (x.c=c)):=by
 have hR2:=Jf j.ok c;have e:fF t c=t.set c (iA (t.get c)):=if_pos ⟨hc.1,hc.2,j.ok,hl⟩
 have hd:(iA (t.get c)).dn=true:=by
  unfold iA
  split
  ·assumption
  ·rfl
 rw[e] at hR2 ⊢;refine⟨hR2,fun q hq=>?_,fun c2 hc2=>?_,fun q hq=>?_⟩
 ·rw[← List.filter_append] at hq
  obtain⟨h1,h2⟩:=List.mem_filter.1 hq;rw[qc hc j.ok hR2 (by simpa using h2)];exact j.w q h1
 ·rw[← List.filter_append]
  by_cases e2:c2=c
  ·subst e2
   rw[Fx,bQ hc];unfold opn;rw[hd];simp
  ·rw[abw e2,jH hc hc2 e2]
   exact j.p c2 hc2
 ·obtain⟨h1,h2⟩:=List.mem_filter.1 hq
  obtain⟨a,b,d⟩:=j.h q h1;have e2:¬q.c=c:=by simpa using h2
  refine⟨a,(wE hc a e2).2 b,fun f1 f2=>?_⟩;rw[jH hc a e2] at f1 f2;exact List.mem_filter.2 ⟨d f1 f2,h2⟩
theorem J.dead(j:J t W P H)(hl:(t.get c).live=false):(∀q∈W++P,¬q.c=c)∧∀q∈H,¬q.c=c:=by
 refine⟨fun q hq e=>?_,fun q hq e=>?_⟩
 ·have:=(oh (j.w q hq)).2.1.1
  rw[e,hl] at this;cases this
 ·have:=(j.h q hq).2.1.1
  rw[e,hl] at this;cases this
theorem J.open_(j:J t W P H)(hl:aG.look t r=1)(h0:r.r=0)(hd:(t.get r.c).live=false):J (jv t r) W P H:=by
 obtain⟨hk,_,_⟩:=jE hl;have hc:=mR hk;have hR2:=Lh j.ok r;have e:jv t r=t.set r.c (lT t r):=if_pos ⟨hl,h0⟩;have hdn:(lT t r).dn=true:=by unfold lT;split<;>rfl
 obtain⟨n1,n2⟩:=j.dead hd
 have ho:opn (t.get r.c)=false:=by
  unfold opn;by_cases he:(t.get r.c).ep=0
  ·rw[he];rfl
  ·rcases(one_pos (kN j.ok hc) he).1 with g|⟨_,_,g⟩
   ·rw[g];simp
   ·rw[hd] at g;cases g
 rw[e] at hR2 ⊢;refine⟨hR2,fun q hq=>?_,fun c2 hc2=>?_,fun q hq=>?_⟩
 ·rw[qc hc j.ok hR2 (n1 q hq)]
  exact j.w q hq
 ·rw[j.p c2 hc2]
  by_cases e2:c2=r.c
  ·subst e2
   rw[bQ hc,ho];unfold opn;rw[hdn];simp
  ·rw[jH hc hc2 e2]
 ·obtain⟨a,b,d⟩:=j.h q hq
  have e2:=n2 q hq;refine⟨a,(wE hc a e2).2 b,fun f1 f2=>?_⟩;rw[jH hc a e2] at f1 f2;exact d f1 f2
theorem J.mine(j:J t W P H)(hr:r∈W++P∨r∈H):r.e=(t.get r.c).ep:=by
 rcases hr with hr|hr
 ·exact(oh (j.w r hr)).2.1.2.1.symm
 ·exact(j.h r hr).2.1.2.1.symm
end
end Ap
end
end Go.Proofs.YtahdlddbbnjloaaGreat
