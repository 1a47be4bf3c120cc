/- States of a replica: which may be; what leaving, an opening, a fresh request, an event do; what they leave may be. No condition but those named. -/
import Derived.Test.YtieoeendnccafaaGreatMTK
import Derived.Test.YtieoeendnccafaaGreatMAA
set_option linter.unusedSimpArgs false
set_option linter.unusedVariables false
set_option maxRecDepth 100000
set_option maxHeartbeats 25600000
namespace Go.Proofs.YtieoeendnccafaaGreat
section
namespace Sto
structure Ob where
 name:ByteArray
 kind:Int
 cap:Int
 prs:List Dct.Pr
 vals:List Val.V
 refs:List Rf
 round:Int
 mt:Mtr
 deriving DecidableEq
structure Ot where
 r:Rf
 p:Rp
 deriving DecidableEq
structure Oc where
 o:Ob
 p:Rp
 later:Bool
 outs:List Ot
structure Rs where
 l:List Ob
 p:Rp
 later:Bool
 outs:List Ot
def named(s:ByteArray):Prop:=¬s.size=0∧s.size≤16
instance (s:ByteArray):Decidable (named s):=by unfold named;infer_instance
def h0(k:Int):Bool:=decide (k=2∨k=4)
def h1(k:Int):Bool:=decide (k=1)
def h2(k:Int):Bool:=decide (k=2)
def h3(k:Int):Bool:=decide (k=3∨k=4)
def h4(k:Int):Bool:=decide (k=4)
def h5(k:Int):Bool:=decide (k=5)
def is(k:Int):Bool:=decide (1≤k∧k≤5)
def f0(o:Ob):Bool:=!decide (o.cap=0)
def f1(o:Ob):Bool:=decide (0<o.prs.length)
def f2(o:Ob):Bool:=decide (0<o.vals.length)
def f3(o:Ob):Bool:=decide (0<o.refs.length)
def f4(o:Ob):Bool:=!decide (o.round=0)
def f5(o:Ob):Bool:=!decide (o.mt=Mt.zero)
def clean(o:Ob):Bool:=is o.kind&&((!f0 o || h0 o.kind)&&(!f1 o || h1 o.kind)&&(!f2 o || h2 o.kind)&&(!f3 o || h3 o.kind)&&(!f4 o || h4 o.kind)&&(!f5 o || h5 o.kind))
def sound(o:Ob):Bool:=if o.kind=1 then decide (Dct.Right o.prs) else if o.kind=2 then decide (Que.Right o.cap o.vals) else if o.kind=3 then decide (Lck.Right o.refs) else if o.kind=4 then decide (Gt.Right o.cap o.refs)&&decide (0≤o.round) else if o.kind=5 then decide (Mt.Ok o.mt) else false
def One(o:Ob):Bool:=decide (named o.name)&&clean o&&sound o
theorem sound_is{o:Ob}(h:sound o=true):is o.kind=true:=by
 unfold sound at h
 unfold is
 by_cases g1:o.kind=1
 ·rw[g1];rfl
 by_cases g2:o.kind=2
 ·rw[g2];rfl
 by_cases g3:o.kind=3
 ·rw[g3];rfl
 by_cases g4:o.kind=4
 ·rw[g4];rfl
 by_cases g5:o.kind=5
 ·rw[g5];rfl
 rw[if_neg g1,if_neg g2,if_neg g3,if_neg g4,if_neg g5] at h
 cases h
def Up(l:List Ob):Prop:=l.Pairwise fun a b=>Dct.lt a.name b.name=true
theorem up_of{l:List Ob}(h:∀i x y,l[i]?=some x→l[i+1]?=some y→Dct.lt x.name y.name=true):Up l:=by
 induction l with
 | nil=>exact List.Pairwise.nil
 | cons a r ih=>
  have hr:=ih fun i x y hx hy=>h (i+1) x y (by simpa using hx) (by simpa using hy)
  refine List.Pairwise.cons (fun b hb=>?_) hr
  match r,hb,hr,h with
  | c::r',hb,hr,h=>
   have h0:=h 0 a c rfl rfl
   rcases List.mem_cons.1 hb with rfl|hb
   ·exact h0
   ·exact Dct.lt_trans h0 ((List.pairwise_cons.1 hr).1 b hb)
def fnd:List Ob→ByteArray→Option Ob
 | [],_=>none
 | x::r,k=>if x.name=k then some x else fnd r k
def wo(l:List Ob)(k:ByteArray):List Ob:=l.filter fun p=>!decide (p.name=k)
def idx:List Ob→ByteArray→Nat
 | [],_=>0
 | x::r,k=>if Dct.lt x.name k=true then idx r k+1 else 0
def fin(l:List Ob)(k:ByteArray):Nat:=match l[idx l k]? with
 | some x=>if x.name=k then idx l k+1 else idx l k
 | none=>idx l k
theorem fin_cons_lt{x:Ob}{r:List Ob}{k:ByteArray}(h:Dct.lt x.name k=true):idx (x::r) k=idx r k+1∧fin (x::r) k=fin r k+1:=by
 have e:idx (x::r) k=idx r k+1:=by conv=>lhs;unfold idx;rw[if_pos h]
 refine⟨e,?_⟩
 unfold fin
 rw[e,List.getElem?_cons_succ]
 split<;>(try split)<;>rfl
theorem fin_cons_eq{x:Ob}{r:List Ob}:idx (x::r) x.name=0∧fin (x::r) x.name=1:=by
 have e:idx (x::r) x.name=0:=by unfold idx;rw[if_neg (by rw[Dct.lt_irrefl];simp)]
 refine⟨e,?_⟩
 unfold fin
 rw[e]
 simp
theorem fin_cons_gt{x:Ob}{r:List Ob}{k:ByteArray}(h:Dct.lt k x.name=true):idx (x::r) k=0∧fin (x::r) k=0:=by
 have e:idx (x::r) k=0:=by unfold idx;rw[if_neg (by rw[Dct.lt_asymm h];simp)]
 refine⟨e,?_⟩
 unfold fin
 rw[e]
 have hne:¬x.name=k:=fun e=>Dct.lt_ne h e.symm
 simp[hne]
theorem wo_above{l:List Ob}{k:ByteArray}(h:∀x∈l,¬x.name=k):wo l k=l:=by
 unfold wo
 rw[List.filter_eq_self]
 intro x hx
 simp[h x hx]
theorem fnd_above{l:List Ob}{k:ByteArray}(h:∀x∈l,¬x.name=k):fnd l k=none:=by
 induction l with
 | nil=>rfl
 | cons x r ih=>
  unfold fnd
  rw[if_neg (h x (List.mem_cons_self ..))]
  exact ih fun y hy=>h y (List.mem_cons_of_mem _ hy)
theorem above{x:Ob}{r:List Ob}(h:Up (x::r)){k:ByteArray}(hk:x.name=k∨Dct.lt k x.name=true):∀y∈r,Dct.lt k y.name=true:=fun y hy=>by
 have h1:=(List.pairwise_cons.1 h).1 y hy
 rcases hk with rfl|hk
 ·exact h1
 ·exact Dct.lt_trans hk h1
theorem idx_above{l:List Ob}{k:ByteArray}(h:∀y∈l,Dct.lt k y.name=true):idx l k=0:=by
 match l,h with
 | [],_=>rfl
 | x::r,h=>exact(fin_cons_gt (h x (List.mem_cons_self ..))).1
theorem wo_parts{l:List Ob}(h:Up l)(k:ByteArray):l.take (idx l k)++l.drop (fin l k)=wo l k∧idx (wo l k) k=idx l k∧(fnd l k=if fin l k=idx l k then none else l[idx l k]?)∧fin l k≤idx l k+1:=by
 induction l with
 | nil=>exact⟨rfl,rfl,rfl,Nat.le_succ 0⟩
 | cons x r ih=>
  obtain⟨i1,i2,i3,i4⟩:=ih (List.pairwise_cons.1 h).2
  rcases Dct.lt_tri x.name k with hk|hk|hk
  ·obtain⟨e1,e2⟩:=fin_cons_lt (r:=r) hk
   have hne:=Dct.lt_ne hk
   have ew:wo (x::r) k=x::wo r k:=by unfold wo;rw[List.filter_cons_of_pos (by simp[hne])]
   refine⟨?_,?_,?_,by omega⟩
   ·rw[e1,e2,ew,List.take_succ_cons,List.drop_succ_cons,lcA,i1]
   ·rw[ew,(fin_cons_lt hk).1,i2,e1]
   ·rw[e1,e2,List.getElem?_cons_succ]
    have ef:fnd (x::r) k=fnd r k:=by conv=>lhs;unfold fnd;rw[if_neg hne]
    rw[ef,i3]
    by_cases hh:fin r k=idx r k
    ·rw[if_pos hh,if_pos (by omega)]
    ·rw[if_neg hh,if_neg (by omega)]
  ·subst hk
   obtain⟨e1,e2⟩:=fin_cons_eq (x:=x) (r:=r)
   have hab:=above h (.inl rfl)
   have hr:wo r x.name=r:=wo_above fun y hy e=>Dct.lt_ne (hab y hy) e.symm
   have ew:wo (x::r) x.name=r:=by unfold wo;rw[List.filter_cons_of_neg (by simp)];exact hr
   refine⟨?_,?_,?_,by omega⟩
   ·rw[e1,e2,ew];rfl
   ·rw[ew,e1];exact idx_above hab
   ·rw[e1,e2];unfold fnd;simp
  ·obtain⟨e1,e2⟩:=fin_cons_gt (r:=r) hk
   have hab:=above h (.inr hk)
   have hne:∀y∈x::r,¬y.name=k:=fun y hy e=>by
    rcases List.mem_cons.1 hy with rfl|hy
    ·exact Dct.lt_ne hk e.symm
    ·exact Dct.lt_ne (hab y hy) e.symm
   rw[wo_above hne,fnd_above hne,e1,e2]
   exact⟨rfl,rfl,by simp,Nat.le_succ 0⟩
theorem wo_mem{l:List Ob}{k:ByteArray}{x:Ob}:x∈wo l k↔x∈l∧¬x.name=k:=by
 unfold wo;rw[List.mem_filter];simp
structure Right(l:List Ob):Prop where
 len:l.length≤8
 ok:∀x∈l,One x=true
 up:Up l
instance (l:List Ob):Decidable (Right l):=decidable_of_iff (l.length≤8∧(∀x∈l,One x=true)∧l.Pairwise (fun(a b:Ob)=>Dct.lt a.name b.name=true)) ⟨fun h=>⟨h.1,h.2.1,h.2.2⟩,fun h=>⟨h.len,h.ok,h.up⟩⟩
def Good(l:List Ob)(i:Nat):Prop:=∀x,l[i]?=some x→One x=true∧∀j y,i=j+1→l[j]?=some y→Dct.lt y.name x.name=true
theorem right_iff(l:List Ob):Right l↔l.length≤8∧∀i,i<l.length→Good l i:=by
 constructor
 ·intro h
  refine⟨h.len,fun i hi x hx=>⟨h.ok x (List.mem_of_getElem? hx),fun j y hj hy=>?_⟩⟩
  subst hj
  obtain⟨h1,e1⟩:=List.getElem?_eq_some_iff.1 hx
  obtain⟨h2,e2⟩:=List.getElem?_eq_some_iff.1 hy
  have:=(List.pairwise_iff_getElem.1 h.up) j (j+1) h2 h1 (by omega)
  rw[e1,e2] at this
  exact this
 ·intro h
  refine⟨h.1,fun x hx=>?_,up_of fun i x y hx hy=>?_⟩
  ·obtain⟨i,hi,e⟩:=List.getElem_of_mem hx
   exact(h.2 i hi x (by rw[List.getElem?_eq_getElem hi,e])).1
  ·exact(h.2 (i+1) (List.getElem?_eq_some_iff.1 hy).1 y hy).2 i x rfl hx
theorem right_nil:Right []:=⟨by simp,fun x hx=>by simp at hx,List.Pairwise.nil⟩
theorem right_told{l:List Ob}{n:Nat}(hl:l.length=n)(hn:n≤8):(∀i,i<n→¬Good l i→decide (Right l)=false)∧((∀i,i<n→Good l i)→decide (Right l)=true):=by
 subst hl
 refine⟨fun i hi h=>decide_eq_false fun hr=>h (((right_iff l).1 hr).2 i hi),fun h=>decide_eq_true ((right_iff l).2 ⟨hn,h⟩)⟩
def put(l:List Ob)(k:ByteArray)(o:Ob):List Ob:=l.take (idx l k)++[o]++l.drop (fin l k)
def num(n:Int):Val.V:=⟨1,n,0,⟨#[]⟩⟩
def fits(k z:Int):Bool:=if k=5∨k=17 then true else if k=6∨k=7∨k=8∨k=9 then decide (z=1) else if k=10∨k=11 then decide (z=2) else if k=12∨k=13 then decide (z=3) else if k=14 then decide (z=4) else if k=15∨k=16 then decide (z=5) else false
def size(o:Ob):Int:=if o.kind=1 then (o.prs.length:Int) else if o.kind=2 then (o.vals.length:Int) else if o.kind=5 then o.mt.n else (o.refs.length:Int)
def held(y:Rf)(h:Bool):List Ot:=if h=true then [⟨y,rz⟩] else []
def take(o:Ob)(r:Rf):Oc:=⟨{ o with refs:=Lck.tkL o.refs r },err (Lck.tkE o.refs r),decide (Lck.tkE o.refs r=0)&&!Lck.tkH o.refs r,[]⟩
def free(o:Ob)(r:Rf):Oc:=⟨{ o with refs:=Lck.frL o.refs r },err (Lck.frE o.refs r),false,held (Lck.frN o.refs r) (Lck.frS o.refs r)⟩
def thru(l:List Rf)(p:Rp):List Ot:=l.map fun x=>⟨x,p⟩
def wait(o:Ob)(r:Rf):Oc:=
 if (Gt.wtA o.cap o.refs r).length=0 then ⟨{ o with refs:=Gt.wtL o.cap o.refs r },err (Gt.wtE o.cap o.refs r),decide (Gt.wtE o.cap o.refs r=0),[]⟩
 else if o.round=9223372036854775807 then ⟨o,err 6,false,[]⟩
 else ⟨{ o with refs:=Gt.wtL o.cap o.refs r,round:=o.round+1 },⟨0,num o.round⟩,false,thru ((Gt.wtA o.cap o.refs r).take ((Gt.wtA o.cap o.refs r).length-1)) ⟨0,num o.round⟩⟩
def act(o:Ob)(r:Rf)(c:Cmd.C):Oc:=
 if c.k=12 then take o r else if c.k=13 then free o r else if c.k=14 then wait o r
 else if c.k=6 then ⟨o,⟨Dct.gtE o.prs c.key,Dct.gtV o.prs c.key⟩,false,[]⟩
 else if c.k=7 then ⟨{ o with prs:=Dct.ptL o.prs c.key c.val },err (Dct.ptE o.prs c.key c.val),false,[]⟩
 else if c.k=8 then ⟨{ o with prs:=Dct.ctL o.prs c.key },⟨Dct.gtE o.prs c.key,Dct.gtV o.prs c.key⟩,false,[]⟩
 else if c.k=9 then ⟨{ o with prs:=Dct.swL o.prs c.key c.old c.val },⟨Dct.swE o.prs c.key c.old c.val,Dct.swV o.prs c.key c.old⟩,false,[]⟩
 else if c.k=10 then ⟨{ o with vals:=Que.psL o.cap o.vals c.val },err (Que.psE o.cap o.vals c.val),false,[]⟩
 else if c.k=11 then ⟨{ o with vals:=Que.ppL o.cap o.vals },⟨Que.ppE o.cap o.vals,Que.ppV o.cap o.vals⟩,false,[]⟩
 else if c.k=15 then ⟨{ o with mt:=Mt.ad o.mt c.val.f },err (Mt.adE o.mt),false,[]⟩
 else if c.k=16 then ⟨o,⟨(Mt.rd o.mt c.n).e,⟨(Mt.rd o.mt c.n).k,(Mt.rd o.mt c.n).n,(Mt.rd o.mt c.n).f,⟨#[]⟩⟩⟩,false,[]⟩
 else if c.k=17 then ⟨o,⟨0,num (size o)⟩,false,[]⟩
 else ⟨o,rz,false,[]⟩
def chkN(l:List Ob)(k:ByteArray):Int:=if (fnd l k).isSome=true then 8 else if l.length=8 then 6 else 0
def chkO(x:Option Ob)(k:Int):Int:=match x with
 | none=>5
 | some o=>if fits k o.kind=false then 7 else if k=5∧0<o.refs.length then 13 else 0
def chk(l:List Ob)(r:Rf)(c:Cmd.C):Int:=
 if ¬(Right l∧Lck.ok r∧4≤c.k∧c.k≤17) then 1 else if Cmd.chk c≠0 then Cmd.chk c
 else if c.k=4 then chkN l c.name else chkO (fnd l c.name) c.k
def fresh(c:Cmd.C):Ob:=⟨c.name,c.n,c.m,[],[],[],0,Mt.zero⟩
def doo(l:List Ob)(r:Rf)(c:Cmd.C):Rs:=
 if chk l r c≠0 then ⟨l,err (chk l r c),false,[]⟩
 else if c.k=4 then ⟨put l c.name (fresh c),rz,false,[]⟩
 else if c.k=5 then ⟨wo l c.name,rz,false,[]⟩
 else match fnd l c.name with
  | none=>⟨l,rz,false,[]⟩
  | some o=>⟨put l c.name (act o r c).o,(act o r c).p,(act o r c).later,(act o r c).outs⟩
def dr(o:Ob)(r:Rf):Ob:=if o.kind=3 then { o with refs:=Lck.drL o.refs r } else if o.kind=4 then { o with refs:=Gt.drL o.cap o.refs r } else o
def drO(o:Ob)(r:Rf):List Ot:=if o.kind=3 then held (Lck.drN o.refs r) (Lck.drS o.refs r) else []
def dropL(l:List Ob)(r:Rf):List Ob:=if Right l then l.map fun o=>dr o r else l
def dropO(l:List Ob)(r:Rf):List Ot:=if Right l then l.flatMap fun o=>drO o r else []
end Sto
end
section
namespace Sto
theorem chk_arg{l:List Ob}{r:Rf}{c:Cmd.C}(h:¬(Right l∧Lck.ok r∧4≤c.k∧c.k≤17)):chk l r c=1:=if_pos h
theorem chk_cmd{l:List Ob}{r:Rf}{c:Cmd.C}(h:Right l∧Lck.ok r∧4≤c.k∧c.k≤17)(h2:Cmd.chk c≠0):chk l r c=Cmd.chk c:=by unfold chk;rw[if_neg (fun g=>g h),if_pos h2]
theorem chk_new{l:List Ob}{r:Rf}{c:Cmd.C}(h:Right l∧Lck.ok r∧4≤c.k∧c.k≤17)(h2:Cmd.chk c=0)(h3:c.k=4):chk l r c=chkN l c.name:=by unfold chk;rw[if_neg (fun g=>g h),if_neg (fun g=>g h2),if_pos h3]
theorem chk_own{l:List Ob}{r:Rf}{c:Cmd.C}(h:Right l∧Lck.ok r∧4≤c.k∧c.k≤17)(h2:Cmd.chk c=0)(h3:¬c.k=4):chk l r c=chkO (fnd l c.name) c.k:=by unfold chk;rw[if_neg (fun g=>g h),if_neg (fun g=>g h2),if_neg h3]
theorem chk_ok{l:List Ob}{r:Rf}{c:Cmd.C}(h:chk l r c=0):(Right l∧Lck.ok r∧4≤c.k∧c.k≤17)∧Cmd.chk c=0∧(c.k=4→(fnd l c.name).isSome=false∧¬l.length=8)∧(¬c.k=4→∃o,fnd l c.name=some o∧fits c.k o.kind=true∧¬(c.k=5∧0<o.refs.length)):=by
 by_cases g:Right l∧Lck.ok r∧4≤c.k∧c.k≤17
 case neg=>rw[chk_arg g] at h;cases h
 by_cases g2:Cmd.chk c=0
 case neg=>rw[chk_cmd g g2] at h;exact absurd h g2
 refine⟨g,g2,fun g3=>?_,fun g3=>?_⟩
 ·rw[chk_new g g2 g3] at h
  unfold chkN at h
  split at h
  ·cases h
  ·split at h
   ·cases h
   ·rename_i a b;exact⟨Bool.eq_false_iff.2 a,b⟩
 ·rw[chk_own g g2 g3] at h
  cases hf:fnd l c.name with
  | none=>rw[hf] at h;cases h
  | some o=>
   rw[hf] at h
   unfold chkO at h
   simp only at h
   split at h
   ·cases h
   ·split at h
    ·cases h
    ·rename_i a b;exact⟨o,rfl,by cases hx:fits c.k o.kind<;>simp_all,b⟩
end Sto
end
section
namespace Sto
theorem one_parts{o:Ob}(h:One o=true):named o.name∧clean o=true∧sound o=true:=by
 unfold One at h
 simp only[Bool.and_eq_true,decide_eq_true_eq] at h
 exact⟨h.1.1,h.1.2,h.2⟩
end Sto
end
section
namespace Sto
def vn:Val.V:=⟨0,0,0,⟨#[]⟩⟩
theorem gt_no{l:List Dct.Pr}{k:ByteArray}(h:Dct.gtE l k≠0):Dct.gtV l k=vn∧Dct.ctL l k=l:=by
 refine⟨?_,if_neg h⟩
 unfold Dct.gtE at h
 unfold Dct.gtV
 split
 ·rename_i hr
  rw[if_pos hr] at h
  cases hf:Dct.fnd l k with
  | none=>rfl
  | some v=>rw[hf] at h;exact absurd rfl h
 ·rfl
end Sto
end
section
namespace Sto
def nm:ByteArray:=⟨#[108]⟩
def lk(r:List Rf):Ob:=⟨nm,3,0,[],[],r,0,Mt.zero⟩
end Sto
end
section
namespace Sto
theorem chk_num(n:Int):Val.chk (num n)=0:=Val.chk_int n
end Sto
end
section
namespace Mt
structure Inv(l:List Nat)(x:Mtr):Prop where
 n:x.n=(l.length:Int)
 ok:Ok x
 fit:Fit x
 le:∀b∈l,Num.rank x.l≤Num.rank b∧Num.rank b≤Num.rank x.m
 hit:l≠[]→(∃b∈l,Num.M b=x.l)∧(∃b∈l,Num.M b=x.m)
theorem Inv.sum{l:List Nat}{x:Mtr}(h:Inv l x)(hn:l.length<9223372036854775807)(b:Nat):(ad x b).s=if l.length=0 then Num.M b else Num.S x.s b:=by
 have hmx:x.n≠9223372036854775807:=by rw[h.n];omega
 by_cases h0:l.length=0
 ·rw[if_pos h0,ad_one h.ok (by rw[h.n,h0];rfl)]
 ·have hz:x.n≠0:=by rw[h.n];omega
  rw[if_neg h0,ad_more h.ok hmx hz]
  have hs:Num.M x.s=x.s:=by
   rcases h.ok with ⟨h1,_⟩|h1
   ·exact absurd h1 hz
   ·exact h1.2.1
  show Num.S x.s (Num.M b)=Num.S x.s b
  have e:=Num.S_M x.s (Num.M b)
  rw[Num.M_M,Num.S_M] at e
  exact e.symm
/- Two floats in either order. -/
theorem least_comm{a b:Nat}(ha:a<18446744073709551616)(hb:b<18446744073709551616):least a b=least b a:=by
 unfold least
 rcases Nat.lt_trichotomy (Num.rank a) (Num.rank b) with h|h|h
 ·rw[if_neg (by omega),if_pos h]
 ·rw[if_neg (by omega),if_neg (by omega)];exact Num.rank_inj ha hb h
 ·rw[if_pos h,if_neg (by omega)]
theorem most_comm{a b:Nat}(ha:a<18446744073709551616)(hb:b<18446744073709551616):most a b=most b a:=by
 unfold most
 rcases Nat.lt_trichotomy (Num.rank a) (Num.rank b) with h|h|h
 ·rw[if_pos h,if_neg (by omega)]
 ·rw[if_neg (by omega),if_neg (by omega)];exact Num.rank_inj ha hb h
 ·rw[if_neg (by omega),if_pos h]
theorem ok_one(a:Nat):Ok ⟨1,Num.M a,Num.M a,Num.M a⟩:=.inr ⟨(by decide:(0:Int)<1),Num.M_M a,Num.M_M a,Num.M_M a,Nat.le_refl _⟩
theorem two(a b:Nat):ad (ad zero a) b=⟨2,Num.S (Num.M a) (Num.M b),least (Num.M a) (Num.M b),most (Num.M a) (Num.M b)⟩:=by
 rw[ad_one ok_zero rfl,ad_more (ok_one a) (by show(1:Int)≠_;decide) (by show(1:Int)≠_;decide)]
 rfl
theorem turned{a b:Nat}(ha:a<18446744073709551616)(hb:b<18446744073709551616):ad (ad zero a) b=ad (ad zero b) a:=by
 rw[two,two,Num.S_comm,least_comm (Num.M_lt ha) (Num.M_lt hb),most_comm (Num.M_lt ha) (Num.M_lt hb)]
end Mt
end
section
namespace Dct
end Dct
namespace Mt
end Mt
namespace Sto
section
variable {o:Ob}
theorem clean_to(h:clean o=true):is o.kind=true∧(f0 o=false∨h0 o.kind=true)∧(f1 o=false∨h1 o.kind=true)∧(f2 o=false∨h2 o.kind=true)∧(f3 o=false∨h3 o.kind=true)∧(f4 o=false∨h4 o.kind=true)∧(f5 o=false∨h5 o.kind=true):=by
 unfold clean at h
 simp only[Bool.and_eq_true,Bool.or_eq_true,Bool.not_eq_true'] at h
 obtain⟨a,⟨⟨⟨⟨⟨b,c⟩,d⟩,e⟩,f⟩,g⟩⟩:=h
 exact⟨a,b,c,d,e,f,g⟩
theorem sound_1(h:o.kind=1):sound o=decide (Dct.Right o.prs):=by unfold sound;rw[if_pos h]
theorem sound_2(h:o.kind=2):sound o=decide (Que.Right o.cap o.vals):=by unfold sound;rw[if_neg (by omega),if_pos h]
theorem sound_3(h:o.kind=3):sound o=decide (Lck.Right o.refs):=by unfold sound;rw[if_neg (by omega),if_neg (by omega),if_pos h]
theorem sound_4(h:o.kind=4):sound o=(decide (Gt.Right o.cap o.refs)&&decide (0≤o.round)):=by unfold sound;rw[if_neg (by omega),if_neg (by omega),if_neg (by omega),if_pos h]
end
end Sto
end
section
namespace Ses
structure S where
 live:Bool
 ep:Int
 rq:Int
 dn:Bool
 p:Sto.Rp
 deriving DecidableEq
def z:S:=⟨false,0,0,false,Sto.rz⟩
structure T where
 s0:S
 s1:S
 s2:S
 s3:S
 s4:S
 deriving DecidableEq
def T.get(t:T)(c:Int):S:=if c=0 then t.s0 else if c=1 then t.s1 else if c=2 then t.s2 else if c=3 then t.s3 else if c=4 then t.s4 else z
def T.set(t:T)(c:Int)(s:S):T:=if c=0 then { t with s0:=s } else if c=1 then { t with s1:=s } else if c=2 then { t with s2:=s } else if c=3 then { t with s3:=s } else if c=4 then { t with s4:=s } else t
def one(s:S):Bool:=if s.ep=0 then decide (s=z) else (s.dn || (decide (s.p=Sto.rz)&&decide (1≤s.rq)&&s.live))&&decide (0<s.ep)&&decide (0≤s.rq)&&Sto.rep s.p
def b2i(b:Bool):Int:=if b=true then 1 else 0
def live(t:T)(q:Int):Int:=b2i (t.s0.live&&!decide (0=q))+b2i (t.s1.live&&!decide (1=q))+b2i (t.s2.live&&!decide (2=q))+b2i (t.s3.live&&!decide (3=q))+b2i (t.s4.live&&!decide (4=q))
def Right(t:T):Prop:=(one t.s0=true∧one t.s1=true∧one t.s2=true∧one t.s3=true∧one t.s4=true)∧live t (-1)≤4
instance (t:T):Decidable (Right t):=by unfold Right;infer_instance
def lookS(s:S)(r:Rf):Int:=
 if r.r=0∧s.ep<r.e then 1 else if r.e≠s.ep∨r.r<s.rq then 5 else if r.r=s.rq then (if s.dn=true then 2 else 3) else if s.live=false then 4 else if r.r-1=s.rq∧s.dn=true then 1 else 5
def look(t:T)(r:Rf):Int:=if Lck.ok r∧Right t then lookS (t.get r.c) r else 5
def openS(t:T)(r:Rf):S:=if live t r.c<4 then ⟨true,r.e,0,true,Sto.rz⟩ else ⟨false,r.e,0,true,Sto.err 6⟩
def openT(t:T)(r:Rf):T:=if look t r=1∧r.r=0 then t.set r.c (openS t r) else t
def openP(t:T)(r:Rf):Sto.Rp:=if look t r=1∧r.r=0 then (openS t r).p else Sto.err 1
def begT(t:T)(r:Rf):T:=if look t r=1∧¬r.r=0 then t.set r.c { t.get r.c with rq:=r.r,dn:=false,p:=Sto.rz } else t
def endT(t:T)(r:Rf)(x:Sto.Rp):T:=if look t r=3∧Sto.rep x=true then t.set r.c { t.get r.c with dn:=true,p:=x } else t
def closeS(s:S):S:=if s.dn=true then { s with live:=false } else { s with live:=false,dn:=true,p:=Sto.err 14 }
def closeT(t:T)(c:Int):T:=if 0≤c∧c<5∧Right t∧(t.get c).live=true then t.set c (closeS (t.get c)) else t
theorem cases5{c:Int}(h:0≤c∧c<5):c=0∨c=1∨c=2∨c=3∨c=4:=by omega
theorem ok_c{r:Rf}(h:Lck.ok r):0≤r.c∧r.c<5:=⟨h.1,h.2.1⟩
theorem get_set{t:T}{c:Int}(h:0≤c∧c<5)(s:S):(t.set c s).get c=s:=by
 rcases cases5 h with rfl|rfl|rfl|rfl|rfl<;>rfl
theorem get_ne{t:T}{c d:Int}(hc:0≤c∧c<5)(hd:0≤d∧d<5)(hn:¬d=c)(s:S):(t.set c s).get d=t.get d:=by
 rcases cases5 hc with rfl|rfl|rfl|rfl|rfl<;>rcases cases5 hd with rfl|rfl|rfl|rfl|rfl<;>first|exact absurd rfl hn|rfl
theorem b2i_is(b:Bool):(b=true∧b2i b=1)∨(b=false∧b2i b=0):=by cases b<;>simp[b2i]
theorem live_set{t:T}{c:Int}(h:0≤c∧c<5)(s:S):live (t.set c s) (-1)=live t c+b2i s.live:=by
 rcases cases5 h with rfl|rfl|rfl|rfl|rfl<;>simp[live,T.set,b2i]<;>omega
theorem live_at{t:T}{c:Int}(h:0≤c∧c<5):live t (-1)=live t c+b2i (t.get c).live:=by
 rcases cases5 h with rfl|rfl|rfl|rfl|rfl<;>simp[live,T.get,b2i]<;>omega
theorem right_one{t:T}(h:Right t){c:Int}(hc:0≤c∧c<5):one (t.get c)=true:=by
 obtain⟨⟨h0,h1,h2,h3,h4⟩,_⟩:=h
 rcases cases5 hc with rfl|rfl|rfl|rfl|rfl
 ·exact h0
 ·exact h1
 ·exact h2
 ·exact h3
 ·exact h4
theorem right_set{t:T}(h:Right t){c:Int}(hc:0≤c∧c<5){s:S}(hs:one s=true)(hl:live t c+b2i s.live≤4):Right (t.set c s):=by
 obtain⟨⟨h0,h1,h2,h3,h4⟩,_⟩:=h
 refine⟨?_,by rw[live_set hc];exact hl⟩
 rcases cases5 hc with rfl|rfl|rfl|rfl|rfl
 ·exact⟨hs,h1,h2,h3,h4⟩
 ·exact⟨h0,hs,h2,h3,h4⟩
 ·exact⟨h0,h1,hs,h3,h4⟩
 ·exact⟨h0,h1,h2,hs,h4⟩
 ·exact⟨h0,h1,h2,h3,hs⟩
def snd(s:S):Bool:=decide (0<s.ep)&&decide (0≤s.rq)&&Sto.rep s.p&&(s.dn || (s.live&&decide (0<s.rq)&&decide (s.p=Sto.rz)))
theorem one_snd(s:S):one s=(decide (s=z) || snd s):=by
 unfold one
 by_cases h:s.ep=0
 ·rw[if_pos h]
  unfold snd
  rw[decide_eq_false (p:=0<s.ep) (by omega)]
  simp
 ·rw[if_neg h,decide_eq_false (p:=s=z) (fun e=>h (by rw[e];rfl))]
  unfold snd
  rw[Bool.eq_iff_iff]
  simp only[Bool.and_eq_true,Bool.or_eq_true,decide_eq_true_eq,Bool.false_or]
  constructor
  ·rintro ⟨⟨⟨h1,h2⟩,h3⟩,h4⟩
   exact⟨⟨⟨h2,h3⟩,h4⟩,h1.imp id fun⟨⟨a,b⟩,c⟩=>⟨⟨c,by omega⟩,a⟩⟩
  ·rintro ⟨⟨⟨h2,h3⟩,h4⟩,h1⟩
   exact⟨⟨⟨h1.imp id fun⟨⟨c,b⟩,a⟩=>⟨⟨a,by omega⟩,c⟩,h2⟩,h3⟩,h4⟩
def cnt(t:T)(q:Int):Nat→Int
 | 0=>0
 | k+1=>cnt t q k+b2i ((t.get k).live&&!decide ((k:Int)=q))
theorem cnt5(t:T)(q:Int):cnt t q 5=live t q:=by
 unfold live
 simp[cnt,T.get]
theorem cnt_le(t:T)(q:Int):∀k:Nat,0≤cnt t q k∧cnt t q k≤k
 | 0=>⟨Int.le_refl 0,Int.le_refl 0⟩
 | k+1=>by
  have h:=cnt_le t q k
  rcases b2i_is ((t.get k).live&&!decide ((k:Int)=q)) with ⟨_,g⟩|⟨_,g⟩<;>(show 0≤cnt t q k+_∧cnt t q k+_≤_;rw[g];omega)
theorem right_all(t:T):(∀c:Int,0≤c∧c<5→one (t.get c)=true)→decide (Right t)=decide (live t (-1)≤4):=fun h=>by
 have e:Right t↔live t (-1)≤4:=⟨fun g=>g.2,fun g=>⟨⟨h 0 (by decide),h 1 (by decide),h 2 (by decide),h 3 (by decide),h 4 (by decide)⟩,g⟩⟩
 rw[Bool.eq_iff_iff,decide_eq_true_eq,decide_eq_true_eq]
 exact e
theorem right_no{t:T}{c:Int}(hc:0≤c∧c<5)(h:one (t.get c)=false):decide (Right t)=false:=
 decide_eq_false fun g=>by rw[right_one g hc] at h;cases h
def Fit(t:T):Prop:=∀c:Int,0≤c∧c<5→(t.get c).p.v.f<18446744073709551616
theorem look_in{t:T}{r:Rf}{k:Int}(h:look t r=k)(hk:¬k=5):Lck.ok r∧Right t∧lookS (t.get r.c) r=k:=by
 unfold look at h
 split at h
 next g=>exact⟨g.1,g.2,h⟩
 next=>exact absurd h.symm hk
theorem look_bad{t:T}{r:Rf}(h:¬(Lck.ok r∧Right t)):look t r=5:=if_neg h
theorem waits_is{s:S}{r:Rf}(h:lookS s r=3):r.e=s.ep∧r.r=s.rq∧s.dn=false:=by
 unfold lookS at h
 by_cases h1:r.r=0∧s.ep<r.e
 ·rw[if_pos h1] at h;cases h
 rw[if_neg h1] at h
 by_cases h2:r.e≠s.ep∨r.r<s.rq
 ·rw[if_pos h2] at h;cases h
 rw[if_neg h2] at h
 by_cases h3:r.r=s.rq
 ·rw[if_pos h3] at h
  by_cases h6:s.dn=true
  ·rw[if_pos h6] at h;cases h
  ·exact⟨by omega,h3,by simpa using h6⟩
 rw[if_neg h3] at h
 by_cases h4:s.live=false
 ·rw[if_pos h4] at h;cases h
 rw[if_neg h4] at h
 by_cases h5:r.r-1=s.rq∧s.dn=true
 ·rw[if_pos h5] at h;cases h
 ·rw[if_neg h5] at h;cases h
theorem one_pos{s:S}(h:one s=true)(he:¬s.ep=0):(s.dn=true∨(s.p=Sto.rz∧1≤s.rq∧s.live=true))∧0<s.ep∧0≤s.rq∧Sto.rep s.p=true:=by
 unfold one at h
 rw[if_neg he] at h
 simp only[Bool.and_eq_true,Bool.or_eq_true,decide_eq_true_eq] at h
 exact⟨h.1.1.1.imp id fun g=>⟨g.1.1,g.1.2,g.2⟩,h.1.1.2,h.1.2,h.2⟩
theorem one_of{s:S}(h0:0<s.ep)(h1:s.dn=true∨(s.p=Sto.rz∧1≤s.rq∧s.live=true))(h2:0≤s.rq)(h3:Sto.rep s.p=true):one s=true:=by
 unfold one
 rw[if_neg (by omega)]
 simp only[Bool.and_eq_true,Bool.or_eq_true,decide_eq_true_eq]
 exact⟨⟨⟨h1.imp id fun g=>⟨⟨g.1,g.2.1⟩,g.2.2⟩,h0⟩,h2⟩,h3⟩
theorem one_zero{s:S}(h:one s=true)(he:s.ep=0):s=z:=by
 unfold one at h
 rw[if_pos he] at h
 exact of_decide_eq_true h
theorem end_right{t:T}(h:Right t)(r:Rf)(x:Sto.Rp):Right (endT t r x):=by
 unfold endT
 split
 next g=>
  obtain⟨hk,_,hl⟩:=look_in g.1 (by decide)
  have hc:=ok_c hk
  obtain⟨h1,h2,h3⟩:=waits_is hl
  have he:1≤r.e:=hk.2.2.1
  have hr:0≤r.r:=hk.2.2.2
  have hla:=live_at (t:=t) hc
  have h5:=h.2
  refine right_set h hc (one_of (by show 0<(t.get r.c).ep;omega) (.inl rfl) (by show 0≤(t.get r.c).rq;omega) g.2) ?_
  show live t r.c+b2i (t.get r.c).live≤4
  omega
 next=>exact h
end Ses
end
section
namespace Ses
def t0:T:=⟨z,z,z,z,z⟩
def t1:T:=⟨⟨true,1,0,true,Sto.rz⟩,z,z,z,z⟩
def t2:T:=⟨⟨true,1,1,false,Sto.rz⟩,z,z,z,z⟩
end Ses
end
section
namespace Ap
open Ses
def Hd(t:T)(r:Rf):Prop:=(t.get r.c).live=true∧(t.get r.c).ep=r.e∧r.r≤(t.get r.c).rq∧1≤r.r
instance (t:T) (r:Rf):Decidable (Hd t r):=by unfold Hd;infer_instance
def opn(s:S):Bool:=decide (0<s.ep)&&!s.dn
def cnt(l:List Rf)(c:Int):Nat:=l.countP fun x=>decide (x.c=c)
theorem cnt_append(l m:List Rf)(c:Int):cnt (l++m) c=cnt l c+cnt m c:=List.countP_append ..
theorem cnt_cons(r:Rf)(l:List Rf)(c:Int):cnt (r::l) c=cnt l c+if r.c=c then 1 else 0:=by
 unfold cnt
 rw[List.countP_cons]
 simp
theorem cnt_zero{l:List Rf}{c:Int}(h:cnt l c=0){r:Rf}(hr:r∈l):¬r.c=c:=fun e=>by
 have:=List.countP_eq_zero.1 h r hr
 simp[e] at this
theorem cnt_no{l:List Rf}{c:Int}(h:∀r∈l,¬r.c=c):cnt l c=0:=List.countP_eq_zero.2 fun r hr=>by simp[h r hr]
theorem look_other{t:T}{c:Int}{s:S}{r:Rf}(hc:0≤c∧c<5)(h1:Right t)(h2:Right (t.set c s))(hn:¬r.c=c):Ses.look (t.set c s) r=Ses.look t r:=by
 by_cases hk:Lck.ok r
 ·unfold Ses.look
  rw[if_pos ⟨hk,h2⟩,if_pos ⟨hk,h1⟩,get_ne hc (ok_c hk) hn]
 ·rw[look_bad fun g=>hk g.1,look_bad fun g=>hk g.1]
theorem hd_other{t:T}{c:Int}{s:S}{r:Rf}(hc:0≤c∧c<5)(hr:0≤r.c∧r.c<5)(hn:¬r.c=c):Hd (t.set c s) r↔Hd t r:=by
 unfold Hd
 rw[get_ne hc hr hn]
theorem waits_hd{t:T}{r:Rf}(h:Ses.look t r=3):(0≤r.c∧r.c<5)∧Hd t r∧(t.get r.c).dn=false∧r.r=(t.get r.c).rq∧opn (t.get r.c)=true:=by
 obtain⟨hk,hR,hl⟩:=look_in h (by decide)
 obtain⟨h1,h2,h3⟩:=waits_is hl
 have he:1≤r.e:=hk.2.2.1
 rcases(one_pos (right_one hR (ok_c hk)) (by omega)).1 with g|⟨_,g2,g⟩
 ·rw[h3] at g;cases g
 ·refine⟨ok_c hk,⟨g,h1.symm,by omega,by omega⟩,h3,h2,?_⟩
  unfold opn
  rw[h3,decide_eq_true (by omega)]
  rfl
structure J(t:T)(W P H:List Rf):Prop where
 ok:Right t
 w:∀r∈W++P,Ses.look t r=3
 p:∀c:Int,0≤c∧c<5→cnt (W++P) c=if opn (t.get c)=true then 1 else 0
 h:∀r∈H,(0≤r.c∧r.c<5)∧Hd t r∧(r.r=(t.get r.c).rq→(t.get r.c).dn=false→r∈P)
section
variable {t:T}{W P H W' P' H':List Rf}{r:Rf}{c:Int}
theorem J.range(j:J t W P H)(hr:r∈W++P):0≤r.c∧r.c<5:=(waits_hd (j.w r hr)).1
theorem J.none(j:J t W P H)(hc:0≤c∧c<5)(h:opn (t.get c)=false)(hr:r∈W++P):¬r.c=c:=
 cnt_zero (by rw[j.p c hc,h];rfl) hr
theorem J.end_(j:J t W (r::P) H){x:Sto.Rp}(hx:Sto.rep x=true):J (endT t r x) W P H:=by
 have hl:Ses.look t r=3:=j.w r (List.mem_append.2 (.inr (List.mem_cons_self ..)))
 obtain⟨hc,hd,g3,g4,ho⟩:=waits_hd hl
 have hR2:=end_right j.ok r x
 have e:endT t r x=t.set r.c { t.get r.c with dn:=true,p:=x }:=if_pos ⟨hl,hx⟩
 rw[e] at hR2 ⊢
 have h1:cnt (W++P) r.c=0:=by
  have:=j.p r.c hc
  rw[ho,cnt_append,cnt_cons,if_pos rfl,if_pos rfl] at this
  rw[cnt_append]
  omega
 refine⟨hR2,fun q hq=>?_,fun c hc2=>?_,fun q hq=>?_⟩
 ·rw[look_other hc j.ok hR2 (cnt_zero h1 hq)]
  refine j.w q ?_
  rcases List.mem_append.1 hq with hq|hq
  ·exact List.mem_append.2 (.inl hq)
  ·exact List.mem_append.2 (.inr (List.mem_cons_of_mem _ hq))
 ·by_cases e2:c=r.c
  ·subst e2
   rw[h1,get_set hc]
   unfold opn
   simp
  ·rw[get_ne hc hc2 e2,← j.p c hc2,cnt_append,cnt_append,cnt_cons,if_neg (fun g=>e2 g.symm)]
   rfl
 ·obtain⟨a,b,d⟩:=j.h q hq
  by_cases e2:q.c=r.c
  ·obtain⟨b1,b2,b3,b4⟩:=b
   rw[e2] at b1 b2 b3
   refine⟨a,⟨?_,?_,?_,b4⟩,fun f1 f2=>?_⟩
   ·rw[e2,get_set hc];exact b1
   ·rw[e2,get_set hc];exact b2
   ·rw[e2,get_set hc];exact b3
   ·rw[e2,get_set hc] at f2
    cases f2
  ·refine⟨a,(hd_other hc a e2).2 b,fun f1 f2=>?_⟩
   rw[get_ne hc a e2] at f1 f2
   rcases List.mem_cons.1 (d f1 f2) with g|g
   ·exact absurd (congrArg Rf.c g) e2
   ·exact g
def ends(t:T):List (Rf×Sto.Rp)→T
 | []=>t
 | y::m=>ends (endT t y.1 y.2) m
theorem J.ends:∀{Y:List (Rf×Sto.Rp)} {t:T},J t W (Y.map (·.1)++P) H→(∀y∈Y,Sto.rep y.2=true)→J (Ap.ends t Y) W P H
 | [],t,j,_=>j
 | y::m,t,j,hy=>J.ends (Y:=m) (t:=endT t y.1 y.2) (J.end_ j (hy y (List.mem_cons_self ..))) fun z hz=>hy z (List.mem_cons_of_mem _ hz)
theorem J.mine(j:J t W P H)(hr:r∈W++P∨r∈H):r.e=(t.get r.c).ep:=by
 rcases hr with hr|hr
 ·exact(waits_hd (j.w r hr)).2.1.2.1.symm
 ·exact(j.h r hr).2.1.2.1.symm
end
end Ap
end
section
namespace Ap
open Sto
def wts(o:Ob):List Rf:=if o.kind=3 then o.refs.drop 1 else o.refs
def hld(o:Ob):List Rf:=if o.kind=3 then o.refs.take 1 else []
def W(l:List Ob):List Rf:=l.flatMap wts
def H(l:List Ob):List Rf:=l.flatMap hld
theorem clean_refs{o:Ob}(h:One o=true)(h3:¬o.kind=3)(h4:¬o.kind=4):o.refs=[]:=by
 obtain⟨_,b,_⟩:=one_parts h
 obtain⟨_,_,_,_,b4,_,_⟩:=clean_to b
 rcases b4 with g|g
 ·unfold f3 at g
  have:=of_decide_eq_false g
  exact List.length_eq_zero_iff.1 (by omega)
 ·unfold Sto.h3 at g
  have:=of_decide_eq_true g
  omega
theorem refs_right{o:Ob}(h:One o=true):Lck.Right o.refs:=by
 obtain⟨_,_,c⟩:=one_parts h
 by_cases h3:o.kind=3
 ·rw[sound_3 h3] at c;exact of_decide_eq_true c
 by_cases h4:o.kind=4
 ·rw[sound_4 h4,Bool.and_eq_true] at c;exact(of_decide_eq_true c.1).2.2.2
 rw[clean_refs h h3 h4]
 exact Lck.right_nil
theorem refs_ok{l:List Rf}(h:Lck.Right l){r:Rf}(hr:r∈l):Lck.ok r:=by
 obtain⟨i,hi,e⟩:=List.getElem_of_mem hr
 exact(h i hi r (by rw[List.getElem?_eq_getElem hi,e])).1
theorem H_ok{l:List Ob}(h:Sto.Right l){r:Rf}(hr:r∈H l):Lck.ok r:=by
 obtain⟨o,ho,hr⟩:=List.mem_flatMap.1 hr
 refine refs_ok (refs_right (h.ok o ho)) ?_
 unfold hld at hr
 split at hr
 ·exact List.mem_of_mem_take hr
 ·cases hr
def nm(r:Rf)(x:Rf):Bool:=!decide (Lck.mine x r)
end Ap
end
section
namespace Ap
open Sto Ses
structure St where
 n:Int
 l:List Ob
 t:T
structure Ok(s:St):Prop where
 n:0≤s.n
 l:Sto.Right s.l
 t:Ses.Right s.t
 w:∀r∈W s.l,Ses.look s.t r=3
 h:∀r∈H s.l,Hd s.t r∧¬(r.r=(s.t.get r.c).rq∧(s.t.get r.c).dn=false)
 p:∀c∈([0,1,2,3,4]:List Int),cnt (W s.l) c=if opn (s.t.get c)=true then 1 else 0
instance (s:St):Decidable (Ok s):=decidable_of_iff (0≤s.n∧Sto.Right s.l∧Ses.Right s.t∧(∀r∈W s.l,Ses.look s.t r=3)∧(∀r∈H s.l,Hd s.t r∧¬(r.r=(s.t.get r.c).rq∧(s.t.get r.c).dn=false))∧∀c∈([0,1,2,3,4]:List Int),cnt (W s.l) c=if opn (s.t.get c)=true then 1 else 0)
 ⟨fun⟨a,b,c,d,e,f⟩=>⟨a,b,c,d,e,f⟩,fun h=>⟨h.n,h.l,h.t,h.w,h.h,h.p⟩⟩
theorem five{c:Int}:c∈([0,1,2,3,4]:List Int)↔0≤c∧c<5:=by
 simp only[List.mem_cons,List.not_mem_nil,or_false]
 omega
theorem Ok.j{s:St}(h:Ok s):J s.t (W s.l) [] (H s.l):=
 ⟨h.t,fun r hr=>h.w r (by simpa using hr),fun c hc=>by rw[List.append_nil];exact h.p c (five.2 hc),fun r hr=>⟨ok_c (H_ok h.l hr),(h.h r hr).1,fun e1 e2=>absurd ⟨e1,e2⟩ (h.h r hr).2⟩⟩
theorem J.state{s:St}(hn:0≤s.n)(hl:Sto.Right s.l)(j:J s.t (W s.l) [] (H s.l)):Ok s:=
 ⟨hn,hl,j.ok,fun r hr=>j.w r (by simpa using hr),fun r hr=>⟨(j.h r hr).2.1,fun g=>by have:=(j.h r hr).2.2 g.1 g.2;cases this⟩,fun c hc=>by have:=j.p c (five.1 hc);rwa [List.append_nil] at this⟩
def rf(t:T)(c:Int):Rf:=⟨c,(t.get c).ep,(t.get c).rq⟩
def prs(Y:List Ot):List (Rf×Rp):=Y.map fun y=>(y.r,y.p)
def leaveS(s:St)(c:Int):St:=⟨s.n,dropL s.l (rf s.t c),Ap.ends (closeT s.t c) (prs (dropO s.l (rf s.t c)))⟩
def leaveO(s:St)(c:Int):List Ot:=(if (s.t.get c).dn=true then [] else [⟨rf s.t c,err 14⟩])++dropO s.l (rf s.t c)
def left(s:St)(c:Int):St:=if (s.t.get c).live=true then leaveS s c else s
def openSt(s:St)(r:Rf):St:=⟨(left s r.c).n,(left s r.c).l,openT (left s r.c).t r⟩
def openO(s:St)(r:Rf):List Ot:=⟨r,openP (left s r.c).t r⟩::(if (s.t.get r.c).live=true then leaveO s r.c else [])
def touch(s:St)(r:Rf):St:=⟨s.n,s.l,endT (begT s.t r) r rz⟩
def kept(s:St)(r:Rf)(c:Cmd.C):St:=⟨s.n,(doo s.l r c).l,Ap.ends (endT (begT s.t r) r (doo s.l r c).p) (prs (doo s.l r c).outs)⟩
def freshS(s:St)(r:Rf)(c:Cmd.C):St:=
 if c.k=3 then touch s r else if c.k=2 then leaveS (touch s r) r.c
 else if (doo s.l r c).later=true then ⟨s.n,(doo s.l r c).l,begT s.t r⟩ else kept s r c
def freshO(s:St)(r:Rf)(c:Cmd.C):List Ot:=
 if c.k=3 then [⟨r,rz⟩] else if c.k=2 then ⟨r,rz⟩::leaveO (touch s r) r.c
 else if (doo s.l r c).later=true then [] else ⟨r,(doo s.l r c).p⟩::(doo s.l r c).outs
def ref(e:Cmd.E):Rf:=⟨e.c,e.e,e.r⟩
def up(s:St):St:=⟨s.n+1,s.l,s.t⟩
def Can(s:St)(e:Cmd.E):Prop:=Ok s∧Cmd.fits e∧¬s.n=9223372036854775807
instance (s:St) (e:Cmd.E):Decidable (Can s e):=by unfold Can;infer_instance
def goS(s:St)(e:Cmd.E):St:=
 if e.cmd.k=18 then (if (s.t.get e.c).live=true∧(s.t.get e.c).ep=e.e then leaveS s e.c else s)
 else if Ses.look s.t (ref e)=1 then (if e.r=0 then openSt s (ref e) else freshS s (ref e) e.cmd) else s
def goO(s:St)(e:Cmd.E):List Ot:=
 if e.cmd.k=18 then (if (s.t.get e.c).live=true∧(s.t.get e.c).ep=e.e then leaveO s e.c else [])
 else if Ses.look s.t (ref e)=1 then (if e.r=0 then openO s (ref e) else freshO s (ref e) e.cmd)
 else if Ses.look s.t (ref e)=2 then [⟨ref e,(s.t.get e.c).p⟩] else if Ses.look s.t (ref e)=4 then [⟨ref e,err 14⟩] else []
def apS(s:St)(e:Cmd.E):St:=if Can s e then goS (up s) e else s
def apO(s:St)(e:Cmd.E):List Ot:=if Can s e then goO (up s) e else []
end Ap
end
end Go.Proofs.YtieoeendnccafaaGreat
