/- Which states may be, as loops over objects and their requests ask it. No condition but those named. -/
import Derived.Test.YtieoeendnccafaaGreatMTK
import Derived.Test.YtieoeendnccafaaGreatMAB
set_option linter.unusedSimpArgs false
set_option linter.unusedVariables false
set_option maxRecDepth 100000
set_option maxHeartbeats 25600000
namespace Go.Proofs.YtieoeendnccafaaGreat
section
namespace Ap
open Sto Ses
def okAt(t:T)(o:Ob)(j:Nat)(r:Rf):Prop:=if j=0∧o.kind=3 then (Hd t r∧¬(r.r=(t.get r.c).rq∧(t.get r.c).dn=false)) else Ses.look t r=3
instance (t:T) (o:Ob) (j:Nat) (r:Rf):Decidable (okAt t o j r):=by unfold okAt;infer_instance
def Known(l:List Ob)(t:T):Prop:=(∀r∈W l,Ses.look t r=3)∧∀r∈H l,Hd t r∧¬(r.r=(t.get r.c).rq∧(t.get r.c).dn=false)
instance (l:List Ob) (t:T):Decidable (Known l t):=by unfold Known;infer_instance
theorem known_obj(t:T)(o:Ob):(∀(j:Nat) r,o.refs[j]?=some r→okAt t o j r)↔((∀r∈wts o,Ses.look t r=3)∧∀r∈hld o,Hd t r∧¬(r.r=(t.get r.c).rq∧(t.get r.c).dn=false)):=by
 unfold wts hld
 by_cases h3:o.kind=3
 ·rw[if_pos h3,if_pos h3]
  constructor
  ·intro h
   refine⟨fun r hr=>?_,fun r hr=>?_⟩
   ·obtain⟨j,hj⟩:=List.mem_iff_getElem?.1 hr
    rw[List.getElem?_drop] at hj
    have:=h (1+j) r hj
    unfold okAt at this
    rwa [if_neg (by omega)] at this
   ·obtain⟨j,hj⟩:=List.mem_iff_getElem?.1 hr
    rw[List.getElem?_take] at hj
    split at hj
    next g=>
     obtain rfl:j=0:=by omega
     have:=h 0 r hj
     unfold okAt at this
     rwa [if_pos ⟨rfl,h3⟩] at this
    next=>cases hj
  ·rintro ⟨h1,h2⟩ j r hr
   unfold okAt
   split
   next g=>
    obtain⟨rfl,_⟩:=g
    exact h2 r (List.mem_iff_getElem?.2 ⟨0,by rw[List.getElem?_take,if_pos (by decide)];exact hr⟩)
   next g=>
    have hj:j≠0:=fun e=>g ⟨e,h3⟩
    exact h1 r (List.mem_iff_getElem?.2 ⟨j-1,by rw[List.getElem?_drop,show 1+(j-1)=j by omega];exact hr⟩)
 ·rw[if_neg h3,if_neg h3]
  constructor
  ·intro h
   refine⟨fun r hr=>?_,fun r hr=>by cases hr⟩
   obtain⟨j,hj⟩:=List.mem_iff_getElem?.1 hr
   have:=h j r hj
   unfold okAt at this
   rwa [if_neg (fun g=>h3 g.2)] at this
  ·rintro ⟨h1,_⟩ j r hr
   unfold okAt
   rw[if_neg (fun g=>h3 g.2)]
   exact h1 r (List.mem_of_getElem? hr)
theorem known_iff(l:List Ob)(t:T):Known l t↔∀(i:Nat) o,l[i]?=some o→∀(j:Nat) r,o.refs[j]?=some r→okAt t o j r:=by
 constructor
 ·rintro ⟨h1,h2⟩ i o ho
  have hm:=List.mem_of_getElem? ho
  exact(known_obj t o).2 ⟨fun r hr=>h1 r (List.mem_flatMap.2 ⟨o,hm,hr⟩),fun r hr=>h2 r (List.mem_flatMap.2 ⟨o,hm,hr⟩)⟩
 ·intro h
  refine⟨fun r hr=>?_,fun r hr=>?_⟩
  ·obtain⟨o,ho,hr⟩:=List.mem_flatMap.1 hr
   obtain⟨i,hi⟩:=List.mem_iff_getElem?.1 ho
   exact((known_obj t o).1 (h i o hi)).1 r hr
  ·obtain⟨o,ho,hr⟩:=List.mem_flatMap.1 hr
   obtain⟨i,hi⟩:=List.mem_iff_getElem?.1 ho
   exact((known_obj t o).1 (h i o hi)).2 r hr
theorem known_no{l:List Ob}{t:T}{i:Nat}{o:Ob}(ho:l[i]?=some o){j:Nat}{r:Rf}(hr:o.refs[j]?=some r)(h:¬okAt t o j r):decide (Known l t)=false:=decide_eq_false fun g=>h ((known_iff l t).1 g i o ho j r hr)
theorem known_yes{l:List Ob}{t:T}(h:∀(i:Nat) o,i<l.length→l[i]?=some o→∀(j:Nat) r,o.refs[j]?=some r→okAt t o j r):decide (Known l t)=true:=
 decide_eq_true ((known_iff l t).2 fun i o ho=>h i o (List.getElem?_eq_some_iff.1 ho).1 ho)
def one1(o:Ob)(c:Int)(j:Nat):Nat:=match o.refs[j]? with
 | some r=>if r.c=c∧(0<j∨o.kind=4) then 1 else 0
 | none=>0
def cntP(o:Ob)(c:Int):Nat→Nat
 | 0=>0
 | j+1=>cntP o c j+one1 o c j
theorem one1_some{o:Ob}{c:Int}{j:Nat}{r:Rf}(h:o.refs[j]?=some r):one1 o c j=if r.c=c∧(0<j∨o.kind=4) then 1 else 0:=by
 unfold one1;rw[h]
theorem cnt_take(l:List Rf)(c:Int)(j:Nat)(r:Rf)(h:l[j]?=some r):cnt (l.take (j+1)) c=cnt (l.take j) c+if r.c=c then 1 else 0:=by
 rw[List.take_add_one,h,cnt_append]
 show _+cnt [r] c=_
 rw[cnt_cons]
 show _+(0+_)=_
 rw[Nat.zero_add]
theorem cntP_is{o:Ob}(h:One o=true)(c:Int):∀j,j≤o.refs.length→cntP o c j=if o.kind=3 then cnt ((o.refs.take j).drop 1) c else cnt (o.refs.take j) c
 | 0,_=>by
  show 0=_
  split<;>(rw[List.take_zero];rfl)
 | j+1,hj=>by
  have ih:=cntP_is h c j (by omega)
  obtain⟨r,hr⟩:∃r,o.refs[j]?=some r:=⟨_,List.getElem?_eq_getElem (by omega)⟩
  show cntP o c j+one1 o c j=_
  rw[ih,one1_some hr]
  by_cases h3:o.kind=3
  ·rw[if_pos h3,if_pos h3]
   cases j with
   | zero=>
    rw[if_neg (fun g=>by omega)]
    rw[List.take_zero]
    have:(o.refs.take 1).drop 1=[]:=List.drop_eq_nil_of_le (by rw[List.length_take];omega)
    rw[this]
    rfl
   | succ j=>
    have e:(o.refs.take (j+1+1)).drop 1=(o.refs.take (j+1)).drop 1++[r]:=by
     rw[List.take_add_one,hr,List.drop_append_of_le_length (by rw[List.length_take];omega)]
     rfl
    rw[e,cnt_append]
    show _=_+cnt [r] c
    rw[cnt_cons]
    show _=_+(0+_)
    rw[Nat.zero_add]
    congr 1
    by_cases g:r.c=c
    ·rw[if_pos ⟨g,.inl (by omega)⟩,if_pos g]
    ·rw[if_neg (fun q=>g q.1),if_neg g]
  ·rw[if_neg h3,if_neg h3,cnt_take _ _ _ _ hr]
   congr 1
   have h4:o.kind=4:=Decidable.byContradiction fun g=>by
    rw[clean_refs h h3 g] at hr
    cases hr
   by_cases g:r.c=c
   ·rw[if_pos ⟨g,.inr h4⟩,if_pos g]
   ·rw[if_neg (fun q=>g q.1),if_neg g]
theorem cntP_all{o:Ob}(h:One o=true)(c:Int):cntP o c o.refs.length=cnt (wts o) c:=by
 rw[cntP_is h c _ (Nat.le_refl _),List.take_length]
 unfold wts
 split<;>rfl
theorem W_take{l:List Ob}{i:Nat}{o:Ob}(h:l[i]?=some o)(c:Int):cnt (W (l.take (i+1))) c=cnt (W (l.take i)) c+cnt (wts o) c:=by
 rw[List.take_add_one,h]
 unfold W
 rw[List.flatMap_append,cnt_append]
 congr 2
 simp
theorem cnt_len(l:List Rf)(c:Int):cnt l c≤l.length:=List.countP_le_length
theorem ok_is(s:St):decide (Ok s)=(decide (0≤s.n)&&decide (Sto.Right s.l)&&decide (Ses.Right s.t)&&decide (Known s.l s.t)&&decide (∀c∈([0,1,2,3,4]:List Int),cnt (W s.l) c=if opn (s.t.get c)=true then 1 else 0)):=by
 rw[Bool.eq_iff_iff]
 simp only[decide_eq_true_eq,Bool.and_eq_true]
 constructor
 ·exact fun h=>⟨⟨⟨⟨h.n,h.l⟩,h.t⟩,h.w,h.h⟩,h.p⟩
 ·rintro ⟨⟨⟨⟨a,b⟩,c⟩,d,e⟩,f⟩
  exact⟨a,b,c,d,e,f⟩
end Ap
end
end Go.Proofs.YtieoeendnccafaaGreat
