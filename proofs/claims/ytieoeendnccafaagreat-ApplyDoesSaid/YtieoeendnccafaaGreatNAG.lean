/- What a command is, whether it may be; requests' names, events, their items. No condition but those named. -/
import Derived.Test.YtieoeendnccafaaGreatNAA
set_option linter.unusedSimpArgs false
set_option linter.unusedVariables false
set_option maxRecDepth 100000
set_option maxHeartbeats 25600000
open Go.RowKit
namespace Go.Proofs.YtieoeendnccafaaGreat
open _root_.Go.Proofs.Tryz
section
namespace aK
structure Pr where
 key:ByteArray
 val:Val.V
open Go.Op in
theorem DT:∀a:List UInt8,bytesLess a a=false
 | []=>rfl
 | x::r=>by
  unfold bytesLess;rw[DT r];simp
open Go.Op in
theorem IZ:∀a b c:List UInt8,bytesLess a b=true→bytesLess b c=true→bytesLess a c=true
 | _,[],_,h,_=>by cases ‹List UInt8› <;> simp[bytesLess] at h
 | _,_::_,[],_,h=>by simp[bytesLess] at h
 | [],_::_,_::_,_,_=>rfl
 | x::a,y::b,z::c,h1,h2=>by
  simp only[bytesLess,Bool.or_eq_true,Bool.and_eq_true,decide_eq_true_eq,beq_iff_eq] at h1 h2 ⊢
  rcases h1 with h1|⟨rfl,h1⟩<;>rcases h2 with h2|⟨rfl,h2⟩
  ·exact .inl (UInt8.lt_trans h1 h2)
  ·exact .inl h1
  ·exact .inl h2
  ·exact .inr ⟨rfl,IZ a b c h1 h2⟩
open Go.Op in
theorem VP:∀a b:List UInt8,bytesLess a b=true∨a=b∨bytesLess b a=true
 | [],[]=>.inr (.inl rfl)
 | [],_::_=>.inl rfl
 | _::_,[]=>.inr (.inr rfl)
 | x::a,y::b=>by
  simp only[bytesLess,Bool.or_eq_true,Bool.and_eq_true,decide_eq_true_eq,beq_iff_eq];by_cases h1:x<y
  ·exact .inl (.inl h1)
  by_cases h2:y<x
  ·exact .inr (.inr (.inl h2))
  have e:x=y:=by
   apply UInt8.toNat_inj.1;have h1':¬x.toNat<y.toNat:=h1;have h2':¬y.toNat<x.toNat:=h2;omega
  subst e
  rcases VP a b with h|h|h
  ·exact .inl (.inr ⟨rfl,h⟩)
  ·exact .inr (.inl (by rw[h]))
  ·exact .inr (.inr (.inr ⟨rfl,h⟩))
def lt(a b:ByteArray):Bool:=Go.Op.bytesLess a.toList b.toList
theorem toList_inj{a b:ByteArray}(h:a.toList=b.toList):a=b:=by
 exact ZB
theorem eq_iff{a b:ByteArray}:a=b↔a.toList=b.toList:=⟨fun h=>by rw[h],toList_inj⟩
theorem lt_irrefl(a:ByteArray):lt a a=false:=DT _
theorem lt_trans{a b c:ByteArray}(h1:lt a b=true)(h2:lt b c=true):lt a c=true:=IZ _ _ _ h1 h2
theorem AO(a b:ByteArray):lt a b=true∨a=b∨lt b a=true:=by
 rcases VP a.toList b.toList with h|h|h
 ·exact .inl h
 ·exact .inr (.inl (toList_inj h))
 ·exact .inr (.inr h)
theorem rJ{a b:ByteArray}(h:lt a b=true):¬a=b:=fun e=>by rw[e,lt_irrefl] at h;cases h
theorem lt_asymm{a b:ByteArray}(h:lt a b=true):lt b a=false:=by
 cases hb:lt b a with
 | false=>rfl
 | true=>have:=lt_trans h hb;rw[lt_irrefl] at this;cases this
def ji(k:ByteArray)(v:Val.V):Int:=if v.k=0 then 1 else if 64<k.size then 2 else Val.bG v
def Up(l:List Pr):Prop:=l.Pairwise fun a b=>lt a.key b.key=true
structure Right(l:List Pr):Prop where
 len:l.length≤8
 ok:∀x∈l,ji x.key x.val=0
 up:Up l
def Good(l:List Pr)(i:Nat):Prop:=∀x,l[i]?=some x→ji x.key x.val=0∧∀j y,i=j+1→l[j]?=some y→lt y.key x.key=true
theorem RL{l:List Pr}(h:∀i x y,l[i]?=some x→l[i+1]?=some y→lt x.key y.key=true):Up l:=by
 induction l with
 | nil=>exact List.Pairwise.nil
 | cons a r ih=>
  have hr:=ih fun i x y hx hy=>h (i+1) x y (by simpa using hx) (by simpa using hy)
  refine List.Pairwise.cons (fun b hb=>?_) hr
  match r,hb,hr,h with
  | c::r',hb,hr,h=>
   have h0:=h 0 a c rfl rfl
   rcases List.mem_cons.1 hb with rfl|hb
   ·exact h0
   ·exact lt_trans h0 ((List.pairwise_cons.1 hr).1 b hb)
theorem lg(l:List Pr):Right l↔l.length≤8∧∀i,i<l.length→Good l i:=by
 constructor
 ·intro h
  exact aep
 ·intro h
  refine⟨h.1,fun x hx=>?_,RL fun i x y hx hy=>?_⟩
  ·obtain⟨i,hi,e⟩:=List.getElem_of_mem hx
   exact(h.2 i hi x (by rw[List.getElem?_eq_getElem hi,e])).1
  ·exact(h.2 (i+1) (List.getElem?_eq_some_iff.1 hy).1 y hy).2 i x rfl hx
theorem jg:Right []:=⟨by simp,fun x hx=>by simp at hx,List.Pairwise.nil⟩
def jc:List Pr→ByteArray→Option Val.V
 | [],_=>none
 | x::r,k=>if x.key=k then some x.val else jc r k
def wo(l:List Pr)(k:ByteArray):List Pr:=l.filter fun p=>!decide (p.key=k)
def idx:List Pr→ByteArray→Nat
 | [],_=>0
 | x::r,k=>if lt x.key k=true then idx r k+1 else 0
def fin(l:List Pr)(k:ByteArray):Nat:=match l[idx l k]? with
 | some x=>if x.key=k then idx l k+1 else idx l k
 | none=>idx l k
theorem nR(l:List Pr)(k:ByteArray):idx l k≤l.length:=by
 induction l with
 | nil=>exact Nat.le_refl _
 | cons x r ih=>unfold idx;split<;>simp<;>omega
theorem sQ{l:List Pr}{k:ByteArray}{i:Nat}{x:Pr}(h:i<idx l k)(hx:l[i]?=some x):lt x.key k=true:=by
 induction l generalizing i with
 | nil=>simp at hx
 | cons y r ih=>
  unfold idx at h
  split at h
  next hy=>
   match i,h,hx with
   | 0,_,hx=>simp at hx;subst hx;exact hy
   | i+1,h,hx=>exact ih (i:=i) (Nat.lt_of_succ_lt_succ h) (by simpa using hx)
  ·omega
theorem sS{l:List Pr}{k:ByteArray}{x:Pr}(hx:l[idx l k]?=some x):lt x.key k=false:=by
 induction l with
 | nil=>simp at hx
 | cons y r ih=>
  unfold idx at hx
  split at hx
  ·exact ih (by simpa using hx)
  next hy=>simp at hx;subst hx;simpa using hy
theorem Bb{l:List Pr}{k:ByteArray}{i:Nat}(h1:∀j x,j<i→l[j]?=some x→lt x.key k=true)(hi:i≤l.length)(h2:∀x,l[i]?=some x→lt x.key k=false):idx l k=i:=by
 rcases Nat.lt_trichotomy (idx l k) i with h|h|h
 ·obtain⟨x,hx⟩:∃x,l[idx l k]?=some x:=⟨_,List.getElem?_eq_getElem (by omega)⟩
  have e1:=h1 _ x h hx;rw[sS hx] at e1;cases e1
 ·exact h
 ·have hle:=nR l k
  obtain⟨x,hx⟩:∃x,l[i]?=some x:=⟨_,List.getElem?_eq_getElem (by omega)⟩;have e1:=sQ h hx;rw[h2 x hx] at e1;cases e1
theorem kQ(l:List Pr)(k:ByteArray):idx l k≤fin l k∧fin l k≤l.length:=by
 have h:=nR l k;unfold fin
 split
 next x hx=>
  have:=(List.getElem?_eq_some_iff.1 hx).1
  split<;>omega
 next=>omega
theorem kC{x:Pr}{r:List Pr}{k:ByteArray}(h:lt x.key k=true):idx (x::r) k=idx r k+1∧fin (x::r) k=fin r k+1:=by
 have e:idx (x::r) k=idx r k+1:=by conv=>lhs;unfold idx;rw[if_pos h]
 refine⟨e,?_⟩;unfold fin;rw[e,List.getElem?_cons_succ]
 split<;>(try split)<;>rfl
theorem oN{x:Pr}{r:List Pr}:idx (x::r) x.key=0∧fin (x::r) x.key=1:=by
 have e:idx (x::r) x.key=0:=by unfold idx;rw[if_neg (by rw[lt_irrefl];simp)]
 refine⟨e,?_⟩;unfold fin;rw[e];simp
theorem kD{x:Pr}{r:List Pr}{k:ByteArray}(h:lt k x.key=true):idx (x::r) k=0∧fin (x::r) k=0:=by
 have e:idx (x::r) k=0:=by unfold idx;rw[if_neg (by rw[lt_asymm h];simp)]
 refine⟨e,?_⟩;unfold fin;rw[e];have hne:¬x.key=k:=fun e=>rJ h e.symm
 simp[hne]
theorem rX{l:List Pr}{k:ByteArray}(h:∀x∈l,¬x.key=k):wo l k=l:=by
 unfold wo;rw[List.filter_eq_self];intro x hx;simp[h x hx]
theorem yw{l:List Pr}{k:ByteArray}(h:∀x∈l,¬x.key=k):jc l k=none:=by
 induction l with
 | nil=>rfl
 | cons x r ih=>
  exact ZI
theorem above{x:Pr}{r:List Pr}(h:Up (x::r)){k:ByteArray}(hk:x.key=k∨lt k x.key=true):∀y∈r,lt k y.key=true:=fun y hy=>by
 have h1:=(List.pairwise_cons.1 h).1 y hy
 rcases hk with rfl|hk
 ·exact h1
 ·exact lt_trans hk h1
theorem yj{l:List Pr}{k:ByteArray}(h:∀y∈l,lt k y.key=true):idx l k=0:=by
 match l,h with
 | [],_=>rfl
 | x::r,h=>exact(kD (h x (List.mem_cons_self ..))).1
theorem fu{l:List Pr}(h:Up l)(k:ByteArray):l.take (idx l k)++l.drop (fin l k)=wo l k∧idx (wo l k) k=idx l k∧(jc l k=if fin l k=idx l k then none else (l[idx l k]?).map (·.val))∧fin l k≤idx l k+1:=by
 induction l with
 | nil=>exact⟨rfl,rfl,rfl,Nat.le_succ 0⟩
 | cons x r ih=>
  obtain⟨i1,i2,i3,i4⟩:=ih (List.pairwise_cons.1 h).2
  rcases AO x.key k with hk|hk|hk
  ·obtain⟨e1,e2⟩:=kC (r:=r) hk
   have hne:=rJ hk;have ew:wo (x::r) k=x::wo r k:=by unfold wo;rw[List.filter_cons_of_pos (by simp[hne])]
   refine⟨?_,?_,?_,by omega⟩
   ·rw[e1,e2,ew,List.take_succ_cons,List.drop_succ_cons,aO,i1]
   ·rw[ew,(kC hk).1,i2,e1]
   ·rw[e1,e2,List.getElem?_cons_succ]
    have ef:jc (x::r) k=jc r k:=by conv=>lhs;unfold jc;rw[if_neg hne]
    rw[ef,i3];by_cases hh:fin r k=idx r k
    ·rw[if_pos hh,if_pos (by omega)]
    ·rw[if_neg hh,if_neg (by omega)]
  ·subst hk
   obtain⟨e1,e2⟩:=oN (x:=x) (r:=r);have hab:=above h (.inl rfl);have hr:wo r x.key=r:=rX fun y hy e=>rJ (hab y hy) e.symm
   have ew:wo (x::r) x.key=r:=by unfold wo;rw[List.filter_cons_of_neg (by simp)];exact hr
   refine⟨?_,?_,?_,by omega⟩
   ·rw[e1,e2,ew];rfl
   ·rw[ew,e1];exact yj hab
   ·rw[e1,e2];unfold jc;simp
  ·obtain⟨e1,e2⟩:=kD (r:=r) hk
   have hab:=above h (.inr hk)
   have hne:∀y∈x::r,¬y.key=k:=fun y hy e=>by
    rcases List.mem_cons.1 hy with rfl|hy
    ·exact rJ hk e.symm
    ·exact rJ (hab y hy) e.symm
   exact Zm
def ins(l:List Pr)(k:ByteArray)(v:Val.V):List Pr:=l.take (idx l k)++[⟨k,v⟩]++l.drop (fin l k)
theorem zo{l:List Pr}(h:Up l)(k:ByteArray):(wo l k).take (idx l k)=l.take (idx l k)∧(wo l k).drop (idx l k)=l.drop (fin l k):=by
 have e:=(fu h k).1;have hl:(l.take (idx l k)).length=idx l k:=by rw[List.length_take];have:=nR l k;omega
 rw[← e]
 constructor
 ·exact List.take_left' hl
 ·exact List.drop_left' hl
theorem acQ{l:List Pr}(h:Up l)(k:ByteArray)(v:Val.V):(wo l k).take (idx (wo l k) k)++[⟨k,v⟩]++(wo l k).drop (idx (wo l k) k)=ins l k v:=by
 rw[(fu h k).2.1,(zo h k).1,(zo h k).2];rfl
theorem LP{l:List Pr}(h:Up l)(k:ByteArray):Up (wo l k):=List.Pairwise.filter _ h
theorem xG{l:List Pr}{k:ByteArray}{x:Pr}:x∈wo l k↔x∈l∧¬x.key=k:=by
 unfold wo;rw[List.mem_filter];simp
theorem pU{l:List Pr}(h:Right l)(k:ByteArray):Right (wo l k):=
 ⟨Nat.le_trans (List.length_filter_le _ _) h.len,fun x hx=>h.ok x (xG.1 hx).1,LP h.up k⟩
theorem acR{l:List Pr}(h:Up l)(k:ByteArray)(v:Val.V):Up (ins l k v):=by
 have hw:=LP h k;obtain⟨e1,e2⟩:=zo h k
 have hm:∀{x},x∈l.take (idx l k)→lt x.key k=true:=fun hx=>by
  obtain⟨i,hi,e⟩:=List.getElem_of_mem hx;rw[List.getElem_take] at e;rw[List.length_take] at hi;exact sQ (l:=l) (i:=i) (by omega) (by rw[List.getElem?_eq_getElem (by omega),e])
 have hd:∀{x},x∈l.drop (fin l k)→lt k x.key=true:=fun {x} hx=>by
  have hxw:x∈wo l k:=by rw[← (fu h k).1];exact List.mem_append_right _ hx
  rcases AO x.key k with hk|hk|hk
  ·exfalso
   obtain⟨i,hi,e⟩:=List.getElem_of_mem hx;rw[List.getElem_drop] at e;rw[List.length_drop] at hi;have hle:=kQ l k;obtain⟨y,hy⟩:∃y,l[idx l k]?=some y:=⟨_,List.getElem?_eq_getElem (by omega)⟩;have h1:=sS hy;have h2:l[fin l k+i]?=some x:=by rw[List.getElem?_eq_getElem (by omega),e]
   by_cases hc:fin l k+i=idx l k
   ·rw[hc,hy] at h2
    injection h2 with h2;rw[h2,hk] at h1;cases h1
   ·obtain⟨g1,q1⟩:=List.getElem?_eq_some_iff.1 hy
    obtain⟨g2,q2⟩:=List.getElem?_eq_some_iff.1 h2;have:=(List.pairwise_iff_getElem.1 h) _ _ g1 g2 (by omega);rw[q1,q2] at this;have:=lt_trans this hk;rw[h1] at this;cases this
  ·exact absurd hk (xG.1 hxw).2
  ·exact hk
 unfold ins Up;rw[List.append_assoc,List.pairwise_append];refine⟨h.sublist (List.take_sublist _ _),?_,fun a ha b hb=>?_⟩
 ·exact List.Pairwise.cons (fun b hb=>hd hb) (h.sublist (List.drop_sublist _ _))
 ·rcases List.mem_append.1 hb with hb|hb
  ·rw[List.mem_singleton] at hb;subst hb;exact hm ha
  ·exact lt_trans (hm ha) (hd hb)
theorem Hq{l:List Pr}(h:Up l)(k:ByteArray)(v:Val.V):(ins l k v).Perm (wo l k++[⟨k,v⟩]):=by
 unfold ins;rw[← (fu h k).1,List.append_assoc,List.append_assoc];exact Rm
theorem PZ{l:List Pr}(h:Right l){k:ByteArray}{v:Val.V}(hv:ji k v=0)(hn:(wo l k).length<8):Right (ins l k v):=by
 have hp:=Hq h.up k v;refine⟨?_,fun x hx=>?_,acR h.up k v⟩
 ·rw[hp.length_eq,List.length_append];exact hn
 ·rcases List.mem_append.1 (hp.mem_iff.1 hx) with hx|hx
  ·exact h.ok x (xG.1 hx).1
  ·rw[List.mem_singleton] at hx;subst hx;exact hv
def Apart(l:List Pr):Prop:=l.Pairwise fun a b=>¬a.key=b.key
theorem Ig{l:List Pr}{k:ByteArray}{v:Val.V}(h:jc l k=some v):∃x∈l,x.key=k∧x.val=v:=by
 induction l with
 | nil=>cases h
 | cons y r ih=>
  unfold jc at h
  split at h
  next hy=>injection h with h;exact⟨y,List.mem_cons_self ..,hy,h⟩
  ·obtain⟨x,hx,e⟩:=ih h;exact⟨x,List.mem_cons_of_mem _ hx,e⟩
instance (l:List Pr):Decidable (Right l):=decidable_of_iff (l.length≤8∧(∀x∈l,ji x.key x.val=0)∧l.Pairwise (fun(a b:Pr)=>lt a.key b.key=true)) ⟨fun h=>⟨h.1,h.2.1,h.2.2⟩,fun h=>⟨h.len,h.ok,h.up⟩⟩
def emp:Val.V:=⟨0,0,0,⟨#[]⟩⟩
def Ce(l:List Pr):Int:=if Right l then 0 else 1
def pK(l:List Pr)(k:ByteArray):Val.V:=if Right l then (jc l k).getD emp else emp
def pE(l:List Pr)(k:ByteArray):Int:=if Right l then (if (jc l k).isSome then 0 else 5) else 1
def rT(l:List Pr)(k:ByteArray)(v:Val.V):Int:=if Right l then (if ji k v=0 then (if (wo l k).length<8 then 0 else 6) else ji k v) else 1
def uL(l:List Pr)(k:ByteArray)(v:Val.V):List Pr:=if rT l k v=0 then ins l k v else l
def Qo(l:List Pr)(k:ByteArray):List Pr:=if pE l k=0 then wo l k else l
def Ah(l:List Pr)(k:ByteArray)(o v:Val.V):Int:=if Right l then (if pK l k=o then (if v=emp then 0 else rT l k v) else 9) else 1
def Jo(l:List Pr)(k:ByteArray)(o:Val.V):Val.V:=if pK l k=o then emp else pK l k
def FP(l:List Pr)(k:ByteArray)(o v:Val.V):List Pr:=if Ah l k o v=0 then (if v=emp then wo l k else ins l k v) else l
theorem wF{l:List Pr}(h:¬Right l):Ce l=1:=if_neg h
theorem zC{l:List Pr}(h:Right l):Ce l=0:=if_pos h
theorem Bd{l:List Pr}(h:¬Right l)(k:ByteArray):pK l k=emp∧pE l k=1:=⟨if_neg h,if_neg h⟩
theorem MU{l:List Pr}(h:Right l){k:ByteArray}{v:Val.V}(hf:jc l k=some v):pK l k=v∧pE l k=0:=by
 unfold pK pE;rw[if_pos h,if_pos h,hf];exact ni
theorem MV{l:List Pr}(h:Right l){k:ByteArray}(hf:jc l k=none):pK l k=emp∧pE l k=5:=by
 unfold pK pE;rw[if_pos h,if_pos h,hf];exact ni
theorem Tn{l:List Pr}(h:¬Right l)(k:ByteArray)(v:Val.V):rT l k v=1∧uL l k v=l:=by
 have e:rT l k v=1:=if_neg h;exact⟨e,by unfold uL;rw[e];rfl⟩
theorem KD{l:List Pr}(h:Right l){k:ByteArray}{v:Val.V}(hv:¬ji k v=0):rT l k v=ji k v∧uL l k v=l:=by
 have e:rT l k v=ji k v:=by unfold rT;rw[if_pos h,if_neg hv]
 exact⟨e,by unfold uL;rw[e,if_neg hv]⟩
theorem Mh{l:List Pr}(h:Right l){k:ByteArray}{v:Val.V}(hv:ji k v=0)(hn:¬(wo l k).length<8):rT l k v=6∧uL l k v=l:=by
 have e:rT l k v=6:=by unfold rT;rw[if_pos h,if_pos hv,if_neg hn]
 exact⟨e,by unfold uL;rw[e];rfl⟩
theorem aas{l:List Pr}(h:Right l){k:ByteArray}{v:Val.V}(hv:ji k v=0)(hn:(wo l k).length<8):rT l k v=0∧uL l k v=ins l k v:=by
 have e:rT l k v=0:=by unfold rT;rw[if_pos h,if_pos hv,if_pos hn]
 exact⟨e,by unfold uL;rw[e];rfl⟩
theorem aaG{l:List Pr}{k:ByteArray}(h:¬pE l k=0):pK l k=emp:=by
 unfold pE at h;unfold pK
 split at h
 next hr=>
  rw[if_pos hr]
  cases hf:jc l k with
  | none=>rfl
  | some v=>rw[hf] at h;exact absurd rfl h
 next hr=>rw[if_neg hr]
theorem aaH{l:List Pr}(h:Right l)(k:ByteArray):¬pE l k=1:=by
 unfold pE;rw[if_pos h]
 split<;>decide
theorem afJ{l:List Pr}{k:ByteArray}(h:pE l k=0):Right l:=by
 unfold pE at h
 split at h
 next hr=>exact hr
 next=>cases h
theorem JY{l:List Pr}(h:¬Right l)(k:ByteArray)(o v:Val.V):Ah l k o v=1∧FP l k o v=l∧Jo l k o=emp:=by
 have e:Ah l k o v=1:=if_neg h;refine⟨e,?_,?_⟩
 ·unfold FP;rw[e];rfl
 ·unfold Jo;rw[(Bd h k).1];split<;>rfl
theorem xK{l:List Pr}(h:Right l){k:ByteArray}{o:Val.V}(v:Val.V)(ho:¬pK l k=o):Ah l k o v=9∧FP l k o v=l∧Jo l k o=pK l k:=by
 have e:Ah l k o v=9:=by unfold Ah;rw[if_pos h,if_neg ho]
 refine⟨e,?_,if_neg ho⟩;unfold FP;rw[e];rfl
theorem JX{l:List Pr}(h:Right l){k:ByteArray}{o:Val.V}(ho:pK l k=o):Ah l k o emp=0∧FP l k o emp=wo l k∧Jo l k o=emp:=by
 have e:Ah l k o emp=0:=by unfold Ah;rw[if_pos h,if_pos ho,if_pos rfl]
 refine⟨e,?_,if_pos ho⟩;unfold FP;rw[e,if_pos rfl,if_pos rfl]
theorem JW{l:List Pr}(h:Right l){k:ByteArray}{o v:Val.V}(ho:pK l k=o)(hv:¬v=emp):Ah l k o v=rT l k v∧FP l k o v=uL l k v∧Jo l k o=emp:=by
 have e:Ah l k o v=rT l k v:=by unfold Ah;rw[if_pos h,if_pos ho,if_neg hv]
 refine⟨e,?_,if_pos ho⟩;unfold FP uL;rw[e,if_neg hv]
theorem UO{l:List Pr}{k:Nat}{x:Pr}(h:l[k]?=some x)(key:ByteArray):jc (l.drop k) key=if x.key=key then some x.val else jc (l.drop (k+1)) key:=by
 obtain⟨h1,h2⟩:=List.getElem?_eq_some_iff.1 h;rw[List.drop_eq_getElem_cons h1,h2]
 rfl
theorem En{l:List Pr}{k:Nat}{x:Pr}(h:l[k]?=some x)(key:ByteArray):wo (l.take (k+1)) key=if x.key=key then wo (l.take k) key else wo (l.take k) key++[x]:=by
 rw[List.take_add_one,h];unfold wo;rw[List.filter_append]
 show List.filter _ (List.take k l)++List.filter _ [x]=_
 by_cases hx:x.key=key
 ·rw[if_pos hx,List.filter_cons_of_neg (by simp[hx]),List.filter_nil,List.append_nil]
 ·rw[if_neg hx,List.filter_cons_of_pos (by simp[hx]),List.filter_nil]
instance:DecidableEq Pr:=fun a b=>decidable_of_iff (a.key=b.key∧a.val=b.val) ⟨fun h=>by
 obtain⟨k,v⟩:=a;obtain⟨k',v'⟩:=b;obtain⟨rfl,rfl⟩:=h
 rfl,fun h=>by rw[h];exact⟨rfl,rfl⟩⟩
theorem Qj{l:List Pr}(h:Up l)(k:ByteArray):(fin l k=idx l k∧jc l k=none)∨(fin l k=idx l k+1∧∃x,l[idx l k]?=some x∧jc l k=some x.val):=by
 obtain⟨_,_,h3,h4⟩:=fu h k;obtain⟨h5,h6⟩:=kQ l k;by_cases hh:fin l k=idx l k
 ·rw[if_pos hh] at h3;exact .inl ⟨hh,h3⟩
 ·rw[if_neg hh] at h3
  have hx:l[idx l k]?=some (l[idx l k]'(by omega)):=List.getElem?_eq_getElem (by omega);exact .inr ⟨by omega,_,hx,by rw[h3,hx];rfl⟩
end aK
end
section
namespace dK
def jq(v:Val.V):Int:=if v.k=0 then 1 else Val.bG v
structure Right(n:Int)(l:List Val.V):Prop where
 lo:1≤n
 hi:n≤8
 len:(l.length:Int)≤n
 ok:∀v∈l,jq v=0
instance (n:Int) (l:List Val.V):Decidable (Right n l):=decidable_of_iff (1≤n∧n≤8∧(l.length:Int)≤n∧∀v∈l,jq v=0) ⟨fun h=>⟨h.1,h.2.1,h.2.2.1,h.2.2.2⟩,fun h=>⟨h.lo,h.hi,h.len,h.ok⟩⟩
def Cc(n:Int)(l:List Val.V):Int:=if Right n l then 0 else 1
def emp:Val.V:=⟨0,0,0,⟨#[]⟩⟩
def uM(n:Int)(l:List Val.V)(v:Val.V):Int:=if Right n l then (if jq v=0 then (if (l.length:Int)=n then 6 else 0) else jq v) else 1
def xV(n:Int)(l:List Val.V)(v:Val.V):List Val.V:=if uM n l v=0 then l++[v] else l
def KF(n:Int)(l:List Val.V):Int:=if Right n l then (if l.length=0 then 10 else 0) else 1
def Jq(n:Int)(l:List Val.V):List Val.V:=if Right n l then l.drop 1 else l
def Jp(n:Int)(l:List Val.V):Val.V:=if Right n l then l.headD emp else emp
theorem zy{n:Int}{l:List Val.V}(h:Right n l):Cc n l=0:=if_pos h
theorem wu{n:Int}{l:List Val.V}(h:¬Right n l):Cc n l=1:=if_neg h
theorem xH{v:Val.V}(h:v.k=0):jq v=1:=if_pos h
theorem Cz{v:Val.V}(h:¬v.k=0):jq v=Val.bG v:=if_neg h
theorem Tq{n:Int}{l:List Val.V}(h:¬Right n l)(v:Val.V):uM n l v=1∧xV n l v=l:=by
 have e:uM n l v=1:=if_neg h;exact⟨e,by unfold xV;rw[e];rfl⟩
theorem KE{n:Int}{l:List Val.V}(h:Right n l){v:Val.V}(hv:¬jq v=0):uM n l v=jq v∧xV n l v=l:=by
 have e:uM n l v=jq v:=by unfold uM;rw[if_pos h,if_neg hv]
 exact⟨e,by unfold xV;rw[e,if_neg hv]⟩
theorem Mi{n:Int}{l:List Val.V}(h:Right n l){v:Val.V}(hv:jq v=0)(hn:(l.length:Int)=n):uM n l v=6∧xV n l v=l:=by
 have e:uM n l v=6:=by unfold uM;rw[if_pos h,if_pos hv,if_pos hn]
 exact⟨e,by unfold xV;rw[e];rfl⟩
theorem aat{n:Int}{l:List Val.V}(h:Right n l){v:Val.V}(hv:jq v=0)(hn:¬(l.length:Int)=n):uM n l v=0∧xV n l v=l++[v]:=by
 have e:uM n l v=0:=by unfold uM;rw[if_pos h,if_pos hv,if_neg hn]
 exact⟨e,by unfold xV;rw[e];rfl⟩
theorem Tx{n:Int}{l:List Val.V}(h:¬Right n l):KF n l=1∧Jq n l=l∧Jp n l=emp:=⟨if_neg h,if_neg h,if_neg h⟩
theorem Ml{n:Int}{l:List Val.V}(h:Right n l)(h0:l.length=0):KF n l=10∧Jq n l=[]∧Jp n l=emp:=by
 have e:l=[]:=List.length_eq_zero_iff.1 h0;subst e;exact⟨by unfold KF;rw[if_pos h];rfl,by unfold Jq;rw[if_pos h];rfl,by unfold Jp;rw[if_pos h];rfl⟩
theorem aav{n:Int}{l:List Val.V}(h:Right n l){v:Val.V}(hv:l[0]?=some v):KF n l=0∧Jq n l=l.drop 1∧Jp n l=v:=by
 cases l with
 | nil=>cases hv
 | cons x r=>
  injection hv with hv;subst hv;exact⟨by unfold KF;rw[if_pos h];rfl,by unfold Jq;rw[if_pos h],by unfold Jp;rw[if_pos h];rfl⟩
theorem Tp{n:Int}{l:List Val.V}(h:Right n l)(v:Val.V):Right n (xV n l v):=by
 unfold xV
 split
 next he=>
  unfold uM at he;rw[if_pos h] at he
  split at he
  next hv=>
   split at he
   ·cases he
   next hn=>
    have hlen:=h.len;refine⟨h.lo,h.hi,?_,fun x hx=>?_⟩
    ·rw[List.length_append]
     show((l.length+1:Nat):Int)≤n
     omega
    ·rcases List.mem_append.1 hx with hx|hx
     ·exact h.ok x hx
     ·rw[List.mem_singleton] at hx;subst hx;exact hv
  next hv=>exact absurd he hv
 next=>exact h
theorem vM{n:Int}{l:List Val.V}(h:Right n l):Right n (l.drop 1):=by
 have hl:=h.len;refine⟨h.lo,h.hi,?_,fun x hx=>h.ok x (List.mem_of_mem_drop hx)⟩;rw[List.length_drop];omega
theorem Tw{n:Int}{l:List Val.V}(h:Right n l):Right n (Jq n l):=by
 unfold Jq;rw[if_pos h];exact vM h
theorem jg{n:Int}(h1:1≤n)(h2:n≤8):Right n []:=⟨h1,h2,by show(0:Int)≤n;omega,fun x hx=>by simp at hx⟩
theorem gJ{n:Int}{l:List Val.V}{m:Nat}(hl:l.length=m)(h1:1≤n)(h2:n≤8)(h3:(m:Int)≤n):(∀(i:Nat) v,l[i]?=some v→¬jq v=0→decide (Right n l)=false)∧((∀(i:Nat) v,i<m→l[i]?=some v→jq v=0)→decide (Right n l)=true):=by
 subst hl;refine⟨fun i v hi hv=>decide_eq_false fun h=>hv (h.ok v (List.mem_of_getElem? hi)),fun h=>decide_eq_true ⟨h1,h2,h3,fun v hv=>?_⟩⟩;obtain⟨i,hi,e⟩:=List.getElem_of_mem hv;exact h i v hi (by rw[List.getElem?_eq_getElem hi,e])
end dK
end
section
namespace Gt
open aS
def Right(m:Int)(l:List Rf):Prop:=1≤m∧m≤5∧(l.length:Int)<m∧aS.Right l
instance (m:Int) (l:List Rf):Decidable (Right m l):=by unfold Right;infer_instance
def qB(m:Int)(l:List Rf)(r:Rf):Int:=if Right m l∧ok r then (if asked l r.c then 11 else 0) else 1
def Em(m:Int)(l:List Rf)(r:Rf):List Rf:=if qB m l r=0 then (if (l.length:Int)+1=m then [] else l++[r]) else l
def zk(m:Int)(l:List Rf)(r:Rf):List Rf:=if qB m l r=0∧(l.length:Int)+1=m then l++[r] else []
def pF(m:Int)(l:List Rf)(r:Rf):List Rf:=if Right m l then wo l r else l
variable {m:Int}{l:List Rf}{r:Rf}
theorem vT{z:Int}(e:qB m l r=z)(hz:¬z=0):qB m l r=z∧Em m l r=l∧zk m l r=[]:=by
 have e2:¬qB m l r=0:=by rw[e];exact hz
 exact⟨e,if_neg e2,if_neg (fun h=>e2 h.1)⟩
theorem zU(h:¬(Right m l∧ok r)):qB m l r=1∧Em m l r=l∧zk m l r=[]:=vT (if_neg h) (by decide)
theorem El(h1:Right m l)(h2:ok r)(h3:asked l r.c=true):qB m l r=11∧Em m l r=l∧zk m l r=[]:=
 vT (by unfold qB;rw[if_pos ⟨h1,h2⟩,if_pos h3]) (by decide)
theorem aam(h1:Right m l)(h2:ok r)(h3:asked l r.c=false):qB m l r=0:=by
 unfold qB;rw[if_pos ⟨h1,h2⟩,if_neg (by rw[h3];decide)]
theorem oz(h1:Right m l)(h2:ok r)(h3:asked l r.c=false)(h4:(l.length:Int)+1=m):qB m l r=0∧Em m l r=[]∧zk m l r=l++[r]:=by
 have e:=aam h1 h2 h3;exact⟨e,by unfold Em;rw[if_pos e,if_pos h4],if_pos ⟨e,h4⟩⟩
theorem ow(h1:Right m l)(h2:ok r)(h3:asked l r.c=false)(h4:¬(l.length:Int)+1=m):qB m l r=0∧Em m l r=l++[r]∧zk m l r=[]:=by
 have e:=aam h1 h2 h3;exact⟨e,by unfold Em;rw[if_pos e,if_neg h4],if_neg (fun h=>h4 h.2)⟩
theorem Cv(h:qB m l r=0):Right m l∧ok r∧asked l r.c=false:=by
 unfold qB at h
 split at h
 next hr=>
  split at h
  ·cases h
  next ha=>exact⟨hr.1,hr.2,Bool.eq_false_iff.2 ha⟩
 next=>cases h
theorem Fe(h:Right m l):pF m l r=wo l r:=if_pos h
theorem DI(h:¬Right m l):pF m l r=l:=if_neg h
theorem Gm(h1:1≤m)(h2:m≤5):Right m []:=⟨h1,h2,by show(0:Int)<m;omega,jg⟩
theorem sD(h1:Right m l)(h2:ok r)(h3:asked l r.c=false)(h4:¬(l.length:Int)+1=m):Right m (l++[r]):=
 ⟨h1.1,h1.2.1,by
  have:=h1.2.2.1;rw[List.length_append]
  show((l.length+1:Nat):Int)<m
  omega,aS.sD h1.2.2.2 h2 h3⟩
theorem SI(h:Right m l)(r:Rf):Right m (wo l r):=
 ⟨h.1,h.2.1,by
  have:=h.2.2.1;have:=vU l r
  omega,kK _ h.2.2.2⟩
end Gt
end
section
theorem Ie(b:Nat)(w:World):(callFunc 270 #[.int .u64 (b:Int)]).run prog w=.ok (.value (.float .f64 b)) w:=by kernel_rfl
theorem RO(b:Nat)(w:World):(callFunc 269 #[.float .f64 b]).run prog w=.ok (.value (.int .u64 (b:Int))) w:=by kernel_rfl
theorem acu{t:Nat}:t%2*2 ^ 63+0x7ff0000000000000+1+t / 2%(2 ^ 52-1)<18446744073709551616:=by omega
theorem acv{t:Nat}:Num.inf<(t%2*2 ^ 63+0x7ff0000000000000+1+t / 2%(2 ^ 52-1))%Num.kJ:=by
 have h1:t / 2%(2 ^ 52-1)<2 ^ 52-1:=Nat.mod_lt _ (by decide);generalize t / 2%(2 ^ 52-1)=x at *
 unfold Num.inf Num.kJ
 rcases Nat.mod_two_eq_zero_or_one t with h|h<;>rw[h]<;>omega
theorem LZ(a b:Nat)(w:World):∃r n,r<18446744073709551616∧Num.Wu a b r∧(binOp .add 280 (.float .f64 a) (.float .f64 b)).run prog w=.ok (.float .f64 r) (w.drewN n):=by
 cases h:Ieee.double.add a b with
 | some r=>
  refine⟨r,0,Ieee.Format.add_lt _ h,Or.inl h,?_⟩;exact run_float_arith w .add _ .f64 a b r h
 | none=>
  refine⟨Question.cut (.nanBits .f64 a b) (w.tape w.drawn (.nanBits .f64 a b)),1,?_,Or.inr ⟨h,?_⟩,?_⟩
  ·exact acu
  ·exact acv
  ·have hf:FloatKind.f64.format.add a b=none:=h
   simp[binOp,Op.floatArith,hf,Question.forced]
   rfl
theorem YT(a b:Nat)(w:World)(ha:a<18446744073709551616)(hb:b<18446744073709551616):
  Calls prog 266 #[.int .u64 a,.int .u64 b] w fun e w'=>e=.returned (.int .u64 (Num.S a b:Nat))∧∃n,w'=w.drewN n:=by
 have HM:=zH (fun(c:Nat) (hc:c<18446744073709551616) w=>iH c w hc);obtain⟨r,n,hr,hs,hrun⟩:=LZ (Num.M a) (Num.M b) w;have he:=hs.eq;rw[Num.S_M] at he;have hE:=zH he;clear hs he;have hf:=Ie;have hb2:=RO;have HR:=zH hrun;clear hrun;go_enter func266,ntmps266;go_wp2_with fail;refine(HM.out a ha _).mono ?_;rintro e w' ⟨rfl,rfl⟩;go_wp2_with fail;refine(HM.out b hb _).mono ?_;rintro e w' ⟨rfl,rfl⟩;have hrun:=HR.out;go_wp2_with fail;clear hrun;exact ZM
end
section
theorem max_u64:IntKind.u64.max=18446744073709551615:=by decide
theorem Gw(b:Nat)(w:World)(h:b<18446744073709551616):
  Calls prog 250 #[.int .u64 b] w fun e w'=>e=.returned (.int .u64 (Num.rank b:Nat))∧w=w':=by
 have hm:=Num.qA h;have hc:=zH (Num.VZ _ hm);have hx:=zH (Num.Gd _ hm);have ho:=zH (Num.Mr (Num.M b));have hr:Hid (Num.rank b=if Num.M b<Num.kJ then Num.M b+Num.kJ else 18446744073709551615-Num.M b):=zH rfl;have HH:=zH (fun w=>iH b w h);generalize Num.M b=x at *
 go_enter func250,ntmps250;go_wp2_with (go_at_call 181;refine(HH.out _).mono ?_;rintro e w' ⟨rfl,rfl⟩)
 ·have h1:(bits BinOp.and IntKind.u64 (x:Int) 9223372036854775808 != 0)=true:=by assumption
  go_ret;rw[hc.out,bne_iff_ne] at h1;exact Zu
 ·have h1:(bits BinOp.and IntKind.u64 (x:Int) 9223372036854775808 != 0)=false:=by assumption
  go_ret;rw[hc.out,bne_eq_false_iff_eq] at h1;exact Zy
theorem Da(b:Nat)(w:World)(h:b<18446744073709551616):
  Calls prog 251 #[.int .u64 b] w fun e w'=>e=.returned (.int .u64 (Num.rank b:Nat))∧w=w':=by
 have hm:=Num.qA h;have hx:=zH (Num.Gd _ hm);have ho:=zH (Num.Mr (Num.M b));have hr:Hid (Num.rank b=if Num.M b<Num.kJ then Num.M b+Num.kJ else 18446744073709551615-Num.M b):=zH rfl;have HH:=zH (fun w=>iE b w h);generalize Num.M b=x at *
 go_enter func251,ntmps251;go_wp2_with (go_at_call 193;refine(HH.out _).mono ?_;rintro e w' ⟨rfl,rfl⟩)
 ·have h1:((x:Int) / 9223372036854775808==1)=true:=by assumption
  go_ret;rw[beq_iff_eq] at h1;exact Zu
 ·have h1:((x:Int) / 9223372036854775808==1)=false:=by assumption
  go_ret;rw[beq_eq_false_iff_ne] at h1;exact Zy
theorem Fp{a b:Nat}(h:Num.rank a<Num.rank b):Num.cmp a b = -1:=by unfold Num.cmp;rw[if_pos h]
theorem Fq{a b:Nat}(h:Num.rank b<Num.rank a):Num.cmp a b=1:=by unfold Num.cmp;rw[if_neg (by omega),if_pos h]
theorem cmp_eq{a b:Nat}(h:Num.rank a=Num.rank b):Num.cmp a b=0:=by unfold Num.cmp;rw[if_neg (by omega),if_neg (by omega)]
theorem Fu(a b:Nat)(w:World)(ha:a<18446744073709551616)(hb:b<18446744073709551616):
  Calls prog 211 #[.int .u64 a,.int .u64 b] w fun e w'=>e=.returned (.int .i64 (Num.cmp a b))∧w=w':=by
 have H1:=zH (fun w=>Gw a w ha);have H2:=zH (fun w=>Gw b w hb);have c1:=@Fp a b;have c2:=@Fq a b;have c3:=@cmp_eq a b;have C1:=zH c1;have C2:=zH c2;have C3:=zH c3;clear c1 c2 c3;generalize Num.rank a=x at *
 generalize Num.rank b=y at *
 go_enter func211,ntmps211;go_wp2_with fail;refine(H1.out _).mono ?_;rintro e w' ⟨rfl,rfl⟩;go_wp2_with fail;refine(H2.out _).mono ?_;rintro e w' ⟨rfl,rfl⟩
 rcases Nat.lt_trichotomy x y with h|h|h
 ·go_wp2_with fail
  go_ret;exact⟨by rw[C1.out h];rfl,rfl⟩
 ·have hh:=zH h
  exact ZV
 ·have n1:¬x<y:=by omega
  go_wp2_with fail;go_ret;exact⟨by rw[C2.out h];rfl,rfl⟩
theorem Ao(a b:Nat)(w:World)(ha:a<18446744073709551616)(hb:b<18446744073709551616):
  Calls prog 212 #[.int .u64 a,.int .u64 b] w fun e w'=>e=.returned (.int .i64 (Num.cmp a b))∧w=w':=by
 have H1:=zH (fun w=>Da a w ha);have H2:=zH (fun w=>Da b w hb);have c1:=@Fp a b;have c2:=@Fq a b;have c3:=@cmp_eq a b;have C1:=zH c1;have C2:=zH c2;have C3:=zH c3;clear c1 c2 c3;generalize Num.rank a=x at *
 generalize Num.rank b=y at *
 go_enter func212,ntmps212;go_wp2_with fail;refine(H1.out _).mono ?_;rintro e w' ⟨rfl,rfl⟩;go_wp2_with fail;refine(H2.out _).mono ?_;rintro e w' ⟨rfl,rfl⟩
 rcases Nat.lt_trichotomy x y with h|h|h
 ·go_wp2_with fail
  go_ret;exact⟨by rw[C1.out h];rfl,rfl⟩
 ·have hh:=zH h
  exact ZV
 ·have n1:¬x<y:=by omega
  go_wp2_with fail;go_ret;exact⟨by rw[C2.out h];rfl,rfl⟩
end
section
def least(a b:Nat):Nat:=if Num.rank b<Num.rank a then Num.M b else Num.M a
def most(a b:Nat):Nat:=if Num.rank a<Num.rank b then Num.M b else Num.M a
theorem PU(a b:Nat)(w:World)(ha:a<18446744073709551616)(hb:b<18446744073709551616):
  Calls prog 267 #[.int .u64 a,.int .u64 b] w fun e w'=>e=.returned (.int .u64 (least a b:Nat))∧w=w':=by
 have H:=zH (fun w=>Fu b a w hb ha);have H1:=zH (fun w=>iH a w ha);have H2:=zH (fun w=>iH b w hb);by_cases h:Num.rank b<Num.rank a
 ·have hl:Hid (least a b=Num.M b):=zH (if_pos h)
  rw[Fp h] at H;clear h;generalize least a b=l at *
  go_enter func267,ntmps267;exact Xi
 ·have hl:Hid (least a b=Num.M a):=zH (if_neg h)
  have hc:0≤Num.cmp b a:=by have h2:=Num.IL b a;have h3:=(Num.Bw (a:=a) (b:=b)).2 (by omega);omega
  generalize Num.cmp b a=c at *
  clear h;generalize least a b=l at *
  go_enter func267,ntmps267;exact Xh
theorem TS(a b:Nat)(w:World)(ha:a<18446744073709551616)(hb:b<18446744073709551616):
  Calls prog 268 #[.int .u64 a,.int .u64 b] w fun e w'=>e=.returned (.int .u64 (most a b:Nat))∧w=w':=by
 have H:=zH (fun w=>Fu b a w hb ha);have H1:=zH (fun w=>iH a w ha);have H2:=zH (fun w=>iH b w hb);by_cases h:Num.rank a<Num.rank b
 ·have hl:Hid (most a b=Num.M b):=zH (if_pos h)
  rw[Fq h] at H;clear h;generalize most a b=l at *
  go_enter func268,ntmps268;exact Xi
 ·have hl:Hid (most a b=Num.M a):=zH (if_neg h)
  have hc:Num.cmp b a≤0:=(Num.Bw (a:=b) (b:=a)).2 (by omega);generalize Num.cmp b a=c at *
  clear h;generalize most a b=l at *
  go_enter func268,ntmps268;exact Xh
end
section
structure mG where
 n:Int
 s:Nat
 l:Nat
 m:Nat
 deriving DecidableEq
namespace Mt
def zero:mG:=⟨0,0,0,0⟩
def Fit(x:mG):Prop:=x.n≤9223372036854775807∧x.s<18446744073709551616∧x.l<18446744073709551616∧x.m<18446744073709551616
def Ok(x:mG):Prop:=(x.n=0∧x.s=0∧x.l=0∧x.m=0)∨(0<x.n∧Num.M x.s=x.s∧Num.M x.l=x.l∧Num.M x.m=x.m∧Num.rank x.l≤Num.rank x.m)
instance (x:mG):Decidable (Ok x):=by unfold Ok;infer_instance
theorem Ua{a b:Nat}(ha:a<18446744073709551616)(hb:b<18446744073709551616):least a b<18446744073709551616:=by
 unfold least;split
 ·exact Num.qA hb
 ·exact Num.qA ha
theorem XV{a b:Nat}(ha:a<18446744073709551616)(hb:b<18446744073709551616):most a b<18446744073709551616:=by
 unfold most;split
 ·exact Num.qA hb
 ·exact Num.qA ha
theorem UU:Fit zero:=⟨by decide,by decide,by decide,by decide⟩
theorem Mv:Ok zero:=.inl ⟨rfl,rfl,rfl,rfl⟩
theorem ok_none{n:Int}{s l m:Nat}(hn:¬0<n):decide ((⟨n,s,l,m⟩:mG)=⟨0,0,0,0⟩)=decide (Ok ⟨n,s,l,m⟩):=by
 rw[decide_eq_decide];simp only[mG.mk.injEq]
 constructor
 ·exact fun h=>.inl h
 ·rintro (h|⟨h,_⟩)
  ·exact h
  ·exact absurd h hn
theorem aho{n:Int}{s l m:Nat}(hn:0<n)(h:¬Num.M s=s):¬Ok ⟨n,s,l,m⟩:=by
 rintro (⟨h0,_⟩|⟨_,h1,_⟩)
 ·have h0:n=0:=h0
  omega
 ·exact h h1
theorem ahq{n:Int}{s l m:Nat}(hn:0<n)(h:¬Num.M l=l):¬Ok ⟨n,s,l,m⟩:=by
 rintro (⟨h0,_⟩|⟨_,_,h1,_⟩)
 ·have h0:n=0:=h0
  omega
 ·exact h h1
theorem ahp{n:Int}{s l m:Nat}(hn:0<n)(h:¬Num.M m=m):¬Ok ⟨n,s,l,m⟩:=by
 rintro (⟨h0,_⟩|⟨_,_,_,h1,_⟩)
 ·have h0:n=0:=h0
  omega
 ·exact h h1
theorem TQ{n:Int}{s l m:Nat}(hn:0<n)(hs:Num.M s=s)(hl:Num.M l=l)(hm:Num.M m=m):Ok ⟨n,s,l,m⟩↔Num.cmp l m≤0:=by
 rw[Num.Bw]
 constructor
 ·rintro (⟨h0,_⟩|⟨_,_,_,_,h1⟩)
  ·have h0:n=0:=h0
   omega
  ·exact h1
 ·exact fun h=>.inr ⟨hn,hs,hl,hm,h⟩
theorem okn{n:Int}{s l m:Nat}(h0:¬n=0)(hn:¬0<n):¬Ok ⟨n,s,l,m⟩:=by
 rintro (⟨h1,_⟩|⟨h1,_⟩)
 ·exact h0 h1
 ·exact hn h1
theorem afr{n:Int}{s l m:Nat}(h0:¬n=0)(h:¬Num.M s=s):¬Ok ⟨n,s,l,m⟩:=by
 rintro (⟨h1,_⟩|⟨_,h1,_⟩)
 ·exact h0 h1
 ·exact h h1
theorem aft{n:Int}{s l m:Nat}(h0:¬n=0)(h:¬Num.M l=l):¬Ok ⟨n,s,l,m⟩:=by
 rintro (⟨h1,_⟩|⟨_,_,h1,_⟩)
 ·exact h0 h1
 ·exact h h1
theorem afs{n:Int}{s l m:Nat}(h0:¬n=0)(h:¬Num.M m=m):¬Ok ⟨n,s,l,m⟩:=by
 rintro (⟨h1,_⟩|⟨_,_,_,h1,_⟩)
 ·exact h0 h1
 ·exact h h1
def ad(x:mG)(b:Nat):mG:=if ¬Ok x then x else if x.n=9223372036854775807 then x else if x.n=0 then ⟨1,Num.M b,Num.M b,Num.M b⟩ else ⟨x.n+1,Num.S x.s (Num.M b),least x.l (Num.M b),most x.m (Num.M b)⟩
def Lr(x:mG):Int:=if ¬Ok x then 1 else if x.n=9223372036854775807 then 6 else 0
theorem Wm{x:mG}(h:¬Ok x)(b:Nat):ad x b=x:=if_pos h
theorem NK{x:mG}(h:¬Ok x):Lr x=1:=if_pos h
theorem FH{x:mG}(h:Ok x)(hn:x.n=9223372036854775807)(b:Nat):ad x b=x:=by unfold ad;rw[if_neg (by simpa using h),if_pos hn]
theorem Jf{x:mG}(h:Ok x)(hn:x.n=9223372036854775807):Lr x=6:=by unfold Lr;rw[if_neg (by simpa using h),if_pos hn]
theorem BJ{x:mG}(h:Ok x)(hn:x.n=0)(b:Nat):ad x b=⟨1,Num.M b,Num.M b,Num.M b⟩:=by unfold ad;rw[if_neg (by simpa using h),if_neg (by omega),if_pos hn]
theorem NJ{x:mG}(h:Ok x)(hn:x.n≠9223372036854775807):Lr x=0:=by unfold Lr;rw[if_neg (by simpa using h),if_neg hn]
theorem xw{x:mG}(h:Ok x)(hn:x.n≠9223372036854775807)(h0:x.n≠0)(b:Nat):ad x b=⟨x.n+1,Num.S x.s (Num.M b),least x.l (Num.M b),most x.m (Num.M b)⟩:=by unfold ad;rw[if_neg (by simpa using h),if_neg hn,if_neg h0]
theorem TP{x:mG}(h:Ok x):0≤x.n:=by
 rcases h with ⟨h,_⟩|⟨h,_⟩<;>omega
structure Rd where
 k:Int
 n:Int
 f:Nat
 e:Int
 deriving DecidableEq
def rd(x:mG)(q:Int):Rd:=
 if ¬Ok x∨q<0∨3<q then ⟨0,0,0,1⟩ else if q=0 then ⟨1,x.n,0,0⟩ else if x.n=0 then ⟨0,0,0,10⟩ else ⟨2,0,(if q=1 then x.s else if q=2 then x.l else x.m),0⟩
theorem xS{x:mG}{q:Int}(h:¬Ok x∨q<0∨3<q):rd x q=⟨0,0,0,1⟩:=if_pos h
theorem Gs{x:mG}{q:Int}(h:Ok x)(h1:0≤q:=by decide)(h2:q≤3:=by decide):¬(¬Ok x∨q<0∨3<q):=by
 rintro (h3|h3|h3)
 ·exact h3 h
 ·omega
 ·omega
theorem afh{x:mG}(h:Ok x):rd x 0=⟨1,x.n,0,0⟩:=by unfold rd;rw[if_neg (Gs h),if_pos rfl]
theorem aar{x:mG}{q:Int}(h:Ok x)(h1:0≤q)(h2:q≤3)(hq:q≠0)(hn:x.n=0):rd x q=⟨0,0,0,10⟩:=by unfold rd;rw[if_neg (Gs h (h1:=h1) (h2:=h2)),if_neg hq,if_pos hn]
theorem afg{x:mG}(h:Ok x)(hn:¬x.n=0):rd x 1=⟨2,0,x.s,0⟩:=by unfold rd;rw[if_neg (Gs h),if_neg (by decide),if_neg hn,if_pos rfl]
theorem aff{x:mG}(h:Ok x)(hn:¬x.n=0):rd x 2=⟨2,0,x.l,0⟩:=by unfold rd;rw[if_neg (Gs h),if_neg (by decide),if_neg hn,if_neg (by decide),if_pos rfl]
theorem afe{x:mG}(h:Ok x)(hn:¬x.n=0):rd x 3=⟨2,0,x.m,0⟩:=by unfold rd;rw[if_neg (Gs h),if_neg (by decide),if_neg hn,if_neg (by decide),if_neg (by decide)]
end Mt
end
section
namespace aF
structure C where
 k:Int
 name:ByteArray
 key:ByteArray
 val:Val.V
 old:Val.V
 n:Int
 m:Int
structure E where
 c:Int
 e:Int
 r:Int
 cmd:C
def f0(k:Int):Bool:=decide (4≤k∧k≤17)
def f1(k:Int):Bool:=decide (6≤k∧k≤9)
def f2(k:Int):Bool:=decide (k=9)
def f3(k:Int):Bool:=decide (k=7∨k=9∨k=10∨k=15)
def f4(k:Int):Bool:=decide (k=4∨k=16)
def f5(k:Int):Bool:=decide (k=4)
def nil(v:Val.V):Prop:=v.k=0∧v.n=0∧v.f=0∧v.s.size=0
instance (v:Val.V):Decidable (nil v):=by unfold nil;infer_instance
def others(c:C):Prop:=(f0 c.k=true∨c.name.size=0)∧(f1 c.k=true∨c.key.size=0)∧(f2 c.k=true∨nil c.old)∧(f3 c.k=true∨nil c.val)∧(f4 c.k=true∨c.n=0)∧(f5 c.k=true∨c.m=0)
instance (c:C):Decidable (others c):=by unfold others;infer_instance
def nums(c:C):Prop:=
 if c.k=16 then 0≤c.n∧c.n≤3 else if c.k≠4 then True else
 if c.n=2 then 1≤c.m∧c.m≤8 else if c.n=4 then 1≤c.m∧c.m≤5 else 1≤c.n∧c.n≤5∧c.m=0
instance (c:C):Decidable (nums c):=by unfold nums;infer_instance
def bG(c:C):Int:=
 if c.k<1∨18<c.k∨¬others c∨(f0 c.k=true∧c.name.size=0) then 1
 else if 16<c.name.size∨64<c.key.size then 2
 else if Val.bG c.old≠0 then Val.bG c.old
 else if Val.bG c.val≠0 then Val.bG c.val
 else if (c.k=7∨c.k=10)∧c.val.k=0 then 1
 else if c.k=15∧c.val.k≠2 then 7
 else if ¬nums c then 1 else 0
theorem Qv(c:C):((c.k<1∨18<c.k)∧bG c=1)∨(¬(c.k<1∨18<c.k)∧decide (others c)=false∧True∧bG c=1)∨
  (¬(c.k<1∨18<c.k)∧decide (others c)=true∧f0 c.k=true∧c.name.size=0∧True∧bG c=1)∨
  (¬(c.k<1∨18<c.k)∧decide (others c)=true∧¬(f0 c.k=true∧c.name.size=0)∧(16<c.name.size∨64<c.key.size)∧True∧bG c=2)∨
  (¬(c.k<1∨18<c.k)∧decide (others c)=true∧¬(f0 c.k=true∧c.name.size=0)∧¬(16<c.name.size∨64<c.key.size)∧Val.bG c.old≠0∧True∧bG c=Val.bG c.old)∨
  (¬(c.k<1∨18<c.k)∧decide (others c)=true∧¬(f0 c.k=true∧c.name.size=0)∧¬(16<c.name.size∨64<c.key.size)∧Val.bG c.old=0∧Val.bG c.val≠0∧True∧bG c=Val.bG c.val)∨
  (¬(c.k<1∨18<c.k)∧decide (others c)=true∧¬(f0 c.k=true∧c.name.size=0)∧¬(16<c.name.size∨64<c.key.size)∧Val.bG c.old=0∧Val.bG c.val=0∧
   (((c.k=7∨c.k=10)∧c.val.k=0∧bG c=1)∨(¬((c.k=7∨c.k=10)∧c.val.k=0)∧c.k=15∧c.val.k≠2∧bG c=7)∨(¬((c.k=7∨c.k=10)∧c.val.k=0)∧¬(c.k=15∧c.val.k≠2)∧decide (nums c)=false∧bG c=1)∨(¬((c.k=7∨c.k=10)∧c.val.k=0)∧¬(c.k=15∧c.val.k≠2)∧decide (nums c)=true∧bG c=0))):=by
 unfold bG;by_cases h1:c.k<1∨18<c.k
 ·refine .inl ⟨h1,?_⟩
  rw[if_pos (by omega)]
 ·by_cases h2:others c
  ·have d2:decide (others c)=true:=decide_eq_true h2
   by_cases h3:f0 c.k=true∧c.name.size=0
   ·exact .inr (.inr (.inl ⟨h1,d2,h3.1,h3.2,trivial,by rw[if_pos (.inr (.inr (.inr h3)))]⟩))
   ·rw[if_neg (by rintro (h|h|h|h);exact h1 (.inl h);exact h1 (.inr h);exact h h2;exact h3 h)]
    by_cases h4:16<c.name.size∨64<c.key.size
    ·exact .inr (.inr (.inr (.inl ⟨h1,d2,h3,h4,trivial,by rw[if_pos h4]⟩)))
    ·rw[if_neg h4]
     by_cases h5:Val.bG c.old≠0
     ·exact .inr (.inr (.inr (.inr (.inl ⟨h1,d2,h3,h4,h5,trivial,by rw[if_pos h5]⟩))))
     ·rw[if_neg h5]
      have h5:Val.bG c.old=0:=Decidable.byContradiction h5;by_cases h6:Val.bG c.val≠0
      ·exact .inr (.inr (.inr (.inr (.inr (.inl ⟨h1,d2,h3,h4,h5,h6,trivial,by rw[if_pos h6]⟩)))))
      ·rw[if_neg h6]
       have h6:Val.bG c.val=0:=Decidable.byContradiction h6;refine .inr (.inr (.inr (.inr (.inr (.inr ⟨h1,d2,h3,h4,h5,h6,?_⟩)))));by_cases h7:(c.k=7∨c.k=10)∧c.val.k=0
       ·exact .inl ⟨h7.1,h7.2,by rw[if_pos h7]⟩
       ·rw[if_neg h7]
        by_cases h8:c.k=15∧c.val.k≠2
        ·exact .inr (.inl ⟨h7,h8.1,h8.2,by rw[if_pos h8]⟩)
        ·rw[if_neg h8]
         by_cases h9:nums c
         ·exact .inr (.inr (.inr ⟨h7,h8,decide_eq_true h9,by rw[if_neg (fun h=>h h9)]⟩))
         ·exact .inr (.inr (.inl ⟨h7,h8,decide_eq_false h9,by rw[if_pos h9]⟩))
  ·refine .inr (.inl ⟨h1,decide_eq_false h2,trivial,?_⟩)
   rw[if_pos (.inr (.inr (.inl h2)))]
def right(e:E):Prop:=0≤e.c∧e.c<5∧1≤e.e∧0≤e.r
instance (e:E):Decidable (right e):=by unfold right;infer_instance
def fits(e:E):Prop:=right e∧bG e.cmd=0∧(e.r=0↔(e.cmd.k=1∨e.cmd.k=18))
instance (e:E):Decidable (fits e):=by unfold fits;infer_instance
def emp:ByteArray:=⟨#[]⟩
theorem kinds(k:Int):k=4∨(k=5∨k=11∨k=12∨k=13∨k=14∨k=17)∨(k=6∨k=8)∨k=7∨k=9∨(k=10∨k=15)∨k=16∨(k<4∨17<k):=by omega
theorem vL{k:Int}(h:k<4∨17<k):f0 k=false∧f1 k=false∧f2 k=false∧f3 k=false∧f4 k=false∧f5 k=false:=by
 unfold f0 f1 f2 f3 f4 f5;refine⟨?_,?_,?_,?_,?_,?_⟩<;>simp<;>omega
theorem Aj{s:ByteArray}(h:s.size=0):s=emp:=Val.mU h
end aF
end
end Go.Proofs.YtieoeendnccafaaGreat
