/- Meters, pure: what may be one, what is added, what is read. No condition but those named. -/
import Derived.Test.YtddpmlcpfmmbeaaGreatTk
import Derived.Test.YtddpmlcpfmmbeaaGreatKAA
import Derived.Test.YtddpmlcpfmmbeaaGreatKAB
import GoSem.Op.String
import Derived.Test.YtddpmlcpfmmbeaaGreatRows
import Derived.WalkKit
import Derived.WalkSpells
import Derived.WalkLawsBesides
import Derived.Handy
import Derived.Deep.QuietTactic
import Derived.BigQuiet
import Derived.Deep.Draws
import Derived.Lib.Hide
set_option linter.unusedSimpArgs false
set_option linter.unusedVariables false
set_option maxRecDepth 100000
set_option maxHeartbeats 25600000
namespace Go.Proofs.YtddpmlcpfmmbeaaGreat
section
namespace Dct
structure Pr where
 key:ByteArray
 val:Val.V
open Go.Op in
theorem bl_irrefl:∀a:List UInt8,bytesLess a a=false
 | []=>rfl
 | x::r=>by
  unfold bytesLess
  rw[bl_irrefl r];simp
open Go.Op in
theorem bl_trans:∀a b c:List UInt8,bytesLess a b=true→bytesLess b c=true→bytesLess a c=true
 | _,[],_,h,_=>by cases ‹List UInt8› <;> simp[bytesLess] at h
 | _,_::_,[],_,h=>by simp[bytesLess] at h
 | [],_::_,_::_,_,_=>rfl
 | x::a,y::b,z::c,h1,h2=>by
  simp only[bytesLess,Bool.or_eq_true,Bool.and_eq_true,decide_eq_true_eq,beq_iff_eq] at h1 h2 ⊢
  rcases h1 with h1|⟨rfl,h1⟩<;>rcases h2 with h2|⟨rfl,h2⟩
  ·exact .inl (UInt8.lt_trans h1 h2)
  ·exact .inl h1
  ·exact .inl h2
  ·exact .inr ⟨rfl,bl_trans a b c h1 h2⟩
open Go.Op in
theorem bl_tri:∀a b:List UInt8,bytesLess a b=true∨a=b∨bytesLess b a=true
 | [],[]=>.inr (.inl rfl)
 | [],_::_=>.inl rfl
 | _::_,[]=>.inr (.inr rfl)
 | x::a,y::b=>by
  simp only[bytesLess,Bool.or_eq_true,Bool.and_eq_true,decide_eq_true_eq,beq_iff_eq]
  by_cases h1:x<y
  ·exact .inl (.inl h1)
  by_cases h2:y<x
  ·exact .inr (.inr (.inl h2))
  have e:x=y:=by
   apply UInt8.toNat_inj.1
   have h1':¬x.toNat<y.toNat:=h1
   have h2':¬y.toNat<x.toNat:=h2
   omega
  subst e
  rcases bl_tri a b with h|h|h
  ·exact .inl (.inr ⟨rfl,h⟩)
  ·exact .inr (.inl (by rw[h]))
  ·exact .inr (.inr (.inr ⟨rfl,h⟩))
def lt(a b:ByteArray):Bool:=Go.Op.bytesLess a.toList b.toList
theorem toList_inj{a b:ByteArray}(h:a.toList=b.toList):a=b:=by
 rw[ByteArray.toList_eq,ByteArray.toList_eq] at h
 apply ByteArray.ext
 exact Array.toList_inj.1 h
theorem eq_iff{a b:ByteArray}:a=b↔a.toList=b.toList:=⟨fun h=>by rw[h],toList_inj⟩
theorem lt_irrefl(a:ByteArray):lt a a=false:=bl_irrefl _
theorem lt_trans{a b c:ByteArray}(h1:lt a b=true)(h2:lt b c=true):lt a c=true:=bl_trans _ _ _ h1 h2
theorem lt_tri(a b:ByteArray):lt a b=true∨a=b∨lt b a=true:=by
 rcases bl_tri a.toList b.toList with h|h|h
 ·exact .inl h
 ·exact .inr (.inl (toList_inj h))
 ·exact .inr (.inr h)
theorem lt_ne{a b:ByteArray}(h:lt a b=true):¬a=b:=fun e=>by rw[e,lt_irrefl] at h;cases h
theorem lt_asymm{a b:ByteArray}(h:lt a b=true):lt b a=false:=by
 cases hb:lt b a with
 | false=>rfl
 | true=>have:=lt_trans h hb;rw[lt_irrefl] at this;cases this
def pchk(k:ByteArray)(v:Val.V):Int:=if v.k=0 then 1 else if 64<k.size then 2 else Val.chk v
def Up(l:List Pr):Prop:=l.Pairwise fun a b=>lt a.key b.key=true
structure Right(l:List Pr):Prop where
 len:l.length≤8
 ok:∀x∈l,pchk x.key x.val=0
 up:Up l
def Good(l:List Pr)(i:Nat):Prop:=∀x,l[i]?=some x→pchk x.key x.val=0∧∀j y,i=j+1→l[j]?=some y→lt y.key x.key=true
theorem up_of{l:List Pr}(h:∀i x y,l[i]?=some x→l[i+1]?=some y→lt x.key y.key=true):Up l:=by
 induction l with
 | nil=>exact List.Pairwise.nil
 | cons a r ih=>
  have hr:=ih fun i x y hx hy=>h (i+1) x y (by simpa using hx) (by simpa using hy)
  refine List.Pairwise.cons (fun b hb=>?_) hr
  match r,hb,hr,h with
  | c::r',hb,hr,h=>
   have h0:=h 0 a c rfl rfl
   rcases List.mem_cons.1 hb with rfl|hb
   ·exact h0
   ·exact lt_trans h0 ((List.pairwise_cons.1 hr).1 b hb)
theorem right_iff(l:List Pr):Right l↔l.length≤8∧∀i,i<l.length→Good l i:=by
 constructor
 ·intro h
  refine⟨h.len,fun i hi x hx=>⟨h.ok x (List.mem_of_getElem? hx),fun j y hj hy=>?_⟩⟩
  subst hj
  obtain⟨h1,e1⟩:=List.getElem?_eq_some_iff.1 hx
  obtain⟨h2,e2⟩:=List.getElem?_eq_some_iff.1 hy
  have:=(List.pairwise_iff_getElem.1 h.up) j (j+1) h2 h1 (by omega)
  rw[e1,e2] at this
  exact this
 ·intro h
  refine⟨h.1,fun x hx=>?_,up_of fun i x y hx hy=>?_⟩
  ·obtain⟨i,hi,e⟩:=List.getElem_of_mem hx
   exact(h.2 i hi x (by rw[List.getElem?_eq_getElem hi,e])).1
  ·exact(h.2 (i+1) (List.getElem?_eq_some_iff.1 hy).1 y hy).2 i x rfl hx
theorem right_nil:Right []:=⟨by simp,fun x hx=>by simp at hx,List.Pairwise.nil⟩
def fnd:List Pr→ByteArray→Option Val.V
 | [],_=>none
 | x::r,k=>if x.key=k then some x.val else fnd r k
def wo(l:List Pr)(k:ByteArray):List Pr:=l.filter fun p=>!decide (p.key=k)
def idx:List Pr→ByteArray→Nat
 | [],_=>0
 | x::r,k=>if lt x.key k=true then idx r k+1 else 0
def fin(l:List Pr)(k:ByteArray):Nat:=match l[idx l k]? with
 | some x=>if x.key=k then idx l k+1 else idx l k
 | none=>idx l k
theorem idx_le(l:List Pr)(k:ByteArray):idx l k≤l.length:=by
 induction l with
 | nil=>exact Nat.le_refl _
 | cons x r ih=>unfold idx;split<;>simp<;>omega
theorem idx_lt{l:List Pr}{k:ByteArray}{i:Nat}{x:Pr}(h:i<idx l k)(hx:l[i]?=some x):lt x.key k=true:=by
 induction l generalizing i with
 | nil=>simp at hx
 | cons y r ih=>
  unfold idx at h
  split at h
  next hy=>
   match i,h,hx with
   | 0,_,hx=>simp at hx;subst hx;exact hy
   | i+1,h,hx=>exact ih (i:=i) (Nat.lt_of_succ_lt_succ h) (by simpa using hx)
  ·omega
theorem idx_at{l:List Pr}{k:ByteArray}{x:Pr}(hx:l[idx l k]?=some x):lt x.key k=false:=by
 induction l with
 | nil=>simp at hx
 | cons y r ih=>
  unfold idx at hx
  split at hx
  ·exact ih (by simpa using hx)
  next hy=>simp at hx;subst hx;simpa using hy
theorem fin_le(l:List Pr)(k:ByteArray):idx l k≤fin l k∧fin l k≤l.length:=by
 have h:=idx_le l k
 unfold fin
 split
 next x hx=>
  have:=(List.getElem?_eq_some_iff.1 hx).1
  split<;>omega
 next=>omega
theorem fin_cons_lt{x:Pr}{r:List Pr}{k:ByteArray}(h:lt x.key k=true):idx (x::r) k=idx r k+1∧fin (x::r) k=fin r k+1:=by
 have e:idx (x::r) k=idx r k+1:=by conv=>lhs;unfold idx;rw[if_pos h]
 refine⟨e,?_⟩
 unfold fin
 rw[e,List.getElem?_cons_succ]
 split<;>(try split)<;>rfl
theorem fin_cons_eq{x:Pr}{r:List Pr}:idx (x::r) x.key=0∧fin (x::r) x.key=1:=by
 have e:idx (x::r) x.key=0:=by unfold idx;rw[if_neg (by rw[lt_irrefl];simp)]
 refine⟨e,?_⟩
 unfold fin
 rw[e]
 simp
theorem fin_cons_gt{x:Pr}{r:List Pr}{k:ByteArray}(h:lt k x.key=true):idx (x::r) k=0∧fin (x::r) k=0:=by
 have e:idx (x::r) k=0:=by unfold idx;rw[if_neg (by rw[lt_asymm h];simp)]
 refine⟨e,?_⟩
 unfold fin
 rw[e]
 have hne:¬x.key=k:=fun e=>lt_ne h e.symm
 simp[hne]
theorem wo_above{l:List Pr}{k:ByteArray}(h:∀x∈l,¬x.key=k):wo l k=l:=by
 unfold wo
 rw[List.filter_eq_self]
 intro x hx
 simp[h x hx]
theorem fnd_above{l:List Pr}{k:ByteArray}(h:∀x∈l,¬x.key=k):fnd l k=none:=by
 induction l with
 | nil=>rfl
 | cons x r ih=>
  unfold fnd
  rw[if_neg (h x (List.mem_cons_self ..))]
  exact ih fun y hy=>h y (List.mem_cons_of_mem _ hy)
theorem above{x:Pr}{r:List Pr}(h:Up (x::r)){k:ByteArray}(hk:x.key=k∨lt k x.key=true):∀y∈r,lt k y.key=true:=fun y hy=>by
 have h1:=(List.pairwise_cons.1 h).1 y hy
 rcases hk with rfl|hk
 ·exact h1
 ·exact lt_trans hk h1
theorem idx_above{l:List Pr}{k:ByteArray}(h:∀y∈l,lt k y.key=true):idx l k=0:=by
 match l,h with
 | [],_=>rfl
 | x::r,h=>exact(fin_cons_gt (h x (List.mem_cons_self ..))).1
theorem wo_parts{l:List Pr}(h:Up l)(k:ByteArray):l.take (idx l k)++l.drop (fin l k)=wo l k∧idx (wo l k) k=idx l k∧(fnd l k=if fin l k=idx l k then none else (l[idx l k]?).map (·.val))∧fin l k≤idx l k+1:=by
 induction l with
 | nil=>exact⟨rfl,rfl,rfl,Nat.le_succ 0⟩
 | cons x r ih=>
  obtain⟨i1,i2,i3,i4⟩:=ih (List.pairwise_cons.1 h).2
  rcases lt_tri x.key k with hk|hk|hk
  ·obtain⟨e1,e2⟩:=fin_cons_lt (r:=r) hk
   have hne:=lt_ne hk
   have ew:wo (x::r) k=x::wo r k:=by unfold wo;rw[List.filter_cons_of_pos (by simp[hne])]
   refine⟨?_,?_,?_,by omega⟩
   ·rw[e1,e2,ew,List.take_succ_cons,List.drop_succ_cons,lcA,i1]
   ·rw[ew,(fin_cons_lt hk).1,i2,e1]
   ·rw[e1,e2,List.getElem?_cons_succ]
    have ef:fnd (x::r) k=fnd r k:=by conv=>lhs;unfold fnd;rw[if_neg hne]
    rw[ef,i3]
    by_cases hh:fin r k=idx r k
    ·rw[if_pos hh,if_pos (by omega)]
    ·rw[if_neg hh,if_neg (by omega)]
  ·subst hk
   obtain⟨e1,e2⟩:=fin_cons_eq (x:=x) (r:=r)
   have hab:=above h (.inl rfl)
   have hr:wo r x.key=r:=wo_above fun y hy e=>lt_ne (hab y hy) e.symm
   have ew:wo (x::r) x.key=r:=by unfold wo;rw[List.filter_cons_of_neg (by simp)];exact hr
   refine⟨?_,?_,?_,by omega⟩
   ·rw[e1,e2,ew];rfl
   ·rw[ew,e1];exact idx_above hab
   ·rw[e1,e2];unfold fnd;simp
  ·obtain⟨e1,e2⟩:=fin_cons_gt (r:=r) hk
   have hab:=above h (.inr hk)
   have hne:∀y∈x::r,¬y.key=k:=fun y hy e=>by
    rcases List.mem_cons.1 hy with rfl|hy
    ·exact lt_ne hk e.symm
    ·exact lt_ne (hab y hy) e.symm
   rw[wo_above hne,fnd_above hne,e1,e2]
   exact⟨rfl,rfl,by simp,Nat.le_succ 0⟩
def ins(l:List Pr)(k:ByteArray)(v:Val.V):List Pr:=l.take (idx l k)++[⟨k,v⟩]++l.drop (fin l k)
theorem wo_take{l:List Pr}(h:Up l)(k:ByteArray):(wo l k).take (idx l k)=l.take (idx l k)∧(wo l k).drop (idx l k)=l.drop (fin l k):=by
 have e:=(wo_parts h k).1
 have hl:(l.take (idx l k)).length=idx l k:=by rw[List.length_take];have:=idx_le l k;omega
 rw[← e]
 constructor
 ·exact List.take_left' hl
 ·exact List.drop_left' hl
theorem wo_up{l:List Pr}(h:Up l)(k:ByteArray):Up (wo l k):=List.Pairwise.filter _ h
theorem wo_mem{l:List Pr}{k:ByteArray}{x:Pr}:x∈wo l k↔x∈l∧¬x.key=k:=by
 unfold wo;rw[List.mem_filter];simp
theorem wo_right{l:List Pr}(h:Right l)(k:ByteArray):Right (wo l k):=
 ⟨Nat.le_trans (List.length_filter_le _ _) h.len,fun x hx=>h.ok x (wo_mem.1 hx).1,wo_up h.up k⟩
theorem ins_up{l:List Pr}(h:Up l)(k:ByteArray)(v:Val.V):Up (ins l k v):=by
 have hw:=wo_up h k
 obtain⟨e1,e2⟩:=wo_take h k
 have hm:∀{x},x∈l.take (idx l k)→lt x.key k=true:=fun hx=>by
  obtain⟨i,hi,e⟩:=List.getElem_of_mem hx
  rw[List.getElem_take] at e
  rw[List.length_take] at hi
  exact idx_lt (l:=l) (i:=i) (by omega) (by rw[List.getElem?_eq_getElem (by omega),e])
 have hd:∀{x},x∈l.drop (fin l k)→lt k x.key=true:=fun {x} hx=>by
  have hxw:x∈wo l k:=by rw[← (wo_parts h k).1];exact List.mem_append_right _ hx
  rcases lt_tri x.key k with hk|hk|hk
  ·exfalso
   obtain⟨i,hi,e⟩:=List.getElem_of_mem hx
   rw[List.getElem_drop] at e
   rw[List.length_drop] at hi
   have hle:=fin_le l k
   obtain⟨y,hy⟩:∃y,l[idx l k]?=some y:=⟨_,List.getElem?_eq_getElem (by omega)⟩
   have h1:=idx_at hy
   have h2:l[fin l k+i]?=some x:=by rw[List.getElem?_eq_getElem (by omega),e]
   by_cases hc:fin l k+i=idx l k
   ·rw[hc,hy] at h2
    injection h2 with h2
    rw[h2,hk] at h1;cases h1
   ·obtain⟨g1,q1⟩:=List.getElem?_eq_some_iff.1 hy
    obtain⟨g2,q2⟩:=List.getElem?_eq_some_iff.1 h2
    have:=(List.pairwise_iff_getElem.1 h) _ _ g1 g2 (by omega)
    rw[q1,q2] at this
    have:=lt_trans this hk
    rw[h1] at this;cases this
  ·exact absurd hk (wo_mem.1 hxw).2
  ·exact hk
 unfold ins Up
 rw[List.append_assoc,List.pairwise_append]
 refine⟨h.sublist (List.take_sublist _ _),?_,fun a ha b hb=>?_⟩
 ·exact List.Pairwise.cons (fun b hb=>hd hb) (h.sublist (List.drop_sublist _ _))
 ·rcases List.mem_append.1 hb with hb|hb
  ·rw[List.mem_singleton] at hb;subst hb;exact hm ha
  ·exact lt_trans (hm ha) (hd hb)
theorem ins_perm{l:List Pr}(h:Up l)(k:ByteArray)(v:Val.V):(ins l k v).Perm (wo l k++[⟨k,v⟩]):=by
 unfold ins
 rw[← (wo_parts h k).1,List.append_assoc,List.append_assoc]
 exact List.Perm.append_left _ List.perm_append_comm
theorem ins_right{l:List Pr}(h:Right l){k:ByteArray}{v:Val.V}(hv:pchk k v=0)(hn:(wo l k).length<8):Right (ins l k v):=by
 have hp:=ins_perm h.up k v
 refine⟨?_,fun x hx=>?_,ins_up h.up k v⟩
 ·rw[hp.length_eq,List.length_append];exact hn
 ·rcases List.mem_append.1 (hp.mem_iff.1 hx) with hx|hx
  ·exact h.ok x (wo_mem.1 hx).1
  ·rw[List.mem_singleton] at hx;subst hx;exact hv
def Apart(l:List Pr):Prop:=l.Pairwise fun a b=>¬a.key=b.key
theorem fnd_some{l:List Pr}{k:ByteArray}{v:Val.V}(h:fnd l k=some v):∃x∈l,x.key=k∧x.val=v:=by
 induction l with
 | nil=>cases h
 | cons y r ih=>
  unfold fnd at h
  split at h
  next hy=>injection h with h;exact⟨y,List.mem_cons_self ..,hy,h⟩
  ·obtain⟨x,hx,e⟩:=ih h;exact⟨x,List.mem_cons_of_mem _ hx,e⟩
instance (l:List Pr):Decidable (Right l):=decidable_of_iff (l.length≤8∧(∀x∈l,pchk x.key x.val=0)∧l.Pairwise (fun(a b:Pr)=>lt a.key b.key=true)) ⟨fun h=>⟨h.1,h.2.1,h.2.2⟩,fun h=>⟨h.len,h.ok,h.up⟩⟩
def emp:Val.V:=⟨0,0,0,⟨#[]⟩⟩
def mchk(l:List Pr):Int:=if Right l then 0 else 1
def gtV(l:List Pr)(k:ByteArray):Val.V:=if Right l then (fnd l k).getD emp else emp
def gtE(l:List Pr)(k:ByteArray):Int:=if Right l then (if (fnd l k).isSome then 0 else 5) else 1
def ptE(l:List Pr)(k:ByteArray)(v:Val.V):Int:=if Right l then (if pchk k v=0 then (if (wo l k).length<8 then 0 else 6) else pchk k v) else 1
def ptL(l:List Pr)(k:ByteArray)(v:Val.V):List Pr:=if ptE l k v=0 then ins l k v else l
def ctL(l:List Pr)(k:ByteArray):List Pr:=if gtE l k=0 then wo l k else l
def swE(l:List Pr)(k:ByteArray)(o v:Val.V):Int:=if Right l then (if gtV l k=o then (if v=emp then 0 else ptE l k v) else 9) else 1
def swV(l:List Pr)(k:ByteArray)(o:Val.V):Val.V:=if gtV l k=o then emp else gtV l k
def swL(l:List Pr)(k:ByteArray)(o v:Val.V):List Pr:=if swE l k o v=0 then (if v=emp then wo l k else ins l k v) else l
theorem mchk_one{l:List Pr}(h:¬Right l):mchk l=1:=if_neg h
theorem mchk_ok{l:List Pr}(h:Right l):mchk l=0:=if_pos h
theorem gt_bad{l:List Pr}(h:¬Right l)(k:ByteArray):gtV l k=emp∧gtE l k=1:=⟨if_neg h,if_neg h⟩
theorem gt_some{l:List Pr}(h:Right l){k:ByteArray}{v:Val.V}(hf:fnd l k=some v):gtV l k=v∧gtE l k=0:=by
 unfold gtV gtE;rw[if_pos h,if_pos h,hf];exact⟨rfl,rfl⟩
theorem gt_none{l:List Pr}(h:Right l){k:ByteArray}(hf:fnd l k=none):gtV l k=emp∧gtE l k=5:=by
 unfold gtV gtE;rw[if_pos h,if_pos h,hf];exact⟨rfl,rfl⟩
theorem pt_bad{l:List Pr}(h:¬Right l)(k:ByteArray)(v:Val.V):ptE l k v=1∧ptL l k v=l:=by
 have e:ptE l k v=1:=if_neg h
 exact⟨e,by unfold ptL;rw[e];rfl⟩
theorem pt_chk{l:List Pr}(h:Right l){k:ByteArray}{v:Val.V}(hv:¬pchk k v=0):ptE l k v=pchk k v∧ptL l k v=l:=by
 have e:ptE l k v=pchk k v:=by unfold ptE;rw[if_pos h,if_neg hv]
 exact⟨e,by unfold ptL;rw[e,if_neg hv]⟩
theorem pt_full{l:List Pr}(h:Right l){k:ByteArray}{v:Val.V}(hv:pchk k v=0)(hn:¬(wo l k).length<8):ptE l k v=6∧ptL l k v=l:=by
 have e:ptE l k v=6:=by unfold ptE;rw[if_pos h,if_pos hv,if_neg hn]
 exact⟨e,by unfold ptL;rw[e];rfl⟩
theorem pt_ok{l:List Pr}(h:Right l){k:ByteArray}{v:Val.V}(hv:pchk k v=0)(hn:(wo l k).length<8):ptE l k v=0∧ptL l k v=ins l k v:=by
 have e:ptE l k v=0:=by unfold ptE;rw[if_pos h,if_pos hv,if_pos hn]
 exact⟨e,by unfold ptL;rw[e];rfl⟩
theorem gt_ne{l:List Pr}{k:ByteArray}(h:¬gtE l k=0):gtV l k=emp:=by
 unfold gtE at h
 unfold gtV
 split at h
 next hr=>
  rw[if_pos hr]
  cases hf:fnd l k with
  | none=>rfl
  | some v=>rw[hf] at h;exact absurd rfl h
 next hr=>rw[if_neg hr]
theorem gt_nb{l:List Pr}(h:Right l)(k:ByteArray):¬gtE l k=1:=by
 unfold gtE
 rw[if_pos h]
 split<;>decide
theorem gt_ok{l:List Pr}{k:ByteArray}(h:gtE l k=0):Right l:=by
 unfold gtE at h
 split at h
 next hr=>exact hr
 next=>cases h
theorem sw_bad{l:List Pr}(h:¬Right l)(k:ByteArray)(o v:Val.V):swE l k o v=1∧swL l k o v=l∧swV l k o=emp:=by
 have e:swE l k o v=1:=if_neg h
 refine⟨e,?_,?_⟩
 ·unfold swL;rw[e];rfl
 ·unfold swV;rw[(gt_bad h k).1];split<;>rfl
theorem sw_unlike{l:List Pr}(h:Right l){k:ByteArray}{o:Val.V}(v:Val.V)(ho:¬gtV l k=o):swE l k o v=9∧swL l k o v=l∧swV l k o=gtV l k:=by
 have e:swE l k o v=9:=by unfold swE;rw[if_pos h,if_neg ho]
 refine⟨e,?_,if_neg ho⟩
 unfold swL;rw[e];rfl
theorem sw_cut{l:List Pr}(h:Right l){k:ByteArray}{o:Val.V}(ho:gtV l k=o):swE l k o emp=0∧swL l k o emp=wo l k∧swV l k o=emp:=by
 have e:swE l k o emp=0:=by unfold swE;rw[if_pos h,if_pos ho,if_pos rfl]
 refine⟨e,?_,if_pos ho⟩
 unfold swL;rw[e,if_pos rfl,if_pos rfl]
theorem sw_put{l:List Pr}(h:Right l){k:ByteArray}{o v:Val.V}(ho:gtV l k=o)(hv:¬v=emp):swE l k o v=ptE l k v∧swL l k o v=ptL l k v∧swV l k o=emp:=by
 have e:swE l k o v=ptE l k v:=by unfold swE;rw[if_pos h,if_pos ho,if_neg hv]
 refine⟨e,?_,if_pos ho⟩
 unfold swL ptL;rw[e,if_neg hv]
instance:DecidableEq Pr:=fun a b=>decidable_of_iff (a.key=b.key∧a.val=b.val) ⟨fun h=>by
 obtain⟨k,v⟩:=a
 obtain⟨k',v'⟩:=b
 obtain⟨rfl,rfl⟩:=h
 rfl,fun h=>by rw[h];exact⟨rfl,rfl⟩⟩
theorem fnd_parts{l:List Pr}(h:Up l)(k:ByteArray):(fin l k=idx l k∧fnd l k=none)∨(fin l k=idx l k+1∧∃x,l[idx l k]?=some x∧fnd l k=some x.val):=by
 obtain⟨_,_,h3,h4⟩:=wo_parts h k
 obtain⟨h5,h6⟩:=fin_le l k
 by_cases hh:fin l k=idx l k
 ·rw[if_pos hh] at h3;exact .inl ⟨hh,h3⟩
 ·rw[if_neg hh] at h3
  have hx:l[idx l k]?=some (l[idx l k]'(by omega)):=List.getElem?_eq_getElem (by omega)
  exact .inr ⟨by omega,_,hx,by rw[h3,hx];rfl⟩
end Dct
end
section
namespace Que
def vchk(v:Val.V):Int:=if v.k=0 then 1 else Val.chk v
structure Right(n:Int)(l:List Val.V):Prop where
 lo:1≤n
 hi:n≤8
 len:(l.length:Int)≤n
 ok:∀v∈l,vchk v=0
instance (n:Int) (l:List Val.V):Decidable (Right n l):=decidable_of_iff (1≤n∧n≤8∧(l.length:Int)≤n∧∀v∈l,vchk v=0) ⟨fun h=>⟨h.1,h.2.1,h.2.2.1,h.2.2.2⟩,fun h=>⟨h.lo,h.hi,h.len,h.ok⟩⟩
def qchk(n:Int)(l:List Val.V):Int:=if Right n l then 0 else 1
def emp:Val.V:=⟨0,0,0,⟨#[]⟩⟩
def psE(n:Int)(l:List Val.V)(v:Val.V):Int:=if Right n l then (if vchk v=0 then (if (l.length:Int)=n then 6 else 0) else vchk v) else 1
def psL(n:Int)(l:List Val.V)(v:Val.V):List Val.V:=if psE n l v=0 then l++[v] else l
def ppE(n:Int)(l:List Val.V):Int:=if Right n l then (if l.length=0 then 10 else 0) else 1
def ppL(n:Int)(l:List Val.V):List Val.V:=if Right n l then l.drop 1 else l
def ppV(n:Int)(l:List Val.V):Val.V:=if Right n l then l.headD emp else emp
theorem qchk_ok{n:Int}{l:List Val.V}(h:Right n l):qchk n l=0:=if_pos h
theorem qchk_bad{n:Int}{l:List Val.V}(h:¬Right n l):qchk n l=1:=if_neg h
theorem ps_bad{n:Int}{l:List Val.V}(h:¬Right n l)(v:Val.V):psE n l v=1∧psL n l v=l:=by
 have e:psE n l v=1:=if_neg h
 exact⟨e,by unfold psL;rw[e];rfl⟩
theorem ps_chk{n:Int}{l:List Val.V}(h:Right n l){v:Val.V}(hv:¬vchk v=0):psE n l v=vchk v∧psL n l v=l:=by
 have e:psE n l v=vchk v:=by unfold psE;rw[if_pos h,if_neg hv]
 exact⟨e,by unfold psL;rw[e,if_neg hv]⟩
theorem ps_full{n:Int}{l:List Val.V}(h:Right n l){v:Val.V}(hv:vchk v=0)(hn:(l.length:Int)=n):psE n l v=6∧psL n l v=l:=by
 have e:psE n l v=6:=by unfold psE;rw[if_pos h,if_pos hv,if_pos hn]
 exact⟨e,by unfold psL;rw[e];rfl⟩
theorem ps_ok{n:Int}{l:List Val.V}(h:Right n l){v:Val.V}(hv:vchk v=0)(hn:¬(l.length:Int)=n):psE n l v=0∧psL n l v=l++[v]:=by
 have e:psE n l v=0:=by unfold psE;rw[if_pos h,if_pos hv,if_neg hn]
 exact⟨e,by unfold psL;rw[e];rfl⟩
theorem pp_bad{n:Int}{l:List Val.V}(h:¬Right n l):ppE n l=1∧ppL n l=l∧ppV n l=emp:=⟨if_neg h,if_neg h,if_neg h⟩
theorem pp_none{n:Int}{l:List Val.V}(h:Right n l)(h0:l.length=0):ppE n l=10∧ppL n l=[]∧ppV n l=emp:=by
 have e:l=[]:=List.length_eq_zero_iff.1 h0
 subst e
 exact⟨by unfold ppE;rw[if_pos h];rfl,by unfold ppL;rw[if_pos h];rfl,by unfold ppV;rw[if_pos h];rfl⟩
theorem pp_ok{n:Int}{l:List Val.V}(h:Right n l){v:Val.V}(hv:l[0]?=some v):ppE n l=0∧ppL n l=l.drop 1∧ppV n l=v:=by
 cases l with
 | nil=>cases hv
 | cons x r=>
  injection hv with hv
  subst hv
  exact⟨by unfold ppE;rw[if_pos h];rfl,by unfold ppL;rw[if_pos h],by unfold ppV;rw[if_pos h];rfl⟩
theorem ps_right{n:Int}{l:List Val.V}(h:Right n l)(v:Val.V):Right n (psL n l v):=by
 unfold psL
 split
 next he=>
  unfold psE at he
  rw[if_pos h] at he
  split at he
  next hv=>
   split at he
   ·cases he
   next hn=>
    have hlen:=h.len
    refine⟨h.lo,h.hi,?_,fun x hx=>?_⟩
    ·rw[List.length_append]
     show((l.length+1:Nat):Int)≤n
     omega
    ·rcases List.mem_append.1 hx with hx|hx
     ·exact h.ok x hx
     ·rw[List.mem_singleton] at hx;subst hx;exact hv
  next hv=>exact absurd he hv
 next=>exact h
theorem drop_right{n:Int}{l:List Val.V}(h:Right n l):Right n (l.drop 1):=by
 have hl:=h.len
 refine⟨h.lo,h.hi,?_,fun x hx=>h.ok x (List.mem_of_mem_drop hx)⟩
 rw[List.length_drop]
 omega
theorem pp_right{n:Int}{l:List Val.V}(h:Right n l):Right n (ppL n l):=by
 unfold ppL
 rw[if_pos h]
 exact drop_right h
theorem right_nil{n:Int}(h1:1≤n)(h2:n≤8):Right n []:=⟨h1,h2,by show(0:Int)≤n;omega,fun x hx=>by simp at hx⟩
theorem right_told{n:Int}{l:List Val.V}{m:Nat}(hl:l.length=m)(h1:1≤n)(h2:n≤8)(h3:(m:Int)≤n):(∀(i:Nat) v,l[i]?=some v→¬vchk v=0→decide (Right n l)=false)∧((∀(i:Nat) v,i<m→l[i]?=some v→vchk v=0)→decide (Right n l)=true):=by
 subst hl
 refine⟨fun i v hi hv=>decide_eq_false fun h=>hv (h.ok v (List.mem_of_getElem? hi)),fun h=>decide_eq_true ⟨h1,h2,h3,fun v hv=>?_⟩⟩
 obtain⟨i,hi,e⟩:=List.getElem_of_mem hv
 exact h i v hi (by rw[List.getElem?_eq_getElem hi,e])
end Que
end
section
namespace Gt
open Lck
def Right(m:Int)(l:List Rf):Prop:=1≤m∧m≤5∧(l.length:Int)<m∧Lck.Right l
instance (m:Int) (l:List Rf):Decidable (Right m l):=by unfold Right;infer_instance
def wtE(m:Int)(l:List Rf)(r:Rf):Int:=if Right m l∧ok r then (if asked l r.c then 11 else 0) else 1
def wtL(m:Int)(l:List Rf)(r:Rf):List Rf:=if wtE m l r=0 then (if (l.length:Int)+1=m then [] else l++[r]) else l
def wtA(m:Int)(l:List Rf)(r:Rf):List Rf:=if wtE m l r=0∧(l.length:Int)+1=m then l++[r] else []
def drL(m:Int)(l:List Rf)(r:Rf):List Rf:=if Right m l then wo l r else l
variable {m:Int}{l:List Rf}{r:Rf}
theorem wt_no{z:Int}(e:wtE m l r=z)(hz:¬z=0):wtE m l r=z∧wtL m l r=l∧wtA m l r=[]:=by
 have e2:¬wtE m l r=0:=by rw[e];exact hz
 exact⟨e,if_neg e2,if_neg (fun h=>e2 h.1)⟩
theorem wt_bad(h:¬(Right m l∧ok r)):wtE m l r=1∧wtL m l r=l∧wtA m l r=[]:=wt_no (if_neg h) (by decide)
theorem wt_held(h1:Right m l)(h2:ok r)(h3:asked l r.c=true):wtE m l r=11∧wtL m l r=l∧wtA m l r=[]:=
 wt_no (by unfold wtE;rw[if_pos ⟨h1,h2⟩,if_pos h3]) (by decide)
theorem wt_ok(h1:Right m l)(h2:ok r)(h3:asked l r.c=false):wtE m l r=0:=by
 unfold wtE;rw[if_pos ⟨h1,h2⟩,if_neg (by rw[h3];decide)]
theorem wt_full(h1:Right m l)(h2:ok r)(h3:asked l r.c=false)(h4:(l.length:Int)+1=m):wtE m l r=0∧wtL m l r=[]∧wtA m l r=l++[r]:=by
 have e:=wt_ok h1 h2 h3
 exact⟨e,by unfold wtL;rw[if_pos e,if_pos h4],if_pos ⟨e,h4⟩⟩
theorem wt_more(h1:Right m l)(h2:ok r)(h3:asked l r.c=false)(h4:¬(l.length:Int)+1=m):wtE m l r=0∧wtL m l r=l++[r]∧wtA m l r=[]:=by
 have e:=wt_ok h1 h2 h3
 exact⟨e,by unfold wtL;rw[if_pos e,if_neg h4],if_neg (fun h=>h4 h.2)⟩
theorem wt_is(h:wtE m l r=0):Right m l∧ok r∧asked l r.c=false:=by
 unfold wtE at h
 split at h
 next hr=>
  split at h
  ·cases h
  next ha=>exact⟨hr.1,hr.2,Bool.eq_false_iff.2 ha⟩
 next=>cases h
theorem dr_yes(h:Right m l):drL m l r=wo l r:=if_pos h
theorem dr_no(h:¬Right m l):drL m l r=l:=if_neg h
theorem right_of(h1:1≤m)(h2:m≤5):Right m []:=⟨h1,h2,by show(0:Int)<m;omega,right_nil⟩
theorem right_ap(h1:Right m l)(h2:ok r)(h3:asked l r.c=false)(h4:¬(l.length:Int)+1=m):Right m (l++[r]):=
 ⟨h1.1,h1.2.1,by
  have:=h1.2.2.1
  rw[List.length_append]
  show((l.length+1:Nat):Int)<m
  omega,Lck.right_ap h1.2.2.2 h2 h3⟩
theorem right_wo(h:Right m l)(r:Rf):Right m (wo l r):=
 ⟨h.1,h.2.1,by
  have:=h.2.2.1
  have:=wo_le l r
  omega,right_filter _ h.2.2.2⟩
end Gt
end
section
open Go.RowKit
theorem frombits(b:Nat)(w:World):(callFunc 195 #[.int .u64 (b:Int)]).run Tryz.prog w=.ok (.value (.float .f64 b)) w:=by kernel_rfl
theorem tobits(b:Nat)(w:World):(callFunc 194 #[.float .f64 b]).run Tryz.prog w=.ok (.value (.int .u64 (b:Int))) w:=by kernel_rfl
theorem nan_lt(t:Nat):t%2*2 ^ 63+0x7ff0000000000000+1+t / 2%(2 ^ 52-1)<18446744073709551616:=by omega
theorem nan_is(t:Nat):Num.inf<(t%2*2 ^ 63+0x7ff0000000000000+1+t / 2%(2 ^ 52-1))%Num.sgn:=by
 have h1:t / 2%(2 ^ 52-1)<2 ^ 52-1:=Nat.mod_lt _ (by decide)
 generalize t / 2%(2 ^ 52-1)=x at *
 unfold Num.inf Num.sgn
 rcases Nat.mod_two_eq_zero_or_one t with h|h<;>rw[h]<;>omega
theorem run_add(a b:Nat)(w:World):∃r n,r<18446744073709551616∧Num.IsSum a b r∧(binOp .add 206 (.float .f64 a) (.float .f64 b)).run Tryz.prog w=.ok (.float .f64 r) (w.drewN n):=by
 cases h:Ieee.double.add a b with
 | some r=>
  refine⟨r,0,Ieee.Format.add_lt _ h,Or.inl h,?_⟩
  exact run_float_arith w .add _ .f64 a b r h
 | none=>
  refine⟨Question.cut (.nanBits .f64 a b) (w.tape w.drawn (.nanBits .f64 a b)),1,?_,Or.inr ⟨h,?_⟩,?_⟩
  ·exact nan_lt _
  ·exact nan_is _
  ·have hf:FloatKind.f64.format.add a b=none:=h
   simp[binOp,Op.floatArith,hf,Question.forced]
   rfl
theorem add_any(a b:Nat)(w:World)(ha:a<18446744073709551616)(hb:b<18446744073709551616):
  Calls Tryz.prog 191 #[.int .u64 a,.int .u64 b] w fun e w'=>e=.returned (.int .u64 (Num.S a b:Nat))∧∃n,w'=w.drewN n:=by
 have HM:=zH (fun(c:Nat) (hc:c<18446744073709551616) w=>make_any c w hc)
 obtain⟨r,n,hr,hs,hrun⟩:=run_add (Num.M a) (Num.M b) w
 have he:=hs.eq
 rw[Num.S_M] at he
 have hE:=zH he
 clear hs he
 have hf:=frombits
 have hb2:=tobits
 have HR:=zH hrun
 clear hrun
 go_enter Tryz.func191,Tryz.ntmps191
 go_wp2_with fail
 refine(HM.out a ha _).mono ?_;rintro e w' ⟨rfl,rfl⟩
 go_wp2_with fail
 refine(HM.out b hb _).mono ?_;rintro e w' ⟨rfl,rfl⟩
 have hrun:=HR.out
 go_wp2_with fail
 clear hrun
 refine(HM.out r hr _).mono ?_;rintro e w' ⟨rfl,rfl⟩
 go_wp2_with fail
 go_ret
 exact⟨by rw[hE.out];rfl,n,rfl⟩
end
section
open Go.RowKit
theorem max_u64:IntKind.u64.max=18446744073709551615:=by decide
theorem rank_any(b:Nat)(w:World)(h:b<18446744073709551616):
  Calls Tryz.prog 177 #[.int .u64 b] w fun e w'=>e=.returned (.int .u64 (Num.rank b:Nat))∧w=w':=by
 have hm:=Num.M_lt h
 have hc:=zH (Num.and_sign _ hm)
 have hx:=zH (Num.turn_all _ hm)
 have ho:=zH (Num.or_sign (Num.M b))
 have hr:Hid (Num.rank b=if Num.M b<Num.sgn then Num.M b+Num.sgn else 18446744073709551615-Num.M b):=zH rfl
 have HH:=zH (fun w=>make_any b w h)
 generalize Num.M b=x at *
 go_enter Tryz.func177,Tryz.ntmps177
 go_wp2_with (go_at_call 121;refine(HH.out _).mono ?_;rintro e w' ⟨rfl,rfl⟩)
 ·have h1:(bits BinOp.and IntKind.u64 (x:Int) 9223372036854775808 != 0)=true:=by assumption
  go_ret
  rw[hc.out,bne_iff_ne] at h1
  unfold Num.sgn at *
  refine⟨ret_int ?_,rfl⟩
  rw[max_u64,hx.out,hr.out,if_neg (by omega)]
 ·have h1:(bits BinOp.and IntKind.u64 (x:Int) 9223372036854775808 != 0)=false:=by assumption
  go_ret
  rw[hc.out,bne_eq_false_iff_eq] at h1
  unfold Num.sgn at *
  refine⟨ret_int ?_,rfl⟩
  rw[ho.out (by omega),hr.out,if_pos (by omega)]
theorem cmp_lt{a b:Nat}(h:Num.rank a<Num.rank b):Num.cmp a b = -1:=by unfold Num.cmp;rw[if_pos h]
theorem cmp_gt{a b:Nat}(h:Num.rank b<Num.rank a):Num.cmp a b=1:=by unfold Num.cmp;rw[if_neg (by omega),if_pos h]
theorem cmp_eq{a b:Nat}(h:Num.rank a=Num.rank b):Num.cmp a b=0:=by unfold Num.cmp;rw[if_neg (by omega),if_neg (by omega)]
theorem cmp_any(a b:Nat)(w:World)(ha:a<18446744073709551616)(hb:b<18446744073709551616):
  Calls Tryz.prog 151 #[.int .u64 a,.int .u64 b] w fun e w'=>e=.returned (.int .i64 (Num.cmp a b))∧w=w':=by
 have H1:=zH (fun w=>rank_any a w ha)
 have H2:=zH (fun w=>rank_any b w hb)
 have c1:=@cmp_lt a b
 have c2:=@cmp_gt a b
 have c3:=@cmp_eq a b
 have C1:=zH c1
 have C2:=zH c2
 have C3:=zH c3
 clear c1 c2 c3
 generalize Num.rank a=x at *
 generalize Num.rank b=y at *
 go_enter Tryz.func151,Tryz.ntmps151
 go_wp2_with fail
 refine(H1.out _).mono ?_;rintro e w' ⟨rfl,rfl⟩
 go_wp2_with fail
 refine(H2.out _).mono ?_;rintro e w' ⟨rfl,rfl⟩
 rcases Nat.lt_trichotomy x y with h|h|h
 ·go_wp2_with fail
  go_ret
  exact⟨by rw[C1.out h];rfl,rfl⟩
 ·have hh:=zH h
  clear h
  have n1:¬x<y:=by have:=hh.out;omega
  have n2:¬y<x:=by have:=hh.out;omega
  go_wp2_with fail
  go_ret
  exact⟨by rw[C3.out hh.out];rfl,rfl⟩
 ·have n1:¬x<y:=by omega
  go_wp2_with fail
  go_ret
  exact⟨by rw[C2.out h];rfl,rfl⟩
end
section
open Go.RowKit
def least(a b:Nat):Nat:=if Num.rank b<Num.rank a then Num.M b else Num.M a
def most(a b:Nat):Nat:=if Num.rank a<Num.rank b then Num.M b else Num.M a
theorem least_any(a b:Nat)(w:World)(ha:a<18446744073709551616)(hb:b<18446744073709551616):
  Calls Tryz.prog 192 #[.int .u64 a,.int .u64 b] w fun e w'=>e=.returned (.int .u64 (least a b:Nat))∧w=w':=by
 have H:=zH (fun w=>cmp_any b a w hb ha)
 have H1:=zH (fun w=>make_any a w ha)
 have H2:=zH (fun w=>make_any b w hb)
 by_cases h:Num.rank b<Num.rank a
 ·have hl:Hid (least a b=Num.M b):=zH (if_pos h)
  rw[cmp_lt h] at H
  clear h
  generalize least a b=l at *
  go_enter Tryz.func192,Tryz.ntmps192
  go_wp2_with fail
  refine(H.out _).mono ?_;rintro e w' ⟨rfl,rfl⟩
  go_wp2_with fail
  refine(H2.out _).mono ?_;rintro e w' ⟨rfl,rfl⟩
  go_wp2_with fail
  go_ret
  exact⟨by rw[hl.out];rfl,rfl⟩
 ·have hl:Hid (least a b=Num.M a):=zH (if_neg h)
  have hc:0≤Num.cmp b a:=by have h2:=Num.cmp_turn b a;have h3:=(Num.cmp_le (a:=a) (b:=b)).2 (by omega);omega
  generalize Num.cmp b a=c at *
  clear h
  generalize least a b=l at *
  go_enter Tryz.func192,Tryz.ntmps192
  go_wp2_with fail
  refine(H.out _).mono ?_;rintro e w' ⟨rfl,rfl⟩
  go_wp2_with fail
  refine(H1.out _).mono ?_;rintro e w' ⟨rfl,rfl⟩
  go_wp2_with fail
  go_ret
  exact⟨by rw[hl.out];rfl,rfl⟩
theorem most_any(a b:Nat)(w:World)(ha:a<18446744073709551616)(hb:b<18446744073709551616):
  Calls Tryz.prog 193 #[.int .u64 a,.int .u64 b] w fun e w'=>e=.returned (.int .u64 (most a b:Nat))∧w=w':=by
 have H:=zH (fun w=>cmp_any b a w hb ha)
 have H1:=zH (fun w=>make_any a w ha)
 have H2:=zH (fun w=>make_any b w hb)
 by_cases h:Num.rank a<Num.rank b
 ·have hl:Hid (most a b=Num.M b):=zH (if_pos h)
  rw[cmp_gt h] at H
  clear h
  generalize most a b=l at *
  go_enter Tryz.func193,Tryz.ntmps193
  go_wp2_with fail
  refine(H.out _).mono ?_;rintro e w' ⟨rfl,rfl⟩
  go_wp2_with fail
  refine(H2.out _).mono ?_;rintro e w' ⟨rfl,rfl⟩
  go_wp2_with fail
  go_ret
  exact⟨by rw[hl.out];rfl,rfl⟩
 ·have hl:Hid (most a b=Num.M a):=zH (if_neg h)
  have hc:Num.cmp b a≤0:=(Num.cmp_le (a:=b) (b:=a)).2 (by omega)
  generalize Num.cmp b a=c at *
  clear h
  generalize most a b=l at *
  go_enter Tryz.func193,Tryz.ntmps193
  go_wp2_with fail
  refine(H.out _).mono ?_;rintro e w' ⟨rfl,rfl⟩
  go_wp2_with fail
  refine(H1.out _).mono ?_;rintro e w' ⟨rfl,rfl⟩
  go_wp2_with fail
  go_ret
  exact⟨by rw[hl.out];rfl,rfl⟩
end
section
structure Mtr where
 n:Int
 s:Nat
 l:Nat
 m:Nat
 deriving DecidableEq
namespace Mt
def zero:Mtr:=⟨0,0,0,0⟩
def Fit(x:Mtr):Prop:=x.n≤9223372036854775807∧x.s<18446744073709551616∧x.l<18446744073709551616∧x.m<18446744073709551616
def Ok(x:Mtr):Prop:=(x.n=0∧x.s=0∧x.l=0∧x.m=0)∨(0<x.n∧Num.M x.s=x.s∧Num.M x.l=x.l∧Num.M x.m=x.m∧Num.rank x.l≤Num.rank x.m)
instance (x:Mtr):Decidable (Ok x):=by unfold Ok;infer_instance
theorem least_lt{a b:Nat}(ha:a<18446744073709551616)(hb:b<18446744073709551616):least a b<18446744073709551616:=by
 unfold least;split
 ·exact Num.M_lt hb
 ·exact Num.M_lt ha
theorem most_lt{a b:Nat}(ha:a<18446744073709551616)(hb:b<18446744073709551616):most a b<18446744073709551616:=by
 unfold most;split
 ·exact Num.M_lt hb
 ·exact Num.M_lt ha
theorem fit_zero:Fit zero:=⟨by decide,by decide,by decide,by decide⟩
theorem ok_zero:Ok zero:=.inl ⟨rfl,rfl,rfl,rfl⟩
theorem ok_none{n:Int}{s l m:Nat}(hn:¬0<n):decide ((⟨n,s,l,m⟩:Mtr)=⟨0,0,0,0⟩)=decide (Ok ⟨n,s,l,m⟩):=by
 rw[decide_eq_decide]
 simp only[Mtr.mk.injEq]
 constructor
 ·exact fun h=>.inl h
 ·rintro (h|⟨h,_⟩)
  ·exact h
  ·exact absurd h hn
theorem ok_s{n:Int}{s l m:Nat}(hn:0<n)(h:¬Num.M s=s):¬Ok ⟨n,s,l,m⟩:=by
 rintro (⟨h0,_⟩|⟨_,h1,_⟩)
 ·have h0:n=0:=h0
  omega
 ·exact h h1
theorem ok_l{n:Int}{s l m:Nat}(hn:0<n)(h:¬Num.M l=l):¬Ok ⟨n,s,l,m⟩:=by
 rintro (⟨h0,_⟩|⟨_,_,h1,_⟩)
 ·have h0:n=0:=h0
  omega
 ·exact h h1
theorem ok_m{n:Int}{s l m:Nat}(hn:0<n)(h:¬Num.M m=m):¬Ok ⟨n,s,l,m⟩:=by
 rintro (⟨h0,_⟩|⟨_,_,_,h1,_⟩)
 ·have h0:n=0:=h0
  omega
 ·exact h h1
theorem ok_all{n:Int}{s l m:Nat}(hn:0<n)(hs:Num.M s=s)(hl:Num.M l=l)(hm:Num.M m=m):Ok ⟨n,s,l,m⟩↔Num.cmp l m≤0:=by
 rw[Num.cmp_le]
 constructor
 ·rintro (⟨h0,_⟩|⟨_,_,_,_,h1⟩)
  ·have h0:n=0:=h0
   omega
  ·exact h1
 ·exact fun h=>.inr ⟨hn,hs,hl,hm,h⟩
def ad(x:Mtr)(b:Nat):Mtr:=if ¬Ok x then x else if x.n=9223372036854775807 then x else if x.n=0 then ⟨1,Num.M b,Num.M b,Num.M b⟩ else ⟨x.n+1,Num.S x.s (Num.M b),least x.l (Num.M b),most x.m (Num.M b)⟩
def adE(x:Mtr):Int:=if ¬Ok x then 1 else if x.n=9223372036854775807 then 6 else 0
theorem ad_bad{x:Mtr}(h:¬Ok x)(b:Nat):ad x b=x:=if_pos h
theorem adE_bad{x:Mtr}(h:¬Ok x):adE x=1:=if_pos h
theorem ad_full{x:Mtr}(h:Ok x)(hn:x.n=9223372036854775807)(b:Nat):ad x b=x:=by unfold ad;rw[if_neg (by simpa using h),if_pos hn]
theorem adE_full{x:Mtr}(h:Ok x)(hn:x.n=9223372036854775807):adE x=6:=by unfold adE;rw[if_neg (by simpa using h),if_pos hn]
theorem ad_one{x:Mtr}(h:Ok x)(hn:x.n=0)(b:Nat):ad x b=⟨1,Num.M b,Num.M b,Num.M b⟩:=by unfold ad;rw[if_neg (by simpa using h),if_neg (by omega),if_pos hn]
theorem adE_one{x:Mtr}(h:Ok x)(hn:x.n≠9223372036854775807):adE x=0:=by unfold adE;rw[if_neg (by simpa using h),if_neg hn]
theorem ad_more{x:Mtr}(h:Ok x)(hn:x.n≠9223372036854775807)(h0:x.n≠0)(b:Nat):ad x b=⟨x.n+1,Num.S x.s (Num.M b),least x.l (Num.M b),most x.m (Num.M b)⟩:=by unfold ad;rw[if_neg (by simpa using h),if_neg hn,if_neg h0]
theorem ok_pos{x:Mtr}(h:Ok x):0≤x.n:=by
 rcases h with ⟨h,_⟩|⟨h,_⟩<;>omega
structure Rd where
 k:Int
 n:Int
 f:Nat
 e:Int
 deriving DecidableEq
def rd(x:Mtr)(q:Int):Rd:=
 if ¬Ok x∨q<0∨3<q then ⟨0,0,0,1⟩ else if q=0 then ⟨1,x.n,0,0⟩ else if x.n=0 then ⟨0,0,0,10⟩ else ⟨2,0,(if q=1 then x.s else if q=2 then x.l else x.m),0⟩
theorem rd_bad{x:Mtr}{q:Int}(h:¬Ok x∨q<0∨3<q):rd x q=⟨0,0,0,1⟩:=if_pos h
theorem rd_in{x:Mtr}{q:Int}(h:Ok x)(h1:0≤q)(h2:q≤3):¬(¬Ok x∨q<0∨3<q):=by
 rintro (h3|h3|h3)
 ·exact h3 h
 ·omega
 ·omega
theorem rd_0{x:Mtr}(h:Ok x):rd x 0=⟨1,x.n,0,0⟩:=by unfold rd;rw[if_neg (rd_in h (by decide) (by decide)),if_pos rfl]
theorem rd_no{x:Mtr}{q:Int}(h:Ok x)(h1:0≤q)(h2:q≤3)(hq:q≠0)(hn:x.n=0):rd x q=⟨0,0,0,10⟩:=by unfold rd;rw[if_neg (rd_in h h1 h2),if_neg hq,if_pos hn]
theorem rd_1{x:Mtr}(h:Ok x)(hn:¬x.n=0):rd x 1=⟨2,0,x.s,0⟩:=by unfold rd;rw[if_neg (rd_in h (by decide) (by decide)),if_neg (by decide),if_neg hn,if_pos rfl]
theorem rd_2{x:Mtr}(h:Ok x)(hn:¬x.n=0):rd x 2=⟨2,0,x.l,0⟩:=by unfold rd;rw[if_neg (rd_in h (by decide) (by decide)),if_neg (by decide),if_neg hn,if_neg (by decide),if_pos rfl]
theorem rd_3{x:Mtr}(h:Ok x)(hn:¬x.n=0):rd x 3=⟨2,0,x.m,0⟩:=by unfold rd;rw[if_neg (rd_in h (by decide) (by decide)),if_neg (by decide),if_neg hn,if_neg (by decide),if_neg (by decide)]
end Mt
end
end Go.Proofs.YtddpmlcpfmmbeaaGreat
