/- States of a replica: which may be; what leaving, an opening, a fresh request, an event do; what they leave may be. No condition but those named. -/
import Derived.Test.YtahdlddbbnjloaaGreatNAB
set_option linter.unusedSimpArgs false
set_option linter.unusedVariables false
set_option maxRecDepth 100000
set_option maxHeartbeats 25600000
open Go.RowKit
namespace Go.Proofs.YtahdlddbbnjloaaGreat
section
namespace Ap
open au
def jS(o:Ob):List Rf:=if o.kind=3 then o.refs.drop 1 else o.refs
def hld(o:Ob):List Rf:=if o.kind=3 then o.refs.take 1 else []
def W(l:List Ob):List Rf:=l.flatMap jS
def H(l:List Ob):List Rf:=l.flatMap hld
theorem uW{o:Ob}(h:One o=true)(h3:¬o.kind=3)(h4:¬o.kind=4):o.refs=[]:=by
 obtain⟨_,b,_⟩:=fD h;obtain⟨_,_,_,_,b4,_,_⟩:=jl b
 rcases b4 with g|g
 ·unfold f3 at g
  have:=of_decide_eq_false g;exact List.length_eq_zero_iff.1 (by omega)
 ·unfold au.h3 at g
  have:=of_decide_eq_true g;omega
theorem gB{o:Ob}(h:One o=true):aY.Right o.refs:=by
 obtain⟨_,_,c⟩:=fD h;by_cases h3:o.kind=3
 ·rw[zo h3] at c;exact of_decide_eq_true c
 by_cases h4:o.kind=4
 ·rw[vE h4,Bool.and_eq_true] at c;exact(of_decide_eq_true c.1).2.2.2
 rw[uW h h3 h4];exact aY.iN
theorem Bw{o:Ob}(h:One o=true)(h4:o.kind=4):Gt.Right o.cap o.refs:=by
 obtain⟨_,_,c⟩:=fD h;rw[vE h4,Bool.and_eq_true] at c;exact of_decide_eq_true c.1
theorem EF{l:List Rf}(h:aY.Right l){r:Rf}(hr:r∈l):aY.ok r:=by
 obtain⟨i,hi,e⟩:=List.getElem_of_mem hr;exact(h i hi r (by rw[List.getElem?_eq_getElem hi,e])).1
theorem alM{l:List Ob}(h:au.Right l){r:Rf}(hr:r∈H l):aY.ok r:=by
 obtain⟨o,ho,hr⟩:=List.mem_flatMap.1 hr;refine EF (gB (h.ok o ho)) ?_;unfold hld at hr
 split at hr
 ·exact List.mem_of_mem_take hr
 ·cases hr
def nm(r:Rf)(x:Rf):Bool:=!decide (aY.mine x r)
theorem Xa{o:Ob}(h:One o=true)(r:Rf):(jS (dr o r)++(xg o r).map (·.r)).Perm ((jS o).filter (nm r))∧∀x∈hld (dr o r),(x∈hld o∧nm r x=true)∨x∈(xg o r).map (·.r):=by
 by_cases h3:o.kind=3
 ·have hR:=gB h
  have e1:dr o r = { o with refs:=aY.sS o.refs r }:=if_pos h3;have e2:xg o r=held (aY.JB o.refs r) (aY.zN o.refs r):=if_pos h3;have e3:jS (dr o r)=(aY.sS o.refs r).drop 1:=by rw[e1];exact if_pos h3
  have e4:hld (dr o r)=(aY.sS o.refs r).take 1:=by rw[e1];exact if_pos h3
  have e5:jS o=o.refs.drop 1:=if_pos h3;have e6:hld o=o.refs.take 1:=if_pos h3;rw[e2,e3,e4,e5,e6];generalize o.refs=l at *
  clear e1 e2 e3 e4 e5 e6 h h3;have eL:aY.sS l r=l.filter (nm r):=if_pos hR;have ew:aY.wo l r=l.filter (nm r):=rfl
  match l,hR with
  | [],hR=>
   have:=aY.Fu (r:=r) hR rfl;rw[this.2.2,eL];exact SF
  | a::m,hR=>
   rw[eL];by_cases ha:aY.mine a r
   ·have ef:(a::m).filter (nm r)=m.filter (nm r):=List.filter_cons_of_neg (by unfold nm;rw[decide_eq_true ha];decide)
    rw[ef]
    cases hm:m.filter (nm r) with
    | nil=>
     have:=aY.Fu (r:=r) hR (by rw[ew,ef,hm];rfl);rw[this.2.2,List.drop_succ_cons,List.drop_zero,hm];exact SF
    | cons b q=>
     have hb:nm r b=true:=(List.mem_filter.1 (by rw[hm];exact List.mem_cons_self ..:b∈m.filter (nm r))).2
     have hne:¬b=a:=fun e=>by
      rw[e] at hb;unfold nm at hb;rw[decide_eq_true ha] at hb;cases hb
     obtain⟨_,g2,g3⟩:=aY.WZ (r:=r) (x:=b) (y:=a) hR (by rw[ew,ef,hm];rfl) rfl hne;rw[g2,g3,List.drop_succ_cons,List.drop_zero,List.drop_succ_cons,List.drop_zero,hm];refine⟨?_,fun x hx=>.inr ?_⟩
     ·exact(List.perm_append_comm (l₁:=q) (l₂:=[b]))
     ·simpa [held] using hx
   ·have hna:nm r a=true:=by unfold nm;rw[decide_eq_false ha];rfl
    have ef:(a::m).filter (nm r)=a::m.filter (nm r):=List.filter_cons_of_pos hna;rw[ef];have:=aY.Oy (r:=r) (x:=a) (y:=a) hR (by rw[ew,ef];rfl) rfl rfl;rw[this.2.2,List.drop_succ_cons,List.drop_zero,List.drop_succ_cons,List.drop_zero];refine⟨?_,fun x hx=>.inl ?_⟩
    ·show(m.filter (nm r)++[]).Perm _
     rw[List.append_nil]
    ·have:x=a:=by simpa using hx
     rw[this];exact⟨by simp,hna⟩
 by_cases h4:o.kind=4
 ·have e1:dr o r = { o with refs:=Gt.sS o.cap o.refs r }:=by unfold dr;rw[if_neg h3,if_pos h4]
  have e2:xg o r=[]:=if_neg h3;have e3:jS (dr o r)=Gt.sS o.cap o.refs r:=by rw[e1];exact if_neg h3
  have e4:hld (dr o r)=[]:=by rw[e1];exact if_neg h3
  have e5:jS o=o.refs:=if_neg h3;rw[e2,e3,e4,e5,Gt.Mj (Bw h h4)];refine⟨?_,fun x hx=>by cases hx⟩
  show(aY.wo o.refs r++[]).Perm _
  rw[List.append_nil];exact List.Perm.refl _
 ·have e1:dr o r=o:=by unfold dr;rw[if_neg h3,if_neg h4]
  have e2:xg o r=[]:=if_neg h3;have e5:jS o=[]:=by unfold jS;rw[if_neg h3];exact uW h h3 h4
  have e4:hld o=[]:=if_neg h3;rw[e1,e2,e5,e4];exact SF
theorem DI:∀{l:List Ob},(∀o∈l,One o=true)→∀r:Rf,(W (l.map fun o=>dr o r)++(l.flatMap fun o=>xg o r).map (·.r)).Perm ((W l).filter (nm r))∧∀x∈H (l.map fun o=>dr o r),(x∈H l∧nm r x=true)∨x∈(l.flatMap fun o=>xg o r).map (·.r)
 | [],_,r=>⟨List.Perm.refl _,fun x hx=>by cases hx⟩
 | o::l,h,r=>by
  obtain⟨a1,a2⟩:=Xa (h o (List.mem_cons_self ..)) r;obtain⟨b1,b2⟩:=DI (l:=l) (fun x hx=>h x (List.mem_cons_of_mem _ hx)) r
  constructor
  ·show((jS (dr o r)++W (l.map fun o=>dr o r))++(xg o r++l.flatMap fun o=>xg o r).map (·.r)).Perm ((jS o++W l).filter (nm r))
   rw[List.map_append,List.filter_append];refine List.Perm.trans ?_ (a1.append b1);rw[List.append_assoc,List.append_assoc];refine List.Perm.append_left _ ?_;rw[← List.append_assoc,← List.append_assoc];exact List.Perm.append_right _ List.perm_append_comm
  ·intro x hx
   show(x∈hld o++H l∧_)∨x∈(xg o r++l.flatMap fun o=>xg o r).map (·.r)
   rw[List.map_append,List.mem_append,List.mem_append]
   rcases List.mem_append.1 (show x∈hld (dr o r)++H (l.map fun o=>dr o r) from hx) with hx|hx
   ·rcases a2 x hx with ⟨g1,g2⟩|g
    ·exact .inl ⟨.inl g1,g2⟩
    ·exact .inr (.inl g)
   ·rcases b2 x hx with ⟨g1,g2⟩|g
    ·exact .inl ⟨.inr g1,g2⟩
    ·exact .inr (.inr g)
theorem Mi{l:List Ob}(h:au.Right l)(r:Rf):(W (aO l r)++(jR l r).map (·.r)).Perm ((W l).filter (nm r))∧∀x∈H (aO l r),(x∈H l∧nm r x=true)∨x∈(jR l r).map (·.r):=by
 have e1:aO l r=l.map fun o=>dr o r:=if_pos h
 have e2:jR l r=l.flatMap fun o=>xg o r:=if_pos h
 rw[e1,e2];exact DI h.ok r
theorem rV{α:Type}(f:Ob→List α){l:List Ob}(h:Up l)(k:ByteArray)(o:Ob):((put l k o).flatMap f).Perm (f o++(wo l k).flatMap f):=by
 unfold put;rw[← (je h k).1,List.flatMap_append,List.flatMap_append,List.flatMap_append,List.append_assoc];have:[o].flatMap f=f o:=by simp
 rw[this,← List.append_assoc,← List.append_assoc];exact List.Perm.append_right _ List.perm_append_comm
theorem vT{α:Type}(f:Ob→List α){l:List Ob}(h:Up l){k:ByteArray}{o:Ob}(ho:iV l k=some o):(l.flatMap f).Perm (f o++(wo l k).flatMap f):=by
 have:=rV f h k o;rw[UE h ho] at this;exact this
theorem Oq:∀{l:List Ob} {k:ByteArray},iV l k=none→∀x∈l,¬x.name=k
 | [],_,_,_,hx,_=>by cases hx
 | y::m,k,ho,x,hx,e=>by
  unfold iV at ho
  split at ho
  ·cases ho
  next g=>
   rcases List.mem_cons.1 hx with h|hx
   ·exact g (h▸e)
   ·exact Oq ho x hx e
theorem QC{l:List Ob}{k:ByteArray}(ho:iV l k=none):wo l k=l:=ru (Oq ho)
def Moves(w h w' h':List Rf)(r:Rf)(later:Bool)(y:List Rf):Prop:=
 (later=false→(w'++y).Perm w∧∀x∈h',x∈h∨x∈y∨x=r)∧(later=true→y=[]∧w'.Perm (w++[r])∧∀x∈h',x∈h)
theorem dI{w:List Rf}{h:List Rf}{r:Rf}:Moves w h w h r false []:=⟨fun _=>⟨by rw[List.append_nil],fun x hx=>.inl hx⟩,fun e=>by cases e⟩
theorem Kj{o:Ob}(h:One o=true)(h3:o.kind=3)(r:Rf):Moves (jS o) (hld o) (jS (take o r).o) (hld (take o r).o) r (take o r).later ((take o r).outs.map (·.r)):=by
 have hR:=gB h;have e1:jS (take o r).o=(aY.CP o.refs r).drop 1:=if_pos h3;have e2:hld (take o r).o=(aY.CP o.refs r).take 1:=if_pos h3;have e3:jS o=o.refs.drop 1:=if_pos h3;have e4:hld o=o.refs.take 1:=if_pos h3;have e5:(take o r).later=(decide (aY.Ak o.refs r=0)&&!aY.Pj o.refs r):=rfl;have e6:(take o r).outs.map (·.r)=[]:=rfl;rw[e1,e2,e3,e4,e5,e6];generalize o.refs=l at *
 clear e1 e2 e3 e4 e5 e6 h h3;by_cases hk:aY.ok r
 case neg=>
  obtain⟨g1,g2,g3⟩:=aY.Ki (l:=l) (r:=r) (fun g=>hk g.2);rw[g1,g2,g3];exact dI
 by_cases ha:aY.asked l r.c=true
 ·obtain⟨g1,g2,g3⟩:=aY.Ng hR hk ha
  rw[g1,g2,g3];exact dI
 ·obtain⟨g1,g2,g3⟩:=aY.acW hR hk (Bool.eq_false_iff.2 ha)
  rw[g1,g2,g3]
  cases l with
  | nil=>
   refine⟨fun _=>⟨List.Perm.refl _,fun x hx=>?_⟩,fun e=>by cases e⟩;exact .inr (.inr (by simpa using hx))
  | cons a m=>
   refine⟨fun e=>(by cases e),fun _=>⟨rfl,?_,fun x hx=>?_⟩⟩
   ·show(m++[r]).Perm (m++[r])
    exact List.Perm.refl _
   ·simpa using hx
theorem Mc{o:Ob}(h:One o=true)(h3:o.kind=3)(r:Rf):Moves (jS o) (hld o) (jS (free o r).o) (hld (free o r).o) r (free o r).later ((free o r).outs.map (·.r)):=by
 have hR:=gB h;have e1:jS (free o r).o=(aY.Fj o.refs r).drop 1:=if_pos h3;have e2:hld (free o r).o=(aY.Fj o.refs r).take 1:=if_pos h3;have e3:jS o=o.refs.drop 1:=if_pos h3;have e4:hld o=o.refs.take 1:=if_pos h3;have e5:(free o r).later=false:=rfl;have e6:(free o r).outs=held (aY.Sk o.refs r) (aY.Rb o.refs r):=rfl;rw[e1,e2,e3,e4,e5,e6];generalize o.refs=l at *
 clear e1 e2 e3 e4 e5 e6 h h3
 cases l with
 | nil=>
  obtain⟨_,g2,g3,g4⟩:=aY.Oj (r:=r) hR rfl;rw[g2,g4];exact dI
 | cons a m=>
  by_cases ha:aY.mine a r
  case neg=>
   obtain⟨_,g2,g3,g4⟩:=aY.Iq (r:=r) hR rfl ha;rw[g2,g4];exact dI
  cases m with
  | nil=>
   obtain⟨_,g2,g3,g4⟩:=aY.Oo (r:=r) hR rfl ha rfl;rw[g2,g4];exact⟨fun _=>⟨List.Perm.refl _,fun x hx=>by cases hx⟩,fun e=>by cases e⟩
  | cons b q=>
   obtain⟨_,g2,g3,g4⟩:=aY.Om (r:=r) (x:=a) (y:=b) hR rfl ha rfl;rw[g2,g3,g4];refine⟨fun _=>⟨?_,fun x hx=>.inr (.inl ?_)⟩,fun e=>by cases e⟩
   ·show(q++[b]).Perm (b::q)
    exact(List.perm_append_comm (l₁:=q) (l₂:=[b]))
   ·simpa [held] using hx
theorem JX{o:Ob}(h:One o=true)(h4:o.kind=4)(r:Rf):Moves (jS o) (hld o) (jS (wait o r).o) (hld (wait o r).o) r (wait o r).later ((wait o r).outs.map (·.r)):=by
 have hR:=Bw h h4;have h3:¬o.kind=3:=by omega
 have ew:∀m d,jS { o with refs:=m,round:=d } = m:=fun m d=>if_neg h3
 have eh:∀m d,hld { o with refs:=m,round:=d } = []:=fun m d=>if_neg h3
 have e0:jS o=o.refs:=if_neg h3;have e1:hld o=[]:=if_neg h3
 have same:∀e:Int,¬e=0→Gt.qQ o.cap o.refs r=e→Moves (jS o) (hld o) (jS (wait o r).o) (hld (wait o r).o) r (wait o r).later ((wait o r).outs.map (·.r)):=fun e he g=>by
  obtain⟨g1,g2,g3⟩:=Gt.yE g he
  have:wait o r=⟨{ o with refs:=o.refs },err e,false,[]⟩:=by
   unfold wait;rw[g3,g2,g1,decide_eq_false he]
   rfl
  rw[this];exact dI
 by_cases hk:aY.ok r
 case neg=>exact same 1 (by decide) (Gt.JG (fun g=>hk g.2)).1
 by_cases ha:aY.asked o.refs r.c=true
 ·exact same 11 (by decide) (Gt.MZ hR hk ha).1
 have ha:=Bool.eq_false_iff.2 ha;by_cases hf:(o.refs.length:Int)+1=o.cap
 ·obtain⟨g1,g2,g3⟩:=Gt.tC hR hk ha hf
  have hlen:(o.refs++[r]).length=o.refs.length+1:=by simp
  unfold wait;rw[g1,g2,g3,if_neg (by rw[hlen];omega)]
  split
  ·exact dI
  ·refine⟨fun _=>⟨?_,fun x hx=>?_⟩,fun e=>by cases e⟩
   ·show(jS { o with refs:=[],round:=o.round+1 } ++ (xB ((o.refs++[r]).take ((o.refs++[r]).length-1)) ⟨0,num o.round⟩).map (·.r)).Perm _
    rw[ew,e0,hlen,Nat.add_sub_cancel,List.take_left];unfold xB;rw[List.map_map]
    show([]++o.refs.map id).Perm _
    rw[List.map_id,aK]
   ·rw[eh] at hx;cases hx
 ·obtain⟨g1,g2,g3⟩:=Gt.tu hR hk ha hf
  unfold wait;rw[g1,g2,g3,if_pos (show([]:List Rf).length=0 from rfl)];refine⟨fun e=>(by cases e),fun _=>⟨rfl,?_,fun x hx=>?_⟩⟩
  ·have:jS { o with refs:=o.refs++[r] } = o.refs++[r]:=if_neg h3
   rw[this,e0]
  ·have e:hld { o with refs:=o.refs++[r] } = []:=if_neg h3
   rw[e] at hx;cases hx
theorem RL{o:Ob}(h:One o=true)(r:Rf){c:aI.C}(hk:4≤c.k∧c.k≤17)(h4:¬c.k=4)(h5:¬c.k=5)(hf:fits c.k o.kind=true):
  Moves (jS o) (hld o) (jS (act o r c).o) (hld (act o r c).o) r (act o r c).later ((act o r c).outs.map (·.r)):=by
 unfold act
 rcases uh hk h4 h5 with k|k|k|k|k|k|k|k|k|k|k|k<;>rw[k] at hf<;>simp only[k]<;>unfold fits at hf<;>simp at hf ⊢
 ·exact dI
 ·exact dI
 ·exact dI
 ·exact dI
 ·exact dI
 ·exact dI
 ·exact Kj h hf r
 ·exact Mc h hf r
 ·exact JX h hf r
 ·exact dI
 ·exact dI
 ·exact dI
theorem DJ{l:List Ob}(h:au.Right l)(r:Rf)(c:aI.C):Moves (W l) (H l) (W (iq l r c).l) (H (iq l r c).l) r (iq l r c).later ((iq l r c).outs.map (·.r)):=by
 by_cases hc:aX l r c=0
 case neg=>
  rw[tX hc];exact dI
 obtain⟨⟨_,hr,hk⟩,he,hn,ho⟩:=sU hc;by_cases h4:c.k=4
 ·rw[wO hc h4]
  have hf:iV l c.name=none:=by
   have:=(hn h4).1
   cases hx:iV l c.name with
   | none=>rfl
   | some x=>rw[hx] at this;cases this
  have e1:jS (fresh c)=[]:=by unfold jS fresh;split<;>rfl
  have e2:hld (fresh c)=[]:=by unfold hld fresh;split<;>rfl
  have p1:=rV jS h.up c.name (fresh c);have p2:=rV hld h.up c.name (fresh c);rw[QC hf] at p1 p2;rw[e1] at p1;rw[e2] at p2;refine⟨fun _=>⟨?_,fun x hx=>.inl ?_⟩,fun e=>by cases e⟩
  ·show(W (put l c.name (fresh c))++[]).Perm _
   rw[List.append_nil];exact p1
  ·exact p2.mem_iff.1 hx
 obtain⟨o,ho1,ho2,ho3⟩:=ho h4;have hO:=h.ok o (BA ho1).1;by_cases h5:c.k=5
 ·rw[wP hc h5]
  have hr0:o.refs=[]:=List.length_eq_zero_iff.1 (by have:=fun g=>ho3 ⟨h5,g⟩;omega);have e1:jS o=[]:=by unfold jS;rw[hr0];split<;>rfl
  have e2:hld o=[]:=by unfold hld;rw[hr0];split<;>rfl
  have p1:=vT jS h.up ho1;have p2:=vT hld h.up ho1;rw[e1] at p1;rw[e2] at p2;refine⟨fun _=>⟨?_,fun x hx=>.inl ?_⟩,fun e=>by cases e⟩
  ·show(W (wo l c.name)++[]).Perm _
   rw[List.append_nil];exact p1.symm
  ·exact p2.symm.mem_iff.1 hx
 rw[wQ hc h4 h5 ho1];have p1:=vT jS h.up ho1;have p2:=vT hld h.up ho1;have q1:=rV jS h.up c.name (act o r c).o;have q2:=rV hld h.up c.name (act o r c).o;obtain⟨m1,m2⟩:=RL hO r hk h4 h5 ho2;dsimp only;refine⟨fun hl=>?_,fun hl=>?_⟩
 ·obtain⟨a,b⟩:=m1 hl
  refine⟨?_,fun x hx=>?_⟩
  ·refine List.Perm.trans ?_ p1.symm
   refine List.Perm.trans (q1.append_right _) ?_;refine List.Perm.trans ?_ (a.append_right _);rw[List.append_assoc,List.append_assoc];exact SG
  ·rcases List.mem_append.1 (q2.mem_iff.1 hx) with g|g
   ·rcases b x g with g|g
    ·exact .inl (p2.symm.mem_iff.1 (List.mem_append.2 (.inl g)))
    ·exact .inr g
   ·exact .inl (p2.symm.mem_iff.1 (List.mem_append.2 (.inr g)))
 ·obtain⟨a,b,d⟩:=m2 hl
  refine⟨a,?_,fun x hx=>?_⟩
  ·refine List.Perm.trans q1 ?_
   refine List.Perm.trans (b.append_right _) ?_;refine List.Perm.trans ?_ (p1.symm.append_right _);rw[List.append_assoc,List.append_assoc];exact SG
  ·rcases List.mem_append.1 (q2.mem_iff.1 hx) with g|g
   ·exact p2.symm.mem_iff.1 (List.mem_append.2 (.inl (d x g)))
   ·exact p2.symm.mem_iff.1 (List.mem_append.2 (.inr g))
end Ap
end
section
namespace Ap
open au
theorem mM{e:Int}{v:Val.V}(h2:Val.aX v=0)(h1:0≤e∧e≤18:=by decide):rep ⟨e,v⟩=true:=by
 unfold rep;rw[decide_eq_true h1.1,decide_eq_true h1.2,decide_eq_true h2]
 rfl
theorem BP:Val.aX ⟨0,0,0,⟨#[]⟩⟩=0:=Val.Jg
theorem nQ{e:Int}(h:0≤e∧e≤18):rep (err e)=true:=mM (h1:=h) BP
theorem tJ(v:Val.V):0≤Val.aX v∧Val.aX v≤18:=by
 unfold Val.aX
 repeat' split
 all_goals decide
theorem Ru(c:aI.C):0≤aI.aX c∧aI.aX c≤18:=by
 have h1:=tJ c.old;have h2:=tJ c.val;unfold aI.aX
 repeat' split
 all_goals first|decide|exact h1|exact h2
theorem KY(k:ByteArray)(v:Val.V):0≤aQ.jG k v∧aQ.jG k v≤18:=by
 have h:=tJ v;unfold aQ.jG
 repeat' split
 all_goals first|decide|exact h
theorem Kc(v:Val.V):0≤fG.jT v∧fG.jT v≤18:=by
 have h:=tJ v;unfold fG.jT
 repeat' split
 all_goals first|decide|exact h
theorem UM{k:ByteArray}{v:Val.V}(h:aQ.jG k v=0):Val.aX v=0:=by
 unfold aQ.jG at h
 split at h
 ·cases h
 ·split at h
  ·cases h
  ·exact h
theorem LX(l:List aQ.Pr)(k:ByteArray):Val.aX (aQ.sJ l k)=0:=by
 unfold aQ.sJ
 split
 next h=>
  cases hf:aQ.iV l k with
  | none=>exact BP
  | some v=>
   obtain⟨x,hx,_,e⟩:=aQ.Bz hf;rw[← e];exact UM (h.ok x hx)
 next=>exact BP
theorem Dy(l:List aQ.Pr)(k:ByteArray):0≤aQ.uZ l k∧aQ.uZ l k≤18:=by
 unfold aQ.uZ
 repeat' split
 all_goals decide
theorem Df(l:List aQ.Pr)(k:ByteArray)(v:Val.V):0≤aQ.vR l k v∧aQ.vR l k v≤18:=by
 have h:=KY k v;unfold aQ.vR
 repeat' split
 all_goals first|decide|exact h
theorem Pt(l:List aQ.Pr)(k:ByteArray)(o v:Val.V):0≤aQ.CS l k o v∧aQ.CS l k o v≤18:=by
 have h:=Df l k v;unfold aQ.CS
 repeat' split
 all_goals first|decide|exact h
theorem aeB(l:List aQ.Pr)(k:ByteArray)(o:Val.V):Val.aX (aQ.Kl l k o)=0:=by
 unfold aQ.Kl
 split
 ·exact BP
 ·exact LX l k
theorem Ql(n:Int)(l:List Val.V)(v:Val.V):0≤fG.yX n l v∧fG.yX n l v≤18:=by
 have h:=Kc v;unfold fG.yX
 repeat' split
 all_goals first|decide|exact h
theorem Qn(n:Int)(l:List Val.V):0≤fG.Sd n l∧fG.Sd n l≤18:=by
 unfold fG.Sd
 repeat' split
 all_goals decide
theorem afd(n:Int)(l:List Val.V):Val.aX (fG.KW n l)=0:=by
 unfold fG.KW
 split
 next h=>
  cases l with
  | nil=>exact BP
  | cons v m=>
   have:=h.ok v (List.mem_cons_self ..)
   show Val.aX v=0
   unfold fG.jT at this
   split at this
   ·cases this
   ·exact this
 next=>exact BP
theorem RI(x:kC):0≤Mt.Sn x∧Mt.Sn x≤18:=by
 unfold Mt.Sn
 repeat' split
 all_goals decide
theorem Pk(l:List Rf)(r:Rf):0≤aY.Ak l r∧aY.Ak l r≤18:=by
 unfold aY.Ak
 repeat' split
 all_goals decide
theorem Rc(l:List Rf)(r:Rf):0≤aY.Cr l r∧aY.Cr l r≤18:=by
 unfold aY.Cr
 repeat' split
 all_goals decide
theorem Pd(m:Int)(l:List Rf)(r:Rf):0≤Gt.qQ m l r∧Gt.qQ m l r≤18:=by
 unfold Gt.qQ
 repeat' split
 all_goals decide
theorem Li{n:Int}:Val.aX (num n)=0:=Val.OI n
theorem aeT(x:kC)(q:Int):rep ⟨(Mt.rd x q).e,⟨(Mt.rd x q).k,(Mt.rd x q).n,(Mt.rd x q).f,⟨#[]⟩⟩⟩=true:=by
 unfold Mt.rd
 split
 ·exact nQ (e:=1) (by decide)
 next h=>
  split
  ·exact mM (e:=0) (Val.OI x.n)
  ·split
   ·exact nQ (e:=10) (by decide)
   next hn=>
    refine mM (e:=0) (Val.RA ?_);have hok:Mt.Ok x:=Decidable.byContradiction fun g=>h (.inl g)
    rcases hok with ⟨g,_⟩|⟨_,g1,g2,g3,_⟩
    ·exact absurd g hn
    ·split
     ·exact g1
     ·split
      ·exact g2
      ·exact g3
theorem SX(o:Ob)(r:Rf):rep (wait o r).p=true∧∀y∈(wait o r).outs,rep y.p=true:=by
 generalize hx:wait o r=x;unfold wait at hx
 split at hx
 ·subst hx;exact⟨nQ (Pd ..),fun y hy=>by cases hy⟩
 split at hx
 ·subst hx;exact⟨nQ (e:=6) (by decide),fun y hy=>by cases hy⟩
 ·subst hx
  refine⟨mM (e:=0) (Li),fun y hy=>?_⟩;obtain⟨x,_,e⟩:=List.mem_map.1 hy;rw[← e];exact mM (e:=0) (Li)
theorem vK:rep rz=true:=mM BP
theorem Io{y:Rf}{b:Bool}:∀z∈held y b,rep z.p=true:=fun z hz=>by
 unfold held at hz
 split at hz
 ·rw[List.mem_singleton.1 hz];exact vK
 ·cases hz
theorem abR{o:Ob}(r:Rf)(c:aI.C):rep (act o r c).p=true∧∀y∈(act o r c).outs,rep y.p=true:=by
 have none:∀y∈([]:List Ot),rep y.p=true:=fun y hy=>by cases hy
 generalize hx:act o r c=x;unfold act at hx;by_cases h12:c.k=12
 ·rw[if_pos h12] at hx;subst hx;exact⟨nQ (Pk ..),none⟩
 rw[if_neg h12] at hx;by_cases Bu:c.k=13
 ·rw[if_pos Bu] at hx;subst hx;exact⟨nQ (Rc ..),Io⟩
 rw[if_neg Bu] at hx;by_cases uY:c.k=14
 ·rw[if_pos uY] at hx;subst hx;exact SX o r
 rw[if_neg uY] at hx;by_cases h6:c.k=6
 ·rw[if_pos h6] at hx;subst hx;exact⟨mM (h1:=(Dy ..)) (LX ..),none⟩
 rw[if_neg h6] at hx;by_cases h7:c.k=7
 ·rw[if_pos h7] at hx;subst hx;exact⟨nQ (Df ..),none⟩
 rw[if_neg h7] at hx;by_cases h8:c.k=8
 ·rw[if_pos h8] at hx;subst hx;exact⟨mM (h1:=(Dy ..)) (LX ..),none⟩
 rw[if_neg h8] at hx;by_cases h9:c.k=9
 ·rw[if_pos h9] at hx;subst hx;exact⟨mM (h1:=(Pt ..)) (aeB ..),none⟩
 rw[if_neg h9] at hx;by_cases h10:c.k=10
 ·rw[if_pos h10] at hx;subst hx;exact⟨nQ (Ql ..),none⟩
 rw[if_neg h10] at hx;by_cases h11:c.k=11
 ·rw[if_pos h11] at hx;subst hx;exact⟨mM (h1:=(Qn ..)) (afd ..),none⟩
 rw[if_neg h11] at hx;by_cases h15:c.k=15
 ·rw[if_pos h15] at hx;subst hx;exact⟨nQ (RI ..),none⟩
 rw[if_neg h15] at hx;by_cases h16:c.k=16
 ·rw[if_pos h16] at hx;subst hx;exact⟨aeT ..,none⟩
 rw[if_neg h16] at hx;by_cases LV:c.k=17
 ·rw[if_pos LV] at hx;subst hx;exact⟨mM (e:=0) (Li),none⟩
 rw[if_neg LV] at hx;subst hx;exact⟨vK,none⟩
theorem Rz(l:List Ob)(r:Rf)(c:aI.C):0≤aX l r c∧aX l r c≤18:=by
 have h:=Ru c;unfold aX MB Mx
 repeat' split
 all_goals first|decide|exact h
theorem OC(l:List Ob)(r:Rf)(c:aI.C):rep (iq l r c).p=true∧∀y∈(iq l r c).outs,rep y.p=true:=by
 have none:∀y∈([]:List Ot),rep y.p=true:=fun y hy=>by cases hy
 generalize hx:iq l r c=x;unfold iq at hx
 split at hx
 ·subst hx;exact⟨nQ (Rz ..),none⟩
 split at hx
 ·subst hx;exact⟨vK,none⟩
 split at hx
 ·subst hx;exact⟨vK,none⟩
 split at hx
 ·subst hx;exact⟨vK,none⟩
 ·subst hx;exact abR r c
theorem IX(l:List Ob){r:Rf}:∀y∈jR l r,rep y.p=true:=fun y hy=>by
 unfold jR at hy
 split at hy
 ·obtain⟨o,_,hy⟩:=List.mem_flatMap.1 hy
  unfold xg at hy
  split at hy
  ·exact Io y hy
  ·cases hy
 ·cases hy
end Ap
end
section
namespace Ap
open au aG
structure St where
 n:Int
 l:List Ob
 t:T
structure Ok(s:St):Prop where
 n:0≤s.n
 l:au.Right s.l
 t:aG.Right s.t
 w:∀r∈W s.l,aG.look s.t r=3
 h:∀r∈H s.l,Hd s.t r∧¬(r.r=(s.t.get r.c).rq∧(s.t.get r.c).dn=false)
 p:∀c∈([0,1,2,3,4]:List Int),cnt (W s.l) c=if opn (s.t.get c)=true then 1 else 0
instance (s:St):Decidable (Ok s):=decidable_of_iff (0≤s.n∧au.Right s.l∧aG.Right s.t∧(∀r∈W s.l,aG.look s.t r=3)∧(∀r∈H s.l,Hd s.t r∧¬(r.r=(s.t.get r.c).rq∧(s.t.get r.c).dn=false))∧∀c∈([0,1,2,3,4]:List Int),cnt (W s.l) c=if opn (s.t.get c)=true then 1 else 0)
 ⟨fun⟨a,b,c,d,e,f⟩=>⟨a,b,c,d,e,f⟩,fun h=>⟨h.n,h.l,h.t,h.w,h.h,h.p⟩⟩
theorem five{c:Int}:c∈([0,1,2,3,4]:List Int)↔0≤c∧c<5:=by
 simp only[List.mem_cons,List.not_mem_nil,or_false];omega
theorem Ok.j{s:St}(h:Ok s):J s.t (W s.l) [] (H s.l):=
 ⟨h.t,fun r hr=>h.w r (by simpa using hr),fun c hc=>by rw[List.append_nil];exact h.p c (five.2 hc),fun r hr=>⟨mR (alM h.l hr),(h.h r hr).1,fun e1 e2=>absurd ⟨e1,e2⟩ (h.h r hr).2⟩⟩
theorem J.state{s:St}(hn:0≤s.n)(hl:au.Right s.l)(j:J s.t (W s.l) [] (H s.l)):Ok s:=
 ⟨hn,hl,j.ok,fun r hr=>j.w r (by simpa using hr),fun r hr=>⟨(j.h r hr).2.1,fun g=>by have:=(j.h r hr).2.2 g.1 g.2;cases this⟩,fun c hc=>by have:=j.p c (five.1 hc);rwa [List.append_nil] at this⟩
def rf(t:T)(c:Int):Rf:=⟨c,(t.get c).ep,(t.get c).rq⟩
def dV(Y:List Ot):List (Rf×Rp):=Y.map fun y=>(y.r,y.p)
theorem Nv(Y:List Ot):(dV Y).map (·.1)=Y.map (·.r):=by unfold dV;rw[List.map_map];rfl
theorem Nu{Y:List Ot}(h:∀y∈Y,rep y.p=true):∀z∈dV Y,rep z.2=true:=fun z hz=>by
 exact SK
def iR(s:St)(c:Int):St:=⟨s.n,aO s.l (rf s.t c),Ap.ends (fF s.t c) (dV (jR s.l (rf s.t c)))⟩
def lN(s:St)(c:Int):List Ot:=(if (s.t.get c).dn=true then [] else [⟨rf s.t c,err 14⟩])++jR s.l (rf s.t c)
theorem adf{s:St}(h:Ok s){c:Int}{x:Rf}(hx:x∈W s.l∨x∈H s.l):nm (rf s.t c) x=!decide (x.c=c):=by
 have he:=h.j.mine (r:=x) (hx.imp (fun g=>by simpa using g) id);unfold nm
 congr 1
 refine decide_eq_decide.2 ⟨fun g=>g.1,fun g=>⟨g,?_⟩⟩
 show x.e=(s.t.get c).ep
 rw[he,g]
theorem EY{s:St}(h:Ok s){c:Int}(hc:0≤c∧c<5)(hl:(s.t.get c).live=true):
  J (fF s.t c) (W (aO s.l (rf s.t c))) ((jR s.l (rf s.t c)).map (·.r)) (H (aO s.l (rf s.t c)))∧∀y∈jR s.l (rf s.t c),¬y.r.c=c∧y.r∈W s.l:=by
 obtain⟨p1,p2⟩:=Mi h.l (rf s.t c);have ew:(W s.l).filter (nm (rf s.t c))=(W s.l).filter fun x=>!decide (x.c=c):=List.filter_congr fun x hx=>adf h (.inl hx)
 rw[ew] at p1
 constructor
 ·refine(h.j.close hc hl).perm ?_ fun x hx=>?_
  ·rw[List.filter_nil,List.append_nil];exact p1
  ·rcases p2 x hx with ⟨g1,g2⟩|g
   ·refine .inl ⟨List.mem_filter.2 ⟨g1,?_⟩,fun g=>by cases g⟩
    rw[adf h (.inr g1)] at g2;exact g2
   ·exact .inr g
 ·intro y hy
  have:y.r∈(W s.l).filter fun x=>!decide (x.c=c):=p1.mem_iff.1 (List.mem_append.2 (.inr (List.mem_map.2 ⟨y,hy,rfl⟩)))
  obtain⟨g1,g2⟩:=List.mem_filter.1 this;exact⟨by simpa using g2,g1⟩
theorem Bh{s:St}(h:Ok s){c:Int}(hc:0≤c∧c<5)(hl:(s.t.get c).live=true):Ok (iR s c):=by
 obtain⟨j,_⟩:=EY h hc hl;refine J.state (s:=iR s c) h.n (uV h.l _) (J.ends ?_ (Nu (IX s.l)));rw[Nv,List.append_nil];exact j
theorem abj{t:T}{r:Rf}{x:Rp}{c:Int}(hc:0≤c∧c<5)(hn:¬r.c=c):(ji t r x).get c=t.get c:=by
 unfold ji
 split
 next g=>
  obtain⟨hk,_,_⟩:=jE g.1;exact jH (mR hk) hc (fun e=>hn e.symm) _
 next=>rfl
theorem IV{c:Int}(hc:0≤c∧c<5):∀{Y:List (Rf×Rp)} {t:T},(∀y∈Y,¬y.1.c=c)→(Ap.ends t Y).get c=t.get c
 | [],_,_=>rfl
 | y::m,t,h=>(IV hc (Y:=m) (t:=ji t y.1 y.2) fun z hz=>h z (List.mem_cons_of_mem _ hz)).trans (abj hc (h y (List.mem_cons_self ..)))
theorem QI{s:St}(h:Ok s){c:Int}(hc:0≤c∧c<5)(hl:(s.t.get c).live=true):(iR s c).t.get c=iA (s.t.get c):=by
 obtain⟨_,hy⟩:=EY h hc hl;have e:fF s.t c=s.t.set c (iA (s.t.get c)):=if_pos ⟨hc.1,hc.2,h.t,hl⟩
 show(Ap.ends (fF s.t c) _).get c=_
 rw[IV hc,e,bQ hc];intro z hz;obtain⟨y,hy2,e⟩:=List.mem_map.1 hz;rw[← e];exact(hy y hy2).1
theorem yO(s:S):(iA s).live=false∧(iA s).ep=s.ep∧(iA s).rq=s.rq∧(iA s).dn=true∧(s.dn=true→(iA s).p=s.p)∧(s.dn=false→(iA s).p=err 14):=by
 unfold iA
 split
 next g=>exact⟨rfl,rfl,rfl,g,fun _=>rfl,fun e=>by rw[g] at e;cases e⟩
 next g=>exact⟨rfl,rfl,rfl,rfl,fun e=>absurd e g,fun _=>rfl⟩
def left(s:St)(c:Int):St:=if (s.t.get c).live=true then iR s c else s
def mP(s:St)(r:Rf):St:=⟨(left s r.c).n,(left s r.c).l,jv (left s r.c).t r⟩
def vU(s:St)(r:Rf):List Ot:=⟨r,rW (left s r.c).t r⟩::(if (s.t.get r.c).live=true then lN s r.c else [])
theorem NQ{s:St}(h:Ok s){c:Int}(hc:0≤c∧c<5):Ok (left s c)∧((left s c).t.get c).live=false∧((left s c).t.get c).ep=(s.t.get c).ep∧(left s c).n=s.n:=by
 unfold left
 split
 next hl=>
  have e:=QI h hc hl;have g:=yO (s.t.get c);exact⟨Bh h hc hl,by rw[e];exact g.1,by rw[e];exact g.2.1,rfl⟩
 next hl=>exact⟨h,Bool.eq_false_iff.2 hl,rfl,rfl⟩
theorem QH{s:St}(h:Ok s){r:Rf}(hl:aG.look s.t r=1)(h0:r.r=0):aG.look (left s r.c).t r=1:=by
 obtain⟨hk,_,hs⟩:=jE hl;obtain⟨g1,_,g3,_⟩:=NQ h (mR hk);unfold aG.look;rw[if_pos ⟨hk,g1.t⟩];unfold nH;rw[if_pos];rw[g3]
 rcases wF hs with g|⟨_,g,_,_⟩
 ·exact g
 ·exfalso
  have:=(kN h.t (mR hk));by_cases he:(s.t.get r.c).ep=0
  ·have:=vV this he
   rw[this] at g;have:r.r=0+1:=g;omega
  ·have:=(one_pos this he).2.2.1
   omega
theorem ZI{s:St}(h:Ok s){r:Rf}(hk:aY.ok r)(h0:r.r=0):Ok (mP s r):=by
 obtain⟨g1,g2,_,g4⟩:=NQ h (mR hk);refine J.state (s:=mP s r) (by show 0≤(left s r.c).n;rw[g4];exact h.n) g1.l ?_
 show J (jv (left s r.c).t r) _ [] _
 by_cases hl:aG.look (left s r.c).t r=1
 ·exact g1.j.open_ hl h0 g2
 ·have:jv (left s r.c).t r=(left s r.c).t:=if_neg fun g=>hl g.1
  rw[this];exact g1.j
def touch(s:St)(r:Rf):St:=⟨s.n,s.l,ji (iT s.t r) r rz⟩
def kept(s:St)(r:Rf)(c:aI.C):St:=⟨s.n,(iq s.l r c).l,Ap.ends (ji (iT s.t r) r (iq s.l r c).p) (dV (iq s.l r c).outs)⟩
def gH(s:St)(r:Rf)(c:aI.C):St:=
 if c.k=3 then touch s r else if c.k=2 then iR (touch s r) r.c
 else if (iq s.l r c).later=true then ⟨s.n,(iq s.l r c).l,iT s.t r⟩ else kept s r c
def kS(s:St)(r:Rf)(c:aI.C):List Ot:=
 if c.k=3 then [⟨r,rz⟩] else if c.k=2 then ⟨r,rz⟩::lN (touch s r) r.c
 else if (iq s.l r c).later=true then [] else ⟨r,(iq s.l r c).p⟩::(iq s.l r c).outs
theorem Aj{s:St}(h:Ok s){r:Rf}(hl:aG.look s.t r=1)(h0:¬r.r=0):Ok (touch s r):=
 J.state (s:=touch s r) h.n h.l ((h.j.begin hl h0).end_ (x:=rz) vK)
theorem OO{t:T}{r:Rf}(hl:aG.look t r=1)(h0:¬r.r=0):(iT t r).get r.c = { t.get r.c with rq:=r.r,dn:=false,p:=rz }:=by
 unfold iT;rw[if_pos ⟨hl,h0⟩,bQ (sF hl (by decide))]
theorem Cb{t:T}{r:Rf}(hl:aG.look t r=1)(h0:¬r.r=0):aG.look (iT t r) r=3:=by
 obtain⟨hk,hR,g1,g2,g3,g4⟩:=jO hl h0;refine Vn hk (DU hR r) ?_ ?_ ?_<;>rw[OO hl h0];exact g1
theorem Fq{t:T}{r:Rf}{x:Rp}(hl:aG.look t r=3)(hx:rep x=true):(ji t r x).get r.c = { t.get r.c with dn:=true,p:=x }:=by
 unfold ji;rw[if_pos ⟨hl,hx⟩,bQ (sF hl (by decide))]
theorem CO{s:St}{r:Rf}{x:Rp}(hl:aG.look s.t r=1)(h0:¬r.r=0)(hx:rep x=true):(ji (iT s.t r) r x).get r.c = { s.t.get r.c with rq:=r.r,dn:=true,p:=x }:=by
 rw[Fq (Cb hl h0) hx,OO hl h0]
theorem Ws{s:St}(h:Ok s){r:Rf}(hl:aG.look s.t r=1)(h0:¬r.r=0)(c:aI.C):Ok (gH s r c):=by
 have hc:=sF hl (by decide);have hlive:=(jO hl h0).2.2.2.2.1;unfold gH
 split
 ·exact Aj h hl h0
 split
 ·refine Bh (Aj h hl h0) hc ?_
  show((ji (iT s.t r) r rz).get r.c).live=true
  rw[CO hl h0 vK];exact hlive
 have j:=h.j.begin hl h0;have hnot:=h.j.QZ hl h0;obtain⟨m1,m2⟩:=DJ h.l r c;obtain⟨d1,d2⟩:=OC s.l r c;have hR:=Rt h.l r c
 split
 next hla=>
  obtain⟨_,a,b⟩:=m2 hla;refine J.state (s:=⟨s.n,(iq s.l r c).l,iT s.t r⟩) h.n hR (j.perm ?_ fun x hx=>.inl ⟨b x hx,fun g=>?_⟩)
  ·rw[List.append_nil];exact a
  ·rw[aK] at g
   rw[List.mem_singleton.1 g] at hx;exact absurd (b r hx) hnot
 next hla=>
  obtain⟨a,b⟩:=m1 (Bool.eq_false_iff.2 hla)
  have j2:J (iT s.t r) (W (iq s.l r c).l) (r::(iq s.l r c).outs.map (·.r)) (H (iq s.l r c).l):=by
   refine j.perm ?_ fun x hx=>?_
   ·refine List.Perm.trans List.perm_middle ?_
    exact acJ
   ·rcases b x hx with g|g|g
    ·refine .inl ⟨g,fun g2=>?_⟩
     rw[aK] at g2;rw[List.mem_singleton.1 g2] at g;exact absurd g hnot
    ·exact .inr (List.mem_cons_of_mem _ g)
    ·rw[g];exact .inr (List.mem_cons_self ..)
  have j3:=j2.end_ (x:=(iq s.l r c).p) d1;refine J.state (s:=kept s r c) h.n hR (J.ends ?_ (Nu d2));rw[Nv,List.append_nil];exact j3
def ref(e:aI.E):Rf:=⟨e.c,e.e,e.r⟩
def up(s:St):St:=⟨s.n+1,s.l,s.t⟩
def Can(s:St)(e:aI.E):Prop:=Ok s∧aI.fits e∧¬s.n=9223372036854775807
instance (s:St) (e:aI.E):Decidable (Can s e):=by unfold Can;infer_instance
def zL(s:St)(e:aI.E):St:=
 if e.cmd.k=18 then (if (s.t.get e.c).live=true∧(s.t.get e.c).ep=e.e then iR s e.c else s)
 else if aG.look s.t (ref e)=1 then (if e.r=0 then mP s (ref e) else gH s (ref e) e.cmd) else s
def DC(s:St)(e:aI.E):List Ot:=
 if e.cmd.k=18 then (if (s.t.get e.c).live=true∧(s.t.get e.c).ep=e.e then lN s e.c else [])
 else if aG.look s.t (ref e)=1 then (if e.r=0 then vU s (ref e) else kS s (ref e) e.cmd)
 else if aG.look s.t (ref e)=2 then [⟨ref e,(s.t.get e.c).p⟩] else if aG.look s.t (ref e)=4 then [⟨ref e,err 14⟩] else []
def Cu(s:St)(e:aI.E):St:=if Can s e then zL (up s) e else s
def Xx(s:St)(e:aI.E):List Ot:=if Can s e then DC (up s) e else []
theorem ahW{s:St}(h:Ok s):Ok (up s):=⟨by show 0≤s.n+1;have:=h.n;omega,h.l,h.t,h.w,h.h,h.p⟩
theorem BF{e:aI.E}(h:aI.fits e):aY.ok (ref e):=h.1
theorem go_ok{s:St}(h:Ok s){e:aI.E}(he:aI.fits e):Ok (zL s e):=by
 have hk:=BF he;unfold zL
 split
 ·split
  next g=>exact Bh h (mR hk) g.1
  next=>exact h
 ·split
  next hl=>
   split
   next h0=>exact ZI h hk h0
   next h0=>exact Ws h hl h0 e.cmd
  next=>exact h
theorem adx{s:St}(h:Ok s)(e:aI.E):Ok (Cu s e):=by
 unfold Cu
 split
 next g=>exact go_ok (ahW h) g.2.1
 next=>exact h
end Ap
end
end Go.Proofs.YtahdlddbbnjloaaGreat
