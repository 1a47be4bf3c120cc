/- How values lie; laws of loads, stores and making; a way out. No condition but those named. -/
import Derived.Test.YtahdlddbbnjloaaGreatNAE
set_option linter.unusedSimpArgs false
set_option linter.unusedVariables false
set_option maxRecDepth 100000
set_option maxHeartbeats 25600000
open Go.RowKit
namespace Go.Proofs.YtahdlddbbnjloaaGreat
open _root_.Go.Proofs.Tryz
section
def eT(w:World)(g:Nat)(t:TypeId)(cs:Array Value):Prop:=w.heap[g]?=some (.cells cs t (0,0))
section
variable {w w':World}{g:Nat}{t:TypeId}{cs:Array Value}
theorem eT.lt(h:eT w g t cs):g<w.heap.size:=(Array.getElem?_eq_some_iff.1 h).1
theorem eT.cell(h:eT w g t cs)(i:Nat):w.cell? ⟨g,i,none⟩=cs[i]?:=cell_of_row w g i cs t (0,0) h
theorem eT.frozen(h:eT w g t cs)(i:Nat):w.frozen? ⟨g,i,none⟩=false:=by
 unfold eT at h;simp[World.frozen?,h]
theorem eT.new(w:World)(t:TypeId)(cs:Array Value):eT (w.alloc (.cells cs t)) w.heap.size t cs:=heap_alloc_new w _
theorem eT.drewN(h:eT w g t cs)(n:Nat):eT (w.drewN n) g t cs:=h
theorem eT.alloc(h:eT w g t cs)(o:Obj):eT (w.alloc o) g t cs:=(Below.heap_alloc w o g h.lt).trans h
theorem eT.TJ(h:eT w g t cs)(i:Nat)(u:Value):eT (w.setCell ⟨g,i,none⟩ u) g t (cs.setIfInBounds i u):=by
 unfold eT at h ⊢;exact SE
theorem eT.far(h:eT w g t cs){p:Addr}(hp:g≠p.block)(u:Value):eT (w.setCell p u) g t cs:=(Below.heap_setCell w p u g hp).trans h
theorem eT.below{B:Nat}(h:eT w g t cs)(hb:Below B w w')(hg:g<B):eT w' g t cs:=(hb.block g hg).trans h
theorem eT.turned{t':TypeId}{w0:Nat}(h:eT w g t cs)(b:Turns w0 t' w w')(hne:t≠t'):eT w' g t cs:=b.others g cs t (0,0) hne h
theorem eT.row(h:eT w g t cs){g':Nat}(hne:g≠g')(cs':Array Value):eT (w.setRow g' cs') g t cs:=(setRow_other w g' g cs' hne).trans h
theorem Kh(h:eT w g t cs){base:Nat}(hb:base≤g)(i:Nat)(u:Value):Turns base t w (w.setCell ⟨g,i,none⟩ u):=by
 refine⟨(Below.refl base w).setCell (p:=⟨g,i,none⟩) hb u,fun k cs2 t' fr hn hk=>?_⟩;rw[Below.heap_setCell w ⟨g,i,none⟩ u k ?_]
 ·exact hk
 ·rintro rfl
  unfold eT at h;rw[h] at hk;injection hk with hk;injection hk with _ h2 _;exact hn h2.symm
end
section
variable {P:Program}{ops:Array Oper}{rest:List Oper}{o:Oper}{a:Act}{w:World}{Q:Exit→Act→World→Prop}
structure Stored(base g:Nat)(t:TypeId)(cs:Array Value)(w w':World):Prop where
 turns:Turns base t w w'
 blk:eT w' g t cs
 far:∀{g':Nat} {t':TypeId} {cs':Array Value},eT w g' t' cs'→g'≠g→eT w' g' t' cs'
 size:w'.heap.size=w.heap.size
end
theorem eT.hb{w w':World}{g:Nat}{t:TypeId}{cs:Array Value}(h:Hid (eT w g t cs))(hb:Below w.heap.size w w'):Hid (eT w' g t cs):=zH (h.out.below hb h.out.lt)
theorem eT.one{w:World}{g:Nat}{t:TypeId}{cs:Array Value}(h:Hid (eT w g t cs))(i:Nat){v:Value}(hv:cs[i]?=some v):w.cell? ⟨g,i,none⟩=some v∧w.frozen? ⟨g,i,none⟩=false:=
 ⟨(h.out.cell i).trans hv,h.out.frozen i⟩
theorem Lay.Own.cell{P:Program}{α:Type}{L:Lay P α}{w:World}{base g:Nat}{t:TypeId}{cs:Array Value}{v:Value}{l:List α}(h:L.Own base w v l)(hb:eT w g t cs)(hne:L.e≠t)(i:Nat)(u:Value):L.Own base (w.setCell ⟨g,i,Option.none⟩ u) v l:=
 h.turned hne (Kh hb (Nat.zero_le _) i u)
theorem Lay.Own.stored{P:Program}{α:Type}{L:Lay P α}{w w':World}{base b g:Nat}{t:TypeId}{cs:Array Value}{v:Value}{l:List α}(h:L.Own base w v l)(hs:Stored b g t cs w w')(hne:L.e≠t):L.Own base w' v l:=
 h.turned hne hs.turns
theorem Lay.Own.far{P:Program}{α:Type}{L:Lay P α}{w w':World}{base b g:Nat}{t:TypeId}{cs:Array Value}{v:Value}{l:List α}(h:L.Own base w v l)(hs:Stored b g t cs w w')(hg:g<base):L.Own base w' v l:=by
 refine⟨h.1,?_⟩
 rcases h.2 with h0|⟨g',cap,cur,hv,hb,hg',hr⟩
 ·exact .inl h0
 ·exact .inr ⟨g',cap,cur,hv,hb,hs.far hg' (by omega),hr⟩
def Apart(u v:Value):Prop:=∀k,u.ownBlock=some k→v.ownBlock≠some k
theorem Apart.symm{u v:Value}(h:Apart u v):Apart v u:=fun k hk h'=>h k h' hk
structure acj{P:Program}{α:Type}(L:Lay P α)(base:Nat)(w:World)(v:Value)(w':World)(v':Value)(l:List α):Prop where
 own:L.Own base w' v' l
 far:∀{g:Nat} {t:TypeId} {cs:Array Value},eT w g t cs→v.ownBlock≠some g→eT w' g t cs
 blk:v'.ownBlock=v.ownBlock∨∃j,v'.ownBlock=some j∧w.heap.size≤j
 below:Below base w w'
section
variable {P:Program}{α β:Type}{L:Lay P α}{M:Lay P β}{base b2:Nat}{w w':World}{v v' u:Value}{l:List α}{lu:List β}
theorem acj.row(h:acj L base w v w' v' l)(hu:M.Own b2 w u lu)(ha:Apart u v):M.Own b2 w' u lu:=by
 refine⟨hu.1,?_⟩
 rcases hu.2 with h0|⟨g',cap,cur,hv,hb,hg',hr⟩
 ·exact .inl h0
 ·exact .inr ⟨g',cap,cur,hv,hb,h.far hg' (ha g' (by rw[hv];rfl)),hr⟩
theorem acj.size(h:acj L base w v w' v' l):w.heap.size≤w'.heap.size:=h.below.size
end
end
section
abbrev bV:=TypeId×Nat×Value×Nat×List Value
def row{P:Program}{α:Type}(L:Lay P α)(v:Value)(l:List α):bV:=(L.e,L.k,v,l.length,L.flat l)
structure Kn(b0:Nat)(w0 w:World)(L:List (Nat×TypeId×Array Value))(R:List bV):Prop where
 b:Below b0 w0 w
 m:b0≤w.heap.size
 l:∀(i:Nat) x,L[i]?=some x→b0≤x.1∧eT w x.1 x.2.1 x.2.2
 r:∀(i:Nat) y,R[i]?=some y→w.ownsRow b0 y.1 y.2.1 y.2.2.1 y.2.2.2.1 y.2.2.2.2
 ll:∀(i j:Nat) x y,L[i]?=some x→L[j]?=some y→i≠j→x.1≠y.1
 lr:∀(i j:Nat) x y,L[i]?=some x→R[j]?=some y→y.2.2.1.ownBlock≠some x.1
 rr:∀(i j:Nat) x y,R[i]?=some x→R[j]?=some y→i≠j→Apart x.2.2.1 y.2.2.1
section
variable {b0:Nat}{w0 w w':World}{L:List (Nat×TypeId×Array Value)}{R:List bV}
theorem Kn.start(w:World):Kn w.heap.size w w [] []:=⟨Below.refl _ w,Nat.le_refl _,fun i x h=>by simp at h,fun i x h=>by simp at h,fun i j x y h=>by simp at h,fun i j x y h=>by simp at h,fun i j x y h=>by simp at h⟩
theorem Kn.base(h:Kn b0 w0 w L R){b:Nat}(hb:b≤b0):Kn b w0 w L R:=
 ⟨h.b.mono hb,Nat.le_trans hb h.m,fun i x hx=>⟨Nat.le_trans hb (h.l i x hx).1,(h.l i x hx).2⟩,fun i y hy=>World.ownsRow.mono (h.r i y hy) hb,h.ll,h.lr,h.rr⟩
theorem Lb{b e s:Nat}{v:Value}{n:Nat}{xs:List Value}(h:w.ownsRow b e s v n xs)(hb:Below w.heap.size w w'):w'.ownsRow b e s v n xs:=by
 refine⟨h.1,?_⟩
 rcases h.2 with h0|⟨g,cap,cur,hv,hb',hg,hr⟩
 ·exact .inl h0
 ·exact .inr ⟨g,cap,cur,hv,hb',by rw[hb.block g (Array.getElem?_eq_some_iff.1 hg).1];exact hg,hr⟩
theorem Kn.call(h:Kn b0 w0 w L R)(hb:Below w.heap.size w w'):Kn b0 w0 w' L R:=
 ⟨h.b.trans (hb.mono h.m),Nat.le_trans h.m hb.size,fun i x hx=>⟨(h.l i x hx).1,(h.l i x hx).2.below hb (h.l i x hx).2.lt⟩,fun i y hy=>Lb (h.r i y hy) hb,h.ll,h.lr,h.rr⟩
theorem iH{b0:Nat}{w0 w w':World}{L:List (Nat×TypeId×Array Value)}{R:List bV}(h:Hid (Kn b0 w0 w L R))(hb:Below w.heap.size w w'):Hid (Kn b0 w0 w' L R):=Lib.hid (h.out.call hb)
theorem Kn.drew(h:Kn b0 w0 w L R):Kn b0 w0 w.drew L R:=h.call ((Below.refl _ w).drew)
theorem Kn.drewN(h:Kn b0 w0 w L R)(n:Nat):Kn b0 w0 (w.drewN n) L R:=h.call ⟨rfl,rfl,rfl,Nat.le_refl _,fun _ _=>rfl⟩
theorem Kn.XA(h:Kn b0 w0 w L R)(o:Obj):Kn b0 w0 (w.alloc o) L R:=h.call ((Below.refl _ w).alloc (Nat.le_refl _) o)
theorem kW{b e s:Nat}{v:Value}{n:Nat}{xs:List Value}{g:Nat}(h:w.ownsRow b e s v n xs)(hg:v.ownBlock=some g):b≤g∧g<w.heap.size:=World.ownsRow.lt h g hg
theorem Kn.add(h:Kn b0 w0 w L R){g:Nat}{t:TypeId}{cs:Array Value}(hk:eT w g t cs)(hb:b0≤g)(hl:∀(i:Nat) x,L[i]?=some x→x.1≠g)(hr:∀(i:Nat) y,R[i]?=some y→y.2.2.1.ownBlock≠some g):Kn b0 w0 w (L++[(g,t,cs)]) R:=by
 have key:∀(i:Nat) x,(L++[(g,t,cs)])[i]?=some x→L[i]?=some x∨(i=L.length∧x=(g,t,cs)):=fun i x hx=>by
  rcases Nat.lt_trichotomy i L.length with hi|hi|hi
  ·rw[List.getElem?_append_left hi] at hx;exact .inl hx
  ·subst hi;simp at hx;exact .inr ⟨rfl,hx.symm⟩
  ·rw[List.getElem?_eq_none (by simp;omega)] at hx;cases hx
 refine⟨h.b,h.m,fun i x hx=>?_,h.r,fun i j x y hx hy hij=>?_,fun i j x y hx hy=>?_,h.rr⟩
 ·rcases key i x hx with hx|⟨_,rfl⟩
  ·exact h.l i x hx
  ·exact⟨hb,hk⟩
 ·rcases key i x hx with hx|⟨e1,rfl⟩<;>rcases key j y hy with hy|⟨e2,rfl⟩
  ·exact h.ll i j x y hx hy hij
  ·exact hl i x hx
  ·exact fun e=>hl j y hy e.symm
  ·omega
 ·rcases key i x hx with hx|⟨_,rfl⟩
  ·exact h.lr i j x y hx hy
  ·exact hr j y hy
theorem Kn.ajz(h:Kn b0 w0 w L R){y:bV}(hk:w.ownsRow b0 y.1 y.2.1 y.2.2.1 y.2.2.2.1 y.2.2.2.2)(hl:∀(i:Nat) x,L[i]?=some x→y.2.2.1.ownBlock≠some x.1)(hr:∀(i:Nat) x,R[i]?=some x→Apart x.2.2.1 y.2.2.1):Kn b0 w0 w L (R++[y]):=by
 have key:∀(i:Nat) x,(R++[y])[i]?=some x→R[i]?=some x∨(i=R.length∧x=y):=fun i x hx=>by
  rcases Nat.lt_trichotomy i R.length with hi|hi|hi
  ·rw[List.getElem?_append_left hi] at hx;exact .inl hx
  ·subst hi;simp at hx;exact .inr ⟨rfl,hx.symm⟩
  ·rw[List.getElem?_eq_none (by simp;omega)] at hx;cases hx
 refine⟨h.b,h.m,h.l,fun i x hx=>?_,h.ll,fun i j x z hx hz=>?_,fun i j x z hx hz hij=>?_⟩
 ·rcases key i x hx with hx|⟨_,rfl⟩
  ·exact h.r i x hx
  ·exact hk
 ·rcases key j z hz with hz|⟨_,rfl⟩
  ·exact h.lr i j x z hx hz
  ·exact hl i x hx
 ·rcases key i x hx with hx1|⟨e1,rfl⟩<;>rcases key j z hz with hz1|⟨e2,rfl⟩
  ·exact h.rr i j x z hx1 hz1 hij
  ·exact hr i x hx1
  ·exact(hr j z hz1).symm
  ·omega
theorem Kn.alloc(h:Kn b0 w0 w L R)(t:TypeId)(cs:Array Value):Kn b0 w0 (w.alloc (.cells cs t)) (L++[(w.heap.size,t,cs)]) R:=
 (h.XA _).add (eT.new w t cs) h.m (fun i x hx e=>Nat.lt_irrefl _ (e▸(h.l i x hx).2.lt)) (fun i y hy e=>Nat.lt_irrefl _ (kW (h.r i y hy) e).2)
theorem Kn.called(h:Kn b0 w0 w L R)(hb:Below w.heap.size w w'){P:Program}{α:Type}{La:Lay P α}{v:Value}{l:List α}(ho:La.Own w.heap.size w' v l):Kn b0 w0 w' L (R++[row La v l]):=by
 refine(h.call hb).ajz (y:=row La v l) (World.ownsRow.mono ho h.m) (fun i x hx e=>?_) (fun i x hx k hk e=>?_)
 ·have:=(World.ownsRow.lt ho _ e).1
  have:=(h.l i x hx).2.lt;omega
 ·have:=(World.ownsRow.lt ho _ e).1
  have:=(kW (h.r i x hx) hk).2;omega
theorem Kn.Cq(h:Kn b0 w0 w L R){P:Program}{α:Type}(La:Lay P α):Kn b0 w0 w L (R++[row La (.slice none 0 0) []]):=
 h.ajz (y:=row La (.slice none 0 0) []) (Lay.Own.none w b0) (fun _ _ _ e=>by cases e) (fun _ _ _ _ _ e=>by cases e)
theorem Kn.own{P:Program}{α:Type}{La:Lay P α}{v:Value}{l:List α}(h:Kn b0 w0 w L R)(i:Nat)(hi:R[i]?=some (row La v l)):La.Own b0 w v l:=h.r i _ hi
theorem Kn.blk(h:Kn b0 w0 w L R)(i:Nat){g:Nat}{t:TypeId}{cs:Array Value}(hi:L[i]?=some (g,t,cs)):eT w g t cs:=(h.l i _ hi).2
theorem Kn.cell(h:Kn b0 w0 w L R)(i:Nat){g:Nat}{t:TypeId}{cs:Array Value}(hi:L[i]?=some (g,t,cs))(j:Nat){v:Value}(hj:cs[j]?=some v):w.cell? ⟨g,j,none⟩=some v:=((h.blk i hi).cell j).trans hj
theorem Kn.aB(h:Kn b0 w0 w L R)(n:Nat):Kn b0 w0 w (L.take n) R:=by
 have key:∀(i:Nat) x,(L.take n)[i]?=some x→L[i]?=some x:=fun i x hx=>by
  rw[List.getElem?_take] at hx;split at hx
  ·exact hx
  ·cases hx
 exact⟨h.b,h.m,fun i x hx=>h.l i x (key i x hx),h.r,fun i j x y hx hy=>h.ll i j x y (key i x hx) (key j y hy),fun i j x y hx hy=>h.lr i j x y (key i x hx) hy,h.rr⟩
theorem Kn.ay(h:Kn b0 w0 w L R)(n:Nat):Kn b0 w0 w L (R.take n):=by
 have key:∀(i:Nat) x,(R.take n)[i]?=some x→R[i]?=some x:=fun i x hx=>by
  rw[List.getElem?_take] at hx;split at hx
  ·exact hx
  ·cases hx
 exact⟨h.b,h.m,h.l,fun i x hx=>h.r i x (key i x hx),h.ll,fun i j x y hx hy=>h.lr i j x y hx (key j y hy),fun i j x y hx hy=>h.rr i j x y (key i x hx) (key j y hy)⟩
theorem Kn.aO(h:Kn b0 w0 w L R)(n:Nat):Kn b0 w0 w (L.drop n) R:=by
 have key:∀(i:Nat) x,(L.drop n)[i]?=some x→L[n+i]?=some x:=fun i x hx=>by rw[List.getElem?_drop] at hx;exact hx
 exact⟨h.b,h.m,fun i x hx=>h.l _ x (key i x hx),h.r,fun i j x y hx hy hij=>h.ll _ _ x y (key i x hx) (key j y hy) (by omega),fun i j x y hx hy=>h.lr _ j x y (key i x hx) hy,h.rr⟩
theorem Kn.pick(h:Kn b0 w0 w L R)(f g:Nat→Nat){L2:List (Nat×TypeId×Array Value)}{R2:List bV}(hf:∀i j,i<L2.length→j<L2.length→i≠j→f i≠f j)(hg:∀i j,i<R2.length→j<R2.length→i≠j→g i≠g j)
  (hL:∀(i:Nat) x,L2[i]?=some x→L[f i]?=some x) (hR:∀(i:Nat) x,R2[i]?=some x→R[g i]?=some x):Kn b0 w0 w L2 R2:=
 ⟨h.b,h.m,fun i x hx=>h.l _ x (hL i x hx),fun i x hx=>h.r _ x (hR i x hx),fun i j x y hx hy hij=>h.ll _ _ x y (hL i x hx) (hL j y hy) (hf i j (List.getElem?_eq_some_iff.1 hx).1 (List.getElem?_eq_some_iff.1 hy).1 hij),fun i j x y hx hy=>h.lr _ _ x y (hL i x hx) (hR j y hy),fun i j x y hx hy hij=>h.rr _ _ x y (hR i x hx) (hR j y hy) (hg i j (List.getElem?_eq_some_iff.1 hx).1 (List.getElem?_eq_some_iff.1 hy).1 hij)⟩
theorem rJ{α:Type}{l:List α}{i:Nat}{e:α}{j:Nat}{x:α}(h:(l.set i e)[j]?=some x):(j=i∧x=e)∨(j≠i∧l[j]?=some x):=by
 rw[List.getElem?_set] at h
 split at h
 ·rename_i hij
  subst hij
  split at h
  ·exact .inl ⟨rfl,by injection h with h;exact h.symm⟩
  ·cases h
 ·rename_i hij
  exact .inr ⟨fun e=>hij e.symm,h⟩
theorem Kn.Zh(h:Kn b0 w0 w L R){i g:Nat}{t:TypeId}{old cs:Array Value}(hi:L[i]?=some (g,t,old))(hb:Below b0 w w')(hsz:w'.heap.size=w.heap.size)(hk:eT w' g t cs)
  (hf:∀{g':Nat} {t':TypeId} {cs':Array Value},eT w g' t' cs'→g'≠g→eT w' g' t' cs'):Kn b0 w0 w' (L.set i (g,t,cs)) R:=by
 refine⟨h.b.trans hb,by rw[hsz];exact h.m,fun j x hx=>?_,fun j y hy=>?_,fun j k x y hx hy hjk=>?_,fun j k x y hx hy=>?_,h.rr⟩
 ·rcases rJ hx with ⟨rfl,rfl⟩|⟨hne,hx⟩
  ·exact⟨(h.l _ _ hi).1,hk⟩
  ·exact⟨(h.l j x hx).1,hf (h.l j x hx).2 (h.ll j i x _ hx hi hne)⟩
 ·have ho:=h.r j y hy
  refine⟨ho.1,?_⟩
  rcases ho.2 with h0|⟨g',cap,cur,hv,hb',hg',hr⟩
  ·exact .inl h0
  ·refine .inr ⟨g',cap,cur,hv,hb',hf hg' (fun e=>h.lr i j _ y hi hy ?_),hr⟩
   rw[hv,e];rfl
 ·rcases rJ hx with ⟨rfl,rfl⟩|⟨hne,hx1⟩<;>rcases rJ hy with ⟨rfl,rfl⟩|⟨hne',hy1⟩
  ·omega
  ·exact fun e=>h.ll j k _ y hi hy1 hjk e
  ·exact fun e=>h.ll j k x _ hx1 hi hjk e
  ·exact h.ll j k x y hx1 hy1 hjk
 ·rcases rJ hx with ⟨rfl,rfl⟩|⟨hne,hx1⟩
  ·exact fun e=>h.lr j k _ y hi hy e
  ·exact h.lr j k x y hx1 hy
theorem Kn.aeG(h:Kn b0 w0 w L R){i:Nat}{e:TypeId}{k n n':Nat}{v v':Value}{xs xs':List Value}(hi:R[i]?=some (e,k,v,n,xs))(hown:w'.ownsRow b0 e k v' n' xs')(hg:w.grownBy w' v.ownBlock)
  (hal:v'.ownBlock=v.ownBlock∨v'.ownBlock=some w.heap.size):Kn b0 w0 w' L (R.set i (e,k,v',n',xs')):=by
 have hb:Below b0 w w':=(Below.refl b0 w).grown hg h.m (fun k hk=>(kW (h.r i _ hi) hk).1);have hf:∀{g':Nat} {t':TypeId} {cs':Array Value},eT w g' t' cs'→v.ownBlock≠some g'→eT w' g' t' cs':=fun hk hne=>(hg.block _ hk.lt (fun e=>hne e.symm)).trans hk
 have hnew:∀g,g<w.heap.size→v.ownBlock≠some g→v'.ownBlock≠some g:=fun g hlt hne e=>by
  rcases hal with h1|h1
  ·rw[h1] at e;exact hne e
  ·rw[h1] at e;injection e with e;omega
 refine⟨h.b.trans hb,Nat.le_trans h.m hb.size,fun j x hx=>⟨(h.l j x hx).1,hf (h.l j x hx).2 (h.lr j i x _ hx hi)⟩,fun j y hy=>?_,h.ll,fun j q x y hx hy=>?_,fun j q x y hx hy hjq=>?_⟩
 ·rcases rJ hy with ⟨rfl,rfl⟩|⟨hne,hy⟩
  ·exact hown
  ·have ho:=h.r j y hy
   refine⟨ho.1,?_⟩
   rcases ho.2 with h0|⟨g',cap,cur,hv,hb',hg',hr⟩
   ·exact .inl h0
   ·exact .inr ⟨g',cap,cur,hv,hb',hf hg' (h.rr j i y _ hy hi hne g' (by rw[hv];rfl)),hr⟩
 ·rcases rJ hy with ⟨rfl,rfl⟩|⟨hne,hy⟩
  ·exact hnew _ (h.l j x hx).2.lt (h.lr j q x _ hx hi)
  ·exact h.lr j q x y hx hy
 ·rcases rJ hx with ⟨rfl,rfl⟩|⟨hne,hx1⟩<;>rcases rJ hy with ⟨rfl,rfl⟩|⟨hne',hy1⟩
  ·omega
  ·exact fun g hg' e=>hnew g (kW (h.r q y hy1) e).2 (fun e'=>h.rr j q _ y hi hy1 hjq g e' e) hg'
  ·exact fun g hg' e=>hnew g (kW (h.r j x hx1) hg').2 (fun e'=>h.rr j q x _ hx1 hi hjq g hg' e') e
  ·exact h.rr j q x y hx1 hy1 hjq
end
def putCells(cs:Array Value):Nat→List Value→Array Value
 | _,[]=>cs
 | o,v::r=>putCells (cs.setIfInBounds o v) (o+1) r
theorem lM:∀(vs:List Value) (cs:Array Value) (o:Nat),o+vs.length≤cs.size→(putCells cs o vs).toList=cs.toList.take o++vs++cs.toList.drop (o+vs.length)
 | [],cs,o,_=>by simp[putCells]
 | v::r,cs,o,h=>by
  rw[List.length_cons] at h;have h1:o<cs.toList.length:=by rw[Array.length_toList];omega
  have ih:=lM r (cs.setIfInBounds o v) (o+1) (by rw[Array.size_setIfInBounds];omega);rw[Array.toList_setIfInBounds] at ih;rw[putCells,ih,List.drop_set_of_lt (by omega),List.take_add_one,List.getElem?_set_self h1,List.take_set_of_le (Nat.le_refl o),List.length_cons];simp;omega
theorem cK{vs:List Value}{cs:Array Value}(h:cs.size=vs.length:=by rfl):putCells cs 0 vs=vs.toArray:=by
 have h1:=lM vs cs 0 (by omega);rw[List.take_zero,aK,Nat.zero_add,List.drop_of_length_le (by rw[Array.length_toList];omega),List.append_nil] at h1;rw[← Array.toArray_toList (xs:=putCells cs 0 vs),h1]
theorem eT.cells{_w:World}{g:Nat}{t:TypeId}:∀(vs:List Value) (cs:Array Value) (o:Nat) (w:World),eT w g t cs→eT (w.setCells g o vs) g t (putCells cs o vs)
 | [],_,_,_,h=>h
 | v::r,_cs,o,w,h=>eT.cells (_w:=w) r _ (o+1) _ (h.TJ o v)
theorem eT.DK{g g':Nat}{t:TypeId}{cs:Array Value}(hne:g≠g'):∀(vs:List Value) (o:Nat) (w:World),eT w g t cs→eT (w.setCells g' o vs) g t cs
 | [],_,_,h=>h
 | v::r,o,_w,h=>eT.DK hne r (o+1) _ (h.far (p:=⟨g',o,none⟩) hne v)
theorem nM{b g:Nat}(hb:b≤g):∀(vs:List Value) (o:Nat) (w:World),Below b w (w.setCells g o vs)∧(w.setCells g o vs).heap.size=w.heap.size
 | [],_,w=>⟨Below.refl b w,rfl⟩
 | v::r,o,w=>by
  obtain⟨h1,h2⟩:=nM hb r (o+1) (w.setCell ⟨g,o,none⟩ v);have h3:=(Below.refl b w).setCell (p:=⟨g,o,none⟩) hb v;refine⟨h3.trans h1,?_⟩
  show((w.setCell ⟨g,o,none⟩ v).setCells g (o+1) r).heap.size=_
  rw[h2];simp[World.setCell]
section
variable {P:Program}{b0:Nat}{w0 w:World}{L:List (Nat×TypeId×Array Value)}{R:List bV}{ops:Array Oper}{rest:List Oper}{o:Oper}{a:Act}{Q:Exit→Act→World→Prop}
theorem dY(HK:Hid (Kn b0 w0 w L R)){ty:TypeId}(x:Operand)(ho:o.op=.load ty x)(i:Nat){g off:Nat}{t:TypeId}{cs:Array Value}(hL:L[i]?=some (g,t,cs))(hx:a.eval x=.pointer (some ⟨g,off,none⟩))
  (vs:Array Value) (hv:∀j,j<vs.size→cs[off+j]?=vs[j]?) {fs:Array Field} (hu:P.underlying ty=some (.struct fs)) (hi:(P.info? ty).map (·.size)=some vs.size) :
  (execOp a.eval o).run P w=.ok (.value (.agg vs)) w:=by
 have hc:w.rangeAt g off vs.toList:=fun j v hj=>by
  exact acQ
 have h:=run_loadVar_mid (P:=P) w g off ty vs.toList _ hc hu rfl (by simpa using hi);exact YF
theorem aT(HK:Hid (Kn b0 w0 w L R))(ty:TypeId)(x:Operand)(ho:o.op=.load ty x)(i:Nat){g off:Nat}{t:TypeId}{cs:Array Value}(hL:L[i]?=some (g,t,cs))(hx:a.eval x=.pointer (some ⟨g,off,none⟩))
  {v:Value}  {d:TypeDesc} (hu:P.underlying ty=some d)  (hv:cs[off]?=some v:=by rfl)(hd:d.isRow=false:=by rfl) :
  (execOp a.eval o).run P w=.ok (.value v) w:=by
 have hc:=HK.out.cell i hL off hv
 have hagg:(isAgg ty).run P w=.ok false w:=by
  unfold isAgg;rw[Sem.run_bind,run_underlying hu w];cases d<;>simp_all
 have h:(loadVar ty ⟨g,off,none⟩).run P w=.ok v w:=by
  simp[loadVar,Sem.run_bind,hagg,hc]
 exact aea
theorem av{v:Value}(hr:(execOp a.eval o).run P w=.ok (.value v) w)(h:wpList P ops Q rest (a.put o.dst v) w)(hw:Region.wanted o (yielded ops a.tmps)=true:=by rfl):wpList P ops Q (o::rest) a w:=
 BigFrame.wpList_want hw fun _ hK=>by
  unfold Oper.wp;rw[hr,Oper.upon_value];exact hK _ _ h
theorem lQ{K:Act→World→Prop}(HK:Hid (Kn b0 w0 w L R)){ty:TypeId}(x y:Operand)(ho:o.op=.store ty x y)(i:Nat){g off:Nat}{t:TypeId}{cs:Array Value}(hL:L[i]?=some (g,t,cs))(hx:a.eval x=.pointer (some ⟨g,off,none⟩))
  {vs:Array Value} (hy:a.eval y=.agg vs) (hsz:off+vs.size≤cs.size) (hi:(P.info? ty).map (·.size)=some vs.size)
  (h:∀w',Hid (Kn b0 w0 w' (L.set i (g,t,putCells cs off vs.toList)) R)→Hid (w'.heap.size=w.heap.size)→K (a.put o.dst undef) w') (h1:vs.all (·.oneCell')=true:=by simp[dG,Value.oneCell']):o.wp P a w K Q:=by
 have hb:=HK.out.blk i hL
 have ht:w.there g off vs.size:=fun j hj=>by
  rw[hb.cell];exact⟨by rw[Array.getElem?_eq_getElem (by omega)];rfl,hb.frozen _⟩
 obtain⟨b1,b2⟩:=nM (HK.out.l i _ hL).1 vs.toList off w;exact wp_store_mid ty x y ho g off vs hx hy ht hi h1 (h _ (zH (HK.out.Zh hL b1 b2 (eT.cells (_w:=w) _ _ _ _ hb) (fun hk hne=>eT.DK hne _ _ _ hk))) (zH b2))
theorem nR{K:Act→World→Prop}(HK:Hid (Kn b0 w0 w L R)){ty:TypeId}(x y:Operand)(ho:o.op=.store ty x y)(i:Nat){g off:Nat}{t:TypeId}{cs:Array Value}(hL:L[i]?=some (g,t,cs))(hx:a.eval x=.pointer (some ⟨g,off,none⟩))
  {v:Value} (hy:a.eval y=v)   (hsz:off<cs.size)
  (h:∀w',Hid (Kn b0 w0 w' (L.set i (g,t,cs.setIfInBounds off v)) R)→Hid (w'.heap.size=w.heap.size)→K (a.put o.dst undef) w') (hc:v.cells=#[v]:=by rfl)(h1:v.oneCell'=true:=by rfl)(hi:(P.info? ty).map (·.size)=some 1:=by kernel_rfl):o.wp P a w K Q:=by
 have hb:=HK.out.blk i hL;have hcell:∃u,w.cell? ⟨g,off,none⟩=some u:=⟨_,(hb.cell off).trans (Array.getElem?_eq_getElem hsz)⟩
 have hs:=run_storeCells_cells (P:=P) g off [v] 0 w (fun j hj=>by
   have:j=0:=by simpa using hj
   subst this
   rw[hb.cell,Array.getElem?_eq_getElem (by omega)];rfl) (fun j _=>hb.frozen _) (fun u hu=>by simp at hu;subst hu;exact h1)
 simp only[Nat.add_zero] at hs
 have hr:(storeVar ty ⟨g,off,none⟩ v).run P w=.ok () (w.setCell ⟨g,off,none⟩ v):=by
  cases hq:P.info? ty with
  | none=>simp[hq] at hi
  | some q=>
   have hs1:q.size=1:=by simpa [hq] using hi
   exact SI
 have h3:(w.setCell ⟨g,off,none⟩ v).heap.size=w.heap.size:=by simp[World.setCell]
 unfold Oper.wp execOp;simp only[ho,hx,hy,Instr.storeAt,Instr.sureAddr,Sem.run_bind,Sem.run_pure,Result.andThen_ok,hr];exact h _ (zH (HK.out.Zh hL ((Below.refl b0 w).setCell (p:=⟨g,off,none⟩) (HK.out.l i _ hL).1 v) h3 (hb.TJ off v) (fun hk hne=>hk.far (p:=⟨g,off,none⟩) hne v))) (zH h3)
theorem iL(HK:Hid (Kn b0 w0 w L R))(i:Nat)(hgd:o.guard=none){ty:TypeId}(x y:Operand)(ho:o.op=.store ty x y){g off:Nat}{t:TypeId}{cs:Array Value}(hL:L[i]?=some (g,t,cs))(hx:a.eval x=.pointer (some ⟨g,off,none⟩))
  {vs:Array Value} (hy:a.eval y=.agg vs) (hsz:off+vs.size≤cs.size) (hi:(P.info? ty).map (·.size)=some vs.size)
  (h:∀w',Hid (Kn b0 w0 w' (L.set i (g,t,putCells cs off vs.toList)) R)→Hid (w'.heap.size=w.heap.size)→wpList P ops Q rest (a.put o.dst undef) w') (h1:vs.all (·.oneCell')=true:=by simp[Value.oneCell']):wpList P ops Q (o::rest) a w:=
 wpList_plain hgd fun _ hK=>lQ HK (ty:=ty) x y ho i hL hx hy hsz hi (h1:=h1) fun w' h2 h3=>hK _ _ (h w' h2 h3)
theorem jK(HK:Hid (Kn b0 w0 w L R))(i:Nat)(hgd:o.guard=none){ty:TypeId}(x y:Operand)(ho:o.op=.store ty x y){g off:Nat}{t:TypeId}{cs:Array Value}(hL:L[i]?=some (g,t,cs))(hx:a.eval x=.pointer (some ⟨g,off,none⟩))
  {v:Value} (hy:a.eval y=v)   (hsz:off<cs.size) (hi:(P.info? ty).map (·.size)=some 1)
  (h:∀w',Hid (Kn b0 w0 w' (L.set i (g,t,cs.setIfInBounds off v)) R)→Hid (w'.heap.size=w.heap.size)→wpList P ops Q rest (a.put o.dst undef) w') (hc:v.cells=#[v]:=by rfl)(h1:v.oneCell'=true:=by rfl):wpList P ops Q (o::rest) a w:=
 wpList_plain hgd fun _ hK=>nR HK (ty:=ty) x y ho i hL hx hy (hc:=hc) (h1:=h1) hsz (hi:=hi) fun w' h2 h3=>hK _ _ (h w' h2 h3)
theorem Ep{K:Act→World→Prop}{E:Prop}(HK:Hid (Kn b0 w0 w L R))(i:Nat)(hgd:o.guard=none){ty:TypeId}(x y:Operand)(ho:o.op=.store ty x y){g off:Nat}{t:TypeId}{cs:Array Value}(hL:L[i]?=some (g,t,cs))(hx:a.eval x=.pointer (some ⟨g,off,none⟩))
  {vs:Array Value} (hy:a.eval y=.agg vs) (hsz:off+vs.size≤cs.size) (hi:(P.info? ty).map (·.size)=some vs.size)
  (h:∀w',Hid (Kn b0 w0 w' (L.set i (g,t,putCells cs off vs.toList)) R)→Hid (w'.heap.size=w.heap.size)→K (a.put o.dst undef) w') (h1:vs.all (·.oneCell')=true:=by simp[Value.oneCell']):if Region.wanted o (yielded ops a.tmps)=true then Oper.wp P o a w K Q else E:=by
 rw[if_pos (by simp[Region.wanted,hgd])];exact lQ HK (ty:=ty) x y ho i hL hx hy hsz hi (h1:=h1) h
theorem Vw{K:Act→World→Prop}(HK:Hid (Kn b0 w0 w L R)){α:Type}(La:Lay P α)(j:Nat)(s x:Operand)(ho:o.op=.call { callee:=.builtin .append,args:=#[s,x],argTypes:=#[La.t,La.t] })
  {v:Value} {l:List α} (hR:R[j]?=some (row La v l)) (hs:a.eval s=v) (m:List α) {C:Array Value} {g n c:Nat} (hx:a.eval x=.slice (some ⟨g,0,none⟩) n c) (hn:n=m.length)
  (hC:C=(La.flat m).toArray) (hg:g=w.heap.size) (hl:Hid (l.length+m.length≤9223372036854775807∧(l.length+m.length)*La.bytes≤211106232532992))
  {N:Nat} (hN:Hid ((l++m).length=N)) (h:∀A' c' w',Hid (Kn b0 w0 w' L (R.set j (row La (.slice A' N c') (l++m))))→K (a.put o.dst (.slice A' N c')) w') :
  o.wp P a (w.alloc (.cells C La.e)) K Q:=by
 obtain⟨i0,hi,hz0,hz1,hz2⟩:=info_parts La.info;obtain⟨hl1,hl2⟩:=hl.out;have hk:=HK.out.XA (.cells C La.e);subst hn
 refine kV _ s x _ _ ho b0 _ i0 La.z La.k La.bytes La.und hi hz0 hz1 hz2 La.zs La.pos La.small v l.length (La.flat l) hs (hk.own j hR) m.length (La.flat m) _ hx (La.Zf w m C hC c _ g hg rfl)
  (by unfold maxLen;omega) hl2 hk.m ?_
 exact ahC
theorem pR(HK:Hid (Kn b0 w0 w L R)){α:Type}(La:Lay P α)(j:Nat){s:Operand}{x:Operand}
  {v:Value} {l:List α}   (m:List α) {C:Array Value} {g n c:Nat}
   (hl:Hid (l.length+m.length≤9223372036854775807∧(l.length+m.length)*La.bytes≤211106232532992))
  {N:Nat} (hN:Hid ((l++m).length=N)) (h:∀A' c' w',Hid (Kn b0 w0 w' L (R.set j (row La (.slice A' N c') (l++m))))→wpList P ops Q rest (a.put o.dst (.slice A' N c')) w') (hgd:o.guard=none:=by rfl)(ho:o.op=.call { callee:=.builtin .append,args:=#[s,x],argTypes:=#[La.t,La.t] }:=by rfl)(hR:R[j]?=some (row La v l):=by rfl)(hs:a.eval s=v:=by rfl)(hx:a.eval x=.slice (some ⟨g,0,none⟩) n c:=by rfl)(hn:n=m.length:=by rfl)(hC:C=(La.flat m).toArray:=by rfl)(hg:g=w.heap.size:=by rfl) :
  wpList P ops Q (o::rest) a (w.alloc (.cells C La.e)):=
 wpList_plain hgd fun _ hK=>Vw HK La j s x ho hR hs m hx hn hC hg hl hN fun A' c' w' h2=>hK _ _ (h A' c' w' h2)
theorem Ic{K:Act→World→Prop}(HK:Hid (Kn b0 w0 w L R)){α:Type}(La:Lay P α)(j:Nat)(s x:Operand)(ho:o.op=.call { callee:=.builtin .append,args:=#[s,x],argTypes:=#[La.t,La.t] })
  {v:Value} {l:List α} (hR:R[j]?=some (row La v l)) (hs:a.eval s=v) (m:List α) {A:Option Addr} {n c B:Nat} (hx:a.eval x=.slice A n c) (hn:n=m.length) (hI:Hid (La.Reads w B A m∧(A=none→m=[])))
  (hl:Hid (l.length+m.length≤9223372036854775807∧(l.length+m.length)*La.bytes≤211106232532992))
  {N:Nat} (hN:Hid ((l++m).length=N)) (h:∀A' c' w',Hid (Kn b0 w0 w' L (R.set j (row La (.slice A' N c') (l++m))))→K (a.put o.dst (.slice A' N c')) w'):o.wp P a w K Q:=by
 obtain⟨i0,hi,hz0,hz1,hz2⟩:=info_parts La.info;obtain⟨hl1,hl2⟩:=hl.out;have hk:=HK.out;subst hn
 refine kV _ s x _ _ ho b0 _ i0 La.z La.k La.bytes La.und hi hz0 hz1 hz2 La.zs La.pos La.small v l.length (La.flat l) hs (hk.own j hR) m.length (La.flat m) _ hx (hI.out.1.src c hI.out.2)
  (by unfold maxLen;omega) hl2 hk.m ?_
 exact ahC
theorem bA(HK:Hid (Kn b0 w0 w L R)){α:Type}(La:Lay P α)(j:Nat){s:Operand}{x:Operand}
  {v:Value} {l:List α}   (m:List α) {A:Option Addr} {n c B:Nat}  (hn:n=m.length) (hI:Hid (La.Reads w B A m∧(A=none→m=[])))
  (hl:Hid (l.length+m.length≤9223372036854775807∧(l.length+m.length)*La.bytes≤211106232532992))
  {N:Nat} (hN:Hid ((l++m).length=N)) (h:∀A' c' w',Hid (Kn b0 w0 w' L (R.set j (row La (.slice A' N c') (l++m))))→wpList P ops Q rest (a.put o.dst (.slice A' N c')) w') (hgd:o.guard=none:=by rfl)(ho:o.op=.call { callee:=.builtin .append,args:=#[s,x],argTypes:=#[La.t,La.t] }:=by rfl)(hR:R[j]?=some (row La v l):=by rfl)(hs:a.eval s=v:=by rfl)(hx:a.eval x=.slice A n c:=by rfl):wpList P ops Q (o::rest) a w:=
 wpList_plain hgd fun _ hK=>Ic HK La j s x ho hR hs m hx hn hI hl hN fun A' c' w' h2=>hK _ _ (h A' c' w' h2)
end
theorem jw(w:World)(t:TypeId)(cs:Array Value):Hid (Kn w.heap.size w (w.alloc (.cells cs t)) [(w.heap.size,t,cs)] []):=zH ((Kn.start w).alloc t cs)
theorem uj(w:World)(t1:TypeId)(c1:Array Value)(t2:TypeId)(c2:Array Value):Hid (Kn w.heap.size w ((w.alloc (.cells c1 t1)).alloc (.cells c2 t2)) [(w.heap.size,t1,c1),(w.heap.size+1,t2,c2)] []):=by
 have h:=(jw w t1 c1).out.alloc t2 c2;rw[show(w.alloc (.cells c1 t1)).heap.size=w.heap.size+1 from by simp] at h;exact zH h
theorem FX(w:World)(t1:TypeId)(c1:Array Value)(t2:TypeId)(c2:Array Value)(t3:TypeId)(c3:Array Value):
  Hid (Kn w.heap.size w (((w.alloc (.cells c1 t1)).alloc (.cells c2 t2)).alloc (.cells c3 t3)) [(w.heap.size,t1,c1),(w.heap.size+1,t2,c2),(w.heap.size+2,t3,c3)] []):=by
 have h:=(uj w t1 c1 t2 c2).out.alloc t3 c3;rw[show((w.alloc (.cells c1 t1)).alloc (.cells c2 t2)).heap.size=w.heap.size+2 from by simp] at h;exact zH h
theorem Vz(w:World)(t1:TypeId)(c1:Array Value)(t2:TypeId)(c2:Array Value)(t3:TypeId)(c3:Array Value)(t4:TypeId)(c4:Array Value):
  Hid (Kn w.heap.size w ((((w.alloc (.cells c1 t1)).alloc (.cells c2 t2)).alloc (.cells c3 t3)).alloc (.cells c4 t4)) [(w.heap.size,t1,c1),(w.heap.size+1,t2,c2),(w.heap.size+2,t3,c3),(w.heap.size+3,t4,c4)] []):=by
 have h:=(FX w t1 c1 t2 c2 t3 c3).out.alloc t4 c4;rw[show(((w.alloc (.cells c1 t1)).alloc (.cells c2 t2)).alloc (.cells c3 t3)).heap.size=w.heap.size+3 from by simp] at h;exact zH h
section
variable {P:Program}{ops:Array Oper}{Q:Exit→Act→World→Prop}{b0:Nat}{w0:World}{L L':List (Nat×TypeId×Array Value)}{R R':List bV}
theorem zR{id:Nat}{a:Act}{w:World}(h0:Kn b0 w0 w.drew L R)(h:Hid (Kn b0 w0 w.drew L' R')→wpAnyH P .any ops Q (fun W=>Hid (Kn b0 w0 W L' R')) ops.size (Array.replicate ops.size false) a w.drew)(hL:L=L':=by((try simp only[List.take_succ_cons,List.take_zero,List.drop_succ_cons,List.drop_zero,List.take_nil,List.drop_nil]);exact rfl))(hR:R=R':=by((try simp only[List.take_succ_cons,List.take_zero,List.drop_succ_cons,List.drop_zero,List.take_nil,List.drop_nil]);exact rfl))(hm:P.follows .mixedOrders=true:=by kernel_rfl):(Code.region id ops true).wp P Q a w:=by
 subst hL hR;exact wp_region_held_drew (S:=fun W=>Hid (Kn b0 w0 W L R)) hm (Lib.hid h0) h
theorem cb{f:FuncId}{args:Array Value}{w:World}{E:Ending}{Z:Ending→World→Prop}(X:Calls P f args w fun e w'=>e=E∧Below w.heap.size w w')(HK:Hid (Kn b0 w0 w L R))(h:∀w1,Hid (Kn b0 w0 w1 L R)→Z E w1):Calls P f args w Z:=X.mono fun e w1 g=>by
 obtain⟨rfl,b⟩:=g;exact h w1 (Lib.hid (HK.out.call b))
end
end
section
def vC(k n:Int)(f:Nat)(s:ByteArray):Array Value:=#[.int .i64 k,.int .i64 n,.int .u64 (f:Int),.string s]
theorem iy:(prog.info? 26).map (·.size)=some 4:=by kernel_rfl
theorem NY:(prog.info? 3).map (·.size)=some 1:=by kernel_rfl
theorem aaA:(prog.info? 24).map (·.size)=some 1:=by kernel_rfl
theorem aaB:(prog.info? 9).map (·.size)=some 1:=by kernel_rfl
section
variable {b0:Nat}{w0 w:World}{L:List (Nat×TypeId×Array Value)}{R:List bV}{ops:Array Oper}{rest:List Oper}{o:Oper}{a:Act}{Q:Exit→Act→World→Prop}{g:Nat}{k n k2 n2:Int}{f f2:Nat}{s s2:ByteArray}
theorem aL(HK:Hid (Kn b0 w0 w L R))
  (h:∀w' g,Hid (Kn b0 w0 w' (L++[(g,26,vC 0 0 0 ⟨#[]⟩)]) R)→wpList prog ops Q rest (a.put o.dst (.pointer (some ⟨g,0,none⟩))) w') (hgd:o.guard=none:=by rfl)(ho:o.op=.alloc 26:=by rfl):wpList prog ops Q (o::rest) a w:=
 wpList_plain hgd fun K hK=>by
  have h4:=h _ w.heap.size (zH (HK.out.alloc _ _));unfold Oper.wp execOp;simp only[ho];unfold vC at h4;exact zV
theorem aH(HK:Hid (Kn b0 w0 w L R))(i:Nat){p:Operand}{q:Operand}
  (h:∀w',Hid (Kn b0 w0 w' (L.set i (g,26,vC k2 n2 f2 s2)) R)→wpList prog ops Q rest (a.put o.dst undef) w') (hgd:o.guard=none:=by rfl)(ho:o.op=.store 26 p q:=by rfl)(hL:L[i]?=some (g,26,vC k n f s):=by rfl)(hx:a.eval p=.pointer (some ⟨g,0,none⟩):=by rfl)(hy:a.eval q=.agg #[.int .i64 k2,.int .i64 n2,.int .u64 (f2:Int),.string s2]:=by rfl):wpList prog ops Q (o::rest) a w:=
 iL HK i hgd p q ho hL hx hy (by show 4≤4;decide) iy fun w' h1 h2=>h w' (by
  have e:putCells (vC k n f s) 0 (#[Value.int .i64 k2,.int .i64 n2,.int .u64 (f2:Int),.string s2]:Array Value).toList=vC k2 n2 f2 s2:=by
   show putCells (vC k n f s) 0 (vC k2 n2 f2 s2).toList=vC k2 n2 f2 s2
   exact acr
  rw[e] at h1
  exact h1)
theorem pJ(HK:Hid (Kn b0 w0 w L R))(i:Nat){p:Operand}{q:Operand}
  (h:∀w',Hid (Kn b0 w0 w' (L.set i (g,26,vC k n2 f s)) R)→wpList prog ops Q rest (a.put o.dst undef) w') (hgd:o.guard=none:=by rfl)(ho:o.op=.store 3 p q:=by rfl)(hL:L[i]?=some (g,26,vC k n f s):=by rfl)(hx:a.eval p=.pointer (some ⟨g,1,none⟩):=by rfl)(hy:a.eval q=.int .i64 n2:=by rfl):wpList prog ops Q (o::rest) a w:=
 jK HK i hgd p q ho hL hx hy (by show 1<4;decide) NY fun w' h1 _=>h w' h1
theorem pK(HK:Hid (Kn b0 w0 w L R))(i:Nat){p:Operand}{q:Operand}
  (h:∀w',Hid (Kn b0 w0 w' (L.set i (g,26,vC k n f2 s)) R)→wpList prog ops Q rest (a.put o.dst undef) w') (hgd:o.guard=none:=by rfl)(ho:o.op=.store 24 p q:=by rfl)(hL:L[i]?=some (g,26,vC k n f s):=by rfl)(hx:a.eval p=.pointer (some ⟨g,2,none⟩):=by rfl)(hy:a.eval q=.int .u64 (f2:Int):=by rfl):wpList prog ops Q (o::rest) a w:=
 jK HK i hgd p q ho hL hx hy (by show 2<4;decide) aaA fun w' h1 _=>h w' h1
theorem pI(HK:Hid (Kn b0 w0 w L R))(i:Nat){p:Operand}{q:Operand}
  (h:∀w',Hid (Kn b0 w0 w' (L.set i (g,26,vC k n f s2)) R)→wpList prog ops Q rest (a.put o.dst undef) w') (hgd:o.guard=none:=by rfl)(ho:o.op=.store 9 p q:=by rfl)(hL:L[i]?=some (g,26,vC k n f s):=by rfl)(hx:a.eval p=.pointer (some ⟨g,3,none⟩):=by rfl)(hy:a.eval q=.string s2:=by rfl):wpList prog ops Q (o::rest) a w:=
 jK HK i hgd p q ho hL hx hy (by show 3<4;decide) aaB fun w' h1 _=>h w' h1
theorem aZ(HK:Hid (Kn b0 w0 w L R))(i:Nat){x:Operand}(ho:o.op=.load 26 x:=by rfl)(hL:L[i]?=some (g,26,vC k n f s):=by rfl)(hx:a.eval x=.pointer (some ⟨g,0,none⟩):=by rfl):
  (execOp a.eval o).run prog w=.ok (.value (.agg #[.int .i64 k,.int .i64 n,.int .u64 (f:Int),.string s])) w:=
 dY HK x ho i hL hx (vC k n f s) (fun j _=>by rw[Nat.zero_add]) underlying26 iy
end
theorem acZ{fn:Func}{R:Ending→World→Prop}{a:Act}{w:World}{B:Nat}{k n:Int}{f:Nat}{s:ByteArray}{q:Tmp}(hf:fn.results=#[.cell q 26])(hb:eT w B 26 (vC k n f s))
  (hR:R (.returned (.agg #[.int .i64 k,.int .i64 n,.int .u64 (f:Int),.string s])) w) (h2:a.tmps[q]?=some (.pointer (some ⟨B,0,none⟩)):=by rfl)(hd:a.defers=[]:=by rfl):bodyPost prog fn R Exit.ret a w:=
 bodyPost_ret (results_cell_row hf a.tmps w B _ _ (0,0) _ (by simp[h2]) hb underlying26 rfl iy) hd hR
end
end Go.Proofs.YtahdlddbbnjloaaGreat
