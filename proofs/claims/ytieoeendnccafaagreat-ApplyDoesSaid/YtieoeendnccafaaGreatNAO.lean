/- What parts returns: what stands ahead of a key, its own pair, what stands behind. No condition but those named. -/
import Derived.Test.YtieoeendnccafaaGreatNAN
set_option linter.unusedSimpArgs false
set_option linter.unusedVariables false
set_option maxRecDepth 100000
set_option maxHeartbeats 25600000
open Go.RowKit
namespace Go.Proofs.YtieoeendnccafaaGreat
open _root_.Go.Proofs.Tryz
section
theorem Od(n:Nat)(w:World)(hB0:n*40≤140737488355328):Calls prog 111 #[.slice none 0 0,.int .i64 n] w fun e w'=>∃A c,e=.returned (.slice A 0 c)∧bg.Own w.heap.size w' (.slice A 0 c) []∧Below w.heap.size w w':=by
 by_cases h0:n=0
 ·subst h0
  have HK:=zH (Kn.start w);clear hB0;go_enter func111,ntmps111;exact QX
 obtain⟨i0,hi,hz0,hz1,hz2⟩:=info_parts bg.info;have hc1:=grownCap_ge w n 0 26;have hr:=Lib.run_append_nil_zeros (P:=prog) w 58 3 58 26 i0 bg.z .i64 .i64 bg.und underlying3 hi hz0 n (by omega) (by rw[hz1];decide) (by omega) (by rw[hz2];show n*40≤_;omega);have HR:=zH hr;have hc2:=grownCap_le_maxLen w n 0 26 (by unfold maxLen;omega);generalize grownCap w n 0 26=G at *
 have HO:Hid (bg.Own w.heap.size (w.drew.alloc (.cells (Builtin.zeroCells bg.z.cells n++Builtin.zeroCells bg.z.cells (G-n)) 26)) (.slice (some ⟨w.heap.size,0,none⟩) 0 G) []):=by
  have:=World.ownsRow_made (base:=w.heap.size) (e:=26) (size:=4) w.drew (Builtin.zeroCells bg.z.cells n++Builtin.zeroCells bg.z.cells (G-n)) G (Nat.le_refl _) hc2 (by
   rw[Array.size_append,size_zeroCells,size_zeroCells];have:bg.z.cells.size=4:=rfl
   rw[this];omega)
  exact zH this
 have HB:Hid (Below w.heap.size w (w.drew.alloc (.cells (Builtin.zeroCells bg.z.cells n++Builtin.zeroCells bg.z.cells (G-n)) 26))):=zH ((Below.refl _ w).drew.alloc (Nat.le_refl _) _);generalize w.drew.alloc (.cells (Builtin.zeroCells bg.z.cells n++Builtin.zeroCells bg.z.cells (G-n)) 26)=wz at *
 clear hr hi hz0 hz1 hz2 hc1 hc2;have h1:¬((n:Int)<0):=by omega
 have h2:(0:Int)<(n:Int):=by omega
 have h3:wrap64 (n:Int)=(n:Int):=by unfold wrap64;omega
 go_enter func111,ntmps111;exact Rh
theorem yI:Joins prog 58 bg vF:=by
 intro g m ps w hm hb hg hc hs ht;replace ht:(dN ps).length*40≤140737488355328:=ht
 have iA:Hid (∀k,k<m→∃p,ps[k]?=some p∧bJ bg vF w p.A p.n p.c p.l∧∀W,Below w.heap.size w W→W.cell? ⟨g,k,none⟩=some (.slice p.A p.n p.c)):=zH fun k hk=>by
  exact Jy
 have HLen:Hid (∀k,(dN (ps.take k)).length*40≤140737488355328):=zH fun k=>Nat.le_trans (Nat.mul_le_mul_right _ (uD ps k)) ht
 have jo:Hid (ps.take m=ps):=zH (by rw[← hm];exact List.take_length);have HG:=zH (fun W=>Od (dN ps).length W ht);clear hc hs ht hm hg;go_enter func58,ntmps58;go_wp2_with fail;go_loopw [3,11] (fun vs vi wr=>∃k:Nat,k≤m∧vs=.int .i64 ((dN (ps.take k)).length:Nat)∧vi=.int .i64 k∧w=wr) (fun _ vi _=>m-(intOf vi).toNat)
 case atStart=>exact⟨0,Nat.zero_le _,rfl,rfl,rfl⟩
 case round=>
  obtain⟨k,hk,rfl,rfl,rfl⟩:=hrel;by_cases hlt:k<m
  ·obtain⟨p,hp,hsl,hcl⟩:=iA.out k hlt
   exact zq4
  ·obtain rfl:k=m:=by omega
   rw[jo.out];go_wp2_with fail;refine(HG.out _).mono ?_;rintro e w1 ⟨A0,c0,rfl,o1,b1⟩;have HK:=zH ((Kn.start _).called b1 o1);simp only[aJ] at HK;clear b1 o1;go_wp2_with fail;go_loopw [6,27] (fun vs vi wr=>∃(q:Nat) (A:Option Addr) (c N:Nat),q≤k∧Hid ((dN (ps.take q)).length=N)∧vs=.slice A N c∧vi=.int .i64 q∧Hid (Kn w.heap.size w wr [] [row bg (.slice A N c) (dN (ps.take q))])) (fun _ vi _=>k-(intOf vi).toNat)
   case atStart=>exact⟨0,A0,c0,0,Nat.zero_le _,zH rfl,rfl,rfl,HK⟩
   case round=>
    clear HK;obtain⟨q,A,c,N,hq,hN,rfl,rfl,HK⟩:=hrel;by_cases hlt:q<k
    ·obtain⟨p,hp,hsl,hcl⟩:=iA.out q hlt
     have hcell:=hcl _ HK.out.b;have HR:=zH (let h:=hsl.later HK.out.b;And.intro h.rd h.nl);have hlen:=HLen.out (q+1);have he:=lH hp;rw[he,List.length_append,hN.out] at hlen;have HE:=zH he;have BU:Hid (p.n=p.l.length):=zH hsl.len.symm;have HL:Hid ((dN (ps.take q)).length+p.l.length≤9223372036854775807∧((dN (ps.take q)).length+p.l.length)*bg.bytes≤211106232532992):=zH ⟨by rw[hN.out];omega,by show _*40≤_;rw[hN.out];omega⟩;have fB:Hid ((dN (ps.take q)++p.l).length=N+p.l.length):=zH (by rw[List.length_append,hN.out]);clear he hp hlen hsl hcl;obtain⟨Ap,np,cp,lp⟩:=p;simp only at hcell HR BU HL fB HE;go_wp2_with (at_builtin;refine aX HK bg 0 lp BU.out HR HL (N:=N+lp.length) fB ?_;clear HK;intro A4 c4 _ HK;simp only[lS] at HK);exact Rb
    ·obtain rfl:q=k:=by omega
     exact Ra
end
section
def gU(x:Oh):List dA:=[row bO (.slice x.pA x.pn x.pc) x.v.dP,row bg (.slice x.vA x.vn x.vc) x.v.vals,row aG (.slice x.rA x.rn x.rc) x.v.refs]
theorem vB(l:List Oh)(x:Oh):(l++[x]).flatMap gU=l.flatMap gU++[row bO (.slice x.pA x.pn x.pc) x.v.dP]++[row bg (.slice x.vA x.vn x.vc) x.v.vals]++[row aG (.slice x.rA x.rn x.rc) x.v.refs]:=by
 rw[List.flatMap_append,List.flatMap_cons,List.flatMap_nil,List.append_nil,List.append_assoc,List.append_assoc]
 rfl
section
variable {b0:Nat}{w0 w:World}{L:List (Nat×TypeId×Array Value)}{R:List dA}
theorem Kn.init{y:dA}(h:Kn b0 w0 w L (R++[y])):Kn b0 w0 w L R:=by
 have h2:=h.ay R.length;rw[List.take_left' rfl] at h2;exact h2
theorem Kn.oJ{P:Program}{α:Type}{La:Lay P α}{v:Value}{l:List α}(h:Kn b0 w0 w L (R++[row La v l])):La.Own b0 w v l:=h.own R.length (by simp)
theorem Kn.drop1{r0 r1:dA}(h:Kn b0 w0 w L (r0::r1::R)):Kn b0 w0 w L (r0::R):=by
 refine h.pick (fun i=>i) (fun i=>if i=0 then 0 else i+1) (fun i j _ _ hij=>hij) (fun i j _ _ hij=>?_) (fun i x hx=>hx) (fun i x hx=>?_)
 ·split<;>split<;>omega
 ·match i,hx with
  | 0,hx=>exact hx
  | i+1,hx=>exact hx
theorem Kn.join{w':World}{Rn:List dA}(h:Kn b0 w0 w L R)(k:Kn w.heap.size w w' [] Rn):Kn b0 w0 w' L (R++Rn):=by
 have hc:=h.call k.b
 have key:∀(i:Nat) x,(R++Rn)[i]?=some x→(i<R.length∧R[i]?=some x)∨(R.length≤i∧Rn[i-R.length]?=some x):=fun i x hx=>by
  rcases Nat.lt_or_ge i R.length with hi|hi
  ·rw[List.getElem?_append_left hi] at hx;exact .inl ⟨hi,hx⟩
  ·rw[List.getElem?_append_right hi] at hx;exact .inr ⟨hi,hx⟩
 refine⟨hc.b,hc.m,hc.l,fun i y hy=>?_,hc.ll,fun i j x y hx hy=>?_,fun i j x y hx hy hij=>?_⟩
 ·rcases key i y hy with ⟨_,hy⟩|⟨_,hy⟩
  ·exact hc.r i y hy
  ·exact World.ownsRow.mono (k.r _ y hy) h.m
 ·rcases key j y hy with ⟨_,hy⟩|⟨_,hy⟩
  ·exact hc.lr i j x y hx hy
  ·intro e
   have h1:=(lK (k.r _ y hy) e).1;have h2:=(h.l i x hx).2.lt;omega
 ·rcases key i x hx with ⟨h1,hx⟩|⟨h1,hx⟩<;>rcases key j y hy with ⟨h2,hy⟩|⟨h2,hy⟩
  ·exact hc.rr i j x y hx hy hij
  ·intro g hg e
   have h3:=(lK (h.r i x hx) hg).2;have h4:=(lK (k.r _ y hy) e).1;omega
  ·intro g hg e
   have h3:=(lK (h.r j y hy) e).2;have h4:=(lK (k.r _ x hx) hg).1;omega
  ·exact k.rr _ _ x y hx hy (by omega)
theorem Kn.mem{P:Program}{α:Type}{La:Lay P α}{v:Value}{l:List α}(h:Kn b0 w0 w L R)(hm:row La v l∈R):La.Own b0 w v l:=by
 obtain⟨i,hi⟩:=List.mem_iff_getElem?.1 hm;exact h.own i hi
end
structure Fo(o:av.Ob):Prop where
 p:Fit o.dP
 v:Fits bg vF o.vals
 r:Fits aG rF o.refs
 m:Mt.Fit o.mt
 d:o.round≤9223372036854775807
theorem In.fo{w:World}{x:Oh}(h:In w x):Fo x.v:=⟨h.p.fit,h.v.fit,h.r.fit,h.m,h.d⟩
theorem bY.fo{w:World}{A:Option Addr}{n c:Nat}{l:List Oh}(h:bY w A n c l):∀o∈vs l,Fo o:=fun o ho=>by
 obtain⟨x,hx,rfl⟩:=List.mem_map.1 ho;exact(h.i x hx).fo
theorem Kn.obs{b0:Nat}{w0 w:World}{L:List (Nat×TypeId×Array Value)}{R:List dA}{A:Option Addr}{n c:Nat}{l:List Oh}(h:Kn b0 w0 w L R)(h1:row aP (.slice A n c) l∈R)(h2:∀y∈l.flatMap gU,y∈R)(hf:∀o∈vs l,Fo o)(hn:n*144≤140737488355328):bY w A n c l:=by
 have ho:=h.mem h1;have hl:=ho.reads.1;refine⟨bJ.own ho ⟨fun x hx=>trivial,?_⟩,fun x hx=>?_⟩
 ·show l.length*144≤_
  rw[← hl];exact hn
 ·have hfo:=hf x.v (List.mem_map.2 ⟨x,hx,rfl⟩)
  exact aeE
def BK(r:List av.Ob)(w:World)(e:Ending)(w':World):Prop:=∃A n c l,e=.returned (.slice A n c)∧vs l=r∧Kn w.heap.size w w' [] (row aP (.slice A n c) l::l.flatMap gU)∧bY w' A n c l
def lI:Prop:=∀(g m:Nat) (ps:List (QU Oh)) (w:World),ps.length=m→m≤8→g<w.heap.size→(∀i p,ps[i]?=some p→w.cell? ⟨g,i,none⟩=some (.slice p.A p.n p.c))→
 (∀p∈ps,bY w p.A p.n p.c p.l)→(dN ps).length*144≤140737488355328→Calls prog 184 #[.slice (some ⟨g,0,none⟩) m m] w (BK (vs (dN ps)) w)
theorem Dh:lI:=by
 intro g m ps w hm hb hg hc hs ht;have HC:=zH (yM g m ps)
 have HCa:Hid (∀W,Below w.heap.size w W→Calls prog 226 #[.slice (some ⟨g,0,none⟩) m m] W (uG aP (dN ps) W)):=zH fun W hW=>
  yM g m ps W hm hb (Nat.lt_of_lt_of_le hg hW.size) (fun i p hp=>(hW.cell (p:=⟨g,i,none⟩) hg).trans (hc i p hp)) (fun p hp=>((hs p hp).later hW).s) ht
 have HI:Hid (∀x∈dN ps,In w x):=zH fun x hx=>by
  obtain⟨p,hp,hxp⟩:=List.mem_flatMap.1 hx;exact(hs p hp).i x hxp
 clear HC hc hs hm hb hg;generalize dN ps=src at *
 have HP:=zH yL;have HV:=zH yI;have HRf:=zH jA;have HK:=zH (Kn.start w);unfold uG at HCa;go_enter func184,ntmps184;go_wp2_with (refine fE aP HK ?_;clear HK;intro _ g2 HK;simp only[aJ] at HK);refine(HCa.out _ HK.out.b).mono ?_;rintro e w1 ⟨A2,n2,c2,rfl,o2,b2⟩;obtain rfl:n2=src.length:=o2.reads.1;replace HK:=zH (HK.out.called b2 o2);simp only[aO,aJ] at HK;clear o2 b2 HCa;have HFs:Hid (Fits aP oF src):=zH ⟨fun x hx=>trivial,ht⟩;generalize hN:src.length=N at *
 have mI:=zH hN;clear hN;go_wp2_with fail;go_loopw [3,10] (fun vl vi wr=>∃(k:Nat) (A1:Option Addr) (c1:Nat) (l1:List Oh),k≤N∧vl=.slice A1 k c1∧vi=.int .i64 k∧Hid (vs l1=vs (src.take k))∧Hid (l1.length=k)∧Hid (Kn w.heap.size w wr [] (row aP (.slice A1 k c1) l1::row aP (.slice A2 N c2) src::l1.flatMap gU))) (fun _ vi _=>N-(intOf vi).toNat)
 case atStart=>exact⟨0,_,_,[],Nat.zero_le _,rfl,rfl,zH rfl,zH rfl,HK⟩
 case round=>
  clear HK;obtain⟨k,A1,c1,l1,hk,rfl,rfl,HVs,HLen,HK⟩:=hrel;by_cases hlt:k<N
  ·obtain⟨x,hx⟩:=Lay.fI (l:=src) (k:=k) (by rw[mI.out];exact hlt)
   have hsl:bJ aP oF wr A2 N c2 src:=bJ.own (HK.out.own 1 rfl) HFs.out;obtain⟨b,o,rfl,hat⟩:=hsl.at (Nat.lt_of_le_of_lt (Nat.zero_le _) hlt);have HX:Hid (∀j v,(vR x)[j]?=some v→wr.cell? ⟨b,o+k*11+j,none⟩=some v):=zH (hat wr (Below.refl _ _) k x hx);have FM:=zH (HI.out x (List.mem_of_getElem? hx));have Ef:Hid (vs (src.take (k+1))=vs (src.take k)++[x.v]):=zH (by rw[Lay.take_succ hx];unfold vs;rw[List.map_append];rfl)
   have HL:Hid (l1.length+1≤9223372036854775807∧(l1.length+1)*aP.bytes≤211106232532992):=zH (by
    rw[HLen.out];refine⟨by omega,?_⟩
    show(k+1)*144≤_
    omega)
   have fB:Hid (∀y:Oh,(l1++[y]).length=k+1):=zH fun y=>by rw[List.length_append,HLen.out];rfl
   clear hsl hat hx;have hk1:(0:Int)≤(k:Int):=by omega
   have hk2:(k:Int)<(N:Int):=by omega
   go_wp2_with (first|(refine au (v:=.agg (bS x)) (eB (off:=o+k*11) HX.out) ?_)|(refine gY HK ?_;clear HK;intro _ g5 HK;simp only[aJ] at HK)|(refine fD HK 0 ?_;clear HK;intro _ HK;simp only[lS] at HK)|refine zX (mK HK 0) ?_|(refine dG bO Tt HK ?_;clear HK;intro w3 g6 HK _;simp only[aO,aJ] at HK));refine(HP.out.one HK 1 rfl (FM.out.p.later HK.out.b).sls).mono ?_;rintro e w4 ⟨A4,n4,c4,rfl,o4,b4⟩;replace HK:=zH (HK.out.called b4 o4);simp only[aO] at HK;clear o4 b4;go_wp2_with (first|(refine gI HK 0 x.v.dP ?_;clear HK;intro _ HK;simp only[lS] at HK)|refine zX (rM HK 0) ?_|(refine dG bg xI HK ?_;clear HK;intro w5 g7 HK _;simp only[aO,aJ] at HK));refine(HV.out.one HK 2 rfl (FM.out.v.later HK.out.b)).mono ?_;rintro e w6 ⟨A5,n5,c5,rfl,o5,b5⟩;replace HK:=zH (HK.out.called b5 o5);simp only[aO] at HK;clear o5 b5;go_wp2_with (first|(refine iP HK 0 x.v.vals ?_;clear HK;intro _ HK;simp only[lS] at HK)|refine zX (gK HK 0) ?_|(refine dG aG nD HK ?_;clear HK;intro w7 g8 HK _;simp only[aO,aJ] at HK));refine(HRf.out.one HK 3 rfl (FM.out.r.later HK.out.b)).mono ?_;rintro e w8 ⟨A6,n6,c6,rfl,o6,b6⟩;replace HK:=zH (HK.out.called b6 o6);simp only[aO] at HK;clear o6 b6;have vQ:Hid ((l1++[((x.sp A4 n4 c4 x.v.dP).sv A5 n5 c5 x.v.vals).sr A6 n6 c6 x.v.refs]).length=k+1):=zH (fB.out _);go_wp2_with (first|(refine cu HK 0 x.v.refs ?_;clear HK;intro _ HK;simp only[lS] at HK)|refine zX (jv HK 0) ?_|(refine dI aP (p:=((x.sp A4 n4 c4 x.v.dP).sv A5 n5 c5 x.v.vals).sr A6 n6 c6 x.v.refs) HK ?_;intro _ g9 dY;have HR:=zH (Kn.oJ dY.out).rd;simp only[aO] at dY;replace HK:=dY;clear dY)|(at_builtin;refine aX HK aP 0 [((x.sp A4 n4 c4 x.v.dP).sv A5 n5 c5 x.v.vals).sr A6 n6 c6 x.v.refs] rfl HR HL (N:=k+1) vQ ?_;clear HK;intro A7 c7 _ HK;simp only[lS] at HK));refine⟨⟨k+1,A7,c7,l1++[((x.sp A4 n4 c4 x.v.dP).sv A5 n5 c5 x.v.vals).sr A6 n6 c6 x.v.refs],by omega,rfl,by go_num,zH ?_,vQ,zH ?_⟩,by simp[intOf];omega⟩
   ·rw[Ef.out,← HVs.out]
    unfold vs;rw[List.map_append]
    rfl
   ·rw[vB]
    have h:=HK.out.aA 0;rw[← aO,← aO] at h;exact h.init
  ·obtain rfl:k=N:=by omega
   have hnb:k*144≤140737488355328:=by rw[← mI.out];exact HFs.out.big
   have HEq:Hid (vs l1=vs src):=zH (by rw[HVs.out,← mI.out,List.take_length])
   have yV:Hid (∀y∈vs l1,Fo y):=zH fun y hy=>by
    exact Zn
   go_wp2_with fail;go_ret;exact⟨A1,k,c1,l1,rfl,HEq.out,HK.out.drop1,HK.out.obs (List.mem_cons_self ..) (fun y hy=>List.mem_cons_of_mem _ (List.mem_cons_of_mem _ hy)) yV.out hnb⟩
section
variable {b0:Nat}{w0 w:World}{L:List (Nat×TypeId×Array Value)}{R:List dA}{g:Nat}{A1 A2 A3:Option Addr}{n1 c1 n2 c2 n3 c3:Nat}{l1 l2 l3:List Oh}
theorem lI.one(J:lI)(HK:Hid (Kn b0 w0 w L R))(i:Nat)(hL:L[i]?=some (g,22,#[.slice A1 n1 c1]))(h1:bY w A1 n1 c1 l1):
  Calls prog 184 #[.slice (some ⟨g,0,none⟩) 1 1] w (BK (vs l1) w):=by
 have h:=J g 1 [⟨A1,n1,c1,l1⟩] w rfl (by decide) (HK.out.blk i hL).lt (fun j p hp=>by
  match j,hp with
  | 0,hp=>simp at hp;subst hp;exact HK.out.cell i hL 0 rfl) (fun p hp=>by
   rw[List.mem_singleton] at hp;subst hp;exact h1) (by
   show(l1++[]).length*_≤_
   rw[List.append_nil];exact h1.s.fit.big)
 have e:dN [(⟨A1,n1,c1,l1⟩:QU Oh)]=l1:=by show l1++[]=l1;rw[List.append_nil]
 exact vS
theorem lI.two(J:lI)(HK:Hid (Kn b0 w0 w L R))(i:Nat)(hL:L[i]?=some (g,22,#[.slice A1 n1 c1,.slice A2 n2 c2]))(h1:bY w A1 n1 c1 l1)(h2:bY w A2 n2 c2 l2)(ht:(n1+n2)*144≤140737488355328):
  Calls prog 184 #[.slice (some ⟨g,0,none⟩) 2 2] w (BK (vs (l1++l2)) w):=by
 have h:=J g 2 [⟨A1,n1,c1,l1⟩,⟨A2,n2,c2,l2⟩] w rfl (by decide) (HK.out.blk i hL).lt (fun j p hp=>by
  match j,hp with
  | 0,hp=>simp at hp;subst hp;exact HK.out.cell i hL 0 rfl
  | 1,hp=>simp at hp;subst hp;exact HK.out.cell i hL 1 rfl) (fun p hp=>by
   simp only[List.mem_cons,List.not_mem_nil,or_false] at hp
   rcases hp with rfl|rfl
   ·exact h1
   ·exact h2) (by
   show(l1++(l2++[])).length*_≤_
   rw[List.append_nil,List.length_append,h1.len,h2.len];exact ht)
 have e:dN [(⟨A1,n1,c1,l1⟩:QU Oh),⟨A2,n2,c2,l2⟩]=l1++l2:=by show l1++(l2++[])=_;rw[List.append_nil]
 exact vS
theorem lI.three(J:lI)(HK:Hid (Kn b0 w0 w L R))(i:Nat)(hL:L[i]?=some (g,22,#[.slice A1 n1 c1,.slice A2 n2 c2,.slice A3 n3 c3]))(h1:bY w A1 n1 c1 l1)(h2:bY w A2 n2 c2 l2)(h3:bY w A3 n3 c3 l3)(ht:(n1+n2+n3)*144≤140737488355328):
  Calls prog 184 #[.slice (some ⟨g,0,none⟩) 3 3] w (BK (vs (l1++l2++l3)) w):=by
 have h:=J g 3 [⟨A1,n1,c1,l1⟩,⟨A2,n2,c2,l2⟩,⟨A3,n3,c3,l3⟩] w rfl (by decide) (HK.out.blk i hL).lt (fun j p hp=>by
  match j,hp with
  | 0,hp=>simp at hp;subst hp;exact HK.out.cell i hL 0 rfl
  | 1,hp=>simp at hp;subst hp;exact HK.out.cell i hL 1 rfl
  | 2,hp=>simp at hp;subst hp;exact HK.out.cell i hL 2 rfl) (fun p hp=>by
   simp only[List.mem_cons,List.not_mem_nil,or_false] at hp
   rcases hp with rfl|rfl|rfl
   ·exact h1
   ·exact h2
   ·exact h3) (by
   show(l1++(l2++(l3++[]))).length*_≤_
   rw[List.append_nil,List.length_append,List.length_append,h1.len,h2.len,h3.len,← Nat.add_assoc];exact ht)
 have e:dN [(⟨A1,n1,c1,l1⟩:QU Oh),⟨A2,n2,c2,l2⟩,⟨A3,n3,c3,l3⟩]=l1++l2++l3:=by show l1++(l2++(l3++[]))=_;rw[List.append_nil,List.append_assoc]
 exact vS
end
end
section
def jY(w0:World)(y:av.Oc)(w:World)(e:Ending)(w':World):Prop:=∃x A n c Rn,e=.returned (.agg (mX x y.p y.later A n c))∧x.v=y.o∧Kn w.heap.size w w' [] Rn∧
 ∀(b:Nat) (W0 W:World) L R,Kn b W0 W L R→(∀y∈Rn,y∈R)→(Below w0.heap.size w0 W→In W x)∧bJ aR tF W A n c y.outs
theorem Fa{l:List av.Ot}(h:l.length≤6:=by rw[hL7.out];exact hM3):Fits aR tF l:=⟨fun x hx=>trivial,by show l.length*72≤_;omega⟩
theorem Ov(w0:World)(x:Oh)(r:Rf)(w:World)(hx0:In w0 x)(hw:Below w0.heap.size w0 w):Calls prog 232 #[.agg (bS x),.agg #[.int .i64 r.c,.int .i64 r.e,.int .i64 r.r]] w (jY w0 (av.take x.v r) w):=by
 have hx:=hx0.later hw;have HI:=zH hx0;have HT:=zH (fun W (hW:Below w.heap.size w W)=>PL x.rA x.rc x.rn x.v.refs r W (hx.r.later hW));have iD:=zH (Nc (r:=r) hx.r.fit);have HK:=AY w 63 (bS x) 35 #[.int .i64 r.c,.int .i64 r.e,.int .i64 r.r] 222 (mX rU av.rz false none 0 0);unfold jY av.take;unfold adv at HT;simp only;clear hx hx0 hw;generalize aS.CF x.v.refs r=m at *
 generalize aS.JU x.v.refs r=h at *
 generalize aS.yY x.v.refs r=z at *
 by_cases hz:z=0
 ·subst hz
  cases h
  all_goals
   go_enter func232,ntmps232;go_wp2_with (first|refine zX (gK HK 0) ?_|refine zX (aB HK 1) ?_);refine(HT.out _ HK.out.b).mono ?_;rintro e w1 ⟨A4,n4,c4,rfl,o4,b4⟩;replace HK:=zH (HK.out.called b4 o4);simp only[aJ] at HK;clear o4 b4;go_wp2_with (first|(refine cu HK 0 m ?_;clear HK;intro _ HK;simp only[lS] at HK)|refine zX (jv HK 0) ?_|refine zX (zM (p:=av.err 0)) ?_|(refine eT HK 2 ?_;clear HK;intro _ HK;simp only[lS] at HK));exact aak
 ·have hz2:(z==0)=false:=by simpa using hz
  have hd:(decide (z=0)&&!h)=false:=by rw[decide_eq_false hz];rfl
  rw[hd];clear hd hz;go_enter func232,ntmps232;go_wp2_with (first|refine zX (gK HK 0) ?_|refine zX (aB HK 1) ?_);refine(HT.out _ HK.out.b).mono ?_;rintro e w1 ⟨A4,n4,c4,rfl,o4,b4⟩;replace HK:=zH (HK.out.called b4 o4);simp only[aJ] at HK;clear o4 b4;go_wp2_with (first|(refine cu HK 0 m ?_;clear HK;intro _ HK;simp only[lS] at HK)|refine zX (jv HK 0) ?_|refine zX (zM (p:=av.err z)) ?_|(refine eT HK 2 ?_;clear HK;intro _ HK;simp only[lS] at HK));exact aak
theorem qc(y:Rf)(h:Bool):(av.held y h).length≤6:=by cases h<;>(unfold av.held;simp)
theorem OB(w0:World)(x:Oh)(r:Rf)(w:World)(hx0:In w0 x)(hw:Below w0.heap.size w0 w):Calls prog 233 #[.agg (bS x),.agg #[.int .i64 r.c,.int .i64 r.e,.int .i64 r.r]] w (jY w0 (av.free x.v r) w):=by
 have hx:=hx0.later hw;have HI:=zH hx0;have HT:=zH (fun W (hW:Below w.heap.size w W)=>PO x.rA x.rc x.rn x.v.refs r W (hx.r.later hW));have iD:=zH (Nh (r:=r) hx.r.fit);have yV:=zH (Fa (h:=(qc (aS.EZ x.v.refs r) (aS.Dy x.v.refs r))));have HH:=zH (fun W=>CO (aS.EZ x.v.refs r) (aS.Dy x.v.refs r) W);have HK:=AY w 63 (bS x) 35 #[.int .i64 r.c,.int .i64 r.e,.int .i64 r.r] 222 (mX rU av.rz false none 0 0);unfold jY av.free;unfold adz at HT;unfold Lu at HH;simp only;clear hx hx0 hw;generalize aS.Ci x.v.refs r=m at *
 generalize av.held (aS.EZ x.v.refs r) (aS.Dy x.v.refs r)=os at *
 generalize aS.Dy x.v.refs r=h at *
 generalize aS.zJ x.v.refs r=z at *
 generalize aS.EZ x.v.refs r=y at *
 go_enter func233,ntmps233;go_wp2_with (first|refine zX (gK HK 0) ?_|refine zX (aB HK 1) ?_);refine(HT.out _ HK.out.b).mono ?_;rintro e w1 ⟨A4,n4,c4,rfl,o4,b4⟩;replace HK:=zH (HK.out.called b4 o4);simp only[aJ] at HK;clear o4 b4;go_upto_region 3 with (first|(refine aQ HK ?_;clear HK;intro _ g5 HK;simp only[aO,aJ] at HK)|(refine aW HK 3 ?_;clear HK;intro _ HK;simp only[lS] at HK)|(refine cu HK 0 m ?_;clear HK;intro _ HK;simp only[lS] at HK));replace HK:=zH HK.out.drew;refine wp_region_any (by kernel_rfl) ?_;change wpAny _ _ _ _ _ _ _ (World.drew _);refine wpAny_take (i:=1) (oi:=⟨some 21,_,_,_,_,_⟩) (v:=?_) rfl (by kernel_rfl) (by kernel_rfl) (by kernel_rfl) (fun _ _ _ h=>h) (Or.inl ⟨by rfl,?_⟩) ?_
 rotate_left
 ·(intro w;go_simp;try with_reducible rfl)
 try simp only[Eb,Ea,DZ,DY,DX]
 refine wpAny_take (i:=2) (oi:=⟨some 22,_,_,_,_,_⟩) (v:=?_) rfl (by kernel_rfl) (by kernel_rfl) (by kernel_rfl) (fun _ _ _ h=>h) (Or.inl ⟨by rfl,?_⟩) ?_
 rotate_left
 ·(intro w;go_simp;try with_reducible rfl)
 try simp only[Eb,Ea,DZ,DY,DX]
 refine wpAny_take (i:=4) (oi:=⟨some 24,_,_,_,_,_⟩) (v:=?_) rfl (by kernel_rfl) (by kernel_rfl) (by kernel_rfl) (fun _ _ _ h=>h) (Or.inl ⟨by rfl,?_⟩) ?_
 rotate_left
 ·(intro w;go_simp;try with_reducible rfl)
 try simp only[Eb,Ea,DZ,DY,DX]
 refine wpAny_ready (rs:=[0,3]) (by kernel_rfl) (by simp) ?_;refine AllReady.cons (o:=⟨some 20,_,_,_,_,_⟩) rfl (fun K hK=>?_) (AllReady.cons (o:=⟨some 23,_,_,_,_,_⟩) rfl (fun K hK=>?_) AllReady.nil);replace hK:=zH hK;refine fK (jv HK 0) ?_;refine hK.out _ _ ?_;clear hK K
 try simp only[Eb,Ea,DZ,DY,DX]
 refine wpAny_ready (rs:=[3]) (by kernel_rfl) (by simp) ?_;refine AllReady.cons (o:=⟨some 23,_,_,_,_,_⟩) rfl (fun K hK=>?_) AllReady.nil;replace hK:=zH hK;refine fK (aB HK 3) ?_;refine hK.out _ _ ?_;clear hK K
 try simp only[Eb,Ea,DZ,DY,DX]
 refine wpAny_ready (rs:=[5]) (by kernel_rfl) (by simp) ?_;refine AllReady.cons (o:=⟨some 25,_,_,_,_,_⟩) rfl (fun K hK=>?_) AllReady.nil;replace hK:=zH hK;go_simp;go_at_call 186;refine(HH.out _).mono ?_;rintro e w2 ⟨A6,n6,c6,rfl,k6,b6⟩;replace HK:=zH (k6 _ _ _ _ HK.out);simp only[aO,aJ] at HK;clear k6 b6;refine hK.out _ _ ?_;clear hK K
 try simp only[Eb,Ea,DZ,DY,DX]
 refine wpAny_take (i:=6) (oi:=⟨some 26,_,_,_,_,_⟩) (v:=?_) rfl (by kernel_rfl) (by kernel_rfl) (by kernel_rfl) (fun _ _ _ h=>h) (Or.inl ⟨by rfl,?_⟩) ?_
 rotate_left
 ·(intro w;refine Eq.trans (zL (p:=av.err z)) ?_;with_reducible rfl)
 try simp only[Eb,Ea,DZ,DY,DX]
 refine wpAny_ready (rs:=[7]) (by kernel_rfl) (by simp) ?_;refine AllReady.cons (o:=⟨none,_,_,_,_,_⟩) rfl (fun K hK=>?_) AllReady.nil;replace hK:=zH hK;refine rY HK 2 ?_;clear HK;intro _ HK;simp only[lS] at HK;refine hK.out _ _ ?_;clear hK K
 try simp only[Eb,Ea,DZ,DY,DX]
 refine wpAny_done (by kernel_rfl) ?_ _
 rotate_left
 replace hK:=zH hK;refine fK (aB HK 3) ?_;refine hK.out _ _ ?_;clear hK K
 try simp only[Eb,Ea,DZ,DY,DX]
 refine wpAny_ready (rs:=[0,5]) (by kernel_rfl) (by simp) ?_;refine AllReady.cons (o:=⟨some 20,_,_,_,_,_⟩) rfl (fun K hK=>?_) (AllReady.cons (o:=⟨some 25,_,_,_,_,_⟩) rfl (fun K hK=>?_) AllReady.nil);replace hK:=zH hK;refine fK (jv HK 0) ?_;refine hK.out _ _ ?_;clear hK K
 try simp only[Eb,Ea,DZ,DY,DX]
 refine wpAny_ready (rs:=[5]) (by kernel_rfl) (by simp) ?_;refine AllReady.cons (o:=⟨some 25,_,_,_,_,_⟩) rfl (fun K hK=>?_) AllReady.nil;replace hK:=zH hK;go_simp;go_at_call 186;refine(HH.out _).mono ?_;rintro e w2 ⟨A6,n6,c6,rfl,k6,b6⟩;replace HK:=zH (k6 _ _ _ _ HK.out);simp only[aO,aJ] at HK;clear k6 b6;refine hK.out _ _ ?_;clear hK K
 try simp only[Eb,Ea,DZ,DY,DX]
 refine wpAny_take (i:=6) (oi:=⟨some 26,_,_,_,_,_⟩) (v:=?_) rfl (by kernel_rfl) (by kernel_rfl) (by kernel_rfl) (fun _ _ _ h=>h) (Or.inl ⟨by rfl,?_⟩) ?_
 rotate_left
 ·(intro w;refine Eq.trans (zL (p:=av.err z)) ?_;with_reducible rfl)
 try simp only[Eb,Ea,DZ,DY,DX]
 refine wpAny_ready (rs:=[7]) (by kernel_rfl) (by simp) ?_;refine AllReady.cons (o:=⟨none,_,_,_,_,_⟩) rfl (fun K hK=>?_) AllReady.nil;replace hK:=zH hK;refine rY HK 2 ?_;clear HK;intro _ HK;simp only[lS] at HK;refine hK.out _ _ ?_;clear hK K
 try simp only[Eb,Ea,DZ,DY,DX]
 refine wpAny_done (by kernel_rfl) ?_ _
 rotate_left
 replace hK:=zH hK;go_simp;go_at_call 186;refine(HH.out _).mono ?_;rintro e w2 ⟨A6,n6,c6,rfl,k6,b6⟩;replace HK:=zH (k6 _ _ _ _ HK.out);simp only[aO,aJ] at HK;clear k6 b6;refine hK.out _ _ ?_;clear hK K
 try simp only[Eb,Ea,DZ,DY,DX]
 refine wpAny_ready (rs:=[0]) (by kernel_rfl) (by simp) ?_;refine AllReady.cons (o:=⟨some 20,_,_,_,_,_⟩) rfl (fun K hK=>?_) AllReady.nil;replace hK:=zH hK;refine fK (jv HK 0) ?_;refine hK.out _ _ ?_;clear hK K
 try simp only[Eb,Ea,DZ,DY,DX]
 refine wpAny_take (i:=6) (oi:=⟨some 26,_,_,_,_,_⟩) (v:=?_) rfl (by kernel_rfl) (by kernel_rfl) (by kernel_rfl) (fun _ _ _ h=>h) (Or.inl ⟨by rfl,?_⟩) ?_
 rotate_left
 ·(intro w;refine Eq.trans (zL (p:=av.err z)) ?_;with_reducible rfl)
 try simp only[Eb,Ea,DZ,DY,DX]
 refine wpAny_ready (rs:=[7]) (by kernel_rfl) (by simp) ?_;refine AllReady.cons (o:=⟨none,_,_,_,_,_⟩) rfl (fun K hK=>?_) AllReady.nil;replace hK:=zH hK;refine rY HK 2 ?_;clear HK;intro _ HK;simp only[lS] at HK;refine hK.out _ _ ?_;clear hK K
 try simp only[Eb,Ea,DZ,DY,DX]
 refine wpAny_done (by kernel_rfl) ?_ _
 rotate_left
 all_goals
  go_wp2_with fail;exact nH results233 (HK.out.blk 2 rfl) ⟨_,_,_,_,_,rfl,rfl,HK.out.aA 0,fun _ _ _ _ _ K hm=>⟨fun hb=>(HI.out.later hb).sr (bJ.own (K.mem (hm _ (by simp))) iD.out),bJ.own (K.mem (hm _ (by simp))) yV.out⟩⟩
end
section
def adu(r s:List Rf)(x:Int)(w:World)(e:Ending)(w':World):Prop:=∃A n c B k d,e=.returned (.tuple #[.slice A n c,.slice B k d,.int .i64 x])∧(∀(b0:Nat) (w0:World) L R,Kn b0 w0 w L R→Kn b0 w0 w' L (R++[row aG (.slice A n c) r,row aG (.slice B k d) s]))∧Below w.heap.size w w'
theorem Gc{w w':World}{A:Option Addr}{n c:Nat}{r:List Rf}(ho:aG.Own w.heap.size w' (.slice A n c) r)(hb:Below w.heap.size w w'):∀(b0:Nat) (w0:World) L R,Kn b0 w0 w L R→Kn b0 w0 w' L (R++[row aG (.slice A n c) r,row aG (.slice none 0 0) []]):=fun b0 w0 L R h=>by
 have h2:=(h.called hb ho).wE aG;rw[List.append_assoc] at h2;exact h2
theorem Oe{w w':World}{A:Option Addr}{n c:Nat}{r:List Rf}(ho:aG.Own w.heap.size w' (.slice A n c) r)(hb:Below w.heap.size w w'):∀(b0:Nat) (w0:World) L R,Kn b0 w0 w L R→Kn b0 w0 w' L (R++[row aG (.slice none 0 0) [],row aG (.slice A n c) r]):=fun b0 w0 L R h=>by
 have h2:=(h.wE aG).called hb ho;rw[List.append_assoc] at h2;exact h2
theorem Qd(m:Int)(A:Option Addr)(c n:Nat)(l:List Rf)(r:Rf)(w:World)(hs:bJ aG rF w A n c l):
  Calls prog 259 #[.int .i64 m,.slice A n c,.agg #[.int .i64 r.c,.int .i64 r.e,.int .i64 r.r]] w (adu (Gt.Em m l r) (Gt.zk m l r) (Gt.qB m l r) w):=by
 have HM:=zH (fun W (hW:Below w.heap.size w W)=>vK m A c n l W (hs.later hW));have HC:=zH (fun W=>wX r W);have Ct:=zH (fun W (hW:Below w.heap.size w W)=>NZ A c n l r.c W (hs.later hW));have HS:=zH hs;have HJ:=zH jA;have hlen:=hs.len;have HK:=iK w 35 #[.int .i64 r.c,.int .i64 r.e,.int .i64 r.r];unfold cZ adu at *
 by_cases hr:Gt.Right m l
 case neg=>
  rw[decide_eq_false hr] at HM;obtain⟨e1,e2,e3⟩:=Gt.zU (r:=r) (fun h=>hr h.1);rw[e1,e2,e3];clear e1 e2 e3 hr hs hlen HC Ct;go_enter func259,ntmps259;go_wp2_with fail;refine cb (HM.out _ HK.out.b) HK ?_;exact abx
 case pos=>
 rw[decide_eq_true hr] at HM;by_cases hok:aS.ok r
 case neg=>
  rw[decide_eq_false hok] at HC;obtain⟨e1,e2,e3⟩:=Gt.zU (m:=m) (l:=l) (r:=r) (fun h=>hok h.2);rw[e1,e2,e3];clear e1 e2 e3 hr hok hs hlen Ct;go_enter func259,ntmps259;go_wp2_with fail;refine cb (HM.out _ HK.out.b) HK ?_;clear HK;intro _ HK;go_wp2_with refine zX (aB HK 0) ?_;refine cb (HC.out _) HK ?_;exact abx
 case pos=>
 rw[decide_eq_true hok] at HC;by_cases ha:aS.asked l r.c=true
 ·rw[ha] at Ct
  obtain⟨e1,e2,e3⟩:=Gt.El hr hok ha;rw[e1,e2,e3];clear e1 e2 e3 hr hok hs hlen ha;go_enter func259,ntmps259;go_wp2_with fail;refine cb (HM.out _ HK.out.b) HK ?_;clear HK;intro _ HK;go_wp2_with refine zX (aB HK 0) ?_;refine cb (HC.out _) HK ?_;clear HK;intro _ HK;go_wp2_with refine zX (fH HK 0) ?_;refine cb (Ct.out _ HK.out.b) HK ?_;exact abx
 ·have ha2:aS.asked l r.c=false:=Bool.eq_false_iff.2 ha
  rw[ha2] at Ct;have h5:=aS.fG hr.2.2.2;have HF:=zH (Ih r);have gT:Hid ((l++[r]).length=n+1):=zH (by rw[List.length_append,hlen];rfl);rw[hlen] at h5;by_cases hfull:(l.length:Int)+1=m
  ·obtain⟨e1,e2,e3⟩:=Gt.oz hr hok ha2 hfull
   rw[e1,e2,e3]
   have HM4:Hid (∀n4:Nat,n4=(l++[r]).length→((n4:Int)==m)=true):=zH fun n4 h=>by
    rw[h,gT.out,beq_iff_eq,← hfull,hlen];omega
   clear e1 e2 e3 hr hok hs hlen ha ha2 hfull gT;go_enter func259,ntmps259;go_wp2_with fail;refine cb (HM.out _ HK.out.b) HK ?_;clear HK;intro _ HK;go_wp2_with refine zX (aB HK 0) ?_;refine cb (HC.out _) HK ?_;clear HK;intro _ HK;go_wp2_with refine zX (fH HK 0) ?_;refine cb (Ct.out _ HK.out.b) HK ?_;clear HK;intro _ HK;go_wp2_with (first|refine zX (aB HK 0) ?_|(refine dI aG (p:=r) HK ?_;intro _ g5 dY;simp only[aO,aJ] at dY;have HR:=zH (dY.out.own 0 rfl).rd;replace HK:=dY;clear dY)|(refine lT aG nD HK ?_;clear HK;intro w2 g7 HK _;simp only[aO,aJ] at HK));refine(HJ.out.two HK 1 rfl (HS.out.later HK.out.b) (bJ.own (HK.out.own 0 rfl) HF.out) (by show(n+1)*24≤_;omega)).mono ?_;rintro e w3 ⟨A4,n4,c4,rfl,o4,b4⟩;have hz:=HM4.out n4 (Lay.Own.reads o4).1;replace HK:=zH (HK.out.called b4 o4);clear o4 b4;go_wp2_with fail;exact iQ results259 (hR:=⟨none,0,0,A4,n4,c4,rfl,Oe (HK.out.own 1 rfl) HK.out.b,HK.out.b⟩)
  ·obtain⟨e1,e2,e3⟩:=Gt.ow hr hok ha2 hfull
   rw[e1,e2,e3]
   have HM4:Hid (∀n4:Nat,n4=(l++[r]).length→((n4:Int)==m)=false):=zH fun n4 h=>by
    rw[h,gT.out,beq_eq_false_iff_ne];intro he;apply hfull;rw[← he,hlen];omega
   clear e1 e2 e3 hr hok hs hlen ha ha2 hfull gT;go_enter func259,ntmps259;go_wp2_with fail;refine cb (HM.out _ HK.out.b) HK ?_;clear HK;intro _ HK;go_wp2_with refine zX (aB HK 0) ?_;refine cb (HC.out _) HK ?_;clear HK;intro _ HK;go_wp2_with refine zX (fH HK 0) ?_;refine cb (Ct.out _ HK.out.b) HK ?_;clear HK;intro _ HK;go_wp2_with (first|refine zX (aB HK 0) ?_|(refine dI aG (p:=r) HK ?_;intro _ g5 dY;simp only[aO,aJ] at dY;have HR:=zH (dY.out.own 0 rfl).rd;replace HK:=dY;clear dY)|(refine lT aG nD HK ?_;clear HK;intro w2 g7 HK _;simp only[aO,aJ] at HK));refine(HJ.out.two HK 1 rfl (HS.out.later HK.out.b) (bJ.own (HK.out.own 0 rfl) HF.out) (by show(n+1)*24≤_;omega)).mono ?_;rintro e w3 ⟨A4,n4,c4,rfl,o4,b4⟩;have hz:=HM4.out n4 (Lay.Own.reads o4).1;replace HK:=zH (HK.out.called b4 o4);clear o4 b4;go_wp2_with fail;exact iQ results259 (hR:=⟨A4,n4,c4,none,0,0,rfl,Gc (HK.out.own 1 rfl) HK.out.b,HK.out.b⟩)
end
section
theorem DC{w:World}{o:Oper}{a:Act}{x y:Int}{p:Operand}(hy:IntKind.i64.wrap (x+1)=y)(ho:o.op=.binOp .add 3 p (.const (.int .i64 1)) 3:=by rfl)(hp:a.eval p=.int .i64 x:=by rfl):
  (execOp a.eval o).run prog w=.ok (.value (.int .i64 y)) w:=Bq p (ho:=ho) (hp:=hp) hy
theorem CG{s:List Rf}{k:Nat}{y:Rf}(p:av.Rp)(h:s[k]?=some y):av.rR (s.take (k+1)) p=av.rR (s.take k) p++[⟨y,p⟩]:=by
 unfold av.rR;rw[Lay.take_succ h,List.map_append]
 rfl
theorem Oi(w0:World)(x:Oh)(r:Rf)(w:World)(hx0:In w0 x)(hw:Below w0.heap.size w0 w)(hd:0≤x.v.round):Calls prog 234 #[.agg (bS x),.agg #[.int .i64 r.c,.int .i64 r.e,.int .i64 r.r]] w (jY w0 (av.wait x.v r) w):=by
 have hx:=hx0.later hw;have HI:=zH hx0;have HT:=zH (fun W (hW:Below w.heap.size w W)=>Qd x.v.cap x.rA x.rc x.rn x.v.refs r W (hx.r.later hW));have iD:=zH (Nb (m:=x.v.cap) (r:=r) hx.r.fit)
 have gT:Hid (∀r':Rf,(Gt.zk x.v.cap x.v.refs r).length≤6):=zH fun _=>by
  by_cases he:Gt.qB x.v.cap x.v.refs r=0
  ·obtain⟨h1,h2,h3⟩:=Gt.Cv he
   have h5:=aS.fG h1.2.2.2;by_cases hf:(x.v.refs.length:Int)+1=x.v.cap
   ·rw[(Gt.oz h1 h2 h3 hf).2.2,List.length_append];show _+1≤6;omega
   ·rw[(Gt.ow h1 h2 h3 hf).2.2];exact Nat.zero_le _
  ·rw[(Gt.vT (z:=Gt.qB x.v.cap x.v.refs r) rfl he).2.2];exact Nat.zero_le _
 have HNu:=zH yJ;have HK:=AY w 63 (bS x) 35 #[.int .i64 r.c,.int .i64 r.e,.int .i64 r.r] 222 (mX rU av.rz false none 0 0);have hmax:=hx.d;unfold jY av.wait;unfold adu at HT;clear hx hx0 hw;generalize Gt.Em x.v.cap x.v.refs r=m at *
 generalize Gt.zk x.v.cap x.v.refs r=s at *
 generalize Gt.qB x.v.cap x.v.refs r=z at *
 by_cases hs:s.length=0
 ·rw[if_pos hs]
  obtain rfl:s=[]:=List.length_eq_zero_iff.1 hs;clear hs hd hmax gT HNu;by_cases hz:z=0
  ·subst hz
   go_enter func234,ntmps234;go_wp2_with (first|refine zX (jP HK 0) ?_|refine zX (gK HK 0) ?_|refine zX (aB HK 1) ?_);refine(HT.out _ HK.out.b).mono ?_;rintro e w1 ⟨A4,n4,c4,A5,n5,c5,rfl,k4,b4⟩;replace HK:=zH (k4 _ _ _ _ HK.out);simp only[aJ] at HK;clear k4 b4;obtain rfl:n5=0:=(HK.out.own 1 rfl).reads.1;go_wp2_with (first|(refine cu HK 0 m ?_;clear HK;intro _ HK;simp only[lS] at HK)|refine zX (jv HK 0) ?_|refine zX (zM (p:=av.err 0)) ?_|(refine eT HK 2 ?_;clear HK;intro _ HK;simp only[lS] at HK));exact aej
  ·have hz2:(z==0)=false:=by simpa using hz
   rw[decide_eq_false hz];clear hz;go_enter func234,ntmps234;go_wp2_with (first|refine zX (jP HK 0) ?_|refine zX (gK HK 0) ?_|refine zX (aB HK 1) ?_);refine(HT.out _ HK.out.b).mono ?_;rintro e w1 ⟨A4,n4,c4,A5,n5,c5,rfl,k4,b4⟩;replace HK:=zH (k4 _ _ _ _ HK.out);simp only[aJ] at HK;clear k4 b4;obtain rfl:n5=0:=(HK.out.own 1 rfl).reads.1;go_wp2_with (first|(refine cu HK 0 m ?_;clear HK;intro _ HK;simp only[lS] at HK)|refine zX (jv HK 0) ?_|refine zX (zM (p:=av.err z)) ?_|(refine eT HK 2 ?_;clear HK;intro _ HK;simp only[lS] at HK));exact aej
 rw[if_neg hs];have hlen:=gT.out r;generalize hN:s.length=N at *
 have mI:=zH hN;clear hN gT;have hz1:((N:Int)==0)=false:=by simpa using hs
 by_cases hm:x.v.round=9223372036854775807
 ·rw[if_pos hm]
  have HM:=zH hm;have hmb:(x.v.round==9223372036854775807)=true:=by simpa using hm
  clear hm hd hmax hs;go_enter func234,ntmps234;go_wp2_with (first|refine zX (jP HK 0) ?_|refine zX (gK HK 0) ?_|refine zX (aB HK 1) ?_);refine(HT.out _ HK.out.b).mono ?_;rintro e w1 ⟨A4,n4,c4,A5,n5,c5,rfl,k4,b4⟩;replace HK:=zH (k4 _ _ _ _ HK.out);simp only[aJ] at HK;clear k4 b4;obtain rfl:n5=N:=(HK.out.own 1 rfl).reads.1.trans mI.out;go_wp2_with (first|refine zX (yO HK 0) ?_|refine zX (jv HK 0) ?_|refine zX (mP (p:=av.err 6)) ?_|(refine eT HK 2 ?_;clear HK;intro _ HK;simp only[lS] at HK));exact nH results234 (HK.out.blk 2 rfl) ⟨_,_,_,_,_,rfl,rfl,HK.out.aA 0,fun _ _ _ _ _ K hm=>⟨fun hb=>HI.out.later hb,bJ.none _⟩⟩
 rw[if_neg hm];have hmb:(x.v.round==9223372036854775807)=false:=by simpa using hm
 have adJ:Hid (IntKind.i64.wrap (x.v.round+1)=x.v.round+1):=zH (by rw[IntKind.wrap_i64];omega);have HMx:Hid (x.v.round+1≤9223372036854775807):=zH (by omega);clear hm hd hmax;obtain⟨M,rfl⟩:∃M,N=M+1:=⟨N-1,by omega⟩;clear hs;rw[Nat.add_sub_cancel];have hM2:M<9223372036854775807:=by omega
 have hM3:M≤6:=by omega
 have HFa:=zH iD.out.2;go_enter func234,ntmps234;go_wp2_with (first|refine zX (jP HK 0) ?_|refine zX (gK HK 0) ?_|refine zX (aB HK 1) ?_);refine(HT.out _ HK.out.b).mono ?_;rintro e w1 ⟨A4,n4,c4,A5,n5,c5,rfl,k4,b4⟩;replace HK:=zH (k4 _ _ _ _ HK.out);simp only[aJ] at HK;clear k4 b4;obtain rfl:n5=M+1:=(HK.out.own 1 rfl).reads.1.trans mI.out
 have hcap:M≤c5:=by
  have h:=(HK.out.own 1 rfl).cap;rw[mI.out] at h;exact Nat.le_trans (Nat.le_succ M) h
 go_wp2_with refine zX (yO HK 0) ?_;refine cb (HNu.out _ _) HK ?_;clear HK;intro _ HK;go_wp2_with (first|(refine bQ HK ?_;clear HK;intro _ g8 HK;simp only[aO,aJ] at HK)|(refine bf (q:=⟨0,av.num x.v.round⟩) HK 3 ?_;clear HK;intro _ HK;simp only[lS] at HK)|(refine fE aR HK ?_;clear HK;intro _ g9 HK;simp only[aO,aJ] at HK)|refine zX (iI (j:=M) hM2) ?_|refine zX (nT aG (hi:=M) hcap) ?_);go_loopw [9,52] (fun vo vi wr=>∃(k:Nat) (A7:Option Addr) (c7:Nat),k≤M∧vo=.slice A7 k c7∧vi=.int .i64 k∧Hid ((av.rR (s.take k) ⟨0,av.num x.v.round⟩).length=k)∧Hid (Kn w.heap.size w wr [(w.heap.size,63,bS x),(w.heap.size+1,35,#[.int .i64 r.c,.int .i64 r.e,.int .i64 r.r]),(w.heap.size+2,222,mX rU av.rz false none 0 0),(g8,28,cB ⟨0,av.num x.v.round⟩)] [row aG (.slice A4 n4 c4) m,row aG (.slice A5 (M+1) c5) s,row aR (.slice A7 k c7) (av.rR (s.take k) ⟨0,av.num x.v.round⟩)])) (fun _ vi _=>M-(intOf vi).toNat)
 case atStart=>exact⟨0,_,_,Nat.zero_le _,rfl,rfl,zH rfl,HK⟩
 case round=>
  clear HK;obtain⟨k,A7,c7,hk,rfl,rfl,hL7,HK⟩:=hrel;by_cases hlt:k<M
  ·obtain⟨y,hy⟩:=Lay.fI (l:=s) (k:=k) (by rw[mI.out];omega)
   have hsl:bJ aG rF wr A5 (M+1) c5 s:=bJ.own (HK.out.own 1 rfl) HFa.out;obtain⟨b,o,rfl,hat⟩:=hsl.at (Nat.succ_pos M);have HY:Hid (∀j v,(WR y)[j]?=some v→wr.cell? ⟨b,o+k*3+j,none⟩=some v):=zH (hat wr (Below.refl _ _) k y hy);have Ef:=zH (CG ⟨0,av.num x.v.round⟩ hy);clear hsl hat hy;have hk1:(0:Int)≤(k:Int):=by omega
   have hk2:(k:Int)<(M:Int):=by omega
   have hk3:k<9223372036854775807:=by omega
   generalize av.rR (s.take k) ⟨0,av.num x.v.round⟩=os at *
   have HL:Hid (os.length+1≤9223372036854775807∧(os.length+1)*aR.bytes≤211106232532992):=zH (by
    rw[hL7.out];refine⟨by omega,?_⟩
    show(k+1)*72≤_
    omega)
   have vQ:Hid ((os++[(⟨y,⟨0,av.num x.v.round⟩⟩:av.Ot)]).length=k+1):=zH (by rw[List.length_append,hL7.out];rfl);go_wp2_with (first|refine zX (bV (x:=y) (off:=o+k*3) (HY.out)) ?_|(refine aQ HK ?_;clear HK;intro _ g10 HK;simp only[aO,aJ] at HK)|(refine aW HK 4 ?_;clear HK;intro _ HK;simp only[lS] at HK)|refine zX (aB HK 4) ?_|refine zX (xC HK 3) ?_|refine zX (kU (r:=y) (p:=⟨0,av.num x.v.round⟩)) ?_|(refine dI aR (p:=⟨y,⟨0,av.num x.v.round⟩⟩) HK ?_;intro _ g11 dY;simp only[aO,aJ] at dY;have HR:=zH (dY.out.own 3 rfl).rd;replace HK:=dY;clear dY)|(at_builtin;refine aX HK aR 2 [⟨y,⟨0,av.num x.v.round⟩⟩] rfl HR HL (N:=k+1) vQ ?_;clear HK;intro A8 c8 _ HK;simp only[lS] at HK)|refine zX (aL (j:=k) hk3) ?_);refine⟨⟨k+1,A8,c8,by omega,rfl,by go_num,zH (by rw[Ef.out];exact vQ.out),zH ?_⟩,by simp[intOf];omega⟩;rw[Ef.out];exact(HK.out.aA 4).ay 3
  ·obtain rfl:k=M:=by omega
   have yV:Hid (Fits aR tF (av.rR (s.take k) ⟨0,av.num x.v.round⟩)):=zH (Fa);generalize hos:av.rR (s.take k) ⟨0,av.num x.v.round⟩=os at *
   have QK:=zH hos;clear hos;go_wp2_with (first|(refine cu HK 0 m ?_;clear HK;intro _ HK;simp only[lS] at HK)|refine zX (yO HK 0) ?_|refine zX (DC (x:=x.v.round) (y:=x.v.round+1) adJ.out) ?_|(refine Ac HK 0 rfl rfl rfl rfl (d:=x.v.round+1) rfl ?_;clear HK;intro _ HK;simp only[lS] at HK)|refine zX (jv HK 0) ?_|refine zX (xC HK 3) ?_|refine zX (zL (p:=⟨0,av.num x.v.round⟩)) ?_|(refine eT HK 2 ?_;clear HK;intro _ HK;simp only[lS] at HK));exact nH results234 (HK.out.blk 2 rfl) ⟨_,_,_,_,_,rfl,rfl,HK.out.aA 0,fun _ _ _ _ _ K hm=>⟨fun hb=>((HI.out.later hb).sr (bJ.own (K.mem (hm _ (List.mem_cons_self ..))) iD.out.1)).sd HMx.out,by rw[QK.out];exact bJ.own (K.mem (hm _ (List.mem_cons_of_mem _ (List.mem_cons_of_mem _ (List.mem_cons_self ..))))) yV.out⟩⟩
end
section
def NM(w0:World)(l1 l2 l3:List aK.Pr)(w:World)(e:Ending)(w':World):Prop:=
 ∃A1 n1 c1 A2 n2 c2 A3 n3 c3,e=.returned (.tuple #[.slice A1 n1 c1,.slice A2 n2 c2,.slice A3 n3 c3])∧Sl w0 A1 n1 c1 l1∧Sl w0 A2 n2 c2 l2∧Sl w0 A3 n3 c3 l3∧Below w.heap.size w w'
theorem xW(A:Option Addr)(c n:Nat)(l:List aK.Pr)(key:ByteArray)(w0 w:World)(hs:Sl w0 A n c l)(hw:Below w0.heap.size w0 w):
  Calls prog 261 #[.slice A n c,.string key] w (NM w0 (l.take (aK.idx l key)) ((l.drop (aK.idx l key)).take (aK.fin l key-aK.idx l key)) (l.drop (aK.fin l key)) w):=by
 have HS:=zH hs;have HW:=zH hw;have HG:Hid (∀k,k<n→∃x,l[k]?=some x):=zH fun k hk=>Lay.fI (l:=l) (k:=k) (by rw[hs.len];exact hk)
 have hp:=aK.nR l key;obtain⟨hpq,hq⟩:=aK.kQ l key;rw[hs.len] at hp hq;have hnc:=hs.cap;have hbig:=hs.big;have HB:Hid (∀k x,k<aK.idx l key→l[k]?=some x→aK.lt x.key key=true):=zH fun k x hk hx=>aK.sQ hk hx
 have HA:Hid (∀x,l[aK.idx l key]?=some x→aK.lt x.key key=false):=zH fun x hx=>aK.sS hx
 have Zi:Hid (∀x,l[aK.idx l key]?=some x→aK.fin l key=if x.key=key then aK.idx l key+1 else aK.idx l key):=zH fun x hx=>by unfold aK.fin;rw[hx]
 have Zj:Hid (aK.idx l key=n→aK.fin l key=n):=zH fun h=>by omega
 have Jm:Hid (∀W,Below w.heap.size w W→NM w0 (l.take (aK.idx l key)) ((l.drop (aK.idx l key)).take (aK.fin l key-aK.idx l key)) (l.drop (aK.fin l key)) w (.returned (.tuple #[.slice A (aK.idx l key) c,.slice (sub A (aK.idx l key) c) (aK.fin l key-aK.idx l key) (c-aK.idx l key),.slice (sub A (aK.fin l key) c) (n-aK.fin l key) (c-aK.fin l key)])) W):=
  zH fun W hW=>by
   have h:=hs;refine⟨_,_,_,_,_,_,_,_,_,rfl,h.take hp,h.sub hpq hq,?_,hW⟩;have h3:=h.sub hq (Nat.le_refl n);exact Zx
 clear hs hw;generalize aK.idx l key=p at *
 generalize aK.fin l key=q at *
 have HK:=zH (Kn.start w);go_enter func261,ntmps261;go_wp2_with fail;go_loop [7] (fun vi=>∃k:Nat,k≤p∧vi=.int .i64 k) (fun vi=>p+1-(intOf vi).toNat)
 case atStart=>exact⟨0,Nat.zero_le _,rfl⟩
 case round=>
  obtain⟨k,hk,rfl⟩:=hrel;have hk1:(0:Int)≤(k:Int):=by omega
  by_cases hlt:k<p
  ·have hkn:k<n:=by omega
   have hk2:(k:Int)<(n:Int):=by omega
   have hk3:k<9223372036854775807:=by omega
   obtain⟨x,hx⟩:=HG.out k hkn;obtain⟨b,o,rfl,hat⟩:=HS.out.at (Nat.lt_of_le_of_lt (Nat.zero_le _) hkn);have HX:=zH (hat w HW.out k x hx);have HL:=zH (HB.out k x hlt hx);clear hat hx HS Jm HB HA Zi Zj HG;go_wp2_with (first|refine au (eG (off:=o+k*5) HX.out) ?_|refine au (jQ HL.out) ?_|refine au (aL (j:=k) hk3) ?_);exact⟨⟨k+1,hlt,rfl⟩,by simp[intOf];omega⟩
  ·obtain rfl:k=p:=by omega
   clear hlt hk;by_cases hkn:k<n
   ·have hk2:(k:Int)<(n:Int):=by omega
    have hk3:k<9223372036854775807:=by omega
    obtain⟨x,hx⟩:=HG.out k hkn;obtain⟨b,o,rfl,hat⟩:=HS.out.at (Nat.lt_of_le_of_lt (Nat.zero_le _) hkn);have HX:=zH (hat w HW.out k x hx);have HL:=zH (HA.out x hx);have hq2:=Zi.out x hx;clear hat hx HS HB HA Zi Zj HG;by_cases he:x.key=key
    ·rw[if_pos he] at hq2
     subst hq2;have HE:=zH (show decide (x.key=key)=true from decide_eq_true he);clear he;have hqc:k+1≤c:=by omega
     go_wp2_with (first|refine au (eG (off:=o+k*5) HX.out) ?_|refine au (jQ HL.out) ?_|refine au (kR HE.out) ?_|refine au (aL (j:=k) hk3) ?_);have hkc:k≤c:=by omega
     refine zR HK.out.drew fun ah=>?_
     refine ak 0 rfl ?_;refine ak 1 rfl ?_;refine ak 2 rfl ?_ fun _ s=>Dz (hi:=k) hkc
     refine ak 3 rfl ?_;refine ak 4 rfl ?_;refine ak 5 rfl ?_;refine ak 6 rfl ?_ fun _ s=>Bo (lo:=k) (hi:=k+1) hpq hqc
     refine ak 7 rfl ?_;refine ak 8 rfl ?_;refine ak 9 rfl ?_ fun _ s=>uo (lo:=k+1) hq
     refine ak 10 rfl ?_;refine ak 11 rfl ?_;refine ak 12 rfl ?_;refine bW ?_;go_wp2_with fail;exact iQ results261 (hR:=(by have h:=Jm.out _ ah.out.b;rw[show k+1-k=1 from by omega] at h ⊢;exact h))
    ·rw[if_neg he] at hq2
     subst hq2;have HE:=zH (show decide (x.key=key)=false from decide_eq_false he);clear he;go_wp2_with (first|refine au (eG (off:=o+q*5) HX.out) ?_|refine au (jQ HL.out) ?_|refine au (kR HE.out) ?_);exact aeD
   ·obtain rfl:k=n:=by omega
    obtain rfl:=Zj.out rfl;have hk2:¬(q:Int)<(q:Int):=by omega
    clear HS HB HA Zi Zj HG hkn;go_wp2_with fail;exact aeD
end
end Go.Proofs.YtieoeendnccafaaGreat
