/- What the document's waiting, ends and leave return. No condition but those named. -/
import Derived.Test.YtahdlddbbnjloaaGreatNBE
set_option linter.unusedSimpArgs false
set_option linter.unusedVariables false
set_option maxRecDepth 100000
set_option maxHeartbeats 25600000
open Go.RowKit
namespace Go.Proofs.YtahdlddbbnjloaaGreat
open _root_.Go.Proofs.Tryz
section
theorem aW{w:World}{o:Oper}{a:Act}{x k:Int}{b:Bool}{p:Operand}(hb:decide (x=k)=b)(ho:o.op=.binOp .eql 3 p (.const (.int .i64 k)) 3:=by rfl)(hp:a.eval p=.int .i64 x:=by rfl):
  (execOp a.eval o).run prog w=.ok (.value (.bool b)) w:=by
 have he:a.eval (.const (.int .i64 k))=.int .i64 k:=rfl;subst hb;unfold execOp;simp only[ho,hp,he];go_simp
 try rfl
theorem Mf{w:World}{o:Oper}{a:Act}{z:Int}{p:Operand}(ho:o.op=.build 28 #[(0,p)])(hp:a.eval p=.int .i64 z):
  (execOp a.eval o).run prog w=.ok (.value (.agg (dG ⟨z,au.vn⟩))) w:=by
 have h:(Instr.build 28 #[(0,.int .i64 z)]).run prog w=.ok (.agg (dG ⟨z,au.vn⟩)) w:=by
  unfold dG;go_simp
  try exact⟨rfl,rfl,rfl,rfl⟩
 unfold execOp;simp only[ho,Sem.run_bind,Sem.run_pure,Result.andThen_ok,List.map_toArray,List.map_cons,List.map_nil,hp,h]
theorem aeJ{fn:Func}{R:Ending→World→Prop}{a:Act}{w:World}{B:Nat}{p:au.Rp}{q:Tmp}(hf:fn.results=#[.cell q 28])(h2:a.tmps[q]?=some (.pointer (some ⟨B,0,none⟩)))(hd:a.defers=[])(hb:eT w B 28 (dG p))
  (hR:R (.returned (.agg (dG p))) w):bodyPost prog fn R Exit.ret a w:=
 bodyPost_ret (results_cell_row hf a.tmps w B _ _ (0,0) _ (by simp[h2]) hb underlying28 rfl kg) hd hR
theorem dD(z:Int)(w:World):Calls prog 91 #[.int .i64 z] w (fun e w'=>e=.returned (.agg (dG ⟨z,au.vn⟩))∧Below w.heap.size w w'):=by
 have HK:=zH (Kn.start w);go_enter func91,ntmps91;go_wp2_with (first|(refine iw HK ?_;clear HK;intro _ g1 HK;simp only[aS,aK] at HK)|refine zX (Mf (z:=z) (by rfl) (by rfl)) ?_|(refine bX (q:=⟨z,au.vn⟩) HK 0 ?_;clear HK;intro _ HK;simp only[lS] at HK));exact aeJ results91 rfl rfl (HK.out.blk 0 rfl) ⟨rfl,HK.out.b⟩
theorem kQ(k z:Int)(LV:k≤17)(w:World)(h5:5≤k:=by have:=hall.2.2.1;omega):Calls prog 94 #[.int .i64 k,.int .i64 z] w (dw (au.fits k z) w):=by
 unfold dw;have h:k=5∨k=6∨k=7∨k=8∨k=9∨k=10∨k=11∨k=12∨k=13∨k=14∨k=15∨k=16∨k=17:=by omega
 clear h5 LV
 rcases h with rfl|rfl|rfl|rfl|rfl|rfl|rfl|rfl|rfl|rfl|rfl|rfl|rfl <;>
 ·go_enter func94,ntmps94
  go_wp2_with refine zX (aW (x:=z) rfl) ?_;go_ret;exact⟨rfl,Below.refl _ _⟩
theorem PK(x:Oh)(w:World)(hx:In w x):Calls prog 140 #[.agg (cu x)] w (fun e w'=>e=.returned (.int .i64 (au.size x.v))∧Below w.heap.size w w'):=by
 have hp:(x.v.dV.length:Int)=(x.pn:Int):=by rw[hx.p.len]
 have hv:(x.v.vals.length:Int)=(x.vn:Int):=by rw[hx.v.len]
 have hr:(x.v.refs.length:Int)=(x.rn:Int):=by rw[hx.r.len]
 have HK:=jw w 75 (cu x);clear hx;unfold au.size;rw[hp,hv,hr];clear hp hv hr;by_cases h1:x.v.kind=1
 ·have K1:Hid (decide (x.v.kind=1)=true):=zH (decide_eq_true h1)
  rw[if_pos h1];clear h1;go_enter func140,ntmps140;go_wp2_with (first|refine zX (jM HK 0) ?_|refine zX (vX HK 0) ?_|refine zX (aW (x:=x.v.kind) (k:=1) K1.out) ?_);exact nu
 have K1:Hid (decide (x.v.kind=1)=false):=zH (decide_eq_false h1);rw[if_neg h1];clear h1;by_cases h2:x.v.kind=2
 ·have K2:Hid (decide (x.v.kind=2)=true):=zH (decide_eq_true h2)
  rw[if_pos h2];clear h2;go_enter func140,ntmps140;go_wp2_with (first|refine zX (jM HK 0) ?_|refine zX (Bn HK 0) ?_|refine zX (aW (x:=x.v.kind) (k:=1) K1.out) ?_|refine zX (aW (x:=x.v.kind) (k:=2) K2.out) ?_);exact nu
 have K2:Hid (decide (x.v.kind=2)=false):=zH (decide_eq_false h2);rw[if_neg h2];clear h2;by_cases h3:x.v.kind=5
 ·have K3:Hid (decide (x.v.kind=5)=true):=zH (decide_eq_true h3)
  rw[if_pos h3];clear h3;go_enter func140,ntmps140;go_wp2_with (first|refine zX (jM HK 0) ?_|refine zX (afz HK 0 (by rfl) (by rfl) (by rfl)) ?_|refine zX (aW (x:=x.v.kind) (k:=1) K1.out) ?_|refine zX (aW (x:=x.v.kind) (k:=2) K2.out) ?_|refine zX (aW (x:=x.v.kind) (k:=5) K3.out) ?_);exact nu
 have K3:Hid (decide (x.v.kind=5)=false):=zH (decide_eq_false h3);rw[if_neg h3];clear h3;go_enter func140,ntmps140;go_wp2_with (first|refine zX (jM HK 0) ?_|refine zX (kI HK 0) ?_|refine zX (aW (x:=x.v.kind) (k:=1) K1.out) ?_|refine zX (aW (x:=x.v.kind) (k:=2) K2.out) ?_|refine zX (aW (x:=x.v.kind) (k:=5) K3.out) ?_);exact nu
end
section
theorem Ba(x y:Rf)(w:World):Calls prog 128 #[.agg #[.int .i64 x.c,.int .i64 x.e,.int .i64 x.r],.agg #[.int .i64 y.c,.int .i64 y.e,.int .i64 y.r]] w (dw (decide (aY.mine x y)) w):=by
 have HE:Hid (∀q:Bool,(q=true↔(x.c=y.c∧x.e=y.e))→q=decide (aY.mine x y)):=zH fun q hq=>by
  exact Yz
 generalize decide (aY.mine x y)=r at *
 obtain⟨c,ep,rq⟩:=x;obtain⟨c2,ep2,rq2⟩:=y;simp only at HE ⊢;by_cases hc:c=c2
 ·subst hc
  have HK:=uj w 44 #[.int .i64 c,.int .i64 ep,.int .i64 rq] 44 #[.int .i64 c,.int .i64 ep2,.int .i64 rq2];go_enter func128,ntmps128;go_wp2_with fail;go_ret;refine⟨congrArg (fun b=>Ending.returned (.bool b)) (HE.out _ ?_),HK.out.b⟩;clear HE HK
  simp_all
 ·have hc2:(c==c2)=false:=by simpa using hc
  have HK:=uj w 44 #[.int .i64 c,.int .i64 ep,.int .i64 rq] 44 #[.int .i64 c2,.int .i64 ep2,.int .i64 rq2];go_enter func128,ntmps128;go_wp2_with fail;go_ret;refine⟨congrArg (fun b=>Ending.returned (.bool b)) (HE.out _ ?_),HK.out.b⟩;clear HE HK
  simp_all
end
section
def Jr(b:Nat)(w:World)(A:Option Addr)(n c:Nat)(l:List Rf)(A':Option Addr)(n' c':Nat)(B:Option Addr)(k d:Nat)(r s:List Rf):Prop:=
 ((B=none∧k=0∧d=0∧s=[])∧uI aN b w A n c l A' n' c' r)∨((A'=none∧n'=0∧c'=0∧r=[])∧aN.Own b w (.slice B k d) s)
theorem Jr.stay{b:Nat}{w:World}{A:Option Addr}{n c:Nat}{l:List Rf}{A':Option Addr}{n' c':Nat}{r:List Rf}(h:uI aN b w A n c l A' n' c' r):Jr b w A n c l A' n' c' none 0 0 r []:=.inl ⟨⟨rfl,rfl,rfl,rfl⟩,h⟩
theorem Jr.go{b:Nat}{w:World}{A:Option Addr}{n c:Nat}{l:List Rf}{B:Option Addr}{k d:Nat}{s:List Rf}(h:aN.Own b w (.slice B k d) s):Jr b w A n c l none 0 0 B k d [] s:=.inr ⟨⟨rfl,rfl,rfl,rfl⟩,h⟩
def XI(A:Option Addr)(n c:Nat)(l r s:List Rf)(x:Int)(w:World)(e:Ending)(w':World):Prop:=∃A' n' c' B k d,e=.returned (.tuple #[.slice A' n' c',.slice B k d,.int .i64 x])∧Jr w.heap.size w' A n c l A' n' c' B k d r s∧Below w.heap.size w w'
def XM(A:Option Addr)(n c:Nat)(l r:List Rf)(w:World)(e:Ending)(w':World):Prop:=∃A' n' c',e=.returned (.slice A' n' c')∧uI aN w.heap.size w' A n c l A' n' c' r∧Below w.heap.size w w'
theorem KG(m:Int)(A:Option Addr)(c n:Nat)(l:List Rf)(r:Rf)(w:World)(hs:bT aN rF w A n c l):
  Calls prog 129 #[.int .i64 m,.slice A n c,.agg #[.int .i64 r.c,.int .i64 r.e,.int .i64 r.r]] w (XI A n c l (Gt.Ef m l r) (Gt.Ck m l r) (Gt.qQ m l r) w):=by
 have HM:=zH (fun W (hW:Below w.heap.size w W)=>rQ m A c n l W (hs.later hW));have HC:=zH (fun W=>fM r W);have HS:=zH hs;have hlen:=hs.len;have HK:=jw w 44 #[.int .i64 r.c,.int .i64 r.e,.int .i64 r.r];unfold dw XI at *
 by_cases hr:Gt.Right m l
 case neg=>
  rw[decide_eq_false hr] at HM;obtain⟨e1,e2,e3⟩:=Gt.JG (r:=r) (fun h=>hr h.1);rw[e1,e2,e3];clear e1 e2 e3 hr hs hlen HC;go_enter func129,ntmps129;go_wp2_with fail;refine cb (HM.out _ HK.out.b) HK ?_;exact ahl
 case pos=>
 rw[decide_eq_true hr] at HM;by_cases hok:aY.ok r
 case neg=>
  rw[decide_eq_false hok] at HC;obtain⟨e1,e2,e3⟩:=Gt.JG (m:=m) (l:=l) (r:=r) (fun h=>hok h.2);rw[e1,e2,e3];clear e1 e2 e3 hr hok hs hlen;go_enter func129,ntmps129;go_wp2_with fail;refine cb (HM.out _ HK.out.b) HK ?_;clear HK;intro _ HK;go_wp2_with refine zX (aP HK 0) ?_;refine cb (HC.out _) HK ?_;exact ahl
 case pos=>
 rw[decide_eq_true hok] at HC;obtain⟨hyes,hno⟩:=aY.jJ hs.len r.c;have XW:Hid (∀(i:Nat) x,l[i]?=some x→x.c=r.c→Gt.qQ m l r=11∧Gt.Ef m l r=l∧Gt.Ck m l r=[]):=zH fun i x hx h=>Gt.MZ hr hok (hyes i x hx h)
 have jr:Hid ((∀(i:Nat) x,i<n→l[i]?=some x→¬x.c=r.c)→(((n+1:Nat):Int)==m)=true→Gt.qQ m l r=0∧Gt.Ef m l r=[]∧Gt.Ck m l r=l++[r]):=zH fun h h2=>by
  refine Gt.tC hr hok (hno h) ?_;rw[beq_iff_eq] at h2;rw[hlen];omega
 have HMo:Hid ((∀(i:Nat) x,i<n→l[i]?=some x→¬x.c=r.c)→(((n+1:Nat):Int)==m)=false→Gt.qQ m l r=0∧Gt.Ef m l r=l++[r]∧Gt.Ck m l r=[]):=zH fun h h2=>by
  refine Gt.tu hr hok (hno h) ?_;rw[beq_eq_false_iff_ne] at h2;rw[hlen];omega
 have h5:=aY.fV hr.2.2.2;rw[hlen] at h5;have kF:=zH hlen.symm;have kU:Hid ((([]:List Rf)++l).length=n):=zH (by rw[aK];exact hlen);have fP:Hid ((l++[r]).length=n+1):=zH (by rw[List.length_append,hlen];rfl);have oW:=dN (La:=aN) kU (hB:=(by show n*24≤_;omega));have HG2:=dN (La:=aN) fP (hB:=(by show(n+1)*24≤_;omega));obtain⟨N1,hN1⟩:∃N1,N1=n+1:=⟨_,rfl⟩;rw[← hN1] at jr HMo fP;have HNe:=zH hN1;clear hyes hno hr hok hs hlen hN1;generalize Gt.qQ m l r=X at *
 generalize Gt.Ef m l r=res at *
 generalize Gt.Ck m l r=al at *
 go_enter func129,ntmps129;go_wp2_with fail;refine cb (HM.out _ HK.out.b) HK ?_;clear HK;intro _ HK;go_wp2_with refine zX (aP HK 0) ?_;refine cb (HC.out _) HK ?_;clear HK;intro _ HK;clear HM HC;go_wp2_with fail;go_loopw [9] (fun vi wr=>∃k:Nat,k≤n∧vi=.int .i64 k∧Hid (∀(i:Nat) x,i<k→l[i]?=some x→¬x.c=r.c)∧Hid (Kn w.heap.size w wr [(w.heap.size,44,#[.int .i64 r.c,.int .i64 r.e,.int .i64 r.r])] [])) (fun vi _=>n-(intOf vi).toNat)
 case atStart=>exact⟨0,Nat.zero_le _,rfl,zH (fun i v hi=>by omega),HK⟩
 case round=>
  clear HK;obtain⟨k,hk,rfl,kE,HK⟩:=hrel;have hk1:(0:Int)≤(k:Int):=by omega
  by_cases hlt:k<n
  ·have hk2:(k:Int)<(n:Int):=by omega
   have hk3:k<9223372036854775807:=by omega
   obtain⟨x,hx,_⟩:=HS.out.get hlt;obtain⟨b,o,rfl,hat⟩:=HS.out.at (Nat.lt_of_le_of_lt (Nat.zero_le _) hlt);have HX:=zH (fun W hW=>hat W hW k x hx);have HH:=zH (XW.out k x hx)
   have nU:Hid (¬x.c=r.c→∀(i:Nat) v,i<k+1→l[i]?=some v→¬v.c=r.c):=zH fun h i v hi hv=>by
    by_cases hik:i=k
    ·subst hik;rw[hx] at hv;injection hv with hv;subst hv;exact h
    ·exact kE.out i v (by omega) hv
   clear hat hx XW;go_wp2_with fail;by_cases he:x.c=r.c
   ·obtain⟨rfl,rfl,rfl⟩:=HH.out he
    have hb:(x.c==r.c)=true:=by simpa using he
    clear he HH nU jr HMo;refine zR HK.out.drew fun ah=>?_
    refine ak 0 rfl ?_;refine ak 1 rfl ?_;refine ak 2 rfl ?_ fun _ s=>dA (i:=k) hlt
    refine ak 3 rfl ?_;refine ak 4 rfl ?_ fun _ s=>mY (x:=x) (off:=o+k*3) (HX.out _ s.out.b)
    refine ak 5 rfl ?_;refine ak 6 rfl ?_ fun _ s=>jN s 0
    refine ak 7 rfl ?_;refine cB ?_;go_wp2_with fail;exact nP results129 ⟨_,n,c,none,0,0,rfl,.stay (.inr ⟨rfl,rfl,rfl,rfl⟩),ah.out.b⟩
   ·have hb:(x.c==r.c)=false:=by simpa using he
    exact ahG
  ·obtain rfl:k=n:=by omega
   have agy:=zH (jr.out kE.out);have agB:=zH (HMo.out kE.out);clear jr HMo XW;go_wp2_with fail;have aj:=zH HK.out.drew;refine zR HK.out.drew fun ah=>?_
   refine ak 1 rfl ?_;refine ak 3 rfl ?_ fun _ s=>aP s 0
   refine iW 0 4 rfl rfl (fun K hK=>?_) fun K hK=>?_
   refine jV aN aj ?_;clear aj;intro w2 g2 aj _;simp only[aS,aK] at aj;have hs:=zH (aj.out.ay 0);refine bk hK hs fun ah=>?_
   clear hK K;refine iW 2 4 rfl rfl (fun K hK=>?_) fun K hK=>?_
   (first|refine aM aN aj 0 l kF.out (zH (let h:=HS.out.later aj.out.b;And.intro h.rd h.nl)) oW (N:=k) kU ?_|refine aM aN aj 1 l kF.out (zH (let h:=HS.out.later aj.out.b;And.intro h.rd h.nl)) oW (N:=k) kU ?_);clear aj;intro A4 c4 w4 aj;simp only[List.set,aK] at aj;have hs:=zH (aj.out.ay 0)
   refine bk hK hs fun ah=>?_
   clear hK K;refine aC 4 rfl fun K hK=>?_
   refine bP aN (p:=r) aj ?_;clear aj;intro w5 g5 aj _;simp only[aS,aK] at aj;have hs:=zH (aj.out.ay 0);refine bk hK hs fun ah=>?_
   clear hK K;refine aC 5 rfl fun K hK=>?_
   (first|refine aM aN aj 0 [r] (by rfl) (zH (aj.out.own 1 rfl).rd) HG2 (N:=N1) fP ?_|refine aM aN aj 1 [r] (by rfl) (zH (aj.out.own 0 rfl).rd) HG2 (N:=N1) fP ?_);clear aj;intro A6 c6 w6 aj;simp only[lS] at aj;have hs:=zH (aj.out.ay 0)
   refine bk hK hs fun ah=>?_
   clear hK K;refine ak 6 rfl ?_;refine cB ?_
   rotate_left
   refine bP aN (p:=r) aj ?_;clear aj;intro w5 g5 aj _;simp only[aS,aK] at aj;have hs:=zH (aj.out.ay 0);refine bk hK hs fun ah=>?_
   clear hK K;refine aC 2 rfl fun K hK=>?_
   (first|refine aM aN aj 0 l kF.out (zH (let h:=HS.out.later aj.out.b;And.intro h.rd h.nl)) oW (N:=k) kU ?_|refine aM aN aj 1 l kF.out (zH (let h:=HS.out.later aj.out.b;And.intro h.rd h.nl)) oW (N:=k) kU ?_);clear aj;intro A4 c4 w4 aj;simp only[List.set,aK] at aj;have hs:=zH (aj.out.ay 0)
   refine bk hK hs fun ah=>?_
   clear hK K;refine aC 5 rfl fun K hK=>?_
   (first|refine aM aN aj 0 [r] (by rfl) (zH (aj.out.own 1 rfl).rd) HG2 (N:=N1) fP ?_|refine aM aN aj 1 [r] (by rfl) (zH (aj.out.own 0 rfl).rd) HG2 (N:=N1) fP ?_);clear aj;intro A6 c6 w6 aj;simp only[lS] at aj;have hs:=zH (aj.out.ay 0)
   refine bk hK hs fun ah=>?_
   clear hK K;refine ak 6 rfl ?_;refine cB ?_
   rotate_left
   refine bP aN (p:=r) aj ?_;clear aj;intro w5 g5 aj _;simp only[aS,aK] at aj;have hs:=zH (aj.out.ay 0);refine bk hK hs fun ah=>?_
   clear hK K;refine aC 0 rfl fun K hK=>?_
   refine jV aN aj ?_;clear aj;intro w2 g2 aj _;simp only[aS,aK] at aj;have hs:=zH (aj.out.ay 0);refine bk hK hs fun ah=>?_
   clear hK K;refine aC 2 rfl fun K hK=>?_
   (first|refine aM aN aj 0 l kF.out (zH (let h:=HS.out.later aj.out.b;And.intro h.rd h.nl)) oW (N:=k) kU ?_|refine aM aN aj 1 l kF.out (zH (let h:=HS.out.later aj.out.b;And.intro h.rd h.nl)) oW (N:=k) kU ?_);clear aj;intro A4 c4 w4 aj;simp only[List.set,aK] at aj;have hs:=zH (aj.out.ay 0)
   refine bk hK hs fun ah=>?_
   clear hK K;refine aC 5 rfl fun K hK=>?_
   (first|refine aM aN aj 0 [r] (by rfl) (zH (aj.out.own 1 rfl).rd) HG2 (N:=N1) fP ?_|refine aM aN aj 1 [r] (by rfl) (zH (aj.out.own 0 rfl).rd) HG2 (N:=N1) fP ?_);clear aj;intro A6 c6 w6 aj;simp only[lS] at aj;have hs:=zH (aj.out.ay 0)
   refine bk hK hs fun ah=>?_
   clear hK K;refine ak 6 rfl ?_;refine cB ?_
   rotate_left
   all_goals
    by_cases hz0:((N1:Int)==m)=true
    case pos=>
     obtain⟨rfl,rfl,rfl⟩:=agy.out hz0;have hz:=hz0;clear hz0 agy agB;go_wp2_with fail
     first
      | exact nP results129 ⟨none,0,0,A6,_,c6,rfl,.go (aj.out.own 0 rfl),aj.out.b⟩
      | exact nP results129 ⟨none,0,0,A6,_,c6,rfl,.go (aj.out.own 1 rfl),aj.out.b⟩
    case neg=>
     have hz:((N1:Int)==m)=false:=Bool.eq_false_iff.2 hz0;obtain⟨rfl,rfl,rfl⟩:=agB.out hz;clear hz0 agy agB;go_wp2_with fail
     first
      | exact nP results129 ⟨A6,_,c6,none,0,0,rfl,.stay (.inl (aj.out.own 0 rfl)),aj.out.b⟩
      | exact nP results129 ⟨A6,_,c6,none,0,0,rfl,.stay (.inl (aj.out.own 1 rfl)),aj.out.b⟩
theorem KH(m:Int)(A:Option Addr)(c n:Nat)(l:List Rf)(r:Rf)(w:World)(hs:bT aN rF w A n c l):
  Calls prog 88 #[.int .i64 m,.slice A n c,.agg #[.int .i64 r.c,.int .i64 r.e,.int .i64 r.r]] w (XM A n c l (Gt.sS m l r) w):=by
 have HM:=zH (fun W (hW:Below w.heap.size w W)=>rQ m A c n l W (hs.later hW));have zh:=zH (fun x W=>Ba x r W);have hlen:=hs.len;have HK:=jw w 44 #[.int .i64 r.c,.int .i64 r.e,.int .i64 r.r];unfold dw XM at *
 by_cases hr:Gt.Right m l
 case neg=>
  rw[decide_eq_false hr] at HM;rw[Gt.IZ hr];clear hr hs hlen zh;go_enter func88,ntmps88;go_wp2_with fail;refine cb (HM.out _ HK.out.b) HK ?_;clear HK;intro _ HK;go_wp2_with fail;go_ret;exact⟨A,n,c,rfl,.inr ⟨rfl,rfl,rfl,rfl⟩,HK.out.b⟩
 case pos=>
 rw[decide_eq_true hr] at HM;rw[Gt.Mj hr];have HS:=zH hs;have h5:=aY.fV hr.2.2.2;rw[hlen] at h5;have yS:Hid (l.take n=l):=zH (by rw[← hlen];exact List.take_length);have HTl:Hid (∀k,k≤n→(aY.wo (l.take k) r).length≤k):=zH fun k hk=>Nat.le_trans (aY.CJ _ _) (by rw[List.length_take];omega)
 clear hs hr hlen;go_enter func88,ntmps88;go_wp2_with fail;refine cb (HM.out _ HK.out.b) HK ?_;clear HK;intro _ HK;clear HM;replace HK:=zH (HK.out.Cq aN);simp only[aK] at HK;go_wp2_with fail;go_loopw [7,8] (fun vs vi wr=>∃(k:Nat) (A1:Option Addr) (c1 N:Nat),k≤n∧vs=.slice A1 N c1∧vi=.int .i64 k∧Hid ((aY.wo (l.take k) r).length=N)∧Hid (Kn w.heap.size w wr [(w.heap.size,44,#[.int .i64 r.c,.int .i64 r.e,.int .i64 r.r])] [row aN (.slice A1 N c1) (aY.wo (l.take k) r)])) (fun _ vi _=>n-(intOf vi).toNat)
 case atStart=>exact⟨0,none,0,0,Nat.zero_le _,rfl,rfl,zH rfl,HK⟩
 case round=>
  clear HK;obtain⟨k,A1,c1,N,hk,rfl,rfl,hN,HK⟩:=hrel;have hk1:(0:Int)≤(k:Int):=by omega
  by_cases hlt:k<n
  ·have hk2:(k:Int)<(n:Int):=by omega
   have hk3:k<9223372036854775807:=by omega
   obtain⟨x,hx,_⟩:=HS.out.get hlt;obtain⟨b,o,rfl,hat⟩:=HS.out.at (Nat.lt_of_le_of_lt (Nat.zero_le _) hlt);have HX:=zH (fun W hW=>hat W hW k x hx);have hNk:N≤k:=by rw[← hN.out];exact HTl.out k hk
   replace zh:=zH (fun W=>zh.out x W);by_cases hm:aY.mine x r
   ·have HE:=zH (aY.yG hx hm)
    rw[decide_eq_true hm] at zh;clear hat hx hm;exact ahI
   ·have HE:=zH (aY.Ae hx hm)
    rw[decide_eq_false hm] at zh;have fP:Hid ((aY.wo (l.take k) r++[x]).length=N+1):=zH (by rw[List.length_append,hN.out];rfl);have HL2:=dN (La:=aN) fP (hB:=(by show(N+1)*24≤_;omega));clear hat hx hm;exact ahQ
  ·obtain rfl:k=n:=by omega
   rw[yS.out] at HK;go_wp2_with fail;go_ret;exact⟨A1,_,c1,rfl,.inl (HK.out.own 0 rfl),HK.out.b⟩
end
section
def XJ(A:Option Addr)(n c:Nat)(l r:List Rf)(h:Bool)(x:Int)(w:World)(e:Ending)(w':World):Prop:=∃A' n' c',e=.returned (.tuple #[.slice A' n' c',.bool h,.int .i64 x])∧uI aN w.heap.size w' A n c l A' n' c' r∧Below w.heap.size w w'
def XO(A:Option Addr)(n c:Nat)(l r:List Rf)(y:Rf)(h:Bool)(x:Int)(w:World)(e:Ending)(w':World):Prop:=∃A' n' c',e=.returned (.tuple #[.slice A' n' c',.agg #[.int .i64 y.c,.int .i64 y.e,.int .i64 y.r],.bool h,.int .i64 x])∧uI aN w.heap.size w' A n c l A' n' c' r∧Below w.heap.size w w'
def XQ(A:Option Addr)(n c:Nat)(l r:List Rf)(y:Rf)(h:Bool)(w:World)(e:Ending)(w':World):Prop:=∃A' n' c',e=.returned (.tuple #[.slice A' n' c',.agg #[.int .i64 y.c,.int .i64 y.e,.int .i64 y.r],.bool h])∧uI aN w.heap.size w' A n c l A' n' c' r∧Below w.heap.size w w'
theorem KA(A:Option Addr)(c n:Nat)(l:List Rf)(r:Rf)(w:World)(hs:bT aN rF w A n c l):
  Calls prog 130 #[.slice A n c,.agg #[.int .i64 r.c,.int .i64 r.e,.int .i64 r.r]] w (XJ A n c l (aY.CP l r) (aY.Pj l r) (aY.Ak l r) w):=by
 have HM:=zH (fun W (hW:Below w.heap.size w W)=>kY A c n l W (hs.later hW));have HC:=zH (fun W=>fM r W);have HS:=zH hs;have hlen:=hs.len;have HK:=jw w 44 #[.int .i64 r.c,.int .i64 r.e,.int .i64 r.r];unfold dw XJ at *
 by_cases hr:aY.Right l
 case neg=>
  rw[decide_eq_false hr] at HM;obtain⟨e1,e2,e3⟩:=aY.Ki (r:=r) (fun h=>hr h.1);rw[e1,e2,e3];clear e1 e2 e3 hr hs hlen HC;go_enter func130,ntmps130;go_wp2_with fail;refine cb (HM.out _ HK.out.b) HK ?_;exact ahg
 case pos=>
 rw[decide_eq_true hr] at HM;by_cases hok:aY.ok r
 case neg=>
  rw[decide_eq_false hok] at HC;obtain⟨e1,e2,e3⟩:=aY.Ki (l:=l) (r:=r) (fun h=>hok h.2);rw[e1,e2,e3];clear e1 e2 e3 hr hok hs hlen;go_enter func130,ntmps130;go_wp2_with fail;refine cb (HM.out _ HK.out.b) HK ?_;clear HK;intro _ HK;go_wp2_with refine zX (aP HK 0) ?_;refine cb (HC.out _) HK ?_;exact ahg
 case pos=>
 rw[decide_eq_true hok] at HC;obtain⟨hyes,hno⟩:=aY.jJ hs.len r.c;have XW:Hid (∀(i:Nat) x,l[i]?=some x→x.c=r.c→aY.Ak l r=11∧aY.CP l r=l∧aY.Pj l r=false):=zH fun i x hx h=>aY.Ng hr hok (hyes i x hx h)
 have jr:Hid ((∀(i:Nat) x,i<n→l[i]?=some x→¬x.c=r.c)→aY.Ak l r=0∧aY.CP l r=l++[r]∧aY.Pj l r=decide (n=0)):=zH fun h=>by
  have:=aY.acW hr hok (hno h);rw[hlen] at this;exact this
 obtain⟨q,hq1,hq2⟩:∃q:Bool,decide (n=0)=q∧((n:Int)==0)=q:=⟨_,rfl,by
  by_cases h:n=0
  ·rw[decide_eq_true h];simpa using h
  ·rw[decide_eq_false h];simpa using h⟩
 rw[hq1] at jr;have HZ:=zH hq2;have h5:=aY.fV hr;rw[hlen] at h5;have kF:=zH hlen.symm;have kU:Hid ((([]:List Rf)++l).length=n):=zH (by rw[aK];exact hlen);have fP:Hid ((l++[r]).length=n+1):=zH (by rw[List.length_append,hlen];rfl);have oW:=dN (La:=aN) kU (hB:=(by show n*24≤_;omega));have HG2:=dN (La:=aN) fP (hB:=(by show(n+1)*24≤_;omega));clear hyes hno hr hok hs hlen hq1 hq2;generalize aY.Ak l r=X at *
 generalize aY.CP l r=res at *
 generalize aY.Pj l r=H at *
 go_enter func130,ntmps130;go_wp2_with fail;refine cb (HM.out _ HK.out.b) HK ?_;clear HK;intro _ HK;go_wp2_with refine zX (aP HK 0) ?_;refine cb (HC.out _) HK ?_;clear HK;intro _ HK;clear HM HC;go_wp2_with fail;go_loopw [7] (fun vi wr=>∃k:Nat,k≤n∧vi=.int .i64 k∧Hid (∀(i:Nat) x,i<k→l[i]?=some x→¬x.c=r.c)∧Hid (Kn w.heap.size w wr [(w.heap.size,44,#[.int .i64 r.c,.int .i64 r.e,.int .i64 r.r])] [])) (fun vi _=>n-(intOf vi).toNat)
 case atStart=>exact⟨0,Nat.zero_le _,rfl,zH (fun i v hi=>by omega),HK⟩
 case round=>
  clear HK;obtain⟨k,hk,rfl,kE,HK⟩:=hrel;have hk1:(0:Int)≤(k:Int):=by omega
  by_cases hlt:k<n
  ·have hk2:(k:Int)<(n:Int):=by omega
   have hk3:k<9223372036854775807:=by omega
   obtain⟨x,hx,_⟩:=HS.out.get hlt;obtain⟨b,o,rfl,hat⟩:=HS.out.at (Nat.lt_of_le_of_lt (Nat.zero_le _) hlt);have HX:=zH (fun W hW=>hat W hW k x hx);have HH:=zH (XW.out k x hx)
   have nU:Hid (¬x.c=r.c→∀(i:Nat) v,i<k+1→l[i]?=some v→¬v.c=r.c):=zH fun h i v hi hv=>by
    by_cases hik:i=k
    ·subst hik;rw[hx] at hv;injection hv with hv;subst hv;exact h
    ·exact kE.out i v (by omega) hv
   clear hat hx XW;go_wp2_with fail;by_cases he:x.c=r.c
   ·obtain⟨rfl,rfl,rfl⟩:=HH.out he
    have hb:(x.c==r.c)=true:=by simpa using he
    clear he HH nU jr;refine zR HK.out.drew fun ah=>?_
    refine ak 0 rfl ?_;refine ak 1 rfl ?_;refine ak 2 rfl ?_ fun _ s=>dA (i:=k) hlt
    refine ak 3 rfl ?_;refine ak 4 rfl ?_ fun _ s=>mY (x:=x) (off:=o+k*3) (HX.out _ s.out.b)
    refine ak 5 rfl ?_;refine ak 6 rfl ?_ fun _ s=>jN s 0
    refine ak 7 rfl ?_;refine cB ?_;go_wp2_with fail;exact nP results130 ⟨_,n,c,rfl,.inr ⟨rfl,rfl,rfl,rfl⟩,ah.out.b⟩
   ·have hb:(x.c==r.c)=false:=by simpa using he
    exact ahG
  ·obtain rfl:k=n:=by omega
   obtain⟨rfl,rfl,rfl⟩:=jr.out kE.out;have hz:=HZ.out;clear jr XW;go_wp2_with fail;have aj:=zH HK.out.drew;refine zR HK.out.drew fun ah=>?_
   refine ak 1 rfl ?_;refine ak 3 rfl ?_ fun _ s=>aP s 0
   refine ak 6 rfl ?_;refine ak 7 rfl ?_;refine ak 8 rfl ?_;refine iW 0 4 rfl rfl (fun K hK=>?_) fun K hK=>?_
   refine jV aN aj ?_;clear aj;intro w2 g2 aj _;simp only[aS,aK] at aj;have hs:=zH (aj.out.ay 0);refine bk hK hs fun ah=>?_
   clear hK K;refine iW 2 4 rfl rfl (fun K hK=>?_) fun K hK=>?_
   (first|refine aM aN aj 0 l kF.out (zH (let h:=HS.out.later aj.out.b;And.intro h.rd h.nl)) oW (N:=k) kU ?_|refine aM aN aj 1 l kF.out (zH (let h:=HS.out.later aj.out.b;And.intro h.rd h.nl)) oW (N:=k) kU ?_);clear aj;intro A4 c4 w4 aj;simp only[List.set,aK] at aj;have hs:=zH (aj.out.ay 0)
   refine bk hK hs fun ah=>?_
   clear hK K;refine aC 4 rfl fun K hK=>?_
   refine bP aN (p:=r) aj ?_;clear aj;intro w5 g5 aj _;simp only[aS,aK] at aj;have hs:=zH (aj.out.ay 0);refine bk hK hs fun ah=>?_
   clear hK K;refine aC 5 rfl fun K hK=>?_
   (first|refine aM aN aj 0 [r] (by rfl) (zH (aj.out.own 1 rfl).rd) HG2 (N:=k+1) fP ?_|refine aM aN aj 1 [r] (by rfl) (zH (aj.out.own 0 rfl).rd) HG2 (N:=k+1) fP ?_);clear aj;intro A6 c6 w6 aj;simp only[lS] at aj;have hs:=zH (aj.out.ay 0)
   refine bk hK hs fun ah=>?_
   clear hK K;refine ak 9 rfl ?_;refine ak 10 rfl ?_;refine ak 11 rfl ?_;refine cB ?_
   rotate_left
   refine bP aN (p:=r) aj ?_;clear aj;intro w5 g5 aj _;simp only[aS,aK] at aj;have hs:=zH (aj.out.ay 0);refine bk hK hs fun ah=>?_
   clear hK K;refine aC 2 rfl fun K hK=>?_
   (first|refine aM aN aj 0 l kF.out (zH (let h:=HS.out.later aj.out.b;And.intro h.rd h.nl)) oW (N:=k) kU ?_|refine aM aN aj 1 l kF.out (zH (let h:=HS.out.later aj.out.b;And.intro h.rd h.nl)) oW (N:=k) kU ?_);clear aj;intro A4 c4 w4 aj;simp only[List.set,aK] at aj;have hs:=zH (aj.out.ay 0)
   refine bk hK hs fun ah=>?_
   clear hK K;refine aC 5 rfl fun K hK=>?_
   (first|refine aM aN aj 0 [r] (by rfl) (zH (aj.out.own 1 rfl).rd) HG2 (N:=k+1) fP ?_|refine aM aN aj 1 [r] (by rfl) (zH (aj.out.own 0 rfl).rd) HG2 (N:=k+1) fP ?_);clear aj;intro A6 c6 w6 aj;simp only[lS] at aj;have hs:=zH (aj.out.ay 0)
   refine bk hK hs fun ah=>?_
   clear hK K;refine ak 9 rfl ?_;refine ak 10 rfl ?_;refine ak 11 rfl ?_;refine cB ?_
   rotate_left
   refine bP aN (p:=r) aj ?_;clear aj;intro w5 g5 aj _;simp only[aS,aK] at aj;have hs:=zH (aj.out.ay 0);refine bk hK hs fun ah=>?_
   clear hK K;refine aC 0 rfl fun K hK=>?_
   refine jV aN aj ?_;clear aj;intro w2 g2 aj _;simp only[aS,aK] at aj;have hs:=zH (aj.out.ay 0);refine bk hK hs fun ah=>?_
   clear hK K;refine aC 2 rfl fun K hK=>?_
   (first|refine aM aN aj 0 l kF.out (zH (let h:=HS.out.later aj.out.b;And.intro h.rd h.nl)) oW (N:=k) kU ?_|refine aM aN aj 1 l kF.out (zH (let h:=HS.out.later aj.out.b;And.intro h.rd h.nl)) oW (N:=k) kU ?_);clear aj;intro A4 c4 w4 aj;simp only[List.set,aK] at aj;have hs:=zH (aj.out.ay 0)
   refine bk hK hs fun ah=>?_
   clear hK K;refine aC 5 rfl fun K hK=>?_
   (first|refine aM aN aj 0 [r] (by rfl) (zH (aj.out.own 1 rfl).rd) HG2 (N:=k+1) fP ?_|refine aM aN aj 1 [r] (by rfl) (zH (aj.out.own 0 rfl).rd) HG2 (N:=k+1) fP ?_);clear aj;intro A6 c6 w6 aj;simp only[lS] at aj;have hs:=zH (aj.out.ay 0)
   refine bk hK hs fun ah=>?_
   clear hK K;refine ak 9 rfl ?_;refine ak 10 rfl ?_;refine ak 11 rfl ?_;refine cB ?_
   rotate_left
   all_goals
    go_wp2_with fail
    first
     | exact nP results130 ⟨A6,_,c6,rfl,.inl (aj.out.own 0 rfl),aj.out.b⟩
     | exact nP results130 ⟨A6,_,c6,rfl,.inl (aj.out.own 1 rfl),aj.out.b⟩
theorem KC(A:Option Addr)(c n:Nat)(l:List Rf)(r:Rf)(w:World)(hs:bT aN rF w A n c l):
  Calls prog 131 #[.slice A n c,.agg #[.int .i64 r.c,.int .i64 r.e,.int .i64 r.r]] w (XO A n c l (aY.Fj l r) (aY.Sk l r) (aY.Rb l r) (aY.Cr l r) w):=by
 have HM:=zH (fun W (hW:Below w.heap.size w W)=>kY A c n l W (hs.later hW));have zh:=zH (fun x W=>Ba x r W);have hlen:=hs.len;have HK:=jw w 44 #[.int .i64 r.c,.int .i64 r.e,.int .i64 r.r];unfold dw XO at *
 by_cases hr:aY.Right l
 case neg=>
  rw[decide_eq_false hr] at HM;obtain⟨e1,e2,e3,e4⟩:=aY.afX (r:=r) hr;rw[e1,e2,e3,e4];clear e1 e2 e3 e4 hr hs hlen zh;go_enter func131,ntmps131;go_wp2_with (refine bR HK ?_;clear HK;intro _ g1 HK;simp only[aS,aK] at HK);refine cb (HM.out _ HK.out.b) HK ?_;clear HK;intro _ HK;go_wp2_with (refine bW HK 1 ?_;clear HK;intro _ HK;simp only[lS] at HK);exact rT results131 (HK.out.blk 1 rfl) ⟨A,n,c,rfl,.inr ⟨rfl,rfl,rfl,rfl⟩,HK.out.b⟩
 case pos=>
 rw[decide_eq_true hr] at HM;by_cases h0:n=0
 ·subst h0
  obtain⟨e1,e2,e3,e4⟩:=aY.Oj (r:=r) hr hlen;rw[e1,e2,e3,e4];clear e1 e2 e3 e4 hr hs hlen zh;go_enter func131,ntmps131;go_wp2_with (refine bR HK ?_;clear HK;intro _ g1 HK;simp only[aS,aK] at HK);refine cb (HM.out _ HK.out.b) HK ?_;clear HK;intro _ HK;go_wp2_with fail;refine zR HK.out.drew fun ah=>?_
  refine ak 0 rfl ?_;refine ak 1 rfl ?_;refine ak 2 rfl ?_;refine ak 3 rfl ?_;refine bq 4 rfl ?_;refine bq 5 rfl ?_;refine bq 6 rfl ?_;refine bq 7 rfl ?_;refine bq 8 rfl ?_;refine bq 9 rfl ?_;refine ak 10 rfl ?_;refine cB ?_;replace HK:=ah;clear ah;go_wp2_with (refine bW HK 1 ?_;clear HK;intro _ HK;simp only[lS] at HK);exact rT results131 (HK.out.blk 1 rfl) ⟨A,0,c,rfl,.inr ⟨rfl,rfl,rfl,rfl⟩,HK.out.b⟩
 ·have hpos:0<n:=by omega
  have hz:((n:Int)==0)=false:=by simpa using h0
  obtain⟨x,hx,_⟩:=hs.get hpos;have HD:=zH (hs.drop (lo:=1) hpos);have h5:=aY.fV hr;rw[hlen] at h5;have kF:=zH HD.out.len.symm;have kU:Hid ((([]:List Rf)++l.drop 1).length=n-1):=zH (by rw[aK];exact HD.out.len);have oW:=dN (La:=aN) kU (hB:=(by show(n-1)*24≤_;omega));have HG:Hid (1<n→∃y,l[1]?=some y):=zH fun h=>Lay.dW (by rw[hlen];exact h)
  obtain⟨b,o,rfl,hat⟩:=hs.at hpos;have HX:=zH (fun W hW=>hat W hW 0 x hx);have JC:=zH (fun y hy W hW=>hat W hW 1 y hy);replace zh:=zH (fun W=>zh.out x W);by_cases hm:aY.mine x r
  case neg=>
   obtain⟨e1,e2,e3,e4⟩:=aY.Iq hr hx hm;rw[e1,e2,e3,e4];rw[decide_eq_false hm] at zh;clear e1 e2 e3 e4 hr hs hlen h0 hat hx hm HD kF kU oW HG JC;go_enter func131,ntmps131;go_wp2_with (refine bR HK ?_;clear HK;intro _ g1 HK;simp only[aS,aK] at HK);refine cb (HM.out _ HK.out.b) HK ?_;clear HK;intro _ HK;go_wp2_with fail;refine zR HK.out.drew fun ah=>?_
   refine ak 0 rfl ?_;refine ak 1 rfl ?_;refine ak 2 rfl ?_;refine ak 3 rfl ?_;refine ak 4 rfl ?_;refine ak 5 rfl ?_ fun _ s=>dA (i:=0) hpos
   refine ak 6 rfl ?_ fun _ s=>cZ (x:=x) (off:=o+0*3) (HX.out _ s.out.b)
   refine ak 7 rfl ?_ fun _ s=>aP s 0
   refine aC 8 rfl fun K hK=>?_
   go_simp;go_at_call 128;refine(zh.out _).mono ?_;rintro e w5 ⟨rfl,b5⟩;have hs:=zH (ah.out.call b5);clear b5;refine bk hK hs fun ah=>?_
   clear hK K;refine ak 9 rfl ?_;refine ak 10 rfl ?_;refine cB ?_;replace HK:=ah;clear ah;go_wp2_with (refine bW HK 1 ?_;clear HK;intro _ HK;simp only[lS] at HK);exact rT results131 (HK.out.blk 1 rfl) ⟨_,n,c,rfl,.inr ⟨rfl,rfl,rfl,rfl⟩,HK.out.b⟩
  case pos=>
  rw[decide_eq_true hm] at zh;by_cases h1:n=1
  ·subst h1
   obtain⟨e1,e2,e3,e4⟩:=aY.Oo hr hx hm hlen;rw[e1,e2,e3,e4];clear e1 e2 e3 e4 hr hs hlen h0 hat hx hm HD kF kU oW HG JC;go_enter func131,ntmps131;go_wp2_with (refine bR HK ?_;clear HK;intro _ g1 HK;simp only[aS,aK] at HK);refine cb (HM.out _ HK.out.b) HK ?_;clear HK;intro _ HK;go_wp2_with fail;refine zR HK.out.drew fun ah=>?_
   refine ak 0 rfl ?_;refine ak 1 rfl ?_;refine ak 2 rfl ?_;refine ak 3 rfl ?_;refine ak 4 rfl ?_;refine ak 5 rfl ?_ fun _ s=>dA (i:=0) hpos
   refine ak 6 rfl ?_ fun _ s=>cZ (x:=x) (off:=o+0*3) (HX.out _ s.out.b)
   refine ak 7 rfl ?_ fun _ s=>aP s 0
   refine aC 8 rfl fun K hK=>?_
   go_simp;go_at_call 128;refine(zh.out _).mono ?_;rintro e w5 ⟨rfl,b5⟩;have hs:=zH (ah.out.call b5);clear b5;refine bk hK hs fun ah=>?_
   clear hK K;refine ak 9 rfl ?_;refine ak 10 rfl ?_;refine cB ?_;replace HK:=ah;clear ah;go_wp2_with (refine bW HK 1 ?_;clear HK;intro _ HK;simp only[lS] at HK);exact rT results131 (HK.out.blk 1 rfl) ⟨_,_,_,rfl,.inl (Lay.Own.none _ _),HK.out.b⟩
  ·have hn1:1<n:=by omega
   have hz1:((n:Int)==1)=false:=by simp;omega
   obtain⟨y,hy⟩:=HG.out hn1;obtain⟨e1,e2,e3,e4⟩:=aY.Om hr hx hm hy;rw[e1,e2,e3,e4];replace JC:=zH (JC.out y hy);clear e1 e2 e3 e4 hr hs hlen h0 h1 hat hx hy hm HG;go_enter func131,ntmps131;go_wp2_with (refine bR HK ?_;clear HK;intro _ g1 HK;simp only[aS,aK] at HK);refine cb (HM.out _ HK.out.b) HK ?_;clear HK;intro _ HK;go_wp2_with fail;refine zR HK.out.drew fun ah=>?_
   refine ak 0 rfl ?_;refine ak 1 rfl ?_;refine ak 2 rfl ?_;refine ak 3 rfl ?_;refine ak 4 rfl ?_;refine ak 5 rfl ?_ fun _ s=>dA (i:=0) hpos
   refine ak 6 rfl ?_ fun _ s=>cZ (x:=x) (off:=o+0*3) (HX.out _ s.out.b)
   refine ak 7 rfl ?_ fun _ s=>aP s 0
   refine aC 8 rfl fun K hK=>?_
   go_simp;go_at_call 128;refine(zh.out _).mono ?_;rintro e w5 ⟨rfl,b5⟩;have hs:=zH (ah.out.call b5);clear b5;refine bk hK hs fun ah=>?_
   clear hK K;refine ak 9 rfl ?_;refine ak 10 rfl ?_;refine cB ?_;replace HK:=ah;clear ah HM zh;go_wp2_with fail;have aj:=zH HK.out.drew;refine wp_region_held_drew (S:=(fun W=>Hid (Below w.heap.size w W))) (by kernel_rfl) ?_ fun ah=>?_
   ·(try dsimp only);exact zH aj.out.b
   refine ak 1 rfl ?_;refine ak 2 rfl ?_ fun _ s=>Iz (lo:=1) hpos
   refine ak 4 rfl ?_;refine ak 5 rfl ?_ fun _ s=>dA (i:=1) hn1
   refine ak 6 rfl ?_ fun _ s=>cZ (x:=y) (off:=o+1*3) (JC.out _ s.out)
   refine aC 0 rfl fun K hK=>?_
   refine jV aN aj ?_;clear aj;intro w2 g2 aj _;simp only[aS,aK] at aj;have hs:=zH aj.out.b;refine bk hK hs fun ah=>?_
   clear hK K;refine aC 3 rfl fun K hK=>?_
   refine aM aN aj 0 (l.drop 1) kF.out (zH (let h:=HD.out.later aj.out.b;And.intro h.rd h.nl)) oW (N:=n-1) kU ?_;clear aj;intro A4 c4 w4 aj;simp only[List.set,aK] at aj;have hs:=zH aj.out.b;refine bk hK hs fun ah=>?_
   clear hK K;refine ak 7 rfl ?_;refine aC 8 rfl fun K hK=>?_
   refine zn aj 1 ?_;clear aj;intro wq aj;simp only[lS] at aj;have hs:=zH aj.out.b;refine bk hK hs fun ah=>?_
   clear hK K;refine ak 9 rfl ?_;refine ak 10 rfl ?_;refine cB ?_
   all_goals
    go_wp2_with fail;exact rT results131 (aj.out.blk 1 rfl) ⟨A4,_,c4,rfl,.inl (aj.out.own 0 rfl),aj.out.b⟩
theorem KE(A:Option Addr)(c n:Nat)(l:List Rf)(r:Rf)(w:World)(hs:bT aN rF w A n c l):
  Calls prog 89 #[.slice A n c,.agg #[.int .i64 r.c,.int .i64 r.e,.int .i64 r.r]] w (XQ A n c l (aY.sS l r) (aY.JB l r) (aY.zN l r) w):=by
 have HM:=zH (fun W (hW:Below w.heap.size w W)=>kY A c n l W (hs.later hW));have zh:=zH (fun x W=>Ba x r W);have hlen:=hs.len;have HK:=jw w 44 #[.int .i64 r.c,.int .i64 r.e,.int .i64 r.r];unfold dw XQ at *
 by_cases hr:aY.Right l
 case neg=>
  rw[decide_eq_false hr] at HM;obtain⟨e1,e2,e3⟩:=aY.agc (r:=r) hr;rw[e1,e2,e3];clear e1 e2 e3 hr hs hlen zh;go_enter func89,ntmps89;go_wp2_with (refine bR HK ?_;clear HK;intro _ g1 HK;simp only[aS,aK] at HK);refine cb (HM.out _ HK.out.b) HK ?_;clear HK;intro _ HK;go_wp2_with (refine bW HK 1 ?_;clear HK;intro _ HK;simp only[lS] at HK);exact zw results89 (HK.out.blk 1 rfl) ⟨A,n,c,rfl,.inr ⟨rfl,rfl,rfl,rfl⟩,HK.out.b⟩
 case pos=>
 rw[decide_eq_true hr] at HM;have HS:=zH hs;have h5:=aY.fV hr;rw[hlen] at h5;have yS:Hid (l.take n=l):=zH (by rw[← hlen];exact List.take_length);have HTl:Hid (∀k,k≤n→(aY.wo (l.take k) r).length≤k):=zH fun k hk=>Nat.le_trans (aY.CJ _ _) (by rw[List.length_take];omega)
 have gX:Hid ((aY.wo l r).length=0→aY.sS l r=aY.wo l r∧aY.JB l r=aY.zero∧aY.zN l r=false):=zH (aY.Fu hr);have FM:Hid (∀x y,(aY.wo l r)[0]?=some x→l[0]?=some y→x=y→aY.sS l r=aY.wo l r∧aY.JB l r=aY.zero∧aY.zN l r=false):=zH fun x y=>aY.Oy hr
 have HNe:Hid (∀x y,(aY.wo l r)[0]?=some x→l[0]?=some y→¬x=y→aY.sS l r=aY.wo l r∧aY.JB l r=x∧aY.zN l r=true):=zH fun x y=>aY.WZ hr
 have HFw:Hid (Fits aN rF (aY.wo l r)):=zH (hs.fit.sub (fun x hx=>(List.mem_filter.1 hx).1) (aY.CJ l r));clear hs hr hlen;generalize aY.sS l r=dl at *
 generalize aY.JB l r=dn at *
 generalize aY.zN l r=ds at *
 go_enter func89,ntmps89;go_wp2_with (refine bR HK ?_;clear HK;intro _ g1 HK;simp only[aS,aK] at HK);refine cb (HM.out _ HK.out.b) HK ?_;clear HK;intro _ HK;replace HK:=zH (HK.out.Cq aN);simp only[aK] at HK;go_wp2_with fail;go_loopw [7,8] (fun vs vi wr=>∃(k:Nat) (A1:Option Addr) (c1 N:Nat),k≤n∧vs=.slice A1 N c1∧vi=.int .i64 k∧Hid ((aY.wo (l.take k) r).length=N)∧Hid (Kn w.heap.size w wr [(w.heap.size,44,#[.int .i64 r.c,.int .i64 r.e,.int .i64 r.r]),(g1,44,#[.int .i64 0,.int .i64 0,.int .i64 0])] [row aN (.slice A1 N c1) (aY.wo (l.take k) r)])) (fun _ vi _=>n-(intOf vi).toNat)
 case atStart=>exact⟨0,none,0,0,Nat.zero_le _,rfl,rfl,zH rfl,HK⟩
 case round=>
  clear HK;obtain⟨k,A1,c1,N,hk,rfl,rfl,hN,HK⟩:=hrel;have hk1:(0:Int)≤(k:Int):=by omega
  by_cases hlt:k<n
  ·have hk2:(k:Int)<(n:Int):=by omega
   have hk3:k<9223372036854775807:=by omega
   obtain⟨x,hx,_⟩:=HS.out.get hlt;obtain⟨b,o,rfl,hat⟩:=HS.out.at (Nat.lt_of_le_of_lt (Nat.zero_le _) hlt);have HX:=zH (fun W hW=>hat W hW k x hx);have hNk:N≤k:=by rw[← hN.out];exact HTl.out k hk
   replace zh:=zH (fun W=>zh.out x W);by_cases hm:aY.mine x r
   ·have HE:=zH (aY.yG hx hm)
    rw[decide_eq_true hm] at zh;clear hat hx hm gX FM HNe;exact ahI
   ·have HE:=zH (aY.Ae hx hm)
    rw[decide_eq_false hm] at zh;have fP:Hid ((aY.wo (l.take k) r++[x]).length=N+1):=zH (by rw[List.length_append,hN.out];rfl);have HL2:=dN (La:=aN) fP (hB:=(by show(N+1)*24≤_;omega));clear hat hx hm gX FM HNe;exact ahQ
  ·obtain rfl:k=n:=by omega
   rw[yS.out] at HK hN;clear zh HM HTl;by_cases h0:N=0
   ·subst h0
    obtain⟨rfl,rfl,rfl⟩:=gX.out hN.out;clear gX FM HNe;go_wp2_with fail;refine zR HK.out.drew fun ah=>?_
    refine ak 0 rfl ?_;refine ak 1 rfl ?_;refine ak 2 rfl ?_;refine ak 3 rfl ?_;refine bq 4 rfl ?_;refine bq 5 rfl ?_;refine bq 6 rfl ?_;refine bq 7 rfl ?_;refine bq 8 rfl ?_;refine bq 9 rfl ?_;refine bq 10 rfl ?_;refine ak 11 rfl ?_;refine cB ?_;replace HK:=ah;clear ah;go_wp2_with (refine bW HK 1 ?_;clear HK;intro _ HK;simp only[lS] at HK);exact zw results89 (HK.out.blk 1 rfl) ⟨A1,0,c1,rfl,.inl (HK.out.own 0 rfl),HK.out.b⟩
   ·have hN0:0<N:=by omega
    have hz:((N:Int)==0)=false:=by simpa using h0
    obtain⟨x,hx⟩:=Lay.dW (l:=aY.wo l r) (k:=0) (by rw[hN.out];exact hN0);obtain⟨y,hy⟩:=aY.SS hx
    have hn0:0<k:=by
     have h1:=(List.getElem?_eq_some_iff.1 hy).1;have h2:=HS.out.len;omega
    obtain⟨b,o,rfl,hat⟩:=HS.out.at hn0;have HY:=zH (fun W hW=>hat W hW 0 y hy);obtain⟨b2,o2,rfl,_⟩:=(bT.own (HK.out.own 0 rfl) HFw.out).at hN0;have HXx:=zH hx;by_cases he:x=y
    ·obtain⟨rfl,rfl,rfl⟩:=FM.out x y hx hy he
     have HEq:=zH (show decide (x=y)=true from decide_eq_true he);clear gX FM HNe hat hx hy he h0;go_wp2_with fail;refine zR HK.out.drew fun ah=>?_
     refine ak 0 rfl ?_;refine ak 1 rfl ?_;refine ak 2 rfl ?_;refine ak 3 rfl ?_;refine ak 4 rfl ?_;refine ak 5 rfl ?_ fun _ s=>dA (i:=0) hN0
     refine ak 6 rfl ?_ fun _ s=>cZ (x:=x) (off:=o2+0*3) ((bT.own (s.out.own 0 rfl) HFw.out).cells HXx.out)
     refine ak 7 rfl ?_;refine ak 8 rfl ?_ fun _ s=>dA (i:=0) hn0
     refine ak 9 rfl ?_ fun _ s=>cZ (x:=y) (off:=o+0*3) (HY.out _ s.out.b)
     refine ak 10 rfl ?_ fun _ s=>IE (v:=x) (u:=y) HEq.out
     refine ak 11 rfl ?_;refine cB ?_;replace HK:=ah;clear ah;go_wp2_with (refine bW HK 1 ?_;clear HK;intro _ HK;simp only[lS] at HK);exact zw results89 (HK.out.blk 1 rfl) ⟨_,_,c1,rfl,.inl (HK.out.own 0 rfl),HK.out.b⟩
    ·obtain⟨rfl,d2,rfl⟩:=HNe.out x y hx hy he
     replace d2:=d2.symm;subst d2;have HEq:=zH (show decide (x=y)=false from decide_eq_false he);clear gX FM HNe hat hx hy he h0;go_wp2_with fail;refine zR HK.out.drew fun ah=>?_
     refine ak 0 rfl ?_;refine ak 1 rfl ?_;refine ak 2 rfl ?_;refine ak 3 rfl ?_;refine ak 4 rfl ?_;refine ak 5 rfl ?_ fun _ s=>dA (i:=0) hN0
     refine ak 6 rfl ?_ fun _ s=>cZ (x:=x) (off:=o2+0*3) ((bT.own (s.out.own 0 rfl) HFw.out).cells HXx.out)
     refine ak 7 rfl ?_;refine ak 8 rfl ?_ fun _ s=>dA (i:=0) hn0
     refine ak 9 rfl ?_ fun _ s=>cZ (x:=y) (off:=o+0*3) (HY.out _ s.out.b)
     refine ak 10 rfl ?_ fun _ s=>IE (v:=x) (u:=y) HEq.out
     refine ak 11 rfl ?_;refine cB ?_;replace HK:=ah;clear ah;go_wp2_with fail;have aj:=zH HK.out.drew;refine zR (aj.out.aB 0) fun ah=>?_
     refine ak 0 rfl ?_;refine ak 1 rfl ?_;refine ak 2 rfl ?_ fun _ s=>dA (i:=0) hN0
     refine ak 3 rfl ?_ fun _ s=>cZ (x:=x) (off:=o2+0*3) ((bT.own (s.out.own 0 rfl) HFw.out).cells HXx.out)
     refine ak 4 rfl ?_;refine aC 5 rfl fun K hK=>?_
     refine zn aj 1 ?_;clear aj;intro wq aj;simp only[lS] at aj;have hs:=zH (aj.out.aB 0);refine bk hK hs fun ah=>?_
     clear hK K;refine ak 6 rfl ?_;refine cB ?_
     all_goals
      go_wp2_with fail;exact zw results89 (aj.out.blk 1 rfl) ⟨_,_,c1,rfl,.inl (aj.out.own 0 rfl),aj.out.b⟩
end
section
theorem bQ{l:List Oh}{k:Nat}{x:Oh}(y:Oh)(h:l[k]?=some x):(l.set k y)[k]?=some y:=by
 have hk:=(List.getElem?_eq_some_iff.1 h).1;rw[List.getElem?_set_self hk]
theorem Ei(l:List Oh)(i:Nat)(y:Oh):vs (l.set i y)=(vs l).set i y.v:=by
 unfold vs;rw[List.map_set]
theorem Qd(G:World→Prop)(A:Option Addr)(cp n:Nat)(l:List Oh)(r:Rf)(w:World)(hG:∀W,G W→dS W A n cp l)(hs:dS w A n cp l):
  Calls prog 43 #[.slice A n cp,.agg #[.int .i64 r.c,.int .i64 r.e,.int .i64 r.r]] w (abZ G (au.aO (vs l) r) (au.jR (vs l) r) w):=by
 have yA:=zH hG;have HM:=zH (fun W (hW:Below w.heap.size w W)=>bU A cp n l W (hs.later hW));unfold dw at HM;have HK:=jw w 44 #[.int .i64 r.c,.int .i64 r.e,.int .i64 r.r];unfold au.aO au.jR;by_cases hr:au.Right (vs l)
 case neg=>
  rw[decide_eq_false hr] at HM;rw[if_neg hr,if_neg hr];clear hs hr hG;go_enter func43,ntmps43;go_wp2_with fail
  (refine(HM.out _ HK.out.b).mono ?_;rintro e w1 ⟨rfl,b1⟩)
  replace HK:=iH HK b1;clear b1;go_wp2_with fail;exact rR results43 (by unfold abZ;exact⟨_,_,_,l,_,_,_,_,rfl,rfl,HK.out.aB 0,fun _ _ _ _ _ K hm hb=>⟨yA.out _ hb,bT.none _⟩⟩)
 rw[decide_eq_true hr] at HM;rw[if_pos hr,if_pos hr];have hlen:l.length=n:=hs.len;have hn8:n≤8:=by have:=hr.len;rw[gq,hlen] at this;exact this
 have HVl:Hid ((vs l).length≤n):=zH (by rw[gq,hlen];exact Nat.le_refl _);rw[← au.abp (r:=r) HVl.out,← au.EN (r:=r) HVl.out];have HS:=zH hs;have uJ:=zH hlen;have HRd:Hid (∀W,Below w.heap.size w W→bB.Reads W W.heap.size A l∧(A=none→l=[])):=zH fun W hW=>⟨(hs.later hW).s.rd,(hs.later hW).s.nl⟩
 have HL0:Hid (([]:List Oh).length+l.length≤9223372036854775807∧(([]:List Oh).length+l.length)*bB.bytes≤211106232532992):=zH (by
  rw[List.length_nil,Nat.zero_add,hlen];refine⟨by omega,?_⟩
  show n*144≤_
  omega)
 have HN0:Hid ((([]:List Oh)++l).length=n):=zH hlen;have HDr:=zH (fun(x:Oh) (hx:x∈l) W (hW:Below w.heap.size w W)=>KH x.v.cap x.rA x.rc x.rn x.v.refs r W ((hs.i x hx).r.later hW));have HDl:=zH (fun(x:Oh) (hx:x∈l) W (hW:Below w.heap.size w W)=>KE x.rA x.rc x.rn x.v.refs r W ((hs.i x hx).r.later hW));unfold XM at HDr;unfold XQ at HDl;clear hs hr hG hlen;go_enter func43,ntmps43;go_wp2_with fail
 (refine(HM.out _ HK.out.b).mono ?_;rintro e w1 ⟨rfl,b1⟩)
 replace HK:=iH HK b1;clear b1;go_wp2_with (first|(refine kM bB HK ?_;clear HK;intro _ g2 HK;simp only[aK] at HK;have HR:=zH (HRd.out _ HK.out.b))|(at_builtin;refine bA HK bB 0 l uJ.out.symm HR HL0 (N:=n) HN0 ?_;clear HK;intro A8 c8 _ HK;simp only[List.set,aK] at HK));replace HK:=zH (HK.out.Cq bL);simp only[aS,aK] at HK;go_loopw [6,7] (fun vo vi wr=>∃(k:Nat) (A7:Option Addr) (m7 c7:Nat) (lk:List Oh) (Rk:List bV),k≤n∧vo=.slice A7 m7 c7∧vi=.int .i64 k∧Hid (lk.length=n)∧Hid (vs lk=au.Sm (vs l) r k)∧Hid (∀j,k≤j→lk[j]?=l[j]?)∧Hid ((au.FV (vs l) r k).length=m7)∧Hid (∀(b:Nat) (W0 W:World) L R,Kn b W0 W L R→(∀z∈Rk,z∈R)→G W→∀x∈lk,In W x)∧Hid (Kn w.heap.size w wr [(w.heap.size,44,#[.int .i64 r.c,.int .i64 r.e,.int .i64 r.r])] (row bB (.slice A8 n c8) lk::row bL (.slice A7 m7 c7) (au.FV (vs l) r k)::Rk))) (fun _ vi _=>n-(intOf vi).toNat)
 case atStart=>exact⟨0,_,_,_,l,[],Nat.zero_le _,rfl,rfl,uJ,zH rfl,zH (fun _ _=>rfl),zH rfl,zH (fun _ _ _ _ _ _ _ hb=>(yA.out _ hb).i),HK⟩
 case round=>
  clear HK;obtain⟨k,A7,m7,c7,lk,Rk,hk,rfl,rfl,zU,HVk,FM,JD,HIn,HK⟩:=hrel;have hk1:(0:Int)≤(k:Int):=by omega
  have hk3:k<9223372036854775807:=by omega
  by_cases hkn:k<n
  case neg=>
   obtain rfl:k=n:=by omega
   have hk2:¬(k:Int)<(k:Int):=by omega
   have HO7:=au.EM (vs l) r k;go_wp2_with fail;exact rR results43 (by unfold abZ;exact⟨A8,k,c8,lk,A7,m7,c7,_,rfl,HVk,HK.out.aB 0,fun _ _ _ _ _ K hm hb=>⟨⟨bT.own (K.mem (hm _ (List.mem_cons_self ..))) ⟨fun y hy=>trivial,by rw[zU.out];show k*144≤_;omega⟩,HIn.out _ _ _ _ _ K (fun z hz=>hm _ (List.mem_cons_of_mem _ (List.mem_cons_of_mem _ hz))) hb⟩,bT.own (K.mem (hm _ (List.mem_cons_of_mem _ (List.mem_cons_self ..)))) ⟨fun _ _=>trivial,by show _*72≤140737488355328;omega⟩⟩⟩)
  case pos=>
  have hk2:(k:Int)<(n:Int):=by omega
  obtain⟨x,hx⟩:=Lay.dW (l:=l) (k:=k) (by rw[uJ.out];exact hkn);have hxk:lk[k]?=some x:=by rw[FM.out k (Nat.le_refl _)];exact hx
  have hml:=List.mem_of_getElem? hx;obtain⟨g8,rfl⟩:=HK.out.Wj (La:=bB) (j:=0) rfl (by rw[zU.out];omega);have amj:=zH (HDr.out x hml);have akd:=zH (HDl.out x hml);have HFr:Hid (Fits aN rF x.v.refs):=zH (HS.out.i x hml).r.fit;have HDk:=zH (au.IY (r:=r) (dB hx));have jr:=zH (au.GZ (r:=r) (dB hx));have HSk:Hid (au.dr x.v r=x.v→au.Sm (vs l) r (k+1)=au.Sm (vs l) r k):=zH (au.WX (dB hx));have MR:=zH hxk;clear hx hml hxk;by_cases h4:x.v.kind=4
  ·have K4:Hid (decide (x.v.kind=4)=true):=zH (decide_eq_true h4)
   have K3:Hid (decide (x.v.kind=3)=false):=zH (decide_eq_false (by omega));have HDd:Hid (au.dr x.v r = { x.v with refs:=Gt.sS x.v.cap x.v.refs r }):=zH (by unfold au.dr;rw[if_neg (by omega),if_pos h4]);have Yr:Hid (au.xg x.v r=[]):=zH (by unfold au.xg;rw[if_neg (by omega)]);have HFd:=zH (Wz (m:=x.v.cap) (r:=r) HFr.out);clear h4;generalize Gt.sS x.v.cap x.v.refs r=m at *
   go_wp2_with (first|refine zX (gW (b:=g8) (i:=k) hkn) ?_|refine zX (fB (x:=x) (off:=k*11) (HK.out.FC (La:=bB) (j:=0) rfl MR.out)) ?_|refine zX (aW (x:=x.v.kind) (k:=4) K4.out) ?_);have aj:=zH HK.out.drew;refine wp_region_held_drew (S:=(fun W=>Hid (Kn w.heap.size w W [(w.heap.size,44,#[.int .i64 r.c,.int .i64 r.e,.int .i64 r.r])] [])∧Hid (W.cell? ⟨g8,k*11+2,none⟩=some (.int .i64 x.v.cap)))) (by kernel_rfl) ?_ fun ah=>?_
   ·(try dsimp only);exact And.intro (zH (aj.out.ay 0)) (zH (aj.out.FC (La:=bB) (j:=0) rfl MR.out 2 _ rfl))
   refine ak 0 rfl ?_;refine ak 1 rfl ?_;refine ak 2 rfl ?_;refine ak 3 rfl ?_;refine ak 4 rfl ?_ fun _ s=>gW (b:=g8) (i:=k) hkn
   refine ak 5 rfl ?_;refine ak 6 rfl ?_ fun _ s=>dQ (ad:=⟨g8,k*11+2,none⟩) _ s.2.out underlying3
   refine ak 7 rfl ?_;refine ak 8 rfl ?_;refine ak 9 rfl ?_ fun _ s=>gW (b:=g8) (i:=k) hkn
   refine ak 10 rfl ?_;refine ak 12 rfl ?_ fun _ s=>aP s.1 0
   refine aC 11 rfl fun K hK=>?_
   refine eU (sM (x:=x) (off:=k*11) (aj.out.FC (La:=bB) (j:=0) rfl MR.out)) ?_;have hs:=ah;refine bk hK hs fun ah=>?_
   clear hK K;refine aC 13 rfl fun K hK=>?_
   go_simp;go_at_call 88;refine(amj.out _ aj.out.b).mono ?_;rintro e w5 ⟨A4,n4,c4,rfl,o4,b4⟩;obtain⟨Rn,k4,HIr⟩:=o4.kn b4 HFd.out;replace aj:=zH (aj.out.join k4);clear o4 b4 k4;have hs:=And.intro (zH ((aj.out.aB 1).ay 0)) (zH (aj.out.FC (La:=bB) (j:=0) rfl MR.out 2 _ rfl));refine bk hK hs fun ah=>?_
   clear hK K;refine ak 14 rfl ?_ fun _ s=>gW (b:=g8) (i:=k) hkn
   refine ak 15 rfl ?_;refine aC 16 rfl fun K hK=>?_
   refine Pw (La:=bB) aj 0 (by rfl) 71 (by rfl) (by rfl) k x (x.sr A4 n4 c4 m) MR.out 5 (by decide) (by rfl) (by rfl) (by rfl) (by rfl) wu (by rfl) ?_;clear aj;intro wq aj;simp only[aS,List.set_cons_zero] at aj;have hs:=And.intro (zH ((aj.out.aB 1).ay 0)) (zH (aj.out.FC (La:=bB) (j:=0) rfl (bQ (x.sr A4 n4 c4 m) MR.out) 2 _ rfl));refine bk hK hs fun ah=>?_
   clear hK K;refine cB ?_;replace HK:=aj;clear aj ah;have HXs:=zH (bQ (x.sr A4 n4 c4 m) MR.out);go_wp2_with (first|refine zX (gW (b:=g8) (i:=k) hkn) ?_|refine zX (fB (x:=x.sr A4 n4 c4 m) (off:=k*11) (HK.out.FC (La:=bB) (j:=0) rfl HXs.out)) ?_|refine zX (aW (x:=x.v.kind) (k:=3) K3.out) ?_|refine zX (aR (j:=k) hk3) ?_);refine⟨⟨k+1,A7,m7,c7,lk.set k (x.sr A4 n4 c4 m),Rk++Rn,by omega,rfl,by go_num,zH (by rw[List.length_set];exact zU.out),zH (by rw[Ei,HVk.out,HDk.out,HDd.out];rfl),zH (fun j hj=>by rw[List.getElem?_set_ne (by omega)];exact FM.out j (by omega)),zH (by rw[jr.out,Yr.out,List.append_nil];exact JD.out),zH (fun _ _ _ _ _ K hm hb z hz=>?_),?_⟩,by simp[intOf];omega⟩
   ·have h1:=HIn.out _ _ _ _ _ K (fun z hz=>hm _ (List.mem_append_left _ hz)) hb
    rcases List.mem_or_eq_of_mem_set hz with h2|rfl
    ·exact h1 z h2
    ·have h3:=h1 x (List.mem_of_getElem? MR.out)
     exact h3.sr (HIr.out _ _ _ _ _ K (fun z hz=>hm _ (List.mem_append_right _ hz)) h3.r)
   ·rw[jr.out,Yr.out,List.append_nil]
    exact HK
  have K4:Hid (decide (x.v.kind=4)=false):=zH (decide_eq_false h4);by_cases h3:x.v.kind=3
  ·have K3:Hid (decide (x.v.kind=3)=true):=zH (decide_eq_true h3)
   have HDd:Hid (au.dr x.v r = { x.v with refs:=aY.sS x.v.refs r }):=zH (by unfold au.dr;rw[if_pos h3]);have Yr:Hid (au.xg x.v r=au.held (aY.JB x.v.refs r) (aY.zN x.v.refs r)):=zH (by unfold au.xg;rw[if_pos h3]);have HFd:=zH (aaX (r:=r) HFr.out);have FP:=au.EM (vs l) r k;have HOm:Hid (m7≤8):=zH (by have:=JD.out;omega);clear h3 h4 FP;generalize aY.sS x.v.refs r=m at *
   generalize aY.JB x.v.refs r=y at *
   generalize aY.zN x.v.refs r=h at *
   go_wp2_with (first|refine zX (gW (b:=g8) (i:=k) hkn) ?_|refine zX (fB (x:=x) (off:=k*11) (HK.out.FC (La:=bB) (j:=0) rfl MR.out)) ?_|refine zX (aW (x:=x.v.kind) (k:=4) K4.out) ?_|refine zX (aW (x:=x.v.kind) (k:=3) K3.out) ?_);have aj:=zH HK.out.drew;refine zR (aj.out.ay 1) fun ah=>?_
   refine ak 0 rfl ?_;refine ak 1 rfl ?_;refine ak 2 rfl ?_ fun _ s=>gW (b:=g8) (i:=k) hkn
   refine ak 3 rfl ?_;refine ak 4 rfl ?_ fun _ s=>sM (x:=x) (off:=k*11) (s.out.FC (La:=bB) (j:=0) rfl MR.out)
   refine ak 5 rfl ?_ fun _ s=>aP s 0
   refine iW 6 11 rfl rfl (fun K hK=>?_) fun K hK=>?_
   go_simp;go_at_call 89;refine(akd.out _ aj.out.b).mono ?_;rintro e w5 ⟨A4,n4,c4,rfl,o4,b4⟩;obtain⟨Rn,k4,HIr⟩:=o4.kn b4 HFd.out;replace aj:=zH (aj.out.join k4);clear o4 b4 k4;have hs:=zH ((aj.out.aB 1).ay 1);refine bk hK hs fun ah=>?_
   clear hK K;refine ak 7 rfl ?_;refine ak 8 rfl ?_;refine ak 9 rfl ?_;refine ak 10 rfl ?_;refine aC 11 rfl fun K hK=>?_
   refine CV aj ?_;clear aj;intro wq g9 aj;simp only[aS,aK] at aj;have hs:=zH ((aj.out.aB 1).ay 1);refine bk hK hs fun ah=>?_
   clear hK K;refine ak 12 rfl ?_;refine aC 13 rfl fun K hK=>?_
   refine zn aj 1 ?_;clear aj;intro wq aj;simp only[lS] at aj;have hs:=zH ((aj.out.aB 1).ay 1);refine bk hK hs fun ah=>?_
   clear hK K;refine ak 14 rfl ?_;refine cB ?_
   rotate_left
   refine CV aj ?_;clear aj;intro wq g9 aj;simp only[aS,aK] at aj;have hs:=zH ((aj.out.aB 1).ay 1);refine bk hK hs fun ah=>?_
   clear hK K;refine aC 6 rfl fun K hK=>?_
   go_simp;go_at_call 89;refine(akd.out _ aj.out.b).mono ?_;rintro e w5 ⟨A4,n4,c4,rfl,o4,b4⟩;obtain⟨Rn,k4,HIr⟩:=o4.kn b4 HFd.out;replace aj:=zH (aj.out.join k4);clear o4 b4 k4;have hs:=zH ((aj.out.aB 1).ay 1);refine bk hK hs fun ah=>?_
   clear hK K;refine ak 7 rfl ?_;refine ak 8 rfl ?_;refine ak 9 rfl ?_;refine ak 10 rfl ?_;refine ak 12 rfl ?_;refine aC 13 rfl fun K hK=>?_
   refine zn aj 1 ?_;clear aj;intro wq aj;simp only[lS] at aj;have hs:=zH ((aj.out.aB 1).ay 1);refine bk hK hs fun ah=>?_
   clear hK K;refine ak 14 rfl ?_;refine cB ?_
   rotate_left
   all_goals
    replace HK:Hid (Kn w.heap.size w _ [(w.heap.size,44,#[.int .i64 r.c,.int .i64 r.e,.int .i64 r.r]),(g9,44,#[.int .i64 y.c,.int .i64 y.e,.int .i64 y.r])] (row bB (.slice (some ⟨g8,0,none⟩) n c8) lk::row bL (.slice A7 m7 c7) (au.FV (vs l) r k)::(Rk++Rn))):=aj;clear aj ah;have HXs:=zH (bQ (x.sr A4 n4 c4 m) MR.out)
    have ajZ:Hid (∀(b:Nat) (W0 W:World) L R,Kn b W0 W L R→(∀z∈Rk++Rn,z∈R)→G W→∀z∈lk.set k (x.sr A4 n4 c4 m),In W z):=zH (fun _ _ _ _ _ K hm hb z hz=>by
     have h1:=HIn.out _ _ _ _ _ K (fun z hz=>hm _ (List.mem_append_left _ hz)) hb
     rcases List.mem_or_eq_of_mem_set hz with h2|rfl
     ·exact h1 z h2
     ·have h3:=h1 x (List.mem_of_getElem? MR.out)
      exact h3.sr (HIr.out _ _ _ _ _ K (fun z hz=>hm _ (List.mem_append_right _ hz)) h3.r))
    cases h
    case false=>
     go_wp2_with (first|refine zX (gW (b:=g8) (i:=k) hkn) ?_|(refine yF (La:=bB) HK 0 rfl 71 rfl rfl k x (x.sr A4 n4 c4 m) MR.out 5 rfl rfl rfl rfl wu rfl ?_;clear HK;intro wq HK;simp only[List.set_cons_zero] at HK)|refine zX (aR (j:=k) hk3) ?_);refine⟨⟨k+1,A7,m7,c7,lk.set k (x.sr A4 n4 c4 m),Rk++Rn,by omega,rfl,by go_num,zH (by rw[List.length_set];exact zU.out),zH (by rw[Ei,HVk.out,HDk.out,HDd.out];rfl),zH (fun j hj=>by rw[List.getElem?_set_ne (by omega)];exact FM.out j (by omega)),zH (by rw[jr.out,Yr.out];exact(congrArg List.length (List.append_nil _)).trans JD.out),ajZ,?_⟩,by simp[intOf];omega⟩;rw[jr.out,Yr.out];refine zH ?_;have h1:=HK.out.aB 1;rw[show au.FV (vs l) r k++au.held y false=au.FV (vs l) r k from List.append_nil _];exact h1
    case true=>
     have HL:Hid ((au.FV (vs l) r k).length+1≤9223372036854775807∧((au.FV (vs l) r k).length+1)*bL.bytes≤211106232532992):=zH (by
      rw[JD.out];have:=HOm.out;refine⟨by omega,?_⟩
      show(m7+1)*72≤_
      omega)
     have JE:Hid ((au.FV (vs l) r k++[(⟨y,au.rz⟩:au.Ot)]).length=m7+1):=zH (by rw[List.length_append,JD.out];rfl);generalize hos:au.FV (vs l) r k=os at *
     have HOs:=zH hos;clear hos;go_wp2_with (first|refine zX (gW (b:=g8) (i:=k) hkn) ?_|(refine yF (La:=bB) HK 0 rfl 71 rfl rfl k x (x.sr A4 n4 c4 m) MR.out 5 rfl rfl rfl rfl wu rfl ?_;clear HK;intro wq HK;simp only[List.set_cons_zero] at HK)|refine zX (aP HK 1) ?_|refine zX (sP (r:=y)) ?_|(refine dM bL (p:=⟨y,au.rz⟩) HK ?_;intro _ g11 dz;have HR:=zH (Kn.zI dz.out).rd;simp only[aS,aK] at dz;replace HK:=dz;clear dz)|(at_builtin;refine bA HK bL 1 [⟨y,au.rz⟩] rfl HR HL (N:=m7+1) JE ?_;clear HK;intro A9 c9 _ HK;simp only[lS] at HK)|refine zX (aR (j:=k) hk3) ?_);refine⟨⟨k+1,A9,m7+1,c9,lk.set k (x.sr A4 n4 c4 m),Rk++Rn,by omega,rfl,by go_num,zH (by rw[List.length_set];exact zU.out),zH (by rw[Ei,HVk.out,HDk.out,HDd.out];rfl),zH (fun j hj=>by rw[List.getElem?_set_ne (by omega)];exact FM.out j (by omega)),zH (by rw[jr.out,Yr.out];exact JE.out),ajZ,?_⟩,by simp[intOf];omega⟩;rw[jr.out,Yr.out];exact zH (Kn.aly (HK.out.aB 1))
  ·have K3:Hid (decide (x.v.kind=3)=false):=zH (decide_eq_false h3)
   have HDd:Hid (au.dr x.v r=x.v):=zH (by unfold au.dr;rw[if_neg h3,if_neg h4]);have Yr:Hid (au.xg x.v r=[]):=zH (by unfold au.xg;rw[if_neg h3]);clear h3 h4;go_wp2_with (first|refine zX (gW (b:=g8) (i:=k) hkn) ?_|refine zX (fB (x:=x) (off:=k*11) (HK.out.FC (La:=bB) (j:=0) rfl MR.out)) ?_|refine zX (aW (x:=x.v.kind) (k:=4) K4.out) ?_|refine zX (aW (x:=x.v.kind) (k:=3) K3.out) ?_|refine zX (aR (j:=k) hk3) ?_);refine⟨⟨k+1,A7,m7,c7,lk,Rk,by omega,rfl,by go_num,zU,zH (by rw[HSk.out HDd.out];exact HVk.out),zH (fun j hj=>FM.out j (by omega)),zH (by rw[jr.out,Yr.out,List.append_nil];exact JD.out),HIn,?_⟩,by simp[intOf];omega⟩;rw[jr.out,Yr.out,List.append_nil];exact HK
end
section
theorem Db(n:Int)(A:Option Addr)(k cp:Nat)(t:aG.T)(O:Option Addr)(m d:Nat){os:List au.Ot}(w:World)(hf:aG.Fit t)(hs:bT bL tF w O m d os)(ho:∀y∈os,y.p.v.f<18446744073709551616):
  Calls prog 45 #[.agg (stA n A k cp t),.slice O m d] w (fun e w'=>e=.returned (.agg (stA n A k cp (Ap.ends t (Ap.dV os))))∧Below w.heap.size w w'):=by
 have HS:=zH hs;have HFo:=zH ho;have lJ:=zH hf;have HK:=jw w 33 (stA n A k cp t);have zi:Hid (Ap.ends t (Ap.dV (os.drop 0))=Ap.ends t (Ap.dV os)):=zH rfl
 have hn63:m<9223372036854775807:=by
  have h:m*72≤140737488355328:=hs.big;omega
 generalize Ap.ends t (Ap.dV os)=y at *
 clear hs ho hf;go_enter func45,ntmps45;go_wp2_with (refine bF HK ?_;clear HK;intro _ g1 HK;simp only[aS,aK] at HK);go_loopw [5] (fun v5 wr=>∃(j:Nat) (u:aG.T),j≤m∧v5=.int .i64 j∧Hid (aG.Fit u)∧Hid (Ap.ends u (Ap.dV (os.drop j))=y)∧Hid (Kn w.heap.size w wr [(w.heap.size,33,stA n A k cp u),(g1,33,stA 0 none 0 0 tz)] [])) (fun v5 _=>m-(intOf v5).toNat)
 case atStart=>exact⟨0,t,Nat.zero_le _,rfl,lJ,zi,HK⟩
 case round=>
  clear HK zi lJ;obtain⟨j,u,hj,rfl,lJ,zi,HK⟩:=hrel;have hj1:(0:Int)≤(j:Int):=by omega
  by_cases hlt:j<m
  case pos=>
   have hj2:(j:Int)<(m:Int):=by omega
   have hj3:j<9223372036854775807:=by omega
   obtain⟨x,hx,_⟩:=HS.out.get hlt;obtain⟨b,o,rfl,hat⟩:=HS.out.at (Nat.lt_of_le_of_lt (Nat.zero_le _) hlt);have HX:=zH (fun W hW=>hat W hW j x hx);have hxf:=HFo.out x (List.mem_of_getElem? hx);have HE:=zH (fun W=>vN u x.r x.p W lJ.out hxf);have RX:=zH (aG.qo lJ.out x.r hxf)
   have ami:Hid (Ap.ends (aG.ji u x.r x.p) (Ap.dV (os.drop (j+1)))=y):=zH (by
    have h:=zi.out;rw[List.drop_eq_getElem_cons (List.getElem?_eq_some_iff.1 hx).1,(List.getElem?_eq_some_iff.1 hx).2] at h
    exact h)
   unfold RQ at HE;clear hat hx hxf zi;generalize aG.ji u x.r x.p=u2 at *
   go_wp2_with fail;have aj:=zH HK.out.drew;clear HK;refine zR (aj.out.aO 1) fun ah=>?_
   refine ak 0 rfl ?_;refine ak 2 rfl ?_;refine ak 3 rfl ?_;refine ak 4 rfl ?_ fun _ s=>dZ bL (i:=j) hlt
   refine ak 5 rfl ?_;refine ak 6 rfl ?_ fun _ s=>WL (y:=x) (off:=o+j*8) (by rfl) (by rfl) (HX.out _ s.out.b)
   refine ak 7 rfl ?_;refine ak 8 rfl ?_;refine ak 9 rfl ?_ fun _ s=>dZ bL (i:=j) hlt
   refine ak 10 rfl ?_;refine ak 11 rfl ?_ fun _ s=>WM (y:=x) (off:=o+j*8) (by rfl) (by rfl) (HX.out _ s.out.b)
   refine aC 1 rfl fun K hK=>?_
   refine eU (gD aj 0) ?_;have hs:=ah;refine bk hK hs fun ah=>?_
   clear hK K;refine aC 12 rfl fun K hK=>?_
   go_simp;go_at_call 48;refine(HE.out _).mono ?_;rintro e w5 ⟨rfl,b5⟩;have hs:=zH (ah.out.call b5);replace aj:=zH (aj.out.call b5);clear b5;refine bk hK hs fun ah=>?_
   clear hK K;refine ak 13 rfl ?_;refine aC 14 rfl fun K hK=>?_
   refine Pv (u:=u2) aj 0 (by rfl) (by rfl) (by rfl) (by rfl) (by rfl) ?_;clear aj;intro w6 aj;simp only[lS] at aj;have hs:=zH (aj.out.aO 1);refine bk hK hs fun ah=>?_
   clear hK K;refine cB ?_;have HK:=aj;clear aj ah;go_wp2_with refine zX (aR (j:=j) hj3) ?_;exact⟨⟨j+1,u2,hlt,rfl,RX,ami,HK⟩,by simp[intOf];omega⟩
  case neg=>
   obtain rfl:j=m:=by omega
   have hj2:¬(j:Int)<(j:Int):=by omega
   have hu:u=y:=by
    have h:=zi.out;rw[List.drop_eq_nil_of_le (by rw[HS.out.len];exact Nat.le_refl _)] at h;exact h
   subst hu;go_wp2_with (first|refine zX (lq HK 0) ?_|(refine bg HK 1 ?_;clear HK;intro _ HK;simp only[lS] at HK));exact Uo results45 rfl rfl (HK.out.blk 1 rfl) ⟨rfl,HK.out.b⟩
theorem uQ(G:World→Prop)(n:Int)(A:Option Addr)(k cp:Nat)(t:aG.T)(lo:List Oh)(c1:Int)(w:World)(hG:∀W,G W→dS W A k cp lo)(hs:dS w A k cp lo)(hf:aG.Fit t)(hc:0≤c1∧c1<5):
  Calls prog 16 #[.agg (stA n A k cp t),.int .i64 c1] w (kD G (Ap.iR ⟨n,vs lo,t⟩ c1) (Ap.lN ⟨n,vs lo,t⟩ c1) w):=by
 have HD:=zH (fun W (hW:Below w.heap.size w W)=>Qd (fun W=>G W∨Below w.heap.size w W) A cp k lo (Ap.rf t c1) W (fun W h=>h.elim (hG W) fun g=>hs.later g) (hs.later hW));have Ec:=zH (fun W=>KP t c1 W hf);have zi:=zH (fun(A2:Option Addr) (n2 c2:Nat) (O:Option Addr) (m d:Nat) W (h:bT bL tF W O m d (au.jR (vs lo) (Ap.rf t c1)))=>Db n A2 n2 c2 (aG.fF t c1) O m d W (aG.xZ hf c1) h (sQ));have HK:=jw w 33 (stA n A k cp t);have JD:=zH (yg (vs lo) (Ap.rf t c1));unfold abZ at HD;unfold RQ at Ec;clear hf hs hG;unfold Ap.iR Ap.lN;dsimp only;have HRf:Hid (Ap.rf t c1=⟨c1,(t.get c1).ep,(t.get c1).rq⟩):=zH rfl;generalize Ap.rf t c1=r at *
 generalize au.aO (vs lo) r=l9 at *
 generalize au.jR (vs lo) r=os at *
 generalize aG.fF t c1=t2 at *
 generalize Ap.ends t2 (Ap.dV os)=t3 at *
 cases hd:(t.get c1).dn
 case false=>
  have HV:=zH hd;clear hd;go_enter func16,ntmps16;go_upto_region 4 with (first|(refine bF HK ?_;clear HK;intro _ g1 HK;simp only[aS,aK] at HK)|refine zX (fJ hc) ?_|refine zX (uF HK 0 hc) ?_|(refine bE HK ?_;clear HK;intro _ g2 HK;simp only[aS,aK] at HK)|(refine bD (u:=t.get c1) HK 2 ?_;clear HK;intro _ HK;simp only[lS] at HK)|refine zX (nI HK 2) ?_|refine zX (ou HK 2) ?_|refine zX ((IQ (r:=⟨c1,(t.get c1).ep,(t.get c1).rq⟩)).trans (by rw[← HRf.out])) ?_|(refine bR HK ?_;clear HK;intro _ g3 HK;simp only[aS,aK] at HK)|(refine bW (c2:=r.c) (e2:=r.e) (r2:=r.r) HK 3 ?_;clear HK;intro _ HK;simp only[lS] at HK));replace HK:=zH (HK.out.Cq bL);simp only[aK] at HK;have kU:Hid ((([]:List au.Ot)++[(⟨r,au.err 14⟩:au.Ot)]).length=1):=zH rfl;have HL1:=dN (La:=bL) kU (hB:=(by show 1*72≤_;decide)) (hN:=(by decide));go_wp2_with (first|refine zX ((jL HK 2).trans (by rw[HV.out])) ?_|refine zX (qN HK 0) ?_|refine zX (aP HK 3) ?_|refine zX (wL (e:=14)) ?_|refine zX (ng (r:=r) (p:=au.err 14)) ?_|(refine dM bL (p:=⟨r,au.err 14⟩) HK ?_;intro _ g7 dz;simp only[aS,aK] at dz;have HR:=zH (dz.out.own 1 rfl).rd;replace HK:=dz;clear dz)|(at_builtin;refine bA HK bL 0 [⟨r,au.err 14⟩] rfl HR HL1 (N:=1) kU ?_;intro A8 c8 _ dz;simp only[List.set,aK] at dz;replace HK:=zH (dz.out.ay 1);clear dz HR));refine(HD.out _ HK.out.b).mono ?_;rintro e w1 ⟨A2,n2,c2,l2,O2,m2,d2,R2,rfl,HV2,k2,HI2⟩;replace HK:=zH (HK.out.join k2);clear k2;simp only[List.take,aS,aK] at HK;have XU:Hid (∀z∈R2,z∈(row bL (.slice A8 1 c8) [⟨r,au.err 14⟩]::R2)):=zH fun z hz=>List.mem_cons_of_mem _ hz
  go_wp2_with (first|(refine nA HK 0 ?_;clear HK;intro _ HK;simp only[lS] at HK)|refine zX (gD HK 0) ?_);refine cb (Ec.out _) HK ?_;clear HK;intro _ HK;go_wp2_with (first|(refine eZ (u:=t2) HK 0 ?_;clear HK;intro _ HK;simp only[lS] at HK)|refine zX (lq HK 0) ?_);refine cb (zi.out A2 n2 c2 O2 m2 d2 _ (HI2.out _ _ _ _ _ HK.out XU.out (.inr HK.out.b)).2) HK ?_;clear HK;intro _ HK;have kF:Hid (os.length=m2):=zH (HI2.out _ _ _ _ _ HK.out XU.out (.inr HK.out.b)).2.len;have HR2:=zH (And.intro (HI2.out _ _ _ _ _ HK.out XU.out (.inr HK.out.b)).2.rd (HI2.out _ _ _ _ _ HK.out XU.out (.inr HK.out.b)).2.nl);have fP:Hid ((([⟨r,au.err 14⟩]:List au.Ot)++os).length=1+m2):=zH (by rw[List.length_append,kF.out];rfl);have FY:Hid (m2≤8):=zH (by rw[← kF.out];exact JD.out);have HL2:=dN (La:=bL) fP (hN:=(by have:=FY.out;omega));go_wp2_with (first|(at_builtin;refine bA HK bL 0 os kF.out.symm HR2 HL2 (N:=1+m2) fP ?_;clear HK;intro A9 c9 _ HK;simp only[lS] at HK)|(refine bg HK 1 ?_;clear HK;intro _ HK;simp only[lS] at HK));refine jD results16 (HK.out.blk 1 rfl) ?_;unfold kD;exact⟨A2,n2,c2,l2,A9,_,c9,_,rfl,HV2,HK.out.aB 0,zH fun b W0 W L R K hm hg=>⟨(HI2.out b W0 W L R K (fun z hz=>hm z (List.mem_cons_of_mem _ hz)) (.inl hg)).1,bT.own (K.mem (hm _ (List.mem_cons_self ..))) (oI)⟩⟩
 case true=>
  have HV:=zH hd;clear hd;go_enter func16,ntmps16;go_upto_region 4 with (first|(refine bF HK ?_;clear HK;intro _ g1 HK;simp only[aS,aK] at HK)|refine zX (fJ hc) ?_|refine zX (uF HK 0 hc) ?_|(refine bE HK ?_;clear HK;intro _ g2 HK;simp only[aS,aK] at HK)|(refine bD (u:=t.get c1) HK 2 ?_;clear HK;intro _ HK;simp only[lS] at HK)|refine zX (nI HK 2) ?_|refine zX (ou HK 2) ?_|refine zX ((IQ (r:=⟨c1,(t.get c1).ep,(t.get c1).rq⟩)).trans (by rw[← HRf.out])) ?_|(refine bR HK ?_;clear HK;intro _ g3 HK;simp only[aS,aK] at HK)|(refine bW (c2:=r.c) (e2:=r.e) (r2:=r.r) HK 3 ?_;clear HK;intro _ HK;simp only[lS] at HK));replace HK:=zH (HK.out.Cq bL);simp only[aK] at HK;go_wp2_with (first|refine zX ((jL HK 2).trans (by rw[HV.out])) ?_|refine zX (qN HK 0) ?_|refine zX (aP HK 3) ?_);refine(HD.out _ HK.out.b).mono ?_;rintro e w1 ⟨A2,n2,c2,l2,O2,m2,d2,R2,rfl,HV2,k2,HI2⟩;replace HK:=zH (HK.out.join k2);clear k2;simp only[aS,aK] at HK;have XU:Hid (∀z∈R2,z∈(row bL (.slice none 0 0) []::R2)):=zH fun z hz=>List.mem_cons_of_mem _ hz
  go_wp2_with (first|(refine nA HK 0 ?_;clear HK;intro _ HK;simp only[lS] at HK)|refine zX (gD HK 0) ?_);refine cb (Ec.out _) HK ?_;clear HK;intro _ HK;go_wp2_with (first|(refine eZ (u:=t2) HK 0 ?_;clear HK;intro _ HK;simp only[lS] at HK)|refine zX (lq HK 0) ?_);refine cb (zi.out A2 n2 c2 O2 m2 d2 _ (HI2.out _ _ _ _ _ HK.out XU.out (.inr HK.out.b)).2) HK ?_;clear HK;intro _ HK;have kF:Hid (os.length=m2):=zH (HI2.out _ _ _ _ _ HK.out XU.out (.inr HK.out.b)).2.len;have HR2:=zH (And.intro (HI2.out _ _ _ _ _ HK.out XU.out (.inr HK.out.b)).2.rd (HI2.out _ _ _ _ _ HK.out XU.out (.inr HK.out.b)).2.nl);have fP:Hid ((([]:List au.Ot)++os).length=m2):=zH (by rw[aK,kF.out]);have FY:Hid (m2≤8):=zH (by rw[← kF.out];exact JD.out);have HL2:=dN (La:=bL) fP (hN:=(by have:=FY.out;omega));go_wp2_with (first|(at_builtin;refine bA HK bL 0 os kF.out.symm HR2 HL2 (N:=m2) fP ?_;clear HK;intro A9 c9 _ HK;simp only[List.set,aK] at HK)|(refine bg HK 1 ?_;clear HK;intro _ HK;simp only[lS] at HK));refine jD results16 (HK.out.blk 1 rfl) ?_;unfold kD;exact⟨A2,n2,c2,l2,A9,_,c9,_,rfl,HV2,HK.out.aB 0,zH fun b W0 W L R K hm hg=>⟨(HI2.out b W0 W L R K (fun z hz=>hm z (List.mem_cons_of_mem _ hz)) (.inl hg)).1,bT.own (K.mem (hm _ (List.mem_cons_self ..))) (oI (h:=(by rw[kF.out];have:=FY.out;omega)))⟩⟩
end
end Go.Proofs.YtahdlddbbnjloaaGreat
