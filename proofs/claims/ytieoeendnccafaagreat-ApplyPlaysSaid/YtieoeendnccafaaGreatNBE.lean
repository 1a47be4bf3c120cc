/- What the document's Take, Free and Drop return. No condition but those named. -/
import Derived.Test.YtieoeendnccafaaGreatNBD
set_option linter.unusedSimpArgs false
set_option linter.unusedVariables false
set_option maxRecDepth 100000
set_option maxHeartbeats 25600000
open Go.RowKit
namespace Go.Proofs.YtieoeendnccafaaGreat
open _root_.Go.Proofs.Tryz
section
def Jg(b:Nat)(w:World)(A:Option Addr)(n c:Nat)(l:List Rf)(A':Option Addr)(n' c':Nat)(B:Option Addr)(k d:Nat)(r s:List Rf):Prop:=
 ((B=none∧k=0∧d=0∧s=[])∧uQ aG b w A n c l A' n' c' r)∨((A'=none∧n'=0∧c'=0∧r=[])∧aG.Own b w (.slice B k d) s)
theorem Jg.stay{b:Nat}{w:World}{A:Option Addr}{n c:Nat}{l:List Rf}{A':Option Addr}{n' c':Nat}{r:List Rf}(h:uQ aG b w A n c l A' n' c' r):Jg b w A n c l A' n' c' none 0 0 r []:=.inl ⟨⟨rfl,rfl,rfl,rfl⟩,h⟩
theorem Jg.go{b:Nat}{w:World}{A:Option Addr}{n c:Nat}{l:List Rf}{B:Option Addr}{k d:Nat}{s:List Rf}(h:aG.Own b w (.slice B k d) s):Jg b w A n c l none 0 0 B k d [] s:=.inr ⟨⟨rfl,rfl,rfl,rfl⟩,h⟩
def Ws(A:Option Addr)(n c:Nat)(l r s:List Rf)(x:Int)(w:World)(e:Ending)(w':World):Prop:=∃A' n' c' B k d,e=.returned (.tuple #[.slice A' n' c',.slice B k d,.int .i64 x])∧Jg w.heap.size w' A n c l A' n' c' B k d r s∧Below w.heap.size w w'
def Wx(A:Option Addr)(n c:Nat)(l r:List Rf)(w:World)(e:Ending)(w':World):Prop:=∃A' n' c',e=.returned (.slice A' n' c')∧uQ aG w.heap.size w' A n c l A' n' c' r∧Below w.heap.size w w'
theorem Kq(m:Int)(A:Option Addr)(c n:Nat)(l:List Rf)(r:Rf)(w:World)(hs:bJ aG rF w A n c l):
  Calls prog 195 #[.int .i64 m,.slice A n c,.agg #[.int .i64 r.c,.int .i64 r.e,.int .i64 r.r]] w (Ws A n c l (Gt.Em m l r) (Gt.zk m l r) (Gt.qB m l r) w):=by
 have HM:=zH (fun W (hW:Below w.heap.size w W)=>sG m A c n l W (hs.later hW));have HC:=zH (fun W=>gu r W);have HS:=zH hs;have hlen:=hs.len;have HK:=iK w 35 #[.int .i64 r.c,.int .i64 r.e,.int .i64 r.r];unfold cZ Ws at *
 by_cases hr:Gt.Right m l
 case neg=>
  rw[decide_eq_false hr] at HM;obtain⟨e1,e2,e3⟩:=Gt.zU (r:=r) (fun h=>hr h.1);rw[e1,e2,e3];clear e1 e2 e3 hr hs hlen HC;go_enter func195,ntmps195;go_wp2_with fail;refine cb (HM.out _ HK.out.b) HK ?_;exact ZY
 case pos=>
 rw[decide_eq_true hr] at HM;by_cases hok:aS.ok r
 case neg=>
  rw[decide_eq_false hok] at HC;obtain⟨e1,e2,e3⟩:=Gt.zU (m:=m) (l:=l) (r:=r) (fun h=>hok h.2);rw[e1,e2,e3];clear e1 e2 e3 hr hok hs hlen;go_enter func195,ntmps195;go_wp2_with fail;refine cb (HM.out _ HK.out.b) HK ?_;clear HK;intro _ HK;go_wp2_with refine zX (aB HK 0) ?_;refine cb (HC.out _) HK ?_;exact ZY
 case pos=>
 rw[decide_eq_true hok] at HC;obtain⟨hyes,hno⟩:=aS.jI hs.len r.c;have WH:Hid (∀(i:Nat) x,l[i]?=some x→x.c=r.c→Gt.qB m l r=11∧Gt.Em m l r=l∧Gt.zk m l r=[]):=zH fun i x hx h=>Gt.El hr hok (hyes i x hx h)
 have iw:Hid ((∀(i:Nat) x,i<n→l[i]?=some x→¬x.c=r.c)→(((n+1:Nat):Int)==m)=true→Gt.qB m l r=0∧Gt.Em m l r=[]∧Gt.zk m l r=l++[r]):=zH fun h h2=>by
  refine Gt.oz hr hok (hno h) ?_;rw[beq_iff_eq] at h2;rw[hlen];omega
 have HMo:Hid ((∀(i:Nat) x,i<n→l[i]?=some x→¬x.c=r.c)→(((n+1:Nat):Int)==m)=false→Gt.qB m l r=0∧Gt.Em m l r=l++[r]∧Gt.zk m l r=[]):=zH fun h h2=>by
  refine Gt.ow hr hok (hno h) ?_;rw[beq_eq_false_iff_ne] at h2;rw[hlen];omega
 have h5:=aS.fG hr.2.2.2;rw[hlen] at h5;have gT:=zH hlen.symm;have lJ:Hid ((([]:List Rf)++l).length=n):=zH (by rw[aJ];exact hlen);have fB:Hid ((l++[r]).length=n+1):=zH (by rw[List.length_append,hlen];rfl);have xE:=fV (La:=aG) lJ (hB:=(by show n*24≤_;omega));have HG2:=fV (La:=aG) fB (hB:=(by show(n+1)*24≤_;omega));obtain⟨N1,hN1⟩:∃N1,N1=n+1:=⟨_,rfl⟩;rw[← hN1] at iw HMo fB;have QV:=zH hN1;clear hyes hno hr hok hs hlen hN1;generalize Gt.qB m l r=X at *
 generalize Gt.Em m l r=res at *
 generalize Gt.zk m l r=al at *
 go_enter func195,ntmps195;go_wp2_with fail;refine cb (HM.out _ HK.out.b) HK ?_;clear HK;intro _ HK;go_wp2_with refine zX (aB HK 0) ?_;refine cb (HC.out _) HK ?_;clear HK;intro _ HK;clear HM HC;go_wp2_with fail;go_loopw [9] (fun vi wr=>∃k:Nat,k≤n∧vi=.int .i64 k∧Hid (∀(i:Nat) x,i<k→l[i]?=some x→¬x.c=r.c)∧Hid (Kn w.heap.size w wr [(w.heap.size,35,#[.int .i64 r.c,.int .i64 r.e,.int .i64 r.r])] [])) (fun vi _=>n-(intOf vi).toNat)
 case atStart=>exact⟨0,Nat.zero_le _,rfl,zH (fun i v hi=>by omega),HK⟩
 case round=>
  clear HK;obtain⟨k,hk,rfl,iA,HK⟩:=hrel;have hk1:(0:Int)≤(k:Int):=by omega
  by_cases hlt:k<n
  ·have hk2:(k:Int)<(n:Int):=by omega
   have hk3:k<9223372036854775807:=by omega
   obtain⟨x,hx,_⟩:=HS.out.get hlt;obtain⟨b,o,rfl,hat⟩:=HS.out.at (Nat.lt_of_le_of_lt (Nat.zero_le _) hlt);have HX:=zH (fun W hW=>hat W hW k x hx);have HH:=zH (WH.out k x hx)
   have nZ:Hid (¬x.c=r.c→∀(i:Nat) v,i<k+1→l[i]?=some v→¬v.c=r.c):=zH fun h i v hi hv=>by
    by_cases hik:i=k
    ·subst hik;rw[hx] at hv;injection hv with hv;subst hv;exact h
    ·exact iA.out i v (by omega) hv
   clear hat hx WH;go_wp2_with fail;by_cases he:x.c=r.c
   ·obtain⟨rfl,rfl,rfl⟩:=HH.out he
    have hb:(x.c==r.c)=true:=by simpa using he
    clear he HH nZ iw HMo;refine zR HK.out.drew fun ah=>?_
    refine ak 0 rfl ?_;refine ak 1 rfl ?_;refine ak 2 rfl ?_ fun _ s=>dM (i:=k) hlt
    refine ak 3 rfl ?_;refine ak 4 rfl ?_ fun _ s=>nU (x:=x) (off:=o+k*3) (HX.out _ s.out.b)
    refine ak 5 rfl ?_;refine ak 6 rfl ?_ fun _ s=>fH s 0
    refine ak 7 rfl ?_;refine bW ?_;go_wp2_with fail;exact iQ results195 (hR:=⟨_,n,c,none,0,0,rfl,.stay (.inr ⟨rfl,rfl,rfl,rfl⟩),ah.out.b⟩)
   ·have hb:(x.c==r.c)=false:=by simpa using he
    exact aeC
  ·obtain rfl:k=n:=by omega
   have adG:=zH (iw.out iA.out);have adI:=zH (HMo.out iA.out);clear iw HMo WH;go_wp2_with fail;have aj:=zH HK.out.drew;refine zR HK.out.drew fun ah=>?_
   refine ak 1 rfl ?_;refine ak 3 rfl ?_ fun _ s=>aB s 0
   refine jr 0 4 rfl rfl (fun K hK=>?_) fun K hK=>?_
   refine kH aG aj ?_;clear aj;intro w2 g2 aj _;simp only[aO,aJ] at aj;have hs:=zH (aj.out.ay 0);refine bk hK hs fun ah=>?_
   clear hK K;refine jr 2 4 rfl rfl (fun K hK=>?_) fun K hK=>?_
   (first|refine aT aG aj 0 l (hn:=gT.out) (zH (let h:=HS.out.later aj.out.b;And.intro h.rd h.nl)) xE (N:=k) lJ ?_|refine aT aG aj 1 l (hn:=gT.out) (zH (let h:=HS.out.later aj.out.b;And.intro h.rd h.nl)) xE (N:=k) lJ ?_);clear aj;intro A4 c4 w4 aj;simp only[List.set,aJ] at aj;have hs:=zH (aj.out.ay 0)
   refine bk hK hs fun ah=>?_
   clear hK K;refine aC 4 rfl fun K hK=>?_
   refine dw aG (p:=r) aj ?_;clear aj;intro w5 g5 aj _;simp only[aO,aJ] at aj;have hs:=zH (aj.out.ay 0);refine bk hK hs fun ah=>?_
   clear hK K;refine aC 5 rfl fun K hK=>?_
   (first|refine aT aG aj 0 [r] (zH (aj.out.own 1 rfl).rd) HG2 (N:=N1) fB ?_|refine aT aG aj 1 [r] (zH (aj.out.own 0 rfl).rd) HG2 (N:=N1) fB ?_);clear aj;intro A6 c6 w6 aj;simp only[lS] at aj;have hs:=zH (aj.out.ay 0)
   refine bk hK hs fun ah=>?_
   clear hK K;refine ak 6 rfl ?_;refine bW ?_
   rotate_left
   refine dw aG (p:=r) aj ?_;clear aj;intro w5 g5 aj _;simp only[aO,aJ] at aj;have hs:=zH (aj.out.ay 0);refine bk hK hs fun ah=>?_
   clear hK K;refine aC 2 rfl fun K hK=>?_
   (first|refine aT aG aj 0 l (hn:=gT.out) (zH (let h:=HS.out.later aj.out.b;And.intro h.rd h.nl)) xE (N:=k) lJ ?_|refine aT aG aj 1 l (hn:=gT.out) (zH (let h:=HS.out.later aj.out.b;And.intro h.rd h.nl)) xE (N:=k) lJ ?_);clear aj;intro A4 c4 w4 aj;simp only[List.set,aJ] at aj;have hs:=zH (aj.out.ay 0)
   refine bk hK hs fun ah=>?_
   clear hK K;refine aC 5 rfl fun K hK=>?_
   (first|refine aT aG aj 0 [r] (zH (aj.out.own 1 rfl).rd) HG2 (N:=N1) fB ?_|refine aT aG aj 1 [r] (zH (aj.out.own 0 rfl).rd) HG2 (N:=N1) fB ?_);clear aj;intro A6 c6 w6 aj;simp only[lS] at aj;have hs:=zH (aj.out.ay 0)
   refine bk hK hs fun ah=>?_
   clear hK K;refine ak 6 rfl ?_;refine bW ?_
   rotate_left
   refine dw aG (p:=r) aj ?_;clear aj;intro w5 g5 aj _;simp only[aO,aJ] at aj;have hs:=zH (aj.out.ay 0);refine bk hK hs fun ah=>?_
   clear hK K;refine aC 0 rfl fun K hK=>?_
   refine kH aG aj ?_;clear aj;intro w2 g2 aj _;simp only[aO,aJ] at aj;have hs:=zH (aj.out.ay 0);refine bk hK hs fun ah=>?_
   clear hK K;refine aC 2 rfl fun K hK=>?_
   (first|refine aT aG aj 0 l (hn:=gT.out) (zH (let h:=HS.out.later aj.out.b;And.intro h.rd h.nl)) xE (N:=k) lJ ?_|refine aT aG aj 1 l (hn:=gT.out) (zH (let h:=HS.out.later aj.out.b;And.intro h.rd h.nl)) xE (N:=k) lJ ?_);clear aj;intro A4 c4 w4 aj;simp only[List.set,aJ] at aj;have hs:=zH (aj.out.ay 0)
   refine bk hK hs fun ah=>?_
   clear hK K;refine aC 5 rfl fun K hK=>?_
   (first|refine aT aG aj 0 [r] (zH (aj.out.own 1 rfl).rd) HG2 (N:=N1) fB ?_|refine aT aG aj 1 [r] (zH (aj.out.own 0 rfl).rd) HG2 (N:=N1) fB ?_);clear aj;intro A6 c6 w6 aj;simp only[lS] at aj;have hs:=zH (aj.out.ay 0)
   refine bk hK hs fun ah=>?_
   clear hK K;refine ak 6 rfl ?_;refine bW ?_
   rotate_left
   all_goals
    by_cases hz0:((N1:Int)==m)=true
    case pos=>
     obtain⟨rfl,rfl,rfl⟩:=adG.out hz0;have hz:=hz0;clear hz0 adG adI;go_wp2_with fail
     first
      | exact iQ results195 (hR:=⟨none,0,0,A6,_,c6,rfl,.go (aj.out.own 0 rfl),aj.out.b⟩)
      | exact iQ results195 (hR:=⟨none,0,0,A6,_,c6,rfl,.go (aj.out.own 1 rfl),aj.out.b⟩)
    case neg=>
     have hz:((N1:Int)==m)=false:=Bool.eq_false_iff.2 hz0;obtain⟨rfl,rfl,rfl⟩:=adI.out hz;clear hz0 adG adI;go_wp2_with fail
     first
      | exact iQ results195 (hR:=⟨A6,_,c6,none,0,0,rfl,.stay (.inl (aj.out.own 0 rfl)),aj.out.b⟩)
      | exact iQ results195 (hR:=⟨A6,_,c6,none,0,0,rfl,.stay (.inl (aj.out.own 1 rfl)),aj.out.b⟩)
theorem Kr(m:Int)(A:Option Addr)(c n:Nat)(l:List Rf)(r:Rf)(w:World)(hs:bJ aG rF w A n c l):
  Calls prog 129 #[.int .i64 m,.slice A n c,.agg #[.int .i64 r.c,.int .i64 r.e,.int .i64 r.r]] w (Wx A n c l (Gt.pF m l r) w):=by
 have HM:=zH (fun W (hW:Below w.heap.size w W)=>sG m A c n l W (hs.later hW));have pI:=zH (fun x W=>AJ x r W);have hlen:=hs.len;have HK:=iK w 35 #[.int .i64 r.c,.int .i64 r.e,.int .i64 r.r];unfold cZ Wx at *
 by_cases hr:Gt.Right m l
 case neg=>
  rw[decide_eq_false hr] at HM;rw[Gt.DI hr];clear hr hs hlen pI;go_enter func129,ntmps129;go_wp2_with fail;refine cb (HM.out _ HK.out.b) HK ?_;clear HK;intro _ HK;go_wp2_with fail;go_ret;exact⟨A,n,c,rfl,.inr ⟨rfl,rfl,rfl,rfl⟩,HK.out.b⟩
 case pos=>
 rw[decide_eq_true hr] at HM;rw[Gt.Fe hr];have HS:=zH hs;have h5:=aS.fG hr.2.2.2;rw[hlen] at h5;have jo:Hid (l.take n=l):=zH (by rw[← hlen];exact List.take_length);have HTl:Hid (∀k,k≤n→(aS.wo (l.take k) r).length≤k):=zH fun k hk=>Nat.le_trans (aS.vU _ _) (by rw[List.length_take];omega)
 clear hs hr hlen;go_enter func129,ntmps129;go_wp2_with fail;refine cb (HM.out _ HK.out.b) HK ?_;clear HK;intro _ HK;clear HM;replace HK:=zH (HK.out.wE aG);simp only[aJ] at HK;go_wp2_with fail;go_loopw [7,8] (fun vs vi wr=>∃(k:Nat) (A1:Option Addr) (c1 N:Nat),k≤n∧vs=.slice A1 N c1∧vi=.int .i64 k∧Hid ((aS.wo (l.take k) r).length=N)∧Hid (Kn w.heap.size w wr [(w.heap.size,35,#[.int .i64 r.c,.int .i64 r.e,.int .i64 r.r])] [row aG (.slice A1 N c1) (aS.wo (l.take k) r)])) (fun _ vi _=>n-(intOf vi).toNat)
 case atStart=>exact⟨0,none,0,0,Nat.zero_le _,rfl,rfl,zH rfl,HK⟩
 case round=>
  clear HK;obtain⟨k,A1,c1,N,hk,rfl,rfl,hN,HK⟩:=hrel;have hk1:(0:Int)≤(k:Int):=by omega
  by_cases hlt:k<n
  ·have hk2:(k:Int)<(n:Int):=by omega
   have hk3:k<9223372036854775807:=by omega
   obtain⟨x,hx,_⟩:=HS.out.get hlt;obtain⟨b,o,rfl,hat⟩:=HS.out.at (Nat.lt_of_le_of_lt (Nat.zero_le _) hlt);have HX:=zH (fun W hW=>hat W hW k x hx);have hNk:N≤k:=by rw[← hN.out];exact HTl.out k hk
   replace pI:=zH (fun W=>pI.out x W);by_cases hm:aS.mine x r
   ·have HE:=zH (aS.oD hx hm)
    rw[decide_eq_true hm] at pI;clear hat hx hm;exact aeJ
   ·have HE:=zH (aS.qJ hx hm)
    rw[decide_eq_false hm] at pI;have fB:Hid ((aS.wo (l.take k) r++[x]).length=N+1):=zH (by rw[List.length_append,hN.out];rfl);have HL2:=fV (La:=aG) fB (hB:=(by show(N+1)*24≤_;omega));clear hat hx hm;exact aeU
  ·obtain rfl:k=n:=by omega
   rw[jo.out] at HK;go_wp2_with fail;go_ret;exact⟨A1,_,c1,rfl,.inl (HK.out.own 0 rfl),HK.out.b⟩
end
section
def Wt(A:Option Addr)(n c:Nat)(l r:List Rf)(h:Bool)(x:Int)(w:World)(e:Ending)(w':World):Prop:=∃A' n' c',e=.returned (.tuple #[.slice A' n' c',.bool h,.int .i64 x])∧uQ aG w.heap.size w' A n c l A' n' c' r∧Below w.heap.size w w'
def Wz(A:Option Addr)(n c:Nat)(l r:List Rf)(y:Rf)(h:Bool)(x:Int)(w:World)(e:Ending)(w':World):Prop:=∃A' n' c',e=.returned (.tuple #[.slice A' n' c',.agg #[.int .i64 y.c,.int .i64 y.e,.int .i64 y.r],.bool h,.int .i64 x])∧uQ aG w.heap.size w' A n c l A' n' c' r∧Below w.heap.size w w'
def WA(A:Option Addr)(n c:Nat)(l r:List Rf)(y:Rf)(h:Bool)(w:World)(e:Ending)(w':World):Prop:=∃A' n' c',e=.returned (.tuple #[.slice A' n' c',.agg #[.int .i64 y.c,.int .i64 y.e,.int .i64 y.r],.bool h])∧uQ aG w.heap.size w' A n c l A' n' c' r∧Below w.heap.size w w'
theorem Kj(A:Option Addr)(c n:Nat)(l:List Rf)(r:Rf)(w:World)(hs:bJ aG rF w A n c l):
  Calls prog 196 #[.slice A n c,.agg #[.int .i64 r.c,.int .i64 r.e,.int .i64 r.r]] w (Wt A n c l (aS.CF l r) (aS.JU l r) (aS.yY l r) w):=by
 have HM:=zH (fun W (hW:Below w.heap.size w W)=>lU A c n l W (hs.later hW));have HC:=zH (fun W=>gu r W);have HS:=zH hs;have hlen:=hs.len;have HK:=iK w 35 #[.int .i64 r.c,.int .i64 r.e,.int .i64 r.r];unfold cZ Wt at *
 by_cases hr:aS.Right l
 case neg=>
  rw[decide_eq_false hr] at HM;obtain⟨e1,e2,e3⟩:=aS.Ag (r:=r) (fun h=>hr h.1);rw[e1,e2,e3];clear e1 e2 e3 hr hs hlen HC;go_enter func196,ntmps196;go_wp2_with fail;refine cb (HM.out _ HK.out.b) HK ?_;exact ZU
 case pos=>
 rw[decide_eq_true hr] at HM;by_cases hok:aS.ok r
 case neg=>
  rw[decide_eq_false hok] at HC;obtain⟨e1,e2,e3⟩:=aS.Ag (l:=l) (r:=r) (fun h=>hok h.2);rw[e1,e2,e3];clear e1 e2 e3 hr hok hs hlen;go_enter func196,ntmps196;go_wp2_with fail;refine cb (HM.out _ HK.out.b) HK ?_;clear HK;intro _ HK;go_wp2_with refine zX (aB HK 0) ?_;refine cb (HC.out _) HK ?_;exact ZU
 case pos=>
 rw[decide_eq_true hok] at HC;obtain⟨hyes,hno⟩:=aS.jI hs.len r.c;have WH:Hid (∀(i:Nat) x,l[i]?=some x→x.c=r.c→aS.yY l r=11∧aS.CF l r=l∧aS.JU l r=false):=zH fun i x hx h=>aS.Er hr hok (hyes i x hx h)
 have iw:Hid ((∀(i:Nat) x,i<n→l[i]?=some x→¬x.c=r.c)→aS.yY l r=0∧aS.CF l r=l++[r]∧aS.JU l r=decide (n=0)):=zH fun h=>by
  have:=aS.RQ hr hok (hno h);rw[hlen] at this;exact this
 obtain⟨q,hq1,hq2⟩:∃q:Bool,decide (n=0)=q∧((n:Int)==0)=q:=⟨_,rfl,by
  by_cases h:n=0
  ·rw[decide_eq_true h];simpa using h
  ·rw[decide_eq_false h];simpa using h⟩
 rw[hq1] at iw;have HZ:=zH hq2;have h5:=aS.fG hr;rw[hlen] at h5;have gT:=zH hlen.symm;have lJ:Hid ((([]:List Rf)++l).length=n):=zH (by rw[aJ];exact hlen);have fB:Hid ((l++[r]).length=n+1):=zH (by rw[List.length_append,hlen];rfl);have xE:=fV (La:=aG) lJ (hB:=(by show n*24≤_;omega));have HG2:=fV (La:=aG) fB (hB:=(by show(n+1)*24≤_;omega));clear hyes hno hr hok hs hlen hq1 hq2;generalize aS.yY l r=X at *
 generalize aS.CF l r=res at *
 generalize aS.JU l r=H at *
 go_enter func196,ntmps196;go_wp2_with fail;refine cb (HM.out _ HK.out.b) HK ?_;clear HK;intro _ HK;go_wp2_with refine zX (aB HK 0) ?_;refine cb (HC.out _) HK ?_;clear HK;intro _ HK;clear HM HC;go_wp2_with fail;go_loopw [7] (fun vi wr=>∃k:Nat,k≤n∧vi=.int .i64 k∧Hid (∀(i:Nat) x,i<k→l[i]?=some x→¬x.c=r.c)∧Hid (Kn w.heap.size w wr [(w.heap.size,35,#[.int .i64 r.c,.int .i64 r.e,.int .i64 r.r])] [])) (fun vi _=>n-(intOf vi).toNat)
 case atStart=>exact⟨0,Nat.zero_le _,rfl,zH (fun i v hi=>by omega),HK⟩
 case round=>
  clear HK;obtain⟨k,hk,rfl,iA,HK⟩:=hrel;have hk1:(0:Int)≤(k:Int):=by omega
  by_cases hlt:k<n
  ·have hk2:(k:Int)<(n:Int):=by omega
   have hk3:k<9223372036854775807:=by omega
   obtain⟨x,hx,_⟩:=HS.out.get hlt;obtain⟨b,o,rfl,hat⟩:=HS.out.at (Nat.lt_of_le_of_lt (Nat.zero_le _) hlt);have HX:=zH (fun W hW=>hat W hW k x hx);have HH:=zH (WH.out k x hx)
   have nZ:Hid (¬x.c=r.c→∀(i:Nat) v,i<k+1→l[i]?=some v→¬v.c=r.c):=zH fun h i v hi hv=>by
    by_cases hik:i=k
    ·subst hik;rw[hx] at hv;injection hv with hv;subst hv;exact h
    ·exact iA.out i v (by omega) hv
   clear hat hx WH;go_wp2_with fail;by_cases he:x.c=r.c
   ·obtain⟨rfl,rfl,rfl⟩:=HH.out he
    have hb:(x.c==r.c)=true:=by simpa using he
    clear he HH nZ iw;refine zR HK.out.drew fun ah=>?_
    refine ak 0 rfl ?_;refine ak 1 rfl ?_;refine ak 2 rfl ?_ fun _ s=>dM (i:=k) hlt
    refine ak 3 rfl ?_;refine ak 4 rfl ?_ fun _ s=>nU (x:=x) (off:=o+k*3) (HX.out _ s.out.b)
    refine ak 5 rfl ?_;refine ak 6 rfl ?_ fun _ s=>fH s 0
    refine ak 7 rfl ?_;refine bW ?_;go_wp2_with fail;exact iQ results196 (hR:=⟨_,n,c,rfl,.inr ⟨rfl,rfl,rfl,rfl⟩,ah.out.b⟩)
   ·have hb:(x.c==r.c)=false:=by simpa using he
    exact aeC
  ·obtain rfl:k=n:=by omega
   obtain⟨rfl,rfl,rfl⟩:=iw.out iA.out;have hz:=HZ.out;clear iw WH;go_wp2_with fail;have aj:=zH HK.out.drew;refine zR HK.out.drew fun ah=>?_
   refine ak 1 rfl ?_;refine ak 3 rfl ?_ fun _ s=>aB s 0
   refine ak 6 rfl ?_;refine ak 7 rfl ?_;refine ak 8 rfl ?_;refine jr 0 4 rfl rfl (fun K hK=>?_) fun K hK=>?_
   refine kH aG aj ?_;clear aj;intro w2 g2 aj _;simp only[aO,aJ] at aj;have hs:=zH (aj.out.ay 0);refine bk hK hs fun ah=>?_
   clear hK K;refine jr 2 4 rfl rfl (fun K hK=>?_) fun K hK=>?_
   (first|refine aT aG aj 0 l (hn:=gT.out) (zH (let h:=HS.out.later aj.out.b;And.intro h.rd h.nl)) xE (N:=k) lJ ?_|refine aT aG aj 1 l (hn:=gT.out) (zH (let h:=HS.out.later aj.out.b;And.intro h.rd h.nl)) xE (N:=k) lJ ?_);clear aj;intro A4 c4 w4 aj;simp only[List.set,aJ] at aj;have hs:=zH (aj.out.ay 0)
   refine bk hK hs fun ah=>?_
   clear hK K;refine aC 4 rfl fun K hK=>?_
   refine dw aG (p:=r) aj ?_;clear aj;intro w5 g5 aj _;simp only[aO,aJ] at aj;have hs:=zH (aj.out.ay 0);refine bk hK hs fun ah=>?_
   clear hK K;refine aC 5 rfl fun K hK=>?_
   (first|refine aT aG aj 0 [r] (zH (aj.out.own 1 rfl).rd) HG2 (N:=k+1) fB ?_|refine aT aG aj 1 [r] (zH (aj.out.own 0 rfl).rd) HG2 (N:=k+1) fB ?_);clear aj;intro A6 c6 w6 aj;simp only[lS] at aj;have hs:=zH (aj.out.ay 0)
   refine bk hK hs fun ah=>?_
   clear hK K;refine ak 9 rfl ?_;refine ak 10 rfl ?_;refine ak 11 rfl ?_;refine bW ?_
   rotate_left
   refine dw aG (p:=r) aj ?_;clear aj;intro w5 g5 aj _;simp only[aO,aJ] at aj;have hs:=zH (aj.out.ay 0);refine bk hK hs fun ah=>?_
   clear hK K;refine aC 2 rfl fun K hK=>?_
   (first|refine aT aG aj 0 l (hn:=gT.out) (zH (let h:=HS.out.later aj.out.b;And.intro h.rd h.nl)) xE (N:=k) lJ ?_|refine aT aG aj 1 l (hn:=gT.out) (zH (let h:=HS.out.later aj.out.b;And.intro h.rd h.nl)) xE (N:=k) lJ ?_);clear aj;intro A4 c4 w4 aj;simp only[List.set,aJ] at aj;have hs:=zH (aj.out.ay 0)
   refine bk hK hs fun ah=>?_
   clear hK K;refine aC 5 rfl fun K hK=>?_
   (first|refine aT aG aj 0 [r] (zH (aj.out.own 1 rfl).rd) HG2 (N:=k+1) fB ?_|refine aT aG aj 1 [r] (zH (aj.out.own 0 rfl).rd) HG2 (N:=k+1) fB ?_);clear aj;intro A6 c6 w6 aj;simp only[lS] at aj;have hs:=zH (aj.out.ay 0)
   refine bk hK hs fun ah=>?_
   clear hK K;refine ak 9 rfl ?_;refine ak 10 rfl ?_;refine ak 11 rfl ?_;refine bW ?_
   rotate_left
   refine dw aG (p:=r) aj ?_;clear aj;intro w5 g5 aj _;simp only[aO,aJ] at aj;have hs:=zH (aj.out.ay 0);refine bk hK hs fun ah=>?_
   clear hK K;refine aC 0 rfl fun K hK=>?_
   refine kH aG aj ?_;clear aj;intro w2 g2 aj _;simp only[aO,aJ] at aj;have hs:=zH (aj.out.ay 0);refine bk hK hs fun ah=>?_
   clear hK K;refine aC 2 rfl fun K hK=>?_
   (first|refine aT aG aj 0 l (hn:=gT.out) (zH (let h:=HS.out.later aj.out.b;And.intro h.rd h.nl)) xE (N:=k) lJ ?_|refine aT aG aj 1 l (hn:=gT.out) (zH (let h:=HS.out.later aj.out.b;And.intro h.rd h.nl)) xE (N:=k) lJ ?_);clear aj;intro A4 c4 w4 aj;simp only[List.set,aJ] at aj;have hs:=zH (aj.out.ay 0)
   refine bk hK hs fun ah=>?_
   clear hK K;refine aC 5 rfl fun K hK=>?_
   (first|refine aT aG aj 0 [r] (zH (aj.out.own 1 rfl).rd) HG2 (N:=k+1) fB ?_|refine aT aG aj 1 [r] (zH (aj.out.own 0 rfl).rd) HG2 (N:=k+1) fB ?_);clear aj;intro A6 c6 w6 aj;simp only[lS] at aj;have hs:=zH (aj.out.ay 0)
   refine bk hK hs fun ah=>?_
   clear hK K;refine ak 9 rfl ?_;refine ak 10 rfl ?_;refine ak 11 rfl ?_;refine bW ?_
   rotate_left
   all_goals
    go_wp2_with fail
    first
     | exact iQ results196 (hR:=⟨A6,_,c6,rfl,.inl (aj.out.own 0 rfl),aj.out.b⟩)
     | exact iQ results196 (hR:=⟨A6,_,c6,rfl,.inl (aj.out.own 1 rfl),aj.out.b⟩)
theorem Kk(A:Option Addr)(c n:Nat)(l:List Rf)(r:Rf)(w:World)(hs:bJ aG rF w A n c l):
  Calls prog 197 #[.slice A n c,.agg #[.int .i64 r.c,.int .i64 r.e,.int .i64 r.r]] w (Wz A n c l (aS.Ci l r) (aS.EZ l r) (aS.Dy l r) (aS.zJ l r) w):=by
 have HM:=zH (fun W (hW:Below w.heap.size w W)=>lU A c n l W (hs.later hW));have pI:=zH (fun x W=>AJ x r W);have hlen:=hs.len;have HK:=iK w 35 #[.int .i64 r.c,.int .i64 r.e,.int .i64 r.r];unfold cZ Wz at *
 by_cases hr:aS.Right l
 case neg=>
  rw[decide_eq_false hr] at HM;obtain⟨e1,e2,e3,e4⟩:=aS.UN (r:=r) hr;rw[e1,e2,e3,e4];clear e1 e2 e3 e4 hr hs hlen pI;go_enter func197,ntmps197;go_wp2_with (refine aQ HK ?_;clear HK;intro _ g1 HK;simp only[aO,aJ] at HK);refine cb (HM.out _ HK.out.b) HK ?_;clear HK;intro _ HK;go_wp2_with (refine aW HK 1 ?_;clear HK;intro _ HK;simp only[lS] at HK);exact nG results197 (HK.out.blk 1 rfl) ⟨A,n,c,rfl,.inr ⟨rfl,rfl,rfl,rfl⟩,HK.out.b⟩
 case pos=>
 rw[decide_eq_true hr] at HM;by_cases h0:n=0
 ·subst h0
  obtain⟨e1,e2,e3,e4⟩:=aS.EY (r:=r) hr hlen;rw[e1,e2,e3,e4];clear e1 e2 e3 e4 hr hs hlen pI;go_enter func197,ntmps197;go_wp2_with (refine aQ HK ?_;clear HK;intro _ g1 HK;simp only[aO,aJ] at HK);refine cb (HM.out _ HK.out.b) HK ?_;clear HK;intro _ HK;go_wp2_with fail;refine zR HK.out.drew fun ah=>?_
  refine ak 0 rfl ?_;refine ak 1 rfl ?_;refine ak 2 rfl ?_;refine ak 3 rfl ?_;refine bF 4 rfl ?_;refine bF 5 rfl ?_;refine bF 6 rfl ?_;refine bF 7 rfl ?_;refine bF 8 rfl ?_;refine bF 9 rfl ?_;refine ak 10 rfl ?_;refine bW ?_;replace HK:=ah;clear ah;go_wp2_with (refine aW HK 1 ?_;clear HK;intro _ HK;simp only[lS] at HK);exact nG results197 (HK.out.blk 1 rfl) ⟨A,0,c,rfl,.inr ⟨rfl,rfl,rfl,rfl⟩,HK.out.b⟩
 ·have hpos:0<n:=by omega
  have hz:((n:Int)==0)=false:=by simpa using h0
  obtain⟨x,hx,_⟩:=hs.get hpos;have HD:=zH (hs.drop (lo:=1) hpos);have h5:=aS.fG hr;rw[hlen] at h5;have gT:=zH HD.out.len.symm;have lJ:Hid ((([]:List Rf)++l.drop 1).length=n-1):=zH (by rw[aJ];exact HD.out.len);have xE:=fV (La:=aG) lJ (hB:=(by show(n-1)*24≤_;omega));have HG:Hid (1<n→∃y,l[1]?=some y):=zH fun h=>Lay.fI (by rw[hlen];exact h)
  obtain⟨b,o,rfl,hat⟩:=hs.at hpos;have HX:=zH (fun W hW=>hat W hW 0 x hx);have Co:=zH (fun y hy W hW=>hat W hW 1 y hy);replace pI:=zH (fun W=>pI.out x W);by_cases hm:aS.mine x r
  case neg=>
   obtain⟨e1,e2,e3,e4⟩:=aS.Bg hr hx hm;rw[e1,e2,e3,e4];rw[decide_eq_false hm] at pI;clear e1 e2 e3 e4 hr hs hlen h0 hat hx hm HD gT lJ xE HG Co;go_enter func197,ntmps197;go_wp2_with (refine aQ HK ?_;clear HK;intro _ g1 HK;simp only[aO,aJ] at HK);refine cb (HM.out _ HK.out.b) HK ?_;clear HK;intro _ HK;go_wp2_with fail;refine zR HK.out.drew fun ah=>?_
   refine ak 0 rfl ?_;refine ak 1 rfl ?_;refine ak 2 rfl ?_;refine ak 3 rfl ?_;refine ak 4 rfl ?_;refine ak 5 rfl ?_ fun _ s=>dM (i:=0) hpos
   refine ak 6 rfl ?_ fun _ s=>bV (x:=x) (off:=o+0*3) (HX.out _ s.out.b)
   refine ak 7 rfl ?_ fun _ s=>aB s 0
   refine aC 8 rfl fun K hK=>?_
   go_simp;go_at_call 194;refine(pI.out _).mono ?_;rintro e w5 ⟨rfl,b5⟩;have hs:=zH (ah.out.call b5);clear b5;refine bk hK hs fun ah=>?_
   clear hK K;refine ak 9 rfl ?_;refine ak 10 rfl ?_;refine bW ?_;replace HK:=ah;clear ah;go_wp2_with (refine aW HK 1 ?_;clear HK;intro _ HK;simp only[lS] at HK);exact nG results197 (HK.out.blk 1 rfl) ⟨_,n,c,rfl,.inr ⟨rfl,rfl,rfl,rfl⟩,HK.out.b⟩
  case pos=>
  rw[decide_eq_true hm] at pI;by_cases h1:n=1
  ·subst h1
   obtain⟨e1,e2,e3,e4⟩:=aS.MX hr hx hm hlen;rw[e1,e2,e3,e4];clear e1 e2 e3 e4 hr hs hlen h0 hat hx hm HD gT lJ xE HG Co;go_enter func197,ntmps197;go_wp2_with (refine aQ HK ?_;clear HK;intro _ g1 HK;simp only[aO,aJ] at HK);refine cb (HM.out _ HK.out.b) HK ?_;clear HK;intro _ HK;go_wp2_with fail;refine zR HK.out.drew fun ah=>?_
   refine ak 0 rfl ?_;refine ak 1 rfl ?_;refine ak 2 rfl ?_;refine ak 3 rfl ?_;refine ak 4 rfl ?_;refine ak 5 rfl ?_ fun _ s=>dM (i:=0) hpos
   refine ak 6 rfl ?_ fun _ s=>bV (x:=x) (off:=o+0*3) (HX.out _ s.out.b)
   refine ak 7 rfl ?_ fun _ s=>aB s 0
   refine aC 8 rfl fun K hK=>?_
   go_simp;go_at_call 194;refine(pI.out _).mono ?_;rintro e w5 ⟨rfl,b5⟩;have hs:=zH (ah.out.call b5);clear b5;refine bk hK hs fun ah=>?_
   clear hK K;refine ak 9 rfl ?_;refine ak 10 rfl ?_;refine bW ?_;replace HK:=ah;clear ah;go_wp2_with (refine aW HK 1 ?_;clear HK;intro _ HK;simp only[lS] at HK);exact nG results197 (HK.out.blk 1 rfl) ⟨_,_,_,rfl,.inl (Lay.Own.none _ _),HK.out.b⟩
  ·have hn1:1<n:=by omega
   have hz1:((n:Int)==1)=false:=by simp;omega
   obtain⟨y,hy⟩:=HG.out hn1;obtain⟨e1,e2,e3,e4⟩:=aS.MW hr hx hm hy;rw[e1,e2,e3,e4];replace Co:=zH (Co.out y hy);clear e1 e2 e3 e4 hr hs hlen h0 h1 hat hx hy hm HG;go_enter func197,ntmps197;go_wp2_with (refine aQ HK ?_;clear HK;intro _ g1 HK;simp only[aO,aJ] at HK);refine cb (HM.out _ HK.out.b) HK ?_;clear HK;intro _ HK;go_wp2_with fail;refine zR HK.out.drew fun ah=>?_
   refine ak 0 rfl ?_;refine ak 1 rfl ?_;refine ak 2 rfl ?_;refine ak 3 rfl ?_;refine ak 4 rfl ?_;refine ak 5 rfl ?_ fun _ s=>dM (i:=0) hpos
   refine ak 6 rfl ?_ fun _ s=>bV (x:=x) (off:=o+0*3) (HX.out _ s.out.b)
   refine ak 7 rfl ?_ fun _ s=>aB s 0
   refine aC 8 rfl fun K hK=>?_
   go_simp;go_at_call 194;refine(pI.out _).mono ?_;rintro e w5 ⟨rfl,b5⟩;have hs:=zH (ah.out.call b5);clear b5;refine bk hK hs fun ah=>?_
   clear hK K;refine ak 9 rfl ?_;refine ak 10 rfl ?_;refine bW ?_;replace HK:=ah;clear ah HM pI;go_wp2_with fail;have aj:=zH HK.out.drew;refine wp_region_held_drew (S:=(fun W=>Hid (Below w.heap.size w W))) (by kernel_rfl) ?_ fun ah=>?_
   ·(try dsimp only);exact zH aj.out.b
   refine ak 1 rfl ?_;refine ak 2 rfl ?_ fun _ s=>Bl (lo:=1) hpos
   refine ak 4 rfl ?_;refine ak 5 rfl ?_ fun _ s=>dM (i:=1) hn1
   refine ak 6 rfl ?_ fun _ s=>bV (x:=y) (off:=o+1*3) (Co.out _ s.out)
   refine aC 0 rfl fun K hK=>?_
   refine kH aG aj ?_;clear aj;intro w2 g2 aj _;simp only[aO,aJ] at aj;have hs:=zH aj.out.b;refine bk hK hs fun ah=>?_
   clear hK K;refine aC 3 rfl fun K hK=>?_
   refine aT aG aj 0 (l.drop 1) (hn:=gT.out) (zH (let h:=HD.out.later aj.out.b;And.intro h.rd h.nl)) xE (N:=n-1) lJ ?_;clear aj;intro A4 c4 w4 aj;simp only[List.set,aJ] at aj;have hs:=zH aj.out.b;refine bk hK hs fun ah=>?_
   clear hK K;refine ak 7 rfl ?_;refine aC 8 rfl fun K hK=>?_
   refine tQ aj 1 ?_;clear aj;intro wq aj;simp only[lS] at aj;have hs:=zH aj.out.b;refine bk hK hs fun ah=>?_
   clear hK K;refine ak 9 rfl ?_;refine ak 10 rfl ?_;refine bW ?_
   all_goals
    go_wp2_with fail;exact nG results197 (aj.out.blk 1 rfl) ⟨A4,_,c4,rfl,.inl (aj.out.own 0 rfl),aj.out.b⟩
theorem Km(A:Option Addr)(c n:Nat)(l:List Rf)(r:Rf)(w:World)(hs:bJ aG rF w A n c l):
  Calls prog 130 #[.slice A n c,.agg #[.int .i64 r.c,.int .i64 r.e,.int .i64 r.r]] w (WA A n c l (aS.pF l r) (aS.zO l r) (aS.uP l r) w):=by
 have HM:=zH (fun W (hW:Below w.heap.size w W)=>lU A c n l W (hs.later hW));have pI:=zH (fun x W=>AJ x r W);have hlen:=hs.len;have HK:=iK w 35 #[.int .i64 r.c,.int .i64 r.e,.int .i64 r.r];unfold cZ WA at *
 by_cases hr:aS.Right l
 case neg=>
  rw[decide_eq_false hr] at HM;obtain⟨e1,e2,e3⟩:=aS.Vq (r:=r) hr;rw[e1,e2,e3];clear e1 e2 e3 hr hs hlen pI;go_enter func130,ntmps130;go_wp2_with (refine aQ HK ?_;clear HK;intro _ g1 HK;simp only[aO,aJ] at HK);refine cb (HM.out _ HK.out.b) HK ?_;clear HK;intro _ HK;go_wp2_with (refine aW HK 1 ?_;clear HK;intro _ HK;simp only[lS] at HK);exact qK results130 (HK.out.blk 1 rfl) ⟨A,n,c,rfl,.inr ⟨rfl,rfl,rfl,rfl⟩,HK.out.b⟩
 case pos=>
 rw[decide_eq_true hr] at HM;have HS:=zH hs;have h5:=aS.fG hr;rw[hlen] at h5;have jo:Hid (l.take n=l):=zH (by rw[← hlen];exact List.take_length);have HTl:Hid (∀k,k≤n→(aS.wo (l.take k) r).length≤k):=zH fun k hk=>Nat.le_trans (aS.vU _ _) (by rw[List.length_take];omega)
 have gP:Hid ((aS.wo l r).length=0→aS.pF l r=aS.wo l r∧aS.zO l r=aS.zero∧aS.uP l r=false):=zH (aS.zN hr);have uS:Hid (∀x y,(aS.wo l r)[0]?=some x→l[0]?=some y→x=y→aS.pF l r=aS.wo l r∧aS.zO l r=aS.zero∧aS.uP l r=false):=zH fun x y=>aS.Fg hr
 have QV:Hid (∀x y,(aS.wo l r)[0]?=some x→l[0]?=some y→¬x=y→aS.pF l r=aS.wo l r∧aS.zO l r=x∧aS.uP l r=true):=zH fun x y=>aS.Le hr
 have QM:Hid (Fits aG rF (aS.wo l r)):=zH (hs.fit.sub (fun x hx=>(List.mem_filter.1 hx).1) (aS.vU l r));clear hs hr hlen;generalize aS.pF l r=dl at *
 generalize aS.zO l r=dn at *
 generalize aS.uP l r=ds at *
 go_enter func130,ntmps130;go_wp2_with (refine aQ HK ?_;clear HK;intro _ g1 HK;simp only[aO,aJ] at HK);refine cb (HM.out _ HK.out.b) HK ?_;clear HK;intro _ HK;replace HK:=zH (HK.out.wE aG);simp only[aJ] at HK;go_wp2_with fail;go_loopw [7,8] (fun vs vi wr=>∃(k:Nat) (A1:Option Addr) (c1 N:Nat),k≤n∧vs=.slice A1 N c1∧vi=.int .i64 k∧Hid ((aS.wo (l.take k) r).length=N)∧Hid (Kn w.heap.size w wr [(w.heap.size,35,#[.int .i64 r.c,.int .i64 r.e,.int .i64 r.r]),(g1,35,#[.int .i64 0,.int .i64 0,.int .i64 0])] [row aG (.slice A1 N c1) (aS.wo (l.take k) r)])) (fun _ vi _=>n-(intOf vi).toNat)
 case atStart=>exact⟨0,none,0,0,Nat.zero_le _,rfl,rfl,zH rfl,HK⟩
 case round=>
  clear HK;obtain⟨k,A1,c1,N,hk,rfl,rfl,hN,HK⟩:=hrel;have hk1:(0:Int)≤(k:Int):=by omega
  by_cases hlt:k<n
  ·have hk2:(k:Int)<(n:Int):=by omega
   have hk3:k<9223372036854775807:=by omega
   obtain⟨x,hx,_⟩:=HS.out.get hlt;obtain⟨b,o,rfl,hat⟩:=HS.out.at (Nat.lt_of_le_of_lt (Nat.zero_le _) hlt);have HX:=zH (fun W hW=>hat W hW k x hx);have hNk:N≤k:=by rw[← hN.out];exact HTl.out k hk
   replace pI:=zH (fun W=>pI.out x W);by_cases hm:aS.mine x r
   ·have HE:=zH (aS.oD hx hm)
    rw[decide_eq_true hm] at pI;clear hat hx hm gP uS QV;exact aeJ
   ·have HE:=zH (aS.qJ hx hm)
    rw[decide_eq_false hm] at pI;have fB:Hid ((aS.wo (l.take k) r++[x]).length=N+1):=zH (by rw[List.length_append,hN.out];rfl);have HL2:=fV (La:=aG) fB (hB:=(by show(N+1)*24≤_;omega));clear hat hx hm gP uS QV;exact aeU
  ·obtain rfl:k=n:=by omega
   rw[jo.out] at HK hN;clear pI HM HTl;by_cases h0:N=0
   ·subst h0
    obtain⟨rfl,rfl,rfl⟩:=gP.out hN.out;clear gP uS QV;go_wp2_with fail;refine zR HK.out.drew fun ah=>?_
    refine ak 0 rfl ?_;refine ak 1 rfl ?_;refine ak 2 rfl ?_;refine ak 3 rfl ?_;refine bF 4 rfl ?_;refine bF 5 rfl ?_;refine bF 6 rfl ?_;refine bF 7 rfl ?_;refine bF 8 rfl ?_;refine bF 9 rfl ?_;refine bF 10 rfl ?_;refine ak 11 rfl ?_;refine bW ?_;replace HK:=ah;clear ah;go_wp2_with (refine aW HK 1 ?_;clear HK;intro _ HK;simp only[lS] at HK);exact qK results130 (HK.out.blk 1 rfl) ⟨A1,0,c1,rfl,.inl (HK.out.own 0 rfl),HK.out.b⟩
   ·have hN0:0<N:=by omega
    have hz:((N:Int)==0)=false:=by simpa using h0
    obtain⟨x,hx⟩:=Lay.fI (l:=aS.wo l r) (k:=0) (by rw[hN.out];exact hN0);obtain⟨y,hy⟩:=aS.Ad hx
    have hn0:0<k:=by
     have h1:=(List.getElem?_eq_some_iff.1 hy).1;have h2:=HS.out.len;omega
    obtain⟨b,o,rfl,hat⟩:=HS.out.at hn0;have HY:=zH (fun W hW=>hat W hW 0 y hy);obtain⟨b2,o2,rfl,_⟩:=(bJ.own (HK.out.own 0 rfl) QM.out).at hN0;have HXx:=zH hx;by_cases he:x=y
    ·obtain⟨rfl,rfl,rfl⟩:=uS.out x y hx hy he
     have HEq:=zH (show decide (x=y)=true from decide_eq_true he);clear gP uS QV hat hx hy he h0;go_wp2_with fail;refine zR HK.out.drew fun ah=>?_
     refine ak 0 rfl ?_;refine ak 1 rfl ?_;refine ak 2 rfl ?_;refine ak 3 rfl ?_;refine ak 4 rfl ?_;refine ak 5 rfl ?_ fun _ s=>dM (i:=0) hN0
     refine ak 6 rfl ?_ fun _ s=>bV (x:=x) (off:=o2+0*3) ((bJ.own (s.out.own 0 rfl) QM.out).cells HXx.out)
     refine ak 7 rfl ?_;refine ak 8 rfl ?_ fun _ s=>dM (i:=0) hn0
     refine ak 9 rfl ?_ fun _ s=>bV (x:=y) (off:=o+0*3) (HY.out _ s.out.b)
     refine ak 10 rfl ?_ fun _ s=>wQ (v:=x) (u:=y) HEq.out
     refine ak 11 rfl ?_;refine bW ?_;replace HK:=ah;clear ah;go_wp2_with (refine aW HK 1 ?_;clear HK;intro _ HK;simp only[lS] at HK);exact qK results130 (HK.out.blk 1 rfl) ⟨_,_,c1,rfl,.inl (HK.out.own 0 rfl),HK.out.b⟩
    ·obtain⟨rfl,d2,rfl⟩:=QV.out x y hx hy he
     replace d2:=d2.symm;subst d2;have HEq:=zH (show decide (x=y)=false from decide_eq_false he);clear gP uS QV hat hx hy he h0;go_wp2_with fail;refine zR HK.out.drew fun ah=>?_
     refine ak 0 rfl ?_;refine ak 1 rfl ?_;refine ak 2 rfl ?_;refine ak 3 rfl ?_;refine ak 4 rfl ?_;refine ak 5 rfl ?_ fun _ s=>dM (i:=0) hN0
     refine ak 6 rfl ?_ fun _ s=>bV (x:=x) (off:=o2+0*3) ((bJ.own (s.out.own 0 rfl) QM.out).cells HXx.out)
     refine ak 7 rfl ?_;refine ak 8 rfl ?_ fun _ s=>dM (i:=0) hn0
     refine ak 9 rfl ?_ fun _ s=>bV (x:=y) (off:=o+0*3) (HY.out _ s.out.b)
     refine ak 10 rfl ?_ fun _ s=>wQ (v:=x) (u:=y) HEq.out
     refine ak 11 rfl ?_;refine bW ?_;replace HK:=ah;clear ah;go_wp2_with fail;have aj:=zH HK.out.drew;refine zR (aj.out.aA 0) fun ah=>?_
     refine ak 0 rfl ?_;refine ak 1 rfl ?_;refine ak 2 rfl ?_ fun _ s=>dM (i:=0) hN0
     refine ak 3 rfl ?_ fun _ s=>bV (x:=x) (off:=o2+0*3) ((bJ.own (s.out.own 0 rfl) QM.out).cells HXx.out)
     refine ak 4 rfl ?_;refine aC 5 rfl fun K hK=>?_
     refine tQ aj 1 ?_;clear aj;intro wq aj;simp only[lS] at aj;have hs:=zH (aj.out.aA 0);refine bk hK hs fun ah=>?_
     clear hK K;refine ak 6 rfl ?_;refine bW ?_
     all_goals
      go_wp2_with fail;exact qK results130 (aj.out.blk 1 rfl) ⟨_,_,c1,rfl,.inl (aj.out.own 0 rfl),aj.out.b⟩
end
end Go.Proofs.YtieoeendnccafaaGreat
