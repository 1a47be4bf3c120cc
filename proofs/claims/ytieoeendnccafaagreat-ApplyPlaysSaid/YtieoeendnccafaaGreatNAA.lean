/- What value.named, value.Check and the document's own Check return, for every value. No condition but those named. -/
import Derived.Test.YtieoeendnccafaaGreatNTK
set_option linter.unusedSimpArgs false
set_option linter.unusedVariables false
set_option maxRecDepth 100000
set_option maxHeartbeats 25600000
open Go.RowKit
namespace Go.Proofs.YtieoeendnccafaaGreat
open _root_.Go.Proofs.Tryz
namespace Num
def kJ:Nat:=9223372036854775808
def inf:Nat:=9218868437227405312
def nan:Nat:=9221120237041090560
def M(b:Nat):Nat:=if inf<b%kJ then nan else b
def rank(b:Nat):Nat:=if M b<kJ then M b+kJ else 18446744073709551615-M b
theorem qA{b:Nat}(h:b<18446744073709551616):M b<18446744073709551616:=by unfold M nan;split<;>omega
theorem Ed{b:Nat}(h:inf<b%kJ):M b=nan:=if_pos h
theorem xA{b:Nat}(h:¬inf<b%kJ):M b=b:=if_neg h
theorem M_M(b:Nat):M (M b)=M b:=by
 by_cases h:inf<b%kJ
 ·rw[Ed h];rfl
 ·rw[xA h,xA h]
theorem Kz(b:Nat):rank (M b)=rank b:=by unfold rank;rw[M_M]
theorem Gv{a b:Nat}(ha:a<18446744073709551616)(hb:b<18446744073709551616)(h:rank a=rank b):M a=M b:=by
 have h1:=qA ha;have h2:=qA hb;unfold rank kJ at h
 split at h<;>split at h<;>omega
def cmp(a b:Nat):Int:=if rank a<rank b then -1 else if rank b<rank a then 1 else 0
theorem IL(a b:Nat):cmp a b = -cmp b a:=by
 unfold cmp;split<;>split<;>(try split)<;>(try split)<;>omega
theorem Bw{a b:Nat}:cmp a b≤0↔rank a≤rank b:=by
 unfold cmp;split
 ·constructor<;>intro<;>omega
 ·split
  ·constructor<;>intro<;>omega
  ·constructor<;>intro<;>omega
/- The bits, as the code asks them. -/
theorem Vt(b:Nat)(h:b<18446744073709551616):bits .andNot .u64 (b:Int) 9223372036854775808=((b%kJ:Nat):Int):=by
 have h1:=u64_andNot_nat b 9223372036854775808 h (by decide);have h2:b &&& (18446744073709551615-9223372036854775808)=b%kJ:=Nat.and_two_pow_sub_one_eq_mod b 63;rw[h2] at h1;exact h1
theorem VZ(b:Nat)(h:b<18446744073709551616):bits .and .u64 (b:Int) 9223372036854775808=((b / kJ%2*kJ:Nat):Int):=by
 have h1:=u64_and_nat b 9223372036854775808 h (by decide);have h2:b &&& 9223372036854775808=b / kJ%2*kJ:=nat_bit 63 b;rw[h2] at h1;exact h1
theorem Mr(b:Nat)(h:b<kJ):bits .or .u64 (b:Int) 9223372036854775808=((b+kJ:Nat):Int):=by
 have h1:=u64_or_nat b 9223372036854775808 (by unfold kJ at h;omega) (by decide)
 have h2:b ||| 9223372036854775808=b+kJ:=by
  rw[Nat.or_comm,nat_join 63 9223372036854775808 b (by decide) h];unfold kJ;omega
 rw[h2] at h1;exact h1
theorem Gd(b:Nat)(h:b<18446744073709551616):bits .xor .u64 18446744073709551615 (b:Int)=((18446744073709551615-b:Nat):Int):=by
 have h1:=u64_xor_nat 18446744073709551615 b (by decide) h;have h3:=congrArg BitVec.toNat (BitVec.allOnes_xor (x:=BitVec.ofNat 64 b));rw[BitVec.toNat_xor,BitVec.toNat_not,BitVec.toNat_ofNat,Nat.mod_eq_of_lt (by omega),BitVec.toNat_allOnes] at h3;have h4:18446744073709551615 ^^^ b=18446744073709551615-b:=h3;rw[h4] at h1;exact h1
theorem Wd(b:Nat)(h:b<18446744073709551616):bits .and .u64 (b:Int) 4503599627370495=((b%4503599627370496:Nat):Int):=by
 have h1:=u64_and_nat b 4503599627370495 h (by decide);have h2:b &&& 4503599627370495=b%4503599627370496:=Nat.and_two_pow_sub_one_eq_mod b 52;rw[h2] at h1;exact h1
theorem YR(b:Nat)(h:b<18446744073709551616):bits .and .u64 (b:Int) 9218868437227405312=((b / 4503599627370496%2048*4503599627370496:Nat):Int):=by
 have h1:=u64_and_nat b 9218868437227405312 h (by decide)
 have h2:b &&& 9218868437227405312=b / 4503599627370496%2048*4503599627370496:=by
  have e1:b / 4503599627370496%2048*4503599627370496=((b >>> 52)%2 ^ 11) <<< 52:=by
   rw[Nat.shiftLeft_eq,Nat.shiftRight_eq_div_pow]
  have e2:9218868437227405312=(2 ^ 11-1) <<< 52:=by decide
  rw[e1,e2];apply Nat.eq_of_testBit_eq;intro j;rw[Nat.testBit_and,Nat.testBit_shiftLeft,Nat.testBit_shiftLeft,Nat.testBit_mod_two_pow,Nat.testBit_shiftRight,Nat.testBit_two_pow_sub_one];by_cases hj:52≤j
  ·have e3:52+(j-52)=j:=by omega
   rw[e3];simp only[ge_iff_le,hj,decide_true,Bool.true_and];exact Bool.and_comm _ _
  ·simp[hj]
 rw[h2] at h1;exact h1
theorem TR(b:Nat):(b / 4503599627370496%2048*4503599627370496=9218868437227405312∧b%4503599627370496≠0)↔inf<b%kJ:=by
 unfold inf kJ;omega
/- Floats. -/
open Ieee
theorem BQ:double.binade=4503599627370496:=by decide +kernel
theorem NQ:double.infRung=inf:=by decide +kernel
theorem abe:double.signWeight=kJ:=by decide +kernel
theorem FN:double.leastPlace = -1074:=by decide +kernel
def rd(neg:Bool)(rung:Nat):Datum:=
 if rung<4503599627370496 then .number neg rung (-1074)
 else if rung<inf then .number neg (4503599627370496+rung%4503599627370496) (-1074+(rung / 4503599627370496-1:Nat))
 else if rung=inf then .infinity neg
 else .nan neg (rung-inf)
def isNeg(b:Nat):Bool:=b / kJ%2==1
theorem zx(b:Nat):double.read b=rd (isNeg b) (b%kJ):=by
 unfold Format.read rd isNeg;rw[BQ,NQ,abe,FN]
theorem Tc{b:Nat}(h:inf<b%kJ):∃s t,double.read b=.nan s t:=by
 rw[zx];unfold rd;rw[if_neg (by unfold inf at h;omega),if_neg (by omega),if_neg (by omega)];exact⟨_,_,rfl⟩
theorem abU{b:Nat}(h:b%kJ=inf):double.read b=.infinity (isNeg b):=by
 rw[zx];unfold rd;rw[if_neg (by rw[h];decide),if_neg (by omega),if_pos h]
theorem EL(s:Bool){p:Int}:double.nearest s 0 p=double.word s 0:=by unfold Format.nearest;rw[if_pos rfl]
theorem XY{n k:Nat}(h1:2 ^ k≤n)(h2:n<2 ^ (k+1)):n.log2=k:=by
 have hn:n≠0:=by have:=Nat.two_pow_pos k;omega
 exact(Nat.log2_eq_iff hn).2 ⟨h1,h2⟩
theorem EM(s:Bool){m:Nat}{e:Nat}(h1:4503599627370496≤m)(h2:m<9007199254740992):
  double.nearest s (m <<< e) (-1074)=double.word s (min (e*4503599627370496+m) inf):=by
 have hp:=Nat.two_pow_pos e
 have acU:(m <<< e).log2=52+e:=by
  refine XY ?_ ?_
  ·rw[Nat.shiftLeft_eq,Nat.pow_add];exact Nat.mul_le_mul_right _ h1
  ·rw[Nat.shiftLeft_eq,show 52+e+1=53+e from by omega,Nat.pow_add];exact Nat.mul_lt_mul_of_pos_right h2 hp
 have hne:¬m <<< e=0:=by
  rw[Nat.shiftLeft_eq];intro h
  rcases Nat.mul_eq_zero.1 h with h|h<;>omega
 unfold Format.nearest;rw[if_neg hne,acU,FN,NQ,BQ];have hf:double.fractionBits=52:=rfl;rw[hf];have hmax:max ((-1074:Int)+((52+e:Nat):Int)-((52:Nat):Int)) (-1074) = -1074+e:=by omega
 simp only[hmax];have a1:((-1074:Int)-(-1074+(e:Int))).toNat=0:=by omega
 have a2:((-1074+(e:Int))-(-1074)).toNat=e:=by omega
 rw[a1,a2]
 have hcut:Toward.even.cut s (m <<< e <<< 0) e=m:=by
  unfold Toward.cut
  have g:(1 <<< min e ((m <<< e <<< 0).log2+2))=2 ^ e:=by
   rw[Nat.shiftLeft_zero,acU,Nat.min_eq_left (by omega),Nat.shiftLeft_eq,Nat.one_mul]
  simp only[g];rw[Nat.shiftLeft_zero,Nat.shiftLeft_eq,Nat.mul_div_cancel _ hp,Nat.mul_mod_left];have c1:decide (2 ^ e<2*0)=false:=by simp
  have c2:(2 ^ e==2*0)=false:=by rw[beq_eq_false_iff_ne];omega
  rw[c1,c2];rfl
 rw[hcut]
theorem GN(s:Bool)(m:Nat)(h0:m≠0)(h2:m<4503599627370496):
  double.nearest s m (-1074)=double.word s m:=by
 have acU:m.log2<52:=(Nat.log2_lt h0).2 h2;unfold Format.nearest;rw[if_neg h0,FN,NQ,BQ];have hf:double.fractionBits=52:=rfl;rw[hf];have hmax:max ((-1074:Int)+(m.log2:Int)-((52:Nat):Int)) (-1074) = -1074:=by omega
 simp only[hmax];have a1:((-1074:Int)-(-1074)).toNat=0:=by decide
 rw[a1]
 have hcut:Toward.even.cut s (m <<< 0) 0=m:=by
  unfold Toward.cut;have g:(1 <<< min 0 ((m <<< 0).log2+2))=1:=by rw[Nat.zero_min];rfl
  simp only[g];rw[Nat.shiftLeft_zero,Nat.div_one,Nat.mod_one]
  rfl
 rw[hcut,Nat.zero_mul,Nat.zero_add,Nat.min_eq_left (by unfold inf;omega)]
theorem abV{rung:Nat}(h:rung<inf):∃m i,-1074≤i∧(∀s,rd s rung=.number s m i)∧∀s,double.nearest s (m <<< (i-(-1074)).toNat) (-1074)=double.word s rung:=by
 by_cases hs:rung<4503599627370496
 ·refine⟨rung,-1074,by omega,fun s=>by unfold rd;rw[if_pos hs],fun s=>?_⟩
  have a1:((-1074:Int)-(-1074)).toNat=0:=by decide
  rw[a1,Nat.shiftLeft_zero];by_cases h0:rung=0
  ·subst h0;exact EL s
  ·exact GN s rung h0 hs
 ·refine⟨4503599627370496+rung%4503599627370496,-1074+(rung / 4503599627370496-1:Nat),by omega,fun s=>by unfold rd;rw[if_neg hs,if_pos h],fun s=>?_⟩
  have a1:((-1074+((rung / 4503599627370496-1:Nat):Int))-(-1074)).toNat=rung / 4503599627370496-1:=by omega
  rw[a1,EM s (by omega) (by omega)]
  congr 1
  rw[Nat.min_eq_left (by unfold inf at *;omega)];omega
theorem Xp(s:Bool)(r:Nat):double.word s r=if s then kJ+r else r:=by unfold Format.word;rw[abe]
theorem Cy{b:Nat}(h:b<18446744073709551616):double.word (isNeg b) (b%kJ)=b:=by
 rw[Xp];unfold isNeg kJ
 split<;>rename_i hb<;>simp only[beq_iff_eq] at hb<;>omega
def S(u v:Nat):Nat:=match double.add u v with
 | some r=>M r
 | none=>nan
def Wu(u v r:Nat):Prop:=double.add u v=some r∨(double.add u v=none∧inf<r%kJ)
theorem Wu.eq{u v r:Nat}(h:Wu u v r):M r=S u v:=by
 unfold S
 rcases h with h|⟨h,h2⟩
 ·rw[h]
 ·rw[h,Ed h2]
theorem aaP(b:Nat):(inf<M b%kJ)↔inf<b%kJ:=by
 by_cases h:inf<b%kJ
 ·rw[Ed h];exact⟨fun _=>h,fun _=>by decide⟩
 ·rw[xA h]
theorem Ec{u v:Nat}(h:inf<u%kJ):double.add u v=none:=by
 obtain⟨s,t,h1⟩:=Tc h;unfold Format.add;rw[h1];rfl
theorem yC{u v:Nat}(h:inf<v%kJ):double.add u v=none:=by
 obtain⟨s,t,h1⟩:=Tc h;unfold Format.add;rw[h1];cases double.read u<;>rfl
theorem S_M(a b:Nat):S (M a) (M b)=S a b:=by
 by_cases ha:inf<a%kJ
 ·unfold S;rw[Ec ha,Ec ((aaP a).2 ha)]
 ·by_cases hb:inf<b%kJ
  ·unfold S;rw[yC hb,yC ((aaP b).2 hb)]
  ·rw[xA ha,xA hb]
theorem RX(x y:Datum):x.sum y=y.sum x:=by
 cases x<;>cases y<;>try rfl
 ·rename_i s m i t n j
  unfold Datum.sum;have e1:min i j=min j i:=Int.min_comm _ _;simp only[e1];have e2:signed s m (i-min j i).toNat+signed t n (j-min j i).toNat=signed t n (j-min j i).toNat+signed s m (i-min j i).toNat:=Int.add_comm _ _;simp only[e2,Bool.and_comm s t]
 ·rename_i s t
  show(if s=t then some (Datum.infinity s) else none)=(if t=s then some (Datum.infinity t) else none)
  by_cases h:s=t
  ·subst h;rfl
  ·rw[if_neg h,if_neg (fun e=>h e.symm)]
theorem Wp(a b:Nat):S a b=S b a:=by unfold S Format.add;rw[RX]
theorem agf(a:Nat):S a nan=nan:=by unfold S;rw[yC (by decide)]
theorem NW(s:Bool):double.write (.infinity s)=double.word s inf:=by show double.word s double.infRung=_;rw[NQ]
theorem Gq{b:Nat}(h:b%kJ<inf):∃m i,-1074≤i∧double.read b=.number (isNeg b) m i∧(∀c,c%kJ=b%kJ→double.read c=.number (isNeg c) m i)∧∀s,double.nearest s (m <<< (i-(-1074)).toNat) (-1074)=double.word s (b%kJ):=by
 obtain⟨m,i,hi,hr,hn⟩:=abV h;exact⟨m,i,hi,by rw[zx,hr],fun c hc=>by rw[zx,hc,hr],hn⟩
theorem Ym{a b:Nat}(h:a<18446744073709551616)(hi:a%kJ=inf)(hb:b%kJ<inf):S a b=a:=by
 have h1:double.add a b=some a:=by
  obtain⟨m,i,-,hr,-⟩:=Gq hb;unfold Format.add;rw[abU hi,hr]
  show Option.map double.write (some (Datum.infinity (isNeg a)))=_
  rw[Option.map_some,NW,← hi,Cy h]
 unfold S;rw[h1];exact xA (by omega)
theorem Ca:double.read kJ=.number true 0 (-1074):=by decide +kernel
theorem UZ{a:Nat}(h:a<18446744073709551616)(ha:a%kJ<inf):S a kJ=a:=by
 have h1:double.add a kJ=some a:=by
  obtain⟨m,i,hi,hr,-,hn⟩:=Gq ha;have hm:min i (-1074) = -1074:=by omega
  unfold Format.add;rw[hr,Ca];obtain⟨V,hV⟩:∃V,V=m <<< (i-(-1074)).toNat:=⟨_,rfl⟩
  have ht:signed (isNeg a) m (i-min i (-1074)).toNat+signed true 0 ((-1074)-min i (-1074)).toNat=if isNeg a then -(V:Int) else (V:Int):=by
   unfold signed;rw[hm,← hV];cases isNeg a<;>simp
  show Option.map double.write (some (.number (if signed (isNeg a) m (i-min i (-1074)).toNat+signed true 0 ((-1074)-min i (-1074)).toNat=0 then isNeg a&&true else decide (signed (isNeg a) m (i-min i (-1074)).toNat+signed true 0 ((-1074)-min i (-1074)).toNat<0)) (signed (isNeg a) m (i-min i (-1074)).toNat+signed true 0 ((-1074)-min i (-1074)).toNat).natAbs (min i (-1074))))=_
  rw[ht,hm,Option.map_some]
  show some (double.nearest _ _ _)=_
  have hs:(if (if isNeg a then -(V:Int) else (V:Int))=0 then isNeg a&&true else decide ((if isNeg a then -(V:Int) else (V:Int))<0))=isNeg a:=by
   cases isNeg a
   ·simp
   ·by_cases hz:V=0
    ·simp[hz]
    ·simp only[if_true];rw[if_neg (by omega)];exact decide_eq_true (by omega)
  have ha2:(if isNeg a then -(V:Int) else (V:Int)).natAbs=V:=by cases isNeg a<;>simp
  rw[hs,ha2,hV,hn,Cy h]
 unfold S;rw[h1];exact xA (by omega)
theorem add_zero{a:Nat}(h:a<18446744073709551616)(hm:M a=a):S a kJ=a:=by
 by_cases h1:inf<a%kJ
 ·have:a=nan:=by rw[Ed h1] at hm;exact hm.symm
  subst this;rw[Wp,agf]
 ·by_cases h2:a%kJ=inf
  ·exact Ym h h2 (by decide)
  ·exact UZ h (by omega)
/- Whole numbers. -/
def rnd(g n:Nat):Nat:=n / g+(decide (g<2*(n%g)) || (g==2*(n%g)&&n / g%2==1)).toNat
def kept(L n:Nat):Nat:=rnd (2 ^ (L-52)) (n*2 ^ (52-L))
def rung(n:Nat):Nat:=if n=0 then 0 else min ((n.log2+1022)*4503599627370496+kept n.log2 n) inf
end Num
section
namespace Val
structure V where
 k:Int
 n:Int
 f:Nat
 s:ByteArray
def bG(v:V):Int:=
 if v.k<0∨3<v.k then 1
 else if v.n≠0∧v.k≠1 then 1
 else if v.f≠0∧v.k≠2 then 1
 else if v.s.size≠0∧v.k≠3 then 1
 else if Num.M v.f≠v.f then 1
 else if 64<v.s.size then 2 else 0
def emp:ByteArray:=⟨#[]⟩
def zero:V:=⟨0,0,0,emp⟩
theorem mU{s:ByteArray}(h:s.size=0):s=emp:=by
 apply ByteArray.ext;exact Array.eq_empty_of_size_eq_zero h
theorem Bz{v:V}(h:bG v=0):v=⟨0,0,0,emp⟩∨v=⟨1,v.n,0,emp⟩∨(v=⟨2,0,v.f,emp⟩∧Num.M v.f=v.f)∨(v=⟨3,0,0,v.s⟩∧v.s.size≤64):=by
 obtain⟨k,n,f,s⟩:=v;unfold bG at h;simp only at h ⊢
 split at h
 ·cases h
 split at h
 ·cases h
 split at h
 ·cases h
 split at h
 ·cases h
 split at h
 ·cases h
 split at h
 ·cases h
 next h1 h2 h3 h4 h5 h6=>
 have h5:Num.M f=f:=Decidable.byContradiction h5;have hk:k=0∨k=1∨k=2∨k=3:=by omega
 rcases hk with rfl|rfl|rfl|rfl
 ·obtain rfl:n=0:=by omega
  obtain rfl:f=0:=by omega
  obtain rfl:=mU (s:=s) (by omega);exact .inl rfl
 ·obtain rfl:f=0:=by omega
  obtain rfl:=mU (s:=s) (by omega);exact .inr (.inl rfl)
 ·obtain rfl:n=0:=by omega
  obtain rfl:=mU (s:=s) (by omega);exact .inr (.inr (.inl ⟨rfl,h5⟩))
 ·obtain rfl:n=0:=by omega
  obtain rfl:f=0:=by omega
  exact .inr (.inr (.inr ⟨rfl,by omega⟩))
theorem FI:Num.M 0=0:=by decide
theorem VB:bG zero=0:=by
 unfold bG zero;rw[if_neg (by decide),if_neg (by decide),if_neg (by decide),if_neg (by decide),if_neg (by decide),if_neg (by decide)]
theorem IB:emp.size=0:=rfl
theorem Ny(n:Int):bG ⟨1,n,0,emp⟩=0:=by
 unfold bG;rw[if_neg (show ¬((1:Int)<0∨3<(1:Int)) by decide),if_neg (by simp),if_neg (by simp),if_neg (by intro h;exact h.1 rfl),if_neg (by rw[FI];simp),if_neg (by rw[IB];decide)]
theorem Qu{f:Nat}(h:Num.M f=f):bG ⟨2,0,f,emp⟩=0:=by
 unfold bG;rw[if_neg (show ¬((2:Int)<0∨3<(2:Int)) by decide),if_neg (by simp),if_neg (by simp),if_neg (by intro h;exact h.1 rfl),if_neg (by rw[h];simp),if_neg (by rw[IB];decide)]
theorem VA(s:ByteArray):bG ⟨3,0,0,s⟩=if 64<s.size then 2 else 0:=by
 unfold bG;rw[if_neg (show ¬((3:Int)<0∨3<(3:Int)) by decide),if_neg (by simp),if_neg (by simp),if_neg (by simp),if_neg (by rw[FI];simp)]
instance:DecidableEq V:=fun a b=>decidable_of_iff (a.k=b.k∧a.n=b.n∧a.f=b.f∧a.s=b.s) ⟨fun h=>by
 obtain⟨k,n,f,s⟩:=a;obtain⟨k',n',f',s'⟩:=b;obtain⟨rfl,rfl,rfl,rfl⟩:=h
 rfl,fun h=>by rw[h];exact⟨rfl,rfl,rfl,rfl⟩⟩
theorem str_inj{a b:ByteArray}(h:a.toList=b.toList):a=b:=by
 exact ZB
theorem Xt{a b:ByteArray}:a=b↔a.toList=b.toList:=⟨fun h=>by rw[h],str_inj⟩
end Val
end
section
namespace av
structure Rp where
 e:Int
 v:Val.V
 deriving DecidableEq
def rep(r:Rp):Bool:=decide (0≤r.e)&&decide (r.e≤18)&&decide (Val.bG r.v=0)
def rz:Rp:=⟨0,⟨0,0,0,⟨#[]⟩⟩⟩
def err(e:Int):Rp:=⟨e,⟨0,0,0,⟨#[]⟩⟩⟩
end av
end
section
structure Rf where
 c:Int
 e:Int
 r:Int
deriving DecidableEq
namespace aS
def zero:Rf:=⟨0,0,0⟩
def ok(x:Rf):Prop:=0≤x.c∧x.c<5∧1≤x.e∧0≤x.r
instance (x:Rf):Decidable (ok x):=by unfold ok;infer_instance
def mine(a b:Rf):Prop:=a.c=b.c∧a.e=b.e
instance (a b:Rf):Decidable (mine a b):=by unfold mine;infer_instance
def asked(l:List Rf)(c:Int):Bool:=l.any fun x=>decide (x.c=c)
theorem jI{l:List Rf}{n:Nat}(hn:l.length=n)(c:Int):(∀(i:Nat) x,l[i]?=some x→x.c=c→asked l c=true)∧((∀(i:Nat) x,i<n→l[i]?=some x→¬x.c=c)→asked l c=false):=by
 refine⟨fun i x hx h=>List.any_eq_true.2 ⟨x,List.mem_of_getElem? hx,decide_eq_true h⟩,fun h=>Bool.eq_false_iff.2 fun ha=>?_⟩;obtain⟨x,hx,hd⟩:=List.any_eq_true.1 ha;obtain⟨i,hi⟩:=List.mem_iff_getElem?.1 hx;exact h i x (by rw[← hn];exact(List.getElem?_eq_some_iff.1 hi).1) hi (of_decide_eq_true hd)
def Right(l:List Rf):Prop:=∀i,i<l.length→∀x,l[i]?=some x→ok x∧asked (l.take i) x.c=false
theorem lg(l:List Rf):Right l↔∀i,i<l.length→(l[i]?.all fun x=>decide (ok x)&&!asked (l.take i) x.c)=true:=by
 refine forall_congr' fun i=>forall_congr' fun hi=>?_
 rw[List.getElem?_eq_getElem hi];simp
instance (l:List Rf):Decidable (Right l):=decidable_of_iff _ (lg l).symm
theorem gJ{l:List Rf}{n:Nat}(hn:l.length=n):(∀(i:Nat) x,i<n→l[i]?=some x→¬(ok x∧asked (l.take i) x.c=false)→decide (Right l)=false)∧((∀(i:Nat) x,i<n→l[i]?=some x→ok x∧asked (l.take i) x.c=false)→decide (Right l)=true):=
 ⟨fun i x hi hx h=>decide_eq_false fun hr=>h (hr i (by omega) x hx),fun h=>decide_eq_true fun i hi x hx=>h i x (by omega) hx⟩
theorem jg:Right []:=fun i hi=>by simp at hi
def yY(l:List Rf)(r:Rf):Int:=if Right l∧ok r then (if asked l r.c then 11 else 0) else 1
def CF(l:List Rf)(r:Rf):List Rf:=if yY l r=0 then l++[r] else l
def JU(l:List Rf)(r:Rf):Bool:=decide (yY l r=0)&&decide (l.length=0)
theorem Ag{l:List Rf}{r:Rf}(h:¬(Right l∧ok r)):yY l r=1∧CF l r=l∧JU l r=false:=by
 have e:yY l r=1:=if_neg h;exact⟨e,by unfold CF;rw[e];rfl,by unfold JU;rw[e];rfl⟩
theorem Er{l:List Rf}{r:Rf}(h1:Right l)(h2:ok r)(h3:asked l r.c=true):yY l r=11∧CF l r=l∧JU l r=false:=by
 have e:yY l r=11:=by unfold yY;rw[if_pos ⟨h1,h2⟩,if_pos h3]
 exact⟨e,by unfold CF;rw[e];rfl,by unfold JU;rw[e];rfl⟩
theorem RQ{l:List Rf}{r:Rf}(h1:Right l)(h2:ok r)(h3:asked l r.c=false):yY l r=0∧CF l r=l++[r]∧JU l r=decide (l.length=0):=by
 have e:yY l r=0:=by unfold yY;rw[if_pos ⟨h1,h2⟩,if_neg (by rw[h3];decide)]
 exact⟨e,by unfold CF;rw[if_pos e],by unfold JU;rw[decide_eq_true e,Bool.true_and]⟩
def zJ(l:List Rf)(r:Rf):Int:=if Right l then (if l.length=0 then 12 else if mine (l.headD zero) r then 0 else 12) else 1
def Ci(l:List Rf)(r:Rf):List Rf:=if zJ l r=0 then l.drop 1 else l
def EZ(l:List Rf)(r:Rf):Rf:=if zJ l r=0 then (l.drop 1).headD zero else zero
def Dy(l:List Rf)(r:Rf):Bool:=decide (zJ l r=0)&&decide (1<l.length)
theorem UM{l:List Rf}{r:Rf}{z:Int}(e:zJ l r=z)(hz:¬z=0:=by decide):zJ l r=z∧Ci l r=l∧EZ l r=zero∧Dy l r=false:=by
 have e2:¬zJ l r=0:=by rw[e];exact hz
 exact⟨e,if_neg e2,if_neg e2,by unfold Dy;rw[decide_eq_false e2];rfl⟩
theorem UN{l:List Rf}{r:Rf}(h:¬Right l):zJ l r=1∧Ci l r=l∧EZ l r=zero∧Dy l r=false:=UM (if_neg h)
theorem EY{l:List Rf}{r:Rf}(h:Right l)(h0:l.length=0):zJ l r=12∧Ci l r=l∧EZ l r=zero∧Dy l r=false:=
 UM (by unfold zJ;rw[if_pos h,if_pos h0])
theorem Bg{l:List Rf}{r x:Rf}(h:Right l)(hx:l[0]?=some x)(hm:¬mine x r):zJ l r=12∧Ci l r=l∧EZ l r=zero∧Dy l r=false:=by
 cases l with
 | nil=>cases hx
 | cons y m=>
  injection hx with hx;subst hx;exact UM (by unfold zJ;rw[if_pos h,if_neg (by simp)];exact if_neg hm)
theorem KY{l:List Rf}{r x:Rf}(h:Right l)(hx:l[0]?=some x)(hm:mine x r):zJ l r=0:=by
 cases l with
 | nil=>cases hx
 | cons y m=>
  injection hx with hx;subst hx;unfold zJ;rw[if_pos h,if_neg (by simp)];exact if_pos hm
theorem MX{l:List Rf}{r x:Rf}(h:Right l)(hx:l[0]?=some x)(hm:mine x r)(h1:l.length=1):zJ l r=0∧Ci l r=[]∧EZ l r=zero∧Dy l r=false:=by
 have e:=KY h hx hm;have e2:l.drop 1=[]:=List.drop_eq_nil_of_le (by omega);exact⟨e,by unfold Ci;rw[if_pos e,e2],by unfold EZ;rw[if_pos e,e2];rfl,by unfold Dy;rw[h1];simp⟩
theorem MW{l:List Rf}{r x y:Rf}(h:Right l)(hx:l[0]?=some x)(hm:mine x r)(hy:l[1]?=some y):zJ l r=0∧Ci l r=l.drop 1∧EZ l r=y∧Dy l r=true:=by
 have e:=KY h hx hm
 match l,hy with
 | a::b::m,hy=>
  simp at hy;subst hy;exact⟨e,by unfold Ci;rw[if_pos e],by unfold EZ;rw[if_pos e];rfl,by unfold Dy;rw[e];simp⟩
def wo(l:List Rf)(r:Rf):List Rf:=l.filter fun x=>!decide (mine x r)
def pF(l:List Rf)(r:Rf):List Rf:=if Right l then wo l r else l
def uP(l:List Rf)(r:Rf):Bool:=decide (Right l)&&decide (0<(wo l r).length)&&!decide ((wo l r).headD zero=l.headD zero)
def zO(l:List Rf)(r:Rf):Rf:=if uP l r=true then (wo l r).headD zero else zero
theorem DI{l:List Rf}{r:Rf}(h:uP l r=false):uP l r=false∧zO l r=zero:=⟨h,by unfold zO;rw[h];rfl⟩
theorem Vq{l:List Rf}{r:Rf}(h:¬Right l):pF l r=l∧zO l r=zero∧uP l r=false:=by
 have e:uP l r=false:=by unfold uP;rw[decide_eq_false h];rfl
 exact⟨if_neg h,(DI e).2,e⟩
theorem zN{l:List Rf}{r:Rf}(h:Right l)(h0:(wo l r).length=0):pF l r=wo l r∧zO l r=zero∧uP l r=false:=by
 have e:uP l r=false:=by unfold uP;rw[h0];simp
 exact⟨if_pos h,(DI e).2,e⟩
theorem kN{l:List Rf}{x:Rf}(h:l[0]?=some x):l.headD zero=x:=by
 cases l with
 | nil=>cases h
 | cons y m=>injection h
theorem Fg{l:List Rf}{r x y:Rf}(h:Right l)(hx:(wo l r)[0]?=some x)(hy:l[0]?=some y)(he:x=y):pF l r=wo l r∧zO l r=zero∧uP l r=false:=by
 have e:uP l r=false:=by unfold uP;rw[kN hx,kN hy,he];simp
 exact⟨if_pos h,(DI e).2,e⟩
theorem Le{l:List Rf}{r x y:Rf}(h:Right l)(hx:(wo l r)[0]?=some x)(hy:l[0]?=some y)(he:¬x=y):pF l r=wo l r∧zO l r=x∧uP l r=true:=by
 have h0:=(List.getElem?_eq_some_iff.1 hx).1;have e:uP l r=true:=by unfold uP;rw[kN hx,kN hy,decide_eq_true h,decide_eq_true h0,decide_eq_false he];rfl
 exact⟨if_pos h,by unfold zO;rw[if_pos e,kN hx],e⟩
theorem qJ{l:List Rf}{r x:Rf}{k:Nat}(hx:l[k]?=some x)(hm:¬mine x r):wo (l.take (k+1)) r=wo (l.take k) r++[x]:=by
 unfold wo;rw[List.take_add_one,hx,List.filter_append];simp[hm]
theorem oD{l:List Rf}{r x:Rf}{k:Nat}(hx:l[k]?=some x)(hm:mine x r):wo (l.take (k+1)) r=wo (l.take k) r:=by
 unfold wo;rw[List.take_add_one,hx,List.filter_append];simp[hm]
theorem vU(l:List Rf)(r:Rf):(wo l r).length≤l.length:=List.length_filter_le ..
theorem Ad{l:List Rf}{r x:Rf}(h:(wo l r)[0]?=some x):∃y,l[0]?=some y:=by
 cases l with
 | nil=>cases h
 | cons y m=>exact⟨y,rfl⟩
theorem sD{l:List Rf}{r:Rf}(h:Right l)(h2:ok r)(h3:asked l r.c=false):Right (l++[r]):=by
 intro i hi x hx
 rcases Nat.lt_or_ge i l.length with hl|hl
 ·rw[List.getElem?_append_left hl] at hx
  rw[List.take_append_of_le_length (by omega)];exact h i hl x hx
 ·have e:i=l.length:=by rw[List.length_append] at hi;simp at hi;omega
  subst e;simp at hx;subst hx;rw[List.take_left];exact⟨h2,h3⟩
theorem nC{x:Rf}{m:List Rf}:Right (x::m)↔ok x∧asked m x.c=false∧Right m:=by
 constructor
 ·intro h
  have h0:=h 0 (by simp) x rfl
  have hA:∀i y,m[i]?=some y→ok y∧asked (m.take i) y.c=false∧¬x.c=y.c:=fun i y hy=>by
   have h1:=h (i+1) (by have:=(List.getElem?_eq_some_iff.1 hy).1;simp;omega) y (by rw[List.getElem?_cons_succ];exact hy);rw[List.take_succ_cons] at h1;have h2:asked (x::m.take i) y.c=(decide (x.c=y.c) || asked (m.take i) y.c):=rfl;rw[h2,Bool.or_eq_false_iff,decide_eq_false_iff_not] at h1;exact⟨h1.1,h1.2.2,h1.2.1⟩
  refine⟨h0.1,(jI (l:=m) rfl x.c).2 fun i y _ hy e=>(hA i y hy).2.2 e.symm,fun i _ y hy=>⟨(hA i y hy).1,(hA i y hy).2.1⟩⟩
 ·rintro ⟨h1,h2,h3⟩ i hi y hy
  cases i with
  | zero=>injection hy with hy;subst hy;exact⟨h1,rfl⟩
  | succ i=>
   rw[List.getElem?_cons_succ] at hy;have h4:=h3 i (by simp at hi;omega) y hy;refine⟨h4.1,?_⟩;rw[List.take_succ_cons]
   show(decide (x.c=y.c) || asked (m.take i) y.c)=false
   rw[h4.2,Bool.or_false,decide_eq_false_iff_not];intro e;rw[(jI (l:=m) rfl x.c).1 i y hy e.symm] at h2;cases h2
theorem Fy{m:List Rf}{c:Int}(p:Rf→Bool)(h:asked m c=false):asked (m.filter p) c=false:=by
 rw[Bool.eq_false_iff] at h ⊢;intro ha;obtain⟨x,hx,hd⟩:=List.any_eq_true.1 ha;exact h (List.any_eq_true.2 ⟨x,(List.mem_filter.1 hx).1,hd⟩)
theorem kK(p:Rf→Bool):∀{l:List Rf},Right l→Right (l.filter p)
 | [],_=>jg
 | x::m,h=>by
  obtain⟨h1,h2,h3⟩:=nC.1 h;rw[List.filter_cons]
  split
  ·exact nC.2 ⟨h1,Fy p h2,kK p h3⟩
  ·exact kK p h3
theorem AP{q:Int}:∀{l:List Rf},Right l→l.length≤(l.filter fun x=>!decide (x.c=q)).length+1
 | [],_=>Nat.zero_le _
 | x::m,h=>by
  obtain⟨_,h2,h3⟩:=nC.1 h;by_cases hq:x.c=q
  ·subst hq
   have e:(m.filter fun y=>!decide (y.c=x.c))=m:=List.filter_eq_self.2 fun y hy=>by
    obtain⟨i,hi⟩:=List.mem_iff_getElem?.1 hy;rw[Bool.not_eq_true',decide_eq_false_iff_not];intro hc;rw[(jI (l:=m) rfl x.c).1 i y hi hc] at h2;cases h2
   rw[List.filter_cons_of_neg (by simp),e,List.length_cons];exact Nat.le_refl _
  ·rw[List.filter_cons_of_pos (by simp[hq]),List.length_cons,List.length_cons]
   have:=AP (q:=q) h3;omega
theorem Dl:∀(k:Nat) {l:List Rf},Right l→(∀x∈l,x.c<(k:Int))→l.length≤k
 | 0,l,h,hk=>by
  cases l with
  | nil=>exact Nat.le_refl _
  | cons x m=>
   have h1:=hk x (List.mem_cons_self ..);have h2:=(nC.1 h).1.1;omega
 | k+1,l,h,hk=>by
  have h1:=AP (q:=(k:Int)) h
  have h2:=Dl k (kK (fun x=>!decide (x.c=(k:Int))) h) fun x hx=>by
   obtain⟨h3,h4⟩:=List.mem_filter.1 hx;have h5:=hk x h3;have h6:¬x.c=(k:Int):=by simpa using h4
   omega
  omega
theorem fG{l:List Rf}(h:Right l):l.length≤5:=Dl 5 h fun x hx=>by
 obtain⟨i,hi⟩:=List.mem_iff_getElem?.1 hx;exact(h i (List.getElem?_eq_some_iff.1 hi).1 x hi).1.2.1
theorem Yv{l:List Rf}{r x:Rf}(h:Right l)(hx:l[0]?=some x)(hm:mine x r):zJ l r=0∧Ci l r=l.drop 1∧EZ l r=(l.drop 1).headD zero∧Dy l r=decide (0<(l.drop 1).length):=by
 have e:=KY h hx hm;refine⟨e,by unfold Ci;rw[if_pos e],by unfold EZ;rw[if_pos e],?_⟩;unfold Dy;rw[decide_eq_true e,Bool.true_and,List.length_drop];exact decide_eq_decide.2 (by omega)
theorem RP{l:List Rf}(h:Right l)(r:Rf):Right (CF l r):=by
 unfold CF
 split
 next he=>
  unfold yY at he
  split at he
  next hr=>
   split at he
   ·cases he
   next ha=>exact sD hr.1 hr.2 (Bool.eq_false_iff.2 ha)
  next=>cases he
 next=>exact h
theorem UL{l:List Rf}(h:Right l)(r:Rf):Right (Ci l r):=by
 unfold Ci
 split
 ·cases l with
  | nil=>exact jg
  | cons x m=>exact(nC.1 h).2.2
 ·exact h
theorem Vo{l:List Rf}(h:Right l)(r:Rf):Right (pF l r):=by
 unfold pF;rw[if_pos h];exact kK _ h
end aS
end
section
namespace aH
structure S where
 live:Bool
 ep:Int
 rq:Int
 dn:Bool
 p:av.Rp
 deriving DecidableEq
def z:S:=⟨false,0,0,false,av.rz⟩
structure T where
 s0:S
 s1:S
 s2:S
 s3:S
 s4:S
 deriving DecidableEq
def T.get(t:T)(c:Int):S:=if c=0 then t.s0 else if c=1 then t.s1 else if c=2 then t.s2 else if c=3 then t.s3 else if c=4 then t.s4 else z
def T.set(t:T)(c:Int)(s:S):T:=if c=0 then { t with s0:=s } else if c=1 then { t with s1:=s } else if c=2 then { t with s2:=s } else if c=3 then { t with s3:=s } else if c=4 then { t with s4:=s } else t
def one(s:S):Bool:=if s.ep=0 then decide (s=z) else (s.dn || (decide (s.p=av.rz)&&decide (1≤s.rq)&&s.live))&&decide (0<s.ep)&&decide (0≤s.rq)&&av.rep s.p
def Cj(b:Bool):Int:=if b=true then 1 else 0
def live(t:T)(q:Int):Int:=Cj (t.s0.live&&!decide (0=q))+Cj (t.s1.live&&!decide (1=q))+Cj (t.s2.live&&!decide (2=q))+Cj (t.s3.live&&!decide (3=q))+Cj (t.s4.live&&!decide (4=q))
def Right(t:T):Prop:=(one t.s0=true∧one t.s1=true∧one t.s2=true∧one t.s3=true∧one t.s4=true)∧live t (-1)≤4
instance (t:T):Decidable (Right t):=by unfold Right;infer_instance
def oI(s:S)(r:Rf):Int:=
 if r.r=0∧s.ep<r.e then 1 else if r.e≠s.ep∨r.r<s.rq then 5 else if r.r=s.rq then (if s.dn=true then 2 else 3) else if s.live=false then 4 else if r.r-1=s.rq∧s.dn=true then 1 else 5
def look(t:T)(r:Rf):Int:=if aS.ok r∧Right t then oI (t.get r.c) r else 5
def nJ(t:T)(r:Rf):S:=if live t r.c<4 then ⟨true,r.e,0,true,av.rz⟩ else ⟨false,r.e,0,true,av.err 6⟩
def jB(t:T)(r:Rf):T:=if look t r=1∧r.r=0 then t.set r.c (nJ t r) else t
def oH(t:T)(r:Rf):av.Rp:=if look t r=1∧r.r=0 then (nJ t r).p else av.err 1
def iq(t:T)(r:Rf):T:=if look t r=1∧¬r.r=0 then t.set r.c { t.get r.c with rq:=r.r,dn:=false,p:=av.rz } else t
def fP(t:T)(r:Rf)(x:av.Rp):T:=if look t r=3∧av.rep x=true then t.set r.c { t.get r.c with dn:=true,p:=x } else t
def jk(s:S):S:=if s.dn=true then { s with live:=false } else { s with live:=false,dn:=true,p:=av.err 14 }
def fJ(t:T)(c:Int):T:=if 0≤c∧c<5∧Right t∧(t.get c).live=true then t.set c (jk (t.get c)) else t
theorem gN{c:Int}(h:0≤c∧c<5):c=0∨c=1∨c=2∨c=3∨c=4:=by omega
theorem kV{r:Rf}(h:aS.ok r):0≤r.c∧r.c<5:=⟨h.1,h.2.1⟩
theorem bU{t:T}{c:Int}(h:0≤c∧c<5)(s:S):(t.set c s).get c=s:=by
 rcases gN h with rfl|rfl|rfl|rfl|rfl<;>rfl
theorem kP{t:T}{c d:Int}(hc:0≤c∧c<5)(hd:0≤d∧d<5)(hn:¬d=c)(s:S):(t.set c s).get d=t.get d:=by
 rcases gN hc with rfl|rfl|rfl|rfl|rfl<;>rcases gN hd with rfl|rfl|rfl|rfl|rfl<;>first|exact absurd rfl hn|rfl
theorem VQ(b:Bool):(b=true∧Cj b=1)∨(b=false∧Cj b=0):=by cases b<;>simp[Cj]
theorem GX{t:T}{c:Int}(h:0≤c∧c<5)(s:S):live (t.set c s) (-1)=live t c+Cj s.live:=by
 rcases gN h with rfl|rfl|rfl|rfl|rfl<;>simp[live,T.set,Cj]<;>omega
theorem EO{t:T}{c:Int}(h:0≤c∧c<5):live t (-1)=live t c+Cj (t.get c).live:=by
 rcases gN h with rfl|rfl|rfl|rfl|rfl<;>simp[live,T.get,Cj]<;>omega
theorem kZ{t:T}(h:Right t){c:Int}(hc:0≤c∧c<5):one (t.get c)=true:=by
 obtain⟨⟨h0,h1,h2,h3,h4⟩,_⟩:=h
 rcases gN hc with rfl|rfl|rfl|rfl|rfl
 ·exact h0
 ·exact h1
 ·exact h2
 ·exact h3
 ·exact h4
theorem mV{t:T}(h:Right t){c:Int}(hc:0≤c∧c<5){s:S}(hs:one s=true)(hl:live t c+Cj s.live≤4:=by show live t c+0≤4;omega):Right (t.set c s):=by
 obtain⟨⟨h0,h1,h2,h3,h4⟩,_⟩:=h;refine⟨?_,by rw[GX hc];exact hl⟩
 rcases gN hc with rfl|rfl|rfl|rfl|rfl
 ·exact⟨hs,h1,h2,h3,h4⟩
 ·exact⟨h0,hs,h2,h3,h4⟩
 ·exact⟨h0,h1,hs,h3,h4⟩
 ·exact⟨h0,h1,h2,hs,h4⟩
 ·exact⟨h0,h1,h2,h3,hs⟩
def snd(s:S):Bool:=decide (0<s.ep)&&decide (0≤s.rq)&&av.rep s.p&&(s.dn || (s.live&&decide (0<s.rq)&&decide (s.p=av.rz)))
theorem XM(s:S):one s=(decide (s=z) || snd s):=by
 unfold one;by_cases h:s.ep=0
 ·rw[if_pos h]
  unfold snd;rw[decide_eq_false (p:=0<s.ep) (by omega)];simp
 ·rw[if_neg h,decide_eq_false (p:=s=z) (fun e=>h (by rw[e];rfl))]
  unfold snd;rw[Bool.eq_iff_iff];simp only[Bool.and_eq_true,Bool.or_eq_true,decide_eq_true_eq,Bool.false_or]
  constructor
  ·rintro ⟨⟨⟨h1,h2⟩,h3⟩,h4⟩
   exact⟨⟨⟨h2,h3⟩,h4⟩,h1.imp id fun⟨⟨a,b⟩,c⟩=>⟨⟨c,by omega⟩,a⟩⟩
  ·rintro ⟨⟨⟨h2,h3⟩,h4⟩,h1⟩
   exact⟨⟨⟨h1.imp id fun⟨⟨c,b⟩,a⟩=>⟨⟨a,by omega⟩,c⟩,h2⟩,h3⟩,h4⟩
def cnt(t:T)(q:Int):Nat→Int
 | 0=>0
 | k+1=>cnt t q k+Cj ((t.get k).live&&!decide ((k:Int)=q))
theorem afW(t:T)(q:Int):cnt t q 5=live t q:=by
 unfold live;simp[cnt,T.get]
theorem Lg(t:T)(q:Int):∀k:Nat,0≤cnt t q k∧cnt t q k≤k
 | 0=>⟨Int.le_refl 0,Int.le_refl 0⟩
 | k+1=>by
  have h:=Lg t q k
  rcases VQ ((t.get k).live&&!decide ((k:Int)=q)) with ⟨_,g⟩|⟨_,g⟩<;>(show 0≤cnt t q k+_∧cnt t q k+_≤_;rw[g];omega)
theorem CV(t:T):(∀c:Int,0≤c∧c<5→one (t.get c)=true)→decide (Right t)=decide (live t (-1)≤4):=fun h=>by
 have e:Right t↔live t (-1)≤4:=⟨fun g=>g.2,fun g=>⟨⟨h 0 (by decide),h 1 (by decide),h 2 (by decide),h 3 (by decide),h 4 (by decide)⟩,g⟩⟩;rw[Bool.eq_iff_iff,decide_eq_true_eq,decide_eq_true_eq];exact e
theorem Gn{t:T}{c:Int}(hc:0≤c∧c<5)(h:one (t.get c)=false):decide (Right t)=false:=
 decide_eq_false fun g=>by rw[kZ g hc] at h;cases h
def Fit(t:T):Prop:=∀c:Int,0≤c∧c<5→(t.get c).p.v.f<18446744073709551616
theorem jS{t:T}{r:Rf}{k:Int}(h:look t r=k)(hk:¬k=5:=by decide):aS.ok r∧Right t∧oI (t.get r.c) r=k:=by
 unfold look at h
 split at h
 next g=>exact⟨g.1,g.2,h⟩
 next=>exact absurd h.symm hk
theorem GR{t:T}{r:Rf}(h:¬(aS.ok r∧Right t)):look t r=5:=if_neg h
theorem SV:av.rep av.rz=true:=by decide
theorem Me{e:Int}(h:0≤e∧e≤18:=by decide):av.rep (av.err e)=true:=by
 unfold av.rep av.err;rw[decide_eq_true h.1,decide_eq_true h.2]
 rfl
theorem wN{s:S}{r:Rf}(h:oI s r=1):(r.r=0∧s.ep<r.e)∨(r.e=s.ep∧r.r=s.rq+1∧s.live=true∧s.dn=true):=by
 unfold oI at h;by_cases h1:r.r=0∧s.ep<r.e
 ·exact .inl h1
 rw[if_neg h1] at h;by_cases h2:r.e≠s.ep∨r.r<s.rq
 ·rw[if_pos h2] at h;cases h
 rw[if_neg h2] at h;by_cases h3:r.r=s.rq
 ·rw[if_pos h3] at h
  split at h<;>cases h
 rw[if_neg h3] at h;by_cases h4:s.live=false
 ·rw[if_pos h4] at h;cases h
 rw[if_neg h4] at h;by_cases h5:r.r-1=s.rq∧s.dn=true
 ·exact .inr ⟨by omega,by omega,by simpa using h4,h5.2⟩
 ·rw[if_neg h5] at h;cases h
theorem Ga{s:S}{r:Rf}(h:oI s r=3):r.e=s.ep∧r.r=s.rq∧s.dn=false:=by
 unfold oI at h;by_cases h1:r.r=0∧s.ep<r.e
 ·rw[if_pos h1] at h;cases h
 rw[if_neg h1] at h;by_cases h2:r.e≠s.ep∨r.r<s.rq
 ·rw[if_pos h2] at h;cases h
 rw[if_neg h2] at h;by_cases h3:r.r=s.rq
 ·rw[if_pos h3] at h
  by_cases h6:s.dn=true
  ·rw[if_pos h6] at h;cases h
  ·exact⟨by omega,h3,by simpa using h6⟩
 rw[if_neg h3] at h;by_cases h4:s.live=false
 ·rw[if_pos h4] at h;cases h
 rw[if_neg h4] at h;by_cases h5:r.r-1=s.rq∧s.dn=true
 ·rw[if_pos h5] at h;cases h
 ·rw[if_neg h5] at h;cases h
theorem one_pos{s:S}(h:one s=true)(he:¬s.ep=0):(s.dn=true∨(s.p=av.rz∧1≤s.rq∧s.live=true))∧0<s.ep∧0≤s.rq∧av.rep s.p=true:=by
 unfold one at h;rw[if_neg he] at h;simp only[Bool.and_eq_true,Bool.or_eq_true,decide_eq_true_eq] at h;exact⟨h.1.1.1.imp id fun g=>⟨g.1.1,g.1.2,g.2⟩,h.1.1.2,h.1.2,h.2⟩
theorem xY{s:S}(h1:s.dn=true∨(s.p=av.rz∧1≤s.rq∧s.live=true))(h2:0≤s.rq)(h3:av.rep s.p=true)(h0:0<s.ep:=by show 0<r.e;omega):one s=true:=by
 unfold one;rw[if_neg (by omega)];simp only[Bool.and_eq_true,Bool.or_eq_true,decide_eq_true_eq];exact⟨⟨⟨h1.imp id fun g=>⟨⟨g.1,g.2.1⟩,g.2.2⟩,h0⟩,h2⟩,h3⟩
theorem wD{s:S}(h:one s=true)(he:s.ep=0):s=z:=by
 unfold one at h;rw[if_pos he] at h;exact of_decide_eq_true h
theorem Mx{t:T}(h:Right t){c:Int}(hc:0≤c∧c<5):live t c≤4:=by
 have h1:=EO (t:=t) hc;have h2:=h.2
 rcases VQ (t.get c).live with ⟨_,g⟩|⟨_,g⟩<;>omega
theorem KJ{t:T}(h:Right t)(r:Rf):Right (jB t r):=by
 unfold jB
 split
 next g=>
  obtain⟨hk,_,hl⟩:=jS g.1;have hc:=kV hk;have hm:=Mx h hc;have he:1≤r.e:=hk.2.2.1;unfold nJ
  split
  next hl4=>exact mV h hc (xY (.inl rfl) (Int.le_refl 0) SV) (hl:=(by show live t r.c+1≤4;omega))
  next hl4=>exact mV h hc (xY (.inl rfl) (Int.le_refl 0) (Me)) (hl:=(by show live t r.c+0≤4;omega))
 next=>exact h
theorem DU{t:T}(h:Right t)(r:Rf):Right (iq t r):=by
 unfold iq
 split
 next g=>
  obtain⟨hk,_,hl⟩:=jS g.1;have hc:=kV hk
  rcases wN hl with ⟨h0,_⟩|⟨h1,h2,h3,h4⟩
  ·exact absurd h0 g.2
  have he:1≤r.e:=hk.2.2.1;have hr:0≤r.r:=hk.2.2.2;have h0:=g.2;have hla:=EO (t:=t) hc;have h5:=h.2;refine mV h hc (xY (h0:=(by show 0<(t.get r.c).ep;omega)) (.inr ⟨rfl,by show 1≤r.r;omega,h3⟩) hr SV) (hl:=?_)
  show live t r.c+Cj (t.get r.c).live≤4
  omega
 next=>exact h
theorem Qm{t:T}(h:Right t)(r:Rf)(x:av.Rp):Right (fP t r x):=by
 unfold fP
 split
 next g=>
  obtain⟨hk,_,hl⟩:=jS g.1;have hc:=kV hk;obtain⟨h1,h2,h3⟩:=Ga hl;have he:1≤r.e:=hk.2.2.1;have hr:0≤r.r:=hk.2.2.2;have hla:=EO (t:=t) hc;have h5:=h.2;refine mV h hc (xY (h0:=(by show 0<(t.get r.c).ep;omega)) (.inl rfl) (by show 0≤(t.get r.c).rq;omega) g.2) (hl:=?_)
  show live t r.c+Cj (t.get r.c).live≤4
  omega
 next=>exact h
theorem IQ{t:T}(h:Right t)(c:Int):Right (fJ t c):=by
 unfold fJ
 split
 next g=>
  obtain⟨h1,h2,_,hl⟩:=g;have hc:0≤c∧c<5:=⟨h1,h2⟩;have ho:=kZ h hc;have he:¬(t.get c).ep=0:=fun e=>by rw[wD ho e] at hl;cases hl
  obtain⟨o1,o2,o3,o4⟩:=one_pos ho he;have hm:=Mx h hc;unfold jk
  split
  next hd=>exact mV h hc (xY (h0:=o2) (.inl hd) o3 o4)
  next hd=>exact mV h hc (xY (h0:=o2) (.inl rfl) o3 (Me))
 next=>exact h
end aH
end
section
theorem Ma{k:IntKind}{a b:Int}(h:a=b):Ending.returned (.int k a)=.returned (.int k b):=by rw[h]
theorem Gp{a b:Bool}(h:a=b):Ending.returned (.bool a)=.returned (.bool b):=by rw[h]
theorem Ep{n:Int}(h:(Lit.int .u64 n).wf=true):∃k:Nat,n=(k:Int)∧k<18446744073709551616:=by
 have hb:=bounds_u64 h;obtain⟨k,rfl⟩:=Int.eq_ofNat_of_zero_le hb.1;exact⟨k,rfl,by omega⟩
theorem iH(b:Nat)(w:World)(h:b<18446744073709551616):
  Calls prog 181 #[.int .u64 b] w fun e w'=>e=.returned (.int .u64 (Num.M b:Nat))∧w=w':=by
 have hc:=zH (Num.Vt b h);go_enter func181,ntmps181;go_wp2
 ·have h1:9218868437227405312<bits BinOp.andNot IntKind.u64 (b:Int) 9223372036854775808:=by assumption
  go_ret;rw[hc.out] at h1;exact⟨by rw[Num.Ed (by unfold Num.inf;omega)];rfl,rfl⟩
 ·have h1:bits BinOp.andNot IntKind.u64 (b:Int) 9223372036854775808≤9218868437227405312:=by assumption
  go_ret;rw[hc.out] at h1;exact⟨by rw[Num.xA (by unfold Num.inf;omega)];rfl,rfl⟩
theorem GL(b:Nat)(w:World)(h:b<18446744073709551616):
  Calls prog 245 #[.int .u64 b] w fun e w'=>e=.returned (.bool (decide (Num.inf<b%Num.kJ)))∧w=w':=by
 have hc:=zH (Num.YR b h);have hd:=zH (Num.Wd b h);have he:=zH (Num.TR b);go_enter func245,ntmps245;go_wp2
 ·have h1:bits BinOp.and IntKind.u64 (b:Int) 9218868437227405312=9218868437227405312:=by assumption
  go_ret;rw[hc.out] at h1;refine⟨Gp ?_,rfl⟩;rw[hd.out,Bool.eq_iff_iff,decide_eq_true_eq,← he.out,bne_iff_ne];omega
 ·have h1:¬bits BinOp.and IntKind.u64 (b:Int) 9218868437227405312=9218868437227405312:=by assumption
  go_ret;rw[hc.out] at h1;refine⟨Gp ?_,rfl⟩;rw[Bool.eq_iff_iff,decide_eq_true_eq,← he.out]
  constructor
  ·intro h;cases h
  ·intro h;omega
theorem iE(b:Nat)(w:World)(h:b<18446744073709551616):
  Calls prog 193 #[.int .u64 b] w fun e w'=>e=.returned (.int .u64 (Num.M b:Nat))∧w=w':=by
 by_cases hb:Num.inf<b%Num.kJ
 ·have HH:=zH (fun w=>GL b w h)
  rw[decide_eq_true hb] at HH;have hm:=zH (Num.Ed hb);exact aek
 ·have HH:=zH (fun w=>GL b w h)
  rw[decide_eq_false hb] at HH;have hm:=zH (Num.xA hb);exact aek
end
section
def vv(v:Val.V):Value:=.agg #[.int .i64 v.k,.int .i64 v.n,.int .u64 (v.f:Int),.string v.s]
def jT(b1 b2 b3 ok:Bool)(w:World)(e:Ending)(w':World):Prop:=
 e=.returned (.tuple #[.agg #[.bool b1,.bool b2,.bool b3],.bool ok])∧Below w.heap.size w w'
theorem acB(w:World):Calls prog 180 #[.int .i64 0] w (jT false false false true w):=by
 go_enter func180,ntmps180;go_wp2;exact bodyPost_ret (v:=.tuple #[.agg #[.bool false,.bool false,.bool false],.bool true]) (by simp[results,results180,go_sem]) rfl ⟨rfl,by go_grown⟩
theorem acA(w:World):Calls prog 180 #[.int .i64 1] w (jT true false false true w):=by
 go_enter func180,ntmps180;go_wp2;exact bodyPost_ret (v:=.tuple #[.agg #[.bool true,.bool false,.bool false],.bool true]) (by simp[results,results180,go_sem]) rfl ⟨rfl,by go_grown⟩
theorem acz(w:World):Calls prog 180 #[.int .i64 2] w (jT false true false true w):=by
 go_enter func180,ntmps180;go_wp2;exact bodyPost_ret (v:=.tuple #[.agg #[.bool false,.bool true,.bool false],.bool true]) (by simp[results,results180,go_sem]) rfl ⟨rfl,by go_grown⟩
theorem acy(w:World):Calls prog 180 #[.int .i64 3] w (jT false false true true w):=by
 go_enter func180,ntmps180;go_wp2;exact bodyPost_ret (v:=.tuple #[.agg #[.bool false,.bool false,.bool true],.bool true]) (by simp[results,results180,go_sem]) rfl ⟨rfl,by go_grown⟩
theorem acw(k:Int)(w:World)(h:k<0∨3<k):Calls prog 180 #[.int .i64 k] w (jT false false false false w):=by
 have h0:¬k=0:=by omega
 have h1:¬k=1:=by omega
 have h2:¬k=2:=by omega
 have h3:¬k=3:=by omega
 clear h;go_enter func180,ntmps180;go_wp2;exact bodyPost_ret (v:=.tuple #[.agg #[.bool false,.bool false,.bool false],.bool false]) (by simp[results,results180,go_sem]) rfl ⟨rfl,by go_grown⟩
theorem KQ{k:Int}{b1 b2 b3:Bool}(h:(k=0∧b1=false∧b2=false∧b3=false)∨(k=1∧b1=true∧b2=false∧b3=false)∨(k=2∧b1=false∧b2=true∧b3=false)∨(k=3∧b1=false∧b2=false∧b3=true))(w:World):
  Calls prog 180 #[.int .i64 k] w (jT b1 b2 b3 true w):=by
 rcases h with ⟨rfl,rfl,rfl,rfl⟩|⟨rfl,rfl,rfl,rfl⟩|⟨rfl,rfl,rfl,rfl⟩|⟨rfl,rfl,rfl,rfl⟩
 ·exact acB w
 ·exact acA w
 ·exact acz w
 ·exact acy w
theorem BG{B:Nat}{w:World}{n:Nat}:Below B w (w.drewN n):=⟨rfl,rfl,rfl,Nat.le_refl _,fun _ _=>rfl⟩
def gX(x:Int)(w:World)(e:Ending)(w':World):Prop:=e=.returned (.int .i64 x)∧Below w.heap.size w w'
theorem afX{w:World}{a b c d:Value}{ty:TypeId}{w1:World}(h:Below (w.heap.size+1) (w.alloc (.cells #[a,b,c,d] ty)) w1:=by simpa using b1):
  w1.cell? ⟨w.heap.size,0,none⟩=some a∧w1.cell? ⟨w.heap.size,1,none⟩=some b∧w1.cell? ⟨w.heap.size,2,none⟩=some c∧w1.cell? ⟨w.heap.size,3,none⟩=some d∧w.heap.size<w1.heap.size:=by
 have hs:=h.size;simp at hs;refine⟨?_,?_,?_,?_,by omega⟩<;>(rw[h.cell (by simp),World.cell?_alloc_new];rfl)
theorem BF{w:World}{a b c d:Value}{ty:TypeId}{w1:World}(h:Below (w.heap.size+1) (w.alloc (.cells #[a,b,c,d] ty)) w1:=by simpa using b1):Below w.heap.size w w1:=
 ((Below.refl _ w).alloc (Nat.le_refl _) _).trans (h.mono (by omega))
section
variable (k n:Int)(f:Nat)(s:ByteArray)(w:World)(b1 b2 b3:Bool)
theorem YJ(hN:∀w,Calls prog 180 #[.int .i64 k] w (jT false b2 b3 true w))(hn:(n != 0)=true):
  Calls prog 116 #[.agg #[.int .i64 k,.int .i64 n,.int .u64 (f:Int),.string s]] w (gX 1 w):=by
 have HN:=zH hN;clear hN;exact Xk
theorem YN(hN:∀w,Calls prog 180 #[.int .i64 k] w (jT b1 false b3 true w))(hn:(n != 0)=false∨((n != 0)=true∧b1=true))(hf0:((f:Int) != 0)=true):
  Calls prog 116 #[.agg #[.int .i64 k,.int .i64 n,.int .u64 (f:Int),.string s]] w (gX 1 w):=by
 have HN:=zH hN;clear hN
 rcases hn with hn|⟨hn,rfl⟩
 all_goals
  exact Xk
theorem YI(hN:∀w,Calls prog 180 #[.int .i64 k] w (jT b1 b2 false true w))(hn:(n != 0)=false∨((n != 0)=true∧b1=true))(hf0:((f:Int) != 0)=false∨(((f:Int) != 0)=true∧b2=true))(hs:s.toList.isEmpty=false)(_hs2:¬s.toList=[]):
  Calls prog 116 #[.agg #[.int .i64 k,.int .i64 n,.int .u64 (f:Int),.string s]] w (gX 1 w):=by
 have HN:=zH hN;clear hN
 rcases hn with hn|⟨hn,rfl⟩<;>rcases hf0 with hf0|⟨hf0,rfl⟩
 all_goals
  exact Xk
theorem YK(hN:∀w,Calls prog 180 #[.int .i64 k] w (jT b1 b2 b3 true w))(hn:(n != 0)=false∨((n != 0)=true∧b1=true))(hf0:((f:Int) != 0)=false∨(((f:Int) != 0)=true∧b2=true))(hs:(s.toList.isEmpty=true∧s.toList=[])∨(s.toList.isEmpty=false∧¬s.toList=[]∧b3=true))(hf:f<18446744073709551616)(hm:((Num.M f:Int) != (f:Int))=true):
  Calls prog 116 #[.agg #[.int .i64 k,.int .i64 n,.int .u64 (f:Int),.string s]] w (gX 1 w):=by
 have HN:=zH hN;clear hN;have HM:Hid (∀w,Calls prog 181 #[.int .u64 (f:Int)] w fun e w'=>e=.returned (.int .u64 (Num.M f:Nat))∧w'=w):=zH fun w=>(iH f w hf).mono fun e w' ⟨h1,h2⟩=>⟨h1,h2.symm⟩
 clear hf
 rcases hn with hn|⟨hn,rfl⟩<;>rcases hf0 with hf0|⟨hf0,rfl⟩<;>rcases hs with ⟨hs,hs2⟩|⟨hs,hs2,rfl⟩
 all_goals
  exact abt
theorem YL(hN:∀w,Calls prog 180 #[.int .i64 k] w (jT b1 b2 b3 true w))(hn:(n != 0)=false∨((n != 0)=true∧b1=true))(hf0:((f:Int) != 0)=false∨(((f:Int) != 0)=true∧b2=true))(hs:(s.toList.isEmpty=true∧s.toList=[])∨(s.toList.isEmpty=false∧¬s.toList=[]∧b3=true))(hf:f<18446744073709551616)(hm:((Num.M f:Int) != (f:Int))=false)(hl:64<(s.size:Int)):
  Calls prog 116 #[.agg #[.int .i64 k,.int .i64 n,.int .u64 (f:Int),.string s]] w (gX 2 w):=by
 have HN:=zH hN;clear hN;have HM:Hid (∀w,Calls prog 181 #[.int .u64 (f:Int)] w fun e w'=>e=.returned (.int .u64 (Num.M f:Nat))∧w'=w):=zH fun w=>(iH f w hf).mono fun e w' ⟨h1,h2⟩=>⟨h1,h2.symm⟩
 clear hf
 rcases hn with hn|⟨hn,rfl⟩<;>rcases hf0 with hf0|⟨hf0,rfl⟩<;>rcases hs with ⟨hs,hs2⟩|⟨hs,hs2,rfl⟩
 all_goals
  exact abt
theorem YM(hN:∀w,Calls prog 180 #[.int .i64 k] w (jT b1 b2 b3 true w))(hn:(n != 0)=false∨((n != 0)=true∧b1=true))(hf0:((f:Int) != 0)=false∨(((f:Int) != 0)=true∧b2=true))(hs:(s.toList.isEmpty=true∧s.toList=[])∨(s.toList.isEmpty=false∧¬s.toList=[]∧b3=true))(hf:f<18446744073709551616)(hm:((Num.M f:Int) != (f:Int))=false)(hl:¬64<(s.size:Int)):
  Calls prog 116 #[.agg #[.int .i64 k,.int .i64 n,.int .u64 (f:Int),.string s]] w (gX 0 w):=by
 have HN:=zH hN;clear hN;have HM:Hid (∀w,Calls prog 181 #[.int .u64 (f:Int)] w fun e w'=>e=.returned (.int .u64 (Num.M f:Nat))∧w'=w):=zH fun w=>(iH f w hf).mono fun e w' ⟨h1,h2⟩=>⟨h1,h2.symm⟩
 clear hf
 rcases hn with hn|⟨hn,rfl⟩<;>rcases hf0 with hf0|⟨hf0,rfl⟩<;>rcases hs with ⟨hs,hs2⟩|⟨hs,hs2,rfl⟩
 all_goals
  exact abt
end
end
end Go.Proofs.YtieoeendnccafaaGreat
