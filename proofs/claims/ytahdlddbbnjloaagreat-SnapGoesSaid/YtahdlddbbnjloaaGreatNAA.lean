/- What a command is, whether it may be; requests' names, events, their items. No condition but those named. -/
import Derived.Test.YtahdlddbbnjloaaGreatNTK
set_option linter.unusedSimpArgs false
set_option linter.unusedVariables false
set_option maxRecDepth 100000
set_option maxHeartbeats 25600000
open Go.RowKit
namespace Go.Proofs.YtahdlddbbnjloaaGreat
open _root_.Go.Proofs.Tryz
namespace Num
def jW:Nat:=9223372036854775808
def inf:Nat:=9218868437227405312
def nan:Nat:=9221120237041090560
def M(b:Nat):Nat:=if inf<b%jW then nan else b
def rank(b:Nat):Nat:=if M b<jW then M b+jW else 18446744073709551615-M b
theorem qx{b:Nat}(h:b<18446744073709551616):M b<18446744073709551616:=by unfold M nan;split<;>omega
theorem DX{b:Nat}(h:inf<b%jW):M b=nan:=if_pos h
theorem wY{b:Nat}(h:¬inf<b%jW):M b=b:=if_neg h
theorem M_M(b:Nat):M (M b)=M b:=by
 by_cases h:inf<b%jW
 ·rw[DX h];rfl
 ·rw[wY h,wY h]
theorem KS(b:Nat):rank (M b)=rank b:=by unfold rank;rw[M_M]
theorem GN{a b:Nat}(ha:a<18446744073709551616)(hb:b<18446744073709551616)(h:rank a=rank b):M a=M b:=by
 have h1:=qx ha;have h2:=qx hb;unfold rank jW at h
 split at h<;>split at h<;>omega
def cmp(a b:Nat):Int:=if rank a<rank b then -1 else if rank b<rank a then 1 else 0
theorem Xj(a b:Nat):cmp a b = -cmp b a:=by
 unfold cmp;split<;>split<;>(try split)<;>(try split)<;>omega
theorem Mv{a b:Nat}:cmp a b≤0↔rank a≤rank b:=by
 unfold cmp;split
 ·constructor<;>intro<;>omega
 ·split
  ·constructor<;>intro<;>omega
  ·constructor<;>intro<;>omega
/- The bits, as the code asks them. -/
theorem Xe(b:Nat)(h:b<18446744073709551616):bits .andNot .u64 (b:Int) 9223372036854775808=((b%jW:Nat):Int):=by
 have h1:=u64_andNot_nat b 9223372036854775808 h (by decide);have h2:b &&& (18446744073709551615-9223372036854775808)=b%jW:=Nat.and_two_pow_sub_one_eq_mod b 63;rw[h2] at h1;exact h1
theorem Xy(b:Nat)(h:b<18446744073709551616):bits .and .u64 (b:Int) 9223372036854775808=((b / jW%2*jW:Nat):Int):=by
 have h1:=u64_and_nat b 9223372036854775808 h (by decide);have h2:b &&& 9223372036854775808=b / jW%2*jW:=nat_bit 63 b;rw[h2] at h1;exact h1
theorem Nz(b:Nat)(h:b<jW):bits .or .u64 (b:Int) 9223372036854775808=((b+jW:Nat):Int):=by
 have h1:=u64_or_nat b 9223372036854775808 (by unfold jW at h;omega) (by decide)
 have h2:b ||| 9223372036854775808=b+jW:=by
  rw[Nat.or_comm,nat_join 63 9223372036854775808 b (by decide) h];unfold jW;omega
 rw[h2] at h1;exact h1
theorem vB(b:Nat)(h:b<18446744073709551616):bits .xor .u64 18446744073709551615 (b:Int)=((18446744073709551615-b:Nat):Int):=by
 exact ahA
theorem Xz(b:Nat)(h:b<18446744073709551616):bits .and .u64 (b:Int) 4503599627370495=((b%4503599627370496:Nat):Int):=by
 have h1:=u64_and_nat b 4503599627370495 h (by decide);have h2:b &&& 4503599627370495=b%4503599627370496:=Nat.and_two_pow_sub_one_eq_mod b 52;rw[h2] at h1;exact h1
theorem abO(b:Nat)(h:b<18446744073709551616):bits .and .u64 (b:Int) 9218868437227405312=((b / 4503599627370496%2048*4503599627370496:Nat):Int):=by
 have h1:=u64_and_nat b 9218868437227405312 h (by decide)
 have h2:b &&& 9218868437227405312=b / 4503599627370496%2048*4503599627370496:=by
  have e1:b / 4503599627370496%2048*4503599627370496=((b >>> 52)%2 ^ 11) <<< 52:=by
   rw[Nat.shiftLeft_eq,Nat.shiftRight_eq_div_pow]
  have e2:9218868437227405312=(2 ^ 11-1) <<< 52:=by decide
  rw[e1,e2];apply Nat.eq_of_testBit_eq;intro j;rw[Nat.testBit_and,Nat.testBit_shiftLeft,Nat.testBit_shiftLeft,Nat.testBit_mod_two_pow,Nat.testBit_shiftRight,Nat.testBit_two_pow_sub_one];by_cases hj:52≤j
  ·have e3:52+(j-52)=j:=by omega
   rw[e3];simp only[ge_iff_le,hj,decide_true,Bool.true_and];exact Bool.and_comm _ _
  ·simp[hj]
 rw[h2] at h1;exact h1
theorem Vi(b:Nat):(b / 4503599627370496%2048*4503599627370496=9218868437227405312∧b%4503599627370496≠0)↔inf<b%jW:=by
 unfold inf jW;omega
/- Floats. -/
open Ieee
theorem Ci:double.binade=4503599627370496:=by decide +kernel
theorem OX:double.infRung=inf:=by decide +kernel
theorem adO:double.signWeight=jW:=by decide +kernel
theorem FR:double.leastPlace = -1074:=by decide +kernel
def rd(neg:Bool)(rung:Nat):Datum:=
 if rung<4503599627370496 then .number neg rung (-1074)
 else if rung<inf then .number neg (4503599627370496+rung%4503599627370496) (-1074+(rung / 4503599627370496-1:Nat))
 else if rung=inf then .infinity neg
 else .nan neg (rung-inf)
def isNeg(b:Nat):Bool:=b / jW%2==1
theorem zx(b:Nat):double.read b=rd (isNeg b) (b%jW):=by
 unfold Format.read rd isNeg;rw[Ci,OX,adO,FR]
theorem Ux{b:Nat}(h:inf<b%jW):∃s t,double.read b=.nan s t:=by
 rw[zx];unfold rd;rw[if_neg (by unfold inf at h;omega),if_neg (by omega),if_neg (by omega)];exact⟨_,_,rfl⟩
theorem aeU{b:Nat}(h:b%jW=inf):double.read b=.infinity (isNeg b):=by
 rw[zx];unfold rd;rw[if_neg (by rw[h];decide),if_neg (by omega),if_pos h]
theorem ER(s:Bool){p:Int}:double.nearest s 0 p=double.word s 0:=by unfold Format.nearest;rw[if_pos rfl]
theorem aaj{n k:Nat}(h1:2 ^ k≤n)(h2:n<2 ^ (k+1)):n.log2=k:=by
 have hn:n≠0:=by have:=Nat.two_pow_pos k;omega
 exact(Nat.log2_eq_iff hn).2 ⟨h1,h2⟩
theorem ES(s:Bool){m:Nat}{e:Nat}(h1:4503599627370496≤m)(h2:m<9007199254740992):
  double.nearest s (m <<< e) (-1074)=double.word s (min (e*4503599627370496+m) inf):=by
 have hp:=Nat.two_pow_pos e
 have afM:(m <<< e).log2=52+e:=by
  refine aaj ?_ ?_
  ·rw[Nat.shiftLeft_eq,Nat.pow_add];exact Nat.mul_le_mul_right _ h1
  ·rw[Nat.shiftLeft_eq,show 52+e+1=53+e from by omega,Nat.pow_add];exact Nat.mul_lt_mul_of_pos_right h2 hp
 have hne:¬m <<< e=0:=by
  rw[Nat.shiftLeft_eq];intro h
  rcases Nat.mul_eq_zero.1 h with h|h<;>omega
 unfold Format.nearest;rw[if_neg hne,afM,FR,OX,Ci];have hf:double.fractionBits=52:=rfl;rw[hf];have hmax:max ((-1074:Int)+((52+e:Nat):Int)-((52:Nat):Int)) (-1074) = -1074+e:=by omega
 simp only[hmax];have a1:((-1074:Int)-(-1074+(e:Int))).toNat=0:=by omega
 have a2:((-1074+(e:Int))-(-1074)).toNat=e:=by omega
 rw[a1,a2]
 have hcut:Toward.even.cut s (m <<< e <<< 0) e=m:=by
  unfold Toward.cut
  have g:(1 <<< min e ((m <<< e <<< 0).log2+2))=2 ^ e:=by
   rw[Nat.shiftLeft_zero,afM,Nat.min_eq_left (by omega),Nat.shiftLeft_eq,Nat.one_mul]
  simp only[g];rw[Nat.shiftLeft_zero,Nat.shiftLeft_eq,Nat.mul_div_cancel _ hp,Nat.mul_mod_left];have c1:decide (2 ^ e<2*0)=false:=by simp
  have c2:(2 ^ e==2*0)=false:=by rw[beq_eq_false_iff_ne];omega
  rw[c1,c2];rfl
 rw[hcut]
theorem Ho(s:Bool)(m:Nat)(h0:m≠0)(h2:m<4503599627370496):
  double.nearest s m (-1074)=double.word s m:=by
 have afM:m.log2<52:=(Nat.log2_lt h0).2 h2;unfold Format.nearest;rw[if_neg h0,FR,OX,Ci];have hf:double.fractionBits=52:=rfl;rw[hf];have hmax:max ((-1074:Int)+(m.log2:Int)-((52:Nat):Int)) (-1074) = -1074:=by omega
 simp only[hmax];have a1:((-1074:Int)-(-1074)).toNat=0:=by decide
 rw[a1]
 have hcut:Toward.even.cut s (m <<< 0) 0=m:=by
  unfold Toward.cut;have g:(1 <<< min 0 ((m <<< 0).log2+2))=1:=by rw[Nat.zero_min];rfl
  simp only[g];rw[Nat.shiftLeft_zero,Nat.div_one,Nat.mod_one]
  rfl
 rw[hcut,Nat.zero_mul,Nat.zero_add,Nat.min_eq_left (by unfold inf;omega)]
theorem aeV{rung:Nat}(h:rung<inf):∃m i,-1074≤i∧(∀s,rd s rung=.number s m i)∧∀s,double.nearest s (m <<< (i-(-1074)).toNat) (-1074)=double.word s rung:=by
 by_cases hs:rung<4503599627370496
 ·refine⟨rung,-1074,by omega,fun s=>by unfold rd;rw[if_pos hs],fun s=>?_⟩
  have a1:((-1074:Int)-(-1074)).toNat=0:=by decide
  rw[a1,Nat.shiftLeft_zero];by_cases h0:rung=0
  ·subst h0;exact ER s
  ·exact Ho s rung h0 hs
 ·refine⟨4503599627370496+rung%4503599627370496,-1074+(rung / 4503599627370496-1:Nat),by omega,fun s=>by unfold rd;rw[if_neg hs,if_pos h],fun s=>?_⟩
  have a1:((-1074+((rung / 4503599627370496-1:Nat):Int))-(-1074)).toNat=rung / 4503599627370496-1:=by omega
  rw[a1,ES s (by omega) (by omega)]
  congr 1
  rw[Nat.min_eq_left (by unfold inf at *;omega)];omega
theorem YN(s:Bool)(r:Nat):double.word s r=if s then jW+r else r:=by unfold Format.word;rw[adO]
theorem CG{b:Nat}(h:b<18446744073709551616):double.word (isNeg b) (b%jW)=b:=by
 rw[YN];unfold isNeg jW
 split<;>rename_i hb<;>simp only[beq_iff_eq] at hb<;>omega
def S(u v:Nat):Nat:=match double.add u v with
 | some r=>M r
 | none=>nan
def XK(u v r:Nat):Prop:=double.add u v=some r∨(double.add u v=none∧inf<r%jW)
theorem XK.eq{u v r:Nat}(h:XK u v r):M r=S u v:=by
 unfold S
 rcases h with h|⟨h,h2⟩
 ·rw[h]
 ·rw[h,DX h2]
theorem adz(b:Nat):(inf<M b%jW)↔inf<b%jW:=by
 by_cases h:inf<b%jW
 ·rw[DX h];exact⟨fun _=>h,fun _=>by decide⟩
 ·rw[wY h]
theorem DV{u v:Nat}(h:inf<u%jW):double.add u v=none:=by
 obtain⟨s,t,h1⟩:=Ux h;unfold Format.add;rw[h1];rfl
theorem yu{u v:Nat}(h:inf<v%jW):double.add u v=none:=by
 obtain⟨s,t,h1⟩:=Ux h;unfold Format.add;rw[h1];cases double.read u<;>rfl
theorem S_M(a b:Nat):S (M a) (M b)=S a b:=by
 by_cases ha:inf<a%jW
 ·unfold S;rw[DV ha,DV ((adz a).2 ha)]
 ·by_cases hb:inf<b%jW
  ·unfold S;rw[yu hb,yu ((adz b).2 hb)]
  ·rw[wY ha,wY hb]
theorem TA(x y:Datum):x.sum y=y.sum x:=by
 cases x<;>cases y<;>try rfl
 ·rename_i s m i t n j
  unfold Datum.sum;have e1:min i j=min j i:=Int.min_comm _ _;simp only[e1];have e2:signed s m (i-min j i).toNat+signed t n (j-min j i).toNat=signed t n (j-min j i).toNat+signed s m (i-min j i).toNat:=Int.add_comm _ _;simp only[e2,Bool.and_comm s t]
 ·rename_i s t
  show(if s=t then some (Datum.infinity s) else none)=(if t=s then some (Datum.infinity t) else none)
  by_cases h:s=t
  ·subst h;rfl
  ·rw[if_neg h,if_neg (fun e=>h e.symm)]
theorem XH(a b:Nat):S a b=S b a:=by unfold S Format.add;rw[TA]
theorem ajB(a:Nat):S a nan=nan:=by unfold S;rw[yu (by decide)]
theorem Pe(s:Bool):double.write (.infinity s)=double.word s inf:=by show double.word s double.infRung=_;rw[OX]
theorem GH{b:Nat}(h:b%jW<inf):∃m i,-1074≤i∧double.read b=.number (isNeg b) m i∧(∀c,c%jW=b%jW→double.read c=.number (isNeg c) m i)∧∀s,double.nearest s (m <<< (i-(-1074)).toNat) (-1074)=double.word s (b%jW):=by
 obtain⟨m,i,hi,hr,hn⟩:=aeV h;exact⟨m,i,hi,by rw[zx,hr],fun c hc=>by rw[zx,hc,hr],hn⟩
theorem aaF{a b:Nat}(h:a<18446744073709551616)(hi:a%jW=inf)(hb:b%jW<inf):S a b=a:=by
 have h1:double.add a b=some a:=by
  obtain⟨m,i,-,hr,-⟩:=GH hb;unfold Format.add;rw[aeU hi,hr]
  show Option.map double.write (some (Datum.infinity (isNeg a)))=_
  rw[Option.map_some,Pe,← hi,CG h]
 unfold S;rw[h1];exact wY (by omega)
theorem Cm:double.read jW=.number true 0 (-1074):=by decide +kernel
theorem WG{a:Nat}(h:a<18446744073709551616)(ha:a%jW<inf):S a jW=a:=by
 have h1:double.add a jW=some a:=by
  obtain⟨m,i,hi,hr,-,hn⟩:=GH ha;have hm:min i (-1074) = -1074:=by omega
  unfold Format.add;rw[hr,Cm];obtain⟨V,hV⟩:∃V,V=m <<< (i-(-1074)).toNat:=⟨_,rfl⟩
  have ht:signed (isNeg a) m (i-min i (-1074)).toNat+signed true 0 ((-1074)-min i (-1074)).toNat=if isNeg a then -(V:Int) else (V:Int):=by
   unfold signed;rw[hm,← hV];cases isNeg a<;>simp
  show Option.map double.write (some (.number (if signed (isNeg a) m (i-min i (-1074)).toNat+signed true 0 ((-1074)-min i (-1074)).toNat=0 then isNeg a&&true else decide (signed (isNeg a) m (i-min i (-1074)).toNat+signed true 0 ((-1074)-min i (-1074)).toNat<0)) (signed (isNeg a) m (i-min i (-1074)).toNat+signed true 0 ((-1074)-min i (-1074)).toNat).natAbs (min i (-1074))))=_
  rw[ht,hm,Option.map_some]
  show some (double.nearest _ _ _)=_
  have hs:(if (if isNeg a then -(V:Int) else (V:Int))=0 then isNeg a&&true else decide ((if isNeg a then -(V:Int) else (V:Int))<0))=isNeg a:=by
   cases isNeg a
   ·simp
   ·by_cases hz:V=0
    ·simp[hz]
    ·simp only[if_true];rw[if_neg (by omega)];exact decide_eq_true (by omega)
  have ha2:(if isNeg a then -(V:Int) else (V:Int)).natAbs=V:=by cases isNeg a<;>simp
  rw[hs,ha2,hV,hn,CG h]
 unfold S;rw[h1];exact wY (by omega)
theorem add_zero{a:Nat}(h:a<18446744073709551616)(hm:M a=a):S a jW=a:=by
 by_cases h1:inf<a%jW
 ·have:a=nan:=by rw[DX h1] at hm;exact hm.symm
  subst this;rw[XH,ajB]
 ·by_cases h2:a%jW=inf
  ·exact aaF h h2 (by decide)
  ·exact WG h (by omega)
/- Whole numbers. -/
def rnd(g n:Nat):Nat:=n / g+(decide (g<2*(n%g)) || (g==2*(n%g)&&n / g%2==1)).toNat
def kept(L n:Nat):Nat:=rnd (2 ^ (L-52)) (n*2 ^ (52-L))
def rung(n:Nat):Nat:=if n=0 then 0 else min ((n.log2+1022)*4503599627370496+kept n.log2 n) inf
def ofInt(n:Int):Nat:=double.write (.number (n<0) n.natAbs 0)
end Num
section
namespace Val
structure V where
 k:Int
 n:Int
 f:Nat
 s:ByteArray
def aX(v:V):Int:=
 if v.k<0∨3<v.k then 1
 else if v.n≠0∧v.k≠1 then 1
 else if v.f≠0∧v.k≠2 then 1
 else if v.s.size≠0∧v.k≠3 then 1
 else if Num.M v.f≠v.f then 1
 else if 64<v.s.size then 2 else 0
def emp:ByteArray:=⟨#[]⟩
def zero:V:=⟨0,0,0,emp⟩
theorem mg{s:ByteArray}(h:s.size=0):s=emp:=by
 apply ByteArray.ext;exact Array.eq_empty_of_size_eq_zero h
theorem sU{v:V}(h:aX v=0):v=⟨0,0,0,emp⟩∨v=⟨1,v.n,0,emp⟩∨(v=⟨2,0,v.f,emp⟩∧Num.M v.f=v.f)∨(v=⟨3,0,0,v.s⟩∧v.s.size≤64):=by
 obtain⟨k,n,f,s⟩:=v;unfold aX at h;simp only at h ⊢
 split at h
 ·cases h
 split at h
 ·cases h
 split at h
 ·cases h
 split at h
 ·cases h
 split at h
 ·cases h
 split at h
 ·cases h
 next h1 h2 h3 h4 h5 h6=>
 have h5:Num.M f=f:=Decidable.byContradiction h5;have hk:k=0∨k=1∨k=2∨k=3:=by omega
 rcases hk with rfl|rfl|rfl|rfl
 ·obtain rfl:n=0:=by omega
  obtain rfl:f=0:=by omega
  obtain rfl:=mg (s:=s) (by omega);exact .inl rfl
 ·obtain rfl:f=0:=by omega
  obtain rfl:=mg (s:=s) (by omega);exact .inr (.inl rfl)
 ·obtain rfl:n=0:=by omega
  obtain rfl:=mg (s:=s) (by omega);exact .inr (.inr (.inl ⟨rfl,h5⟩))
 ·obtain rfl:n=0:=by omega
  obtain rfl:f=0:=by omega
  exact .inr (.inr (.inr ⟨rfl,by omega⟩))
theorem FJ:Num.M 0=0:=by decide
theorem Jg:aX zero=0:=by
 unfold aX zero;rw[if_neg (by decide),if_neg (by decide),if_neg (by decide),if_neg (by decide),if_neg (by decide),if_neg (by decide)]
theorem IW:emp.size=0:=rfl
theorem OI(n:Int):aX ⟨1,n,0,emp⟩=0:=by
 unfold aX;rw[if_neg (show ¬((1:Int)<0∨3<(1:Int)) by decide),if_neg (by simp),if_neg (by simp),if_neg (by intro h;exact h.1 rfl),if_neg (by rw[FJ];simp),if_neg (by rw[IW];decide)]
theorem RA{f:Nat}(h:Num.M f=f):aX ⟨2,0,f,emp⟩=0:=by
 unfold aX;rw[if_neg (show ¬((2:Int)<0∨3<(2:Int)) by decide),if_neg (by simp),if_neg (by simp),if_neg (by intro h;exact h.1 rfl),if_neg (by rw[h];simp),if_neg (by rw[IW];decide)]
theorem Xl(s:ByteArray):aX ⟨3,0,0,s⟩=if 64<s.size then 2 else 0:=by
 unfold aX;rw[if_neg (show ¬((3:Int)<0∨3<(3:Int)) by decide),if_neg (by simp),if_neg (by simp),if_neg (by simp),if_neg (by rw[FJ];simp)]
def sg(f:Nat):Int:=if f<9223372036854775808 then f else (f:Int)-18446744073709551616
def us(n:Int):Nat:=(n%18446744073709551616).toNat
theorem acV{f:Nat}(h:f<18446744073709551616):us (sg f)=f:=by unfold us sg;split<;>omega
instance:DecidableEq V:=fun a b=>decidable_of_iff (a.k=b.k∧a.n=b.n∧a.f=b.f∧a.s=b.s) ⟨fun h=>by
 obtain⟨k,n,f,s⟩:=a;obtain⟨k',n',f',s'⟩:=b;obtain⟨rfl,rfl,rfl,rfl⟩:=h
 rfl,fun h=>by rw[h];exact⟨rfl,rfl,rfl,rfl⟩⟩
theorem str_inj{a b:ByteArray}(h:a.toList=b.toList):a=b:=by
 exact acD
theorem YX{a b:ByteArray}:a=b↔a.toList=b.toList:=⟨fun h=>by rw[h],str_inj⟩
end Val
end
section
namespace au
structure Rp where
 e:Int
 v:Val.V
 deriving DecidableEq
def rep(r:Rp):Bool:=decide (0≤r.e)&&decide (r.e≤18)&&decide (Val.aX r.v=0)
def rz:Rp:=⟨0,⟨0,0,0,⟨#[]⟩⟩⟩
def err(e:Int):Rp:=⟨e,⟨0,0,0,⟨#[]⟩⟩⟩
end au
end
section
namespace aQ
structure Pr where
 key:ByteArray
 val:Val.V
open Go.Op in
theorem DT:∀a:List UInt8,bytesLess a a=false
 | []=>rfl
 | x::r=>by
  unfold bytesLess;rw[DT r];simp
open Go.Op in
theorem Jm:∀a b c:List UInt8,bytesLess a b=true→bytesLess b c=true→bytesLess a c=true
 | _,[],_,h,_=>by cases ‹List UInt8› <;> simp[bytesLess] at h
 | _,_::_,[],_,h=>by simp[bytesLess] at h
 | [],_::_,_::_,_,_=>rfl
 | x::a,y::b,z::c,h1,h2=>by
  simp only[bytesLess,Bool.or_eq_true,Bool.and_eq_true,decide_eq_true_eq,beq_iff_eq] at h1 h2 ⊢
  rcases h1 with h1|⟨rfl,h1⟩<;>rcases h2 with h2|⟨rfl,h2⟩
  ·exact .inl (UInt8.lt_trans h1 h2)
  ·exact .inl h1
  ·exact .inl h2
  ·exact .inr ⟨rfl,Jm a b c h1 h2⟩
open Go.Op in
theorem Xt:∀a b:List UInt8,bytesLess a b=true∨a=b∨bytesLess b a=true
 | [],[]=>.inr (.inl rfl)
 | [],_::_=>.inl rfl
 | _::_,[]=>.inr (.inr rfl)
 | x::a,y::b=>by
  simp only[bytesLess,Bool.or_eq_true,Bool.and_eq_true,decide_eq_true_eq,beq_iff_eq];by_cases h1:x<y
  ·exact .inl (.inl h1)
  by_cases h2:y<x
  ·exact .inr (.inr (.inl h2))
  have e:x=y:=by
   apply UInt8.toNat_inj.1;have h1':¬x.toNat<y.toNat:=h1;have h2':¬y.toNat<x.toNat:=h2;omega
  subst e
  rcases Xt a b with h|h|h
  ·exact .inl (.inr ⟨rfl,h⟩)
  ·exact .inr (.inl (by rw[h]))
  ·exact .inr (.inr (.inr ⟨rfl,h⟩))
def lt(a b:ByteArray):Bool:=Go.Op.bytesLess a.toList b.toList
theorem toList_inj{a b:ByteArray}(h:a.toList=b.toList):a=b:=by
 exact acD
theorem eq_iff{a b:ByteArray}:a=b↔a.toList=b.toList:=⟨fun h=>by rw[h],toList_inj⟩
theorem lt_irrefl(a:ByteArray):lt a a=false:=DT _
theorem lt_trans{a b c:ByteArray}(h1:lt a b=true)(h2:lt b c=true):lt a c=true:=Jm _ _ _ h1 h2
theorem Bb(a b:ByteArray):lt a b=true∨a=b∨lt b a=true:=by
 rcases Xt a.toList b.toList with h|h|h
 ·exact .inl h
 ·exact .inr (.inl (toList_inj h))
 ·exact .inr (.inr h)
theorem qM{a b:ByteArray}(h:lt a b=true):¬a=b:=fun e=>by rw[e,lt_irrefl] at h;cases h
theorem lt_asymm{a b:ByteArray}(h:lt a b=true):lt b a=false:=by
 cases hb:lt b a with
 | false=>rfl
 | true=>have:=lt_trans h hb;rw[lt_irrefl] at this;cases this
def jG(k:ByteArray)(v:Val.V):Int:=if v.k=0 then 1 else if 64<k.size then 2 else Val.aX v
def Up(l:List Pr):Prop:=l.Pairwise fun a b=>lt a.key b.key=true
structure Right(l:List Pr):Prop where
 len:l.length≤8
 ok:∀x∈l,jG x.key x.val=0
 up:Up l
def Good(l:List Pr)(i:Nat):Prop:=∀x,l[i]?=some x→jG x.key x.val=0∧∀j y,i=j+1→l[j]?=some y→lt y.key x.key=true
theorem Td{l:List Pr}(h:∀i x y,l[i]?=some x→l[i+1]?=some y→lt x.key y.key=true):Up l:=by
 induction l with
 | nil=>exact List.Pairwise.nil
 | cons a r ih=>
  have hr:=ih fun i x y hx hy=>h (i+1) x y (by simpa using hx) (by simpa using hy)
  refine List.Pairwise.cons (fun b hb=>?_) hr
  match r,hb,hr,h with
  | c::r',hb,hr,h=>
   have h0:=h 0 a c rfl rfl
   rcases List.mem_cons.1 hb with rfl|hb
   ·exact h0
   ·exact lt_trans h0 ((List.pairwise_cons.1 hr).1 b hb)
theorem kP(l:List Pr):Right l↔l.length≤8∧∀i,i<l.length→Good l i:=by
 constructor
 ·intro h
  exact ahy
 ·intro h
  refine⟨h.1,fun x hx=>?_,Td fun i x y hx hy=>?_⟩
  ·obtain⟨i,hi,e⟩:=List.getElem_of_mem hx
   exact(h.2 i hi x (by rw[List.getElem?_eq_getElem hi,e])).1
  ·exact(h.2 (i+1) (List.getElem?_eq_some_iff.1 hy).1 y hy).2 i x rfl hx
theorem iN:Right []:=⟨by simp,fun x hx=>by simp at hx,List.Pairwise.nil⟩
def iV:List Pr→ByteArray→Option Val.V
 | [],_=>none
 | x::r,k=>if x.key=k then some x.val else iV r k
def wo(l:List Pr)(k:ByteArray):List Pr:=l.filter fun p=>!decide (p.key=k)
def idx:List Pr→ByteArray→Nat
 | [],_=>0
 | x::r,k=>if lt x.key k=true then idx r k+1 else 0
def fin(l:List Pr)(k:ByteArray):Nat:=match l[idx l k]? with
 | some x=>if x.key=k then idx l k+1 else idx l k
 | none=>idx l k
theorem qj(l:List Pr)(k:ByteArray):idx l k≤l.length:=by
 induction l with
 | nil=>exact Nat.le_refl _
 | cons x r ih=>unfold idx;split<;>simp<;>omega
theorem xU{l:List Pr}{k:ByteArray}{i:Nat}{x:Pr}(h:i<idx l k)(hx:l[i]?=some x):lt x.key k=true:=by
 induction l generalizing i with
 | nil=>simp at hx
 | cons y r ih=>
  unfold idx at h
  split at h
  next hy=>
   match i,h,hx with
   | 0,_,hx=>simp at hx;subst hx;exact hy
   | i+1,h,hx=>exact ih (i:=i) (Nat.lt_of_succ_lt_succ h) (by simpa using hx)
  ·omega
theorem xV{l:List Pr}{k:ByteArray}{x:Pr}(hx:l[idx l k]?=some x):lt x.key k=false:=by
 induction l with
 | nil=>simp at hx
 | cons y r ih=>
  unfold idx at hx
  split at hx
  ·exact ih (by simpa using hx)
  next hy=>simp at hx;subst hx;simpa using hy
theorem Bq{l:List Pr}{k:ByteArray}{i:Nat}(h1:∀j x,j<i→l[j]?=some x→lt x.key k=true)(hi:i≤l.length)(h2:∀x,l[i]?=some x→lt x.key k=false):idx l k=i:=by
 rcases Nat.lt_trichotomy (idx l k) i with h|h|h
 ·obtain⟨x,hx⟩:∃x,l[idx l k]?=some x:=⟨_,List.getElem?_eq_getElem (by omega)⟩
  have e1:=h1 _ x h hx;rw[xV hx] at e1;cases e1
 ·exact h
 ·have hle:=qj l k
  obtain⟨x,hx⟩:∃x,l[i]?=some x:=⟨_,List.getElem?_eq_getElem (by omega)⟩;have e1:=xU h hx;rw[h2 x hx] at e1;cases e1
theorem BH(l:List Pr)(k:ByteArray):idx l k≤fin l k∧fin l k≤l.length:=by
 have h:=qj l k;unfold fin
 split
 next x hx=>
  have:=(List.getElem?_eq_some_iff.1 hx).1
  split<;>omega
 next=>omega
theorem jP{x:Pr}{r:List Pr}{k:ByteArray}(h:lt x.key k=true):idx (x::r) k=idx r k+1∧fin (x::r) k=fin r k+1:=by
 have e:idx (x::r) k=idx r k+1:=by conv=>lhs;unfold idx;rw[if_pos h]
 refine⟨e,?_⟩;unfold fin;rw[e,List.getElem?_cons_succ]
 split<;>(try split)<;>rfl
theorem nK{x:Pr}{r:List Pr}:idx (x::r) x.key=0∧fin (x::r) x.key=1:=by
 have e:idx (x::r) x.key=0:=by unfold idx;rw[if_neg (by rw[lt_irrefl];simp)]
 refine⟨e,?_⟩;unfold fin;rw[e];simp
theorem jQ{x:Pr}{r:List Pr}{k:ByteArray}(h:lt k x.key=true):idx (x::r) k=0∧fin (x::r) k=0:=by
 have e:idx (x::r) k=0:=by unfold idx;rw[if_neg (by rw[lt_asymm h];simp)]
 refine⟨e,?_⟩;unfold fin;rw[e];have hne:¬x.key=k:=fun e=>qM h e.symm
 simp[hne]
theorem ru{l:List Pr}{k:ByteArray}(h:∀x∈l,¬x.key=k):wo l k=l:=by
 unfold wo;rw[List.filter_eq_self];intro x hx;simp[h x hx]
theorem xY{l:List Pr}{k:ByteArray}(h:∀x∈l,¬x.key=k):iV l k=none:=by
 induction l with
 | nil=>rfl
 | cons x r ih=>
  exact acK
theorem above{x:Pr}{r:List Pr}(h:Up (x::r)){k:ByteArray}(hk:x.key=k∨lt k x.key=true):∀y∈r,lt k y.key=true:=fun y hy=>by
 have h1:=(List.pairwise_cons.1 h).1 y hy
 rcases hk with rfl|hk
 ·exact h1
 ·exact lt_trans hk h1
theorem xW{l:List Pr}{k:ByteArray}(h:∀y∈l,lt k y.key=true):idx l k=0:=by
 match l,h with
 | [],_=>rfl
 | x::r,h=>exact(jQ (h x (List.mem_cons_self ..))).1
theorem je{l:List Pr}(h:Up l)(k:ByteArray):l.take (idx l k)++l.drop (fin l k)=wo l k∧idx (wo l k) k=idx l k∧(iV l k=if fin l k=idx l k then none else (l[idx l k]?).map (·.val))∧fin l k≤idx l k+1:=by
 induction l with
 | nil=>exact⟨rfl,rfl,rfl,Nat.le_succ 0⟩
 | cons x r ih=>
  obtain⟨i1,i2,i3,i4⟩:=ih (List.pairwise_cons.1 h).2
  rcases Bb x.key k with hk|hk|hk
  ·obtain⟨e1,e2⟩:=jP (r:=r) hk
   have hne:=qM hk;have ew:wo (x::r) k=x::wo r k:=by unfold wo;rw[List.filter_cons_of_pos (by simp[hne])]
   refine⟨?_,?_,?_,by omega⟩
   ·rw[e1,e2,ew,List.take_succ_cons,List.drop_succ_cons,aS,i1]
   ·rw[ew,(jP hk).1,i2,e1]
   ·rw[e1,e2,List.getElem?_cons_succ]
    have ef:iV (x::r) k=iV r k:=by conv=>lhs;unfold iV;rw[if_neg hne]
    rw[ef,i3];by_cases hh:fin r k=idx r k
    ·rw[if_pos hh,if_pos (by omega)]
    ·rw[if_neg hh,if_neg (by omega)]
  ·subst hk
   obtain⟨e1,e2⟩:=nK (x:=x) (r:=r);have hab:=above h (.inl rfl);have hr:wo r x.key=r:=ru fun y hy e=>qM (hab y hy) e.symm
   have ew:wo (x::r) x.key=r:=by unfold wo;rw[List.filter_cons_of_neg (by simp)];exact hr
   refine⟨?_,?_,?_,by omega⟩
   ·rw[e1,e2,ew];rfl
   ·rw[ew,e1];exact xW hab
   ·rw[e1,e2];unfold iV;simp
  ·obtain⟨e1,e2⟩:=jQ (r:=r) hk
   have hab:=above h (.inr hk)
   have hne:∀y∈x::r,¬y.key=k:=fun y hy e=>by
    rcases List.mem_cons.1 hy with rfl|hy
    ·exact qM hk e.symm
    ·exact qM (hab y hy) e.symm
   exact aco
def ins(l:List Pr)(k:ByteArray)(v:Val.V):List Pr:=l.take (idx l k)++[⟨k,v⟩]++l.drop (fin l k)
theorem zl{l:List Pr}(h:Up l)(k:ByteArray):(wo l k).take (idx l k)=l.take (idx l k)∧(wo l k).drop (idx l k)=l.drop (fin l k):=by
 have e:=(je h k).1;have hl:(l.take (idx l k)).length=idx l k:=by rw[List.length_take];have:=qj l k;omega
 rw[← e]
 constructor
 ·exact List.take_left' hl
 ·exact List.drop_left' hl
theorem afI{l:List Pr}(h:Up l)(k:ByteArray)(v:Val.V):(wo l k).take (idx (wo l k) k)++[⟨k,v⟩]++(wo l k).drop (idx (wo l k) k)=ins l k v:=by
 rw[(je h k).2.1,(zl h k).1,(zl h k).2];rfl
theorem Na{l:List Pr}(h:Up l)(k:ByteArray):Up (wo l k):=List.Pairwise.filter _ h
theorem xw{l:List Pr}{k:ByteArray}{x:Pr}:x∈wo l k↔x∈l∧¬x.key=k:=by
 unfold wo;rw[List.mem_filter];simp
theorem og{l:List Pr}(h:Right l)(k:ByteArray):Right (wo l k):=
 ⟨Nat.le_trans (List.length_filter_le _ _) h.len,fun x hx=>h.ok x (xw.1 hx).1,Na h.up k⟩
theorem afJ{l:List Pr}(h:Up l)(k:ByteArray)(v:Val.V):Up (ins l k v):=by
 have hw:=Na h k;obtain⟨e1,e2⟩:=zl h k
 have hm:∀{x},x∈l.take (idx l k)→lt x.key k=true:=fun hx=>by
  obtain⟨i,hi,e⟩:=List.getElem_of_mem hx;rw[List.getElem_take] at e;rw[List.length_take] at hi;exact xU (l:=l) (i:=i) (by omega) (by rw[List.getElem?_eq_getElem (by omega),e])
 have hd:∀{x},x∈l.drop (fin l k)→lt k x.key=true:=fun {x} hx=>by
  have hxw:x∈wo l k:=by rw[← (je h k).1];exact List.mem_append_right _ hx
  rcases Bb x.key k with hk|hk|hk
  ·exfalso
   obtain⟨i,hi,e⟩:=List.getElem_of_mem hx;rw[List.getElem_drop] at e;rw[List.length_drop] at hi;have hle:=BH l k;obtain⟨y,hy⟩:∃y,l[idx l k]?=some y:=⟨_,List.getElem?_eq_getElem (by omega)⟩;have h1:=xV hy;have h2:l[fin l k+i]?=some x:=by rw[List.getElem?_eq_getElem (by omega),e]
   by_cases hc:fin l k+i=idx l k
   ·rw[hc,hy] at h2
    injection h2 with h2;rw[h2,hk] at h1;cases h1
   ·obtain⟨g1,q1⟩:=List.getElem?_eq_some_iff.1 hy
    obtain⟨g2,q2⟩:=List.getElem?_eq_some_iff.1 h2;have:=(List.pairwise_iff_getElem.1 h) _ _ g1 g2 (by omega);rw[q1,q2] at this;have:=lt_trans this hk;rw[h1] at this;cases this
  ·exact absurd hk (xw.1 hxw).2
  ·exact hk
 unfold ins Up;rw[List.append_assoc,List.pairwise_append];refine⟨h.sublist (List.take_sublist _ _),?_,fun a ha b hb=>?_⟩
 ·exact List.Pairwise.cons (fun b hb=>hd hb) (h.sublist (List.drop_sublist _ _))
 ·rcases List.mem_append.1 hb with hb|hb
  ·rw[List.mem_singleton] at hb;subst hb;exact hm ha
  ·exact lt_trans (hm ha) (hd hb)
theorem Ik{l:List Pr}(h:Up l)(k:ByteArray)(v:Val.V):(ins l k v).Perm (wo l k++[⟨k,v⟩]):=by
 unfold ins;rw[← (je h k).1,List.append_assoc,List.append_assoc];exact SG
theorem QS{l:List Pr}(h:Right l){k:ByteArray}{v:Val.V}(hv:jG k v=0)(hn:(wo l k).length<8):Right (ins l k v):=by
 have hp:=Ik h.up k v;refine⟨?_,fun x hx=>?_,afJ h.up k v⟩
 ·rw[hp.length_eq,List.length_append];exact hn
 ·rcases List.mem_append.1 (hp.mem_iff.1 hx) with hx|hx
  ·exact h.ok x (xw.1 hx).1
  ·rw[List.mem_singleton] at hx;subst hx;exact hv
def Apart(l:List Pr):Prop:=l.Pairwise fun a b=>¬a.key=b.key
theorem Bz{l:List Pr}{k:ByteArray}{v:Val.V}(h:iV l k=some v):∃x∈l,x.key=k∧x.val=v:=by
 induction l with
 | nil=>cases h
 | cons y r ih=>
  unfold iV at h
  split at h
  next hy=>injection h with h;exact⟨y,List.mem_cons_self ..,hy,h⟩
  ·obtain⟨x,hx,e⟩:=ih h;exact⟨x,List.mem_cons_of_mem _ hx,e⟩
instance (l:List Pr):Decidable (Right l):=decidable_of_iff (l.length≤8∧(∀x∈l,jG x.key x.val=0)∧l.Pairwise (fun(a b:Pr)=>lt a.key b.key=true)) ⟨fun h=>⟨h.1,h.2.1,h.2.2⟩,fun h=>⟨h.len,h.ok,h.up⟩⟩
def emp:Val.V:=⟨0,0,0,⟨#[]⟩⟩
def sJ(l:List Pr)(k:ByteArray):Val.V:=if Right l then (iV l k).getD emp else emp
def uZ(l:List Pr)(k:ByteArray):Int:=if Right l then (if (iV l k).isSome then 0 else 5) else 1
def vR(l:List Pr)(k:ByteArray)(v:Val.V):Int:=if Right l then (if jG k v=0 then (if (wo l k).length<8 then 0 else 6) else jG k v) else 1
def yI(l:List Pr)(k:ByteArray)(v:Val.V):List Pr:=if vR l k v=0 then ins l k v else l
def Xg(l:List Pr)(k:ByteArray):List Pr:=if uZ l k=0 then wo l k else l
def CS(l:List Pr)(k:ByteArray)(o v:Val.V):Int:=if Right l then (if sJ l k=o then (if v=emp then 0 else vR l k v) else 9) else 1
def Kl(l:List Pr)(k:ByteArray)(o:Val.V):Val.V:=if sJ l k=o then emp else sJ l k
def Gg(l:List Pr)(k:ByteArray)(o v:Val.V):List Pr:=if CS l k o v=0 then (if v=emp then wo l k else ins l k v) else l
theorem LW{l:List Pr}(h:¬Right l)(k:ByteArray):sJ l k=emp∧uZ l k=1:=⟨if_neg h,if_neg h⟩
theorem aaJ{l:List Pr}(h:Right l){k:ByteArray}{v:Val.V}(hf:iV l k=some v):sJ l k=v∧uZ l k=0:=by
 unfold sJ uZ;rw[if_pos h,if_pos h,hf];exact uw
theorem aaK{l:List Pr}(h:Right l){k:ByteArray}(hf:iV l k=none):sJ l k=emp∧uZ l k=5:=by
 unfold sJ uZ;rw[if_pos h,if_pos h,hf];exact uw
theorem afa{l:List Pr}(h:¬Right l)(k:ByteArray)(v:Val.V):vR l k v=1∧yI l k v=l:=by
 have e:vR l k v=1:=if_neg h;exact⟨e,by unfold yI;rw[e];rfl⟩
theorem UF{l:List Pr}(h:Right l){k:ByteArray}{v:Val.V}(hv:¬jG k v=0):vR l k v=jG k v∧yI l k v=l:=by
 have e:vR l k v=jG k v:=by unfold vR;rw[if_pos h,if_neg hv]
 exact⟨e,by unfold yI;rw[e,if_neg hv]⟩
theorem Zz{l:List Pr}(h:Right l){k:ByteArray}{v:Val.V}(hv:jG k v=0)(hn:¬(wo l k).length<8):vR l k v=6∧yI l k v=l:=by
 have e:vR l k v=6:=by unfold vR;rw[if_pos h,if_pos hv,if_neg hn]
 exact⟨e,by unfold yI;rw[e];rfl⟩
theorem aiw{l:List Pr}(h:Right l){k:ByteArray}{v:Val.V}(hv:jG k v=0)(hn:(wo l k).length<8):vR l k v=0∧yI l k v=ins l k v:=by
 have e:vR l k v=0:=by unfold vR;rw[if_pos h,if_pos hv,if_pos hn]
 exact⟨e,by unfold yI;rw[e];rfl⟩
theorem ajd{l:List Pr}{k:ByteArray}(h:¬uZ l k=0):sJ l k=emp:=by
 unfold uZ at h;unfold sJ
 split at h
 next hr=>
  rw[if_pos hr]
  cases hf:iV l k with
  | none=>rfl
  | some v=>rw[hf] at h;exact absurd rfl h
 next hr=>rw[if_neg hr]
theorem aje{l:List Pr}(h:Right l)(k:ByteArray):¬uZ l k=1:=by
 unfold uZ;rw[if_pos h]
 split<;>decide
theorem Tz{l:List Pr}(h:¬Right l)(k:ByteArray)(o v:Val.V):CS l k o v=1∧Gg l k o v=l∧Kl l k o=emp:=by
 have e:CS l k o v=1:=if_neg h;refine⟨e,?_,?_⟩
 ·unfold Gg;rw[e];rfl
 ·unfold Kl;rw[(LW h k).1];split<;>rfl
theorem CQ{l:List Pr}(h:Right l){k:ByteArray}{o:Val.V}(v:Val.V)(ho:¬sJ l k=o):CS l k o v=9∧Gg l k o v=l∧Kl l k o=sJ l k:=by
 have e:CS l k o v=9:=by unfold CS;rw[if_pos h,if_neg ho]
 refine⟨e,?_,if_neg ho⟩;unfold Gg;rw[e];rfl
theorem Tx{l:List Pr}(h:Right l){k:ByteArray}{o:Val.V}(ho:sJ l k=o):CS l k o emp=0∧Gg l k o emp=wo l k∧Kl l k o=emp:=by
 have e:CS l k o emp=0:=by unfold CS;rw[if_pos h,if_pos ho,if_pos rfl]
 refine⟨e,?_,if_pos ho⟩;unfold Gg;rw[e,if_pos rfl,if_pos rfl]
theorem Tw{l:List Pr}(h:Right l){k:ByteArray}{o v:Val.V}(ho:sJ l k=o)(hv:¬v=emp):CS l k o v=vR l k v∧Gg l k o v=yI l k v∧Kl l k o=emp:=by
 have e:CS l k o v=vR l k v:=by unfold CS;rw[if_pos h,if_pos ho,if_neg hv]
 refine⟨e,?_,if_pos ho⟩;unfold Gg yI;rw[e,if_neg hv]
theorem Wx{l:List Pr}{k:Nat}{x:Pr}(h:l[k]?=some x)(key:ByteArray):iV (l.drop k) key=if x.key=key then some x.val else iV (l.drop (k+1)) key:=by
 obtain⟨h1,h2⟩:=List.getElem?_eq_some_iff.1 h;rw[List.drop_eq_getElem_cons h1,h2]
 rfl
theorem Eh{l:List Pr}{k:Nat}{x:Pr}(h:l[k]?=some x)(key:ByteArray):wo (l.take (k+1)) key=if x.key=key then wo (l.take k) key else wo (l.take k) key++[x]:=by
 rw[List.take_add_one,h];unfold wo;rw[List.filter_append]
 show List.filter _ (List.take k l)++List.filter _ [x]=_
 by_cases hx:x.key=key
 ·rw[if_pos hx,List.filter_cons_of_neg (by simp[hx]),List.filter_nil,List.append_nil]
 ·rw[if_neg hx,List.filter_cons_of_pos (by simp[hx]),List.filter_nil]
instance:DecidableEq Pr:=fun a b=>decidable_of_iff (a.key=b.key∧a.val=b.val) ⟨fun h=>by
 obtain⟨k,v⟩:=a;obtain⟨k',v'⟩:=b;obtain⟨rfl,rfl⟩:=h
 rfl,fun h=>by rw[h];exact⟨rfl,rfl⟩⟩
end aQ
end
section
namespace fG
def jT(v:Val.V):Int:=if v.k=0 then 1 else Val.aX v
structure Right(n:Int)(l:List Val.V):Prop where
 lo:1≤n
 hi:n≤8
 len:(l.length:Int)≤n
 ok:∀v∈l,jT v=0
instance (n:Int) (l:List Val.V):Decidable (Right n l):=decidable_of_iff (1≤n∧n≤8∧(l.length:Int)≤n∧∀v∈l,jT v=0) ⟨fun h=>⟨h.1,h.2.1,h.2.2.1,h.2.2.2⟩,fun h=>⟨h.lo,h.hi,h.len,h.ok⟩⟩
def emp:Val.V:=⟨0,0,0,⟨#[]⟩⟩
def yX(n:Int)(l:List Val.V)(v:Val.V):Int:=if Right n l then (if jT v=0 then (if (l.length:Int)=n then 6 else 0) else jT v) else 1
def Cj(n:Int)(l:List Val.V)(v:Val.V):List Val.V:=if yX n l v=0 then l++[v] else l
def Sd(n:Int)(l:List Val.V):Int:=if Right n l then (if l.length=0 then 10 else 0) else 1
def KX(n:Int)(l:List Val.V):List Val.V:=if Right n l then l.drop 1 else l
def KW(n:Int)(l:List Val.V):Val.V:=if Right n l then l.headD emp else emp
theorem xA{v:Val.V}(h:v.k=0):jT v=1:=if_pos h
theorem CK{v:Val.V}(h:¬v.k=0):jT v=Val.aX v:=if_neg h
theorem afb{n:Int}{l:List Val.V}(h:¬Right n l)(v:Val.V):yX n l v=1∧Cj n l v=l:=by
 have e:yX n l v=1:=if_neg h;exact⟨e,by unfold Cj;rw[e];rfl⟩
theorem UH{n:Int}{l:List Val.V}(h:Right n l){v:Val.V}(hv:¬jT v=0):yX n l v=jT v∧Cj n l v=l:=by
 have e:yX n l v=jT v:=by unfold yX;rw[if_pos h,if_neg hv]
 exact⟨e,by unfold Cj;rw[e,if_neg hv]⟩
theorem ZA{n:Int}{l:List Val.V}(h:Right n l){v:Val.V}(hv:jT v=0)(hn:(l.length:Int)=n):yX n l v=6∧Cj n l v=l:=by
 have e:yX n l v=6:=by unfold yX;rw[if_pos h,if_pos hv,if_pos hn]
 exact⟨e,by unfold Cj;rw[e];rfl⟩
theorem aiy{n:Int}{l:List Val.V}(h:Right n l){v:Val.V}(hv:jT v=0)(hn:¬(l.length:Int)=n):yX n l v=0∧Cj n l v=l++[v]:=by
 have e:yX n l v=0:=by unfold yX;rw[if_pos h,if_pos hv,if_neg hn]
 exact⟨e,by unfold Cj;rw[e];rfl⟩
theorem afc{n:Int}{l:List Val.V}(h:¬Right n l):Sd n l=1∧KX n l=l∧KW n l=emp:=⟨if_neg h,if_neg h,if_neg h⟩
theorem ZE{n:Int}{l:List Val.V}(h:Right n l)(h0:l.length=0):Sd n l=10∧KX n l=[]∧KW n l=emp:=by
 have e:l=[]:=List.length_eq_zero_iff.1 h0;subst e;exact⟨by unfold Sd;rw[if_pos h];rfl,by unfold KX;rw[if_pos h];rfl,by unfold KW;rw[if_pos h];rfl⟩
theorem aiA{n:Int}{l:List Val.V}(h:Right n l){v:Val.V}(hv:l[0]?=some v):Sd n l=0∧KX n l=l.drop 1∧KW n l=v:=by
 cases l with
 | nil=>cases hv
 | cons x r=>
  injection hv with hv;subst hv;exact⟨by unfold Sd;rw[if_pos h];rfl,by unfold KX;rw[if_pos h],by unfold KW;rw[if_pos h];rfl⟩
theorem UG{n:Int}{l:List Val.V}(h:Right n l)(v:Val.V):Right n (Cj n l v):=by
 unfold Cj
 split
 next he=>
  unfold yX at he;rw[if_pos h] at he
  split at he
  next hv=>
   split at he
   ·cases he
   next hn=>
    have hlen:=h.len;refine⟨h.lo,h.hi,?_,fun x hx=>?_⟩
    ·rw[List.length_append]
     show((l.length+1:Nat):Int)≤n
     omega
    ·rcases List.mem_append.1 hx with hx|hx
     ·exact h.ok x hx
     ·rw[List.mem_singleton] at hx;subst hx;exact hv
  next hv=>exact absurd he hv
 next=>exact h
theorem uV{n:Int}{l:List Val.V}(h:Right n l):Right n (l.drop 1):=by
 have hl:=h.len;refine⟨h.lo,h.hi,?_,fun x hx=>h.ok x (List.mem_of_mem_drop hx)⟩;rw[List.length_drop];omega
theorem UJ{n:Int}{l:List Val.V}(h:Right n l):Right n (KX n l):=by
 unfold KX;rw[if_pos h];exact uV h
theorem iN{n:Int}(h1:1≤n)(h2:n≤8):Right n []:=⟨h1,h2,by show(0:Int)≤n;omega,fun x hx=>by simp at hx⟩
theorem gu{n:Int}{l:List Val.V}{m:Nat}(hl:l.length=m)(h1:1≤n)(h2:n≤8)(h3:(m:Int)≤n):(∀(i:Nat) v,l[i]?=some v→¬jT v=0→decide (Right n l)=false)∧((∀(i:Nat) v,i<m→l[i]?=some v→jT v=0)→decide (Right n l)=true):=by
 subst hl;refine⟨fun i v hi hv=>decide_eq_false fun h=>hv (h.ok v (List.mem_of_getElem? hi)),fun h=>decide_eq_true ⟨h1,h2,h3,fun v hv=>?_⟩⟩;obtain⟨i,hi,e⟩:=List.getElem_of_mem hv;exact h i v hi (by rw[List.getElem?_eq_getElem hi,e])
end fG
end
section
structure Rf where
 c:Int
 e:Int
 r:Int
deriving DecidableEq
namespace aY
def zero:Rf:=⟨0,0,0⟩
def ok(x:Rf):Prop:=0≤x.c∧x.c<5∧1≤x.e∧0≤x.r
instance (x:Rf):Decidable (ok x):=by unfold ok;infer_instance
def mine(a b:Rf):Prop:=a.c=b.c∧a.e=b.e
instance (a b:Rf):Decidable (mine a b):=by unfold mine;infer_instance
def asked(l:List Rf)(c:Int):Bool:=l.any fun x=>decide (x.c=c)
theorem jJ{l:List Rf}{n:Nat}(hn:l.length=n)(c:Int):(∀(i:Nat) x,l[i]?=some x→x.c=c→asked l c=true)∧((∀(i:Nat) x,i<n→l[i]?=some x→¬x.c=c)→asked l c=false):=by
 refine⟨fun i x hx h=>List.any_eq_true.2 ⟨x,List.mem_of_getElem? hx,decide_eq_true h⟩,fun h=>Bool.eq_false_iff.2 fun ha=>?_⟩;obtain⟨x,hx,hd⟩:=List.any_eq_true.1 ha;obtain⟨i,hi⟩:=List.mem_iff_getElem?.1 hx;exact h i x (by rw[← hn];exact(List.getElem?_eq_some_iff.1 hi).1) hi (of_decide_eq_true hd)
def Right(l:List Rf):Prop:=∀i,i<l.length→∀x,l[i]?=some x→ok x∧asked (l.take i) x.c=false
theorem kP(l:List Rf):Right l↔∀i,i<l.length→(l[i]?.all fun x=>decide (ok x)&&!asked (l.take i) x.c)=true:=by
 refine forall_congr' fun i=>forall_congr' fun hi=>?_
 rw[List.getElem?_eq_getElem hi];simp
instance (l:List Rf):Decidable (Right l):=decidable_of_iff _ (kP l).symm
theorem gu{l:List Rf}{n:Nat}(hn:l.length=n):(∀(i:Nat) x,i<n→l[i]?=some x→¬(ok x∧asked (l.take i) x.c=false)→decide (Right l)=false)∧((∀(i:Nat) x,i<n→l[i]?=some x→ok x∧asked (l.take i) x.c=false)→decide (Right l)=true):=
 ⟨fun i x hi hx h=>decide_eq_false fun hr=>h (hr i (by omega) x hx),fun h=>decide_eq_true fun i hi x hx=>h i x (by omega) hx⟩
theorem iN:Right []:=fun i hi=>by simp at hi
def Ak(l:List Rf)(r:Rf):Int:=if Right l∧ok r then (if asked l r.c then 11 else 0) else 1
def CP(l:List Rf)(r:Rf):List Rf:=if Ak l r=0 then l++[r] else l
def Pj(l:List Rf)(r:Rf):Bool:=decide (Ak l r=0)&&decide (l.length=0)
theorem Ki{l:List Rf}{r:Rf}(h:¬(Right l∧ok r)):Ak l r=1∧CP l r=l∧Pj l r=false:=by
 have e:Ak l r=1:=if_neg h;exact⟨e,by unfold CP;rw[e];rfl,by unfold Pj;rw[e];rfl⟩
theorem Ng{l:List Rf}{r:Rf}(h1:Right l)(h2:ok r)(h3:asked l r.c=true):Ak l r=11∧CP l r=l∧Pj l r=false:=by
 have e:Ak l r=11:=by unfold Ak;rw[if_pos ⟨h1,h2⟩,if_pos h3]
 exact⟨e,by unfold CP;rw[e];rfl,by unfold Pj;rw[e];rfl⟩
theorem acW{l:List Rf}{r:Rf}(h1:Right l)(h2:ok r)(h3:asked l r.c=false):Ak l r=0∧CP l r=l++[r]∧Pj l r=decide (l.length=0):=by
 have e:Ak l r=0:=by unfold Ak;rw[if_pos ⟨h1,h2⟩,if_neg (by rw[h3];decide)]
 exact⟨e,by unfold CP;rw[if_pos e],by unfold Pj;rw[decide_eq_true e,Bool.true_and]⟩
def Cr(l:List Rf)(r:Rf):Int:=if Right l then (if l.length=0 then 12 else if mine (l.headD zero) r then 0 else 12) else 1
def Fj(l:List Rf)(r:Rf):List Rf:=if Cr l r=0 then l.drop 1 else l
def Sk(l:List Rf)(r:Rf):Rf:=if Cr l r=0 then (l.drop 1).headD zero else zero
def Rb(l:List Rf)(r:Rf):Bool:=decide (Cr l r=0)&&decide (1<l.length)
theorem Wv{l:List Rf}{r:Rf}{z:Int}(e:Cr l r=z)(hz:¬z=0:=by decide):Cr l r=z∧Fj l r=l∧Sk l r=zero∧Rb l r=false:=by
 have e2:¬Cr l r=0:=by rw[e];exact hz
 exact⟨e,if_neg e2,if_neg e2,by unfold Rb;rw[decide_eq_false e2];rfl⟩
theorem afX{l:List Rf}{r:Rf}(h:¬Right l):Cr l r=1∧Fj l r=l∧Sk l r=zero∧Rb l r=false:=Wv (if_neg h)
theorem Oj{l:List Rf}{r:Rf}(h:Right l)(h0:l.length=0):Cr l r=12∧Fj l r=l∧Sk l r=zero∧Rb l r=false:=
 Wv (by unfold Cr;rw[if_pos h,if_pos h0])
theorem Iq{l:List Rf}{r x:Rf}(h:Right l)(hx:l[0]?=some x)(hm:¬mine x r):Cr l r=12∧Fj l r=l∧Sk l r=zero∧Rb l r=false:=by
 cases l with
 | nil=>cases hx
 | cons y m=>
  injection hx with hx;subst hx;exact Wv (by unfold Cr;rw[if_pos h,if_neg (by simp)];exact if_neg hm)
theorem Wt{l:List Rf}{r x:Rf}(h:Right l)(hx:l[0]?=some x)(hm:mine x r):Cr l r=0:=by
 cases l with
 | nil=>cases hx
 | cons y m=>
  injection hx with hx;subst hx;unfold Cr;rw[if_pos h,if_neg (by simp)];exact if_pos hm
theorem Oo{l:List Rf}{r x:Rf}(h:Right l)(hx:l[0]?=some x)(hm:mine x r)(h1:l.length=1):Cr l r=0∧Fj l r=[]∧Sk l r=zero∧Rb l r=false:=by
 have e:=Wt h hx hm;have e2:l.drop 1=[]:=List.drop_eq_nil_of_le (by omega);exact⟨e,by unfold Fj;rw[if_pos e,e2],by unfold Sk;rw[if_pos e,e2];rfl,by unfold Rb;rw[h1];simp⟩
theorem Om{l:List Rf}{r x y:Rf}(h:Right l)(hx:l[0]?=some x)(hm:mine x r)(hy:l[1]?=some y):Cr l r=0∧Fj l r=l.drop 1∧Sk l r=y∧Rb l r=true:=by
 have e:=Wt h hx hm
 match l,hy with
 | a::b::m,hy=>
  simp at hy;subst hy;exact⟨e,by unfold Fj;rw[if_pos e],by unfold Sk;rw[if_pos e];rfl,by unfold Rb;rw[e];simp⟩
def wo(l:List Rf)(r:Rf):List Rf:=l.filter fun x=>!decide (mine x r)
def sS(l:List Rf)(r:Rf):List Rf:=if Right l then wo l r else l
def zN(l:List Rf)(r:Rf):Bool:=decide (Right l)&&decide (0<(wo l r).length)&&!decide ((wo l r).headD zero=l.headD zero)
def JB(l:List Rf)(r:Rf):Rf:=if zN l r=true then (wo l r).headD zero else zero
theorem IZ{l:List Rf}{r:Rf}(h:zN l r=false):zN l r=false∧JB l r=zero:=⟨h,by unfold JB;rw[h];rfl⟩
theorem agc{l:List Rf}{r:Rf}(h:¬Right l):sS l r=l∧JB l r=zero∧zN l r=false:=by
 have e:zN l r=false:=by unfold zN;rw[decide_eq_false h];rfl
 exact⟨if_neg h,(IZ e).2,e⟩
theorem Fu{l:List Rf}{r:Rf}(h:Right l)(h0:(wo l r).length=0):sS l r=wo l r∧JB l r=zero∧zN l r=false:=by
 have e:zN l r=false:=by unfold zN;rw[h0];simp
 exact⟨if_pos h,(IZ e).2,e⟩
theorem wD{l:List Rf}{x:Rf}(h:l[0]?=some x):l.headD zero=x:=by
 cases l with
 | nil=>cases h
 | cons y m=>injection h
theorem Oy{l:List Rf}{r x y:Rf}(h:Right l)(hx:(wo l r)[0]?=some x)(hy:l[0]?=some y)(he:x=y):sS l r=wo l r∧JB l r=zero∧zN l r=false:=by
 have e:zN l r=false:=by unfold zN;rw[wD hx,wD hy,he];simp
 exact⟨if_pos h,(IZ e).2,e⟩
theorem WZ{l:List Rf}{r x y:Rf}(h:Right l)(hx:(wo l r)[0]?=some x)(hy:l[0]?=some y)(he:¬x=y):sS l r=wo l r∧JB l r=x∧zN l r=true:=by
 have h0:=(List.getElem?_eq_some_iff.1 hx).1;have e:zN l r=true:=by unfold zN;rw[wD hx,wD hy,decide_eq_true h,decide_eq_true h0,decide_eq_false he];rfl
 exact⟨if_pos h,by unfold JB;rw[if_pos e,wD hx],e⟩
theorem Ae{l:List Rf}{r x:Rf}{k:Nat}(hx:l[k]?=some x)(hm:¬mine x r):wo (l.take (k+1)) r=wo (l.take k) r++[x]:=by
 unfold wo;rw[List.take_add_one,hx,List.filter_append];simp[hm]
theorem yG{l:List Rf}{r x:Rf}{k:Nat}(hx:l[k]?=some x)(hm:mine x r):wo (l.take (k+1)) r=wo (l.take k) r:=by
 unfold wo;rw[List.take_add_one,hx,List.filter_append];simp[hm]
theorem CJ(l:List Rf)(r:Rf):(wo l r).length≤l.length:=List.length_filter_le ..
theorem SS{l:List Rf}{r x:Rf}(h:(wo l r)[0]?=some x):∃y,l[0]?=some y:=by
 cases l with
 | nil=>cases h
 | cons y m=>exact⟨y,rfl⟩
theorem rP{l:List Rf}{r:Rf}(h:Right l)(h2:ok r)(h3:asked l r.c=false):Right (l++[r]):=by
 intro i hi x hx
 rcases Nat.lt_or_ge i l.length with hl|hl
 ·rw[List.getElem?_append_left hl] at hx
  rw[List.take_append_of_le_length (by omega)];exact h i hl x hx
 ·have e:i=l.length:=by rw[List.length_append] at hi;simp at hi;omega
  subst e;simp at hx;subst hx;rw[List.take_left];exact⟨h2,h3⟩
theorem mI{x:Rf}{m:List Rf}:Right (x::m)↔ok x∧asked m x.c=false∧Right m:=by
 constructor
 ·intro h
  have h0:=h 0 (by simp) x rfl
  have hA:∀i y,m[i]?=some y→ok y∧asked (m.take i) y.c=false∧¬x.c=y.c:=fun i y hy=>by
   have h1:=h (i+1) (by have:=(List.getElem?_eq_some_iff.1 hy).1;simp;omega) y (by rw[List.getElem?_cons_succ];exact hy);rw[List.take_succ_cons] at h1;have h2:asked (x::m.take i) y.c=(decide (x.c=y.c) || asked (m.take i) y.c):=rfl;rw[h2,Bool.or_eq_false_iff,decide_eq_false_iff_not] at h1;exact⟨h1.1,h1.2.2,h1.2.1⟩
  refine⟨h0.1,(jJ (l:=m) rfl x.c).2 fun i y _ hy e=>(hA i y hy).2.2 e.symm,fun i _ y hy=>⟨(hA i y hy).1,(hA i y hy).2.1⟩⟩
 ·rintro ⟨h1,h2,h3⟩ i hi y hy
  cases i with
  | zero=>injection hy with hy;subst hy;exact⟨h1,rfl⟩
  | succ i=>
   rw[List.getElem?_cons_succ] at hy;have h4:=h3 i (by simp at hi;omega) y hy;refine⟨h4.1,?_⟩;rw[List.take_succ_cons]
   show(decide (x.c=y.c) || asked (m.take i) y.c)=false
   rw[h4.2,Bool.or_false,decide_eq_false_iff_not];intro e;rw[(jJ (l:=m) rfl x.c).1 i y hy e.symm] at h2;cases h2
theorem FD{m:List Rf}{c:Int}(p:Rf→Bool)(h:asked m c=false):asked (m.filter p) c=false:=by
 rw[Bool.eq_false_iff] at h ⊢;intro ha;obtain⟨x,hx,hd⟩:=List.any_eq_true.1 ha;exact h (List.any_eq_true.2 ⟨x,(List.mem_filter.1 hx).1,hd⟩)
theorem jX(p:Rf→Bool):∀{l:List Rf},Right l→Right (l.filter p)
 | [],_=>iN
 | x::m,h=>by
  obtain⟨h1,h2,h3⟩:=mI.1 h;rw[List.filter_cons]
  split
  ·exact mI.2 ⟨h1,FD p h2,jX p h3⟩
  ·exact jX p h3
theorem Bg{q:Int}:∀{l:List Rf},Right l→l.length≤(l.filter fun x=>!decide (x.c=q)).length+1
 | [],_=>Nat.zero_le _
 | x::m,h=>by
  obtain⟨_,h2,h3⟩:=mI.1 h;by_cases hq:x.c=q
  ·subst hq
   have e:(m.filter fun y=>!decide (y.c=x.c))=m:=List.filter_eq_self.2 fun y hy=>by
    obtain⟨i,hi⟩:=List.mem_iff_getElem?.1 hy;rw[Bool.not_eq_true',decide_eq_false_iff_not];intro hc;rw[(jJ (l:=m) rfl x.c).1 i y hi hc] at h2;cases h2
   rw[List.filter_cons_of_neg (by simp),e,List.length_cons];exact Nat.le_refl _
  ·rw[List.filter_cons_of_pos (by simp[hq]),List.length_cons,List.length_cons]
   have:=Bg (q:=q) h3;omega
theorem Dr:∀(k:Nat) {l:List Rf},Right l→(∀x∈l,x.c<(k:Int))→l.length≤k
 | 0,l,h,hk=>by
  cases l with
  | nil=>exact Nat.le_refl _
  | cons x m=>
   have h1:=hk x (List.mem_cons_self ..);have h2:=(mI.1 h).1.1;omega
 | k+1,l,h,hk=>by
  have h1:=Bg (q:=(k:Int)) h
  have h2:=Dr k (jX (fun x=>!decide (x.c=(k:Int))) h) fun x hx=>by
   obtain⟨h3,h4⟩:=List.mem_filter.1 hx;have h5:=hk x h3;have h6:¬x.c=(k:Int):=by simpa using h4
   omega
  omega
theorem fV{l:List Rf}(h:Right l):l.length≤5:=Dr 5 h fun x hx=>by
 obtain⟨i,hi⟩:=List.mem_iff_getElem?.1 hx;exact(h i (List.getElem?_eq_some_iff.1 hi).1 x hi).1.2.1
theorem Ti{l:List Rf}(h:Right l)(r:Rf):Right (CP l r):=by
 unfold CP
 split
 next he=>
  unfold Ak at he
  split at he
  next hr=>
   split at he
   ·cases he
   next ha=>exact rP hr.1 hr.2 (Bool.eq_false_iff.2 ha)
  next=>cases he
 next=>exact h
theorem Wu{l:List Rf}(h:Right l)(r:Rf):Right (Fj l r):=by
 unfold Fj
 split
 ·cases l with
  | nil=>exact iN
  | cons x m=>exact(mI.1 h).2.2
 ·exact h
theorem WY{l:List Rf}(h:Right l)(r:Rf):Right (sS l r):=by
 unfold sS;rw[if_pos h];exact jX _ h
end aY
end
section
namespace Gt
open aY
def Right(m:Int)(l:List Rf):Prop:=1≤m∧m≤5∧(l.length:Int)<m∧aY.Right l
instance (m:Int) (l:List Rf):Decidable (Right m l):=by unfold Right;infer_instance
def qQ(m:Int)(l:List Rf)(r:Rf):Int:=if Right m l∧ok r then (if asked l r.c then 11 else 0) else 1
def Ef(m:Int)(l:List Rf)(r:Rf):List Rf:=if qQ m l r=0 then (if (l.length:Int)+1=m then [] else l++[r]) else l
def Ck(m:Int)(l:List Rf)(r:Rf):List Rf:=if qQ m l r=0∧(l.length:Int)+1=m then l++[r] else []
def sS(m:Int)(l:List Rf)(r:Rf):List Rf:=if Right m l then wo l r else l
variable {m:Int}{l:List Rf}{r:Rf}
theorem yE{z:Int}(e:qQ m l r=z)(hz:¬z=0):qQ m l r=z∧Ef m l r=l∧Ck m l r=[]:=by
 have e2:¬qQ m l r=0:=by rw[e];exact hz
 exact⟨e,if_neg e2,if_neg (fun h=>e2 h.1)⟩
theorem JG(h:¬(Right m l∧ok r)):qQ m l r=1∧Ef m l r=l∧Ck m l r=[]:=yE (if_neg h) (by decide)
theorem MZ(h1:Right m l)(h2:ok r)(h3:asked l r.c=true):qQ m l r=11∧Ef m l r=l∧Ck m l r=[]:=
 yE (by unfold qQ;rw[if_pos ⟨h1,h2⟩,if_pos h3]) (by decide)
theorem acS(h1:Right m l)(h2:ok r)(h3:asked l r.c=false):qQ m l r=0:=by
 unfold qQ;rw[if_pos ⟨h1,h2⟩,if_neg (by rw[h3];decide)]
theorem tC(h1:Right m l)(h2:ok r)(h3:asked l r.c=false)(h4:(l.length:Int)+1=m):qQ m l r=0∧Ef m l r=[]∧Ck m l r=l++[r]:=by
 have e:=acS h1 h2 h3;exact⟨e,by unfold Ef;rw[if_pos e,if_pos h4],if_pos ⟨e,h4⟩⟩
theorem tu(h1:Right m l)(h2:ok r)(h3:asked l r.c=false)(h4:¬(l.length:Int)+1=m):qQ m l r=0∧Ef m l r=l++[r]∧Ck m l r=[]:=by
 have e:=acS h1 h2 h3;exact⟨e,by unfold Ef;rw[if_pos e,if_neg h4],if_neg (fun h=>h4 h.2)⟩
theorem Ga(h:qQ m l r=0):Right m l∧ok r∧asked l r.c=false:=by
 unfold qQ at h
 split at h
 next hr=>
  split at h
  ·cases h
  next ha=>exact⟨hr.1,hr.2,Bool.eq_false_iff.2 ha⟩
 next=>cases h
theorem Mj(h:Right m l):sS m l r=wo l r:=if_pos h
theorem IZ(h:¬Right m l):sS m l r=l:=if_neg h
theorem Gu(h1:1≤m)(h2:m≤5):Right m []:=⟨h1,h2,by show(0:Int)<m;omega,iN⟩
theorem rP(h1:Right m l)(h2:ok r)(h3:asked l r.c=false)(h4:¬(l.length:Int)+1=m):Right m (l++[r]):=
 ⟨h1.1,h1.2.1,by
  have:=h1.2.2.1;rw[List.length_append]
  show((l.length+1:Nat):Int)<m
  omega,aY.rP h1.2.2.2 h2 h3⟩
theorem Uj(h:Right m l)(r:Rf):Right m (wo l r):=
 ⟨h.1,h.2.1,by
  have:=h.2.2.1;have:=CJ l r
  omega,jX _ h.2.2.2⟩
end Gt
end
section
theorem Nn{k:IntKind}{a b:Int}(h:a=b):Ending.returned (.int k a)=.returned (.int k b):=by rw[h]
theorem Gy{a b:Bool}(h:a=b):Ending.returned (.bool a)=.returned (.bool b):=by rw[h]
theorem rC{n:Int}(h:(Lit.int .u64 n).wf=true):∃k:Nat,n=(k:Int)∧k<18446744073709551616:=by
 have hb:=bounds_u64 h;obtain⟨k,rfl⟩:=Int.eq_ofNat_of_zero_le hb.1;exact⟨k,rfl,by omega⟩
theorem mW(b:Nat)(w:World)(h:b<18446744073709551616):
  Calls prog 145 #[.int .u64 b] w fun e w'=>e=.returned (.int .u64 (Num.M b:Nat))∧w=w':=by
 have hc:=zH (Num.Xe b h);go_enter func145,ntmps145;go_wp2
 ·have h1:9218868437227405312<bits BinOp.andNot IntKind.u64 (b:Int) 9223372036854775808:=by assumption
  go_ret;rw[hc.out] at h1;exact⟨by rw[Num.DX (by unfold Num.inf;omega)];rfl,rfl⟩
 ·have h1:bits BinOp.andNot IntKind.u64 (b:Int) 9223372036854775808≤9218868437227405312:=by assumption
  go_ret;rw[hc.out] at h1;exact⟨by rw[Num.wY (by unfold Num.inf;omega)];rfl,rfl⟩
theorem Hl(b:Nat)(w:World)(h:b<18446744073709551616):
  Calls prog 151 #[.int .u64 b] w fun e w'=>e=.returned (.bool (decide (Num.inf<b%Num.jW)))∧w=w':=by
 have hc:=zH (Num.abO b h);have hd:=zH (Num.Xz b h);have he:=zH (Num.Vi b);go_enter func151,ntmps151;go_wp2
 ·have h1:bits BinOp.and IntKind.u64 (b:Int) 9218868437227405312=9218868437227405312:=by assumption
  go_ret;rw[hc.out] at h1;refine⟨Gy ?_,rfl⟩;rw[hd.out,Bool.eq_iff_iff,decide_eq_true_eq,← he.out,bne_iff_ne];omega
 ·have h1:¬bits BinOp.and IntKind.u64 (b:Int) 9218868437227405312=9218868437227405312:=by assumption
  go_ret;rw[hc.out] at h1;refine⟨Gy ?_,rfl⟩;rw[Bool.eq_iff_iff,decide_eq_true_eq,← he.out]
  constructor
  ·intro h;cases h
  ·intro h;omega
theorem gT(b:Nat)(w:World)(h:b<18446744073709551616):
  Calls prog 127 #[.int .u64 b] w fun e w'=>e=.returned (.int .u64 (Num.M b:Nat))∧w=w':=by
 by_cases hb:Num.inf<b%Num.jW
 ·have HH:=zH (fun w=>Hl b w h)
  rw[decide_eq_true hb] at HH;have hm:=zH (Num.DX hb);exact ahu
 ·have HH:=zH (fun w=>Hl b w h)
  rw[decide_eq_false hb] at HH;have hm:=zH (Num.wY hb);exact ahu
end
section
theorem Wq(b:Nat)(w:World):(callFunc 161 #[.int .u64 (b:Int)]).run prog w=.ok (.value (.float .f64 b)) w:=by kernel_rfl
theorem aev(b:Nat)(w:World):(callFunc 160 #[.float .f64 b]).run prog w=.ok (.value (.int .u64 (b:Int))) w:=by kernel_rfl
theorem afu{t:Nat}:t%2*2 ^ 63+0x7ff0000000000000+1+t / 2%(2 ^ 52-1)<18446744073709551616:=by omega
theorem afv{t:Nat}:Num.inf<(t%2*2 ^ 63+0x7ff0000000000000+1+t / 2%(2 ^ 52-1))%Num.jW:=by
 have h1:t / 2%(2 ^ 52-1)<2 ^ 52-1:=Nat.mod_lt _ (by decide);generalize t / 2%(2 ^ 52-1)=x at *
 unfold Num.inf Num.jW
 rcases Nat.mod_two_eq_zero_or_one t with h|h<;>rw[h]<;>omega
theorem Zj(a b:Nat)(w:World):∃r n,r<18446744073709551616∧Num.XK a b r∧(binOp .add 220 (.float .f64 a) (.float .f64 b)).run prog w=.ok (.float .f64 r) (w.drewN n):=by
 cases h:Ieee.double.add a b with
 | some r=>
  refine⟨r,0,Ieee.Format.add_lt _ h,Or.inl h,?_⟩;exact run_float_arith w .add _ .f64 a b r h
 | none=>
  refine⟨Question.cut (.nanBits .f64 a b) (w.tape w.drawn (.nanBits .f64 a b)),1,?_,Or.inr ⟨h,?_⟩,?_⟩
  ·exact afu
  ·exact afv
  ·have hf:FloatKind.f64.format.add a b=none:=h
   simp[binOp,Op.floatArith,hf,Question.forced]
   rfl
end
section
theorem max_u64:IntKind.u64.max=18446744073709551615:=by decide
theorem GQ(b:Nat)(w:World)(h:b<18446744073709551616):
  Calls prog 156 #[.int .u64 b] w fun e w'=>e=.returned (.int .u64 (Num.rank b:Nat))∧w=w':=by
 have hm:=Num.qx h;have hc:=zH (Num.Xy _ hm);have hx:=zH (Num.vB _ hm);have ho:=zH (Num.Nz (Num.M b));have hr:Hid (Num.rank b=if Num.M b<Num.jW then Num.M b+Num.jW else 18446744073709551615-Num.M b):=zH rfl;have HH:=zH (fun w=>mW b w h);generalize Num.M b=x at *
 go_enter func156,ntmps156;go_wp2_with (go_at_call 145;refine(HH.out _).mono ?_;rintro e w' ⟨rfl,rfl⟩)
 ·have h1:(bits BinOp.and IntKind.u64 (x:Int) 9223372036854775808 != 0)=true:=by assumption
  go_ret;rw[hc.out,bne_iff_ne] at h1;exact acz
 ·have h1:(bits BinOp.and IntKind.u64 (x:Int) 9223372036854775808 != 0)=false:=by assumption
  go_ret;rw[hc.out,bne_eq_false_iff_eq] at h1;exact acC
theorem Dh(b:Nat)(w:World)(h:b<18446744073709551616):
  Calls prog 159 #[.int .u64 b] w fun e w'=>e=.returned (.int .u64 (Num.rank b:Nat))∧w=w':=by
 have hm:=Num.qx h;have hx:=zH (Num.vB _ hm);have ho:=zH (Num.Nz (Num.M b));have hr:Hid (Num.rank b=if Num.M b<Num.jW then Num.M b+Num.jW else 18446744073709551615-Num.M b):=zH rfl;have HH:=zH (fun w=>gT b w h);generalize Num.M b=x at *
 go_enter func159,ntmps159;go_wp2_with (go_at_call 127;refine(HH.out _).mono ?_;rintro e w' ⟨rfl,rfl⟩)
 ·have h1:((x:Int) / 9223372036854775808==1)=true:=by assumption
  go_ret;rw[beq_iff_eq] at h1;exact acz
 ·have h1:((x:Int) / 9223372036854775808==1)=false:=by assumption
  go_ret;rw[beq_eq_false_iff_ne] at h1;exact acC
theorem Ms{a b:Nat}(h:Num.rank a<Num.rank b):Num.cmp a b = -1:=by unfold Num.cmp;rw[if_pos h]
theorem Mw{a b:Nat}(h:Num.rank b<Num.rank a):Num.cmp a b=1:=by unfold Num.cmp;rw[if_neg (by omega),if_pos h]
theorem cmp_eq{a b:Nat}(h:Num.rank a=Num.rank b):Num.cmp a b=0:=by unfold Num.cmp;rw[if_neg (by omega),if_neg (by omega)]
theorem abx(a b:Nat)(w:World)(ha:a<18446744073709551616)(hb:b<18446744073709551616):
  Calls prog 146 #[.int .u64 a,.int .u64 b] w fun e w'=>e=.returned (.int .i64 (Num.cmp a b))∧w=w':=by
 have H1:=zH (fun w=>GQ a w ha);have H2:=zH (fun w=>GQ b w hb);have c1:=@Ms a b;have c2:=@Mw a b;have c3:=@cmp_eq a b;have C1:=zH c1;have C2:=zH c2;have C3:=zH c3;clear c1 c2 c3;generalize Num.rank a=x at *
 generalize Num.rank b=y at *
 go_enter func146,ntmps146;go_wp2_with fail;refine(H1.out _).mono ?_;rintro e w' ⟨rfl,rfl⟩;go_wp2_with fail;refine(H2.out _).mono ?_;rintro e w' ⟨rfl,rfl⟩
 rcases Nat.lt_trichotomy x y with h|h|h
 ·go_wp2_with fail
  go_ret;exact⟨by rw[C1.out h];rfl,rfl⟩
 ·have hh:=zH h
  exact ahh
 ·have n1:¬x<y:=by omega
  go_wp2_with fail;go_ret;exact⟨by rw[C2.out h];rfl,rfl⟩
theorem Az(a b:Nat)(w:World)(ha:a<18446744073709551616)(hb:b<18446744073709551616):
  Calls prog 150 #[.int .u64 a,.int .u64 b] w fun e w'=>e=.returned (.int .i64 (Num.cmp a b))∧w=w':=by
 have H1:=zH (fun w=>Dh a w ha);have H2:=zH (fun w=>Dh b w hb);have c1:=@Ms a b;have c2:=@Mw a b;have c3:=@cmp_eq a b;have C1:=zH c1;have C2:=zH c2;have C3:=zH c3;clear c1 c2 c3;generalize Num.rank a=x at *
 generalize Num.rank b=y at *
 go_enter func150,ntmps150;go_wp2_with fail;refine(H1.out _).mono ?_;rintro e w' ⟨rfl,rfl⟩;go_wp2_with fail;refine(H2.out _).mono ?_;rintro e w' ⟨rfl,rfl⟩
 rcases Nat.lt_trichotomy x y with h|h|h
 ·go_wp2_with fail
  go_ret;exact⟨by rw[C1.out h];rfl,rfl⟩
 ·have hh:=zH h
  exact ahh
 ·have n1:¬x<y:=by omega
  go_wp2_with fail;go_ret;exact⟨by rw[C2.out h];rfl,rfl⟩
end
section
def least(a b:Nat):Nat:=if Num.rank b<Num.rank a then Num.M b else Num.M a
def most(a b:Nat):Nat:=if Num.rank a<Num.rank b then Num.M b else Num.M a
end
section
structure kC where
 n:Int
 s:Nat
 l:Nat
 m:Nat
 deriving DecidableEq
namespace Mt
def zero:kC:=⟨0,0,0,0⟩
def Fit(x:kC):Prop:=x.n≤9223372036854775807∧x.s<18446744073709551616∧x.l<18446744073709551616∧x.m<18446744073709551616
def Ok(x:kC):Prop:=(x.n=0∧x.s=0∧x.l=0∧x.m=0)∨(0<x.n∧Num.M x.s=x.s∧Num.M x.l=x.l∧Num.M x.m=x.m∧Num.rank x.l≤Num.rank x.m)
instance (x:kC):Decidable (Ok x):=by unfold Ok;infer_instance
theorem Vs{a b:Nat}(ha:a<18446744073709551616)(hb:b<18446744073709551616):least a b<18446744073709551616:=by
 unfold least;split
 ·exact Num.qx hb
 ·exact Num.qx ha
theorem aah{a b:Nat}(ha:a<18446744073709551616)(hb:b<18446744073709551616):most a b<18446744073709551616:=by
 unfold most;split
 ·exact Num.qx hb
 ·exact Num.qx ha
theorem WA:Fit zero:=⟨by decide,by decide,by decide,by decide⟩
theorem NA:Ok zero:=.inl ⟨rfl,rfl,rfl,rfl⟩
theorem ok_none{n:Int}{s l m:Nat}(hn:¬0<n):decide ((⟨n,s,l,m⟩:kC)=⟨0,0,0,0⟩)=decide (Ok ⟨n,s,l,m⟩):=by
 rw[decide_eq_decide];simp only[kC.mk.injEq]
 constructor
 ·exact fun h=>.inl h
 ·rintro (h|⟨h,_⟩)
  ·exact h
  ·exact absurd h hn
theorem ald{n:Int}{s l m:Nat}(hn:0<n)(h:¬Num.M s=s):¬Ok ⟨n,s,l,m⟩:=by
 rintro (⟨h0,_⟩|⟨_,h1,_⟩)
 ·have h0:n=0:=h0
  omega
 ·exact h h1
theorem alf{n:Int}{s l m:Nat}(hn:0<n)(h:¬Num.M l=l):¬Ok ⟨n,s,l,m⟩:=by
 rintro (⟨h0,_⟩|⟨_,_,h1,_⟩)
 ·have h0:n=0:=h0
  omega
 ·exact h h1
theorem ale{n:Int}{s l m:Nat}(hn:0<n)(h:¬Num.M m=m):¬Ok ⟨n,s,l,m⟩:=by
 rintro (⟨h0,_⟩|⟨_,_,_,h1,_⟩)
 ·have h0:n=0:=h0
  omega
 ·exact h h1
theorem Ve{n:Int}{s l m:Nat}(hn:0<n)(hs:Num.M s=s)(hl:Num.M l=l)(hm:Num.M m=m):Ok ⟨n,s,l,m⟩↔Num.cmp l m≤0:=by
 rw[Num.Mv]
 constructor
 ·rintro (⟨h0,_⟩|⟨_,_,_,_,h1⟩)
  ·have h0:n=0:=h0
   omega
  ·exact h1
 ·exact fun h=>.inr ⟨hn,hs,hl,hm,h⟩
theorem okn{n:Int}{s l m:Nat}(h0:¬n=0)(hn:¬0<n):¬Ok ⟨n,s,l,m⟩:=by
 rintro (⟨h1,_⟩|⟨h1,_⟩)
 ·exact h0 h1
 ·exact hn h1
theorem aiG{n:Int}{s l m:Nat}(h0:¬n=0)(h:¬Num.M s=s):¬Ok ⟨n,s,l,m⟩:=by
 rintro (⟨h1,_⟩|⟨_,h1,_⟩)
 ·exact h0 h1
 ·exact h h1
theorem aiI{n:Int}{s l m:Nat}(h0:¬n=0)(h:¬Num.M l=l):¬Ok ⟨n,s,l,m⟩:=by
 rintro (⟨h1,_⟩|⟨_,_,h1,_⟩)
 ·exact h0 h1
 ·exact h h1
theorem aiH{n:Int}{s l m:Nat}(h0:¬n=0)(h:¬Num.M m=m):¬Ok ⟨n,s,l,m⟩:=by
 rintro (⟨h1,_⟩|⟨_,_,_,h1,_⟩)
 ·exact h0 h1
 ·exact h h1
def ad(x:kC)(b:Nat):kC:=if ¬Ok x then x else if x.n=9223372036854775807 then x else if x.n=0 then ⟨1,Num.M b,Num.M b,Num.M b⟩ else ⟨x.n+1,Num.S x.s (Num.M b),least x.l (Num.M b),most x.m (Num.M b)⟩
def Sn(x:kC):Int:=if ¬Ok x then 1 else if x.n=9223372036854775807 then 6 else 0
theorem agl{x:kC}(h:¬Ok x)(b:Nat):ad x b=x:=if_pos h
theorem abQ{x:kC}(h:¬Ok x):Sn x=1:=if_pos h
theorem OQ{x:kC}(h:Ok x)(hn:x.n=9223372036854775807)(b:Nat):ad x b=x:=by unfold ad;rw[if_neg (by simpa using h),if_pos hn]
theorem XD{x:kC}(h:Ok x)(hn:x.n=9223372036854775807):Sn x=6:=by unfold Sn;rw[if_neg (by simpa using h),if_pos hn]
theorem FI{x:kC}(h:Ok x)(hn:x.n=0)(b:Nat):ad x b=⟨1,Num.M b,Num.M b,Num.M b⟩:=by unfold ad;rw[if_neg (by simpa using h),if_neg (by omega),if_pos hn]
theorem abP{x:kC}(h:Ok x)(hn:x.n≠9223372036854775807):Sn x=0:=by unfold Sn;rw[if_neg (by simpa using h),if_neg hn]
theorem zT{x:kC}(h:Ok x)(hn:x.n≠9223372036854775807)(h0:x.n≠0)(b:Nat):ad x b=⟨x.n+1,Num.S x.s (Num.M b),least x.l (Num.M b),most x.m (Num.M b)⟩:=by unfold ad;rw[if_neg (by simpa using h),if_neg hn,if_neg h0]
theorem afp{x:kC}(h:Ok x):0≤x.n:=by
 rcases h with ⟨h,_⟩|⟨h,_⟩<;>omega
structure Rd where
 k:Int
 n:Int
 f:Nat
 e:Int
 deriving DecidableEq
def rd(x:kC)(q:Int):Rd:=
 if ¬Ok x∨q<0∨3<q then ⟨0,0,0,1⟩ else if q=0 then ⟨1,x.n,0,0⟩ else if x.n=0 then ⟨0,0,0,10⟩ else ⟨2,0,(if q=1 then x.s else if q=2 then x.l else x.m),0⟩
theorem KO{x:kC}{q:Int}(h:¬Ok x∨q<0∨3<q):rd x q=⟨0,0,0,1⟩:=if_pos h
theorem GJ{x:kC}{q:Int}(h:Ok x)(h1:0≤q:=by decide)(h2:q≤3:=by decide):¬(¬Ok x∨q<0∨3<q):=by
 rintro (h3|h3|h3)
 ·exact h3 h
 ·omega
 ·omega
theorem akW{x:kC}(h:Ok x):rd x 0=⟨1,x.n,0,0⟩:=by unfold rd;rw[if_neg (GJ h),if_pos rfl]
theorem aip{x:kC}{q:Int}(h:Ok x)(h1:0≤q)(h2:q≤3)(hq:q≠0)(hn:x.n=0):rd x q=⟨0,0,0,10⟩:=by unfold rd;rw[if_neg (GJ h (h1:=h1) (h2:=h2)),if_neg hq,if_pos hn]
theorem akV{x:kC}(h:Ok x)(hn:¬x.n=0):rd x 1=⟨2,0,x.s,0⟩:=by unfold rd;rw[if_neg (GJ h),if_neg (by decide),if_neg hn,if_pos rfl]
theorem akU{x:kC}(h:Ok x)(hn:¬x.n=0):rd x 2=⟨2,0,x.l,0⟩:=by unfold rd;rw[if_neg (GJ h),if_neg (by decide),if_neg hn,if_neg (by decide),if_pos rfl]
theorem akT{x:kC}(h:Ok x)(hn:¬x.n=0):rd x 3=⟨2,0,x.m,0⟩:=by unfold rd;rw[if_neg (GJ h),if_neg (by decide),if_neg hn,if_neg (by decide),if_neg (by decide)]
end Mt
end
section
namespace aI
structure C where
 k:Int
 name:ByteArray
 key:ByteArray
 val:Val.V
 old:Val.V
 n:Int
 m:Int
structure E where
 c:Int
 e:Int
 r:Int
 cmd:C
def f0(k:Int):Bool:=decide (4≤k∧k≤17)
def f1(k:Int):Bool:=decide (6≤k∧k≤9)
def f2(k:Int):Bool:=decide (k=9)
def f3(k:Int):Bool:=decide (k=7∨k=9∨k=10∨k=15)
def f4(k:Int):Bool:=decide (k=4∨k=16)
def f5(k:Int):Bool:=decide (k=4)
def nil(v:Val.V):Prop:=v.k=0∧v.n=0∧v.f=0∧v.s.size=0
instance (v:Val.V):Decidable (nil v):=by unfold nil;infer_instance
def others(c:C):Prop:=(f0 c.k=true∨c.name.size=0)∧(f1 c.k=true∨c.key.size=0)∧(f2 c.k=true∨nil c.old)∧(f3 c.k=true∨nil c.val)∧(f4 c.k=true∨c.n=0)∧(f5 c.k=true∨c.m=0)
instance (c:C):Decidable (others c):=by unfold others;infer_instance
def nums(c:C):Prop:=
 if c.k=16 then 0≤c.n∧c.n≤3 else if c.k≠4 then True else
 if c.n=2 then 1≤c.m∧c.m≤8 else if c.n=4 then 1≤c.m∧c.m≤5 else 1≤c.n∧c.n≤5∧c.m=0
instance (c:C):Decidable (nums c):=by unfold nums;infer_instance
def aX(c:C):Int:=
 if c.k<1∨18<c.k∨¬others c∨(f0 c.k=true∧c.name.size=0) then 1
 else if 16<c.name.size∨64<c.key.size then 2
 else if Val.aX c.old≠0 then Val.aX c.old
 else if Val.aX c.val≠0 then Val.aX c.val
 else if (c.k=7∨c.k=10)∧c.val.k=0 then 1
 else if c.k=15∧c.val.k≠2 then 7
 else if ¬nums c then 1 else 0
theorem RD(c:C):((c.k<1∨18<c.k)∧aX c=1)∨(¬(c.k<1∨18<c.k)∧decide (others c)=false∧True∧aX c=1)∨
  (¬(c.k<1∨18<c.k)∧decide (others c)=true∧f0 c.k=true∧c.name.size=0∧True∧aX c=1)∨
  (¬(c.k<1∨18<c.k)∧decide (others c)=true∧¬(f0 c.k=true∧c.name.size=0)∧(16<c.name.size∨64<c.key.size)∧True∧aX c=2)∨
  (¬(c.k<1∨18<c.k)∧decide (others c)=true∧¬(f0 c.k=true∧c.name.size=0)∧¬(16<c.name.size∨64<c.key.size)∧Val.aX c.old≠0∧True∧aX c=Val.aX c.old)∨
  (¬(c.k<1∨18<c.k)∧decide (others c)=true∧¬(f0 c.k=true∧c.name.size=0)∧¬(16<c.name.size∨64<c.key.size)∧Val.aX c.old=0∧Val.aX c.val≠0∧True∧aX c=Val.aX c.val)∨
  (¬(c.k<1∨18<c.k)∧decide (others c)=true∧¬(f0 c.k=true∧c.name.size=0)∧¬(16<c.name.size∨64<c.key.size)∧Val.aX c.old=0∧Val.aX c.val=0∧
   (((c.k=7∨c.k=10)∧c.val.k=0∧aX c=1)∨(¬((c.k=7∨c.k=10)∧c.val.k=0)∧c.k=15∧c.val.k≠2∧aX c=7)∨(¬((c.k=7∨c.k=10)∧c.val.k=0)∧¬(c.k=15∧c.val.k≠2)∧decide (nums c)=false∧aX c=1)∨(¬((c.k=7∨c.k=10)∧c.val.k=0)∧¬(c.k=15∧c.val.k≠2)∧decide (nums c)=true∧aX c=0))):=by
 unfold aX;by_cases h1:c.k<1∨18<c.k
 ·refine .inl ⟨h1,?_⟩
  rw[if_pos (by omega)]
 ·by_cases h2:others c
  ·have d2:decide (others c)=true:=decide_eq_true h2
   by_cases h3:f0 c.k=true∧c.name.size=0
   ·exact .inr (.inr (.inl ⟨h1,d2,h3.1,h3.2,trivial,by rw[if_pos (.inr (.inr (.inr h3)))]⟩))
   ·rw[if_neg (by rintro (h|h|h|h);exact h1 (.inl h);exact h1 (.inr h);exact h h2;exact h3 h)]
    by_cases h4:16<c.name.size∨64<c.key.size
    ·exact .inr (.inr (.inr (.inl ⟨h1,d2,h3,h4,trivial,by rw[if_pos h4]⟩)))
    ·rw[if_neg h4]
     by_cases h5:Val.aX c.old≠0
     ·exact .inr (.inr (.inr (.inr (.inl ⟨h1,d2,h3,h4,h5,trivial,by rw[if_pos h5]⟩))))
     ·rw[if_neg h5]
      have h5:Val.aX c.old=0:=Decidable.byContradiction h5;by_cases h6:Val.aX c.val≠0
      ·exact .inr (.inr (.inr (.inr (.inr (.inl ⟨h1,d2,h3,h4,h5,h6,trivial,by rw[if_pos h6]⟩)))))
      ·rw[if_neg h6]
       have h6:Val.aX c.val=0:=Decidable.byContradiction h6;refine .inr (.inr (.inr (.inr (.inr (.inr ⟨h1,d2,h3,h4,h5,h6,?_⟩)))));by_cases h7:(c.k=7∨c.k=10)∧c.val.k=0
       ·exact .inl ⟨h7.1,h7.2,by rw[if_pos h7]⟩
       ·rw[if_neg h7]
        by_cases h8:c.k=15∧c.val.k≠2
        ·exact .inr (.inl ⟨h7,h8.1,h8.2,by rw[if_pos h8]⟩)
        ·rw[if_neg h8]
         by_cases h9:nums c
         ·exact .inr (.inr (.inr ⟨h7,h8,decide_eq_true h9,by rw[if_neg (fun h=>h h9)]⟩))
         ·exact .inr (.inr (.inl ⟨h7,h8,decide_eq_false h9,by rw[if_pos h9]⟩))
  ·refine .inr (.inl ⟨h1,decide_eq_false h2,trivial,?_⟩)
   rw[if_pos (.inr (.inr (.inl h2)))]
def right(e:E):Prop:=0≤e.c∧e.c<5∧1≤e.e∧0≤e.r
instance (e:E):Decidable (right e):=by unfold right;infer_instance
def fits(e:E):Prop:=right e∧aX e.cmd=0∧(e.r=0↔(e.cmd.k=1∨e.cmd.k=18))
instance (e:E):Decidable (fits e):=by unfold fits;infer_instance
def emp:ByteArray:=⟨#[]⟩
theorem kinds(k:Int):k=4∨(k=5∨k=11∨k=12∨k=13∨k=14∨k=17)∨(k=6∨k=8)∨k=7∨k=9∨(k=10∨k=15)∨k=16∨(k<4∨17<k):=by omega
theorem BD{k:Int}(h:k<4∨17<k):f0 k=false∧f1 k=false∧f2 k=false∧f3 k=false∧f4 k=false∧f5 k=false:=by
 unfold f0 f1 f2 f3 f4 f5;refine⟨?_,?_,?_,?_,?_,?_⟩<;>simp<;>omega
theorem Ao{s:ByteArray}(h:s.size=0):s=emp:=Val.mg h
end aI
end
end Go.Proofs.YtahdlddbbnjloaaGreat
