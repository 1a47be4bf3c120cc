/- What a command is, whether it may be; requests' names, events, their items. No condition but those named. -/
import Derived.Test.YtieoeendnccafaaGreatMTK
import Derived.Laws.BitsAllLaws
import Ieee.Arith
import Derived.Lib.Bytealg
import GoSem.Op.String
import Derived.Lib.Hide
import Derived.Test.YtieoeendnccafaaGreatRows
import Derived.WalkKit
import Derived.WalkSpells
import Derived.WalkLawsBesides
import Derived.Handy
import Derived.Deep.QuietTactic
import Derived.BigQuiet
import Derived.Deep.Draws
set_option linter.unusedSimpArgs false
set_option linter.unusedVariables false
set_option maxRecDepth 100000
set_option maxHeartbeats 25600000
namespace Go.Proofs.YtieoeendnccafaaGreat
namespace Num
def sgn:Nat:=9223372036854775808
def inf:Nat:=9218868437227405312
def nan:Nat:=9221120237041090560
def M(b:Nat):Nat:=if inf<b%sgn then nan else b
def rank(b:Nat):Nat:=if M b<sgn then M b+sgn else 18446744073709551615-M b
theorem M_lt{b:Nat}(h:b<18446744073709551616):M b<18446744073709551616:=by unfold M nan;split<;>omega
theorem M_nan{b:Nat}(h:inf<b%sgn):M b=nan:=if_pos h
theorem M_not{b:Nat}(h:¬inf<b%sgn):M b=b:=if_neg h
theorem M_M(b:Nat):M (M b)=M b:=by
 by_cases h:inf<b%sgn
 ·rw[M_nan h];rfl
 ·rw[M_not h,M_not h]
theorem rank_inj{a b:Nat}(ha:a<18446744073709551616)(hb:b<18446744073709551616)(h:rank a=rank b):M a=M b:=by
 have h1:=M_lt ha
 have h2:=M_lt hb
 unfold rank sgn at h
 split at h<;>split at h<;>omega
def cmp(a b:Nat):Int:=if rank a<rank b then -1 else if rank b<rank a then 1 else 0
theorem cmp_le{a b:Nat}:cmp a b≤0↔rank a≤rank b:=by
 unfold cmp;split
 ·constructor<;>intro<;>omega
 ·split
  ·constructor<;>intro<;>omega
  ·constructor<;>intro<;>omega
/- The bits, as the code asks them. -/
theorem cut_sign(b:Nat)(h:b<18446744073709551616):bits .andNot .u64 (b:Int) 9223372036854775808=((b%sgn:Nat):Int):=by
 have h1:=u64_andNot_nat b 9223372036854775808 h (by decide)
 have h2:b &&& (18446744073709551615-9223372036854775808)=b%sgn:=Nat.and_two_pow_sub_one_eq_mod b 63
 rw[h2] at h1
 exact h1
theorem and_sign(b:Nat)(h:b<18446744073709551616):bits .and .u64 (b:Int) 9223372036854775808=((b / sgn%2*sgn:Nat):Int):=by
 have h1:=u64_and_nat b 9223372036854775808 h (by decide)
 have h2:b &&& 9223372036854775808=b / sgn%2*sgn:=nat_bit 63 b
 rw[h2] at h1
 exact h1
theorem or_sign(b:Nat)(h:b<sgn):bits .or .u64 (b:Int) 9223372036854775808=((b+sgn:Nat):Int):=by
 have h1:=u64_or_nat b 9223372036854775808 (by unfold sgn at h;omega) (by decide)
 have h2:b ||| 9223372036854775808=b+sgn:=by
  rw[Nat.or_comm,nat_join 63 9223372036854775808 b (by decide) h];unfold sgn;omega
 rw[h2] at h1
 exact h1
theorem turn_all(b:Nat)(h:b<18446744073709551616):bits .xor .u64 18446744073709551615 (b:Int)=((18446744073709551615-b:Nat):Int):=by
 have h1:=u64_xor_nat 18446744073709551615 b (by decide) h
 have h3:=congrArg BitVec.toNat (BitVec.allOnes_xor (x:=BitVec.ofNat 64 b))
 rw[BitVec.toNat_xor,BitVec.toNat_not,BitVec.toNat_ofNat,Nat.mod_eq_of_lt (by omega),BitVec.toNat_allOnes] at h3
 have h4:18446744073709551615 ^^^ b=18446744073709551615-b:=h3
 rw[h4] at h1
 exact h1
theorem and_frac(b:Nat)(h:b<18446744073709551616):bits .and .u64 (b:Int) 4503599627370495=((b%4503599627370496:Nat):Int):=by
 have h1:=u64_and_nat b 4503599627370495 h (by decide)
 have h2:b &&& 4503599627370495=b%4503599627370496:=Nat.and_two_pow_sub_one_eq_mod b 52
 rw[h2] at h1
 exact h1
theorem and_exp(b:Nat)(h:b<18446744073709551616):bits .and .u64 (b:Int) 9218868437227405312=((b / 4503599627370496%2048*4503599627370496:Nat):Int):=by
 have h1:=u64_and_nat b 9218868437227405312 h (by decide)
 have h2:b &&& 9218868437227405312=b / 4503599627370496%2048*4503599627370496:=by
  have e1:b / 4503599627370496%2048*4503599627370496=((b >>> 52)%2 ^ 11) <<< 52:=by
   rw[Nat.shiftLeft_eq,Nat.shiftRight_eq_div_pow]
  have e2:9218868437227405312=(2 ^ 11-1) <<< 52:=by decide
  rw[e1,e2]
  apply Nat.eq_of_testBit_eq
  intro j
  rw[Nat.testBit_and,Nat.testBit_shiftLeft,Nat.testBit_shiftLeft,Nat.testBit_mod_two_pow,Nat.testBit_shiftRight,Nat.testBit_two_pow_sub_one]
  by_cases hj:52≤j
  ·have e3:52+(j-52)=j:=by omega
   rw[e3]
   simp only[ge_iff_le,hj,decide_true,Bool.true_and]
   exact Bool.and_comm _ _
  ·simp[hj]
 rw[h2] at h1
 exact h1
theorem none_iff(b:Nat):(b / 4503599627370496%2048*4503599627370496=9218868437227405312∧b%4503599627370496≠0)↔inf<b%sgn:=by
 unfold inf sgn;omega
/- Floats. -/
open Ieee
theorem D_binade:double.binade=4503599627370496:=by decide +kernel
theorem D_inf:double.infRung=inf:=by decide +kernel
theorem D_sgn:double.signWeight=sgn:=by decide +kernel
theorem D_least:double.leastPlace = -1074:=by decide +kernel
def rd(neg:Bool)(rung:Nat):Datum:=
 if rung<4503599627370496 then .number neg rung (-1074)
 else if rung<inf then .number neg (4503599627370496+rung%4503599627370496) (-1074+(rung / 4503599627370496-1:Nat))
 else if rung=inf then .infinity neg
 else .nan neg (rung-inf)
def isNeg(b:Nat):Bool:=b / sgn%2==1
theorem read_eq(b:Nat):double.read b=rd (isNeg b) (b%sgn):=by
 unfold Format.read rd isNeg
 rw[D_binade,D_inf,D_sgn,D_least]
theorem rd_nan{b:Nat}(h:inf<b%sgn):∃s t,double.read b=.nan s t:=by
 rw[read_eq];unfold rd
 rw[if_neg (by unfold inf at h;omega),if_neg (by omega),if_neg (by omega)]
 exact⟨_,_,rfl⟩
theorem rd_inf{b:Nat}(h:b%sgn=inf):double.read b=.infinity (isNeg b):=by
 rw[read_eq];unfold rd
 rw[if_neg (by rw[h];decide),if_neg (by omega),if_pos h]
theorem nearest_zero(s:Bool)(p:Int):double.nearest s 0 p=double.word s 0:=by unfold Format.nearest;rw[if_pos rfl]
theorem log2_of{n k:Nat}(h1:2 ^ k≤n)(h2:n<2 ^ (k+1)):n.log2=k:=by
 have hn:n≠0:=by have:=Nat.two_pow_pos k;omega
 exact(Nat.log2_eq_iff hn).2 ⟨h1,h2⟩
theorem nearest_norm(s:Bool)(m e:Nat)(h1:4503599627370496≤m)(h2:m<9007199254740992):
  double.nearest s (m <<< e) (-1074)=double.word s (min (e*4503599627370496+m) inf):=by
 have hp:=Nat.two_pow_pos e
 have hlog:(m <<< e).log2=52+e:=by
  refine log2_of ?_ ?_
  ·rw[Nat.shiftLeft_eq,Nat.pow_add];exact Nat.mul_le_mul_right _ h1
  ·rw[Nat.shiftLeft_eq,show 52+e+1=53+e from by omega,Nat.pow_add];exact Nat.mul_lt_mul_of_pos_right h2 hp
 have hne:¬m <<< e=0:=by
  rw[Nat.shiftLeft_eq]
  intro h
  rcases Nat.mul_eq_zero.1 h with h|h<;>omega
 unfold Format.nearest
 rw[if_neg hne,hlog,D_least,D_inf,D_binade]
 have hf:double.fractionBits=52:=rfl
 rw[hf]
 have hmax:max ((-1074:Int)+((52+e:Nat):Int)-((52:Nat):Int)) (-1074) = -1074+e:=by omega
 simp only[hmax]
 have a1:((-1074:Int)-(-1074+(e:Int))).toNat=0:=by omega
 have a2:((-1074+(e:Int))-(-1074)).toNat=e:=by omega
 rw[a1,a2]
 have hcut:Toward.even.cut s (m <<< e <<< 0) e=m:=by
  unfold Toward.cut
  have g:(1 <<< min e ((m <<< e <<< 0).log2+2))=2 ^ e:=by
   rw[Nat.shiftLeft_zero,hlog,Nat.min_eq_left (by omega),Nat.shiftLeft_eq,Nat.one_mul]
  simp only[g]
  rw[Nat.shiftLeft_zero,Nat.shiftLeft_eq,Nat.mul_div_cancel _ hp,Nat.mul_mod_left]
  have c1:decide (2 ^ e<2*0)=false:=by simp
  have c2:(2 ^ e==2*0)=false:=by rw[beq_eq_false_iff_ne];omega
  rw[c1,c2];rfl
 rw[hcut]
theorem nearest_sub(s:Bool)(m:Nat)(h0:m≠0)(h2:m<4503599627370496):
  double.nearest s m (-1074)=double.word s m:=by
 have hlog:m.log2<52:=(Nat.log2_lt h0).2 h2
 unfold Format.nearest
 rw[if_neg h0,D_least,D_inf,D_binade]
 have hf:double.fractionBits=52:=rfl
 rw[hf]
 have hmax:max ((-1074:Int)+(m.log2:Int)-((52:Nat):Int)) (-1074) = -1074:=by omega
 simp only[hmax]
 have a1:((-1074:Int)-(-1074)).toNat=0:=by decide
 rw[a1]
 have hcut:Toward.even.cut s (m <<< 0) 0=m:=by
  unfold Toward.cut
  have g:(1 <<< min 0 ((m <<< 0).log2+2))=1:=by rw[Nat.zero_min];rfl
  simp only[g]
  rw[Nat.shiftLeft_zero,Nat.div_one,Nat.mod_one]
  rfl
 rw[hcut,Nat.zero_mul,Nat.zero_add,Nat.min_eq_left (by unfold inf;omega)]
theorem rd_fin{rung:Nat}(h:rung<inf):∃m i,-1074≤i∧(∀s,rd s rung=.number s m i)∧∀s,double.nearest s (m <<< (i-(-1074)).toNat) (-1074)=double.word s rung:=by
 by_cases hs:rung<4503599627370496
 ·refine⟨rung,-1074,by omega,fun s=>by unfold rd;rw[if_pos hs],fun s=>?_⟩
  have a1:((-1074:Int)-(-1074)).toNat=0:=by decide
  rw[a1,Nat.shiftLeft_zero]
  by_cases h0:rung=0
  ·subst h0;exact nearest_zero s _
  ·exact nearest_sub s rung h0 hs
 ·refine⟨4503599627370496+rung%4503599627370496,-1074+(rung / 4503599627370496-1:Nat),by omega,fun s=>by unfold rd;rw[if_neg hs,if_pos h],fun s=>?_⟩
  have a1:((-1074+((rung / 4503599627370496-1:Nat):Int))-(-1074)).toNat=rung / 4503599627370496-1:=by omega
  rw[a1,nearest_norm s _ _ (by omega) (by omega)]
  congr 1
  rw[Nat.min_eq_left (by unfold inf at *;omega)]
  omega
theorem word_eq(s:Bool)(r:Nat):double.word s r=if s then sgn+r else r:=by unfold Format.word;rw[D_sgn]
theorem word_back{b:Nat}(h:b<18446744073709551616):double.word (isNeg b) (b%sgn)=b:=by
 rw[word_eq];unfold isNeg sgn
 split<;>rename_i hb<;>simp only[beq_iff_eq] at hb<;>omega
def S(u v:Nat):Nat:=match double.add u v with
 | some r=>M r
 | none=>nan
theorem M_mod(b:Nat):(inf<M b%sgn)↔inf<b%sgn:=by
 by_cases h:inf<b%sgn
 ·rw[M_nan h];exact⟨fun _=>h,fun _=>by decide⟩
 ·rw[M_not h]
theorem add_nan_l{u v:Nat}(h:inf<u%sgn):double.add u v=none:=by
 obtain⟨s,t,h1⟩:=rd_nan h
 unfold Format.add;rw[h1];rfl
theorem add_nan_r{u v:Nat}(h:inf<v%sgn):double.add u v=none:=by
 obtain⟨s,t,h1⟩:=rd_nan h
 unfold Format.add;rw[h1]
 cases double.read u<;>rfl
theorem S_M(a b:Nat):S (M a) (M b)=S a b:=by
 by_cases ha:inf<a%sgn
 ·unfold S;rw[add_nan_l ha,add_nan_l ((M_mod a).2 ha)]
 ·by_cases hb:inf<b%sgn
  ·unfold S;rw[add_nan_r hb,add_nan_r ((M_mod b).2 hb)]
  ·rw[M_not ha,M_not hb]
theorem sum_comm(x y:Datum):x.sum y=y.sum x:=by
 cases x<;>cases y<;>try rfl
 ·rename_i s m i t n j
  unfold Datum.sum
  have e1:min i j=min j i:=Int.min_comm _ _
  simp only[e1]
  have e2:signed s m (i-min j i).toNat+signed t n (j-min j i).toNat=signed t n (j-min j i).toNat+signed s m (i-min j i).toNat:=Int.add_comm _ _
  simp only[e2,Bool.and_comm s t]
 ·rename_i s t
  show(if s=t then some (Datum.infinity s) else none)=(if t=s then some (Datum.infinity t) else none)
  by_cases h:s=t
  ·subst h;rfl
  ·rw[if_neg h,if_neg (fun e=>h e.symm)]
theorem S_comm(a b:Nat):S a b=S b a:=by unfold S Format.add;rw[sum_comm]
theorem S_nan(a:Nat):S a nan=nan:=by unfold S;rw[add_nan_r (by decide)]
theorem write_inf(s:Bool):double.write (.infinity s)=double.word s inf:=by show double.word s double.infRung=_;rw[D_inf]
theorem read_fin{b:Nat}(h:b%sgn<inf):∃m i,-1074≤i∧double.read b=.number (isNeg b) m i∧(∀c,c%sgn=b%sgn→double.read c=.number (isNeg c) m i)∧∀s,double.nearest s (m <<< (i-(-1074)).toNat) (-1074)=double.word s (b%sgn):=by
 obtain⟨m,i,hi,hr,hn⟩:=rd_fin h
 exact⟨m,i,hi,by rw[read_eq,hr],fun c hc=>by rw[read_eq,hc,hr],hn⟩
theorem inf_add{a b:Nat}(h:a<18446744073709551616)(hi:a%sgn=inf)(hb:b%sgn<inf):S a b=a:=by
 have h1:double.add a b=some a:=by
  obtain⟨m,i,-,hr,-⟩:=read_fin hb
  unfold Format.add;rw[rd_inf hi,hr]
  show Option.map double.write (some (Datum.infinity (isNeg a)))=_
  rw[Option.map_some,write_inf,← hi,word_back h]
 unfold S;rw[h1]
 exact M_not (by omega)
theorem read_neg_zero:double.read sgn=.number true 0 (-1074):=by decide +kernel
theorem fin_zero{a:Nat}(h:a<18446744073709551616)(ha:a%sgn<inf):S a sgn=a:=by
 have h1:double.add a sgn=some a:=by
  obtain⟨m,i,hi,hr,-,hn⟩:=read_fin ha
  have hm:min i (-1074) = -1074:=by omega
  unfold Format.add;rw[hr,read_neg_zero]
  obtain⟨V,hV⟩:∃V,V=m <<< (i-(-1074)).toNat:=⟨_,rfl⟩
  have ht:signed (isNeg a) m (i-min i (-1074)).toNat+signed true 0 ((-1074)-min i (-1074)).toNat=if isNeg a then -(V:Int) else (V:Int):=by
   unfold signed
   rw[hm,← hV]
   cases isNeg a<;>simp
  show Option.map double.write (some (.number (if signed (isNeg a) m (i-min i (-1074)).toNat+signed true 0 ((-1074)-min i (-1074)).toNat=0 then isNeg a&&true else decide (signed (isNeg a) m (i-min i (-1074)).toNat+signed true 0 ((-1074)-min i (-1074)).toNat<0)) (signed (isNeg a) m (i-min i (-1074)).toNat+signed true 0 ((-1074)-min i (-1074)).toNat).natAbs (min i (-1074))))=_
  rw[ht,hm,Option.map_some]
  show some (double.nearest _ _ _)=_
  have hs:(if (if isNeg a then -(V:Int) else (V:Int))=0 then isNeg a&&true else decide ((if isNeg a then -(V:Int) else (V:Int))<0))=isNeg a:=by
   cases isNeg a
   ·simp
   ·by_cases hz:V=0
    ·simp[hz]
    ·simp only[if_true];rw[if_neg (by omega)];exact decide_eq_true (by omega)
  have ha2:(if isNeg a then -(V:Int) else (V:Int)).natAbs=V:=by cases isNeg a<;>simp
  rw[hs,ha2,hV,hn,word_back h]
 unfold S;rw[h1]
 exact M_not (by omega)
theorem add_zero{a:Nat}(h:a<18446744073709551616)(hm:M a=a):S a sgn=a:=by
 by_cases h1:inf<a%sgn
 ·have:a=nan:=by rw[M_nan h1] at hm;exact hm.symm
  subst this
  rw[S_comm,S_nan]
 ·by_cases h2:a%sgn=inf
  ·exact inf_add h h2 (by decide)
  ·exact fin_zero h (by omega)
/- Whole numbers. -/
def rnd(g n:Nat):Nat:=n / g+(decide (g<2*(n%g)) || (g==2*(n%g)&&n / g%2==1)).toNat
def kept(L n:Nat):Nat:=rnd (2 ^ (L-52)) (n*2 ^ (52-L))
def rung(n:Nat):Nat:=if n=0 then 0 else min ((n.log2+1022)*4503599627370496+kept n.log2 n) inf
def ofInt(n:Int):Nat:=double.write (.number (n<0) n.natAbs 0)
end Num
section
namespace Val
structure V where
 k:Int
 n:Int
 f:Nat
 s:ByteArray
def chk(v:V):Int:=
 if v.k<0∨3<v.k then 1
 else if v.n≠0∧v.k≠1 then 1
 else if v.f≠0∧v.k≠2 then 1
 else if v.s.size≠0∧v.k≠3 then 1
 else if Num.M v.f≠v.f then 1
 else if 64<v.s.size then 2 else 0
def emp:ByteArray:=⟨#[]⟩
def zero:V:=⟨0,0,0,emp⟩
theorem size_zero{s:ByteArray}(h:s.size=0):s=emp:=by
 apply ByteArray.ext
 exact Array.eq_empty_of_size_eq_zero h
theorem chk_ok{v:V}(h:chk v=0):v=⟨0,0,0,emp⟩∨v=⟨1,v.n,0,emp⟩∨(v=⟨2,0,v.f,emp⟩∧Num.M v.f=v.f)∨(v=⟨3,0,0,v.s⟩∧v.s.size≤64):=by
 obtain⟨k,n,f,s⟩:=v
 unfold chk at h
 simp only at h ⊢
 split at h
 ·cases h
 split at h
 ·cases h
 split at h
 ·cases h
 split at h
 ·cases h
 split at h
 ·cases h
 split at h
 ·cases h
 next h1 h2 h3 h4 h5 h6=>
 have h5:Num.M f=f:=Decidable.byContradiction h5
 have hk:k=0∨k=1∨k=2∨k=3:=by omega
 rcases hk with rfl|rfl|rfl|rfl
 ·obtain rfl:n=0:=by omega
  obtain rfl:f=0:=by omega
  obtain rfl:=size_zero (s:=s) (by omega)
  exact .inl rfl
 ·obtain rfl:f=0:=by omega
  obtain rfl:=size_zero (s:=s) (by omega)
  exact .inr (.inl rfl)
 ·obtain rfl:n=0:=by omega
  obtain rfl:=size_zero (s:=s) (by omega)
  exact .inr (.inr (.inl ⟨rfl,h5⟩))
 ·obtain rfl:n=0:=by omega
  obtain rfl:f=0:=by omega
  exact .inr (.inr (.inr ⟨rfl,by omega⟩))
theorem M_zero:Num.M 0=0:=by decide
theorem chk_none:chk zero=0:=by
 unfold chk zero
 rw[if_neg (by decide),if_neg (by decide),if_neg (by decide),if_neg (by decide),if_neg (by decide),if_neg (by decide)]
theorem emp_size:emp.size=0:=rfl
theorem chk_int(n:Int):chk ⟨1,n,0,emp⟩=0:=by
 unfold chk
 rw[if_neg (show ¬((1:Int)<0∨3<(1:Int)) by decide),if_neg (by simp),if_neg (by simp),if_neg (by intro h;exact h.1 rfl),if_neg (by rw[M_zero];simp),if_neg (by rw[emp_size];decide)]
theorem chk_text(s:ByteArray):chk ⟨3,0,0,s⟩=if 64<s.size then 2 else 0:=by
 unfold chk
 rw[if_neg (show ¬((3:Int)<0∨3<(3:Int)) by decide),if_neg (by simp),if_neg (by simp),if_neg (by simp),if_neg (by rw[M_zero];simp)]
def sg(f:Nat):Int:=if f<9223372036854775808 then f else (f:Int)-18446744073709551616
def us(n:Int):Nat:=(n%18446744073709551616).toNat
theorem us_sg{f:Nat}(h:f<18446744073709551616):us (sg f)=f:=by unfold us sg;split<;>omega
instance:DecidableEq V:=fun a b=>decidable_of_iff (a.k=b.k∧a.n=b.n∧a.f=b.f∧a.s=b.s) ⟨fun h=>by
 obtain⟨k,n,f,s⟩:=a
 obtain⟨k',n',f',s'⟩:=b
 obtain⟨rfl,rfl,rfl,rfl⟩:=h
 rfl,fun h=>by rw[h];exact⟨rfl,rfl,rfl,rfl⟩⟩
theorem str_inj{a b:ByteArray}(h:a.toList=b.toList):a=b:=by
 rw[ByteArray.toList_eq,ByteArray.toList_eq] at h
 apply ByteArray.ext
 exact Array.toList_inj.1 h
theorem str_iff{a b:ByteArray}:a=b↔a.toList=b.toList:=⟨fun h=>by rw[h],str_inj⟩
end Val
end
section
namespace Sto
structure Rp where
 e:Int
 v:Val.V
 deriving DecidableEq
def rep(r:Rp):Bool:=decide (0≤r.e)&&decide (r.e≤18)&&decide (Val.chk r.v=0)
def rz:Rp:=⟨0,⟨0,0,0,⟨#[]⟩⟩⟩
def err(e:Int):Rp:=⟨e,⟨0,0,0,⟨#[]⟩⟩⟩
end Sto
end
section
namespace Dct
structure Pr where
 key:ByteArray
 val:Val.V
open Go.Op in
theorem bl_irrefl:∀a:List UInt8,bytesLess a a=false
 | []=>rfl
 | x::r=>by
  unfold bytesLess
  rw[bl_irrefl r];simp
open Go.Op in
theorem bl_trans:∀a b c:List UInt8,bytesLess a b=true→bytesLess b c=true→bytesLess a c=true
 | _,[],_,h,_=>by cases ‹List UInt8› <;> simp[bytesLess] at h
 | _,_::_,[],_,h=>by simp[bytesLess] at h
 | [],_::_,_::_,_,_=>rfl
 | x::a,y::b,z::c,h1,h2=>by
  simp only[bytesLess,Bool.or_eq_true,Bool.and_eq_true,decide_eq_true_eq,beq_iff_eq] at h1 h2 ⊢
  rcases h1 with h1|⟨rfl,h1⟩<;>rcases h2 with h2|⟨rfl,h2⟩
  ·exact .inl (UInt8.lt_trans h1 h2)
  ·exact .inl h1
  ·exact .inl h2
  ·exact .inr ⟨rfl,bl_trans a b c h1 h2⟩
open Go.Op in
theorem bl_tri:∀a b:List UInt8,bytesLess a b=true∨a=b∨bytesLess b a=true
 | [],[]=>.inr (.inl rfl)
 | [],_::_=>.inl rfl
 | _::_,[]=>.inr (.inr rfl)
 | x::a,y::b=>by
  simp only[bytesLess,Bool.or_eq_true,Bool.and_eq_true,decide_eq_true_eq,beq_iff_eq]
  by_cases h1:x<y
  ·exact .inl (.inl h1)
  by_cases h2:y<x
  ·exact .inr (.inr (.inl h2))
  have e:x=y:=by
   apply UInt8.toNat_inj.1
   have h1':¬x.toNat<y.toNat:=h1
   have h2':¬y.toNat<x.toNat:=h2
   omega
  subst e
  rcases bl_tri a b with h|h|h
  ·exact .inl (.inr ⟨rfl,h⟩)
  ·exact .inr (.inl (by rw[h]))
  ·exact .inr (.inr (.inr ⟨rfl,h⟩))
def lt(a b:ByteArray):Bool:=Go.Op.bytesLess a.toList b.toList
theorem toList_inj{a b:ByteArray}(h:a.toList=b.toList):a=b:=by
 rw[ByteArray.toList_eq,ByteArray.toList_eq] at h
 apply ByteArray.ext
 exact Array.toList_inj.1 h
theorem eq_iff{a b:ByteArray}:a=b↔a.toList=b.toList:=⟨fun h=>by rw[h],toList_inj⟩
theorem lt_irrefl(a:ByteArray):lt a a=false:=bl_irrefl _
theorem lt_trans{a b c:ByteArray}(h1:lt a b=true)(h2:lt b c=true):lt a c=true:=bl_trans _ _ _ h1 h2
theorem lt_tri(a b:ByteArray):lt a b=true∨a=b∨lt b a=true:=by
 rcases bl_tri a.toList b.toList with h|h|h
 ·exact .inl h
 ·exact .inr (.inl (toList_inj h))
 ·exact .inr (.inr h)
theorem lt_ne{a b:ByteArray}(h:lt a b=true):¬a=b:=fun e=>by rw[e,lt_irrefl] at h;cases h
theorem lt_asymm{a b:ByteArray}(h:lt a b=true):lt b a=false:=by
 cases hb:lt b a with
 | false=>rfl
 | true=>have:=lt_trans h hb;rw[lt_irrefl] at this;cases this
def pchk(k:ByteArray)(v:Val.V):Int:=if v.k=0 then 1 else if 64<k.size then 2 else Val.chk v
def Up(l:List Pr):Prop:=l.Pairwise fun a b=>lt a.key b.key=true
structure Right(l:List Pr):Prop where
 len:l.length≤8
 ok:∀x∈l,pchk x.key x.val=0
 up:Up l
def Good(l:List Pr)(i:Nat):Prop:=∀x,l[i]?=some x→pchk x.key x.val=0∧∀j y,i=j+1→l[j]?=some y→lt y.key x.key=true
theorem up_of{l:List Pr}(h:∀i x y,l[i]?=some x→l[i+1]?=some y→lt x.key y.key=true):Up l:=by
 induction l with
 | nil=>exact List.Pairwise.nil
 | cons a r ih=>
  have hr:=ih fun i x y hx hy=>h (i+1) x y (by simpa using hx) (by simpa using hy)
  refine List.Pairwise.cons (fun b hb=>?_) hr
  match r,hb,hr,h with
  | c::r',hb,hr,h=>
   have h0:=h 0 a c rfl rfl
   rcases List.mem_cons.1 hb with rfl|hb
   ·exact h0
   ·exact lt_trans h0 ((List.pairwise_cons.1 hr).1 b hb)
theorem right_iff(l:List Pr):Right l↔l.length≤8∧∀i,i<l.length→Good l i:=by
 constructor
 ·intro h
  refine⟨h.len,fun i hi x hx=>⟨h.ok x (List.mem_of_getElem? hx),fun j y hj hy=>?_⟩⟩
  subst hj
  obtain⟨h1,e1⟩:=List.getElem?_eq_some_iff.1 hx
  obtain⟨h2,e2⟩:=List.getElem?_eq_some_iff.1 hy
  have:=(List.pairwise_iff_getElem.1 h.up) j (j+1) h2 h1 (by omega)
  rw[e1,e2] at this
  exact this
 ·intro h
  refine⟨h.1,fun x hx=>?_,up_of fun i x y hx hy=>?_⟩
  ·obtain⟨i,hi,e⟩:=List.getElem_of_mem hx
   exact(h.2 i hi x (by rw[List.getElem?_eq_getElem hi,e])).1
  ·exact(h.2 (i+1) (List.getElem?_eq_some_iff.1 hy).1 y hy).2 i x rfl hx
theorem right_nil:Right []:=⟨by simp,fun x hx=>by simp at hx,List.Pairwise.nil⟩
def fnd:List Pr→ByteArray→Option Val.V
 | [],_=>none
 | x::r,k=>if x.key=k then some x.val else fnd r k
def wo(l:List Pr)(k:ByteArray):List Pr:=l.filter fun p=>!decide (p.key=k)
def idx:List Pr→ByteArray→Nat
 | [],_=>0
 | x::r,k=>if lt x.key k=true then idx r k+1 else 0
def fin(l:List Pr)(k:ByteArray):Nat:=match l[idx l k]? with
 | some x=>if x.key=k then idx l k+1 else idx l k
 | none=>idx l k
theorem fin_cons_lt{x:Pr}{r:List Pr}{k:ByteArray}(h:lt x.key k=true):idx (x::r) k=idx r k+1∧fin (x::r) k=fin r k+1:=by
 have e:idx (x::r) k=idx r k+1:=by conv=>lhs;unfold idx;rw[if_pos h]
 refine⟨e,?_⟩
 unfold fin
 rw[e,List.getElem?_cons_succ]
 split<;>(try split)<;>rfl
theorem fin_cons_eq{x:Pr}{r:List Pr}:idx (x::r) x.key=0∧fin (x::r) x.key=1:=by
 have e:idx (x::r) x.key=0:=by unfold idx;rw[if_neg (by rw[lt_irrefl];simp)]
 refine⟨e,?_⟩
 unfold fin
 rw[e]
 simp
theorem fin_cons_gt{x:Pr}{r:List Pr}{k:ByteArray}(h:lt k x.key=true):idx (x::r) k=0∧fin (x::r) k=0:=by
 have e:idx (x::r) k=0:=by unfold idx;rw[if_neg (by rw[lt_asymm h];simp)]
 refine⟨e,?_⟩
 unfold fin
 rw[e]
 have hne:¬x.key=k:=fun e=>lt_ne h e.symm
 simp[hne]
theorem wo_above{l:List Pr}{k:ByteArray}(h:∀x∈l,¬x.key=k):wo l k=l:=by
 unfold wo
 rw[List.filter_eq_self]
 intro x hx
 simp[h x hx]
theorem fnd_above{l:List Pr}{k:ByteArray}(h:∀x∈l,¬x.key=k):fnd l k=none:=by
 induction l with
 | nil=>rfl
 | cons x r ih=>
  unfold fnd
  rw[if_neg (h x (List.mem_cons_self ..))]
  exact ih fun y hy=>h y (List.mem_cons_of_mem _ hy)
theorem above{x:Pr}{r:List Pr}(h:Up (x::r)){k:ByteArray}(hk:x.key=k∨lt k x.key=true):∀y∈r,lt k y.key=true:=fun y hy=>by
 have h1:=(List.pairwise_cons.1 h).1 y hy
 rcases hk with rfl|hk
 ·exact h1
 ·exact lt_trans hk h1
theorem idx_above{l:List Pr}{k:ByteArray}(h:∀y∈l,lt k y.key=true):idx l k=0:=by
 match l,h with
 | [],_=>rfl
 | x::r,h=>exact(fin_cons_gt (h x (List.mem_cons_self ..))).1
theorem wo_parts{l:List Pr}(h:Up l)(k:ByteArray):l.take (idx l k)++l.drop (fin l k)=wo l k∧idx (wo l k) k=idx l k∧(fnd l k=if fin l k=idx l k then none else (l[idx l k]?).map (·.val))∧fin l k≤idx l k+1:=by
 induction l with
 | nil=>exact⟨rfl,rfl,rfl,Nat.le_succ 0⟩
 | cons x r ih=>
  obtain⟨i1,i2,i3,i4⟩:=ih (List.pairwise_cons.1 h).2
  rcases lt_tri x.key k with hk|hk|hk
  ·obtain⟨e1,e2⟩:=fin_cons_lt (r:=r) hk
   have hne:=lt_ne hk
   have ew:wo (x::r) k=x::wo r k:=by unfold wo;rw[List.filter_cons_of_pos (by simp[hne])]
   refine⟨?_,?_,?_,by omega⟩
   ·rw[e1,e2,ew,List.take_succ_cons,List.drop_succ_cons,lcA,i1]
   ·rw[ew,(fin_cons_lt hk).1,i2,e1]
   ·rw[e1,e2,List.getElem?_cons_succ]
    have ef:fnd (x::r) k=fnd r k:=by conv=>lhs;unfold fnd;rw[if_neg hne]
    rw[ef,i3]
    by_cases hh:fin r k=idx r k
    ·rw[if_pos hh,if_pos (by omega)]
    ·rw[if_neg hh,if_neg (by omega)]
  ·subst hk
   obtain⟨e1,e2⟩:=fin_cons_eq (x:=x) (r:=r)
   have hab:=above h (.inl rfl)
   have hr:wo r x.key=r:=wo_above fun y hy e=>lt_ne (hab y hy) e.symm
   have ew:wo (x::r) x.key=r:=by unfold wo;rw[List.filter_cons_of_neg (by simp)];exact hr
   refine⟨?_,?_,?_,by omega⟩
   ·rw[e1,e2,ew];rfl
   ·rw[ew,e1];exact idx_above hab
   ·rw[e1,e2];unfold fnd;simp
  ·obtain⟨e1,e2⟩:=fin_cons_gt (r:=r) hk
   have hab:=above h (.inr hk)
   have hne:∀y∈x::r,¬y.key=k:=fun y hy e=>by
    rcases List.mem_cons.1 hy with rfl|hy
    ·exact lt_ne hk e.symm
    ·exact lt_ne (hab y hy) e.symm
   rw[wo_above hne,fnd_above hne,e1,e2]
   exact⟨rfl,rfl,by simp,Nat.le_succ 0⟩
def ins(l:List Pr)(k:ByteArray)(v:Val.V):List Pr:=l.take (idx l k)++[⟨k,v⟩]++l.drop (fin l k)
theorem wo_mem{l:List Pr}{k:ByteArray}{x:Pr}:x∈wo l k↔x∈l∧¬x.key=k:=by
 unfold wo;rw[List.mem_filter];simp
theorem ins_perm{l:List Pr}(h:Up l)(k:ByteArray)(v:Val.V):(ins l k v).Perm (wo l k++[⟨k,v⟩]):=by
 unfold ins
 rw[← (wo_parts h k).1,List.append_assoc,List.append_assoc]
 exact List.Perm.append_left _ List.perm_append_comm
def Apart(l:List Pr):Prop:=l.Pairwise fun a b=>¬a.key=b.key
instance (l:List Pr):Decidable (Right l):=decidable_of_iff (l.length≤8∧(∀x∈l,pchk x.key x.val=0)∧l.Pairwise (fun(a b:Pr)=>lt a.key b.key=true)) ⟨fun h=>⟨h.1,h.2.1,h.2.2⟩,fun h=>⟨h.len,h.ok,h.up⟩⟩
def emp:Val.V:=⟨0,0,0,⟨#[]⟩⟩
def gtV(l:List Pr)(k:ByteArray):Val.V:=if Right l then (fnd l k).getD emp else emp
def gtE(l:List Pr)(k:ByteArray):Int:=if Right l then (if (fnd l k).isSome then 0 else 5) else 1
def ptE(l:List Pr)(k:ByteArray)(v:Val.V):Int:=if Right l then (if pchk k v=0 then (if (wo l k).length<8 then 0 else 6) else pchk k v) else 1
def ptL(l:List Pr)(k:ByteArray)(v:Val.V):List Pr:=if ptE l k v=0 then ins l k v else l
def ctL(l:List Pr)(k:ByteArray):List Pr:=if gtE l k=0 then wo l k else l
def swE(l:List Pr)(k:ByteArray)(o v:Val.V):Int:=if Right l then (if gtV l k=o then (if v=emp then 0 else ptE l k v) else 9) else 1
def swV(l:List Pr)(k:ByteArray)(o:Val.V):Val.V:=if gtV l k=o then emp else gtV l k
def swL(l:List Pr)(k:ByteArray)(o v:Val.V):List Pr:=if swE l k o v=0 then (if v=emp then wo l k else ins l k v) else l
instance:DecidableEq Pr:=fun a b=>decidable_of_iff (a.key=b.key∧a.val=b.val) ⟨fun h=>by
 obtain⟨k,v⟩:=a
 obtain⟨k',v'⟩:=b
 obtain⟨rfl,rfl⟩:=h
 rfl,fun h=>by rw[h];exact⟨rfl,rfl⟩⟩
end Dct
end
section
namespace Que
def vchk(v:Val.V):Int:=if v.k=0 then 1 else Val.chk v
structure Right(n:Int)(l:List Val.V):Prop where
 lo:1≤n
 hi:n≤8
 len:(l.length:Int)≤n
 ok:∀v∈l,vchk v=0
instance (n:Int) (l:List Val.V):Decidable (Right n l):=decidable_of_iff (1≤n∧n≤8∧(l.length:Int)≤n∧∀v∈l,vchk v=0) ⟨fun h=>⟨h.1,h.2.1,h.2.2.1,h.2.2.2⟩,fun h=>⟨h.lo,h.hi,h.len,h.ok⟩⟩
def emp:Val.V:=⟨0,0,0,⟨#[]⟩⟩
def psE(n:Int)(l:List Val.V)(v:Val.V):Int:=if Right n l then (if vchk v=0 then (if (l.length:Int)=n then 6 else 0) else vchk v) else 1
def psL(n:Int)(l:List Val.V)(v:Val.V):List Val.V:=if psE n l v=0 then l++[v] else l
def ppE(n:Int)(l:List Val.V):Int:=if Right n l then (if l.length=0 then 10 else 0) else 1
def ppL(n:Int)(l:List Val.V):List Val.V:=if Right n l then l.drop 1 else l
def ppV(n:Int)(l:List Val.V):Val.V:=if Right n l then l.headD emp else emp
theorem vchk_none{v:Val.V}(h:v.k=0):vchk v=1:=if_pos h
theorem vchk_some{v:Val.V}(h:¬v.k=0):vchk v=Val.chk v:=if_neg h
theorem right_nil{n:Int}(h1:1≤n)(h2:n≤8):Right n []:=⟨h1,h2,by show(0:Int)≤n;omega,fun x hx=>by simp at hx⟩
theorem right_told{n:Int}{l:List Val.V}{m:Nat}(hl:l.length=m)(h1:1≤n)(h2:n≤8)(h3:(m:Int)≤n):(∀(i:Nat) v,l[i]?=some v→¬vchk v=0→decide (Right n l)=false)∧((∀(i:Nat) v,i<m→l[i]?=some v→vchk v=0)→decide (Right n l)=true):=by
 subst hl
 refine⟨fun i v hi hv=>decide_eq_false fun h=>hv (h.ok v (List.mem_of_getElem? hi)),fun h=>decide_eq_true ⟨h1,h2,h3,fun v hv=>?_⟩⟩
 obtain⟨i,hi,e⟩:=List.getElem_of_mem hv
 exact h i v hi (by rw[List.getElem?_eq_getElem hi,e])
end Que
end
section
structure Rf where
 c:Int
 e:Int
 r:Int
deriving DecidableEq
namespace Lck
def zero:Rf:=⟨0,0,0⟩
def ok(x:Rf):Prop:=0≤x.c∧x.c<5∧1≤x.e∧0≤x.r
instance (x:Rf):Decidable (ok x):=by unfold ok;infer_instance
def mine(a b:Rf):Prop:=a.c=b.c∧a.e=b.e
instance (a b:Rf):Decidable (mine a b):=by unfold mine;infer_instance
def asked(l:List Rf)(c:Int):Bool:=l.any fun x=>decide (x.c=c)
theorem asked_told{l:List Rf}{n:Nat}(hn:l.length=n)(c:Int):(∀(i:Nat) x,l[i]?=some x→x.c=c→asked l c=true)∧((∀(i:Nat) x,i<n→l[i]?=some x→¬x.c=c)→asked l c=false):=by
 refine⟨fun i x hx h=>List.any_eq_true.2 ⟨x,List.mem_of_getElem? hx,decide_eq_true h⟩,fun h=>Bool.eq_false_iff.2 fun ha=>?_⟩
 obtain⟨x,hx,hd⟩:=List.any_eq_true.1 ha
 obtain⟨i,hi⟩:=List.mem_iff_getElem?.1 hx
 exact h i x (by rw[← hn];exact(List.getElem?_eq_some_iff.1 hi).1) hi (of_decide_eq_true hd)
def Right(l:List Rf):Prop:=∀i,i<l.length→∀x,l[i]?=some x→ok x∧asked (l.take i) x.c=false
theorem right_iff(l:List Rf):Right l↔∀i,i<l.length→(l[i]?.all fun x=>decide (ok x)&&!asked (l.take i) x.c)=true:=by
 refine forall_congr' fun i=>forall_congr' fun hi=>?_
 rw[List.getElem?_eq_getElem hi]
 simp
instance (l:List Rf):Decidable (Right l):=decidable_of_iff _ (right_iff l).symm
theorem right_told{l:List Rf}{n:Nat}(hn:l.length=n):(∀(i:Nat) x,i<n→l[i]?=some x→¬(ok x∧asked (l.take i) x.c=false)→decide (Right l)=false)∧((∀(i:Nat) x,i<n→l[i]?=some x→ok x∧asked (l.take i) x.c=false)→decide (Right l)=true):=
 ⟨fun i x hi hx h=>decide_eq_false fun hr=>h (hr i (by omega) x hx),fun h=>decide_eq_true fun i hi x hx=>h i x (by omega) hx⟩
theorem right_nil:Right []:=fun i hi=>by simp at hi
def tkE(l:List Rf)(r:Rf):Int:=if Right l∧ok r then (if asked l r.c then 11 else 0) else 1
def tkL(l:List Rf)(r:Rf):List Rf:=if tkE l r=0 then l++[r] else l
def tkH(l:List Rf)(r:Rf):Bool:=decide (tkE l r=0)&&decide (l.length=0)
def frE(l:List Rf)(r:Rf):Int:=if Right l then (if l.length=0 then 12 else if mine (l.headD zero) r then 0 else 12) else 1
def frL(l:List Rf)(r:Rf):List Rf:=if frE l r=0 then l.drop 1 else l
def frN(l:List Rf)(r:Rf):Rf:=if frE l r=0 then (l.drop 1).headD zero else zero
def frS(l:List Rf)(r:Rf):Bool:=decide (frE l r=0)&&decide (1<l.length)
def wo(l:List Rf)(r:Rf):List Rf:=l.filter fun x=>!decide (mine x r)
def drL(l:List Rf)(r:Rf):List Rf:=if Right l then wo l r else l
def drS(l:List Rf)(r:Rf):Bool:=decide (Right l)&&decide (0<(wo l r).length)&&!decide ((wo l r).headD zero=l.headD zero)
def drN(l:List Rf)(r:Rf):Rf:=if drS l r=true then (wo l r).headD zero else zero
theorem right_cons{x:Rf}{m:List Rf}:Right (x::m)↔ok x∧asked m x.c=false∧Right m:=by
 constructor
 ·intro h
  have h0:=h 0 (by simp) x rfl
  have hA:∀i y,m[i]?=some y→ok y∧asked (m.take i) y.c=false∧¬x.c=y.c:=fun i y hy=>by
   have h1:=h (i+1) (by have:=(List.getElem?_eq_some_iff.1 hy).1;simp;omega) y (by rw[List.getElem?_cons_succ];exact hy)
   rw[List.take_succ_cons] at h1
   have h2:asked (x::m.take i) y.c=(decide (x.c=y.c) || asked (m.take i) y.c):=rfl
   rw[h2,Bool.or_eq_false_iff,decide_eq_false_iff_not] at h1
   exact⟨h1.1,h1.2.2,h1.2.1⟩
  refine⟨h0.1,(asked_told (l:=m) rfl x.c).2 fun i y _ hy e=>(hA i y hy).2.2 e.symm,fun i _ y hy=>⟨(hA i y hy).1,(hA i y hy).2.1⟩⟩
 ·rintro ⟨h1,h2,h3⟩ i hi y hy
  cases i with
  | zero=>injection hy with hy;subst hy;exact⟨h1,rfl⟩
  | succ i=>
   rw[List.getElem?_cons_succ] at hy
   have h4:=h3 i (by simp at hi;omega) y hy
   refine⟨h4.1,?_⟩
   rw[List.take_succ_cons]
   show(decide (x.c=y.c) || asked (m.take i) y.c)=false
   rw[h4.2,Bool.or_false,decide_eq_false_iff_not]
   intro e
   rw[(asked_told (l:=m) rfl x.c).1 i y hy e.symm] at h2
   cases h2
theorem asked_filter{m:List Rf}{c:Int}(p:Rf→Bool)(h:asked m c=false):asked (m.filter p) c=false:=by
 rw[Bool.eq_false_iff] at h ⊢
 intro ha
 obtain⟨x,hx,hd⟩:=List.any_eq_true.1 ha
 exact h (List.any_eq_true.2 ⟨x,(List.mem_filter.1 hx).1,hd⟩)
theorem right_filter(p:Rf→Bool):∀{l:List Rf},Right l→Right (l.filter p)
 | [],_=>right_nil
 | x::m,h=>by
  obtain⟨h1,h2,h3⟩:=right_cons.1 h
  rw[List.filter_cons]
  split
  ·exact right_cons.2 ⟨h1,asked_filter p h2,right_filter p h3⟩
  ·exact right_filter p h3
theorem len_filter{q:Int}:∀{l:List Rf},Right l→l.length≤(l.filter fun x=>!decide (x.c=q)).length+1
 | [],_=>Nat.zero_le _
 | x::m,h=>by
  obtain⟨_,h2,h3⟩:=right_cons.1 h
  by_cases hq:x.c=q
  ·subst hq
   have e:(m.filter fun y=>!decide (y.c=x.c))=m:=List.filter_eq_self.2 fun y hy=>by
    obtain⟨i,hi⟩:=List.mem_iff_getElem?.1 hy
    rw[Bool.not_eq_true',decide_eq_false_iff_not]
    intro hc
    rw[(asked_told (l:=m) rfl x.c).1 i y hi hc] at h2
    cases h2
   rw[List.filter_cons_of_neg (by simp),e,List.length_cons]
   exact Nat.le_refl _
  ·rw[List.filter_cons_of_pos (by simp[hq]),List.length_cons,List.length_cons]
   have:=len_filter (q:=q) h3
   omega
theorem len_below:∀(k:Nat) {l:List Rf},Right l→(∀x∈l,x.c<(k:Int))→l.length≤k
 | 0,l,h,hk=>by
  cases l with
  | nil=>exact Nat.le_refl _
  | cons x m=>
   have h1:=hk x (List.mem_cons_self ..)
   have h2:=(right_cons.1 h).1.1
   omega
 | k+1,l,h,hk=>by
  have h1:=len_filter (q:=(k:Int)) h
  have h2:=len_below k (right_filter (fun x=>!decide (x.c=(k:Int))) h) fun x hx=>by
   obtain⟨h3,h4⟩:=List.mem_filter.1 hx
   have h5:=hk x h3
   have h6:¬x.c=(k:Int):=by simpa using h4
   omega
  omega
theorem right_len{l:List Rf}(h:Right l):l.length≤5:=len_below 5 h fun x hx=>by
 obtain⟨i,hi⟩:=List.mem_iff_getElem?.1 hx
 exact(h i (List.getElem?_eq_some_iff.1 hi).1 x hi).1.2.1
end Lck
end
section
namespace Gt
open Lck
def Right(m:Int)(l:List Rf):Prop:=1≤m∧m≤5∧(l.length:Int)<m∧Lck.Right l
instance (m:Int) (l:List Rf):Decidable (Right m l):=by unfold Right;infer_instance
def wtE(m:Int)(l:List Rf)(r:Rf):Int:=if Right m l∧ok r then (if asked l r.c then 11 else 0) else 1
def wtL(m:Int)(l:List Rf)(r:Rf):List Rf:=if wtE m l r=0 then (if (l.length:Int)+1=m then [] else l++[r]) else l
def wtA(m:Int)(l:List Rf)(r:Rf):List Rf:=if wtE m l r=0∧(l.length:Int)+1=m then l++[r] else []
def drL(m:Int)(l:List Rf)(r:Rf):List Rf:=if Right m l then wo l r else l
variable {m:Int}{l:List Rf}{r:Rf}
end Gt
end
section
open Go.RowKit
theorem ret_int{k:IntKind}{a b:Int}(h:a=b):Ending.returned (.int k a)=.returned (.int k b):=by rw[h]
theorem ret_bool{a b:Bool}(h:a=b):Ending.returned (.bool a)=.returned (.bool b):=by rw[h]
theorem u64_lt{n:Int}(h:(Lit.int .u64 n).wf=true):∃k:Nat,n=(k:Int)∧k<18446744073709551616:=by
 have hb:=bounds_u64 h
 obtain⟨k,rfl⟩:=Int.eq_ofNat_of_zero_le hb.1
 exact⟨k,rfl,by omega⟩
theorem make_any(b:Nat)(w:World)(h:b<18446744073709551616):
  Calls Tryz.prog 181 #[.int .u64 b] w fun e w'=>e=.returned (.int .u64 (Num.M b:Nat))∧w=w':=by
 have hc:=zH (Num.cut_sign b h)
 go_enter Tryz.func181,Tryz.ntmps181
 go_wp2
 ·have h1:9218868437227405312<bits BinOp.andNot IntKind.u64 (b:Int) 9223372036854775808:=by assumption
  go_ret
  rw[hc.out] at h1
  exact⟨by rw[Num.M_nan (by unfold Num.inf;omega)];rfl,rfl⟩
 ·have h1:bits BinOp.andNot IntKind.u64 (b:Int) 9223372036854775808≤9218868437227405312:=by assumption
  go_ret
  rw[hc.out] at h1
  exact⟨by rw[Num.M_not (by unfold Num.inf;omega)];rfl,rfl⟩
theorem none_any(b:Nat)(w:World)(h:b<18446744073709551616):
  Calls Tryz.prog 245 #[.int .u64 b] w fun e w'=>e=.returned (.bool (decide (Num.inf<b%Num.sgn)))∧w=w':=by
 have hc:=zH (Num.and_exp b h)
 have hd:=zH (Num.and_frac b h)
 have he:=zH (Num.none_iff b)
 go_enter Tryz.func245,Tryz.ntmps245
 go_wp2
 ·have h1:bits BinOp.and IntKind.u64 (b:Int) 9218868437227405312=9218868437227405312:=by assumption
  go_ret
  rw[hc.out] at h1
  refine⟨ret_bool ?_,rfl⟩
  rw[hd.out,Bool.eq_iff_iff,decide_eq_true_eq,← he.out,bne_iff_ne]
  omega
 ·have h1:¬bits BinOp.and IntKind.u64 (b:Int) 9218868437227405312=9218868437227405312:=by assumption
  go_ret
  rw[hc.out] at h1
  refine⟨ret_bool ?_,rfl⟩
  rw[Bool.eq_iff_iff,decide_eq_true_eq,← he.out]
  constructor
  ·intro h;cases h
  ·intro h;omega
theorem rmake_any(b:Nat)(w:World)(h:b<18446744073709551616):
  Calls Tryz.prog 193 #[.int .u64 b] w fun e w'=>e=.returned (.int .u64 (Num.M b:Nat))∧w=w':=by
 by_cases hb:Num.inf<b%Num.sgn
 ·have HH:=zH (fun w=>none_any b w h)
  rw[decide_eq_true hb] at HH
  have hm:=zH (Num.M_nan hb)
  clear hb
  go_enter Tryz.func193,Tryz.ntmps193
  go_wp2_with (go_at_call 245;refine(HH.out _).mono ?_;rintro e w' ⟨rfl,rfl⟩)
  go_ret
  exact⟨by rw[hm.out];rfl,rfl⟩
 ·have HH:=zH (fun w=>none_any b w h)
  rw[decide_eq_false hb] at HH
  have hm:=zH (Num.M_not hb)
  clear hb
  go_enter Tryz.func193,Tryz.ntmps193
  go_wp2_with (go_at_call 245;refine(HH.out _).mono ?_;rintro e w' ⟨rfl,rfl⟩)
  go_ret
  exact⟨by rw[hm.out];rfl,rfl⟩
end
section
open Go.RowKit
theorem max_u64:IntKind.u64.max=18446744073709551615:=by decide
theorem rank_any(b:Nat)(w:World)(h:b<18446744073709551616):
  Calls Tryz.prog 250 #[.int .u64 b] w fun e w'=>e=.returned (.int .u64 (Num.rank b:Nat))∧w=w':=by
 have hm:=Num.M_lt h
 have hc:=zH (Num.and_sign _ hm)
 have hx:=zH (Num.turn_all _ hm)
 have ho:=zH (Num.or_sign (Num.M b))
 have hr:Hid (Num.rank b=if Num.M b<Num.sgn then Num.M b+Num.sgn else 18446744073709551615-Num.M b):=zH rfl
 have HH:=zH (fun w=>make_any b w h)
 generalize Num.M b=x at *
 go_enter Tryz.func250,Tryz.ntmps250
 go_wp2_with (go_at_call 181;refine(HH.out _).mono ?_;rintro e w' ⟨rfl,rfl⟩)
 ·have h1:(bits BinOp.and IntKind.u64 (x:Int) 9223372036854775808 != 0)=true:=by assumption
  go_ret
  rw[hc.out,bne_iff_ne] at h1
  unfold Num.sgn at *
  refine⟨ret_int ?_,rfl⟩
  rw[max_u64,hx.out,hr.out,if_neg (by omega)]
 ·have h1:(bits BinOp.and IntKind.u64 (x:Int) 9223372036854775808 != 0)=false:=by assumption
  go_ret
  rw[hc.out,bne_eq_false_iff_eq] at h1
  unfold Num.sgn at *
  refine⟨ret_int ?_,rfl⟩
  rw[ho.out (by omega),hr.out,if_pos (by omega)]
theorem place_any(b:Nat)(w:World)(h:b<18446744073709551616):
  Calls Tryz.prog 251 #[.int .u64 b] w fun e w'=>e=.returned (.int .u64 (Num.rank b:Nat))∧w=w':=by
 have hm:=Num.M_lt h
 have hx:=zH (Num.turn_all _ hm)
 have ho:=zH (Num.or_sign (Num.M b))
 have hr:Hid (Num.rank b=if Num.M b<Num.sgn then Num.M b+Num.sgn else 18446744073709551615-Num.M b):=zH rfl
 have HH:=zH (fun w=>rmake_any b w h)
 generalize Num.M b=x at *
 go_enter Tryz.func251,Tryz.ntmps251
 go_wp2_with (go_at_call 193;refine(HH.out _).mono ?_;rintro e w' ⟨rfl,rfl⟩)
 ·have h1:((x:Int) / 9223372036854775808==1)=true:=by assumption
  go_ret
  rw[beq_iff_eq] at h1
  unfold Num.sgn at *
  refine⟨ret_int ?_,rfl⟩
  rw[max_u64,hx.out,hr.out,if_neg (by omega)]
 ·have h1:((x:Int) / 9223372036854775808==1)=false:=by assumption
  go_ret
  rw[beq_eq_false_iff_ne] at h1
  unfold Num.sgn at *
  refine⟨ret_int ?_,rfl⟩
  rw[ho.out (by omega),hr.out,if_pos (by omega)]
theorem cmp_lt{a b:Nat}(h:Num.rank a<Num.rank b):Num.cmp a b = -1:=by unfold Num.cmp;rw[if_pos h]
theorem cmp_gt{a b:Nat}(h:Num.rank b<Num.rank a):Num.cmp a b=1:=by unfold Num.cmp;rw[if_neg (by omega),if_pos h]
theorem cmp_eq{a b:Nat}(h:Num.rank a=Num.rank b):Num.cmp a b=0:=by unfold Num.cmp;rw[if_neg (by omega),if_neg (by omega)]
theorem cmp_any(a b:Nat)(w:World)(ha:a<18446744073709551616)(hb:b<18446744073709551616):
  Calls Tryz.prog 211 #[.int .u64 a,.int .u64 b] w fun e w'=>e=.returned (.int .i64 (Num.cmp a b))∧w=w':=by
 have H1:=zH (fun w=>rank_any a w ha)
 have H2:=zH (fun w=>rank_any b w hb)
 have c1:=@cmp_lt a b
 have c2:=@cmp_gt a b
 have c3:=@cmp_eq a b
 have C1:=zH c1
 have C2:=zH c2
 have C3:=zH c3
 clear c1 c2 c3
 generalize Num.rank a=x at *
 generalize Num.rank b=y at *
 go_enter Tryz.func211,Tryz.ntmps211
 go_wp2_with fail
 refine(H1.out _).mono ?_;rintro e w' ⟨rfl,rfl⟩
 go_wp2_with fail
 refine(H2.out _).mono ?_;rintro e w' ⟨rfl,rfl⟩
 rcases Nat.lt_trichotomy x y with h|h|h
 ·go_wp2_with fail
  go_ret
  exact⟨by rw[C1.out h];rfl,rfl⟩
 ·have hh:=zH h
  clear h
  have n1:¬x<y:=by have:=hh.out;omega
  have n2:¬y<x:=by have:=hh.out;omega
  go_wp2_with fail
  go_ret
  exact⟨by rw[C3.out hh.out];rfl,rfl⟩
 ·have n1:¬x<y:=by omega
  go_wp2_with fail
  go_ret
  exact⟨by rw[C2.out h];rfl,rfl⟩
theorem rcmp_any(a b:Nat)(w:World)(ha:a<18446744073709551616)(hb:b<18446744073709551616):
  Calls Tryz.prog 212 #[.int .u64 a,.int .u64 b] w fun e w'=>e=.returned (.int .i64 (Num.cmp a b))∧w=w':=by
 have H1:=zH (fun w=>place_any a w ha)
 have H2:=zH (fun w=>place_any b w hb)
 have c1:=@cmp_lt a b
 have c2:=@cmp_gt a b
 have c3:=@cmp_eq a b
 have C1:=zH c1
 have C2:=zH c2
 have C3:=zH c3
 clear c1 c2 c3
 generalize Num.rank a=x at *
 generalize Num.rank b=y at *
 go_enter Tryz.func212,Tryz.ntmps212
 go_wp2_with fail
 refine(H1.out _).mono ?_;rintro e w' ⟨rfl,rfl⟩
 go_wp2_with fail
 refine(H2.out _).mono ?_;rintro e w' ⟨rfl,rfl⟩
 rcases Nat.lt_trichotomy x y with h|h|h
 ·go_wp2_with fail
  go_ret
  exact⟨by rw[C1.out h];rfl,rfl⟩
 ·have hh:=zH h
  clear h
  have n1:¬x<y:=by have:=hh.out;omega
  have n2:¬y<x:=by have:=hh.out;omega
  go_wp2_with fail
  go_ret
  exact⟨by rw[C3.out hh.out];rfl,rfl⟩
 ·have n1:¬x<y:=by omega
  go_wp2_with fail
  go_ret
  exact⟨by rw[C2.out h];rfl,rfl⟩
end
section
open Go.RowKit
def least(a b:Nat):Nat:=if Num.rank b<Num.rank a then Num.M b else Num.M a
def most(a b:Nat):Nat:=if Num.rank a<Num.rank b then Num.M b else Num.M a
end
section
structure Mtr where
 n:Int
 s:Nat
 l:Nat
 m:Nat
 deriving DecidableEq
namespace Mt
def zero:Mtr:=⟨0,0,0,0⟩
def Fit(x:Mtr):Prop:=x.n≤9223372036854775807∧x.s<18446744073709551616∧x.l<18446744073709551616∧x.m<18446744073709551616
def Ok(x:Mtr):Prop:=(x.n=0∧x.s=0∧x.l=0∧x.m=0)∨(0<x.n∧Num.M x.s=x.s∧Num.M x.l=x.l∧Num.M x.m=x.m∧Num.rank x.l≤Num.rank x.m)
instance (x:Mtr):Decidable (Ok x):=by unfold Ok;infer_instance
theorem fit_zero:Fit zero:=⟨by decide,by decide,by decide,by decide⟩
theorem ok_zero:Ok zero:=.inl ⟨rfl,rfl,rfl,rfl⟩
theorem ok_none{n:Int}{s l m:Nat}(hn:¬0<n):decide ((⟨n,s,l,m⟩:Mtr)=⟨0,0,0,0⟩)=decide (Ok ⟨n,s,l,m⟩):=by
 rw[decide_eq_decide]
 simp only[Mtr.mk.injEq]
 constructor
 ·exact fun h=>.inl h
 ·rintro (h|⟨h,_⟩)
  ·exact h
  ·exact absurd h hn
theorem ok_s{n:Int}{s l m:Nat}(hn:0<n)(h:¬Num.M s=s):¬Ok ⟨n,s,l,m⟩:=by
 rintro (⟨h0,_⟩|⟨_,h1,_⟩)
 ·have h0:n=0:=h0
  omega
 ·exact h h1
theorem ok_l{n:Int}{s l m:Nat}(hn:0<n)(h:¬Num.M l=l):¬Ok ⟨n,s,l,m⟩:=by
 rintro (⟨h0,_⟩|⟨_,_,h1,_⟩)
 ·have h0:n=0:=h0
  omega
 ·exact h h1
theorem ok_m{n:Int}{s l m:Nat}(hn:0<n)(h:¬Num.M m=m):¬Ok ⟨n,s,l,m⟩:=by
 rintro (⟨h0,_⟩|⟨_,_,_,h1,_⟩)
 ·have h0:n=0:=h0
  omega
 ·exact h h1
theorem ok_all{n:Int}{s l m:Nat}(hn:0<n)(hs:Num.M s=s)(hl:Num.M l=l)(hm:Num.M m=m):Ok ⟨n,s,l,m⟩↔Num.cmp l m≤0:=by
 rw[Num.cmp_le]
 constructor
 ·rintro (⟨h0,_⟩|⟨_,_,_,_,h1⟩)
  ·have h0:n=0:=h0
   omega
  ·exact h1
 ·exact fun h=>.inr ⟨hn,hs,hl,hm,h⟩
theorem okn{n:Int}{s l m:Nat}(h0:¬n=0)(hn:¬0<n):¬Ok ⟨n,s,l,m⟩:=by
 rintro (⟨h1,_⟩|⟨h1,_⟩)
 ·exact h0 h1
 ·exact hn h1
theorem okn_s{n:Int}{s l m:Nat}(h0:¬n=0)(h:¬Num.M s=s):¬Ok ⟨n,s,l,m⟩:=by
 rintro (⟨h1,_⟩|⟨_,h1,_⟩)
 ·exact h0 h1
 ·exact h h1
theorem okn_l{n:Int}{s l m:Nat}(h0:¬n=0)(h:¬Num.M l=l):¬Ok ⟨n,s,l,m⟩:=by
 rintro (⟨h1,_⟩|⟨_,_,h1,_⟩)
 ·exact h0 h1
 ·exact h h1
theorem okn_m{n:Int}{s l m:Nat}(h0:¬n=0)(h:¬Num.M m=m):¬Ok ⟨n,s,l,m⟩:=by
 rintro (⟨h1,_⟩|⟨_,_,_,h1,_⟩)
 ·exact h0 h1
 ·exact h h1
def ad(x:Mtr)(b:Nat):Mtr:=if ¬Ok x then x else if x.n=9223372036854775807 then x else if x.n=0 then ⟨1,Num.M b,Num.M b,Num.M b⟩ else ⟨x.n+1,Num.S x.s (Num.M b),least x.l (Num.M b),most x.m (Num.M b)⟩
def adE(x:Mtr):Int:=if ¬Ok x then 1 else if x.n=9223372036854775807 then 6 else 0
theorem ad_one{x:Mtr}(h:Ok x)(hn:x.n=0)(b:Nat):ad x b=⟨1,Num.M b,Num.M b,Num.M b⟩:=by unfold ad;rw[if_neg (by simpa using h),if_neg (by omega),if_pos hn]
theorem ad_more{x:Mtr}(h:Ok x)(hn:x.n≠9223372036854775807)(h0:x.n≠0)(b:Nat):ad x b=⟨x.n+1,Num.S x.s (Num.M b),least x.l (Num.M b),most x.m (Num.M b)⟩:=by unfold ad;rw[if_neg (by simpa using h),if_neg hn,if_neg h0]
structure Rd where
 k:Int
 n:Int
 f:Nat
 e:Int
 deriving DecidableEq
def rd(x:Mtr)(q:Int):Rd:=
 if ¬Ok x∨q<0∨3<q then ⟨0,0,0,1⟩ else if q=0 then ⟨1,x.n,0,0⟩ else if x.n=0 then ⟨0,0,0,10⟩ else ⟨2,0,(if q=1 then x.s else if q=2 then x.l else x.m),0⟩
end Mt
end
section
namespace Cmd
structure C where
 k:Int
 name:ByteArray
 key:ByteArray
 val:Val.V
 old:Val.V
 n:Int
 m:Int
structure E where
 c:Int
 e:Int
 r:Int
 cmd:C
def f0(k:Int):Bool:=decide (4≤k∧k≤17)
def f1(k:Int):Bool:=decide (6≤k∧k≤9)
def f2(k:Int):Bool:=decide (k=9)
def f3(k:Int):Bool:=decide (k=7∨k=9∨k=10∨k=15)
def f4(k:Int):Bool:=decide (k=4∨k=16)
def f5(k:Int):Bool:=decide (k=4)
def nil(v:Val.V):Prop:=v.k=0∧v.n=0∧v.f=0∧v.s.size=0
instance (v:Val.V):Decidable (nil v):=by unfold nil;infer_instance
def others(c:C):Prop:=(f0 c.k=true∨c.name.size=0)∧(f1 c.k=true∨c.key.size=0)∧(f2 c.k=true∨nil c.old)∧(f3 c.k=true∨nil c.val)∧(f4 c.k=true∨c.n=0)∧(f5 c.k=true∨c.m=0)
instance (c:C):Decidable (others c):=by unfold others;infer_instance
def nums(c:C):Prop:=
 if c.k=16 then 0≤c.n∧c.n≤3 else if c.k≠4 then True else
 if c.n=2 then 1≤c.m∧c.m≤8 else if c.n=4 then 1≤c.m∧c.m≤5 else 1≤c.n∧c.n≤5∧c.m=0
instance (c:C):Decidable (nums c):=by unfold nums;infer_instance
def chk(c:C):Int:=
 if c.k<1∨18<c.k∨¬others c∨(f0 c.k=true∧c.name.size=0) then 1
 else if 16<c.name.size∨64<c.key.size then 2
 else if Val.chk c.old≠0 then Val.chk c.old
 else if Val.chk c.val≠0 then Val.chk c.val
 else if (c.k=7∨c.k=10)∧c.val.k=0 then 1
 else if c.k=15∧c.val.k≠2 then 7
 else if ¬nums c then 1 else 0
def right(e:E):Prop:=0≤e.c∧e.c<5∧1≤e.e∧0≤e.r
instance (e:E):Decidable (right e):=by unfold right;infer_instance
def fits(e:E):Prop:=right e∧chk e.cmd=0∧(e.r=0↔(e.cmd.k=1∨e.cmd.k=18))
instance (e:E):Decidable (fits e):=by unfold fits;infer_instance
def emp:ByteArray:=⟨#[]⟩
theorem size_emp{s:ByteArray}(h:s.size=0):s=emp:=Val.size_zero h
end Cmd
end
end Go.Proofs.YtieoeendnccafaaGreat
