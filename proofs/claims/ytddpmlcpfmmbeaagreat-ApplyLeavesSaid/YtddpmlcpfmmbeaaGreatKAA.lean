/- Sessions of clients: which may be, what a request is, what an opening, a beginning, an end, a close leave. No condition but those named. -/
import Derived.Test.YtddpmlcpfmmbeaaGreatTk
import Derived.Laws.BitsAllLaws
import Ieee.Arith
import Derived.Lib.Bytealg
import Derived.Lib.Hide
set_option linter.unusedSimpArgs false
set_option linter.unusedVariables false
set_option maxRecDepth 100000
set_option maxHeartbeats 25600000
namespace Go.Proofs.YtddpmlcpfmmbeaaGreat
namespace Num
def sgn:Nat:=9223372036854775808
def inf:Nat:=9218868437227405312
def nan:Nat:=9221120237041090560
def M(b:Nat):Nat:=if inf<b%sgn then nan else b
def rank(b:Nat):Nat:=if M b<sgn then M b+sgn else 18446744073709551615-M b
theorem M_lt{b:Nat}(h:b<18446744073709551616):M b<18446744073709551616:=by unfold M nan;split<;>omega
theorem M_nan{b:Nat}(h:inf<b%sgn):M b=nan:=if_pos h
theorem M_not{b:Nat}(h:¬inf<b%sgn):M b=b:=if_neg h
theorem M_M(b:Nat):M (M b)=M b:=by
 by_cases h:inf<b%sgn
 ·rw[M_nan h];rfl
 ·rw[M_not h,M_not h]
theorem rank_M(b:Nat):rank (M b)=rank b:=by unfold rank;rw[M_M]
theorem rank_inj{a b:Nat}(ha:a<18446744073709551616)(hb:b<18446744073709551616)(h:rank a=rank b):M a=M b:=by
 have h1:=M_lt ha
 have h2:=M_lt hb
 unfold rank sgn at h
 split at h<;>split at h<;>omega
def cmp(a b:Nat):Int:=if rank a<rank b then -1 else if rank b<rank a then 1 else 0
theorem cmp_turn(a b:Nat):cmp a b = -cmp b a:=by
 unfold cmp;split<;>split<;>(try split)<;>(try split)<;>omega
theorem cmp_le{a b:Nat}:cmp a b≤0↔rank a≤rank b:=by
 unfold cmp;split
 ·constructor<;>intro<;>omega
 ·split
  ·constructor<;>intro<;>omega
  ·constructor<;>intro<;>omega
/- The bits, as the code asks them. -/
theorem cut_sign(b:Nat)(h:b<18446744073709551616):bits .andNot .u64 (b:Int) 9223372036854775808=((b%sgn:Nat):Int):=by
 have h1:=u64_andNot_nat b 9223372036854775808 h (by decide)
 have h2:b &&& (18446744073709551615-9223372036854775808)=b%sgn:=Nat.and_two_pow_sub_one_eq_mod b 63
 rw[h2] at h1
 exact h1
theorem and_sign(b:Nat)(h:b<18446744073709551616):bits .and .u64 (b:Int) 9223372036854775808=((b / sgn%2*sgn:Nat):Int):=by
 have h1:=u64_and_nat b 9223372036854775808 h (by decide)
 have h2:b &&& 9223372036854775808=b / sgn%2*sgn:=nat_bit 63 b
 rw[h2] at h1
 exact h1
theorem or_sign(b:Nat)(h:b<sgn):bits .or .u64 (b:Int) 9223372036854775808=((b+sgn:Nat):Int):=by
 have h1:=u64_or_nat b 9223372036854775808 (by unfold sgn at h;omega) (by decide)
 have h2:b ||| 9223372036854775808=b+sgn:=by
  rw[Nat.or_comm,nat_join 63 9223372036854775808 b (by decide) h];unfold sgn;omega
 rw[h2] at h1
 exact h1
theorem turn_all(b:Nat)(h:b<18446744073709551616):bits .xor .u64 18446744073709551615 (b:Int)=((18446744073709551615-b:Nat):Int):=by
 have h1:=u64_xor_nat 18446744073709551615 b (by decide) h
 have h3:=congrArg BitVec.toNat (BitVec.allOnes_xor (x:=BitVec.ofNat 64 b))
 rw[BitVec.toNat_xor,BitVec.toNat_not,BitVec.toNat_ofNat,Nat.mod_eq_of_lt (by omega),BitVec.toNat_allOnes] at h3
 have h4:18446744073709551615 ^^^ b=18446744073709551615-b:=h3
 rw[h4] at h1
 exact h1
/- Floats. -/
open Ieee
theorem D_binade:double.binade=4503599627370496:=by decide +kernel
theorem D_inf:double.infRung=inf:=by decide +kernel
theorem D_sgn:double.signWeight=sgn:=by decide +kernel
theorem D_least:double.leastPlace = -1074:=by decide +kernel
def rd(neg:Bool)(rung:Nat):Datum:=
 if rung<4503599627370496 then .number neg rung (-1074)
 else if rung<inf then .number neg (4503599627370496+rung%4503599627370496) (-1074+(rung / 4503599627370496-1:Nat))
 else if rung=inf then .infinity neg
 else .nan neg (rung-inf)
def isNeg(b:Nat):Bool:=b / sgn%2==1
theorem read_eq(b:Nat):double.read b=rd (isNeg b) (b%sgn):=by
 unfold Format.read rd isNeg
 rw[D_binade,D_inf,D_sgn,D_least]
theorem rd_nan{b:Nat}(h:inf<b%sgn):∃s t,double.read b=.nan s t:=by
 rw[read_eq];unfold rd
 rw[if_neg (by unfold inf at h;omega),if_neg (by omega),if_neg (by omega)]
 exact⟨_,_,rfl⟩
theorem rd_inf{b:Nat}(h:b%sgn=inf):double.read b=.infinity (isNeg b):=by
 rw[read_eq];unfold rd
 rw[if_neg (by rw[h];decide),if_neg (by omega),if_pos h]
theorem nearest_zero(s:Bool)(p:Int):double.nearest s 0 p=double.word s 0:=by unfold Format.nearest;rw[if_pos rfl]
theorem log2_of{n k:Nat}(h1:2 ^ k≤n)(h2:n<2 ^ (k+1)):n.log2=k:=by
 have hn:n≠0:=by have:=Nat.two_pow_pos k;omega
 exact(Nat.log2_eq_iff hn).2 ⟨h1,h2⟩
theorem nearest_norm(s:Bool)(m e:Nat)(h1:4503599627370496≤m)(h2:m<9007199254740992):
  double.nearest s (m <<< e) (-1074)=double.word s (min (e*4503599627370496+m) inf):=by
 have hp:=Nat.two_pow_pos e
 have hlog:(m <<< e).log2=52+e:=by
  refine log2_of ?_ ?_
  ·rw[Nat.shiftLeft_eq,Nat.pow_add];exact Nat.mul_le_mul_right _ h1
  ·rw[Nat.shiftLeft_eq,show 52+e+1=53+e from by omega,Nat.pow_add];exact Nat.mul_lt_mul_of_pos_right h2 hp
 have hne:¬m <<< e=0:=by
  rw[Nat.shiftLeft_eq]
  intro h
  rcases Nat.mul_eq_zero.1 h with h|h<;>omega
 unfold Format.nearest
 rw[if_neg hne,hlog,D_least,D_inf,D_binade]
 have hf:double.fractionBits=52:=rfl
 rw[hf]
 have hmax:max ((-1074:Int)+((52+e:Nat):Int)-((52:Nat):Int)) (-1074) = -1074+e:=by omega
 simp only[hmax]
 have a1:((-1074:Int)-(-1074+(e:Int))).toNat=0:=by omega
 have a2:((-1074+(e:Int))-(-1074)).toNat=e:=by omega
 rw[a1,a2]
 have hcut:Toward.even.cut s (m <<< e <<< 0) e=m:=by
  unfold Toward.cut
  have g:(1 <<< min e ((m <<< e <<< 0).log2+2))=2 ^ e:=by
   rw[Nat.shiftLeft_zero,hlog,Nat.min_eq_left (by omega),Nat.shiftLeft_eq,Nat.one_mul]
  simp only[g]
  rw[Nat.shiftLeft_zero,Nat.shiftLeft_eq,Nat.mul_div_cancel _ hp,Nat.mul_mod_left]
  have c1:decide (2 ^ e<2*0)=false:=by simp
  have c2:(2 ^ e==2*0)=false:=by rw[beq_eq_false_iff_ne];omega
  rw[c1,c2];rfl
 rw[hcut]
theorem nearest_sub(s:Bool)(m:Nat)(h0:m≠0)(h2:m<4503599627370496):
  double.nearest s m (-1074)=double.word s m:=by
 have hlog:m.log2<52:=(Nat.log2_lt h0).2 h2
 unfold Format.nearest
 rw[if_neg h0,D_least,D_inf,D_binade]
 have hf:double.fractionBits=52:=rfl
 rw[hf]
 have hmax:max ((-1074:Int)+(m.log2:Int)-((52:Nat):Int)) (-1074) = -1074:=by omega
 simp only[hmax]
 have a1:((-1074:Int)-(-1074)).toNat=0:=by decide
 rw[a1]
 have hcut:Toward.even.cut s (m <<< 0) 0=m:=by
  unfold Toward.cut
  have g:(1 <<< min 0 ((m <<< 0).log2+2))=1:=by rw[Nat.zero_min];rfl
  simp only[g]
  rw[Nat.shiftLeft_zero,Nat.div_one,Nat.mod_one]
  rfl
 rw[hcut,Nat.zero_mul,Nat.zero_add,Nat.min_eq_left (by unfold inf;omega)]
theorem rd_fin{rung:Nat}(h:rung<inf):∃m i,-1074≤i∧(∀s,rd s rung=.number s m i)∧∀s,double.nearest s (m <<< (i-(-1074)).toNat) (-1074)=double.word s rung:=by
 by_cases hs:rung<4503599627370496
 ·refine⟨rung,-1074,by omega,fun s=>by unfold rd;rw[if_pos hs],fun s=>?_⟩
  have a1:((-1074:Int)-(-1074)).toNat=0:=by decide
  rw[a1,Nat.shiftLeft_zero]
  by_cases h0:rung=0
  ·subst h0;exact nearest_zero s _
  ·exact nearest_sub s rung h0 hs
 ·refine⟨4503599627370496+rung%4503599627370496,-1074+(rung / 4503599627370496-1:Nat),by omega,fun s=>by unfold rd;rw[if_neg hs,if_pos h],fun s=>?_⟩
  have a1:((-1074+((rung / 4503599627370496-1:Nat):Int))-(-1074)).toNat=rung / 4503599627370496-1:=by omega
  rw[a1,nearest_norm s _ _ (by omega) (by omega)]
  congr 1
  rw[Nat.min_eq_left (by unfold inf at *;omega)]
  omega
theorem word_eq(s:Bool)(r:Nat):double.word s r=if s then sgn+r else r:=by unfold Format.word;rw[D_sgn]
theorem word_back{b:Nat}(h:b<18446744073709551616):double.word (isNeg b) (b%sgn)=b:=by
 rw[word_eq];unfold isNeg sgn
 split<;>rename_i hb<;>simp only[beq_iff_eq] at hb<;>omega
def S(u v:Nat):Nat:=match double.add u v with
 | some r=>M r
 | none=>nan
def IsSum(u v r:Nat):Prop:=double.add u v=some r∨(double.add u v=none∧inf<r%sgn)
theorem IsSum.eq{u v r:Nat}(h:IsSum u v r):M r=S u v:=by
 unfold S
 rcases h with h|⟨h,h2⟩
 ·rw[h]
 ·rw[h,M_nan h2]
theorem M_mod(b:Nat):(inf<M b%sgn)↔inf<b%sgn:=by
 by_cases h:inf<b%sgn
 ·rw[M_nan h];exact⟨fun _=>h,fun _=>by decide⟩
 ·rw[M_not h]
theorem add_nan_l{u v:Nat}(h:inf<u%sgn):double.add u v=none:=by
 obtain⟨s,t,h1⟩:=rd_nan h
 unfold Format.add;rw[h1];rfl
theorem add_nan_r{u v:Nat}(h:inf<v%sgn):double.add u v=none:=by
 obtain⟨s,t,h1⟩:=rd_nan h
 unfold Format.add;rw[h1]
 cases double.read u<;>rfl
theorem S_M(a b:Nat):S (M a) (M b)=S a b:=by
 by_cases ha:inf<a%sgn
 ·unfold S;rw[add_nan_l ha,add_nan_l ((M_mod a).2 ha)]
 ·by_cases hb:inf<b%sgn
  ·unfold S;rw[add_nan_r hb,add_nan_r ((M_mod b).2 hb)]
  ·rw[M_not ha,M_not hb]
theorem sum_comm(x y:Datum):x.sum y=y.sum x:=by
 cases x<;>cases y<;>try rfl
 ·rename_i s m i t n j
  unfold Datum.sum
  have e1:min i j=min j i:=Int.min_comm _ _
  simp only[e1]
  have e2:signed s m (i-min j i).toNat+signed t n (j-min j i).toNat=signed t n (j-min j i).toNat+signed s m (i-min j i).toNat:=Int.add_comm _ _
  simp only[e2,Bool.and_comm s t]
 ·rename_i s t
  show(if s=t then some (Datum.infinity s) else none)=(if t=s then some (Datum.infinity t) else none)
  by_cases h:s=t
  ·subst h;rfl
  ·rw[if_neg h,if_neg (fun e=>h e.symm)]
theorem S_comm(a b:Nat):S a b=S b a:=by unfold S Format.add;rw[sum_comm]
theorem S_nan(a:Nat):S a nan=nan:=by unfold S;rw[add_nan_r (by decide)]
theorem write_inf(s:Bool):double.write (.infinity s)=double.word s inf:=by show double.word s double.infRung=_;rw[D_inf]
theorem read_fin{b:Nat}(h:b%sgn<inf):∃m i,-1074≤i∧double.read b=.number (isNeg b) m i∧(∀c,c%sgn=b%sgn→double.read c=.number (isNeg c) m i)∧∀s,double.nearest s (m <<< (i-(-1074)).toNat) (-1074)=double.word s (b%sgn):=by
 obtain⟨m,i,hi,hr,hn⟩:=rd_fin h
 exact⟨m,i,hi,by rw[read_eq,hr],fun c hc=>by rw[read_eq,hc,hr],hn⟩
theorem inf_add{a b:Nat}(h:a<18446744073709551616)(hi:a%sgn=inf)(hb:b%sgn<inf):S a b=a:=by
 have h1:double.add a b=some a:=by
  obtain⟨m,i,-,hr,-⟩:=read_fin hb
  unfold Format.add;rw[rd_inf hi,hr]
  show Option.map double.write (some (Datum.infinity (isNeg a)))=_
  rw[Option.map_some,write_inf,← hi,word_back h]
 unfold S;rw[h1]
 exact M_not (by omega)
theorem read_neg_zero:double.read sgn=.number true 0 (-1074):=by decide +kernel
theorem fin_zero{a:Nat}(h:a<18446744073709551616)(ha:a%sgn<inf):S a sgn=a:=by
 have h1:double.add a sgn=some a:=by
  obtain⟨m,i,hi,hr,-,hn⟩:=read_fin ha
  have hm:min i (-1074) = -1074:=by omega
  unfold Format.add;rw[hr,read_neg_zero]
  obtain⟨V,hV⟩:∃V,V=m <<< (i-(-1074)).toNat:=⟨_,rfl⟩
  have ht:signed (isNeg a) m (i-min i (-1074)).toNat+signed true 0 ((-1074)-min i (-1074)).toNat=if isNeg a then -(V:Int) else (V:Int):=by
   unfold signed
   rw[hm,← hV]
   cases isNeg a<;>simp
  show Option.map double.write (some (.number (if signed (isNeg a) m (i-min i (-1074)).toNat+signed true 0 ((-1074)-min i (-1074)).toNat=0 then isNeg a&&true else decide (signed (isNeg a) m (i-min i (-1074)).toNat+signed true 0 ((-1074)-min i (-1074)).toNat<0)) (signed (isNeg a) m (i-min i (-1074)).toNat+signed true 0 ((-1074)-min i (-1074)).toNat).natAbs (min i (-1074))))=_
  rw[ht,hm,Option.map_some]
  show some (double.nearest _ _ _)=_
  have hs:(if (if isNeg a then -(V:Int) else (V:Int))=0 then isNeg a&&true else decide ((if isNeg a then -(V:Int) else (V:Int))<0))=isNeg a:=by
   cases isNeg a
   ·simp
   ·by_cases hz:V=0
    ·simp[hz]
    ·simp only[if_true];rw[if_neg (by omega)];exact decide_eq_true (by omega)
  have ha2:(if isNeg a then -(V:Int) else (V:Int)).natAbs=V:=by cases isNeg a<;>simp
  rw[hs,ha2,hV,hn,word_back h]
 unfold S;rw[h1]
 exact M_not (by omega)
theorem add_zero{a:Nat}(h:a<18446744073709551616)(hm:M a=a):S a sgn=a:=by
 by_cases h1:inf<a%sgn
 ·have:a=nan:=by rw[M_nan h1] at hm;exact hm.symm
  subst this
  rw[S_comm,S_nan]
 ·by_cases h2:a%sgn=inf
  ·exact inf_add h h2 (by decide)
  ·exact fin_zero h (by omega)
/- Whole numbers. -/
def rnd(g n:Nat):Nat:=n / g+(decide (g<2*(n%g)) || (g==2*(n%g)&&n / g%2==1)).toNat
def kept(L n:Nat):Nat:=rnd (2 ^ (L-52)) (n*2 ^ (52-L))
def rung(n:Nat):Nat:=if n=0 then 0 else min ((n.log2+1022)*4503599627370496+kept n.log2 n) inf
end Num
section
namespace Val
structure V where
 k:Int
 n:Int
 f:Nat
 s:ByteArray
def chk(v:V):Int:=
 if v.k<0∨3<v.k then 1
 else if v.n≠0∧v.k≠1 then 1
 else if v.f≠0∧v.k≠2 then 1
 else if v.s.size≠0∧v.k≠3 then 1
 else if Num.M v.f≠v.f then 1
 else if 64<v.s.size then 2 else 0
def emp:ByteArray:=⟨#[]⟩
def zero:V:=⟨0,0,0,emp⟩
theorem size_zero{s:ByteArray}(h:s.size=0):s=emp:=by
 apply ByteArray.ext
 exact Array.eq_empty_of_size_eq_zero h
theorem chk_ok{v:V}(h:chk v=0):v=⟨0,0,0,emp⟩∨v=⟨1,v.n,0,emp⟩∨(v=⟨2,0,v.f,emp⟩∧Num.M v.f=v.f)∨(v=⟨3,0,0,v.s⟩∧v.s.size≤64):=by
 obtain⟨k,n,f,s⟩:=v
 unfold chk at h
 simp only at h ⊢
 split at h
 ·cases h
 split at h
 ·cases h
 split at h
 ·cases h
 split at h
 ·cases h
 split at h
 ·cases h
 split at h
 ·cases h
 next h1 h2 h3 h4 h5 h6=>
 have h5:Num.M f=f:=Decidable.byContradiction h5
 have hk:k=0∨k=1∨k=2∨k=3:=by omega
 rcases hk with rfl|rfl|rfl|rfl
 ·obtain rfl:n=0:=by omega
  obtain rfl:f=0:=by omega
  obtain rfl:=size_zero (s:=s) (by omega)
  exact .inl rfl
 ·obtain rfl:f=0:=by omega
  obtain rfl:=size_zero (s:=s) (by omega)
  exact .inr (.inl rfl)
 ·obtain rfl:n=0:=by omega
  obtain rfl:=size_zero (s:=s) (by omega)
  exact .inr (.inr (.inl ⟨rfl,h5⟩))
 ·obtain rfl:n=0:=by omega
  obtain rfl:f=0:=by omega
  exact .inr (.inr (.inr ⟨rfl,by omega⟩))
theorem M_zero:Num.M 0=0:=by decide
theorem chk_none:chk zero=0:=by
 unfold chk zero
 rw[if_neg (by decide),if_neg (by decide),if_neg (by decide),if_neg (by decide),if_neg (by decide),if_neg (by decide)]
theorem emp_size:emp.size=0:=rfl
theorem chk_int(n:Int):chk ⟨1,n,0,emp⟩=0:=by
 unfold chk
 rw[if_neg (show ¬((1:Int)<0∨3<(1:Int)) by decide),if_neg (by simp),if_neg (by simp),if_neg (by intro h;exact h.1 rfl),if_neg (by rw[M_zero];simp),if_neg (by rw[emp_size];decide)]
theorem chk_float{f:Nat}(h:Num.M f=f):chk ⟨2,0,f,emp⟩=0:=by
 unfold chk
 rw[if_neg (show ¬((2:Int)<0∨3<(2:Int)) by decide),if_neg (by simp),if_neg (by simp),if_neg (by intro h;exact h.1 rfl),if_neg (by rw[h];simp),if_neg (by rw[emp_size];decide)]
instance:DecidableEq V:=fun a b=>decidable_of_iff (a.k=b.k∧a.n=b.n∧a.f=b.f∧a.s=b.s) ⟨fun h=>by
 obtain⟨k,n,f,s⟩:=a
 obtain⟨k',n',f',s'⟩:=b
 obtain⟨rfl,rfl,rfl,rfl⟩:=h
 rfl,fun h=>by rw[h];exact⟨rfl,rfl,rfl,rfl⟩⟩
theorem str_inj{a b:ByteArray}(h:a.toList=b.toList):a=b:=by
 rw[ByteArray.toList_eq,ByteArray.toList_eq] at h
 apply ByteArray.ext
 exact Array.toList_inj.1 h
theorem str_iff{a b:ByteArray}:a=b↔a.toList=b.toList:=⟨fun h=>by rw[h],str_inj⟩
end Val
end
section
namespace Sto
structure Rp where
 e:Int
 v:Val.V
 deriving DecidableEq
def rep(r:Rp):Bool:=decide (0≤r.e)&&decide (r.e≤18)&&decide (Val.chk r.v=0)
def rz:Rp:=⟨0,⟨0,0,0,⟨#[]⟩⟩⟩
def err(e:Int):Rp:=⟨e,⟨0,0,0,⟨#[]⟩⟩⟩
end Sto
end
section
structure Rf where
 c:Int
 e:Int
 r:Int
deriving DecidableEq
namespace Lck
def zero:Rf:=⟨0,0,0⟩
def ok(x:Rf):Prop:=0≤x.c∧x.c<5∧1≤x.e∧0≤x.r
instance (x:Rf):Decidable (ok x):=by unfold ok;infer_instance
def mine(a b:Rf):Prop:=a.c=b.c∧a.e=b.e
instance (a b:Rf):Decidable (mine a b):=by unfold mine;infer_instance
def asked(l:List Rf)(c:Int):Bool:=l.any fun x=>decide (x.c=c)
theorem asked_told{l:List Rf}{n:Nat}(hn:l.length=n)(c:Int):(∀(i:Nat) x,l[i]?=some x→x.c=c→asked l c=true)∧((∀(i:Nat) x,i<n→l[i]?=some x→¬x.c=c)→asked l c=false):=by
 refine⟨fun i x hx h=>List.any_eq_true.2 ⟨x,List.mem_of_getElem? hx,decide_eq_true h⟩,fun h=>Bool.eq_false_iff.2 fun ha=>?_⟩
 obtain⟨x,hx,hd⟩:=List.any_eq_true.1 ha
 obtain⟨i,hi⟩:=List.mem_iff_getElem?.1 hx
 exact h i x (by rw[← hn];exact(List.getElem?_eq_some_iff.1 hi).1) hi (of_decide_eq_true hd)
def Right(l:List Rf):Prop:=∀i,i<l.length→∀x,l[i]?=some x→ok x∧asked (l.take i) x.c=false
theorem right_iff(l:List Rf):Right l↔∀i,i<l.length→(l[i]?.all fun x=>decide (ok x)&&!asked (l.take i) x.c)=true:=by
 refine forall_congr' fun i=>forall_congr' fun hi=>?_
 rw[List.getElem?_eq_getElem hi]
 simp
instance (l:List Rf):Decidable (Right l):=decidable_of_iff _ (right_iff l).symm
theorem right_told{l:List Rf}{n:Nat}(hn:l.length=n):(∀(i:Nat) x,i<n→l[i]?=some x→¬(ok x∧asked (l.take i) x.c=false)→decide (Right l)=false)∧((∀(i:Nat) x,i<n→l[i]?=some x→ok x∧asked (l.take i) x.c=false)→decide (Right l)=true):=
 ⟨fun i x hi hx h=>decide_eq_false fun hr=>h (hr i (by omega) x hx),fun h=>decide_eq_true fun i hi x hx=>h i x (by omega) hx⟩
theorem right_nil:Right []:=fun i hi=>by simp at hi
def tkE(l:List Rf)(r:Rf):Int:=if Right l∧ok r then (if asked l r.c then 11 else 0) else 1
def tkL(l:List Rf)(r:Rf):List Rf:=if tkE l r=0 then l++[r] else l
def tkH(l:List Rf)(r:Rf):Bool:=decide (tkE l r=0)&&decide (l.length=0)
theorem tk_bad{l:List Rf}{r:Rf}(h:¬(Right l∧ok r)):tkE l r=1∧tkL l r=l∧tkH l r=false:=by
 have e:tkE l r=1:=if_neg h
 exact⟨e,by unfold tkL;rw[e];rfl,by unfold tkH;rw[e];rfl⟩
theorem tk_held{l:List Rf}{r:Rf}(h1:Right l)(h2:ok r)(h3:asked l r.c=true):tkE l r=11∧tkL l r=l∧tkH l r=false:=by
 have e:tkE l r=11:=by unfold tkE;rw[if_pos ⟨h1,h2⟩,if_pos h3]
 exact⟨e,by unfold tkL;rw[e];rfl,by unfold tkH;rw[e];rfl⟩
theorem tk_ok{l:List Rf}{r:Rf}(h1:Right l)(h2:ok r)(h3:asked l r.c=false):tkE l r=0∧tkL l r=l++[r]∧tkH l r=decide (l.length=0):=by
 have e:tkE l r=0:=by unfold tkE;rw[if_pos ⟨h1,h2⟩,if_neg (by rw[h3];decide)]
 exact⟨e,by unfold tkL;rw[if_pos e],by unfold tkH;rw[decide_eq_true e,Bool.true_and]⟩
def frE(l:List Rf)(r:Rf):Int:=if Right l then (if l.length=0 then 12 else if mine (l.headD zero) r then 0 else 12) else 1
def frL(l:List Rf)(r:Rf):List Rf:=if frE l r=0 then l.drop 1 else l
def frN(l:List Rf)(r:Rf):Rf:=if frE l r=0 then (l.drop 1).headD zero else zero
def frS(l:List Rf)(r:Rf):Bool:=decide (frE l r=0)&&decide (1<l.length)
theorem fr_no{l:List Rf}{r:Rf}{z:Int}(e:frE l r=z)(hz:¬z=0):frE l r=z∧frL l r=l∧frN l r=zero∧frS l r=false:=by
 have e2:¬frE l r=0:=by rw[e];exact hz
 exact⟨e,if_neg e2,if_neg e2,by unfold frS;rw[decide_eq_false e2];rfl⟩
theorem fr_bad{l:List Rf}{r:Rf}(h:¬Right l):frE l r=1∧frL l r=l∧frN l r=zero∧frS l r=false:=fr_no (if_neg h) (by decide)
theorem fr_none{l:List Rf}{r:Rf}(h:Right l)(h0:l.length=0):frE l r=12∧frL l r=l∧frN l r=zero∧frS l r=false:=
 fr_no (by unfold frE;rw[if_pos h,if_pos h0]) (by decide)
theorem fr_other{l:List Rf}{r x:Rf}(h:Right l)(hx:l[0]?=some x)(hm:¬mine x r):frE l r=12∧frL l r=l∧frN l r=zero∧frS l r=false:=by
 cases l with
 | nil=>cases hx
 | cons y m=>
  injection hx with hx
  subst hx
  exact fr_no (by unfold frE;rw[if_pos h,if_neg (by simp)];exact if_neg hm) (by decide)
theorem fr_yes{l:List Rf}{r x:Rf}(h:Right l)(hx:l[0]?=some x)(hm:mine x r):frE l r=0:=by
 cases l with
 | nil=>cases hx
 | cons y m=>
  injection hx with hx
  subst hx
  unfold frE;rw[if_pos h,if_neg (by simp)];exact if_pos hm
theorem fr_last{l:List Rf}{r x:Rf}(h:Right l)(hx:l[0]?=some x)(hm:mine x r)(h1:l.length=1):frE l r=0∧frL l r=[]∧frN l r=zero∧frS l r=false:=by
 have e:=fr_yes h hx hm
 have e2:l.drop 1=[]:=List.drop_eq_nil_of_le (by omega)
 exact⟨e,by unfold frL;rw[if_pos e,e2],by unfold frN;rw[if_pos e,e2];rfl,by unfold frS;rw[h1];simp⟩
theorem fr_next{l:List Rf}{r x y:Rf}(h:Right l)(hx:l[0]?=some x)(hm:mine x r)(hy:l[1]?=some y):frE l r=0∧frL l r=l.drop 1∧frN l r=y∧frS l r=true:=by
 have e:=fr_yes h hx hm
 match l,hy with
 | a::b::m,hy=>
  simp at hy
  subst hy
  exact⟨e,by unfold frL;rw[if_pos e],by unfold frN;rw[if_pos e];rfl,by unfold frS;rw[e];simp⟩
def wo(l:List Rf)(r:Rf):List Rf:=l.filter fun x=>!decide (mine x r)
def drL(l:List Rf)(r:Rf):List Rf:=if Right l then wo l r else l
def drS(l:List Rf)(r:Rf):Bool:=decide (Right l)&&decide (0<(wo l r).length)&&!decide ((wo l r).headD zero=l.headD zero)
def drN(l:List Rf)(r:Rf):Rf:=if drS l r=true then (wo l r).headD zero else zero
theorem dr_no{l:List Rf}{r:Rf}(h:drS l r=false):drS l r=false∧drN l r=zero:=⟨h,by unfold drN;rw[h];rfl⟩
theorem dr_bad{l:List Rf}{r:Rf}(h:¬Right l):drL l r=l∧drN l r=zero∧drS l r=false:=by
 have e:drS l r=false:=by unfold drS;rw[decide_eq_false h];rfl
 exact⟨if_neg h,(dr_no e).2,e⟩
theorem dr_none{l:List Rf}{r:Rf}(h:Right l)(h0:(wo l r).length=0):drL l r=wo l r∧drN l r=zero∧drS l r=false:=by
 have e:drS l r=false:=by unfold drS;rw[h0];simp
 exact⟨if_pos h,(dr_no e).2,e⟩
theorem head_of{l:List Rf}{x:Rf}(h:l[0]?=some x):l.headD zero=x:=by
 cases l with
 | nil=>cases h
 | cons y m=>injection h
theorem dr_same{l:List Rf}{r x y:Rf}(h:Right l)(hx:(wo l r)[0]?=some x)(hy:l[0]?=some y)(he:x=y):drL l r=wo l r∧drN l r=zero∧drS l r=false:=by
 have e:drS l r=false:=by unfold drS;rw[head_of hx,head_of hy,he];simp
 exact⟨if_pos h,(dr_no e).2,e⟩
theorem dr_new{l:List Rf}{r x y:Rf}(h:Right l)(hx:(wo l r)[0]?=some x)(hy:l[0]?=some y)(he:¬x=y):drL l r=wo l r∧drN l r=x∧drS l r=true:=by
 have h0:=(List.getElem?_eq_some_iff.1 hx).1
 have e:drS l r=true:=by unfold drS;rw[head_of hx,head_of hy,decide_eq_true h,decide_eq_true h0,decide_eq_false he];rfl
 exact⟨if_pos h,by unfold drN;rw[if_pos e,head_of hx],e⟩
theorem wo_take_in{l:List Rf}{r x:Rf}{k:Nat}(hx:l[k]?=some x)(hm:¬mine x r):wo (l.take (k+1)) r=wo (l.take k) r++[x]:=by
 unfold wo
 rw[List.take_add_one,hx,List.filter_append]
 simp[hm]
theorem wo_take_out{l:List Rf}{r x:Rf}{k:Nat}(hx:l[k]?=some x)(hm:mine x r):wo (l.take (k+1)) r=wo (l.take k) r:=by
 unfold wo
 rw[List.take_add_one,hx,List.filter_append]
 simp[hm]
theorem wo_le(l:List Rf)(r:Rf):(wo l r).length≤l.length:=List.length_filter_le ..
theorem wo_first{l:List Rf}{r x:Rf}(h:(wo l r)[0]?=some x):∃y,l[0]?=some y:=by
 cases l with
 | nil=>cases h
 | cons y m=>exact⟨y,rfl⟩
theorem right_ap{l:List Rf}{r:Rf}(h:Right l)(h2:ok r)(h3:asked l r.c=false):Right (l++[r]):=by
 intro i hi x hx
 rcases Nat.lt_or_ge i l.length with hl|hl
 ·rw[List.getElem?_append_left hl] at hx
  rw[List.take_append_of_le_length (by omega)]
  exact h i hl x hx
 ·have e:i=l.length:=by rw[List.length_append] at hi;simp at hi;omega
  subst e
  simp at hx
  subst hx
  rw[List.take_left]
  exact⟨h2,h3⟩
theorem right_cons{x:Rf}{m:List Rf}:Right (x::m)↔ok x∧asked m x.c=false∧Right m:=by
 constructor
 ·intro h
  have h0:=h 0 (by simp) x rfl
  have hA:∀i y,m[i]?=some y→ok y∧asked (m.take i) y.c=false∧¬x.c=y.c:=fun i y hy=>by
   have h1:=h (i+1) (by have:=(List.getElem?_eq_some_iff.1 hy).1;simp;omega) y (by rw[List.getElem?_cons_succ];exact hy)
   rw[List.take_succ_cons] at h1
   have h2:asked (x::m.take i) y.c=(decide (x.c=y.c) || asked (m.take i) y.c):=rfl
   rw[h2,Bool.or_eq_false_iff,decide_eq_false_iff_not] at h1
   exact⟨h1.1,h1.2.2,h1.2.1⟩
  refine⟨h0.1,(asked_told (l:=m) rfl x.c).2 fun i y _ hy e=>(hA i y hy).2.2 e.symm,fun i _ y hy=>⟨(hA i y hy).1,(hA i y hy).2.1⟩⟩
 ·rintro ⟨h1,h2,h3⟩ i hi y hy
  cases i with
  | zero=>injection hy with hy;subst hy;exact⟨h1,rfl⟩
  | succ i=>
   rw[List.getElem?_cons_succ] at hy
   have h4:=h3 i (by simp at hi;omega) y hy
   refine⟨h4.1,?_⟩
   rw[List.take_succ_cons]
   show(decide (x.c=y.c) || asked (m.take i) y.c)=false
   rw[h4.2,Bool.or_false,decide_eq_false_iff_not]
   intro e
   rw[(asked_told (l:=m) rfl x.c).1 i y hy e.symm] at h2
   cases h2
theorem asked_filter{m:List Rf}{c:Int}(p:Rf→Bool)(h:asked m c=false):asked (m.filter p) c=false:=by
 rw[Bool.eq_false_iff] at h ⊢
 intro ha
 obtain⟨x,hx,hd⟩:=List.any_eq_true.1 ha
 exact h (List.any_eq_true.2 ⟨x,(List.mem_filter.1 hx).1,hd⟩)
theorem right_filter(p:Rf→Bool):∀{l:List Rf},Right l→Right (l.filter p)
 | [],_=>right_nil
 | x::m,h=>by
  obtain⟨h1,h2,h3⟩:=right_cons.1 h
  rw[List.filter_cons]
  split
  ·exact right_cons.2 ⟨h1,asked_filter p h2,right_filter p h3⟩
  ·exact right_filter p h3
theorem len_filter{q:Int}:∀{l:List Rf},Right l→l.length≤(l.filter fun x=>!decide (x.c=q)).length+1
 | [],_=>Nat.zero_le _
 | x::m,h=>by
  obtain⟨_,h2,h3⟩:=right_cons.1 h
  by_cases hq:x.c=q
  ·subst hq
   have e:(m.filter fun y=>!decide (y.c=x.c))=m:=List.filter_eq_self.2 fun y hy=>by
    obtain⟨i,hi⟩:=List.mem_iff_getElem?.1 hy
    rw[Bool.not_eq_true',decide_eq_false_iff_not]
    intro hc
    rw[(asked_told (l:=m) rfl x.c).1 i y hi hc] at h2
    cases h2
   rw[List.filter_cons_of_neg (by simp),e,List.length_cons]
   exact Nat.le_refl _
  ·rw[List.filter_cons_of_pos (by simp[hq]),List.length_cons,List.length_cons]
   have:=len_filter (q:=q) h3
   omega
theorem len_below:∀(k:Nat) {l:List Rf},Right l→(∀x∈l,x.c<(k:Int))→l.length≤k
 | 0,l,h,hk=>by
  cases l with
  | nil=>exact Nat.le_refl _
  | cons x m=>
   have h1:=hk x (List.mem_cons_self ..)
   have h2:=(right_cons.1 h).1.1
   omega
 | k+1,l,h,hk=>by
  have h1:=len_filter (q:=(k:Int)) h
  have h2:=len_below k (right_filter (fun x=>!decide (x.c=(k:Int))) h) fun x hx=>by
   obtain⟨h3,h4⟩:=List.mem_filter.1 hx
   have h5:=hk x h3
   have h6:¬x.c=(k:Int):=by simpa using h4
   omega
  omega
theorem right_len{l:List Rf}(h:Right l):l.length≤5:=len_below 5 h fun x hx=>by
 obtain⟨i,hi⟩:=List.mem_iff_getElem?.1 hx
 exact(h i (List.getElem?_eq_some_iff.1 hi).1 x hi).1.2.1
theorem fr_take{l:List Rf}{r x:Rf}(h:Right l)(hx:l[0]?=some x)(hm:mine x r):frE l r=0∧frL l r=l.drop 1∧frN l r=(l.drop 1).headD zero∧frS l r=decide (0<(l.drop 1).length):=by
 have e:=fr_yes h hx hm
 refine⟨e,by unfold frL;rw[if_pos e],by unfold frN;rw[if_pos e],?_⟩
 unfold frS
 rw[decide_eq_true e,Bool.true_and,List.length_drop]
 exact decide_eq_decide.2 (by omega)
theorem tk_right{l:List Rf}(h:Right l)(r:Rf):Right (tkL l r):=by
 unfold tkL
 split
 next he=>
  unfold tkE at he
  split at he
  next hr=>
   split at he
   ·cases he
   next ha=>exact right_ap hr.1 hr.2 (Bool.eq_false_iff.2 ha)
  next=>cases he
 next=>exact h
theorem fr_right{l:List Rf}(h:Right l)(r:Rf):Right (frL l r):=by
 unfold frL
 split
 ·cases l with
  | nil=>exact right_nil
  | cons x m=>exact(right_cons.1 h).2.2
 ·exact h
theorem dr_right{l:List Rf}(h:Right l)(r:Rf):Right (drL l r):=by
 unfold drL
 rw[if_pos h]
 exact right_filter _ h
end Lck
end
section
namespace Ses
structure S where
 live:Bool
 ep:Int
 rq:Int
 dn:Bool
 p:Sto.Rp
 deriving DecidableEq
def z:S:=⟨false,0,0,false,Sto.rz⟩
structure T where
 s0:S
 s1:S
 s2:S
 s3:S
 s4:S
 deriving DecidableEq
def T.get(t:T)(c:Int):S:=if c=0 then t.s0 else if c=1 then t.s1 else if c=2 then t.s2 else if c=3 then t.s3 else if c=4 then t.s4 else z
def T.set(t:T)(c:Int)(s:S):T:=if c=0 then { t with s0:=s } else if c=1 then { t with s1:=s } else if c=2 then { t with s2:=s } else if c=3 then { t with s3:=s } else if c=4 then { t with s4:=s } else t
def one(s:S):Bool:=if s.ep=0 then decide (s=z) else (s.dn || (decide (s.p=Sto.rz)&&decide (1≤s.rq)&&s.live))&&decide (0<s.ep)&&decide (0≤s.rq)&&Sto.rep s.p
def b2i(b:Bool):Int:=if b=true then 1 else 0
def live(t:T)(q:Int):Int:=b2i (t.s0.live&&!decide (0=q))+b2i (t.s1.live&&!decide (1=q))+b2i (t.s2.live&&!decide (2=q))+b2i (t.s3.live&&!decide (3=q))+b2i (t.s4.live&&!decide (4=q))
def Right(t:T):Prop:=(one t.s0=true∧one t.s1=true∧one t.s2=true∧one t.s3=true∧one t.s4=true)∧live t (-1)≤4
instance (t:T):Decidable (Right t):=by unfold Right;infer_instance
def lookS(s:S)(r:Rf):Int:=
 if r.r=0∧s.ep<r.e then 1 else if r.e≠s.ep∨r.r<s.rq then 5 else if r.r=s.rq then (if s.dn=true then 2 else 3) else if s.live=false then 4 else if r.r-1=s.rq∧s.dn=true then 1 else 5
def look(t:T)(r:Rf):Int:=if Lck.ok r∧Right t then lookS (t.get r.c) r else 5
def openS(t:T)(r:Rf):S:=if live t r.c<4 then ⟨true,r.e,0,true,Sto.rz⟩ else ⟨false,r.e,0,true,Sto.err 6⟩
def openT(t:T)(r:Rf):T:=if look t r=1∧r.r=0 then t.set r.c (openS t r) else t
def openP(t:T)(r:Rf):Sto.Rp:=if look t r=1∧r.r=0 then (openS t r).p else Sto.err 1
def begT(t:T)(r:Rf):T:=if look t r=1∧¬r.r=0 then t.set r.c { t.get r.c with rq:=r.r,dn:=false,p:=Sto.rz } else t
def endT(t:T)(r:Rf)(x:Sto.Rp):T:=if look t r=3∧Sto.rep x=true then t.set r.c { t.get r.c with dn:=true,p:=x } else t
def closeS(s:S):S:=if s.dn=true then { s with live:=false } else { s with live:=false,dn:=true,p:=Sto.err 14 }
def closeT(t:T)(c:Int):T:=if 0≤c∧c<5∧Right t∧(t.get c).live=true then t.set c (closeS (t.get c)) else t
theorem cases5{c:Int}(h:0≤c∧c<5):c=0∨c=1∨c=2∨c=3∨c=4:=by omega
theorem ok_c{r:Rf}(h:Lck.ok r):0≤r.c∧r.c<5:=⟨h.1,h.2.1⟩
theorem get_set{t:T}{c:Int}(h:0≤c∧c<5)(s:S):(t.set c s).get c=s:=by
 rcases cases5 h with rfl|rfl|rfl|rfl|rfl<;>rfl
theorem get_ne{t:T}{c d:Int}(hc:0≤c∧c<5)(hd:0≤d∧d<5)(hn:¬d=c)(s:S):(t.set c s).get d=t.get d:=by
 rcases cases5 hc with rfl|rfl|rfl|rfl|rfl<;>rcases cases5 hd with rfl|rfl|rfl|rfl|rfl<;>first|exact absurd rfl hn|rfl
theorem b2i_is(b:Bool):(b=true∧b2i b=1)∨(b=false∧b2i b=0):=by cases b<;>simp[b2i]
theorem live_set{t:T}{c:Int}(h:0≤c∧c<5)(s:S):live (t.set c s) (-1)=live t c+b2i s.live:=by
 rcases cases5 h with rfl|rfl|rfl|rfl|rfl<;>simp[live,T.set,b2i]<;>omega
theorem live_at{t:T}{c:Int}(h:0≤c∧c<5):live t (-1)=live t c+b2i (t.get c).live:=by
 rcases cases5 h with rfl|rfl|rfl|rfl|rfl<;>simp[live,T.get,b2i]<;>omega
theorem right_one{t:T}(h:Right t){c:Int}(hc:0≤c∧c<5):one (t.get c)=true:=by
 obtain⟨⟨h0,h1,h2,h3,h4⟩,_⟩:=h
 rcases cases5 hc with rfl|rfl|rfl|rfl|rfl
 ·exact h0
 ·exact h1
 ·exact h2
 ·exact h3
 ·exact h4
theorem right_set{t:T}(h:Right t){c:Int}(hc:0≤c∧c<5){s:S}(hs:one s=true)(hl:live t c+b2i s.live≤4):Right (t.set c s):=by
 obtain⟨⟨h0,h1,h2,h3,h4⟩,_⟩:=h
 refine⟨?_,by rw[live_set hc];exact hl⟩
 rcases cases5 hc with rfl|rfl|rfl|rfl|rfl
 ·exact⟨hs,h1,h2,h3,h4⟩
 ·exact⟨h0,hs,h2,h3,h4⟩
 ·exact⟨h0,h1,hs,h3,h4⟩
 ·exact⟨h0,h1,h2,hs,h4⟩
 ·exact⟨h0,h1,h2,h3,hs⟩
def snd(s:S):Bool:=decide (0<s.ep)&&decide (0≤s.rq)&&Sto.rep s.p&&(s.dn || (s.live&&decide (0<s.rq)&&decide (s.p=Sto.rz)))
theorem one_snd(s:S):one s=(decide (s=z) || snd s):=by
 unfold one
 by_cases h:s.ep=0
 ·rw[if_pos h]
  unfold snd
  rw[decide_eq_false (p:=0<s.ep) (by omega)]
  simp
 ·rw[if_neg h,decide_eq_false (p:=s=z) (fun e=>h (by rw[e];rfl))]
  unfold snd
  rw[Bool.eq_iff_iff]
  simp only[Bool.and_eq_true,Bool.or_eq_true,decide_eq_true_eq,Bool.false_or]
  constructor
  ·rintro ⟨⟨⟨h1,h2⟩,h3⟩,h4⟩
   exact⟨⟨⟨h2,h3⟩,h4⟩,h1.imp id fun⟨⟨a,b⟩,c⟩=>⟨⟨c,by omega⟩,a⟩⟩
  ·rintro ⟨⟨⟨h2,h3⟩,h4⟩,h1⟩
   exact⟨⟨⟨h1.imp id fun⟨⟨c,b⟩,a⟩=>⟨⟨a,by omega⟩,c⟩,h2⟩,h3⟩,h4⟩
def cnt(t:T)(q:Int):Nat→Int
 | 0=>0
 | k+1=>cnt t q k+b2i ((t.get k).live&&!decide ((k:Int)=q))
theorem cnt5(t:T)(q:Int):cnt t q 5=live t q:=by
 unfold live
 simp[cnt,T.get]
theorem cnt_le(t:T)(q:Int):∀k:Nat,0≤cnt t q k∧cnt t q k≤k
 | 0=>⟨Int.le_refl 0,Int.le_refl 0⟩
 | k+1=>by
  have h:=cnt_le t q k
  rcases b2i_is ((t.get k).live&&!decide ((k:Int)=q)) with ⟨_,g⟩|⟨_,g⟩<;>(show 0≤cnt t q k+_∧cnt t q k+_≤_;rw[g];omega)
theorem right_all(t:T):(∀c:Int,0≤c∧c<5→one (t.get c)=true)→decide (Right t)=decide (live t (-1)≤4):=fun h=>by
 have e:Right t↔live t (-1)≤4:=⟨fun g=>g.2,fun g=>⟨⟨h 0 (by decide),h 1 (by decide),h 2 (by decide),h 3 (by decide),h 4 (by decide)⟩,g⟩⟩
 rw[Bool.eq_iff_iff,decide_eq_true_eq,decide_eq_true_eq]
 exact e
theorem right_no{t:T}{c:Int}(hc:0≤c∧c<5)(h:one (t.get c)=false):decide (Right t)=false:=
 decide_eq_false fun g=>by rw[right_one g hc] at h;cases h
def Fit(t:T):Prop:=∀c:Int,0≤c∧c<5→(t.get c).p.v.f<18446744073709551616
theorem look_in{t:T}{r:Rf}{k:Int}(h:look t r=k)(hk:¬k=5):Lck.ok r∧Right t∧lookS (t.get r.c) r=k:=by
 unfold look at h
 split at h
 next g=>exact⟨g.1,g.2,h⟩
 next=>exact absurd h.symm hk
theorem look_bad{t:T}{r:Rf}(h:¬(Lck.ok r∧Right t)):look t r=5:=if_neg h
theorem rep_rz:Sto.rep Sto.rz=true:=by decide
theorem rep_err{e:Int}(h:0≤e∧e≤18):Sto.rep (Sto.err e)=true:=by
 unfold Sto.rep Sto.err
 rw[decide_eq_true h.1,decide_eq_true h.2]
 rfl
theorem fresh_is{s:S}{r:Rf}(h:lookS s r=1):(r.r=0∧s.ep<r.e)∨(r.e=s.ep∧r.r=s.rq+1∧s.live=true∧s.dn=true):=by
 unfold lookS at h
 by_cases h1:r.r=0∧s.ep<r.e
 ·exact .inl h1
 rw[if_neg h1] at h
 by_cases h2:r.e≠s.ep∨r.r<s.rq
 ·rw[if_pos h2] at h;cases h
 rw[if_neg h2] at h
 by_cases h3:r.r=s.rq
 ·rw[if_pos h3] at h
  split at h<;>cases h
 rw[if_neg h3] at h
 by_cases h4:s.live=false
 ·rw[if_pos h4] at h;cases h
 rw[if_neg h4] at h
 by_cases h5:r.r-1=s.rq∧s.dn=true
 ·exact .inr ⟨by omega,by omega,by simpa using h4,h5.2⟩
 ·rw[if_neg h5] at h;cases h
theorem waits_is{s:S}{r:Rf}(h:lookS s r=3):r.e=s.ep∧r.r=s.rq∧s.dn=false:=by
 unfold lookS at h
 by_cases h1:r.r=0∧s.ep<r.e
 ·rw[if_pos h1] at h;cases h
 rw[if_neg h1] at h
 by_cases h2:r.e≠s.ep∨r.r<s.rq
 ·rw[if_pos h2] at h;cases h
 rw[if_neg h2] at h
 by_cases h3:r.r=s.rq
 ·rw[if_pos h3] at h
  by_cases h6:s.dn=true
  ·rw[if_pos h6] at h;cases h
  ·exact⟨by omega,h3,by simpa using h6⟩
 rw[if_neg h3] at h
 by_cases h4:s.live=false
 ·rw[if_pos h4] at h;cases h
 rw[if_neg h4] at h
 by_cases h5:r.r-1=s.rq∧s.dn=true
 ·rw[if_pos h5] at h;cases h
 ·rw[if_neg h5] at h;cases h
theorem one_pos{s:S}(h:one s=true)(he:¬s.ep=0):(s.dn=true∨(s.p=Sto.rz∧1≤s.rq∧s.live=true))∧0<s.ep∧0≤s.rq∧Sto.rep s.p=true:=by
 unfold one at h
 rw[if_neg he] at h
 simp only[Bool.and_eq_true,Bool.or_eq_true,decide_eq_true_eq] at h
 exact⟨h.1.1.1.imp id fun g=>⟨g.1.1,g.1.2,g.2⟩,h.1.1.2,h.1.2,h.2⟩
theorem one_of{s:S}(h0:0<s.ep)(h1:s.dn=true∨(s.p=Sto.rz∧1≤s.rq∧s.live=true))(h2:0≤s.rq)(h3:Sto.rep s.p=true):one s=true:=by
 unfold one
 rw[if_neg (by omega)]
 simp only[Bool.and_eq_true,Bool.or_eq_true,decide_eq_true_eq]
 exact⟨⟨⟨h1.imp id fun g=>⟨⟨g.1,g.2.1⟩,g.2.2⟩,h0⟩,h2⟩,h3⟩
theorem one_zero{s:S}(h:one s=true)(he:s.ep=0):s=z:=by
 unfold one at h
 rw[if_pos he] at h
 exact of_decide_eq_true h
theorem live_le{t:T}(h:Right t){c:Int}(hc:0≤c∧c<5):live t c≤4:=by
 have h1:=live_at (t:=t) hc
 have h2:=h.2
 rcases b2i_is (t.get c).live with ⟨_,g⟩|⟨_,g⟩<;>omega
theorem open_right{t:T}(h:Right t)(r:Rf):Right (openT t r):=by
 unfold openT
 split
 next g=>
  obtain⟨hk,_,hl⟩:=look_in g.1 (by decide)
  have hc:=ok_c hk
  have hm:=live_le h hc
  have he:1≤r.e:=hk.2.2.1
  unfold openS
  split
  next hl4=>exact right_set h hc (one_of (by show 0<r.e;omega) (.inl rfl) (Int.le_refl 0) rep_rz) (by show live t r.c+1≤4;omega)
  next hl4=>exact right_set h hc (one_of (by show 0<r.e;omega) (.inl rfl) (Int.le_refl 0) (rep_err (by decide))) (by show live t r.c+0≤4;omega)
 next=>exact h
theorem beg_right{t:T}(h:Right t)(r:Rf):Right (begT t r):=by
 unfold begT
 split
 next g=>
  obtain⟨hk,_,hl⟩:=look_in g.1 (by decide)
  have hc:=ok_c hk
  rcases fresh_is hl with ⟨h0,_⟩|⟨h1,h2,h3,h4⟩
  ·exact absurd h0 g.2
  have he:1≤r.e:=hk.2.2.1
  have hr:0≤r.r:=hk.2.2.2
  have h0:=g.2
  have hla:=live_at (t:=t) hc
  have h5:=h.2
  refine right_set h hc (one_of (by show 0<(t.get r.c).ep;omega) (.inr ⟨rfl,by show 1≤r.r;omega,h3⟩) hr rep_rz) ?_
  show live t r.c+b2i (t.get r.c).live≤4
  omega
 next=>exact h
theorem end_right{t:T}(h:Right t)(r:Rf)(x:Sto.Rp):Right (endT t r x):=by
 unfold endT
 split
 next g=>
  obtain⟨hk,_,hl⟩:=look_in g.1 (by decide)
  have hc:=ok_c hk
  obtain⟨h1,h2,h3⟩:=waits_is hl
  have he:1≤r.e:=hk.2.2.1
  have hr:0≤r.r:=hk.2.2.2
  have hla:=live_at (t:=t) hc
  have h5:=h.2
  refine right_set h hc (one_of (by show 0<(t.get r.c).ep;omega) (.inl rfl) (by show 0≤(t.get r.c).rq;omega) g.2) ?_
  show live t r.c+b2i (t.get r.c).live≤4
  omega
 next=>exact h
theorem close_right{t:T}(h:Right t)(c:Int):Right (closeT t c):=by
 unfold closeT
 split
 next g=>
  obtain⟨h1,h2,_,hl⟩:=g
  have hc:0≤c∧c<5:=⟨h1,h2⟩
  have ho:=right_one h hc
  have he:¬(t.get c).ep=0:=fun e=>by rw[one_zero ho e] at hl;cases hl
  obtain⟨o1,o2,o3,o4⟩:=one_pos ho he
  have hm:=live_le h hc
  unfold closeS
  split
  next hd=>exact right_set h hc (one_of o2 (.inl hd) o3 o4) (by show live t c+0≤4;omega)
  next hd=>exact right_set h hc (one_of o2 (.inl rfl) o3 (rep_err (by decide))) (by show live t c+0≤4;omega)
 next=>exact h
end Ses
end
end Go.Proofs.YtddpmlcpfmmbeaaGreat
