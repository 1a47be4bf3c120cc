/- Layer 3's plain mathematics: a number's least bytes, an item's bytes, and how bytes are taken apart again; each list has one form. No condition but those named. -/
import Derived.Test.YtahdlddbbnjloaaGreatNTK
set_option linter.unusedSimpArgs false
set_option linter.unusedVariables false
set_option maxRecDepth 100000
set_option maxHeartbeats 25600000
open Go.RowKit
namespace Go.Proofs.YtahdlddbbnjloaaGreat
namespace aF
def nb(u:Nat):Nat:=if h:u=0 then 0 else nb (u / 256)+1
termination_by u
decreasing_by omega
theorem tO:nb 0=0:=by rw[nb];simp
theorem ET{u:Nat}(h:0<u):nb u=nb (u / 256)+1:=by rw[nb,dif_neg (by omega)]
theorem tQ:∀(k u:Nat),nb u≤k↔u<256 ^ k
 | 0,u=>by
  by_cases h:u=0
  ·subst h;simp[tO]
  ·rw[ET (by omega)];simp;omega
 | k+1,u=>by
  by_cases h:u=0
  ·subst h;rw[tO];simp;exact Nat.pow_pos (by decide)
  ·rw[ET (by omega),Nat.add_le_add_iff_right,tQ k,Nat.div_lt_iff_lt_mul (by decide),Nat.pow_succ]
theorem AZ{k u:Nat}(h:u<256 ^ k):nb u≤k:=(tQ k u).2 h
theorem adk(u:Nat):u<256 ^ nb u:=(tQ _ u).1 (Nat.le_refl _)
theorem Hz{k u:Nat}(h:k<nb u):256 ^ k≤u:=Nat.le_of_not_lt fun hl=>by have:=AZ hl;omega
theorem aiO{k u:Nat}(h1:256 ^ k≤u)(h2:u<256 ^ (k+1)):nb u=k+1:=by
 have a:=AZ h2;have b:¬nb u≤k:=fun h=>by have:=(tQ k u).1 h;omega
 omega
def B(u:Nat):Nat→List UInt8
 | 0=>[]
 | k+1=>UInt8.ofNat (u / 256 ^ k)::B u k
theorem oZ(u:Nat):∀k,(B u k).length=k
 | 0=>rfl
 | k+1=>by simp[B,oZ u k]
theorem ofNat_mod(x:Nat):UInt8.ofNat (x%256)=UInt8.ofNat x:=by
 apply UInt8.toNat_inj.1;simp[UInt8.toNat_ofNat']
theorem FT(u:Nat):∀k,B u (k+1)=B (u / 256) k++[UInt8.ofNat u]
 | 0=>by simp[B]
 | k+1=>by
  rw[B,FT u k,B];simp[Nat.div_div_eq_div_mul,Nat.pow_succ,Nat.mul_comm]
theorem adS(u:Nat):∀(k i:Nat),i<k→(B u k)[i]?=some (UInt8.ofNat (u / 256 ^ (k-1-i)))
 | k+1,0,_=>by simp[B]
 | k+1,i+1,h=>by
  rw[B,List.getElem?_cons_succ,adS u k i (by omega)]
  congr 4;omega
theorem agK(u k i:Nat)(h:i<k):(B u k).take (i+1)=(B u k).take i++[UInt8.ofNat (u / 256 ^ (k-1-i))]:=by
 rw[List.take_add_one,adS u k i h];rfl
def V:List UInt8→Nat
 | []=>0
 | c::l=>c.toNat*256 ^ l.length+V l
theorem XG:∀l,V l<256 ^ l.length
 | []=>by simp[V]
 | c::l=>by
  have h1:=XG l;have h2:=c.toNat_lt;rw[V,List.length_cons,Nat.pow_succ];have h3:(c.toNat+1)*256 ^ l.length≤256*256 ^ l.length:=Nat.mul_le_mul_right _ (by omega);rw[Nat.add_mul,Nat.one_mul] at h3;rw[Nat.mul_comm (256 ^ l.length) 256];omega
theorem MJ:∀(l:List UInt8) (c:UInt8),V (l++[c])=256*V l+c.toNat
 | [],c=>by simp[V]
 | d::l,c=>by
  rw[aS,V,MJ l c,V,List.length_append,List.length_singleton,Nat.pow_succ,Nat.mul_add];rw[← Nat.mul_assoc,← Nat.mul_assoc,Nat.mul_comm (d.toNat*256 ^ l.length) 256,Nat.mul_assoc 256];omega
theorem V_B:∀(k u:Nat),u<256 ^ k→V (B u k)=u
 | 0,u,h=>by simp at h;subst h;rfl
 | k+1,u,h=>by
  rw[FT,MJ,V_B k (u / 256) (by rw[Nat.div_lt_iff_lt_mul (by decide),← Nat.pow_succ];exact h)];simp only[UInt8.toNat_ofNat'];omega
theorem adR(u:Nat):∀(k m:Nat),B (m*256 ^ k+u) k=B u k
 | 0,_=>rfl
 | k+1,m=>by
  rw[FT,FT]
  have h1:(m*256 ^ (k+1)+u) / 256=m*256 ^ k+u / 256:=by
   rw[Nat.pow_succ,← Nat.mul_assoc,Nat.mul_comm _ 256,Nat.mul_add_div (by decide)]
  have h2:(m*256 ^ (k+1)+u)%256=u%256:=by
   rw[Nat.pow_succ,← Nat.mul_assoc,Nat.uR]<;>first|omega|skip
  rw[h1,adR (u / 256) k m,← ofNat_mod (m*256 ^ (k+1)+u),h2,ofNat_mod]
where
 Nat.uR (a b:Nat):(a*256+b)%256=b%256:=by omega
theorem B_V:∀l,B (V l) l.length=l
 | []=>rfl
 | c::l=>by
  rw[List.length_cons,B,V,adR,B_V l]
  congr 1
  rw[Nat.mul_comm,Nat.mul_add_div (Nat.pow_pos (by decide)),Nat.div_eq_of_lt (XG l),Nat.add_zero,UInt8.ofNat_toNat]
theorem alg{l:List UInt8}(h:l.headD 0≠0):nb (V l)=l.length:=by
 match l,h with
 | [],h=>exact absurd rfl h
 | c::l,h=>
  have hc:c.toNat≠0:=fun e=>h (UInt8.toNat_inj.1 e)
  refine aiO ?_ (XG (c::l));rw[V];have:1*256 ^ l.length≤c.toNat*256 ^ l.length:=Nat.mul_le_mul_right _ (by omega);omega
theorem afQ{u:Nat}(h:0<u):(B u (nb u)).headD 0≠0:=by
 obtain⟨k,hk⟩:∃k,nb u=k+1:=⟨_,ET h⟩;have h1:u<256 ^ (k+1):=by rw[← hk];exact adk u
 have h2:256 ^ k≤u:=Hz (by omega);have h3:u / 256 ^ k<256:=by rw[Nat.div_lt_iff_lt_mul (Nat.pow_pos (by decide)),Nat.mul_comm,← Nat.pow_succ];exact h1
 have h4:1≤u / 256 ^ k:=(Nat.le_div_iff_mul_le (Nat.pow_pos (by decide))).2 (by omega);rw[hk,B];intro e;have e2:=congrArg UInt8.toNat e;simp only[List.headD_cons,UInt8.toNat_ofNat',UInt8.toNat_zero] at e2;omega
structure It where
 k:Int
 n:Int
 s:ByteArray
def fits(x:It):Bool:=(x.k==0&&x.s.data.toList.isEmpty) || (x.k==1&&x.n==0)
def fold(n:Int):Nat:=if n<0 then (-2*n-1).toNat else (2*n).toNat
def unfold(u:Nat):Int:=if u%2=1 then -(u / 2:Nat)-1 else (u / 2:Nat)
theorem Gd(n:Int):unfold (fold n)=n:=by
 unfold unfold fold;by_cases h:n<0
 ·rw[if_pos h,if_pos (by omega)];omega
 ·rw[if_neg h,if_neg (by omega)];omega
theorem Ir(u:Nat):fold (unfold u)=u:=by
 unfold unfold fold;by_cases h:u%2=1
 ·rw[if_pos h,if_pos (by omega)];omega
 ·rw[if_neg h,if_neg (by omega)];omega
theorem Fp{n:Int}(h1 : -9223372036854775808≤n)(h2:n≤9223372036854775807):fold n<18446744073709551616:=by
 unfold fold;split<;>omega
theorem En{u:Nat}(h:u<18446744073709551616): -9223372036854775808≤unfold u∧unfold u≤9223372036854775807:=by
 unfold unfold;split<;>omega
def lead(m u:Nat):List UInt8:=UInt8.ofNat (m+nb u)::B u (nb u)
def one(x:It):List UInt8:=if x.k=0 then lead 0 (fold x.n) else lead 16 x.s.size++x.s.data.toList
def all(l:List It):List UInt8:=l.flatMap one
theorem all_nil:all []=[]:=rfl
theorem all_cons(x:It)(l:List It):all (x::l)=one x++all l:=List.flatMap_cons ..
theorem all_append(a b:List It):all (a++b)=all a++all b:=List.flatMap_append ..
theorem gZ(m u:Nat):(lead m u).length=nb u+1:=by simp[lead,oZ]
theorem one_pos(x:It):0<(one x).length:=by
 unfold one;split
 ·rw[gZ];omega
 ·rw[List.length_append,gZ];omega
def fU(k:Nat)(r:List UInt8):Option (Nat×List UInt8):=
 if r.length<k then none else if 0<k∧r.headD 0=0 then none else some (V (r.take k),r.drop k)
theorem gQ{k:Nat}{r t:List UInt8}{u:Nat}(h:fU k r=some (u,t)):nb u=k∧B u k++t=r∧u<256 ^ k∧t.length+k=r.length:=by
 unfold fU at h
 split at h
 ·cases h
 ·split at h
  ·cases h
  ·rename_i h1 h2
   cases h;have hl:(r.take k).length=k:=by rw[List.length_take];omega
   have hv:=XG (r.take k);rw[hl] at hv;refine⟨?_,?_,hv,by rw[List.length_drop];omega⟩
   ·by_cases hk:k=0
    ·subst hk;simp[V,tO]
    ·rw[alg,hl]
     intro e;apply h2;refine⟨by omega,?_⟩;obtain⟨k,rfl⟩:∃j,k=j+1:=⟨k-1,by omega⟩
     match r,e with
     | [],_=>rfl
     | c::r,e=>simpa using e
   ·have:=B_V (r.take k)
    rw[hl] at this;rw[this,List.take_append_drop]
theorem rE(u:Nat)(t:List UInt8):fU (nb u) (B u (nb u)++t)=some (u,t):=by
 unfold fU;rw[if_neg (by rw[List.length_append,oZ];omega),List.take_left' (oZ _ _),List.drop_left' (oZ _ _),V_B _ _ (adk u)];rw[if_neg];rintro ⟨h1,h2⟩;by_cases hu:u=0
 ·subst hu;rw[tO] at h1;omega
 ·apply afQ (u:=u) (by omega)
  revert h2
  match B u (nb u),oZ u (nb u) with
  | [],hl=>simp at hl;omega
  | c::l,_=>simp
def next:List UInt8→Option (It×List UInt8)
 | []=>none
 | c::r=>
  if c.toNat≤8 then (fU c.toNat r).map fun p=>(⟨0,unfold p.1,⟨#[]⟩⟩,p.2)
  else if 16≤c.toNat∧c.toNat≤18 then
   (fU (c.toNat-16) r).bind fun p=>if p.2.length<p.1 then none else some (⟨1,0,⟨(p.2.take p.1).toArray⟩⟩,p.2.drop p.1)
  else none
def Good(x:It):Prop:=fits x=true∧-9223372036854775808≤x.n∧x.n≤9223372036854775807∧x.s.size<65536
theorem mU{n:Nat}(h:n<256):(UInt8.ofNat n).toNat=n:=by simp[UInt8.toNat_ofNat'];omega
theorem nb8{u:Nat}(h:u<18446744073709551616):nb u≤8:=AZ (k:=8) h
theorem nb2{u:Nat}(h:u<65536):nb u≤2:=AZ (k:=2) h
theorem qm{x:It}(h:fits x=true):(x.k=0∧x.s=⟨#[]⟩)∨(x.k=1∧x.n=0):=by
 unfold fits at h;simp only[Bool.or_eq_true,Bool.and_eq_true,beq_iff_eq,List.isEmpty_iff] at h
 rcases h with ⟨h1,h2⟩|h
 ·exact .inl ⟨h1,by
   obtain⟨k,n,⟨⟨s⟩⟩⟩:=x;simp at h2
   subst h2;rfl⟩
 ·exact .inr h
theorem Vk(x:It)(hx:Good x)(t:List UInt8):next (one x++t)=some (x,t):=by
 obtain⟨hf,h1,h2,h3⟩:=hx;unfold one
 rcases qm hf with ⟨hk,hs⟩|⟨hk,hn⟩
 ·rw[if_pos hk]
  have hb:=nb8 (Fp h1 h2);have hc:(UInt8.ofNat (0+nb (fold x.n))).toNat=nb (fold x.n):=by rw[mU]<;>omega
  unfold lead;rw[aS,next,if_pos (by rw[hc];exact hb),hc,rE];obtain⟨k,n,s⟩:=x;simp only at hk hs;subst hk hs;simp[Gd]
 ·rw[if_neg (by omega)]
  have hb:=nb2 h3;have hc:(UInt8.ofNat (16+nb x.s.size)).toNat=16+nb x.s.size:=by rw[mU];omega
  unfold lead;rw[List.append_assoc,aS,next,if_neg (by rw[hc];omega),if_pos (by rw[hc];omega),hc,Nat.add_sub_cancel_left,rE];obtain⟨k,n,⟨⟨s⟩⟩⟩:=x;simp only at hk hn;subst hk hn;have hz:(⟨⟨s⟩⟩:ByteArray).size=s.length:=rfl;simp[hz]
theorem yJ{s t:List UInt8}{x:It}(h:next s=some (x,t))(hs:s.length≤16384):one x++t=s∧Good x∧t.length<s.length:=by
 match s,h with
 | c::r,h=>
  have hcl:=c.toNat_lt;rw[next] at h
  split at h
  ·rename_i hc
   obtain⟨⟨u,t'⟩,h1,h2⟩:=Option.map_eq_some_iff.1 h;cases h2;obtain⟨a,b,d,e⟩:=gQ h1;have hu:u<18446744073709551616:=Nat.lt_of_lt_of_le d (Nat.pow_le_pow_right (by decide) (show c.toNat≤8 from hc));have hr:=En hu;refine⟨?_,⟨rfl,hr.1,hr.2,show 0<65536 by decide⟩,by simp only[List.length_cons];omega⟩;unfold one lead;rw[if_pos rfl];simp only[Ir];rw[aS,a,b,Nat.zero_add,UInt8.ofNat_toNat]
  ·split at h
   ·rename_i hc1 hc
    obtain⟨⟨u,t'⟩,h1,h2⟩:=Option.bind_eq_some_iff.1 h;simp only at h2
    split at h2
    ·cases h2
    ·rename_i hlen
     cases h2;obtain⟨a,b,d,e⟩:=gQ h1;simp only[List.length_cons] at hs;have hz:(⟨(t'.take u).toArray⟩:ByteArray).size=u:=by show(t'.take u).length=u;rw[List.length_take];omega
     refine⟨?_,⟨rfl,show(-9223372036854775808:Int)≤0 by decide,show(0:Int)≤9223372036854775807 by decide,by rw[hz];omega⟩,by simp only[List.length_cons,List.length_drop];omega⟩;unfold one lead;rw[if_neg (by decide:¬(1:Int)=0)];simp only[hz];rw[List.append_assoc,aS,a,show 16+(c.toNat-16)=c.toNat from by omega,UInt8.ofNat_toNat];simp[b]
   ·cases h
def dec(s:List UInt8):Option (List It):=
 match s with
 | []=>some []
 | c::r=>match next (c::r) with
  | none=>none
  | some (x,t)=>if t.length<(c::r).length then (dec t).map (x :: ·) else none
termination_by s.length
theorem Fv:dec []=some []:=by rw[dec]
theorem Ja{s:List UInt8}(h:s≠[])(hn:next s=none):dec s=none:=by
 match s,h with
 | c::r,_=>rw[dec,hn]
theorem BM{s t:List UInt8}{x:It}(hn:next s=some (x,t))(hl:t.length<s.length):dec s=(dec t).map (x :: ·):=by
 match s with
 | c::r=>
  rw[dec,hn];simp only;rw[if_pos hl]
theorem OD:∀(l:List It),(∀x∈l,Good x)→dec (all l)=some l
 | [],_=>Fv
 | x::l,h=>by
  rw[all_cons,BM (Vk x (h x (List.mem_cons_self ..)) (all l)) (by have:=one_pos x;rw[List.length_append];omega),OD l (fun y hy=>h y (List.mem_cons_of_mem _ hy))]
  rfl
theorem OP(s:List UInt8)(l:List It)(h:dec s=some l)(hs:s.length≤16384):all l=s∧∀x∈l,Good x:=by
 match s,h with
 | [],h=>rw[Fv] at h;cases h;exact⟨rfl,fun x hx=>by cases hx⟩
 | c::r,h=>
  match hn:next (c::r) with
  | none=>rw[Ja (by simp) hn] at h;cases h
  | some (x,t)=>
   obtain⟨h1,h2,h3⟩:=yJ hn hs;rw[BM hn h3] at h;obtain⟨l',h4,h5⟩:=Option.map_eq_some_iff.1 h;subst h5;obtain⟨h6,h7⟩:=OP t l' h4 (by omega);refine⟨by rw[all_cons,h6,h1],fun y hy=>?_⟩
   rcases List.mem_cons.1 hy with rfl|hy
   ·exact h2
   ·exact h7 y hy
termination_by s.length
def E(l:List It):ByteArray×Int:=
 if l.all fits=false then (⟨#[]⟩,1) else if 16384<(all l).length then (⟨#[]⟩,2) else (⟨(all l).toArray⟩,0)
def D(s:ByteArray):List It×Int:=
 if 16384<s.size then ([],2) else match dec s.data.toList with
 | none=>([],3)
 | some l=>(l,0)
def Wf(l:List It):Prop:=∀x∈l,-9223372036854775808≤x.n∧x.n≤9223372036854775807
theorem Gl{x:It}(hf:fits x=true):x.s.size≤(one x).length:=by
 unfold one
 rcases qm hf with ⟨_,hs⟩|⟨hk,_⟩
 ·rw[hs];exact Nat.zero_le _
 ·rw[if_neg (by omega),List.length_append]
  show _≤_+x.s.data.toList.length
  rw[Array.length_toList];exact Nat.le_add_left _ _
theorem Oi{l:List It}(hw:Wf l)(hf:l.all fits=true)(hl:(all l).length≤16384):∀x∈l,Good x:=by
 intro x hx;have h1:=List.all_eq_true.1 hf x hx;have h2:=hw x hx;have h3:=Gl h1
 have h4:(one x).length≤(all l).length:=by
  obtain⟨a,b,rfl⟩:=List.append_of_mem hx;rw[all_append,all_cons];simp only[List.length_append];omega
 exact⟨h1,h2.1,h2.2,by omega⟩
theorem RZ{l:List It}(h:(E l).2=0):l.all fits=true∧(all l).length≤16384∧E l=(⟨(all l).toArray⟩,0):=by
 unfold E at h ⊢;by_cases h1:l.all fits=false
 ·rw[if_pos h1] at h;exact absurd h (by decide)
 ·rw[if_neg h1] at h ⊢
  by_cases h2:16384<(all l).length
  ·rw[if_pos h2] at h;exact absurd h (by decide)
  ·rw[if_neg h2]
   exact⟨by simpa using h1,by omega,rfl⟩
theorem Yd{l:List It}(h1:l.all fits=true)(h2:(all l).length≤16384):E l=(⟨(all l).toArray⟩,0):=by
 unfold E;rw[if_neg (by simp[h1]),if_neg (by omega)]
theorem agH{s:ByteArray}(h:(D s).2=0):∃l,D s=(l,0)∧s.size≤16384∧all l=s.data.toList∧∀x∈l,Good x:=by
 unfold D at h ⊢;by_cases h1:16384<s.size
 ·rw[if_pos h1] at h;exact absurd h (by decide)
 ·rw[if_neg h1] at h ⊢
  have hl:s.data.toList.length≤16384:=by rw[Array.length_toList];exact Nat.le_of_not_lt h1
  match hd:dec s.data.toList with
  | none=>rw[hd] at h;exact absurd h (by decide)
  | some l=>
   obtain⟨a,b⟩:=OP _ l hd hl;exact⟨l,rfl,by omega,a,b⟩
theorem adP{s:ByteArray}(h:(D s).2≠0):(D s).1=[]:=by
 unfold D at h ⊢;by_cases h1:16384<s.size
 ·rw[if_pos h1]
 ·rw[if_neg h1] at h ⊢
  match hd:dec s.data.toList with
  | none=>rfl
  | some l=>rw[hd] at h;exact absurd rfl h
theorem back{l:List It}(hw:Wf l)(h:(E l).2=0):D (E l).1=(l,0):=by
 obtain⟨h1,h2,h3⟩:=RZ h;rw[h3];unfold D;rw[if_neg (by show ¬16384<(all l).length;omega)];have hd:=OD l (Oi hw h1 h2);simp only[hd]
theorem once{s:ByteArray}(h:(D s).2=0):E (D s).1=(s,0):=by
 obtain⟨l,h1,h2,h3,h4⟩:=agH h;rw[h1];have hl:(all l).length≤16384:=by rw[h3,Array.length_toList];exact h2
 rw[Yd (List.all_eq_true.2 fun x hx=>(h4 x hx).1) hl,h3]
end aF
end Go.Proofs.YtahdlddbbnjloaaGreat
