/- What meter's Read returns. No condition but those named. -/
import Derived.Test.YtieoeendnccafaaGreatNAO
set_option linter.unusedSimpArgs false
set_option linter.unusedVariables false
set_option maxRecDepth 100000
set_option maxHeartbeats 25600000
open Go.RowKit
namespace Go.Proofs.YtieoeendnccafaaGreat
open _root_.Go.Proofs.Tryz
section
structure Pc where
 A:Option Addr
 n:Nat
 c:Nat
 l:List aK.Pr
def cat(ps:List Pc):List aK.Pr:=ps.flatMap (·.l)
theorem VJ{ps:List Pc}{k:Nat}{p:Pc}(h:ps[k]?=some p):cat (ps.take (k+1))=cat (ps.take k)++p.l:=by
 unfold cat;exact Ru
theorem adi(ps:List Pc)(k:Nat):(cat (ps.take k)).length≤(cat ps).length:=by
 have h:cat ps=cat (ps.take k)++cat (ps.drop k):=by unfold cat;rw[← List.flatMap_append,List.take_append_drop]
 rw[h,List.length_append];omega
theorem Ba(g m:Nat)(ps:List Pc)(w:World)(hg:g<w.heap.size)(hc:∀i p,ps[i]?=some p→w.cell? ⟨g,i,none⟩=some (.slice p.A p.n p.c))(hs:∀p∈ps,Sl w p.A p.n p.c p.l)(ht:(cat ps).length≤2513169434916)(hm:ps.length=m:=by rfl)(hb:m≤8:=by decide):
  Calls prog 262 #[.slice (some ⟨g,0,none⟩) m m] w (IsL (cat ps) w):=by
 have iA:Hid (∀k,k<m→∃p,ps[k]?=some p∧Sl w p.A p.n p.c p.l∧∀W,Below w.heap.size w W→W.cell? ⟨g,k,none⟩=some (.slice p.A p.n p.c)):=zH fun k hk=>by
  exact Jy
 have HLen:Hid (∀k,(cat (ps.take k)).length≤2513169434916):=zH fun k=>Nat.le_trans (adi ps k) ht
 have jo:Hid (ps.take m=ps):=zH (by rw[← hm];exact List.take_length);clear hc hs ht hm hg;have HK:=zH (Kn.start w);go_enter func262,ntmps262;go_wp2_with (refine JG HK rfl rfl ?_;clear HK;intro _ g2 HK;simp only[aJ] at HK);go_loopw [3,9] (fun vs vi wr=>∃(k:Nat) (A1:Option Addr) (c1 N:Nat),k≤m∧vs=.slice A1 N c1∧vi=.int .i64 k∧Hid ((cat (ps.take k)).length=N)∧Hid (Kn w.heap.size w wr [] [row bO (.slice A1 N c1) (cat (ps.take k))])) (fun _ vi _=>m-(intOf vi).toNat)
 case atStart=>exact⟨0,_,_,0,Nat.zero_le _,rfl,rfl,zH rfl,HK⟩
 case round=>
  clear HK;obtain⟨k,A1,c1,N,hk,rfl,rfl,hN,HK⟩:=hrel;by_cases hlt:k<m
  ·obtain⟨p,hp,hsl,hcell⟩:=iA.out k hlt
   have HC:=zH hcell;have hlen:=HLen.out (k+1);have he:=VJ hp;rw[he,List.length_append,hN.out] at hlen;have HE:=zH he;have LA:=zH hsl;have BU:Hid (p.n=p.l.length):=zH hsl.len.symm;have HL:Hid ((cat (ps.take k)).length+p.l.length≤9223372036854775807∧((cat (ps.take k)).length+p.l.length)*bO.bytes≤211106232532992):=zH ⟨by rw[hN.out];omega,by show _*56≤_;rw[hN.out];omega⟩;have fB:Hid ((cat (ps.take k)++p.l).length=N+p.l.length):=zH (by rw[List.length_append,hN.out]);clear hlen he hcell hsl hp;have hk1:(0:Int)≤(k:Int):=by omega
   have hk2:(k:Int)<(m:Int):=by omega
   obtain⟨Ap,np,cp,lp⟩:=p;simp only at HC LA HL fB HE BU;have HR:Hid (bO.Reads wr wr.heap.size Ap lp∧(Ap=none→lp=[])):=zH (let h:=LA.out.later HK.out.b;⟨h.rd,h.nl⟩);go_wp2_with (first|refine au (v:=.slice Ap np cp) (jh _ (by rfl) (by rfl) (HC.out _ HK.out.b) underlying57) ?_|(at_builtin;refine aX HK bO 0 lp BU.out HR HL (N:=N+lp.length) fB ?_;clear HK;intro A4 c4 _ HK;simp only[lS] at HK));exact ZT
  ·obtain rfl:k=m:=by omega
   rw[jo.out] at HK hN;obtain rfl:=hN.out;exact QZ
section
variable {b0:Nat}{w0 w:World}{L:List (Nat×TypeId×Array Value)}{R:List dA}{g:Nat}{A1 A2 A3:Option Addr}{n1 c1 n2 c2 n3 c3:Nat}{l1 l2 l3:List aK.Pr}
theorem ug(HK:Hid (Kn b0 w0 w L R))(i:Nat)(h1:Sl w A1 n1 c1 l1)(hL:L[i]?=some (g,57,#[.slice A1 n1 c1]):=by rfl):
  Calls prog 262 #[.slice (some ⟨g,0,none⟩) 1 1] w (IsL l1 w):=by
 have h:=Ba g 1 [⟨A1,n1,c1,l1⟩] w (HK.out.blk i hL).lt (fun j p hp=>by
  match j,hp with
  | 0,hp=>simp at hp;subst hp;exact HK.out.cell i hL 0 rfl) (fun p hp=>by
   rw[List.mem_singleton] at hp;subst hp;exact h1) (by
   show(l1++[]).length≤_
   rw[List.append_nil,h1.len];exact h1.big)
 have e:cat [⟨A1,n1,c1,l1⟩]=l1:=by show l1++[]=l1;rw[List.append_nil]
 exact vS
theorem PY(HK:Hid (Kn b0 w0 w L R))(i:Nat)(hL:L[i]?=some (g,57,#[.slice A1 n1 c1,.slice A2 n2 c2]))(h1:Sl w A1 n1 c1 l1)(h2:Sl w A2 n2 c2 l2)(ht:n1+n2≤2513169434916):
  Calls prog 262 #[.slice (some ⟨g,0,none⟩) 2 2] w (IsL (l1++l2) w):=by
 have h:=Ba g 2 [⟨A1,n1,c1,l1⟩,⟨A2,n2,c2,l2⟩] w (HK.out.blk i hL).lt (fun j p hp=>by
  match j,hp with
  | 0,hp=>simp at hp;subst hp;exact HK.out.cell i hL 0 rfl
  | 1,hp=>simp at hp;subst hp;exact HK.out.cell i hL 1 rfl) (fun p hp=>by
   simp only[List.mem_cons,List.not_mem_nil,or_false] at hp
   rcases hp with rfl|rfl
   ·exact h1
   ·exact h2) (by
   show(l1++(l2++[])).length≤_
   rw[List.append_nil,List.length_append,h1.len,h2.len];exact ht)
 have e:cat [⟨A1,n1,c1,l1⟩,⟨A2,n2,c2,l2⟩]=l1++l2:=by show l1++(l2++[])=_;rw[List.append_nil]
 exact vS
theorem PX(HK:Hid (Kn b0 w0 w L R))(i:Nat)(hL:L[i]?=some (g,57,#[.slice A1 n1 c1,.slice A2 n2 c2,.slice A3 n3 c3]))(h1:Sl w A1 n1 c1 l1)(h2:Sl w A2 n2 c2 l2)(h3:Sl w A3 n3 c3 l3)(ht:n1+n2+n3≤2513169434916):
  Calls prog 262 #[.slice (some ⟨g,0,none⟩) 3 3] w (IsL (l1++l2++l3) w):=by
 have h:=Ba g 3 [⟨A1,n1,c1,l1⟩,⟨A2,n2,c2,l2⟩,⟨A3,n3,c3,l3⟩] w (HK.out.blk i hL).lt (fun j p hp=>by
  match j,hp with
  | 0,hp=>simp at hp;subst hp;exact HK.out.cell i hL 0 rfl
  | 1,hp=>simp at hp;subst hp;exact HK.out.cell i hL 1 rfl
  | 2,hp=>simp at hp;subst hp;exact HK.out.cell i hL 2 rfl) (fun p hp=>by
   simp only[List.mem_cons,List.not_mem_nil,or_false] at hp
   rcases hp with rfl|rfl|rfl
   ·exact h1
   ·exact h2
   ·exact h3) (by
   show(l1++(l2++(l3++[]))).length≤_
   rw[List.append_nil,List.length_append,List.length_append,h1.len,h2.len,h3.len];omega)
 have e:cat [⟨A1,n1,c1,l1⟩,⟨A2,n2,c2,l2⟩,⟨A3,n3,c3,l3⟩]=l1++l2++l3:=by show l1++(l2++(l3++[]))=_;rw[List.append_nil,List.append_assoc]
 exact vS
end
theorem Nn(A:Option Addr)(c n:Nat)(l:List aK.Pr)(key:ByteArray)(w:World)(hs:Sl w A n c l)(hu:aK.Up l):
  Calls prog 263 #[.slice A n c,.string key] w (IsL (aK.wo l key) w):=by
 have HP:=zH (xW A c n l key w w hs (Below.refl _ w));have HW:=zH (aK.fu hu key).1
 have hpl:(l.take (aK.idx l key)).length+(l.drop (aK.fin l key)).length≤2513169434916:=by
  have h:=congrArg List.length HW.out;rw[List.length_append] at h;rw[h];exact(hs.fit.wo key).big
 have HB:=zH hpl;clear hs hu hpl;generalize l.take (aK.idx l key)=l1 at *
 generalize (l.drop (aK.idx l key)).take (aK.fin l key-aK.idx l key)=l2 at *
 generalize l.drop (aK.fin l key)=l3 at *
 have HK:=zH (Kn.start w);go_enter func263,ntmps263;go_wp2_with fail;refine HP.out.mono ?_;rintro e w1 ⟨A1,n1,c1,A2,n2,c2,A3,n3,c3,rfl,s1,s2,s3,b1⟩;replace HK:=iy HK b1;have S1:=zH s1;have S3:=zH s3;clear HP s1 s2 s3 b1;go_wp2_with (refine JF HK rfl rfl rfl rfl ?_;clear HK;intro w2 g2 HK _;simp only[aJ] at HK);refine(PY HK 0 rfl (S1.out.later HK.out.b) (S3.out.later HK.out.b) (by rw[← S1.out.len,← S3.out.len];exact HB.out)).mono ?_;rintro e w3 ⟨A4,n4,c4,rfl,o4,b4⟩;rw[HW.out] at o4;replace HK:=zH (HK.out.called b4 o4);exact Zr
end
section
def qU(v:Val.V)(x:Int)(w:World)(e:Ending)(w':World):Prop:=e=.returned (.tuple #[vv v,.int .i64 x])∧Below w.heap.size w w'
theorem at_one{w:World}{A:Option Addr}{c:Nat}{x:aK.Pr}(h:Sl w A 1 c [x]):∃b o,A=some ⟨b,o,none⟩∧∀W,Below w.heap.size w W→∀j v,(Tv x)[j]?=some v→W.cell? ⟨b,o+j,none⟩=some v:=by
 obtain⟨b,o,rfl,hc⟩:=h.at (by decide);refine⟨b,o,rfl,fun W hW j v hv=>?_⟩;have:=hc W hW 0 x rfl j v hv;rw[Nat.zero_mul,Nat.add_zero] at this;exact this
theorem EX(A:Option Addr)(c n:Nat)(l:List aK.Pr)(key:ByteArray)(w:World)(hs:Sl w A n c l):
  Calls prog 235 #[.slice A n c,.string key] w (qU (aK.pK l key) (aK.pE l key) w):=by
 have HM:=zH (fun W (hW:Below w.heap.size w W)=>GQ A c n l W (hs.later hW));have HP:=zH (fun W (hW:Below w.heap.size w W)=>xW A c n l key w W hs hW);clear hs;unfold qU gX at *
 have HK:=zH (Kn.start w);by_cases hr:aK.Right l
 ·rw[aK.zC hr] at HM
  rcases aK.Qj hr.up key with ⟨hf,hn⟩|⟨hf,x,hx,hn⟩
  ·obtain⟨e1,e2⟩:=aK.MV hr hn
   rw[e1,e2];rw[hf,Nat.sub_self] at HP;unfold aK.emp vv;simp only;generalize l.take (aK.idx l key)=l1 at *
   generalize l.drop (aK.idx l key)=l3 at *
   clear e1 e2 hf hn hr;go_enter func235,ntmps235;go_wp2_with (refine aN HK ?_;clear HK;intro _ g1 HK;simp only[aO,aJ] at HK);refine cb (HM.out _ HK.out.b) HK ?_;clear HK;intro _ HK;go_wp2_with fail;refine(HP.out _ HK.out.b).mono ?_;rintro e w1 ⟨A1,n1,c1,A2,n2,c2,A3,n3,c3,rfl,s1,s2,s3,b1⟩;replace HK:=iy HK b1;obtain rfl:n2=0:=by have:=s2.len;simpa using this.symm
   clear s1 s2 s3 b1;exact aac
  ·obtain⟨e1,e2⟩:=aK.MU hr hn
   have hl2:(l.drop (aK.idx l key)).take (aK.fin l key-aK.idx l key)=[x]:=by
    rw[hf,Nat.add_sub_cancel_left];have h1:=(List.getElem?_eq_some_iff.1 hx);obtain⟨h1,h2⟩:=h1;rw[List.drop_eq_getElem_cons h1,h2]
    rfl
   rw[e1,e2];rw[hl2] at HP;generalize l.take (aK.idx l key)=l1 at *
   generalize l.drop (aK.fin l key)=l3 at *
   clear e1 e2 hf hn hr hl2 hx;obtain⟨key',k,m,f,s⟩:=x;unfold vv;simp only;go_enter func235,ntmps235;go_wp2_with (refine aN HK ?_;clear HK;intro _ g1 HK;simp only[aO,aJ] at HK);refine cb (HM.out _ HK.out.b) HK ?_;clear HK;intro _ HK;go_wp2_with fail;refine(HP.out _ HK.out.b).mono ?_;rintro e w1 ⟨A1,n1,c1,A2,n2,c2,A3,n3,c3,rfl,s1,s2,s3,b1⟩;replace HK:=iy HK b1;obtain rfl:n2=1:=by have:=s2.len;simpa using this.symm
   obtain⟨b,o,rfl,hc⟩:=at_one s2;have HX:=zH hc;clear s1 s2 s3 b1 hc;go_wp2_with (first|refine au (ql (off:=o) (HX.out _ HK.out.b)) ?_|(refine aM (f2:=f) HK 0 ?_;clear HK;intro _ HK;simp only[lS] at HK));exact EA results235 (HK.out.blk 0 rfl) ⟨rfl,HK.out.b⟩
 ·rw[aK.wF hr] at HM
  obtain⟨e1,e2⟩:=aK.Bd hr key;rw[e1,e2];clear e1 e2 hr HP;unfold aK.emp vv;simp only;go_enter func235,ntmps235;go_wp2_with (refine aN HK ?_;clear HK;intro _ g1 HK;simp only[aO,aJ] at HK);refine cb (HM.out _ HK.out.b) HK ?_;clear HK;intro _ HK;exact aac
end
section
def adx(r:List aK.Pr)(x:Int)(w:World)(e:Ending)(w':World):Prop:=∃A n c,e=.returned (.tuple #[.slice A n c,.int .i64 x])∧bO.Own w.heap.size w' (.slice A n c) r∧Below w.heap.size w w'
theorem Mg(A:Option Addr)(c n:Nat)(l:List aK.Pr)(key:ByteArray)(v:Val.V)(w:World)(hs:Sl w A n c l)(hv:v.f<18446744073709551616):
  Calls prog 236 #[.slice A n c,.string key,vv v] w (adx (aK.uL l key v) (aK.rT l key v) w):=by
 have HM:=zH (fun W (hW:Below w.heap.size w W)=>GQ A c n l W (hs.later hW));have HC:=zH (fun W=>GA key v W hv);have HP:=zH (fun W (hW:Below w.heap.size w W)=>xW A c n l key w W hs hW);have HS:=zH hs;have HOr:=zH (fun a b W t g hg=>GI a b W t g hg)
 -- what is answered, by cases
 have qV:Hid (¬KL (aK.Ce l) (aK.ji key v)=0→aK.rT l key v=KL (aK.Ce l) (aK.ji key v)∧aK.uL l key v=l):=zH fun h=>by
  by_cases hr:aK.Right l
  ·rw[aK.zC hr] at h ⊢
   exact aK.KD hr h
  ·rw[aK.wF hr] at h ⊢
   exact aK.Tn hr key v
 have BO:Hid (KL (aK.Ce l) (aK.ji key v)=0→aK.Right l∧aK.ji key v=0):=zH fun h=>by
  by_cases hr:aK.Right l
  ·rw[aK.zC hr] at h;exact⟨hr,h⟩
  ·rw[aK.wF hr] at h;cases h
 have mF:Hid (KL (aK.Ce l) (aK.ji key v)=0→8≤(l.take (aK.idx l key)).length+(l.drop (aK.fin l key)).length→aK.rT l key v=6∧aK.uL l key v=l):=zH fun h h8=>by
  obtain⟨hr,hk⟩:=BO.out h;have hw:=congrArg List.length (aK.fu hr.up key).1;rw[List.length_append] at hw;exact aK.Mh hr hk (by omega)
 have iw:Hid (KL (aK.Ce l) (aK.ji key v)=0→¬8≤(l.take (aK.idx l key)).length+(l.drop (aK.fin l key)).length→aK.rT l key v=0∧aK.uL l key v=l.take (aK.idx l key)++[⟨key,v⟩]++l.drop (aK.fin l key)):=zH fun h h8=>by
  obtain⟨hr,hk⟩:=BO.out h;have hw:=congrArg List.length (aK.fu hr.up key).1;rw[List.length_append] at hw;exact aK.aas hr hk (by omega)
 have WJ:Hid (Fit [(⟨key,v⟩:aK.Pr)]):=zH ⟨fun x hx=>by rw[List.mem_singleton] at hx;subst hx;exact hv,by show 1≤_;decide⟩;clear hs hv BO;generalize aK.rT l key v=X at *
 generalize aK.uL l key v=r at *
 generalize hE:KL (aK.Ce l) (aK.ji key v)=E at *
 have HE:=zH hE;clear hE;generalize aK.Ce l=em at *
 generalize aK.ji key v=ek at *
 generalize l.take (aK.idx l key)=l1 at *
 generalize (l.drop (aK.idx l key)).take (aK.fin l key-aK.idx l key)=l2 at *
 generalize l.drop (aK.fin l key)=l3 at *
 obtain⟨k,m,f,s⟩:=v;unfold vv gX at *
 simp only at HC ⊢;have HK:=iK w 26 (vC k m f s);unfold vC at HK;go_enter func236,ntmps236;go_wp2_with fail;refine zR HK.out.drew fun ah=>?_
 refine ak 0 rfl ?_;refine ak 2 rfl ?_;refine ak 3 rfl ?_ fun _ s=>bq s 0
 refine aC 1 rfl fun K hK=>?_
 go_simp;go_at_call 260;refine(HM.out _ ah.out.b).mono ?_;rintro e w5 ⟨rfl,b5⟩;have hs:=zH (ah.out.call b5);clear b5;refine bk hK hs fun ah=>?_
 clear hK K;refine aC 4 rfl fun K hK=>?_
 go_simp;go_at_call 207;refine(HC.out _).mono ?_;rintro e w5 ⟨rfl,b5⟩;have hs:=zH (ah.out.call b5);clear b5;refine bk hK hs fun ah=>?_
 clear hK K;refine aC 5 rfl fun K hK=>?_
 go_simp;have hs:=zH (ah.out.FC (.cells #[.int .i64 em,.int .i64 ek] 23));refine bk hK hs fun ah=>?_
 clear hK K;refine aC 6 rfl fun K hK=>?_
 go_simp;go_at_call 113;refine(HOr.out _ _ _ _ _ rfl).mono ?_;rintro e w6 ⟨rfl,rfl⟩;have hs:=ah;refine bk hK hs fun ah=>?_
 clear hK K;refine ak 7 rfl ?_;refine bW ?_;rw[HE.out];replace HK:=ah;clear ah HM HC HOr HE;generalize World.alloc _ _=w7 at *
 by_cases hz:E=0
 ·subst hz
  replace mF:=zH (mF.out rfl);replace iw:=zH (iw.out rfl);clear qV;go_wp2_with fail;refine(HP.out _ HK.out.b).mono ?_;rintro e w1 ⟨A1,n1,c1,A2,n2,c2,A3,n3,c3,rfl,s1,s2,s3,b1⟩;replace HK:=iy HK b1;rw[s1.len,s3.len] at mF iw;have S1:=zH s1;have S3:=zH s3;have hb1:=s1.big;have hb3:=s3.big;have hsum:wrap64 ((n1:Int)+(n3:Int))=(n1:Int)+(n3:Int):=by unfold wrap64;omega
  clear s1 s2 s3 b1 HP;by_cases h8:8≤n1+n3
  ·have h82:8≤(n1:Int)+(n3:Int):=by omega
   obtain⟨rfl,rfl⟩:=mF.out h8;exact aer
  ·have h82:¬8≤(n1:Int)+(n3:Int):=by omega
   obtain⟨rfl,rfl⟩:=iw.out h8;go_wp2_with (first|refine au (bq HK 0) ?_|(refine nu (p:=⟨key,⟨k,m,f,s⟩⟩) HK ?_;clear HK;intro w2 g2 HK;simp only[aJ] at HK)|(refine JE HK rfl rfl rfl rfl rfl ?_;clear HK;intro w2 g3 HK _;simp only[aO,aJ] at HK));refine(PX HK 1 rfl (S1.out.later HK.out.b) (Sl.own (HK.out.own 0 rfl) WJ.out) (S3.out.later HK.out.b) (by omega)).mono ?_;rintro e w3 ⟨A4,n4,c4,rfl,o4,b4⟩;replace HK:=zH (HK.out.called b4 o4);clear o4 b4;go_wp2_with fail;exact kL results236 ⟨A4,n4,c4,rfl,HK.out.own 1 rfl,HK.out.b⟩
 ·obtain⟨rfl,rfl⟩:=qV.out hz
  have hz2:(X != 0)=true:=by simpa using hz
  clear qV mF iw HP WJ;exact aer
end
section
def uR(r:List aK.Pr)(v:Val.V)(x:Int)(w:World)(e:Ending)(w':World):Prop:=∃A n c,e=.returned (.tuple #[.slice A n c,vv v,.int .i64 x])∧bO.Own w.heap.size w' (.slice A n c) r∧Below w.heap.size w w'
theorem YF(A:Option Addr)(c n:Nat)(l:List aK.Pr)(key:ByteArray)(w:World)(hs:Sl w A n c l):
  Calls prog 237 #[.slice A n c,.string key] w (uR (aK.Qo l key) (aK.pK l key) (aK.pE l key) w):=by
 have HG:=zH (fun W (hW:Below w.heap.size w W)=>EX A c n l key W (hs.later hW));have HS:=zH hs;unfold aK.Qo;by_cases hz:aK.pE l key=0
 ·have hu:=(aK.afJ hz).up
  have HW:=zH (fun W (hW:Below w.heap.size w W)=>Nn A c n l key W (hs.later hW) hu);rw[if_pos hz];rw[hz] at HG ⊢;clear hz hu hs;generalize aK.pK l key=v at *
  generalize aK.wo l key=r at *
  obtain⟨k,m,f,s⟩:=v;unfold qU uR vv at *
  simp only at HG ⊢;have HK:=zH (Kn.start w);go_enter func237,ntmps237;go_wp2_with (refine aN HK ?_;clear HK;intro _ g1 HK;simp only[aO,aJ] at HK);refine cb (HG.out _ HK.out.b) HK ?_;clear HK;intro _ HK;go_wp2_with (first|(refine aN HK ?_;clear HK;intro _ g2 HK;simp only[aO,aJ] at HK)|(refine aM (f2:=f) HK 1 ?_;clear HK;intro _ HK;simp only[lS] at HK));have aj:=zH HK.out.drew;clear HG HS;refine zR (HK.out.drew.aI 1) fun ah=>?_
  refine ak 0 rfl ?_;refine ak 1 rfl ?_;refine ak 3 rfl ?_ fun _ s=>bq s 0
  refine aC 2 rfl fun K hK=>?_
  go_simp;go_at_call 263;refine(HW.out _ ah.out.b).mono ?_;rintro e w5 ⟨A4,n4,c4,rfl,o4,b5⟩;have hs:=zH (ah.out.call b5);replace aj:=zH (aj.out.called b5 o4);clear b5 o4;refine bk hK hs fun ah=>?_
  clear hK K;refine ak 4 rfl ?_;refine aC 5 rfl fun K hK=>?_
  refine tO (f2:=f) aj 0 ?_;clear aj;intro wq aj;simp only[lS] at aj;have hs:=zH ((aj.out.aI 1).ay 0);refine bk hK hs fun ah=>?_
  clear hK K;refine ak 6 rfl ?_;refine bW ?_
  all_goals
   go_wp2_with fail;exact iR results237 (aj.out.blk 0 rfl) ⟨A4,n4,c4,rfl,aj.out.own 0 rfl,aj.out.b⟩
 ·rw[if_neg hz]
  have hv:=aK.aaG hz;rw[hv] at HG ⊢;generalize aK.pE l key=X at *
  have hz2:(X != 0)=true:=by simpa using hz
  clear hv hs;unfold qU uR vv aK.emp at *
  simp only at HG ⊢;have HK:=zH (Kn.start w);go_enter func237,ntmps237;go_wp2_with (refine aN HK ?_;clear HK;intro _ g1 HK;simp only[aO,aJ] at HK);refine cb (HG.out _ HK.out.b) HK ?_;clear HK;intro _ HK;go_wp2_with (first|(refine aN HK ?_;clear HK;intro _ g2 HK;simp only[aO,aJ] at HK)|(refine aM (f2:=0) HK 1 ?_;clear HK;intro _ HK;simp only[lS] at HK)|(refine uX HK ?_;clear HK;intro w2 g3 HK _;simp only[aO,aJ] at HK));refine(ug HK 2 (HS.out.later HK.out.b)).mono ?_;rintro e w3 ⟨A4,n4,c4,rfl,o4,b4⟩;replace HK:=zH (HK.out.called b4 o4);clear o4 b4;go_wp2_with (refine aM (f2:=0) HK 0 ?_;clear HK;intro _ HK;simp only[lS] at HK);exact iR results237 (HK.out.blk 0 rfl) ⟨A4,n4,c4,rfl,HK.out.own 0 rfl,HK.out.b⟩
end
section
theorem RU(A:Option Addr)(c n:Nat)(l:List aK.Pr)(key:ByteArray)(o v:Val.V)(w:World)(hs:Sl w A n c l)(hv:v.f<18446744073709551616):
  Calls prog 238 #[.slice A n c,.string key,vv o,vv v] w (uR (aK.FP l key o v) (aK.Jo l key o) (aK.Ah l key o v) w):=by
 have HG:=zH (fun W (hW:Below w.heap.size w W)=>EX A c n l key W (hs.later hW));have HS:=zH hs;by_cases hr:aK.Right l
 case neg=>
  obtain⟨e1,e2,e3⟩:=aK.JY hr key o v;obtain⟨g1,g2⟩:=aK.Bd hr key;rw[g1,g2] at HG;rw[e1,e2,e3];clear e1 e2 e3 g1 g2 hr hs;obtain⟨ok,om,of,os⟩:=o;obtain⟨vk,vm,vf,vs⟩:=v;unfold qU uR vv aK.emp at *
  simp only at HG ⊢;have HK:=kX w 26 (vC ok om of os) 26 (vC vk vm vf vs);unfold vC at HK;go_enter func238,ntmps238;go_wp2_with (refine aN HK ?_;clear HK;intro _ ga HK;simp only[aO,aJ] at HK);refine cb (HG.out _ HK.out.b) HK ?_;clear HK;intro _ HK;go_wp2_with (first|(refine aN HK ?_;clear HK;intro _ gb HK;simp only[aO,aJ] at HK)|(refine aM (f2:=0) HK 3 ?_;clear HK;intro _ HK;simp only[lS] at HK)|(refine uX HK ?_;clear HK;intro w2 g3 HK _;simp only[aO,aJ] at HK));refine(ug HK 4 (HS.out.later HK.out.b)).mono ?_;exact abo
 case pos=>
 have hnb:=aK.aaH hr key;by_cases ho:aK.pK l key=o
 case neg=>
  obtain⟨e1,e2,e3⟩:=aK.xK hr v ho;rw[e1,e2,e3];clear e1 e2 e3 hr hs;generalize aK.pK l key=t at *
  generalize aK.pE l key=X at *
  have hne:=zH (show(!decide (t=o))=true by rw[decide_eq_false ho];rfl);clear ho;have hx2:(X==1)=false:=by simpa using hnb
  obtain⟨ok,om,of,os⟩:=o;obtain⟨vk,vm,vf,vs⟩:=v;obtain⟨tk,tm,tf,ts⟩:=t;unfold qU uR vv at *
  simp only at HG ⊢;have HK:=kX w 26 (vC ok om of os) 26 (vC vk vm vf vs);unfold vC at HK;go_enter func238,ntmps238;go_wp2_with (refine aN HK ?_;clear HK;intro _ ga HK;simp only[aO,aJ] at HK);refine cb (HG.out _ HK.out.b) HK ?_;clear HK;intro _ HK;go_wp2_with (first|(refine aN HK ?_;clear HK;intro _ gb HK;simp only[aO,aJ] at HK)|(refine aM (f2:=tf) HK 3 ?_;clear HK;intro _ HK;simp only[lS] at HK)|refine au (bq HK 3) ?_|refine au (bq HK 0) ?_|refine au (jF (v:=⟨tk,tm,tf,ts⟩) (u:=⟨ok,om,of,os⟩) hne.out) ?_);have aj:=zH HK.out.drew;refine zR (HK.out.drew.aI 3) fun ah=>?_
  refine ak 0 rfl ?_;refine ak 3 rfl ?_ fun _ s=>bq s 0
  refine aC 1 rfl fun K hK=>?_
  refine RZ aj (by rfl) (by rfl) (by rfl) ?_;intro w2 g3 dY bb;simp only[aO,aJ] at dY;have hs:=zH (ah.out.call bb.out);replace aj:=dY;clear dY bb;refine bk hK hs fun ah=>?_
  clear hK K;refine aC 2 rfl fun K hK=>?_
  go_simp;go_at_call 262;refine(ug aj 4 (HS.out.later aj.out.b)).mono ?_;rintro e w5 ⟨A4,n4,c4,rfl,o4,b5⟩;have hs:=zH (ah.out.call b5);replace aj:=zH (aj.out.called b5 o4);clear b5 o4;refine bk hK hs fun ah=>?_
  clear hK K;refine ak 4 rfl ?_;refine aC 5 rfl fun K hK=>?_
  refine tO (f2:=tf) aj 2 ?_;clear aj;intro wq aj;simp only[lS] at aj;have hs:=zH (((aj.out.aI 3).aA 1).ay 0);refine bk hK hs fun ah=>?_
  clear hK K;refine ak 6 rfl ?_;refine bW ?_
  all_goals
   go_wp2_with fail;exact iR results238 (aj.out.blk 2 rfl) ⟨A4,n4,c4,rfl,aj.out.own 0 rfl,aj.out.b⟩
 case pos=>
 by_cases KS:v=aK.emp
 case pos=>
  obtain⟨e1,e2,e3⟩:=aK.JX hr ho;have HW:=zH (fun W (hW:Below w.heap.size w W)=>Nn A c n l key W (hs.later hW) hr.up);rw[KS,e1,e2,e3];rw[ho] at HG;clear e1 e2 e3 hr hs ho;generalize aK.pE l key=X at *
  generalize aK.wo l key=r at *
  have hne:=zH (show(!decide (o=o))=false by simp);have KR:=zH (show decide ((⟨0,0,0,⟨#[]⟩⟩:Val.V)=⟨0,0,0,⟨#[]⟩⟩)=true by simp);clear KS;have hx2:(X==1)=false:=by simpa using hnb
  obtain⟨ok,om,of,os⟩:=o;unfold qU uR vv aK.emp at *
  simp only at HG ⊢;have HK:=kX w 26 (vC ok om of os) 26 (vC 0 0 0 ⟨#[]⟩);unfold vC at HK;go_enter func238,ntmps238;go_wp2_with (refine aN HK ?_;clear HK;intro _ ga HK;simp only[aO,aJ] at HK);refine cb (HG.out _ HK.out.b) HK ?_;clear HK;intro _ HK;go_wp2_with (first|(refine aN HK ?_;clear HK;intro _ gb HK;simp only[aO,aJ] at HK)|(refine aM (f2:=of) HK 3 ?_;clear HK;intro _ HK;simp only[lS] at HK)|refine au (bq HK 3) ?_|refine au (bq HK 0) ?_|refine au (bq HK 1) ?_|refine au (jF (v:=⟨ok,om,of,os⟩) (u:=⟨ok,om,of,os⟩) hne.out) ?_|refine au (Ij (v:=⟨0,0,0,⟨#[]⟩⟩) (u:=⟨0,0,0,⟨#[]⟩⟩) KR.out) ?_);refine(HW.out _ HK.out.b).mono ?_;exact abo
 case neg=>
  obtain⟨e1,e2,e3⟩:=aK.JW hr ho KS;have HP:=zH (fun W (hW:Below w.heap.size w W)=>Mg A c n l key v W (hs.later hW) hv);rw[e1,e2,e3];rw[ho] at HG;clear e1 e2 e3 hr hs ho hv;generalize aK.pE l key=X at *
  generalize aK.rT l key v=y at *
  generalize aK.uL l key v=r at *
  have hne:=zH (show(!decide (o=o))=false by simp);have KR:=zH (show decide (v=⟨0,0,0,⟨#[]⟩⟩)=false from decide_eq_false KS);clear KS;have hx2:(X==1)=false:=by simpa using hnb
  obtain⟨ok,om,of,os⟩:=o;obtain⟨vk,vm,vf,vs⟩:=v;unfold qU uR adx vv aK.emp at *
  simp only at HG HP ⊢;have HK:=kX w 26 (vC ok om of os) 26 (vC vk vm vf vs);unfold vC at HK;go_enter func238,ntmps238;go_wp2_with (refine aN HK ?_;clear HK;intro _ ga HK;simp only[aO,aJ] at HK);refine cb (HG.out _ HK.out.b) HK ?_;clear HK;intro _ HK;go_wp2_with (first|(refine aN HK ?_;clear HK;intro _ gb HK;simp only[aO,aJ] at HK)|(refine aM (f2:=of) HK 3 ?_;clear HK;intro _ HK;simp only[lS] at HK)|refine au (bq HK 3) ?_|refine au (bq HK 0) ?_|refine au (bq HK 1) ?_|refine au (jF (v:=⟨ok,om,of,os⟩) (u:=⟨ok,om,of,os⟩) hne.out) ?_|refine au (Ij (v:=⟨vk,vm,vf,vs⟩) (u:=⟨0,0,0,⟨#[]⟩⟩) KR.out) ?_);refine(HP.out _ HK.out.b).mono ?_;exact abo
end
section
theorem CX:Joins prog 265 bg vF:=by
 intro g m ps w hm hb hg hc hs ht;replace ht:(dN ps).length*40≤140737488355328:=ht
 have iA:Hid (∀k,k<m→∃p,ps[k]?=some p∧bJ bg vF w p.A p.n p.c p.l∧∀W,Below w.heap.size w W→W.cell? ⟨g,k,none⟩=some (.slice p.A p.n p.c)):=zH fun k hk=>by
  exact Jy
 have HLen:Hid (∀k,(dN (ps.take k)).length*40≤140737488355328):=zH fun k=>Nat.le_trans (Nat.mul_le_mul_right _ (uD ps k)) ht
 have jo:Hid (ps.take m=ps):=zH (by rw[← hm];exact List.take_length);clear hc hs ht hm hg;have HK:=zH (Kn.start w);go_enter func265,ntmps265;go_wp2_with (refine fE bg HK ?_;clear HK;intro _ g2 HK;simp only[aJ] at HK);go_loopw [3,9] (fun vs vi wr=>∃(k:Nat) (A1:Option Addr) (c1 N:Nat),k≤m∧vs=.slice A1 N c1∧vi=.int .i64 k∧Hid ((dN (ps.take k)).length=N)∧Hid (Kn w.heap.size w wr [] [row bg (.slice A1 N c1) (dN (ps.take k))])) (fun _ vi _=>m-(intOf vi).toNat)
 case atStart=>exact⟨0,_,_,0,Nat.zero_le _,rfl,rfl,zH rfl,HK⟩
 case round=>
  clear HK;obtain⟨k,A1,c1,N,hk,rfl,rfl,hN,HK⟩:=hrel;by_cases hlt:k<m
  ·obtain⟨p,hp,hsl,hcell⟩:=iA.out k hlt
   have HC:=zH hcell;have hlen:=HLen.out (k+1);have he:=lH hp;rw[he,List.length_append,hN.out] at hlen;have HE:=zH he;have LA:=zH hsl;have BU:Hid (p.n=p.l.length):=zH hsl.len.symm;have HL:Hid ((dN (ps.take k)).length+p.l.length≤9223372036854775807∧((dN (ps.take k)).length+p.l.length)*Lay.bytes bg≤211106232532992):=zH ⟨by rw[hN.out];omega,by show _*40≤_;rw[hN.out];omega⟩;have fB:Hid ((dN (ps.take k)++p.l).length=N+p.l.length):=zH (by rw[List.length_append,hN.out]);clear hlen he hcell hsl hp;have hk1:(0:Int)≤(k:Int):=by omega
   have hk2:(k:Int)<(m:Int):=by omega
   obtain⟨Ap,np,cp,lp⟩:=p;simp only at HC LA HL fB HE BU;have HR:Hid (Lay.Reads bg wr wr.heap.size Ap lp∧(Ap=none→lp=[])):=zH (let h:=LA.out.later HK.out.b;⟨h.rd,h.nl⟩);go_wp2_with (first|refine au (v:=.slice Ap np cp) (jh _ (by rfl) (by rfl) (HC.out _ HK.out.b) underlying58) ?_|(at_builtin;refine aX HK bg 0 lp BU.out HR HL (N:=N+lp.length) fB ?_;clear HK;intro A4 c4 _ HK;simp only[lS] at HK));exact ZT
  ·obtain rfl:k=m:=by omega
   rw[jo.out] at HK hN;obtain rfl:=hN.out;exact QZ
end
section
theorem Tk(N:Int)(A:Option Addr)(c n:Nat)(l:List Val.V)(v:Val.V)(w:World)(hs:bJ bg vF w A n c l)(hv:vF v):
  Calls prog 239 #[.int .i64 N,.slice A n c,vv v] w (Wy bg (dK.xV N l v) (dK.uM N l v) w):=by
 have HM:=zH (fun W (hW:Below w.heap.size w W)=>Gx N A c n l W (hs.later hW));have HC:=zH (fun W=>Gb v W hv);have HS:=zH hs;have HJ:=zH CX;have HOr:=zH (fun a b W t g hg=>GI a b W t g hg);have hlen:=hs.len
 have qV:Hid (¬KL (dK.Cc N l) (dK.jq v)=0→dK.uM N l v=KL (dK.Cc N l) (dK.jq v)∧dK.xV N l v=l):=zH fun h=>by
  by_cases hr:dK.Right N l
  ·rw[dK.zy hr] at h ⊢
   exact dK.KE hr h
  ·rw[dK.wu hr] at h ⊢
   exact dK.Tq hr v
 have BO:Hid (KL (dK.Cc N l) (dK.jq v)=0→dK.Right N l∧dK.jq v=0):=zH fun h=>by
  by_cases hr:dK.Right N l
  ·rw[dK.zy hr] at h;exact⟨hr,h⟩
  ·rw[dK.wu hr] at h;cases h
 have mF:Hid (KL (dK.Cc N l) (dK.jq v)=0→(n:Int)=N→dK.uM N l v=6∧dK.xV N l v=l):=zH fun h h8=>by
  obtain⟨hr,hk⟩:=BO.out h;exact dK.Mi hr hk (by rw[hlen];exact h8)
 have iw:Hid (KL (dK.Cc N l) (dK.jq v)=0→¬(n:Int)=N→n≤8∧dK.uM N l v=0∧dK.xV N l v=l++[v]):=zH fun h h8=>by
  obtain⟨hr,hk⟩:=BO.out h;have h1:=hr.len;have h2:=hr.hi;rw[hlen] at h1;exact⟨by omega,dK.aat hr hk (by rw[hlen];exact h8)⟩
 have WJ:Hid (Fits bg vF [v]):=zH ⟨fun x hx=>by rw[List.mem_singleton] at hx;subst hx;exact hv,by show 1*40≤_;decide⟩;clear hs hv BO hlen;generalize dK.uM N l v=X at *
 generalize dK.xV N l v=r at *
 generalize hE:KL (dK.Cc N l) (dK.jq v)=E at *
 have HE:=zH hE;clear hE;generalize dK.Cc N l=em at *
 generalize dK.jq v=ek at *
 obtain⟨k,m,f,s⟩:=v;unfold vv gX Wy at *
 simp only at HC ⊢;have HK:=iK w 26 (vC k m f s);unfold vC at HK;go_enter func239,ntmps239;go_wp2_with fail;refine zR HK.out.drew fun ah=>?_
 refine ak 0 rfl ?_;refine ak 1 rfl ?_;refine ak 3 rfl ?_ fun _ s=>bq s 0
 refine aC 2 rfl fun K hK=>?_
 go_simp;go_at_call 264;refine(HM.out _ ah.out.b).mono ?_;rintro e w5 ⟨rfl,b5⟩;have hs:=zH (ah.out.call b5);clear b5;refine bk hK hs fun ah=>?_
 clear hK K;refine aC 4 rfl fun K hK=>?_
 go_simp;go_at_call 208;refine(HC.out _).mono ?_;rintro e w5 ⟨rfl,b5⟩;have hs:=zH (ah.out.call b5);clear b5;refine bk hK hs fun ah=>?_
 clear hK K;refine aC 5 rfl fun K hK=>?_
 go_simp;have hs:=zH (ah.out.FC (.cells #[.int .i64 em,.int .i64 ek] 23));refine bk hK hs fun ah=>?_
 clear hK K;refine aC 6 rfl fun K hK=>?_
 go_simp;go_at_call 113;refine(HOr.out _ _ _ _ _ rfl).mono ?_;rintro e w6 ⟨rfl,rfl⟩;have hs:=ah;refine bk hK hs fun ah=>?_
 clear hK K;refine ak 7 rfl ?_;refine bW ?_;rw[HE.out];replace HK:=ah;clear ah HM HC HOr HE;generalize World.alloc _ _=w7 at *
 by_cases hz:E=0
 ·subst hz
  replace mF:=zH (mF.out rfl);replace iw:=zH (iw.out rfl);clear qV;by_cases h8:(n:Int)=N
  ·have h82:((n:Int)==N)=true:=by simpa using h8
   obtain⟨rfl,rfl⟩:=mF.out h8;clear h8;exact aev
  ·have h82:((n:Int)==N)=false:=by simpa using h8
   obtain⟨Yp,rfl,rfl⟩:=iw.out h8;clear h8;go_wp2_with (first|refine au (bq HK 0) ?_|(refine dI bg (p:=⟨k,m,f,s⟩) HK ?_;clear HK;intro w2 g2 HK;simp only[aJ] at HK)|(refine lT bg xI HK ?_;clear HK;intro w2 g3 HK _;simp only[aO,aJ] at HK));refine(HJ.out.two HK 1 rfl (HS.out.later HK.out.b) (bJ.own (HK.out.own 0 rfl) WJ.out) (by show(n+1)*40≤_;omega)).mono ?_;rintro e w3 ⟨A4,n4,c4,rfl,o4,b4⟩;replace HK:=zH (HK.out.called b4 o4);clear o4 b4;go_wp2_with fail;exact kL results239 ⟨A4,n4,c4,rfl,HK.out.own 1 rfl,HK.out.b⟩
 ·obtain⟨rfl,rfl⟩:=qV.out hz
  have hz2:(X != 0)=true:=by simpa using hz
  clear qV mF iw WJ;exact aev
def Ww(r:List Val.V)(v:Val.V)(x:Int)(w:World)(e:Ending)(w':World):Prop:=∃A n c,e=.returned (.tuple #[.slice A n c,vv v,.int .i64 x])∧bg.Own w.heap.size w' (.slice A n c) r∧Below w.heap.size w w'
theorem XF(N:Int)(A:Option Addr)(c n:Nat)(l:List Val.V)(w:World)(hs:bJ bg vF w A n c l):
  Calls prog 240 #[.int .i64 N,.slice A n c] w (Ww (dK.Jq N l) (dK.Jp N l) (dK.KF N l) w):=by
 have HM:=zH (fun W (hW:Below w.heap.size w W)=>Gx N A c n l W (hs.later hW));have HS:=zH hs;have HJ:=zH CX;have hlen:=hs.len;have HK:=zH (Kn.start w);by_cases hr:dK.Right N l
 case neg=>
  rw[dK.wu hr] at HM;obtain⟨e1,e2,e3⟩:=dK.Tx hr;rw[e1,e2,e3];clear e1 e2 e3 hr hs hlen;unfold dK.emp Ww gX vv at *
  simp only;go_enter func240,ntmps240;go_wp2_with (refine aN HK ?_;clear HK;intro _ g1 HK;simp only[aO,aJ] at HK);refine cb (HM.out _ HK.out.b) HK ?_;clear HK;intro _ HK;go_wp2_with (refine dG bg xI HK ?_;clear HK;intro w2 g2 HK _;simp only[aO,aJ] at HK);refine(HJ.out.one HK 1 rfl (HS.out.later HK.out.b)).mono ?_;rintro e w3 ⟨A4,n4,c4,rfl,o4,b4⟩;replace HK:=zH (HK.out.called b4 o4);clear o4 b4;go_wp2_with (refine aM (f2:=0) HK 0 ?_;clear HK;intro _ HK;simp only[lS] at HK);exact iR results240 (HK.out.blk 0 rfl) ⟨A4,n4,c4,rfl,HK.out.own 0 rfl,HK.out.b⟩
 case pos=>
 rw[dK.zy hr] at HM;have h9:n<9:=by have h1:=hr.len;have h2:=hr.hi;omega
 by_cases h0:n=0
 ·subst h0
  obtain⟨e1,e2,e3⟩:=dK.Ml hr hlen;rw[e1,e2,e3];clear e1 e2 e3 hr hs hlen h9;unfold dK.emp Ww gX vv at *
  simp only;go_enter func240,ntmps240;go_wp2_with (refine aN HK ?_;clear HK;intro _ g1 HK;simp only[aO,aJ] at HK);refine cb (HM.out _ HK.out.b) HK ?_;clear HK;intro _ HK;go_wp2_with (refine aM (f2:=0) HK 0 ?_;clear HK;intro _ HK;simp only[lS] at HK);exact iR results240 (HK.out.blk 0 rfl) ⟨_,_,_,rfl,Lay.Own.none _ _,HK.out.b⟩
 ·have hpos:0<n:=by omega
  obtain⟨x,hx,hf⟩:=hs.get hpos;obtain⟨b,o,rfl,hat⟩:=hs.at hpos;obtain⟨e1,e2,e3⟩:=dK.aav hr hx;rw[e1,e2,e3];have HX:=zH (fun W hW=>hat W hW 0 x hx);have HD:=zH (hs.drop (lo:=1) hpos);have hz:((n:Int)==0)=false:=by simp;omega
  clear e1 e2 e3 hr hs hlen h9 h0 hat hx hf;obtain⟨k,m,f,s⟩:=x;unfold Ww gX vv at *
  simp only;go_enter func240,ntmps240;go_wp2_with (refine aN HK ?_;clear HK;intro _ g1 HK;simp only[aO,aJ] at HK);refine cb (HM.out _ HK.out.b) HK ?_;clear HK;intro _ HK;go_wp2_with fail;have aj:=zH HK.out.drew;clear HM HS;refine wp_region_held_drew (S:=(fun W=>Hid (Below w.heap.size w W))) (by kernel_rfl) ?_ fun ah=>?_
  ·(try dsimp only);exact zH aj.out.b
  refine ak 0 rfl ?_;refine ak 1 rfl ?_ fun _ s=>Ik (lo:=1) hpos
  refine ak 4 rfl ?_;refine ak 5 rfl ?_ fun _ s=>Ir (i:=0) hpos
  refine ak 6 rfl ?_ fun _ s=>wR (off:=o+0*4) (HX.out _ s.out)
  refine aC 2 rfl fun K hK=>?_
  refine Ou bg xI aj (by rfl) (by rfl) (by rfl) ?_;clear aj;intro w2 g2 aj _;simp only[aO,aJ] at aj;have hs:=zH aj.out.b;refine bk hK hs fun ah=>?_
  clear hK K;refine aC 3 rfl fun K hK=>?_
  go_simp;go_at_call 265;refine(HJ.out.one aj 1 rfl (HD.out.later aj.out.b)).mono ?_;rintro e w5 ⟨A4,n4,c4,rfl,o4,b5⟩;replace aj:=zH (aj.out.called b5 o4);clear b5 o4;have hs:=zH aj.out.b;refine bk hK hs fun ah=>?_
  clear hK K;refine ak 7 rfl ?_;refine aC 8 rfl fun K hK=>?_
  refine tO (f2:=f) aj 0 ?_;clear aj;intro wq aj;simp only[lS] at aj;have hs:=zH aj.out.b;refine bk hK hs fun ah=>?_
  clear hK K;refine ak 9 rfl ?_;refine bW ?_
  all_goals
   go_wp2_with fail;exact iR results240 (aj.out.blk 0 rfl) ⟨A4,n4,c4,rfl,aj.out.own 0 rfl,aj.out.b⟩
end
section
theorem TT(x:mG)(hf:Mt.Fit x)(b:Nat)(hb:b<18446744073709551616)(w:World):
  Calls prog 241 #[.agg #[.int .i64 x.n,.int .u64 (x.s:Int),.int .u64 (x.l:Int),.int .u64 (x.m:Int)],.int .u64 (b:Int)] w (QH (Mt.ad x b) (Mt.Lr x) w):=by
 obtain⟨n,s,l,m⟩:=x;have HM:=zH (fun W=>vG ⟨n,s,l,m⟩ hf W);have hfn:n≤9223372036854775807:=hf.1;have Cq:=zH (fun W=>iH b W hb);have HK:=kX w 61 (mC n s l m) 61 (mC 0 0 0 0);unfold cZ QH at *
 by_cases hok:Mt.Ok ⟨n,s,l,m⟩
 case neg=>
  rw[Mt.Wm hok,Mt.NK hok];rw[decide_eq_false hok] at HM;clear hok hf hfn Cq;exact aew
 case pos=>
 rw[decide_eq_true hok] at HM;by_cases hmx:n=9223372036854775807
 ·rw[Mt.FH hok hmx,Mt.Jf hok hmx]
  clear hok hf hfn Cq;subst hmx;exact aew
 have hne:(n==9223372036854775807)=false:=by rw[beq_eq_false_iff_ne];exact hmx
 rw[Mt.NJ hok hmx];by_cases h0:n=0
 ·rw[Mt.BJ hok h0]
  clear hok hf hfn hmx;subst h0;generalize Num.M b=t at *
  go_enter func241,ntmps241;go_wp2_with refine zX (bB HK 0) ?_;refine cb (HM.out _) HK ?_;clear HK;intro _ HK;go_wp2_with (first|refine zX (bB HK 0) ?_|(refine jZ HK 1 ?_;clear HK;intro _ HK;simp only[lS] at HK)|refine zX (bX HK 0) ?_);refine(Cq.out _).mono ?_;rintro e w1 ⟨rfl,rfl⟩;go_wp2_with (first|refine zX (bX HK 0) ?_|(refine jZ HK 1 ?_;clear HK;intro _ HK;simp only[lS] at HK));exact aeh
 ·have hz:(n==0)=false:=by rw[beq_eq_false_iff_ne];exact h0
  rw[Mt.xw hok hmx h0]
  have HW:Hid (IntKind.i64.wrap (n+1)=n+1):=zH (by
   have hp:0≤n:=Mt.TP hok
   rw[IntKind.wrap_i64];omega)
  have hs:=hf.2.1;have hl:=hf.2.2.1;have hm:=hf.2.2.2;have hb2:=Num.qA hb;have HA:=zH (fun W=>QA s (Num.M b) W hs hb2);have HL:=zH (fun W=>PU l (Num.M b) W hl hb2);have HG:=zH (fun W=>TS m (Num.M b) W hm hb2);clear hok hf hfn hmx h0 hs hl hm hb2;generalize Num.M b=t at *
  generalize Num.S s t=s2 at *
  generalize least l t=l2 at *
  generalize most m t=m2 at *
  go_enter func241,ntmps241;go_wp2_with refine zX (bB HK 0) ?_;refine cb (HM.out _) HK ?_;clear HK;intro _ HK;go_wp2_with (first|refine zX (bB HK 0) ?_|(refine jZ HK 1 ?_;clear HK;intro _ HK;simp only[lS] at HK)|refine zX (bX HK 0) ?_);refine(Cq.out _).mono ?_;rintro e w1 ⟨rfl,rfl⟩;go_wp2_with refine zX (bX HK 0) ?_;have aj:=zH HK.out.drew;clear HK;refine zR (aj.out.aA 1) fun ah=>?_
  refine ak 0 rfl ?_;refine ak 1 rfl ?_ fun _ s=>bX s 0
  refine ak 2 rfl ?_ fun _ s=>Bq _ HW.out
  refine ak 3 rfl ?_;refine ak 4 rfl ?_ fun _ s=>fQ s 0
  refine ak 5 rfl ?_;refine ak 7 rfl ?_;refine ak 8 rfl ?_ fun _ s=>fZ s 0
  refine ak 9 rfl ?_;refine ak 11 rfl ?_;refine ak 12 rfl ?_ fun _ s=>gV s 0
  refine ak 13 rfl ?_;refine aC 6 rfl fun K hK=>?_
  go_simp;go_at_call 266;refine(HA.out _).mono ?_;rintro e w5 ⟨rfl,b5⟩;have hs:=zH (ah.out.call b5);replace aj:=zH (aj.out.call b5);clear b5;refine bk hK hs fun ah=>?_
  clear hK K;refine aC 10 rfl fun K hK=>?_
  go_simp;go_at_call 267;refine(HL.out _).mono ?_;rintro e w5 ⟨rfl,rfl⟩;have hs:=ah;refine bk hK hs fun ah=>?_
  clear hK K;refine aC 14 rfl fun K hK=>?_
  go_simp;go_at_call 268;refine(HG.out _).mono ?_;rintro e w5 ⟨rfl,rfl⟩;have hs:=ah;refine bk hK hs fun ah=>?_
  clear hK K;refine ak 15 rfl ?_;refine aC 16 rfl fun K hK=>?_
  refine LX aj 1 ?_;clear aj;intro w6 aj;simp only[lS] at aj;have hs:=zH (aj.out.aA 1);refine bk hK hs fun ah=>?_
  clear hK K;refine ak 17 rfl ?_;refine bW ?_
  all_goals
   have HK:=aj;clear aj ah;go_wp2_with fail;exact aeh
end
section
theorem PG(x:mG)(hf:Mt.Fit x)(q:Int)(w:World):
  Calls prog 242 #[.agg #[.int .i64 x.n,.int .u64 (x.s:Int),.int .u64 (x.l:Int),.int .u64 (x.m:Int)],.int .i64 q] w (QF (Mt.rd x q) w):=by
 obtain⟨n,s,l,m⟩:=x;have HM:=zH (fun W=>vG ⟨n,s,l,m⟩ hf W);have HT:=zH (fun W=>LU n s l m W);unfold VR at HT;have HK:=kX w 61 (mC n s l m) 26 (vC 0 0 0 ⟨#[]⟩);clear hf;unfold cZ QF at *
 by_cases hok:Mt.Ok ⟨n,s,l,m⟩
 case neg=>
  rw[Mt.xS (.inl hok)];rw[decide_eq_false hok] at HM;clear hok;exact Xl
 case pos=>
 rw[decide_eq_true hok] at HM;by_cases hlo:q<0
 ·rw[Mt.xS (.inr (.inl hlo))]
  clear hok;exact Xl
 by_cases hhi:3<q
 ·rw[Mt.xS (.inr (.inr hhi))]
  have hhi2:4≤q:=by omega
  clear hok;exact Xl
 by_cases hq0:q=0
 ·subst hq0
  rw[Mt.afh hok];have hix:=acP n s l m;clear hok hlo hhi;dsimp only;by_cases h0:(n==0)=true
  ·go_enter func242,ntmps242
   go_wp2_with refine zX (bB HK 0) ?_;refine cb (HM.out _) HK ?_;clear HK;intro _ HK;go_wp2_with (first|refine zX (bX HK 0) ?_|refine zX (bB HK 0) ?_|(refine aM (f2:=0) HK 1 ?_;clear HK;intro _ HK;simp only[lS] at HK));refine cb (HT.out _) HK ?_;clear HK;intro _ HK;go_wp2_with (refine aM (f2:=0) HK 1 ?_;clear HK;intro _ HK;simp only[lS] at HK);exact Ri
  ·have h0:(n==0)=false:=Bool.eq_false_iff.2 h0
   go_enter func242,ntmps242;go_wp2_with refine zX (bB HK 0) ?_;refine cb (HM.out _) HK ?_;clear HK;intro _ HK;go_wp2_with (first|refine zX (bX HK 0) ?_|refine zX (bB HK 0) ?_|(refine aM (f2:=0) HK 1 ?_;clear HK;intro _ HK;simp only[lS] at HK));refine cb (HT.out _) HK ?_;clear HK;intro _ HK;go_wp2_with (refine aM (f2:=0) HK 1 ?_;clear HK;intro _ HK;simp only[lS] at HK);exact Ri
 have hq1:(q==0)=false:=by rw[beq_eq_false_iff_ne];exact hq0
 have hq2:¬4≤q:=by omega
 by_cases hn:n=0
 ·rw[Mt.aar hok (by omega) (by omega) hq0 hn]
  subst hn;clear hok hq0;exact Xl
 have h0:(n==0)=false:=by rw[beq_eq_false_iff_ne];exact hn
 have hcase:q=1∨q=2∨q=3:=by omega
 clear hlo hhi hq0 hq1 hq2
 rcases hcase with rfl|rfl|rfl
 ·rw[Mt.afg hok hn]
  have hix:=acO n s l m;clear hok hn;dsimp only;go_enter func242,ntmps242;go_wp2_with refine zX (bB HK 0) ?_;refine cb (HM.out _) HK ?_;clear HK;intro _ HK;go_wp2_with (first|refine zX (bX HK 0) ?_|refine zX (bB HK 0) ?_|(refine aM (f2:=s) HK 1 ?_;clear HK;intro _ HK;simp only[lS] at HK));refine cb (HT.out _) HK ?_;clear HK;intro _ HK;go_wp2_with (refine aM (f2:=s) HK 1 ?_;clear HK;intro _ HK;simp only[lS] at HK);exact Ri
 ·rw[Mt.aff hok hn]
  have hix:=acN n s l m;clear hok hn;dsimp only;go_enter func242,ntmps242;go_wp2_with refine zX (bB HK 0) ?_;refine cb (HM.out _) HK ?_;clear HK;intro _ HK;go_wp2_with (first|refine zX (bX HK 0) ?_|refine zX (bB HK 0) ?_|(refine aM (f2:=l) HK 1 ?_;clear HK;intro _ HK;simp only[lS] at HK));refine cb (HT.out _) HK ?_;clear HK;intro _ HK;go_wp2_with (refine aM (f2:=l) HK 1 ?_;clear HK;intro _ HK;simp only[lS] at HK);exact Ri
 ·rw[Mt.afe hok hn]
  have hix:=acM n s l m;clear hok hn;dsimp only;go_enter func242,ntmps242;go_wp2_with refine zX (bB HK 0) ?_;refine cb (HM.out _) HK ?_;clear HK;intro _ HK;go_wp2_with (first|refine zX (bX HK 0) ?_|refine zX (bB HK 0) ?_|(refine aM (f2:=m) HK 1 ?_;clear HK;intro _ HK;simp only[lS] at HK));refine cb (HT.out _) HK ?_;clear HK;intro _ HK;go_wp2_with (refine aM (f2:=m) HK 1 ?_;clear HK;intro _ HK;simp only[lS] at HK);exact Ri
end
end Go.Proofs.YtieoeendnccafaaGreat
