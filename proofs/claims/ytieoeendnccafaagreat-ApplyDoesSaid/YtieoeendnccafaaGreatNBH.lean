/- What the document's own Read returns. No condition but those named. -/
import Derived.Test.YtieoeendnccafaaGreatNBG
set_option linter.unusedSimpArgs false
set_option linter.unusedVariables false
set_option maxRecDepth 100000
set_option maxHeartbeats 25600000
open Go.RowKit
namespace Go.Proofs.YtieoeendnccafaaGreat
open _root_.Go.Proofs.Tryz
section
def Ji(A:Option Addr)(n c:Nat)(l r:List aK.Pr)(x:Int)(w:World)(e:Ending)(w':World):Prop:=∃A' n' c',e=.returned (.tuple #[.slice A' n' c',.int .i64 x])∧(bO.Own w.heap.size w' (.slice A' n' c') r∨(A'=A∧n'=n∧c'=c∧r=l))∧Below w.heap.size w w'
theorem TA{A:Option Addr}{n c:Nat}{l:List aK.Pr}{x:Int}{w w':World}(hb:Below w.heap.size w w'):Ji A n c l l x w (.returned (.tuple #[.slice A n c,.int .i64 x])) w':=⟨A,n,c,rfl,.inr ⟨rfl,rfl,rfl,rfl⟩,hb⟩
theorem XG{A A':Option Addr}{n c n' c':Nat}{l r r':List aK.Pr}{x:Int}{w w':World}(ho:bO.Own w.heap.size w' (.slice A' n' c') r')(hb:Below w.heap.size w w')(he:r'=r:=by rw[HLd.out]<;>simp):Ji A n c l r x w (.returned (.tuple #[.slice A' n' c',.int .i64 x])) w':=⟨A',n',c',rfl,.inl (he▸ho),hb⟩
theorem Gj(A:Option Addr)(c n:Nat)(l:List aK.Pr)(key:ByteArray)(v:Val.V)(w:World)(hs:Sl w A n c l)(hv:v.f<18446744073709551616):
  Calls prog 199 #[.slice A n c,.string key,vv v] w (Ji A n c l (aK.uL l key v) (aK.rT l key v) w):=by
 have HM:=zH (fun W (hW:Below w.heap.size w W)=>vw A c n l W (hs.later hW));have HC:=zH (fun W=>bR v W hv);have HW:=zH (fun W (hW:Below w.heap.size w W)=>Ew A c n l key W (hs.later hW));by_cases hr:aK.Right l
 case neg=>
  obtain⟨e1,e2⟩:=aK.Tn hr key v;rw[decide_eq_false hr] at HM;rw[e1,e2];clear e1 e2 hr hs hv HC HW;obtain⟨k,m,f,s⟩:=v;unfold vv cZ at *
  simp only;have HK:=iK w 26 (vC k m f s);unfold vC at HK;go_enter func199,ntmps199;go_wp2_with fail;refine cb (HM.out _ HK.out.b) HK ?_;clear HK;intro _ HK;go_wp2_with fail;exact QY
 case pos=>
 rw[decide_eq_true hr] at HM
 have qV:Hid (∀x,aK.ji key v=x→¬x=0→aK.rT l key v=x∧aK.uL l key v=l):=zH fun x hx h=>by
  subst hx;exact aK.KD hr h
 have iw:Hid (aK.ji key v=0→((aK.wo l key).length=8→aK.rT l key v=6∧aK.uL l key v=l)∧(¬(aK.wo l key).length=8→aK.rT l key v=0∧aK.uL l key v=(aK.wo l key).take (aK.idx (aK.wo l key) key)++[⟨key,v⟩]++(aK.wo l key).drop (aK.idx (aK.wo l key) key))):=zH fun h=>by
  have h8:=(aK.pU hr key).len;refine⟨fun h2=>aK.Mh hr h (by omega),fun h2=>?_⟩;rw[aK.acQ hr.up];exact aK.aas hr h (by omega)
 have HFL:Hid (Fit (aK.wo l key)):=zH (hs.fit.wo key);have LB:Hid (aK.ji key v=if v.k=0 then 1 else if 64<key.size then 2 else Val.bG v):=zH rfl;have hl8:=(aK.pU hr key).len;have afF:=aK.nR (aK.wo l key) key;have HB:Hid (∀k x,k<aK.idx (aK.wo l key) key→(aK.wo l key)[k]?=some x→aK.lt x.key key=true):=zH fun k x hk hx=>aK.sQ hk hx
 have HA:Hid (∀x,(aK.wo l key)[aK.idx (aK.wo l key) key]?=some x→aK.lt x.key key=false):=zH fun x hx=>aK.sS hx
 clear hr hs hv;generalize aK.rT l key v=X at *
 generalize aK.uL l key v=r at *
 generalize aK.wo l key=left at *
 generalize aK.idx left key=p at *
 generalize aK.ji key v=z at *
 generalize Val.bG v=zc at *
 obtain⟨k,m,f,s⟩:=v;unfold vv gX cZ IsL at *
 simp only at HC LB ⊢;have HK:=iK w 26 (vC k m f s);unfold vC at HK;go_enter func199,ntmps199;go_wp2_with fail;refine cb (HM.out _ HK.out.b) HK ?_;clear HK;intro _ HK;by_cases hk:k=0
 ·have hz:=LB.out
  rw[if_pos hk] at hz;obtain⟨rfl,rfl⟩:=qV.out 1 hz (by decide);clear qV iw LB hz;subst hk;go_wp2_with refine au (aV HK 3 _ (by rfl) 0 (by rfl) (by rfl) (v:=.int .i64 0) underlying3) ?_;exact QY
 have hz:=LB.out;rw[if_neg hk] at hz;clear LB;have hk2:(k==0)=false:=by simpa using hk
 by_cases h64:64<key.size
 ·rw[if_pos h64] at hz
  obtain⟨rfl,rfl⟩:=qV.out 2 hz (by decide);have acY:64<(key.size:Int):=by omega
  clear qV iw hz;go_wp2_with refine au (aV HK 3 _ (by rfl) 0 (by rfl) (by rfl) (v:=.int .i64 k) underlying3) ?_;exact QY
 have acY:¬64<(key.size:Int):=by omega
 rw[if_neg h64] at hz;go_wp2_with (first|refine au (aV HK 3 _ (by rfl) 0 (by rfl) (by rfl) (v:=.int .i64 k) underlying3) ?_|refine au (bq HK 0) ?_);refine(HC.out _).mono ?_;rintro e w1 ⟨rfl,b1⟩;replace HK:=iy HK b1;clear b1 HC;by_cases hzc:zc=0
 case neg=>
  obtain⟨rfl,rfl⟩:=qV.out _ hz hzc;have hz2:(X != 0)=true:=by simpa using hzc
  clear qV iw hz;go_wp2_with fail;exact QY
 case pos=>
 obtain⟨hfull,hok⟩:=iw.out (hz.trans hzc);subst hzc;clear qV iw hz HM;go_wp2_with fail;refine(HW.out _ HK.out.b).mono ?_;rintro e w1 ⟨AL,nL,cL,rfl,oL,b1⟩;replace HK:=zH (HK.out.called b1 oL);have hnL:=(Lay.Own.reads oL).1;simp only[aJ] at HK;clear b1 oL HW;rw[← hnL] at hfull hok afF hl8;have HNL:=zH hnL;clear hnL;by_cases h8:nL=8
 ·obtain⟨rfl,rfl⟩:=hfull h8
  subst h8;clear hok hfull;go_wp2_with fail;exact QY
 obtain⟨rfl,rfl⟩:=hok h8;have h82:((nL:Int)==8)=false:=by simp;omega
 clear hok hfull;have Ef:Hid (∀k,k≤p→(left.take k).length=k):=zH fun k hk=>by rw[List.length_take,← HNL.out];omega
 have HG:Hid (∀k,k<nL→∃x,left[k]?=some x):=zH fun k hk=>Lay.fI (l:=left) (k:=k) (by rw[← HNL.out];exact hk)
 replace HK:=zH (HK.out.wE bO);simp only[aO,aJ] at HK;go_wp2_with fail;go_loopw [10,11] (fun vs vi wr=>∃(q:Nat) (A1:Option Addr) (c1:Nat),q≤p∧vs=.slice A1 q c1∧vi=.int .i64 q∧Hid (Kn w.heap.size w wr [(w.heap.size,26,#[.int .i64 k,.int .i64 m,.int .u64 (f:Int),.string s])] [row bO (.slice AL nL cL) left,row bO (.slice A1 q c1) (left.take q)])) (fun _ vi _=>p+1-(intOf vi).toNat)
 case atStart=>exact⟨0,_,_,Nat.zero_le _,rfl,rfl,HK⟩
 case round=>
  clear HK;obtain⟨q,A1,c1,hq,rfl,rfl,HK⟩:=hrel;have hq1:(0:Int)≤(q:Int):=by omega
  have LA:=zH (Sl.own (HK.out.own 0 rfl) HFL.out);by_cases hlt:q<p
  ·have hqn:q<nL:=by omega
   have hq2:(q:Int)<(nL:Int):=by omega
   have hq3:q<9223372036854775807:=by omega
   obtain⟨x,hx⟩:=HG.out q hqn;obtain⟨b,o,rfl,hat⟩:=LA.out.at (Nat.lt_of_le_of_lt (Nat.zero_le _) hqn);have HX:=zH (hat wr (Below.refl _ wr) q x hx);have HLt:=zH (HB.out q x hlt hx);have HE:=zH (Lay.take_succ hx);have hln:=Ef.out q hq
   have HL:Hid ((left.take q).length+[x].length≤9223372036854775807∧((left.take q).length+[x].length)*bO.bytes≤211106232532992):=zH (by
    rw[hln]
    show q+1≤_∧(q+1)*56≤_
    omega)
   have fB:Hid ((left.take q++[x]).length=q+1):=zH (by rw[List.length_append,hln];rfl);clear hat hx hln LA HA;go_wp2_with (first|refine au (eG (off:=o+q*5) HX.out) ?_|refine au (jQ HLt.out) ?_|refine au (aL (j:=q) hq3) ?_|refine au (v:=.agg (yZ x)) (nV (off:=o+q*5) HX.out) ?_|(refine nu (p:=x) HK ?_;intro w2 g2 dY;simp only[aO,aJ] at dY;have HR:=zH (EI (dY.out.own 2 rfl));replace HK:=dY;clear dY)|(at_builtin;refine aX HK bO 1 [x] rfl HR HL (N:=q+1) fB ?_;clear HK;intro A4 c4 _ HK;simp only[lS] at HK));exact⟨⟨q+1,A4,c4,hlt,rfl,rfl,by rw[HE.out];exact zH (HK.out.ay 2)⟩,by simp[intOf];omega⟩
  ·obtain rfl:q=p:=by omega
   have hpn:q≤nL:=afF;have hln:=Ef.out q hq;have hld:(left.drop q).take (nL-q)=left.drop q:=List.take_of_length_le (by rw[List.length_drop,← HNL.out];exact Nat.le_refl _);have acV:(left.drop q).length=nL-q:=by rw[List.length_drop,← HNL.out]
   have WX:Hid ((left.take q).length+[(⟨key,⟨k,m,f,s⟩⟩:aK.Pr)].length≤9223372036854775807∧((left.take q).length+[(⟨key,⟨k,m,f,s⟩⟩:aK.Pr)].length)*bO.bytes≤211106232532992):=zH (by
    rw[hln]
    show q+1≤_∧(q+1)*56≤_
    omega)
   have lJ:Hid ((left.take q++[(⟨key,⟨k,m,f,s⟩⟩:aK.Pr)]).length=q+1):=zH (by rw[List.length_append,hln];rfl)
   have HL2:Hid ((left.take q++[(⟨key,⟨k,m,f,s⟩⟩:aK.Pr)]).length+((left.drop q).take (nL-q)).length≤9223372036854775807∧((left.take q++[(⟨key,⟨k,m,f,s⟩⟩:aK.Pr)]).length+((left.drop q).take (nL-q)).length)*bO.bytes≤211106232532992):=zH (by
    rw[lJ.out,hld,acV]
    show q+1+(nL-q)≤_∧(q+1+(nL-q))*56≤_
    omega)
   have vQ:Hid ((left.take q++[(⟨key,⟨k,m,f,s⟩⟩:aK.Pr)]++(left.drop q).take (nL-q)).length=q+1+(nL-q)):=zH (by rw[List.length_append,lJ.out,hld,acV]);have HLd:=zH hld;clear hln hld acV;by_cases hqn:q<nL
   ·have hq2:(q:Int)<(nL:Int):=by omega
    obtain⟨x,hx⟩:=HG.out q hqn;obtain⟨b,o,rfl,hat⟩:=LA.out.at (Nat.lt_of_le_of_lt (Nat.zero_le _) hqn);have HX:=zH (hat wr (Below.refl _ wr) q x hx);have HLt:=zH (HA.out x hx);clear hat hx LA HB;go_wp2_with (first|refine au (eG (off:=o+q*5) HX.out) ?_|refine au (jQ HLt.out) ?_|refine au (bq HK 0) ?_|(refine nu (p:=⟨key,⟨k,m,f,s⟩⟩) HK ?_;intro w2 g2 dY;simp only[aO,aJ] at dY;have HR:=zH (EI (dY.out.own 2 rfl));replace HK:=dY;clear dY)|(at_builtin;refine aX HK bO 1 [⟨key,⟨k,m,f,s⟩⟩] rfl HR WX (N:=q+1) lJ ?_;intro A4 c4 w4 dY;simp only[lS] at dY;have HS2:=zH ((Sl.own (dY.out.own 0 rfl) HFL.out).sub hpn (Nat.le_refl _));have HR2:=zH (And.intro HS2.out.rd HS2.out.nl);replace HK:=dY;clear dY HR)|refine au (uo (lo:=q) hpn) ?_|(at_builtin;refine aX HK bO 1 ((left.drop q).take (nL-q)) HS2.out.len.symm HR2 HL2 (N:=q+1+(nL-q)) vQ ?_;clear HK;intro A5 c5 w5 HK;simp only[lS] at HK));exact Zt
   ·have hq2:¬(q:Int)<(nL:Int):=by omega
    clear LA HB;go_wp2_with (first|refine au (bq HK 0) ?_|(refine nu (p:=⟨key,⟨k,m,f,s⟩⟩) HK ?_;intro w2 g2 dY;simp only[aO,aJ] at dY;have HR:=zH (EI (dY.out.own 2 rfl));replace HK:=dY;clear dY)|(at_builtin;refine aX HK bO 1 [⟨key,⟨k,m,f,s⟩⟩] rfl HR WX (N:=q+1) lJ ?_;intro A4 c4 w4 dY;simp only[lS] at dY;have HS2:=zH ((Sl.own (dY.out.own 0 rfl) HFL.out).sub hpn (Nat.le_refl _));have HR2:=zH (And.intro HS2.out.rd HS2.out.nl);replace HK:=dY;clear dY HR)|refine au (uo (lo:=q) hpn) ?_|(at_builtin;refine aX HK bO 1 ((left.drop q).take (nL-q)) HS2.out.len.symm HR2 HL2 (N:=q+1+(nL-q)) vQ ?_;clear HK;intro A5 c5 w5 HK;simp only[lS] at HK));exact Zt
end
section
def yD(A:Option Addr)(n c:Nat)(l r:List aK.Pr)(v:Val.V)(x:Int)(w:World)(e:Ending)(w':World):Prop:=∃A' n' c',e=.returned (.tuple #[.slice A' n' c',vv v,.int .i64 x])∧(bO.Own w.heap.size w' (.slice A' n' c') r∨(A'=A∧n'=n∧c'=c∧r=l))∧Below w.heap.size w w'
theorem xU{A:Option Addr}{n c:Nat}{l:List aK.Pr}{k m:Int}{f:Nat}{s:ByteArray}{x:Int}{w w':World}(hb:Below w.heap.size w w'):yD A n c l l ⟨k,m,f,s⟩ x w (.returned (.tuple #[.slice A n c,.agg #[.int .i64 k,.int .i64 m,.int .u64 (f:Int),.string s],.int .i64 x])) w':=⟨A,n,c,rfl,.inr ⟨rfl,rfl,rfl,rfl⟩,hb⟩
theorem Gy{A A':Option Addr}{n c n' c':Nat}{l r:List aK.Pr}{k m:Int}{f:Nat}{s:ByteArray}{x:Int}{w w':World}(ho:bO.Own w.heap.size w' (.slice A' n' c') r)(hb:Below w.heap.size w w'):yD A n c l r ⟨k,m,f,s⟩ x w (.returned (.tuple #[.slice A' n' c',.agg #[.int .i64 k,.int .i64 m,.int .u64 (f:Int),.string s],.int .i64 x])) w':=⟨A',n',c',rfl,.inl ho,hb⟩
theorem Te(A:Option Addr)(c n:Nat)(l:List aK.Pr)(key:ByteArray)(w:World)(hs:Sl w A n c l):
  Calls prog 200 #[.slice A n c,.string key] w (yD A n c l (aK.Qo l key) (aK.pK l key) (aK.pE l key) w):=by
 have HG:=zH (fun W (hW:Below w.heap.size w W)=>Am A c n l key W (hs.later hW));have HW:=zH (fun W (hW:Below w.heap.size w W)=>Ew A c n l key W (hs.later hW));unfold aK.Qo;by_cases hz:aK.pE l key=0
 ·rw[if_pos hz]
  rw[hz] at HG ⊢;clear hz hs;generalize aK.pK l key=v at *
  generalize aK.wo l key=r at *
  obtain⟨k,m,f,s⟩:=v;unfold qU vv at *
  simp only at HG;have HK:=zH (Kn.start w);go_enter func200,ntmps200;go_wp2_with (refine aN HK ?_;clear HK;intro _ g1 HK;simp only[aO,aJ] at HK);refine cb (HG.out _ HK.out.b) HK ?_;clear HK;intro _ HK;go_wp2_with (first|(refine aN HK ?_;clear HK;intro _ g2 HK;simp only[aO,aJ] at HK)|(refine aM (f2:=f) HK 1 ?_;clear HK;intro _ HK;simp only[lS] at HK));have aj:=zH HK.out.drew;clear HG;refine zR (HK.out.drew.aI 1) fun ah=>?_
  refine ak 0 rfl ?_;refine ak 1 rfl ?_;refine ak 3 rfl ?_ fun _ s=>bq s 0
  refine aC 2 rfl fun K hK=>?_
  go_simp;go_at_call 246;refine(HW.out _ ah.out.b).mono ?_;rintro e w5 ⟨A4,n4,c4,rfl,o4,b5⟩;have hs:=zH (ah.out.call b5);replace aj:=zH (aj.out.called b5 o4);clear b5 o4;refine bk hK hs fun ah=>?_
  clear hK K;refine ak 4 rfl ?_;refine aC 5 rfl fun K hK=>?_
  refine tO (f2:=f) aj 0 ?_;clear aj;intro wq aj;simp only[lS] at aj;have hs:=zH ((aj.out.aI 1).ay 0);refine bk hK hs fun ah=>?_
  clear hK K;refine ak 6 rfl ?_;refine bW ?_
  all_goals
   go_wp2_with fail;exact iR results200 (aj.out.blk 0 rfl) (Gy (aj.out.own 0 rfl) aj.out.b)
 ·rw[if_neg hz]
  have hv:=aK.aaG hz;rw[hv] at HG ⊢;generalize aK.pE l key=X at *
  have hz2:(X != 0)=true:=by simpa using hz
  clear hv hs HW;unfold qU vv aK.emp at *
  simp only at HG;have HK:=zH (Kn.start w);go_enter func200,ntmps200;go_wp2_with (refine aN HK ?_;clear HK;intro _ g1 HK;simp only[aO,aJ] at HK);refine cb (HG.out _ HK.out.b) HK ?_;clear HK;intro _ HK;go_wp2_with (first|(refine aN HK ?_;clear HK;intro _ g2 HK;simp only[aO,aJ] at HK)|(refine aM (f2:=0) HK 1 ?_;clear HK;intro _ HK;simp only[lS] at HK)|(refine aM (f2:=0) HK 0 ?_;clear HK;intro _ HK;simp only[lS] at HK));exact iR results200 (HK.out.blk 0 rfl) (xU HK.out.b)
theorem OG(A:Option Addr)(c n:Nat)(l:List aK.Pr)(key:ByteArray)(o v:Val.V)(w:World)(hs:Sl w A n c l)(hv:v.f<18446744073709551616):
  Calls prog 201 #[.slice A n c,.string key,vv o,vv v] w (yD A n c l (aK.FP l key o v) (aK.Jo l key o) (aK.Ah l key o v) w):=by
 have HG:=zH (fun W (hW:Below w.heap.size w W)=>Am A c n l key W (hs.later hW));by_cases hr:aK.Right l
 case neg=>
  obtain⟨e1,e2,e3⟩:=aK.JY hr key o v;obtain⟨g1,g2⟩:=aK.Bd hr key;rw[g1,g2] at HG;rw[e1,e2,e3];clear e1 e2 e3 g1 g2 hr hs;obtain⟨ok,om,of,os⟩:=o;obtain⟨vk,vm,vf,vs⟩:=v;unfold qU vv aK.emp at *
  simp only at HG;have HK:=kX w 26 (vC ok om of os) 26 (vC vk vm vf vs);unfold vC at HK;go_enter func201,ntmps201;go_wp2_with (refine aN HK ?_;clear HK;intro _ ga HK;simp only[aO,aJ] at HK);refine cb (HG.out _ HK.out.b) HK ?_;clear HK;intro _ HK;go_wp2_with (first|(refine aN HK ?_;clear HK;intro _ gb HK;simp only[aO,aJ] at HK)|(refine aM (f2:=0) HK 3 ?_;clear HK;intro _ HK;simp only[lS] at HK)|(refine aM (f2:=0) HK 2 ?_;clear HK;intro _ HK;simp only[lS] at HK));exact Rv
 case pos=>
 have hnb:=aK.aaH hr key;by_cases ho:aK.pK l key=o
 case neg=>
  obtain⟨e1,e2,e3⟩:=aK.xK hr v ho;rw[e1,e2,e3];clear e1 e2 e3 hr hs;generalize aK.pK l key=t at *
  generalize aK.pE l key=X at *
  have hne:=zH (show(!decide (t=o))=true by rw[decide_eq_false ho];rfl);clear ho;have hx2:(X==1)=false:=by simpa using hnb
  obtain⟨ok,om,of,os⟩:=o;obtain⟨vk,vm,vf,vs⟩:=v;obtain⟨tk,tm,tf,ts⟩:=t;unfold qU vv at *
  simp only at HG;have HK:=kX w 26 (vC ok om of os) 26 (vC vk vm vf vs);unfold vC at HK;go_enter func201,ntmps201;go_wp2_with (refine aN HK ?_;clear HK;intro _ ga HK;simp only[aO,aJ] at HK);refine cb (HG.out _ HK.out.b) HK ?_;clear HK;intro _ HK;go_wp2_with (first|(refine aN HK ?_;clear HK;intro _ gb HK;simp only[aO,aJ] at HK)|(refine aM (f2:=tf) HK 3 ?_;clear HK;intro _ HK;simp only[lS] at HK)|refine au (bq HK 3) ?_|refine au (bq HK 0) ?_|refine au (jF (v:=⟨tk,tm,tf,ts⟩) (u:=⟨ok,om,of,os⟩) hne.out) ?_);have aj:=zH HK.out.drew;refine zR (HK.out.drew.aI 3) fun ah=>?_
  refine ak 0 rfl ?_;refine ak 1 rfl ?_ fun _ s=>bq s 0
  refine ak 2 rfl ?_;refine aC 3 rfl fun K hK=>?_
  refine tO (f2:=tf) aj 2 ?_;clear aj;intro wq aj;simp only[lS] at aj;have hs:=zH ((aj.out.aI 3).ay 0);refine bk hK hs fun ah=>?_
  clear hK K;refine ak 4 rfl ?_;refine bW ?_
  all_goals
   go_wp2_with fail;exact iR results201 (aj.out.blk 2 rfl) (xU aj.out.b)
 case pos=>
 by_cases KS:v=aK.emp
 case pos=>
  obtain⟨e1,e2,e3⟩:=aK.JX hr ho;have HW:=zH (fun W (hW:Below w.heap.size w W)=>Ew A c n l key W (hs.later hW));rw[KS,e1,e2,e3];rw[ho] at HG;clear e1 e2 e3 hr hs ho;generalize aK.pE l key=X at *
  generalize aK.wo l key=r at *
  have hne:=zH (show(!decide (o=o))=false by simp);have KR:=zH (show(!decide ((⟨0,0,0,⟨#[]⟩⟩:Val.V)=⟨0,0,0,⟨#[]⟩⟩))=false by simp);clear KS;have hx2:(X==1)=false:=by simpa using hnb
  obtain⟨ok,om,of,os⟩:=o;unfold qU IsL vv aK.emp at *
  simp only at HG;have HK:=kX w 26 (vC ok om of os) 26 (vC 0 0 0 ⟨#[]⟩);unfold vC at HK;go_enter func201,ntmps201;go_wp2_with (refine aN HK ?_;clear HK;intro _ ga HK;simp only[aO,aJ] at HK);refine cb (HG.out _ HK.out.b) HK ?_;clear HK;intro _ HK;go_wp2_with (first|(refine aN HK ?_;clear HK;intro _ gb HK;simp only[aO,aJ] at HK)|(refine aM (f2:=of) HK 3 ?_;clear HK;intro _ HK;simp only[lS] at HK)|refine au (bq HK 3) ?_|refine au (bq HK 0) ?_|refine au (bq HK 1) ?_|refine au (aV HK 3 _ (by rfl) 1 (by rfl) (by rfl) (v:=.int .i64 0) underlying3) ?_|refine au (jF (v:=⟨ok,om,of,os⟩) (u:=⟨ok,om,of,os⟩) hne.out) ?_|refine au (jF (v:=⟨0,0,0,⟨#[]⟩⟩) (u:=⟨0,0,0,⟨#[]⟩⟩) KR.out) ?_);refine(HW.out _ HK.out.b).mono ?_;rintro e w3 ⟨A4,n4,c4,rfl,o4,b4⟩;replace HK:=zH (HK.out.called b4 o4);exact aaj
 case neg=>
  obtain⟨e1,e2,e3⟩:=aK.JW hr ho KS;by_cases hk0:v.k=0
  case pos=>
   have hpc:aK.ji key v=1:=if_pos hk0;obtain⟨p1,p2⟩:=aK.KD hr (k:=key) (v:=v) (by rw[hpc];decide);rw[e1,e2,e3,p1,p2,hpc];rw[ho] at HG;clear e1 e2 e3 hr hs ho hv p1 p2 hpc;generalize aK.pE l key=X at *
   have hne:=zH (show(!decide (o=o))=false by simp);have KR:=zH (show(!decide (v=⟨0,0,0,⟨#[]⟩⟩))=true by rw[show decide (v=⟨0,0,0,⟨#[]⟩⟩)=false from decide_eq_false KS];rfl);clear KS;have hx2:(X==1)=false:=by simpa using hnb
   obtain⟨ok,om,of,os⟩:=o;obtain⟨vk,vm,vf,vs⟩:=v;unfold qU vv aK.emp at *
   simp only at HG hk0;subst hk0;have HK:=kX w 26 (vC ok om of os) 26 (vC 0 vm vf vs);unfold vC at HK;go_enter func201,ntmps201;go_wp2_with (refine aN HK ?_;clear HK;intro _ ga HK;simp only[aO,aJ] at HK);refine cb (HG.out _ HK.out.b) HK ?_;clear HK;intro _ HK;go_wp2_with (first|(refine aN HK ?_;clear HK;intro _ gb HK;simp only[aO,aJ] at HK)|(refine aM (f2:=of) HK 3 ?_;clear HK;intro _ HK;simp only[lS] at HK)|refine au (bq HK 3) ?_|refine au (bq HK 0) ?_|refine au (bq HK 1) ?_|refine au (aV HK 3 _ (by rfl) 1 (by rfl) (by rfl) (v:=.int .i64 0) underlying3) ?_|(refine aM (f2:=0) HK 2 ?_;clear HK;intro _ HK;simp only[lS] at HK)|refine au (jF (v:=⟨ok,om,of,os⟩) (u:=⟨ok,om,of,os⟩) hne.out) ?_|refine au (jF (v:=⟨0,vm,vf,vs⟩) (u:=⟨0,0,0,⟨#[]⟩⟩) KR.out) ?_);exact Rv
  case neg=>
   have HP:=zH (fun W (hW:Below w.heap.size w W)=>Gj A c n l key v W (hs.later hW) hv);rw[e1,e2,e3];rw[ho] at HG;clear e1 e2 e3 hr hs ho hv;generalize aK.pE l key=X at *
   generalize aK.rT l key v=y at *
   generalize aK.uL l key v=r at *
   have hne:=zH (show(!decide (o=o))=false by simp);clear KS;have hx2:(X==1)=false:=by simpa using hnb
   obtain⟨ok,om,of,os⟩:=o;obtain⟨vk,vm,vf,vs⟩:=v;unfold qU Ji vv aK.emp at *
   simp only at HG HP hk0;have ahx:(vk==0)=false:=by simpa using hk0
   have HK:=kX w 26 (vC ok om of os) 26 (vC vk vm vf vs);unfold vC at HK;go_enter func201,ntmps201;go_wp2_with (refine aN HK ?_;clear HK;intro _ ga HK;simp only[aO,aJ] at HK);refine cb (HG.out _ HK.out.b) HK ?_;clear HK;intro _ HK;go_wp2_with (first|(refine aN HK ?_;clear HK;intro _ gb HK;simp only[aO,aJ] at HK)|(refine aM (f2:=of) HK 3 ?_;clear HK;intro _ HK;simp only[lS] at HK)|refine au (bq HK 3) ?_|refine au (bq HK 0) ?_|refine au (bq HK 1) ?_|refine au (aV HK 3 _ (by rfl) 1 (by rfl) (by rfl) (v:=.int .i64 vk) underlying3) ?_|refine au (jF (v:=⟨ok,om,of,os⟩) (u:=⟨ok,om,of,os⟩) hne.out) ?_);refine(HP.out _ HK.out.b).mono ?_;rintro e w3 ⟨A4,n4,c4,rfl,o4,b4⟩
   rcases o4 with o4|⟨rfl,rfl,rfl,rfl⟩
   ·replace HK:=zH (HK.out.called b4 o4)
    exact aaj
   ·replace HK:=iy HK b4
    clear b4;go_wp2_with (refine aM (f2:=0) HK 2 ?_;clear HK;intro _ HK;simp only[lS] at HK);exact Rv
end
section
def Wv(A:Option Addr)(n c:Nat)(l r:List Val.V)(x:Int)(w:World)(e:Ending)(w':World):Prop:=∃A' n' c',e=.returned (.tuple #[.slice A' n' c',.int .i64 x])∧uQ bg w.heap.size w' A n c l A' n' c' r∧Below w.heap.size w w'
def Jh(A:Option Addr)(n c:Nat)(l r:List Val.V)(v:Val.V)(x:Int)(w:World)(e:Ending)(w':World):Prop:=∃A' n' c',e=.returned (.tuple #[.slice A' n' c',vv v,.int .i64 x])∧uQ bg w.heap.size w' A n c l A' n' c' r∧Below w.heap.size w w'
theorem Ti{A:Option Addr}{n c:Nat}{l:List Val.V}{x:Int}{w w':World}(hb:Below w.heap.size w w'):Wv A n c l l x w (.returned (.tuple #[.slice A n c,.int .i64 x])) w':=⟨A,n,c,rfl,.inr ⟨rfl,rfl,rfl,rfl⟩,hb⟩
theorem OJ(N:Int)(A:Option Addr)(c n:Nat)(l:List Val.V)(v:Val.V)(w:World)(hs:bJ bg vF w A n c l)(hv:vF v):
  Calls prog 202 #[.int .i64 N,.slice A n c,vv v] w (Wv A n c l (dK.xV N l v) (dK.uM N l v) w):=by
 have HM:=zH (fun W (hW:Below w.heap.size w W)=>su N A c n l W (hs.later hW));have HC:=zH (fun W=>bR v W hv);have HS:=zH hs;have hlen:=hs.len;by_cases hr:dK.Right N l
 case neg=>
  rw[decide_eq_false hr] at HM;obtain⟨e1,e2⟩:=dK.Tq hr v;rw[e1,e2];clear e1 e2 hr hs hv HC hlen;obtain⟨k,m,f,s⟩:=v;unfold vv cZ at *
  simp only;have HK:=iK w 26 (vC k m f s);unfold vC at HK;go_enter func202,ntmps202;go_wp2_with fail;refine cb (HM.out _ HK.out.b) HK ?_;clear HK;intro _ HK;go_wp2_with fail;exact LM
 case pos=>
 rw[decide_eq_true hr] at HM;have h9:n<9:=by have h1:=hr.len;have h2:=hr.hi;omega
 by_cases hkind:v.k=0
 ·have hz:¬dK.jq v=0:=by rw[dK.xH hkind];decide
  obtain⟨e1,e2⟩:=dK.KE hr hz;rw[e1,e2,dK.xH hkind];clear e1 e2 hr hs hv HC hlen hz;obtain⟨k,m,f,s⟩:=v;obtain rfl:k=0:=hkind;unfold vv cZ at *
  simp only;have HK:=iK w 26 (vC 0 m f s);unfold vC at HK;go_enter func202,ntmps202;go_wp2_with fail;refine cb (HM.out _ HK.out.b) HK ?_;clear HK;intro _ HK;go_wp2_with refine au (aV HK 3 _ (by rfl) 0 (by rfl) (by rfl) (v:=.int .i64 0) underlying3) ?_;exact LM
 have hvc:=dK.Cz hkind
 have qV:Hid (¬Val.bG v=0→dK.uM N l v=Val.bG v∧dK.xV N l v=l):=zH fun h=>by
  rw[← hvc] at h ⊢;exact dK.KE hr h
 have mF:Hid (Val.bG v=0→(n:Int)=N→dK.uM N l v=6∧dK.xV N l v=l):=zH fun h h8=>dK.Mi hr (hvc.trans h) (by rw[hlen];exact h8)
 have iw:Hid (Val.bG v=0→¬(n:Int)=N→dK.uM N l v=0∧dK.xV N l v=l++[v]):=zH fun h h8=>dK.aat hr (hvc.trans h) (by rw[hlen];exact h8)
 have gT:=zH hlen.symm;have lJ:Hid ((([]:List Val.V)++l).length=n):=zH (by rw[aJ];exact hlen);have fB:Hid ((l++[v]).length=n+1):=zH (by rw[List.length_append,hlen];rfl);have xE:=fV (La:=bg) lJ (hB:=(by show n*40≤_;omega));have HG2:=fV (La:=bg) fB (hB:=(by show(n+1)*40≤_;omega));clear hs hv hlen hvc hr;generalize dK.uM N l v=X at *
 generalize dK.xV N l v=r at *
 generalize Val.bG v=z at *
 obtain⟨k,m,f,s⟩:=v;have acW:(k==0)=false:=by simpa using hkind
 unfold vv gX cZ at *
 simp only at HC ⊢;clear hkind;have HK:=iK w 26 (vC k m f s);unfold vC at HK;go_enter func202,ntmps202;go_wp2_with fail;refine cb (HM.out _ HK.out.b) HK ?_;clear HK;intro _ HK;go_wp2_with (first|refine au (aV HK 3 _ (by rfl) 0 (by rfl) (by rfl) (v:=.int .i64 k) underlying3) ?_|refine au (bq HK 0) ?_);refine cb (HC.out _) HK ?_;clear HK;intro _ HK;by_cases hz:z=0
 case neg=>
  obtain⟨rfl,rfl⟩:=qV.out hz;have hz2:(X != 0)=true:=by simpa using hz
  clear qV mF iw;go_wp2_with fail;exact LM
 case pos=>
 subst hz;replace mF:=zH (mF.out rfl);replace iw:=zH (iw.out rfl);clear qV;by_cases h8:(n:Int)=N
 ·have h82:((n:Int)==N)=true:=by simpa using h8
  obtain⟨rfl,rfl⟩:=mF.out h8;clear h8 mF iw;go_wp2_with fail;exact LM
 ·have h82:((n:Int)==N)=false:=by simpa using h8
  obtain⟨rfl,rfl⟩:=iw.out h8;clear h8 mF iw HM HC;go_wp2_with fail;have aj:=zH HK.out.drew;refine zR HK.out.drew fun ah=>?_
  refine ak 1 rfl ?_;refine ak 3 rfl ?_ fun _ s=>bq s 0
  refine jr 0 4 rfl rfl (fun K hK=>?_) fun K hK=>?_
  refine kH bg aj ?_;clear aj;intro w2 g2 aj _;simp only[aO,aJ] at aj;have hs:=zH (aj.out.ay 0);refine bk hK hs fun ah=>?_
  clear hK K;refine jr 2 4 rfl rfl (fun K hK=>?_) fun K hK=>?_
  (first|refine aT bg aj 0 l (hn:=gT.out) (zH (let h:=HS.out.later aj.out.b;And.intro h.rd h.nl)) xE (N:=n) lJ ?_|refine aT bg aj 1 l (hn:=gT.out) (zH (let h:=HS.out.later aj.out.b;And.intro h.rd h.nl)) xE (N:=n) lJ ?_);clear aj;intro A4 c4 w4 aj;simp only[List.set,aJ] at aj;have hs:=zH (aj.out.ay 0)
  refine bk hK hs fun ah=>?_
  clear hK K;refine aC 4 rfl fun K hK=>?_
  refine dw bg (p:=⟨k,m,f,s⟩) aj ?_;clear aj;intro w5 g5 aj _;simp only[aO,aJ] at aj;have hs:=zH (aj.out.ay 0);refine bk hK hs fun ah=>?_
  clear hK K;refine aC 5 rfl fun K hK=>?_
  (first|refine aT bg aj 0 [⟨k,m,f,s⟩] (zH (aj.out.own 1 rfl).rd) HG2 (N:=n+1) fB ?_|refine aT bg aj 1 [⟨k,m,f,s⟩] (zH (aj.out.own 0 rfl).rd) HG2 (N:=n+1) fB ?_);clear aj;intro A6 c6 w6 aj;simp only[lS] at aj;have hs:=zH (aj.out.ay 0)
  refine bk hK hs fun ah=>?_
  clear hK K;refine ak 6 rfl ?_;refine ak 7 rfl ?_;refine bW ?_
  rotate_left
  refine dw bg (p:=⟨k,m,f,s⟩) aj ?_;clear aj;intro w5 g5 aj _;simp only[aO,aJ] at aj;have hs:=zH (aj.out.ay 0);refine bk hK hs fun ah=>?_
  clear hK K;refine aC 2 rfl fun K hK=>?_
  (first|refine aT bg aj 0 l (hn:=gT.out) (zH (let h:=HS.out.later aj.out.b;And.intro h.rd h.nl)) xE (N:=n) lJ ?_|refine aT bg aj 1 l (hn:=gT.out) (zH (let h:=HS.out.later aj.out.b;And.intro h.rd h.nl)) xE (N:=n) lJ ?_);clear aj;intro A4 c4 w4 aj;simp only[List.set,aJ] at aj;have hs:=zH (aj.out.ay 0)
  refine bk hK hs fun ah=>?_
  clear hK K;refine aC 5 rfl fun K hK=>?_
  (first|refine aT bg aj 0 [⟨k,m,f,s⟩] (zH (aj.out.own 1 rfl).rd) HG2 (N:=n+1) fB ?_|refine aT bg aj 1 [⟨k,m,f,s⟩] (zH (aj.out.own 0 rfl).rd) HG2 (N:=n+1) fB ?_);clear aj;intro A6 c6 w6 aj;simp only[lS] at aj;have hs:=zH (aj.out.ay 0)
  refine bk hK hs fun ah=>?_
  clear hK K;refine ak 6 rfl ?_;refine ak 7 rfl ?_;refine bW ?_
  rotate_left
  refine dw bg (p:=⟨k,m,f,s⟩) aj ?_;clear aj;intro w5 g5 aj _;simp only[aO,aJ] at aj;have hs:=zH (aj.out.ay 0);refine bk hK hs fun ah=>?_
  clear hK K;refine aC 0 rfl fun K hK=>?_
  refine kH bg aj ?_;clear aj;intro w2 g2 aj _;simp only[aO,aJ] at aj;have hs:=zH (aj.out.ay 0);refine bk hK hs fun ah=>?_
  clear hK K;refine aC 2 rfl fun K hK=>?_
  (first|refine aT bg aj 0 l (hn:=gT.out) (zH (let h:=HS.out.later aj.out.b;And.intro h.rd h.nl)) xE (N:=n) lJ ?_|refine aT bg aj 1 l (hn:=gT.out) (zH (let h:=HS.out.later aj.out.b;And.intro h.rd h.nl)) xE (N:=n) lJ ?_);clear aj;intro A4 c4 w4 aj;simp only[List.set,aJ] at aj;have hs:=zH (aj.out.ay 0)
  refine bk hK hs fun ah=>?_
  clear hK K;refine aC 5 rfl fun K hK=>?_
  (first|refine aT bg aj 0 [⟨k,m,f,s⟩] (zH (aj.out.own 1 rfl).rd) HG2 (N:=n+1) fB ?_|refine aT bg aj 1 [⟨k,m,f,s⟩] (zH (aj.out.own 0 rfl).rd) HG2 (N:=n+1) fB ?_);clear aj;intro A6 c6 w6 aj;simp only[lS] at aj;have hs:=zH (aj.out.ay 0)
  refine bk hK hs fun ah=>?_
  clear hK K;refine ak 6 rfl ?_;refine ak 7 rfl ?_;refine bW ?_
  rotate_left
  all_goals
   go_wp2_with fail
   first
    | exact kL results202 ⟨A6,_,c6,rfl,.inl (aj.out.own 0 rfl),aj.out.b⟩
    | exact kL results202 ⟨A6,_,c6,rfl,.inl (aj.out.own 1 rfl),aj.out.b⟩
theorem Sn(N:Int)(A:Option Addr)(c n:Nat)(l:List Val.V)(w:World)(hs:bJ bg vF w A n c l):
  Calls prog 203 #[.int .i64 N,.slice A n c] w (Jh A n c l (dK.Jq N l) (dK.Jp N l) (dK.KF N l) w):=by
 have HM:=zH (fun W (hW:Below w.heap.size w W)=>su N A c n l W (hs.later hW));have hlen:=hs.len;have HK:=zH (Kn.start w);by_cases hr:dK.Right N l
 case neg=>
  rw[decide_eq_false hr] at HM;obtain⟨e1,e2,e3⟩:=dK.Tx hr;rw[e1,e2,e3];clear e1 e2 e3 hr hs hlen;unfold dK.emp Jh cZ vv at *
  simp only;go_enter func203,ntmps203;go_wp2_with (refine aN HK ?_;clear HK;intro _ g1 HK;simp only[aO,aJ] at HK);refine cb (HM.out _ HK.out.b) HK ?_;clear HK;intro _ HK;go_wp2_with (refine aM (f2:=0) HK 0 ?_;clear HK;intro _ HK;simp only[lS] at HK);exact iR results203 (HK.out.blk 0 rfl) ⟨A,n,c,rfl,.inr ⟨rfl,rfl,rfl,rfl⟩,HK.out.b⟩
 case pos=>
 rw[decide_eq_true hr] at HM;have h9:n<9:=by have h1:=hr.len;have h2:=hr.hi;omega
 by_cases h0:n=0
 ·subst h0
  obtain⟨e1,e2,e3⟩:=dK.Ml hr hlen;have hl0:l=[]:=List.length_eq_zero_iff.1 hlen;rw[e1,e2,e3];subst hl0;clear e1 e2 e3 hr hs hlen h9;unfold dK.emp Jh cZ vv at *
  simp only;go_enter func203,ntmps203;go_wp2_with (refine aN HK ?_;clear HK;intro _ g1 HK;simp only[aO,aJ] at HK);refine cb (HM.out _ HK.out.b) HK ?_;clear HK;intro _ HK;go_wp2_with (refine aM (f2:=0) HK 0 ?_;clear HK;intro _ HK;simp only[lS] at HK);exact iR results203 (HK.out.blk 0 rfl) ⟨A,0,c,rfl,.inr ⟨rfl,rfl,rfl,rfl⟩,HK.out.b⟩
 ·have hpos:0<n:=by omega
  obtain⟨x,hx,hf⟩:=hs.get hpos;obtain⟨b,o,rfl,hat⟩:=hs.at hpos;obtain⟨e1,e2,e3⟩:=dK.aav hr hx;rw[e1,e2,e3];have HX:=zH (fun W hW=>hat W hW 0 x hx);have HD:=zH (hs.drop (lo:=1) hpos);have gT:=zH HD.out.len.symm;have lJ:Hid ((([]:List Val.V)++l.drop 1).length=n-1):=zH (by rw[aJ];exact HD.out.len);have xE:=fV (La:=bg) lJ (hB:=(by show(n-1)*40≤_;omega));have hz:((n:Int)==0)=false:=by simp;omega
  clear e1 e2 e3 hr hs hlen h9 h0 hat hx hf;obtain⟨k,m,f,s⟩:=x;unfold Jh cZ vv at *
  simp only;go_enter func203,ntmps203;go_wp2_with (refine aN HK ?_;clear HK;intro _ g1 HK;simp only[aO,aJ] at HK);refine cb (HM.out _ HK.out.b) HK ?_;clear HK;intro _ HK;go_wp2_with fail;have aj:=zH HK.out.drew;clear HM;refine wp_region_held_drew (S:=(fun W=>Hid (Below w.heap.size w W))) (by kernel_rfl) ?_ fun ah=>?_
  ·(try dsimp only);exact zH aj.out.b
  refine ak 1 rfl ?_;refine ak 2 rfl ?_ fun _ s=>Ik (lo:=1) hpos
  refine ak 4 rfl ?_;refine ak 5 rfl ?_ fun _ s=>Ir (i:=0) hpos
  refine ak 6 rfl ?_ fun _ s=>wR (off:=o+0*4) (HX.out _ s.out)
  refine aC 0 rfl fun K hK=>?_
  refine kH bg aj ?_;clear aj;intro w2 g2 aj _;simp only[aO,aJ] at aj;have hs:=zH aj.out.b;refine bk hK hs fun ah=>?_
  clear hK K;refine aC 3 rfl fun K hK=>?_
  refine aT bg aj 0 (l.drop 1) (hn:=gT.out) (zH (let h:=HD.out.later aj.out.b;And.intro h.rd h.nl)) xE (N:=n-1) lJ ?_;clear aj;intro A4 c4 w4 aj;simp only[List.set,aJ] at aj;have hs:=zH aj.out.b;refine bk hK hs fun ah=>?_
  clear hK K;refine ak 7 rfl ?_;refine aC 8 rfl fun K hK=>?_
  refine tO (f2:=f) aj 0 ?_;clear aj;intro wq aj;simp only[lS] at aj;have hs:=zH aj.out.b;refine bk hK hs fun ah=>?_
  clear hK K;refine ak 9 rfl ?_;refine bW ?_
  all_goals
   go_wp2_with fail;exact iR results203 (aj.out.blk 0 rfl) ⟨A4,_,c4,rfl,.inl (aj.out.own 0 rfl),aj.out.b⟩
end
section
theorem Kl(a b:Nat)(w:World)(ha:a<18446744073709551616)(hb:b<18446744073709551616):
  Calls prog 248 #[.int .u64 a,.int .u64 b] w fun e w'=>e=.returned (.int .u64 (least a b:Nat))∧w=w':=by
 have H:=zH (fun w=>Ao a b w ha hb);have H1:=zH (fun w=>iE a w ha);have H2:=zH (fun w=>iE b w hb);by_cases h:Num.rank b<Num.rank a
 ·have hl:Hid (least a b=Num.M b):=zH (if_pos h)
  rw[Fq h] at H;clear h;generalize least a b=l at *
  go_enter func248,ntmps248;exact Xi
 ·have hl:Hid (least a b=Num.M a):=zH (if_neg h)
  have hc:Num.cmp a b≤0:=(Num.Bw (a:=a) (b:=b)).2 (by omega);generalize Num.cmp a b=c at *
  clear h;generalize least a b=l at *
  go_enter func248,ntmps248;exact Xh
theorem OU(a b:Nat)(w:World)(ha:a<18446744073709551616)(hb:b<18446744073709551616):
  Calls prog 249 #[.int .u64 a,.int .u64 b] w fun e w'=>e=.returned (.int .u64 (most a b:Nat))∧w=w':=by
 have H:=zH (fun w=>Ao a b w ha hb);have H1:=zH (fun w=>iE a w ha);have H2:=zH (fun w=>iE b w hb);by_cases h:Num.rank a<Num.rank b
 ·have hl:Hid (most a b=Num.M b):=zH (if_pos h)
  rw[Fp h] at H;clear h;generalize most a b=l at *
  go_enter func249,ntmps249;exact Xi
 ·have hl:Hid (most a b=Num.M a):=zH (if_neg h)
  have hc:0≤Num.cmp a b:=by have h2:=Num.IL a b;have h3:=(Num.Bw (a:=b) (b:=a)).2 (by omega);omega
  generalize Num.cmp a b=c at *
  clear h;generalize most a b=l at *
  go_enter func249,ntmps249;exact Xh
theorem Tf(a b:Nat)(w:World):
  Calls prog 247 #[.int .u64 a,.int .u64 b] w fun e w'=>e=.returned (.int .u64 (Num.S a b:Nat))∧∃n,w'=w.drewN n:=by
 have HM:=zH (fun(c:Nat) (hc:c<18446744073709551616) w=>iE c w hc);obtain⟨r,n,hr,hs,hrun⟩:=LZ a b w;have he:=hs.eq;have hE:=zH he;clear hs he;have hf:=Ie;have hb2:=RO;go_enter func247,ntmps247;go_wp2_with fail;exact ZM
end
section
open Go.ChangeShapes Go.WideShapes Go.Deep Go.RowKit
theorem acG(s l m:Nat)(w:World):(Instr.index 271 (.agg #[.int .u64 (s:Int),.int .u64 (l:Int),.int .u64 (m:Int)]) (.int .i64 0)).run prog w=.ok (.int .u64 (s:Int)) w:=by kernel_rfl
theorem acF(s l m:Nat)(w:World):(Instr.index 271 (.agg #[.int .u64 (s:Int),.int .u64 (l:Int),.int .u64 (m:Int)]) (.int .i64 1)).run prog w=.ok (.int .u64 (l:Int)) w:=by kernel_rfl
theorem acE(s l m:Nat)(w:World):(Instr.index 271 (.agg #[.int .u64 (s:Int),.int .u64 (l:Int),.int .u64 (m:Int)]) (.int .i64 2)).run prog w=.ok (.int .u64 (m:Int)) w:=by kernel_rfl
theorem KA(a b:Nat)(w:World):
  Calls prog 247 #[.int .u64 a,.int .u64 b] w fun e w'=>e=.returned (.int .u64 (Num.S a b:Nat))∧Below w.heap.size w w':=
 (Tf a b w).mono fun e w' ⟨h1,n,h2⟩=>⟨h1,by subst h2;exact⟨rfl,rfl,rfl,Nat.le_refl _,fun _ _=>rfl⟩⟩
end
section
theorem KC(x:mG)(hf:Mt.Fit x)(b:Nat)(hb:b<18446744073709551616)(w:World):
  Calls prog 204 #[.agg #[.int .i64 x.n,.int .u64 (x.s:Int),.int .u64 (x.l:Int),.int .u64 (x.m:Int)],.int .u64 (b:Int)] w (QH (Mt.ad x b) (Mt.Lr x) w):=by
 obtain⟨n,s,l,m⟩:=x;have HM:=zH (fun W=>sO ⟨n,s,l,m⟩ hf W);have hfn:n≤9223372036854775807:=hf.1;have Cq:=zH (fun W=>iE b W hb);have HK:=kX w 61 (mC n s l m) 61 (mC 0 0 0 0);unfold cZ QH at *
 by_cases hok:Mt.Ok ⟨n,s,l,m⟩
 case neg=>
  rw[Mt.Wm hok,Mt.NK hok];rw[decide_eq_false hok] at HM;clear hok hf hfn Cq;exact aey
 case pos=>
 rw[decide_eq_true hok] at HM;by_cases hmx:n=9223372036854775807
 ·rw[Mt.FH hok hmx,Mt.Jf hok hmx]
  clear hok hf hfn Cq;subst hmx;exact aey
 have hne:(n==9223372036854775807)=false:=by rw[beq_eq_false_iff_ne];exact hmx
 rw[Mt.NJ hok hmx];by_cases h0:n=0
 ·rw[Mt.BJ hok h0]
  clear hok hf hfn hmx;subst h0;generalize Num.M b=t at *
  go_enter func204,ntmps204;go_wp2_with refine zX (bB HK 0) ?_;refine cb (HM.out _) HK ?_;clear HK;intro _ HK;go_wp2_with (first|refine zX (bB HK 0) ?_|(refine jZ HK 1 ?_;clear HK;intro _ HK;simp only[lS] at HK)|refine zX (bX HK 0) ?_);refine(Cq.out _).mono ?_;rintro e w1 ⟨rfl,rfl⟩;go_wp2_with (first|refine zX (bX HK 0) ?_|(refine jZ HK 1 ?_;clear HK;intro _ HK;simp only[lS] at HK));exact ael
 ·have hz:(n==0)=false:=by rw[beq_eq_false_iff_ne];exact h0
  rw[Mt.xw hok hmx h0]
  have HW:Hid (IntKind.i64.wrap (n+1)=n+1):=zH (by
   have hp:0≤n:=Mt.TP hok
   rw[IntKind.wrap_i64];omega)
  have hs:=hf.2.1;have hl:=hf.2.2.1;have hm:=hf.2.2.2;have hb2:=Num.qA hb;have HA:=zH (fun W=>KA s (Num.M b) W);have HL:=zH (fun W=>Kl l (Num.M b) W hl hb2);have HG:=zH (fun W=>OU m (Num.M b) W hm hb2);clear hok hf hfn hmx h0 hs hl hm hb2;generalize Num.M b=t at *
  generalize Num.S s t=s2 at *
  generalize least l t=l2 at *
  generalize most m t=m2 at *
  go_enter func204,ntmps204;go_wp2_with refine zX (bB HK 0) ?_;refine cb (HM.out _) HK ?_;clear HK;intro _ HK;go_wp2_with (first|refine zX (bB HK 0) ?_|(refine jZ HK 1 ?_;clear HK;intro _ HK;simp only[lS] at HK)|refine zX (bX HK 0) ?_);refine(Cq.out _).mono ?_;rintro e w1 ⟨rfl,rfl⟩;go_wp2_with refine zX (bX HK 0) ?_;have aj:=zH HK.out.drew;clear HK;refine zR (aj.out.aA 1) fun ah=>?_
  refine ak 0 rfl ?_;refine ak 1 rfl ?_ fun _ s=>bX s 0
  refine ak 2 rfl ?_ fun _ s=>Bq _ HW.out
  refine ak 3 rfl ?_;refine ak 4 rfl ?_ fun _ s=>fQ s 0
  refine ak 5 rfl ?_;refine ak 7 rfl ?_;refine ak 8 rfl ?_ fun _ s=>fZ s 0
  refine ak 9 rfl ?_;refine ak 11 rfl ?_;refine ak 12 rfl ?_ fun _ s=>gV s 0
  refine ak 13 rfl ?_;refine aC 6 rfl fun K hK=>?_
  go_simp;go_at_call 247;refine(HA.out _).mono ?_;rintro e w5 ⟨rfl,b5⟩;have hs:=zH (ah.out.call b5);replace aj:=zH (aj.out.call b5);clear b5;refine bk hK hs fun ah=>?_
  clear hK K;refine aC 10 rfl fun K hK=>?_
  go_simp;go_at_call 248;refine(HL.out _).mono ?_;rintro e w5 ⟨rfl,rfl⟩;have hs:=ah;refine bk hK hs fun ah=>?_
  clear hK K;refine aC 14 rfl fun K hK=>?_
  go_simp;go_at_call 249;refine(HG.out _).mono ?_;rintro e w5 ⟨rfl,rfl⟩;have hs:=ah;refine bk hK hs fun ah=>?_
  clear hK K;refine ak 15 rfl ?_;refine aC 16 rfl fun K hK=>?_
  refine LX aj 1 ?_;clear aj;intro w6 aj;simp only[lS] at aj;have hs:=zH (aj.out.aA 1);refine bk hK hs fun ah=>?_
  clear hK K;refine ak 17 rfl ?_;refine bW ?_
  all_goals
   have HK:=aj;clear aj ah;go_wp2_with fail;exact ael
end
section
theorem OI(x:mG)(hf:Mt.Fit x)(q:Int)(w:World):
  Calls prog 205 #[.agg #[.int .i64 x.n,.int .u64 (x.s:Int),.int .u64 (x.l:Int),.int .u64 (x.m:Int)],.int .i64 q] w (QF (Mt.rd x q) w):=by
 obtain⟨n,s,l,m⟩:=x;have HM:=zH (fun W=>sO ⟨n,s,l,m⟩ hf W);have HK:=kX w 61 (mC n s l m) 26 (vC 0 0 0 ⟨#[]⟩);clear hf;unfold cZ QF at *
 by_cases hok:Mt.Ok ⟨n,s,l,m⟩
 case neg=>
  rw[Mt.xS (.inl hok)];rw[decide_eq_false hok] at HM;clear hok;exact Xm
 case pos=>
 rw[decide_eq_true hok] at HM;by_cases hlo:q<0
 ·rw[Mt.xS (.inr (.inl hlo))]
  clear hok;exact Xm
 by_cases hhi:3<q
 ·rw[Mt.xS (.inr (.inr hhi))]
  have hhi2:4≤q:=by omega
  clear hok;exact Xm
 by_cases hq0:q=0
 ·subst hq0
  rw[Mt.afh hok];clear hok hlo hhi;dsimp only;by_cases h0:(n==0)=true
  ·go_enter func205,ntmps205
   go_wp2_with refine zX (bB HK 0) ?_;refine cb (HM.out _) HK ?_;clear HK;intro _ HK;go_wp2_with (first|refine zX (bX HK 0) ?_|refine zX (bB HK 0) ?_|(refine aM (f2:=0) HK 1 ?_;clear HK;intro _ HK;simp only[lS] at HK)|refine zX (fQ HK 0) ?_|refine zX (fZ HK 0) ?_|refine zX (gV HK 0) ?_);exact Rj
  ·have h0:(n==0)=false:=Bool.eq_false_iff.2 h0
   go_enter func205,ntmps205;go_wp2_with refine zX (bB HK 0) ?_;refine cb (HM.out _) HK ?_;clear HK;intro _ HK;go_wp2_with (first|refine zX (bX HK 0) ?_|refine zX (bB HK 0) ?_|(refine aM (f2:=0) HK 1 ?_;clear HK;intro _ HK;simp only[lS] at HK)|refine zX (fQ HK 0) ?_|refine zX (fZ HK 0) ?_|refine zX (gV HK 0) ?_);exact Rj
 have hq1:(q==0)=false:=by rw[beq_eq_false_iff_ne];exact hq0
 have hq2:¬4≤q:=by omega
 by_cases hn:n=0
 ·rw[Mt.aar hok (by omega) (by omega) hq0 hn]
  subst hn;clear hok hq0;exact Xm
 have h0:(n==0)=false:=by rw[beq_eq_false_iff_ne];exact hn
 have hcase:q=1∨q=2∨q=3:=by omega
 clear hlo hhi hq0 hq1 hq2
 rcases hcase with rfl|rfl|rfl
 ·rw[Mt.afg hok hn]
  have hix:=acG s l m;clear hok hn;dsimp only;go_enter func205,ntmps205;go_wp2_with refine zX (bB HK 0) ?_;refine cb (HM.out _) HK ?_;clear HK;intro _ HK;go_wp2_with (first|refine zX (bX HK 0) ?_|refine zX (bB HK 0) ?_|(refine aM (f2:=s) HK 1 ?_;clear HK;intro _ HK;simp only[lS] at HK)|refine zX (fQ HK 0) ?_|refine zX (fZ HK 0) ?_|refine zX (gV HK 0) ?_);exact Rj
 ·rw[Mt.aff hok hn]
  have hix:=acF s l m;clear hok hn;dsimp only;go_enter func205,ntmps205;go_wp2_with refine zX (bB HK 0) ?_;refine cb (HM.out _) HK ?_;clear HK;intro _ HK;go_wp2_with (first|refine zX (bX HK 0) ?_|refine zX (bB HK 0) ?_|(refine aM (f2:=l) HK 1 ?_;clear HK;intro _ HK;simp only[lS] at HK)|refine zX (fQ HK 0) ?_|refine zX (fZ HK 0) ?_|refine zX (gV HK 0) ?_);exact Rj
 ·rw[Mt.afe hok hn]
  have hix:=acE s l m;clear hok hn;dsimp only;go_enter func205,ntmps205;go_wp2_with refine zX (bB HK 0) ?_;refine cb (HM.out _) HK ?_;clear HK;intro _ HK;go_wp2_with (first|refine zX (bX HK 0) ?_|refine zX (bB HK 0) ?_|(refine aM (f2:=m) HK 1 ?_;clear HK;intro _ HK;simp only[lS] at HK)|refine zX (fQ HK 0) ?_|refine zX (fZ HK 0) ?_|refine zX (gV HK 0) ?_);exact Rj
end
end Go.Proofs.YtieoeendnccafaaGreat
