/- Whether two requests are of one session, the document. No condition but those named. -/
import Derived.Test.YtieoeendnccafaaGreatNBC
set_option linter.unusedSimpArgs false
set_option linter.unusedVariables false
set_option maxRecDepth 100000
set_option maxHeartbeats 25600000
open Go.RowKit
namespace Go.Proofs.YtieoeendnccafaaGreat
open _root_.Go.Proofs.Tryz
section
theorem su(N:Int)(A:Option Addr)(c n:Nat)(l:List Val.V)(w:World)(hs:bJ bg vF w A n c l):
  Calls prog 150 #[.int .i64 N,.slice A n c] w (cZ (decide (dK.Right N l)) w):=by
 have HK:=zH (Kn.start w);by_cases h1:N<1
 ·have hd:decide (dK.Right N l)=false:=decide_eq_false fun h=>by have:=h.lo;omega
  rw[hd];clear hs hd;go_enter func150,ntmps150;exact iU
 by_cases h2:8<N
 ·have hd:decide (dK.Right N l)=false:=decide_eq_false fun h=>by have:=h.hi;omega
  rw[hd];clear hs hd;go_enter func150,ntmps150;exact iU
 by_cases h3:N<(n:Int)
 ·have hd:decide (dK.Right N l)=false:=decide_eq_false fun h=>by have:=h.len;rw[hs.len] at this;omega
  rw[hd];clear hs hd;go_enter func150,ntmps150;exact iU
 obtain⟨hno,hyes⟩:=dK.gJ (n:=N) (l:=l) hs.len (by omega) (by omega) (by omega);have gP:=zH hno;have iL:=zH hyes;have HS:=zH hs;have hn9:n<9:=by omega
 clear hs hno hyes;generalize decide (dK.Right N l)=r at *
 go_enter func150,ntmps150;go_wp2_with fail;go_loopw [5] (fun vi wr=>∃k:Nat,k≤n∧vi=.int .i64 k∧Hid (∀(i:Nat) v,i<k→l[i]?=some v→dK.jq v=0)∧Hid (Kn w.heap.size w wr [] [])) (fun vi _=>n-(intOf vi).toNat)
 case atStart=>exact⟨0,Nat.zero_le _,rfl,zH (fun i v hi=>by omega),HK⟩
 case round=>
  clear HK;obtain⟨k,hk,rfl,iA,HK⟩:=hrel;have hk1:(0:Int)≤(k:Int):=by omega
  by_cases hlt:k<n
  ·have hk2:(k:Int)<(n:Int):=by omega
   have hk3:k<9223372036854775807:=by omega
   obtain⟨x,hx,hf⟩:=HS.out.get hlt;obtain⟨b,o,rfl,hat⟩:=HS.out.at (Nat.lt_of_le_of_lt (Nat.zero_le _) hlt);have HX:=zH (fun W hW=>hat W hW k x hx);have HV:=zH (fun W=>bR x W hf);have HN:=zH (gP.out k x hx)
   have nZ:Hid (dK.jq x=0→∀(i:Nat) v,i<k+1→l[i]?=some v→dK.jq v=0):=zH fun h i v hi hv=>by
    by_cases hik:i=k
    ·subst hik;rw[hx] at hv;injection hv with hv;subst hv;exact h
    ·exact iA.out i v (by omega) hv
   clear hat hx hf;by_cases hkind:x.k=0
   ·have hz:¬dK.jq x=0:=by rw[dK.xH hkind];decide
    have HR:=zH (HN.out hz);obtain⟨vk,vn,vf,vs⟩:=x;obtain rfl:vk=0:=hkind;clear HV HN nZ hz;go_wp2_with refine au (Ip (off:=o+k*4) (HX.out _ HK.out.b)) ?_;exact abv
   ·rw[dK.Cz hkind] at HN nZ
    obtain⟨vk,vn,vf,vs⟩:=x;have acW:(vk==0)=false:=by simpa using hkind
    unfold vv gX at HV;simp only at HV;generalize Val.bG ⟨vk,vn,vf,vs⟩=z at *
    clear hkind;go_wp2_with (first|refine au (Ip (off:=o+k*4) (HX.out _ HK.out.b)) ?_|refine au (wR (off:=o+k*4) (HX.out _ HK.out.b)) ?_);refine cb (HV.out _) HK ?_;clear HK;intro _ HK;by_cases hz:z=0
    ·subst hz
     replace nZ:=zH (nZ.out rfl);go_wp2_with refine au (aL (j:=k) hk3) ?_;exact⟨⟨k+1,hlt,rfl,nZ,HK⟩,by simp[intOf];omega⟩
    ·have hz2:(z != 0)=true:=by simpa using hz
     have HR:=zH (HN.out hz);exact rP
  ·obtain rfl:k=n:=by omega
   have HR:Hid (r=true):=zH (iL.out iA.out);exact rP
end
section
theorem sO(x:mG)(hf:Mt.Fit x)(w:World):
  Calls prog 153 #[.agg #[.int .i64 x.n,.int .u64 (x.s:Int),.int .u64 (x.l:Int),.int .u64 (x.m:Int)]] w (cZ (decide (Mt.Ok x)) w):=by
 obtain⟨n,s,l,m⟩:=x;obtain⟨_,f1,f2,f3⟩:=hf;dsimp only at f1 f2 f3;have H1:=zH (fun w=>iE s w f1);have H2:=zH (fun w=>iE l w f2);have H3:=zH (fun w=>iE m w f3);have H4:=zH (fun w=>Ao l m w f2 f3);have HK:=iK w 61 (mC n s l m);unfold cZ;by_cases h0:n=0
 case pos=>
  have HE:Hid (decide ((⟨n,s,l,m⟩:mG)=⟨0,0,0,0⟩)=decide (Mt.Ok ⟨n,s,l,m⟩)):=zH (Mt.ok_none (by omega));generalize decide (Mt.Ok ⟨n,s,l,m⟩)=b at *
  subst h0;go_enter func153,ntmps153;go_wp2_with (first|refine zX (bX HK 0) ?_|refine zX (bB HK 0) ?_|refine zX (Io (x:=⟨0,s,l,m⟩) (y:=⟨0,0,0,0⟩) HE.out) ?_);exact lQ
 case neg=>
 clear f1 f2 f3;have hz:(n==0)=false:=by rw[beq_eq_false_iff_ne];exact h0
 have hpn:0<n∨¬0<n:=by omega
 by_cases hs:Num.M s=s
 case neg=>
  have hok:decide (Mt.Ok ⟨n,s,l,m⟩)=false:=decide_eq_false (Mt.afr h0 hs);rw[hok];have HN:=zH (decide_eq_false (p:=s=Num.M s) (fun e=>hs e.symm));clear hok hs h0;generalize Num.M s=t at *
  go_enter func153,ntmps153;go_wp2_with refine zX (bX HK 0) ?_;refine zR HK.out.drew fun ah=>?_
  refine ak 0 rfl ?_;refine ak 1 rfl ?_ fun _ s=>fQ s 0
  refine ak 2 rfl ?_;refine ak 3 rfl ?_ fun _ s=>fQ s 0
  refine aC 4 rfl fun K hK=>?_
  go_simp;go_at_call 193;refine(H1.out _).mono ?_;rintro e w5 ⟨rfl,rfl⟩;have hs:=ah;refine bk hK hs fun ah=>?_
  clear hK K;refine ak 5 rfl ?_ (fun w Jr=>jd (x:=s) (y:=t) HN.out);refine ak 6 rfl ?_;refine bF 7 rfl ?_;refine bF 8 rfl ?_;refine bF 9 rfl ?_;refine bF 10 rfl ?_;refine bF 11 rfl ?_;refine bF 12 rfl ?_;refine ak 13 rfl ?_;refine ak 14 rfl ?_;refine bF 15 rfl ?_;refine bF 16 rfl ?_;refine bF 17 rfl ?_;refine bF 18 rfl ?_;refine bF 19 rfl ?_;refine bF 20 rfl ?_;refine ak 21 rfl ?_;refine ak 22 rfl ?_;refine bW ?_;replace HK:=ah;clear ah;have k0:=HK.out.cell 0 rfl 0 (v:=.int .i64 n) rfl;have k2:=HK.out.cell 0 rfl 2 (v:=.int .u64 (l:Int)) rfl;have k3:=HK.out.cell 0 rfl 3 (v:=.int .u64 (m:Int)) rfl
  rcases hpn with hp|hp
  ·go_wp2_with fail
   exact lQ
  ·go_wp2_with fail
   exact lQ
 case pos=>
 rw[hs] at H1;by_cases hl:Num.M l=l
 case neg=>
  have hok:decide (Mt.Ok ⟨n,s,l,m⟩)=false:=decide_eq_false (Mt.aft h0 hl);rw[hok];have HN:=zH (decide_eq_false (p:=l=Num.M l) (fun e=>hl e.symm));clear hok hs hl h0;generalize Num.M l=t at *
  go_enter func153,ntmps153;go_wp2_with refine zX (bX HK 0) ?_;refine zR HK.out.drew fun ah=>?_
  refine ak 0 rfl ?_;refine ak 1 rfl ?_ fun _ s=>fQ s 0
  refine ak 2 rfl ?_;refine ak 3 rfl ?_ fun _ s=>fQ s 0
  refine aC 4 rfl fun K hK=>?_
  go_simp;go_at_call 193;refine(H1.out _).mono ?_;rintro e w5 ⟨rfl,rfl⟩;have hs:=ah;refine bk hK hs fun ah=>?_
  clear hK K;refine ak 5 rfl ?_ (fun w Jr=>jd (x:=s) (y:=s) (kG s));refine ak 6 rfl ?_;refine ak 7 rfl ?_;refine ak 8 rfl ?_ fun _ s=>fZ s 0
  refine ak 9 rfl ?_;refine ak 10 rfl ?_ fun _ s=>fZ s 0
  refine aC 11 rfl fun K hK=>?_
  go_simp;go_at_call 193;refine(H2.out _).mono ?_;rintro e w5 ⟨rfl,rfl⟩;have hs:=ah;refine bk hK hs fun ah=>?_
  clear hK K;refine ak 12 rfl ?_ fun _ s=>jd (x:=l) (y:=t) HN.out
  refine ak 13 rfl ?_;refine ak 14 rfl ?_;refine bF 15 rfl ?_;refine bF 16 rfl ?_;refine bF 17 rfl ?_;refine bF 18 rfl ?_;refine bF 19 rfl ?_;refine bF 20 rfl ?_;refine ak 21 rfl ?_;refine ak 22 rfl ?_;refine bW ?_;replace HK:=ah;clear ah;have k0:=HK.out.cell 0 rfl 0 (v:=.int .i64 n) rfl;have k2:=HK.out.cell 0 rfl 2 (v:=.int .u64 (l:Int)) rfl;have k3:=HK.out.cell 0 rfl 3 (v:=.int .u64 (m:Int)) rfl
  rcases hpn with hp|hp
  ·go_wp2_with fail
   exact lQ
  ·go_wp2_with fail
   exact lQ
 case pos=>
 rw[hl] at H2;by_cases hm:Num.M m=m
 case neg=>
  have hok:decide (Mt.Ok ⟨n,s,l,m⟩)=false:=decide_eq_false (Mt.afs h0 hm);rw[hok];have HN:=zH (decide_eq_false (p:=m=Num.M m) (fun e=>hm e.symm));clear hok hs hl hm h0;generalize Num.M m=t at *
  go_enter func153,ntmps153;go_wp2_with refine zX (bX HK 0) ?_;refine zR HK.out.drew fun ah=>?_
  refine ak 0 rfl ?_;refine ak 1 rfl ?_ fun _ s=>fQ s 0
  refine ak 2 rfl ?_;refine ak 3 rfl ?_ fun _ s=>fQ s 0
  refine aC 4 rfl fun K hK=>?_
  go_simp;go_at_call 193;refine(H1.out _).mono ?_;rintro e w5 ⟨rfl,rfl⟩;have hs:=ah;refine bk hK hs fun ah=>?_
  clear hK K;refine ak 5 rfl ?_ (fun w Jr=>jd (x:=s) (y:=s) (kG s));refine ak 6 rfl ?_;refine ak 7 rfl ?_;refine ak 8 rfl ?_ fun _ s=>fZ s 0
  refine ak 9 rfl ?_;refine ak 10 rfl ?_ fun _ s=>fZ s 0
  refine aC 11 rfl fun K hK=>?_
  go_simp;go_at_call 193;refine(H2.out _).mono ?_;rintro e w5 ⟨rfl,rfl⟩;have hs:=ah;refine bk hK hs fun ah=>?_
  clear hK K;refine ak 12 rfl ?_ fun _ s=>jd (x:=l) (y:=l) (kG l)
  refine ak 13 rfl ?_;refine ak 14 rfl ?_;refine ak 15 rfl ?_;refine ak 16 rfl ?_ fun _ s=>gV s 0
  refine ak 17 rfl ?_;refine ak 18 rfl ?_ fun _ s=>gV s 0
  refine aC 19 rfl fun K hK=>?_
  go_simp;go_at_call 193;refine(H3.out _).mono ?_;rintro e w5 ⟨rfl,rfl⟩;have hs:=ah;refine bk hK hs fun ah=>?_
  clear hK K;refine ak 20 rfl ?_ fun _ s=>jd (x:=m) (y:=t) HN.out
  refine ak 21 rfl ?_;refine ak 22 rfl ?_;refine bW ?_;replace HK:=ah;clear ah;have k0:=HK.out.cell 0 rfl 0 (v:=.int .i64 n) rfl;have k2:=HK.out.cell 0 rfl 2 (v:=.int .u64 (l:Int)) rfl;have k3:=HK.out.cell 0 rfl 3 (v:=.int .u64 (m:Int)) rfl
  rcases hpn with hp|hp
  ·go_wp2_with fail
   exact lQ
  ·go_wp2_with fail
   exact lQ
 case pos=>
  rw[hm] at H3
  rcases hpn with hp|hp
  ·have hok:decide (Mt.Ok ⟨n,s,l,m⟩)=decide (Num.cmp l m≤0):=decide_eq_decide.2 (Mt.TQ hp hs hl hm)
   rw[hok];clear hok hs hl hm h0;generalize Num.cmp l m=c at *
   go_enter func153,ntmps153;go_wp2_with refine zX (bX HK 0) ?_;refine zR HK.out.drew fun ah=>?_
   refine ak 0 rfl ?_;refine ak 1 rfl ?_ fun _ s=>fQ s 0
   refine ak 2 rfl ?_;refine ak 3 rfl ?_ fun _ s=>fQ s 0
   refine aC 4 rfl fun K hK=>?_
   go_simp;go_at_call 193;refine(H1.out _).mono ?_;rintro e w5 ⟨rfl,rfl⟩;have hs:=ah;refine bk hK hs fun ah=>?_
   clear hK K;refine ak 5 rfl ?_ (fun w Jr=>jd (x:=s) (y:=s) (kG s));refine ak 6 rfl ?_;refine ak 7 rfl ?_;refine ak 8 rfl ?_ fun _ s=>fZ s 0
   refine ak 9 rfl ?_;refine ak 10 rfl ?_ fun _ s=>fZ s 0
   refine aC 11 rfl fun K hK=>?_
   go_simp;go_at_call 193;refine(H2.out _).mono ?_;rintro e w5 ⟨rfl,rfl⟩;have hs:=ah;refine bk hK hs fun ah=>?_
   clear hK K;refine ak 12 rfl ?_ fun _ s=>jd (x:=l) (y:=l) (kG l)
   refine ak 13 rfl ?_;refine ak 14 rfl ?_;refine ak 15 rfl ?_;refine ak 16 rfl ?_ fun _ s=>gV s 0
   refine ak 17 rfl ?_;refine ak 18 rfl ?_ fun _ s=>gV s 0
   refine aC 19 rfl fun K hK=>?_
   go_simp;go_at_call 193;refine(H3.out _).mono ?_;rintro e w5 ⟨rfl,rfl⟩;have hs:=ah;refine bk hK hs fun ah=>?_
   clear hK K;refine ak 20 rfl ?_ fun _ s=>jd (x:=m) (y:=m) (kG m)
   refine ak 21 rfl ?_;refine ak 22 rfl ?_;refine bW ?_;replace HK:=ah;clear ah;have k0:=HK.out.cell 0 rfl 0 (v:=.int .i64 n) rfl;have k2:=HK.out.cell 0 rfl 2 (v:=.int .u64 (l:Int)) rfl;have k3:=HK.out.cell 0 rfl 3 (v:=.int .u64 (m:Int)) rfl;go_wp2_with fail;refine(H4.out _).mono ?_;rintro e w1 ⟨rfl,rfl⟩;exact iU
  ·have hok:decide (Mt.Ok ⟨n,s,l,m⟩)=false:=decide_eq_false (Mt.okn h0 hp)
   rw[hok];clear hok hs hl hm h0;go_enter func153,ntmps153;go_wp2_with refine zX (bX HK 0) ?_;refine zR HK.out.drew fun ah=>?_
   refine ak 0 rfl ?_;refine ak 1 rfl ?_ fun _ s=>fQ s 0
   refine ak 2 rfl ?_;refine ak 3 rfl ?_ fun _ s=>fQ s 0
   refine aC 4 rfl fun K hK=>?_
   go_simp;go_at_call 193;refine(H1.out _).mono ?_;rintro e w5 ⟨rfl,rfl⟩;have hs:=ah;refine bk hK hs fun ah=>?_
   clear hK K;refine ak 5 rfl ?_ (fun w Jr=>jd (x:=s) (y:=s) (kG s));refine ak 6 rfl ?_;refine ak 7 rfl ?_;refine ak 8 rfl ?_ fun _ s=>fZ s 0
   refine ak 9 rfl ?_;refine ak 10 rfl ?_ fun _ s=>fZ s 0
   refine aC 11 rfl fun K hK=>?_
   go_simp;go_at_call 193;refine(H2.out _).mono ?_;rintro e w5 ⟨rfl,rfl⟩;have hs:=ah;refine bk hK hs fun ah=>?_
   clear hK K;refine ak 12 rfl ?_ fun _ s=>jd (x:=l) (y:=l) (kG l)
   refine ak 13 rfl ?_;refine ak 14 rfl ?_;refine ak 15 rfl ?_;refine ak 16 rfl ?_ fun _ s=>gV s 0
   refine ak 17 rfl ?_;refine ak 18 rfl ?_ fun _ s=>gV s 0
   refine aC 19 rfl fun K hK=>?_
   go_simp;go_at_call 193;refine(H3.out _).mono ?_;rintro e w5 ⟨rfl,rfl⟩;have hs:=ah;refine bk hK hs fun ah=>?_
   clear hK K;refine ak 20 rfl ?_ fun _ s=>jd (x:=m) (y:=m) (kG m)
   refine ak 21 rfl ?_;refine ak 22 rfl ?_;refine bW ?_;replace HK:=ah;clear ah;have k0:=HK.out.cell 0 rfl 0 (v:=.int .i64 n) rfl;have k2:=HK.out.cell 0 rfl 2 (v:=.int .u64 (l:Int)) rfl;have k3:=HK.out.cell 0 rfl 3 (v:=.int .u64 (m:Int)) rfl;exact iU
end
section
theorem kS{w:World}{o:Oper}{a:Act}{x:ByteArray}{b:Bool}{p:Operand}(hb:decide (x.size=0)=b)(ho:o.op=.binOp .eql 9 p (.const (.string ⟨#[]⟩)) 9:=by rfl)(hp:a.eval p=.string x:=by rfl):
  (execOp a.eval o).run prog w=.ok (.value (.bool b)) w:=by
 refine kR (y:=⟨#[]⟩) (p:=p) (q:=(.const (.string ⟨#[]⟩))) (ho:=ho) (hx:=hp) ?_;rw[← hb];by_cases h:x.size=0
 ·rw[decide_eq_true h,decide_eq_true (show x=⟨#[]⟩ from Val.mU h)]
 ·rw[decide_eq_false h,decide_eq_false (fun e=>h (by rw[e];rfl))]
theorem SH(x:Oh)(w:World)(hx:In w x):Calls prog 83 #[.agg (bS x)] w (cZ (av.One x.v) w):=by
 rw[av.XO];have HI:=zH hx;have HN:=zH (fun W (hW:Below w.heap.size w W)=>OT x W (hx.later hW));have HK:=iK w 63 (bS x);have HD:=zH vw;have HQ:=zH su;have HL:=zH lU;have HG:=zH sG;have HM:=zH sO;clear hx;unfold cZ at *
 by_cases hz:x.v.name.size=0
 ·have E0:=zH (decide_eq_true hz)
  have WO:=zH (rfl:decide (16<(x.v.name.size:Int))=decide (16<(x.v.name.size:Int)));have hd:decide (av.named x.v.name)=false:=decide_eq_false fun g=>g.1 hz
  rw[hd,Bool.false_and,Bool.false_and];clear hd hz;go_enter func83,ntmps83;go_wp2_with (first|refine zX (lW HK 0) ?_|refine zX (kS (x:=x.v.name) E0.out) ?_|refine zX (dz (x:=(x.v.name.size:Int)) (k:=16) WO.out) ?_);exact lQ
 have E0:=zH (decide_eq_false hz);by_cases h16:x.v.name.size≤16
 case neg=>
  have hd:decide (av.named x.v.name)=false:=decide_eq_false fun g=>h16 g.2
  have WO:=zH (decide_eq_true (by omega:16<(x.v.name.size:Int)));rw[hd,Bool.false_and,Bool.false_and];clear hd hz h16;go_enter func83,ntmps83;go_wp2_with (first|refine zX (lW HK 0) ?_|refine zX (kS (x:=x.v.name) E0.out) ?_|refine zX (dz (x:=(x.v.name.size:Int)) (k:=16) WO.out) ?_);exact lQ
 case pos=>
 have hd:decide (av.named x.v.name)=true:=decide_eq_true ⟨hz,h16⟩;have WO:=zH (decide_eq_false (by omega:¬16<(x.v.name.size:Int)));rw[hd,Bool.true_and];clear hd hz h16;generalize av.non x.v=q at *
 cases q
 ·rw[Bool.false_and]
  go_enter func83,ntmps83;go_wp2_with (first|refine zX (lW HK 0) ?_|refine zX (kS (x:=x.v.name) E0.out) ?_|refine zX (dz (x:=(x.v.name.size:Int)) (k:=16) WO.out) ?_|refine zX (jv HK 0) ?_);refine cb (HN.out _ HK.out.b) HK ?_;clear HK;intro _ HK;exact iU
 rw[Bool.true_and];unfold av.sound;by_cases h1:x.v.kind=1
 ·rw[if_pos h1]
  go_enter func83,ntmps83;go_wp2_with (first|refine zX (lW HK 0) ?_|refine zX (kS (x:=x.v.name) E0.out) ?_|refine zX (dz (x:=(x.v.name.size:Int)) (k:=16) WO.out) ?_|refine zX (jv HK 0) ?_);refine cb (HN.out _ HK.out.b) HK ?_;clear HK;intro _ HK;go_wp2_with (first|refine zX (iM HK 0) ?_|refine zX (mK HK 0) ?_);refine cb (HD.out _ _ _ _ _ (HI.out.p.later HK.out.b)) HK ?_;clear HK;intro _ HK;exact iU
 rw[if_neg h1];by_cases h2:x.v.kind=2
 ·rw[if_pos h2]
  go_enter func83,ntmps83;go_wp2_with (first|refine zX (lW HK 0) ?_|refine zX (kS (x:=x.v.name) E0.out) ?_|refine zX (dz (x:=(x.v.name.size:Int)) (k:=16) WO.out) ?_|refine zX (jv HK 0) ?_);refine cb (HN.out _ HK.out.b) HK ?_;clear HK;intro _ HK;go_wp2_with (first|refine zX (iM HK 0) ?_|refine zX (jP HK 0) ?_|refine zX (rM HK 0) ?_);refine cb (HQ.out _ _ _ _ _ _ (HI.out.v.later HK.out.b)) HK ?_;clear HK;intro _ HK;exact iU
 rw[if_neg h2];by_cases h3:x.v.kind=3
 ·rw[if_pos h3]
  go_enter func83,ntmps83;go_wp2_with (first|refine zX (lW HK 0) ?_|refine zX (kS (x:=x.v.name) E0.out) ?_|refine zX (dz (x:=(x.v.name.size:Int)) (k:=16) WO.out) ?_|refine zX (jv HK 0) ?_);refine cb (HN.out _ HK.out.b) HK ?_;clear HK;intro _ HK;go_wp2_with (first|refine zX (iM HK 0) ?_|refine zX (gK HK 0) ?_);refine cb (HL.out _ _ _ _ _ (HI.out.r.later HK.out.b)) HK ?_;clear HK;intro _ HK;exact iU
 rw[if_neg h3];by_cases h4:x.v.kind=4
 ·rw[if_pos h4]
  generalize hg:decide (Gt.Right x.v.cap x.v.refs)=gb;have HGb:=zH hg;clear hg;cases gb
  all_goals
   go_enter func83,ntmps83;go_wp2_with (first|refine zX (lW HK 0) ?_|refine zX (kS (x:=x.v.name) E0.out) ?_|refine zX (dz (x:=(x.v.name.size:Int)) (k:=16) WO.out) ?_|refine zX (jv HK 0) ?_);refine cb (HN.out _ HK.out.b) HK ?_;clear HK;intro _ HK;go_wp2_with (first|refine zX (iM HK 0) ?_|refine zX (jP HK 0) ?_|refine zX (gK HK 0) ?_);refine(HG.out _ _ _ _ _ _ (HI.out.r.later HK.out.b)).mono ?_;rintro e w1 ⟨rfl,b1⟩;rw[HGb.out];replace HK:=iy HK b1;clear b1;go_wp2_with refine zX (yO HK 0) ?_;exact lQ
 rw[if_neg h4];by_cases h5:x.v.kind=5
 ·rw[if_pos h5]
  go_enter func83,ntmps83;go_wp2_with (first|refine zX (lW HK 0) ?_|refine zX (kS (x:=x.v.name) E0.out) ?_|refine zX (dz (x:=(x.v.name.size:Int)) (k:=16) WO.out) ?_|refine zX (jv HK 0) ?_);refine cb (HN.out _ HK.out.b) HK ?_;clear HK;intro _ HK;go_wp2_with (first|refine zX (iM HK 0) ?_|refine zX (AX HK 0) ?_);refine cb (HM.out x.v.mt HI.out.m _) HK ?_;clear HK;intro _ HK;exact iU
 ·rw[if_neg h5]
  go_enter func83,ntmps83;go_wp2_with (first|refine zX (lW HK 0) ?_|refine zX (kS (x:=x.v.name) E0.out) ?_|refine zX (dz (x:=(x.v.name.size:Int)) (k:=16) WO.out) ?_|refine zX (jv HK 0) ?_);refine cb (HN.out _ HK.out.b) HK ?_;clear HK;intro _ HK;go_wp2_with refine zX (iM HK 0) ?_;exact lQ
end
section
theorem cK(A:Option Addr)(c n:Nat)(l:List Oh)(w:World)(hs:bY w A n c l):
  Calls prog 40 #[.slice A n c] w (cZ (decide (av.Right (vs l))) w):=by
 unfold cZ;by_cases hn:8<n
 ·have hd:decide (av.Right (vs l))=false:=decide_eq_false fun h=>by have:=h.len;rw[fF,hs.len] at this;omega
  rw[hd];have hn2:8<(n:Int):=by omega
  clear hs hd;go_enter func40,ntmps40;exact LK
 have HS:=zH hs;obtain⟨hno,hyes⟩:=av.gJ (l:=vs l) (by rw[fF];exact hs.len) (by omega:n≤8);have gP:=zH hno;have iL:=zH hyes;clear hs hno hyes;generalize decide (av.Right (vs l))=r at *
 have hn2:¬8<(n:Int):=by omega
 have ahB:0<9223372036854775807:=by decide
 have HK:=zH (Kn.start w);go_enter func40,ntmps40;go_wp2_with fail;go_loopw [3] (fun vi wr=>∃k:Nat,k≤n∧vi=.int .i64 k∧Hid (∀i,i<k→av.Good (vs l) i)∧Hid (Kn w.heap.size w wr [] [])) (fun vi _=>n-(intOf vi).toNat)
 case atStart=>exact⟨0,Nat.zero_le _,rfl,zH (fun i hi=>by omega),HK⟩
 case round=>
  clear HK;obtain⟨k,hk,rfl,iA,HK⟩:=hrel;by_cases hlt:k<n
  ·obtain⟨x,hx,hin⟩:=HS.out.get hlt
   obtain⟨b,o,rfl,hat⟩:=HS.out.s.at (Nat.lt_of_le_of_lt (Nat.zero_le _) hlt);have HX:Hid (∀W,Below w.heap.size w W→∀j v,(vR x)[j]?=some v→W.cell? ⟨b,o+k*11+j,none⟩=some v):=zH (fun W hW=>hat W hW k x hx)
   have kY:Hid (∀j,k=j+1→∃y:Oh,(vs l)[j]?=some y.v∧∀W,Below w.heap.size w W→∀i v,(vR y)[i]?=some v→W.cell? ⟨b,o+j*11+i,none⟩=some v):=zH fun j hj=>by
    exact ZF
   have Zf:=zH (fun W (hW:Below w.heap.size w W)=>SH x W (hin.later hW));have hxv:=dL hx;have yE:Hid (av.Good (vs l) k↔(av.One x.v=true∧∀j y,k=j+1→(vs l)[j]?=some y→aK.lt y.name x.v.name=true)):=zH ⟨fun h=>h _ hxv,fun h x' hx'=>by rw[hxv] at hx';injection hx' with hx';subst hx';exact h⟩;unfold cZ at Zf;clear hat hin hx hxv;generalize av.One x.v=q0 at *
   have hk1:(0:Int)≤(k:Int):=by omega
   have hk2:(k:Int)<(n:Int):=by omega
   go_wp2_with fail
   cases q0 with
   | false=>
    have HR:Hid (r=false):=zH (gP.out k hlt fun h=>by have:=(yE.out.1 h).1;simp at this);refine zR HK.out.drew fun ah=>?_
    refine ak 0 rfl ?_;refine ak 1 rfl ?_;refine ak 2 rfl ?_ fun _ s=>bL (i:=k) hlt
    refine ak 3 rfl ?_ fun _ s=>eB (off:=o+k*11) (HX.out _ s.out.b)
    refine aC 4 rfl fun K hK=>?_
    go_simp;go_at_call 83;refine(Zf.out _ ah.out.b).mono ?_;rintro e w5 ⟨rfl,b5⟩;have hs:=zH (ah.out.call b5);clear b5;refine bk hK hs fun ah=>?_
    clear hK K;refine ak 5 rfl ?_;refine ak 6 rfl ?_;refine bF 7 rfl ?_;refine bF 8 rfl ?_;refine bF 9 rfl ?_;refine bF 10 rfl ?_;refine bF 11 rfl ?_;refine bF 12 rfl ?_;refine bF 13 rfl ?_;refine bF 14 rfl ?_;refine bF 15 rfl ?_;refine bF 16 rfl ?_;refine bF 17 rfl ?_;refine bF 18 rfl ?_;refine bF 19 rfl ?_;refine bF 20 rfl ?_;refine bF 21 rfl ?_;refine bF 22 rfl ?_;refine ak 23 rfl ?_;exact rQ
   | true=>
   rcases Nat.eq_zero_or_pos k with rfl|hpos
   ·clear kY
    refine zR HK.out.drew fun ah=>?_
    refine ak 0 rfl ?_;refine ak 1 rfl ?_;refine ak 2 rfl ?_ fun _ s=>bL (i:=0) hlt
    refine ak 3 rfl ?_ fun _ s=>eB (off:=o+0*11) (HX.out _ s.out.b)
    refine aC 4 rfl fun K hK=>?_
    go_simp;go_at_call 83;refine(Zf.out _ ah.out.b).mono ?_;rintro e w5 ⟨rfl,b5⟩;have hs:=zH (ah.out.call b5);clear b5;refine bk hK hs fun ah=>?_
    clear hK K;refine ak 5 rfl ?_;refine ak 6 rfl ?_;refine ak 7 rfl ?_;refine ak 8 rfl ?_;refine ak 9 rfl ?_;refine bF 10 rfl ?_;refine bF 11 rfl ?_;refine bF 12 rfl ?_;refine bF 13 rfl ?_;refine bF 14 rfl ?_;refine bF 15 rfl ?_;refine bF 16 rfl ?_;refine bF 17 rfl ?_;refine bF 18 rfl ?_;refine bF 19 rfl ?_;refine bF 20 rfl ?_;refine bF 21 rfl ?_;refine ak 22 rfl ?_;refine ak 23 rfl ?_;refine bW ?_;go_wp2_with refine zX (aL (j:=0) ahB) ?_
    exact⟨⟨1,by omega,by go_num,zH (fun i hi=>by
     obtain rfl:i=0:=by omega
     exact yE.out.2 ⟨rfl,fun j y h _=>by omega⟩),ah⟩,by simp[intOf];omega⟩
   ·obtain⟨j,rfl⟩:∃j,k=j+1:=⟨k-1,by omega⟩
    clear hpos;obtain⟨y,hy,MQ⟩:=kY.out j rfl;have HY:=zH MQ;have Zb:=zH hy;clear hy MQ kY;have hj:j<n:=by omega
    have hj2:j<9223372036854775807:=by omega
    have hj4:j+1<9223372036854775807:=by omega
    have hj3:((j+1:Nat):Int) > 0:=by omega
    cases hlt2:aK.lt y.v.name x.v.name with
    | true=>
     have hb:(!aK.lt y.v.name x.v.name)=false:=by rw[hlt2];rfl
     refine zR HK.out.drew fun ah=>?_
     refine ak 0 rfl ?_;refine ak 1 rfl ?_;refine ak 2 rfl ?_ fun _ s=>bL (i:=j+1) hlt
     refine ak 3 rfl ?_ fun _ s=>eB (off:=o+(j+1)*11) (HX.out _ s.out.b)
     refine aC 4 rfl fun K hK=>?_
     go_simp;go_at_call 83;refine(Zf.out _ ah.out.b).mono ?_;rintro e w5 ⟨rfl,b5⟩;have hs:=zH (ah.out.call b5);clear b5;refine bk hK hs fun ah=>?_
     clear hK K;refine ak 5 rfl ?_;refine ak 6 rfl ?_;refine ak 7 rfl ?_;refine ak 8 rfl ?_;refine ak 9 rfl ?_;refine ak 10 rfl ?_;refine ak 11 rfl ?_;refine ak 12 rfl ?_ fun _ s=>iI (j:=j) hj2
     refine ak 13 rfl ?_ fun _ s=>bL (i:=j) hj
     refine ak 14 rfl ?_;refine ak 15 rfl ?_ fun _ s=>iJ (off:=o+j*11) (HY.out _ s.out.b)
     refine ak 16 rfl ?_;refine ak 17 rfl ?_;refine ak 18 rfl ?_ fun _ s=>bL (i:=j+1) hlt
     refine ak 19 rfl ?_;refine ak 20 rfl ?_ fun _ s=>iJ (off:=o+(j+1)*11) (HX.out _ s.out.b)
     refine ak 21 rfl ?_ fun _ s=>wP hb
     refine ak 22 rfl ?_;refine ak 23 rfl ?_;refine bW ?_;go_wp2_with refine zX (aL (j:=j+1) hj4) ?_
     exact⟨⟨j+2,by omega,by go_num,zH (fun i hi=>by
      by_cases hij:i=j+1
      ·subst hij
       exact abj
      ·exact iA.out i (by omega)),ah⟩,by simp[intOf];omega⟩
    | false=>
     have hb:(!aK.lt y.v.name x.v.name)=true:=by rw[hlt2];rfl
     have HR:Hid (r=false):=zH (gP.out _ hlt fun h=>by
      have:=(yE.out.1 h).2 j y.v rfl Zb.out
      rw[hlt2] at this;cases this)
     refine zR HK.out.drew fun ah=>?_
     refine ak 0 rfl ?_;refine ak 1 rfl ?_;refine ak 2 rfl ?_ fun _ s=>bL (i:=j+1) hlt
     refine ak 3 rfl ?_ fun _ s=>eB (off:=o+(j+1)*11) (HX.out _ s.out.b)
     refine aC 4 rfl fun K hK=>?_
     go_simp;go_at_call 83;refine(Zf.out _ ah.out.b).mono ?_;rintro e w5 ⟨rfl,b5⟩;have hs:=zH (ah.out.call b5);clear b5;refine bk hK hs fun ah=>?_
     clear hK K;refine ak 5 rfl ?_;refine ak 6 rfl ?_;refine ak 7 rfl ?_;refine ak 8 rfl ?_;refine ak 9 rfl ?_;refine ak 10 rfl ?_;refine ak 11 rfl ?_;refine ak 12 rfl ?_ fun _ s=>iI (j:=j) hj2
     refine ak 13 rfl ?_ fun _ s=>bL (i:=j) hj
     refine ak 14 rfl ?_;refine ak 15 rfl ?_ fun _ s=>iJ (off:=o+j*11) (HY.out _ s.out.b)
     refine ak 16 rfl ?_;refine ak 17 rfl ?_;refine ak 18 rfl ?_ fun _ s=>bL (i:=j+1) hlt
     refine ak 19 rfl ?_;refine ak 20 rfl ?_ fun _ s=>iJ (off:=o+(j+1)*11) (HX.out _ s.out.b)
     refine ak 21 rfl ?_ fun _ s=>wP hb
     refine ak 22 rfl ?_;refine ak 23 rfl ?_;exact rQ
  ·obtain rfl:k=n:=by omega
   have HR:Hid (r=true):=zH (iL.out iA.out);exact rP
end
section
def YZ(l:List av.Ob)(t:aH.T)(c:Int):Prop:=Ap.cnt (Ap.W l) c=if Ap.opn (t.get c)=true then 1 else 0
instance (l:List av.Ob) (t:aH.T) (c:Int):Decidable (YZ l t c):=by unfold YZ;infer_instance
theorem qM(n:Int)(A:Option Addr)(k cp:Nat)(t:aH.T)(lo:List Oh)(w:World)(hs:bY w A k cp lo)(hf:aH.Fit t):
  Calls prog 14 #[.agg (stA n A k cp t)] w (cZ (decide (Ap.Ok ⟨n,vs lo,t⟩)) w):=by
 have HK:=iK w 33 (stA n A k cp t);have kF:=zH (fun W (hW:Below w.heap.size w W)=>cK A cp k lo W (hs.later hW));have uT:=zH (fun W=>pq t W hf);have HKn:=zH (fun(h:av.Right (vs lo)) W (hW:Below w.heap.size w W)=>Ko n A k cp t lo W (hs.later hW) h hf);have HWt:=zH (fun(h:av.Right (vs lo)) c W (hW:Below w.heap.size w W)=>Kg n A k cp t lo c W (hs.later hW) h);have iw:Hid (decide (Ap.Ok ⟨n,vs lo,t⟩)=(decide (0≤n)&&decide (av.Right (vs lo))&&decide (aH.Right t)&&decide (Ap.Known (vs lo) t)&&decide (∀c∈([0,1,2,3,4]:List Int),YZ (vs lo) t c))):=zH (Ap.afv ⟨n,vs lo,t⟩);unfold cZ gG at *
 generalize decide (Ap.Ok ⟨n,vs lo,t⟩)=y at *
 clear hs hf;go_enter func14,ntmps14;by_cases h0:0≤n
 case neg=>
  have hy:y=false:=by rw[iw.out,decide_eq_false h0];rfl
  have H0:Hid (decide (n<0)=true):=zH (decide_eq_true (by omega));subst hy;clear HKn HWt kF uT iw;go_wp2_with (first|go_big_skip|refine zX (jL HK 0) ?_|refine zX (bI (m:=n) (n:=0) H0.out) ?_);exact lQ
 case pos=>
 have H0:Hid (decide (n<0)=false):=zH (decide_eq_false (by omega));rw[decide_eq_true h0] at iw;by_cases h1:av.Right (vs lo)
 case neg=>
  rw[decide_eq_false h1] at iw kF;have hy:y=false:=iw.out;subst hy;clear HKn HWt uT iw h1;go_wp2_with (first|go_big_skip|refine zX (jL HK 0) ?_|refine zX (bI (m:=n) (n:=0) H0.out) ?_|refine zX (jl HK 0) ?_);refine cb (kF.out _ HK.out.b) HK ?_;clear HK;intro _ HK;go_wp2_with go_big_skip;exact lQ
 case pos=>
 rw[decide_eq_true h1] at iw kF;by_cases h2:aH.Right t
 case neg=>
  rw[decide_eq_false h2] at iw uT;have hy:y=false:=iw.out;subst hy;clear HKn HWt iw h2;go_wp2_with (first|go_big_skip|refine zX (jL HK 0) ?_|refine zX (bI (m:=n) (n:=0) H0.out) ?_|refine zX (jl HK 0) ?_);refine cb (kF.out _ HK.out.b) HK ?_;clear HK;intro _ HK;go_wp2_with (first|go_big_skip|refine zX (eU HK 0) ?_);refine cb (uT.out _) HK ?_;clear HK;intro _ HK;go_wp2_with go_big_skip;exact lQ
 case pos=>
 rw[decide_eq_true h2] at iw uT;by_cases h3:Ap.Known (vs lo) t
 case neg=>
  rw[decide_eq_false h3] at iw HKn;have hy:y=false:=iw.out;subst hy;clear HWt iw h2 h3;go_wp2_with (first|go_big_skip|refine zX (jL HK 0) ?_|refine zX (bI (m:=n) (n:=0) H0.out) ?_|refine zX (jl HK 0) ?_);refine cb (kF.out _ HK.out.b) HK ?_;clear HK;intro _ HK;go_wp2_with (first|go_big_skip|refine zX (eU HK 0) ?_);refine cb (uT.out _) HK ?_;clear HK;intro _ HK;go_wp2_with (first|go_big_skip|refine zX (iB HK 0) ?_);refine cb (HKn.out h1 _ HK.out.b) HK ?_;clear HK;intro _ HK;go_wp2_with go_big_skip;exact lQ
 case pos=>
 rw[decide_eq_true h3] at iw HKn
 have gP:Hid (∀c:Int,0≤c∧c<5→¬YZ (vs lo) t c→y=false):=zH fun c hc h=>by
  rw[iw.out];exact decide_eq_false fun g=>h (g c (Ap.five.2 hc))
 have iL:Hid ((∀c:Int,0≤c∧c<5→YZ (vs lo) t c)→y=true):=zH fun h=>by
  rw[iw.out];exact decide_eq_true fun c hc=>h c (Ap.five.1 hc)
 clear iw h2 h3;go_wp2_with (first|go_big_skip|refine zX (jL HK 0) ?_|refine zX (bI (m:=n) (n:=0) H0.out) ?_|refine zX (jl HK 0) ?_);refine cb (kF.out _ HK.out.b) HK ?_;clear HK;intro _ HK;go_wp2_with (first|go_big_skip|refine zX (eU HK 0) ?_);refine cb (uT.out _) HK ?_;clear HK;intro _ HK;go_wp2_with (first|go_big_skip|refine zX (iB HK 0) ?_);refine cb (HKn.out h1 _ HK.out.b) HK ?_;clear HK;intro _ HK;go_wp2_with go_big_skip;clear kF uT HKn H0 h0;go_loopw [3] (fun v3 wr=>∃i:Nat,i≤5∧v3=.int .i64 i∧Hid (∀c:Int,0≤c∧c<i→YZ (vs lo) t c)∧Hid (Kn w.heap.size w wr [(w.heap.size,33,stA n A k cp t)] [])) (fun v3 _=>5-(intOf v3).toNat)
 case atStart=>exact⟨0,by omega,rfl,zH (fun c hc=>by omega),HK⟩
 case round=>
  clear HK;obtain⟨i,hi,rfl,HG,HK⟩:=hrel;have hi1:(0:Int)≤(i:Int):=by omega
  by_cases hlt:i<5
  case neg=>
   obtain rfl:i=5:=by omega
   have hy:=iL.out HG.out;subst hy;clear gP iL HG;exact iU
  case pos=>
  have hi2:(i:Int)<5:=by omega
  have hi3:i<9223372036854775807:=by omega
  have hc:0≤(i:Int)∧(i:Int)<5:=⟨hi1,hi2⟩;obtain⟨q,hq⟩:∃q,decide (YZ (vs lo) t (i:Int))=q:=⟨_,rfl⟩
  have Zc:Hid (q=true→∀c:Int,0≤c∧c<((i+1:Nat):Int)→YZ (vs lo) t c):=zH fun h c hc2=>by
   by_cases e:c=(i:Int)
   ·rw[e];rw[h] at hq;exact of_decide_eq_true hq
   ·exact HG.out c (by omega)
  have mJ:Hid (q=false→y=false):=zH fun h=>by rw[h] at hq;exact gP.out _ hc (of_decide_eq_false hq)
  obtain⟨b1,hb1⟩:∃b,decide (0<(t.get (i:Int)).ep)=b:=⟨_,rfl⟩;obtain⟨b2,hb2⟩:∃b,(t.get (i:Int)).dn=b:=⟨_,rfl⟩;have E1:=zH hb1;have E2:=zH hb2;have hop:Ap.opn (t.get (i:Int))=(b1&&!b2):=by unfold Ap.opn;rw[hb1,hb2]
  have HN:Hid (∀K:Nat,(if (b1&&!b2)=true then 1 else 0)=K→(!decide (((Ap.cnt (Ap.W (vs lo)) (i:Int):Nat):Int)=(K:Int)))=!q):=zH fun K hK=>by
   rw[← hq]
   congr 1
   refine decide_eq_decide.2 ?_;unfold YZ;rw[hop,hK]
   constructor
   ·intro h;omega
   ·intro h;rw[h]
  clear hb1 hb2 hop hq HG
  cases b1 with
  | false=>
   have WW:Hid ((!decide (((Ap.cnt (Ap.W (vs lo)) (i:Int):Nat):Int)=0))=!q):=zH (HN.out 0 rfl);go_wp2_with (first|go_big_skip|refine zX (dV hc) ?_|refine zX (Uf HK 0 hc) ?_|refine zX (bT (m:=(t.get (i:Int)).ep) (n:=0) E1.out) ?_|refine zX (iB HK 0) ?_);refine cb (HWt.out h1 (i:Int) _ HK.out.b) HK ?_;clear HK;intro _ HK;cases q with|true=>(have WV:=zH (Zc.out rfl);clear Zc;go_wp2_with (first|refine zX (bH (m:=(Ap.cnt (Ap.W (vs lo)) (i:Int):Nat)) (n:=0) WW.out) ?_|refine zX (aL (j:=i) hi3) ?_);exact⟨⟨i+1,hlt,rfl,WV,HK⟩,by simp[intOf];omega⟩)|false=>(have hy:=mJ.out rfl;subst hy;clear gP iL Zc mJ;go_wp2_with refine zX (bH (m:=(Ap.cnt (Ap.W (vs lo)) (i:Int):Nat)) (n:=0) WW.out) ?_;go_ret;exact⟨rfl,HK.out.b⟩)
  | true=>
   cases b2 with
   | true=>
    have WW:Hid ((!decide (((Ap.cnt (Ap.W (vs lo)) (i:Int):Nat):Int)=0))=!q):=zH (HN.out 0 rfl);go_wp2_with (first|go_big_skip|refine zX (dV hc) ?_|refine zX (Uf HK 0 hc) ?_|refine zX (bT (m:=(t.get (i:Int)).ep) (n:=0) E1.out) ?_|refine zX ((aaz HK 0 hc).trans (by rw[E2.out])) ?_|refine zX (iB HK 0) ?_);refine cb (HWt.out h1 (i:Int) _ HK.out.b) HK ?_;clear HK;intro _ HK;cases q with|true=>(have WV:=zH (Zc.out rfl);clear Zc;go_wp2_with (first|refine zX (bH (m:=(Ap.cnt (Ap.W (vs lo)) (i:Int):Nat)) (n:=0) WW.out) ?_|refine zX (aL (j:=i) hi3) ?_);exact⟨⟨i+1,hlt,rfl,WV,HK⟩,by simp[intOf];omega⟩)|false=>(have hy:=mJ.out rfl;subst hy;clear gP iL Zc mJ;go_wp2_with refine zX (bH (m:=(Ap.cnt (Ap.W (vs lo)) (i:Int):Nat)) (n:=0) WW.out) ?_;go_ret;exact⟨rfl,HK.out.b⟩)
   | false=>
    have WW:Hid ((!decide (((Ap.cnt (Ap.W (vs lo)) (i:Int):Nat):Int)=1))=!q):=zH (HN.out 1 rfl);go_wp2_with (first|go_big_skip|refine zX (dV hc) ?_|refine zX (Uf HK 0 hc) ?_|refine zX (bT (m:=(t.get (i:Int)).ep) (n:=0) E1.out) ?_|refine zX ((aaz HK 0 hc).trans (by rw[E2.out])) ?_|refine zX (iB HK 0) ?_);refine cb (HWt.out h1 (i:Int) _ HK.out.b) HK ?_;clear HK;intro _ HK;cases q with|true=>(have WV:=zH (Zc.out rfl);clear Zc;go_wp2_with (first|refine zX (bH (m:=(Ap.cnt (Ap.W (vs lo)) (i:Int):Nat)) (n:=1) WW.out) ?_|refine zX (aL (j:=i) hi3) ?_);exact⟨⟨i+1,hlt,rfl,WV,HK⟩,by simp[intOf];omega⟩)|false=>(have hy:=mJ.out rfl;subst hy;clear gP iL Zc mJ;go_wp2_with refine zX (bH (m:=(Ap.cnt (Ap.W (vs lo)) (i:Int):Nat)) (n:=1) WW.out) ?_;go_ret;exact⟨rfl,HK.out.b⟩)
end
section
theorem AJ(x y:Rf)(w:World):Calls prog 194 #[.agg #[.int .i64 x.c,.int .i64 x.e,.int .i64 x.r],.agg #[.int .i64 y.c,.int .i64 y.e,.int .i64 y.r]] w (cZ (decide (aS.mine x y)) w):=by
 have HE:Hid (∀q:Bool,(q=true↔(x.c=y.c∧x.e=y.e))→q=decide (aS.mine x y)):=zH fun q hq=>by
  exact FW
 generalize decide (aS.mine x y)=r at *
 obtain⟨c,ep,rq⟩:=x;obtain⟨c2,ep2,rq2⟩:=y;simp only at HE ⊢;by_cases hc:c=c2
 ·subst hc
  have HK:=kX w 35 #[.int .i64 c,.int .i64 ep,.int .i64 rq] 35 #[.int .i64 c,.int .i64 ep2,.int .i64 rq2];go_enter func194,ntmps194;go_wp2_with fail;go_ret;refine⟨congrArg (fun b=>Ending.returned (.bool b)) (HE.out _ ?_),HK.out.b⟩;clear HE HK
  simp_all
 ·have hc2:(c==c2)=false:=by simpa using hc
  have HK:=kX w 35 #[.int .i64 c,.int .i64 ep,.int .i64 rq] 35 #[.int .i64 c2,.int .i64 ep2,.int .i64 rq2];go_enter func194,ntmps194;go_wp2_with fail;go_ret;refine⟨congrArg (fun b=>Ending.returned (.bool b)) (HE.out _ ?_),HK.out.b⟩;clear HE HK
  simp_all
end
end Go.Proofs.YtieoeendnccafaaGreat
