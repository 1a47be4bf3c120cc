/- What cmp.Or and Check return. No condition but those named. -/
import Derived.Test.YtieoeendnccafaaGreatNAL
set_option linter.unusedSimpArgs false
set_option linter.unusedVariables false
set_option maxRecDepth 100000
set_option maxHeartbeats 25600000
open Go.RowKit
namespace Go.Proofs.YtieoeendnccafaaGreat
open _root_.Go.Proofs.Tryz
section
theorem NZ(A:Option Addr)(c n:Nat)(l:List Rf)(q:Int)(w:World)(hs:bJ aG rF w A n c l):
  Calls prog 273 #[.slice A n c,.int .i64 q] w (cZ (aS.asked l q) w):=by
 obtain⟨hyes,hno⟩:=aS.jI hs.len q;have iL:=zH hyes;have gP:=zH hno;have HS:=zH hs;have HK:=zH (Kn.start w)
 have hn63:n<9223372036854775807:=by
  exact FV
 clear hs hyes hno;generalize aS.asked l q=r at *
 go_enter func273,ntmps273;go_wp2_with fail;go_loopw [9] (fun vi wr=>∃k:Nat,k≤n∧vi=.int .i64 k∧Hid (∀(i:Nat) x,i<k→l[i]?=some x→¬x.c=q)∧Hid (Kn w.heap.size w wr [] [])) (fun vi _=>n-(intOf vi).toNat)
 case atStart=>exact⟨0,Nat.zero_le _,rfl,zH (fun i v hi=>by omega),HK⟩
 case round=>
  clear HK;obtain⟨k,hk,rfl,iA,HK⟩:=hrel;have hk1:(0:Int)≤(k:Int):=by omega
  by_cases hlt:k<n
  ·have hk2:(k:Int)<(n:Int):=by omega
   have hk3:k<9223372036854775807:=by omega
   obtain⟨x,hx,_⟩:=HS.out.get hlt;obtain⟨b,o,rfl,hat⟩:=HS.out.at (Nat.lt_of_le_of_lt (Nat.zero_le _) hlt);have HX:=zH (fun W hW=>hat W hW k x hx);have HY:=zH (iL.out k x hx)
   have nZ:Hid (¬x.c=q→∀(i:Nat) v,i<k+1→l[i]?=some v→¬v.c=q):=zH fun h i v hi hv=>by
    by_cases hik:i=k
    ·subst hik;rw[hx] at hv;injection hv with hv;subst hv;exact h
    ·exact iA.out i v (by omega) hv
   clear hat hx;by_cases he:x.c=q
   ·have HR:=zH (HY.out he)
    have he2:(x.c==q)=true:=by simpa using he
    clear he nZ HY;go_wp2_with (first|refine zX (bV (x:=x) (off:=o+k*3) (HX.out _ HK.out.b)) ?_|(refine aQ HK ?_;clear HK;intro _ g2 HK;simp only[aO,aJ] at HK)|(refine aW HK 0 ?_;clear HK;intro _ HK;simp only[lS] at HK)|refine zX (fH HK 0) ?_);exact abv
   ·have he2:(x.c==q)=false:=by simpa using he
    exact aez
  ·obtain rfl:k=n:=by omega
   have HR:=zH (gP.out iA.out);exact rP
theorem vK(m:Int)(A:Option Addr)(c n:Nat)(l:List Rf)(w:World)(hs:bJ aG rF w A n c l):
  Calls prog 145 #[.int .i64 m,.slice A n c] w (cZ (decide (Gt.Right m l)) w):=by
 have HM:=zH (fun W (hW:Below w.heap.size w W)=>nM A c n l W (hs.later hW));have HK:=zH (Kn.start w);have hlen:=hs.len;unfold cZ at *
 by_cases h1:1≤m
 case neg=>
  rw[decide_eq_false (fun h=>h1 h.1)];clear hs hlen HM;go_enter func145,ntmps145;exact iU
 by_cases h2:m≤5
 case neg=>
  rw[decide_eq_false (fun h=>h2 h.2.1)];clear hs hlen HM;go_enter func145,ntmps145;exact iU
 by_cases h3:(n:Int)<m
 case neg=>
  rw[decide_eq_false (fun h=>h3 (by rw[← hlen];exact h.2.2.1))];clear hs hlen HM;go_enter func145,ntmps145;exact iU
 have he:decide (Gt.Right m l)=decide (aS.Right l):=decide_eq_decide.2 ⟨fun h=>h.2.2.2,fun h=>⟨h1,h2,by rw[hlen];exact h3,h⟩⟩;rw[he];clear hs hlen he;generalize decide (aS.Right l)=b at *
 go_enter func145,ntmps145;exact ZR
theorem sG(m:Int)(A:Option Addr)(c n:Nat)(l:List Rf)(w:World)(hs:bJ aG rF w A n c l):
  Calls prog 152 #[.int .i64 m,.slice A n c] w (cZ (decide (Gt.Right m l)) w):=by
 have HM:=zH (fun W (hW:Below w.heap.size w W)=>lU A c n l W (hs.later hW));have HK:=zH (Kn.start w);have hlen:=hs.len;unfold cZ at *
 by_cases h1:1≤m
 case neg=>
  rw[decide_eq_false (fun h=>h1 h.1)];clear hs hlen HM;go_enter func152,ntmps152;exact iU
 by_cases h2:m≤5
 case neg=>
  rw[decide_eq_false (fun h=>h2 h.2.1)];clear hs hlen HM;go_enter func152,ntmps152;exact iU
 by_cases h3:(n:Int)<m
 case neg=>
  rw[decide_eq_false (fun h=>h3 (by rw[← hlen];exact h.2.2.1))];clear hs hlen HM;go_enter func152,ntmps152;exact iU
 have he:decide (Gt.Right m l)=decide (aS.Right l):=decide_eq_decide.2 ⟨fun h=>h.2.2.2,fun h=>⟨h1,h2,by rw[hlen];exact h3,h⟩⟩;rw[he];clear hs hlen he;generalize decide (aS.Right l)=b at *
 go_enter func152,ntmps152;exact ZR
end
section
theorem vG(x:mG)(hf:Mt.Fit x)(w:World):
  Calls prog 146 #[.agg #[.int .i64 x.n,.int .u64 (x.s:Int),.int .u64 (x.l:Int),.int .u64 (x.m:Int)]] w (cZ (decide (Mt.Ok x)) w):=by
 obtain⟨n,s,l,m⟩:=x;obtain⟨_,f1,f2,f3⟩:=hf;dsimp only at f1 f2 f3;have H1:=zH (fun w=>iH s w f1);have H2:=zH (fun w=>iH l w f2);have H3:=zH (fun w=>iH m w f3);have H4:=zH (fun w=>Fu l m w f2 f3);have HT:=zH (fun w=>LU n s l m w);have HK:=iK w 61 (mC n s l m);unfold cZ;by_cases hn:0<n
 case neg=>
  have HE:Hid (decide ((⟨n,s,l,m⟩:mG)=⟨0,0,0,0⟩)=decide (Mt.Ok ⟨n,s,l,m⟩)):=zH (Mt.ok_none hn);generalize decide (Mt.Ok ⟨n,s,l,m⟩)=b at *
  go_enter func146,ntmps146;go_wp2_with (first|refine zX (bB HK 0) ?_|refine zX (Io (x:=⟨n,s,l,m⟩) (y:=⟨0,0,0,0⟩) HE.out) ?_);exact lQ
 case pos=>
 clear f1 f2 f3;by_cases hs:Num.M s=s
 case neg=>
  have hok:decide (Mt.Ok ⟨n,s,l,m⟩)=false:=decide_eq_false (Mt.aho hn hs);rw[hok];have hne:((Num.M s:Int) != (s:Int))=true:=by rw[bne_iff_ne];omega
  clear hok hs;generalize Num.M s=t at *
  go_enter func146,ntmps146;go_wp2_with refine zX (bB HK 0) ?_;refine cb (HT.out _) HK ?_;clear HK;intro _ HK;go_wp2_with (first|(refine qH HK ?_;clear HK;intro _ g3 HK;simp only[aO,aJ] at HK)|(refine tL HK 1 ?_;clear HK;intro _ HK;simp only[lS] at HK));refine wp_loop_rounds 4 ?_;rw[rounds_succ];go_wp2_with (first|refine zX (wI HK 1) ?_|(refine aN HK ?_;clear HK;intro _ g5 HK;simp only[aO,aJ] at HK)|(refine aM (f2:=s) HK 2 ?_;clear HK;intro _ HK;simp only[lS] at HK));refine zR HK.out.drew fun ah=>?_
  refine ak 0 rfl ?_;refine ak 1 rfl ?_ fun _ s=>fA s 2
  refine ak 3 rfl ?_;refine ak 4 rfl ?_ fun _ s=>fA s 2
  refine aC 2 rfl fun K hK=>?_
  go_simp;go_at_call 181;refine(H1.out _).mono ?_;rintro e w5 ⟨rfl,rfl⟩;have hs:=ah;refine bk hK hs fun ah=>?_
  clear hK K;refine ak 5 rfl ?_;refine bW ?_;replace HK:=zH (ah.out.aA 2);clear ah;simp only[List.take] at HK;exact iU
 case pos=>
 rw[hs] at H1;by_cases hl:Num.M l=l
 case neg=>
  have hok:decide (Mt.Ok ⟨n,s,l,m⟩)=false:=decide_eq_false (Mt.ahq hn hl);rw[hok];have hne:((Num.M l:Int) != (l:Int))=true:=by rw[bne_iff_ne];omega
  clear hok hl;generalize Num.M l=t at *
  go_enter func146,ntmps146;go_wp2_with refine zX (bB HK 0) ?_;refine cb (HT.out _) HK ?_;clear HK;intro _ HK;go_wp2_with (first|(refine qH HK ?_;clear HK;intro _ g3 HK;simp only[aO,aJ] at HK)|(refine tL HK 1 ?_;clear HK;intro _ HK;simp only[lS] at HK));refine wp_loop_rounds 4 ?_;rw[rounds_succ];go_wp2_with (first|refine zX (wI HK 1) ?_|(refine aN HK ?_;clear HK;intro _ g5 HK;simp only[aO,aJ] at HK)|(refine aM (f2:=s) HK 2 ?_;clear HK;intro _ HK;simp only[lS] at HK));refine zR HK.out.drew fun ah=>?_
  refine ak 0 rfl ?_;refine ak 1 rfl ?_ fun _ s=>fA s 2
  refine ak 3 rfl ?_;refine ak 4 rfl ?_ fun _ s=>fA s 2
  refine aC 2 rfl fun K hK=>?_
  go_simp;go_at_call 181;refine(H1.out _).mono ?_;rintro e w5 ⟨rfl,rfl⟩;have hs:=ah;refine bk hK hs fun ah=>?_
  clear hK K;refine ak 5 rfl ?_;refine bW ?_;replace HK:=zH (ah.out.aA 2);clear ah;simp only[List.take] at HK;go_wp2_with fail;rw[rounds_succ];go_wp2_with (first|refine zX (AZ HK 1) ?_|(refine aN HK ?_;clear HK;intro _ g5 HK;simp only[aO,aJ] at HK)|(refine aM (f2:=l) HK 2 ?_;clear HK;intro _ HK;simp only[lS] at HK));refine zR HK.out.drew fun ah=>?_
  refine ak 0 rfl ?_;refine ak 1 rfl ?_ fun _ s=>fA s 2
  refine ak 3 rfl ?_;refine ak 4 rfl ?_ fun _ s=>fA s 2
  refine aC 2 rfl fun K hK=>?_
  go_simp;go_at_call 181;refine(H2.out _).mono ?_;rintro e w5 ⟨rfl,rfl⟩;have hs:=ah;refine bk hK hs fun ah=>?_
  clear hK K;refine ak 5 rfl ?_;refine bW ?_;replace HK:=zH (ah.out.aA 2);clear ah;simp only[List.take] at HK;exact iU
 case pos=>
 rw[hl] at H2;by_cases hm:Num.M m=m
 case neg=>
  have hok:decide (Mt.Ok ⟨n,s,l,m⟩)=false:=decide_eq_false (Mt.ahp hn hm);rw[hok];have hne:((Num.M m:Int) != (m:Int))=true:=by rw[bne_iff_ne];omega
  clear hok hm;generalize Num.M m=t at *
  go_enter func146,ntmps146;go_wp2_with refine zX (bB HK 0) ?_;refine cb (HT.out _) HK ?_;clear HK;intro _ HK;go_wp2_with (first|(refine qH HK ?_;clear HK;intro _ g3 HK;simp only[aO,aJ] at HK)|(refine tL HK 1 ?_;clear HK;intro _ HK;simp only[lS] at HK));refine wp_loop_rounds 4 ?_;rw[rounds_succ];go_wp2_with (first|refine zX (wI HK 1) ?_|(refine aN HK ?_;clear HK;intro _ g5 HK;simp only[aO,aJ] at HK)|(refine aM (f2:=s) HK 2 ?_;clear HK;intro _ HK;simp only[lS] at HK));refine zR HK.out.drew fun ah=>?_
  refine ak 0 rfl ?_;refine ak 1 rfl ?_ fun _ s=>fA s 2
  refine ak 3 rfl ?_;refine ak 4 rfl ?_ fun _ s=>fA s 2
  refine aC 2 rfl fun K hK=>?_
  go_simp;go_at_call 181;refine(H1.out _).mono ?_;rintro e w5 ⟨rfl,rfl⟩;have hs:=ah;refine bk hK hs fun ah=>?_
  clear hK K;refine ak 5 rfl ?_;refine bW ?_;replace HK:=zH (ah.out.aA 2);clear ah;simp only[List.take] at HK;go_wp2_with fail;rw[rounds_succ];go_wp2_with (first|refine zX (AZ HK 1) ?_|(refine aN HK ?_;clear HK;intro _ g5 HK;simp only[aO,aJ] at HK)|(refine aM (f2:=l) HK 2 ?_;clear HK;intro _ HK;simp only[lS] at HK));refine zR HK.out.drew fun ah=>?_
  refine ak 0 rfl ?_;refine ak 1 rfl ?_ fun _ s=>fA s 2
  refine ak 3 rfl ?_;refine ak 4 rfl ?_ fun _ s=>fA s 2
  refine aC 2 rfl fun K hK=>?_
  go_simp;go_at_call 181;refine(H2.out _).mono ?_;rintro e w5 ⟨rfl,rfl⟩;have hs:=ah;refine bk hK hs fun ah=>?_
  clear hK K;refine ak 5 rfl ?_;refine bW ?_;replace HK:=zH (ah.out.aA 2);clear ah;simp only[List.take] at HK;go_wp2_with fail;rw[rounds_succ];go_wp2_with (first|refine zX (Ho HK 1) ?_|(refine aN HK ?_;clear HK;intro _ g5 HK;simp only[aO,aJ] at HK)|(refine aM (f2:=m) HK 2 ?_;clear HK;intro _ HK;simp only[lS] at HK));refine zR HK.out.drew fun ah=>?_
  refine ak 0 rfl ?_;refine ak 1 rfl ?_ fun _ s=>fA s 2
  refine ak 3 rfl ?_;refine ak 4 rfl ?_ fun _ s=>fA s 2
  refine aC 2 rfl fun K hK=>?_
  go_simp;go_at_call 181;refine(H3.out _).mono ?_;rintro e w5 ⟨rfl,rfl⟩;have hs:=ah;refine bk hK hs fun ah=>?_
  clear hK K;refine ak 5 rfl ?_;refine bW ?_;replace HK:=zH (ah.out.aA 2);clear ah;simp only[List.take] at HK;exact iU
 case pos=>
  rw[hm] at H3;have hok:decide (Mt.Ok ⟨n,s,l,m⟩)=decide (Num.cmp l m≤0):=decide_eq_decide.2 (Mt.TQ hn hs hl hm);rw[hok];clear hok;generalize Num.cmp l m=c at *
  clear hs hl hm;go_enter func146,ntmps146;go_wp2_with refine zX (bB HK 0) ?_;refine cb (HT.out _) HK ?_;clear HK;intro _ HK;go_wp2_with (first|(refine qH HK ?_;clear HK;intro _ g3 HK;simp only[aO,aJ] at HK)|(refine tL HK 1 ?_;clear HK;intro _ HK;simp only[lS] at HK));refine wp_loop_rounds 4 ?_;rw[rounds_succ];go_wp2_with (first|refine zX (wI HK 1) ?_|(refine aN HK ?_;clear HK;intro _ g5 HK;simp only[aO,aJ] at HK)|(refine aM (f2:=s) HK 2 ?_;clear HK;intro _ HK;simp only[lS] at HK));refine zR HK.out.drew fun ah=>?_
  refine ak 0 rfl ?_;refine ak 1 rfl ?_ fun _ s=>fA s 2
  refine ak 3 rfl ?_;refine ak 4 rfl ?_ fun _ s=>fA s 2
  refine aC 2 rfl fun K hK=>?_
  go_simp;go_at_call 181;refine(H1.out _).mono ?_;rintro e w5 ⟨rfl,rfl⟩;have hs:=ah;refine bk hK hs fun ah=>?_
  clear hK K;refine ak 5 rfl ?_;refine bW ?_;replace HK:=zH (ah.out.aA 2);clear ah;simp only[List.take] at HK;go_wp2_with fail;rw[rounds_succ];go_wp2_with (first|refine zX (AZ HK 1) ?_|(refine aN HK ?_;clear HK;intro _ g5 HK;simp only[aO,aJ] at HK)|(refine aM (f2:=l) HK 2 ?_;clear HK;intro _ HK;simp only[lS] at HK));refine zR HK.out.drew fun ah=>?_
  refine ak 0 rfl ?_;refine ak 1 rfl ?_ fun _ s=>fA s 2
  refine ak 3 rfl ?_;refine ak 4 rfl ?_ fun _ s=>fA s 2
  refine aC 2 rfl fun K hK=>?_
  go_simp;go_at_call 181;refine(H2.out _).mono ?_;rintro e w5 ⟨rfl,rfl⟩;have hs:=ah;refine bk hK hs fun ah=>?_
  clear hK K;refine ak 5 rfl ?_;refine bW ?_;replace HK:=zH (ah.out.aA 2);clear ah;simp only[List.take] at HK;go_wp2_with fail;rw[rounds_succ];go_wp2_with (first|refine zX (Ho HK 1) ?_|(refine aN HK ?_;clear HK;intro _ g5 HK;simp only[aO,aJ] at HK)|(refine aM (f2:=m) HK 2 ?_;clear HK;intro _ HK;simp only[lS] at HK));refine zR HK.out.drew fun ah=>?_
  refine ak 0 rfl ?_;refine ak 1 rfl ?_ fun _ s=>fA s 2
  refine ak 3 rfl ?_;refine ak 4 rfl ?_ fun _ s=>fA s 2
  refine aC 2 rfl fun K hK=>?_
  go_simp;go_at_call 181;refine(H3.out _).mono ?_;rintro e w5 ⟨rfl,rfl⟩;have hs:=ah;refine bk hK hs fun ah=>?_
  clear hK K;refine ak 5 rfl ?_;refine bW ?_;replace HK:=zH (ah.out.aA 2);clear ah;simp only[List.take] at HK;go_wp2_with fail;rw[rounds_succ];go_wp2_with (first|refine zX (fZ HK 0) ?_|refine zX (gV HK 0) ?_);refine(H4.out _).mono ?_;rintro e w1 ⟨rfl,rfl⟩;exact iU
end
section
theorem Ox(x:Oh)(w:World)(hx:In w x):Calls prog 80 #[.agg (bS x)] w (cZ (av.sound x.v) w):=by
 have HI:=zH hx;have HK:=iK w 63 (bS x);have HD:=zH CU;have HQ:=zH Av;have HL:=zH nM;have HG:=zH vK;have HM:=zH vG;clear hx;unfold cZ av.sound at *
 by_cases h1:x.v.kind=1
 ·rw[if_pos h1]
  go_enter func80,ntmps80;go_wp2_with (first|refine zX (iM HK 0) ?_|refine zX (mK HK 0) ?_);refine cb (HD.out _ _ _ _ _ (HI.out.p.later HK.out.b)) HK ?_;clear HK;intro _ HK;exact iU
 rw[if_neg h1];by_cases h2:x.v.kind=2
 ·rw[if_pos h2]
  go_enter func80,ntmps80;go_wp2_with (first|refine zX (iM HK 0) ?_|refine zX (jP HK 0) ?_|refine zX (rM HK 0) ?_);refine cb (HQ.out _ _ _ _ _ _ (HI.out.v.later HK.out.b)) HK ?_;clear HK;intro _ HK;exact iU
 rw[if_neg h2];by_cases h3:x.v.kind=3
 ·rw[if_pos h3]
  go_enter func80,ntmps80;go_wp2_with (first|refine zX (iM HK 0) ?_|refine zX (gK HK 0) ?_);refine cb (HL.out _ _ _ _ _ (HI.out.r.later HK.out.b)) HK ?_;clear HK;intro _ HK;exact iU
 rw[if_neg h3];by_cases h4:x.v.kind=4
 ·rw[if_pos h4]
  generalize hg:decide (Gt.Right x.v.cap x.v.refs)=gb;have HGb:=zH hg;clear hg;cases gb
  ·go_enter func80,ntmps80
   go_wp2_with (first|refine zX (iM HK 0) ?_|refine zX (jP HK 0) ?_|refine zX (gK HK 0) ?_);refine(HG.out _ _ _ _ _ _ (HI.out.r.later HK.out.b)).mono ?_;rintro e w1 ⟨rfl,b1⟩;rw[HGb.out];replace HK:=iy HK b1;clear b1;exact iU
  ·go_enter func80,ntmps80
   go_wp2_with (first|refine zX (iM HK 0) ?_|refine zX (jP HK 0) ?_|refine zX (gK HK 0) ?_);refine(HG.out _ _ _ _ _ _ (HI.out.r.later HK.out.b)).mono ?_;rintro e w1 ⟨rfl,b1⟩;rw[HGb.out];replace HK:=iy HK b1;clear b1;go_wp2_with refine zX (yO HK 0) ?_;exact lQ
 rw[if_neg h4];by_cases h5:x.v.kind=5
 ·rw[if_pos h5]
  go_enter func80,ntmps80;go_wp2_with (first|refine zX (iM HK 0) ?_|refine zX (AX HK 0) ?_);refine cb (HM.out x.v.mt HI.out.m _) HK ?_;clear HK;intro _ HK;exact iU
 ·rw[if_neg h5]
  go_enter func80,ntmps80;go_wp2_with refine zX (iM HK 0) ?_;exact lQ
end
section
theorem vE(A:Option Addr)(c n:Nat)(l:List Oh)(w:World)(hs:bY w A n c l):
  Calls prog 35 #[.slice A n c] w (cZ (decide (av.Right (vs l))) w):=by
 unfold cZ;by_cases hn:8<n
 ·have hd:decide (av.Right (vs l))=false:=decide_eq_false fun h=>by have:=h.len;rw[fF,hs.len] at this;omega
  rw[hd];have hn2:8<(n:Int):=by omega
  clear hs hd;go_enter func35,ntmps35;exact LK
 have HS:=zH hs;obtain⟨hno,hyes⟩:=av.gJ (l:=vs l) (by rw[fF];exact hs.len) (by omega:n≤8);have gP:=zH hno;have iL:=zH hyes;clear hs hno hyes;generalize decide (av.Right (vs l))=r at *
 have hn2:¬8<(n:Int):=by omega
 have HK:=zH (Kn.start w);go_enter func35,ntmps35;go_wp2_with fail;go_loopw [10] (fun vi wr=>∃k:Nat,k≤n∧vi=.int .i64 k∧Hid (∀i,i<k→av.Good (vs l) i)∧Hid (Kn w.heap.size w wr [] [])) (fun vi _=>n-(intOf vi).toNat)
 case atStart=>exact⟨0,Nat.zero_le _,rfl,zH (fun i hi=>by omega),HK⟩
 case round=>
  clear HK;obtain⟨k,hk,rfl,iA,HK⟩:=hrel;by_cases hlt:k<n
  ·obtain⟨x,hx,hin⟩:=HS.out.get hlt
   obtain⟨b,o,rfl,hat⟩:=HS.out.s.at (Nat.lt_of_le_of_lt (Nat.zero_le _) hlt);have HX:Hid (∀W,Below w.heap.size w W→∀j v,(vR x)[j]?=some v→W.cell? ⟨b,o+k*11+j,none⟩=some v):=zH (fun W hW=>hat W hW k x hx)
   have kY:Hid (∀j,k=j+1→∃y:Oh,(vs l)[j]?=some y.v∧∀W,Below w.heap.size w W→∀i v,(vR y)[i]?=some v→W.cell? ⟨b,o+j*11+i,none⟩=some v):=zH fun j hj=>by
    exact ZF
   have HNm:=zH (fun W=>Ka x.v.name W);have zT:=zH (fun W (hW:Below w.heap.size w W)=>Qs x W (hin.later hW));have Jt:=zH (fun W (hW:Below w.heap.size w W)=>Ox x W (hin.later hW));have hxv:=dL hx;have yE:Hid (av.Good (vs l) k↔(av.One x.v=true∧∀j y,k=j+1→(vs l)[j]?=some y→aK.lt y.name x.v.name=true)):=zH ⟨fun h=>h _ hxv,fun h x' hx'=>by rw[hxv] at hx';injection hx' with hx';subst hx';exact h⟩;unfold av.One at yE;unfold cZ at HNm zT Jt;clear hat hin hx hxv;generalize decide (av.named x.v.name)=q0 at *
   generalize av.clean x.v=q1 at *
   generalize av.sound x.v=q2 at *
   have hk1:(0:Int)≤(k:Int):=by omega
   have hk2:(k:Int)<(n:Int):=by omega
   go_wp2_with (first|(refine au (v:=.agg (bS x)) (eB (off:=o+k*11) (HX.out _ HK.out.b)) ?_)|(refine gY HK ?_;clear HK;intro _ g2 HK;simp only[aJ] at HK)|(refine fD HK 0 ?_;clear HK;intro _ HK;simp only[lS] at HK))
   cases q0 with
   | false=>
    have HR:Hid (r=false):=zH (gP.out k hlt fun h=>by have:=(yE.out.1 h).1;simp at this);refine zR HK.out.drew fun ah=>?_
    refine ak 0 rfl ?_;refine ak 1 rfl ?_ fun _ s=>lW s 0
    refine aC 2 rfl fun K hK=>?_
    go_simp;go_at_call 78;refine(HNm.out _).mono ?_;rintro e w5 ⟨rfl,b5⟩;have hs:=zH (ah.out.call b5);clear b5;refine bk hK hs fun ah=>?_
    clear hK K;refine ak 3 rfl ?_;refine ak 4 rfl ?_;refine bF 5 rfl ?_;refine bF 6 rfl ?_;refine bF 7 rfl ?_;refine ak 8 rfl ?_;refine ak 9 rfl ?_;refine bF 10 rfl ?_;refine bF 11 rfl ?_;refine bF 12 rfl ?_;refine ak 13 rfl ?_;refine ak 14 rfl ?_;refine bF 15 rfl ?_;refine bF 16 rfl ?_;refine bF 17 rfl ?_;refine bF 18 rfl ?_;refine bF 19 rfl ?_;refine bF 20 rfl ?_;refine bF 21 rfl ?_;refine bF 22 rfl ?_;refine bF 23 rfl ?_;refine bF 24 rfl ?_;refine bF 25 rfl ?_;refine bF 26 rfl ?_;refine bF 27 rfl ?_;refine ak 28 rfl ?_;exact rQ
   | true=>
   cases q1 with
   | false=>
    have HR:Hid (r=false):=zH (gP.out k hlt fun h=>by have:=(yE.out.1 h).1;simp at this);refine zR HK.out.drew fun ah=>?_
    refine ak 0 rfl ?_;refine ak 1 rfl ?_ fun _ s=>lW s 0
    refine aC 2 rfl fun K hK=>?_
    go_simp;go_at_call 78;refine(HNm.out _).mono ?_;rintro e w5 ⟨rfl,b5⟩;have hs:=zH (ah.out.call b5);clear b5;refine bk hK hs fun ah=>?_
    clear hK K;refine ak 3 rfl ?_;refine ak 4 rfl ?_;refine ak 5 rfl ?_ fun _ s=>jv s 0
    refine aC 6 rfl fun K hK=>?_
    go_simp;go_at_call 79;refine(zT.out _ ah.out.b).mono ?_;rintro e w5 ⟨rfl,b5⟩;have hs:=zH (ah.out.call b5);clear b5;refine bk hK hs fun ah=>?_
    clear hK K;refine ak 7 rfl ?_;refine ak 8 rfl ?_;refine ak 9 rfl ?_;refine bF 10 rfl ?_;refine bF 11 rfl ?_;refine bF 12 rfl ?_;refine ak 13 rfl ?_;refine ak 14 rfl ?_;refine bF 15 rfl ?_;refine bF 16 rfl ?_;refine bF 17 rfl ?_;refine bF 18 rfl ?_;refine bF 19 rfl ?_;refine bF 20 rfl ?_;refine bF 21 rfl ?_;refine bF 22 rfl ?_;refine bF 23 rfl ?_;refine bF 24 rfl ?_;refine bF 25 rfl ?_;refine bF 26 rfl ?_;refine bF 27 rfl ?_;refine ak 28 rfl ?_;exact rQ
   | true=>
   cases q2 with
   | false=>
    have HR:Hid (r=false):=zH (gP.out k hlt fun h=>by have:=(yE.out.1 h).1;simp at this);refine zR HK.out.drew fun ah=>?_
    refine ak 0 rfl ?_;refine ak 1 rfl ?_ fun _ s=>lW s 0
    refine aC 2 rfl fun K hK=>?_
    go_simp;go_at_call 78;refine(HNm.out _).mono ?_;rintro e w5 ⟨rfl,b5⟩;have hs:=zH (ah.out.call b5);clear b5;refine bk hK hs fun ah=>?_
    clear hK K;refine ak 3 rfl ?_;refine ak 4 rfl ?_;refine ak 5 rfl ?_ fun _ s=>jv s 0
    refine aC 6 rfl fun K hK=>?_
    go_simp;go_at_call 79;refine(zT.out _ ah.out.b).mono ?_;rintro e w5 ⟨rfl,b5⟩;have hs:=zH (ah.out.call b5);clear b5;refine bk hK hs fun ah=>?_
    clear hK K;refine ak 7 rfl ?_;refine ak 8 rfl ?_;refine ak 9 rfl ?_;refine ak 10 rfl ?_ fun _ s=>jv s 0
    refine aC 11 rfl fun K hK=>?_
    go_simp;go_at_call 80;refine(Jt.out _ ah.out.b).mono ?_;rintro e w5 ⟨rfl,b5⟩;have hs:=zH (ah.out.call b5);clear b5;refine bk hK hs fun ah=>?_
    clear hK K;refine ak 12 rfl ?_;refine ak 13 rfl ?_;refine ak 14 rfl ?_;refine bF 15 rfl ?_;refine bF 16 rfl ?_;refine bF 17 rfl ?_;refine bF 18 rfl ?_;refine bF 19 rfl ?_;refine bF 20 rfl ?_;refine bF 21 rfl ?_;refine bF 22 rfl ?_;refine bF 23 rfl ?_;refine bF 24 rfl ?_;refine bF 25 rfl ?_;refine bF 26 rfl ?_;refine bF 27 rfl ?_;refine ak 28 rfl ?_;exact rQ
   | true=>
   rcases Nat.eq_zero_or_pos k with rfl|hpos
   ·clear kY
    refine zR HK.out.drew fun ah=>?_
    refine ak 0 rfl ?_;refine ak 1 rfl ?_ fun _ s=>lW s 0
    refine aC 2 rfl fun K hK=>?_
    go_simp;go_at_call 78;refine(HNm.out _).mono ?_;rintro e w5 ⟨rfl,b5⟩;have hs:=zH (ah.out.call b5);clear b5;refine bk hK hs fun ah=>?_
    clear hK K;refine ak 3 rfl ?_;refine ak 4 rfl ?_;refine ak 5 rfl ?_ fun _ s=>jv s 0
    refine aC 6 rfl fun K hK=>?_
    go_simp;go_at_call 79;refine(zT.out _ ah.out.b).mono ?_;rintro e w5 ⟨rfl,b5⟩;have hs:=zH (ah.out.call b5);clear b5;refine bk hK hs fun ah=>?_
    clear hK K;refine ak 7 rfl ?_;refine ak 8 rfl ?_;refine ak 9 rfl ?_;refine ak 10 rfl ?_ fun _ s=>jv s 0
    refine aC 11 rfl fun K hK=>?_
    go_simp;go_at_call 80;refine(Jt.out _ ah.out.b).mono ?_;rintro e w5 ⟨rfl,b5⟩;have hs:=zH (ah.out.call b5);clear b5;refine bk hK hs fun ah=>?_
    clear hK K;refine ak 12 rfl ?_;refine ak 13 rfl ?_;refine ak 14 rfl ?_;refine ak 15 rfl ?_;refine ak 16 rfl ?_;refine ak 17 rfl ?_;refine bF 18 rfl ?_;refine bF 19 rfl ?_;refine bF 20 rfl ?_;refine bF 21 rfl ?_;refine bF 22 rfl ?_;refine bF 23 rfl ?_;refine bF 24 rfl ?_;refine bF 25 rfl ?_;refine bF 26 rfl ?_;refine ak 27 rfl ?_;refine ak 28 rfl ?_;refine bW ?_;go_wp2_with fail
    exact⟨⟨1,by omega,by go_num,zH (fun i hi=>by
     obtain rfl:i=0:=by omega
     exact yE.out.2 ⟨rfl,fun j y h _=>by omega⟩),zH (ah.out.aA 0)⟩,by simp[intOf];omega⟩
   ·obtain⟨j,rfl⟩:∃j,k=j+1:=⟨k-1,by omega⟩
    clear hpos;obtain⟨y,hy,MQ⟩:=kY.out j rfl;have HY:=zH MQ;have Zb:=zH hy;clear hy MQ kY;have hj:j<n:=by omega
    have hj2:j<9223372036854775807:=by omega
    have hj3:((j+1:Nat):Int) > 0:=by omega
    cases hlt2:aK.lt y.v.name x.v.name with
    | true=>
     have hb:(!aK.lt y.v.name x.v.name)=false:=by rw[hlt2];rfl
     refine zR HK.out.drew fun ah=>?_
     refine ak 0 rfl ?_;refine ak 1 rfl ?_ fun _ s=>lW s 0
     refine aC 2 rfl fun K hK=>?_
     go_simp;go_at_call 78;refine(HNm.out _).mono ?_;rintro e w5 ⟨rfl,b5⟩;have hs:=zH (ah.out.call b5);clear b5;refine bk hK hs fun ah=>?_
     clear hK K;refine ak 3 rfl ?_;refine ak 4 rfl ?_;refine ak 5 rfl ?_ fun _ s=>jv s 0
     refine aC 6 rfl fun K hK=>?_
     go_simp;go_at_call 79;refine(zT.out _ ah.out.b).mono ?_;rintro e w5 ⟨rfl,b5⟩;have hs:=zH (ah.out.call b5);clear b5;refine bk hK hs fun ah=>?_
     clear hK K;refine ak 7 rfl ?_;refine ak 8 rfl ?_;refine ak 9 rfl ?_;refine ak 10 rfl ?_ fun _ s=>jv s 0
     refine aC 11 rfl fun K hK=>?_
     go_simp;go_at_call 80;refine(Jt.out _ ah.out.b).mono ?_;rintro e w5 ⟨rfl,b5⟩;have hs:=zH (ah.out.call b5);clear b5;refine bk hK hs fun ah=>?_
     clear hK K;refine ak 12 rfl ?_;refine ak 13 rfl ?_;refine ak 14 rfl ?_;refine ak 15 rfl ?_;refine ak 16 rfl ?_;refine ak 17 rfl ?_;refine ak 18 rfl ?_;refine ak 19 rfl ?_ fun _ s=>lW s 0
     refine ak 20 rfl ?_;refine ak 21 rfl ?_;refine ak 22 rfl ?_ fun _ s=>iI (j:=j) hj2
     refine ak 23 rfl ?_ fun _ s=>bL (i:=j) hj
     refine ak 24 rfl ?_;refine ak 25 rfl ?_ fun _ s=>iJ (off:=o+j*11) (HY.out _ s.out.b)
     refine ak 26 rfl ?_ fun _ s=>wO hb
     refine ak 27 rfl ?_;refine ak 28 rfl ?_;refine bW ?_;go_wp2_with fail
     exact⟨⟨j+2,by omega,by go_num,zH (fun i hi=>by
      by_cases hij:i=j+1
      ·subst hij
       exact abj
      ·exact iA.out i (by omega)),zH (ah.out.aA 0)⟩,by simp[intOf];omega⟩
    | false=>
     have hb:(!aK.lt y.v.name x.v.name)=true:=by rw[hlt2];rfl
     have HR:Hid (r=false):=zH (gP.out _ hlt fun h=>by
      have:=(yE.out.1 h).2 j y.v rfl Zb.out
      rw[hlt2] at this;cases this)
     refine zR HK.out.drew fun ah=>?_
     refine ak 0 rfl ?_;refine ak 1 rfl ?_ fun _ s=>lW s 0
     refine aC 2 rfl fun K hK=>?_
     go_simp;go_at_call 78;refine(HNm.out _).mono ?_;rintro e w5 ⟨rfl,b5⟩;have hs:=zH (ah.out.call b5);clear b5;refine bk hK hs fun ah=>?_
     clear hK K;refine ak 3 rfl ?_;refine ak 4 rfl ?_;refine ak 5 rfl ?_ fun _ s=>jv s 0
     refine aC 6 rfl fun K hK=>?_
     go_simp;go_at_call 79;refine(zT.out _ ah.out.b).mono ?_;rintro e w5 ⟨rfl,b5⟩;have hs:=zH (ah.out.call b5);clear b5;refine bk hK hs fun ah=>?_
     clear hK K;refine ak 7 rfl ?_;refine ak 8 rfl ?_;refine ak 9 rfl ?_;refine ak 10 rfl ?_ fun _ s=>jv s 0
     refine aC 11 rfl fun K hK=>?_
     go_simp;go_at_call 80;refine(Jt.out _ ah.out.b).mono ?_;rintro e w5 ⟨rfl,b5⟩;have hs:=zH (ah.out.call b5);clear b5;refine bk hK hs fun ah=>?_
     clear hK K;refine ak 12 rfl ?_;refine ak 13 rfl ?_;refine ak 14 rfl ?_;refine ak 15 rfl ?_;refine ak 16 rfl ?_;refine ak 17 rfl ?_;refine ak 18 rfl ?_;refine ak 19 rfl ?_ fun _ s=>lW s 0
     refine ak 20 rfl ?_;refine ak 21 rfl ?_;refine ak 22 rfl ?_ fun _ s=>iI (j:=j) hj2
     refine ak 23 rfl ?_ fun _ s=>bL (i:=j) hj
     refine ak 24 rfl ?_;refine ak 25 rfl ?_ fun _ s=>iJ (off:=o+j*11) (HY.out _ s.out.b)
     refine ak 26 rfl ?_ fun _ s=>wO hb
     refine ak 27 rfl ?_;refine ak 28 rfl ?_;exact rQ
  ·obtain rfl:k=n:=by omega
   have HR:Hid (r=true):=zH (iL.out iA.out);exact rP
end
section
def xB(w0:World)(l1 l2 l3:List Oh)(w:World)(e:Ending)(w':World):Prop:=
 ∃A1 n1 c1 A2 n2 c2 A3 n3 c3,e=.returned (.tuple #[.slice A1 n1 c1,.slice A2 n2 c2,.slice A3 n3 c3])∧bY w0 A1 n1 c1 l1∧bY w0 A2 n2 c2 l2∧bY w0 A3 n3 c3 l3∧Below w.heap.size w w'
theorem Az(A:Option Addr)(c n:Nat)(l:List Oh)(key:ByteArray)(w0 w:World)(hs:bY w0 A n c l)(hw:Below w0.heap.size w0 w):
  Calls prog 191 #[.slice A n c,.string key] w (xB w0 (l.take (av.idx (vs l) key)) ((l.drop (av.idx (vs l) key)).take (av.fin (vs l) key-av.idx (vs l) key)) (l.drop (av.fin (vs l) key)) w):=by
 have HS:=zH hs;have HW:=zH hw;have HG:Hid (∀k,k<n→∃x,l[k]?=some x):=zH fun k hk=>Lay.fI (l:=l) (k:=k) (by rw[hs.len];exact hk)
 have hp:=av.nR (vs l) key;obtain⟨hpq,hq⟩:=av.kQ (vs l) key;rw[fF,hs.len] at hp hq;have hnc:=hs.s.cap;have hbig:n*144≤140737488355328:=hs.s.big;have HB:Hid (∀k x,k<av.idx (vs l) key→l[k]?=some x→aK.lt x.v.name key=true):=zH fun k x hk hx=>av.sQ hk (dL hx)
 have HA:Hid (∀x,l[av.idx (vs l) key]?=some x→aK.lt x.v.name key=false):=zH fun x hx=>av.sS (dL hx)
 have Zi:Hid (∀x,l[av.idx (vs l) key]?=some x→av.fin (vs l) key=if x.v.name=key then av.idx (vs l) key+1 else av.idx (vs l) key):=zH fun x hx=>by unfold av.fin;rw[dL hx]
 have Zj:Hid (av.idx (vs l) key=n→av.fin (vs l) key=n):=zH fun h=>by omega
 have Jm:Hid (∀W,Below w.heap.size w W→xB w0 (l.take (av.idx (vs l) key)) ((l.drop (av.idx (vs l) key)).take (av.fin (vs l) key-av.idx (vs l) key)) (l.drop (av.fin (vs l) key)) w (.returned (.tuple #[.slice A (av.idx (vs l) key) c,.slice (uZ 11 A (av.idx (vs l) key) c) (av.fin (vs l) key-av.idx (vs l) key) (c-av.idx (vs l) key),.slice (uZ 11 A (av.fin (vs l) key) c) (n-av.fin (vs l) key) (c-av.fin (vs l) key)])) W):=
  zH fun W hW=>by
   have h:=hs;refine⟨_,_,_,_,_,_,_,_,_,rfl,h.take hp,h.sub hpq hq,h.drop hq,hW⟩
 clear hs hw;generalize av.idx (vs l) key=p at *
 generalize av.fin (vs l) key=q at *
 have HK:=zH (Kn.start w);go_enter func191,ntmps191;go_wp2_with fail;go_loop [7] (fun vi=>∃k:Nat,k≤p∧vi=.int .i64 k) (fun vi=>p+1-(intOf vi).toNat)
 case atStart=>exact⟨0,Nat.zero_le _,rfl⟩
 case round=>
  obtain⟨k,hk,rfl⟩:=hrel;have hk1:(0:Int)≤(k:Int):=by omega
  by_cases hlt:k<p
  ·have hkn:k<n:=by omega
   have hk2:(k:Int)<(n:Int):=by omega
   have hk3:k<9223372036854775807:=by omega
   obtain⟨x,hx⟩:=HG.out k hkn;obtain⟨b,o,rfl,hat⟩:=HS.out.s.at (Nat.lt_of_le_of_lt (Nat.zero_le _) hkn);have HX:=zH (hat w HW.out k x hx);have HL:=zH (HB.out k x hlt hx);clear hat hx HS Jm HB HA Zi Zj HG;go_wp2_with (first|refine au (iJ (off:=o+k*11) HX.out) ?_|refine au (jQ HL.out) ?_|refine au (aL (j:=k) hk3) ?_);exact⟨⟨k+1,hlt,rfl⟩,by simp[intOf];omega⟩
  ·obtain rfl:k=p:=by omega
   clear hlt hk;by_cases hkn:k<n
   ·have hk2:(k:Int)<(n:Int):=by omega
    have hk3:k<9223372036854775807:=by omega
    obtain⟨x,hx⟩:=HG.out k hkn;obtain⟨b,o,rfl,hat⟩:=HS.out.s.at (Nat.lt_of_le_of_lt (Nat.zero_le _) hkn);have HX:=zH (hat w HW.out k x hx);have HL:=zH (HA.out x hx);have hq2:=Zi.out x hx;clear hat hx HS HB HA Zi Zj HG;by_cases he:x.v.name=key
    ·rw[if_pos he] at hq2
     subst hq2;have HE:=zH (show decide (x.v.name=key)=true from decide_eq_true he);clear he;have hqc:k+1≤c:=by omega
     go_wp2_with (first|refine au (iJ (off:=o+k*11) HX.out) ?_|refine au (jQ HL.out) ?_|refine au (kR HE.out) ?_|refine au (aL (j:=k) hk3) ?_);have hkc:k≤c:=by omega
     refine zR HK.out.drew fun ah=>?_
     refine ak 0 rfl ?_;refine ak 1 rfl ?_;refine ak 2 rfl ?_ fun _ s=>nT aP (hi:=k) hkc
     refine ak 3 rfl ?_;refine ak 4 rfl ?_;refine ak 5 rfl ?_;refine ak 6 rfl ?_ fun _ s=>yR aP (lo:=k) (hi:=k+1) hpq hqc
     refine ak 7 rfl ?_;refine ak 8 rfl ?_;refine ak 9 rfl ?_ fun _ s=>lD aP (lo:=k+1) hq
     refine ak 10 rfl ?_;refine ak 11 rfl ?_;refine ak 12 rfl ?_;refine bW ?_;go_wp2_with fail;exact iQ results191 (hR:=(by have h:=Jm.out _ ah.out.b;rw[show k+1-k=1 from by omega] at h ⊢;exact h))
    ·rw[if_neg he] at hq2
     subst hq2;have HE:=zH (show decide (x.v.name=key)=false from decide_eq_false he);clear he;go_wp2_with (first|refine au (iJ (off:=o+q*11) HX.out) ?_|refine au (jQ HL.out) ?_|refine au (kR HE.out) ?_);exact aeF
   ·obtain rfl:k=n:=by omega
    obtain rfl:=Zj.out rfl;have hk2:¬(q:Int)<(q:Int):=by omega
    clear HS HB HA Zi Zj HG hkn;go_wp2_with fail;exact aeF
end
section
theorem acn{g:Nat}(n:Nat)(xs:List Int){w:World}(hn:xs.length=n)(hb:n≤6)(hc:∀i x,xs[i]?=some x→w.cell? ⟨g,i,none⟩=some (.int .i64 x)):
  Calls prog 113 #[.slice (some ⟨g,0,none⟩) n n] w fun e w'=>e=.returned (.int .i64 (aF.nz xs))∧w'=w:=by
 have HC:=zH hc;have HN:=zH hn;clear hc hn;go_enter func113,ntmps113;go_wp2;go_loop [8] (fun vi=>∃k:Nat,k≤n∧vi=.int .i64 k∧Hid (aF.nz xs=aF.nz (xs.drop k))) (fun vi=>n-(intOf vi).toNat)
 case atStart=>exact⟨0,Nat.zero_le _,rfl,zH rfl⟩
 case round=>
  obtain⟨k,hk,rfl,hh⟩:=hrel;by_cases hlt:k<n
  ·have hk2:k<xs.length:=by rw[HN.out];exact hlt
   have hd:=List.drop_eq_getElem_cons hk2;have h0:=hh.out;rw[hd] at h0;have hcell:=HC.out k xs[k] (List.getElem?_eq_getElem hk2);generalize xs[k]=x at *
   by_cases hx:x=0
   ·subst hx
    have h1:aF.nz xs=aF.nz (xs.drop (k+1)):=h0;have H1:=zH h1;clear h0 h1 hd hh hk2;go_wp2_with fail;exact⟨⟨k+1,by omega,by go_num,H1⟩,by simp[intOf];omega⟩
   ·have h1:aF.nz xs=x:=h0.trans (if_pos hx)
    have H1:=zH h1;clear h0 h1 hd hh hk2;have hx2:(x != 0)=true:=by simpa using hx
    go_wp2_with fail;go_ret;exact⟨by rw[H1.out];rfl,rfl⟩
  ·obtain rfl:k=n:=by omega
   have h0:=hh.out;rw[List.drop_of_length_le (by rw[HN.out];exact Nat.le_refl _)] at h0;have H1:=zH h0;clear h0 hh;go_wp2_with fail;go_ret;exact⟨by rw[H1.out];rfl,rfl⟩
theorem XJ(a b c d e f:Int)(W:World)(t:TypeId)(g:Nat)(hg:g=W.heap.size):Calls prog 113 #[.slice (some ⟨g,0,none⟩) 6 6] (W.alloc (.cells #[.int .i64 a,.int .i64 b,.int .i64 c,.int .i64 d,.int .i64 e,.int .i64 f] t)) fun en w'=>en=.returned (.int .i64 (aF.nz [a,b,c,d,e,f]))∧w'=W.alloc (.cells #[.int .i64 a,.int .i64 b,.int .i64 c,.int .i64 d,.int .i64 e,.int .i64 f] t):=by
 subst hg;refine acn 6 [a,b,c,d,e,f] rfl (Nat.le_refl _) fun i x hx=>?_
 rw[World.cell?_alloc_new]
 match i,hx with
 | 0,hx|1,hx|2,hx|3,hx|4,hx|5,hx=>simp at hx;subst hx;rfl
theorem Nz(c:aF.C)(w:World)(hv:c.val.f<18446744073709551616)(ho:c.old.f<18446744073709551616):Calls prog 61 #[.agg (dh c)] w (gX (aF.bG c) w):=by
 have HN:=zH (fun W=>Lh c W);have HL:=zH (fun W=>Vy c W);have oU:=zH (fun W=>qy c.old W ho);have LC:=zH (fun W=>qy c.val W hv);have HV:=zH (fun W=>Vs c W);have HM:=zH (fun W=>Qp c W);have HOr:=zH (fun a b c d e f W t g hg=>XJ a b c d e f W t g hg);have HZ:=zH (aF.adh c);clear hv ho;generalize aF.bG c=E at *
 generalize Val.bG c.old=eo at *
 generalize Val.bG c.val=ev at *
 generalize aF.cN c=zn at *
 generalize aF.cL c=zl at *
 generalize aF.cV c=zv at *
 generalize aF.cM c=zm at *
 obtain⟨k,name,key,⟨vk,vn,vf,vs⟩,⟨ok,on,of,os⟩,n,m⟩:=c;unfold dh gX vv at *
 simp only at *
 have HK:=iK w 37 (cO k name key vk vn vf vs ok on of os n m);go_enter func61,ntmps61;go_wp2_with fail;replace HK:=zH HK.out.drew;refine zR HK.out fun ah=>?_
 refine ak 0 rfl ?_ fun _ s=>sP s 0
 refine ak 2 rfl ?_ fun _ s=>sP s 0
 refine ak 4 rfl ?_;refine ak 5 rfl ?_ fun _ s=>Hg s 0
 refine ak 7 rfl ?_;refine ak 8 rfl ?_ fun _ s=>Hf s 0
 refine ak 10 rfl ?_ fun _ s=>sP s 0
 refine ak 12 rfl ?_ fun _ s=>sP s 0
 refine aC 1 rfl fun K hK=>?_
 go_simp;go_at_call 114;refine(HN.out _).mono ?_;rintro e w5 ⟨rfl,b5⟩;have hs:=zH (ah.out.call b5);clear b5;refine bk hK hs fun ah=>?_
 clear hK K;refine aC 3 rfl fun K hK=>?_
 go_simp;go_at_call 115;refine(HL.out _).mono ?_;rintro e w5 ⟨rfl,b5⟩;have hs:=zH (ah.out.call b5);clear b5;refine bk hK hs fun ah=>?_
 clear hK K;refine aC 6 rfl fun K hK=>?_
 go_simp;go_at_call 116;refine(oU.out _).mono ?_;rintro e w5 ⟨rfl,b5⟩;have hs:=zH (ah.out.call b5);clear b5;refine bk hK hs fun ah=>?_
 clear hK K;refine aC 9 rfl fun K hK=>?_
 go_simp;go_at_call 116;refine(LC.out _).mono ?_;rintro e w5 ⟨rfl,b5⟩;have hs:=zH (ah.out.call b5);clear b5;refine bk hK hs fun ah=>?_
 clear hK K;refine aC 11 rfl fun K hK=>?_
 go_simp;go_at_call 117;refine(HV.out _).mono ?_;rintro e w5 ⟨rfl,b5⟩;have hs:=zH (ah.out.call b5);clear b5;refine bk hK hs fun ah=>?_
 clear hK K;refine aC 13 rfl fun K hK=>?_
 go_simp;go_at_call 118;refine(HM.out _).mono ?_;rintro e w5 ⟨rfl,b5⟩;have hs:=zH (ah.out.call b5);clear b5;refine bk hK hs fun ah=>?_
 clear hK K;refine aC 14 rfl fun K hK=>?_
 go_simp;have hs:=zH (ah.out.FC (.cells #[.int .i64 zn,.int .i64 zl,.int .i64 eo,.int .i64 ev,.int .i64 zv,.int .i64 zm] 23));refine bk hK hs fun ah=>?_
 clear hK K;refine aC 15 rfl fun K hK=>?_
 go_simp;go_at_call 113;refine(HOr.out _ _ _ _ _ _ _ _ _ rfl).mono ?_;rintro e w6 ⟨rfl,rfl⟩;have hs:=ah;refine bk hK hs fun ah=>?_
 clear hK K;refine ak 16 rfl ?_;refine bW ?_;go_wp2_with fail;go_ret;exact⟨congrArg (fun z=>Ending.returned (.int .i64 z)) HZ.out,ah.out.b⟩
end
end Go.Proofs.YtieoeendnccafaaGreat
