/- Replies and truth values that are compared with themselves; where rows are known. No condition but those named. -/
import Derived.Test.YtieoeendnccafaaGreatNBKC
set_option linter.unusedSimpArgs false
set_option linter.unusedVariables false
set_option maxRecDepth 100000
set_option maxHeartbeats 25600000
open Go.RowKit
namespace Go.Proofs.YtieoeendnccafaaGreat
open _root_.Go.Proofs.Tryz
section
theorem Aq(G:World→Prop)(n:Int)(A:Option Addr)(k cp:Nat)(t:aH.T)(lo:List Oh)(e:aF.E)(w:World)(hG:∀W,G W→bY W A k cp lo)(hs:bY w A k cp lo)(hf:aH.Fit t)(hv:e.cmd.val.f<18446744073709551616)(ho:e.cmd.old.f<18446744073709551616)(hr:e.r≤9223372036854775807)(hc:0≤e.c∧e.c<5)(h3:e.cmd.k=3):
  Calls prog 32 #[.agg (stA n A k cp t),.agg (iN e)] w (dB G (Ap.gB ⟨n,vs lo,t⟩ (Ap.ref e) e.cmd) (Ap.jE ⟨n,vs lo,t⟩ (Ap.ref e) e.cmd) w):=by
 have HB:=zH (fun W=>wh t (Ap.ref e) W hf hr);have iA:=zH hG;have HE:=zH (fun W=>vZ (aH.iq t (Ap.ref e)) (Ap.ref e) av.rz W (aH.lN hf _) (by decide));unfold BR at HB HE;have H3:Hid (decide (e.cmd.k=3)=true):=zH (decide_eq_true h3);unfold Ap.gB Ap.jE;rw[if_pos h3,if_pos h3];unfold Ap.touch;dsimp only;have HK:=kX w 33 (stA n A k cp t) 39 (iN e);clear hs hG hf hv ho hr hc h3;generalize aH.iq t (Ap.ref e)=t1 at *
 generalize aH.fP t1 (Ap.ref e) av.rz=t2 at *
 go_enter func32,ntmps32;go_wp2_with (first|(refine aU HK ?_;clear HK;intro _ g1 HK;simp only[aO,aJ] at HK)|refine zX (eU HK 0) ?_|refine zX (aY HK 1) ?_);refine cb (HB.out _) HK ?_;clear HK;intro _ HK;go_wp2_with (first|(refine dD (u:=t1) HK 0 ?_;clear HK;intro _ HK;simp only[lS] at HK)|refine zX (iZ (e:=e) HK 1) ?_|refine zX (aD (m:=e.cmd.k) (n:=3) H3.out) ?_|refine zX (eU HK 0) ?_|refine zX (aY HK 1) ?_|refine zX (fO) ?_);refine cb (HE.out _) HK ?_;clear HK;intro _ HK;go_wp2_with (first|(refine dD (u:=t2) HK 0 ?_;clear HK;intro _ HK;simp only[lS] at HK)|refine zX (aY HK 1) ?_|refine zX (qw (r:=Ap.ref e)) ?_|(refine dI aR (p:=⟨Ap.ref e,av.rz⟩) HK ?_;clear HK;intro _ g7 HK;simp only[aO,aJ] at HK)|refine zX (iZ (e:=e) HK 1) ?_|refine zX (aD (m:=e.cmd.k) (n:=3) H3.out) ?_|refine zX (iB HK 0) ?_|(refine bA HK 2 ?_;clear HK;intro _ HK;simp only[lS] at HK));refine dQ results32 (HK.out.blk 2 rfl) ?_;unfold dB;exact⟨A,k,cp,lo,_,_,_,_,rfl,zH rfl,HK.out.aA 0,zH fun b W0 W L R K hm hg=>⟨iA.out W hg,bJ.own (K.mem (hm _ (List.mem_cons_self ..))) (eu)⟩⟩
theorem Au(G:World→Prop)(n:Int)(A:Option Addr)(k cp:Nat)(t:aH.T)(lo:List Oh)(e:aF.E)(w:World)(hG:∀W,G W→bY W A k cp lo)(hs:bY w A k cp lo)(hf:aH.Fit t)(hv:e.cmd.val.f<18446744073709551616)(ho:e.cmd.old.f<18446744073709551616)(hr:e.r≤9223372036854775807)(hc:0≤e.c∧e.c<5)(h2:e.cmd.k=2):
  Calls prog 32 #[.agg (stA n A k cp t),.agg (iN e)] w (dB G (Ap.gB ⟨n,vs lo,t⟩ (Ap.ref e) e.cmd) (Ap.jE ⟨n,vs lo,t⟩ (Ap.ref e) e.cmd) w):=by
 have HB:=zH (fun W=>wh t (Ap.ref e) W hf hr);have iA:=zH hG;have hft:=aH.mM (aH.lN hf (Ap.ref e)) (Ap.ref e) (x:=av.rz) (by decide);have HE:=zH (fun W=>vZ (aH.iq t (Ap.ref e)) (Ap.ref e) av.rz W (aH.lN hf _) (by decide));have zi:=zH (fun W (hW:Below w.heap.size w W)=>vD (fun W=>G W∨Below w.heap.size w W) n A k cp _ lo e.c W (fun W h=>h.elim (hG W) fun g=>hs.later g) (hs.later hW) hft hc);have tH:=zH (Ap.nO ⟨n,vs lo,aH.fP (aH.iq t (Ap.ref e)) (Ap.ref e) av.rz⟩ e.c (lF _ _));unfold BR at HB HE;unfold dB at zi;have H3:Hid (decide (e.cmd.k=3)=false):=zH (decide_eq_false (by omega));have H2:Hid (decide (e.cmd.k=2)=true):=zH (decide_eq_true h2);unfold Ap.gB Ap.jE;have h3n:¬e.cmd.k=3:=by omega
 rw[if_neg h3n,if_neg h3n,if_pos h2,if_pos h2];clear h3n;have e9:Ap.touch ⟨n,vs lo,t⟩ (Ap.ref e)=⟨n,vs lo,aH.fP (aH.iq t (Ap.ref e)) (Ap.ref e) av.rz⟩:=rfl;rw[e9,show(Ap.ref e).c=e.c from rfl];clear e9;have HK:=kX w 33 (stA n A k cp t) 39 (iN e);clear hs hG hf hv ho hr hc h2 hft;generalize aH.iq t (Ap.ref e)=t1 at *
 generalize aH.fP t1 (Ap.ref e) av.rz=t2 at *
 generalize Ap.eZ ⟨n,vs lo,t2⟩ e.c=os at *
 generalize Ap.dX ⟨n,vs lo,t2⟩ e.c=s2 at *
 obtain⟨n2,l2,t3⟩:=s2;dsimp only at *
 go_enter func32,ntmps32;go_wp2_with (first|(refine aU HK ?_;clear HK;intro _ g1 HK;simp only[aO,aJ] at HK)|refine zX (eU HK 0) ?_|refine zX (aY HK 1) ?_);refine cb (HB.out _) HK ?_;clear HK;intro _ HK;go_wp2_with (first|(refine dD (u:=t1) HK 0 ?_;clear HK;intro _ HK;simp only[lS] at HK)|refine zX (iZ (e:=e) HK 1) ?_|refine zX (aD (m:=e.cmd.k) (n:=3) H3.out) ?_|refine zX (aD (m:=e.cmd.k) (n:=2) H2.out) ?_|refine zX (eU HK 0) ?_|refine zX (aY HK 1) ?_|refine zX (fO) ?_);refine cb (HE.out _) HK ?_;clear HK;intro _ HK;go_wp2_with (first|(refine dD (u:=t2) HK 0 ?_;clear HK;intro _ HK;simp only[lS] at HK)|refine zX (aY HK 1) ?_|refine zX (qw (r:=Ap.ref e)) ?_|(refine dI aR (p:=⟨Ap.ref e,av.rz⟩) HK ?_;clear HK;intro _ g7 HK;simp only[aO,aJ] at HK)|refine zX (iZ (e:=e) HK 1) ?_|refine zX (aD (m:=e.cmd.k) (n:=3) H3.out) ?_|refine zX (iB HK 0) ?_|refine zX (uN (e:=e) HK 1) ?_);refine(zi.out _ HK.out.b).mono ?_;rintro en w1 ⟨A2,k2,c2,lo2,O2,m2,d2,R2,rfl,mE,q2,HI2⟩;replace HK:=zH (HK.out.join q2);clear q2;simp only[aO,aJ] at HK;have gT:Hid (os.length=m2):=zH (HI2.out _ _ _ _ _ HK.out (fun z hz=>List.mem_cons_of_mem _ hz) (.inr HK.out.b)).2.len;have fB:Hid (([⟨Ap.ref e,av.rz⟩]++os:List av.Ot).length=1+m2):=zH (by rw[List.length_append,gT.out];rfl);have tJ:Hid (m2≤9):=zH (by rw[← gT.out];exact tH.out);have HL2:=fV (La:=aR) fB (hN:=(by have:=tJ.out;omega));go_upto_region 8 with (first|(refine aU HK ?_;clear HK;intro _ g8 HK;simp only[aO,aJ] at HK)|(refine bA HK 3 ?_;clear HK;intro _ HK;simp only[lS] at HK));have aj:=zH HK.out.drew;clear HK zi HE HB;refine zR ((aj.out.aI 3).ay 0) fun ah=>?_
 refine ak 0 rfl ?_ fun _ s=>iB s 0
 refine ak 1 rfl ?_;refine ak 2 rfl ?_;refine aC 3 rfl fun K hK=>?_
 have HR2:=zH (And.intro (HI2.out _ _ _ _ _ aj.out (fun z hz=>List.mem_cons_of_mem _ hz) (.inr aj.out.b)).2.rd (HI2.out _ _ _ _ _ aj.out (fun z hz=>List.mem_cons_of_mem _ hz) (.inr aj.out.b)).2.nl);refine aT aR aj 0 os (hn:=gT.out.symm) HR2 HL2 (N:=1+m2) fB ?_;clear aj;intro A9 c9 _ aj;simp only[lS] at aj HR2;have hs:=zH ((aj.out.aI 3).ay 0);refine bk hK hs fun ah=>?_
 clear hK K;refine aC 4 rfl fun K hK=>?_
 refine bZ aj 2 ?_;clear aj;intro w7 aj;simp only[lS] at aj;have hs:=zH ((aj.out.aI 3).ay 0);refine bk hK hs fun ah=>?_
 clear hK K;refine ak 5 rfl ?_;refine bW ?_
 all_goals
  have HK:=aj;clear aj ah;go_wp2_with fail;refine dQ results32 (HK.out.blk 2 rfl) ?_;exact abp
theorem Ar(G:World→Prop)(n:Int)(A:Option Addr)(k cp:Nat)(t:aH.T)(lo:List Oh)(e:aF.E)(w:World)(hG:∀W,G W→bY W A k cp lo)(hs:bY w A k cp lo)(hf:aH.Fit t)(hv:e.cmd.val.f<18446744073709551616)(ho:e.cmd.old.f<18446744073709551616)(hr:e.r≤9223372036854775807)(hc:0≤e.c∧e.c<5)(h3:¬e.cmd.k=3)(h2:¬e.cmd.k=2)(hla:(av.iC (vs lo) (Ap.ref e) e.cmd).later=true):
  Calls prog 32 #[.agg (stA n A k cp t),.agg (iN e)] w (dB G (Ap.gB ⟨n,vs lo,t⟩ (Ap.ref e) e.cmd) (Ap.jE ⟨n,vs lo,t⟩ (Ap.ref e) e.cmd) w):=by
 have HB:=zH (fun W=>wh t (Ap.ref e) W hf hr);have iA:=zH hG;have hfl:=Ap.uq (pW hs) (Ap.ref e) e.cmd;have HD:=zH (fun W (hW:Below w.heap.size w W)=>Mf (fun W=>G W∨Below w.heap.size w W) A cp k lo (Ap.ref e) e.cmd W (fun W h=>h.elim (hG W) fun g=>hs.later g) (hs.later hW) hv ho);unfold BR at HB;unfold mQ at HD;have H3:Hid (decide (e.cmd.k=3)=false):=zH (decide_eq_false h3);have H2:Hid (decide (e.cmd.k=2)=false):=zH (decide_eq_false h2);unfold Ap.gB Ap.jE;rw[if_neg h3,if_neg h3,if_neg h2,if_neg h2];rw[show(av.iC (⟨n,vs lo,t⟩:Ap.St).l (Ap.ref e) e.cmd)=av.iC (vs lo) (Ap.ref e) e.cmd from rfl];rw[if_pos hla,if_pos hla];dsimp only;have HK:=kX w 33 (stA n A k cp t) 39 (iN e);clear hs hG hf hv ho hr hc h3 h2 hfl;generalize aH.iq t (Ap.ref e)=t1 at *
 generalize av.iC (vs lo) (Ap.ref e) e.cmd=D at *
 obtain⟨l9,p9,la9,os⟩:=D;dsimp only at *
 subst hla;go_enter func32,ntmps32;go_wp2_with (first|(refine aU HK ?_;clear HK;intro _ g1 HK;simp only[aO,aJ] at HK)|refine zX (eU HK 0) ?_|refine zX (aY HK 1) ?_);refine cb (HB.out _) HK ?_;clear HK;intro _ HK;go_wp2_with (first|(refine dD (u:=t1) HK 0 ?_;clear HK;intro _ HK;simp only[lS] at HK)|refine zX (iZ (e:=e) HK 1) ?_|refine zX (aD (m:=e.cmd.k) (n:=3) H3.out) ?_|refine zX (aD (m:=e.cmd.k) (n:=2) H2.out) ?_|refine zX (jl HK 0) ?_|refine zX (aY HK 1) ?_|refine zX (mZ HK 1) ?_);refine(HD.out _ HK.out.b).mono ?_;rintro en w1 ⟨A2,k2,c2,lo2,O2,m2,d2,R2,rfl,v2,q2,i2⟩;have mE:=zH v2;have HI2:=zH i2;replace HK:=zH (HK.out.join q2);clear q2 v2 i2;simp only[aJ] at HK;go_wp2_with (first|(refine bQ HK ?_;clear HK;intro _ g9 HK;simp only[aO,aJ] at HK)|(refine bf (q:=p9) HK 3 ?_;clear HK;intro _ HK;simp only[lS] at HK)|(refine dF HK 0 ?_;clear HK;intro _ HK;simp only[lS] at HK)|refine zX (iB HK 0) ?_|(refine bA HK 2 ?_;clear HK;intro _ HK;simp only[lS] at HK));refine dQ results32 (HK.out.blk 2 rfl) ?_;unfold dB;exact⟨A2,k2,c2,lo2,none,0,0,_,rfl,mE,HK.out.aA 0,zH fun b W0 W L R K hm hg=>⟨(HI2.out b W0 W L R K hm (.inl hg)).1,bJ.none W⟩⟩
theorem Cb(G:World→Prop)(n:Int)(A:Option Addr)(k cp:Nat)(t:aH.T)(lo:List Oh)(e:aF.E)(w:World)(hG:∀W,G W→bY W A k cp lo)(hs:bY w A k cp lo)(hf:aH.Fit t)(hv:e.cmd.val.f<18446744073709551616)(ho:e.cmd.old.f<18446744073709551616)(hr:e.r≤9223372036854775807)(hc:0≤e.c∧e.c<5)(h3:¬e.cmd.k=3)(h2:¬e.cmd.k=2)(hla:(av.iC (vs lo) (Ap.ref e) e.cmd).later=false):
  Calls prog 32 #[.agg (stA n A k cp t),.agg (iN e)] w (dB G (Ap.gB ⟨n,vs lo,t⟩ (Ap.ref e) e.cmd) (Ap.jE ⟨n,vs lo,t⟩ (Ap.ref e) e.cmd) w):=by
 have HB:=zH (fun W=>wh t (Ap.ref e) W hf hr);have iA:=zH hG;have hfl:=Ap.uq (pW hs) (Ap.ref e) e.cmd;have HD:=zH (fun W (hW:Below w.heap.size w W)=>Mf (fun W=>G W∨Below w.heap.size w W) A cp k lo (Ap.ref e) e.cmd W (fun W h=>h.elim (hG W) fun g=>hs.later g) (hs.later hW) hv ho);have HE:=zH (fun W=>vZ (aH.iq t (Ap.ref e)) (Ap.ref e) (av.iC (vs lo) (Ap.ref e) e.cmd).p W (aH.lN hf _) hfl.1);have uE:=zH (fun(A2:Option Addr) (n2 c2:Nat) (O:Option Addr) (m d:Nat) W (h:bJ aR tF W O m d (av.iC (vs lo) (Ap.ref e) e.cmd).outs)=>CW n A2 n2 c2 _ O m d W (aH.mM (aH.lN hf (Ap.ref e)) (Ap.ref e) hfl.1) h hfl.2);have tH:=zH (Ap.Fh (vs lo) (Ap.ref e) e.cmd);unfold BR at HE;unfold BR at HB;unfold mQ at HD;have H3:Hid (decide (e.cmd.k=3)=false):=zH (decide_eq_false h3);have H2:Hid (decide (e.cmd.k=2)=false):=zH (decide_eq_false h2);unfold Ap.gB Ap.jE;rw[if_neg h3,if_neg h3,if_neg h2,if_neg h2];rw[show(av.iC (⟨n,vs lo,t⟩:Ap.St).l (Ap.ref e) e.cmd)=av.iC (vs lo) (Ap.ref e) e.cmd from rfl];rw[if_neg (by rw[hla];decide),if_neg (by rw[hla];decide)];unfold Ap.kept;dsimp only;have HK:=kX w 33 (stA n A k cp t) 39 (iN e);clear hs hG hf hv ho hr hc h3 h2 hfl;generalize aH.iq t (Ap.ref e)=t1 at *
 generalize av.iC (vs lo) (Ap.ref e) e.cmd=D at *
 obtain⟨l9,p9,la9,os⟩:=D;dsimp only at *
 subst hla;generalize aH.fP t1 (Ap.ref e) p9=t2 at *
 go_enter func32,ntmps32;go_wp2_with (first|(refine aU HK ?_;clear HK;intro _ g1 HK;simp only[aO,aJ] at HK)|refine zX (eU HK 0) ?_|refine zX (aY HK 1) ?_);refine cb (HB.out _) HK ?_;clear HK;intro _ HK;go_wp2_with (first|(refine dD (u:=t1) HK 0 ?_;clear HK;intro _ HK;simp only[lS] at HK)|refine zX (iZ (e:=e) HK 1) ?_|refine zX (aD (m:=e.cmd.k) (n:=3) H3.out) ?_|refine zX (aD (m:=e.cmd.k) (n:=2) H2.out) ?_|refine zX (jl HK 0) ?_|refine zX (aY HK 1) ?_|refine zX (mZ HK 1) ?_);refine(HD.out _ HK.out.b).mono ?_;rintro en w1 ⟨A2,k2,c2,lo2,O2,m2,d2,R2,rfl,v2,q2,i2⟩;have mE:=zH v2;have HI2:=zH i2;replace HK:=zH (HK.out.join q2);clear q2 v2 i2;simp only[aJ] at HK;go_wp2_with (first|(refine bQ HK ?_;clear HK;intro _ g9 HK;simp only[aO,aJ] at HK)|(refine bf (q:=p9) HK 3 ?_;clear HK;intro _ HK;simp only[lS] at HK)|(refine dF HK 0 ?_;clear HK;intro _ HK;simp only[lS] at HK)|refine zX (eU HK 0) ?_|refine zX (aY HK 1) ?_|refine zX (xC HK 3) ?_);refine cb (HE.out _) HK ?_;clear HK;intro _ HK;go_upto_region 14 with (refine dD (u:=t2) HK 0 ?_;clear HK;intro _ HK;simp only[lS] at HK);have gT:Hid (os.length=m2):=zH (HI2.out _ _ _ _ _ HK.out (fun z hz=>hz) (.inr HK.out.b)).2.len;have fB:Hid (([⟨Ap.ref e,p9⟩]++os:List av.Ot).length=1+m2):=zH (by rw[List.length_append,gT.out];rfl);have tJ:Hid (m2≤8):=zH (by rw[← gT.out];exact tH.out);have HL2:=fV (La:=aR) fB (hN:=(by have:=tJ.out;omega));have aj:=zH HK.out.drew;clear HK HD HE HB;refine wp_region_held_drew (S:=(fun W=>Hid (Kn w.heap.size w W [(w.heap.size,33,stA n A2 k2 c2 t2),(w.heap.size+1,39,iN e)] [])∧Hid (Kn w.heap.size w W [(g9,28,cB p9)] []))) (by kernel_rfl) ?_ fun ah=>?_
 ·(try dsimp only);exact(⟨zH ((aj.out.aA 2).ay 0),zH ((aj.out.aI 3).ay 0)⟩:_∧_)
 refine ak 0 rfl ?_ fun _ s=>iB s.1 0
 refine ak 1 rfl ?_;refine ak 3 rfl ?_;refine ak 4 rfl ?_ fun _ s=>aY s.1 1
 refine ak 5 rfl ?_ fun _ s=>xC s.2 0
 refine ak 6 rfl ?_ fun _ s=>kU (r:=Ap.ref e) (p:=p9)
 refine ak 8 rfl ?_;refine jr 2 7 rfl rfl (fun K hK=>?_) fun K hK=>?_
 go_simp;go_at_call 73;refine(uE.out A2 k2 c2 O2 m2 d2 _ (HI2.out _ _ _ _ _ aj.out (fun z hz=>by first|exact hz|exact List.mem_cons_of_mem _ hz) (.inr aj.out.b)).2).mono ?_;rintro en w5 ⟨rfl,b5⟩;replace aj:=zH (aj.out.call b5);clear b5;have hs:=(⟨zH ((aj.out.aA 2).ay 0),zH ((aj.out.aI 3).ay 0)⟩:_∧_);refine bk hK hs fun ah=>?_
 clear hK K;refine aC 7 rfl fun K hK=>?_
 refine dw aR (p:=⟨Ap.ref e,p9⟩) aj ?_;intro _ g5 dY _;replace aj:=zH dY.out.lC;clear dY;have hs:=(⟨zH ((aj.out.aA 2).ay 0),zH ((aj.out.aI 3).ay 0)⟩:_∧_);refine bk hK hs fun ah=>?_
 clear hK K;refine aC 9 rfl fun K hK=>?_
 have HR2:=zH (And.intro (HI2.out _ _ _ _ _ aj.out (fun z hz=>by first|exact hz|exact List.mem_cons_of_mem _ hz) (.inr aj.out.b)).2.rd (HI2.out _ _ _ _ _ aj.out (fun z hz=>by first|exact hz|exact List.mem_cons_of_mem _ hz) (.inr aj.out.b)).2.nl);refine aT aR aj 0 os (hn:=gT.out.symm) HR2 HL2 (N:=1+m2) fB ?_;clear aj;intro A9 c9 _ aj;simp only[lS] at aj HR2;have hs:=(⟨zH ((aj.out.aA 2).ay 0),zH ((aj.out.aI 3).ay 0)⟩:_∧_);refine bk hK hs fun ah=>?_
 clear hK K;refine aC 10 rfl fun K hK=>?_
 refine bZ aj 2 ?_;clear aj;intro w7 aj;simp only[lS] at aj;have hs:=(⟨zH ((aj.out.aA 2).ay 0),zH ((aj.out.aI 3).ay 0)⟩:_∧_);refine bk hK hs fun ah=>?_
 clear hK K;refine ak 11 rfl ?_;refine bW ?_
 rotate_left
 refine dw aR (p:=⟨Ap.ref e,p9⟩) aj ?_;intro _ g5 dY _;replace aj:=zH dY.out.lC;clear dY;have hs:=(⟨zH ((aj.out.aA 2).ay 0),zH ((aj.out.aI 3).ay 0)⟩:_∧_);refine bk hK hs fun ah=>?_
 clear hK K;refine aC 2 rfl fun K hK=>?_
 go_simp;go_at_call 73;refine(uE.out A2 k2 c2 O2 m2 d2 _ (HI2.out _ _ _ _ _ aj.out (fun z hz=>by first|exact hz|exact List.mem_cons_of_mem _ hz) (.inr aj.out.b)).2).mono ?_;rintro en w5 ⟨rfl,b5⟩;replace aj:=zH (aj.out.call b5);clear b5;have hs:=(⟨zH ((aj.out.aA 2).ay 0),zH ((aj.out.aI 3).ay 0)⟩:_∧_);refine bk hK hs fun ah=>?_
 clear hK K;refine aC 9 rfl fun K hK=>?_
 have HR2:=zH (And.intro (HI2.out _ _ _ _ _ aj.out (fun z hz=>by first|exact hz|exact List.mem_cons_of_mem _ hz) (.inr aj.out.b)).2.rd (HI2.out _ _ _ _ _ aj.out (fun z hz=>by first|exact hz|exact List.mem_cons_of_mem _ hz) (.inr aj.out.b)).2.nl);refine aT aR aj 0 os (hn:=gT.out.symm) HR2 HL2 (N:=1+m2) fB ?_;clear aj;intro A9 c9 _ aj;simp only[lS] at aj HR2;have hs:=(⟨zH ((aj.out.aA 2).ay 0),zH ((aj.out.aI 3).ay 0)⟩:_∧_);refine bk hK hs fun ah=>?_
 clear hK K;refine aC 10 rfl fun K hK=>?_
 refine bZ aj 2 ?_;clear aj;intro w7 aj;simp only[lS] at aj;have hs:=(⟨zH ((aj.out.aA 2).ay 0),zH ((aj.out.aI 3).ay 0)⟩:_∧_);refine bk hK hs fun ah=>?_
 clear hK K;refine ak 11 rfl ?_;refine bW ?_
 rotate_left
 all_goals
  have HK:=aj;clear aj ah;go_wp2_with fail;refine dQ results32 (HK.out.blk 2 rfl) ?_;exact abp
theorem EF(G:World→Prop)(n:Int)(A:Option Addr)(k cp:Nat)(t:aH.T)(lo:List Oh)(e:aF.E)(w:World)(hG:∀W,G W→bY W A k cp lo)(hs:bY w A k cp lo)(hf:aH.Fit t)(hv:e.cmd.val.f<18446744073709551616)(ho:e.cmd.old.f<18446744073709551616)(hr:e.r≤9223372036854775807)(hc:0≤e.c∧e.c<5):
  Calls prog 32 #[.agg (stA n A k cp t),.agg (iN e)] w (dB G (Ap.gB ⟨n,vs lo,t⟩ (Ap.ref e) e.cmd) (Ap.jE ⟨n,vs lo,t⟩ (Ap.ref e) e.cmd) w):=by
 by_cases h3:e.cmd.k=3
 ·exact Aq G n A k cp t lo e w hG hs hf hv ho hr hc h3
 by_cases h2:e.cmd.k=2
 ·exact Au G n A k cp t lo e w hG hs hf hv ho hr hc h2
 cases hla:(av.iC (vs lo) (Ap.ref e) e.cmd).later with
 | true=>exact Ar G n A k cp t lo e w hG hs hf hv ho hr hc h3 h2 hla
 | false=>exact Cb G n A k cp t lo e w hG hs hf hv ho hr hc h3 h2 hla
end
section
section
variable {b0:Nat}{w0 w:World}{L:List (Nat×TypeId×Array Value)}{R:List dA}{o:Oper}{a:Act}{g:Nat}{e:aF.E}
theorem afC(HK:Hid (Kn b0 w0 w L R))(i:Nat){x:Operand}(ho:o.op=.load 3 x)(hL:L[i]?=some (g,39,iN e))(hx:a.eval x=.pointer (some ⟨g,1,none⟩)):
  (execOp a.eval o).run prog w=.ok (.value (.int .i64 e.e)) w:=aV HK _ x ho i hL hx underlying3
theorem aaB(HK:Hid (Kn b0 w0 w L R))(i:Nat){x:Operand}(ho:o.op=.load 3 x:=by rfl)(hL:L[i]?=some (g,39,iN e):=by rfl)(hx:a.eval x=.pointer (some ⟨g,2,none⟩):=by rfl):
  (execOp a.eval o).run prog w=.ok (.value (.int .i64 e.r)) w:=aV HK _ x ho i hL hx underlying3
end
theorem EH(G:World→Prop)(n:Int)(A:Option Addr)(k cp:Nat)(t:aH.T)(lo:List Oh)(e:aF.E)(w:World)(hG:∀W,G W→bY W A k cp lo)(hs:bY w A k cp lo)(hf:aH.Fit t)(hv:e.cmd.val.f<18446744073709551616)(ho:e.cmd.old.f<18446744073709551616)(hbad:¬Ap.Can ⟨n,vs lo,t⟩ e):
  Calls prog 11 #[.agg (stA n A k cp t),.agg (iN e)] w (dB G (Ap.mD ⟨n,vs lo,t⟩ e) (Ap.rV ⟨n,vs lo,t⟩ e) w):=by
 rw[(Ap.yB hbad).1,(Ap.yB hbad).2];have HK:=kX w 33 (stA n A k cp t) 39 (iN e);have kF:=zH (fun W (hW:Below w.heap.size w W)=>qM n A k cp t lo W (hs.later hW) hf);have iD:=zH (fun W=>Bu e W hv ho);have iA:=zH hG;unfold cZ at kF;go_enter func11,ntmps11;by_cases h1:Ap.Ok ⟨n,vs lo,t⟩
 case neg=>
  rw[decide_eq_false h1] at kF;clear hs hf hv ho hbad h1 iD hG;go_wp2_with (first|go_big_skip|(refine aU HK ?_;clear HK;intro _ g1 HK;simp only[aO,aJ] at HK)|refine zX (iB HK 0) ?_);refine cb (kF.out _ HK.out.b) HK ?_;clear HK;intro _ HK;go_wp2_with (first|go_big_skip|refine zX (iB HK 0) ?_|(refine bA HK 2 ?_;clear HK;intro _ HK;simp only[lS] at HK));exact NU
 case pos=>
 rw[decide_eq_true h1] at kF;by_cases h2:aF.fits e
 case neg=>
  rw[decide_eq_false h2] at iD;clear hs hf hv ho hbad h1 h2 hG;go_wp2_with (first|go_big_skip|(refine aU HK ?_;clear HK;intro _ g1 HK;simp only[aO,aJ] at HK)|refine zX (iB HK 0) ?_);refine cb (kF.out _ HK.out.b) HK ?_;clear HK;intro _ HK;go_wp2_with (first|go_big_skip|refine zX (gL HK 1) ?_);refine cb (iD.out _) HK ?_;clear HK;intro _ HK;go_wp2_with (first|go_big_skip|refine zX (iB HK 0) ?_|(refine bA HK 2 ?_;clear HK;intro _ HK;simp only[lS] at HK));exact NU
 case pos=>
 have h3:n=9223372036854775807:=Decidable.byContradiction fun g=>hbad ⟨h1,h2,g⟩
 rw[decide_eq_true h2] at iD;have H3:Hid (decide (n=9223372036854775807)=true):=zH (decide_eq_true h3);clear hs hf hv ho hbad h1 h2 hG h3;go_wp2_with (first|go_big_skip|(refine aU HK ?_;clear HK;intro _ g1 HK;simp only[aO,aJ] at HK)|refine zX (iB HK 0) ?_);refine cb (kF.out _ HK.out.b) HK ?_;clear HK;intro _ HK;go_wp2_with (first|go_big_skip|refine zX (gL HK 1) ?_);refine cb (iD.out _) HK ?_;clear HK;intro _ HK;go_wp2_with (first|go_big_skip|refine zX (jL HK 0) ?_|refine zX (aD (m:=n) (n:=9223372036854775807) H3.out) ?_|refine zX (iB HK 0) ?_|(refine bA HK 2 ?_;clear HK;intro _ HK;simp only[lS] at HK));exact NU
theorem EG(G:World→Prop)(n:Int)(A:Option Addr)(k cp:Nat)(t:aH.T)(lo:List Oh)(e:aF.E)(w:World)(hG:∀W,G W→bY W A k cp lo)(hs:bY w A k cp lo)(hf:aH.Fit t)(hv:e.cmd.val.f<18446744073709551616)(ho:e.cmd.old.f<18446744073709551616)(hr:e.r≤9223372036854775807)(hn:n≤9223372036854775807)(hcan:Ap.Can ⟨n,vs lo,t⟩ e):
  Calls prog 11 #[.agg (stA n A k cp t),.agg (iN e)] w (dB G (Ap.mD ⟨n,vs lo,t⟩ e) (Ap.rV ⟨n,vs lo,t⟩ e) w):=by
 obtain⟨s9,Qa⟩:∃s,Ap.sU ⟨n+1,vs lo,t⟩ e=s:=⟨_,rfl⟩;obtain⟨o9,Qc⟩:∃o,Ap.uO ⟨n+1,vs lo,t⟩ e=o:=⟨_,rfl⟩;rw[show Ap.mD ⟨n,vs lo,t⟩ e=Ap.sU ⟨n+1,vs lo,t⟩ e from if_pos hcan,show Ap.rV ⟨n,vs lo,t⟩ e=Ap.uO ⟨n+1,vs lo,t⟩ e from if_pos hcan,Qa,Qc];have HK:=kX w 33 (stA n A k cp t) 39 (iN e);have kF:=zH (fun W (hW:Below w.heap.size w W)=>qM n A k cp t lo W (hs.later hW) hf);have iD:=zH (fun W=>Bu e W hv ho);have iA:=zH hG;obtain⟨hok,hfi,h3⟩:=hcan;replace h3:¬n=9223372036854775807:=h3;have hc:0≤e.c∧e.c<5:=aH.kV (Ap.lX hfi);have H3:Hid (decide (n=9223372036854775807)=false):=zH (decide_eq_false h3);have HW:Hid (IntKind.i64.wrap (n+1)=n+1):=zH (by have:=hok.n;have:0≤n:=this;rw[IntKind.wrap_i64];omega);unfold cZ at kF;rw[decide_eq_true hok] at kF;rw[decide_eq_true hfi] at iD;have hs2:∀W,Below w.heap.size w W→bY W A k cp lo:=fun W hW=>hs.later hW
 go_enter func11,ntmps11;go_wp2_with (first|go_big_skip|(refine aU HK ?_;clear HK;intro _ g1 HK;simp only[aO,aJ] at HK)|refine zX (iB HK 0) ?_);refine cb (kF.out _ HK.out.b) HK ?_;clear HK;intro _ HK;go_wp2_with (first|go_big_skip|refine zX (gL HK 1) ?_);refine cb (iD.out _) HK ?_;clear HK;intro _ HK;clear kF iD;by_cases h18:e.cmd.k=18
 case pos=>
  have FU:Hid (decide (e.cmd.k=18)=true):=zH (decide_eq_true h18);have g18:=Ap.Ic (s:=⟨n+1,vs lo,t⟩) h18;rw[Qa,Qc] at g18;by_cases hh:(t.get e.c).live=true∧(t.get e.c).ep=e.e
  case pos=>
   obtain⟨e1,e2⟩:=g18;rw[if_pos hh] at e1 e2
   have zT:Hid (∀W,Below w.heap.size w W→Calls prog 29 #[.agg (stA (n+1) A k cp t),.int .i64 e.c] W (dB (fun W=>G W∨Below w.heap.size w W) s9 o9 W)):=zH fun W hW=>by
    rw[e1,e2];exact vD (fun W=>G W∨Below w.heap.size w W) (n+1) A k cp t lo e.c W (fun W h=>h.elim (hG W) (hs2 W)) (hs2 W hW) hf hc
   have QI:=zH hh;clear Qa Qc e1 e2 hs hf hG hs2 hr hn hok hfi h3 h18 hv ho hh;obtain⟨n3,l3,t3⟩:=s9;unfold dB at zT;dsimp only at zT;go_upto_region 6 with (first|go_big_skip|refine zX (jL HK 0) ?_|refine zX (aD (m:=n) (n:=9223372036854775807) H3.out) ?_|refine zX (dZ (m:=n) (n:=n+1) HW.out) ?_|(refine eY (m:=n+1) HK 0 ?_;clear HK;intro _ HK;simp only[lS] at HK)|refine zX (uN (e:=e) HK 1) ?_|refine zX (dV hc) ?_|refine zX (oK HK 0 hc) ?_|(refine bE HK ?_;clear HK;intro _ g6 HK;simp only[aO,aJ] at HK)|(refine bD (u:=t.get e.c) HK 3 ?_;clear HK;intro _ HK;simp only[lS] at HK)|refine zX (iZ (e:=e) HK 1) ?_|refine zX (aD (m:=e.cmd.k) (n:=18) FU.out) ?_);have fl:=HK.out.cell 3 rfl 0 (v:=.bool true) (by rw[← QI.out.1];rfl);have fe:=HK.out.cell 3 rfl 1 (v:=.int .i64 e.e) (by rw[← QI.out.2];rfl);have fr:=HK.out.cell 1 rfl 1 (v:=.int .i64 e.e) rfl;go_upto_region 7 with go_big_skip;clear fl fe fr;go_wp2_with (first|refine zX (iB HK 0) ?_|refine zX (uN (e:=e) HK 1) ?_);exact abA
  case neg=>
   obtain⟨e1,e2⟩:=g18;rw[if_neg hh] at e1 e2;subst e1 e2;obtain⟨q1,hq1⟩:∃q,(t.get e.c).live=q:=⟨_,rfl⟩;obtain⟨q2,hq2⟩:∃q,decide ((t.get e.c).ep=e.e)=q:=⟨_,rfl⟩;have Q1:=zH hq1;have Q2:=zH hq2
   have HF:Hid ((q1&&q2)=false):=zH (by
    cases q1 with
    | false=>rfl
    | true=>rw[← hq2];exact decide_eq_false fun g=>hh ⟨hq1,g⟩)
   clear Qa Qc hs hf hG hs2 hr hn hok hfi h3 h18 hv ho hh hq1 hq2;go_upto_region 6 with (first|go_big_skip|refine zX (jL HK 0) ?_|refine zX (aD (m:=n) (n:=9223372036854775807) H3.out) ?_|refine zX (dZ (m:=n) (n:=n+1) HW.out) ?_|(refine eY (m:=n+1) HK 0 ?_;clear HK;intro _ HK;simp only[lS] at HK)|refine zX (uN (e:=e) HK 1) ?_|refine zX (dV hc) ?_|refine zX (oK HK 0 hc) ?_|(refine bE HK ?_;clear HK;intro _ g6 HK;simp only[aO,aJ] at HK)|(refine bD (u:=t.get e.c) HK 3 ?_;clear HK;intro _ HK;simp only[lS] at HK)|refine zX (iZ (e:=e) HK 1) ?_|refine zX (aD (m:=e.cmd.k) (n:=18) FU.out) ?_)
   cases q1 with
   | false=>
    go_wp2_with (first|go_big_skip|refine zX ((nQ HK 3).trans (by rw[Q1.out])) ?_|refine zX (iB HK 0) ?_|(refine bA HK 2 ?_;clear HK;intro _ HK;simp only[lS] at HK));exact NU
   | true=>
    obtain rfl:q2=false:=HF.out;go_wp2_with (first|go_big_skip|refine zX ((nQ HK 3).trans (by rw[Q1.out])) ?_|refine zX (oM HK 3) ?_|refine zX (afC (e:=e) HK 1 (by rfl) (by rfl) (by rfl)) ?_|refine zX (aD (m:=(t.get e.c).ep) (n:=e.e) Q2.out) ?_|refine zX (iB HK 0) ?_|(refine bA HK 2 ?_;clear HK;intro _ HK;simp only[lS] at HK));exact NU
 case neg=>
 have FU:Hid (decide (e.cmd.k=18)=false):=zH (decide_eq_false h18);have og:=zH (fun W=>xP t (Ap.ref e) W hf hr);unfold gG at og;by_cases hl:aH.look t (Ap.ref e)=1
 case pos=>
  have g1:=Ap.Yu (s:=⟨n+1,vs lo,t⟩) h18 hl;rw[Qa,Qc] at g1;rw[hl] at og;have Z1:Hid (decide ((1:Int)=1)=true):=zH rfl;by_cases h0:e.r=0
  case pos=>
   obtain⟨e1,e2⟩:=g1;rw[if_pos h0] at e1 e2;have E0:Hid (decide (e.r=0)=true):=zH (decide_eq_true h0)
   have zT:Hid (∀W,Below w.heap.size w W→Calls prog 31 #[.agg (stA (n+1) A k cp t),.agg #[.int .i64 e.c,.int .i64 e.e,.int .i64 e.r]] W (dB (fun W=>G W∨Below w.heap.size w W) s9 o9 W)):=zH fun W hW=>by
    rw[e1,e2];exact Gu (fun W=>G W∨Below w.heap.size w W) (n+1) A k cp t lo (Ap.ref e) W (fun W h=>h.elim (hG W) (hs2 W)) (hs2 W hW) hf hc hr
   clear Qa Qc e1 e2 hs hf hG hs2 hr hn hok hfi h3 h18 hv ho h0 hl;obtain⟨n3,l3,t3⟩:=s9;unfold dB at zT;dsimp only at zT;go_wp2_with (first|go_big_skip|refine zX (jL HK 0) ?_|refine zX (aD (m:=n) (n:=9223372036854775807) H3.out) ?_|refine zX (dZ (m:=n) (n:=n+1) HW.out) ?_|(refine eY (m:=n+1) HK 0 ?_;clear HK;intro _ HK;simp only[lS] at HK)|refine zX (uN (e:=e) HK 1) ?_|refine zX (dV hc) ?_|refine zX (oK HK 0 hc) ?_|(refine bE HK ?_;clear HK;intro _ g6 HK;simp only[aO,aJ] at HK)|(refine bD (u:=t.get e.c) HK 3 ?_;clear HK;intro _ HK;simp only[lS] at HK)|refine zX (iZ (e:=e) HK 1) ?_|refine zX (aD (m:=e.cmd.k) (n:=18) FU.out) ?_|refine zX (eU HK 0) ?_|refine zX (aY HK 1) ?_);refine cb (og.out _) HK ?_;clear HK;intro _ HK;go_wp2_with (first|refine zX (aD (m:=1) (n:=1) Z1.out) ?_|refine zX (aaB (e:=e) HK 1) ?_|refine zX (aD (m:=e.r) (n:=0) E0.out) ?_|refine zX (iB HK 0) ?_|refine zX (aY HK 1) ?_);exact abA
  case neg=>
   obtain⟨e1,e2⟩:=g1;rw[if_neg h0] at e1 e2;have E0:Hid (decide (e.r=0)=false):=zH (decide_eq_false h0)
   have zT:Hid (∀W,Below w.heap.size w W→Calls prog 32 #[.agg (stA (n+1) A k cp t),.agg (iN e)] W (dB (fun W=>G W∨Below w.heap.size w W) s9 o9 W)):=zH fun W hW=>by
    rw[e1,e2];exact EF (fun W=>G W∨Below w.heap.size w W) (n+1) A k cp t lo e W (fun W h=>h.elim (hG W) (hs2 W)) (hs2 W hW) hf hv ho hr hc
   clear Qa Qc e1 e2 hs hf hG hs2 hr hn hok hfi h3 h18 hv ho h0 hl;obtain⟨n3,l3,t3⟩:=s9;unfold dB at zT;dsimp only at zT;go_wp2_with (first|go_big_skip|refine zX (jL HK 0) ?_|refine zX (aD (m:=n) (n:=9223372036854775807) H3.out) ?_|refine zX (dZ (m:=n) (n:=n+1) HW.out) ?_|(refine eY (m:=n+1) HK 0 ?_;clear HK;intro _ HK;simp only[lS] at HK)|refine zX (uN (e:=e) HK 1) ?_|refine zX (dV hc) ?_|refine zX (oK HK 0 hc) ?_|(refine bE HK ?_;clear HK;intro _ g6 HK;simp only[aO,aJ] at HK)|(refine bD (u:=t.get e.c) HK 3 ?_;clear HK;intro _ HK;simp only[lS] at HK)|refine zX (iZ (e:=e) HK 1) ?_|refine zX (aD (m:=e.cmd.k) (n:=18) FU.out) ?_|refine zX (eU HK 0) ?_|refine zX (aY HK 1) ?_);refine cb (og.out _) HK ?_;clear HK;intro _ HK;go_wp2_with (first|refine zX (aD (m:=1) (n:=1) Z1.out) ?_|refine zX (aaB (e:=e) HK 1) ?_|refine zX (aD (m:=e.r) (n:=0) E0.out) ?_|refine zX (iB HK 0) ?_|refine zX (gL HK 1) ?_);exact abA
 case neg=>
 by_cases h2:aH.look t (Ap.ref e)=2
 case pos=>
  have g2:=Ap.afM (s:=⟨n+1,vs lo,t⟩) h18 h2;rw[Qa,Qc] at g2;obtain⟨e1,e2⟩:=g2;subst e1 e2;rw[h2] at og;have Z1:Hid (decide ((2:Int)=1)=false):=zH rfl;have Z2:Hid (decide ((2:Int)=2)=true):=zH rfl;clear Qa Qc hs hf hG hs2 hr hn hok hfi h3 h18 hv ho hl h2;go_wp2_with (first|go_big_skip|refine zX (jL HK 0) ?_|refine zX (aD (m:=n) (n:=9223372036854775807) H3.out) ?_|refine zX (dZ (m:=n) (n:=n+1) HW.out) ?_|(refine eY (m:=n+1) HK 0 ?_;clear HK;intro _ HK;simp only[lS] at HK)|refine zX (uN (e:=e) HK 1) ?_|refine zX (dV hc) ?_|refine zX (oK HK 0 hc) ?_|(refine bE HK ?_;clear HK;intro _ g6 HK;simp only[aO,aJ] at HK)|(refine bD (u:=t.get e.c) HK 3 ?_;clear HK;intro _ HK;simp only[lS] at HK)|refine zX (iZ (e:=e) HK 1) ?_|refine zX (aD (m:=e.cmd.k) (n:=18) FU.out) ?_|refine zX (eU HK 0) ?_|refine zX (aY HK 1) ?_);refine cb (og.out _) HK ?_;clear HK;intro _ HK;go_upto_region 15 with (first|refine zX (aD (m:=2) (n:=1) Z1.out) ?_|refine zX (aD (m:=2) (n:=2) Z2.out) ?_);have aj:=zH HK.out.drew;clear HK og;refine wp_region_held_drew (S:=(fun W=>Hid (Kn w.heap.size w W [(w.heap.size,33,stA (n+1) A k cp t),(w.heap.size+1,39,iN e)] [])∧Hid (Kn w.heap.size w W [(g6,30,gq (t.get e.c))] []))) (by kernel_rfl) ?_ fun ah=>?_
  ·(try dsimp only);exact And.intro (zH ((aj.out.aA 2).ay 0)) (zH (((aj.out.aI 3).aA 1).ay 0))
  refine ak 0 rfl ?_ fun _ s=>iB s.1 0
  refine ak 1 rfl ?_;refine ak 2 rfl ?_ fun _ s=>aY s.1 1
  refine ak 3 rfl ?_;refine ak 4 rfl ?_ fun _ s=>kg s.2 0
  refine ak 5 rfl ?_ fun _ s=>kU (r:=Ap.ref e) (p:=(t.get e.c).p)
  refine jr 6 7 rfl rfl (fun K hK=>?_) fun K hK=>?_
  refine dw aR (p:=⟨Ap.ref e,(t.get e.c).p⟩) aj ?_;clear aj;intro _ g5 aj _;simp only[aJ] at aj;have hs:=And.intro (zH ((aj.out.aA 2).ay 0)) (zH (((aj.out.aI 3).aA 1).ay 0));refine bk hK hs fun ah=>?_
  clear hK K;refine aC 7 rfl fun K hK=>?_
  refine bZ aj 2 ?_;clear aj;intro w7 aj;simp only[lS] at aj;have hs:=And.intro (zH ((aj.out.aA 2).ay 0)) (zH (((aj.out.aI 3).aA 1).ay 0));refine bk hK hs fun ah=>?_
  clear hK K;refine ak 8 rfl ?_;refine bW ?_
  rotate_left
  refine bZ aj 2 ?_;clear aj;intro w7 aj;simp only[lS] at aj;have hs:=And.intro (zH ((aj.out.aA 2).ay 0)) (zH (((aj.out.aI 3).aA 1).ay 0));refine bk hK hs fun ah=>?_
  clear hK K;refine aC 6 rfl fun K hK=>?_
  refine dw aR (p:=⟨Ap.ref e,(t.get e.c).p⟩) aj ?_;clear aj;intro _ g5 aj _;simp only[aJ] at aj;have hs:=And.intro (zH ((aj.out.aA 2).ay 0)) (zH (((aj.out.aI 3).aA 1).ay 0));refine bk hK hs fun ah=>?_
  clear hK K;refine ak 8 rfl ?_;refine bW ?_
  rotate_left
  all_goals
   exact aeo
 case neg=>
 by_cases h4:aH.look t (Ap.ref e)=4
 case pos=>
  have g4:Ap.sU ⟨n+1,vs lo,t⟩ e=⟨n+1,vs lo,t⟩∧Ap.uO ⟨n+1,vs lo,t⟩ e=[⟨Ap.ref e,av.err 14⟩]:=by
   unfold Ap.sU Ap.uO;dsimp only;rw[if_neg h18,if_neg h18,h4];exact ni
  rw[Qa,Qc] at g4;obtain⟨e1,e2⟩:=g4;subst e1 e2;rw[h4] at og;have Z1:Hid (decide ((4:Int)=1)=false):=zH rfl;have Z2:Hid (decide ((4:Int)=2)=false):=zH rfl;have Z4:Hid (decide ((4:Int)=4)=true):=zH rfl;clear Qa Qc hs hf hG hs2 hr hn hok hfi h3 h18 hv ho hl h2 h4;go_wp2_with (first|go_big_skip|refine zX (jL HK 0) ?_|refine zX (aD (m:=n) (n:=9223372036854775807) H3.out) ?_|refine zX (dZ (m:=n) (n:=n+1) HW.out) ?_|(refine eY (m:=n+1) HK 0 ?_;clear HK;intro _ HK;simp only[lS] at HK)|refine zX (uN (e:=e) HK 1) ?_|refine zX (dV hc) ?_|refine zX (oK HK 0 hc) ?_|(refine bE HK ?_;clear HK;intro _ g6 HK;simp only[aO,aJ] at HK)|(refine bD (u:=t.get e.c) HK 3 ?_;clear HK;intro _ HK;simp only[lS] at HK)|refine zX (iZ (e:=e) HK 1) ?_|refine zX (aD (m:=e.cmd.k) (n:=18) FU.out) ?_|refine zX (eU HK 0) ?_|refine zX (aY HK 1) ?_);refine cb (og.out _) HK ?_;clear HK;intro _ HK;go_upto_region 17 with (first|refine zX (aD (m:=4) (n:=1) Z1.out) ?_|refine zX (aD (m:=4) (n:=2) Z2.out) ?_|refine zX (aD (m:=4) (n:=4) Z4.out) ?_);have aj:=zH HK.out.drew;clear HK og;refine wp_region_held_drew (S:=(fun W=>Hid (Kn w.heap.size w W [(w.heap.size,33,stA (n+1) A k cp t),(w.heap.size+1,39,iN e)] [])∧Hid (Kn w.heap.size w W [(g6,30,gq (t.get e.c))] []))) (by kernel_rfl) ?_ fun ah=>?_
  ·(try dsimp only);exact And.intro (zH ((aj.out.aA 2).ay 0)) (zH (((aj.out.aI 3).aA 1).ay 0))
  refine ak 0 rfl ?_ fun _ s=>iB s.1 0
  refine ak 1 rfl ?_;refine ak 2 rfl ?_ fun _ s=>aY s.1 1
  refine ak 3 rfl ?_ fun _ s=>mO (e:=14)
  refine ak 4 rfl ?_ fun _ s=>kU (r:=Ap.ref e) (p:=av.err 14)
  refine jr 5 6 rfl rfl (fun K hK=>?_) fun K hK=>?_
  refine dw aR (p:=⟨Ap.ref e,av.err 14⟩) aj ?_;clear aj;intro _ g5 aj _;simp only[aJ] at aj;have hs:=And.intro (zH ((aj.out.aA 2).ay 0)) (zH (((aj.out.aI 3).aA 1).ay 0));refine bk hK hs fun ah=>?_
  clear hK K;refine aC 6 rfl fun K hK=>?_
  refine bZ aj 2 ?_;clear aj;intro w7 aj;simp only[lS] at aj;have hs:=And.intro (zH ((aj.out.aA 2).ay 0)) (zH (((aj.out.aI 3).aA 1).ay 0));refine bk hK hs fun ah=>?_
  clear hK K;refine ak 7 rfl ?_;refine bW ?_
  rotate_left
  refine bZ aj 2 ?_;clear aj;intro w7 aj;simp only[lS] at aj;have hs:=And.intro (zH ((aj.out.aA 2).ay 0)) (zH (((aj.out.aI 3).aA 1).ay 0));refine bk hK hs fun ah=>?_
  clear hK K;refine aC 5 rfl fun K hK=>?_
  refine dw aR (p:=⟨Ap.ref e,av.err 14⟩) aj ?_;clear aj;intro _ g5 aj _;simp only[aJ] at aj;have hs:=And.intro (zH ((aj.out.aA 2).ay 0)) (zH (((aj.out.aI 3).aA 1).ay 0));refine bk hK hs fun ah=>?_
  clear hK K;refine ak 7 rfl ?_;refine bW ?_
  rotate_left
  all_goals
   exact aeo
 case neg=>
  have g5:Ap.sU ⟨n+1,vs lo,t⟩ e=⟨n+1,vs lo,t⟩∧Ap.uO ⟨n+1,vs lo,t⟩ e=[]:=by
   unfold Ap.sU Ap.uO;dsimp only;rw[if_neg h18,if_neg h18,if_neg hl,if_neg hl,if_neg h2,if_neg h4];exact ni
  rw[Qa,Qc] at g5;obtain⟨e1,e2⟩:=g5;subst e1 e2;have Z1:=zH (decide_eq_false hl);have Z2:=zH (decide_eq_false h2);have Z4:=zH (decide_eq_false h4);clear Qa Qc hs hf hG hs2 hr hn hok hfi h3 h18 hv ho hl h2 h4;generalize aH.look t (Ap.ref e)=z at *
  go_wp2_with (first|go_big_skip|refine zX (jL HK 0) ?_|refine zX (aD (m:=n) (n:=9223372036854775807) H3.out) ?_|refine zX (dZ (m:=n) (n:=n+1) HW.out) ?_|(refine eY (m:=n+1) HK 0 ?_;clear HK;intro _ HK;simp only[lS] at HK)|refine zX (uN (e:=e) HK 1) ?_|refine zX (dV hc) ?_|refine zX (oK HK 0 hc) ?_|(refine bE HK ?_;clear HK;intro _ g6 HK;simp only[aO,aJ] at HK)|(refine bD (u:=t.get e.c) HK 3 ?_;clear HK;intro _ HK;simp only[lS] at HK)|refine zX (iZ (e:=e) HK 1) ?_|refine zX (aD (m:=e.cmd.k) (n:=18) FU.out) ?_|refine zX (eU HK 0) ?_|refine zX (aY HK 1) ?_);refine cb (og.out _) HK ?_;clear HK;intro _ HK;go_wp2_with (first|refine zX (aD (m:=z) (n:=1) Z1.out) ?_|refine zX (aD (m:=z) (n:=2) Z2.out) ?_|refine zX (aD (m:=z) (n:=4) Z4.out) ?_|refine zX (iB HK 0) ?_|(refine bA HK 2 ?_;clear HK;intro _ HK;simp only[lS] at HK));exact NU
theorem wm(G:World→Prop)(n:Int)(A:Option Addr)(k cp:Nat)(t:aH.T)(lo:List Oh)(e:aF.E)(w:World)(hG:∀W,G W→bY W A k cp lo)(hs:bY w A k cp lo)(hf:aH.Fit t)(hv:e.cmd.val.f<18446744073709551616)(ho:e.cmd.old.f<18446744073709551616)(hr:e.r≤9223372036854775807)(hn:n≤9223372036854775807):
  Calls prog 11 #[.agg (stA n A k cp t),.agg (iN e)] w (dB G (Ap.mD ⟨n,vs lo,t⟩ e) (Ap.rV ⟨n,vs lo,t⟩ e) w):=by
 by_cases hcan:Ap.Can ⟨n,vs lo,t⟩ e
 ·exact EG G n A k cp t lo e w hG hs hf hv ho hr hn hcan
 ·exact EH G n A k cp t lo e w hG hs hf hv ho hcan
end
section
theorem Vg{w:World}{o:Oper}{a:Act}{x:av.Ot}{i:Operand}{j:Operand}(ho:o.op=.binOp .neq 71 i j 71)(hx:a.eval i=.agg (za x))(hy:a.eval j=.agg (za x)):
  (execOp a.eval o).run prog w=.ok (.value (.bool false)) w:=by
 unfold execOp;simp only[ho,hx,hy];unfold za;go_simp
theorem Iq{w:World}{o:Oper}{a:Act}{b off:Nat}{x:av.Ot}{p:Operand}(hc:∀j v,(XI x)[j]?=some v→w.cell? ⟨b,off+j,none⟩=some v)(ho:o.op=.load 71 p:=by rfl)(hx:a.eval p=.pointer (some ⟨b,off,none⟩):=by rfl):
  (execOp a.eval o).run prog w=.ok (.value (.agg (za x))) w:=je aR (x:=x) p (ho:=ho) (hx:=hx) underlying71 hc
theorem GH(A B:Option Addr)(n c d:Nat)(l:List av.Ot)(w:World)(hs:bJ aR tF w A n c l)(ht:bJ aR tF w B n d l):
  Calls prog 16 #[.slice A n c,.slice B n d] w (cZ true w):=by
 unfold cZ;have HS:=zH hs;have HT:=zH ht;have hbig:n*72≤140737488355328:=hs.big;have Hz:((n:Int) != (n:Int))=false:=by simp
 have HK:=zH (Kn.start w);clear hs ht;go_enter func16,ntmps16;go_wp2_with fail;go_loopw [5] (fun vi wr=>∃k:Nat,k≤n∧vi=.int .i64 k∧Hid (Kn w.heap.size w wr [] [])) (fun vi _=>n-(intOf vi).toNat)
 case atStart=>exact⟨0,Nat.zero_le _,rfl,HK⟩
 case round=>
  clear HK;obtain⟨k,hk,rfl,HK⟩:=hrel;have hk1:(0:Int)≤(k:Int):=by omega
  by_cases hlt:k<n
  case pos=>
   have hk2:(k:Int)<(n:Int):=by omega
   have hk3:k<9223372036854775807:=by omega
   obtain⟨x,hx,_⟩:=HS.out.get hlt;obtain⟨b1,o1,rfl,wM⟩:=HS.out.at (Nat.lt_of_le_of_lt (Nat.zero_le _) hlt);obtain⟨b2,o2,rfl,wL⟩:=HT.out.at (Nat.lt_of_le_of_lt (Nat.zero_le _) hlt);have HX:Hid (∀W,Below w.heap.size w W→∀j v,(XI x)[j]?=some v→W.cell? ⟨b1,o1+k*8+j,none⟩=some v):=zH (fun W hW=>wM W hW k x hx);have HY:Hid (∀W,Below w.heap.size w W→∀j v,(XI x)[j]?=some v→W.cell? ⟨b2,o2+k*8+j,none⟩=some v):=zH (fun W hW=>wL W hW k x hx);clear wM wL hx;go_wp2_with fail;replace HK:=zH HK.out.drew;refine zR HK.out fun ah=>?_
   refine ak 0 rfl ?_;refine ak 1 rfl ?_;refine ak 2 rfl ?_ fun _ s=>gM aR (i:=k) hlt
   refine ak 3 rfl ?_ fun _ s=>Iq (x:=x) (off:=o1+k*8) (HX.out _ s.out.b)
   refine ak 4 rfl ?_;refine ak 5 rfl ?_;refine ak 6 rfl ?_ fun _ s=>gM aR (i:=k) hlt
   refine ak 7 rfl ?_ fun _ s=>Iq (x:=x) (off:=o2+k*8) (HY.out _ s.out.b)
   refine ak 8 rfl ?_ fun _ s=>Vg (x:=x) (by rfl) (by rfl) (by rfl)
   refine bW ?_;replace HK:=ah;go_wp2_with refine zX (aL (j:=k) hk3) ?_;exact⟨⟨k+1,by omega,by go_num,HK⟩,by simp[intOf];omega⟩
  case neg=>
  have hk2:¬(k:Int)<(n:Int):=by omega
  exact iU
end
section
def InR(Rk:List dA)(W:World):Prop:=∃(b:Nat) (W0:World) (L:List (Nat×TypeId×Array Value)) (R:List dA),Kn b W0 W L R∧∀y∈Rk,y∈R
section
variable {w:World}{o:Oper}{a:Act}
theorem Yy{x:Bool}{p:Operand}{q:Operand}(ho:o.op=.binOp .eql 4 p q 4)(hp:a.eval p=.bool x)(hq:a.eval q=.bool x):
  (execOp a.eval o).run prog w=.ok (.value (.bool true)) w:=by
 unfold execOp;simp only[ho,hp,hq];go_simp
end
end
end Go.Proofs.YtieoeendnccafaaGreat
