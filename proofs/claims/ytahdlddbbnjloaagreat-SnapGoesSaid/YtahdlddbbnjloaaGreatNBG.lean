/- What the document's Right, numbers, others return. No condition but those named. -/
import Derived.Test.YtahdlddbbnjloaaGreatNBF
set_option linter.unusedSimpArgs false
set_option linter.unusedVariables false
set_option maxRecDepth 100000
set_option maxHeartbeats 25600000
open Go.RowKit
namespace Go.Proofs.YtahdlddbbnjloaaGreat
open _root_.Go.Proofs.Tryz
section
theorem CX(t:aG.T)(r:Rf)(w:World)(hf:aG.Fit t)(hr:r.r≤9223372036854775807):Calls prog 46 #[.agg (dU t),.agg #[.int .i64 r.c,.int .i64 r.e,.int .i64 r.r]] w (abY (aG.jv t r) (aG.rW t r) w):=by
 have HL:=zH (fun W=>xG t r W hf hr);have HK:=uj w 31 (dU t) 44 #[.int .i64 r.c,.int .i64 r.e,.int .i64 r.r];have HY:=zH (fun h1 h2 h3=>aG.afl (t:=t) (r:=r) h1 h2 h3);have HF:=zH (fun h1 h2 h3=>aG.ZJ (t:=t) (r:=r) h1 h2 h3);have kU:=zH (fun h=>aG.afn (t:=t) (r:=r) h);have fP:=zH (fun h=>aG.afm (t:=t) (r:=r) h);have HC:=zH (fun h=>aG.sF (t:=t) (r:=r) (k:=1) h (by decide));have HV:=zH (fun W=>CY t r.c W);unfold abY;unfold jo at HL HV;clear hf hr;generalize aG.look t r=x at *
 generalize aG.jv t r=y at *
 generalize aG.rW t r=v at *
 generalize aG.live t r.c=m at *
 generalize h3:decide (m<4)=b3 at *
 have H3:=zH h3;generalize h1:decide (x=1)=b1 at *
 have H1:=zH h1;generalize h2:decide (r.r=0)=b2 at *
 have H2:=zH h2;clear h1 h2 h3;cases b1
 case false=>
  obtain⟨hx1,hx2⟩:=kU.out (by simp);have JC:=zH hx1;have HX2:=zH hx2;clear hx1 hx2;go_enter func46,ntmps46;go_wp2_with (first|refine zX (qR HK 0) ?_|refine zX (aP HK 1) ?_|(refine eO HK ?_;clear HK;intro _ g1 HK;simp only[aS,aK] at HK)|(refine iw HK ?_;clear HK;intro _ g2 HK;simp only[aS,aK] at HK));refine cb (HL.out _) HK ?_;clear HK;intro _ HK;go_wp2_with (first|refine zX (bJ (m:=x) (n:=1) (by rw[H1.out])) ?_|refine zX (qR HK 0) ?_|(refine dH (t2:=t) HK 2 ?_;clear HK;intro _ HK;simp only[lS] at HK)|refine zX (wL (e:=1)) ?_|(refine bX (q:=au.err 1) HK 3 ?_;clear HK;intro _ HK;simp only[lS] at HK));rw[← JC.out] at HK;rw[← HX2.out] at HK;exact YD
 cases b2
 case false=>
  obtain⟨hx1,hx2⟩:=fP.out (by simp);have JC:=zH hx1;have HX2:=zH hx2;clear hx1 hx2;go_enter func46,ntmps46;go_wp2_with (first|refine zX (qR HK 0) ?_|refine zX (aP HK 1) ?_|(refine eO HK ?_;clear HK;intro _ g1 HK;simp only[aS,aK] at HK)|(refine iw HK ?_;clear HK;intro _ g2 HK;simp only[aS,aK] at HK));refine cb (HL.out _) HK ?_;clear HK;intro _ HK;go_wp2_with (first|refine zX (bJ (m:=x) (n:=1) (by rw[H1.out])) ?_|refine zX (bJ (m:=r.r) (n:=0) (by rw[H2.out])) ?_|refine zX (Ig (x:=r) HK 1) ?_|refine zX (qR HK 0) ?_|(refine dH (t2:=t) HK 2 ?_;clear HK;intro _ HK;simp only[lS] at HK)|refine zX (wL (e:=1)) ?_|(refine bX (q:=au.err 1) HK 3 ?_;clear HK;intro _ HK;simp only[lS] at HK));rw[← JC.out] at HK;rw[← HX2.out] at HK;exact YD
 have hc:=HC.out (of_decide_eq_true H1.out);go_enter func46,ntmps46;go_wp2_with (first|refine zX (qR HK 0) ?_|refine zX (aP HK 1) ?_|(refine eO HK ?_;clear HK;intro _ g1 HK;simp only[aS,aK] at HK)|(refine iw HK ?_;clear HK;intro _ g2 HK;simp only[aS,aK] at HK));refine cb (HL.out _) HK ?_;clear HK;intro _ HK;go_wp2_with (first|refine zX (bJ (m:=x) (n:=1) (by rw[H1.out])) ?_|refine zX (bJ (m:=r.r) (n:=0) (by rw[H2.out])) ?_|refine zX (Ig (x:=r) HK 1) ?_|refine zX (qO (x:=r) HK 1) ?_|refine zX (aiQ (x:=r) HK 1 (by rfl) (by rfl) (by rfl)) ?_|refine zX (abd (e:=r.e) (by rfl) (by rfl)) ?_|(refine bE HK ?_;clear HK;intro _ g3 HK;simp only[aS,aK] at HK)|(refine bD (u:=⟨true,r.e,0,true,au.rz⟩) HK 4 ?_;clear HK;intro _ HK;simp only[lS] at HK)|refine zX (qR HK 0) ?_);refine cb (HV.out _) HK ?_;clear HK;intro _ HK;cases b3
 case false=>
  obtain⟨hx1,hx2⟩:=HF.out (by simp) (by simp) (by simp);have JC:=zH hx1;have HX2:=zH hx2;clear hx1 hx2;go_upto_region 8 with (first|refine zX (oN (m:=m) (n:=4) (show decide (4≤m)=true from by have:=of_decide_eq_false H3.out;simp;omega)) ?_|refine zX (qO (x:=r) HK 1) ?_|refine zX (gM hc) ?_|refine zX (Ie HK 4) ?_|(refine uL (d:=false) HK 4 ?_;clear HK;intro _ HK;simp only[lS] at HK)|(refine JL (n:=6) HK 4 rfl rfl rfl rfl rfl ?_;clear HK;intro _ HK;simp only[lS] at HK)|(refine mq (s:=⟨false,r.e,0,true,au.err 6⟩) HK 0 hc ?_;clear HK;intro _ HK;simp only[lS] at HK))
  (try simp only[aG.set_set hc] at HK)
  rw[← JC.out] at HK;have aj:=zH HK.out.drew;clear HK;refine wp_region_held_drew (S:=(fun W=>Hid (Kn w.heap.size w W [(w.heap.size,31,dU y)] [])∧Hid (Kn w.heap.size w W [(g3,30,fK ⟨false,r.e,0,true,au.err 6⟩)] []))) (by kernel_rfl) ?_ fun ah=>?_
  ·(try dsimp only);exact⟨zH (aj.out.aB 1),zH (aj.out.aO 4)⟩
  refine ak 0 rfl ?_ fun _ s=>qR s.1 0
  refine ak 1 rfl ?_;refine ak 2 rfl ?_ (fun w Ym=>kH (s:=⟨false,r.e,0,true,au.err 6⟩) Ym.2 0);refine aC 3 rfl fun K hK=>?_
  refine Gh (t2:=y) aj 2 ?_;clear aj;intro w6 aj;simp only[lS] at aj;have hs:=(⟨zH (aj.out.aB 1),zH (aj.out.aO 4)⟩:_∧_);refine bk hK hs fun ah=>?_
  clear hK K;refine aC 4 rfl fun K hK=>?_
  refine bO (q:=au.err 6) aj 3 ?_;clear aj;intro w7 aj;simp only[lS] at aj;have hs:=(⟨zH (aj.out.aB 1),zH (aj.out.aO 4)⟩:_∧_);refine bk hK hs fun ah=>?_
  clear hK K;refine cB ?_
  all_goals
   have HK:=aj;clear aj ah;rw[← HX2.out] at HK;go_wp2_with fail;exact YD
 case true=>
  obtain⟨hx1,hx2⟩:=HY.out (by simp) (by simp) (by simp);have JC:=zH hx1;have HX2:=zH hx2;clear hx1 hx2;go_upto_region 8 with (first|refine zX (oN (m:=m) (n:=4) (show decide (4≤m)=false from by have:=of_decide_eq_true H3.out;simp;omega)) ?_|refine zX (qO (x:=r) HK 1) ?_|refine zX (gM hc) ?_|refine zX (Ie HK 4) ?_|(refine mq (s:=⟨true,r.e,0,true,au.rz⟩) HK 0 hc ?_;clear HK;intro _ HK;simp only[lS] at HK))
  (try simp only[aG.set_set hc] at HK)
  rw[← JC.out] at HK;have aj:=zH HK.out.drew;clear HK;refine wp_region_held_drew (S:=(fun W=>Hid (Kn w.heap.size w W [(w.heap.size,31,dU y)] [])∧Hid (Kn w.heap.size w W [(g3,30,fK ⟨true,r.e,0,true,au.rz⟩)] []))) (by kernel_rfl) ?_ fun ah=>?_
  ·(try dsimp only);exact⟨zH (aj.out.aB 1),zH (aj.out.aO 4)⟩
  refine ak 0 rfl ?_ fun _ s=>qR s.1 0
  refine ak 1 rfl ?_;refine ak 2 rfl ?_ (fun w Ym=>kH (s:=⟨true,r.e,0,true,au.rz⟩) Ym.2 0);refine aC 3 rfl fun K hK=>?_
  refine Gh (t2:=y) aj 2 ?_;clear aj;intro w6 aj;simp only[lS] at aj;have hs:=(⟨zH (aj.out.aB 1),zH (aj.out.aO 4)⟩:_∧_);refine bk hK hs fun ah=>?_
  clear hK K;refine aC 4 rfl fun K hK=>?_
  refine bO (q:=au.rz) aj 3 ?_;clear aj;intro w7 aj;simp only[lS] at aj;have hs:=(⟨zH (aj.out.aB 1),zH (aj.out.aO 4)⟩:_∧_);refine bk hK hs fun ah=>?_
  clear hK K;refine cB ?_
  all_goals
   have HK:=aj;clear aj ah;rw[← HX2.out] at HK;go_wp2_with fail;exact YD
end
section
theorem GL(G:World→Prop)(n:Int)(A:Option Addr)(k cp:Nat)(t:aG.T)(lo:List Oh)(r:Rf)(w:World)(hG:∀W,G W→dS W A k cp lo)(hs:dS w A k cp lo)(hf:aG.Fit t)(hc:0≤r.c∧r.c<5)(hr:r.r≤9223372036854775807):
  Calls prog 18 #[.agg (stA n A k cp t),.agg #[.int .i64 r.c,.int .i64 r.e,.int .i64 r.r]] w (kD G (Ap.mP ⟨n,vs lo,t⟩ r) (Ap.vU ⟨n,vs lo,t⟩ r) w):=by
 have Yt:=zH (fun W (hW:Below w.heap.size w W)=>uQ (fun W=>G W∨Below w.heap.size w W) n A k cp t lo r.c W (fun W h=>h.elim (hG W) fun g=>hs.later g) (hs.later hW) hf hc);have kE:=zH hG;have Sq:=zH (fun W (hW:Below w.heap.size w W)=>hs.later hW);have HK:=uj w 33 (stA n A k cp t) 44 #[.int .i64 r.c,.int .i64 r.e,.int .i64 r.r];have lK:Hid (aG.Fit (Ap.iR ⟨n,vs lo,t⟩ r.c).t):=zH (Ap.wN (fun y hy=>Ap.xK (sQ) y hy) (aG.xZ hf r.c));have JD:=zH (Ap.Bj ⟨n,vs lo,t⟩ r.c (yg _ _));have HF:=zH hf;unfold kD at Yt;unfold Ap.mP Ap.vU Ap.left;dsimp only;clear hs hG hf;cases hl:(t.get r.c).live
 case false=>
  have HV:=zH hl;rw[if_neg (by decide),if_neg (by decide)];dsimp only;clear hl Yt lK JD;have HOp:=zH (fun W=>CX t r W HF.out hr);clear hr;unfold abY at HOp;generalize aG.jv t r=t9 at *
  generalize aG.rW t r=p9 at *
  go_enter func18,ntmps18;go_wp2_with (first|(refine bF HK ?_;clear HK;intro _ g1 HK;simp only[aS,aK] at HK)|refine zX (qO (x:=r) HK 1) ?_|refine zX (fJ hc) ?_|refine zX ((adl HK 0 hc).trans (by rw[HV.out])) ?_|refine zX (gD HK 0) ?_|refine zX (aP HK 1) ?_);refine cb (HOp.out _) HK ?_;clear HK;intro _ HK;go_upto_region 6 with (first|(refine eO HK ?_;clear HK;intro _ g7 HK;simp only[aS,aK] at HK)|(refine iw HK ?_;clear HK;intro _ g8 HK;simp only[aS,aK] at HK)|(refine dH (t2:=t9) HK 3 ?_;clear HK;intro _ HK;simp only[lS] at HK)|(refine bX (q:=p9) HK 4 ?_;clear HK;intro _ HK;simp only[lS] at HK)|refine zX (qR HK 3) ?_|(refine eZ (u:=t9) HK 0 ?_;clear HK;intro _ HK;simp only[lS] at HK));have fP:Hid (([⟨r,p9⟩]++([]:List au.Ot):List au.Ot).length=1+0):=zH (by rfl);have HL2:=dN (La:=bL) fP (hB:=(by show 1*72≤_;decide)) (hN:=(by decide));have aj:=zH HK.out.drew;clear HK HOp;refine wp_region_held_drew (S:=(fun W=>Hid (Kn w.heap.size w W [(w.heap.size,33,stA n A k cp t9),(w.heap.size+1,44,#[.int .i64 r.c,.int .i64 r.e,.int .i64 r.r])] [])∧Hid (Kn w.heap.size w W [(g7,31,dU t9),(g8,28,dG p9)] []))) (by kernel_rfl) ?_ fun ah=>?_
  ·(try dsimp only);exact(⟨zH ((aj.out.aB 2).ay 0),zH ((aj.out.aO 3).ay 0)⟩:_∧_)
  refine ak 0 rfl ?_ fun _ s=>lq s.1 0
  refine ak 1 rfl ?_ fun _ s=>aP s.1 1
  refine ak 2 rfl ?_ fun _ s=>Sg s.2 1
  refine ak 3 rfl ?_ fun _ s=>ng (r:=r) (p:=p9)
  refine ak 5 rfl ?_;refine aC 4 rfl fun K hK=>?_
  refine bP bL (p:=⟨r,p9⟩) aj ?_;intro _ g5 dz _;replace aj:=zH dz.out.gG;clear dz;have hs:=(⟨zH ((aj.out.aB 2).ay 0),zH ((aj.out.aO 3).ay 0)⟩:_∧_);refine bk hK hs fun ah=>?_
  clear hK K;refine aC 6 rfl fun K hK=>?_
  refine aM bL aj 0 ([]:List au.Ot) (by rfl) (zH (And.intro (bT.none (La:=bL) (F:=tF) _).rd (fun _=>rfl))) HL2 (N:=1+0) fP ?_;clear aj;intro A9 c9 _ aj;simp only[lS] at aj;have hs:=(⟨zH ((aj.out.aB 2).ay 0),zH ((aj.out.aO 3).ay 0)⟩:_∧_);refine bk hK hs fun ah=>?_
  clear hK K;refine aC 7 rfl fun K hK=>?_
  refine gJ aj 2 ?_;clear aj;intro w7 aj;simp only[lS] at aj;have hs:=(⟨zH ((aj.out.aB 2).ay 0),zH ((aj.out.aO 3).ay 0)⟩:_∧_);refine bk hK hs fun ah=>?_
  clear hK K;refine ak 8 rfl ?_;refine cB ?_
  all_goals
   have HK:=aj;clear aj ah;go_wp2_with fail;refine jD results18 (HK.out.blk 2 rfl) ?_;unfold kD;exact⟨A,k,cp,lo,A9,_,c9,_,rfl,zH rfl,HK.out.aB 0,zH fun b W0 W L R K hm hg=>⟨kE.out W hg,bT.own (K.mem (hm _ (List.mem_cons_self ..))) (oI (h:=(by show 1≤1000;decide)))⟩⟩
 case true=>
  have HV:=zH hl;rw[if_pos rfl,if_pos rfl];clear hl;generalize Ap.lN ⟨n,vs lo,t⟩ r.c=os at *
  generalize Ap.iR ⟨n,vs lo,t⟩ r.c=s2 at *
  obtain⟨n2,l2,t2⟩:=s2;dsimp only at *
  have HOp:=zH (fun W=>CX t2 r W lK.out hr);clear hr;unfold abY at HOp;generalize aG.jv t2 r=t9 at *
  generalize aG.rW t2 r=p9 at *
  go_enter func18,ntmps18;go_wp2_with (first|(refine bF HK ?_;clear HK;intro _ g1 HK;simp only[aS,aK] at HK)|refine zX (qO (x:=r) HK 1) ?_|refine zX (fJ hc) ?_|refine zX ((adl HK 0 hc).trans (by rw[HV.out])) ?_|refine zX (lq HK 0) ?_);refine(Yt.out _ HK.out.b).mono ?_;rintro e w1 ⟨A2,k2,c2,lo2,O2,m2,d2,R2,rfl,HV2,q2,HI2⟩;replace HK:=zH (HK.out.join q2);clear q2;simp only[aK] at HK;have kF:Hid (os.length=m2):=zH (HI2.out _ _ _ _ _ HK.out (fun z hz=>hz) (.inr HK.out.b)).2.len;go_wp2_with (first|(refine bg HK 0 ?_;clear HK;intro _ HK;simp only[lS] at HK)|refine zX (gD HK 0) ?_|refine zX (aP HK 1) ?_);refine cb (HOp.out _) HK ?_;clear HK;intro _ HK;go_upto_region 6 with (first|(refine eO HK ?_;clear HK;intro _ g7 HK;simp only[aS,aK] at HK)|(refine iw HK ?_;clear HK;intro _ g8 HK;simp only[aS,aK] at HK)|(refine dH (t2:=t9) HK 3 ?_;clear HK;intro _ HK;simp only[lS] at HK)|(refine bX (q:=p9) HK 4 ?_;clear HK;intro _ HK;simp only[lS] at HK)|refine zX (qR HK 3) ?_|(refine eZ (u:=t9) HK 0 ?_;clear HK;intro _ HK;simp only[lS] at HK));have fP:Hid (([⟨r,p9⟩]++os:List au.Ot).length=1+m2):=zH (by rw[List.length_append,kF.out];rfl);have FY:Hid (m2≤9):=zH (by rw[← kF.out];exact JD.out);have HL2:=dN (La:=bL) fP (hN:=(by have:=FY.out;omega));have aj:=zH HK.out.drew;clear HK HOp Yt;refine wp_region_held_drew (S:=(fun W=>Hid (Kn w.heap.size w W [(w.heap.size,33,stA n2 A2 k2 c2 t9),(w.heap.size+1,44,#[.int .i64 r.c,.int .i64 r.e,.int .i64 r.r])] [])∧Hid (Kn w.heap.size w W [(g7,31,dU t9),(g8,28,dG p9)] []))) (by kernel_rfl) ?_ fun ah=>?_
  ·(try dsimp only);exact(⟨zH ((aj.out.aB 2).ay 0),zH ((aj.out.aO 3).ay 0)⟩:_∧_)
  refine ak 0 rfl ?_ fun _ s=>lq s.1 0
  refine ak 1 rfl ?_ fun _ s=>aP s.1 1
  refine ak 2 rfl ?_ fun _ s=>Sg s.2 1
  refine ak 3 rfl ?_ fun _ s=>ng (r:=r) (p:=p9)
  refine ak 5 rfl ?_;refine aC 4 rfl fun K hK=>?_
  refine bP bL (p:=⟨r,p9⟩) aj ?_;intro _ g5 dz _;replace aj:=zH dz.out.gG;clear dz;have hs:=(⟨zH ((aj.out.aB 2).ay 0),zH ((aj.out.aO 3).ay 0)⟩:_∧_);refine bk hK hs fun ah=>?_
  clear hK K;refine aC 6 rfl fun K hK=>?_
  refine aM bL aj 0 os kF.out.symm (zH (And.intro (HI2.out _ _ _ _ _ aj.out (fun z hz=>List.mem_cons_of_mem _ hz) (.inr aj.out.b)).2.rd (HI2.out _ _ _ _ _ aj.out (fun z hz=>List.mem_cons_of_mem _ hz) (.inr aj.out.b)).2.nl)) HL2 (N:=1+m2) fP ?_;clear aj;intro A9 c9 _ aj;simp only[lS] at aj;have hs:=(⟨zH ((aj.out.aB 2).ay 0),zH ((aj.out.aO 3).ay 0)⟩:_∧_);refine bk hK hs fun ah=>?_
  clear hK K;refine aC 7 rfl fun K hK=>?_
  refine gJ aj 2 ?_;clear aj;intro w7 aj;simp only[lS] at aj;have hs:=(⟨zH ((aj.out.aB 2).ay 0),zH ((aj.out.aO 3).ay 0)⟩:_∧_);refine bk hK hs fun ah=>?_
  clear hK K;refine ak 8 rfl ?_;refine cB ?_
  all_goals
   have HK:=aj;clear aj ah;go_wp2_with fail;refine jD results18 (HK.out.blk 2 rfl) ?_;exact aei
end
section
theorem vO(t:aG.T)(r:Rf)(w:World)(hf:aG.Fit t)(hr:r.r≤9223372036854775807):Calls prog 47 #[.agg (dU t),.agg #[.int .i64 r.c,.int .i64 r.e,.int .i64 r.r]] w (RQ (aG.iT t r) w):=by
 have HL:=zH (fun W=>xG t r W hf hr);have HK:=uj w 31 (dU t) 44 #[.int .i64 r.c,.int .i64 r.e,.int .i64 r.r];have HY:=zH (fun h1 h2=>aG.abJ (t:=t) (r:=r) h1 h2);have kU:=zH (fun h=>aG.abL (t:=t) (r:=r) h);have fP:=zH (fun h=>aG.abK (t:=t) (r:=r) h);have HC:=zH (fun h=>aG.sF (t:=t) (r:=r) (k:=1) h (by decide));unfold RQ;unfold jo at HL;clear hf hr;generalize aG.look t r=x at *
 generalize aG.iT t r=y at *
 generalize h1:decide (x=1)=b1 at *
 have H1:=zH h1;generalize h2:decide (r.r=0)=b2 at *
 have H2:=zH h2;clear h1 h2;cases b1
 case false=>
  have HX:=zH (kU.out (by simp));go_enter func47,ntmps47;go_wp2_with (first|refine zX (qR HK 0) ?_|refine zX (aP HK 1) ?_|(refine eO HK ?_;clear HK;intro _ g1 HK;simp only[aS,aK] at HK));refine cb (HL.out _) HK ?_;clear HK;intro _ HK;go_wp2_with (first|refine zX (bJ (m:=x) (n:=1) (by rw[H1.out])) ?_|refine zX (qR HK 0) ?_|(refine dH (t2:=t) HK 2 ?_;clear HK;intro _ HK;simp only[lS] at HK));exact aed
 cases b2
 case true=>
  have HX:=zH (fP.out (by simp));go_enter func47,ntmps47;go_wp2_with (first|refine zX (qR HK 0) ?_|refine zX (aP HK 1) ?_|(refine eO HK ?_;clear HK;intro _ g1 HK;simp only[aS,aK] at HK));refine cb (HL.out _) HK ?_;clear HK;intro _ HK;go_wp2_with (first|refine zX (bJ (m:=x) (n:=1) (by rw[H1.out])) ?_|refine zX (aJ (m:=r.r) (n:=0) H2.out) ?_|refine zX (Ig (x:=r) HK 1) ?_|refine zX (qR HK 0) ?_|(refine dH (t2:=t) HK 2 ?_;clear HK;intro _ HK;simp only[lS] at HK));exact aed
 have hc:=HC.out (of_decide_eq_true H1.out);have HX:=zH (HY.out (by simp) (by simp));go_enter func47,ntmps47;go_wp2_with (first|refine zX (qR HK 0) ?_|refine zX (aP HK 1) ?_|(refine eO HK ?_;clear HK;intro _ g1 HK;simp only[aS,aK] at HK));refine cb (HL.out _) HK ?_;clear HK;intro _ HK;go_wp2_with (first|refine zX (bJ (m:=x) (n:=1) (by rw[H1.out])) ?_|refine zX (aJ (m:=r.r) (n:=0) H2.out) ?_|refine zX (qO (x:=r) HK 1) ?_|refine zX (Ig (x:=r) HK 1) ?_|refine zX (gM hc) ?_|refine zX (kts HK 0 hc) ?_|(refine bE HK ?_;clear HK;intro _ g2 HK;simp only[aS,aK] at HK)|(refine bD (s:=aG.z) (u:=t.get r.c) HK 3 ?_;clear HK;intro _ HK;simp only[lS] at HK)|(refine JM (n:=r.r) HK 3 rfl rfl rfl rfl rfl ?_;clear HK;intro _ HK;simp only[lS] at HK)|(refine zY (d:=false) HK 3 rfl rfl rfl rfl rfl ?_;clear HK;intro _ HK;simp only[lS] at HK)|(refine zW (p:=au.rz) HK 3 rfl rfl rfl rfl rfl ?_;clear HK;intro _ HK;simp only[lS] at HK)|refine zX (gF) ?_|refine zX (Ie HK 3) ?_|(refine mq  HK 0 hc ?_;clear HK;intro _ HK;simp only[lS] at HK)|refine zX (qR HK 0) ?_|(refine dH  HK 2 ?_;clear HK;intro _ HK;simp only[lS] at HK))
 (try simp only[aG.bQ hc,aG.set_set hc] at HK)
 (try dsimp only at HK)
 exact aed
end
section
def alL(l:List Oh)(k:ByteArray)(z:Int):Prop:=(∃(i:Nat) (x:Oh),z=(i:Int)∧l[i]?=some x∧x.v.name=k∧∀(j:Nat) (y:Oh),j<i→l[j]?=some y→¬y.v.name=k)∨(z = -1∧∀(j:Nat) (y:Oh),l[j]?=some y→¬y.v.name=k)
theorem gU(A:Option Addr)(c n:Nat)(l:List Oh)(nm:ByteArray)(w:World)(hs:dS w A n c l):
  Calls prog 92 #[.slice A n c,.string nm] w (fun e w'=>∃z,alL l nm z∧e=.returned (.int .i64 z)∧Below w.heap.size w w'):=by
 have HS:=zH hs;have uJ:Hid (l.length=n):=zH hs.len;have hbig:n*144≤140737488355328:=hs.s.big;have HK:=zH (Kn.start w);clear hs;go_enter func92,ntmps92;go_wp2_with fail;go_loopw [5] (fun vi wr=>∃k:Nat,k≤n∧vi=.int .i64 k∧Hid (∀(j:Nat) (y:Oh),j<k→l[j]?=some y→¬y.v.name=nm)∧Hid (Kn w.heap.size w wr [] [])) (fun vi _=>n-(intOf vi).toNat)
 case atStart=>exact⟨0,Nat.zero_le _,rfl,zH (fun j y hj=>absurd hj (Nat.not_lt_zero _)),HK⟩
 case round=>
  clear HK;obtain⟨k,hk,rfl,gX,HK⟩:=hrel;have hk1:(0:Int)≤(k:Int):=by omega
  by_cases hlt:k<n
  case pos=>
   have hk2:(k:Int)<(n:Int):=by omega
   have hk3:k<9223372036854775807:=by omega
   obtain⟨x,hx,_⟩:=HS.out.s.get hlt;obtain⟨b,o,rfl,hat⟩:=HS.out.s.at (Nat.lt_of_le_of_lt (Nat.zero_le _) hlt);have HX:Hid (∀j v,(yY x)[j]?=some v→wr.cell? ⟨b,o+k*11+j,none⟩=some v):=zH (hat wr HK.out.b k x hx);have HXx:=zH hx;clear hx hat;by_cases he:x.v.name=nm
   ·have hb:decide (x.v.name=nm)=true:=decide_eq_true he
    have HHe:=zH he;clear he;go_wp2_with (first|refine zX (jB (off:=o+k*11) HX.out) ?_|refine zX (sK (x:=x.v.name) (y:=nm) hb) ?_);go_ret;exact⟨(k:Int),.inl ⟨k,x,rfl,HXx.out,HHe.out,gX.out⟩,rfl,HK.out.b⟩
   ·have hb:decide (x.v.name=nm)=false:=decide_eq_false he
    have HHe:=zH he;clear he;go_wp2_with (first|refine zX (jB (off:=o+k*11) HX.out) ?_|refine zX (sK (x:=x.v.name) (y:=nm) hb) ?_|refine zX (aR (j:=k) hk3) ?_);refine⟨⟨k+1,by omega,by go_num,zH (fun j y hj hy=>?_),HK⟩,by simp[intOf];omega⟩;by_cases h:j<k
    ·exact gX.out j y h hy
    ·obtain rfl:j=k:=by omega
     rw[HXx.out] at hy;injection hy with hy;subst hy;exact HHe.out
  case neg=>
  have hk2:¬(k:Int)<(n:Int):=by omega
  go_wp2_with fail;go_ret;exact⟨-1,.inr ⟨rfl,fun j y hy=>gX.out j y (by have h:=(List.getElem?_eq_some_iff.1 hy).1;rw[uJ.out] at h;omega) hy⟩,rfl,HK.out.b⟩
end
section
theorem PY(A:Option Addr)(cp n:Nat)(l:List Oh)(c:aI.C)(w:World)(hs:dS w A n cp l)(hn8:n≤8):
  Calls prog 93 #[.slice A n cp,.agg (dL c)] w (FK (l.take (au.idx (vs l) c.name)++[JA c]++l.drop (au.idx (vs l) c.name)) w):=by
 unfold FK;have HS:=zH hs;have uJ:Hid (l.length=n):=zH hs.len;have HG:Hid (∀k,k<n→∃x,l[k]?=some x):=zH fun k hk=>Lay.dW (l:=l) (k:=k) (by rw[hs.len];exact hk)
 have hpn:=au.qj (vs l) c.name;rw[gq,hs.len] at hpn;have HB:Hid (∀k x,k<au.idx (vs l) c.name→l[k]?=some x→aQ.lt x.v.name c.name=true):=zH fun k x hk hx=>au.xU hk (dB hx)
 have HA:Hid (∀x,l[au.idx (vs l) c.name]?=some x→aQ.lt x.v.name c.name=false):=zH fun x hx=>au.xV (dB hx)
 have HK:=jw w 46 (dL c);replace HK:=zH (HK.out.Cq bB);simp only[aK] at HK;clear hs;generalize au.idx (vs l) c.name=p at *
 go_enter func93,ntmps93;go_wp2_with fail;go_loopw [5,6] (fun vo vi wr=>∃(p0:Nat) (A3:Option Addr) (c3:Nat),p0≤p∧vo=.slice A3 p0 c3∧vi=.int .i64 p0∧Hid (Kn w.heap.size w wr [(w.heap.size,46,dL c)] [row bB (.slice A3 p0 c3) (l.take p0)])) (fun _ vi _=>p+1-(intOf vi).toNat)
 case atStart=>exact⟨0,_,_,Nat.zero_le _,rfl,rfl,HK⟩
 case round=>
  clear HK;obtain⟨p0,A3,c3,hk,rfl,rfl,HK⟩:=hrel;have hk1:(0:Int)≤(p0:Int):=by omega
  have hk3:p0<9223372036854775807:=by omega
  by_cases hlt:p0<p
  ·have hkn:p0<n:=by omega
   have hk2:(p0:Int)<(n:Int):=by omega
   obtain⟨x,hx⟩:=HG.out p0 hkn;obtain⟨b,o,rfl,hat⟩:=HS.out.s.at (Nat.lt_of_le_of_lt (Nat.zero_le _) hkn);have HX:Hid (∀W,Below w.heap.size w W→∀j v,(yY x)[j]?=some v→W.cell? ⟨b,o+p0*11+j,none⟩=some v):=zH fun W hW=>hat W hW p0 x hx
   have HL:=zH (HB.out p0 x hlt hx);have HXx:=zH hx
   have HGr:Hid ((l.take p0).length+1≤9223372036854775807∧((l.take p0).length+1)*bB.bytes≤211106232532992):=zH (by
    rw[List.length_take,uJ.out,Nat.min_eq_left (by omega)];refine⟨by omega,?_⟩
    show(p0+1)*144≤_
    omega)
   have JE:Hid ((l.take p0++[x]).length=p0+1):=zH (by rw[List.length_append,List.length_take,uJ.out,Nat.min_eq_left (by omega)];rfl);clear hat hx;go_wp2_with fail;replace HK:=zH HK.out.drew;refine zR HK.out fun ah=>?_
   refine ak 0 rfl ?_;refine ak 1 rfl ?_;refine ak 2 rfl ?_;refine ak 3 rfl ?_;refine ak 4 rfl ?_;refine ak 5 rfl ?_;refine ak 6 rfl ?_;refine ak 7 rfl ?_ fun _ s=>bH (i:=p0) hkn
   refine ak 8 rfl ?_;refine ak 9 rfl ?_ fun _ s=>jB (off:=o+p0*11) (HX.out _ s.out.b)
   refine ak 10 rfl ?_;refine ak 11 rfl ?_ fun _ s=>nJ s 0
   refine ak 12 rfl ?_ fun _ s=>wI (x:=x.v.name) (y:=c.name) HL.out
   refine ak 13 rfl ?_;refine cB ?_;replace HK:=ah;go_wp2_with (first|refine av (v:=.agg (cu x)) (gL (off:=o+p0*11) (HX.out _ HK.out.b)) ?_|(refine dM bB (p:=x) HK ?_;intro _ g11 dz;have HR:=zH (Kn.zI dz.out).rd;simp only[aS,aK] at dz;replace HK:=dz;clear dz)|(at_builtin;refine bA HK bB 0 [x] rfl HR HGr (N:=p0+1) JE ?_;clear HK;intro A8 c8 _ HK;simp only[lS] at HK)|refine zX (aR (j:=p0) hk3) ?_);refine⟨⟨p0+1,A8,c8,by omega,rfl,by go_num,zH ?_⟩,by simp[intOf];omega⟩;rw[Lay.take_succ HXx.out];exact HK.out.ay 1
  ·obtain rfl:p0=p:=by omega
   clear hlt hk;by_cases hkn:p0<n
   ·have hk2:(p0:Int)<(n:Int):=by omega
    obtain⟨x,hx⟩:=HG.out p0 hkn;obtain⟨b,o,rfl,hat⟩:=HS.out.s.at (Nat.lt_of_le_of_lt (Nat.zero_le _) hkn);have HX:Hid (∀W,Below w.heap.size w W→∀j v,(yY x)[j]?=some v→W.cell? ⟨b,o+p0*11+j,none⟩=some v):=zH fun W hW=>hat W hW p0 x hx
    have HL:=zH (HA.out x hx);clear hat hx;go_wp2_with fail;replace HK:=zH HK.out.drew;refine zR HK.out fun ah=>?_
    refine ak 0 rfl ?_;refine ak 1 rfl ?_;refine ak 2 rfl ?_;refine ak 3 rfl ?_;refine ak 4 rfl ?_;refine ak 5 rfl ?_;refine ak 6 rfl ?_;refine ak 7 rfl ?_ fun _ s=>bH (i:=p0) hkn
    refine ak 8 rfl ?_;refine ak 9 rfl ?_ fun _ s=>jB (off:=o+p0*11) (HX.out _ s.out.b)
    refine ak 10 rfl ?_;refine ak 11 rfl ?_ fun _ s=>nJ s 0
    refine ak 12 rfl ?_ fun _ s=>wI (x:=x.v.name) (y:=c.name) HL.out
    refine ak 13 rfl ?_;refine cB ?_;replace HK:=ah;clear HB HA
    have HGr:Hid ((l.take p0).length+1≤9223372036854775807∧((l.take p0).length+1)*bB.bytes≤211106232532992):=zH (by
     rw[List.length_take,uJ.out,Nat.min_eq_left hpn];refine⟨by omega,?_⟩
     show(p0+1)*144≤_
     omega)
    have JE:Hid ((l.take p0++[JA c]).length=p0+1):=zH (by rw[List.length_append,List.length_take,uJ.out,Nat.min_eq_left hpn];rfl);have HDl:Hid (n-p0=(l.drop p0).length):=zH (by rw[List.length_drop,uJ.out])
    have HG2:Hid ((l.take p0++[JA c]).length+(l.drop p0).length≤9223372036854775807∧((l.take p0++[JA c]).length+(l.drop p0).length)*bB.bytes≤211106232532992):=zH (by
     rw[JE.out,← HDl.out];refine⟨by omega,?_⟩
     show(p0+1+(n-p0))*144≤_
     omega)
    exact ahL
   ·have hk2:¬(p0:Int)<(n:Int):=by omega
    go_wp2_with fail;replace HK:=zH HK.out.drew;refine zR HK.out fun ah=>?_
    refine ak 0 rfl ?_;refine ak 1 rfl ?_;refine ak 2 rfl ?_;refine ak 3 rfl ?_;refine ak 4 rfl ?_;refine bq 5 rfl ?_;refine bq 6 rfl ?_;refine bq 7 rfl ?_;refine bq 8 rfl ?_;refine bq 9 rfl ?_;refine bq 10 rfl ?_;refine bq 11 rfl ?_;refine bq 12 rfl ?_;refine ak 13 rfl ?_;refine cB ?_;replace HK:=ah;clear HB HA
    have HGr:Hid ((l.take p0).length+1≤9223372036854775807∧((l.take p0).length+1)*bB.bytes≤211106232532992):=zH (by
     rw[List.length_take,uJ.out,Nat.min_eq_left hpn];refine⟨by omega,?_⟩
     show(p0+1)*144≤_
     omega)
    have JE:Hid ((l.take p0++[JA c]).length=p0+1):=zH (by rw[List.length_append,List.length_take,uJ.out,Nat.min_eq_left hpn];rfl);have HDl:Hid (n-p0=(l.drop p0).length):=zH (by rw[List.length_drop,uJ.out])
    have HG2:Hid ((l.take p0++[JA c]).length+(l.drop p0).length≤9223372036854775807∧((l.take p0++[JA c]).length+(l.drop p0).length)*bB.bytes≤211106232532992):=zH (by
     rw[JE.out,← HDl.out];refine⟨by omega,?_⟩
     show(p0+1+(n-p0))*144≤_
     omega)
    exact ahL
end
section
theorem gP(k:Int)(w:World):Calls prog 84 #[.int .i64 k] w (Ju (aI.f0 k) (aI.f1 k) (aI.f2 k) (aI.f3 k) (aI.f4 k) (aI.f5 k) w):=by
 rcases aI.kinds k with rfl|(rfl|rfl|rfl|rfl|rfl|rfl)|(rfl|rfl)|rfl|rfl|(rfl|rfl)|rfl|h
 case inr.inr.inr.inr.inr.inr.inr=>
  obtain⟨e0,e1,e2,e3,e4,e5⟩:=aI.BD h;have n4:¬k=4:=by omega
  have n5:¬k=5:=by omega
  have n6:¬k=6:=by omega
  have n7:¬k=7:=by omega
  have n8:¬k=8:=by omega
  have n9:¬k=9:=by omega
  have n10:¬k=10:=by omega
  have n11:¬k=11:=by omega
  have n12:¬k=12:=by omega
  have n13:¬k=13:=by omega
  have n14:¬k=14:=by omega
  have n15:¬k=15:=by omega
  have n16:¬k=16:=by omega
  have n17:¬k=17:=by omega
  refine Calls.mono (R:=Ju false false false false false false w) ?_ fun e w' h=>isF h e0 e1 e2 e3 e4 e5
  clear h e0 e1 e2 e3 e4 e5;exact ahs
 all_goals
  exact ahs
end
section
theorem Jc(e:aI.E)(w:World):Calls prog 41 #[.agg #[.int .i64 e.c,.int .i64 e.e,.int .i64 e.r]] w fun en w'=>en=.returned (.bool (decide (aI.right e)))∧Below w.heap.size w w':=by
 have HE:Hid (∀q:Bool,(q=true↔(0≤e.c∧e.c<5∧1≤e.e∧0≤e.r))→q=decide (aI.right e)):=zH fun q hq=>by
  exact Yz
 generalize decide (aI.right e)=r at *
 obtain⟨c,ep,rq,cmd⟩:=e;simp only at HE ⊢;have HK:=jw w 44 #[.int .i64 c,.int .i64 ep,.int .i64 rq];go_enter func41,ntmps41;go_wp2_with fail
 all_goals
  go_ret;refine⟨congrArg (fun b=>Ending.returned (.bool b)) (HE.out _ ?_),HK.out.b⟩;clear HE HK
  simp_all<;>omega
theorem eX(c:aI.C)(w:World):Calls prog 87 #[.agg (dL c)] w fun en w'=>en=.returned (.bool (decide (aI.nums c)))∧Below w.heap.size w w':=by
 have HE:Hid (∀q:Bool,(q=true↔aI.nums c)→q=decide (aI.nums c)):=zH fun q hq=>by
  rw[Bool.eq_iff_iff,hq,decide_eq_true_eq]
 generalize decide (aI.nums c)=r at *
 obtain⟨k,name,key,val,old,n,m⟩:=c;unfold dL;simp only at HE ⊢;have HK:=jw w 46 (dh k name key val.k val.n val.f val.s old.k old.n old.f old.s n m);have p0:(dh k name key val.k val.n val.f val.s old.k old.n old.f old.s n m)[0]?=some (.int .i64 k):=rfl;have GY:(dh k name key val.k val.n val.f val.s old.k old.n old.f old.s n m)[11]?=some (.int .i64 n):=rfl;have GX:(dh k name key val.k val.n val.f val.s old.k old.n old.f old.s n m)[12]?=some (.int .i64 m):=rfl;generalize dh k name key val.k val.n val.f val.s old.k old.n old.f old.s n m=pa at *
 go_enter func87,ntmps87;go_wp2_with fail
 all_goals
  go_ret;refine⟨congrArg (fun b=>Ending.returned (.bool b)) (HE.out _ ?_),HK.out.b⟩;clear HE HK p0 GY GX;unfold aI.nums
  simp_all<;>omega
theorem Ug{k:Int}(name key:ByteArray)(vk vn:Int)(vf:Nat)(vs:ByteArray)(ok on:Int)(of:Nat)(os:ByteArray)(n m:Int)(w:World):
  Calls prog 85 #[.agg (dh k name key vk vn vf vs ok on of os n m),.agg (fl true false false false true true)] w fun en w'=>(∃b,en=.returned (.bool b)∧(b=true↔(key.toList=[]∧(ok=0∧on=0∧of=0∧os.toList=[])∧(vk=0∧vn=0∧vf=0∧vs.toList=[]))))∧Below w.heap.size w w':=by
 have HK:=uj w 46 (dh k name key vk vn vf vs ok on of os n m) 140 (fl true false false false true true);have p0:(dh k name key vk vn vf vs ok on of os n m)[0]?=some (.int .i64 k):=rfl;have p1:(dh k name key vk vn vf vs ok on of os n m)[1]?=some (.string name):=rfl;have p2:(dh k name key vk vn vf vs ok on of os n m)[2]?=some (.string key):=rfl;have p3:(dh k name key vk vn vf vs ok on of os n m)[3]?=some (.int .i64 vk):=rfl;have p4:(dh k name key vk vn vf vs ok on of os n m)[4]?=some (.int .i64 vn):=rfl;have p5:(dh k name key vk vn vf vs ok on of os n m)[5]?=some (.int .u64 (vf:Int)):=rfl;have p6:(dh k name key vk vn vf vs ok on of os n m)[6]?=some (.string vs):=rfl;have p7:(dh k name key vk vn vf vs ok on of os n m)[7]?=some (.int .i64 ok):=rfl;have p8:(dh k name key vk vn vf vs ok on of os n m)[8]?=some (.int .i64 on):=rfl;have p9:(dh k name key vk vn vf vs ok on of os n m)[9]?=some (.int .u64 (of:Int)):=rfl;have KZ:(dh k name key vk vn vf vs ok on of os n m)[10]?=some (.string os):=rfl;have GY:(dh k name key vk vn vf vs ok on of os n m)[11]?=some (.int .i64 n):=rfl;have GX:(dh k name key vk vn vf vs ok on of os n m)[12]?=some (.int .i64 m):=rfl;have q0:(fl true false false false true true)[0]?=some (.bool true):=rfl;have q1:(fl true false false false true true)[1]?=some (.bool false):=rfl;have q2:(fl true false false false true true)[2]?=some (.bool false):=rfl;have q3:(fl true false false false true true)[3]?=some (.bool false):=rfl;have q4:(fl true false false false true true)[4]?=some (.bool true):=rfl;have q5:(fl true false false false true true)[5]?=some (.bool true):=rfl;generalize dh k name key vk vn vf vs ok on of os n m=pa at *
 generalize fl true false false false true true=pb at *
 go_enter func85,ntmps85;go_wp2_with fail
 all_goals
  go_ret;refine⟨⟨_,rfl,?_⟩,HK.out.b⟩;clear HK p0 p1 p2 p3 p4 p5 p6 p7 p8 p9 KZ GY GX q0 q1 q2 q3 q4 q5
  simp_all<;>omega
theorem Uf{k:Int}(name key:ByteArray)(vk vn:Int)(vf:Nat)(vs:ByteArray)(ok on:Int)(of:Nat)(os:ByteArray)(n m:Int)(w:World):
  Calls prog 85 #[.agg (dh k name key vk vn vf vs ok on of os n m),.agg (fl true false false false false false)] w fun en w'=>(∃b,en=.returned (.bool b)∧(b=true↔(key.toList=[]∧(ok=0∧on=0∧of=0∧os.toList=[])∧(vk=0∧vn=0∧vf=0∧vs.toList=[])∧n=0∧m=0)))∧Below w.heap.size w w':=by
 have HK:=uj w 46 (dh k name key vk vn vf vs ok on of os n m) 140 (fl true false false false false false);have p0:(dh k name key vk vn vf vs ok on of os n m)[0]?=some (.int .i64 k):=rfl;have p1:(dh k name key vk vn vf vs ok on of os n m)[1]?=some (.string name):=rfl;have p2:(dh k name key vk vn vf vs ok on of os n m)[2]?=some (.string key):=rfl;have p3:(dh k name key vk vn vf vs ok on of os n m)[3]?=some (.int .i64 vk):=rfl;have p4:(dh k name key vk vn vf vs ok on of os n m)[4]?=some (.int .i64 vn):=rfl;have p5:(dh k name key vk vn vf vs ok on of os n m)[5]?=some (.int .u64 (vf:Int)):=rfl;have p6:(dh k name key vk vn vf vs ok on of os n m)[6]?=some (.string vs):=rfl;have p7:(dh k name key vk vn vf vs ok on of os n m)[7]?=some (.int .i64 ok):=rfl;have p8:(dh k name key vk vn vf vs ok on of os n m)[8]?=some (.int .i64 on):=rfl;have p9:(dh k name key vk vn vf vs ok on of os n m)[9]?=some (.int .u64 (of:Int)):=rfl;have KZ:(dh k name key vk vn vf vs ok on of os n m)[10]?=some (.string os):=rfl;have GY:(dh k name key vk vn vf vs ok on of os n m)[11]?=some (.int .i64 n):=rfl;have GX:(dh k name key vk vn vf vs ok on of os n m)[12]?=some (.int .i64 m):=rfl;have q0:(fl true false false false false false)[0]?=some (.bool true):=rfl;have q1:(fl true false false false false false)[1]?=some (.bool false):=rfl;have q2:(fl true false false false false false)[2]?=some (.bool false):=rfl;have q3:(fl true false false false false false)[3]?=some (.bool false):=rfl;have q4:(fl true false false false false false)[4]?=some (.bool false):=rfl;have q5:(fl true false false false false false)[5]?=some (.bool false):=rfl;generalize dh k name key vk vn vf vs ok on of os n m=pa at *
 generalize fl true false false false false false=pb at *
 go_enter func85,ntmps85;go_wp2_with fail
 all_goals
  go_ret;refine⟨⟨_,rfl,?_⟩,HK.out.b⟩;clear HK p0 p1 p2 p3 p4 p5 p6 p7 p8 p9 KZ GY GX q0 q1 q2 q3 q4 q5
  simp_all<;>omega
theorem Ue{k:Int}(name key:ByteArray)(vk vn:Int)(vf:Nat)(vs:ByteArray)(ok on:Int)(of:Nat)(os:ByteArray)(n m:Int)(w:World):
  Calls prog 85 #[.agg (dh k name key vk vn vf vs ok on of os n m),.agg (fl true true false false false false)] w fun en w'=>(∃b,en=.returned (.bool b)∧(b=true↔((ok=0∧on=0∧of=0∧os.toList=[])∧(vk=0∧vn=0∧vf=0∧vs.toList=[])∧n=0∧m=0)))∧Below w.heap.size w w':=by
 have HK:=uj w 46 (dh k name key vk vn vf vs ok on of os n m) 140 (fl true true false false false false);have p0:(dh k name key vk vn vf vs ok on of os n m)[0]?=some (.int .i64 k):=rfl;have p1:(dh k name key vk vn vf vs ok on of os n m)[1]?=some (.string name):=rfl;have p2:(dh k name key vk vn vf vs ok on of os n m)[2]?=some (.string key):=rfl;have p3:(dh k name key vk vn vf vs ok on of os n m)[3]?=some (.int .i64 vk):=rfl;have p4:(dh k name key vk vn vf vs ok on of os n m)[4]?=some (.int .i64 vn):=rfl;have p5:(dh k name key vk vn vf vs ok on of os n m)[5]?=some (.int .u64 (vf:Int)):=rfl;have p6:(dh k name key vk vn vf vs ok on of os n m)[6]?=some (.string vs):=rfl;have p7:(dh k name key vk vn vf vs ok on of os n m)[7]?=some (.int .i64 ok):=rfl;have p8:(dh k name key vk vn vf vs ok on of os n m)[8]?=some (.int .i64 on):=rfl;have p9:(dh k name key vk vn vf vs ok on of os n m)[9]?=some (.int .u64 (of:Int)):=rfl;have KZ:(dh k name key vk vn vf vs ok on of os n m)[10]?=some (.string os):=rfl;have GY:(dh k name key vk vn vf vs ok on of os n m)[11]?=some (.int .i64 n):=rfl;have GX:(dh k name key vk vn vf vs ok on of os n m)[12]?=some (.int .i64 m):=rfl;have q0:(fl true true false false false false)[0]?=some (.bool true):=rfl;have q1:(fl true true false false false false)[1]?=some (.bool true):=rfl;have q2:(fl true true false false false false)[2]?=some (.bool false):=rfl;have q3:(fl true true false false false false)[3]?=some (.bool false):=rfl;have q4:(fl true true false false false false)[4]?=some (.bool false):=rfl;have q5:(fl true true false false false false)[5]?=some (.bool false):=rfl;generalize dh k name key vk vn vf vs ok on of os n m=pa at *
 generalize fl true true false false false false=pb at *
 go_enter func85,ntmps85;go_wp2_with fail
 all_goals
  go_ret;refine⟨⟨_,rfl,?_⟩,HK.out.b⟩;clear HK p0 p1 p2 p3 p4 p5 p6 p7 p8 p9 KZ GY GX q0 q1 q2 q3 q4 q5
  simp_all<;>omega
theorem Ud{k:Int}(name key:ByteArray)(vk vn:Int)(vf:Nat)(vs:ByteArray)(ok on:Int)(of:Nat)(os:ByteArray)(n m:Int)(w:World):
  Calls prog 85 #[.agg (dh k name key vk vn vf vs ok on of os n m),.agg (fl true true false true false false)] w fun en w'=>(∃b,en=.returned (.bool b)∧(b=true↔((ok=0∧on=0∧of=0∧os.toList=[])∧n=0∧m=0)))∧Below w.heap.size w w':=by
 have HK:=uj w 46 (dh k name key vk vn vf vs ok on of os n m) 140 (fl true true false true false false);have p0:(dh k name key vk vn vf vs ok on of os n m)[0]?=some (.int .i64 k):=rfl;have p1:(dh k name key vk vn vf vs ok on of os n m)[1]?=some (.string name):=rfl;have p2:(dh k name key vk vn vf vs ok on of os n m)[2]?=some (.string key):=rfl;have p3:(dh k name key vk vn vf vs ok on of os n m)[3]?=some (.int .i64 vk):=rfl;have p4:(dh k name key vk vn vf vs ok on of os n m)[4]?=some (.int .i64 vn):=rfl;have p5:(dh k name key vk vn vf vs ok on of os n m)[5]?=some (.int .u64 (vf:Int)):=rfl;have p6:(dh k name key vk vn vf vs ok on of os n m)[6]?=some (.string vs):=rfl;have p7:(dh k name key vk vn vf vs ok on of os n m)[7]?=some (.int .i64 ok):=rfl;have p8:(dh k name key vk vn vf vs ok on of os n m)[8]?=some (.int .i64 on):=rfl;have p9:(dh k name key vk vn vf vs ok on of os n m)[9]?=some (.int .u64 (of:Int)):=rfl;have KZ:(dh k name key vk vn vf vs ok on of os n m)[10]?=some (.string os):=rfl;have GY:(dh k name key vk vn vf vs ok on of os n m)[11]?=some (.int .i64 n):=rfl;have GX:(dh k name key vk vn vf vs ok on of os n m)[12]?=some (.int .i64 m):=rfl;have q0:(fl true true false true false false)[0]?=some (.bool true):=rfl;have q1:(fl true true false true false false)[1]?=some (.bool true):=rfl;have q2:(fl true true false true false false)[2]?=some (.bool false):=rfl;have q3:(fl true true false true false false)[3]?=some (.bool true):=rfl;have q4:(fl true true false true false false)[4]?=some (.bool false):=rfl;have q5:(fl true true false true false false)[5]?=some (.bool false):=rfl;generalize dh k name key vk vn vf vs ok on of os n m=pa at *
 generalize fl true true false true false false=pb at *
 go_enter func85,ntmps85;go_wp2_with fail
 all_goals
  go_ret;refine⟨⟨_,rfl,?_⟩,HK.out.b⟩;clear HK p0 p1 p2 p3 p4 p5 p6 p7 p8 p9 KZ GY GX q0 q1 q2 q3 q4 q5
  simp_all<;>omega
theorem Uc{k:Int}(name key:ByteArray)(vk vn:Int)(vf:Nat)(vs:ByteArray)(ok on:Int)(of:Nat)(os:ByteArray)(n m:Int)(w:World):
  Calls prog 85 #[.agg (dh k name key vk vn vf vs ok on of os n m),.agg (fl true true true true false false)] w fun en w'=>(∃b,en=.returned (.bool b)∧(b=true↔(n=0∧m=0)))∧Below w.heap.size w w':=by
 have HK:=uj w 46 (dh k name key vk vn vf vs ok on of os n m) 140 (fl true true true true false false);have p0:(dh k name key vk vn vf vs ok on of os n m)[0]?=some (.int .i64 k):=rfl;have p1:(dh k name key vk vn vf vs ok on of os n m)[1]?=some (.string name):=rfl;have p2:(dh k name key vk vn vf vs ok on of os n m)[2]?=some (.string key):=rfl;have p3:(dh k name key vk vn vf vs ok on of os n m)[3]?=some (.int .i64 vk):=rfl;have p4:(dh k name key vk vn vf vs ok on of os n m)[4]?=some (.int .i64 vn):=rfl;have p5:(dh k name key vk vn vf vs ok on of os n m)[5]?=some (.int .u64 (vf:Int)):=rfl;have p6:(dh k name key vk vn vf vs ok on of os n m)[6]?=some (.string vs):=rfl;have p7:(dh k name key vk vn vf vs ok on of os n m)[7]?=some (.int .i64 ok):=rfl;have p8:(dh k name key vk vn vf vs ok on of os n m)[8]?=some (.int .i64 on):=rfl;have p9:(dh k name key vk vn vf vs ok on of os n m)[9]?=some (.int .u64 (of:Int)):=rfl;have KZ:(dh k name key vk vn vf vs ok on of os n m)[10]?=some (.string os):=rfl;have GY:(dh k name key vk vn vf vs ok on of os n m)[11]?=some (.int .i64 n):=rfl;have GX:(dh k name key vk vn vf vs ok on of os n m)[12]?=some (.int .i64 m):=rfl;have q0:(fl true true true true false false)[0]?=some (.bool true):=rfl;have q1:(fl true true true true false false)[1]?=some (.bool true):=rfl;have q2:(fl true true true true false false)[2]?=some (.bool true):=rfl;have q3:(fl true true true true false false)[3]?=some (.bool true):=rfl;have q4:(fl true true true true false false)[4]?=some (.bool false):=rfl;have q5:(fl true true true true false false)[5]?=some (.bool false):=rfl;generalize dh k name key vk vn vf vs ok on of os n m=pa at *
 generalize fl true true true true false false=pb at *
 go_enter func85,ntmps85;go_wp2_with fail
 all_goals
  go_ret;refine⟨⟨_,rfl,?_⟩,HK.out.b⟩;clear HK p0 p1 p2 p3 p4 p5 p6 p7 p8 p9 KZ GY GX q0 q1 q2 q3 q4 q5
  simp_all<;>omega
theorem Ub{k:Int}(name key:ByteArray)(vk vn:Int)(vf:Nat)(vs:ByteArray)(ok on:Int)(of:Nat)(os:ByteArray)(n m:Int)(w:World):
  Calls prog 85 #[.agg (dh k name key vk vn vf vs ok on of os n m),.agg (fl true false false true false false)] w fun en w'=>(∃b,en=.returned (.bool b)∧(b=true↔(key.toList=[]∧(ok=0∧on=0∧of=0∧os.toList=[])∧n=0∧m=0)))∧Below w.heap.size w w':=by
 have HK:=uj w 46 (dh k name key vk vn vf vs ok on of os n m) 140 (fl true false false true false false);have p0:(dh k name key vk vn vf vs ok on of os n m)[0]?=some (.int .i64 k):=rfl;have p1:(dh k name key vk vn vf vs ok on of os n m)[1]?=some (.string name):=rfl;have p2:(dh k name key vk vn vf vs ok on of os n m)[2]?=some (.string key):=rfl;have p3:(dh k name key vk vn vf vs ok on of os n m)[3]?=some (.int .i64 vk):=rfl;have p4:(dh k name key vk vn vf vs ok on of os n m)[4]?=some (.int .i64 vn):=rfl;have p5:(dh k name key vk vn vf vs ok on of os n m)[5]?=some (.int .u64 (vf:Int)):=rfl;have p6:(dh k name key vk vn vf vs ok on of os n m)[6]?=some (.string vs):=rfl;have p7:(dh k name key vk vn vf vs ok on of os n m)[7]?=some (.int .i64 ok):=rfl;have p8:(dh k name key vk vn vf vs ok on of os n m)[8]?=some (.int .i64 on):=rfl;have p9:(dh k name key vk vn vf vs ok on of os n m)[9]?=some (.int .u64 (of:Int)):=rfl;have KZ:(dh k name key vk vn vf vs ok on of os n m)[10]?=some (.string os):=rfl;have GY:(dh k name key vk vn vf vs ok on of os n m)[11]?=some (.int .i64 n):=rfl;have GX:(dh k name key vk vn vf vs ok on of os n m)[12]?=some (.int .i64 m):=rfl;have q0:(fl true false false true false false)[0]?=some (.bool true):=rfl;have q1:(fl true false false true false false)[1]?=some (.bool false):=rfl;have q2:(fl true false false true false false)[2]?=some (.bool false):=rfl;have q3:(fl true false false true false false)[3]?=some (.bool true):=rfl;have q4:(fl true false false true false false)[4]?=some (.bool false):=rfl;have q5:(fl true false false true false false)[5]?=some (.bool false):=rfl;generalize dh k name key vk vn vf vs ok on of os n m=pa at *
 generalize fl true false false true false false=pb at *
 go_enter func85,ntmps85;go_wp2_with fail
 all_goals
  go_ret;refine⟨⟨_,rfl,?_⟩,HK.out.b⟩;clear HK p0 p1 p2 p3 p4 p5 p6 p7 p8 p9 KZ GY GX q0 q1 q2 q3 q4 q5
  simp_all<;>omega
theorem Ua{k:Int}(name key:ByteArray)(vk vn:Int)(vf:Nat)(vs:ByteArray)(ok on:Int)(of:Nat)(os:ByteArray)(n m:Int)(w:World):
  Calls prog 85 #[.agg (dh k name key vk vn vf vs ok on of os n m),.agg (fl true false false false true false)] w fun en w'=>(∃b,en=.returned (.bool b)∧(b=true↔(key.toList=[]∧(ok=0∧on=0∧of=0∧os.toList=[])∧(vk=0∧vn=0∧vf=0∧vs.toList=[])∧m=0)))∧Below w.heap.size w w':=by
 have HK:=uj w 46 (dh k name key vk vn vf vs ok on of os n m) 140 (fl true false false false true false);have p0:(dh k name key vk vn vf vs ok on of os n m)[0]?=some (.int .i64 k):=rfl;have p1:(dh k name key vk vn vf vs ok on of os n m)[1]?=some (.string name):=rfl;have p2:(dh k name key vk vn vf vs ok on of os n m)[2]?=some (.string key):=rfl;have p3:(dh k name key vk vn vf vs ok on of os n m)[3]?=some (.int .i64 vk):=rfl;have p4:(dh k name key vk vn vf vs ok on of os n m)[4]?=some (.int .i64 vn):=rfl;have p5:(dh k name key vk vn vf vs ok on of os n m)[5]?=some (.int .u64 (vf:Int)):=rfl;have p6:(dh k name key vk vn vf vs ok on of os n m)[6]?=some (.string vs):=rfl;have p7:(dh k name key vk vn vf vs ok on of os n m)[7]?=some (.int .i64 ok):=rfl;have p8:(dh k name key vk vn vf vs ok on of os n m)[8]?=some (.int .i64 on):=rfl;have p9:(dh k name key vk vn vf vs ok on of os n m)[9]?=some (.int .u64 (of:Int)):=rfl;have KZ:(dh k name key vk vn vf vs ok on of os n m)[10]?=some (.string os):=rfl;have GY:(dh k name key vk vn vf vs ok on of os n m)[11]?=some (.int .i64 n):=rfl;have GX:(dh k name key vk vn vf vs ok on of os n m)[12]?=some (.int .i64 m):=rfl;have q0:(fl true false false false true false)[0]?=some (.bool true):=rfl;have q1:(fl true false false false true false)[1]?=some (.bool false):=rfl;have q2:(fl true false false false true false)[2]?=some (.bool false):=rfl;have q3:(fl true false false false true false)[3]?=some (.bool false):=rfl;have q4:(fl true false false false true false)[4]?=some (.bool true):=rfl;have q5:(fl true false false false true false)[5]?=some (.bool false):=rfl;generalize dh k name key vk vn vf vs ok on of os n m=pa at *
 generalize fl true false false false true false=pb at *
 go_enter func85,ntmps85;go_wp2_with fail
 all_goals
  go_ret;refine⟨⟨_,rfl,?_⟩,HK.out.b⟩;clear HK p0 p1 p2 p3 p4 p5 p6 p7 p8 p9 KZ GY GX q0 q1 q2 q3 q4 q5
  simp_all<;>omega
theorem TY{k:Int}(name key:ByteArray)(vk vn:Int)(vf:Nat)(vs:ByteArray)(ok on:Int)(of:Nat)(os:ByteArray)(n m:Int)(w:World):
  Calls prog 85 #[.agg (dh k name key vk vn vf vs ok on of os n m),.agg (fl false false false false false false)] w fun en w'=>(∃b,en=.returned (.bool b)∧(b=true↔(name.toList=[]∧key.toList=[]∧(ok=0∧on=0∧of=0∧os.toList=[])∧(vk=0∧vn=0∧vf=0∧vs.toList=[])∧n=0∧m=0)))∧Below w.heap.size w w':=by
 have HK:=uj w 46 (dh k name key vk vn vf vs ok on of os n m) 140 (fl false false false false false false);have p0:(dh k name key vk vn vf vs ok on of os n m)[0]?=some (.int .i64 k):=rfl;have p1:(dh k name key vk vn vf vs ok on of os n m)[1]?=some (.string name):=rfl;have p2:(dh k name key vk vn vf vs ok on of os n m)[2]?=some (.string key):=rfl;have p3:(dh k name key vk vn vf vs ok on of os n m)[3]?=some (.int .i64 vk):=rfl;have p4:(dh k name key vk vn vf vs ok on of os n m)[4]?=some (.int .i64 vn):=rfl;have p5:(dh k name key vk vn vf vs ok on of os n m)[5]?=some (.int .u64 (vf:Int)):=rfl;have p6:(dh k name key vk vn vf vs ok on of os n m)[6]?=some (.string vs):=rfl;have p7:(dh k name key vk vn vf vs ok on of os n m)[7]?=some (.int .i64 ok):=rfl;have p8:(dh k name key vk vn vf vs ok on of os n m)[8]?=some (.int .i64 on):=rfl;have p9:(dh k name key vk vn vf vs ok on of os n m)[9]?=some (.int .u64 (of:Int)):=rfl;have KZ:(dh k name key vk vn vf vs ok on of os n m)[10]?=some (.string os):=rfl;have GY:(dh k name key vk vn vf vs ok on of os n m)[11]?=some (.int .i64 n):=rfl;have GX:(dh k name key vk vn vf vs ok on of os n m)[12]?=some (.int .i64 m):=rfl;have q0:(fl false false false false false false)[0]?=some (.bool false):=rfl;have q1:(fl false false false false false false)[1]?=some (.bool false):=rfl;have q2:(fl false false false false false false)[2]?=some (.bool false):=rfl;have q3:(fl false false false false false false)[3]?=some (.bool false):=rfl;have q4:(fl false false false false false false)[4]?=some (.bool false):=rfl;have q5:(fl false false false false false false)[5]?=some (.bool false):=rfl;generalize dh k name key vk vn vf vs ok on of os n m=pa at *
 generalize fl false false false false false false=pb at *
 go_enter func85,ntmps85;go_wp2_with fail
 all_goals
  go_ret;refine⟨⟨_,rfl,?_⟩,HK.out.b⟩;clear HK p0 p1 p2 p3 p4 p5 p6 p7 p8 p9 KZ GY GX q0 q1 q2 q3 q4 q5
  simp_all<;>omega
end
end Go.Proofs.YtahdlddbbnjloaaGreat
