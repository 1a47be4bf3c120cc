/- What the law ApplyDoes returns: true. No condition but those named. -/
import Derived.Test.YtieoeendnccafaaGreatNBA
import Derived.Test.YtieoeendnccafaaGreatNBB
import Derived.Test.YtieoeendnccafaaGreatNBL
set_option linter.unusedSimpArgs false
set_option linter.unusedVariables false
set_option maxRecDepth 100000
set_option maxHeartbeats 25600000
open Go.RowKit
namespace Go.Proofs.YtieoeendnccafaaGreat
open _root_.Go.Proofs.Tryz
section
theorem Lm(n:Int)(A:Option Addr)(k cp:Nat)(t:aH.T)(lo:List Oh)(e:aF.E)(w:World)(hs:bY w A k cp lo)(hf:aH.Fit t)(he:eF e)(hn:n≤9223372036854775807):
  Calls prog 3 #[.agg (stA n A k cp t),.agg (iN e)] w (cZ true w):=by
 have HAw:=zH yT
 have HTw:Hid (∀A2 k2 c2 l2 W,vs l2=vs lo→bY W A2 k2 c2 l2→Calls prog 9 #[.agg (stA n A2 k2 c2 t)] W (ady n (vs lo) t W)):=zH fun A2 k2 c2 l2 W h hw=>by
  have g:=Lj n A2 c2 k2 t l2 W hw;rw[h] at g;exact g
 have kF:Hid (∀A2 k2 c2 l2 W,vs l2=vs lo→bY W A2 k2 c2 l2→Calls prog 13 #[.agg (stA n A2 k2 c2 t)] W (cZ (decide (Ap.Ok ⟨n,vs lo,t⟩)) W)):=zH fun A2 k2 c2 l2 W h hw=>by
  have g:=gW n A2 k2 c2 t l2 W hw hf;rw[h] at g;exact g
 have Ju:Hid (∀A2 k2 c2 l2 W,vs l2=vs lo→bY W A2 k2 c2 l2→Calls prog 14 #[.agg (stA n A2 k2 c2 t)] W (cZ (decide (Ap.Ok ⟨n,vs lo,t⟩)) W)):=zH fun A2 k2 c2 l2 W h hw=>by
  have g:=qM n A2 k2 c2 t l2 W hw hf;rw[h] at g;exact g
 have WL:=zH (fun W (hW:Below w.heap.size w W)=>tu n A k cp t lo e W (hs.later hW) hf he.1 he.2.1 he.2.2 hn)
 have Zd:Hid (∀(Rk:List dA) A2 k2 c2 l2 W,vs l2=vs lo→(∀(b:Nat) (W0 W:World) L R,Kn b W0 W L R→(∀y∈Rk,y∈R)→bY W A2 k2 c2 l2)→bY W A2 k2 c2 l2→Calls prog 11 #[.agg (stA n A2 k2 c2 t),.agg (iN e)] W (dB (InR Rk) (Ap.mD ⟨n,vs lo,t⟩ e) (Ap.rV ⟨n,vs lo,t⟩ e) W)):=zH fun Rk A2 k2 c2 l2 W h hg hw=>by
  have g:=wm (InR Rk) n A2 k2 c2 t l2 e W (fun W' ⟨b,W0,L,R,K,hm⟩=>hg b W0 W' L R K hm) hw hf he.1 he.2.1 he.2.2 hn;rw[h] at g;exact g
 have uS:=zH (fun n A2 B2 k2 c2 k3 c3 t a b W h1 h2 h3=>BI n A2 B2 k2 c2 k3 c3 t a b W h1 h2 h3);have QK:=zH GH;have LA:=zH hs;have HK:=kX w 33 (stA n A k cp t) 39 (iN e);unfold cZ at HAw kF Ju uS QK ⊢;unfold ady at HTw;unfold dB at WL Zd;clear hs hf he hn;generalize decide (Ap.Ok ⟨n,vs lo,t⟩)=B at *
 generalize Ap.mD ⟨n,vs lo,t⟩ e=s2 at *
 generalize Ap.rV ⟨n,vs lo,t⟩ e=os at *
 obtain⟨n2,l2,t2⟩:=s2;dsimp only at *
 go_enter func3,ntmps3;go_wp2_with refine zX (iB HK 0) ?_;refine(HTw.out A k cp lo _ rfl (LA.out.later HK.out.b)).mono ?_;rintro en w1 ⟨A1,k1,c1,l1,R1,rfl,QI,j1,HI1⟩;replace HK:=zH (HK.out.join j1);simp only[aJ] at HK;clear j1;go_wp2_with (first|(refine aU HK ?_;clear HK;intro _ g5 HK;simp only[aO,aJ] at HK)|(refine bA HK 2 ?_;clear HK;intro _ HK;simp only[lS] at HK)|refine zX (iB HK 0) ?_|refine zX (gL HK 1) ?_);refine(WL.out _ HK.out.b).mono ?_;rintro en w2 ⟨A2,k2,c2,lo2,O2,m2,d2,R2,rfl,mE,j2,HI2⟩;replace HK:=zH (HK.out.join j2);clear j2 WL;go_upto_region 3 with (first|(refine aU HK ?_;clear HK;intro _ g6 HK;simp only[aO,aJ] at HK)|(refine bA HK 3 ?_;clear HK;intro _ HK;simp only[lS] at HK));have aj:=zH HK.out.drew;clear HK;refine zR ((aj.out.aA 4).ay 0) fun ah=>?_
 refine ak 0 rfl ?_ fun _ s=>iB s 2
 refine ak 2 rfl ?_ fun _ s=>gL s 1
 refine jr 1 7 rfl rfl (fun K hK=>?_) fun K hK=>?_
 go_simp;go_at_call 9;refine(HTw.out A1 k1 c1 l1 _ QI.out (HI1.out _ _ _ _ _ aj.out (fun y hy=>List.mem_append_left _ hy))).mono ?_;rintro en w3 ⟨A3,k3,c3,l3,R3,rfl,Ee,j3,HI3⟩;replace aj:=zH (aj.out.join j3);clear j3;have hs:=zH ((aj.out.aA 4).ay 0);refine bk hK hs fun ah=>?_
 clear hK K;refine jr 3 7 rfl rfl (fun K hK=>?_) fun K hK=>?_
 go_simp;go_at_call 11;refine(Zd.out R3 A3 k3 c3 l3 _ Ee.out HI3.out (HI3.out _ _ _ _ _ aj.out (fun y hy=>List.mem_append_right _ hy))).mono ?_;rintro en w4 ⟨A4,k4,c4,QS,O4,m4,d4,R4,rfl,BS,j4,HI4⟩;replace aj:=zH (aj.out.join j4);clear j4;have hs:=zH ((aj.out.aA 4).ay 0);refine bk hK hs fun ah=>?_
 clear hK K;refine ak 4 rfl ?_;refine ak 5 rfl ?_;refine ak 6 rfl ?_;refine aC 7 rfl fun K hK=>?_
 refine kI aj ?_;clear aj;intro w7 g8 aj;simp only[aO,aJ] at aj;have hs:=zH ((aj.out.aA 4).ay 0);refine bk hK hs fun ah=>?_
 clear hK K;refine aC 8 rfl fun K hK=>?_
 refine bZ aj 4 ?_;clear aj;intro w8 aj;simp only[lS] at aj;have hs:=zH ((aj.out.aA 4).ay 0);refine bk hK hs fun ah=>?_
 clear hK K;refine ak 9 rfl ?_;refine bW ?_
 rotate_left
 refine kI aj ?_;clear aj;intro w7 g8 aj;simp only[aO,aJ] at aj;have hs:=zH ((aj.out.aA 4).ay 0);refine bk hK hs fun ah=>?_
 clear hK K;refine aC 3 rfl fun K hK=>?_
 go_simp;go_at_call 11;refine(Zd.out R3 A3 k3 c3 l3 _ Ee.out HI3.out (HI3.out _ _ _ _ _ aj.out (fun y hy=>List.mem_append_right _ hy))).mono ?_;rintro en w4 ⟨A4,k4,c4,QS,O4,m4,d4,R4,rfl,BS,j4,HI4⟩;replace aj:=zH (aj.out.join j4);clear j4;have hs:=zH ((aj.out.aA 4).ay 0);refine bk hK hs fun ah=>?_
 clear hK K;refine ak 4 rfl ?_;refine ak 5 rfl ?_;refine ak 6 rfl ?_;refine aC 8 rfl fun K hK=>?_
 refine bZ aj 4 ?_;clear aj;intro w8 aj;simp only[lS] at aj;have hs:=zH ((aj.out.aA 4).ay 0);refine bk hK hs fun ah=>?_
 clear hK K;refine ak 9 rfl ?_;refine bW ?_
 rotate_left
 refine kI aj ?_;clear aj;intro w7 g8 aj;simp only[aO,aJ] at aj;have hs:=zH ((aj.out.aA 4).ay 0);refine bk hK hs fun ah=>?_
 clear hK K;refine aC 1 rfl fun K hK=>?_
 go_simp;go_at_call 9;refine(HTw.out A1 k1 c1 l1 _ QI.out (HI1.out _ _ _ _ _ aj.out (fun y hy=>List.mem_append_left _ hy))).mono ?_;rintro en w3 ⟨A3,k3,c3,l3,R3,rfl,Ee,j3,HI3⟩;replace aj:=zH (aj.out.join j3);clear j3;have hs:=zH ((aj.out.aA 4).ay 0);refine bk hK hs fun ah=>?_
 clear hK K;refine aC 3 rfl fun K hK=>?_
 go_simp;go_at_call 11;refine(Zd.out R3 A3 k3 c3 l3 _ Ee.out HI3.out (HI3.out _ _ _ _ _ aj.out (fun y hy=>List.mem_append_right _ hy))).mono ?_;rintro en w4 ⟨A4,k4,c4,QS,O4,m4,d4,R4,rfl,BS,j4,HI4⟩;replace aj:=zH (aj.out.join j4);clear j4;have hs:=zH ((aj.out.aA 4).ay 0);refine bk hK hs fun ah=>?_
 clear hK K;refine ak 4 rfl ?_;refine ak 5 rfl ?_;refine ak 6 rfl ?_;refine aC 8 rfl fun K hK=>?_
 refine bZ aj 4 ?_;clear aj;intro w8 aj;simp only[lS] at aj;have hs:=zH ((aj.out.aA 4).ay 0);refine bk hK hs fun ah=>?_
 clear hK K;refine ak 9 rfl ?_;refine bW ?_
 rotate_left
 all_goals
  have HK:=aj;clear aj ah HTw Zd;obtain rfl:m2=m4:=(HI2.out _ _ _ _ _ HK.out (fun y hy=>List.mem_append_left _ (List.mem_append_left _ (List.mem_append_right _ hy))) trivial).2.len.symm.trans (HI4.out _ _ _ _ _ HK.out (fun y hy=>List.mem_append_right _ hy) ⟨_,_,_,_,HK.out,(fun y hy=>List.mem_append_left _ (List.mem_append_right _ hy))⟩).2.len;go_wp2_with fail;have aj:=zH HK.out.drew;clear HK;refine zR aj.out fun ah=>?_
  refine aC 0 rfl fun K hK=>?_
  go_simp;go_at_call 12;refine(HAw.out _).mono ?_;rintro en w9 ⟨rfl,b9⟩;have hs:=zH (ah.out.call b9);refine bk hK hs fun ah=>?_
  clear hK K;refine ak 1 rfl ?_;refine ak 2 rfl ?_ fun _ s=>iB s 0
  refine ak 4 rfl ?_ fun _ s=>iB s 2
  refine aC 3 rfl fun K hK=>?_
  go_simp;go_at_call 13;refine(kF.out A k cp lo _ rfl (LA.out.later ah.out.b)).mono ?_;rintro en w9 ⟨rfl,b9⟩;have hs:=zH (ah.out.call b9);refine bk hK hs fun ah=>?_
  clear hK K;refine aC 5 rfl fun K hK=>?_
  go_simp;go_at_call 14;refine(Ju.out A1 k1 c1 l1 _ QI.out (HI1.out _ _ _ _ _ ah.out (fun y hy=>List.mem_append_left _ (List.mem_append_left _ (List.mem_append_left _ hy))))).mono ?_;rintro en w9 ⟨rfl,b9⟩;have hs:=zH (ah.out.call b9);refine bk hK hs fun ah=>?_
  clear hK K;refine ak 6 rfl ?_ fun _ s=>Yy (x:=B) (by rfl) (by rfl) (by rfl)
  refine ak 7 rfl ?_;refine ak 8 rfl ?_;refine ak 9 rfl ?_ fun _ s=>iB s 3
  refine ak 10 rfl ?_ fun _ s=>iB s 4
  refine aC 11 rfl fun K hK=>?_
  go_simp;go_at_call 15;refine(uS.out n2 A2 A4 k2 c2 k4 c4 t2 lo2 QS _ (HI2.out _ _ _ _ _ ah.out (fun y hy=>List.mem_append_left _ (List.mem_append_left _ (List.mem_append_right _ hy))) trivial).1 (HI4.out _ _ _ _ _ ah.out (fun y hy=>List.mem_append_right _ hy) ⟨_,_,_,_,ah.out,(fun y hy=>List.mem_append_left _ (List.mem_append_right _ hy))⟩).1 (mE.out.trans BS.out.symm)).mono ?_;rintro en w9 ⟨rfl,b9⟩;have hs:=zH (ah.out.call b9);refine bk hK hs fun ah=>?_
  clear hK K;refine ak 12 rfl ?_;refine ak 13 rfl ?_;refine ak 14 rfl ?_;refine ak 15 rfl ?_;refine aC 16 rfl fun K hK=>?_
  go_simp;go_at_call 16;refine(QK.out _ _ _ _ _ _ _ (HI2.out _ _ _ _ _ ah.out (fun y hy=>List.mem_append_left _ (List.mem_append_left _ (List.mem_append_right _ hy))) trivial).2 (HI4.out _ _ _ _ _ ah.out (fun y hy=>List.mem_append_right _ hy) ⟨_,_,_,_,ah.out,(fun y hy=>List.mem_append_left _ (List.mem_append_right _ hy))⟩).2).mono ?_;rintro en w9 ⟨rfl,b9⟩;have hs:=zH (ah.out.call b9);refine bk hK hs fun ah=>?_
  clear hK K;refine ak 17 rfl ?_;refine ak 18 rfl ?_;refine ak 19 rfl ?_ fun _ s=>iB s 0
  refine ak 20 rfl ?_ fun _ s=>iB s 2
  refine aC 21 rfl fun K hK=>?_
  go_simp;go_at_call 15;refine(uS.out n A A1 k cp k1 c1 t lo l1 _ (LA.out.later ah.out.b) (HI1.out _ _ _ _ _ ah.out (fun y hy=>List.mem_append_left _ (List.mem_append_left _ (List.mem_append_left _ hy)))) QI.out.symm).mono ?_;rintro en w9 ⟨rfl,b9⟩;have hs:=zH (ah.out.call b9);refine bk hK hs fun ah=>?_
  clear hK K;refine ak 22 rfl ?_;refine ak 23 rfl ?_;refine bW ?_
  all_goals
   go_wp2_with fail;go_ret;exact⟨rfl,ah.out.b⟩
end
end Go.Proofs.YtieoeendnccafaaGreat
