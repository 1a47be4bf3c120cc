/- What the law ApplyPlays returns: true. No condition but those named. -/
import Derived.Test.YtieoeendnccafaaGreatNBA
import Derived.Test.YtieoeendnccafaaGreatNBL
set_option linter.unusedSimpArgs false
set_option linter.unusedVariables false
set_option maxRecDepth 100000
set_option maxHeartbeats 25600000
open Go.RowKit
namespace Go.Proofs.YtieoeendnccafaaGreat
open _root_.Go.Proofs.Tryz
section
theorem Ja(A:Option Addr)(c N:Nat)(l:List aF.E)(w:World)(hs:bJ nW eF w A N c l):
  Calls prog 4 #[.slice A N c] w (cZ true w):=by
 have HAw:=zH yT;have HS:=zH hs;have hbig:N*160≤140737488355328:=hs.big;have WL:Hid (∀(x:aF.E),eF x→∀(n:Int) A1 k1 c1 t1 lo W,bY W A1 k1 c1 lo→aH.Fit t1→n≤9223372036854775807→Calls prog 10 #[.agg (stA n A1 k1 c1 t1),.agg (iN x)] W (dB (fun _=>True) (Ap.mD ⟨n,vs lo,t1⟩ x) (Ap.rV ⟨n,vs lo,t1⟩ x) W)):=zH fun x hx n A1 k1 c1 t1 lo W ho hf hn=>tu n A1 k1 c1 t1 lo x W ho hf hx.1 hx.2.1 hx.2.2 hn
 have Zd:Hid (∀(x:aF.E),eF x→∀(Rk:List dA) (n:Int) A1 k1 c1 t1 lo W,(∀(b:Nat) (W0 W:World) L R,Kn b W0 W L R→(∀y∈Rk,y∈R)→bY W A1 k1 c1 lo)→bY W A1 k1 c1 lo→aH.Fit t1→n≤9223372036854775807→Calls prog 11 #[.agg (stA n A1 k1 c1 t1),.agg (iN x)] W (dB (InR Rk) (Ap.mD ⟨n,vs lo,t1⟩ x) (Ap.rV ⟨n,vs lo,t1⟩ x) W)):=zH fun x hx Rk n A1 k1 c1 t1 lo W hg ho hf hn=>wm (InR Rk) n A1 k1 c1 t1 lo x W (fun W' ⟨b,W0,L,R,K,hm⟩=>hg b W0 W' L R K hm) ho hf hx.1 hx.2.1 hx.2.2 hn
 have kF:Hid (∀(n:Int) A1 k1 c1 t1 lo W,Ap.Ok ⟨n,vs lo,t1⟩→bY W A1 k1 c1 lo→aH.Fit t1→Calls prog 13 #[.agg (stA n A1 k1 c1 t1)] W (cZ true W)):=zH fun n A1 k1 c1 t1 lo W hok hw hf=>by
  have g:=gW n A1 k1 c1 t1 lo W hw hf;rw[decide_eq_true hok] at g;exact g
 have uS:=zH (fun n A2 B2 k2 c2 k3 c3 t a b W h1 h2 h3=>BI n A2 B2 k2 c2 k3 c3 t a b W h1 h2 h3);have QK:=zH GH;have HK:=zH (Kn.start w);unfold cZ at HAw kF uS QK ⊢;unfold dB at WL Zd;clear hs;go_enter func4,ntmps4;go_wp2_with (first|(refine aU (L:=[]) HK ?_;clear HK;intro _ g3 HK;simp only[aJ] at HK)|(refine aU (L:=[_]) HK ?_;clear HK;intro _ g4 HK;simp only[aO,aJ] at HK));go_loopw [5] (fun v5 wr=>∃(i:Nat) (n:Int) (A1:Option Addr) (k1 c1:Nat) (A2:Option Addr) (k2 c2:Nat) (t:aH.T) (lo lo2:List Oh) (Rk:List dA),i≤N∧i≤150∧v5=.int .i64 i∧n≤i∧Hid (vs lo2=vs lo)∧Hid (Ap.Ok ⟨n,vs lo,t⟩)∧Hid (aH.Fit t)∧Hid (Kn w.heap.size w wr [(g3,33,stA n A1 k1 c1 t),(g4,33,stA n A2 k2 c2 t)] Rk)∧Hid (∀(b:Nat) (W0 W:World) L R,Kn b W0 W L R→(∀z∈Rk,z∈R)→bY W A1 k1 c1 lo∧bY W A2 k2 c2 lo2)) (fun v5 _=>150-(intOf v5).toNat)
 case atStart=>exact⟨0,0,none,0,0,none,0,0,tz,[],[],[],Nat.zero_le _,Nat.zero_le _,rfl,by omega,zH rfl,zH Ap.acr,zH aH.aaI,HK,zH fun b W0 W L R K hm=>⟨bY.none W,bY.none W⟩⟩
 case round=>
  clear HK;obtain⟨i,n,A1,k1,c1,A2,k2,c2,t,lo,lo2,Rk,hi,hi5,rfl,hni,HV,iw,iD,HK,rO⟩:=hrel;have hi1:(0:Int)≤(i:Int):=by omega
  by_cases hik:i<N
  case neg=>
   have hi2:¬(i:Int)<(N:Int):=by omega
   go_wp2_with fail;refine cb (HAw.out _) HK ?_;clear HK;intro _ HK;exact iU
  case pos=>
  have hi2:(i:Int)<(N:Int):=by omega
  by_cases ajv:i<150
  case neg=>
   have hi4:¬(i:Int)<150:=by omega
   go_wp2_with fail;refine cb (HAw.out _) HK ?_;clear HK;intro _ HK;exact iU
  case pos=>
  have hi4:(i:Int)<150:=by omega
  have hi3:i<9223372036854775807:=by omega
  obtain⟨x,hx,hxe⟩:=HS.out.get hik;obtain⟨b,o,rfl,hat⟩:=HS.out.at (Nat.lt_of_le_of_lt (Nat.zero_le _) hik);have HX:Hid (∀W,Below w.heap.size w W→∀q v,(evL x)[q]?=some v→W.cell? ⟨b,o+i*16+q,none⟩=some v):=zH (fun W hW=>hat W hW i x hx);have UD:=(rO.out _ _ _ _ _ HK.out (fun z hz=>hz)).1;have HF3:Hid (aH.Fit (Ap.mD ⟨n,vs lo,t⟩ x).t):=zH (Ap.VW (s:=⟨n,vs lo,t⟩) (pW UD) iD.out x);have hn3:=(Ap.afY ⟨n,vs lo,t⟩ x).2;have agp:=zH (Ap.VU iw.out x);have HAx:=zH (fun W ho=>WL.out x hxe n A1 k1 c1 t lo W ho iD.out (by omega));have HRx:=zH (fun W hg ho=>Zd.out x hxe Rk n A2 k2 c2 t lo2 W hg ho iD.out (by omega));rw[HV.out] at HRx;clear hat hx hxe UD iw WL Zd;generalize Ap.mD ⟨n,vs lo,t⟩ x=s3 at *
  generalize Ap.rV ⟨n,vs lo,t⟩ x=os at *
  obtain⟨n3,l3,t3⟩:=s3;dsimp only at *
  go_wp2_with fail;go_cut [6,7] (fun v6 v7 wx=>∃(g6:Nat) (A3:Option Addr) (k3 c3:Nat) (lo3:List Oh) (O3:Option Addr) (m3 d3:Nat) (R3:List dA),v6=.pointer (some ⟨g6,0,none⟩)∧v7=.slice O3 m3 d3∧Hid (vs lo3=l3)∧Hid (Kn w.heap.size w wx [(g3,33,stA n A1 k1 c1 t),(g4,33,stA n A2 k2 c2 t),(g6,33,stA n3 A3 k3 c3 t3)] (Rk++R3))∧Hid (∀(b:Nat) (W0 W:World) L R,Kn b W0 W L R→(∀z∈R3,z∈R)→bY W A3 k3 c3 lo3∧bJ aR tF W O3 m3 d3 os))
  case first=>
   have aj:=zH HK.out.drew;clear HK;refine zR ((aj.out.aA 2).ay 0) fun ah=>?_
   refine ak 0 rfl ?_ fun _ s=>iB s 0
   refine ak 1 rfl ?_;refine ak 2 rfl ?_;refine ak 3 rfl ?_ fun _ s=>gM nW (i:=i) hik
   refine ak 4 rfl ?_ fun _ s=>je nW (off:=o+i*16) (x:=x) _ underlying39 (HX.out _ s.out.b)
   refine jr 5 9 rfl rfl (fun K hK=>?_) fun K hK=>?_
   go_simp;go_at_call 10;refine(HAx.out _ (rO.out _ _ _ _ _ aj.out (fun z hz=>hz)).1).mono ?_;rintro en w5 ⟨A3,k3,c3,lo3,O3,m3,d3,R3,rfl,Ee,q3,HI3⟩;replace aj:=zH (aj.out.join q3);clear q3;have hs:=zH ((aj.out.aA 2).ay 0);refine bk hK hs fun ah=>?_
   clear hK K;refine ak 6 rfl ?_;refine ak 7 rfl ?_;refine ak 8 rfl ?_;refine aC 9 rfl fun K hK=>?_
   refine kI aj ?_;clear aj;intro w7 g6 aj;simp only[aO,aJ] at aj;have hs:=zH ((aj.out.aA 2).ay 0);refine bk hK hs fun ah=>?_
   clear hK K;refine aC 10 rfl fun K hK=>?_
   refine bZ aj 2 ?_;clear aj;intro w8 aj;simp only[lS] at aj;have hs:=zH ((aj.out.aA 2).ay 0);refine bk hK hs fun ah=>?_
   clear hK K;refine ak 11 rfl ?_;refine bW ?_
   rotate_left
   refine kI aj ?_;clear aj;intro w7 g6 aj;simp only[aO,aJ] at aj;have hs:=zH ((aj.out.aA 2).ay 0);refine bk hK hs fun ah=>?_
   clear hK K;refine aC 5 rfl fun K hK=>?_
   go_simp;go_at_call 10;refine(HAx.out _ (rO.out _ _ _ _ _ aj.out (fun z hz=>hz)).1).mono ?_;rintro en w5 ⟨A3,k3,c3,lo3,O3,m3,d3,R3,rfl,Ee,q3,HI3⟩;replace aj:=zH (aj.out.join q3);clear q3;have hs:=zH ((aj.out.aA 2).ay 0);refine bk hK hs fun ah=>?_
   clear hK K;refine ak 6 rfl ?_;refine ak 7 rfl ?_;refine ak 8 rfl ?_;refine aC 10 rfl fun K hK=>?_
   refine bZ aj 2 ?_;clear aj;intro w8 aj;simp only[lS] at aj;have hs:=zH ((aj.out.aA 2).ay 0);refine bk hK hs fun ah=>?_
   clear hK K;refine ak 11 rfl ?_;refine bW ?_
   rotate_left
   all_goals
    have HK:=aj;clear aj ah;go_wp2_with fail;go_meet;exact⟨_,A3,k3,c3,lo3,O3,m3,d3,R3,rfl,rfl,Ee,HK,zH fun b W0 W L R K hm=>HI3.out b W0 W L R K hm trivial⟩
  case rest=>
  clear HK;obtain⟨g6,A3,k3,c3,lo3,O3,m3,d3,R3,rfl,rfl,Ee,HK,HI3⟩:=hcut;go_wp2_with fail;go_cut [8,9] (fun v8 v9 wx=>∃(g8:Nat) (A4:Option Addr) (k4 c4:Nat) (QS:List Oh) (O4:Option Addr) (m4 d4:Nat) (R4:List dA),v8=.pointer (some ⟨g8,0,none⟩)∧v9=.slice O4 m4 d4∧Hid (vs QS=l3)∧Hid (Kn w.heap.size w wx ([(g3,33,stA n A1 k1 c1 t),(g4,33,stA n A2 k2 c2 t),(g6,33,stA n3 A3 k3 c3 t3)]++[(g8,33,stA n3 A4 k4 c4 t3)]) ((Rk++R3)++R4))∧Hid (∀(b:Nat) (W0 W:World) L R,Kn b W0 W L R→(∀z∈R4,z∈R)→InR Rk W→bY W A4 k4 c4 QS∧bJ aR tF W O4 m4 d4 os))
  case first=>
   have aj:=zH HK.out.drew;clear HK;refine zR ((aj.out.aA 2).ay 0) fun ah=>?_
   refine ak 0 rfl ?_ fun _ s=>iB s 1
   refine ak 1 rfl ?_;refine ak 2 rfl ?_;refine ak 3 rfl ?_ fun _ s=>gM nW (i:=i) hik
   refine ak 4 rfl ?_ fun _ s=>je nW (off:=o+i*16) (x:=x) _ underlying39 (HX.out _ s.out.b)
   refine jr 5 9 rfl rfl (fun K hK=>?_) fun K hK=>?_
   go_simp;go_at_call 11;refine(HRx.out _ (fun b W0 W L R K hm=>(rO.out b W0 W L R K hm).2) (rO.out _ _ _ _ _ aj.out (fun z hz=>List.mem_append_left _ hz)).2).mono ?_;rintro en w5 ⟨A4,k4,c4,QS,O4,m4,d4,R4,rfl,BS,q4,HI4⟩;replace aj:=zH (aj.out.join q4);clear q4;have hs:=zH ((aj.out.aA 2).ay 0);refine bk hK hs fun ah=>?_
   clear hK K;refine ak 6 rfl ?_;refine ak 7 rfl ?_;refine ak 8 rfl ?_;refine aC 9 rfl fun K hK=>?_
   refine kI aj ?_;clear aj;intro w7 g8 aj;simp only[aO,aJ] at aj;have hs:=zH ((aj.out.aA 2).ay 0);refine bk hK hs fun ah=>?_
   clear hK K;refine aC 10 rfl fun K hK=>?_
   refine bZ aj 3 ?_;clear aj;intro w8 aj;simp only[lS] at aj;have hs:=zH ((aj.out.aA 2).ay 0);refine bk hK hs fun ah=>?_
   clear hK K;refine ak 11 rfl ?_;refine bW ?_
   rotate_left
   refine kI aj ?_;clear aj;intro w7 g8 aj;simp only[aO,aJ] at aj;have hs:=zH ((aj.out.aA 2).ay 0);refine bk hK hs fun ah=>?_
   clear hK K;refine aC 5 rfl fun K hK=>?_
   go_simp;go_at_call 11;refine(HRx.out _ (fun b W0 W L R K hm=>(rO.out b W0 W L R K hm).2) (rO.out _ _ _ _ _ aj.out (fun z hz=>List.mem_append_left _ hz)).2).mono ?_;rintro en w5 ⟨A4,k4,c4,QS,O4,m4,d4,R4,rfl,BS,q4,HI4⟩;replace aj:=zH (aj.out.join q4);clear q4;have hs:=zH ((aj.out.aA 2).ay 0);refine bk hK hs fun ah=>?_
   clear hK K;refine ak 6 rfl ?_;refine ak 7 rfl ?_;refine ak 8 rfl ?_;refine aC 10 rfl fun K hK=>?_
   refine bZ aj 3 ?_;clear aj;intro w8 aj;simp only[lS] at aj;have hs:=zH ((aj.out.aA 2).ay 0);refine bk hK hs fun ah=>?_
   clear hK K;refine ak 11 rfl ?_;refine bW ?_
   rotate_left
   all_goals
    have HK:=aj;clear aj ah;go_wp2_with fail;go_meet;exact⟨_,A4,k4,c4,QS,O4,m4,d4,R4,rfl,rfl,BS,HK,HI4⟩
  case rest=>
  clear HK;obtain⟨g8,A4,k4,c4,QS,O4,m4,d4,R4,rfl,rfl,BS,HK,HI4⟩:=hcut;simp only[aO,aJ] at HK;obtain rfl:m3=m4:=(HI3.out _ _ _ _ _ HK.out (fun y hy=>List.mem_append_left _ (List.mem_append_right _ hy))).2.len.symm.trans (HI4.out _ _ _ _ _ HK.out (fun y hy=>List.mem_append_right _ hy) ⟨_,_,_,_,HK.out,(fun y hy=>List.mem_append_left _ (List.mem_append_left _ hy))⟩).2.len;clear HAx HRx HX;go_wp2_with (first|refine zX (iB HK 2) ?_|refine zX (iB HK 3) ?_);refine(uS.out n3 A3 A4 k3 c3 k4 c4 t3 lo3 QS _ (HI3.out _ _ _ _ _ HK.out (fun y hy=>List.mem_append_left _ (List.mem_append_right _ hy))).1 (HI4.out _ _ _ _ _ HK.out (fun y hy=>List.mem_append_right _ hy) ⟨_,_,_,_,HK.out,(fun y hy=>List.mem_append_left _ (List.mem_append_left _ hy))⟩).1 (Ee.out.trans BS.out.symm)).mono ?_;rintro en w9 ⟨rfl,b1⟩;replace HK:=iy HK b1;clear b1;go_wp2_with fail;refine(QK.out _ _ _ _ _ _ _ (HI3.out _ _ _ _ _ HK.out (fun y hy=>List.mem_append_left _ (List.mem_append_right _ hy))).2 (HI4.out _ _ _ _ _ HK.out (fun y hy=>List.mem_append_right _ hy) ⟨_,_,_,_,HK.out,(fun y hy=>List.mem_append_left _ (List.mem_append_left _ hy))⟩).2).mono ?_;rintro en w9 ⟨rfl,b1⟩;replace HK:=iy HK b1;clear b1;go_wp2_with refine zX (iB HK 2) ?_;refine(kF.out n3 A3 k3 c3 t3 lo3 _ (by rw[Ee.out];exact agp.out) (HI3.out _ _ _ _ _ HK.out (fun y hy=>List.mem_append_left _ (List.mem_append_right _ hy))).1 HF3.out).mono ?_;rintro en w9 ⟨rfl,b1⟩;replace HK:=iy HK b1;clear b1;go_wp2_with fail;have aj:=zH HK.out.drew;clear HK;refine zR ((aj.out.aI 2).ay 0) fun ah=>?_
  refine ak 0 rfl ?_ fun _ s=>iB s 0
  refine ak 1 rfl ?_ fun _ s=>iB s 1
  refine aC 2 rfl fun K hK=>?_
  refine bZ aj 0 ?_;clear aj;intro w8 aj;simp only[lS] at aj;have hs:=zH ((aj.out.aI 2).ay 0);refine bk hK hs fun ah=>?_
  clear hK K;refine aC 3 rfl fun K hK=>?_
  refine bZ aj 1 ?_;clear aj;intro w8 aj;simp only[lS] at aj;have hs:=zH ((aj.out.aI 2).ay 0);refine bk hK hs fun ah=>?_
  clear hK K;refine bW ?_
  all_goals
   have HK:=aj;clear aj ah;replace HK:=zH (HK.out.aA 2);simp only[List.take_succ_cons,List.take_zero] at HK;go_wp2_with refine zX (aL (j:=i) hi3) ?_;exact⟨⟨i+1,n3,A3,k3,c3,A4,k4,c4,t3,lo3,QS,_,by omega,by omega,rfl,by omega,zH (BS.out.trans Ee.out.symm),zH (by rw[Ee.out];exact agp.out),HF3,HK,zH (fun b W0 W L R K hm=>⟨(HI3.out b W0 W L R K (fun y hy=>hm _ (List.mem_append_left _ (List.mem_append_right _ hy)))).1,(HI4.out b W0 W L R K (fun y hy=>hm _ (List.mem_append_right _ hy)) ⟨_,_,_,_,K,fun y hy=>hm _ (List.mem_append_left _ (List.mem_append_left _ hy))⟩).1⟩)⟩,by simp[intOf];omega⟩
end
end Go.Proofs.YtieoeendnccafaaGreat
