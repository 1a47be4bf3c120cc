/- What the law SnapOnce returns. No condition but those named. -/
import Derived.Test.YtieoeendnccafaaNTK
import Derived.Test.YtieoeendnccafaaNBG
import Derived.Test.YtieoeendnccafaaApSm
set_option linter.unusedSimpArgs false
set_option linter.unusedVariables false
set_option maxRecDepth 100000
set_option maxHeartbeats 25600000
namespace Go.Proofs.Ytieoeendnccafaa
section
open Go.RowKit
theorem snonce_any(b:ByteArray)(w:World)(hs:b.size≤140737488351232):Calls Try.prog 3 #[.string b] w (IsB true w):=by
 have HAw:=zH snawake_any
 have HK:=zH (Kn.start w)
 by_cases h0:(Snp.D false b).2=0
 ·obtain⟨s,h1,h2,h3,h4,h5⟩:=Snp.once h0
  have HD:Hid (∀W,Calls Try.prog 4 #[.string b] W (IsDec (s,0) W)):=zH fun W=>by
   have h:=rdecode2_any b W hs
   rw[h1] at h
   exact h
  have hN:(Snp.stI s).length≤16384:=by
   have h:=Snp.E_le s h3
   rw[Snp.E_ok h2 h3] at h
   have h':=wire_len ((Snp.stI s).map Snp.toW)
   rw[List.length_map] at h'
   have h2:((Wire.all ((Snp.stI s).map Snp.toW)).toArray).size≤16384:=h
   rw[List.size_toArray] at h2
   omega
  have HO:Hid (∀(n:Int) (A:Option Addr) (k c:Nat) (l:List Oh) (t:Ses.T) (b0:Nat) (w0 W:World) (L:List (Nat×TypeId×Array Value)),(Sh.v ⟨n,⟨A,k,c,l⟩,t⟩)=s→Kn b0 w0 W L (olRows ⟨A,k,c,l⟩)→Obs W A k c l):=zH fun n A k c l t b0 w0 W L hv hk=>(Sh.obs (x:=⟨n,⟨A,k,c,l⟩,t⟩) (c:=false) hk (fun y h=>h) (by rw[hv];exact h3) (by rw[hv];exact Snp.ok_G h2 h4 false) (by rw[hv];exact hN)).1
  have HE:Hid (∀(n:Int) (A:Option Addr) (k c:Nat) (l:List Oh) (t:Ses.T) (W:World),(Sh.v ⟨n,⟨A,k,c,l⟩,t⟩)=s→Obs W A k c l→Calls Try.prog 7 #[.agg (stA n A k c t)] W (IsBe (b,0) W)):=zH fun n A k c l t W hv ho=>by
   have e:(⟨n,vs l,t⟩:Ap.St)=s:=hv
   have ht:=h4.t
   rw[← e] at ht
   have h:=nencode_any n A k c t l W ho ht (by rw[e];exact h3)
   rw[e,h5] at h
   exact h
  clear h0 h1 h2 h3 h4 h5 hN hs
  unfold IsBe at HE
  unfold IsB at HAw ⊢
  go_enter Try.func3,Try.ntmps3
  go_wp2_with fail
  refine(HD.out _).mono ?_;rintro e w1 ⟨x,hx,rfl,k1⟩;replace HK:=zH (HK.out.join k1);clear k1
  obtain⟨n2,⟨A2,k2,c2,l2⟩,t2⟩:=x
  have HX:=zH hx
  clear hx
  unfold Sh.enc
  simp only[lnA] at HK
  dsimp only at HK ⊢
  go_wp2_with (first|(refine wpList_ast HK rfl rfl ?_;intro _ g1 HK';simp only[lnA,List.append_nil] at HK';replace HK:=HK';clear HK')|(refine wpList_sst HK 0 rfl _ _ rfl rfl rfl rfl ?_;intro _ HK';simp only[List.set] at HK';replace HK:=HK';clear HK')|refine wpList_exe (kst HK 0 _ (by rfl) (by rfl) (by rfl)) (by rfl) ?_)
  refine(HE.out n2 A2 k2 c2 l2 t2 _ HX.out (HO.out _ _ _ _ _ _ _ _ _ _ HX.out HK.out)).mono ?_;rintro e w2 ⟨rfl,b2⟩;replace HK:=hkC HK b2;clear b2
  go_wp2_with fail
  refine(HAw.out _).mono ?_;rintro e w3 ⟨rfl,b3⟩;replace HK:=hkC HK b3;clear b3
  go_wp2_with fail
  go_ret
  exact⟨rfl,HK.out.b⟩
 ·have hz:=Snp.D_bad h0
  have HD:Hid (∀W,Calls Try.prog 4 #[.string b] W (IsDec (Snp.stz,(Snp.D false b).2) W)):=zH fun W=>by
   have h:=rdecode2_any b W hs
   rw[show Snp.D false b=(Snp.stz,(Snp.D false b).2) from Prod.ext hz rfl] at h
   exact h
  generalize (Snp.D false b).2=r at *
  have HO:Hid (∀(A:Option Addr) (k c:Nat) (b0:Nat) (w0 W:World) (L:List (Nat×TypeId×Array Value)),Kn b0 w0 W L (olRows ⟨A,k,c,[]⟩)→Obs W A k c []):=zH fun A k c b0 w0 W L hk=>(Sh.obs (x:=⟨0,⟨A,k,c,[]⟩,tz⟩) (c:=false) hk (fun y h=>h) Snp.fit_z (Snp.ok_G Snp.ok_z Snp.ft_z false) (by show(Snp.stI Snp.stz).length≤16384;decide)).1
  have HS:Hid (∀(A:Option Addr) (k c:Nat) (W:World),Obs W A k c []→Calls Try.prog 6 #[.agg (stA 0 A k c tz),.agg (stA 0 none 0 0 tz)] W (IsB true W)):=zH fun A k c W ho=>apsame_yes 0 A none k c 0 0 tz [] [] W ho ⟨Sls.none _,fun x hx=>by cases hx⟩ rfl
  clear hz hs
  unfold IsB at HAw HS ⊢
  go_enter Try.func3,Try.ntmps3
  go_wp2_with fail
  refine(HD.out _).mono ?_;rintro e w1 ⟨x,hx,rfl,k1⟩;replace HK:=zH (HK.out.join k1);clear k1
  obtain⟨n2,⟨A2,k2,c2,l2⟩,t2⟩:=x
  obtain⟨e1,e2,e3⟩:=Sh.nz hx
  dsimp only at e1 e2 e3
  subst e1 e2 e3
  clear hx
  unfold Sh.enc
  simp only[lnA] at HK
  dsimp only at HK ⊢
  go_wp2_with (first|(refine wpList_ast HK rfl rfl ?_;intro _ g1 HK';simp only[lnA,List.append_nil] at HK';replace HK:=HK';clear HK')|(refine wpList_sst HK 0 rfl _ _ rfl rfl rfl rfl ?_;intro _ HK';simp only[List.set] at HK';replace HK:=HK';clear HK')|refine wpList_exe (kst HK 0 _ (by rfl) (by rfl) (by rfl)) (by rfl) ?_)
  refine(HAw.out _).mono ?_;rintro e w3 ⟨rfl,b3⟩;replace HK:=hkC HK b3;clear b3
  go_wp2_with (first|(refine wpList_ast HK rfl rfl ?_;intro _ g1 HK';simp only[lnA,List.append_nil] at HK';replace HK:=HK';clear HK')|(refine wpList_sst HK 0 rfl _ _ rfl rfl rfl rfl ?_;intro _ HK';simp only[List.set] at HK';replace HK:=HK';clear HK')|refine wpList_exe (kst HK 0 _ (by rfl) (by rfl) (by rfl)) (by rfl) ?_)
  refine(HS.out _ _ _ _ (HO.out _ _ _ _ _ _ _ HK.out)).mono ?_;rintro e w2 ⟨rfl,b2⟩;replace HK:=hkC HK b2;clear b2
  go_wp2_with fail
  go_ret
  exact⟨rfl,HK.out.b⟩
theorem snonce_yes(s:ByteArray)(w:World)(hs:s.size≤reachBytes):Lift.Yes Try.prog 3 #[.string s] w:=by
 have h:reachBytes=140737488351232:=by decide
 rw[h] at hs
 exact(snonce_any s w hs).mono fun e w' h=>h
end
end Go.Proofs.Ytieoeendnccafaa
