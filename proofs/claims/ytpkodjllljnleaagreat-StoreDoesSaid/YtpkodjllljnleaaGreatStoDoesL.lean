/- What the law StoreDoes returns: true. No condition but those named. -/
import Derived.Test.YtpkodjllljnleaaGreatTk
import Derived.Test.YtpkodjllljnleaaGreatStoEq
import Derived.Test.YtpkodjllljnleaaGreatMP
import Derived.Test.YtpkodjllljnleaaGreatStoRouts
import Derived.Test.YtpkodjllljnleaaGreatStoRDoB
set_option linter.unusedSimpArgs false
set_option linter.unusedVariables false
namespace Go.Proofs.YtpkodjllljnleaaGreat
open Go.RowKit
set_option maxRecDepth 100000 in
set_option maxHeartbeats 12800000 in
theorem does_yes (A : Option Addr) (cp n : Nat) (l : List Oh) (r : Rf) (c : Cmd.C) (w : World) (hs : Obs w A n cp l) (hv : c.val.f < 18446744073709551616) (ho : c.old.f < 18446744073709551616) :
  Calls Tryz.prog 3 #[.slice A n cp, .agg #[.int .i64 r.c, .int .i64 r.e, .int .i64 r.r], .agg (cmA c)] w (fun e w' => e = .returned (.bool true) ∧ Below w.heap.size w w') := by
 have HA := zH oawake_any
 have HT := zH twin_keep
 have HD := zH (fun W (hW : Below w.heap.size w W) => sdo_any A cp n l r c W (hs.later hW) hv ho)
 have HR : Hid (∀ (Rk : List RowE) (A1 : Option Addr) (n1 c1 : Nat) (l1 : List Oh) (W : World), vs l1 = vs l → (∀ (b : Nat) (W0 W : World) L R, Kn b W0 W L R → (∀ y ∈ Rk, y ∈ R) → Obs W A1 n1 c1 l1) → Obs W A1 n1 c1 l1 → Calls Tryz.prog 8 #[.slice A1 n1 c1, .agg #[.int .i64 r.c, .int .i64 r.e, .int .i64 r.r], .agg (cmA c)] W (IsRD (InR Rk) (Sto.doo (vs l) r c) W)) := zH fun Rk A1 n1 c1 l1 W e h hw => by
  have h2 := rdo_any (InR Rk) A1 c1 n1 l1 r c W (fun W' ⟨b, W0, L, R, K, hm⟩ => h b W0 W' L R K hm) hw hv ho
  rw [e] at h2
  exact h2
 have HS := zH same_yes
 have HO := zH outs_yes
 have HSl := zH hs
 have HK := kn2 w 24 #[.int .i64 r.c, .int .i64 r.e, .int .i64 r.r] 29 (cmA c)
 unfold IsB at HA HS HO
 unfold IsKp at HT
 unfold IsDo at HD
 unfold IsRD at HR
 clear hs hv ho
 generalize Sto.doo (vs l) r c = Y at *
 obtain ⟨yl, yp, yt, ys⟩ := Y
 simp only at HD HR
 go_enter Tryz.func3, Tryz.ntmps3
 go_wp2_with fail
 refine (HT.out A cp n l _ (HSl.out.later HK.out.b)).mono ?_; rintro e w1 ⟨A1, n1, c1, l1, R1, rfl, v1, k1, i1⟩
 replace HK := zH (HK.out.join k1)
 simp only [lnA] at HK
 have HV1 := zH v1
 have HI1 := zH i1
 clear v1 k1 i1
 go_wp2_with (first | refine zX (kexec_lr HK 0 _ (by rfl) (by rfl) (by rfl)) ?_ | refine zX (kcm HK 1 _ (by rfl) (by rfl) (by rfl)) ?_)
 refine (HD.out _ HK.out.b).mono ?_; rintro e w2 ⟨A2, n2, c2, l2, O2, k2, d2, R2, rfl, v2, kn2, i2⟩
 replace HK := zH (HK.out.join kn2)
 have HV2 := zH v2
 have HI2 := zH i2
 clear v2 kn2 i2
 go_wp2_with (first | (refine wpList_arp HK rfl rfl ?_; intro _ g9 HK'; simp only [lcA, lnA] at HK'; replace HK := HK'; clear HK') | (refine wpList_srp (q := yp) HK 2 rfl _ _ rfl rfl rfl rfl ?_; intro _ HK'; simp only [List.set] at HK'; replace HK := HK'; clear HK'))
 have HK0 := zH HK.out.drew
 refine wp_region_held_drew (S := (fun W => Hid (Kn w.heap.size w W [(w.heap.size, 24, #[.int .i64 r.c, .int .i64 r.e, .int .i64 r.r]), (w.heap.size + 1, 29, cmA c)] []))) (by kernel_rfl) ?_ (fun hHeld => ?_)
 ·(try dsimp only); exact kp2 HK0
 refine stk 0 28 rfl ?_
 refine stk 2 30 rfl ?_ (fun w hSw => kexec_lr hSw 0 _ (by rfl) (by rfl) (by rfl))
 refine stk 3 31 rfl ?_ (fun w hSw => kcm hSw 1 _ (by rfl) (by rfl) (by rfl))
 refine srd2 1 (some 29) 10 (some 13) rfl rfl (fun K hK => ?_) (fun K hK => ?_)
 go_simp
 go_at_call 6
 refine (HT.out A1 c1 n1 l1 _ (HI1.out _ _ _ _ _ HK0.out (fun y hy => List.mem_append_left _ hy))).mono ?_; rintro e w3 ⟨A3, n3, c3, l3, R3, rfl, v3, k3, i3⟩; replace HK0 := zH (HK0.out.join k3); have HV3 := zH (v3.trans HV1.out); have HI3 := zH i3; clear v3 k3 i3; have hs := kp2 HK0
 refine hK.out _ _ hs (fun hHeld => ?_)
 clear hK K
 try simp only [ap1, ap2, ap3, ap4, ap5]
 refine srd2 4 (some 32) 10 (some 13) rfl rfl (fun K hK => ?_) (fun K hK => ?_)
 go_simp
 go_at_call 8
 refine (HR.out R3 A3 n3 c3 l3 _ HV3.out HI3.out (HI3.out _ _ _ _ _ HK0.out (fun y hy => List.mem_append_right _ hy))).mono ?_; rintro e w4 ⟨A4, n4, c4, l4, O4, k4, d4, R4, rfl, v4, kn4, i4⟩; replace HK0 := zH (HK0.out.join kn4); have HV4 := zH v4; have HI4 := zH i4; clear v4 kn4 i4; have hs := kp2 HK0
 refine hK.out _ _ hs (fun hHeld => ?_)
 clear hK K
 try simp only [ap1, ap2, ap3, ap4, ap5]
 refine stk 5 27 rfl ?_
 refine stk 6 33 rfl ?_
 refine stk 7 34 rfl ?_
 refine stk 8 35 rfl ?_
 refine stk 9 36 rfl ?_
 refine srd1 10 (some 13) rfl (fun K hK => ?_)
 refine zarp HK0 ?_; clear HK0; intro wq g13 HK0; simp only [lcA, lnA] at HK0; have hs := kp2 HK0
 refine hK.out _ _ hs (fun hHeld => ?_)
 clear hK K
 try simp only [ap1, ap2, ap3, ap4, ap5]
 refine stk 11 12 rfl ?_
 refine srd1 12 none rfl (fun K hK => ?_)
 refine zsrp yp HK0 3 ?_; clear HK0; intro wq HK0; simp only [List.set] at HK0; have hs := kp2 HK0
 refine hK.out _ _ hs (fun hHeld => ?_)
 clear hK K
 try simp only [ap1, ap2, ap3, ap4, ap5]
 refine stk 13 14 rfl ?_
 refine stk 14 15 rfl ?_
 refine wpAnyH_done (by kernel_rfl) ?_ _
 rotate_left
 refine zarp HK0 ?_; clear HK0; intro wq g13 HK0; simp only [lcA, lnA] at HK0; have hs := kp2 HK0
 refine hK.out _ _ hs (fun hHeld => ?_)
 clear hK K
 try simp only [ap1, ap2, ap3, ap4, ap5]
 refine srd1 4 (some 32) rfl (fun K hK => ?_)
 go_simp
 go_at_call 8
 refine (HR.out R3 A3 n3 c3 l3 _ HV3.out HI3.out (HI3.out _ _ _ _ _ HK0.out (fun y hy => List.mem_append_right _ hy))).mono ?_; rintro e w4 ⟨A4, n4, c4, l4, O4, k4, d4, R4, rfl, v4, kn4, i4⟩; replace HK0 := zH (HK0.out.join kn4); have HV4 := zH v4; have HI4 := zH i4; clear v4 kn4 i4; have hs := kp2 HK0
 refine hK.out _ _ hs (fun hHeld => ?_)
 clear hK K
 try simp only [ap1, ap2, ap3, ap4, ap5]
 refine stk 5 27 rfl ?_
 refine stk 6 33 rfl ?_
 refine stk 7 34 rfl ?_
 refine stk 8 35 rfl ?_
 refine stk 9 36 rfl ?_
 refine stk 11 12 rfl ?_
 refine srd1 12 none rfl (fun K hK => ?_)
 refine zsrp yp HK0 3 ?_; clear HK0; intro wq HK0; simp only [List.set] at HK0; have hs := kp2 HK0
 refine hK.out _ _ hs (fun hHeld => ?_)
 clear hK K
 try simp only [ap1, ap2, ap3, ap4, ap5]
 refine stk 13 14 rfl ?_
 refine stk 14 15 rfl ?_
 refine wpAnyH_done (by kernel_rfl) ?_ _
 rotate_left
 refine zarp HK0 ?_; clear HK0; intro wq g13 HK0; simp only [lcA, lnA] at HK0; have hs := kp2 HK0
 refine hK.out _ _ hs (fun hHeld => ?_)
 clear hK K
 try simp only [ap1, ap2, ap3, ap4, ap5]
 refine srd1 1 (some 29) rfl (fun K hK => ?_)
 go_simp
 go_at_call 6
 refine (HT.out A1 c1 n1 l1 _ (HI1.out _ _ _ _ _ HK0.out (fun y hy => List.mem_append_left _ hy))).mono ?_; rintro e w3 ⟨A3, n3, c3, l3, R3, rfl, v3, k3, i3⟩; replace HK0 := zH (HK0.out.join k3); have HV3 := zH (v3.trans HV1.out); have HI3 := zH i3; clear v3 k3 i3; have hs := kp2 HK0
 refine hK.out _ _ hs (fun hHeld => ?_)
 clear hK K
 try simp only [ap1, ap2, ap3, ap4, ap5]
 refine srd1 4 (some 32) rfl (fun K hK => ?_)
 go_simp
 go_at_call 8
 refine (HR.out R3 A3 n3 c3 l3 _ HV3.out HI3.out (HI3.out _ _ _ _ _ HK0.out (fun y hy => List.mem_append_right _ hy))).mono ?_; rintro e w4 ⟨A4, n4, c4, l4, O4, k4, d4, R4, rfl, v4, kn4, i4⟩; replace HK0 := zH (HK0.out.join kn4); have HV4 := zH v4; have HI4 := zH i4; clear v4 kn4 i4; have hs := kp2 HK0
 refine hK.out _ _ hs (fun hHeld => ?_)
 clear hK K
 try simp only [ap1, ap2, ap3, ap4, ap5]
 refine stk 5 27 rfl ?_
 refine stk 6 33 rfl ?_
 refine stk 7 34 rfl ?_
 refine stk 8 35 rfl ?_
 refine stk 9 36 rfl ?_
 refine stk 11 12 rfl ?_
 refine srd1 12 none rfl (fun K hK => ?_)
 refine zsrp yp HK0 3 ?_; clear HK0; intro wq HK0; simp only [List.set] at HK0; have hs := kp2 HK0
 refine hK.out _ _ hs (fun hHeld => ?_)
 clear hK K
 try simp only [ap1, ap2, ap3, ap4, ap5]
 refine stk 13 14 rfl ?_
 refine stk 14 15 rfl ?_
 refine wpAnyH_done (by kernel_rfl) ?_ _
 rotate_left
 all_goals
  replace HK := HK0
  clear HK0 hHeld HT HD HR
  obtain rfl : k2 = k4 := (HI2.out _ _ _ _ _ HK.out (fun y hy => List.mem_append_left _ (List.mem_append_left _ (List.mem_append_right _ hy)))).2.len.symm.trans (HI4.out _ _ _ _ _ HK.out (fun y hy => List.mem_append_right _ hy) ⟨_, _, _, _, HK.out, (fun y hy => List.mem_append_left _ (List.mem_append_right _ hy))⟩).2.len
  go_wp2_with fail
  refine (HA.out _).mono ?_; rintro e w1 ⟨rfl, b1⟩
  replace HK := hkC HK b1; clear b1
  go_wp2_with fail
  refine (HS.out _ _ _ _ _ _ _ _ _ (HI2.out _ _ _ _ _ HK.out (fun y hy => List.mem_append_left _ (List.mem_append_left _ (List.mem_append_right _ hy)))).1 (HI4.out _ _ _ _ _ HK.out (fun y hy => List.mem_append_right _ hy) ⟨_, _, _, _, HK.out, (fun y hy => List.mem_append_left _ (List.mem_append_right _ hy))⟩).1 (HV2.out.trans HV4.out.symm)).mono ?_; rintro e w1 ⟨rfl, b1⟩
  replace HK := hkC HK b1; clear b1
  go_wp2_with (first | refine zX (krp HK 2 _ (by rfl) (by rfl) (by rfl)) ?_ | refine zX (krp HK 3 _ (by rfl) (by rfl) (by rfl)) ?_ | refine zX (exec_rpq (x := yp) _ _ (by rfl) (by rfl) (by rfl)) ?_ | refine zX (exec_bq (x := yt) _ _ (by rfl) (by rfl) (by rfl)) ?_)
  refine (HO.out _ _ _ _ _ _ _ (HI2.out _ _ _ _ _ HK.out (fun y hy => List.mem_append_left _ (List.mem_append_left _ (List.mem_append_right _ hy)))).2 (HI4.out _ _ _ _ _ HK.out (fun y hy => List.mem_append_right _ hy) ⟨_, _, _, _, HK.out, (fun y hy => List.mem_append_left _ (List.mem_append_right _ hy))⟩).2).mono ?_; rintro e w1 ⟨rfl, b1⟩
  replace HK := hkC HK b1; clear b1
  go_wp2_with fail
  refine (HS.out _ _ _ _ _ _ _ _ _ (HSl.out.later HK.out.b) (HI1.out _ _ _ _ _ HK.out (fun y hy => List.mem_append_left _ (List.mem_append_left _ (List.mem_append_left _ hy)))) HV1.out.symm).mono ?_; rintro e w1 ⟨rfl, b1⟩
  replace HK := hkC HK b1; clear b1
  go_wp2_with fail
  go_ret
  exact ⟨rfl, HK.out.b⟩
end Go.Proofs.YtpkodjllljnleaaGreat
