/- What the law StoreDrops returns: true. No condition but those named. -/
import Derived.Test.YtpkodjllljnleaaGreatTk
import Derived.Test.YtpkodjllljnleaaGreatStoEq
import Derived.Test.YtpkodjllljnleaaGreatMP
import Derived.Test.YtpkodjllljnleaaGreatStoRouts
import Derived.Test.YtpkodjllljnleaaGreatStoDrop
import Derived.Test.YtpkodjllljnleaaGreatStoRDrop
set_option linter.unusedSimpArgs false
set_option linter.unusedVariables false
namespace Go.Proofs.YtpkodjllljnleaaGreat
open Go.RowKit
set_option maxRecDepth 100000 in
set_option maxHeartbeats 12800000 in
theorem drops_yes (A : Option Addr) (cp n : Nat) (l : List Oh) (r : Rf) (w : World) (hs : Obs w A n cp l) :
  Calls Tryz.prog 4 #[.slice A n cp, .agg #[.int .i64 r.c, .int .i64 r.e, .int .i64 r.r]] w (fun e w' => e = .returned (.bool true) ∧ Below w.heap.size w w') := by
 have HA := zH oawake_any
 have HT := zH twin_keep
 have HD := zH (fun W (hW : Below w.heap.size w W) => sdrop_any A cp n l r W (hs.later hW))
 have HR : Hid (∀ (Rk : List RowE) (A1 : Option Addr) (n1 c1 : Nat) (l1 : List Oh) (W : World), vs l1 = vs l → (∀ (b : Nat) (W0 W : World) L R, Kn b W0 W L R → (∀ y ∈ Rk, y ∈ R) → Obs W A1 n1 c1 l1) → Obs W A1 n1 c1 l1 → Calls Tryz.prog 13 #[.slice A1 n1 c1, .agg #[.int .i64 r.c, .int .i64 r.e, .int .i64 r.r]] W (IsDp (InR Rk) (Sto.dropL (vs l) r) (Sto.dropO (vs l) r) W)) := zH fun Rk A1 n1 c1 l1 W e h hw => by
  have h2 := rdrop_any (InR Rk) A1 c1 n1 l1 r W (fun W' ⟨b, W0, L, R, K, hm⟩ => h b W0 W' L R K hm) hw
  rw [e] at h2
  exact h2
 have HS := zH same_yes
 have HO := zH outs_yes
 have HSl := zH hs
 have HK := kn1 w 24 #[.int .i64 r.c, .int .i64 r.e, .int .i64 r.r]
 unfold IsB at HA HS HO
 unfold IsKp at HT
 unfold IsDp at HD HR
 clear hs
 generalize Sto.dropL (vs l) r = y at *
 generalize Sto.dropO (vs l) r = os at *
 go_enter Tryz.func4, Tryz.ntmps4
 go_wp2_with fail
 refine (HT.out A cp n l _ (HSl.out.later HK.out.b)).mono ?_; rintro e w1 ⟨A1, n1, c1, l1, R1, rfl, v1, k1, i1⟩
 replace HK := zH (HK.out.join k1)
 simp only [lnA] at HK
 have HV1 := zH v1
 have HI1 := zH i1
 clear v1 k1 i1
 go_wp2_with (first | refine wpList_exe (kexec_lr HK 0 _ (by rfl) (by rfl) (by rfl)) (by rfl) ?_)
 refine (HD.out _ HK.out.b).mono ?_; rintro e w2 ⟨A2, n2, c2, l2, O2, k2, d2, R2, rfl, HV2, kn2, HI2⟩
 replace HK := zH (HK.out.join kn2)
 clear kn2
 go_wp2_with fail
 have HK0 := zH HK.out.drew
 refine wp_region_held_drew (S := (fun W => Hid (Kn w.heap.size w W [(w.heap.size, 24, #[.int .i64 r.c, .int .i64 r.e, .int .i64 r.r])] []))) (by kernel_rfl) ?_ (fun hHeld => ?_)
 ·(try dsimp only); exact zH (HK0.out.takeR 0)
 refine wpAnyH_take (i := 0) (oi := ⟨some 19, _, _, _, _, _⟩) (v := ?_) rfl (by kernel_rfl) (by kernel_rfl) (by kernel_rfl) (fun _ _ _ h => h) (Or.inl ⟨by rfl, ?_⟩) (by assumption) ?_
 rotate_left
 ·(intro w hSw; (try dsimp only at hSw); go_simp; try with_reducible rfl)
 try simp only [Act.put, List.setIfInBounds_toArray, List.set_cons_zero, List.set_cons_succ]
 refine wpAnyH_take (i := 2) (oi := ⟨some 21, _, _, _, _, _⟩) (v := ?_) rfl (by kernel_rfl) (by kernel_rfl) (by kernel_rfl) (fun _ _ _ h => h) (Or.inl ⟨by rfl, ?_⟩) (by assumption) ?_
 rotate_left
 ·(intro w hSw; refine Eq.trans (kexec_lr hSw 0 _ (by rfl) (by rfl) (by rfl)) ?_; with_reducible rfl)
 try simp only [Act.put, List.setIfInBounds_toArray, List.set_cons_zero, List.set_cons_succ]
 refine wpAnyH_ready (rs := [1]) (by kernel_rfl) (by simp) ?_
 refine AllReadyH.cons (o := ⟨some 20, _, _, _, _, _⟩) rfl (fun K hK => ?_) AllReadyH.nil
 go_simp
 go_at_call 6
 refine (HT.out A1 c1 n1 l1 _ (HI1.out _ _ _ _ _ HK0.out (fun y hy => List.mem_append_left _ hy))).mono ?_; rintro e w3 ⟨A3, n3, c3, l3, R3, rfl, v3, k3, i3⟩; replace HK0 := zH (HK0.out.join k3); have HV3 := zH (v3.trans HV1.out); have HI3 := zH i3; clear v3 k3 i3; have hs := zH (HK0.out.takeR 0)
 refine hK.out _ _ hs (fun hHeld => ?_)
 clear hK K
 try simp only [ap1, ap2, ap3, ap4, ap5]
 refine wpAnyH_ready (rs := [3]) (by kernel_rfl) (by simp) ?_
 refine AllReadyH.cons (o := ⟨some 22, _, _, _, _, _⟩) rfl (fun K hK => ?_) AllReadyH.nil
 go_simp
 go_at_call 13
 refine (HR.out R3 A3 n3 c3 l3 _ HV3.out HI3.out (HI3.out _ _ _ _ _ HK0.out (fun y hy => List.mem_append_right _ hy))).mono ?_; rintro e w4 ⟨A4, n4, c4, l4, O4, k4, d4, R4, rfl, HV4, kn4, HI4⟩; replace HK0 := zH (HK0.out.join kn4); clear kn4; have hs := zH (HK0.out.takeR 0)
 refine hK.out _ _ hs (fun hHeld => ?_)
 clear hK K
 try simp only [ap1, ap2, ap3, ap4, ap5]
 refine wpAnyH_take (i := 4) (oi := ⟨some 18, _, _, _, _, _⟩) (v := ?_) rfl (by kernel_rfl) (by kernel_rfl) (by kernel_rfl) (fun _ _ _ h => h) (Or.inl ⟨by rfl, ?_⟩) (by assumption) ?_
 rotate_left
 ·(intro w hSw; (try dsimp only at hSw); go_simp; try with_reducible rfl)
 try simp only [Act.put, List.setIfInBounds_toArray, List.set_cons_zero, List.set_cons_succ]
 refine wpAnyH_take (i := 5) (oi := ⟨some 23, _, _, _, _, _⟩) (v := ?_) rfl (by kernel_rfl) (by kernel_rfl) (by kernel_rfl) (fun _ _ _ h => h) (Or.inl ⟨by rfl, ?_⟩) (by assumption) ?_
 rotate_left
 ·(intro w hSw; (try dsimp only at hSw); go_simp; try with_reducible rfl)
 try simp only [Act.put, List.setIfInBounds_toArray, List.set_cons_zero, List.set_cons_succ]
 refine wpAnyH_take (i := 6) (oi := ⟨some 24, _, _, _, _, _⟩) (v := ?_) rfl (by kernel_rfl) (by kernel_rfl) (by kernel_rfl) (fun _ _ _ h => h) (Or.inl ⟨by rfl, ?_⟩) (by assumption) ?_
 rotate_left
 ·(intro w hSw; (try dsimp only at hSw); go_simp; try with_reducible rfl)
 try simp only [Act.put, List.setIfInBounds_toArray, List.set_cons_zero, List.set_cons_succ]
 refine wpAnyH_take (i := 7) (oi := ⟨some 8, _, _, _, _, _⟩) (v := ?_) rfl (by kernel_rfl) (by kernel_rfl) (by kernel_rfl) (fun _ _ _ h => h) (Or.inl ⟨by rfl, ?_⟩) (by assumption) ?_
 rotate_left
 ·(intro w hSw; (try dsimp only at hSw); go_simp; try with_reducible rfl)
 try simp only [Act.put, List.setIfInBounds_toArray, List.set_cons_zero, List.set_cons_succ]
 refine wpAnyH_take (i := 8) (oi := ⟨some 9, _, _, _, _, _⟩) (v := ?_) rfl (by kernel_rfl) (by kernel_rfl) (by kernel_rfl) (fun _ _ _ h => h) (Or.inl ⟨by rfl, ?_⟩) (by assumption) ?_
 rotate_left
 ·(intro w hSw; (try dsimp only at hSw); go_simp; try with_reducible rfl)
 try simp only [Act.put, List.setIfInBounds_toArray, List.set_cons_zero, List.set_cons_succ]
 refine wpAnyH_done (by kernel_rfl) ?_ _
 replace HK := HK0
 clear HK0 hHeld HT HD HR
 obtain rfl : k2 = k4 := (HI2.out _ _ _ _ _ HK.out (fun y hy => List.mem_append_left _ (List.mem_append_left _ (List.mem_append_right _ hy))) trivial).2.len.symm.trans (HI4.out _ _ _ _ _ HK.out (fun y hy => List.mem_append_right _ hy) ⟨_, _, _, _, HK.out, (fun y hy => List.mem_append_left _ (List.mem_append_right _ hy))⟩).2.len
 go_wp2_with fail
 refine (HA.out _).mono ?_; rintro e w1 ⟨rfl, b1⟩
 replace HK := hkC HK b1; clear b1
 go_wp2_with fail
 refine (HS.out _ _ _ _ _ _ _ _ _ (HI2.out _ _ _ _ _ HK.out (fun y hy => List.mem_append_left _ (List.mem_append_left _ (List.mem_append_right _ hy))) trivial).1 (HI4.out _ _ _ _ _ HK.out (fun y hy => List.mem_append_right _ hy) ⟨_, _, _, _, HK.out, (fun y hy => List.mem_append_left _ (List.mem_append_right _ hy))⟩).1 (HV2.out.trans HV4.out.symm)).mono ?_; rintro e w1 ⟨rfl, b1⟩
 replace HK := hkC HK b1; clear b1
 go_wp2_with fail
 refine (HO.out _ _ _ _ _ _ _ (HI2.out _ _ _ _ _ HK.out (fun y hy => List.mem_append_left _ (List.mem_append_left _ (List.mem_append_right _ hy))) trivial).2 (HI4.out _ _ _ _ _ HK.out (fun y hy => List.mem_append_right _ hy) ⟨_, _, _, _, HK.out, (fun y hy => List.mem_append_left _ (List.mem_append_right _ hy))⟩).2).mono ?_; rintro e w1 ⟨rfl, b1⟩
 replace HK := hkC HK b1; clear b1
 go_wp2_with fail
 refine (HS.out _ _ _ _ _ _ _ _ _ (HSl.out.later HK.out.b) (HI1.out _ _ _ _ _ HK.out (fun y hy => List.mem_append_left _ (List.mem_append_left _ (List.mem_append_left _ hy)))) HV1.out.symm).mono ?_; rintro e w1 ⟨rfl, b1⟩
 replace HK := hkC HK b1; clear b1
 go_wp2_with fail
 go_ret
 exact ⟨rfl, HK.out.b⟩
end Go.Proofs.YtpkodjllljnleaaGreat
