/-
  The law MeterSums: it returns true, and leaves what came in as it was.
  No condition but what the slice reads as.
-/
import Derived.Test.YtbaaoenmnmpfjaaMtAwake
import Derived.Test.YtbaaoenmnmpfjaaMtRowM
import Derived.Test.YtbaaoenmnmpfjaaULay
set_option linter.unusedSimpArgs false
set_option linter.unusedVariables false
namespace Go.Proofs.Ytbaaoenmnmpfjaa
open Go.RowKit

set_option maxRecDepth 100000 in
set_option maxHeartbeats 6400000 in
theorem sums_yes (A : Option Addr) (c n : Nat) (l : List Nat) (w : World) (hs : Sls uLay uF w A n c l) :
    Calls Try.prog 6 #[.slice A n c] w (fun e w' => e = .returned (.bool true) ∧ Below w.heap.size w w') := by
  have HS := Lib.hid hs
  have HAw := Lib.hid (fun W => awake_any W)
  have hn63 : n < 9223372036854775807 := by
    have h : n * 8 ≤ 140737488355328 := hs.big
    omega
  have HI := Lib.hid (Mt.mf_inv (l := l) hs.fit.fs (by rw [hs.len]; exact hn63))
  have hlen := Lib.hid hs.len
  unfold IsB at *
  clear hs
  have HK := Lib.hid (Kn.start w)
  go_enter Try.func6, Try.ntmps6
  go_wp2_with (first | (refine wpList_akm HK rfl rfl ?_; intro _ g3 HK'; simp only [List.cons_append, List.nil_append] at HK'; replace HK := HK'; clear HK'))
  go_loopw [4, 5] (fun v4 v5 wr => ∃ (k : Nat) (xn : Int) (xs xl xm : Nat), k ≤ n ∧ v4 = .int .u64 (xs : Int) ∧ v5 = .int .i64 k ∧ k ≤ 200 ∧ Hid (Mt.mf (l.take k) = ⟨xn, xs, xl, xm⟩) ∧ Hid (Kn w.heap.size w wr [(g3, 24, mC xn xs xl xm)] [])) (fun _ v5 _ => n - (intOf v5).toNat)
  case atStart => exact ⟨0, 0, 0, 0, 0, Nat.zero_le _, rfl, rfl, by decide, Lib.hid rfl, HK⟩
  case round =>
    clear HK
    obtain ⟨k, xn, xs, xl, xm, hkn, rfl, rfl, hk200, HM, HK⟩ := hrel
    have hk1 : (0 : Int) ≤ (k : Int) := by omega
    have hk3 : k < 9223372036854775807 := by omega
    by_cases hgo : k < n ∧ k < 200
    case neg =>
      as_aux_lemma =>
        have hout : k = n ∨ (k < n ∧ 200 ≤ k) := by omega
        clear hgo HS HI HM hlen
        rcases hout with rfl | ⟨hlt, h100⟩
        · go_wp2_with fail
          refine (HAw.out _).mono ?_; rintro e w1 ⟨rfl, b1⟩
          replace HK := Lib.hid (HK.out.call b1); clear b1
          have k1 := HK.out.cell 0 rfl 1 (v := .int .u64 (xs : Int)) rfl
          go_wp2_with fail
          go_ret
          exact ⟨rfl, HK.out.b⟩
        · have hk2 : (k : Int) < (n : Int) := by omega
          have hk62 : ¬ (k : Int) < 200 := by omega
          go_wp2_with fail
          refine (HAw.out _).mono ?_; rintro e w1 ⟨rfl, b1⟩
          replace HK := Lib.hid (HK.out.call b1); clear b1
          have k1 := HK.out.cell 0 rfl 1 (v := .int .u64 (xs : Int)) rfl
          go_wp2_with fail
          go_ret
          exact ⟨rfl, HK.out.b⟩
    case pos =>
    obtain ⟨hlt, hlt200⟩ := hgo
    have hk2 : (k : Int) < (n : Int) := by omega
    have hk62 : (k : Int) < 200 := by omega
    obtain ⟨x, hx, hx64⟩ := HS.out.get hlt
    obtain ⟨b, o, rfl, hat⟩ := HS.out.uat (Nat.lt_of_le_of_lt (Nat.zero_le _) hlt)
    have HX : Hid (∀ W, Below w.heap.size w W → W.cell? ⟨b, o + k, none⟩ = some (.int .u64 (x : Int))) := Lib.hid (fun W hW => hat W hW k x hx)
    have hinv := HI.out k (by rw [hlen.out]; exact hkn)
    have hle : (l.take k).length = k := by rw [List.length_take, hlen.out]; omega
    have HA := Lib.hid (fun W => madd_any ⟨xn, xs, xl, xm⟩ (by rw [← HM.out]; exact hinv.fit) x hx64 W)
    have hst := Mt.mf_take hx
    have hsum := hinv.sum (by rw [hle]; exact hk3) x
    rw [← hst, hle, HM.out] at hsum
    rw [HM.out] at hst
    rw [← hst] at HA
    rcases hy : Mt.mf (l.take (k + 1)) with ⟨yn, ys, yl, ym⟩
    rw [hy] at HA hsum
    replace hsum : ys = if k = 0 then Num.M x else Num.S xs x := hsum
    have HSum := Lib.hid hsum
    have HY := Lib.hid hy
    generalize Mt.adE _ = ye at *
    have HM1 := Lib.hid (fun W => make_any x W hx64)
    have HM2 := Lib.hid (fun W => add_below xs x W (by have h2 := hinv.fit.2.1; rw [HM.out] at h2; exact h2) hx64)
    unfold IsMe at HA
    clear hat hx hx64 HAw HS HI hinv hle hst HM hsum hy
    go_wp2_with fail
    have HK0 := Lib.hid HK.out.drew
    clear HK
    refine wp_region_held_drew (S := (fun W => Hid (Kn w.heap.size w W [] []))) (by kernel_rfl) ?_ (fun hHeld => ?_)
    · (try dsimp only); exact Lib.hid (HK0.out.takeL 0)
    refine wpAnyH_take (i := 1) (oi := ⟨some 18, _, _, _, _, _⟩) (v := ?_) rfl (by kernel_rfl) (by kernel_rfl) (by kernel_rfl) (fun _ _ _ h => h) (Or.inl ⟨by rfl, ?_⟩) (by assumption) ?_
    rotate_left
    · (intro w hSw; (try dsimp only at hSw); go_simp; try with_reducible rfl)
    try simp only [Act.put, List.setIfInBounds_toArray, List.set_cons_zero, List.set_cons_succ]
    refine wpAnyH_take (i := 2) (oi := ⟨some 19, _, _, _, _, _⟩) (v := ?_) rfl (by kernel_rfl) (by kernel_rfl) (by kernel_rfl) (fun _ _ _ h => h) (Or.inl ⟨by rfl, ?_⟩) (by assumption) ?_
    rotate_left
    · (intro w hSw; (try dsimp only at hSw); go_simp; try with_reducible rfl)
    try simp only [Act.put, List.setIfInBounds_toArray, List.set_cons_zero, List.set_cons_succ]
    refine wpAnyH_take (i := 3) (oi := ⟨some 20, _, _, _, _, _⟩) (v := ?_) rfl (by kernel_rfl) (by kernel_rfl) (by kernel_rfl) (fun _ _ _ h => h) (Or.inl ⟨by rfl, ?_⟩) (by assumption) ?_
    rotate_left
    · (intro w hSw; refine Eq.trans (exec_ixu (i := k) _ _ (by rfl) (by rfl) (by rfl) hlt) ?_; with_reducible rfl)
    try simp only [Act.put, List.setIfInBounds_toArray, List.set_cons_zero, List.set_cons_succ]
    refine wpAnyH_take (i := 4) (oi := ⟨some 21, _, _, _, _, _⟩) (v := ?_) rfl (by kernel_rfl) (by kernel_rfl) (by kernel_rfl) (fun _ _ _ h => h) (Or.inl ⟨by rfl, ?_⟩) (by assumption) ?_
    rotate_left
    · (intro w hSw; refine Eq.trans (exec_lu (x := x) _ (by rfl) (by rfl) (HX.out _ hSw.out.b)) ?_; with_reducible rfl)
    try simp only [Act.put, List.setIfInBounds_toArray, List.set_cons_zero, List.set_cons_succ]
    refine wpAnyH_ready (rs := [0]) (by kernel_rfl) (by simp) ?_
    refine AllReadyH.cons (o := ⟨some 17, _, _, _, _, _⟩) rfl (fun K hK => ?_) AllReadyH.nil
    refine step_of_exec (by rfl) (kexec_lm HK0 0 _ (by rfl) (by rfl) (by rfl)) ?_; have hs := hHeld
    refine hK.out _ _ hs (fun hHeld => ?_)
    clear hK K
    try simp only [Act.put, List.setIfInBounds_toArray, List.set_cons_zero, List.set_cons_succ]
    refine wpAnyH_ready (rs := [5]) (by kernel_rfl) (by simp) ?_
    refine AllReadyH.cons (o := ⟨some 22, _, _, _, _, _⟩) rfl (fun K hK => ?_) AllReadyH.nil
    go_simp
    go_at_call 7
    refine (HA.out _).mono ?_; rintro e w5 ⟨rfl, b5⟩; have hs := Lib.hid (hHeld.out.call b5); replace HK0 := Lib.hid (HK0.out.call b5); clear b5
    refine hK.out _ _ hs (fun hHeld => ?_)
    clear hK K
    try simp only [Act.put, List.setIfInBounds_toArray, List.set_cons_zero, List.set_cons_succ]
    refine wpAnyH_take (i := 6) (oi := ⟨some 16, _, _, _, _, _⟩) (v := ?_) rfl (by kernel_rfl) (by kernel_rfl) (by kernel_rfl) (fun _ _ _ h => h) (Or.inl ⟨by rfl, ?_⟩) (by assumption) ?_
    rotate_left
    · (intro w hSw; (try dsimp only at hSw); go_simp; try with_reducible rfl)
    try simp only [Act.put, List.setIfInBounds_toArray, List.set_cons_zero, List.set_cons_succ]
    refine wpAnyH_take (i := 7) (oi := ⟨some 23, _, _, _, _, _⟩) (v := ?_) rfl (by kernel_rfl) (by kernel_rfl) (by kernel_rfl) (fun _ _ _ h => h) (Or.inl ⟨by rfl, ?_⟩) (by assumption) ?_
    rotate_left
    · (intro w hSw; (try dsimp only at hSw); go_simp; try with_reducible rfl)
    try simp only [Act.put, List.setIfInBounds_toArray, List.set_cons_zero, List.set_cons_succ]
    refine wpAnyH_take (i := 8) (oi := ⟨some 24, _, _, _, _, _⟩) (v := ?_) rfl (by kernel_rfl) (by kernel_rfl) (by kernel_rfl) (fun _ _ _ h => h) (Or.inl ⟨by rfl, ?_⟩) (by assumption) ?_
    rotate_left
    · (intro w hSw; (try dsimp only at hSw); go_simp; try with_reducible rfl)
    try simp only [Act.put, List.setIfInBounds_toArray, List.set_cons_zero, List.set_cons_succ]
    refine wpAnyH_ready (rs := [9]) (by kernel_rfl) (by simp) ?_
    refine AllReadyH.cons (o := ⟨none, _, _, _, _, _⟩) rfl (fun K hK => ?_) AllReadyH.nil
    refine step_sm HK0 0 (by rfl) _ _ (by rfl) (by rfl) (by rfl) (by rfl) ?_; intro w6 HK'; simp only [List.set] at HK'; replace HK0 := HK'; clear HK'; have hs := Lib.hid (HK0.out.takeL 0)
    refine hK.out _ _ hs (fun hHeld => ?_)
    clear hK K
    try simp only [Act.put, List.setIfInBounds_toArray, List.set_cons_zero, List.set_cons_succ]
    refine wpAnyH_done (by kernel_rfl) ?_ _
    have HK := HK0
    clear HK0 hHeld HA
    by_cases hk0 : k = 0
    · have hs1 := HSum.out
      rw [if_pos hk0] at hs1
      have hz : ((k : Int) == 0) = true := by rw [beq_iff_eq]; omega
      rw [← hs1] at HM1
      clear HSum HM2 hs1 hk0
      have kx := HX.out _ HK.out.b
      go_wp2_with fail
      refine (HM1.out _).mono ?_; rintro e w1 ⟨rfl, rfl⟩
      go_wp2_with (first | refine wpList_exe (exec_add1 (j := k) _ (by rfl) (by rfl) hk3) (by rfl) ?_)
      exact ⟨⟨k + 1, yn, ys, yl, ym, hlt, rfl, rfl, by omega, HY, HK⟩, by simp [intOf]; omega⟩
    · have hs1 := HSum.out
      rw [if_neg hk0] at hs1
      have hz : ((k : Int) == 0) = false := by rw [beq_eq_false_iff_ne]; omega
      rw [← hs1] at HM2
      clear HSum HM1 hs1 hk0
      have kx := HX.out _ HK.out.b
      go_wp2_with fail
      refine (HM2.out _).mono ?_; rintro e w1 ⟨rfl, b1⟩
      replace HK := Lib.hid (HK.out.call b1); clear b1
      clear kx
      go_wp2_with (first | refine wpList_exe (exec_add1 (j := k) _ (by rfl) (by rfl) hk3) (by rfl) ?_)
      exact ⟨⟨k + 1, yn, ys, yl, ym, hlt, rfl, rfl, by omega, HY, HK⟩, by simp [intOf]; omega⟩
end Go.Proofs.Ytbaaoenmnmpfjaa
