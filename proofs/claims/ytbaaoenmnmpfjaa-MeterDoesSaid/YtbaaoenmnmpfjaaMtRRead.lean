/-
  What the document's own Read returns.
  No condition but that the numbers fit 64 bits.
-/
import Derived.Test.YtbaaoenmnmpfjaaMtRRight
set_option linter.unusedSimpArgs false
set_option linter.unusedVariables false
namespace Go.Proofs.Ytbaaoenmnmpfjaa
open Go.RowKit
set_option maxRecDepth 100000 in
set_option maxHeartbeats 3200000 in
theorem rread_any (x : Mtr) (hf : Mt.Fit x) (q : Int) (w : World) :
    Calls Try.prog 10 #[.agg #[.int .i64 x.n, .int .u64 (x.s : Int), .int .u64 (x.l : Int), .int .u64 (x.m : Int)], .int .i64 q] w (IsVe (Mt.rd x q) w) := by
  obtain ⟨n, s, l, m⟩ := x
  have HM := Lib.hid (fun W => rright_any ⟨n, s, l, m⟩ hf W)
  have HK := kn2 w 24 (mC n s l m) 29 (vC 0 0 0 ⟨#[]⟩)
  clear hf
  unfold IsB IsVe at *
  by_cases hok : Mt.Ok ⟨n, s, l, m⟩
  case neg =>
    rw [Mt.rd_bad (.inl hok)]
    rw [decide_eq_false hok] at HM
    clear hok
    go_enter Try.func10, Try.ntmps10
    go_wp2_with (first | refine wpList_exe (kexec_lm HK 0 _ (by rfl) (by rfl) (by rfl)) (by rfl) ?_)
    refine (HM.out _).mono ?_; rintro e w1 ⟨rfl, b1⟩
    replace HK := Lib.hid (HK.out.call b1); clear b1
    go_wp2_with (first | refine wpList_exe (kexec_mn HK 0 _ (by rfl) (by rfl) (by rfl)) (by rfl) ?_ | refine wpList_exe (kexec_lm HK 0 _ (by rfl) (by rfl) (by rfl)) (by rfl) ?_ | (refine wpList_sv (f2 := 0) HK 1 rfl _ _ rfl rfl rfl rfl ?_; intro _ HK'; simp only [List.set] at HK'; replace HK := HK'; clear HK'))
    exact ret_va Try.results10 rfl rfl rfl (HK.out.blk 1 rfl) ⟨rfl, HK.out.b⟩
  case pos =>
  rw [decide_eq_true hok] at HM
  by_cases hlo : q < 0
  · rw [Mt.rd_bad (.inr (.inl hlo))]
    clear hok
    go_enter Try.func10, Try.ntmps10
    go_wp2_with (first | refine wpList_exe (kexec_lm HK 0 _ (by rfl) (by rfl) (by rfl)) (by rfl) ?_)
    refine (HM.out _).mono ?_; rintro e w1 ⟨rfl, b1⟩
    replace HK := Lib.hid (HK.out.call b1); clear b1
    go_wp2_with (first | refine wpList_exe (kexec_mn HK 0 _ (by rfl) (by rfl) (by rfl)) (by rfl) ?_ | refine wpList_exe (kexec_lm HK 0 _ (by rfl) (by rfl) (by rfl)) (by rfl) ?_ | (refine wpList_sv (f2 := 0) HK 1 rfl _ _ rfl rfl rfl rfl ?_; intro _ HK'; simp only [List.set] at HK'; replace HK := HK'; clear HK'))
    exact ret_va Try.results10 rfl rfl rfl (HK.out.blk 1 rfl) ⟨rfl, HK.out.b⟩
  by_cases hhi : 3 < q
  · rw [Mt.rd_bad (.inr (.inr hhi))]
    have hhi2 : 4 ≤ q := by omega
    clear hok
    go_enter Try.func10, Try.ntmps10
    go_wp2_with (first | refine wpList_exe (kexec_lm HK 0 _ (by rfl) (by rfl) (by rfl)) (by rfl) ?_)
    refine (HM.out _).mono ?_; rintro e w1 ⟨rfl, b1⟩
    replace HK := Lib.hid (HK.out.call b1); clear b1
    go_wp2_with (first | refine wpList_exe (kexec_mn HK 0 _ (by rfl) (by rfl) (by rfl)) (by rfl) ?_ | refine wpList_exe (kexec_lm HK 0 _ (by rfl) (by rfl) (by rfl)) (by rfl) ?_ | (refine wpList_sv (f2 := 0) HK 1 rfl _ _ rfl rfl rfl rfl ?_; intro _ HK'; simp only [List.set] at HK'; replace HK := HK'; clear HK'))
    exact ret_va Try.results10 rfl rfl rfl (HK.out.blk 1 rfl) ⟨rfl, HK.out.b⟩
  by_cases hq0 : q = 0
  · subst hq0
    rw [Mt.rd_0 hok]
    clear hok hlo hhi
    dsimp only
    by_cases h0 : (n == 0) = true
    · go_enter Try.func10, Try.ntmps10
      go_wp2_with (first | refine wpList_exe (kexec_lm HK 0 _ (by rfl) (by rfl) (by rfl)) (by rfl) ?_)
      refine (HM.out _).mono ?_; rintro e w1 ⟨rfl, b1⟩
      replace HK := Lib.hid (HK.out.call b1); clear b1
      go_wp2_with (first | refine wpList_exe (kexec_mn HK 0 _ (by rfl) (by rfl) (by rfl)) (by rfl) ?_ | refine wpList_exe (kexec_lm HK 0 _ (by rfl) (by rfl) (by rfl)) (by rfl) ?_ | (refine wpList_sv (f2 := 0) HK 1 rfl _ _ rfl rfl rfl rfl ?_; intro _ HK'; simp only [List.set] at HK'; replace HK := HK'; clear HK') | refine wpList_exe (kexec_ms HK 0 _ (by rfl) (by rfl) (by rfl)) (by rfl) ?_ | refine wpList_exe (kexec_ml HK 0 _ (by rfl) (by rfl) (by rfl)) (by rfl) ?_ | refine wpList_exe (kexec_mm HK 0 _ (by rfl) (by rfl) (by rfl)) (by rfl) ?_)
      exact ret_va Try.results10 rfl rfl rfl (HK.out.blk 1 rfl) ⟨rfl, HK.out.b⟩

    · have h0 : (n == 0) = false := Bool.eq_false_iff.2 h0
      go_enter Try.func10, Try.ntmps10
      go_wp2_with (first | refine wpList_exe (kexec_lm HK 0 _ (by rfl) (by rfl) (by rfl)) (by rfl) ?_)
      refine (HM.out _).mono ?_; rintro e w1 ⟨rfl, b1⟩
      replace HK := Lib.hid (HK.out.call b1); clear b1
      go_wp2_with (first | refine wpList_exe (kexec_mn HK 0 _ (by rfl) (by rfl) (by rfl)) (by rfl) ?_ | refine wpList_exe (kexec_lm HK 0 _ (by rfl) (by rfl) (by rfl)) (by rfl) ?_ | (refine wpList_sv (f2 := 0) HK 1 rfl _ _ rfl rfl rfl rfl ?_; intro _ HK'; simp only [List.set] at HK'; replace HK := HK'; clear HK') | refine wpList_exe (kexec_ms HK 0 _ (by rfl) (by rfl) (by rfl)) (by rfl) ?_ | refine wpList_exe (kexec_ml HK 0 _ (by rfl) (by rfl) (by rfl)) (by rfl) ?_ | refine wpList_exe (kexec_mm HK 0 _ (by rfl) (by rfl) (by rfl)) (by rfl) ?_)
      exact ret_va Try.results10 rfl rfl rfl (HK.out.blk 1 rfl) ⟨rfl, HK.out.b⟩
  have hq1 : (q == 0) = false := by rw [beq_eq_false_iff_ne]; exact hq0
  have hq2 : ¬ 4 ≤ q := by omega
  by_cases hn : n = 0
  · rw [Mt.rd_no hok (by omega) (by omega) hq0 hn]
    subst hn
    clear hok hq0
    go_enter Try.func10, Try.ntmps10
    go_wp2_with (first | refine wpList_exe (kexec_lm HK 0 _ (by rfl) (by rfl) (by rfl)) (by rfl) ?_)
    refine (HM.out _).mono ?_; rintro e w1 ⟨rfl, b1⟩
    replace HK := Lib.hid (HK.out.call b1); clear b1
    go_wp2_with (first | refine wpList_exe (kexec_mn HK 0 _ (by rfl) (by rfl) (by rfl)) (by rfl) ?_ | refine wpList_exe (kexec_lm HK 0 _ (by rfl) (by rfl) (by rfl)) (by rfl) ?_ | (refine wpList_sv (f2 := 0) HK 1 rfl _ _ rfl rfl rfl rfl ?_; intro _ HK'; simp only [List.set] at HK'; replace HK := HK'; clear HK'))
    exact ret_va Try.results10 rfl rfl rfl (HK.out.blk 1 rfl) ⟨rfl, HK.out.b⟩
  have h0 : (n == 0) = false := by rw [beq_eq_false_iff_ne]; exact hn
  have hcase : q = 1 ∨ q = 2 ∨ q = 3 := by omega
  clear hlo hhi hq0 hq1 hq2
  rcases hcase with rfl | rfl | rfl
  · rw [Mt.rd_1 hok hn]
    have hix := ix_th0 s l m
    clear hok hn
    dsimp only
    go_enter Try.func10, Try.ntmps10
    go_wp2_with (first | refine wpList_exe (kexec_lm HK 0 _ (by rfl) (by rfl) (by rfl)) (by rfl) ?_)
    refine (HM.out _).mono ?_; rintro e w1 ⟨rfl, b1⟩
    replace HK := Lib.hid (HK.out.call b1); clear b1
    go_wp2_with (first | refine wpList_exe (kexec_mn HK 0 _ (by rfl) (by rfl) (by rfl)) (by rfl) ?_ | refine wpList_exe (kexec_lm HK 0 _ (by rfl) (by rfl) (by rfl)) (by rfl) ?_ | (refine wpList_sv (f2 := s) HK 1 rfl _ _ rfl rfl rfl rfl ?_; intro _ HK'; simp only [List.set] at HK'; replace HK := HK'; clear HK') | refine wpList_exe (kexec_ms HK 0 _ (by rfl) (by rfl) (by rfl)) (by rfl) ?_ | refine wpList_exe (kexec_ml HK 0 _ (by rfl) (by rfl) (by rfl)) (by rfl) ?_ | refine wpList_exe (kexec_mm HK 0 _ (by rfl) (by rfl) (by rfl)) (by rfl) ?_)
    exact ret_va Try.results10 rfl rfl rfl (HK.out.blk 1 rfl) ⟨rfl, HK.out.b⟩
  · rw [Mt.rd_2 hok hn]
    have hix := ix_th1 s l m
    clear hok hn
    dsimp only
    go_enter Try.func10, Try.ntmps10
    go_wp2_with (first | refine wpList_exe (kexec_lm HK 0 _ (by rfl) (by rfl) (by rfl)) (by rfl) ?_)
    refine (HM.out _).mono ?_; rintro e w1 ⟨rfl, b1⟩
    replace HK := Lib.hid (HK.out.call b1); clear b1
    go_wp2_with (first | refine wpList_exe (kexec_mn HK 0 _ (by rfl) (by rfl) (by rfl)) (by rfl) ?_ | refine wpList_exe (kexec_lm HK 0 _ (by rfl) (by rfl) (by rfl)) (by rfl) ?_ | (refine wpList_sv (f2 := l) HK 1 rfl _ _ rfl rfl rfl rfl ?_; intro _ HK'; simp only [List.set] at HK'; replace HK := HK'; clear HK') | refine wpList_exe (kexec_ms HK 0 _ (by rfl) (by rfl) (by rfl)) (by rfl) ?_ | refine wpList_exe (kexec_ml HK 0 _ (by rfl) (by rfl) (by rfl)) (by rfl) ?_ | refine wpList_exe (kexec_mm HK 0 _ (by rfl) (by rfl) (by rfl)) (by rfl) ?_)
    exact ret_va Try.results10 rfl rfl rfl (HK.out.blk 1 rfl) ⟨rfl, HK.out.b⟩
  · rw [Mt.rd_3 hok hn]
    have hix := ix_th2 s l m
    clear hok hn
    dsimp only
    go_enter Try.func10, Try.ntmps10
    go_wp2_with (first | refine wpList_exe (kexec_lm HK 0 _ (by rfl) (by rfl) (by rfl)) (by rfl) ?_)
    refine (HM.out _).mono ?_; rintro e w1 ⟨rfl, b1⟩
    replace HK := Lib.hid (HK.out.call b1); clear b1
    go_wp2_with (first | refine wpList_exe (kexec_mn HK 0 _ (by rfl) (by rfl) (by rfl)) (by rfl) ?_ | refine wpList_exe (kexec_lm HK 0 _ (by rfl) (by rfl) (by rfl)) (by rfl) ?_ | (refine wpList_sv (f2 := m) HK 1 rfl _ _ rfl rfl rfl rfl ?_; intro _ HK'; simp only [List.set] at HK'; replace HK := HK'; clear HK') | refine wpList_exe (kexec_ms HK 0 _ (by rfl) (by rfl) (by rfl)) (by rfl) ?_ | refine wpList_exe (kexec_ml HK 0 _ (by rfl) (by rfl) (by rfl)) (by rfl) ?_ | refine wpList_exe (kexec_mm HK 0 _ (by rfl) (by rfl) (by rfl)) (by rfl) ?_)
    exact ret_va Try.results10 rfl rfl rfl (HK.out.blk 1 rfl) ⟨rfl, HK.out.b⟩
end Go.Proofs.Ytbaaoenmnmpfjaa
