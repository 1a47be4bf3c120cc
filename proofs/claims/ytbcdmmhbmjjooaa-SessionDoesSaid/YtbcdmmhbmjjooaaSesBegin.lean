/-
  What session.Begin and the document's return.
  No condition but that floats and numbers fit 64 bits.
-/
import Derived.Test.YtbcdmmhbmjjooaaSesLook
import Derived.Test.YtbcdmmhbmjjooaaSesRLook
import Derived.Test.YtbcdmmhbmjjooaaSesM3
set_option linter.unusedSimpArgs false
set_option linter.unusedVariables false
set_option maxRecDepth 100000
namespace Go.Proofs.Ytbcdmmhbmjjooaa
open Go.RowKit

set_option maxHeartbeats 6400000 in
theorem sbeg_any (t : Ses.T) (r : Rf) (w : World) (hf : Ses.Fit t) (hr : r.r ≤ 9223372036854775807) : Calls Try.prog 15 #[.agg (tbA t), .agg #[.int .i64 r.c, .int .i64 r.e, .int .i64 r.r]] w (IsT (Ses.begT t r) w) := by
  have HL := Lib.hid (fun W => slook_any t r W hf hr)
  have HK := kn2 w 30 (tbA t) 32 #[.int .i64 r.c, .int .i64 r.e, .int .i64 r.r]
  have HY := Lib.hid (fun h1 h2 => Ses.beg_yes (t := t) (r := r) h1 h2)
  have HN1 := Lib.hid (fun h => Ses.beg_no1 (t := t) (r := r) h)
  have HN2 := Lib.hid (fun h => Ses.beg_no2 (t := t) (r := r) h)
  have HC := Lib.hid (fun h => Ses.look_c (t := t) (r := r) (k := 1) h (by decide))
  unfold IsT
  unfold IsN at HL
  clear hf hr
  generalize Ses.look t r = x at *
  generalize Ses.begT t r = y at *
  generalize h1 : decide (x = 1) = b1 at *
  have H1 := Lib.hid h1
  generalize h2 : decide (r.r = 0) = b2 at *
  have H2 := Lib.hid h2
  clear h1 h2
  cases b1
  case false =>
    have HX := Lib.hid (HN1.out (by simp))
    go_enter Try.func15, Try.ntmps15
    go_wp2_with (first | refine wpList_exe (ktb HK 0 _ (by rfl) (by rfl) (by rfl)) (by rfl) ?_ | refine wpList_exe (kexec_lr HK 1 _ (by rfl) (by rfl) (by rfl)) (by rfl) ?_ | (refine wpList_atb HK rfl rfl ?_; intro _ g1 HK'; simp only [List.cons_append, List.nil_append] at HK'; replace HK := HK'; clear HK'))
    refine (HL.out _).mono ?_; rintro e w1 ⟨rfl, b1⟩
    replace HK := Lib.hid (HK.out.call b1); clear b1
    go_wp2_with (first | refine wpList_exe (exec_iE (m := x) (n := 1) _ _ (by rfl) (by rfl) (by rfl) H1.out) (by rfl) ?_ | refine wpList_exe (ktb HK 0 _ (by rfl) (by rfl) (by rfl)) (by rfl) ?_ | (refine wpList_stb (t2 := t) HK 2 rfl _ _ rfl rfl rfl rfl ?_; intro _ HK'; simp only [List.set] at HK'; replace HK := HK'; clear HK'))
    rw [← HX.out] at HK
    exact ret_tb Try.results15 rfl rfl (HK.out.blk 2 rfl) ⟨rfl, HK.out.b⟩
  cases b2
  case true =>
    have HX := Lib.hid (HN2.out (by simp))
    go_enter Try.func15, Try.ntmps15
    go_wp2_with (first | refine wpList_exe (ktb HK 0 _ (by rfl) (by rfl) (by rfl)) (by rfl) ?_ | refine wpList_exe (kexec_lr HK 1 _ (by rfl) (by rfl) (by rfl)) (by rfl) ?_ | (refine wpList_atb HK rfl rfl ?_; intro _ g1 HK'; simp only [List.cons_append, List.nil_append] at HK'; replace HK := HK'; clear HK'))
    refine (HL.out _).mono ?_; rintro e w1 ⟨rfl, b1⟩
    replace HK := Lib.hid (HK.out.call b1); clear b1
    go_wp2_with (first | refine wpList_exe (exec_iE (m := x) (n := 1) _ _ (by rfl) (by rfl) (by rfl) H1.out) (by rfl) ?_ | refine wpList_exe (exec_iN (m := r.r) (n := 0) _ _ (by rfl) (by rfl) (by rfl) (by rw [H2.out])) (by rfl) ?_ | refine wpList_exe (krf_r (x := r) HK 1 _ (by rfl) (by rfl) (by rfl)) (by rfl) ?_ | refine wpList_exe (ktb HK 0 _ (by rfl) (by rfl) (by rfl)) (by rfl) ?_ | (refine wpList_stb (t2 := t) HK 2 rfl _ _ rfl rfl rfl rfl ?_; intro _ HK'; simp only [List.set] at HK'; replace HK := HK'; clear HK'))
    rw [← HX.out] at HK
    exact ret_tb Try.results15 rfl rfl (HK.out.blk 2 rfl) ⟨rfl, HK.out.b⟩
  have hc := HC.out (of_decide_eq_true H1.out)
  have HX := Lib.hid (HY.out (by simp) (by simp))
  go_enter Try.func15, Try.ntmps15
  go_wp2_with (first | refine wpList_exe (ktb HK 0 _ (by rfl) (by rfl) (by rfl)) (by rfl) ?_ | refine wpList_exe (kexec_lr HK 1 _ (by rfl) (by rfl) (by rfl)) (by rfl) ?_ | (refine wpList_atb HK rfl rfl ?_; intro _ g1 HK'; simp only [List.cons_append, List.nil_append] at HK'; replace HK := HK'; clear HK'))
  refine (HL.out _).mono ?_; rintro e w1 ⟨rfl, b1⟩
  replace HK := Lib.hid (HK.out.call b1); clear b1
  go_wp2_with (first | refine wpList_exe (exec_iE (m := x) (n := 1) _ _ (by rfl) (by rfl) (by rfl) H1.out) (by rfl) ?_ | refine wpList_exe (exec_iN (m := r.r) (n := 0) _ _ (by rfl) (by rfl) (by rfl) (by rw [H2.out])) (by rfl) ?_ | refine wpList_exe (krf_c (x := r) HK 1 _ (by rfl) (by rfl) (by rfl)) (by rfl) ?_ | refine wpList_exe (krf_r (x := r) HK 1 _ (by rfl) (by rfl) (by rfl)) (by rfl) ?_ | refine wpList_exe (exec_ixt hc _ _ (by rfl) (by rfl) (by rfl)) (by rfl) ?_ | (refine wpList_tsr (n := r.r) HK 0 rfl hc _ _ rfl rfl rfl rfl ?_; intro _ HK'; simp only [List.set] at HK'; replace HK := HK'; clear HK') | (refine wpList_tsd (d := false) HK 0 rfl hc _ _ rfl rfl rfl rfl ?_; intro _ HK'; simp only [List.set] at HK'; replace HK := HK'; clear HK') | (refine wpList_tsp (p := Sto.rz) HK 0 rfl hc _ _ rfl rfl rfl rfl ?_; intro _ HK'; simp only [List.set] at HK'; replace HK := HK'; clear HK') | refine wpList_exe (exec_rz (by rfl)) (by rfl) ?_ | refine wpList_exe (ktb HK 0 _ (by rfl) (by rfl) (by rfl)) (by rfl) ?_ | (refine wpList_stb  HK 2 rfl _ _ rfl rfl rfl rfl ?_; intro _ HK'; simp only [List.set] at HK'; replace HK := HK'; clear HK'))
  (try simp only [Ses.get_set hc, Ses.set_set hc] at HK)
  (try dsimp only at HK)
  rw [← HX.out] at HK
  exact ret_tb Try.results15 rfl rfl (HK.out.blk 2 rfl) ⟨rfl, HK.out.b⟩
set_option maxHeartbeats 6400000 in
theorem rbeg_any (t : Ses.T) (r : Rf) (w : World) (hf : Ses.Fit t) (hr : r.r ≤ 9223372036854775807) : Calls Try.prog 16 #[.agg (tbA t), .agg #[.int .i64 r.c, .int .i64 r.e, .int .i64 r.r]] w (IsT (Ses.begT t r) w) := by
  have HL := Lib.hid (fun W => rlook_any t r W hf hr)
  have HK := kn2 w 30 (tbA t) 32 #[.int .i64 r.c, .int .i64 r.e, .int .i64 r.r]
  have HY := Lib.hid (fun h1 h2 => Ses.beg_yes (t := t) (r := r) h1 h2)
  have HN1 := Lib.hid (fun h => Ses.beg_no1 (t := t) (r := r) h)
  have HN2 := Lib.hid (fun h => Ses.beg_no2 (t := t) (r := r) h)
  have HC := Lib.hid (fun h => Ses.look_c (t := t) (r := r) (k := 1) h (by decide))
  unfold IsT
  unfold IsN at HL
  clear hf hr
  generalize Ses.look t r = x at *
  generalize Ses.begT t r = y at *
  generalize h1 : decide (x = 1) = b1 at *
  have H1 := Lib.hid h1
  generalize h2 : decide (r.r = 0) = b2 at *
  have H2 := Lib.hid h2
  clear h1 h2
  cases b1
  case false =>
    have HX := Lib.hid (HN1.out (by simp))
    go_enter Try.func16, Try.ntmps16
    go_wp2_with (first | refine wpList_exe (ktb HK 0 _ (by rfl) (by rfl) (by rfl)) (by rfl) ?_ | refine wpList_exe (kexec_lr HK 1 _ (by rfl) (by rfl) (by rfl)) (by rfl) ?_ | (refine wpList_atb HK rfl rfl ?_; intro _ g1 HK'; simp only [List.cons_append, List.nil_append] at HK'; replace HK := HK'; clear HK'))
    refine (HL.out _).mono ?_; rintro e w1 ⟨rfl, b1⟩
    replace HK := Lib.hid (HK.out.call b1); clear b1
    go_wp2_with (first | refine wpList_exe (exec_iN (m := x) (n := 1) _ _ (by rfl) (by rfl) (by rfl) (by rw [H1.out])) (by rfl) ?_ | refine wpList_exe (ktb HK 0 _ (by rfl) (by rfl) (by rfl)) (by rfl) ?_ | (refine wpList_stb (t2 := t) HK 2 rfl _ _ rfl rfl rfl rfl ?_; intro _ HK'; simp only [List.set] at HK'; replace HK := HK'; clear HK'))
    rw [← HX.out] at HK
    exact ret_tb Try.results16 rfl rfl (HK.out.blk 2 rfl) ⟨rfl, HK.out.b⟩
  cases b2
  case true =>
    have HX := Lib.hid (HN2.out (by simp))
    go_enter Try.func16, Try.ntmps16
    go_wp2_with (first | refine wpList_exe (ktb HK 0 _ (by rfl) (by rfl) (by rfl)) (by rfl) ?_ | refine wpList_exe (kexec_lr HK 1 _ (by rfl) (by rfl) (by rfl)) (by rfl) ?_ | (refine wpList_atb HK rfl rfl ?_; intro _ g1 HK'; simp only [List.cons_append, List.nil_append] at HK'; replace HK := HK'; clear HK'))
    refine (HL.out _).mono ?_; rintro e w1 ⟨rfl, b1⟩
    replace HK := Lib.hid (HK.out.call b1); clear b1
    go_wp2_with (first | refine wpList_exe (exec_iN (m := x) (n := 1) _ _ (by rfl) (by rfl) (by rfl) (by rw [H1.out])) (by rfl) ?_ | refine wpList_exe (exec_iE (m := r.r) (n := 0) _ _ (by rfl) (by rfl) (by rfl) H2.out) (by rfl) ?_ | refine wpList_exe (krf_r (x := r) HK 1 _ (by rfl) (by rfl) (by rfl)) (by rfl) ?_ | refine wpList_exe (ktb HK 0 _ (by rfl) (by rfl) (by rfl)) (by rfl) ?_ | (refine wpList_stb (t2 := t) HK 2 rfl _ _ rfl rfl rfl rfl ?_; intro _ HK'; simp only [List.set] at HK'; replace HK := HK'; clear HK'))
    rw [← HX.out] at HK
    exact ret_tb Try.results16 rfl rfl (HK.out.blk 2 rfl) ⟨rfl, HK.out.b⟩
  have hc := HC.out (of_decide_eq_true H1.out)
  have HX := Lib.hid (HY.out (by simp) (by simp))
  go_enter Try.func16, Try.ntmps16
  go_wp2_with (first | refine wpList_exe (ktb HK 0 _ (by rfl) (by rfl) (by rfl)) (by rfl) ?_ | refine wpList_exe (kexec_lr HK 1 _ (by rfl) (by rfl) (by rfl)) (by rfl) ?_ | (refine wpList_atb HK rfl rfl ?_; intro _ g1 HK'; simp only [List.cons_append, List.nil_append] at HK'; replace HK := HK'; clear HK'))
  refine (HL.out _).mono ?_; rintro e w1 ⟨rfl, b1⟩
  replace HK := Lib.hid (HK.out.call b1); clear b1
  go_wp2_with (first | refine wpList_exe (exec_iN (m := x) (n := 1) _ _ (by rfl) (by rfl) (by rfl) (by rw [H1.out])) (by rfl) ?_ | refine wpList_exe (exec_iE (m := r.r) (n := 0) _ _ (by rfl) (by rfl) (by rfl) H2.out) (by rfl) ?_ | refine wpList_exe (krf_c (x := r) HK 1 _ (by rfl) (by rfl) (by rfl)) (by rfl) ?_ | refine wpList_exe (krf_r (x := r) HK 1 _ (by rfl) (by rfl) (by rfl)) (by rfl) ?_ | refine wpList_exe (exec_ixt hc _ _ (by rfl) (by rfl) (by rfl)) (by rfl) ?_ | refine wpList_exe (kts HK 0 hc _ (by rfl) (by rfl) (by rfl)) (by rfl) ?_ | (refine wpList_ase HK rfl rfl ?_; intro _ g2 HK'; simp only [List.cons_append, List.nil_append] at HK'; replace HK := HK'; clear HK') | (refine wpList_sse (s := Ses.z) (u := t.get r.c) HK 3 rfl _ _ rfl rfl rfl rfl ?_; intro _ HK'; simp only [List.set] at HK'; replace HK := HK'; clear HK') | (refine wpList_ssr (n := r.r) HK 3 rfl _ _ rfl rfl rfl rfl ?_; intro _ HK'; simp only [List.set] at HK'; replace HK := HK'; clear HK') | (refine wpList_ssd (d := false) HK 3 rfl _ _ rfl rfl rfl rfl ?_; intro _ HK'; simp only [List.set] at HK'; replace HK := HK'; clear HK') | (refine wpList_ssp (p := Sto.rz) HK 3 rfl _ _ rfl rfl rfl rfl ?_; intro _ HK'; simp only [List.set] at HK'; replace HK := HK'; clear HK') | refine wpList_exe (exec_rz (by rfl)) (by rfl) ?_ | refine wpList_exe (kse HK 3 _ (by rfl) (by rfl) (by rfl)) (by rfl) ?_ | (refine wpList_tss  HK 0 rfl hc _ _ rfl rfl rfl rfl ?_; intro _ HK'; simp only [List.set] at HK'; replace HK := HK'; clear HK') | refine wpList_exe (ktb HK 0 _ (by rfl) (by rfl) (by rfl)) (by rfl) ?_ | (refine wpList_stb  HK 2 rfl _ _ rfl rfl rfl rfl ?_; intro _ HK'; simp only [List.set] at HK'; replace HK := HK'; clear HK'))
  (try simp only [Ses.get_set hc, Ses.set_set hc] at HK)
  (try dsimp only at HK)
  rw [← HX.out] at HK
  exact ret_tb Try.results16 rfl rfl (HK.out.blk 2 rfl) ⟨rfl, HK.out.b⟩
end Go.Proofs.Ytbcdmmhbmjjooaa
