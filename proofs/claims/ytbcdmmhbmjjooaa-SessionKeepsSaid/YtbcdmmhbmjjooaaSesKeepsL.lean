/-
  The law over what may be behind all calls.
  No condition but that floats and numbers fit 64 bits.
-/
import Derived.Test.YtbcdmmhbmjjooaaSesAwake
import Derived.Test.YtbcdmmhbmjjooaaSesEnd
import Derived.Test.YtbcdmmhbmjjooaaSesClose
set_option linter.unusedSimpArgs false
set_option linter.unusedVariables false
set_option maxRecDepth 100000
namespace Go.Proofs.Ytbcdmmhbmjjooaa
open Go.RowKit

set_option maxHeartbeats 6400000 in
theorem keeps_any (t : Ses.T) (r : Rf) (x : Sto.Rp) (w : World) (hf : Ses.Fit t) (hx : x.v.f < 18446744073709551616) (hr : r.r ≤ 9223372036854775807) : Calls Try.prog 5 #[.agg (tbA t), .agg #[.int .i64 r.c, .int .i64 r.e, .int .i64 r.r], .agg (rpA x)] w (IsB true w) := by
  have HA := Lib.hid (fun W => sawake_any W)
  have H1 := Lib.hid (fun W => sright_any t W hf)
  have H2 := Lib.hid (fun W => slook_any t r W hf hr)
  have HO := Lib.hid (fun W => sopen_any t r W hf hr)
  have HB := Lib.hid (fun W => sbeg_any t r W hf hr)
  have HE := Lib.hid (fun W => send_any t r x W hf hx hr)
  have HC := Lib.hid (fun W => sclose_any t r.c W hf)
  have HNo := Lib.hid (fun h => Ses.look_no2 (t := t) (r := r) h)
  have HRo : Hid (decide (Ses.Right t) = true → ∀ W, Calls Try.prog 11 #[.agg (tbA (Ses.openT t r))] W (IsB true W)) := Lib.hid (fun h W => by replace h := of_decide_eq_true h; have g := sright_any (Ses.openT t r) W (Ses.fit_open hf r); rw [decide_eq_true (Ses.open_right h r)] at g; exact g)
  have HRb : Hid (decide (Ses.Right t) = true → ∀ W, Calls Try.prog 11 #[.agg (tbA (Ses.begT t r))] W (IsB true W)) := Lib.hid (fun h W => by replace h := of_decide_eq_true h; have g := sright_any (Ses.begT t r) W (Ses.fit_beg hf r); rw [decide_eq_true (Ses.beg_right h r)] at g; exact g)
  have HRe : Hid (decide (Ses.Right t) = true → ∀ W, Calls Try.prog 11 #[.agg (tbA (Ses.endT t r x))] W (IsB true W)) := Lib.hid (fun h W => by replace h := of_decide_eq_true h; have g := sright_any (Ses.endT t r x) W (Ses.fit_end hf r hx); rw [decide_eq_true (Ses.end_right h r x)] at g; exact g)
  have HRc : Hid (decide (Ses.Right t) = true → ∀ W, Calls Try.prog 11 #[.agg (tbA (Ses.closeT t r.c))] W (IsB true W)) := Lib.hid (fun h W => by replace h := of_decide_eq_true h; have g := sright_any (Ses.closeT t r.c) W (Ses.fit_close hf r.c); rw [decide_eq_true (Ses.close_right h r.c)] at g; exact g)
  have HK := kn3 w 30 (tbA t) 32 #[.int .i64 r.c, .int .i64 r.e, .int .i64 r.r] 27 (rpA x)
  unfold IsB at *
  unfold IsTP at HO
  unfold IsT at HB HE HC
  unfold IsN at H2
  clear hf hx hr
  generalize Ses.openT t r = yo at *
  generalize Ses.openP t r = po at *
  generalize Ses.begT t r = yb at *
  generalize Ses.endT t r x = ye at *
  generalize Ses.closeT t r.c = yc at *
  generalize Ses.look t r = q at *
  generalize decide (Ses.Right t) = y at *
  go_enter Try.func5, Try.ntmps5
  go_wp2_with (first | refine wpList_exe (ktb HK 0 _ (by rfl) (by rfl) (by rfl)) (by rfl) ?_)
  refine (H1.out _).mono ?_; rintro e w1 ⟨rfl, b1⟩
  replace HK := Lib.hid (HK.out.call b1); clear b1
  cases y
  case false =>
    have hq := HNo.out (by simp)
    subst hq
    go_wp2_with fail
    refine (HA.out _).mono ?_; rintro e w1 ⟨rfl, b1⟩
    replace HK := Lib.hid (HK.out.call b1); clear b1
    go_wp2_with (first | refine wpList_exe (ktb HK 0 _ (by rfl) (by rfl) (by rfl)) (by rfl) ?_ | refine wpList_exe (kexec_lr HK 1 _ (by rfl) (by rfl) (by rfl)) (by rfl) ?_)
    refine (H2.out _).mono ?_; rintro e w1 ⟨rfl, b1⟩
    replace HK := Lib.hid (HK.out.call b1); clear b1
    go_wp2_with fail
    go_ret
    exact ⟨rfl, HK.out.b⟩
  replace HRo := Lib.hid (HRo.out (by simp))
  replace HRb := Lib.hid (HRb.out (by simp))
  replace HRe := Lib.hid (HRe.out (by simp))
  replace HRc := Lib.hid (HRc.out (by simp))
  go_wp2_with (first | refine wpList_exe (ktb HK 0 _ (by rfl) (by rfl) (by rfl)) (by rfl) ?_ | refine wpList_exe (kexec_lr HK 1 _ (by rfl) (by rfl) (by rfl)) (by rfl) ?_)
  refine (HO.out _).mono ?_; rintro e w1 ⟨rfl, b1⟩
  replace HK := Lib.hid (HK.out.call b1); clear b1
  go_wp2_with (first | (refine wpList_atb HK rfl rfl ?_; intro _ g1 HK'; simp only [List.cons_append, List.nil_append] at HK'; replace HK := HK'; clear HK') | (refine wpList_arp HK rfl rfl ?_; intro _ g2 HK'; simp only [List.cons_append, List.nil_append] at HK'; replace HK := HK'; clear HK') | (refine wpList_stb (t2 := yo) HK 3 rfl _ _ rfl rfl rfl rfl ?_; intro _ HK'; simp only [List.set] at HK'; replace HK := HK'; clear HK') | (refine wpList_srp (q := po) HK 4 rfl _ _ rfl rfl rfl rfl ?_; intro _ HK'; simp only [List.set] at HK'; replace HK := HK'; clear HK'))
  refine (HA.out _).mono ?_; rintro e w1 ⟨rfl, b1⟩
  replace HK := Lib.hid (HK.out.call b1); clear b1
  go_wp2_with (first | refine wpList_exe (ktb HK 3 _ (by rfl) (by rfl) (by rfl)) (by rfl) ?_)
  refine (HRo.out _).mono ?_; rintro e w1 ⟨rfl, b1⟩
  replace HK := Lib.hid (HK.out.call b1); clear b1
  go_wp2_with (first | refine wpList_exe (ktb HK 0 _ (by rfl) (by rfl) (by rfl)) (by rfl) ?_ | refine wpList_exe (kexec_lr HK 1 _ (by rfl) (by rfl) (by rfl)) (by rfl) ?_)
  refine (HB.out _).mono ?_; rintro e w1 ⟨rfl, b1⟩
  replace HK := Lib.hid (HK.out.call b1); clear b1
  go_wp2_with fail
  refine (HRb.out _).mono ?_; rintro e w1 ⟨rfl, b1⟩
  replace HK := Lib.hid (HK.out.call b1); clear b1
  go_wp2_with (first | refine wpList_exe (ktb HK 0 _ (by rfl) (by rfl) (by rfl)) (by rfl) ?_ | refine wpList_exe (kexec_lr HK 1 _ (by rfl) (by rfl) (by rfl)) (by rfl) ?_ | refine wpList_exe (krp HK 2 _ (by rfl) (by rfl) (by rfl)) (by rfl) ?_)
  refine (HE.out _).mono ?_; rintro e w1 ⟨rfl, b1⟩
  replace HK := Lib.hid (HK.out.call b1); clear b1
  go_wp2_with fail
  refine (HRe.out _).mono ?_; rintro e w1 ⟨rfl, b1⟩
  replace HK := Lib.hid (HK.out.call b1); clear b1
  go_wp2_with (first | refine wpList_exe (ktb HK 0 _ (by rfl) (by rfl) (by rfl)) (by rfl) ?_ | refine wpList_exe (krf_c (x := r) HK 1 _ (by rfl) (by rfl) (by rfl)) (by rfl) ?_)
  refine (HC.out _).mono ?_; rintro e w1 ⟨rfl, b1⟩
  replace HK := Lib.hid (HK.out.call b1); clear b1
  go_wp2_with fail
  refine (HRc.out _).mono ?_; rintro e w1 ⟨rfl, b1⟩
  replace HK := Lib.hid (HK.out.call b1); clear b1
  go_wp2_with fail
  go_ret
  exact ⟨rfl, HK.out.b⟩
end Go.Proofs.Ytbcdmmhbmjjooaa
