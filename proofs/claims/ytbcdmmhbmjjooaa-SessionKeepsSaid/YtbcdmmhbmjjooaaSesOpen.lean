/-
  What session.Open and the document's return.
  No condition but that floats and numbers fit 64 bits.
-/
import Derived.Test.YtbcdmmhbmjjooaaSesLook
import Derived.Test.YtbcdmmhbmjjooaaSesRLook
import Derived.Test.YtbcdmmhbmjjooaaSesM3
set_option linter.unusedSimpArgs false
set_option linter.unusedVariables false
set_option maxRecDepth 100000
namespace Go.Proofs.Ytbcdmmhbmjjooaa
open Go.RowKit

set_option maxHeartbeats 6400000 in
theorem sopen_any (t : Ses.T) (r : Rf) (w : World) (hf : Ses.Fit t) (hr : r.r ≤ 9223372036854775807) : Calls Try.prog 13 #[.agg (tbA t), .agg #[.int .i64 r.c, .int .i64 r.e, .int .i64 r.r]] w (IsTP (Ses.openT t r) (Ses.openP t r) w) := by
  have HL := Lib.hid (fun W => slook_any t r W hf hr)
  have HK := kn2 w 30 (tbA t) 32 #[.int .i64 r.c, .int .i64 r.e, .int .i64 r.r]
  have HY := Lib.hid (fun h1 h2 h3 => Ses.op_yes (t := t) (r := r) h1 h2 h3)
  have HF := Lib.hid (fun h1 h2 h3 => Ses.op_full (t := t) (r := r) h1 h2 h3)
  have HN1 := Lib.hid (fun h => Ses.op_no1 (t := t) (r := r) h)
  have HN2 := Lib.hid (fun h => Ses.op_no2 (t := t) (r := r) h)
  have HC := Lib.hid (fun h => Ses.look_c (t := t) (r := r) (k := 1) h (by decide))
  have HV : Hid (0 ≤ r.c ∧ r.c < 5 → ∀ W, Calls Try.prog 25 #[.agg (tbA (t.set r.c Ses.z))] W (IsN (Ses.live t r.c) W)) := Lib.hid (fun h W => Ses.live_z (t := t) h ▸ slive_any (t.set r.c Ses.z) W)
  unfold IsTP
  unfold IsN at HL HV
  clear hf hr
  generalize Ses.look t r = x at *
  generalize Ses.openT t r = y at *
  generalize Ses.openP t r = v at *
  generalize Ses.live t r.c = m at *
  generalize h3 : decide (m < 4) = b3 at *
  have H3 := Lib.hid h3
  generalize h1 : decide (x = 1) = b1 at *
  have H1 := Lib.hid h1
  generalize h2 : decide (r.r = 0) = b2 at *
  have H2 := Lib.hid h2
  clear h1 h2 h3
  cases b1
  case false =>
    obtain ⟨hx1, hx2⟩ := HN1.out (by simp)
    have HX1 := Lib.hid hx1
    have HX2 := Lib.hid hx2
    clear hx1 hx2
    go_enter Try.func13, Try.ntmps13
    go_wp2_with (first | refine wpList_exe (ktb HK 0 _ (by rfl) (by rfl) (by rfl)) (by rfl) ?_ | refine wpList_exe (kexec_lr HK 1 _ (by rfl) (by rfl) (by rfl)) (by rfl) ?_ | (refine wpList_atb HK rfl rfl ?_; intro _ g1 HK'; simp only [List.cons_append, List.nil_append] at HK'; replace HK := HK'; clear HK') | (refine wpList_arp HK rfl rfl ?_; intro _ g2 HK'; simp only [List.cons_append, List.nil_append] at HK'; replace HK := HK'; clear HK'))
    refine (HL.out _).mono ?_; rintro e w1 ⟨rfl, b1⟩
    replace HK := Lib.hid (HK.out.call b1); clear b1
    go_wp2_with (first | refine wpList_exe (exec_iN (m := x) (n := 1) _ _ (by rfl) (by rfl) (by rfl) (by rw [H1.out])) (by rfl) ?_ | refine wpList_exe (ktb HK 0 _ (by rfl) (by rfl) (by rfl)) (by rfl) ?_ | (refine wpList_stb (t2 := t) HK 2 rfl _ _ rfl rfl rfl rfl ?_; intro _ HK'; simp only [List.set] at HK'; replace HK := HK'; clear HK') | refine wpList_exe (exec_rk (e := 1) (by rfl)) (by rfl) ?_ | (refine wpList_srp (q := Sto.err 1) HK 3 rfl _ _ rfl rfl rfl rfl ?_; intro _ HK'; simp only [List.set] at HK'; replace HK := HK'; clear HK'))
    rw [← HX1.out] at HK
    rw [← HX2.out] at HK
    exact ret_tp Try.results13 rfl rfl rfl (HK.out.blk 2 rfl) (HK.out.blk 3 rfl) ⟨rfl, HK.out.b⟩
  cases b2
  case false =>
    obtain ⟨hx1, hx2⟩ := HN2.out (by simp)
    have HX1 := Lib.hid hx1
    have HX2 := Lib.hid hx2
    clear hx1 hx2
    go_enter Try.func13, Try.ntmps13
    go_wp2_with (first | refine wpList_exe (ktb HK 0 _ (by rfl) (by rfl) (by rfl)) (by rfl) ?_ | refine wpList_exe (kexec_lr HK 1 _ (by rfl) (by rfl) (by rfl)) (by rfl) ?_ | (refine wpList_atb HK rfl rfl ?_; intro _ g1 HK'; simp only [List.cons_append, List.nil_append] at HK'; replace HK := HK'; clear HK') | (refine wpList_arp HK rfl rfl ?_; intro _ g2 HK'; simp only [List.cons_append, List.nil_append] at HK'; replace HK := HK'; clear HK'))
    refine (HL.out _).mono ?_; rintro e w1 ⟨rfl, b1⟩
    replace HK := Lib.hid (HK.out.call b1); clear b1
    go_wp2_with (first | refine wpList_exe (exec_iN (m := x) (n := 1) _ _ (by rfl) (by rfl) (by rfl) (by rw [H1.out])) (by rfl) ?_ | refine wpList_exe (exec_iN (m := r.r) (n := 0) _ _ (by rfl) (by rfl) (by rfl) (by rw [H2.out])) (by rfl) ?_ | refine wpList_exe (krf_r (x := r) HK 1 _ (by rfl) (by rfl) (by rfl)) (by rfl) ?_ | refine wpList_exe (ktb HK 0 _ (by rfl) (by rfl) (by rfl)) (by rfl) ?_ | (refine wpList_stb (t2 := t) HK 2 rfl _ _ rfl rfl rfl rfl ?_; intro _ HK'; simp only [List.set] at HK'; replace HK := HK'; clear HK') | refine wpList_exe (exec_rk (e := 1) (by rfl)) (by rfl) ?_ | (refine wpList_srp (q := Sto.err 1) HK 3 rfl _ _ rfl rfl rfl rfl ?_; intro _ HK'; simp only [List.set] at HK'; replace HK := HK'; clear HK'))
    rw [← HX1.out] at HK
    rw [← HX2.out] at HK
    exact ret_tp Try.results13 rfl rfl rfl (HK.out.blk 2 rfl) (HK.out.blk 3 rfl) ⟨rfl, HK.out.b⟩
  have hc := HC.out (of_decide_eq_true H1.out)
  go_enter Try.func13, Try.ntmps13
  go_wp2_with (first | refine wpList_exe (ktb HK 0 _ (by rfl) (by rfl) (by rfl)) (by rfl) ?_ | refine wpList_exe (kexec_lr HK 1 _ (by rfl) (by rfl) (by rfl)) (by rfl) ?_ | (refine wpList_atb HK rfl rfl ?_; intro _ g1 HK'; simp only [List.cons_append, List.nil_append] at HK'; replace HK := HK'; clear HK') | (refine wpList_arp HK rfl rfl ?_; intro _ g2 HK'; simp only [List.cons_append, List.nil_append] at HK'; replace HK := HK'; clear HK'))
  refine (HL.out _).mono ?_; rintro e w1 ⟨rfl, b1⟩
  replace HK := Lib.hid (HK.out.call b1); clear b1
  replace HV := Lib.hid (HV.out hc)
  go_wp2_with (first | refine wpList_exe (exec_iN (m := x) (n := 1) _ _ (by rfl) (by rfl) (by rfl) (by rw [H1.out])) (by rfl) ?_ | refine wpList_exe (exec_iN (m := r.r) (n := 0) _ _ (by rfl) (by rfl) (by rfl) (by rw [H2.out])) (by rfl) ?_ | refine wpList_exe (krf_r (x := r) HK 1 _ (by rfl) (by rfl) (by rfl)) (by rfl) ?_ | refine wpList_exe (krf_c (x := r) HK 1 _ (by rfl) (by rfl) (by rfl)) (by rfl) ?_ | refine wpList_exe (krf_e (x := r) HK 1 _ (by rfl) (by rfl) (by rfl)) (by rfl) ?_ | refine wpList_exe (exec_ixt hc _ _ (by rfl) (by rfl) (by rfl)) (by rfl) ?_ | refine wpList_exe (exec_bz (by rfl)) (by rfl) ?_ | refine wpList_exe (exec_bo (e := r.e) _ (by rfl) (by rfl)) (by rfl) ?_ | (refine wpList_ase HK rfl rfl ?_; intro _ g3 HK'; simp only [List.cons_append, List.nil_append] at HK'; replace HK := HK'; clear HK') | (refine wpList_sse (u := ⟨false, r.e, 0, true, Sto.rz⟩) HK 4 rfl _ _ rfl rfl rfl rfl ?_; intro _ HK'; simp only [List.set] at HK'; replace HK := HK'; clear HK') | (refine wpList_tss (s := Ses.z) HK 0 rfl hc _ _ rfl rfl rfl rfl ?_; intro _ HK'; simp only [List.set] at HK'; replace HK := HK'; clear HK') | refine wpList_exe (ktb HK 0 _ (by rfl) (by rfl) (by rfl)) (by rfl) ?_)
  refine (HV.out _).mono ?_; rintro e w1 ⟨rfl, b1⟩
  replace HK := Lib.hid (HK.out.call b1); clear b1
  cases b3
  case false =>
    obtain ⟨hx1, hx2⟩ := HF.out (by simp) (by simp) (by simp)
    have HX1 := Lib.hid hx1
    have HX2 := Lib.hid hx2
    clear hx1 hx2
    go_upto_region 9 with (first | refine wpList_exe (exec_iL (m := m) (n := 4) _ _ (by rfl) (by rfl) (by rfl) H3.out) (by rfl) ?_ | refine wpList_exe (krf_c (x := r) HK 1 _ (by rfl) (by rfl) (by rfl)) (by rfl) ?_ | refine wpList_exe (exec_ixt hc _ _ (by rfl) (by rfl) (by rfl)) (by rfl) ?_ | refine wpList_exe (kse HK 4 _ (by rfl) (by rfl) (by rfl)) (by rfl) ?_ | (refine wpList_ssx (n := 6) HK 4 rfl _ _ rfl rfl rfl rfl ?_; intro _ HK'; simp only [List.set] at HK'; replace HK := HK'; clear HK') | (refine wpList_tss (s := ⟨false, r.e, 0, true, Sto.err 6⟩) HK 0 rfl hc _ _ rfl rfl rfl rfl ?_; intro _ HK'; simp only [List.set] at HK'; replace HK := HK'; clear HK'))
    (try simp only [Ses.set_set hc] at HK)
    rw [← HX1.out] at HK
    have HK0 := Lib.hid HK.out.drew
    clear HK
    refine wp_region_held_drew (S := (fun W => Hid (Kn w.heap.size w W [(w.heap.size, 30, tbA y)] []) ∧ Hid (Kn w.heap.size w W [(g3, 29, seA ⟨false, r.e, 0, true, Sto.err 6⟩)] []))) (by kernel_rfl) ?_ (fun hHeld => ?_)
    · (try dsimp only); exact ⟨Lib.hid (HK0.out.takeL 1), Lib.hid (HK0.out.dropL 4)⟩
    refine wpAnyH_take (i := 0) (oi := ⟨some 35, _, _, _, _, _⟩) (v := ?_) rfl (by kernel_rfl) (by kernel_rfl) (by kernel_rfl) (fun _ _ _ h => h) (Or.inl ⟨by rfl, ?_⟩) (by assumption) ?_
    rotate_left
    · (intro w hSw; refine Eq.trans (ktb hSw.1 0 _ (by rfl) (by rfl) (by rfl)) ?_; with_reducible rfl)
    try simp only [Act.put, List.setIfInBounds_toArray, List.set_cons_zero, List.set_cons_succ]
    refine wpAnyH_take (i := 1) (oi := ⟨some 36, _, _, _, _, _⟩) (v := ?_) rfl (by kernel_rfl) (by kernel_rfl) (by kernel_rfl) (fun _ _ _ h => h) (Or.inl ⟨by rfl, ?_⟩) (by assumption) ?_
    rotate_left
    · (intro w hSw; (try dsimp only at hSw); go_simp; try with_reducible rfl)
    try simp only [Act.put, List.setIfInBounds_toArray, List.set_cons_zero, List.set_cons_succ]
    refine wpAnyH_take (i := 2) (oi := ⟨some 37, _, _, _, _, _⟩) (v := ?_) rfl (by kernel_rfl) (by kernel_rfl) (by kernel_rfl) (fun _ _ _ h => h) (Or.inl ⟨by rfl, ?_⟩) (by assumption) ?_
    rotate_left
    · (intro w hSw; refine Eq.trans (kse_p (s := ⟨false, r.e, 0, true, Sto.err 6⟩) hSw.2 0 _ (by rfl) (by rfl) (by rfl)) ?_; with_reducible rfl)
    try simp only [Act.put, List.setIfInBounds_toArray, List.set_cons_zero, List.set_cons_succ]
    refine wpAnyH_ready (rs := [3]) (by kernel_rfl) (by simp) ?_
    refine AllReadyH.cons (o := ⟨none, _, _, _, _, _⟩) rfl (fun K hK => ?_) AllReadyH.nil
    refine step_stb (t2 := y) HK0 2 (by rfl) _ _ (by rfl) (by rfl) (by rfl) (by rfl) ?_; intro w6 HK'; simp only [List.set] at HK'; replace HK0 := HK'; clear HK'; have hs := (⟨Lib.hid (HK0.out.takeL 1), Lib.hid (HK0.out.dropL 4)⟩ : _ ∧ _)
    refine hK.out _ _ hs (fun hHeld => ?_)
    clear hK K
    try simp only [ap1, ap2, ap3, ap4, ap5]
    refine wpAnyH_ready (rs := [4]) (by kernel_rfl) (by simp) ?_
    refine AllReadyH.cons (o := ⟨none, _, _, _, _, _⟩) rfl (fun K hK => ?_) AllReadyH.nil
    refine step_srp (q := Sto.err 6) HK0 3 (by rfl) _ _ (by rfl) (by rfl) (by rfl) (by rfl) ?_; intro w7 HK'; simp only [List.set] at HK'; replace HK0 := HK'; clear HK'; have hs := (⟨Lib.hid (HK0.out.takeL 1), Lib.hid (HK0.out.dropL 4)⟩ : _ ∧ _)
    refine hK.out _ _ hs (fun hHeld => ?_)
    clear hK K
    try simp only [ap1, ap2, ap3, ap4, ap5]
    refine wpAnyH_done (by kernel_rfl) ?_ _
    all_goals
      have HK := HK0
      clear HK0 hHeld
      rw [← HX2.out] at HK
      go_wp2_with fail
      exact ret_tp Try.results13 rfl rfl rfl (HK.out.blk 2 rfl) (HK.out.blk 3 rfl) ⟨rfl, HK.out.b⟩
  case true =>
    obtain ⟨hx1, hx2⟩ := HY.out (by simp) (by simp) (by simp)
    have HX1 := Lib.hid hx1
    have HX2 := Lib.hid hx2
    clear hx1 hx2
    go_upto_region 9 with (first | refine wpList_exe (exec_iL (m := m) (n := 4) _ _ (by rfl) (by rfl) (by rfl) H3.out) (by rfl) ?_ | refine wpList_exe (krf_c (x := r) HK 1 _ (by rfl) (by rfl) (by rfl)) (by rfl) ?_ | refine wpList_exe (exec_ixt hc _ _ (by rfl) (by rfl) (by rfl)) (by rfl) ?_ | refine wpList_exe (kse HK 4 _ (by rfl) (by rfl) (by rfl)) (by rfl) ?_ | (refine wpList_ssl (d := true) HK 4 rfl _ _ rfl rfl rfl rfl ?_; intro _ HK'; simp only [List.set] at HK'; replace HK := HK'; clear HK') | (refine wpList_tss (s := ⟨true, r.e, 0, true, Sto.rz⟩) HK 0 rfl hc _ _ rfl rfl rfl rfl ?_; intro _ HK'; simp only [List.set] at HK'; replace HK := HK'; clear HK'))
    (try simp only [Ses.set_set hc] at HK)
    rw [← HX1.out] at HK
    have HK0 := Lib.hid HK.out.drew
    clear HK
    refine wp_region_held_drew (S := (fun W => Hid (Kn w.heap.size w W [(w.heap.size, 30, tbA y)] []) ∧ Hid (Kn w.heap.size w W [(g3, 29, seA ⟨true, r.e, 0, true, Sto.rz⟩)] []))) (by kernel_rfl) ?_ (fun hHeld => ?_)
    · (try dsimp only); exact ⟨Lib.hid (HK0.out.takeL 1), Lib.hid (HK0.out.dropL 4)⟩
    refine wpAnyH_take (i := 0) (oi := ⟨some 35, _, _, _, _, _⟩) (v := ?_) rfl (by kernel_rfl) (by kernel_rfl) (by kernel_rfl) (fun _ _ _ h => h) (Or.inl ⟨by rfl, ?_⟩) (by assumption) ?_
    rotate_left
    · (intro w hSw; refine Eq.trans (ktb hSw.1 0 _ (by rfl) (by rfl) (by rfl)) ?_; with_reducible rfl)
    try simp only [Act.put, List.setIfInBounds_toArray, List.set_cons_zero, List.set_cons_succ]
    refine wpAnyH_take (i := 1) (oi := ⟨some 36, _, _, _, _, _⟩) (v := ?_) rfl (by kernel_rfl) (by kernel_rfl) (by kernel_rfl) (fun _ _ _ h => h) (Or.inl ⟨by rfl, ?_⟩) (by assumption) ?_
    rotate_left
    · (intro w hSw; (try dsimp only at hSw); go_simp; try with_reducible rfl)
    try simp only [Act.put, List.setIfInBounds_toArray, List.set_cons_zero, List.set_cons_succ]
    refine wpAnyH_take (i := 2) (oi := ⟨some 37, _, _, _, _, _⟩) (v := ?_) rfl (by kernel_rfl) (by kernel_rfl) (by kernel_rfl) (fun _ _ _ h => h) (Or.inl ⟨by rfl, ?_⟩) (by assumption) ?_
    rotate_left
    · (intro w hSw; refine Eq.trans (kse_p (s := ⟨true, r.e, 0, true, Sto.rz⟩) hSw.2 0 _ (by rfl) (by rfl) (by rfl)) ?_; with_reducible rfl)
    try simp only [Act.put, List.setIfInBounds_toArray, List.set_cons_zero, List.set_cons_succ]
    refine wpAnyH_ready (rs := [3]) (by kernel_rfl) (by simp) ?_
    refine AllReadyH.cons (o := ⟨none, _, _, _, _, _⟩) rfl (fun K hK => ?_) AllReadyH.nil
    refine step_stb (t2 := y) HK0 2 (by rfl) _ _ (by rfl) (by rfl) (by rfl) (by rfl) ?_; intro w6 HK'; simp only [List.set] at HK'; replace HK0 := HK'; clear HK'; have hs := (⟨Lib.hid (HK0.out.takeL 1), Lib.hid (HK0.out.dropL 4)⟩ : _ ∧ _)
    refine hK.out _ _ hs (fun hHeld => ?_)
    clear hK K
    try simp only [ap1, ap2, ap3, ap4, ap5]
    refine wpAnyH_ready (rs := [4]) (by kernel_rfl) (by simp) ?_
    refine AllReadyH.cons (o := ⟨none, _, _, _, _, _⟩) rfl (fun K hK => ?_) AllReadyH.nil
    refine step_srp (q := Sto.rz) HK0 3 (by rfl) _ _ (by rfl) (by rfl) (by rfl) (by rfl) ?_; intro w7 HK'; simp only [List.set] at HK'; replace HK0 := HK'; clear HK'; have hs := (⟨Lib.hid (HK0.out.takeL 1), Lib.hid (HK0.out.dropL 4)⟩ : _ ∧ _)
    refine hK.out _ _ hs (fun hHeld => ?_)
    clear hK K
    try simp only [ap1, ap2, ap3, ap4, ap5]
    refine wpAnyH_done (by kernel_rfl) ?_ _
    all_goals
      have HK := HK0
      clear HK0 hHeld
      rw [← HX2.out] at HK
      go_wp2_with fail
      exact ret_tp Try.results13 rfl rfl rfl (HK.out.blk 2 rfl) (HK.out.blk 3 rfl) ⟨rfl, HK.out.b⟩
set_option maxHeartbeats 6400000 in
theorem ropen_any (t : Ses.T) (r : Rf) (w : World) (hf : Ses.Fit t) (hr : r.r ≤ 9223372036854775807) : Calls Try.prog 14 #[.agg (tbA t), .agg #[.int .i64 r.c, .int .i64 r.e, .int .i64 r.r]] w (IsTP (Ses.openT t r) (Ses.openP t r) w) := by
  have HL := Lib.hid (fun W => rlook_any t r W hf hr)
  have HK := kn2 w 30 (tbA t) 32 #[.int .i64 r.c, .int .i64 r.e, .int .i64 r.r]
  have HY := Lib.hid (fun h1 h2 h3 => Ses.op_yes (t := t) (r := r) h1 h2 h3)
  have HF := Lib.hid (fun h1 h2 h3 => Ses.op_full (t := t) (r := r) h1 h2 h3)
  have HN1 := Lib.hid (fun h => Ses.op_no1 (t := t) (r := r) h)
  have HN2 := Lib.hid (fun h => Ses.op_no2 (t := t) (r := r) h)
  have HC := Lib.hid (fun h => Ses.look_c (t := t) (r := r) (k := 1) h (by decide))
  have HV := Lib.hid (fun W => rlive_any t r.c W)
  unfold IsTP
  unfold IsN at HL HV
  clear hf hr
  generalize Ses.look t r = x at *
  generalize Ses.openT t r = y at *
  generalize Ses.openP t r = v at *
  generalize Ses.live t r.c = m at *
  generalize h3 : decide (m < 4) = b3 at *
  have H3 := Lib.hid h3
  generalize h1 : decide (x = 1) = b1 at *
  have H1 := Lib.hid h1
  generalize h2 : decide (r.r = 0) = b2 at *
  have H2 := Lib.hid h2
  clear h1 h2 h3
  cases b1
  case false =>
    obtain ⟨hx1, hx2⟩ := HN1.out (by simp)
    have HX1 := Lib.hid hx1
    have HX2 := Lib.hid hx2
    clear hx1 hx2
    go_enter Try.func14, Try.ntmps14
    go_wp2_with (first | refine wpList_exe (ktb HK 0 _ (by rfl) (by rfl) (by rfl)) (by rfl) ?_ | refine wpList_exe (kexec_lr HK 1 _ (by rfl) (by rfl) (by rfl)) (by rfl) ?_ | (refine wpList_atb HK rfl rfl ?_; intro _ g1 HK'; simp only [List.cons_append, List.nil_append] at HK'; replace HK := HK'; clear HK') | (refine wpList_arp HK rfl rfl ?_; intro _ g2 HK'; simp only [List.cons_append, List.nil_append] at HK'; replace HK := HK'; clear HK'))
    refine (HL.out _).mono ?_; rintro e w1 ⟨rfl, b1⟩
    replace HK := Lib.hid (HK.out.call b1); clear b1
    go_wp2_with (first | refine wpList_exe (exec_iN (m := x) (n := 1) _ _ (by rfl) (by rfl) (by rfl) (by rw [H1.out])) (by rfl) ?_ | refine wpList_exe (ktb HK 0 _ (by rfl) (by rfl) (by rfl)) (by rfl) ?_ | (refine wpList_stb (t2 := t) HK 2 rfl _ _ rfl rfl rfl rfl ?_; intro _ HK'; simp only [List.set] at HK'; replace HK := HK'; clear HK') | refine wpList_exe (exec_rk (e := 1) (by rfl)) (by rfl) ?_ | (refine wpList_srp (q := Sto.err 1) HK 3 rfl _ _ rfl rfl rfl rfl ?_; intro _ HK'; simp only [List.set] at HK'; replace HK := HK'; clear HK'))
    rw [← HX1.out] at HK
    rw [← HX2.out] at HK
    exact ret_tp Try.results14 rfl rfl rfl (HK.out.blk 2 rfl) (HK.out.blk 3 rfl) ⟨rfl, HK.out.b⟩
  cases b2
  case false =>
    obtain ⟨hx1, hx2⟩ := HN2.out (by simp)
    have HX1 := Lib.hid hx1
    have HX2 := Lib.hid hx2
    clear hx1 hx2
    go_enter Try.func14, Try.ntmps14
    go_wp2_with (first | refine wpList_exe (ktb HK 0 _ (by rfl) (by rfl) (by rfl)) (by rfl) ?_ | refine wpList_exe (kexec_lr HK 1 _ (by rfl) (by rfl) (by rfl)) (by rfl) ?_ | (refine wpList_atb HK rfl rfl ?_; intro _ g1 HK'; simp only [List.cons_append, List.nil_append] at HK'; replace HK := HK'; clear HK') | (refine wpList_arp HK rfl rfl ?_; intro _ g2 HK'; simp only [List.cons_append, List.nil_append] at HK'; replace HK := HK'; clear HK'))
    refine (HL.out _).mono ?_; rintro e w1 ⟨rfl, b1⟩
    replace HK := Lib.hid (HK.out.call b1); clear b1
    go_wp2_with (first | refine wpList_exe (exec_iN (m := x) (n := 1) _ _ (by rfl) (by rfl) (by rfl) (by rw [H1.out])) (by rfl) ?_ | refine wpList_exe (exec_iN (m := r.r) (n := 0) _ _ (by rfl) (by rfl) (by rfl) (by rw [H2.out])) (by rfl) ?_ | refine wpList_exe (krf_r (x := r) HK 1 _ (by rfl) (by rfl) (by rfl)) (by rfl) ?_ | refine wpList_exe (ktb HK 0 _ (by rfl) (by rfl) (by rfl)) (by rfl) ?_ | (refine wpList_stb (t2 := t) HK 2 rfl _ _ rfl rfl rfl rfl ?_; intro _ HK'; simp only [List.set] at HK'; replace HK := HK'; clear HK') | refine wpList_exe (exec_rk (e := 1) (by rfl)) (by rfl) ?_ | (refine wpList_srp (q := Sto.err 1) HK 3 rfl _ _ rfl rfl rfl rfl ?_; intro _ HK'; simp only [List.set] at HK'; replace HK := HK'; clear HK'))
    rw [← HX1.out] at HK
    rw [← HX2.out] at HK
    exact ret_tp Try.results14 rfl rfl rfl (HK.out.blk 2 rfl) (HK.out.blk 3 rfl) ⟨rfl, HK.out.b⟩
  have hc := HC.out (of_decide_eq_true H1.out)
  go_enter Try.func14, Try.ntmps14
  go_wp2_with (first | refine wpList_exe (ktb HK 0 _ (by rfl) (by rfl) (by rfl)) (by rfl) ?_ | refine wpList_exe (kexec_lr HK 1 _ (by rfl) (by rfl) (by rfl)) (by rfl) ?_ | (refine wpList_atb HK rfl rfl ?_; intro _ g1 HK'; simp only [List.cons_append, List.nil_append] at HK'; replace HK := HK'; clear HK') | (refine wpList_arp HK rfl rfl ?_; intro _ g2 HK'; simp only [List.cons_append, List.nil_append] at HK'; replace HK := HK'; clear HK'))
  refine (HL.out _).mono ?_; rintro e w1 ⟨rfl, b1⟩
  replace HK := Lib.hid (HK.out.call b1); clear b1
  go_wp2_with (first | refine wpList_exe (exec_iN (m := x) (n := 1) _ _ (by rfl) (by rfl) (by rfl) (by rw [H1.out])) (by rfl) ?_ | refine wpList_exe (exec_iN (m := r.r) (n := 0) _ _ (by rfl) (by rfl) (by rfl) (by rw [H2.out])) (by rfl) ?_ | refine wpList_exe (krf_r (x := r) HK 1 _ (by rfl) (by rfl) (by rfl)) (by rfl) ?_ | refine wpList_exe (krf_c (x := r) HK 1 _ (by rfl) (by rfl) (by rfl)) (by rfl) ?_ | refine wpList_exe (krf_e (x := r) HK 1 _ (by rfl) (by rfl) (by rfl)) (by rfl) ?_ | refine wpList_exe (exec_bp (e := r.e) _ (by rfl) (by rfl)) (by rfl) ?_ | (refine wpList_ase HK rfl rfl ?_; intro _ g3 HK'; simp only [List.cons_append, List.nil_append] at HK'; replace HK := HK'; clear HK') | (refine wpList_sse (u := ⟨true, r.e, 0, true, Sto.rz⟩) HK 4 rfl _ _ rfl rfl rfl rfl ?_; intro _ HK'; simp only [List.set] at HK'; replace HK := HK'; clear HK') | refine wpList_exe (ktb HK 0 _ (by rfl) (by rfl) (by rfl)) (by rfl) ?_)
  refine (HV.out _).mono ?_; rintro e w1 ⟨rfl, b1⟩
  replace HK := Lib.hid (HK.out.call b1); clear b1
  cases b3
  case false =>
    obtain ⟨hx1, hx2⟩ := HF.out (by simp) (by simp) (by simp)
    have HX1 := Lib.hid hx1
    have HX2 := Lib.hid hx2
    clear hx1 hx2
    go_upto_region 8 with (first | refine wpList_exe (exec_iGe (m := m) (n := 4) _ _ (by rfl) (by rfl) (by rfl) (show decide (4 ≤ m) = true from by have := of_decide_eq_false H3.out; simp; omega)) (by rfl) ?_ | refine wpList_exe (krf_c (x := r) HK 1 _ (by rfl) (by rfl) (by rfl)) (by rfl) ?_ | refine wpList_exe (exec_ixt hc _ _ (by rfl) (by rfl) (by rfl)) (by rfl) ?_ | refine wpList_exe (kse HK 4 _ (by rfl) (by rfl) (by rfl)) (by rfl) ?_ | (refine wpList_ssl (d := false) HK 4 rfl _ _ rfl rfl rfl rfl ?_; intro _ HK'; simp only [List.set] at HK'; replace HK := HK'; clear HK') | (refine wpList_ssx (n := 6) HK 4 rfl _ _ rfl rfl rfl rfl ?_; intro _ HK'; simp only [List.set] at HK'; replace HK := HK'; clear HK') | (refine wpList_tss (s := ⟨false, r.e, 0, true, Sto.err 6⟩) HK 0 rfl hc _ _ rfl rfl rfl rfl ?_; intro _ HK'; simp only [List.set] at HK'; replace HK := HK'; clear HK'))
    (try simp only [Ses.set_set hc] at HK)
    rw [← HX1.out] at HK
    have HK0 := Lib.hid HK.out.drew
    clear HK
    refine wp_region_held_drew (S := (fun W => Hid (Kn w.heap.size w W [(w.heap.size, 30, tbA y)] []) ∧ Hid (Kn w.heap.size w W [(g3, 29, seA ⟨false, r.e, 0, true, Sto.err 6⟩)] []))) (by kernel_rfl) ?_ (fun hHeld => ?_)
    · (try dsimp only); exact ⟨Lib.hid (HK0.out.takeL 1), Lib.hid (HK0.out.dropL 4)⟩
    refine wpAnyH_take (i := 0) (oi := ⟨some 33, _, _, _, _, _⟩) (v := ?_) rfl (by kernel_rfl) (by kernel_rfl) (by kernel_rfl) (fun _ _ _ h => h) (Or.inl ⟨by rfl, ?_⟩) (by assumption) ?_
    rotate_left
    · (intro w hSw; refine Eq.trans (ktb hSw.1 0 _ (by rfl) (by rfl) (by rfl)) ?_; with_reducible rfl)
    try simp only [Act.put, List.setIfInBounds_toArray, List.set_cons_zero, List.set_cons_succ]
    refine wpAnyH_take (i := 1) (oi := ⟨some 34, _, _, _, _, _⟩) (v := ?_) rfl (by kernel_rfl) (by kernel_rfl) (by kernel_rfl) (fun _ _ _ h => h) (Or.inl ⟨by rfl, ?_⟩) (by assumption) ?_
    rotate_left
    · (intro w hSw; (try dsimp only at hSw); go_simp; try with_reducible rfl)
    try simp only [Act.put, List.setIfInBounds_toArray, List.set_cons_zero, List.set_cons_succ]
    refine wpAnyH_take (i := 2) (oi := ⟨some 35, _, _, _, _, _⟩) (v := ?_) rfl (by kernel_rfl) (by kernel_rfl) (by kernel_rfl) (fun _ _ _ h => h) (Or.inl ⟨by rfl, ?_⟩) (by assumption) ?_
    rotate_left
    · (intro w hSw; refine Eq.trans (kse_p (s := ⟨false, r.e, 0, true, Sto.err 6⟩) hSw.2 0 _ (by rfl) (by rfl) (by rfl)) ?_; with_reducible rfl)
    try simp only [Act.put, List.setIfInBounds_toArray, List.set_cons_zero, List.set_cons_succ]
    refine wpAnyH_ready (rs := [3]) (by kernel_rfl) (by simp) ?_
    refine AllReadyH.cons (o := ⟨none, _, _, _, _, _⟩) rfl (fun K hK => ?_) AllReadyH.nil
    refine step_stb (t2 := y) HK0 2 (by rfl) _ _ (by rfl) (by rfl) (by rfl) (by rfl) ?_; intro w6 HK'; simp only [List.set] at HK'; replace HK0 := HK'; clear HK'; have hs := (⟨Lib.hid (HK0.out.takeL 1), Lib.hid (HK0.out.dropL 4)⟩ : _ ∧ _)
    refine hK.out _ _ hs (fun hHeld => ?_)
    clear hK K
    try simp only [ap1, ap2, ap3, ap4, ap5]
    refine wpAnyH_ready (rs := [4]) (by kernel_rfl) (by simp) ?_
    refine AllReadyH.cons (o := ⟨none, _, _, _, _, _⟩) rfl (fun K hK => ?_) AllReadyH.nil
    refine step_srp (q := Sto.err 6) HK0 3 (by rfl) _ _ (by rfl) (by rfl) (by rfl) (by rfl) ?_; intro w7 HK'; simp only [List.set] at HK'; replace HK0 := HK'; clear HK'; have hs := (⟨Lib.hid (HK0.out.takeL 1), Lib.hid (HK0.out.dropL 4)⟩ : _ ∧ _)
    refine hK.out _ _ hs (fun hHeld => ?_)
    clear hK K
    try simp only [ap1, ap2, ap3, ap4, ap5]
    refine wpAnyH_done (by kernel_rfl) ?_ _
    all_goals
      have HK := HK0
      clear HK0 hHeld
      rw [← HX2.out] at HK
      go_wp2_with fail
      exact ret_tp Try.results14 rfl rfl rfl (HK.out.blk 2 rfl) (HK.out.blk 3 rfl) ⟨rfl, HK.out.b⟩
  case true =>
    obtain ⟨hx1, hx2⟩ := HY.out (by simp) (by simp) (by simp)
    have HX1 := Lib.hid hx1
    have HX2 := Lib.hid hx2
    clear hx1 hx2
    go_upto_region 8 with (first | refine wpList_exe (exec_iGe (m := m) (n := 4) _ _ (by rfl) (by rfl) (by rfl) (show decide (4 ≤ m) = false from by have := of_decide_eq_true H3.out; simp; omega)) (by rfl) ?_ | refine wpList_exe (krf_c (x := r) HK 1 _ (by rfl) (by rfl) (by rfl)) (by rfl) ?_ | refine wpList_exe (exec_ixt hc _ _ (by rfl) (by rfl) (by rfl)) (by rfl) ?_ | refine wpList_exe (kse HK 4 _ (by rfl) (by rfl) (by rfl)) (by rfl) ?_ | (refine wpList_tss (s := ⟨true, r.e, 0, true, Sto.rz⟩) HK 0 rfl hc _ _ rfl rfl rfl rfl ?_; intro _ HK'; simp only [List.set] at HK'; replace HK := HK'; clear HK'))
    (try simp only [Ses.set_set hc] at HK)
    rw [← HX1.out] at HK
    have HK0 := Lib.hid HK.out.drew
    clear HK
    refine wp_region_held_drew (S := (fun W => Hid (Kn w.heap.size w W [(w.heap.size, 30, tbA y)] []) ∧ Hid (Kn w.heap.size w W [(g3, 29, seA ⟨true, r.e, 0, true, Sto.rz⟩)] []))) (by kernel_rfl) ?_ (fun hHeld => ?_)
    · (try dsimp only); exact ⟨Lib.hid (HK0.out.takeL 1), Lib.hid (HK0.out.dropL 4)⟩
    refine wpAnyH_take (i := 0) (oi := ⟨some 33, _, _, _, _, _⟩) (v := ?_) rfl (by kernel_rfl) (by kernel_rfl) (by kernel_rfl) (fun _ _ _ h => h) (Or.inl ⟨by rfl, ?_⟩) (by assumption) ?_
    rotate_left
    · (intro w hSw; refine Eq.trans (ktb hSw.1 0 _ (by rfl) (by rfl) (by rfl)) ?_; with_reducible rfl)
    try simp only [Act.put, List.setIfInBounds_toArray, List.set_cons_zero, List.set_cons_succ]
    refine wpAnyH_take (i := 1) (oi := ⟨some 34, _, _, _, _, _⟩) (v := ?_) rfl (by kernel_rfl) (by kernel_rfl) (by kernel_rfl) (fun _ _ _ h => h) (Or.inl ⟨by rfl, ?_⟩) (by assumption) ?_
    rotate_left
    · (intro w hSw; (try dsimp only at hSw); go_simp; try with_reducible rfl)
    try simp only [Act.put, List.setIfInBounds_toArray, List.set_cons_zero, List.set_cons_succ]
    refine wpAnyH_take (i := 2) (oi := ⟨some 35, _, _, _, _, _⟩) (v := ?_) rfl (by kernel_rfl) (by kernel_rfl) (by kernel_rfl) (fun _ _ _ h => h) (Or.inl ⟨by rfl, ?_⟩) (by assumption) ?_
    rotate_left
    · (intro w hSw; refine Eq.trans (kse_p (s := ⟨true, r.e, 0, true, Sto.rz⟩) hSw.2 0 _ (by rfl) (by rfl) (by rfl)) ?_; with_reducible rfl)
    try simp only [Act.put, List.setIfInBounds_toArray, List.set_cons_zero, List.set_cons_succ]
    refine wpAnyH_ready (rs := [3]) (by kernel_rfl) (by simp) ?_
    refine AllReadyH.cons (o := ⟨none, _, _, _, _, _⟩) rfl (fun K hK => ?_) AllReadyH.nil
    refine step_stb (t2 := y) HK0 2 (by rfl) _ _ (by rfl) (by rfl) (by rfl) (by rfl) ?_; intro w6 HK'; simp only [List.set] at HK'; replace HK0 := HK'; clear HK'; have hs := (⟨Lib.hid (HK0.out.takeL 1), Lib.hid (HK0.out.dropL 4)⟩ : _ ∧ _)
    refine hK.out _ _ hs (fun hHeld => ?_)
    clear hK K
    try simp only [ap1, ap2, ap3, ap4, ap5]
    refine wpAnyH_ready (rs := [4]) (by kernel_rfl) (by simp) ?_
    refine AllReadyH.cons (o := ⟨none, _, _, _, _, _⟩) rfl (fun K hK => ?_) AllReadyH.nil
    refine step_srp (q := Sto.rz) HK0 3 (by rfl) _ _ (by rfl) (by rfl) (by rfl) (by rfl) ?_; intro w7 HK'; simp only [List.set] at HK'; replace HK0 := HK'; clear HK'; have hs := (⟨Lib.hid (HK0.out.takeL 1), Lib.hid (HK0.out.dropL 4)⟩ : _ ∧ _)
    refine hK.out _ _ hs (fun hHeld => ?_)
    clear hK K
    try simp only [ap1, ap2, ap3, ap4, ap5]
    refine wpAnyH_done (by kernel_rfl) ?_ _
    all_goals
      have HK := HK0
      clear HK0 hHeld
      rw [← HX2.out] at HK
      go_wp2_with fail
      exact ret_tp Try.results14 rfl rfl rfl (HK.out.blk 2 rfl) (HK.out.blk 3 rfl) ⟨rfl, HK.out.b⟩
end Go.Proofs.Ytbcdmmhbmjjooaa
