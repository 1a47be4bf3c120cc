/-
  What session.End and the document's return.
  No condition but that floats and numbers fit 64 bits.
-/
import Derived.Test.YtbcdmmhbmjjooaaSesLook
import Derived.Test.YtbcdmmhbmjjooaaSesRLook
import Derived.Test.YtbcdmmhbmjjooaaSesM3
set_option linter.unusedSimpArgs false
set_option linter.unusedVariables false
set_option maxRecDepth 100000
namespace Go.Proofs.Ytbcdmmhbmjjooaa
open Go.RowKit

set_option maxHeartbeats 6400000 in
theorem send_any (t : Ses.T) (r : Rf) (x : Sto.Rp) (w : World) (hf : Ses.Fit t) (hx : x.v.f < 18446744073709551616) (hr : r.r ≤ 9223372036854775807) : Calls Try.prog 17 #[.agg (tbA t), .agg #[.int .i64 r.c, .int .i64 r.e, .int .i64 r.r], .agg (rpA x)] w (IsT (Ses.endT t r x) w) := by
  have HL := Lib.hid (fun W => slook_any t r W hf hr)
  have HK := kn3 w 30 (tbA t) 32 #[.int .i64 r.c, .int .i64 r.e, .int .i64 r.r] 27 (rpA x)
  have HP := Lib.hid (fun W => sreply_any x W hx)
  have HY := Lib.hid (fun h1 h2 => Ses.end_yes (t := t) (r := r) (x := x) h1 h2)
  have HN1 := Lib.hid (fun h => Ses.end_no1 (t := t) (r := r) (x := x) h)
  have HN2 := Lib.hid (fun h => Ses.end_no2 (t := t) (r := r) (x := x) h)
  have HC := Lib.hid (fun h => Ses.look_c (t := t) (r := r) (k := 3) h (by decide))
  have HD := Lib.hid (fun W => sdone_any (t.get r.c) x W)
  unfold IsT
  unfold IsN at HL
  unfold IsB at HP
  unfold IsS at HD
  clear hf hr hx
  generalize Ses.look t r = z at *
  generalize Ses.endT t r x = y at *
  generalize Sto.rep x = b2 at *
  generalize h1 : decide (z = 3) = b1 at *
  have H1 := Lib.hid h1
  clear h1
  cases b1
  case false =>
    have HX := Lib.hid (HN1.out (by simp))
    go_enter Try.func17, Try.ntmps17
    go_wp2_with (first | refine wpList_exe (ktb HK 0 _ (by rfl) (by rfl) (by rfl)) (by rfl) ?_ | refine wpList_exe (kexec_lr HK 1 _ (by rfl) (by rfl) (by rfl)) (by rfl) ?_ | (refine wpList_atb HK rfl rfl ?_; intro _ g1 HK'; simp only [List.cons_append, List.nil_append] at HK'; replace HK := HK'; clear HK'))
    refine (HL.out _).mono ?_; rintro e w1 ⟨rfl, b1⟩
    replace HK := Lib.hid (HK.out.call b1); clear b1
    go_wp2_with (first | refine wpList_exe (exec_iE (m := z) (n := 3) _ _ (by rfl) (by rfl) (by rfl) H1.out) (by rfl) ?_ | refine wpList_exe (ktb HK 0 _ (by rfl) (by rfl) (by rfl)) (by rfl) ?_ | (refine wpList_stb (t2 := t) HK 3 rfl _ _ rfl rfl rfl rfl ?_; intro _ HK'; simp only [List.set] at HK'; replace HK := HK'; clear HK'))
    rw [← HX.out] at HK
    exact ret_tb Try.results17 rfl rfl (HK.out.blk 3 rfl) ⟨rfl, HK.out.b⟩
  have hc := HC.out (of_decide_eq_true H1.out)
  go_enter Try.func17, Try.ntmps17
  go_wp2_with (first | refine wpList_exe (ktb HK 0 _ (by rfl) (by rfl) (by rfl)) (by rfl) ?_ | refine wpList_exe (kexec_lr HK 1 _ (by rfl) (by rfl) (by rfl)) (by rfl) ?_ | (refine wpList_atb HK rfl rfl ?_; intro _ g1 HK'; simp only [List.cons_append, List.nil_append] at HK'; replace HK := HK'; clear HK'))
  refine (HL.out _).mono ?_; rintro e w1 ⟨rfl, b1⟩
  replace HK := Lib.hid (HK.out.call b1); clear b1
  go_wp2_with (first | refine wpList_exe (exec_iE (m := z) (n := 3) _ _ (by rfl) (by rfl) (by rfl) H1.out) (by rfl) ?_ | refine wpList_exe (krp HK 2 _ (by rfl) (by rfl) (by rfl)) (by rfl) ?_)
  refine (HP.out _).mono ?_; rintro e w1 ⟨rfl, b1⟩
  replace HK := Lib.hid (HK.out.call b1); clear b1
  cases b2
  case false =>
    have HX := Lib.hid (HN2.out (by simp))
    go_wp2_with (first | refine wpList_exe (ktb HK 0 _ (by rfl) (by rfl) (by rfl)) (by rfl) ?_ | (refine wpList_stb (t2 := t) HK 3 rfl _ _ rfl rfl rfl rfl ?_; intro _ HK'; simp only [List.set] at HK'; replace HK := HK'; clear HK'))
    rw [← HX.out] at HK
    exact ret_tb Try.results17 rfl rfl (HK.out.blk 3 rfl) ⟨rfl, HK.out.b⟩
  have HX := Lib.hid (HY.out (by simp) (by simp))
  go_upto_region 2 with fail
  have HK0 := Lib.hid HK.out.drew
  clear HK
  refine wp_region_held_drew (S := (fun W => Hid (Kn w.heap.size w W [(w.heap.size + 1, 32, #[.int .i64 r.c, .int .i64 r.e, .int .i64 r.r]), (w.heap.size + 2, 27, rpA x), (g1, 30, tbA tz)] []))) (by kernel_rfl) ?_ (fun hHeld => ?_)
  · (try dsimp only); exact Lib.hid (HK0.out.dropL 1)
  refine wpAnyH_take (i := 0) (oi := ⟨some 15, _, _, _, _, _⟩) (v := ?_) rfl (by kernel_rfl) (by kernel_rfl) (by kernel_rfl) (fun _ _ _ h => h) (Or.inl ⟨by rfl, ?_⟩) (by assumption) ?_
  rotate_left
  · (intro w hSw; (try dsimp only at hSw); go_simp; try with_reducible rfl)
  try simp only [Act.put, List.setIfInBounds_toArray, List.set_cons_zero, List.set_cons_succ]
  refine wpAnyH_take (i := 1) (oi := ⟨some 16, _, _, _, _, _⟩) (v := ?_) rfl (by kernel_rfl) (by kernel_rfl) (by kernel_rfl) (fun _ _ _ h => h) (Or.inl ⟨by rfl, ?_⟩) (by assumption) ?_
  rotate_left
  · (intro w hSw; refine Eq.trans (krf_c (x := r) hSw 0 _ (by rfl) (by rfl) (by rfl)) ?_; with_reducible rfl)
  try simp only [Act.put, List.setIfInBounds_toArray, List.set_cons_zero, List.set_cons_succ]
  refine wpAnyH_take (i := 2) (oi := ⟨some 17, _, _, _, _, _⟩) (v := ?_) rfl (by kernel_rfl) (by kernel_rfl) (by kernel_rfl) (fun _ _ _ h => h) (Or.inl ⟨by rfl, ?_⟩) (by assumption) ?_
  rotate_left
  · (intro w hSw; (try dsimp only at hSw); go_simp; try with_reducible rfl)
  try simp only [Act.put, List.setIfInBounds_toArray, List.set_cons_zero, List.set_cons_succ]
  refine wpAnyH_take (i := 3) (oi := ⟨some 18, _, _, _, _, _⟩) (v := ?_) rfl (by kernel_rfl) (by kernel_rfl) (by kernel_rfl) (fun _ _ _ h => h) (Or.inl ⟨by rfl, ?_⟩) (by assumption) ?_
  rotate_left
  · (intro w hSw; refine Eq.trans (krf_c (x := r) hSw 0 _ (by rfl) (by rfl) (by rfl)) ?_; with_reducible rfl)
  try simp only [Act.put, List.setIfInBounds_toArray, List.set_cons_zero, List.set_cons_succ]
  refine wpAnyH_take (i := 4) (oi := ⟨some 19, _, _, _, _, _⟩) (v := ?_) rfl (by kernel_rfl) (by kernel_rfl) (by kernel_rfl) (fun _ _ _ h => h) (Or.inl ⟨by rfl, ?_⟩) (by assumption) ?_
  rotate_left
  · (intro w hSw; refine Eq.trans (exec_ixt hc _ _ (by rfl) (by rfl) (by rfl)) ?_; with_reducible rfl)
  try simp only [Act.put, List.setIfInBounds_toArray, List.set_cons_zero, List.set_cons_succ]
  refine wpAnyH_take (i := 6) (oi := ⟨some 21, _, _, _, _, _⟩) (v := ?_) rfl (by kernel_rfl) (by kernel_rfl) (by kernel_rfl) (fun _ _ _ h => h) (Or.inl ⟨by rfl, ?_⟩) (by assumption) ?_
  rotate_left
  · (intro w hSw; refine Eq.trans (krp hSw 1 _ (by rfl) (by rfl) (by rfl)) ?_; with_reducible rfl)
  try simp only [Act.put, List.setIfInBounds_toArray, List.set_cons_zero, List.set_cons_succ]
  refine wpAnyH_ready (rs := [5]) (by kernel_rfl) (by simp) ?_
  refine AllReadyH.cons (o := ⟨some 20, _, _, _, _, _⟩) rfl (fun K hK => ?_) AllReadyH.nil
  refine step_of_exec (by rfl) (kts HK0 0 hc _ (by rfl) (by rfl) (by rfl)) ?_; have hs := hHeld
  refine hK.out _ _ hs (fun hHeld => ?_)
  clear hK K
  try simp only [ap1, ap2, ap3, ap4, ap5]
  refine wpAnyH_ready (rs := [7]) (by kernel_rfl) (by simp) ?_
  refine AllReadyH.cons (o := ⟨some 22, _, _, _, _, _⟩) rfl (fun K hK => ?_) AllReadyH.nil
  go_simp
  go_at_call 29
  refine (HD.out _).mono ?_; rintro e w5 ⟨rfl, b5⟩; have hs := Lib.hid (hHeld.out.call b5); replace HK0 := Lib.hid (HK0.out.call b5); clear b5
  refine hK.out _ _ hs (fun hHeld => ?_)
  clear hK K
  try simp only [ap1, ap2, ap3, ap4, ap5]
  refine wpAnyH_take (i := 8) (oi := ⟨some 23, _, _, _, _, _⟩) (v := ?_) rfl (by kernel_rfl) (by kernel_rfl) (by kernel_rfl) (fun _ _ _ h => h) (Or.inl ⟨by rfl, ?_⟩) (by assumption) ?_
  rotate_left
  · (intro w hSw; refine Eq.trans (exec_ixt hc _ _ (by rfl) (by rfl) (by rfl)) ?_; with_reducible rfl)
  try simp only [Act.put, List.setIfInBounds_toArray, List.set_cons_zero, List.set_cons_succ]
  refine wpAnyH_ready (rs := [9]) (by kernel_rfl) (by simp) ?_
  refine AllReadyH.cons (o := ⟨none, _, _, _, _, _⟩) rfl (fun K hK => ?_) AllReadyH.nil
  refine step_tss (s := { t.get r.c with dn := true, p := x }) HK0 0 (by rfl) hc _ _ (by rfl) (by rfl) (by rfl) (by rfl) ?_; intro w6 HK'; simp only [List.set] at HK'; replace HK0 := HK'; clear HK'; have hs := Lib.hid (HK0.out.dropL 1)
  refine hK.out _ _ hs (fun hHeld => ?_)
  clear hK K
  try simp only [ap1, ap2, ap3, ap4, ap5]
  refine wpAnyH_done (by kernel_rfl) ?_ _
  have HK := HK0
  clear HK0 hHeld
  go_wp2_with (first | refine wpList_exe (ktb HK 0 _ (by rfl) (by rfl) (by rfl)) (by rfl) ?_ | (refine wpList_stb  HK 3 rfl _ _ rfl rfl rfl rfl ?_; intro _ HK'; simp only [List.set] at HK'; replace HK := HK'; clear HK'))
  rw [← HX.out] at HK
  exact ret_tb Try.results17 rfl rfl (HK.out.blk 3 rfl) ⟨rfl, HK.out.b⟩
set_option maxHeartbeats 6400000 in
theorem rend_any (t : Ses.T) (r : Rf) (x : Sto.Rp) (w : World) (hf : Ses.Fit t) (hx : x.v.f < 18446744073709551616) (hr : r.r ≤ 9223372036854775807) : Calls Try.prog 18 #[.agg (tbA t), .agg #[.int .i64 r.c, .int .i64 r.e, .int .i64 r.r], .agg (rpA x)] w (IsT (Ses.endT t r x) w) := by
  have HL := Lib.hid (fun W => rlook_any t r W hf hr)
  have HK := kn3 w 30 (tbA t) 32 #[.int .i64 r.c, .int .i64 r.e, .int .i64 r.r] 27 (rpA x)
  have HP := Lib.hid (fun W => rreply_any x W hx)
  have HY := Lib.hid (fun h1 h2 => Ses.end_yes (t := t) (r := r) (x := x) h1 h2)
  have HN1 := Lib.hid (fun h => Ses.end_no1 (t := t) (r := r) (x := x) h)
  have HN2 := Lib.hid (fun h => Ses.end_no2 (t := t) (r := r) (x := x) h)
  have HC := Lib.hid (fun h => Ses.look_c (t := t) (r := r) (k := 3) h (by decide))
  unfold IsT
  unfold IsN at HL
  unfold IsB at HP
  clear hf hr hx
  generalize Ses.look t r = z at *
  generalize Ses.endT t r x = y at *
  generalize Sto.rep x = b2 at *
  generalize h1 : decide (z = 3) = b1 at *
  have H1 := Lib.hid h1
  clear h1
  cases b1
  case false =>
    have HX := Lib.hid (HN1.out (by simp))
    go_enter Try.func18, Try.ntmps18
    go_wp2_with (first | refine wpList_exe (ktb HK 0 _ (by rfl) (by rfl) (by rfl)) (by rfl) ?_ | refine wpList_exe (kexec_lr HK 1 _ (by rfl) (by rfl) (by rfl)) (by rfl) ?_ | (refine wpList_atb HK rfl rfl ?_; intro _ g1 HK'; simp only [List.cons_append, List.nil_append] at HK'; replace HK := HK'; clear HK'))
    refine (HL.out _).mono ?_; rintro e w1 ⟨rfl, b1⟩
    replace HK := Lib.hid (HK.out.call b1); clear b1
    go_wp2_with (first | refine wpList_exe (exec_iN (m := z) (n := 3) _ _ (by rfl) (by rfl) (by rfl) (by rw [H1.out])) (by rfl) ?_ | refine wpList_exe (ktb HK 0 _ (by rfl) (by rfl) (by rfl)) (by rfl) ?_ | (refine wpList_stb (t2 := t) HK 3 rfl _ _ rfl rfl rfl rfl ?_; intro _ HK'; simp only [List.set] at HK'; replace HK := HK'; clear HK'))
    rw [← HX.out] at HK
    exact ret_tb Try.results18 rfl rfl (HK.out.blk 3 rfl) ⟨rfl, HK.out.b⟩
  have hc := HC.out (of_decide_eq_true H1.out)
  go_enter Try.func18, Try.ntmps18
  go_wp2_with (first | refine wpList_exe (ktb HK 0 _ (by rfl) (by rfl) (by rfl)) (by rfl) ?_ | refine wpList_exe (kexec_lr HK 1 _ (by rfl) (by rfl) (by rfl)) (by rfl) ?_ | (refine wpList_atb HK rfl rfl ?_; intro _ g1 HK'; simp only [List.cons_append, List.nil_append] at HK'; replace HK := HK'; clear HK'))
  refine (HL.out _).mono ?_; rintro e w1 ⟨rfl, b1⟩
  replace HK := Lib.hid (HK.out.call b1); clear b1
  go_wp2_with (first | refine wpList_exe (exec_iN (m := z) (n := 3) _ _ (by rfl) (by rfl) (by rfl) (by rw [H1.out])) (by rfl) ?_ | refine wpList_exe (krp HK 2 _ (by rfl) (by rfl) (by rfl)) (by rfl) ?_)
  refine (HP.out _).mono ?_; rintro e w1 ⟨rfl, b1⟩
  replace HK := Lib.hid (HK.out.call b1); clear b1
  cases b2
  case false =>
    have HX := Lib.hid (HN2.out (by simp))
    go_wp2_with (first | refine wpList_exe (ktb HK 0 _ (by rfl) (by rfl) (by rfl)) (by rfl) ?_ | (refine wpList_stb (t2 := t) HK 3 rfl _ _ rfl rfl rfl rfl ?_; intro _ HK'; simp only [List.set] at HK'; replace HK := HK'; clear HK'))
    rw [← HX.out] at HK
    exact ret_tb Try.results18 rfl rfl (HK.out.blk 3 rfl) ⟨rfl, HK.out.b⟩
  have HX := Lib.hid (HY.out (by simp) (by simp))
  go_wp2_with (first | refine wpList_exe (krf_c (x := r) HK 1 _ (by rfl) (by rfl) (by rfl)) (by rfl) ?_ | refine wpList_exe (exec_ixt hc _ _ (by rfl) (by rfl) (by rfl)) (by rfl) ?_ | (refine wpList_tsd (d := true) HK 0 rfl hc _ _ rfl rfl rfl rfl ?_; intro _ HK'; simp only [List.set] at HK'; replace HK := HK'; clear HK') | refine wpList_exe (krp HK 2 _ (by rfl) (by rfl) (by rfl)) (by rfl) ?_ | (refine wpList_tsp (p := x) HK 0 rfl hc _ _ rfl rfl rfl rfl ?_; intro _ HK'; simp only [List.set] at HK'; replace HK := HK'; clear HK') | refine wpList_exe (ktb HK 0 _ (by rfl) (by rfl) (by rfl)) (by rfl) ?_ | (refine wpList_stb  HK 3 rfl _ _ rfl rfl rfl rfl ?_; intro _ HK'; simp only [List.set] at HK'; replace HK := HK'; clear HK'))
  (try simp only [Ses.get_set hc, Ses.set_set hc] at HK)
  (try dsimp only at HK)
  rw [← HX.out] at HK
  exact ret_tb Try.results18 rfl rfl (HK.out.blk 3 rfl) ⟨rfl, HK.out.b⟩
end Go.Proofs.Ytbcdmmhbmjjooaa
