/-
  What session.Look and the document's Look return.
  No condition but that the floats and the request's number fit 64 bits.
-/
import Derived.Test.YtbcdmmhbmjjooaaSesRight
import Derived.Test.YtbcdmmhbmjjooaaSesM2
import Derived.Test.YtbcdmmhbmjjooaaCmr
import Derived.Deep.DeepCutAuto
set_option linter.unusedSimpArgs false
set_option linter.unusedVariables false
set_option maxRecDepth 100000
namespace Go.Proofs.Ytbcdmmhbmjjooaa
open Go.RowKit

set_option maxHeartbeats 12800000 in
theorem slook_any (t : Ses.T) (r : Rf) (w : World) (hf : Ses.Fit t) (hr : r.r ≤ 9223372036854775807) : Calls Try.prog 9 #[.agg (tbA t), .agg #[.int .i64 r.c, .int .i64 r.e, .int .i64 r.r]] w (IsN (Ses.look t r) w) := by
  have HM := Lib.hid (fun W => cmr_any r W)
  have HT := Lib.hid (fun W => sright_any t W hf)
  have HK := kn2 w 30 (tbA t) 32 #[.int .i64 r.c, .int .i64 r.e, .int .i64 r.r]
  have HO1 := Lib.hid (fun h => Ses.look_no1 (t := t) (r := r) h)
  have HO2 := Lib.hid (fun h => Ses.look_no2 (t := t) (r := r) h)
  have HO3 := Lib.hid (fun h1 h2 => Ses.look_ok (t := t) (r := r) h1 h2)
  have HO4 := Lib.hid (fun h1 => Ses.ok_wrap (r := r) h1 hr)
  have HO5 : Hid (decide (Lck.ok r) = true → 0 ≤ r.c ∧ r.c < 5) := Lib.hid (fun h => Ses.ok_c (of_decide_eq_true h))
  unfold IsN
  unfold IsB at HM HT
  clear hf hr
  generalize Ses.look t r = x at *
  generalize decide (Ses.Right t) = y at *
  generalize decide (Lck.ok r) = z at *
  go_enter Try.func9, Try.ntmps9
  go_wp2_with (first | refine wpList_exe (kexec_lr HK 1 _ (by rfl) (by rfl) (by rfl)) (by rfl) ?_)
  refine (HM.out _).mono ?_; rintro e w1 ⟨rfl, b1⟩
  replace HK := Lib.hid (HK.out.call b1); clear b1
  cases z
  case false =>
    have HX := Lib.hid (HO1.out (by simp))
    go_wp2_with fail
    go_ret
    exact ⟨by rw [HX.out] <;> rfl, HK.out.b⟩
  go_wp2_with (first | refine wpList_exe (ktb HK 0 _ (by rfl) (by rfl) (by rfl)) (by rfl) ?_)
  refine (HT.out _).mono ?_; rintro e w1 ⟨rfl, b1⟩
  replace HK := Lib.hid (HK.out.call b1); clear b1
  cases y
  case false =>
    have HX := Lib.hid (HO2.out (by simp))
    go_wp2_with fail
    go_ret
    exact ⟨by rw [HX.out] <;> rfl, HK.out.b⟩
  have HX := Lib.hid (HO3.out (by simp) (by simp))
  have HW := Lib.hid (HO4.out (by simp))
  have hc := HO5.out (by simp)
  clear HO1 HO2 HO3 HO4 HO5
  go_upto_region 4 with (first | refine wpList_exe (krf_c (x := r) HK 1 _ (by rfl) (by rfl) (by rfl)) (by rfl) ?_ | refine wpList_exe (exec_ixt hc _ _ (by rfl) (by rfl) (by rfl)) (by rfl) ?_ | refine wpList_exe (kts HK 0 hc _ (by rfl) (by rfl) (by rfl)) (by rfl) ?_ | (refine wpList_ase HK rfl rfl ?_; intro _ g1 HK'; simp only [List.cons_append, List.nil_append] at HK'; replace HK := HK'; clear HK') | (refine wpList_sse (u := t.get r.c) HK 2 rfl _ _ rfl rfl rfl rfl ?_; intro _ HK'; simp only [List.set] at HK'; replace HK := HK'; clear HK'))
  rw [Ses.look_b] at HX
  generalize t.get r.c = s at *
  obtain ⟨rc, re, rr⟩ := r
  obtain ⟨l, ep, rq, d, p⟩ := s
  dsimp only at *
  have HLa := Lib.hid (fun W => slast_any ⟨l, ep, rq, d, p⟩ W)
  have k0 := HK.out.cell 2 rfl 0 (v := .bool l) rfl
  have k1 := HK.out.cell 2 rfl 1 (v := .int .i64 ep) rfl
  have k2 := HK.out.cell 2 rfl 2 (v := .int .i64 rq) rfl
  have k3 := HK.out.cell 2 rfl 3 (v := .bool d) rfl
  have q0 := HK.out.cell 1 rfl 0 (v := .int .i64 rc) rfl
  have q1 := HK.out.cell 1 rfl 1 (v := .int .i64 re) rfl
  have q2 := HK.out.cell 1 rfl 2 (v := .int .i64 rr) rfl
  generalize h1 : decide (rr = 0) = b1 at *
  have H1 := Lib.hid h1
  generalize h2 : decide (ep < re) = b2 at *
  have H2 := Lib.hid h2
  generalize h3 : (!decide (re = ep)) = b3 at *
  have H3 := Lib.hid h3
  generalize h4 : decide (rr < rq) = b4 at *
  have H4 := Lib.hid h4
  generalize h5 : decide (rr = rq) = b5 at *
  have H5 := Lib.hid h5
  generalize h6 : decide (rr - 1 = rq) = b6 at *
  have H6 := Lib.hid h6
  clear h1 h2 h3 h4 h5 h6 hc
  unfold IsN at HLa
  cases b1
  case false =>
    cases b3
    case true =>
      go_wp2_with (first | refine wpList_exe (exec_iE (m := rr) (n := 0) _ _ (by rfl) (by rfl) (by rfl) H1.out) (by rfl) ?_ | refine wpList_exe (exec_iG (m := re) (n := ep) _ _ (by rfl) (by rfl) (by rfl) H2.out) (by rfl) ?_ | refine wpList_exe (exec_iN (m := re) (n := ep) _ _ (by rfl) (by rfl) (by rfl) H3.out) (by rfl) ?_)
      go_ret
      exact ⟨by rw [HX.out] <;> rfl, HK.out.b⟩
    cases b4
    case true =>
      go_wp2_with (first | refine wpList_exe (exec_iE (m := rr) (n := 0) _ _ (by rfl) (by rfl) (by rfl) H1.out) (by rfl) ?_ | refine wpList_exe (exec_iG (m := re) (n := ep) _ _ (by rfl) (by rfl) (by rfl) H2.out) (by rfl) ?_ | refine wpList_exe (exec_iN (m := re) (n := ep) _ _ (by rfl) (by rfl) (by rfl) H3.out) (by rfl) ?_ | refine wpList_exe (exec_iL (m := rr) (n := rq) _ _ (by rfl) (by rfl) (by rfl) H4.out) (by rfl) ?_)
      go_ret
      exact ⟨by rw [HX.out] <;> rfl, HK.out.b⟩
    cases b5
    case true =>
      cases d
      · go_wp2_with (first | refine wpList_exe (exec_iE (m := rr) (n := 0) _ _ (by rfl) (by rfl) (by rfl) H1.out) (by rfl) ?_ | refine wpList_exe (exec_iG (m := re) (n := ep) _ _ (by rfl) (by rfl) (by rfl) H2.out) (by rfl) ?_ | refine wpList_exe (exec_iN (m := re) (n := ep) _ _ (by rfl) (by rfl) (by rfl) H3.out) (by rfl) ?_ | refine wpList_exe (exec_iL (m := rr) (n := rq) _ _ (by rfl) (by rfl) (by rfl) H4.out) (by rfl) ?_ | refine wpList_exe (exec_iE (m := rr) (n := rq) _ _ (by rfl) (by rfl) (by rfl) H5.out) (by rfl) ?_ | refine wpList_exe (kse HK 2 _ (by rfl) (by rfl) (by rfl)) (by rfl) ?_)
        refine (HLa.out _).mono ?_; rintro e w1 ⟨rfl, b1⟩
        replace HK := Lib.hid (HK.out.call b1); clear b1 k0 k1 k2 k3 q0 q1 q2
        go_wp2_with fail
        go_ret
        exact ⟨by rw [HX.out] <;> rfl, HK.out.b⟩
      · go_wp2_with (first | refine wpList_exe (exec_iE (m := rr) (n := 0) _ _ (by rfl) (by rfl) (by rfl) H1.out) (by rfl) ?_ | refine wpList_exe (exec_iG (m := re) (n := ep) _ _ (by rfl) (by rfl) (by rfl) H2.out) (by rfl) ?_ | refine wpList_exe (exec_iN (m := re) (n := ep) _ _ (by rfl) (by rfl) (by rfl) H3.out) (by rfl) ?_ | refine wpList_exe (exec_iL (m := rr) (n := rq) _ _ (by rfl) (by rfl) (by rfl) H4.out) (by rfl) ?_ | refine wpList_exe (exec_iE (m := rr) (n := rq) _ _ (by rfl) (by rfl) (by rfl) H5.out) (by rfl) ?_ | refine wpList_exe (kse HK 2 _ (by rfl) (by rfl) (by rfl)) (by rfl) ?_)
        refine (HLa.out _).mono ?_; rintro e w1 ⟨rfl, b1⟩
        replace HK := Lib.hid (HK.out.call b1); clear b1 k0 k1 k2 k3 q0 q1 q2
        go_wp2_with fail
        go_ret
        exact ⟨by rw [HX.out] <;> rfl, HK.out.b⟩
    cases l
    case false =>
      go_wp2_with (first | refine wpList_exe (exec_iE (m := rr) (n := 0) _ _ (by rfl) (by rfl) (by rfl) H1.out) (by rfl) ?_ | refine wpList_exe (exec_iG (m := re) (n := ep) _ _ (by rfl) (by rfl) (by rfl) H2.out) (by rfl) ?_ | refine wpList_exe (exec_iN (m := re) (n := ep) _ _ (by rfl) (by rfl) (by rfl) H3.out) (by rfl) ?_ | refine wpList_exe (exec_iL (m := rr) (n := rq) _ _ (by rfl) (by rfl) (by rfl) H4.out) (by rfl) ?_ | refine wpList_exe (exec_iE (m := rr) (n := rq) _ _ (by rfl) (by rfl) (by rfl) H5.out) (by rfl) ?_)
      go_ret
      exact ⟨by rw [HX.out] <;> rfl, HK.out.b⟩
    cases b6
    case false =>
      go_wp2_with (first | refine wpList_exe (exec_iE (m := rr) (n := 0) _ _ (by rfl) (by rfl) (by rfl) H1.out) (by rfl) ?_ | refine wpList_exe (exec_iG (m := re) (n := ep) _ _ (by rfl) (by rfl) (by rfl) H2.out) (by rfl) ?_ | refine wpList_exe (exec_iN (m := re) (n := ep) _ _ (by rfl) (by rfl) (by rfl) H3.out) (by rfl) ?_ | refine wpList_exe (exec_iL (m := rr) (n := rq) _ _ (by rfl) (by rfl) (by rfl) H4.out) (by rfl) ?_ | refine wpList_exe (exec_iE (m := rr) (n := rq) _ _ (by rfl) (by rfl) (by rfl) H5.out) (by rfl) ?_ | refine wpList_exe (exec_iE (m := rr - 1) (n := rq) _ _ (by rfl) (by rfl) (by rfl) H6.out) (by rfl) ?_ | refine wpList_exe (exec_dec (m := rr) (n := rr - 1) _ (by rfl) (by rfl) HW.out) (by rfl) ?_)
      go_ret
      exact ⟨by rw [HX.out] <;> rfl, HK.out.b⟩
    cases d
    case true =>
      go_wp2_with (first | refine wpList_exe (exec_iE (m := rr) (n := 0) _ _ (by rfl) (by rfl) (by rfl) H1.out) (by rfl) ?_ | refine wpList_exe (exec_iG (m := re) (n := ep) _ _ (by rfl) (by rfl) (by rfl) H2.out) (by rfl) ?_ | refine wpList_exe (exec_iN (m := re) (n := ep) _ _ (by rfl) (by rfl) (by rfl) H3.out) (by rfl) ?_ | refine wpList_exe (exec_iL (m := rr) (n := rq) _ _ (by rfl) (by rfl) (by rfl) H4.out) (by rfl) ?_ | refine wpList_exe (exec_iE (m := rr) (n := rq) _ _ (by rfl) (by rfl) (by rfl) H5.out) (by rfl) ?_ | refine wpList_exe (exec_iE (m := rr - 1) (n := rq) _ _ (by rfl) (by rfl) (by rfl) H6.out) (by rfl) ?_ | refine wpList_exe (exec_dec (m := rr) (n := rr - 1) _ (by rfl) (by rfl) HW.out) (by rfl) ?_)
      go_ret
      exact ⟨by rw [HX.out] <;> rfl, HK.out.b⟩
    go_wp2_with (first | refine wpList_exe (exec_iE (m := rr) (n := 0) _ _ (by rfl) (by rfl) (by rfl) H1.out) (by rfl) ?_ | refine wpList_exe (exec_iG (m := re) (n := ep) _ _ (by rfl) (by rfl) (by rfl) H2.out) (by rfl) ?_ | refine wpList_exe (exec_iN (m := re) (n := ep) _ _ (by rfl) (by rfl) (by rfl) H3.out) (by rfl) ?_ | refine wpList_exe (exec_iL (m := rr) (n := rq) _ _ (by rfl) (by rfl) (by rfl) H4.out) (by rfl) ?_ | refine wpList_exe (exec_iE (m := rr) (n := rq) _ _ (by rfl) (by rfl) (by rfl) H5.out) (by rfl) ?_ | refine wpList_exe (exec_iE (m := rr - 1) (n := rq) _ _ (by rfl) (by rfl) (by rfl) H6.out) (by rfl) ?_ | refine wpList_exe (exec_dec (m := rr) (n := rr - 1) _ (by rfl) (by rfl) HW.out) (by rfl) ?_)
    go_ret
    exact ⟨by rw [HX.out] <;> rfl, HK.out.b⟩
  cases b2
  case false =>
    cases b3
    case true =>
      go_wp2_with (first | refine wpList_exe (exec_iE (m := rr) (n := 0) _ _ (by rfl) (by rfl) (by rfl) H1.out) (by rfl) ?_ | refine wpList_exe (exec_iG (m := re) (n := ep) _ _ (by rfl) (by rfl) (by rfl) H2.out) (by rfl) ?_ | refine wpList_exe (exec_iN (m := re) (n := ep) _ _ (by rfl) (by rfl) (by rfl) H3.out) (by rfl) ?_)
      go_ret
      exact ⟨by rw [HX.out] <;> rfl, HK.out.b⟩
    cases b4
    case true =>
      go_wp2_with (first | refine wpList_exe (exec_iE (m := rr) (n := 0) _ _ (by rfl) (by rfl) (by rfl) H1.out) (by rfl) ?_ | refine wpList_exe (exec_iG (m := re) (n := ep) _ _ (by rfl) (by rfl) (by rfl) H2.out) (by rfl) ?_ | refine wpList_exe (exec_iN (m := re) (n := ep) _ _ (by rfl) (by rfl) (by rfl) H3.out) (by rfl) ?_ | refine wpList_exe (exec_iL (m := rr) (n := rq) _ _ (by rfl) (by rfl) (by rfl) H4.out) (by rfl) ?_)
      go_ret
      exact ⟨by rw [HX.out] <;> rfl, HK.out.b⟩
    cases b5
    case true =>
      cases d
      · go_wp2_with (first | refine wpList_exe (exec_iE (m := rr) (n := 0) _ _ (by rfl) (by rfl) (by rfl) H1.out) (by rfl) ?_ | refine wpList_exe (exec_iG (m := re) (n := ep) _ _ (by rfl) (by rfl) (by rfl) H2.out) (by rfl) ?_ | refine wpList_exe (exec_iN (m := re) (n := ep) _ _ (by rfl) (by rfl) (by rfl) H3.out) (by rfl) ?_ | refine wpList_exe (exec_iL (m := rr) (n := rq) _ _ (by rfl) (by rfl) (by rfl) H4.out) (by rfl) ?_ | refine wpList_exe (exec_iE (m := rr) (n := rq) _ _ (by rfl) (by rfl) (by rfl) H5.out) (by rfl) ?_ | refine wpList_exe (kse HK 2 _ (by rfl) (by rfl) (by rfl)) (by rfl) ?_)
        refine (HLa.out _).mono ?_; rintro e w1 ⟨rfl, b1⟩
        replace HK := Lib.hid (HK.out.call b1); clear b1 k0 k1 k2 k3 q0 q1 q2
        go_wp2_with fail
        go_ret
        exact ⟨by rw [HX.out] <;> rfl, HK.out.b⟩
      · go_wp2_with (first | refine wpList_exe (exec_iE (m := rr) (n := 0) _ _ (by rfl) (by rfl) (by rfl) H1.out) (by rfl) ?_ | refine wpList_exe (exec_iG (m := re) (n := ep) _ _ (by rfl) (by rfl) (by rfl) H2.out) (by rfl) ?_ | refine wpList_exe (exec_iN (m := re) (n := ep) _ _ (by rfl) (by rfl) (by rfl) H3.out) (by rfl) ?_ | refine wpList_exe (exec_iL (m := rr) (n := rq) _ _ (by rfl) (by rfl) (by rfl) H4.out) (by rfl) ?_ | refine wpList_exe (exec_iE (m := rr) (n := rq) _ _ (by rfl) (by rfl) (by rfl) H5.out) (by rfl) ?_ | refine wpList_exe (kse HK 2 _ (by rfl) (by rfl) (by rfl)) (by rfl) ?_)
        refine (HLa.out _).mono ?_; rintro e w1 ⟨rfl, b1⟩
        replace HK := Lib.hid (HK.out.call b1); clear b1 k0 k1 k2 k3 q0 q1 q2
        go_wp2_with fail
        go_ret
        exact ⟨by rw [HX.out] <;> rfl, HK.out.b⟩
    cases l
    case false =>
      go_wp2_with (first | refine wpList_exe (exec_iE (m := rr) (n := 0) _ _ (by rfl) (by rfl) (by rfl) H1.out) (by rfl) ?_ | refine wpList_exe (exec_iG (m := re) (n := ep) _ _ (by rfl) (by rfl) (by rfl) H2.out) (by rfl) ?_ | refine wpList_exe (exec_iN (m := re) (n := ep) _ _ (by rfl) (by rfl) (by rfl) H3.out) (by rfl) ?_ | refine wpList_exe (exec_iL (m := rr) (n := rq) _ _ (by rfl) (by rfl) (by rfl) H4.out) (by rfl) ?_ | refine wpList_exe (exec_iE (m := rr) (n := rq) _ _ (by rfl) (by rfl) (by rfl) H5.out) (by rfl) ?_)
      go_ret
      exact ⟨by rw [HX.out] <;> rfl, HK.out.b⟩
    cases b6
    case false =>
      go_wp2_with (first | refine wpList_exe (exec_iE (m := rr) (n := 0) _ _ (by rfl) (by rfl) (by rfl) H1.out) (by rfl) ?_ | refine wpList_exe (exec_iG (m := re) (n := ep) _ _ (by rfl) (by rfl) (by rfl) H2.out) (by rfl) ?_ | refine wpList_exe (exec_iN (m := re) (n := ep) _ _ (by rfl) (by rfl) (by rfl) H3.out) (by rfl) ?_ | refine wpList_exe (exec_iL (m := rr) (n := rq) _ _ (by rfl) (by rfl) (by rfl) H4.out) (by rfl) ?_ | refine wpList_exe (exec_iE (m := rr) (n := rq) _ _ (by rfl) (by rfl) (by rfl) H5.out) (by rfl) ?_ | refine wpList_exe (exec_iE (m := rr - 1) (n := rq) _ _ (by rfl) (by rfl) (by rfl) H6.out) (by rfl) ?_ | refine wpList_exe (exec_dec (m := rr) (n := rr - 1) _ (by rfl) (by rfl) HW.out) (by rfl) ?_)
      go_ret
      exact ⟨by rw [HX.out] <;> rfl, HK.out.b⟩
    cases d
    case true =>
      go_wp2_with (first | refine wpList_exe (exec_iE (m := rr) (n := 0) _ _ (by rfl) (by rfl) (by rfl) H1.out) (by rfl) ?_ | refine wpList_exe (exec_iG (m := re) (n := ep) _ _ (by rfl) (by rfl) (by rfl) H2.out) (by rfl) ?_ | refine wpList_exe (exec_iN (m := re) (n := ep) _ _ (by rfl) (by rfl) (by rfl) H3.out) (by rfl) ?_ | refine wpList_exe (exec_iL (m := rr) (n := rq) _ _ (by rfl) (by rfl) (by rfl) H4.out) (by rfl) ?_ | refine wpList_exe (exec_iE (m := rr) (n := rq) _ _ (by rfl) (by rfl) (by rfl) H5.out) (by rfl) ?_ | refine wpList_exe (exec_iE (m := rr - 1) (n := rq) _ _ (by rfl) (by rfl) (by rfl) H6.out) (by rfl) ?_ | refine wpList_exe (exec_dec (m := rr) (n := rr - 1) _ (by rfl) (by rfl) HW.out) (by rfl) ?_)
      go_ret
      exact ⟨by rw [HX.out] <;> rfl, HK.out.b⟩
    go_wp2_with (first | refine wpList_exe (exec_iE (m := rr) (n := 0) _ _ (by rfl) (by rfl) (by rfl) H1.out) (by rfl) ?_ | refine wpList_exe (exec_iG (m := re) (n := ep) _ _ (by rfl) (by rfl) (by rfl) H2.out) (by rfl) ?_ | refine wpList_exe (exec_iN (m := re) (n := ep) _ _ (by rfl) (by rfl) (by rfl) H3.out) (by rfl) ?_ | refine wpList_exe (exec_iL (m := rr) (n := rq) _ _ (by rfl) (by rfl) (by rfl) H4.out) (by rfl) ?_ | refine wpList_exe (exec_iE (m := rr) (n := rq) _ _ (by rfl) (by rfl) (by rfl) H5.out) (by rfl) ?_ | refine wpList_exe (exec_iE (m := rr - 1) (n := rq) _ _ (by rfl) (by rfl) (by rfl) H6.out) (by rfl) ?_ | refine wpList_exe (exec_dec (m := rr) (n := rr - 1) _ (by rfl) (by rfl) HW.out) (by rfl) ?_)
    go_ret
    exact ⟨by rw [HX.out] <;> rfl, HK.out.b⟩
  go_wp2_with (first | refine wpList_exe (exec_iE (m := rr) (n := 0) _ _ (by rfl) (by rfl) (by rfl) H1.out) (by rfl) ?_ | refine wpList_exe (exec_iG (m := re) (n := ep) _ _ (by rfl) (by rfl) (by rfl) H2.out) (by rfl) ?_)
  go_ret
  exact ⟨by rw [HX.out] <;> rfl, HK.out.b⟩
end Go.Proofs.Ytbcdmmhbmjjooaa
