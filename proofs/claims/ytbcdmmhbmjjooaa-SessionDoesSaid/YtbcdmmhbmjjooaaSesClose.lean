/-
  What session.Close and the document's return.
  No condition but that floats and numbers fit 64 bits.
-/
import Derived.Test.YtbcdmmhbmjjooaaSesLook
import Derived.Test.YtbcdmmhbmjjooaaSesRLook
import Derived.Test.YtbcdmmhbmjjooaaSesM3
set_option linter.unusedSimpArgs false
set_option linter.unusedVariables false
set_option maxRecDepth 100000
namespace Go.Proofs.Ytbcdmmhbmjjooaa
open Go.RowKit

set_option maxHeartbeats 6400000 in
theorem sclose_any (t : Ses.T) (c : Int) (w : World) (hf : Ses.Fit t) : Calls Try.prog 19 #[.agg (tbA t), .int .i64 c] w (IsT (Ses.closeT t c) w) := by
  have HR := Lib.hid (fun W => sright_any t W hf)
  have HK := kn1 w 30 (tbA t)
  have HLo := Lib.hid (fun h => Ses.cl_lo (t := t) (c := c) h)
  have HHi := Lib.hid (fun h => Ses.cl_hi (t := t) (c := c) h)
  have HNo := Lib.hid (fun h => Ses.cl_no (t := t) (c := c) h)
  have HDe := Lib.hid (fun h => Ses.cl_dead (t := t) (c := c) h)
  have HIn := Lib.hid (fun h1 h2 => Ses.cl_in (c := c) h1 h2)
  have HDo := Lib.hid (fun h1 h2 h3 h4 => Ses.cl_done (t := t) (c := c) h1 h2 h3 h4)
  have HOp := Lib.hid (fun h1 h2 h3 h4 => Ses.cl_open (t := t) (c := c) h1 h2 h3 h4)
  have HD := Lib.hid (fun W => sdone_any (t.get c) (Sto.err 14) W)
  unfold IsS at HD
  unfold IsT
  unfold IsB at HR
  clear hf
  generalize Ses.closeT t c = y at *
  generalize decide (Ses.Right t) = b3 at *
  generalize h1 : decide (c < 0) = b1 at *
  have H1 := Lib.hid h1
  generalize h2 : decide (5 ≤ c) = b2 at *
  have H2 := Lib.hid h2
  clear h1 h2
  cases b1
  case true =>
    have HX := Lib.hid (HLo.out (by simp))
    go_enter Try.func19, Try.ntmps19
    go_wp2_with (first | (refine wpList_atb HK rfl rfl ?_; intro _ g1 HK'; simp only [List.cons_append, List.nil_append] at HK'; replace HK := HK'; clear HK') | refine wpList_exe (exec_iL (m := c) (n := 0) _ _ (by rfl) (by rfl) (by rfl) H1.out) (by rfl) ?_ | refine wpList_exe (ktb HK 0 _ (by rfl) (by rfl) (by rfl)) (by rfl) ?_ | (refine wpList_stb (t2 := t) HK 1 rfl _ _ rfl rfl rfl rfl ?_; intro _ HK'; simp only [List.set] at HK'; replace HK := HK'; clear HK'))
    rw [← HX.out] at HK
    exact ret_tb Try.results19 rfl rfl (HK.out.blk 1 rfl) ⟨rfl, HK.out.b⟩
  cases b2
  case true =>
    have HX := Lib.hid (HHi.out (by simp))
    go_enter Try.func19, Try.ntmps19
    go_wp2_with (first | (refine wpList_atb HK rfl rfl ?_; intro _ g1 HK'; simp only [List.cons_append, List.nil_append] at HK'; replace HK := HK'; clear HK') | refine wpList_exe (exec_iL (m := c) (n := 0) _ _ (by rfl) (by rfl) (by rfl) H1.out) (by rfl) ?_ | refine wpList_exe (exec_iGe (m := c) (n := 5) _ _ (by rfl) (by rfl) (by rfl) H2.out) (by rfl) ?_ | refine wpList_exe (ktb HK 0 _ (by rfl) (by rfl) (by rfl)) (by rfl) ?_ | (refine wpList_stb (t2 := t) HK 1 rfl _ _ rfl rfl rfl rfl ?_; intro _ HK'; simp only [List.set] at HK'; replace HK := HK'; clear HK'))
    rw [← HX.out] at HK
    exact ret_tb Try.results19 rfl rfl (HK.out.blk 1 rfl) ⟨rfl, HK.out.b⟩
  have hc := HIn.out (by simp) (by simp)
  go_enter Try.func19, Try.ntmps19
  go_wp2_with (first | (refine wpList_atb HK rfl rfl ?_; intro _ g1 HK'; simp only [List.cons_append, List.nil_append] at HK'; replace HK := HK'; clear HK') | refine wpList_exe (exec_iL (m := c) (n := 0) _ _ (by rfl) (by rfl) (by rfl) H1.out) (by rfl) ?_ | refine wpList_exe (exec_iGe (m := c) (n := 5) _ _ (by rfl) (by rfl) (by rfl) H2.out) (by rfl) ?_ | refine wpList_exe (ktb HK 0 _ (by rfl) (by rfl) (by rfl)) (by rfl) ?_)
  refine (HR.out _).mono ?_; rintro e w1 ⟨rfl, b1⟩
  replace HK := Lib.hid (HK.out.call b1); clear b1
  cases b3
  case false =>
    have HX := Lib.hid (HNo.out (by simp))
    go_wp2_with (first | refine wpList_exe (ktb HK 0 _ (by rfl) (by rfl) (by rfl)) (by rfl) ?_ | (refine wpList_stb (t2 := t) HK 1 rfl _ _ rfl rfl rfl rfl ?_; intro _ HK'; simp only [List.set] at HK'; replace HK := HK'; clear HK'))
    rw [← HX.out] at HK
    exact ret_tb Try.results19 rfl rfl (HK.out.blk 1 rfl) ⟨rfl, HK.out.b⟩
  cases hl : (t.get c).live
  case false =>
    have HX := Lib.hid (HDe.out hl)
    have HV := Lib.hid hl
    clear hl
    go_wp2_with (first | refine wpList_exe (exec_ixt hc _ _ (by rfl) (by rfl) (by rfl)) (by rfl) ?_ | refine wpList_exe ((kts_l HK 0 hc _ (by rfl) (by rfl) (by rfl)).trans (by rw [HV.out])) (by rfl) ?_ | refine wpList_exe (ktb HK 0 _ (by rfl) (by rfl) (by rfl)) (by rfl) ?_ | (refine wpList_stb (t2 := t) HK 1 rfl _ _ rfl rfl rfl rfl ?_; intro _ HK'; simp only [List.set] at HK'; replace HK := HK'; clear HK'))
    rw [← HX.out] at HK
    exact ret_tb Try.results19 rfl rfl (HK.out.blk 1 rfl) ⟨rfl, HK.out.b⟩
  cases hd : (t.get c).dn
  case false =>
    have HX := Lib.hid (HOp.out hc (by simp) hl hd)
    have HV := Lib.hid hl
    have HW := Lib.hid hd
    clear hl hd
    go_wp2_with (first | refine wpList_exe (exec_ixt hc _ _ (by rfl) (by rfl) (by rfl)) (by rfl) ?_ | refine wpList_exe ((kts_l HK 0 hc _ (by rfl) (by rfl) (by rfl)).trans (by rw [HV.out])) (by rfl) ?_ | refine wpList_exe ((kts_d HK 0 hc _ (by rfl) (by rfl) (by rfl)).trans (by rw [HW.out])) (by rfl) ?_ | refine wpList_exe (kts HK 0 hc _ (by rfl) (by rfl) (by rfl)) (by rfl) ?_ | refine wpList_exe (exec_rk (e := 14) (by rfl)) (by rfl) ?_)
    refine (HD.out _).mono ?_; rintro e w1 ⟨rfl, b1⟩
    replace HK := Lib.hid (HK.out.call b1); clear b1
    go_wp2_with (first | refine wpList_exe (exec_ixt hc _ _ (by rfl) (by rfl) (by rfl)) (by rfl) ?_ | (refine wpList_tss (s := { t.get c with dn := true, p := Sto.err 14 }) HK 0 rfl hc _ _ rfl rfl rfl rfl ?_; intro _ HK'; simp only [List.set] at HK'; replace HK := HK'; clear HK') | (refine wpList_tsl (d := false) HK 0 rfl hc _ _ rfl rfl rfl rfl ?_; intro _ HK'; simp only [List.set] at HK'; replace HK := HK'; clear HK') | refine wpList_exe (ktb HK 0 _ (by rfl) (by rfl) (by rfl)) (by rfl) ?_ | (refine wpList_stb  HK 1 rfl _ _ rfl rfl rfl rfl ?_; intro _ HK'; simp only [List.set] at HK'; replace HK := HK'; clear HK'))
    (try simp only [Ses.get_set hc, Ses.set_set hc] at HK)
    (try dsimp only at HK)
    rw [← HX.out] at HK
    exact ret_tb Try.results19 rfl rfl (HK.out.blk 1 rfl) ⟨rfl, HK.out.b⟩
  case true =>
    have HX := Lib.hid (HDo.out hc (by simp) hl hd)
    have HV := Lib.hid hl
    have HW := Lib.hid hd
    clear hl hd
    go_wp2_with (first | refine wpList_exe (exec_ixt hc _ _ (by rfl) (by rfl) (by rfl)) (by rfl) ?_ | refine wpList_exe ((kts_l HK 0 hc _ (by rfl) (by rfl) (by rfl)).trans (by rw [HV.out])) (by rfl) ?_ | refine wpList_exe ((kts_d HK 0 hc _ (by rfl) (by rfl) (by rfl)).trans (by rw [HW.out])) (by rfl) ?_ | (refine wpList_tsl (d := false) HK 0 rfl hc _ _ rfl rfl rfl rfl ?_; intro _ HK'; simp only [List.set] at HK'; replace HK := HK'; clear HK') | refine wpList_exe (ktb HK 0 _ (by rfl) (by rfl) (by rfl)) (by rfl) ?_ | (refine wpList_stb  HK 1 rfl _ _ rfl rfl rfl rfl ?_; intro _ HK'; simp only [List.set] at HK'; replace HK := HK'; clear HK'))
    (try simp only [Ses.get_set hc, Ses.set_set hc] at HK)
    (try dsimp only at HK)
    rw [← HX.out] at HK
    exact ret_tb Try.results19 rfl rfl (HK.out.blk 1 rfl) ⟨rfl, HK.out.b⟩
set_option maxHeartbeats 6400000 in
theorem rclose_any (t : Ses.T) (c : Int) (w : World) (hf : Ses.Fit t) : Calls Try.prog 20 #[.agg (tbA t), .int .i64 c] w (IsT (Ses.closeT t c) w) := by
  have HR := Lib.hid (fun W => rright_any t W hf)
  have HK := kn1 w 30 (tbA t)
  have HLo := Lib.hid (fun h => Ses.cl_lo (t := t) (c := c) h)
  have HHi := Lib.hid (fun h => Ses.cl_hi (t := t) (c := c) h)
  have HNo := Lib.hid (fun h => Ses.cl_no (t := t) (c := c) h)
  have HDe := Lib.hid (fun h => Ses.cl_dead (t := t) (c := c) h)
  have HIn := Lib.hid (fun h1 h2 => Ses.cl_in (c := c) h1 h2)
  have HDo := Lib.hid (fun h1 h2 h3 h4 => Ses.cl_done (t := t) (c := c) h1 h2 h3 h4)
  have HOp := Lib.hid (fun h1 h2 h3 h4 => Ses.cl_open (t := t) (c := c) h1 h2 h3 h4)
  unfold IsT
  unfold IsB at HR
  clear hf
  generalize Ses.closeT t c = y at *
  generalize decide (Ses.Right t) = b3 at *
  generalize h1 : decide (c < 0) = b1 at *
  have H1 := Lib.hid h1
  generalize h2 : decide (5 ≤ c) = b2 at *
  have H2 := Lib.hid h2
  clear h1 h2
  cases b1
  case true =>
    have HX := Lib.hid (HLo.out (by simp))
    go_enter Try.func20, Try.ntmps20
    go_wp2_with (first | (refine wpList_atb HK rfl rfl ?_; intro _ g1 HK'; simp only [List.cons_append, List.nil_append] at HK'; replace HK := HK'; clear HK') | refine wpList_exe (exec_iL (m := c) (n := 0) _ _ (by rfl) (by rfl) (by rfl) H1.out) (by rfl) ?_ | refine wpList_exe (ktb HK 0 _ (by rfl) (by rfl) (by rfl)) (by rfl) ?_ | (refine wpList_stb (t2 := t) HK 1 rfl _ _ rfl rfl rfl rfl ?_; intro _ HK'; simp only [List.set] at HK'; replace HK := HK'; clear HK'))
    rw [← HX.out] at HK
    exact ret_tb Try.results20 rfl rfl (HK.out.blk 1 rfl) ⟨rfl, HK.out.b⟩
  cases b2
  case true =>
    have HX := Lib.hid (HHi.out (by simp))
    go_enter Try.func20, Try.ntmps20
    go_wp2_with (first | (refine wpList_atb HK rfl rfl ?_; intro _ g1 HK'; simp only [List.cons_append, List.nil_append] at HK'; replace HK := HK'; clear HK') | refine wpList_exe (exec_iL (m := c) (n := 0) _ _ (by rfl) (by rfl) (by rfl) H1.out) (by rfl) ?_ | refine wpList_exe (exec_iGe (m := c) (n := 5) _ _ (by rfl) (by rfl) (by rfl) H2.out) (by rfl) ?_ | refine wpList_exe (ktb HK 0 _ (by rfl) (by rfl) (by rfl)) (by rfl) ?_ | (refine wpList_stb (t2 := t) HK 1 rfl _ _ rfl rfl rfl rfl ?_; intro _ HK'; simp only [List.set] at HK'; replace HK := HK'; clear HK'))
    rw [← HX.out] at HK
    exact ret_tb Try.results20 rfl rfl (HK.out.blk 1 rfl) ⟨rfl, HK.out.b⟩
  have hc := HIn.out (by simp) (by simp)
  go_enter Try.func20, Try.ntmps20
  go_wp2_with (first | (refine wpList_atb HK rfl rfl ?_; intro _ g1 HK'; simp only [List.cons_append, List.nil_append] at HK'; replace HK := HK'; clear HK') | refine wpList_exe (exec_iL (m := c) (n := 0) _ _ (by rfl) (by rfl) (by rfl) H1.out) (by rfl) ?_ | refine wpList_exe (exec_iGe (m := c) (n := 5) _ _ (by rfl) (by rfl) (by rfl) H2.out) (by rfl) ?_ | refine wpList_exe (ktb HK 0 _ (by rfl) (by rfl) (by rfl)) (by rfl) ?_)
  refine (HR.out _).mono ?_; rintro e w1 ⟨rfl, b1⟩
  replace HK := Lib.hid (HK.out.call b1); clear b1
  cases b3
  case false =>
    have HX := Lib.hid (HNo.out (by simp))
    go_wp2_with (first | refine wpList_exe (ktb HK 0 _ (by rfl) (by rfl) (by rfl)) (by rfl) ?_ | (refine wpList_stb (t2 := t) HK 1 rfl _ _ rfl rfl rfl rfl ?_; intro _ HK'; simp only [List.set] at HK'; replace HK := HK'; clear HK'))
    rw [← HX.out] at HK
    exact ret_tb Try.results20 rfl rfl (HK.out.blk 1 rfl) ⟨rfl, HK.out.b⟩
  cases hl : (t.get c).live
  case false =>
    have HX := Lib.hid (HDe.out hl)
    have HV := Lib.hid hl
    clear hl
    go_wp2_with (first | refine wpList_exe (exec_ixt hc _ _ (by rfl) (by rfl) (by rfl)) (by rfl) ?_ | refine wpList_exe ((kts_l HK 0 hc _ (by rfl) (by rfl) (by rfl)).trans (by rw [HV.out])) (by rfl) ?_ | refine wpList_exe (ktb HK 0 _ (by rfl) (by rfl) (by rfl)) (by rfl) ?_ | (refine wpList_stb (t2 := t) HK 1 rfl _ _ rfl rfl rfl rfl ?_; intro _ HK'; simp only [List.set] at HK'; replace HK := HK'; clear HK'))
    rw [← HX.out] at HK
    exact ret_tb Try.results20 rfl rfl (HK.out.blk 1 rfl) ⟨rfl, HK.out.b⟩
  cases hd : (t.get c).dn
  case false =>
    obtain ⟨ep, rq, p, hs⟩ := Ses.get_as hl hd
    have HX := Lib.hid (HOp.out hc (by simp) hl hd)
    have HV := Lib.hid hl
    have HW := Lib.hid hd
    clear hl hd
    have HS := Lib.hid hs
    clear hs
    rw [HS.out] at HX
    dsimp only at HX
    go_wp2_with (first | refine wpList_exe (exec_ixt hc _ _ (by rfl) (by rfl) (by rfl)) (by rfl) ?_ | refine wpList_exe ((kts_l HK 0 hc _ (by rfl) (by rfl) (by rfl)).trans (by rw [HV.out])) (by rfl) ?_ | refine wpList_exe ((kts HK 0 hc _ (by rfl) (by rfl) (by rfl)).trans (by rw [HS.out])) (by rfl) ?_ | (refine wpList_ase HK rfl rfl ?_; intro _ g2 HK'; simp only [List.cons_append, List.nil_append] at HK'; replace HK := HK'; clear HK') | (refine wpList_sse (s := Ses.z) (u := ⟨true, ep, rq, false, p⟩) HK 2 rfl _ _ rfl rfl rfl rfl ?_; intro _ HK'; simp only [List.set] at HK'; replace HK := HK'; clear HK') | (refine wpList_ssl (d := false) HK 2 rfl _ _ rfl rfl rfl rfl ?_; intro _ HK'; simp only [List.set] at HK'; replace HK := HK'; clear HK') | refine wpList_exe (kse_d HK 2 _ (by rfl) (by rfl) (by rfl)) (by rfl) ?_ | (refine wpList_ssd (d := true) HK 2 rfl _ _ rfl rfl rfl rfl ?_; intro _ HK'; simp only [List.set] at HK'; replace HK := HK'; clear HK') | (refine wpList_ssp (p := Sto.err 14) HK 2 rfl _ _ rfl rfl rfl rfl ?_; intro _ HK'; simp only [List.set] at HK'; replace HK := HK'; clear HK') | refine wpList_exe (exec_rk (e := 14) (by rfl)) (by rfl) ?_ | refine wpList_exe (kse HK 2 _ (by rfl) (by rfl) (by rfl)) (by rfl) ?_ | (refine wpList_tss  HK 0 rfl hc _ _ rfl rfl rfl rfl ?_; intro _ HK'; simp only [List.set] at HK'; replace HK := HK'; clear HK') | refine wpList_exe (ktb HK 0 _ (by rfl) (by rfl) (by rfl)) (by rfl) ?_ | (refine wpList_stb  HK 1 rfl _ _ rfl rfl rfl rfl ?_; intro _ HK'; simp only [List.set] at HK'; replace HK := HK'; clear HK'))
    (try simp only [Ses.get_set hc, Ses.set_set hc] at HK)
    (try dsimp only at HK)
    rw [← HX.out] at HK
    exact ret_tb Try.results20 rfl rfl (HK.out.blk 1 rfl) ⟨rfl, HK.out.b⟩
  case true =>
    obtain ⟨ep, rq, p, hs⟩ := Ses.get_as hl hd
    have HX := Lib.hid (HDo.out hc (by simp) hl hd)
    have HV := Lib.hid hl
    have HW := Lib.hid hd
    clear hl hd
    have HS := Lib.hid hs
    clear hs
    rw [HS.out] at HX
    dsimp only at HX
    go_wp2_with (first | refine wpList_exe (exec_ixt hc _ _ (by rfl) (by rfl) (by rfl)) (by rfl) ?_ | refine wpList_exe ((kts_l HK 0 hc _ (by rfl) (by rfl) (by rfl)).trans (by rw [HV.out])) (by rfl) ?_ | refine wpList_exe ((kts HK 0 hc _ (by rfl) (by rfl) (by rfl)).trans (by rw [HS.out])) (by rfl) ?_ | (refine wpList_ase HK rfl rfl ?_; intro _ g2 HK'; simp only [List.cons_append, List.nil_append] at HK'; replace HK := HK'; clear HK') | (refine wpList_sse (s := Ses.z) (u := ⟨true, ep, rq, true, p⟩) HK 2 rfl _ _ rfl rfl rfl rfl ?_; intro _ HK'; simp only [List.set] at HK'; replace HK := HK'; clear HK') | (refine wpList_ssl (d := false) HK 2 rfl _ _ rfl rfl rfl rfl ?_; intro _ HK'; simp only [List.set] at HK'; replace HK := HK'; clear HK') | refine wpList_exe (kse_d HK 2 _ (by rfl) (by rfl) (by rfl)) (by rfl) ?_ | refine wpList_exe (kse HK 2 _ (by rfl) (by rfl) (by rfl)) (by rfl) ?_ | (refine wpList_tss  HK 0 rfl hc _ _ rfl rfl rfl rfl ?_; intro _ HK'; simp only [List.set] at HK'; replace HK := HK'; clear HK') | refine wpList_exe (ktb HK 0 _ (by rfl) (by rfl) (by rfl)) (by rfl) ?_ | (refine wpList_stb  HK 1 rfl _ _ rfl rfl rfl rfl ?_; intro _ HK'; simp only [List.set] at HK'; replace HK := HK'; clear HK'))
    (try simp only [Ses.get_set hc, Ses.set_set hc] at HK)
    (try dsimp only at HK)
    rw [← HX.out] at HK
    exact ret_tb Try.results20 rfl rfl (HK.out.blk 1 rfl) ⟨rfl, HK.out.b⟩
end Go.Proofs.Ytbcdmmhbmjjooaa
