/-
  What session's sound, live, last, done return, and the document's one, live.
  No condition but that the float fits 64 bits.
-/
import Derived.Test.YtbcdmmhbmjjooaaSesLay
import Derived.Test.YtbcdmmhbmjjooaaStoReply
set_option linter.unusedSimpArgs false
set_option linter.unusedVariables false
set_option maxRecDepth 100000
namespace Go.Proofs.Ytbcdmmhbmjjooaa
open Go.RowKit

set_option maxHeartbeats 6400000 in
theorem ssound_any (s : Ses.S) (w : World) (hf : s.p.v.f < 18446744073709551616) : Calls Try.prog 24 #[.agg (seA s)] w (IsB (Ses.snd s) w) := by
  obtain ⟨l, ep, rq, dn, p⟩ := s
  have HC := Lib.hid (fun W => sreply_any p W hf)
  have HK := kn1 w 29 (seA ⟨l, ep, rq, dn, p⟩)
  unfold IsB Ses.snd
  unfold IsB at HC
  dsimp only
  generalize h1 : decide (0 < ep) = b1
  have H1 : Hid (decide (ep ≤ 0) = !b1) := Lib.hid (by rw [← h1, Bool.eq_iff_iff]; simp)
  generalize h2 : decide (0 ≤ rq) = b2
  have H2 : Hid (decide (rq < 0) = !b2) := Lib.hid (by rw [← h2, Bool.eq_iff_iff]; simp)
  generalize h4 : decide (0 < rq) = b4
  have H4 := Lib.hid h4
  generalize h5 : decide (p = Sto.rz) = b5
  have H5 := Lib.hid h5
  generalize Sto.rep p = b3 at *
  clear h1 h2 h4 h5 hf
  cases b1
  case false =>
    go_enter Try.func24, Try.ntmps24
    go_wp2_with (first | refine wpList_exe (kse_e HK 0 _ (by rfl) (by rfl) (by rfl)) (by rfl) ?_ | refine wpList_exe (kse_r HK 0 _ (by rfl) (by rfl) (by rfl)) (by rfl) ?_ | refine wpList_exe (kse_d HK 0 _ (by rfl) (by rfl) (by rfl)) (by rfl) ?_ | refine wpList_exe (kse_l HK 0 _ (by rfl) (by rfl) (by rfl)) (by rfl) ?_ | refine wpList_exe (kse_p HK 0 _ (by rfl) (by rfl) (by rfl)) (by rfl) ?_ | refine wpList_exe (exec_iLe (m := ep) (n := 0) _ _ (by rfl) (by rfl) (by rfl) H1.out) (by rfl) ?_ | refine wpList_exe (exec_iL (m := rq) (n := 0) _ _ (by rfl) (by rfl) (by rfl) H2.out) (by rfl) ?_ | refine wpList_exe (exec_iG (m := rq) (n := 0) _ _ (by rfl) (by rfl) (by rfl) H4.out) (by rfl) ?_ | refine wpList_exe (exec_rz (by rfl)) (by rfl) ?_ | refine wpList_exe (exec_rpe (p := p) (q := Sto.rz) _ _ (by rfl) (by rfl) (by rfl) H5.out) (by rfl) ?_)
    go_ret
    exact ⟨rfl, HK.out.b⟩
  cases b2
  case false =>
    go_enter Try.func24, Try.ntmps24
    go_wp2_with (first | refine wpList_exe (kse_e HK 0 _ (by rfl) (by rfl) (by rfl)) (by rfl) ?_ | refine wpList_exe (kse_r HK 0 _ (by rfl) (by rfl) (by rfl)) (by rfl) ?_ | refine wpList_exe (kse_d HK 0 _ (by rfl) (by rfl) (by rfl)) (by rfl) ?_ | refine wpList_exe (kse_l HK 0 _ (by rfl) (by rfl) (by rfl)) (by rfl) ?_ | refine wpList_exe (kse_p HK 0 _ (by rfl) (by rfl) (by rfl)) (by rfl) ?_ | refine wpList_exe (exec_iLe (m := ep) (n := 0) _ _ (by rfl) (by rfl) (by rfl) H1.out) (by rfl) ?_ | refine wpList_exe (exec_iL (m := rq) (n := 0) _ _ (by rfl) (by rfl) (by rfl) H2.out) (by rfl) ?_ | refine wpList_exe (exec_iG (m := rq) (n := 0) _ _ (by rfl) (by rfl) (by rfl) H4.out) (by rfl) ?_ | refine wpList_exe (exec_rz (by rfl)) (by rfl) ?_ | refine wpList_exe (exec_rpe (p := p) (q := Sto.rz) _ _ (by rfl) (by rfl) (by rfl) H5.out) (by rfl) ?_)
    go_ret
    exact ⟨rfl, HK.out.b⟩
  cases b3
  case false =>
    go_enter Try.func24, Try.ntmps24
    go_wp2_with (first | refine wpList_exe (kse_e HK 0 _ (by rfl) (by rfl) (by rfl)) (by rfl) ?_ | refine wpList_exe (kse_r HK 0 _ (by rfl) (by rfl) (by rfl)) (by rfl) ?_ | refine wpList_exe (kse_d HK 0 _ (by rfl) (by rfl) (by rfl)) (by rfl) ?_ | refine wpList_exe (kse_l HK 0 _ (by rfl) (by rfl) (by rfl)) (by rfl) ?_ | refine wpList_exe (kse_p HK 0 _ (by rfl) (by rfl) (by rfl)) (by rfl) ?_ | refine wpList_exe (exec_iLe (m := ep) (n := 0) _ _ (by rfl) (by rfl) (by rfl) H1.out) (by rfl) ?_ | refine wpList_exe (exec_iL (m := rq) (n := 0) _ _ (by rfl) (by rfl) (by rfl) H2.out) (by rfl) ?_ | refine wpList_exe (exec_iG (m := rq) (n := 0) _ _ (by rfl) (by rfl) (by rfl) H4.out) (by rfl) ?_ | refine wpList_exe (exec_rz (by rfl)) (by rfl) ?_ | refine wpList_exe (exec_rpe (p := p) (q := Sto.rz) _ _ (by rfl) (by rfl) (by rfl) H5.out) (by rfl) ?_)
    refine (HC.out _).mono ?_; rintro e w1 ⟨rfl, b1⟩
    replace HK := Lib.hid (HK.out.call b1); clear b1
    go_wp2_with (first | refine wpList_exe (kse_e HK 0 _ (by rfl) (by rfl) (by rfl)) (by rfl) ?_ | refine wpList_exe (kse_r HK 0 _ (by rfl) (by rfl) (by rfl)) (by rfl) ?_ | refine wpList_exe (kse_d HK 0 _ (by rfl) (by rfl) (by rfl)) (by rfl) ?_ | refine wpList_exe (kse_l HK 0 _ (by rfl) (by rfl) (by rfl)) (by rfl) ?_ | refine wpList_exe (kse_p HK 0 _ (by rfl) (by rfl) (by rfl)) (by rfl) ?_ | refine wpList_exe (exec_iLe (m := ep) (n := 0) _ _ (by rfl) (by rfl) (by rfl) H1.out) (by rfl) ?_ | refine wpList_exe (exec_iL (m := rq) (n := 0) _ _ (by rfl) (by rfl) (by rfl) H2.out) (by rfl) ?_ | refine wpList_exe (exec_iG (m := rq) (n := 0) _ _ (by rfl) (by rfl) (by rfl) H4.out) (by rfl) ?_ | refine wpList_exe (exec_rz (by rfl)) (by rfl) ?_ | refine wpList_exe (exec_rpe (p := p) (q := Sto.rz) _ _ (by rfl) (by rfl) (by rfl) H5.out) (by rfl) ?_)
    go_ret
    exact ⟨rfl, HK.out.b⟩
  cases dn
  case true =>
    go_enter Try.func24, Try.ntmps24
    go_wp2_with (first | refine wpList_exe (kse_e HK 0 _ (by rfl) (by rfl) (by rfl)) (by rfl) ?_ | refine wpList_exe (kse_r HK 0 _ (by rfl) (by rfl) (by rfl)) (by rfl) ?_ | refine wpList_exe (kse_d HK 0 _ (by rfl) (by rfl) (by rfl)) (by rfl) ?_ | refine wpList_exe (kse_l HK 0 _ (by rfl) (by rfl) (by rfl)) (by rfl) ?_ | refine wpList_exe (kse_p HK 0 _ (by rfl) (by rfl) (by rfl)) (by rfl) ?_ | refine wpList_exe (exec_iLe (m := ep) (n := 0) _ _ (by rfl) (by rfl) (by rfl) H1.out) (by rfl) ?_ | refine wpList_exe (exec_iL (m := rq) (n := 0) _ _ (by rfl) (by rfl) (by rfl) H2.out) (by rfl) ?_ | refine wpList_exe (exec_iG (m := rq) (n := 0) _ _ (by rfl) (by rfl) (by rfl) H4.out) (by rfl) ?_ | refine wpList_exe (exec_rz (by rfl)) (by rfl) ?_ | refine wpList_exe (exec_rpe (p := p) (q := Sto.rz) _ _ (by rfl) (by rfl) (by rfl) H5.out) (by rfl) ?_)
    refine (HC.out _).mono ?_; rintro e w1 ⟨rfl, b1⟩
    replace HK := Lib.hid (HK.out.call b1); clear b1
    have k3 := HK.out.cell 0 rfl 3 (v := .bool true) rfl
    go_wp2_with fail
    go_ret
    exact ⟨rfl, HK.out.b⟩
  cases l
  case false =>
    go_enter Try.func24, Try.ntmps24
    go_wp2_with (first | refine wpList_exe (kse_e HK 0 _ (by rfl) (by rfl) (by rfl)) (by rfl) ?_ | refine wpList_exe (kse_r HK 0 _ (by rfl) (by rfl) (by rfl)) (by rfl) ?_ | refine wpList_exe (kse_d HK 0 _ (by rfl) (by rfl) (by rfl)) (by rfl) ?_ | refine wpList_exe (kse_l HK 0 _ (by rfl) (by rfl) (by rfl)) (by rfl) ?_ | refine wpList_exe (kse_p HK 0 _ (by rfl) (by rfl) (by rfl)) (by rfl) ?_ | refine wpList_exe (exec_iLe (m := ep) (n := 0) _ _ (by rfl) (by rfl) (by rfl) H1.out) (by rfl) ?_ | refine wpList_exe (exec_iL (m := rq) (n := 0) _ _ (by rfl) (by rfl) (by rfl) H2.out) (by rfl) ?_ | refine wpList_exe (exec_iG (m := rq) (n := 0) _ _ (by rfl) (by rfl) (by rfl) H4.out) (by rfl) ?_ | refine wpList_exe (exec_rz (by rfl)) (by rfl) ?_ | refine wpList_exe (exec_rpe (p := p) (q := Sto.rz) _ _ (by rfl) (by rfl) (by rfl) H5.out) (by rfl) ?_)
    refine (HC.out _).mono ?_; rintro e w1 ⟨rfl, b1⟩
    replace HK := Lib.hid (HK.out.call b1); clear b1
    go_wp2_with (first | refine wpList_exe (kse_d HK 0 _ (by rfl) (by rfl) (by rfl)) (by rfl) ?_ | refine wpList_exe (kse_l HK 0 _ (by rfl) (by rfl) (by rfl)) (by rfl) ?_)
    go_ret
    exact ⟨rfl, HK.out.b⟩
  cases b4
  case false =>
    go_enter Try.func24, Try.ntmps24
    go_wp2_with (first | refine wpList_exe (kse_e HK 0 _ (by rfl) (by rfl) (by rfl)) (by rfl) ?_ | refine wpList_exe (kse_r HK 0 _ (by rfl) (by rfl) (by rfl)) (by rfl) ?_ | refine wpList_exe (kse_d HK 0 _ (by rfl) (by rfl) (by rfl)) (by rfl) ?_ | refine wpList_exe (kse_l HK 0 _ (by rfl) (by rfl) (by rfl)) (by rfl) ?_ | refine wpList_exe (kse_p HK 0 _ (by rfl) (by rfl) (by rfl)) (by rfl) ?_ | refine wpList_exe (exec_iLe (m := ep) (n := 0) _ _ (by rfl) (by rfl) (by rfl) H1.out) (by rfl) ?_ | refine wpList_exe (exec_iL (m := rq) (n := 0) _ _ (by rfl) (by rfl) (by rfl) H2.out) (by rfl) ?_ | refine wpList_exe (exec_iG (m := rq) (n := 0) _ _ (by rfl) (by rfl) (by rfl) H4.out) (by rfl) ?_ | refine wpList_exe (exec_rz (by rfl)) (by rfl) ?_ | refine wpList_exe (exec_rpe (p := p) (q := Sto.rz) _ _ (by rfl) (by rfl) (by rfl) H5.out) (by rfl) ?_)
    refine (HC.out _).mono ?_; rintro e w1 ⟨rfl, b1⟩
    replace HK := Lib.hid (HK.out.call b1); clear b1
    go_wp2_with (first | refine wpList_exe (kse_d HK 0 _ (by rfl) (by rfl) (by rfl)) (by rfl) ?_ | refine wpList_exe (kse_l HK 0 _ (by rfl) (by rfl) (by rfl)) (by rfl) ?_ | refine wpList_exe (kse_r HK 0 _ (by rfl) (by rfl) (by rfl)) (by rfl) ?_ | refine wpList_exe (exec_iG (m := rq) (n := 0) _ _ (by rfl) (by rfl) (by rfl) H4.out) (by rfl) ?_)
    go_ret
    exact ⟨rfl, HK.out.b⟩
  go_enter Try.func24, Try.ntmps24
  go_wp2_with (first | refine wpList_exe (kse_e HK 0 _ (by rfl) (by rfl) (by rfl)) (by rfl) ?_ | refine wpList_exe (kse_r HK 0 _ (by rfl) (by rfl) (by rfl)) (by rfl) ?_ | refine wpList_exe (kse_d HK 0 _ (by rfl) (by rfl) (by rfl)) (by rfl) ?_ | refine wpList_exe (kse_l HK 0 _ (by rfl) (by rfl) (by rfl)) (by rfl) ?_ | refine wpList_exe (kse_p HK 0 _ (by rfl) (by rfl) (by rfl)) (by rfl) ?_ | refine wpList_exe (exec_iLe (m := ep) (n := 0) _ _ (by rfl) (by rfl) (by rfl) H1.out) (by rfl) ?_ | refine wpList_exe (exec_iL (m := rq) (n := 0) _ _ (by rfl) (by rfl) (by rfl) H2.out) (by rfl) ?_ | refine wpList_exe (exec_iG (m := rq) (n := 0) _ _ (by rfl) (by rfl) (by rfl) H4.out) (by rfl) ?_ | refine wpList_exe (exec_rz (by rfl)) (by rfl) ?_ | refine wpList_exe (exec_rpe (p := p) (q := Sto.rz) _ _ (by rfl) (by rfl) (by rfl) H5.out) (by rfl) ?_)
  refine (HC.out _).mono ?_; rintro e w1 ⟨rfl, b1⟩
  replace HK := Lib.hid (HK.out.call b1); clear b1
  go_wp2_with (first | refine wpList_exe (kse_e HK 0 _ (by rfl) (by rfl) (by rfl)) (by rfl) ?_ | refine wpList_exe (kse_r HK 0 _ (by rfl) (by rfl) (by rfl)) (by rfl) ?_ | refine wpList_exe (kse_d HK 0 _ (by rfl) (by rfl) (by rfl)) (by rfl) ?_ | refine wpList_exe (kse_l HK 0 _ (by rfl) (by rfl) (by rfl)) (by rfl) ?_ | refine wpList_exe (kse_p HK 0 _ (by rfl) (by rfl) (by rfl)) (by rfl) ?_ | refine wpList_exe (exec_iLe (m := ep) (n := 0) _ _ (by rfl) (by rfl) (by rfl) H1.out) (by rfl) ?_ | refine wpList_exe (exec_iL (m := rq) (n := 0) _ _ (by rfl) (by rfl) (by rfl) H2.out) (by rfl) ?_ | refine wpList_exe (exec_iG (m := rq) (n := 0) _ _ (by rfl) (by rfl) (by rfl) H4.out) (by rfl) ?_ | refine wpList_exe (exec_rz (by rfl)) (by rfl) ?_ | refine wpList_exe (exec_rpe (p := p) (q := Sto.rz) _ _ (by rfl) (by rfl) (by rfl) H5.out) (by rfl) ?_)
  go_ret
  exact ⟨rfl, HK.out.b⟩
set_option maxHeartbeats 6400000 in
theorem slive_any (t : Ses.T) (w : World) : Calls Try.prog 25 #[.agg (tbA t)] w (IsN (Ses.live t (-1)) w) := by
  rw [← Ses.cnt5]
  have HK := kn1 w 30 (tbA t)
  unfold IsN
  go_enter Try.func25, Try.ntmps25
  go_wp2_with (first | refine wpList_exe (ktb HK 0 _ (by rfl) (by rfl) (by rfl)) (by rfl) ?_)
  go_loopw [3, 7] (fun v3 v7 wr => ∃ k : Nat, k ≤ 5 ∧ v3 = .int .i64 (Ses.cnt t (-1) k) ∧ v7 = .int .i64 k ∧ Hid (Kn w.heap.size w wr [(w.heap.size, 30, tbA t)] [])) (fun _ v7 _ => 5 - (intOf v7).toNat)
  case atStart => exact ⟨0, Nat.zero_le _, rfl, rfl, HK⟩
  case round =>
    clear HK
    obtain ⟨k, hk, rfl, rfl, HK⟩ := hrel
    have hk1 : (0 : Int) ≤ (k : Int) := by omega
    by_cases hlt : k < 5
    · have hk2 : (k : Int) < (5 : Int) := by omega
      have hk3 : k < 9223372036854775807 := by omega
      have hc : 0 ≤ (k : Int) ∧ (k : Int) < 5 := ⟨hk1, hk2⟩
      have hcn := Ses.cnt_le t (-1) k
      have hW : IntKind.i64.wrap (Ses.cnt t (-1) k + 1) = Ses.cnt t (-1) k + 1 := by rw [IntKind.wrap_i64]; omega
      have hS : Ses.cnt t (-1) (k + 1) = Ses.cnt t (-1) k + Ses.b2i (t.get (k : Int)).live := by
        show _ + Ses.b2i (_ && !decide ((k : Int) = -1)) = _
        rw [decide_eq_false (by omega)]
        simp
      have HW := Lib.hid hW
      have HS := Lib.hid hS
      clear hW hS hcn
      generalize Ses.cnt t (-1) k = z at *
      generalize hs : t.get (k : Int) = s at *
      have HI : Hid (t.get (k : Int) = s) := Lib.hid hs
      clear hs
      obtain ⟨l, ep, rq, dn, p⟩ := s
      cases l
      · go_wp2_with (first | refine wpList_exe ((exec_ixs (t := t) hc _ _ (by rfl) (by rfl) (by rfl)).trans (by rw [HI.out])) (by rfl) ?_ | (refine wpList_ase HK rfl rfl ?_; intro _ g1 HK'; simp only [List.cons_append, List.nil_append] at HK'; replace HK := HK'; clear HK') | (refine wpList_sse (u := ⟨false, ep, rq, dn, p⟩) HK 1 rfl _ _ rfl rfl rfl rfl ?_; intro _ HK'; simp only [List.set] at HK'; replace HK := HK'; clear HK') | refine wpList_exe (kse_l HK 1 _ (by rfl) (by rfl) (by rfl)) (by rfl) ?_ | refine wpList_exe (exec_inc (m := z) _ (by rfl) (by rfl) HW.out) (by rfl) ?_ | refine wpList_exe (exec_add1 (j := k) _ (by rfl) (by rfl) hk3) (by rfl) ?_)
        exact ⟨⟨k + 1, hlt, by rw [HS.out]; simp [Ses.b2i], rfl, Lib.hid (HK.out.takeL 1)⟩, by simp [intOf]; omega⟩
      · go_wp2_with (first | refine wpList_exe ((exec_ixs (t := t) hc _ _ (by rfl) (by rfl) (by rfl)).trans (by rw [HI.out])) (by rfl) ?_ | (refine wpList_ase HK rfl rfl ?_; intro _ g1 HK'; simp only [List.cons_append, List.nil_append] at HK'; replace HK := HK'; clear HK') | (refine wpList_sse (u := ⟨true, ep, rq, dn, p⟩) HK 1 rfl _ _ rfl rfl rfl rfl ?_; intro _ HK'; simp only [List.set] at HK'; replace HK := HK'; clear HK') | refine wpList_exe (kse_l HK 1 _ (by rfl) (by rfl) (by rfl)) (by rfl) ?_ | refine wpList_exe (exec_inc (m := z) _ (by rfl) (by rfl) HW.out) (by rfl) ?_ | refine wpList_exe (exec_add1 (j := k) _ (by rfl) (by rfl) hk3) (by rfl) ?_)
        exact ⟨⟨k + 1, hlt, by rw [HS.out]; simp [Ses.b2i], rfl, Lib.hid (HK.out.takeL 1)⟩, by simp [intOf]; omega⟩
    · obtain rfl : k = 5 := by omega
      go_wp2_with fail
      go_ret
      exact ⟨rfl, HK.out.b⟩
set_option maxHeartbeats 6400000 in
theorem slast_any (s : Ses.S) (w : World) : Calls Try.prog 22 #[.agg (seA s)] w (IsN (if s.dn = true then 2 else 3) w) := by
  obtain ⟨l, ep, rq, dn, p⟩ := s
  have HK := kn1 w 29 (seA ⟨l, ep, rq, dn, p⟩)
  unfold IsN
  cases dn
  · go_enter Try.func22, Try.ntmps22
    go_wp2_with (first | refine wpList_exe (kse_d HK 0 _ (by rfl) (by rfl) (by rfl)) (by rfl) ?_)
    go_ret
    exact ⟨rfl, HK.out.b⟩
  · go_enter Try.func22, Try.ntmps22
    go_wp2_with (first | refine wpList_exe (kse_d HK 0 _ (by rfl) (by rfl) (by rfl)) (by rfl) ?_)
    go_ret
    exact ⟨rfl, HK.out.b⟩
set_option maxHeartbeats 6400000 in
theorem sdone_any (s : Ses.S) (x : Sto.Rp) (w : World) : Calls Try.prog 29 #[.agg (seA s), .agg (rpA x)] w (IsS { s with dn := true, p := x } w) := by
  have HK := kn2 w 29 (seA s) 27 (rpA x)
  unfold IsS
  go_enter Try.func29, Try.ntmps29
  go_wp2_with (first | (refine wpList_ase HK rfl rfl ?_; intro _ g1 HK'; simp only [List.cons_append, List.nil_append] at HK'; replace HK := HK'; clear HK') | (refine wpList_ssd (d := true) HK 0 rfl _ _ rfl rfl rfl rfl ?_; intro _ HK'; simp only [List.set] at HK'; replace HK := HK'; clear HK') | refine wpList_exe (krp HK 1 _ (by rfl) (by rfl) (by rfl)) (by rfl) ?_ | (refine wpList_ssp (p := x) HK 0 rfl _ _ rfl rfl rfl rfl ?_; intro _ HK'; simp only [List.set] at HK'; replace HK := HK'; clear HK') | refine wpList_exe (kse HK 0 _ (by rfl) (by rfl) (by rfl)) (by rfl) ?_ | (refine wpList_sse (u := { s with dn := true, p := x }) HK 2 rfl _ _ rfl rfl rfl rfl ?_; intro _ HK'; simp only [List.set] at HK'; replace HK := HK'; clear HK'))
  exact ret_se Try.results29 rfl rfl (HK.out.blk 2 rfl) ⟨rfl, HK.out.b⟩
end Go.Proofs.Ytbcdmmhbmjjooaa
