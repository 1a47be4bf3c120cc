/-
  What the document's one and live return.
  No condition but that the float fits 64 bits.
-/
import Derived.Test.YtbcdmmhbmjjooaaSesLay
import Derived.Test.YtbcdmmhbmjjooaaStoReply
set_option linter.unusedSimpArgs false
set_option linter.unusedVariables false
set_option maxRecDepth 100000
namespace Go.Proofs.Ytbcdmmhbmjjooaa
open Go.RowKit

set_option maxHeartbeats 6400000 in
theorem rone_any (s : Ses.S) (w : World) (hf : s.p.v.f < 18446744073709551616) : Calls Try.prog 26 #[.agg (seA s)] w (IsB (Ses.one s) w) := by
  obtain ⟨l, ep, rq, dn, p⟩ := s
  have HC := Lib.hid (fun W => rreply_any p W hf)
  have HK := kn1 w 29 (seA ⟨l, ep, rq, dn, p⟩)
  unfold IsB Ses.one
  unfold IsB at HC
  dsimp only
  by_cases he : ep = 0
  · rw [if_pos he]
    generalize h0 : decide ((⟨l, ep, rq, dn, p⟩ : Ses.S) = Ses.z) = b0
    have H0 := Lib.hid h0
    have H1 : Hid (decide (ep = 0) = true) := Lib.hid (decide_eq_true he)
    clear h0 he
    go_enter Try.func26, Try.ntmps26
    go_wp2_with (first | refine wpList_exe (kse_e HK 0 _ (by rfl) (by rfl) (by rfl)) (by rfl) ?_ | refine wpList_exe (kse HK 0 _ (by rfl) (by rfl) (by rfl)) (by rfl) ?_ | refine wpList_exe (exec_iE (m := ep) (n := 0) _ _ (by rfl) (by rfl) (by rfl) H1.out) (by rfl) ?_ | refine wpList_exe (exec_bz (by rfl)) (by rfl) ?_ | refine wpList_exe (exec_seE (s := ⟨l, ep, rq, dn, p⟩) (u := Ses.z) _ _ (by rfl) (by rfl) (by rfl) H0.out) (by rfl) ?_)
    go_ret
    exact ⟨rfl, HK.out.b⟩
  rw [if_neg he]
  have H1 : Hid (decide (ep = 0) = false) := Lib.hid (decide_eq_false he)
  have HZ : Hid ((ep == 0) = false) := Lib.hid (by rw [beq_eq_false_iff_ne]; exact he)
  clear he
  generalize h2 : decide (0 < ep) = b2
  have H2 := Lib.hid h2
  generalize h3 : decide (0 ≤ rq) = b3
  have H3 := Lib.hid h3
  generalize h5 : decide (p = Sto.rz) = b5
  have H5 : Hid ((!decide (p = Sto.rz)) = !b5) := Lib.hid (by rw [h5])
  generalize h6 : decide (1 ≤ rq) = b6
  have H6 : Hid (decide (rq < 1) = !b6) := Lib.hid (by rw [← h6, Bool.eq_iff_iff]; simp)
  generalize Sto.rep p = b4 at *
  clear h2 h3 h5 h6 hf
  cases dn
  case true =>
    have hz := HZ.out
    cases b2
    · have hp : ¬ 0 < ep := of_decide_eq_false H2.out
      have hp2 := H2.out
      go_enter Try.func26, Try.ntmps26
      have k0 := HK.out.cell 0 rfl 0 (v := .bool l) rfl; have k1 := HK.out.cell 0 rfl 1 (v := .int .i64 ep) rfl; have k2 := HK.out.cell 0 rfl 2 (v := .int .i64 rq) rfl; have k3 := HK.out.cell 0 rfl 3 (v := .bool true) rfl
      go_wp2_with fail
      go_ret
      exact ⟨rfl, HK.out.b⟩
    have hp : 0 < ep := of_decide_eq_true H2.out
    have hp2 := H2.out
    cases b3
    · have hr : ¬ 0 ≤ rq := of_decide_eq_false H3.out
      have hr2 := H3.out
      go_enter Try.func26, Try.ntmps26
      have k0 := HK.out.cell 0 rfl 0 (v := .bool l) rfl; have k1 := HK.out.cell 0 rfl 1 (v := .int .i64 ep) rfl; have k2 := HK.out.cell 0 rfl 2 (v := .int .i64 rq) rfl; have k3 := HK.out.cell 0 rfl 3 (v := .bool true) rfl
      go_wp2_with fail
      go_ret
      exact ⟨rfl, HK.out.b⟩
    · have hr : 0 ≤ rq := of_decide_eq_true H3.out
      have hr2 := H3.out
      go_enter Try.func26, Try.ntmps26
      have k0 := HK.out.cell 0 rfl 0 (v := .bool l) rfl; have k1 := HK.out.cell 0 rfl 1 (v := .int .i64 ep) rfl; have k2 := HK.out.cell 0 rfl 2 (v := .int .i64 rq) rfl; have k3 := HK.out.cell 0 rfl 3 (v := .bool true) rfl
      have k4 := HK.out.cell 0 rfl 4 (v := .int .i64 p.e) rfl
      have k5 := HK.out.cell 0 rfl 5 (v := .int .i64 p.v.k) rfl
      have k6 := HK.out.cell 0 rfl 6 (v := .int .i64 p.v.n) rfl
      have k7 := HK.out.cell 0 rfl 7 (v := .int .u64 (p.v.f : Int)) rfl
      have k8 := HK.out.cell 0 rfl 8 (v := .string p.v.s) rfl
      go_wp2_with fail
      clear k0 k1 k2 k3 k4 k5 k6 k7 k8
      refine (HC.out _).mono ?_; rintro e w1 ⟨rfl, b1⟩; replace HK := Lib.hid (HK.out.call b1); clear b1
      go_wp2_with fail
      go_ret
      exact ⟨rfl, HK.out.b⟩
  cases b5
  · go_enter Try.func26, Try.ntmps26
    have k0 := HK.out.cell 0 rfl 0 (v := .bool l) rfl; have k1 := HK.out.cell 0 rfl 1 (v := .int .i64 ep) rfl; have k2 := HK.out.cell 0 rfl 2 (v := .int .i64 rq) rfl; have k3 := HK.out.cell 0 rfl 3 (v := .bool false) rfl
    go_wp2_with (first | refine wpList_exe (exec_iE (m := ep) (n := 0) _ _ (by rfl) (by rfl) (by rfl) H1.out) (by rfl) ?_ | refine wpList_exe (kse_p HK 0 _ (by rfl) (by rfl) (by rfl)) (by rfl) ?_ | refine wpList_exe (exec_rpn (p := p) (q := Sto.rz) _ _ (by rfl) (by rfl) (by rfl) H5.out) (by rfl) ?_ | refine wpList_exe (exec_rz (by rfl)) (by rfl) ?_)
    go_ret
    exact ⟨rfl, HK.out.b⟩
  cases b6
  · go_enter Try.func26, Try.ntmps26
    have k0 := HK.out.cell 0 rfl 0 (v := .bool l) rfl; have k1 := HK.out.cell 0 rfl 1 (v := .int .i64 ep) rfl; have k2 := HK.out.cell 0 rfl 2 (v := .int .i64 rq) rfl; have k3 := HK.out.cell 0 rfl 3 (v := .bool false) rfl
    go_wp2_with (first | refine wpList_exe (exec_iE (m := ep) (n := 0) _ _ (by rfl) (by rfl) (by rfl) H1.out) (by rfl) ?_ | refine wpList_exe (kse_p HK 0 _ (by rfl) (by rfl) (by rfl)) (by rfl) ?_ | refine wpList_exe (exec_rpn (p := p) (q := Sto.rz) _ _ (by rfl) (by rfl) (by rfl) H5.out) (by rfl) ?_ | refine wpList_exe (exec_rz (by rfl)) (by rfl) ?_ | refine wpList_exe (exec_iL (m := rq) (n := 1) _ _ (by rfl) (by rfl) (by rfl) H6.out) (by rfl) ?_)
    go_ret
    exact ⟨rfl, HK.out.b⟩
  cases l
  · go_enter Try.func26, Try.ntmps26
    have k0 := HK.out.cell 0 rfl 0 (v := .bool false) rfl; have k1 := HK.out.cell 0 rfl 1 (v := .int .i64 ep) rfl; have k2 := HK.out.cell 0 rfl 2 (v := .int .i64 rq) rfl; have k3 := HK.out.cell 0 rfl 3 (v := .bool false) rfl
    go_wp2_with (first | refine wpList_exe (exec_iE (m := ep) (n := 0) _ _ (by rfl) (by rfl) (by rfl) H1.out) (by rfl) ?_ | refine wpList_exe (kse_p HK 0 _ (by rfl) (by rfl) (by rfl)) (by rfl) ?_ | refine wpList_exe (exec_rpn (p := p) (q := Sto.rz) _ _ (by rfl) (by rfl) (by rfl) H5.out) (by rfl) ?_ | refine wpList_exe (exec_rz (by rfl)) (by rfl) ?_ | refine wpList_exe (exec_iL (m := rq) (n := 1) _ _ (by rfl) (by rfl) (by rfl) H6.out) (by rfl) ?_)
    go_ret
    exact ⟨rfl, HK.out.b⟩
  cases b2
  · go_enter Try.func26, Try.ntmps26
    have k0 := HK.out.cell 0 rfl 0 (v := .bool true) rfl; have k1 := HK.out.cell 0 rfl 1 (v := .int .i64 ep) rfl; have k2 := HK.out.cell 0 rfl 2 (v := .int .i64 rq) rfl; have k3 := HK.out.cell 0 rfl 3 (v := .bool false) rfl
    go_wp2_with (first | refine wpList_exe (exec_iE (m := ep) (n := 0) _ _ (by rfl) (by rfl) (by rfl) H1.out) (by rfl) ?_ | refine wpList_exe (kse_p HK 0 _ (by rfl) (by rfl) (by rfl)) (by rfl) ?_ | refine wpList_exe (exec_rpn (p := p) (q := Sto.rz) _ _ (by rfl) (by rfl) (by rfl) H5.out) (by rfl) ?_ | refine wpList_exe (exec_rz (by rfl)) (by rfl) ?_ | refine wpList_exe (exec_iL (m := rq) (n := 1) _ _ (by rfl) (by rfl) (by rfl) H6.out) (by rfl) ?_ | refine wpList_exe (exec_iG (m := ep) (n := 0) _ _ (by rfl) (by rfl) (by rfl) H2.out) (by rfl) ?_)
    go_ret
    exact ⟨rfl, HK.out.b⟩
  cases b3
  · go_enter Try.func26, Try.ntmps26
    have k0 := HK.out.cell 0 rfl 0 (v := .bool true) rfl; have k1 := HK.out.cell 0 rfl 1 (v := .int .i64 ep) rfl; have k2 := HK.out.cell 0 rfl 2 (v := .int .i64 rq) rfl; have k3 := HK.out.cell 0 rfl 3 (v := .bool false) rfl
    go_wp2_with (first | refine wpList_exe (exec_iE (m := ep) (n := 0) _ _ (by rfl) (by rfl) (by rfl) H1.out) (by rfl) ?_ | refine wpList_exe (kse_p HK 0 _ (by rfl) (by rfl) (by rfl)) (by rfl) ?_ | refine wpList_exe (exec_rpn (p := p) (q := Sto.rz) _ _ (by rfl) (by rfl) (by rfl) H5.out) (by rfl) ?_ | refine wpList_exe (exec_rz (by rfl)) (by rfl) ?_ | refine wpList_exe (exec_iL (m := rq) (n := 1) _ _ (by rfl) (by rfl) (by rfl) H6.out) (by rfl) ?_ | refine wpList_exe (exec_iG (m := ep) (n := 0) _ _ (by rfl) (by rfl) (by rfl) H2.out) (by rfl) ?_ | refine wpList_exe (exec_iGe (m := rq) (n := 0) _ _ (by rfl) (by rfl) (by rfl) H3.out) (by rfl) ?_)
    go_ret
    exact ⟨rfl, HK.out.b⟩
  · go_enter Try.func26, Try.ntmps26
    have k0 := HK.out.cell 0 rfl 0 (v := .bool true) rfl; have k1 := HK.out.cell 0 rfl 1 (v := .int .i64 ep) rfl; have k2 := HK.out.cell 0 rfl 2 (v := .int .i64 rq) rfl; have k3 := HK.out.cell 0 rfl 3 (v := .bool false) rfl
    go_wp2_with (first | refine wpList_exe (exec_iE (m := ep) (n := 0) _ _ (by rfl) (by rfl) (by rfl) H1.out) (by rfl) ?_ | refine wpList_exe (kse_p HK 0 _ (by rfl) (by rfl) (by rfl)) (by rfl) ?_ | refine wpList_exe (exec_rpn (p := p) (q := Sto.rz) _ _ (by rfl) (by rfl) (by rfl) H5.out) (by rfl) ?_ | refine wpList_exe (exec_rz (by rfl)) (by rfl) ?_ | refine wpList_exe (exec_iL (m := rq) (n := 1) _ _ (by rfl) (by rfl) (by rfl) H6.out) (by rfl) ?_ | refine wpList_exe (exec_iG (m := ep) (n := 0) _ _ (by rfl) (by rfl) (by rfl) H2.out) (by rfl) ?_ | refine wpList_exe (exec_iGe (m := rq) (n := 0) _ _ (by rfl) (by rfl) (by rfl) H3.out) (by rfl) ?_)
    clear k0 k1 k2 k3
    refine (HC.out _).mono ?_; rintro e w1 ⟨rfl, b1⟩; replace HK := Lib.hid (HK.out.call b1); clear b1
    go_wp2_with fail
    go_ret
    exact ⟨rfl, HK.out.b⟩
set_option maxHeartbeats 6400000 in
theorem rlive_any (t : Ses.T) (q : Int) (w : World) : Calls Try.prog 27 #[.agg (tbA t), .int .i64 q] w (IsN (Ses.live t q) w) := by
  rw [← Ses.cnt5]
  have HK := kn1 w 30 (tbA t)
  unfold IsN
  go_enter Try.func27, Try.ntmps27
  go_wp2_with fail
  go_loopw [5, 6] (fun v5 v6 wr => ∃ k : Nat, k ≤ 5 ∧ v5 = .int .i64 (Ses.cnt t q k) ∧ v6 = .int .i64 k ∧ Hid (Kn w.heap.size w wr [(w.heap.size, 30, tbA t)] [])) (fun _ v6 _ => 5 - (intOf v6).toNat)
  case atStart => exact ⟨0, Nat.zero_le _, rfl, rfl, HK⟩
  case round =>
    clear HK
    obtain ⟨k, hk, rfl, rfl, HK⟩ := hrel
    have hk1 : (0 : Int) ≤ (k : Int) := by omega
    by_cases hlt : k < 5
    · have hk2 : (k : Int) < (5 : Int) := by omega
      have hk3 : k < 9223372036854775807 := by omega
      have hc : 0 ≤ (k : Int) ∧ (k : Int) < 5 := ⟨hk1, hk2⟩
      have hcn := Ses.cnt_le t q k
      have hW : IntKind.i64.wrap (Ses.cnt t q k + 1) = Ses.cnt t q k + 1 := by rw [IntKind.wrap_i64]; omega
      have HW := Lib.hid hW
      have HS : Hid (Ses.cnt t q (k + 1) = Ses.cnt t q k + Ses.b2i ((t.get (k : Int)).live && !decide ((k : Int) = q))) := Lib.hid rfl
      clear hW hcn
      generalize Ses.cnt t q k = z at *
      have HL : Hid (∀ {o : Oper} {a : Act} (x : Operand), o.op = .load 4 x → a.eval x = .pointer (some ⟨w.heap.size, (k : Int).toNat * 9, none⟩) → (execOp a.eval o).run Try.prog wr = .ok (.value (.bool (t.get (k : Int)).live)) wr) := Lib.hid (fun x ho hx => kts_l HK 0 hc x ho rfl hx)
      generalize hl : (t.get (k : Int)).live = l at *
      clear hl
      generalize hq : decide ((k : Int) = q) = b at *
      have HQ : Hid ((!decide ((k : Int) = q)) = !b) := Lib.hid (by rw [hq])
      clear hq
      cases l
      · go_wp2_with (first | refine wpList_exe (exec_ixt hc _ _ (by rfl) (by rfl) (by rfl)) (by rfl) ?_ | refine wpList_exe (HL.out _ (by rfl) (by rfl)) (by rfl) ?_ | refine wpList_exe (exec_add1 (j := k) _ (by rfl) (by rfl) hk3) (by rfl) ?_)
        exact ⟨⟨k + 1, hlt, by rw [HS.out]; simp [Ses.b2i], rfl, HK⟩, by simp [intOf]; omega⟩
      cases b
      · go_wp2_with (first | refine wpList_exe (exec_ixt hc _ _ (by rfl) (by rfl) (by rfl)) (by rfl) ?_ | refine wpList_exe (HL.out _ (by rfl) (by rfl)) (by rfl) ?_ | refine wpList_exe (exec_iN (m := (k : Int)) (n := q) _ _ (by rfl) (by rfl) (by rfl) HQ.out) (by rfl) ?_ | refine wpList_exe (exec_inc (m := z) _ (by rfl) (by rfl) HW.out) (by rfl) ?_ | refine wpList_exe (exec_add1 (j := k) _ (by rfl) (by rfl) hk3) (by rfl) ?_)
        exact ⟨⟨k + 1, hlt, by rw [HS.out]; simp [Ses.b2i], rfl, HK⟩, by simp [intOf]; omega⟩
      · go_wp2_with (first | refine wpList_exe (exec_ixt hc _ _ (by rfl) (by rfl) (by rfl)) (by rfl) ?_ | refine wpList_exe (HL.out _ (by rfl) (by rfl)) (by rfl) ?_ | refine wpList_exe (exec_iN (m := (k : Int)) (n := q) _ _ (by rfl) (by rfl) (by rfl) HQ.out) (by rfl) ?_ | refine wpList_exe (exec_inc (m := z) _ (by rfl) (by rfl) HW.out) (by rfl) ?_ | refine wpList_exe (exec_add1 (j := k) _ (by rfl) (by rfl) hk3) (by rfl) ?_)
        exact ⟨⟨k + 1, hlt, by rw [HS.out]; simp [Ses.b2i], rfl, HK⟩, by simp [intOf]; omega⟩
    · obtain rfl : k = 5 := by omega
      go_wp2_with fail
      go_ret
      exact ⟨rfl, HK.out.b⟩
end Go.Proofs.Ytbcdmmhbmjjooaa
