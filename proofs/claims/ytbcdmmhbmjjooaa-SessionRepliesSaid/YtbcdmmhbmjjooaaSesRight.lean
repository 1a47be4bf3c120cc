/-
  What session.Right and the document's Right return.
  No condition but that the floats fit 64 bits.
-/
import Derived.Test.YtbcdmmhbmjjooaaSesSmall
import Derived.Test.YtbcdmmhbmjjooaaSesRSmall
set_option linter.unusedSimpArgs false
set_option linter.unusedVariables false
set_option maxRecDepth 100000
namespace Go.Proofs.Ytbcdmmhbmjjooaa
open Go.RowKit

set_option maxHeartbeats 6400000 in
theorem sright_any (t : Ses.T) (w : World) (hf : Ses.Fit t) : Calls Try.prog 11 #[.agg (tbA t)] w (IsB (decide (Ses.Right t)) w) := by
  have HYes := Lib.hid (Ses.right_all t)
  have HNo := Lib.hid (fun (c : Int) hc => Ses.right_no (t := t) (c := c) hc)
  have HL := Lib.hid (fun W => slive_any t W)
  have HF := Lib.hid hf
  have HK := kn1 w 30 (tbA t)
  unfold IsB
  unfold IsN at HL
  clear hf
  generalize decide (Ses.Right t) = r at *
  go_enter Try.func11, Try.ntmps11
  go_wp2_with (first | refine wpList_exe (ktb HK 0 _ (by rfl) (by rfl) (by rfl)) (by rfl) ?_)
  go_loopw [6] (fun v6 wr => ∃ k : Nat, k ≤ 5 ∧ v6 = .int .i64 k ∧ Hid (∀ c : Int, 0 ≤ c ∧ c < (k : Int) → Ses.one (t.get c) = true) ∧ Hid (Kn w.heap.size w wr [(w.heap.size, 30, tbA t)] [])) (fun v6 _ => 5 - (intOf v6).toNat)
  case atStart => exact ⟨0, Nat.zero_le _, rfl, Lib.hid (fun c hc => by omega), HK⟩
  case round =>
    clear HK
    obtain ⟨k, hk, rfl, HGo, HK⟩ := hrel
    have hk1 : (0 : Int) ≤ (k : Int) := by omega
    by_cases hlt : k < 5
    · have hk2 : (k : Int) < (5 : Int) := by omega
      have hk3 : k < 9223372036854775807 := by omega
      have hc : 0 ≤ (k : Int) ∧ (k : Int) < 5 := ⟨hk1, hk2⟩
      have HN := Lib.hid (HNo.out (k : Int) hc)
      have HC := Lib.hid (fun W => ssound_any (t.get (k : Int)) W (HF.out _ hc))
      have HOne := Lib.hid (Ses.one_snd (t.get (k : Int)))
      have HGk : Hid (Ses.one (t.get (k : Int)) = true → ∀ c : Int, 0 ≤ c ∧ c < ((k + 1 : Nat) : Int) → Ses.one (t.get c) = true) := Lib.hid fun h c hc => by
        by_cases e : c = (k : Int)
        · rw [e]; exact h
        · exact HGo.out c (by omega)
      generalize hs : t.get (k : Int) = s at *
      have HI : Hid (t.get (k : Int) = s) := Lib.hid hs
      clear hs
      unfold IsB at HC
      generalize h0 : decide (s = Ses.z) = b0 at *
      have H0 : Hid ((!decide (s = Ses.z)) = !b0) := Lib.hid (by rw [h0])
      clear h0
      generalize Ses.snd s = b1 at *
      cases b0
      · cases b1
        · have HR := Lib.hid (HN.out (by rw [HOne.out]; rfl))
          clear HGk HOne HN
          go_wp2_with (first | refine wpList_exe ((exec_ixs (t := t) hc _ _ (by rfl) (by rfl) (by rfl)).trans (by rw [HI.out])) (by rfl) ?_ | (refine wpList_ase HK rfl rfl ?_; intro _ g1 HK'; simp only [List.cons_append, List.nil_append] at HK'; replace HK := HK'; clear HK') | (refine wpList_sse (u := s) HK 1 rfl _ _ rfl rfl rfl rfl ?_; intro _ HK'; simp only [List.set] at HK'; replace HK := HK'; clear HK') | refine wpList_exe (kse HK 1 _ (by rfl) (by rfl) (by rfl)) (by rfl) ?_ | refine wpList_exe (exec_bz (by rfl)) (by rfl) ?_ | refine wpList_exe (exec_seN (s := s) (u := Ses.z) _ _ (by rfl) (by rfl) (by rfl) H0.out) (by rfl) ?_)
          refine (HC.out _).mono ?_; rintro e w1 ⟨rfl, b1⟩
          replace HK := Lib.hid (HK.out.call b1); clear b1
          go_wp2_with fail
          go_ret
          exact ⟨by rw [HR.out] <;> rfl, HK.out.b⟩
        · replace HGk := Lib.hid (HGk.out (by rw [HOne.out]; rfl))
          clear HOne HN
          go_wp2_with (first | refine wpList_exe ((exec_ixs (t := t) hc _ _ (by rfl) (by rfl) (by rfl)).trans (by rw [HI.out])) (by rfl) ?_ | (refine wpList_ase HK rfl rfl ?_; intro _ g1 HK'; simp only [List.cons_append, List.nil_append] at HK'; replace HK := HK'; clear HK') | (refine wpList_sse (u := s) HK 1 rfl _ _ rfl rfl rfl rfl ?_; intro _ HK'; simp only [List.set] at HK'; replace HK := HK'; clear HK') | refine wpList_exe (kse HK 1 _ (by rfl) (by rfl) (by rfl)) (by rfl) ?_ | refine wpList_exe (exec_bz (by rfl)) (by rfl) ?_ | refine wpList_exe (exec_seN (s := s) (u := Ses.z) _ _ (by rfl) (by rfl) (by rfl) H0.out) (by rfl) ?_)
          refine (HC.out _).mono ?_; rintro e w1 ⟨rfl, b1⟩
          replace HK := Lib.hid (HK.out.call b1); clear b1
          go_wp2_with (first | refine wpList_exe (exec_add1 (j := k) _ (by rfl) (by rfl) hk3) (by rfl) ?_)
          exact ⟨⟨k + 1, hlt, rfl, HGk, Lib.hid (HK.out.takeL 1)⟩, by simp [intOf]; omega⟩
      · replace HGk := Lib.hid (HGk.out (by rw [HOne.out]; rfl))
        clear HOne HN
        go_wp2_with (first | refine wpList_exe ((exec_ixs (t := t) hc _ _ (by rfl) (by rfl) (by rfl)).trans (by rw [HI.out])) (by rfl) ?_ | (refine wpList_ase HK rfl rfl ?_; intro _ g1 HK'; simp only [List.cons_append, List.nil_append] at HK'; replace HK := HK'; clear HK') | (refine wpList_sse (u := s) HK 1 rfl _ _ rfl rfl rfl rfl ?_; intro _ HK'; simp only [List.set] at HK'; replace HK := HK'; clear HK') | refine wpList_exe (kse HK 1 _ (by rfl) (by rfl) (by rfl)) (by rfl) ?_ | refine wpList_exe (exec_bz (by rfl)) (by rfl) ?_ | refine wpList_exe (exec_seN (s := s) (u := Ses.z) _ _ (by rfl) (by rfl) (by rfl) H0.out) (by rfl) ?_ | refine wpList_exe (exec_add1 (j := k) _ (by rfl) (by rfl) hk3) (by rfl) ?_)
        exact ⟨⟨k + 1, hlt, rfl, HGk, Lib.hid (HK.out.takeL 1)⟩, by simp [intOf]; omega⟩
    · obtain rfl : k = 5 := by omega
      have HR := Lib.hid (HYes.out HGo.out)
      go_wp2_with (first | refine wpList_exe (ktb HK 0 _ (by rfl) (by rfl) (by rfl)) (by rfl) ?_)
      refine (HL.out _).mono ?_; rintro e w1 ⟨rfl, b1⟩
      replace HK := Lib.hid (HK.out.call b1); clear b1
      generalize Ses.live t (-1) = z at *
      go_wp2_with (first | refine wpList_exe (exec_iLe (m := z) (n := 4) _ _ (by rfl) (by rfl) (by rfl) HR.out.symm) (by rfl) ?_)
      go_ret
      exact ⟨rfl, HK.out.b⟩
set_option maxHeartbeats 6400000 in
theorem rright_any (t : Ses.T) (w : World) (hf : Ses.Fit t) : Calls Try.prog 12 #[.agg (tbA t)] w (IsB (decide (Ses.Right t)) w) := by
  have HYes := Lib.hid (Ses.right_all t)
  have HNo := Lib.hid (fun (c : Int) hc => Ses.right_no (t := t) (c := c) hc)
  have HL := Lib.hid (fun W => rlive_any t (-1) W)
  have HF := Lib.hid hf
  have HK := kn1 w 30 (tbA t)
  unfold IsB
  unfold IsN at HL
  clear hf
  generalize decide (Ses.Right t) = r at *
  go_enter Try.func12, Try.ntmps12
  go_wp2_with fail
  go_loopw [3] (fun v6 wr => ∃ k : Nat, k ≤ 5 ∧ v6 = .int .i64 k ∧ Hid (∀ c : Int, 0 ≤ c ∧ c < (k : Int) → Ses.one (t.get c) = true) ∧ Hid (Kn w.heap.size w wr [(w.heap.size, 30, tbA t)] [])) (fun v6 _ => 5 - (intOf v6).toNat)
  case atStart => exact ⟨0, Nat.zero_le _, rfl, Lib.hid (fun c hc => by omega), HK⟩
  case round =>
    clear HK
    obtain ⟨k, hk, rfl, HGo, HK⟩ := hrel
    have hk1 : (0 : Int) ≤ (k : Int) := by omega
    by_cases hlt : k < 5
    · have hk2 : (k : Int) < (5 : Int) := by omega
      have hk3 : k < 9223372036854775807 := by omega
      have hc : 0 ≤ (k : Int) ∧ (k : Int) < 5 := ⟨hk1, hk2⟩
      have HN := Lib.hid (HNo.out (k : Int) hc)
      have HC := Lib.hid (fun W => rone_any (t.get (k : Int)) W (HF.out _ hc))
      have HGk : Hid (Ses.one (t.get (k : Int)) = true → ∀ c : Int, 0 ≤ c ∧ c < ((k + 1 : Nat) : Int) → Ses.one (t.get c) = true) := Lib.hid fun h c hc => by
        by_cases e : c = (k : Int)
        · rw [e]; exact h
        · exact HGo.out c (by omega)
      unfold IsB at HC
      generalize Ses.one (t.get (k : Int)) = b1 at *
      go_wp2_with (first | refine wpList_exe (exec_ixt hc _ _ (by rfl) (by rfl) (by rfl)) (by rfl) ?_ | refine wpList_exe (kts HK 0 hc _ (by rfl) (by rfl) (by rfl)) (by rfl) ?_)
      refine (HC.out _).mono ?_; rintro e w1 ⟨rfl, b1⟩
      replace HK := Lib.hid (HK.out.call b1); clear b1
      cases b1
      · have HR := Lib.hid (HN.out rfl)
        clear HGk HN
        go_wp2_with fail
        go_ret
        exact ⟨by rw [HR.out] <;> rfl, HK.out.b⟩
      · replace HGk := Lib.hid (HGk.out rfl)
        clear HN
        go_wp2_with (first | refine wpList_exe (exec_add1 (j := k) _ (by rfl) (by rfl) hk3) (by rfl) ?_)
        exact ⟨⟨k + 1, hlt, rfl, HGk, HK⟩, by simp [intOf]; omega⟩
    · obtain rfl : k = 5 := by omega
      have HR := Lib.hid (HYes.out HGo.out)
      go_wp2_with (first | refine wpList_exe (ktb HK 0 _ (by rfl) (by rfl) (by rfl)) (by rfl) ?_)
      refine (HL.out _).mono ?_; rintro e w1 ⟨rfl, b1⟩
      replace HK := Lib.hid (HK.out.call b1); clear b1
      generalize Ses.live t (-1) = z at *
      go_wp2_with (first | refine wpList_exe (exec_iLe (m := z) (n := 4) _ _ (by rfl) (by rfl) (by rfl) HR.out.symm) (by rfl) ?_)
      go_ret
      exact ⟨rfl, HK.out.b⟩
end Go.Proofs.Ytbcdmmhbmjjooaa
