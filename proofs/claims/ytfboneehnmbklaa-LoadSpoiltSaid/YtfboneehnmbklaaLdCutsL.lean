/-
  The law LoadCuts.
  No condition but the form's own reach of a text.
-/
import Derived.Test.YtfboneehnmbklaaLdAwake
import Derived.Test.YtfboneehnmbklaaLdRight
import Derived.Deep.DeepCutAuto
set_option linter.unusedSimpArgs false
set_option linter.unusedVariables false
namespace Go.Proofs.Ytfboneehnmbklaa
open Go.RowKit

theorem ba_esize (s : ByteArray) (a b : Nat) (h : b ≤ s.size) : (s.extract a b).size = b - a := by
  rw [ByteArray.size_extract]; omega
theorem ct_pr {v a : Int} {s : ByteArray} (h : Ldm.ctE s a = 0) : Ldm.PR (Ldm.ct v s a) := by
  have h1 : ¬ 16384 < s.size := fun q => by unfold Ldm.ctE at h; rw [if_pos q] at h; cases h
  have h2 : ¬ (a < 0 ∨ (Ldm.cn s.size : Int) ≤ a) := fun q => by unfold Ldm.ctE at h; rw [if_neg h1, if_pos q] at h; cases h
  obtain ⟨k, rfl⟩ : ∃ k : Nat, a = (k : Int) := ⟨a.toNat, by omega⟩
  have hk : k < Ldm.cn s.size := by omega
  rw [(ct_ok (v := v) h1 hk).1]
  have c1 := Ldm.cn_pos s.size
  have c2 := Ldm.cn_le (m := s.size) (by omega)
  have c3 := Ldm.cn_at hk
  refine ⟨⟨by show (1 : Int) ≤ (Ldm.cn s.size : Nat); omega, by show ((Ldm.cn s.size : Nat) : Int) ≤ 256; omega, by show (0 : Int) ≤ (k : Int); omega, by show (k : Int) < (Ldm.cn s.size : Nat); omega⟩, fun q => ?_, fun q => ?_⟩
  · have q2 : (k : Int) < ((Ldm.cn s.size : Nat) : Int) - 1 := q
    have := Ldm.cn_least s.size k (by omega)
    show (s.extract _ _).size = 64
    rw [ba_esize _ _ _ (by split <;> omega)]
    split <;> omega
  · have q2 : ¬ (k : Int) < ((Ldm.cn s.size : Nat) : Int) - 1 := q
    have hcov := Ldm.cn_cover s.size
    have hs2 : (s.extract (k * 64) (if s.size ≤ k * 64 + 64 then s.size else k * 64 + 64)).size = (if s.size ≤ k * 64 + 64 then s.size else k * 64 + 64) - k * 64 := ba_esize _ _ _ (by split <;> omega)
    refine ⟨?_, ?_⟩
    · show (s.extract _ _).size ≤ 64
      rw [hs2]; split <;> omega
    · show 0 < (s.extract _ _).size ∨ ((Ldm.cn s.size : Nat) : Int) = 1
      rw [hs2]
      rcases Nat.eq_zero_or_pos s.size with h0 | h0
      · right; rw [h0]; rfl
      · left
        have := Ldm.cn_in hk h0
        split <;> omega
section
variable {w : World} {o : Oper} {a : Act}
theorem exec_peq {n c t : Int} {s : Nat} {d : ByteArray} (p q : Operand) (ho : o.op = .binOp .eql 24 p q 24) (hx : a.eval p = .agg #[.int .i64 n, .int .i64 c, .int .i64 t, .int .u32 (s : Int), .string d]) (hy : a.eval q = .agg #[.int .i64 n, .int .i64 c, .int .i64 t, .int .u32 (s : Int), .string d]) :
    (execOp a.eval o).run Try.prog w = .ok (.value (.bool true)) w := by
  unfold execOp
  simp only [ho, hx, hy]
  go_simp
end
set_option maxRecDepth 100000 in
set_option maxHeartbeats 6400000 in
theorem lcuts_any (v : Int) (s : ByteArray) (a : Int) (w : World) (hs : s.size ≤ reachBytes) : Lift.Yes Try.prog 3 #[.int .i64 v, .string s, .int .i64 a] w := by
  have hs2 : s.size ≤ 140737488351232 := hs
  have HAw := Lib.hid lawake_any
  have HN := Lib.hid (fun W => count_any s W hs2)
  have HM := Lib.hid (fun W => rcount_any s W hs2)
  have HC := Lib.hid (fun W => lcut_any v s a W hs2)
  have HD := Lib.hid (fun W => lrcut_any v s a W hs2)
  have HP : Hid (Ldm.ctE s a = 0 → Ldm.PR (Ldm.ct v s a)) := Lib.hid ct_pr
  have hsz : (Ldm.ct v s a).d.size ≤ 140737488351232 := by
    unfold Ldm.ct
    split
    · show 0 ≤ _; decide
    · split
      · show 0 ≤ _; decide
      · show (s.extract _ _).size ≤ _
        rw [ByteArray.size_extract]; omega
  have HR := Lib.hid (fun W => lright_any (Ldm.ct v s a) W hsz)
  have HK := Lib.hid (Kn.start w)
  clear hs hs2 hsz
  unfold IsB at HAw HR
  unfold IsPE at HC HD
  unfold Lift.Yes
  generalize Ldm.ct v s a = p at *
  generalize Ldm.ctE s a = E at *
  generalize Ldm.cn s.size = N at *
  obtain ⟨pn, pa, pt, ps, pd⟩ := p
  simp only at *
  by_cases hE : E = 0
  · rw [decide_eq_true (HP.out hE)] at HR
    subst hE
    clear HP
    go_enter Try.func3, Try.ntmps3
    go_wp2_with fail
    refine (HC.out _).mono ?_; rintro e w1 ⟨rfl, b1⟩
    replace HK := Lib.hid (HK.out.call b1); clear b1
    go_wp2_with (first | (refine wpList_akp HK rfl rfl ?_; intro _ g2 HK'; simp only [List.cons_append, List.nil_append] at HK'; replace HK := HK'; clear HK') | (refine wpList_sp HK 0 rfl _ _ rfl rfl rfl rfl ?_; intro _ HK'; simp only [List.set] at HK'; replace HK := HK'; clear HK'))
    refine (HD.out _).mono ?_; rintro e w1 ⟨rfl, b1⟩
    replace HK := Lib.hid (HK.out.call b1); clear b1
    go_wp2_with (first | (refine wpList_akp HK rfl rfl ?_; intro _ g3 HK'; simp only [List.cons_append, List.nil_append] at HK'; replace HK := HK'; clear HK') | (refine wpList_sp HK 1 rfl _ _ rfl rfl rfl rfl ?_; intro _ HK'; simp only [List.set] at HK'; replace HK := HK'; clear HK'))
    refine (HAw.out _).mono ?_; rintro e w1 ⟨rfl, b1⟩
    replace HK := Lib.hid (HK.out.call b1); clear b1
    go_wp2_with fail
    refine (HN.out _).mono ?_; rintro e w1 ⟨rfl, rfl⟩
    go_wp2_with fail
    refine (HM.out _).mono ?_; rintro e w1 ⟨rfl, rfl⟩
    go_wp2_with (first | refine wpList_exe (kp_p HK 0 _ (by rfl) (by rfl) (by rfl)) (by rfl) ?_ | refine wpList_exe (kp_p HK 1 _ (by rfl) (by rfl) (by rfl)) (by rfl) ?_ | refine wpList_exe (exec_peq _ _ (by rfl) (by rfl) (by rfl)) (by rfl) ?_)
    refine (HR.out _).mono ?_; rintro e w1 ⟨rfl, b1⟩
    replace HK := Lib.hid (HK.out.call b1); clear b1
    go_wp2_with fail
    go_ret
    exact ⟨rfl, HK.out.b⟩
  · have hE2 : (E != 0) = true := by simpa using hE
    clear HP HR hE
    go_enter Try.func3, Try.ntmps3
    go_wp2_with fail
    refine (HC.out _).mono ?_; rintro e w1 ⟨rfl, b1⟩
    replace HK := Lib.hid (HK.out.call b1); clear b1
    go_wp2_with (first | (refine wpList_akp HK rfl rfl ?_; intro _ g2 HK'; simp only [List.cons_append, List.nil_append] at HK'; replace HK := HK'; clear HK') | (refine wpList_sp HK 0 rfl _ _ rfl rfl rfl rfl ?_; intro _ HK'; simp only [List.set] at HK'; replace HK := HK'; clear HK'))
    refine (HD.out _).mono ?_; rintro e w1 ⟨rfl, b1⟩
    replace HK := Lib.hid (HK.out.call b1); clear b1
    go_wp2_with (first | (refine wpList_akp HK rfl rfl ?_; intro _ g3 HK'; simp only [List.cons_append, List.nil_append] at HK'; replace HK := HK'; clear HK') | (refine wpList_sp HK 1 rfl _ _ rfl rfl rfl rfl ?_; intro _ HK'; simp only [List.set] at HK'; replace HK := HK'; clear HK'))
    refine (HAw.out _).mono ?_; rintro e w1 ⟨rfl, b1⟩
    replace HK := Lib.hid (HK.out.call b1); clear b1
    go_wp2_with fail
    refine (HN.out _).mono ?_; rintro e w1 ⟨rfl, rfl⟩
    go_wp2_with fail
    refine (HM.out _).mono ?_; rintro e w1 ⟨rfl, rfl⟩
    go_wp2_with (first | refine wpList_exe (kp_p HK 0 _ (by rfl) (by rfl) (by rfl)) (by rfl) ?_ | refine wpList_exe (kp_p HK 1 _ (by rfl) (by rfl) (by rfl)) (by rfl) ?_ | refine wpList_exe (exec_peq _ _ (by rfl) (by rfl) (by rfl)) (by rfl) ?_)
    go_ret
    exact ⟨rfl, HK.out.b⟩
end Go.Proofs.Ytfboneehnmbklaa
