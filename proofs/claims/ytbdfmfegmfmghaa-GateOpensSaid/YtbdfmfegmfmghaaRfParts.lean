/-
  What cmd.Right, the document's Right and Mine, and lock.asked return.
  No condition but what the slices read as.
-/
import Derived.Test.YtbdfmfegmfmghaaRfLay
set_option linter.unusedSimpArgs false
set_option linter.unusedVariables false
namespace Go.Proofs.Ytbdfmfegmfmghaa
open Go.RowKit

set_option maxHeartbeats 3200000 in
theorem cmr_any (x : Rf) (w : World) : Calls Try.prog 14 #[.agg #[.int .i64 x.c, .int .i64 x.e, .int .i64 x.r]] w (IsB (decide (Lck.ok x)) w) := by
  have HE : Hid (∀ q : Bool, (q = true ↔ (0 ≤ x.c ∧ x.c < 5 ∧ 1 ≤ x.e ∧ 0 ≤ x.r)) → q = decide (Lck.ok x)) := Lib.hid fun q hq => by
    rw [Bool.eq_iff_iff, hq, decide_eq_true_eq]
    exact Iff.rfl
  generalize decide (Lck.ok x) = r at *
  obtain ⟨c, ep, rq⟩ := x
  simp only at HE ⊢
  have HK := kn1 w 24 #[.int .i64 c, .int .i64 ep, .int .i64 rq]
  go_enter Try.func14, Try.ntmps14
  go_wp2_with fail
  all_goals
    go_ret
    refine ⟨congrArg (fun b => Ending.returned (.bool b)) (HE.out _ ?_), HK.out.b⟩
    clear HE HK
    simp_all <;> omega
set_option maxHeartbeats 3200000 in
theorem rmr_any (x : Rf) (w : World) : Calls Try.prog 17 #[.agg #[.int .i64 x.c, .int .i64 x.e, .int .i64 x.r]] w (IsB (decide (Lck.ok x)) w) := by
  have HE : Hid (∀ q : Bool, (q = true ↔ (0 ≤ x.c ∧ x.c < 5 ∧ 1 ≤ x.e ∧ 0 ≤ x.r)) → q = decide (Lck.ok x)) := Lib.hid fun q hq => by
    rw [Bool.eq_iff_iff, hq, decide_eq_true_eq]
    exact Iff.rfl
  generalize decide (Lck.ok x) = r at *
  obtain ⟨c, ep, rq⟩ := x
  simp only at HE ⊢
  have HK := kn1 w 24 #[.int .i64 c, .int .i64 ep, .int .i64 rq]
  go_enter Try.func17, Try.ntmps17
  go_wp2_with fail
  all_goals
    go_ret
    refine ⟨congrArg (fun b => Ending.returned (.bool b)) (HE.out _ ?_), HK.out.b⟩
    clear HE HK
    simp_all <;> omega
set_option maxHeartbeats 3200000 in
theorem mine_any (x y : Rf) (w : World) : Calls Try.prog 19 #[.agg #[.int .i64 x.c, .int .i64 x.e, .int .i64 x.r], .agg #[.int .i64 y.c, .int .i64 y.e, .int .i64 y.r]] w (IsB (decide (Lck.mine x y)) w) := by
  have HE : Hid (∀ q : Bool, (q = true ↔ (x.c = y.c ∧ x.e = y.e)) → q = decide (Lck.mine x y)) := Lib.hid fun q hq => by
    rw [Bool.eq_iff_iff, hq, decide_eq_true_eq]
    exact Iff.rfl
  generalize decide (Lck.mine x y) = r at *
  obtain ⟨c, ep, rq⟩ := x
  obtain ⟨c2, ep2, rq2⟩ := y
  simp only at HE ⊢
  by_cases hc : c = c2
  · subst hc
    have HK := kn2 w 24 #[.int .i64 c, .int .i64 ep, .int .i64 rq] 24 #[.int .i64 c, .int .i64 ep2, .int .i64 rq2]
    go_enter Try.func19, Try.ntmps19
    go_wp2_with fail
    go_ret
    refine ⟨congrArg (fun b => Ending.returned (.bool b)) (HE.out _ ?_), HK.out.b⟩
    clear HE HK
    simp_all
  · have hc2 : (c == c2) = false := by simpa using hc
    have HK := kn2 w 24 #[.int .i64 c, .int .i64 ep, .int .i64 rq] 24 #[.int .i64 c2, .int .i64 ep2, .int .i64 rq2]
    go_enter Try.func19, Try.ntmps19
    go_wp2_with fail
    go_ret
    refine ⟨congrArg (fun b => Ending.returned (.bool b)) (HE.out _ ?_), HK.out.b⟩
    clear HE HK
    simp_all
set_option maxRecDepth 100000 in
set_option maxHeartbeats 6400000 in
theorem asked_any (A : Option Addr) (c n : Nat) (l : List Rf) (q : Int) (w : World) (hs : Sls rfLay rF w A n c l) :
    Calls Try.prog 23 #[.slice A n c, .int .i64 q] w (IsB (Lck.asked l q) w) := by
  obtain ⟨hyes, hno⟩ := Lck.asked_told hs.len q
  have HYes := Lib.hid hyes
  have HNo := Lib.hid hno
  have HS := Lib.hid hs
  have HK := Lib.hid (Kn.start w)
  have hn63 : n < 9223372036854775807 := by
    have h : n * 24 ≤ 140737488355328 := hs.big
    omega
  clear hs hyes hno
  generalize Lck.asked l q = r at *
  go_enter Try.func23, Try.ntmps23
  go_wp2_with fail
  go_loopw [9] (fun vi wr => ∃ k : Nat, k ≤ n ∧ vi = .int .i64 k ∧ Hid (∀ (i : Nat) x, i < k → l[i]? = some x → ¬ x.c = q) ∧ Hid (Kn w.heap.size w wr [] [])) (fun vi _ => n - (intOf vi).toNat)
  case atStart => exact ⟨0, Nat.zero_le _, rfl, Lib.hid (fun i v hi => by omega), HK⟩
  case round =>
    clear HK
    obtain ⟨k, hk, rfl, HGo, HK⟩ := hrel
    have hk1 : (0 : Int) ≤ (k : Int) := by omega
    by_cases hlt : k < n
    · have hk2 : (k : Int) < (n : Int) := by omega
      have hk3 : k < 9223372036854775807 := by omega
      obtain ⟨x, hx, _⟩ := HS.out.get hlt
      obtain ⟨b, o, rfl, hat⟩ := HS.out.at (Nat.lt_of_le_of_lt (Nat.zero_le _) hlt)
      have HX := Lib.hid (fun W hW => hat W hW k x hx)
      have HY := Lib.hid (HYes.out k x hx)
      have HGk : Hid (¬ x.c = q → ∀ (i : Nat) v, i < k + 1 → l[i]? = some v → ¬ v.c = q) := Lib.hid fun h i v hi hv => by
        by_cases hik : i = k
        · subst hik; rw [hx] at hv; injection hv with hv; subst hv; exact h
        · exact HGo.out i v (by omega) hv
      clear hat hx
      by_cases he : x.c = q
      · have HR := Lib.hid (HY.out he)
        have he2 : (x.c == q) = true := by simpa using he
        clear he HGk HY
        go_wp2_with (first | refine wpList_exe (exec_lr (x := x) (off := o + k * 3) _ (by rfl) (by rfl) (HX.out _ HK.out.b)) (by rfl) ?_ | (refine wpList_akr HK rfl rfl ?_; intro _ g2 HK'; simp only [List.cons_append, List.nil_append] at HK'; replace HK := HK'; clear HK') | (refine wpList_sr HK 0 rfl _ _ rfl rfl rfl rfl ?_; intro _ HK'; simp only [List.set] at HK'; replace HK := HK'; clear HK') | refine wpList_exe (kexec_lc0 HK 0 _ (by rfl) (by rfl) (by rfl)) (by rfl) ?_)
        go_ret
        exact ⟨by rw [HR.out] <;> rfl, HK.out.b⟩
      · have he2 : (x.c == q) = false := by simpa using he
        replace HGk := Lib.hid (HGk.out he)
        clear he HY
        go_wp2_with (first | refine wpList_exe (exec_lr (x := x) (off := o + k * 3) _ (by rfl) (by rfl) (HX.out _ HK.out.b)) (by rfl) ?_ | (refine wpList_akr HK rfl rfl ?_; intro _ g2 HK'; simp only [List.cons_append, List.nil_append] at HK'; replace HK := HK'; clear HK') | (refine wpList_sr HK 0 rfl _ _ rfl rfl rfl rfl ?_; intro _ HK'; simp only [List.set] at HK'; replace HK := HK'; clear HK') | refine wpList_exe (kexec_lc0 HK 0 _ (by rfl) (by rfl) (by rfl)) (by rfl) ?_ | refine wpList_exe (exec_add1 (j := k) _ (by rfl) (by rfl) hk3) (by rfl) ?_)
        exact ⟨⟨k + 1, hlt, rfl, HGk, Lib.hid (HK.out.takeL 0)⟩, by simp [intOf]; omega⟩
    · obtain rfl : k = n := by omega
      have HR := Lib.hid (HNo.out HGo.out)
      go_wp2_with fail
      go_ret
      exact ⟨by rw [HR.out] <;> rfl, HK.out.b⟩
theorem mine_ne (x r : Rf) : (!decide ((⟨x.c, x.e, 0⟩ : Rf) = ⟨r.c, r.e, 0⟩)) = !decide (Lck.mine x r) := by
  by_cases h : Lck.mine x r
  · rw [decide_eq_true h, decide_eq_true (by rw [h.1, h.2])]
  · rw [decide_eq_false h, decide_eq_false (fun e => h (by injection e with e1 e2; exact ⟨e1, e2⟩))]
theorem fits_one (r : Rf) : Fits rfLay rF [r] := ⟨fun x hx => trivial, by show 1 * 24 ≤ _; decide⟩
theorem fits_two (a b : Rf) : Fits rfLay rF [a, b] := ⟨fun x hx => trivial, by show 2 * 24 ≤ _; decide⟩
end Go.Proofs.Ytbdfmfegmfmghaa
