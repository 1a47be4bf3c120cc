/-
  What gate.waits, gate.session, gate.Right and the document's Right return.
  No condition but what the slices read as.
-/
import Derived.Test.YtbdfmfegmfmghaaGateMath
import Derived.Test.YtbdfmfegmfmghaaLockRight
set_option linter.unusedSimpArgs false
set_option linter.unusedVariables false
namespace Go.Proofs.Ytbdfmfegmfmghaa
open Go.RowKit

set_option maxRecDepth 100000 in
set_option maxHeartbeats 6400000 in
theorem waits_any (A : Option Addr) (c n : Nat) (l : List Rf) (q : Int) (w : World) (hs : Sls rfLay rF w A n c l) :
    Calls Try.prog 16 #[.slice A n c, .int .i64 q] w (IsB (Lck.asked l q) w) := by
  obtain ⟨hyes, hno⟩ := Lck.asked_told hs.len q
  have HYes := Lib.hid hyes
  have HNo := Lib.hid hno
  have HS := Lib.hid hs
  have HK := Lib.hid (Kn.start w)
  have hn63 : n < 9223372036854775807 := by
    have h : n * 24 ≤ 140737488355328 := hs.big
    omega
  clear hs hyes hno
  generalize Lck.asked l q = r at *
  go_enter Try.func16, Try.ntmps16
  go_wp2_with fail
  go_loopw [9] (fun vi wr => ∃ k : Nat, k ≤ n ∧ vi = .int .i64 k ∧ Hid (∀ (i : Nat) x, i < k → l[i]? = some x → ¬ x.c = q) ∧ Hid (Kn w.heap.size w wr [] [])) (fun vi _ => n - (intOf vi).toNat)
  case atStart => exact ⟨0, Nat.zero_le _, rfl, Lib.hid (fun i v hi => by omega), HK⟩
  case round =>
    clear HK
    obtain ⟨k, hk, rfl, HGo, HK⟩ := hrel
    have hk1 : (0 : Int) ≤ (k : Int) := by omega
    by_cases hlt : k < n
    · have hk2 : (k : Int) < (n : Int) := by omega
      have hk3 : k < 9223372036854775807 := by omega
      obtain ⟨x, hx, _⟩ := HS.out.get hlt
      obtain ⟨b, o, rfl, hat⟩ := HS.out.at (Nat.lt_of_le_of_lt (Nat.zero_le _) hlt)
      have HX := Lib.hid (fun W hW => hat W hW k x hx)
      have HY := Lib.hid (HYes.out k x hx)
      have HGk : Hid (¬ x.c = q → ∀ (i : Nat) v, i < k + 1 → l[i]? = some v → ¬ v.c = q) := Lib.hid fun h i v hi hv => by
        by_cases hik : i = k
        · subst hik; rw [hx] at hv; injection hv with hv; subst hv; exact h
        · exact HGo.out i v (by omega) hv
      clear hat hx
      by_cases he : x.c = q
      · have HR := Lib.hid (HY.out he)
        have he2 : (x.c == q) = true := by simpa using he
        clear he HGk HY
        go_wp2_with (first | refine wpList_exe (exec_lr (x := x) (off := o + k * 3) _ (by rfl) (by rfl) (HX.out _ HK.out.b)) (by rfl) ?_ | (refine wpList_akr HK rfl rfl ?_; intro _ g2 HK'; simp only [List.cons_append, List.nil_append] at HK'; replace HK := HK'; clear HK') | (refine wpList_sr HK 0 rfl _ _ rfl rfl rfl rfl ?_; intro _ HK'; simp only [List.set] at HK'; replace HK := HK'; clear HK') | refine wpList_exe (kexec_lc0 HK 0 _ (by rfl) (by rfl) (by rfl)) (by rfl) ?_)
        go_ret
        exact ⟨by rw [HR.out] <;> rfl, HK.out.b⟩
      · have he2 : (x.c == q) = false := by simpa using he
        replace HGk := Lib.hid (HGk.out he)
        clear he HY
        go_wp2_with (first | refine wpList_exe (exec_lr (x := x) (off := o + k * 3) _ (by rfl) (by rfl) (HX.out _ HK.out.b)) (by rfl) ?_ | (refine wpList_akr HK rfl rfl ?_; intro _ g2 HK'; simp only [List.cons_append, List.nil_append] at HK'; replace HK := HK'; clear HK') | (refine wpList_sr HK 0 rfl _ _ rfl rfl rfl rfl ?_; intro _ HK'; simp only [List.set] at HK'; replace HK := HK'; clear HK') | refine wpList_exe (kexec_lc0 HK 0 _ (by rfl) (by rfl) (by rfl)) (by rfl) ?_ | refine wpList_exe (exec_add1 (j := k) _ (by rfl) (by rfl) hk3) (by rfl) ?_)
        exact ⟨⟨k + 1, hlt, rfl, HGk, Lib.hid (HK.out.takeL 0)⟩, by simp [intOf]; omega⟩
    · obtain rfl : k = n := by omega
      have HR := Lib.hid (HNo.out HGo.out)
      go_wp2_with fail
      go_ret
      exact ⟨by rw [HR.out] <;> rfl, HK.out.b⟩
set_option maxHeartbeats 3200000 in
theorem gsession_any (x : Rf) (w : World) : Calls Try.prog 18 #[.agg #[.int .i64 x.c, .int .i64 x.e, .int .i64 x.r]] w (fun e w' => e = .returned (.agg #[.int .i64 x.c, .int .i64 x.e, .int .i64 0]) ∧ Below w.heap.size w w') := by
  have HK := Lib.hid (kn1 w 24 #[.int .i64 x.c, .int .i64 x.e, .int .i64 x.r]).out
  go_enter Try.func18, Try.ntmps18
  go_wp2_with (first | (refine wpList_akr HK rfl rfl ?_; intro _ g1 HK'; simp only [List.cons_append, List.nil_append] at HK'; replace HK := HK'; clear HK') | refine wpList_exe (kexec_lc0 HK 0 _ (by rfl) (by rfl) (by rfl)) (by rfl) ?_ | refine wpList_exe (kexec_lc1 HK 0 _ (by rfl) (by rfl) (by rfl)) (by rfl) ?_ | (refine wpList_sr HK 1 rfl _ _ rfl rfl rfl rfl ?_; intro _ HK'; simp only [List.set] at HK'; replace HK := HK'; clear HK'))
  exact ret_r Try.results18 rfl rfl (HK.out.blk 1 rfl) ⟨rfl, HK.out.b⟩
set_option maxHeartbeats 3200000 in
theorem gright_any (m : Int) (A : Option Addr) (c n : Nat) (l : List Rf) (w : World) (hs : Sls rfLay rF w A n c l) :
    Calls Try.prog 11 #[.int .i64 m, .slice A n c] w (IsB (decide (Gt.Right m l)) w) := by
  have HM := Lib.hid (fun W (hW : Below w.heap.size w W) => lright_any A c n l W (hs.later hW))
  have HK := Lib.hid (Kn.start w)
  have hlen := hs.len
  unfold IsB at *
  by_cases h1 : 1 ≤ m
  case neg =>
    rw [decide_eq_false (fun h => h1 h.1)]
    clear hs hlen HM
    go_enter Try.func11, Try.ntmps11
    go_wp2_with fail
    go_ret
    exact ⟨rfl, HK.out.b⟩
  by_cases h2 : m ≤ 5
  case neg =>
    rw [decide_eq_false (fun h => h2 h.2.1)]
    clear hs hlen HM
    go_enter Try.func11, Try.ntmps11
    go_wp2_with fail
    go_ret
    exact ⟨rfl, HK.out.b⟩
  by_cases h3 : (n : Int) < m
  case neg =>
    rw [decide_eq_false (fun h => h3 (by rw [← hlen]; exact h.2.2.1))]
    clear hs hlen HM
    go_enter Try.func11, Try.ntmps11
    go_wp2_with fail
    go_ret
    exact ⟨rfl, HK.out.b⟩
  have he : decide (Gt.Right m l) = decide (Lck.Right l) := decide_eq_decide.2 ⟨fun h => h.2.2.2, fun h => ⟨h1, h2, by rw [hlen]; exact h3, h⟩⟩
  rw [he]
  clear hs hlen he
  generalize decide (Lck.Right l) = b at *
  go_enter Try.func11, Try.ntmps11
  go_wp2_with fail
  refine (HM.out _ HK.out.b).mono ?_; rintro e w1 ⟨rfl, b1⟩
  replace HK := Lib.hid (HK.out.call b1); clear b1
  go_wp2_with fail
  go_ret
  exact ⟨by cases b <;> rfl, HK.out.b⟩
set_option maxHeartbeats 3200000 in
theorem rgright_any (m : Int) (A : Option Addr) (c n : Nat) (l : List Rf) (w : World) (hs : Sls rfLay rF w A n c l) :
    Calls Try.prog 12 #[.int .i64 m, .slice A n c] w (IsB (decide (Gt.Right m l)) w) := by
  have HM := Lib.hid (fun W (hW : Below w.heap.size w W) => rlright_any A c n l W (hs.later hW))
  have HK := Lib.hid (Kn.start w)
  have hlen := hs.len
  unfold IsB at *
  by_cases h1 : 1 ≤ m
  case neg =>
    rw [decide_eq_false (fun h => h1 h.1)]
    clear hs hlen HM
    go_enter Try.func12, Try.ntmps12
    go_wp2_with fail
    go_ret
    exact ⟨rfl, HK.out.b⟩
  by_cases h2 : m ≤ 5
  case neg =>
    rw [decide_eq_false (fun h => h2 h.2.1)]
    clear hs hlen HM
    go_enter Try.func12, Try.ntmps12
    go_wp2_with fail
    go_ret
    exact ⟨rfl, HK.out.b⟩
  by_cases h3 : (n : Int) < m
  case neg =>
    rw [decide_eq_false (fun h => h3 (by rw [← hlen]; exact h.2.2.1))]
    clear hs hlen HM
    go_enter Try.func12, Try.ntmps12
    go_wp2_with fail
    go_ret
    exact ⟨rfl, HK.out.b⟩
  have he : decide (Gt.Right m l) = decide (Lck.Right l) := decide_eq_decide.2 ⟨fun h => h.2.2.2, fun h => ⟨h1, h2, by rw [hlen]; exact h3, h⟩⟩
  rw [he]
  clear hs hlen he
  generalize decide (Lck.Right l) = b at *
  go_enter Try.func12, Try.ntmps12
  go_wp2_with fail
  refine (HM.out _ HK.out.b).mono ?_; rintro e w1 ⟨rfl, b1⟩
  replace HK := Lib.hid (HK.out.call b1); clear b1
  go_wp2_with fail
  go_ret
  exact ⟨by cases b <;> rfl, HK.out.b⟩
end Go.Proofs.Ytbdfmfegmfmghaa
