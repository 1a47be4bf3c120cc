/-
  What checkValue, Right and checkQueue return, and the document's Right.
  No condition but what the slice reads as, and that floats' bits fit 64.
-/
import Derived.Test.YtieegdlphjkbdaaVaLay
import Derived.Test.YtieegdlphjkbdaaQueMath
set_option linter.unusedSimpArgs false
set_option linter.unusedVariables false
namespace Go.Proofs.Ytieegdlphjkbdaa
open Go.RowKit

set_option maxHeartbeats 3200000 in
theorem vchk_any (v : Val.V) (w : World) (hf : vF v) :
    Calls Try.prog 18 #[vv v] w (IsE (Que.vchk v) w) := by
  have HC := Lib.hid (fun W => check_any v W hf)
  clear hf
  unfold Que.vchk
  obtain ⟨k, n, f, s⟩ := v
  unfold vv IsE at *
  simp only at HC ⊢
  generalize Val.chk ⟨k, n, f, s⟩ = z at *
  have HK := kn1 w 25 (vC k n f s)
  unfold vC at HK
  by_cases hk : k = 0
  · subst hk
    rw [if_pos rfl]
    go_enter Try.func18, Try.ntmps18
    go_wp2_with fail
    go_ret
    exact ⟨rfl, HK.out.b⟩
  · rw [if_neg hk]
    have hk2 : (k == 0) = false := by simpa using hk
    go_enter Try.func18, Try.ntmps18
    go_wp2_with (first | refine wpList_of_exec (by rfl) (kexec_vv HK 0 _ rfl rfl rfl) ?_)
    refine (HC.out _).mono ?_; rintro e w1 ⟨rfl, b1⟩
    replace HK := Lib.hid (HK.out.call b1)
    go_wp2_with fail
    go_ret
    exact ⟨rfl, HK.out.b⟩
set_option maxRecDepth 100000 in
set_option maxHeartbeats 6400000 in
theorem qright_any (N : Int) (A : Option Addr) (c n : Nat) (l : List Val.V) (w : World) (hs : Sls vaLay vF w A n c l) :
    Calls Try.prog 12 #[.int .i64 N, .slice A n c] w (IsB (decide (Que.Right N l)) w) := by
  have HK := Lib.hid (Kn.start w)
  by_cases h1 : N < 1
  · have hd : decide (Que.Right N l) = false := decide_eq_false fun h => by have := h.lo; omega
    rw [hd]
    clear hs hd
    go_enter Try.func12, Try.ntmps12
    go_wp2_with fail
    go_ret
    exact ⟨rfl, HK.out.b⟩
  by_cases h2 : 8 < N
  · have hd : decide (Que.Right N l) = false := decide_eq_false fun h => by have := h.hi; omega
    rw [hd]
    clear hs hd
    go_enter Try.func12, Try.ntmps12
    go_wp2_with fail
    go_ret
    exact ⟨rfl, HK.out.b⟩
  by_cases h3 : N < (n : Int)
  · have hd : decide (Que.Right N l) = false := decide_eq_false fun h => by have := h.len; rw [hs.len] at this; omega
    rw [hd]
    clear hs hd
    go_enter Try.func12, Try.ntmps12
    go_wp2_with fail
    go_ret
    exact ⟨rfl, HK.out.b⟩
  obtain ⟨hno, hyes⟩ := Que.right_told (n := N) (l := l) hs.len (by omega) (by omega) (by omega)
  have HNo := Lib.hid hno
  have HYes := Lib.hid hyes
  have HS := Lib.hid hs
  have hn9 : n < 9 := by omega
  clear hs hno hyes
  generalize decide (Que.Right N l) = r at *
  go_enter Try.func12, Try.ntmps12
  go_wp2_with fail
  go_loopw [21] (fun vi wr => ∃ k : Nat, k ≤ n ∧ vi = .int .i64 k ∧ Hid (∀ (i : Nat) v, i < k → l[i]? = some v → Que.vchk v = 0) ∧ Hid (Kn w.heap.size w wr [] [])) (fun vi _ => n - (intOf vi).toNat)
  case atStart => exact ⟨0, Nat.zero_le _, rfl, Lib.hid (fun i v hi => by omega), HK⟩
  case round =>
    clear HK
    obtain ⟨k, hk, rfl, HGo, HK⟩ := hrel
    have hk1 : (0 : Int) ≤ (k : Int) := by omega
    by_cases hlt : k < n
    · have hk2 : (k : Int) < (n : Int) := by omega
      have hk3 : k < 9223372036854775807 := by omega
      obtain ⟨x, hx, hf⟩ := HS.out.get hlt
      obtain ⟨b, o, rfl, hat⟩ := HS.out.at (Nat.lt_of_le_of_lt (Nat.zero_le _) hlt)
      have HX := Lib.hid (fun W hW => hat W hW k x hx)
      have HV := Lib.hid (fun W => vchk_any x W hf)
      have HN := Lib.hid (HNo.out k x hx)
      have HGk : Hid (Que.vchk x = 0 → ∀ (i : Nat) v, i < k + 1 → l[i]? = some v → Que.vchk v = 0) := Lib.hid fun h i v hi hv => by
        by_cases hik : i = k
        · subst hik; rw [hx] at hv; injection hv with hv; subst hv; exact h
        · exact HGo.out i v (by omega) hv
      clear hat hx hf
      obtain ⟨vk, vn, vf, vs⟩ := x
      unfold vv IsE at HV
      simp only at HV
      generalize Que.vchk ⟨vk, vn, vf, vs⟩ = z at *
      go_wp2_with (first | refine wpList_of_exec (by rfl) (exec_lva (off := o + k * 4) _ (by rfl) (by rfl) (HX.out _ HK.out.b)) ?_ | (refine wpList_akv HK rfl rfl ?_; intro _ g2 HK'; simp only [List.cons_append, List.nil_append] at HK'; replace HK := HK'; clear HK') | (refine wpList_sv (f2 := vf) HK 0 rfl _ _ rfl rfl rfl rfl ?_; intro _ HK'; simp only [List.set] at HK'; replace HK := HK'; clear HK') | refine wpList_of_exec (by rfl) (kexec_vv HK 0 _ (by rfl) (by rfl) (by rfl)) ?_)
      refine (HV.out _).mono ?_; rintro e w1 ⟨rfl, b1⟩
      replace HK := Lib.hid (HK.out.call b1); clear b1
      by_cases hz : z = 0
      · subst hz
        replace HGk := Lib.hid (HGk.out rfl)
        go_wp2_with (first | refine wpList_of_exec (by rfl) (exec_add1 (j := k) _ (by rfl) (by rfl) hk3) ?_)
        exact ⟨⟨k + 1, hlt, rfl, HGk, Lib.hid (HK.out.takeL 0)⟩, by simp [intOf]; omega⟩
      · have hz2 : (z != 0) = true := by simpa using hz
        have HR := Lib.hid (HN.out hz)
        go_wp2_with fail
        go_ret
        exact ⟨by rw [HR.out] <;> rfl, HK.out.b⟩
    · obtain rfl : k = n := by omega
      have HR : Hid (r = true) := Lib.hid (HYes.out HGo.out)
      go_wp2_with fail
      go_ret
      exact ⟨by rw [HR.out] <;> rfl, HK.out.b⟩
set_option maxHeartbeats 1600000 in
theorem qchk_any (N : Int) (A : Option Addr) (c n : Nat) (l : List Val.V) (w : World) (hs : Sls vaLay vF w A n c l) :
    Calls Try.prog 17 #[.int .i64 N, .slice A n c] w (IsE (Que.qchk N l) w) := by
  have HR := Lib.hid (qright_any N A c n l w hs)
  clear hs
  unfold IsE IsB at *
  by_cases h : Que.Right N l
  · rw [decide_eq_true h] at HR
    rw [Que.qchk_ok h]
    clear h
    go_enter Try.func17, Try.ntmps17
    go_wp2_with fail
    refine HR.out.mono ?_; rintro e w1 ⟨rfl, b1⟩
    go_wp2_with fail
    go_ret
    exact ⟨rfl, b1⟩
  · rw [decide_eq_false h] at HR
    rw [Que.qchk_bad h]
    clear h
    go_enter Try.func17, Try.ntmps17
    go_wp2_with fail
    refine HR.out.mono ?_; rintro e w1 ⟨rfl, b1⟩
    go_wp2_with fail
    go_ret
    exact ⟨rfl, b1⟩
end Go.Proofs.Ytieegdlphjkbdaa
