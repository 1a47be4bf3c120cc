/-
  What checkPair and cmp.Or of two errors return.
  No condition but that floats' bits fit 64.
-/
import Derived.Test.YtikfjimdkbmjhaaPrLay
set_option linter.unusedSimpArgs false
set_option linter.unusedVariables false
namespace Go.Proofs.Ytikfjimdkbmjhaa
open Go.RowKit

set_option maxHeartbeats 3200000 in
theorem pchk_any (key : ByteArray) (v : Val.V) (w : World) (hf : v.f < 18446744073709551616) :
    Calls Try.prog 24 #[.string key, vv v] w (IsE (Dct.pchk key v) w) := by
  have HC := Lib.hid (fun W => check_any v W hf)
  clear hf
  unfold Dct.pchk
  obtain ⟨k, n, f, s⟩ := v
  unfold vv IsE at *
  simp only at HC ⊢
  generalize Val.chk ⟨k, n, f, s⟩ = z at *
  have HK := kn1 w 25 (vC k n f s)
  unfold vC at HK
  by_cases hk : k = 0
  · subst hk
    rw [if_pos rfl]
    go_enter Try.func24, Try.ntmps24
    go_wp2_with fail
    go_ret
    exact ⟨rfl, HK.out.b⟩
  · rw [if_neg hk]
    have hk2 : (k == 0) = false := by simpa using hk
    by_cases hl : 64 < key.size
    · rw [if_pos hl]
      have hl2 : 64 < (key.size : Int) := by omega
      go_enter Try.func24, Try.ntmps24
      go_wp2_with fail
      go_ret
      exact ⟨rfl, HK.out.b⟩
    · rw [if_neg hl]
      have hl2 : ¬ 64 < (key.size : Int) := by omega
      go_enter Try.func24, Try.ntmps24
      go_wp2_with (first | refine wpList_of_exec (by rfl) (kexec_vv HK 0 _ rfl rfl rfl) ?_)
      refine (HC.out _).mono ?_; rintro e w1 ⟨rfl, b1⟩
      replace HK := Lib.hid (HK.out.call b1)
      go_wp2_with fail
      go_ret
      exact ⟨rfl, HK.out.b⟩
/-- The first that isn't 0. -/
def nz2 (a b : Int) : Int := if a = 0 then b else a
set_option maxHeartbeats 1600000 in
theorem or2_any (g : Nat) (a b : Int) (w : World) (h0 : w.cell? ⟨g, 0, none⟩ = some (.int .i64 a)) (h1 : w.cell? ⟨g, 1, none⟩ = some (.int .i64 b)) :
    Calls Try.prog 23 #[.slice (some ⟨g, 0, none⟩) 2 2] w fun e w' => e = .returned (.int .i64 (nz2 a b)) ∧ w' = w := by
  unfold nz2
  by_cases ha : a = 0
  · subst ha
    rw [if_pos rfl]
    by_cases hb : b = 0
    · subst hb
      go_enter Try.func23, Try.ntmps23
      go_wp2
      go_rounds 3
      all_goals
        go_ret
        exact ⟨rfl, rfl⟩
    · have hb2 : (b != 0) = true := by simpa using hb
      go_enter Try.func23, Try.ntmps23
      go_wp2
      go_rounds 3
      all_goals
        go_ret
        exact ⟨rfl, rfl⟩
  · rw [if_neg ha]
    have ha2 : (a != 0) = true := by simpa using ha
    go_enter Try.func23, Try.ntmps23
    go_wp2
    go_rounds 3
    all_goals
      go_ret
      exact ⟨rfl, rfl⟩
end Go.Proofs.Ytikfjimdkbmjhaa
