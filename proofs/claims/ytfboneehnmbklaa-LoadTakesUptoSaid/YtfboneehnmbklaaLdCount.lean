/-
  How many pieces a text has: what Count and the document's own return.
  No condition but a text's greatest size.
-/
import Derived.Test.YtfboneehnmbklaaLdLay
set_option linter.unusedSimpArgs false
set_option linter.unusedVariables false
namespace Go.Proofs.Ytfboneehnmbklaa
open Go.RowKit

set_option maxHeartbeats 1600000 in
theorem count_any (s : ByteArray) (w : World) (hs : s.size ≤ 140737488351232) :
    Calls Try.prog 11 #[.string s] w fun e w' => e = .returned (.int .i64 (Ldm.cn s.size : Nat)) ∧ w' = w := by
  by_cases h1 : 0 < s.size % 64
  · rw [Ldm.cn_quo (.inl h1)]
    go_enter Try.func11, Try.ntmps11
    go_wp2_with fail
    all_goals
      try simp only [beq_iff_eq, beq_eq_false_iff_ne, ne_eq] at *
      go_ret
      exact ⟨congrArg (fun z => Ending.returned (.int .i64 z)) (by omega), rfl⟩
  by_cases h2 : s.size / 64 = 0
  · rw [Ldm.cn_quo (.inr h2)]
    go_enter Try.func11, Try.ntmps11
    go_wp2_with fail
    all_goals
      try simp only [beq_iff_eq, beq_eq_false_iff_ne, ne_eq] at *
      go_ret
      exact ⟨congrArg (fun z => Ending.returned (.int .i64 z)) (by omega), rfl⟩
  · rw [Ldm.cn_quo2 (by omega) h2]
    go_enter Try.func11, Try.ntmps11
    go_wp2_with fail
    all_goals
      try simp only [beq_iff_eq, beq_eq_false_iff_ne, ne_eq] at *
      go_ret
      exact ⟨congrArg (fun z => Ending.returned (.int .i64 z)) (by omega), rfl⟩

set_option maxHeartbeats 1600000 in
theorem rcount_any (s : ByteArray) (w : World) (hs : s.size ≤ 140737488351232) :
    Calls Try.prog 12 #[.string s] w fun e w' => e = .returned (.int .i64 (Ldm.cn s.size : Nat)) ∧ w' = w := by
  go_enter Try.func12, Try.ntmps12
  go_wp2
  go_loop [3] (fun x => ∃ k : Nat, 1 ≤ k ∧ k ≤ Ldm.cn s.size ∧ x = .int .i64 k) (fun x => Ldm.cn s.size - (intOf x).toNat)
  case atStart => exact ⟨1, Nat.le_refl _, Ldm.cn_pos _, rfl⟩
  case round =>
    obtain ⟨k, h1, hk, rfl⟩ := hrel
    have hc := Ldm.cn_small hs
    have hw : IntKind.i64.wrap ((k : Int) * 64) = ((k * 64 : Nat) : Int) := by rw [IntKind.wrap_i64]; omega
    have hw1 : IntKind.i64.wrap ((k : Int) + 1) = ((k + 1 : Nat) : Int) := by rw [IntKind.wrap_i64]; omega
    by_cases hlt : k * 64 < s.size
    · have hlt2 : ((k * 64 : Nat) : Int) < (s.size : Int) := by omega
      go_wp2
      go_round
      case rel => exact ⟨k + 1, by omega, Ldm.cn_next hlt, by go_num⟩
      case measure => have hn := Ldm.cn_next hlt; simp [intOf, hw1]; omega
    · have hlt2 : ¬ ((k * 64 : Nat) : Int) < (s.size : Int) := by omega
      have he := Ldm.cn_stop h1 hk hlt
      have HE := Lib.hid he
      clear he
      go_wp2
      go_ret
      exact ⟨by rw [← HE.out]; rfl, rfl⟩
end Go.Proofs.Ytfboneehnmbklaa
