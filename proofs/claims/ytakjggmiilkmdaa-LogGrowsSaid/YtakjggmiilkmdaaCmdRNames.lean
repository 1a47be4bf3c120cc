/-
  What names returns: which fields a kind of commands has, the document.
  No condition but those named.
-/
import Derived.Test.YtakjggmiilkmdaaJCmd
import Derived.KernelRfl
set_option linter.unusedSimpArgs false
set_option linter.unusedVariables false
namespace Go.Proofs.Ytakjggmiilkmdaa
open Go.RowKit

set_option maxHeartbeats 3200000 in
theorem rnames_any (k : Int) (w : World) : Calls Try.prog 53 #[.int .i64 k] w (IsF (Cmd.f0 k) (Cmd.f1 k) (Cmd.f2 k) (Cmd.f3 k) (Cmd.f4 k) (Cmd.f5 k) w) := by
  rcases Cmd.kinds k with rfl | (rfl | rfl | rfl | rfl | rfl | rfl) | (rfl | rfl) | rfl | rfl | (rfl | rfl) | rfl | h
  case inr.inr.inr.inr.inr.inr.inr =>
    obtain ⟨e0, e1, e2, e3, e4, e5⟩ := Cmd.flags_none h
    have n4 : ¬ k = 4 := by omega
    have n5 : ¬ k = 5 := by omega
    have n6 : ¬ k = 6 := by omega
    have n7 : ¬ k = 7 := by omega
    have n8 : ¬ k = 8 := by omega
    have n9 : ¬ k = 9 := by omega
    have n10 : ¬ k = 10 := by omega
    have n11 : ¬ k = 11 := by omega
    have n12 : ¬ k = 12 := by omega
    have n13 : ¬ k = 13 := by omega
    have n14 : ¬ k = 14 := by omega
    have n15 : ¬ k = 15 := by omega
    have n16 : ¬ k = 16 := by omega
    have n17 : ¬ k = 17 := by omega
    refine Calls.mono (R := IsF false false false false false false w) ?_ fun e w' h => isF h e0 e1 e2 e3 e4 e5
    clear h e0 e1 e2 e3 e4 e5
    go_enter Try.func53, Try.ntmps53
    go_wp2_with fail
    exact ret_fl Try.results53 rfl rfl (Blk.new w _ _) ⟨rfl, (Below.refl _ w).alloc (Nat.le_refl _) _⟩
  all_goals
    go_enter Try.func53, Try.ntmps53
    go_wp2_with fail
    exact ret_fl Try.results53 rfl rfl (Blk.new w _ _) ⟨rfl, (Below.refl _ w).alloc (Nat.le_refl _) _⟩
end Go.Proofs.Ytakjggmiilkmdaa
