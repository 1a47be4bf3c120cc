/-
  What cmp.Or of two errors returns.
  No condition.
-/
import Derived.Test.YtieegdlphjkbdaaExec
set_option linter.unusedSimpArgs false
set_option linter.unusedVariables false
namespace Go.Proofs.Ytieegdlphjkbdaa
open Go.RowKit

/-- The first that isn't 0. -/
def nz2 (a b : Int) : Int := if a = 0 then b else a
set_option maxHeartbeats 1600000 in
theorem or2_any (g : Nat) (a b : Int) (w : World) (h0 : w.cell? ⟨g, 0, none⟩ = some (.int .i64 a)) (h1 : w.cell? ⟨g, 1, none⟩ = some (.int .i64 b)) :
    Calls Try.prog 16 #[.slice (some ⟨g, 0, none⟩) 2 2] w fun e w' => e = .returned (.int .i64 (nz2 a b)) ∧ w' = w := by
  unfold nz2
  by_cases ha : a = 0
  · subst ha
    rw [if_pos rfl]
    by_cases hb : b = 0
    · subst hb
      go_enter Try.func16, Try.ntmps16
      go_wp2
      go_rounds 3
      all_goals
        go_ret
        exact ⟨rfl, rfl⟩
    · have hb2 : (b != 0) = true := by simpa using hb
      go_enter Try.func16, Try.ntmps16
      go_wp2
      go_rounds 3
      all_goals
        go_ret
        exact ⟨rfl, rfl⟩
  · rw [if_neg ha]
    have ha2 : (a != 0) = true := by simpa using ha
    go_enter Try.func16, Try.ntmps16
    go_wp2
    go_rounds 3
    all_goals
      go_ret
      exact ⟨rfl, rfl⟩
theorem or2a_any (a b : Int) (W : World) (t : TypeId) (g : Nat) (hg : g = W.heap.size) : Calls Try.prog 16 #[.slice (some ⟨g, 0, none⟩) 2 2] (W.alloc (.cells #[.int .i64 a, .int .i64 b] t)) fun en w' => en = .returned (.int .i64 (nz2 a b)) ∧ w' = W.alloc (.cells #[.int .i64 a, .int .i64 b] t) := by
  subst hg
  exact or2_any _ a b _ (by rw [World.cell?_alloc_new]; rfl) (by rw [World.cell?_alloc_new]; rfl)
end Go.Proofs.Ytieegdlphjkbdaa
