/-
  What the document's Same returns of items that are the same.
  No condition but that they are no more than 100000000.
-/
import Derived.Test.YtcofjaeljglodaaVlItems
import Derived.Deep.QuietTactic
import Derived.BigQuiet
import Derived.Deep.Draws
set_option linter.unusedSimpArgs false
set_option linter.unusedVariables false
namespace Go.Proofs.Ytcofjaeljglodaa
open Go.RowKit

set_option maxHeartbeats 3200000 in
theorem isame_any (A A' : Option Addr) (c c' : Nat) (l : List Itm.It) (w : World) (hl : l.length ≤ 100000000) (hi : itemLay.Reads w w.heap.size A l) (hi' : itemLay.Reads w w.heap.size A' l) :
    Calls Try.prog 16 #[.slice A l.length c, .slice A' l.length c'] w fun en w' => en = .returned (.bool true) ∧ ∃ q, w' = w.drewN q := by
  have HI := Lib.hid hi
  have HI' := Lib.hid hi'
  clear hi hi'
  have HGo : Hid (∀ k, k < l.length → ∃ b, l[k]? = some b) := Lib.hid fun k hk => Lay.get_of hk
  generalize hn : l.length = n at *
  have HN := Lib.hid hn
  clear hn
  have hnn : ((n : Int) != (n : Int)) = false := by simp
  go_enter Try.func16, Try.ntmps16
  go_wp2_with fail
  go_loopw [5] (fun vi wr => ∃ k q : Nat, k ≤ n ∧ vi = .int .i64 k ∧ wr = w.drewN q) (fun vi _ => n - (intOf vi).toNat)
  case atStart => exact ⟨0, 0, Nat.zero_le _, rfl, rfl⟩
  case round =>
    obtain ⟨k, q, hk, rfl, rfl⟩ := hrel
    by_cases hlt : k < n
    · obtain ⟨x, hx⟩ := HGo.out k hlt
      obtain ⟨b, o, rfl, _, hc⟩ := HI.out (by rw [HN.out]; omega)
      obtain ⟨b', o', rfl, _, hc'⟩ := HI'.out (by rw [HN.out]; omega)
      obtain ⟨c0, c1, c2⟩ := at_item (hc k x hx)
      obtain ⟨d0, d1, d2⟩ := at_item (hc' k x hx)
      clear hc hc' hx
      have hk1 : (0 : Int) ≤ (k : Int) := by omega
      have hk2 : (k : Int) < (n : Int) := by omega
      obtain ⟨xk, xn, xs⟩ := x
      simp only at c0 c1 c2 d0 d1 d2
      go_wp2_with fail
      go_quiet (fail)
      go_wp2_with fail
      exact ⟨⟨k + 1, q + nq, by omega, by go_num, rfl⟩, by simp [intOf]; omega⟩
    · obtain rfl : k = n := by omega
      go_wp2_with fail
      go_ret
      exact ⟨rfl, q, rfl⟩
end Go.Proofs.Ytcofjaeljglodaa
