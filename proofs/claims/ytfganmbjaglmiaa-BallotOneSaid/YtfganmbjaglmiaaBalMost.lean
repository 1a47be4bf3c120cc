/-
  What the law's own 'most' returns; what Choose returns, the document's own.
  No condition but what the slices read as.
-/
import Derived.Test.YtfganmbjaglmiaaBalRef
set_option linter.unusedSimpArgs false
set_option linter.unusedVariables false
namespace Go.Proofs.Ytfganmbjaglmiaa
open Go.RowKit

theorem count_snoc {l : List Bool} {k : Nat} {x : Bool} (h : l[k]? = some x) : (l.take (k + 1)).count true = (l.take k).count true + (if x = true then 1 else 0) := by
  rw [List.take_add_one, h, Option.toList_some, List.count_append]
  cases x <;> simp
set_option maxHeartbeats 1600000 in
theorem bmost_any (A : Option Addr) (n c : Nat) (l : List Bool) (w : World) (hs : Sls bLay bF w A n c l) :
    Calls Try.prog 20 #[.slice A n c] w fun e w' => e = .returned (.bool (decide (Blt.most l))) ∧ w = w' := by
  have HS := Lib.hid hs
  have HL := Lib.hid hs.len
  have HT : Hid (l.take n = l) := Lib.hid (List.take_of_length_le (by rw [hs.len]; exact Nat.le_refl _))
  have hn : n ≤ 140737488355328 := by have h : n * 1 ≤ 140737488355328 := hs.big; omega
  have HR : Hid (decide (Blt.most l) = decide ((n : Int) / 2 < ((l.count true : Nat) : Int))) := Lib.hid (by
    rw [decide_eq_decide]; unfold Blt.most; rw [hs.len]; omega)
  clear hs
  go_enter Try.func20, Try.ntmps20
  go_wp2
  go_loop [3, 4] (fun y x => ∃ k : Nat, k ≤ n ∧ x = .int .i64 k ∧ y = .int .i64 ((l.take k).count true : Nat)) (fun _ x => n - (intOf x).toNat)
  case atStart => exact ⟨0, Nat.zero_le _, rfl, rfl⟩
  case round =>
    obtain ⟨k, hk, rfl, rfl⟩ := hrel
    have hk1 : (0 : Int) ≤ (k : Int) := by omega
    by_cases hlt : k < n
    · have hk2 : (k : Int) < (n : Int) := by omega
      have hw : IntKind.i64.wrap ((k : Int) + 1) = ((k + 1 : Nat) : Int) := by rw [IntKind.wrap_i64]; omega
      have hcl : (l.take k).count true ≤ k := Nat.le_trans List.count_le_length (by rw [List.length_take]; omega)
      obtain ⟨x, hx, _⟩ := HS.out.get hlt
      obtain ⟨b, o, rfl, hat⟩ := HS.out.bat (by omega)
      have hc := hat w (Below.refl _ w) k x hx
      have HC := Lib.hid (count_snoc hx)
      clear hat hx
      generalize (l.take k).count true = m at *
      have hwm : IntKind.i64.wrap ((m : Int) + 1) = ((m + 1 : Nat) : Int) := by rw [IntKind.wrap_i64]; omega
      cases x
      · go_wp2
        go_round
        case rel => exact ⟨k + 1, hlt, by go_num, by rw [HC.out]; rfl⟩
        case measure => simp [intOf, hw]; omega
      · go_wp2
        go_round
        case rel => exact ⟨k + 1, hlt, by go_num, by rw [HC.out]; rfl⟩
        case measure => simp [intOf, hw]; omega
    · obtain rfl : k = n := by omega
      rw [HT.out]
      go_wp2
      go_ret
      exact ⟨by rw [HR.out]; rfl, rfl⟩
end Go.Proofs.Ytfganmbjaglmiaa
