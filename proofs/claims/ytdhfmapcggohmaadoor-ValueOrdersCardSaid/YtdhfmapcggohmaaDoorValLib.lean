/-
  What the library's small functions return: a cut-off sign ahead, the place of a sign, the order of two texts, of two numbers, the first that is not nought.
  No condition but those named.
-/
import Derived.Test.YtdhfmapcggohmaaDoorValMath
import Derived.WalkKit
import Derived.WalkSpells
import Derived.WalkLawsBesides
import Derived.Handy
import Derived.Deep.QuietTactic
import Derived.BigQuiet
import Derived.Deep.Draws
import Derived.Lib.Strings
import Derived.Lib.Slices
import Derived.Lib.Bytealg
import Derived.Lib.Hide
namespace Go.Proofs.YtdhfmapcggohmaaDoor
open Go.RowKit

/-- The text behind its first sign. -/
def rest (s : ByteArray) : ByteArray := s.extract 1 s.size
theorem rest_toList (s : ByteArray) : (rest s).data.toList = s.data.toList.tail := by
  unfold rest
  rw [ByteArray.data_extract, Array.toList_extract]
  have h : s.data.toList.length = s.size := by rw [Array.length_toList]; rfl
  simp only [List.extract_eq_take_drop, List.drop_one]
  rw [List.take_of_length_le (by rw [List.length_tail, h]; omega)]
def starts (c : UInt8) (s : ByteArray) : Bool := s.data.toList.head? == some c
theorem starts_iff (c : UInt8) (s : ByteArray) : starts c s = (decide (1 ≤ s.size) && ((s.extract 0 1).toList == [c])) := by
  unfold starts
  have h : s.data.toList.length = s.size := by rw [Array.length_toList]; rfl
  rw [ByteArray.toList_eq, ByteArray.data_extract, Array.toList_extract]
  simp only [List.extract_eq_take_drop, List.drop_zero]
  cases hs : s.data.toList with
  | nil => rw [hs] at h; simp at h; rw [← h]; rfl
  | cons a r =>
    rw [hs] at h
    have : decide (1 ≤ s.size) = true := by rw [← h]; simp
    rw [this]
    by_cases e : a = c
    · subst e; simp
    · have h1 : (a == c) = false := by simpa using e
      simp 

set_option maxHeartbeats 400000 in
theorem hasPrefix_any (s : ByteArray) (c : UInt8) (w : World) :
    Calls Tryd.prog 72 #[.string s, .string ⟨#[c]⟩] w fun e w' => e = .returned (.bool (starts c s)) ∧ w = w' := by
  have h1 : (⟨#[c]⟩ : ByteArray).toList = [c] := by rw [ByteArray.toList_eq]
  have h0 : (⟨#[c]⟩ : ByteArray).size = 1 := rfl
  have HS := Lib.hid (starts_iff c s)
  rw [← h1] at HS
  generalize (⟨#[c]⟩ : ByteArray) = p at *
  have H0 := Lib.hid h0
  by_cases h : 1 ≤ s.size
  · have hd : decide (1 ≤ s.size) = true := by simpa using h
    rw [hd] at HS
    have hp : p.size ≤ s.size := by omega
    go_enter Tryd.func72, Tryd.ntmps72
    go_wp2
    go_ret
    refine ⟨?_, rfl⟩
    rw [HS.out, Bool.true_and, h1]
    rfl
  · have hd : decide (1 ≤ s.size) = false := by simpa using h
    rw [hd] at HS
    have hp : ¬ p.size ≤ s.size := by omega
    go_enter Tryd.func72, Tryd.ntmps72
    go_wp2
    go_ret
    refine ⟨?_, rfl⟩
    rw [HS.out, Bool.false_and]
    rfl

set_option maxHeartbeats 400000 in
theorem cut_any' (s : ByteArray) (c : UInt8) (w : World) :
    Calls Tryd.prog 63 #[.string s, .string ⟨#[c]⟩] w fun e w' => e = .returned (.tuple #[.string (if starts c s = true then rest s else s), .bool (starts c s)]) ∧ w = w' := by
  have HP := Lib.hid (fun w => hasPrefix_any s c w)
  have h1 := starts_iff c s
  cases hs : starts c s with
  | true =>
    have hz : 1 ≤ s.size := by
      rw [hs] at h1
      exact of_decide_eq_true (Bool.and_eq_true_iff.1 h1.symm).1
    rw [hs] at HP
    clear h1 hs
    have hp : (⟨#[c]⟩ : ByteArray).size = 1 := rfl
    go_enter Tryd.func63, Tryd.ntmps63
    go_wp2_with fail
    refine (HP.out _).mono ?_; rintro e w' ⟨rfl, rfl⟩
    go_wp2_with fail
    go_ret2
    exact ⟨rfl, rfl⟩
  | false =>
    rw [hs] at HP
    clear h1 hs
    go_enter Tryd.func63, Tryd.ntmps63
    go_wp2_with fail
    refine (HP.out _).mono ?_; rintro e w' ⟨rfl, rfl⟩
    go_wp2_with fail
    go_ret2
    exact ⟨rfl, rfl⟩

set_option maxHeartbeats 400000 in
theorem cut_any (s : ByteArray) (c : UInt8) (w : World) :
    Calls Tryd.prog 49 #[.string s, .string ⟨#[c]⟩] w fun e w' => e = .returned (.tuple #[.string (if starts c s = true then rest s else s), .bool (starts c s)]) ∧ w = w' := by
  have HP := Lib.hid (fun w => cut_any' s c w)
  generalize (if starts c s = true then rest s else s) = t at *
  generalize starts c s = b at *
  go_enter Tryd.func49, Tryd.ntmps49
  go_wp2_with fail
  refine (HP.out _).mono ?_; rintro e w' ⟨rfl, rfl⟩
  go_wp2_with fail
  go_ret2
  exact ⟨rfl, rfl⟩

set_option maxHeartbeats 400000 in
set_option maxRecDepth 100000 in
theorem compareString_any (a b : ByteArray) (w : World) :
    Calls Tryd.prog 44 #[.string a, .string b] w fun e w' => e = .returned (.int .i64 (Lib.compareBytes a.data.toList b.data.toList)) ∧ w = w' := by
  go_enter Tryd.func44, Tryd.ntmps44
  go_wp2
  rw [run_callFunc_extern Tryd.func55 (by kernel_rfl) (by kernel_rfl) (by kernel_rfl) (e := Extern.BytealgCompare.compare) (by kernel_rfl), Lib.run_compareString]
  simp only [Result.andThen]
  rw [Oper.upon_value]
  go_wp2
  go_ret
  exact ⟨rfl, rfl⟩

set_option maxHeartbeats 400000 in
theorem compare_any (a b : ByteArray) (w : World) :
    Calls Tryd.prog 27 #[.string a, .string b] w fun e w' => e = .returned (.int .i64 (Lib.compareBytes a.data.toList b.data.toList)) ∧ w = w' := by
  have HP := Lib.hid (fun w => compareString_any a b w)
  go_enter Tryd.func27, Tryd.ntmps27
  go_wp2_with fail
  refine (HP.out _).mono ?_; rintro e w' ⟨rfl, rfl⟩
  go_wp2_with fail
  go_ret
  exact ⟨rfl, rfl⟩

set_option maxHeartbeats 400000 in
theorem isNaN_any (x : Int) (w : World) :
    Calls Tryd.prog 42 #[.int .i64 x] w fun e w' => e = .returned (.bool false) ∧ w = w' := by
  have h : (x != x) = false := by simp
  go_enter Tryd.func42, Tryd.ntmps42
  go_wp2
  go_ret
  exact ⟨rfl, rfl⟩

set_option maxHeartbeats 400000 in
theorem ci_any (x y : Int) (w : World) :
    Calls Tryd.prog 25 #[.int .i64 x, .int .i64 y] w fun e w' => e = .returned (.int .i64 (Val.ci x y)) ∧ w = w' := by
  have HN := Lib.hid (fun x w => isNaN_any x w)
  rcases Int.lt_trichotomy x y with h | h | h
  · have h2 : ¬ y < x := by omega
    have HC := Lib.hid (show Val.ci x y = -1 from if_pos h)
    go_enter Tryd.func25, Tryd.ntmps25
    go_wp2_with (refine (HN.out _ _).mono ?_; rintro e w' ⟨rfl, rfl⟩)
    go_ret
    exact ⟨by rw [HC.out]; rfl, rfl⟩
  · have h2 : ¬ y < x := by omega
    have h3 : ¬ x < y := by omega
    have HC := Lib.hid (show Val.ci x y = 0 from (if_neg h3).trans (if_neg h2))
    go_enter Tryd.func25, Tryd.ntmps25
    go_wp2_with (refine (HN.out _ _).mono ?_; rintro e w' ⟨rfl, rfl⟩)
    go_ret
    exact ⟨by rw [HC.out]; rfl, rfl⟩
  · have h3 : ¬ x < y := by omega
    have HC := Lib.hid (show Val.ci x y = 1 from (if_neg h3).trans (if_pos h))
    go_enter Tryd.func25, Tryd.ntmps25
    go_wp2_with (refine (HN.out _ _).mono ?_; rintro e w' ⟨rfl, rfl⟩)
    go_ret
    exact ⟨by rw [HC.out]; rfl, rfl⟩

end Go.Proofs.YtdhfmapcggohmaaDoor
