/-
  What strings.Repeat gives of the nought, some times over, and that it leaves the world alone.
  The count is at most 16.
-/
import Derived.Test.YtdhfmapcggohmaaDoorNumBase
import Derived.Lib.ItoaWalk
import Derived.Outline
namespace Go.Proofs.YtdhfmapcggohmaaDoor
open Go.RowKit

theorem and_low (x : Nat) (h : x < 4294967296) : bits .and .u64 (x : Int) 4294967295 = (x : Int) := by
  have h1 := u64_and_nat x 4294967295 (by omega) (by decide)
  have h2 : x &&& 4294967295 = x := by
    have h3 : x &&& 4294967295 = x % 4294967296 := Nat.and_two_pow_sub_one_eq_mod x 32
    rw [h3]; omega
  rw [h2] at h1
  exact h1

set_option maxHeartbeats 400000 in
theorem mul_one (c : Nat) (hc : c ≤ 16) (w : World) :
    Calls Tryd.prog 57 #[.int .u64 1, .int .u64 c] w fun e w' => e = .returned (.tuple #[.int .u64 0, .int .u64 c]) ∧ w = w' := by
  have h1 := and_low c (by omega)
  have h2 : bits .and .u64 1 4294967295 = 1 := by decide +kernel
  have h3 : (c : Int) / 4294967296 = 0 := by omega
  have h4 : bits .and .u64 0 4294967295 = 0 := by decide +kernel
  go_enter Tryd.func57, Tryd.ntmps57
  go_wp2
  go_ret2
  exact ⟨rfl, rfl⟩

set_option maxHeartbeats 400000 in
theorem prefix_any (s : ByteArray) (hs : 1 ≤ s.size) (w : World) (r : Bool) (hr : ((s.extract 0 1).data.toList == [48]) = r) :
    Calls Tryd.prog 58 #[.string s, .string ⟨#[48]⟩] w fun e w' => e = .returned (.bool r) ∧ w = w' := by
  have hr := Lib.hid hr
  go_enter Tryd.func58, Tryd.ntmps58
  go_wp2
  go_ret
  refine ⟨ret_bool ?_, rfl⟩
  rw [ByteArray.toList_eq]; exact hr.out

set_option maxRecDepth 100000 in
set_option maxHeartbeats 400000 in
theorem repeat_some (c : Nat) (h2 : 2 ≤ c) (hc : c ≤ 16) (w : World) :
    Calls Tryd.prog 48 #[.string ⟨#[48]⟩, .int .i64 c] w fun e w' => e = .returned (.string ⟨(List.replicate c 48).toArray⟩) ∧ w = w' := by
  have hz : ((c : Int) == 0) = false := by rw [beq_eq_false_iff_ne]; omega
  have h1 : ((c : Int) == 1) = false := by rw [beq_eq_false_iff_ne]; omega
  go_enter Tryd.func48, Tryd.ntmps48
  go_name_bytes A1 hA1
  clear hA1
  go_name_bytes A2 hA2
  clear hA2
  go_name_bytes SP hSP
  have p1 : SP.size = 128 := by rw [← hSP]; decide +kernel
  have q1 : ((SP.extract 0 1).data.toList == [48]) = false := by rw [← hSP]; decide +kernel
  clear hSP
  go_name_bytes DA hDA
  have p2 : DA.size = 128 := by rw [← hDA]; decide +kernel
  have q2 : ((DA.extract 0 1).data.toList == [48]) = false := by rw [← hDA]; decide +kernel
  clear hDA
  go_name_bytes ZE hZE
  have p3 : ZE.size = 64 := by rw [← hZE]; decide +kernel
  have q3 : ((ZE.extract 0 1).data.toList == [48]) = true := by rw [← hZE]; decide +kernel
  have r3 : ∀ c, c < 17 → ZE.extract 0 c = ⟨(List.replicate c 48).toArray⟩ := by rw [← hZE]; decide +kernel
  clear hZE
  have P1 := Lib.hid p1
  have P2 := Lib.hid p2
  have P3 := Lib.hid p3
  have Q1 := Lib.hid q1
  have Q2 := Lib.hid q2
  have Q3 := Lib.hid q3
  have R3 := Lib.hid (r3 c (by omega))
  clear q1 q2 q3 r3
  go_wp2_with fail
  refine (mul_one c hc _).mono ?_; rintro e w' ⟨rfl, rfl⟩
  go_wp2_with fail
  refine (prefix_any SP (by rw [P1.out]; decide) _ _ Q1.out).mono ?_; rintro e w' ⟨rfl, rfl⟩
  go_wp2_with fail
  refine (prefix_any DA (by rw [P2.out]; decide) _ _ Q2.out).mono ?_; rintro e w' ⟨rfl, rfl⟩
  go_wp2_with fail
  refine (prefix_any ZE (by rw [P3.out]; decide) _ _ Q3.out).mono ?_; rintro e w' ⟨rfl, rfl⟩
  go_wp2_with fail
  go_ret
  exact ⟨congrArg (fun s => Ending.returned (.string s)) R3.out, rfl⟩

set_option maxRecDepth 100000 in
set_option maxHeartbeats 400000 in
theorem repeat_none (w : World) :
    Calls Tryd.prog 48 #[.string ⟨#[48]⟩, .int .i64 0] w fun e w' => e = .returned (.string ⟨#[]⟩) ∧ w = w' := by
  go_enter Tryd.func48, Tryd.ntmps48
  go_wp2
  go_ret
  exact ⟨rfl, rfl⟩

set_option maxRecDepth 100000 in
set_option maxHeartbeats 400000 in
theorem repeat_one (w : World) :
    Calls Tryd.prog 48 #[.string ⟨#[48]⟩, .int .i64 1] w fun e w' => e = .returned (.string ⟨#[48]⟩) ∧ w = w' := by
  go_enter Tryd.func48, Tryd.ntmps48
  go_wp2
  go_ret
  exact ⟨rfl, rfl⟩

theorem repeat_any (c : Nat) (hc : c ≤ 16) (w : World) :
    Calls Tryd.prog 48 #[.string ⟨#[48]⟩, .int .i64 c] w fun e w' => e = .returned (.string ⟨(List.replicate c 48).toArray⟩) ∧ w = w' := by
  match c, hc with
  | 0, _ => exact repeat_none w
  | 1, _ => exact repeat_one w
  | c + 2, hc => exact repeat_some (c + 2) (by omega) hc w

end Go.Proofs.YtdhfmapcggohmaaDoor
