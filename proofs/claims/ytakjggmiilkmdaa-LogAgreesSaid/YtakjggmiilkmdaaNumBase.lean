/-
  What num.Make, num.Add, the document's own Make and the example return, for every argument: the float's bits as XNumMath reckons them.
  No condition but that an argument is a number of 64 bits.
-/
import Derived.Test.YtakjggmiilkmdaaRows
import Derived.Test.YtakjggmiilkmdaaJMath
import Derived.WalkKit
import Derived.WalkSpells
import Derived.WalkLawsBesides
import Derived.Handy
import Derived.Deep.QuietTactic
import Derived.BigQuiet
import Derived.Deep.Draws
import Derived.Lib.Hide
namespace Go.Proofs.Ytakjggmiilkmdaa
open Go.RowKit

theorem ret_int {k : IntKind} {a b : Int} (h : a = b) : Ending.returned (.int k a) = .returned (.int k b) := by rw [h]
theorem ret_bool {a b : Bool} (h : a = b) : Ending.returned (.bool a) = .returned (.bool b) := by rw [h]
theorem ret_u64 {a b : Nat} (h : a = b) : Ending.returned (.int .u64 (a : Int)) = .returned (.int .u64 (b : Int)) := by rw [h]

theorem u64_lt {n : Int} (h : (Lit.int .u64 n).wf = true) : ∃ k : Nat, n = (k : Int) ∧ k < 18446744073709551616 := by
  have hb := bounds_u64 h
  obtain ⟨k, rfl⟩ := Int.eq_ofNat_of_zero_le hb.1
  exact ⟨k, rfl, by omega⟩

set_option maxHeartbeats 400000 in
theorem make_any (b : Nat) (w : World) (h : b < 18446744073709551616) :
    Calls Try.prog 86 #[.int .u64 b] w fun e w' => e = .returned (.int .u64 (Num.M b : Nat)) ∧ w = w' := by
  have hc := Lib.hid (Num.cut_sign b h)
  go_enter Try.func86, Try.ntmps86
  go_wp2
  · have h1 : 9218868437227405312 < bits BinOp.andNot IntKind.u64 (b : Int) 9223372036854775808 := by assumption
    go_ret
    rw [hc.out] at h1
    exact ⟨by rw [Num.M_nan (by unfold Num.inf; omega)]; rfl, rfl⟩
  · have h1 : bits BinOp.andNot IntKind.u64 (b : Int) 9223372036854775808 ≤ 9218868437227405312 := by assumption
    go_ret
    rw [hc.out] at h1
    exact ⟨by rw [Num.M_not (by unfold Num.inf; omega)]; rfl, rfl⟩

set_option maxHeartbeats 400000 in
theorem none_any (b : Nat) (w : World) (h : b < 18446744073709551616) :
    Calls Try.prog 82 #[.int .u64 b] w fun e w' => e = .returned (.bool (decide (Num.inf < b % Num.sgn))) ∧ w = w' := by
  have hc := Lib.hid (Num.and_exp b h)
  have hd := Lib.hid (Num.and_frac b h)
  have he := Lib.hid (Num.none_iff b)
  go_enter Try.func82, Try.ntmps82
  go_wp2
  · have h1 : bits BinOp.and IntKind.u64 (b : Int) 9218868437227405312 = 9218868437227405312 := by assumption
    go_ret
    rw [hc.out] at h1
    refine ⟨ret_bool ?_, rfl⟩
    rw [hd.out, Bool.eq_iff_iff, decide_eq_true_eq, ← he.out, bne_iff_ne]
    omega
  · have h1 : ¬ bits BinOp.and IntKind.u64 (b : Int) 9218868437227405312 = 9218868437227405312 := by assumption
    go_ret
    rw [hc.out] at h1
    refine ⟨ret_bool ?_, rfl⟩
    rw [Bool.eq_iff_iff, decide_eq_true_eq, ← he.out]
    constructor
    · intro h; cases h
    · intro h; omega

set_option maxHeartbeats 400000 in
theorem rmake_any (b : Nat) (w : World) (h : b < 18446744073709551616) :
    Calls Try.prog 70 #[.int .u64 b] w fun e w' => e = .returned (.int .u64 (Num.M b : Nat)) ∧ w = w' := by
  by_cases hb : Num.inf < b % Num.sgn
  · have HH := Lib.hid (fun w => none_any b w h)
    rw [decide_eq_true hb] at HH
    have hm := Lib.hid (Num.M_nan hb)
    clear hb
    go_enter Try.func70, Try.ntmps70
    go_wp2_with (go_at_call 82; refine (HH.out _).mono ?_; rintro e w' ⟨rfl, rfl⟩)
    go_ret
    exact ⟨by rw [hm.out]; rfl, rfl⟩
  · have HH := Lib.hid (fun w => none_any b w h)
    rw [decide_eq_false hb] at HH
    have hm := Lib.hid (Num.M_not hb)
    clear hb
    go_enter Try.func70, Try.ntmps70
    go_wp2_with (go_at_call 82; refine (HH.out _).mono ?_; rintro e w' ⟨rfl, rfl⟩)
    go_ret
    exact ⟨by rw [hm.out]; rfl, rfl⟩

end Go.Proofs.Ytakjggmiilkmdaa
