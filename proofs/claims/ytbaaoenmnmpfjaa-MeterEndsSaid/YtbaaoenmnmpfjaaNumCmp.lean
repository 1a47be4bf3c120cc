/-
  What the functions of the packages num and phalanxref02 return, for every argument: the float's bits as XNumMath reckons them.
  No condition but that an argument is a number of 64 bits.
-/
import Derived.Test.YtbaaoenmnmpfjaaNumBase
import Derived.WalkKit
import Derived.WalkSpells
import Derived.WalkLawsBesides
import Derived.Handy
import Derived.Deep.QuietTactic
import Derived.BigQuiet
import Derived.Deep.Draws
import Derived.Lib.Hide
namespace Go.Proofs.Ytbaaoenmnmpfjaa
open Go.RowKit

theorem max_u64 : IntKind.u64.max = 18446744073709551615 := by decide

set_option maxHeartbeats 400000 in
theorem rank_any (b : Nat) (w : World) (h : b < 18446744073709551616) :
    Calls Try.prog 29 #[.int .u64 b] w fun e w' => e = .returned (.int .u64 (Num.rank b : Nat)) ∧ w = w' := by
  have hm := Num.M_lt h
  have hc := Lib.hid (Num.and_sign _ hm)
  have hx := Lib.hid (Num.turn_all _ hm)
  have ho := Lib.hid (Num.or_sign (Num.M b))
  have hr : Hid (Num.rank b = if Num.M b < Num.sgn then Num.M b + Num.sgn else 18446744073709551615 - Num.M b) := Lib.hid rfl
  have HH := Lib.hid (fun w => make_any b w h)
  generalize Num.M b = x at *
  go_enter Try.func29, Try.ntmps29
  go_wp2_with (go_at_call 16; refine (HH.out _).mono ?_; rintro e w' ⟨rfl, rfl⟩)
  · have h1 : (bits BinOp.and IntKind.u64 (x : Int) 9223372036854775808 != 0) = true := by assumption
    go_ret
    rw [hc.out, bne_iff_ne] at h1
    unfold Num.sgn at *
    refine ⟨ret_int ?_, rfl⟩
    rw [max_u64, hx.out, hr.out, if_neg (by omega)]
  · have h1 : (bits BinOp.and IntKind.u64 (x : Int) 9223372036854775808 != 0) = false := by assumption
    go_ret
    rw [hc.out, bne_eq_false_iff_eq] at h1
    unfold Num.sgn at *
    refine ⟨ret_int ?_, rfl⟩
    rw [ho.out (by omega), hr.out, if_pos (by omega)]

set_option maxHeartbeats 400000 in
theorem place_any (b : Nat) (w : World) (h : b < 18446744073709551616) :
    Calls Try.prog 26 #[.int .u64 b] w fun e w' => e = .returned (.int .u64 (Num.rank b : Nat)) ∧ w = w' := by
  have hm := Num.M_lt h
  have hx := Lib.hid (Num.turn_all _ hm)
  have ho := Lib.hid (Num.or_sign (Num.M b))
  have hr : Hid (Num.rank b = if Num.M b < Num.sgn then Num.M b + Num.sgn else 18446744073709551615 - Num.M b) := Lib.hid rfl
  have HH := Lib.hid (fun w => rmake_any b w h)
  generalize Num.M b = x at *
  go_enter Try.func26, Try.ntmps26
  go_wp2_with (go_at_call 14; refine (HH.out _).mono ?_; rintro e w' ⟨rfl, rfl⟩)
  · have h1 : ((x : Int) / 9223372036854775808 == 1) = true := by assumption
    go_ret
    rw [beq_iff_eq] at h1
    unfold Num.sgn at *
    refine ⟨ret_int ?_, rfl⟩
    rw [max_u64, hx.out, hr.out, if_neg (by omega)]
  · have h1 : ((x : Int) / 9223372036854775808 == 1) = false := by assumption
    go_ret
    rw [beq_eq_false_iff_ne] at h1
    unfold Num.sgn at *
    refine ⟨ret_int ?_, rfl⟩
    rw [ho.out (by omega), hr.out, if_pos (by omega)]

/-- One of them stands ahead, or neither. -/
theorem cmp_lt {a b : Nat} (h : Num.rank a < Num.rank b) : Num.cmp a b = -1 := by unfold Num.cmp; rw [if_pos h]
theorem cmp_gt {a b : Nat} (h : Num.rank b < Num.rank a) : Num.cmp a b = 1 := by unfold Num.cmp; rw [if_neg (by omega), if_pos h]
theorem cmp_eq {a b : Nat} (h : Num.rank a = Num.rank b) : Num.cmp a b = 0 := by unfold Num.cmp; rw [if_neg (by omega), if_neg (by omega)]

set_option maxHeartbeats 400000 in
theorem cmp_any (a b : Nat) (w : World) (ha : a < 18446744073709551616) (hb : b < 18446744073709551616) :
    Calls Try.prog 24 #[.int .u64 a, .int .u64 b] w fun e w' => e = .returned (.int .i64 (Num.cmp a b)) ∧ w = w' := by
  have H1 := Lib.hid (fun w => rank_any a w ha)
  have H2 := Lib.hid (fun w => rank_any b w hb)
  have c1 := @cmp_lt a b
  have c2 := @cmp_gt a b
  have c3 := @cmp_eq a b
  have C1 := Lib.hid c1
  have C2 := Lib.hid c2
  have C3 := Lib.hid c3
  clear c1 c2 c3
  generalize Num.rank a = x at *
  generalize Num.rank b = y at *
  go_enter Try.func24, Try.ntmps24
  go_wp2_with fail
  refine (H1.out _).mono ?_; rintro e w' ⟨rfl, rfl⟩
  go_wp2_with fail
  refine (H2.out _).mono ?_; rintro e w' ⟨rfl, rfl⟩
  rcases Nat.lt_trichotomy x y with h | h | h
  · go_wp2_with fail
    go_ret
    exact ⟨by rw [C1.out h]; rfl, rfl⟩
  · have hh := Lib.hid h
    clear h
    have n1 : ¬ x < y := by have := hh.out; omega
    have n2 : ¬ y < x := by have := hh.out; omega
    go_wp2_with fail
    go_ret
    exact ⟨by rw [C3.out hh.out]; rfl, rfl⟩
  · have n1 : ¬ x < y := by omega
    go_wp2_with fail
    go_ret
    exact ⟨by rw [C2.out h]; rfl, rfl⟩

set_option maxHeartbeats 400000 in
theorem rcmp_any (a b : Nat) (w : World) (ha : a < 18446744073709551616) (hb : b < 18446744073709551616) :
    Calls Try.prog 15 #[.int .u64 a, .int .u64 b] w fun e w' => e = .returned (.int .i64 (Num.cmp a b)) ∧ w = w' := by
  have H1 := Lib.hid (fun w => place_any a w ha)
  have H2 := Lib.hid (fun w => place_any b w hb)
  have c1 := @cmp_lt a b
  have c2 := @cmp_gt a b
  have c3 := @cmp_eq a b
  have C1 := Lib.hid c1
  have C2 := Lib.hid c2
  have C3 := Lib.hid c3
  clear c1 c2 c3
  generalize Num.rank a = x at *
  generalize Num.rank b = y at *
  go_enter Try.func15, Try.ntmps15
  go_wp2_with fail
  refine (H1.out _).mono ?_; rintro e w' ⟨rfl, rfl⟩
  go_wp2_with fail
  refine (H2.out _).mono ?_; rintro e w' ⟨rfl, rfl⟩
  rcases Nat.lt_trichotomy x y with h | h | h
  · go_wp2_with fail
    go_ret
    exact ⟨by rw [C1.out h]; rfl, rfl⟩
  · have hh := Lib.hid h
    clear h
    have n1 : ¬ x < y := by have := hh.out; omega
    have n2 : ¬ y < x := by have := hh.out; omega
    go_wp2_with fail
    go_ret
    exact ⟨by rw [C3.out hh.out]; rfl, rfl⟩
  · have n1 : ¬ x < y := by omega
    go_wp2_with fail
    go_ret
    exact ⟨by rw [C2.out h]; rfl, rfl⟩

end Go.Proofs.Ytbaaoenmnmpfjaa
