/-
  What the functions of the packages num and phalanxref02 return, for every argument: the float's bits as XNumMath reckons them.
  No condition but that an argument is a number of 64 bits.
-/
import Derived.Test.YtldlckhkgofgdaaRows
import Derived.Test.YtldlckhkgofgdaaNumMath
import Derived.WalkKit
import Derived.WalkSpells
import Derived.WalkLawsBesides
import Derived.Handy
import Derived.Deep.QuietTactic
import Derived.BigQuiet
import Derived.Deep.Draws
import Derived.Lib.Hide
namespace Go.Proofs.Ytldlckhkgofgdaa
open Go.RowKit

theorem ret_int {k : IntKind} {a b : Int} (h : a = b) : Ending.returned (.int k a) = .returned (.int k b) := by rw [h]
theorem ret_bool {a b : Bool} (h : a = b) : Ending.returned (.bool a) = .returned (.bool b) := by rw [h]
theorem ret_u64 {a b : Nat} (h : a = b) : Ending.returned (.int .u64 (a : Int)) = .returned (.int .u64 (b : Int)) := by rw [h]

theorem u64_lt {n : Int} (h : (Lit.int .u64 n).wf = true) : ∃ k : Nat, n = (k : Int) ∧ k < 18446744073709551616 := by
  have hb := bounds_u64 h
  obtain ⟨k, rfl⟩ := Int.eq_ofNat_of_zero_le hb.1
  exact ⟨k, rfl, by omega⟩

set_option maxHeartbeats 400000 in
theorem make_any (b : Nat) (w : World) (h : b < 18446744073709551616) :
    Calls Try.prog 11 #[.int .u64 b] w fun e w' => e = .returned (.int .u64 (Num.M b : Nat)) ∧ w = w' := by
  have hc := Lib.hid (Num.cut_sign b h)
  go_enter Try.func11, Try.ntmps11
  go_wp2
  · have h1 : 9218868437227405312 < bits BinOp.andNot IntKind.u64 (b : Int) 9223372036854775808 := by assumption
    go_ret
    rw [hc.out] at h1
    exact ⟨by rw [Num.M_nan (by unfold Num.inf; omega)]; rfl, rfl⟩
  · have h1 : bits BinOp.andNot IntKind.u64 (b : Int) 9223372036854775808 ≤ 9218868437227405312 := by assumption
    go_ret
    rw [hc.out] at h1
    exact ⟨by rw [Num.M_not (by unfold Num.inf; omega)]; rfl, rfl⟩

set_option maxHeartbeats 400000 in
theorem none_any (b : Nat) (w : World) (h : b < 18446744073709551616) :
    Calls Try.prog 23 #[.int .u64 b] w fun e w' => e = .returned (.bool (decide (Num.inf < b % Num.sgn))) ∧ w = w' := by
  have hc := Lib.hid (Num.and_exp b h)
  have hd := Lib.hid (Num.and_frac b h)
  have he := Lib.hid (Num.none_iff b)
  go_enter Try.func23, Try.ntmps23
  go_wp2
  · have h1 : bits BinOp.and IntKind.u64 (b : Int) 9218868437227405312 = 9218868437227405312 := by assumption
    go_ret
    rw [hc.out] at h1
    refine ⟨ret_bool ?_, rfl⟩
    rw [hd.out, Bool.eq_iff_iff, decide_eq_true_eq, ← he.out, bne_iff_ne]
    omega
  · have h1 : ¬ bits BinOp.and IntKind.u64 (b : Int) 9218868437227405312 = 9218868437227405312 := by assumption
    go_ret
    rw [hc.out] at h1
    refine ⟨ret_bool ?_, rfl⟩
    rw [Bool.eq_iff_iff, decide_eq_true_eq, ← he.out]
    constructor
    · intro h; cases h
    · intro h; omega

set_option maxHeartbeats 400000 in
theorem rmake_any (b : Nat) (w : World) (h : b < 18446744073709551616) :
    Calls Try.prog 12 #[.int .u64 b] w fun e w' => e = .returned (.int .u64 (Num.M b : Nat)) ∧ w = w' := by
  by_cases hb : Num.inf < b % Num.sgn
  · have HH := Lib.hid (fun w => none_any b w h)
    rw [decide_eq_true hb] at HH
    have hm := Lib.hid (Num.M_nan hb)
    clear hb
    go_enter Try.func12, Try.ntmps12
    go_wp2_with (go_at_call 23; refine (HH.out _).mono ?_; rintro e w' ⟨rfl, rfl⟩)
    go_ret
    exact ⟨by rw [hm.out]; rfl, rfl⟩
  · have HH := Lib.hid (fun w => none_any b w h)
    rw [decide_eq_false hb] at HH
    have hm := Lib.hid (Num.M_not hb)
    clear hb
    go_enter Try.func12, Try.ntmps12
    go_wp2_with (go_at_call 23; refine (HH.out _).mono ?_; rintro e w' ⟨rfl, rfl⟩)
    go_ret
    exact ⟨by rw [hm.out]; rfl, rfl⟩

theorem max_u64 : IntKind.u64.max = 18446744073709551615 := by decide

set_option maxHeartbeats 400000 in
theorem rank_any (b : Nat) (w : World) (h : b < 18446744073709551616) :
    Calls Try.prog 24 #[.int .u64 b] w fun e w' => e = .returned (.int .u64 (Num.rank b : Nat)) ∧ w = w' := by
  have hm := Num.M_lt h
  have hc := Lib.hid (Num.and_sign _ hm)
  have hx := Lib.hid (Num.turn_all _ hm)
  have ho := Lib.hid (Num.or_sign (Num.M b))
  have hr : Hid (Num.rank b = if Num.M b < Num.sgn then Num.M b + Num.sgn else 18446744073709551615 - Num.M b) := Lib.hid rfl
  have HH := Lib.hid (fun w => make_any b w h)
  generalize Num.M b = x at *
  go_enter Try.func24, Try.ntmps24
  go_wp2_with (go_at_call 11; refine (HH.out _).mono ?_; rintro e w' ⟨rfl, rfl⟩)
  · have h1 : (bits BinOp.and IntKind.u64 (x : Int) 9223372036854775808 != 0) = true := by assumption
    go_ret
    rw [hc.out, bne_iff_ne] at h1
    unfold Num.sgn at *
    refine ⟨ret_int ?_, rfl⟩
    rw [max_u64, hx.out, hr.out, if_neg (by omega)]
  · have h1 : (bits BinOp.and IntKind.u64 (x : Int) 9223372036854775808 != 0) = false := by assumption
    go_ret
    rw [hc.out, bne_eq_false_iff_eq] at h1
    unfold Num.sgn at *
    refine ⟨ret_int ?_, rfl⟩
    rw [ho.out (by omega), hr.out, if_pos (by omega)]

set_option maxHeartbeats 400000 in
theorem place_any (b : Nat) (w : World) (h : b < 18446744073709551616) :
    Calls Try.prog 25 #[.int .u64 b] w fun e w' => e = .returned (.int .u64 (Num.rank b : Nat)) ∧ w = w' := by
  have hm := Num.M_lt h
  have hx := Lib.hid (Num.turn_all _ hm)
  have ho := Lib.hid (Num.or_sign (Num.M b))
  have hr : Hid (Num.rank b = if Num.M b < Num.sgn then Num.M b + Num.sgn else 18446744073709551615 - Num.M b) := Lib.hid rfl
  have HH := Lib.hid (fun w => rmake_any b w h)
  generalize Num.M b = x at *
  go_enter Try.func25, Try.ntmps25
  go_wp2_with (go_at_call 12; refine (HH.out _).mono ?_; rintro e w' ⟨rfl, rfl⟩)
  · have h1 : ((x : Int) / 9223372036854775808 == 1) = true := by assumption
    go_ret
    rw [beq_iff_eq] at h1
    unfold Num.sgn at *
    refine ⟨ret_int ?_, rfl⟩
    rw [max_u64, hx.out, hr.out, if_neg (by omega)]
  · have h1 : ((x : Int) / 9223372036854775808 == 1) = false := by assumption
    go_ret
    rw [beq_eq_false_iff_ne] at h1
    unfold Num.sgn at *
    refine ⟨ret_int ?_, rfl⟩
    rw [ho.out (by omega), hr.out, if_pos (by omega)]

/-- One of them stands ahead, or neither. -/
theorem cmp_lt {a b : Nat} (h : Num.rank a < Num.rank b) : Num.cmp a b = -1 := by unfold Num.cmp; rw [if_pos h]
theorem cmp_gt {a b : Nat} (h : Num.rank b < Num.rank a) : Num.cmp a b = 1 := by unfold Num.cmp; rw [if_neg (by omega), if_pos h]
theorem cmp_eq {a b : Nat} (h : Num.rank a = Num.rank b) : Num.cmp a b = 0 := by unfold Num.cmp; rw [if_neg (by omega), if_neg (by omega)]

set_option maxHeartbeats 400000 in
theorem cmp_any (a b : Nat) (w : World) (ha : a < 18446744073709551616) (hb : b < 18446744073709551616) :
    Calls Try.prog 13 #[.int .u64 a, .int .u64 b] w fun e w' => e = .returned (.int .i64 (Num.cmp a b)) ∧ w = w' := by
  have H1 := Lib.hid (fun w => rank_any a w ha)
  have H2 := Lib.hid (fun w => rank_any b w hb)
  have c1 := @cmp_lt a b
  have c2 := @cmp_gt a b
  have c3 := @cmp_eq a b
  have C1 := Lib.hid c1
  have C2 := Lib.hid c2
  have C3 := Lib.hid c3
  clear c1 c2 c3
  generalize Num.rank a = x at *
  generalize Num.rank b = y at *
  go_enter Try.func13, Try.ntmps13
  go_wp2_with fail
  refine (H1.out _).mono ?_; rintro e w' ⟨rfl, rfl⟩
  go_wp2_with fail
  refine (H2.out _).mono ?_; rintro e w' ⟨rfl, rfl⟩
  rcases Nat.lt_trichotomy x y with h | h | h
  · go_wp2_with fail
    go_ret
    exact ⟨by rw [C1.out h]; rfl, rfl⟩
  · have hh := Lib.hid h
    clear h
    have n1 : ¬ x < y := by have := hh.out; omega
    have n2 : ¬ y < x := by have := hh.out; omega
    go_wp2_with fail
    go_ret
    exact ⟨by rw [C3.out hh.out]; rfl, rfl⟩
  · have n1 : ¬ x < y := by omega
    go_wp2_with fail
    go_ret
    exact ⟨by rw [C2.out h]; rfl, rfl⟩

set_option maxHeartbeats 400000 in
theorem rcmp_any (a b : Nat) (w : World) (ha : a < 18446744073709551616) (hb : b < 18446744073709551616) :
    Calls Try.prog 14 #[.int .u64 a, .int .u64 b] w fun e w' => e = .returned (.int .i64 (Num.cmp a b)) ∧ w = w' := by
  have H1 := Lib.hid (fun w => place_any a w ha)
  have H2 := Lib.hid (fun w => place_any b w hb)
  have c1 := @cmp_lt a b
  have c2 := @cmp_gt a b
  have c3 := @cmp_eq a b
  have C1 := Lib.hid c1
  have C2 := Lib.hid c2
  have C3 := Lib.hid c3
  clear c1 c2 c3
  generalize Num.rank a = x at *
  generalize Num.rank b = y at *
  go_enter Try.func14, Try.ntmps14
  go_wp2_with fail
  refine (H1.out _).mono ?_; rintro e w' ⟨rfl, rfl⟩
  go_wp2_with fail
  refine (H2.out _).mono ?_; rintro e w' ⟨rfl, rfl⟩
  rcases Nat.lt_trichotomy x y with h | h | h
  · go_wp2_with fail
    go_ret
    exact ⟨by rw [C1.out h]; rfl, rfl⟩
  · have hh := Lib.hid h
    clear h
    have n1 : ¬ x < y := by have := hh.out; omega
    have n2 : ¬ y < x := by have := hh.out; omega
    go_wp2_with fail
    go_ret
    exact ⟨by rw [C3.out hh.out]; rfl, rfl⟩
  · have n1 : ¬ x < y := by omega
    go_wp2_with fail
    go_ret
    exact ⟨by rw [C2.out h]; rfl, rfl⟩

def least (a b : Nat) : Nat := if Num.rank b < Num.rank a then Num.M b else Num.M a
def most (a b : Nat) : Nat := if Num.rank a < Num.rank b then Num.M b else Num.M a

set_option maxHeartbeats 400000 in
theorem least_any (a b : Nat) (w : World) (ha : a < 18446744073709551616) (hb : b < 18446744073709551616) :
    Calls Try.prog 15 #[.int .u64 a, .int .u64 b] w fun e w' => e = .returned (.int .u64 (least a b : Nat)) ∧ w = w' := by
  have H := Lib.hid (fun w => cmp_any b a w hb ha)
  have H1 := Lib.hid (fun w => make_any a w ha)
  have H2 := Lib.hid (fun w => make_any b w hb)
  by_cases h : Num.rank b < Num.rank a
  · have hl : Hid (least a b = Num.M b) := Lib.hid (if_pos h)
    rw [cmp_lt h] at H
    clear h
    generalize least a b = l at *
    go_enter Try.func15, Try.ntmps15
    go_wp2_with fail
    refine (H.out _).mono ?_; rintro e w' ⟨rfl, rfl⟩
    go_wp2_with fail
    refine (H2.out _).mono ?_; rintro e w' ⟨rfl, rfl⟩
    go_wp2_with fail
    go_ret
    exact ⟨by rw [hl.out]; rfl, rfl⟩
  · have hl : Hid (least a b = Num.M a) := Lib.hid (if_neg h)
    have hc : 0 ≤ Num.cmp b a := by have h2 := Num.cmp_turn b a; have h3 := (Num.cmp_le (a := a) (b := b)).2 (by omega); omega
    generalize Num.cmp b a = c at *
    clear h
    generalize least a b = l at *
    go_enter Try.func15, Try.ntmps15
    go_wp2_with fail
    refine (H.out _).mono ?_; rintro e w' ⟨rfl, rfl⟩
    go_wp2_with fail
    refine (H1.out _).mono ?_; rintro e w' ⟨rfl, rfl⟩
    go_wp2_with fail
    go_ret
    exact ⟨by rw [hl.out]; rfl, rfl⟩

set_option maxHeartbeats 400000 in
theorem most_any (a b : Nat) (w : World) (ha : a < 18446744073709551616) (hb : b < 18446744073709551616) :
    Calls Try.prog 17 #[.int .u64 a, .int .u64 b] w fun e w' => e = .returned (.int .u64 (most a b : Nat)) ∧ w = w' := by
  have H := Lib.hid (fun w => cmp_any b a w hb ha)
  have H1 := Lib.hid (fun w => make_any a w ha)
  have H2 := Lib.hid (fun w => make_any b w hb)
  by_cases h : Num.rank a < Num.rank b
  · have hl : Hid (most a b = Num.M b) := Lib.hid (if_pos h)
    rw [cmp_gt h] at H
    clear h
    generalize most a b = l at *
    go_enter Try.func17, Try.ntmps17
    go_wp2_with fail
    refine (H.out _).mono ?_; rintro e w' ⟨rfl, rfl⟩
    go_wp2_with fail
    refine (H2.out _).mono ?_; rintro e w' ⟨rfl, rfl⟩
    go_wp2_with fail
    go_ret
    exact ⟨by rw [hl.out]; rfl, rfl⟩
  · have hl : Hid (most a b = Num.M a) := Lib.hid (if_neg h)
    have hc : Num.cmp b a ≤ 0 := (Num.cmp_le (a := b) (b := a)).2 (by omega)
    generalize Num.cmp b a = c at *
    clear h
    generalize most a b = l at *
    go_enter Try.func17, Try.ntmps17
    go_wp2_with fail
    refine (H.out _).mono ?_; rintro e w' ⟨rfl, rfl⟩
    go_wp2_with fail
    refine (H1.out _).mono ?_; rintro e w' ⟨rfl, rfl⟩
    go_wp2_with fail
    go_ret
    exact ⟨by rw [hl.out]; rfl, rfl⟩

set_option maxHeartbeats 400000 in
theorem rleast_any (a b : Nat) (w : World) (ha : a < 18446744073709551616) (hb : b < 18446744073709551616) :
    Calls Try.prog 16 #[.int .u64 a, .int .u64 b] w fun e w' => e = .returned (.int .u64 (least a b : Nat)) ∧ w = w' := by
  have H := Lib.hid (fun w => rcmp_any a b w ha hb)
  have H1 := Lib.hid (fun w => rmake_any a w ha)
  have H2 := Lib.hid (fun w => rmake_any b w hb)
  by_cases h : Num.rank b < Num.rank a
  · have hl : Hid (least a b = Num.M b) := Lib.hid (if_pos h)
    rw [cmp_gt h] at H
    clear h
    generalize least a b = l at *
    go_enter Try.func16, Try.ntmps16
    go_wp2_with fail
    refine (H.out _).mono ?_; rintro e w' ⟨rfl, rfl⟩
    go_wp2_with fail
    refine (H2.out _).mono ?_; rintro e w' ⟨rfl, rfl⟩
    go_wp2_with fail
    go_ret
    exact ⟨by rw [hl.out]; rfl, rfl⟩
  · have hl : Hid (least a b = Num.M a) := Lib.hid (if_neg h)
    have hc : Num.cmp a b ≤ 0 := (Num.cmp_le (a := a) (b := b)).2 (by omega)
    generalize Num.cmp a b = c at *
    clear h
    generalize least a b = l at *
    go_enter Try.func16, Try.ntmps16
    go_wp2_with fail
    refine (H.out _).mono ?_; rintro e w' ⟨rfl, rfl⟩
    go_wp2_with fail
    refine (H1.out _).mono ?_; rintro e w' ⟨rfl, rfl⟩
    go_wp2_with fail
    go_ret
    exact ⟨by rw [hl.out]; rfl, rfl⟩

set_option maxHeartbeats 400000 in
theorem rmost_any (a b : Nat) (w : World) (ha : a < 18446744073709551616) (hb : b < 18446744073709551616) :
    Calls Try.prog 18 #[.int .u64 a, .int .u64 b] w fun e w' => e = .returned (.int .u64 (most a b : Nat)) ∧ w = w' := by
  have H := Lib.hid (fun w => rcmp_any a b w ha hb)
  have H1 := Lib.hid (fun w => rmake_any a w ha)
  have H2 := Lib.hid (fun w => rmake_any b w hb)
  by_cases h : Num.rank a < Num.rank b
  · have hl : Hid (most a b = Num.M b) := Lib.hid (if_pos h)
    rw [cmp_lt h] at H
    clear h
    generalize most a b = l at *
    go_enter Try.func18, Try.ntmps18
    go_wp2_with fail
    refine (H.out _).mono ?_; rintro e w' ⟨rfl, rfl⟩
    go_wp2_with fail
    refine (H2.out _).mono ?_; rintro e w' ⟨rfl, rfl⟩
    go_wp2_with fail
    go_ret
    exact ⟨by rw [hl.out]; rfl, rfl⟩
  · have hl : Hid (most a b = Num.M a) := Lib.hid (if_neg h)
    have hc : 0 ≤ Num.cmp a b := by have h2 := Num.cmp_turn a b; have h3 := (Num.cmp_le (a := b) (b := a)).2 (by omega); omega
    generalize Num.cmp a b = c at *
    clear h
    generalize most a b = l at *
    go_enter Try.func18, Try.ntmps18
    go_wp2_with fail
    refine (H.out _).mono ?_; rintro e w' ⟨rfl, rfl⟩
    go_wp2_with fail
    refine (H1.out _).mono ?_; rintro e w' ⟨rfl, rfl⟩
    go_wp2_with fail
    go_ret
    exact ⟨by rw [hl.out]; rfl, rfl⟩

theorem frombits (b : Nat) (w : World) : (callFunc 26 #[.int .u64 (b : Int)]).run Try.prog w = .ok (.value (.float .f64 b)) w := by kernel_rfl
theorem tobits (b : Nat) (w : World) : (callFunc 27 #[.float .f64 b]).run Try.prog w = .ok (.value (.int .u64 (b : Int))) w := by kernel_rfl

theorem nan_lt (t : Nat) : t % 2 * 2 ^ 63 + 0x7ff0000000000000 + 1 + t / 2 % (2 ^ 52 - 1) < 18446744073709551616 := by omega
theorem nan_is (t : Nat) : Num.inf < (t % 2 * 2 ^ 63 + 0x7ff0000000000000 + 1 + t / 2 % (2 ^ 52 - 1)) % Num.sgn := by
  have h1 : t / 2 % (2 ^ 52 - 1) < 2 ^ 52 - 1 := Nat.mod_lt _ (by decide)
  generalize t / 2 % (2 ^ 52 - 1) = x at *
  unfold Num.inf Num.sgn
  rcases Nat.mod_two_eq_zero_or_one t with h | h <;> rw [h] <;> omega

/-- What '+' of two floats gives: the sum's bits, or, where it is no number, some bits that are none; the world is as it was but for what was drawn. -/
theorem run_add (a b : Nat) (w : World) : ∃ r n, r < 18446744073709551616 ∧ Num.IsSum a b r ∧ (binOp .add 32 (.float .f64 a) (.float .f64 b)).run Try.prog w = .ok (.float .f64 r) (w.drewN n) := by
  cases h : Ieee.double.add a b with
  | some r =>
    refine ⟨r, 0, Ieee.Format.add_lt _ h, Or.inl h, ?_⟩
    exact run_float_arith w .add _ .f64 a b r h
  | none =>
    refine ⟨Question.cut (.nanBits .f64 a b) (w.tape w.drawn (.nanBits .f64 a b)), 1, ?_, Or.inr ⟨h, ?_⟩, ?_⟩
    · exact nan_lt _
    · exact nan_is _
    · have hf : FloatKind.f64.format.add a b = none := h
      simp [binOp, Op.floatArith, hf, Question.forced]
      rfl

set_option maxHeartbeats 400000 in
theorem add_any (a b : Nat) (w : World) (ha : a < 18446744073709551616) (hb : b < 18446744073709551616) :
    Calls Try.prog 19 #[.int .u64 a, .int .u64 b] w fun e w' => e = .returned (.int .u64 (Num.S a b : Nat)) ∧ ∃ n, w' = w.drewN n := by
  have HM := Lib.hid (fun (c : Nat) (hc : c < 18446744073709551616) w => make_any c w hc)
  obtain ⟨r, n, hr, hs, hrun⟩ := run_add (Num.M a) (Num.M b) w
  have he := hs.eq
  rw [Num.S_M] at he
  have hE := Lib.hid he
  clear hs he
  have hf := frombits
  have hb2 := tobits
  have HR := Lib.hid hrun
  clear hrun
  go_enter Try.func19, Try.ntmps19
  go_wp2_with fail
  refine (HM.out a ha _).mono ?_; rintro e w' ⟨rfl, rfl⟩
  go_wp2_with fail
  refine (HM.out b hb _).mono ?_; rintro e w' ⟨rfl, rfl⟩
  have hrun := HR.out
  go_wp2_with fail
  clear hrun
  refine (HM.out r hr _).mono ?_; rintro e w' ⟨rfl, rfl⟩
  go_wp2_with fail
  go_ret
  exact ⟨by rw [hE.out]; rfl, n, rfl⟩

set_option maxHeartbeats 400000 in
theorem radd_any (a b : Nat) (w : World)  :
    Calls Try.prog 20 #[.int .u64 a, .int .u64 b] w fun e w' => e = .returned (.int .u64 (Num.S a b : Nat)) ∧ ∃ n, w' = w.drewN n := by
  have HM := Lib.hid (fun (c : Nat) (hc : c < 18446744073709551616) w => rmake_any c w hc)
  obtain ⟨r, n, hr, hs, hrun⟩ := run_add a b w
  have he := hs.eq
  have hE := Lib.hid he
  clear hs he
  have hf := frombits
  have hb2 := tobits
  go_enter Try.func20, Try.ntmps20
  go_wp2_with fail
  refine (HM.out r hr _).mono ?_; rintro e w' ⟨rfl, rfl⟩
  go_wp2_with fail
  go_ret
  exact ⟨by rw [hE.out]; rfl, n, rfl⟩

theorem add_at (a b c : Nat) (w : World) (ha : a < 18446744073709551616) (hb : b < 18446744073709551616) (hc : Num.S a b = c) :
    Calls Try.prog 19 #[.int .u64 a, .int .u64 b] w fun e w' => e = .returned (.int .u64 (c : Nat)) ∧ ∃ n, w' = w.drewN n := by
  subst hc; exact add_any a b w ha hb

theorem ones : Num.S 4607182418800017408 4607182418800017408 = 4611686018427387904 := by decide +kernel
theorem make_one : Num.M 18442240474082181121 = 9221120237041090560 := by decide +kernel

set_option maxHeartbeats 400000 in
theorem awake_any (w : World) :
    Calls Try.prog 10 #[] w fun e w' => e = .returned (.bool true) ∧ ∃ n, w' = w.drewN n := by
  have H1 := Lib.hid (fun w => make_any 18442240474082181121 w (by decide))
  have H2 := Lib.hid (fun w => add_any 4607182418800017408 4607182418800017408 w (by decide) (by decide))
  rw [make_one] at H1
  rw [ones] at H2
  go_enter Try.func10, Try.ntmps10
  go_wp2_with fail
  refine (H1.out _).mono ?_; rintro e w' ⟨rfl, rfl⟩
  go_wp2_with fail
  refine (H2.out _).mono ?_; rintro e w' ⟨rfl, n, rfl⟩
  go_wp2_with fail
  go_ret
  exact ⟨rfl, n, rfl⟩

set_option maxHeartbeats 400000 in
theorem of_any (n : Int) (w : World) :
    Calls Try.prog 21 #[.int .i64 n] w fun e w' => e = .returned (.int .u64 (Num.ofInt n : Nat)) ∧ w = w' := by
  have hcv := fun w => run_convert_int_float (P := Try.prog) w 3 32 .i64 .f64 n (by rw [Try.underlying3]; rfl) Try.underlying32
  have hb2 := tobits
  go_enter Try.func21, Try.ntmps21
  go_wp2
  go_ret
  exact ⟨rfl, rfl⟩

set_option maxHeartbeats 400000 in
theorem rof_any (n : Int) (w : World) :
    Calls Try.prog 22 #[.int .i64 n] w fun e w' => e = .returned (.int .u64 (Num.ofInt n : Nat)) ∧ w = w' := by
  have hcv := fun w => run_convert_int_float (P := Try.prog) w 3 32 .i64 .f64 n (by rw [Try.underlying3]; rfl) Try.underlying32
  have hb2 := tobits
  go_enter Try.func22, Try.ntmps22
  go_wp2
  go_ret
  exact ⟨rfl, rfl⟩

end Go.Proofs.Ytldlckhkgofgdaa
