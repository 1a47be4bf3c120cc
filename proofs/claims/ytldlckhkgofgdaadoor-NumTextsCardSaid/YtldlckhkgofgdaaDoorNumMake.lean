/-
  What num.Make, num.Add, the document's own Make and the example return, for every argument: the float's bits as XNumMath reckons them.
  No condition but that an argument is a number of 64 bits.
-/
import Derived.Test.YtldlckhkgofgdaaDoorRows
import Derived.Test.YtldlckhkgofgdaaDoorNumMath
import Derived.WalkKit
import Derived.WalkSpells
import Derived.WalkLawsBesides
import Derived.Handy
import Derived.Deep.QuietTactic
import Derived.BigQuiet
import Derived.Deep.Draws
import Derived.Lib.Hide
namespace Go.Proofs.YtldlckhkgofgdaaDoor
open Go.RowKit

theorem ret_int {k : IntKind} {a b : Int} (h : a = b) : Ending.returned (.int k a) = .returned (.int k b) := by rw [h]
theorem ret_bool {a b : Bool} (h : a = b) : Ending.returned (.bool a) = .returned (.bool b) := by rw [h]
theorem ret_u64 {a b : Nat} (h : a = b) : Ending.returned (.int .u64 (a : Int)) = .returned (.int .u64 (b : Int)) := by rw [h]

theorem u64_lt {n : Int} (h : (Lit.int .u64 n).wf = true) : ∃ k : Nat, n = (k : Int) ∧ k < 18446744073709551616 := by
  have hb := bounds_u64 h
  obtain ⟨k, rfl⟩ := Int.eq_ofNat_of_zero_le hb.1
  exact ⟨k, rfl, by omega⟩

set_option maxHeartbeats 400000 in
theorem make_any (b : Nat) (w : World) (h : b < 18446744073709551616) :
    Calls Tryd.prog 9 #[.int .u64 b] w fun e w' => e = .returned (.int .u64 (Num.M b : Nat)) ∧ w = w' := by
  have hc := Lib.hid (Num.cut_sign b h)
  go_enter Tryd.func9, Tryd.ntmps9
  go_wp2
  · have h1 : 9218868437227405312 < bits BinOp.andNot IntKind.u64 (b : Int) 9223372036854775808 := by assumption
    go_ret
    rw [hc.out] at h1
    exact ⟨by rw [Num.M_nan (by unfold Num.inf; omega)]; rfl, rfl⟩
  · have h1 : bits BinOp.andNot IntKind.u64 (b : Int) 9223372036854775808 ≤ 9218868437227405312 := by assumption
    go_ret
    rw [hc.out] at h1
    exact ⟨by rw [Num.M_not (by unfold Num.inf; omega)]; rfl, rfl⟩

set_option maxHeartbeats 400000 in
theorem none_any (b : Nat) (w : World) (h : b < 18446744073709551616) :
    Calls Tryd.prog 28 #[.int .u64 b] w fun e w' => e = .returned (.bool (decide (Num.inf < b % Num.sgn))) ∧ w = w' := by
  have hc := Lib.hid (Num.and_exp b h)
  have hd := Lib.hid (Num.and_frac b h)
  have he := Lib.hid (Num.none_iff b)
  go_enter Tryd.func28, Tryd.ntmps28
  go_wp2
  · have h1 : bits BinOp.and IntKind.u64 (b : Int) 9218868437227405312 = 9218868437227405312 := by assumption
    go_ret
    rw [hc.out] at h1
    refine ⟨ret_bool ?_, rfl⟩
    rw [hd.out, Bool.eq_iff_iff, decide_eq_true_eq, ← he.out, bne_iff_ne]
    omega
  · have h1 : ¬ bits BinOp.and IntKind.u64 (b : Int) 9218868437227405312 = 9218868437227405312 := by assumption
    go_ret
    rw [hc.out] at h1
    refine ⟨ret_bool ?_, rfl⟩
    rw [Bool.eq_iff_iff, decide_eq_true_eq, ← he.out]
    constructor
    · intro h; cases h
    · intro h; omega

set_option maxHeartbeats 400000 in
theorem rmake_any (b : Nat) (w : World) (h : b < 18446744073709551616) :
    Calls Tryd.prog 15 #[.int .u64 b] w fun e w' => e = .returned (.int .u64 (Num.M b : Nat)) ∧ w = w' := by
  by_cases hb : Num.inf < b % Num.sgn
  · have HH := Lib.hid (fun w => none_any b w h)
    rw [decide_eq_true hb] at HH
    have hm := Lib.hid (Num.M_nan hb)
    clear hb
    go_enter Tryd.func15, Tryd.ntmps15
    go_wp2_with (go_at_call 28; refine (HH.out _).mono ?_; rintro e w' ⟨rfl, rfl⟩)
    go_ret
    exact ⟨by rw [hm.out]; rfl, rfl⟩
  · have HH := Lib.hid (fun w => none_any b w h)
    rw [decide_eq_false hb] at HH
    have hm := Lib.hid (Num.M_not hb)
    clear hb
    go_enter Tryd.func15, Tryd.ntmps15
    go_wp2_with (go_at_call 28; refine (HH.out _).mono ?_; rintro e w' ⟨rfl, rfl⟩)
    go_ret
    exact ⟨by rw [hm.out]; rfl, rfl⟩

theorem frombits (b : Nat) (w : World) : (callFunc 26 #[.int .u64 (b : Int)]).run Tryd.prog w = .ok (.value (.float .f64 b)) w := by kernel_rfl
theorem tobits (b : Nat) (w : World) : (callFunc 27 #[.float .f64 b]).run Tryd.prog w = .ok (.value (.int .u64 (b : Int))) w := by kernel_rfl

theorem nan_lt (t : Nat) : t % 2 * 2 ^ 63 + 0x7ff0000000000000 + 1 + t / 2 % (2 ^ 52 - 1) < 18446744073709551616 := by omega
theorem nan_is (t : Nat) : Num.inf < (t % 2 * 2 ^ 63 + 0x7ff0000000000000 + 1 + t / 2 % (2 ^ 52 - 1)) % Num.sgn := by
  have h1 : t / 2 % (2 ^ 52 - 1) < 2 ^ 52 - 1 := Nat.mod_lt _ (by decide)
  generalize t / 2 % (2 ^ 52 - 1) = x at *
  unfold Num.inf Num.sgn
  rcases Nat.mod_two_eq_zero_or_one t with h | h <;> rw [h] <;> omega

/-- What '+' of two floats gives: the sum's bits, or, where it is no number, some bits that are none; the world is as it was but for what was drawn. -/
theorem run_add (a b : Nat) (w : World) : ∃ r n, r < 18446744073709551616 ∧ Num.IsSum a b r ∧ (binOp .add 53 (.float .f64 a) (.float .f64 b)).run Tryd.prog w = .ok (.float .f64 r) (w.drewN n) := by
  cases h : Ieee.double.add a b with
  | some r =>
    refine ⟨r, 0, Ieee.Format.add_lt _ h, Or.inl h, ?_⟩
    exact run_float_arith w .add _ .f64 a b r h
  | none =>
    refine ⟨Question.cut (.nanBits .f64 a b) (w.tape w.drawn (.nanBits .f64 a b)), 1, ?_, Or.inr ⟨h, ?_⟩, ?_⟩
    · exact nan_lt _
    · exact nan_is _
    · have hf : FloatKind.f64.format.add a b = none := h
      simp [binOp, Op.floatArith, hf, Question.forced]
      rfl

set_option maxHeartbeats 400000 in
theorem add_any (a b : Nat) (w : World) (ha : a < 18446744073709551616) (hb : b < 18446744073709551616) :
    Calls Tryd.prog 14 #[.int .u64 a, .int .u64 b] w fun e w' => e = .returned (.int .u64 (Num.S a b : Nat)) ∧ ∃ n, w' = w.drewN n := by
  have HM := Lib.hid (fun (c : Nat) (hc : c < 18446744073709551616) w => make_any c w hc)
  obtain ⟨r, n, hr, hs, hrun⟩ := run_add (Num.M a) (Num.M b) w
  have he := hs.eq
  rw [Num.S_M] at he
  have hE := Lib.hid he
  clear hs he
  have hf := frombits
  have hb2 := tobits
  have HR := Lib.hid hrun
  clear hrun
  go_enter Tryd.func14, Tryd.ntmps14
  go_wp2_with fail
  refine (HM.out a ha _).mono ?_; rintro e w' ⟨rfl, rfl⟩
  go_wp2_with fail
  refine (HM.out b hb _).mono ?_; rintro e w' ⟨rfl, rfl⟩
  have hrun := HR.out
  go_wp2_with fail
  clear hrun
  refine (HM.out r hr _).mono ?_; rintro e w' ⟨rfl, rfl⟩
  go_wp2_with fail
  go_ret
  exact ⟨by rw [hE.out]; rfl, n, rfl⟩

theorem ones : Num.S 4607182418800017408 4607182418800017408 = 4611686018427387904 := by decide +kernel
theorem make_one : Num.M 18442240474082181121 = 9221120237041090560 := by decide +kernel

set_option maxHeartbeats 400000 in
theorem awake_any (w : World) :
    Calls Tryd.prog 7 #[] w fun e w' => e = .returned (.bool true) ∧ ∃ n, w' = w.drewN n := by
  have H1 := Lib.hid (fun w => make_any 18442240474082181121 w (by decide))
  have H2 := Lib.hid (fun w => add_any 4607182418800017408 4607182418800017408 w (by decide) (by decide))
  rw [make_one] at H1
  rw [ones] at H2
  go_enter Tryd.func7, Tryd.ntmps7
  go_wp2_with fail
  refine (H1.out _).mono ?_; rintro e w' ⟨rfl, rfl⟩
  go_wp2_with fail
  refine (H2.out _).mono ?_; rintro e w' ⟨rfl, n, rfl⟩
  go_wp2_with fail
  go_ret
  exact ⟨rfl, n, rfl⟩

end Go.Proofs.YtldlckhkgofgdaaDoor
