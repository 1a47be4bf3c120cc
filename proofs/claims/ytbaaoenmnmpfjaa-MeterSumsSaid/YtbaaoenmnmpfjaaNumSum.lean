/-
  What num.Add returns, for every two floats: the bits of their sum as XNumMath reckons them.
  No condition but that an argument is a number of 64 bits.
-/
import Derived.Test.YtbaaoenmnmpfjaaRows
import Derived.Test.YtbaaoenmnmpfjaaNumBase
import Derived.WalkKit
import Derived.WalkSpells
import Derived.WalkLawsBesides
import Derived.Handy
import Derived.Deep.QuietTactic
import Derived.BigQuiet
import Derived.Deep.Draws
import Derived.Lib.Hide
namespace Go.Proofs.Ytbaaoenmnmpfjaa
open Go.RowKit

theorem frombits (b : Nat) (w : World) : (callFunc 27 #[.int .u64 (b : Int)]).run Try.prog w = .ok (.value (.float .f64 b)) w := by kernel_rfl
theorem tobits (b : Nat) (w : World) : (callFunc 28 #[.float .f64 b]).run Try.prog w = .ok (.value (.int .u64 (b : Int))) w := by kernel_rfl

theorem nan_lt (t : Nat) : t % 2 * 2 ^ 63 + 0x7ff0000000000000 + 1 + t / 2 % (2 ^ 52 - 1) < 18446744073709551616 := by omega
theorem nan_is (t : Nat) : Num.inf < (t % 2 * 2 ^ 63 + 0x7ff0000000000000 + 1 + t / 2 % (2 ^ 52 - 1)) % Num.sgn := by
  have h1 : t / 2 % (2 ^ 52 - 1) < 2 ^ 52 - 1 := Nat.mod_lt _ (by decide)
  generalize t / 2 % (2 ^ 52 - 1) = x at *
  unfold Num.inf Num.sgn
  rcases Nat.mod_two_eq_zero_or_one t with h | h <;> rw [h] <;> omega

/-- What '+' of two floats gives: the sum's bits, or, where it is no number, some bits that are none; the world is as it was but for what was drawn. -/
theorem run_add (a b : Nat) (w : World) : ∃ r n, r < 18446744073709551616 ∧ Num.IsSum a b r ∧ (binOp .add 46 (.float .f64 a) (.float .f64 b)).run Try.prog w = .ok (.float .f64 r) (w.drewN n) := by
  cases h : Ieee.double.add a b with
  | some r =>
    refine ⟨r, 0, Ieee.Format.add_lt _ h, Or.inl h, ?_⟩
    exact run_float_arith w .add _ .f64 a b r h
  | none =>
    refine ⟨Question.cut (.nanBits .f64 a b) (w.tape w.drawn (.nanBits .f64 a b)), 1, ?_, Or.inr ⟨h, ?_⟩, ?_⟩
    · exact nan_lt _
    · exact nan_is _
    · have hf : FloatKind.f64.format.add a b = none := h
      simp [binOp, Op.floatArith, hf, Question.forced]
      rfl

set_option maxHeartbeats 400000 in
theorem add_any (a b : Nat) (w : World) (ha : a < 18446744073709551616) (hb : b < 18446744073709551616) :
    Calls Try.prog 17 #[.int .u64 a, .int .u64 b] w fun e w' => e = .returned (.int .u64 (Num.S a b : Nat)) ∧ ∃ n, w' = w.drewN n := by
  have HM := Lib.hid (fun (c : Nat) (hc : c < 18446744073709551616) w => make_any c w hc)
  obtain ⟨r, n, hr, hs, hrun⟩ := run_add (Num.M a) (Num.M b) w
  have he := hs.eq
  rw [Num.S_M] at he
  have hE := Lib.hid he
  clear hs he
  have hf := frombits
  have hb2 := tobits
  have HR := Lib.hid hrun
  clear hrun
  go_enter Try.func17, Try.ntmps17
  go_wp2_with fail
  refine (HM.out a ha _).mono ?_; rintro e w' ⟨rfl, rfl⟩
  go_wp2_with fail
  refine (HM.out b hb _).mono ?_; rintro e w' ⟨rfl, rfl⟩
  have hrun := HR.out
  go_wp2_with fail
  clear hrun
  refine (HM.out r hr _).mono ?_; rintro e w' ⟨rfl, rfl⟩
  go_wp2_with fail
  go_ret
  exact ⟨by rw [hE.out]; rfl, n, rfl⟩

theorem ones : Num.S 4607182418800017408 4607182418800017408 = 4611686018427387904 := by decide +kernel

end Go.Proofs.Ytbaaoenmnmpfjaa
