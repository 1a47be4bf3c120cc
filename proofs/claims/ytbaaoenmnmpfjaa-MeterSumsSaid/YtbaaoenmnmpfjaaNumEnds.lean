/-
  What num.Least, num.Most and the document's own Least, Most and Add return, for every two floats.
  No condition but that an argument is a number of 64 bits.
-/
import Derived.Test.YtbaaoenmnmpfjaaNumSum
import Derived.Test.YtbaaoenmnmpfjaaNumCmp
import Derived.WalkKit
import Derived.WalkSpells
import Derived.WalkLawsBesides
import Derived.Handy
import Derived.Deep.QuietTactic
import Derived.BigQuiet
import Derived.Deep.Draws
import Derived.Lib.Hide
namespace Go.Proofs.Ytbaaoenmnmpfjaa
open Go.RowKit

def least (a b : Nat) : Nat := if Num.rank b < Num.rank a then Num.M b else Num.M a
def most (a b : Nat) : Nat := if Num.rank a < Num.rank b then Num.M b else Num.M a

set_option maxHeartbeats 400000 in
theorem least_any (a b : Nat) (w : World) (ha : a < 18446744073709551616) (hb : b < 18446744073709551616) :
    Calls Try.prog 18 #[.int .u64 a, .int .u64 b] w fun e w' => e = .returned (.int .u64 (least a b : Nat)) ∧ w = w' := by
  have H := Lib.hid (fun w => cmp_any b a w hb ha)
  have H1 := Lib.hid (fun w => make_any a w ha)
  have H2 := Lib.hid (fun w => make_any b w hb)
  by_cases h : Num.rank b < Num.rank a
  · have hl : Hid (least a b = Num.M b) := Lib.hid (if_pos h)
    rw [cmp_lt h] at H
    clear h
    generalize least a b = l at *
    go_enter Try.func18, Try.ntmps18
    go_wp2_with fail
    refine (H.out _).mono ?_; rintro e w' ⟨rfl, rfl⟩
    go_wp2_with fail
    refine (H2.out _).mono ?_; rintro e w' ⟨rfl, rfl⟩
    go_wp2_with fail
    go_ret
    exact ⟨by rw [hl.out]; rfl, rfl⟩
  · have hl : Hid (least a b = Num.M a) := Lib.hid (if_neg h)
    have hc : 0 ≤ Num.cmp b a := by have h2 := Num.cmp_turn b a; have h3 := (Num.cmp_le (a := a) (b := b)).2 (by omega); omega
    generalize Num.cmp b a = c at *
    clear h
    generalize least a b = l at *
    go_enter Try.func18, Try.ntmps18
    go_wp2_with fail
    refine (H.out _).mono ?_; rintro e w' ⟨rfl, rfl⟩
    go_wp2_with fail
    refine (H1.out _).mono ?_; rintro e w' ⟨rfl, rfl⟩
    go_wp2_with fail
    go_ret
    exact ⟨by rw [hl.out]; rfl, rfl⟩

set_option maxHeartbeats 400000 in
theorem most_any (a b : Nat) (w : World) (ha : a < 18446744073709551616) (hb : b < 18446744073709551616) :
    Calls Try.prog 19 #[.int .u64 a, .int .u64 b] w fun e w' => e = .returned (.int .u64 (most a b : Nat)) ∧ w = w' := by
  have H := Lib.hid (fun w => cmp_any b a w hb ha)
  have H1 := Lib.hid (fun w => make_any a w ha)
  have H2 := Lib.hid (fun w => make_any b w hb)
  by_cases h : Num.rank a < Num.rank b
  · have hl : Hid (most a b = Num.M b) := Lib.hid (if_pos h)
    rw [cmp_gt h] at H
    clear h
    generalize most a b = l at *
    go_enter Try.func19, Try.ntmps19
    go_wp2_with fail
    refine (H.out _).mono ?_; rintro e w' ⟨rfl, rfl⟩
    go_wp2_with fail
    refine (H2.out _).mono ?_; rintro e w' ⟨rfl, rfl⟩
    go_wp2_with fail
    go_ret
    exact ⟨by rw [hl.out]; rfl, rfl⟩
  · have hl : Hid (most a b = Num.M a) := Lib.hid (if_neg h)
    have hc : Num.cmp b a ≤ 0 := (Num.cmp_le (a := b) (b := a)).2 (by omega)
    generalize Num.cmp b a = c at *
    clear h
    generalize most a b = l at *
    go_enter Try.func19, Try.ntmps19
    go_wp2_with fail
    refine (H.out _).mono ?_; rintro e w' ⟨rfl, rfl⟩
    go_wp2_with fail
    refine (H1.out _).mono ?_; rintro e w' ⟨rfl, rfl⟩
    go_wp2_with fail
    go_ret
    exact ⟨by rw [hl.out]; rfl, rfl⟩

set_option maxHeartbeats 400000 in
theorem rleast_any (a b : Nat) (w : World) (ha : a < 18446744073709551616) (hb : b < 18446744073709551616) :
    Calls Try.prog 21 #[.int .u64 a, .int .u64 b] w fun e w' => e = .returned (.int .u64 (least a b : Nat)) ∧ w = w' := by
  have H := Lib.hid (fun w => rcmp_any a b w ha hb)
  have H1 := Lib.hid (fun w => rmake_any a w ha)
  have H2 := Lib.hid (fun w => rmake_any b w hb)
  by_cases h : Num.rank b < Num.rank a
  · have hl : Hid (least a b = Num.M b) := Lib.hid (if_pos h)
    rw [cmp_gt h] at H
    clear h
    generalize least a b = l at *
    go_enter Try.func21, Try.ntmps21
    go_wp2_with fail
    refine (H.out _).mono ?_; rintro e w' ⟨rfl, rfl⟩
    go_wp2_with fail
    refine (H2.out _).mono ?_; rintro e w' ⟨rfl, rfl⟩
    go_wp2_with fail
    go_ret
    exact ⟨by rw [hl.out]; rfl, rfl⟩
  · have hl : Hid (least a b = Num.M a) := Lib.hid (if_neg h)
    have hc : Num.cmp a b ≤ 0 := (Num.cmp_le (a := a) (b := b)).2 (by omega)
    generalize Num.cmp a b = c at *
    clear h
    generalize least a b = l at *
    go_enter Try.func21, Try.ntmps21
    go_wp2_with fail
    refine (H.out _).mono ?_; rintro e w' ⟨rfl, rfl⟩
    go_wp2_with fail
    refine (H1.out _).mono ?_; rintro e w' ⟨rfl, rfl⟩
    go_wp2_with fail
    go_ret
    exact ⟨by rw [hl.out]; rfl, rfl⟩

set_option maxHeartbeats 400000 in
theorem rmost_any (a b : Nat) (w : World) (ha : a < 18446744073709551616) (hb : b < 18446744073709551616) :
    Calls Try.prog 22 #[.int .u64 a, .int .u64 b] w fun e w' => e = .returned (.int .u64 (most a b : Nat)) ∧ w = w' := by
  have H := Lib.hid (fun w => rcmp_any a b w ha hb)
  have H1 := Lib.hid (fun w => rmake_any a w ha)
  have H2 := Lib.hid (fun w => rmake_any b w hb)
  by_cases h : Num.rank a < Num.rank b
  · have hl : Hid (most a b = Num.M b) := Lib.hid (if_pos h)
    rw [cmp_lt h] at H
    clear h
    generalize most a b = l at *
    go_enter Try.func22, Try.ntmps22
    go_wp2_with fail
    refine (H.out _).mono ?_; rintro e w' ⟨rfl, rfl⟩
    go_wp2_with fail
    refine (H2.out _).mono ?_; rintro e w' ⟨rfl, rfl⟩
    go_wp2_with fail
    go_ret
    exact ⟨by rw [hl.out]; rfl, rfl⟩
  · have hl : Hid (most a b = Num.M a) := Lib.hid (if_neg h)
    have hc : 0 ≤ Num.cmp a b := by have h2 := Num.cmp_turn a b; have h3 := (Num.cmp_le (a := b) (b := a)).2 (by omega); omega
    generalize Num.cmp a b = c at *
    clear h
    generalize most a b = l at *
    go_enter Try.func22, Try.ntmps22
    go_wp2_with fail
    refine (H.out _).mono ?_; rintro e w' ⟨rfl, rfl⟩
    go_wp2_with fail
    refine (H1.out _).mono ?_; rintro e w' ⟨rfl, rfl⟩
    go_wp2_with fail
    go_ret
    exact ⟨by rw [hl.out]; rfl, rfl⟩

set_option maxHeartbeats 400000 in
theorem radd_any (a b : Nat) (w : World)  :
    Calls Try.prog 20 #[.int .u64 a, .int .u64 b] w fun e w' => e = .returned (.int .u64 (Num.S a b : Nat)) ∧ ∃ n, w' = w.drewN n := by
  have HM := Lib.hid (fun (c : Nat) (hc : c < 18446744073709551616) w => rmake_any c w hc)
  obtain ⟨r, n, hr, hs, hrun⟩ := run_add a b w
  have he := hs.eq
  have hE := Lib.hid he
  clear hs he
  have hf := frombits
  have hb2 := tobits
  go_enter Try.func20, Try.ntmps20
  go_wp2_with fail
  refine (HM.out r hr _).mono ?_; rintro e w' ⟨rfl, rfl⟩
  go_wp2_with fail
  go_ret
  exact ⟨by rw [hE.out]; rfl, n, rfl⟩

end Go.Proofs.Ytbaaoenmnmpfjaa
