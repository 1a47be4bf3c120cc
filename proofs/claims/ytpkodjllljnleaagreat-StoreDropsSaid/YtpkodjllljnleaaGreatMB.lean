/- What num.Make, num.Add, the document's own Make and the example return, for every argument: the float's bits as XNumMath reckons them. No condition but those named. -/
import Derived.Test.YtpkodjllljnleaaGreatTk
import Derived.Test.YtpkodjllljnleaaGreatMA
import Derived.Test.YtpkodjllljnleaaGreatRows
import Derived.WalkKit
import Derived.WalkSpells
import Derived.WalkLawsBesides
import Derived.Handy
import Derived.Deep.QuietTactic
import Derived.BigQuiet
import Derived.Deep.Draws
import Derived.Lib.Hide
set_option linter.unusedSimpArgs false
set_option linter.unusedVariables false
namespace Go.Proofs.YtpkodjllljnleaaGreat
open Go.RowKit
theorem ret_int {k : IntKind} {a b : Int} (h : a = b) : Ending.returned (.int k a) = .returned (.int k b) := by rw [h]
theorem ret_bool {a b : Bool} (h : a = b) : Ending.returned (.bool a) = .returned (.bool b) := by rw [h]
theorem u64_lt {n : Int} (h : (Lit.int .u64 n).wf = true) : ∃ k : Nat, n = (k : Int) ∧ k < 18446744073709551616 := by
 have hb := bounds_u64 h
 obtain ⟨k, rfl⟩ := Int.eq_ofNat_of_zero_le hb.1
 exact ⟨k, rfl, by omega⟩
set_option maxHeartbeats 400000 in
theorem make_any (b : Nat) (w : World) (h : b < 18446744073709551616) :
  Calls Tryz.prog 116 #[.int .u64 b] w fun e w' => e = .returned (.int .u64 (Num.M b : Nat)) ∧ w = w' := by
 have hc := zH (Num.cut_sign b h)
 go_enter Tryz.func116, Tryz.ntmps116
 go_wp2
 ·have h1 : 9218868437227405312 < bits BinOp.andNot IntKind.u64 (b : Int) 9223372036854775808 := by assumption
  go_ret
  rw [hc.out] at h1
  exact ⟨by rw [Num.M_nan (by unfold Num.inf; omega)]; rfl, rfl⟩
 ·have h1 : bits BinOp.andNot IntKind.u64 (b : Int) 9223372036854775808 ≤ 9218868437227405312 := by assumption
  go_ret
  rw [hc.out] at h1
  exact ⟨by rw [Num.M_not (by unfold Num.inf; omega)]; rfl, rfl⟩
set_option maxHeartbeats 400000 in
theorem none_any (b : Nat) (w : World) (h : b < 18446744073709551616) :
  Calls Tryz.prog 142 #[.int .u64 b] w fun e w' => e = .returned (.bool (decide (Num.inf < b % Num.sgn))) ∧ w = w' := by
 have hc := zH (Num.and_exp b h)
 have hd := zH (Num.and_frac b h)
 have he := zH (Num.none_iff b)
 go_enter Tryz.func142, Tryz.ntmps142
 go_wp2
 ·have h1 : bits BinOp.and IntKind.u64 (b : Int) 9218868437227405312 = 9218868437227405312 := by assumption
  go_ret
  rw [hc.out] at h1
  refine ⟨ret_bool ?_, rfl⟩
  rw [hd.out, Bool.eq_iff_iff, decide_eq_true_eq, ← he.out, bne_iff_ne]
  omega
 ·have h1 : ¬ bits BinOp.and IntKind.u64 (b : Int) 9218868437227405312 = 9218868437227405312 := by assumption
  go_ret
  rw [hc.out] at h1
  refine ⟨ret_bool ?_, rfl⟩
  rw [Bool.eq_iff_iff, decide_eq_true_eq, ← he.out]
  constructor
  ·intro h; cases h
  ·intro h; omega
set_option maxHeartbeats 400000 in
theorem rmake_any (b : Nat) (w : World) (h : b < 18446744073709551616) :
  Calls Tryz.prog 125 #[.int .u64 b] w fun e w' => e = .returned (.int .u64 (Num.M b : Nat)) ∧ w = w' := by
 by_cases hb : Num.inf < b % Num.sgn
 ·have HH := zH (fun w => none_any b w h)
  rw [decide_eq_true hb] at HH
  have hm := zH (Num.M_nan hb)
  clear hb
  go_enter Tryz.func125, Tryz.ntmps125
  go_wp2_with (go_at_call 142; refine (HH.out _).mono ?_; rintro e w' ⟨rfl, rfl⟩)
  go_ret
  exact ⟨by rw [hm.out]; rfl, rfl⟩
 ·have HH := zH (fun w => none_any b w h)
  rw [decide_eq_false hb] at HH
  have hm := zH (Num.M_not hb)
  clear hb
  go_enter Tryz.func125, Tryz.ntmps125
  go_wp2_with (go_at_call 142; refine (HH.out _).mono ?_; rintro e w' ⟨rfl, rfl⟩)
  go_ret
  exact ⟨by rw [hm.out]; rfl, rfl⟩
end Go.Proofs.YtpkodjllljnleaaGreat
namespace Go.Proofs.YtpkodjllljnleaaGreat
open Go.RowKit
theorem frombits (b : Nat) (w : World) : (callFunc 139 #[.int .u64 (b : Int)]).run Tryz.prog w = .ok (.value (.float .f64 b)) w := by kernel_rfl
theorem tobits (b : Nat) (w : World) : (callFunc 140 #[.float .f64 b]).run Tryz.prog w = .ok (.value (.int .u64 (b : Int))) w := by kernel_rfl
theorem nan_lt (t : Nat) : t % 2 * 2 ^ 63 + 0x7ff0000000000000 + 1 + t / 2 % (2 ^ 52 - 1) < 18446744073709551616 := by omega
theorem nan_is (t : Nat) : Num.inf < (t % 2 * 2 ^ 63 + 0x7ff0000000000000 + 1 + t / 2 % (2 ^ 52 - 1)) % Num.sgn := by
 have h1 : t / 2 % (2 ^ 52 - 1) < 2 ^ 52 - 1 := Nat.mod_lt _ (by decide)
 generalize t / 2 % (2 ^ 52 - 1) = x at *
 unfold Num.inf Num.sgn
 rcases Nat.mod_two_eq_zero_or_one t with h | h <;> rw [h] <;> omega
theorem run_add (a b : Nat) (w : World) : ∃ r n, r < 18446744073709551616 ∧ Num.IsSum a b r ∧ (binOp .add 163 (.float .f64 a) (.float .f64 b)).run Tryz.prog w = .ok (.float .f64 r) (w.drewN n) := by
 cases h : Ieee.double.add a b with
 | some r =>
  refine ⟨r, 0, Ieee.Format.add_lt _ h, Or.inl h, ?_⟩
  exact run_float_arith w .add _ .f64 a b r h
 | none =>
  refine ⟨Question.cut (.nanBits .f64 a b) (w.tape w.drawn (.nanBits .f64 a b)), 1, ?_, Or.inr ⟨h, ?_⟩, ?_⟩
  ·exact nan_lt _
  ·exact nan_is _
  ·have hf : FloatKind.f64.format.add a b = none := h
   simp [binOp, Op.floatArith, hf, Question.forced]
   rfl
set_option maxHeartbeats 400000 in
theorem add_any (a b : Nat) (w : World) (ha : a < 18446744073709551616) (hb : b < 18446744073709551616) :
  Calls Tryz.prog 117 #[.int .u64 a, .int .u64 b] w fun e w' => e = .returned (.int .u64 (Num.S a b : Nat)) ∧ ∃ n, w' = w.drewN n := by
 have HM := zH (fun (c : Nat) (hc : c < 18446744073709551616) w => make_any c w hc)
 obtain ⟨r, n, hr, hs, hrun⟩ := run_add (Num.M a) (Num.M b) w
 have he := hs.eq
 rw [Num.S_M] at he
 have hE := zH he
 clear hs he
 have hf := frombits
 have hb2 := tobits
 have HR := zH hrun
 clear hrun
 go_enter Tryz.func117, Tryz.ntmps117
 go_wp2_with fail
 refine (HM.out a ha _).mono ?_; rintro e w' ⟨rfl, rfl⟩
 go_wp2_with fail
 refine (HM.out b hb _).mono ?_; rintro e w' ⟨rfl, rfl⟩
 have hrun := HR.out
 go_wp2_with fail
 clear hrun
 refine (HM.out r hr _).mono ?_; rintro e w' ⟨rfl, rfl⟩
 go_wp2_with fail
 go_ret
 exact ⟨by rw [hE.out]; rfl, n, rfl⟩
end Go.Proofs.YtpkodjllljnleaaGreat
namespace Go.Proofs.YtpkodjllljnleaaGreat
open Go.RowKit
theorem max_u64 : IntKind.u64.max = 18446744073709551615 := by decide
set_option maxHeartbeats 400000 in
theorem rank_any (b : Nat) (w : World) (h : b < 18446744073709551616) :
  Calls Tryz.prog 143 #[.int .u64 b] w fun e w' => e = .returned (.int .u64 (Num.rank b : Nat)) ∧ w = w' := by
 have hm := Num.M_lt h
 have hc := zH (Num.and_sign _ hm)
 have hx := zH (Num.turn_all _ hm)
 have ho := zH (Num.or_sign (Num.M b))
 have hr : Hid (Num.rank b = if Num.M b < Num.sgn then Num.M b + Num.sgn else 18446744073709551615 - Num.M b) := zH rfl
 have HH := zH (fun w => make_any b w h)
 generalize Num.M b = x at *
 go_enter Tryz.func143, Tryz.ntmps143
 go_wp2_with (go_at_call 116; refine (HH.out _).mono ?_; rintro e w' ⟨rfl, rfl⟩)
 ·have h1 : (bits BinOp.and IntKind.u64 (x : Int) 9223372036854775808 != 0) = true := by assumption
  go_ret
  rw [hc.out, bne_iff_ne] at h1
  unfold Num.sgn at *
  refine ⟨ret_int ?_, rfl⟩
  rw [max_u64, hx.out, hr.out, if_neg (by omega)]
 ·have h1 : (bits BinOp.and IntKind.u64 (x : Int) 9223372036854775808 != 0) = false := by assumption
  go_ret
  rw [hc.out, bne_eq_false_iff_eq] at h1
  unfold Num.sgn at *
  refine ⟨ret_int ?_, rfl⟩
  rw [ho.out (by omega), hr.out, if_pos (by omega)]
set_option maxHeartbeats 400000 in
theorem place_any (b : Nat) (w : World) (h : b < 18446744073709551616) :
  Calls Tryz.prog 144 #[.int .u64 b] w fun e w' => e = .returned (.int .u64 (Num.rank b : Nat)) ∧ w = w' := by
 have hm := Num.M_lt h
 have hx := zH (Num.turn_all _ hm)
 have ho := zH (Num.or_sign (Num.M b))
 have hr : Hid (Num.rank b = if Num.M b < Num.sgn then Num.M b + Num.sgn else 18446744073709551615 - Num.M b) := zH rfl
 have HH := zH (fun w => rmake_any b w h)
 generalize Num.M b = x at *
 go_enter Tryz.func144, Tryz.ntmps144
 go_wp2_with (go_at_call 125; refine (HH.out _).mono ?_; rintro e w' ⟨rfl, rfl⟩)
 ·have h1 : ((x : Int) / 9223372036854775808 == 1) = true := by assumption
  go_ret
  rw [beq_iff_eq] at h1
  unfold Num.sgn at *
  refine ⟨ret_int ?_, rfl⟩
  rw [max_u64, hx.out, hr.out, if_neg (by omega)]
 ·have h1 : ((x : Int) / 9223372036854775808 == 1) = false := by assumption
  go_ret
  rw [beq_eq_false_iff_ne] at h1
  unfold Num.sgn at *
  refine ⟨ret_int ?_, rfl⟩
  rw [ho.out (by omega), hr.out, if_pos (by omega)]
theorem cmp_lt {a b : Nat} (h : Num.rank a < Num.rank b) : Num.cmp a b = -1 := by unfold Num.cmp; rw [if_pos h]
theorem cmp_gt {a b : Nat} (h : Num.rank b < Num.rank a) : Num.cmp a b = 1 := by unfold Num.cmp; rw [if_neg (by omega), if_pos h]
theorem cmp_eq {a b : Nat} (h : Num.rank a = Num.rank b) : Num.cmp a b = 0 := by unfold Num.cmp; rw [if_neg (by omega), if_neg (by omega)]
set_option maxHeartbeats 400000 in
theorem cmp_any (a b : Nat) (w : World) (ha : a < 18446744073709551616) (hb : b < 18446744073709551616) :
  Calls Tryz.prog 132 #[.int .u64 a, .int .u64 b] w fun e w' => e = .returned (.int .i64 (Num.cmp a b)) ∧ w = w' := by
 have H1 := zH (fun w => rank_any a w ha)
 have H2 := zH (fun w => rank_any b w hb)
 have c1 := @cmp_lt a b
 have c2 := @cmp_gt a b
 have c3 := @cmp_eq a b
 have C1 := zH c1
 have C2 := zH c2
 have C3 := zH c3
 clear c1 c2 c3
 generalize Num.rank a = x at *
 generalize Num.rank b = y at *
 go_enter Tryz.func132, Tryz.ntmps132
 go_wp2_with fail
 refine (H1.out _).mono ?_; rintro e w' ⟨rfl, rfl⟩
 go_wp2_with fail
 refine (H2.out _).mono ?_; rintro e w' ⟨rfl, rfl⟩
 rcases Nat.lt_trichotomy x y with h | h | h
 ·go_wp2_with fail
  go_ret
  exact ⟨by rw [C1.out h]; rfl, rfl⟩
 ·have hh := zH h
  clear h
  have n1 : ¬ x < y := by have := hh.out; omega
  have n2 : ¬ y < x := by have := hh.out; omega
  go_wp2_with fail
  go_ret
  exact ⟨by rw [C3.out hh.out]; rfl, rfl⟩
 ·have n1 : ¬ x < y := by omega
  go_wp2_with fail
  go_ret
  exact ⟨by rw [C2.out h]; rfl, rfl⟩
set_option maxHeartbeats 400000 in
theorem rcmp_any (a b : Nat) (w : World) (ha : a < 18446744073709551616) (hb : b < 18446744073709551616) :
  Calls Tryz.prog 141 #[.int .u64 a, .int .u64 b] w fun e w' => e = .returned (.int .i64 (Num.cmp a b)) ∧ w = w' := by
 have H1 := zH (fun w => place_any a w ha)
 have H2 := zH (fun w => place_any b w hb)
 have c1 := @cmp_lt a b
 have c2 := @cmp_gt a b
 have c3 := @cmp_eq a b
 have C1 := zH c1
 have C2 := zH c2
 have C3 := zH c3
 clear c1 c2 c3
 generalize Num.rank a = x at *
 generalize Num.rank b = y at *
 go_enter Tryz.func141, Tryz.ntmps141
 go_wp2_with fail
 refine (H1.out _).mono ?_; rintro e w' ⟨rfl, rfl⟩
 go_wp2_with fail
 refine (H2.out _).mono ?_; rintro e w' ⟨rfl, rfl⟩
 rcases Nat.lt_trichotomy x y with h | h | h
 ·go_wp2_with fail
  go_ret
  exact ⟨by rw [C1.out h]; rfl, rfl⟩
 ·have hh := zH h
  clear h
  have n1 : ¬ x < y := by have := hh.out; omega
  have n2 : ¬ y < x := by have := hh.out; omega
  go_wp2_with fail
  go_ret
  exact ⟨by rw [C3.out hh.out]; rfl, rfl⟩
 ·have n1 : ¬ x < y := by omega
  go_wp2_with fail
  go_ret
  exact ⟨by rw [C2.out h]; rfl, rfl⟩
end Go.Proofs.YtpkodjllljnleaaGreat
namespace Go.Proofs.YtpkodjllljnleaaGreat
open Go.RowKit
def least (a b : Nat) : Nat := if Num.rank b < Num.rank a then Num.M b else Num.M a
def most (a b : Nat) : Nat := if Num.rank a < Num.rank b then Num.M b else Num.M a
set_option maxHeartbeats 400000 in
theorem least_any (a b : Nat) (w : World) (ha : a < 18446744073709551616) (hb : b < 18446744073709551616) :
  Calls Tryz.prog 118 #[.int .u64 a, .int .u64 b] w fun e w' => e = .returned (.int .u64 (least a b : Nat)) ∧ w = w' := by
 have H := zH (fun w => cmp_any b a w hb ha)
 have H1 := zH (fun w => make_any a w ha)
 have H2 := zH (fun w => make_any b w hb)
 by_cases h : Num.rank b < Num.rank a
 ·have hl : Hid (least a b = Num.M b) := zH (if_pos h)
  rw [cmp_lt h] at H
  clear h
  generalize least a b = l at *
  go_enter Tryz.func118, Tryz.ntmps118
  go_wp2_with fail
  refine (H.out _).mono ?_; rintro e w' ⟨rfl, rfl⟩
  go_wp2_with fail
  refine (H2.out _).mono ?_; rintro e w' ⟨rfl, rfl⟩
  go_wp2_with fail
  go_ret
  exact ⟨by rw [hl.out]; rfl, rfl⟩
 ·have hl : Hid (least a b = Num.M a) := zH (if_neg h)
  have hc : 0 ≤ Num.cmp b a := by have h2 := Num.cmp_turn b a; have h3 := (Num.cmp_le (a := a) (b := b)).2 (by omega); omega
  generalize Num.cmp b a = c at *
  clear h
  generalize least a b = l at *
  go_enter Tryz.func118, Tryz.ntmps118
  go_wp2_with fail
  refine (H.out _).mono ?_; rintro e w' ⟨rfl, rfl⟩
  go_wp2_with fail
  refine (H1.out _).mono ?_; rintro e w' ⟨rfl, rfl⟩
  go_wp2_with fail
  go_ret
  exact ⟨by rw [hl.out]; rfl, rfl⟩
set_option maxHeartbeats 400000 in
theorem most_any (a b : Nat) (w : World) (ha : a < 18446744073709551616) (hb : b < 18446744073709551616) :
  Calls Tryz.prog 119 #[.int .u64 a, .int .u64 b] w fun e w' => e = .returned (.int .u64 (most a b : Nat)) ∧ w = w' := by
 have H := zH (fun w => cmp_any b a w hb ha)
 have H1 := zH (fun w => make_any a w ha)
 have H2 := zH (fun w => make_any b w hb)
 by_cases h : Num.rank a < Num.rank b
 ·have hl : Hid (most a b = Num.M b) := zH (if_pos h)
  rw [cmp_gt h] at H
  clear h
  generalize most a b = l at *
  go_enter Tryz.func119, Tryz.ntmps119
  go_wp2_with fail
  refine (H.out _).mono ?_; rintro e w' ⟨rfl, rfl⟩
  go_wp2_with fail
  refine (H2.out _).mono ?_; rintro e w' ⟨rfl, rfl⟩
  go_wp2_with fail
  go_ret
  exact ⟨by rw [hl.out]; rfl, rfl⟩
 ·have hl : Hid (most a b = Num.M a) := zH (if_neg h)
  have hc : Num.cmp b a ≤ 0 := (Num.cmp_le (a := b) (b := a)).2 (by omega)
  generalize Num.cmp b a = c at *
  clear h
  generalize most a b = l at *
  go_enter Tryz.func119, Tryz.ntmps119
  go_wp2_with fail
  refine (H.out _).mono ?_; rintro e w' ⟨rfl, rfl⟩
  go_wp2_with fail
  refine (H1.out _).mono ?_; rintro e w' ⟨rfl, rfl⟩
  go_wp2_with fail
  go_ret
  exact ⟨by rw [hl.out]; rfl, rfl⟩
end Go.Proofs.YtpkodjllljnleaaGreat
namespace Go.Proofs.YtpkodjllljnleaaGreat
structure Mtr where
 n : Int
 s : Nat
 l : Nat
 m : Nat
 deriving DecidableEq
namespace Mt
def zero : Mtr := ⟨0, 0, 0, 0⟩
def Fit (x : Mtr) : Prop := x.n ≤ 9223372036854775807 ∧ x.s < 18446744073709551616 ∧ x.l < 18446744073709551616 ∧ x.m < 18446744073709551616
def Ok (x : Mtr) : Prop := (x.n = 0 ∧ x.s = 0 ∧ x.l = 0 ∧ x.m = 0) ∨ (0 < x.n ∧ Num.M x.s = x.s ∧ Num.M x.l = x.l ∧ Num.M x.m = x.m ∧ Num.rank x.l ≤ Num.rank x.m)
instance (x : Mtr) : Decidable (Ok x) := by unfold Ok; infer_instance
theorem least_lt {a b : Nat} (ha : a < 18446744073709551616) (hb : b < 18446744073709551616) : least a b < 18446744073709551616 := by
 unfold least; split
 ·exact Num.M_lt hb
 ·exact Num.M_lt ha
theorem most_lt {a b : Nat} (ha : a < 18446744073709551616) (hb : b < 18446744073709551616) : most a b < 18446744073709551616 := by
 unfold most; split
 ·exact Num.M_lt hb
 ·exact Num.M_lt ha
theorem fit_zero : Fit zero := ⟨by decide, by decide, by decide, by decide⟩
theorem ok_zero : Ok zero := .inl ⟨rfl, rfl, rfl, rfl⟩
theorem ok_none {n : Int} {s l m : Nat} (hn : ¬ 0 < n) : decide ((⟨n, s, l, m⟩ : Mtr) = ⟨0, 0, 0, 0⟩) = decide (Ok ⟨n, s, l, m⟩) := by
 rw [decide_eq_decide]
 simp only [Mtr.mk.injEq]
 constructor
 ·exact fun h => .inl h
 ·rintro (h | ⟨h, _⟩)
  ·exact h
  ·exact absurd h hn
theorem ok_s {n : Int} {s l m : Nat} (hn : 0 < n) (h : ¬ Num.M s = s) : ¬ Ok ⟨n, s, l, m⟩ := by
 rintro (⟨h0, _⟩ | ⟨_, h1, _⟩)
 ·have h0 : n = 0 := h0
  omega
 ·exact h h1
theorem ok_l {n : Int} {s l m : Nat} (hn : 0 < n) (h : ¬ Num.M l = l) : ¬ Ok ⟨n, s, l, m⟩ := by
 rintro (⟨h0, _⟩ | ⟨_, _, h1, _⟩)
 ·have h0 : n = 0 := h0
  omega
 ·exact h h1
theorem ok_m {n : Int} {s l m : Nat} (hn : 0 < n) (h : ¬ Num.M m = m) : ¬ Ok ⟨n, s, l, m⟩ := by
 rintro (⟨h0, _⟩ | ⟨_, _, _, h1, _⟩)
 ·have h0 : n = 0 := h0
  omega
 ·exact h h1
theorem ok_all {n : Int} {s l m : Nat} (hn : 0 < n) (hs : Num.M s = s) (hl : Num.M l = l) (hm : Num.M m = m) : Ok ⟨n, s, l, m⟩ ↔ Num.cmp l m ≤ 0 := by
 rw [Num.cmp_le]
 constructor
 ·rintro (⟨h0, _⟩ | ⟨_, _, _, _, h1⟩)
  ·have h0 : n = 0 := h0
   omega
  ·exact h1
 ·exact fun h => .inr ⟨hn, hs, hl, hm, h⟩
theorem okn {n : Int} {s l m : Nat} (h0 : ¬ n = 0) (hn : ¬ 0 < n) : ¬ Ok ⟨n, s, l, m⟩ := by
 rintro (⟨h1, _⟩ | ⟨h1, _⟩)
 ·exact h0 h1
 ·exact hn h1
theorem okn_s {n : Int} {s l m : Nat} (h0 : ¬ n = 0) (h : ¬ Num.M s = s) : ¬ Ok ⟨n, s, l, m⟩ := by
 rintro (⟨h1, _⟩ | ⟨_, h1, _⟩)
 ·exact h0 h1
 ·exact h h1
theorem okn_l {n : Int} {s l m : Nat} (h0 : ¬ n = 0) (h : ¬ Num.M l = l) : ¬ Ok ⟨n, s, l, m⟩ := by
 rintro (⟨h1, _⟩ | ⟨_, _, h1, _⟩)
 ·exact h0 h1
 ·exact h h1
theorem okn_m {n : Int} {s l m : Nat} (h0 : ¬ n = 0) (h : ¬ Num.M m = m) : ¬ Ok ⟨n, s, l, m⟩ := by
 rintro (⟨h1, _⟩ | ⟨_, _, _, h1, _⟩)
 ·exact h0 h1
 ·exact h h1
def ad (x : Mtr) (b : Nat) : Mtr := if ¬ Ok x then x else if x.n = 9223372036854775807 then x else if x.n = 0 then ⟨1, Num.M b, Num.M b, Num.M b⟩ else ⟨x.n + 1, Num.S x.s (Num.M b), least x.l (Num.M b), most x.m (Num.M b)⟩
def adE (x : Mtr) : Int := if ¬ Ok x then 1 else if x.n = 9223372036854775807 then 6 else 0
theorem ad_bad {x : Mtr} (h : ¬ Ok x) (b : Nat) : ad x b = x := if_pos h
theorem adE_bad {x : Mtr} (h : ¬ Ok x) : adE x = 1 := if_pos h
theorem ad_full {x : Mtr} (h : Ok x) (hn : x.n = 9223372036854775807) (b : Nat) : ad x b = x := by unfold ad; rw [if_neg (by simpa using h), if_pos hn]
theorem adE_full {x : Mtr} (h : Ok x) (hn : x.n = 9223372036854775807) : adE x = 6 := by unfold adE; rw [if_neg (by simpa using h), if_pos hn]
theorem ad_one {x : Mtr} (h : Ok x) (hn : x.n = 0) (b : Nat) : ad x b = ⟨1, Num.M b, Num.M b, Num.M b⟩ := by unfold ad; rw [if_neg (by simpa using h), if_neg (by omega), if_pos hn]
theorem adE_one {x : Mtr} (h : Ok x) (hn : x.n ≠ 9223372036854775807) : adE x = 0 := by unfold adE; rw [if_neg (by simpa using h), if_neg hn]
theorem ad_more {x : Mtr} (h : Ok x) (hn : x.n ≠ 9223372036854775807) (h0 : x.n ≠ 0) (b : Nat) : ad x b = ⟨x.n + 1, Num.S x.s (Num.M b), least x.l (Num.M b), most x.m (Num.M b)⟩ := by unfold ad; rw [if_neg (by simpa using h), if_neg hn, if_neg h0]
theorem ok_pos {x : Mtr} (h : Ok x) : 0 ≤ x.n := by
 rcases h with ⟨h, _⟩ | ⟨h, _⟩ <;> omega
structure Rd where
 k : Int
 n : Int
 f : Nat
 e : Int
 deriving DecidableEq
def rd (x : Mtr) (q : Int) : Rd :=
 if ¬ Ok x ∨ q < 0 ∨ 3 < q then ⟨0, 0, 0, 1⟩ else if q = 0 then ⟨1, x.n, 0, 0⟩ else if x.n = 0 then ⟨0, 0, 0, 10⟩ else ⟨2, 0, (if q = 1 then x.s else if q = 2 then x.l else x.m), 0⟩
theorem rd_bad {x : Mtr} {q : Int} (h : ¬ Ok x ∨ q < 0 ∨ 3 < q) : rd x q = ⟨0, 0, 0, 1⟩ := if_pos h
theorem rd_in {x : Mtr} {q : Int} (h : Ok x) (h1 : 0 ≤ q) (h2 : q ≤ 3) : ¬ (¬ Ok x ∨ q < 0 ∨ 3 < q) := by
 rintro (h3 | h3 | h3)
 ·exact h3 h
 ·omega
 ·omega
theorem rd_0 {x : Mtr} (h : Ok x) : rd x 0 = ⟨1, x.n, 0, 0⟩ := by unfold rd; rw [if_neg (rd_in h (by decide) (by decide)), if_pos rfl]
theorem rd_no {x : Mtr} {q : Int} (h : Ok x) (h1 : 0 ≤ q) (h2 : q ≤ 3) (hq : q ≠ 0) (hn : x.n = 0) : rd x q = ⟨0, 0, 0, 10⟩ := by unfold rd; rw [if_neg (rd_in h h1 h2), if_neg hq, if_pos hn]
theorem rd_1 {x : Mtr} (h : Ok x) (hn : ¬ x.n = 0) : rd x 1 = ⟨2, 0, x.s, 0⟩ := by unfold rd; rw [if_neg (rd_in h (by decide) (by decide)), if_neg (by decide), if_neg hn, if_pos rfl]
theorem rd_2 {x : Mtr} (h : Ok x) (hn : ¬ x.n = 0) : rd x 2 = ⟨2, 0, x.l, 0⟩ := by unfold rd; rw [if_neg (rd_in h (by decide) (by decide)), if_neg (by decide), if_neg hn, if_neg (by decide), if_pos rfl]
theorem rd_3 {x : Mtr} (h : Ok x) (hn : ¬ x.n = 0) : rd x 3 = ⟨2, 0, x.m, 0⟩ := by unfold rd; rw [if_neg (rd_in h (by decide) (by decide)), if_neg (by decide), if_neg hn, if_neg (by decide), if_neg (by decide)]
end Mt
end Go.Proofs.YtpkodjllljnleaaGreat
namespace Go.Proofs.YtpkodjllljnleaaGreat
namespace Mt
theorem S_lt (u v : Nat) : Num.S u v < 18446744073709551616 := by
 unfold Num.S
 split
 ·rename_i r h
  exact Num.M_lt (Ieee.Format.add_lt _ h)
 ·decide
theorem fit_ad {x : Mtr} {b : Nat} (hf : Fit x) (hb : b < 18446744073709551616) : Fit (ad x b) := by
 unfold ad
 split
 ·exact hf
 ·split
  ·exact hf
  ·split
   ·exact ⟨by show (1 : Int) ≤ _; decide, Num.M_lt hb, Num.M_lt hb, Num.M_lt hb⟩
   ·rename_i h1 h2 h3
    refine ⟨?_, S_lt _ _, least_lt hf.2.2.1 (Num.M_lt hb), most_lt hf.2.2.2 (Num.M_lt hb)⟩
    have := hf.1
    show x.n + 1 ≤ _
    omega
structure Inv (l : List Nat) (x : Mtr) : Prop where
 n : x.n = (l.length : Int)
 ok : Ok x
 fit : Fit x
 le : ∀ b ∈ l, Num.rank x.l ≤ Num.rank b ∧ Num.rank b ≤ Num.rank x.m
 hit : l ≠ [] → (∃ b ∈ l, Num.M b = x.l) ∧ (∃ b ∈ l, Num.M b = x.m)
theorem Inv.sum {l : List Nat} {x : Mtr} (h : Inv l x) (hn : l.length < 9223372036854775807) (b : Nat) : (ad x b).s = if l.length = 0 then Num.M b else Num.S x.s b := by
 have hmx : x.n ≠ 9223372036854775807 := by rw [h.n]; omega
 by_cases h0 : l.length = 0
 ·rw [if_pos h0, ad_one h.ok (by rw [h.n, h0]; rfl)]
 ·have hz : x.n ≠ 0 := by rw [h.n]; omega
  rw [if_neg h0, ad_more h.ok hmx hz]
  have hs : Num.M x.s = x.s := by
   rcases h.ok with ⟨h1, _⟩ | h1
   ·exact absurd h1 hz
   ·exact h1.2.1
  show Num.S x.s (Num.M b) = Num.S x.s b
  have e := Num.S_M x.s (Num.M b)
  rw [Num.M_M, Num.S_M] at e
  exact e.symm
/- Two floats in either order. -/
theorem least_comm {a b : Nat} (ha : a < 18446744073709551616) (hb : b < 18446744073709551616) : least a b = least b a := by
 unfold least
 rcases Nat.lt_trichotomy (Num.rank a) (Num.rank b) with h | h | h
 ·rw [if_neg (by omega), if_pos h]
 ·rw [if_neg (by omega), if_neg (by omega)]; exact Num.rank_inj ha hb h
 ·rw [if_pos h, if_neg (by omega)]
theorem most_comm {a b : Nat} (ha : a < 18446744073709551616) (hb : b < 18446744073709551616) : most a b = most b a := by
 unfold most
 rcases Nat.lt_trichotomy (Num.rank a) (Num.rank b) with h | h | h
 ·rw [if_pos h, if_neg (by omega)]
 ·rw [if_neg (by omega), if_neg (by omega)]; exact Num.rank_inj ha hb h
 ·rw [if_neg (by omega), if_pos h]
theorem ok_one (a : Nat) : Ok ⟨1, Num.M a, Num.M a, Num.M a⟩ := .inr ⟨(by decide : (0 : Int) < 1), Num.M_M a, Num.M_M a, Num.M_M a, Nat.le_refl _⟩
theorem two (a b : Nat) : ad (ad zero a) b = ⟨2, Num.S (Num.M a) (Num.M b), least (Num.M a) (Num.M b), most (Num.M a) (Num.M b)⟩ := by
 rw [ad_one ok_zero rfl, ad_more (ok_one a) (by show (1 : Int) ≠ _; decide) (by show (1 : Int) ≠ _; decide)]
 rfl
theorem turned {a b : Nat} (ha : a < 18446744073709551616) (hb : b < 18446744073709551616) : ad (ad zero a) b = ad (ad zero b) a := by
 rw [two, two, Num.S_comm, least_comm (Num.M_lt ha) (Num.M_lt hb), most_comm (Num.M_lt ha) (Num.M_lt hb)]
end Mt
end Go.Proofs.YtpkodjllljnleaaGreat
namespace Go.Proofs.YtpkodjllljnleaaGreat
namespace Cmd
structure C where
 k : Int
 name : ByteArray
 key : ByteArray
 val : Val.V
 old : Val.V
 n : Int
 m : Int
structure E where
 c : Int
 e : Int
 r : Int
 cmd : C
def f0 (k : Int) : Bool := decide (4 ≤ k ∧ k ≤ 17)
def f1 (k : Int) : Bool := decide (6 ≤ k ∧ k ≤ 9)
def f2 (k : Int) : Bool := decide (k = 9)
def f3 (k : Int) : Bool := decide (k = 7 ∨ k = 9 ∨ k = 10 ∨ k = 15)
def f4 (k : Int) : Bool := decide (k = 4 ∨ k = 16)
def f5 (k : Int) : Bool := decide (k = 4)
def nil (v : Val.V) : Prop := v.k = 0 ∧ v.n = 0 ∧ v.f = 0 ∧ v.s.size = 0
instance (v : Val.V) : Decidable (nil v) := by unfold nil; infer_instance
def others (c : C) : Prop := (f0 c.k = true ∨ c.name.size = 0) ∧ (f1 c.k = true ∨ c.key.size = 0) ∧ (f2 c.k = true ∨ nil c.old) ∧ (f3 c.k = true ∨ nil c.val) ∧ (f4 c.k = true ∨ c.n = 0) ∧ (f5 c.k = true ∨ c.m = 0)
instance (c : C) : Decidable (others c) := by unfold others; infer_instance
def nums (c : C) : Prop :=
 if c.k = 16 then 0 ≤ c.n ∧ c.n ≤ 3 else if c.k ≠ 4 then True else
 if c.n = 2 then 1 ≤ c.m ∧ c.m ≤ 8 else if c.n = 4 then 1 ≤ c.m ∧ c.m ≤ 5 else 1 ≤ c.n ∧ c.n ≤ 5 ∧ c.m = 0
instance (c : C) : Decidable (nums c) := by unfold nums; infer_instance
def chk (c : C) : Int :=
 if c.k < 1 ∨ 18 < c.k ∨ ¬ others c ∨ (f0 c.k = true ∧ c.name.size = 0) then 1
 else if 16 < c.name.size ∨ 64 < c.key.size then 2
 else if Val.chk c.old ≠ 0 then Val.chk c.old
 else if Val.chk c.val ≠ 0 then Val.chk c.val
 else if (c.k = 7 ∨ c.k = 10) ∧ c.val.k = 0 then 1
 else if c.k = 15 ∧ c.val.k ≠ 2 then 7
 else if ¬ nums c then 1 else 0
def right (e : E) : Prop := 0 ≤ e.c ∧ e.c < 5 ∧ 1 ≤ e.e ∧ 0 ≤ e.r
instance (e : E) : Decidable (right e) := by unfold right; infer_instance
def fits (e : E) : Prop := right e ∧ chk e.cmd = 0 ∧ (e.r = 0 ↔ (e.cmd.k = 1 ∨ e.cmd.k = 18))
instance (e : E) : Decidable (fits e) := by unfold fits; infer_instance
def emp : ByteArray := ⟨#[]⟩
theorem flags_none {k : Int} (h : k < 4 ∨ 17 < k) : f0 k = false ∧ f1 k = false ∧ f2 k = false ∧ f3 k = false ∧ f4 k = false ∧ f5 k = false := by
 unfold f0 f1 f2 f3 f4 f5
 refine ⟨?_, ?_, ?_, ?_, ?_, ?_⟩ <;> simp <;> omega
theorem size_emp {s : ByteArray} (h : s.size = 0) : s = emp := Val.size_zero h
end Cmd
end Go.Proofs.YtpkodjllljnleaaGreat
namespace Go.Proofs.YtpkodjllljnleaaGreat
theorem nil_is (v : Val.V) : Cmd.nil v ↔ (v.k = 0 ∧ v.n = 0 ∧ v.f = 0 ∧ v.s.toList = []) := by
 unfold Cmd.nil
 constructor
 ·rintro ⟨h1, h2, h3, h4⟩
  rw [Cmd.size_emp h4]
  exact ⟨h1, h2, h3, by rw [ByteArray.toList_eq]; rfl⟩
 ·rintro ⟨h1, h2, h3, h4⟩
  refine ⟨h1, h2, h3, ?_⟩
  rw [ByteArray.toList_eq] at h4
  have := congrArg List.length h4
  simpa using this
end Go.Proofs.YtpkodjllljnleaaGreat
namespace Go.Proofs.YtpkodjllljnleaaGreat
namespace Sto
structure Ob where
 name : ByteArray
 kind : Int
 cap : Int
 prs : List Dct.Pr
 vals : List Val.V
 refs : List Rf
 round : Int
 mt : Mtr
 deriving DecidableEq
structure Rp where
 e : Int
 v : Val.V
 deriving DecidableEq
structure Ot where
 r : Rf
 p : Rp
 deriving DecidableEq
structure Oc where
 o : Ob
 p : Rp
 later : Bool
 outs : List Ot
structure Rs where
 l : List Ob
 p : Rp
 later : Bool
 outs : List Ot
def named (s : ByteArray) : Prop := ¬ s.size = 0 ∧ s.size ≤ 16
instance (s : ByteArray) : Decidable (named s) := by unfold named; infer_instance
def h0 (k : Int) : Bool := decide (k = 2 ∨ k = 4)
def h1 (k : Int) : Bool := decide (k = 1)
def h2 (k : Int) : Bool := decide (k = 2)
def h3 (k : Int) : Bool := decide (k = 3 ∨ k = 4)
def h4 (k : Int) : Bool := decide (k = 4)
def h5 (k : Int) : Bool := decide (k = 5)
def is (k : Int) : Bool := decide (1 ≤ k ∧ k ≤ 5)
def f0 (o : Ob) : Bool := !decide (o.cap = 0)
def f1 (o : Ob) : Bool := decide (0 < o.prs.length)
def f2 (o : Ob) : Bool := decide (0 < o.vals.length)
def f3 (o : Ob) : Bool := decide (0 < o.refs.length)
def f4 (o : Ob) : Bool := !decide (o.round = 0)
def f5 (o : Ob) : Bool := !decide (o.mt = Mt.zero)
def clean (o : Ob) : Bool := is o.kind && ((!f0 o || h0 o.kind) && (!f1 o || h1 o.kind) && (!f2 o || h2 o.kind) && (!f3 o || h3 o.kind) && (!f4 o || h4 o.kind) && (!f5 o || h5 o.kind))
def sound (o : Ob) : Bool := if o.kind = 1 then decide (Dct.Right o.prs) else if o.kind = 2 then decide (Que.Right o.cap o.vals) else if o.kind = 3 then decide (Lck.Right o.refs) else if o.kind = 4 then decide (Gt.Right o.cap o.refs) && decide (0 ≤ o.round) else if o.kind = 5 then decide (Mt.Ok o.mt) else false
def One (o : Ob) : Bool := decide (named o.name) && clean o && sound o
theorem sound_is {o : Ob} (h : sound o = true) : is o.kind = true := by
 unfold sound at h
 unfold is
 by_cases g1 : o.kind = 1
 ·rw [g1]; rfl
 by_cases g2 : o.kind = 2
 ·rw [g2]; rfl
 by_cases g3 : o.kind = 3
 ·rw [g3]; rfl
 by_cases g4 : o.kind = 4
 ·rw [g4]; rfl
 by_cases g5 : o.kind = 5
 ·rw [g5]; rfl
 rw [if_neg g1, if_neg g2, if_neg g3, if_neg g4, if_neg g5] at h
 cases h
def Up (l : List Ob) : Prop := l.Pairwise fun a b => Dct.lt a.name b.name = true
theorem up_of {l : List Ob} (h : ∀ i x y, l[i]? = some x → l[i + 1]? = some y → Dct.lt x.name y.name = true) : Up l := by
 induction l with
 | nil => exact List.Pairwise.nil
 | cons a r ih =>
  have hr := ih fun i x y hx hy => h (i + 1) x y (by simpa using hx) (by simpa using hy)
  refine List.Pairwise.cons (fun b hb => ?_) hr
  match r, hb, hr, h with
  | c :: r', hb, hr, h =>
   have h0 := h 0 a c rfl rfl
   rcases List.mem_cons.1 hb with rfl | hb
   ·exact h0
   ·exact Dct.lt_trans h0 ((List.pairwise_cons.1 hr).1 b hb)
def fnd : List Ob → ByteArray → Option Ob
 | [], _ => none
 | x :: r, k => if x.name = k then some x else fnd r k
def wo (l : List Ob) (k : ByteArray) : List Ob := l.filter fun p => !decide (p.name = k)
def idx : List Ob → ByteArray → Nat
 | [], _ => 0
 | x :: r, k => if Dct.lt x.name k = true then idx r k + 1 else 0
def fin (l : List Ob) (k : ByteArray) : Nat := match l[idx l k]? with
 | some x => if x.name = k then idx l k + 1 else idx l k
 | none => idx l k
theorem idx_le (l : List Ob) (k : ByteArray) : idx l k ≤ l.length := by
 induction l with
 | nil => exact Nat.le_refl _
 | cons x r ih => unfold idx; split <;> simp <;> omega
theorem idx_lt {l : List Ob} {k : ByteArray} {i : Nat} {x : Ob} (h : i < idx l k) (hx : l[i]? = some x) : Dct.lt x.name k = true := by
 induction l generalizing i with
 | nil => simp at hx
 | cons y r ih =>
  unfold idx at h
  split at h
  next hy =>
   match i, h, hx with
   | 0, _, hx => simp at hx; subst hx; exact hy
   | i + 1, h, hx => exact ih (i := i) (Nat.lt_of_succ_lt_succ h) (by simpa using hx)
  ·omega
theorem idx_at {l : List Ob} {k : ByteArray} {x : Ob} (hx : l[idx l k]? = some x) : Dct.lt x.name k = false := by
 induction l with
 | nil => simp at hx
 | cons y r ih =>
  unfold idx at hx
  split at hx
  ·exact ih (by simpa using hx)
  next hy => simp at hx; subst hx; simpa using hy
theorem fin_le (l : List Ob) (k : ByteArray) : idx l k ≤ fin l k ∧ fin l k ≤ l.length := by
 have h := idx_le l k
 unfold fin
 split
 next x hx =>
  have := (List.getElem?_eq_some_iff.1 hx).1
  split <;> omega
 next => omega
theorem fin_cons_lt {x : Ob} {r : List Ob} {k : ByteArray} (h : Dct.lt x.name k = true) : idx (x :: r) k = idx r k + 1 ∧ fin (x :: r) k = fin r k + 1 := by
 have e : idx (x :: r) k = idx r k + 1 := by conv => lhs; unfold idx; rw [if_pos h]
 refine ⟨e, ?_⟩
 unfold fin
 rw [e, List.getElem?_cons_succ]
 split <;> (try split) <;> rfl
theorem fin_cons_eq {x : Ob} {r : List Ob} : idx (x :: r) x.name = 0 ∧ fin (x :: r) x.name = 1 := by
 have e : idx (x :: r) x.name = 0 := by unfold idx; rw [if_neg (by rw [Dct.lt_irrefl]; simp)]
 refine ⟨e, ?_⟩
 unfold fin
 rw [e]
 simp
theorem fin_cons_gt {x : Ob} {r : List Ob} {k : ByteArray} (h : Dct.lt k x.name = true) : idx (x :: r) k = 0 ∧ fin (x :: r) k = 0 := by
 have e : idx (x :: r) k = 0 := by unfold idx; rw [if_neg (by rw [Dct.lt_asymm h]; simp)]
 refine ⟨e, ?_⟩
 unfold fin
 rw [e]
 have hne : ¬ x.name = k := fun e => Dct.lt_ne h e.symm
 simp [hne]
theorem wo_above {l : List Ob} {k : ByteArray} (h : ∀ x ∈ l, ¬ x.name = k) : wo l k = l := by
 unfold wo
 rw [List.filter_eq_self]
 intro x hx
 simp [h x hx]
theorem fnd_above {l : List Ob} {k : ByteArray} (h : ∀ x ∈ l, ¬ x.name = k) : fnd l k = none := by
 induction l with
 | nil => rfl
 | cons x r ih =>
  unfold fnd
  rw [if_neg (h x (List.mem_cons_self ..))]
  exact ih fun y hy => h y (List.mem_cons_of_mem _ hy)
theorem above {x : Ob} {r : List Ob} (h : Up (x :: r)) {k : ByteArray} (hk : x.name = k ∨ Dct.lt k x.name = true) : ∀ y ∈ r, Dct.lt k y.name = true := fun y hy => by
 have h1 := (List.pairwise_cons.1 h).1 y hy
 rcases hk with rfl | hk
 ·exact h1
 ·exact Dct.lt_trans hk h1
theorem idx_above {l : List Ob} {k : ByteArray} (h : ∀ y ∈ l, Dct.lt k y.name = true) : idx l k = 0 := by
 match l, h with
 | [], _ => rfl
 | x :: r, h => exact (fin_cons_gt (h x (List.mem_cons_self ..))).1
theorem wo_parts {l : List Ob} (h : Up l) (k : ByteArray) : l.take (idx l k) ++ l.drop (fin l k) = wo l k ∧ idx (wo l k) k = idx l k ∧ (fnd l k = if fin l k = idx l k then none else l[idx l k]?) ∧ fin l k ≤ idx l k + 1 := by
 induction l with
 | nil => exact ⟨rfl, rfl, rfl, Nat.le_succ 0⟩
 | cons x r ih =>
  obtain ⟨i1, i2, i3, i4⟩ := ih (List.pairwise_cons.1 h).2
  rcases Dct.lt_tri x.name k with hk | hk | hk
  ·obtain ⟨e1, e2⟩ := fin_cons_lt (r := r) hk
   have hne := Dct.lt_ne hk
   have ew : wo (x :: r) k = x :: wo r k := by unfold wo; rw [List.filter_cons_of_pos (by simp [hne])]
   refine ⟨?_, ?_, ?_, by omega⟩
   ·rw [e1, e2, ew, List.take_succ_cons, List.drop_succ_cons, lcA, i1]
   ·rw [ew, (fin_cons_lt hk).1, i2, e1]
   ·rw [e1, e2, List.getElem?_cons_succ]
    have ef : fnd (x :: r) k = fnd r k := by conv => lhs; unfold fnd; rw [if_neg hne]
    rw [ef, i3]
    by_cases hh : fin r k = idx r k
    ·rw [if_pos hh, if_pos (by omega)]
    ·rw [if_neg hh, if_neg (by omega)]
  ·subst hk
   obtain ⟨e1, e2⟩ := fin_cons_eq (x := x) (r := r)
   have hab := above h (.inl rfl)
   have hr : wo r x.name = r := wo_above fun y hy e => Dct.lt_ne (hab y hy) e.symm
   have ew : wo (x :: r) x.name = r := by unfold wo; rw [List.filter_cons_of_neg (by simp)]; exact hr
   refine ⟨?_, ?_, ?_, by omega⟩
   ·rw [e1, e2, ew]; rfl
   ·rw [ew, e1]; exact idx_above hab
   ·rw [e1, e2]; unfold fnd; simp
  ·obtain ⟨e1, e2⟩ := fin_cons_gt (r := r) hk
   have hab := above h (.inr hk)
   have hne : ∀ y ∈ x :: r, ¬ y.name = k := fun y hy e => by
    rcases List.mem_cons.1 hy with rfl | hy
    ·exact Dct.lt_ne hk e.symm
    ·exact Dct.lt_ne (hab y hy) e.symm
   rw [wo_above hne, fnd_above hne, e1, e2]
   exact ⟨rfl, rfl, by simp, Nat.le_succ 0⟩
theorem wo_mem {l : List Ob} {k : ByteArray} {x : Ob} : x ∈ wo l k ↔ x ∈ l ∧ ¬ x.name = k := by
 unfold wo; rw [List.mem_filter]; simp
structure Right (l : List Ob) : Prop where
 len : l.length ≤ 8
 ok : ∀ x ∈ l, One x = true
 up : Up l
instance (l : List Ob) : Decidable (Right l) := decidable_of_iff (l.length ≤ 8 ∧ (∀ x ∈ l, One x = true) ∧ l.Pairwise (fun (a b : Ob) => Dct.lt a.name b.name = true)) ⟨fun h => ⟨h.1, h.2.1, h.2.2⟩, fun h => ⟨h.len, h.ok, h.up⟩⟩
def Good (l : List Ob) (i : Nat) : Prop := ∀ x, l[i]? = some x → One x = true ∧ ∀ j y, i = j + 1 → l[j]? = some y → Dct.lt y.name x.name = true
theorem right_iff (l : List Ob) : Right l ↔ l.length ≤ 8 ∧ ∀ i, i < l.length → Good l i := by
 constructor
 ·intro h
  refine ⟨h.len, fun i hi x hx => ⟨h.ok x (List.mem_of_getElem? hx), fun j y hj hy => ?_⟩⟩
  subst hj
  obtain ⟨h1, e1⟩ := List.getElem?_eq_some_iff.1 hx
  obtain ⟨h2, e2⟩ := List.getElem?_eq_some_iff.1 hy
  have := (List.pairwise_iff_getElem.1 h.up) j (j + 1) h2 h1 (by omega)
  rw [e1, e2] at this
  exact this
 ·intro h
  refine ⟨h.1, fun x hx => ?_, up_of fun i x y hx hy => ?_⟩
  ·obtain ⟨i, hi, e⟩ := List.getElem_of_mem hx
   exact (h.2 i hi x (by rw [List.getElem?_eq_getElem hi, e])).1
  ·exact (h.2 (i + 1) (List.getElem?_eq_some_iff.1 hy).1 y hy).2 i x rfl hx
theorem right_nil : Right [] := ⟨by simp, fun x hx => by simp at hx, List.Pairwise.nil⟩
theorem right_told {l : List Ob} {n : Nat} (hl : l.length = n) (hn : n ≤ 8) : (∀ i, i < n → ¬ Good l i → decide (Right l) = false) ∧ ((∀ i, i < n → Good l i) → decide (Right l) = true) := by
 subst hl
 refine ⟨fun i hi h => decide_eq_false fun hr => h (((right_iff l).1 hr).2 i hi), fun h => decide_eq_true ((right_iff l).2 ⟨hn, h⟩)⟩
def put (l : List Ob) (k : ByteArray) (o : Ob) : List Ob := l.take (idx l k) ++ [o] ++ l.drop (fin l k)
def rz : Rp := ⟨0, ⟨0, 0, 0, ⟨#[]⟩⟩⟩
def err (e : Int) : Rp := ⟨e, ⟨0, 0, 0, ⟨#[]⟩⟩⟩
def num (n : Int) : Val.V := ⟨1, n, 0, ⟨#[]⟩⟩
def fits (k z : Int) : Bool := if k = 5 ∨ k = 17 then true else if k = 6 ∨ k = 7 ∨ k = 8 ∨ k = 9 then decide (z = 1) else if k = 10 ∨ k = 11 then decide (z = 2) else if k = 12 ∨ k = 13 then decide (z = 3) else if k = 14 then decide (z = 4) else if k = 15 ∨ k = 16 then decide (z = 5) else false
def size (o : Ob) : Int := if o.kind = 1 then (o.prs.length : Int) else if o.kind = 2 then (o.vals.length : Int) else if o.kind = 5 then o.mt.n else (o.refs.length : Int)
def held (y : Rf) (h : Bool) : List Ot := if h = true then [⟨y, rz⟩] else []
def take (o : Ob) (r : Rf) : Oc := ⟨{ o with refs := Lck.tkL o.refs r }, err (Lck.tkE o.refs r), decide (Lck.tkE o.refs r = 0) && !Lck.tkH o.refs r, []⟩
def free (o : Ob) (r : Rf) : Oc := ⟨{ o with refs := Lck.frL o.refs r }, err (Lck.frE o.refs r), false, held (Lck.frN o.refs r) (Lck.frS o.refs r)⟩
def thru (l : List Rf) (p : Rp) : List Ot := l.map fun x => ⟨x, p⟩
def wait (o : Ob) (r : Rf) : Oc :=
 if (Gt.wtA o.cap o.refs r).length = 0 then ⟨{ o with refs := Gt.wtL o.cap o.refs r }, err (Gt.wtE o.cap o.refs r), decide (Gt.wtE o.cap o.refs r = 0), []⟩
 else if o.round = 9223372036854775807 then ⟨o, err 6, false, []⟩
 else ⟨{ o with refs := Gt.wtL o.cap o.refs r, round := o.round + 1 }, ⟨0, num o.round⟩, false, thru ((Gt.wtA o.cap o.refs r).take ((Gt.wtA o.cap o.refs r).length - 1)) ⟨0, num o.round⟩⟩
def act (o : Ob) (r : Rf) (c : Cmd.C) : Oc :=
 if c.k = 12 then take o r else if c.k = 13 then free o r else if c.k = 14 then wait o r
 else if c.k = 6 then ⟨o, ⟨Dct.gtE o.prs c.key, Dct.gtV o.prs c.key⟩, false, []⟩
 else if c.k = 7 then ⟨{ o with prs := Dct.ptL o.prs c.key c.val }, err (Dct.ptE o.prs c.key c.val), false, []⟩
 else if c.k = 8 then ⟨{ o with prs := Dct.ctL o.prs c.key }, ⟨Dct.gtE o.prs c.key, Dct.gtV o.prs c.key⟩, false, []⟩
 else if c.k = 9 then ⟨{ o with prs := Dct.swL o.prs c.key c.old c.val }, ⟨Dct.swE o.prs c.key c.old c.val, Dct.swV o.prs c.key c.old⟩, false, []⟩
 else if c.k = 10 then ⟨{ o with vals := Que.psL o.cap o.vals c.val }, err (Que.psE o.cap o.vals c.val), false, []⟩
 else if c.k = 11 then ⟨{ o with vals := Que.ppL o.cap o.vals }, ⟨Que.ppE o.cap o.vals, Que.ppV o.cap o.vals⟩, false, []⟩
 else if c.k = 15 then ⟨{ o with mt := Mt.ad o.mt c.val.f }, err (Mt.adE o.mt), false, []⟩
 else if c.k = 16 then ⟨o, ⟨(Mt.rd o.mt c.n).e, ⟨(Mt.rd o.mt c.n).k, (Mt.rd o.mt c.n).n, (Mt.rd o.mt c.n).f, ⟨#[]⟩⟩⟩, false, []⟩
 else if c.k = 17 then ⟨o, ⟨0, num (size o)⟩, false, []⟩
 else ⟨o, rz, false, []⟩
def chkN (l : List Ob) (k : ByteArray) : Int := if (fnd l k).isSome = true then 8 else if l.length = 8 then 6 else 0
def chkO (x : Option Ob) (k : Int) : Int := match x with
 | none => 5
 | some o => if fits k o.kind = false then 7 else if k = 5 ∧ 0 < o.refs.length then 13 else 0
def chk (l : List Ob) (r : Rf) (c : Cmd.C) : Int :=
 if ¬ (Right l ∧ Lck.ok r ∧ 4 ≤ c.k ∧ c.k ≤ 17) then 1 else if Cmd.chk c ≠ 0 then Cmd.chk c
 else if c.k = 4 then chkN l c.name else chkO (fnd l c.name) c.k
def fresh (c : Cmd.C) : Ob := ⟨c.name, c.n, c.m, [], [], [], 0, Mt.zero⟩
def doo (l : List Ob) (r : Rf) (c : Cmd.C) : Rs :=
 if chk l r c ≠ 0 then ⟨l, err (chk l r c), false, []⟩
 else if c.k = 4 then ⟨put l c.name (fresh c), rz, false, []⟩
 else if c.k = 5 then ⟨wo l c.name, rz, false, []⟩
 else match fnd l c.name with
  | none => ⟨l, rz, false, []⟩
  | some o => ⟨put l c.name (act o r c).o, (act o r c).p, (act o r c).later, (act o r c).outs⟩
def dr (o : Ob) (r : Rf) : Ob := if o.kind = 3 then { o with refs := Lck.drL o.refs r } else if o.kind = 4 then { o with refs := Gt.drL o.cap o.refs r } else o
def drO (o : Ob) (r : Rf) : List Ot := if o.kind = 3 then held (Lck.drN o.refs r) (Lck.drS o.refs r) else []
def dropL (l : List Ob) (r : Rf) : List Ob := if Right l then l.map fun o => dr o r else l
def dropO (l : List Ob) (r : Rf) : List Ot := if Right l then l.flatMap fun o => drO o r else []
end Sto
end Go.Proofs.YtpkodjllljnleaaGreat
namespace Go.Proofs.YtpkodjllljnleaaGreat
namespace Sto
theorem own_is {l : List Ob} (h : Up l) (k : ByteArray) : ((l.drop (idx l k)).take (fin l k - idx l k))[0]? = fnd l k := by
 obtain ⟨_, _, h3, h4⟩ := wo_parts h k
 obtain ⟨h5, h6⟩ := fin_le l k
 rw [h3]
 by_cases hq : fin l k = idx l k
 ·rw [if_pos hq, hq, Nat.sub_self]; rfl
 ·rw [if_neg hq, show fin l k - idx l k = 1 from by omega, List.getElem?_take_of_lt (by decide), List.getElem?_drop]
  rfl
theorem own_some {l : List Ob} (h : Up l) (k : ByteArray) : (fnd l k).isSome = decide (0 < fin l k - idx l k) := by
 obtain ⟨_, _, h3, h4⟩ := wo_parts h k
 obtain ⟨h5, h6⟩ := fin_le l k
 rw [h3]
 by_cases hq : fin l k = idx l k
 ·rw [if_pos hq, hq, Nat.sub_self]; rfl
 ·rw [if_neg hq, List.getElem?_eq_getElem (by omega)]
  have : 0 < fin l k - idx l k := by omega
  simp [this]
theorem chk_arg {l : List Ob} {r : Rf} {c : Cmd.C} (h : ¬ (Right l ∧ Lck.ok r ∧ 4 ≤ c.k ∧ c.k ≤ 17)) : chk l r c = 1 := if_pos h
theorem chk_cmd {l : List Ob} {r : Rf} {c : Cmd.C} (h : Right l ∧ Lck.ok r ∧ 4 ≤ c.k ∧ c.k ≤ 17) (h2 : Cmd.chk c ≠ 0) : chk l r c = Cmd.chk c := by unfold chk; rw [if_neg (fun g => g h), if_pos h2]
theorem chk_new {l : List Ob} {r : Rf} {c : Cmd.C} (h : Right l ∧ Lck.ok r ∧ 4 ≤ c.k ∧ c.k ≤ 17) (h2 : Cmd.chk c = 0) (h3 : c.k = 4) : chk l r c = chkN l c.name := by unfold chk; rw [if_neg (fun g => g h), if_neg (fun g => g h2), if_pos h3]
theorem chk_own {l : List Ob} {r : Rf} {c : Cmd.C} (h : Right l ∧ Lck.ok r ∧ 4 ≤ c.k ∧ c.k ≤ 17) (h2 : Cmd.chk c = 0) (h3 : ¬ c.k = 4) : chk l r c = chkO (fnd l c.name) c.k := by unfold chk; rw [if_neg (fun g => g h), if_neg (fun g => g h2), if_neg h3]
theorem chk_ok {l : List Ob} {r : Rf} {c : Cmd.C} (h : chk l r c = 0) : (Right l ∧ Lck.ok r ∧ 4 ≤ c.k ∧ c.k ≤ 17) ∧ Cmd.chk c = 0 ∧ (c.k = 4 → (fnd l c.name).isSome = false ∧ ¬ l.length = 8) ∧ (¬ c.k = 4 → ∃ o, fnd l c.name = some o ∧ fits c.k o.kind = true ∧ ¬ (c.k = 5 ∧ 0 < o.refs.length)) := by
 by_cases g : Right l ∧ Lck.ok r ∧ 4 ≤ c.k ∧ c.k ≤ 17
 case neg => rw [chk_arg g] at h; cases h
 by_cases g2 : Cmd.chk c = 0
 case neg => rw [chk_cmd g g2] at h; exact absurd h g2
 refine ⟨g, g2, fun g3 => ?_, fun g3 => ?_⟩
 ·rw [chk_new g g2 g3] at h
  unfold chkN at h
  split at h
  ·cases h
  ·split at h
   ·cases h
   ·rename_i a b; exact ⟨Bool.eq_false_iff.2 a, b⟩
 ·rw [chk_own g g2 g3] at h
  cases hf : fnd l c.name with
  | none => rw [hf] at h; cases h
  | some o =>
   rw [hf] at h
   unfold chkO at h
   simp only at h
   split at h
   ·cases h
   ·split at h
    ·cases h
    ·rename_i a b; exact ⟨o, rfl, by cases hx : fits c.k o.kind <;> simp_all, b⟩
end Sto
end Go.Proofs.YtpkodjllljnleaaGreat
namespace Go.Proofs.YtpkodjllljnleaaGreat
namespace Sto
theorem doo_err {l : List Ob} {r : Rf} {c : Cmd.C} (h : chk l r c ≠ 0) : doo l r c = ⟨l, err (chk l r c), false, []⟩ := if_pos h
theorem doo_new {l : List Ob} {r : Rf} {c : Cmd.C} (h : chk l r c = 0) (h4 : c.k = 4) : doo l r c = ⟨put l c.name (fresh c), rz, false, []⟩ := by unfold doo; rw [if_neg (fun g => g h), if_pos h4]
theorem doo_cut {l : List Ob} {r : Rf} {c : Cmd.C} (h : chk l r c = 0) (h5 : c.k = 5) : doo l r c = ⟨wo l c.name, rz, false, []⟩ := by unfold doo; rw [if_neg (fun g => g h), if_neg (by omega), if_pos h5]
theorem doo_act {l : List Ob} {r : Rf} {c : Cmd.C} (h : chk l r c = 0) (h4 : ¬ c.k = 4) (h5 : ¬ c.k = 5) {o : Ob} (ho : fnd l c.name = some o) : doo l r c = ⟨put l c.name (act o r c).o, (act o r c).p, (act o r c).later, (act o r c).outs⟩ := by
 unfold doo
 rw [if_neg (fun g => g h), if_neg h4, if_neg h5, ho]
theorem fnd_is {l : List Ob} {k : ByteArray} {o : Ob} (h : fnd l k = some o) : o ∈ l ∧ o.name = k := by
 induction l with
 | nil => cases h
 | cons x r ih =>
  unfold fnd at h
  split at h
  next hx => injection h with h; subst h; exact ⟨List.mem_cons_self .., hx⟩
  next => exact ⟨List.mem_cons_of_mem _ (ih h).1, (ih h).2⟩
theorem one_parts {o : Ob} (h : One o = true) : named o.name ∧ clean o = true ∧ sound o = true := by
 unfold One at h
 simp only [Bool.and_eq_true, decide_eq_true_eq] at h
 exact ⟨h.1.1, h.1.2, h.2⟩
theorem round_ok {o : Ob} (h : One o = true) (hk : fits 14 o.kind = true) : 0 ≤ o.round := by
 have h3 := (one_parts h).2.2
 have h4 : o.kind = 4 := by
  unfold fits at hk
  simpa using hk
 unfold sound at h3
 rw [h4] at h3
 simp at h3
 exact h3.2
theorem act_kinds {k : Int} (h : 4 ≤ k ∧ k ≤ 17) (h4 : ¬ k = 4) (h5 : ¬ k = 5) : k = 6 ∨ k = 7 ∨ k = 8 ∨ k = 9 ∨ k = 10 ∨ k = 11 ∨ k = 12 ∨ k = 13 ∨ k = 14 ∨ k = 15 ∨ k = 16 ∨ k = 17 := by omega
end Sto
end Go.Proofs.YtpkodjllljnleaaGreat
set_option maxRecDepth 100000
namespace Go.Proofs.YtpkodjllljnleaaGreat
namespace Sto
def ra : Rf := ⟨0, 1, 1⟩
def rb : Rf := ⟨1, 1, 1⟩
def nm : ByteArray := ⟨#[108]⟩
def vz : Val.V := ⟨0, 0, 0, ⟨#[]⟩⟩
def cm : Cmd.C := ⟨4, nm, ⟨#[]⟩, vz, vz, 3, 0⟩
def ck : Cmd.C := ⟨12, nm, ⟨#[]⟩, vz, vz, 0, 0⟩
def cf : Cmd.C := ⟨13, nm, ⟨#[]⟩, vz, vz, 0, 0⟩
def lk (r : List Rf) : Ob := ⟨nm, 3, 0, [], [], r, 0, Mt.zero⟩
theorem aw1 : doo [] ra cm = ⟨[lk []], rz, false, []⟩ := by rfl
theorem put_lk (r : List Rf) (o : Ob) : put [lk r] nm o = [o] := by
 obtain ⟨h1, h2⟩ := fin_cons_eq (x := lk r) (r := [])
 unfold put
 rw [show nm = (lk r).name from rfl, h1, h2]
 rfl
theorem fnd_lk (r : List Rf) : fnd [lk r] nm = some (lk r) := by
 unfold fnd
 exact if_pos rfl
theorem chk_lk {r : List Rf} (h : Lck.Right r) (x : Rf) (hx : Lck.ok x) (c : Cmd.C) (hc : c.k = 12 ∨ c.k = 13) (hn : c.name = nm) (hcc : Cmd.chk c = 0) : chk [lk r] x c = 0 := by
 have hR : Right [lk r] := ⟨by simp, fun y hy => by
  rw [List.mem_singleton] at hy
  subst hy
  have h1 : decide (named (lk r).name) = true := by show decide (named nm) = true; decide
  have h2 : clean (lk r) = true := by unfold clean f3; cases r <;> rfl
  have h3 : sound (lk r) = true := by
   show decide (Lck.Right r) = true
   exact decide_eq_true h
  unfold One
  rw [h1, h2, h3]; rfl, List.pairwise_singleton _ _⟩
 rw [chk_own ⟨hR, hx, by omega, by omega⟩ hcc (by omega), hn, fnd_lk]
 unfold chkO
 have hf : fits c.k (lk r).kind = true := by rcases hc with h | h <;> rw [h] <;> rfl
 simp only [hf]
 rw [if_neg (by simp), if_neg (by omega)]
theorem rt0 : Lck.Right [] := Lck.right_nil
theorem rt1 : Lck.Right [ra] := by decide
theorem rt2 : Lck.Right [ra, rb] := by decide
theorem aw2 : doo [lk []] ra ck = ⟨[lk [ra]], rz, false, []⟩ := by
 have h := chk_lk rt0 ra (by decide) ck (.inl rfl) rfl rfl
 rw [doo_act h (by decide) (by decide) (fnd_lk [])]
 show Rs.mk (put [lk []] nm _) _ _ _ = _
 rw [put_lk]
 rfl
theorem aw3 : doo [lk [ra]] rb ck = ⟨[lk [ra, rb]], rz, true, []⟩ := by
 have h := chk_lk rt1 rb (by decide) ck (.inl rfl) rfl rfl
 rw [doo_act h (by decide) (by decide) (fnd_lk [ra])]
 show Rs.mk (put [lk [ra]] nm _) _ _ _ = _
 rw [put_lk]
 rfl
theorem aw4 : doo [lk [ra, rb]] ra cf = ⟨[lk [rb]], rz, false, [⟨rb, rz⟩]⟩ := by
 have h := chk_lk rt2 ra (by decide) cf (.inr rfl) rfl rfl
 rw [doo_act h (by decide) (by decide) (fnd_lk [ra, rb])]
 show Rs.mk (put [lk [ra, rb]] nm _) _ _ _ = _
 rw [put_lk]
 rfl
end Sto
end Go.Proofs.YtpkodjllljnleaaGreat
namespace Go.Proofs.YtpkodjllljnleaaGreat
namespace Sto
def vn : Val.V := ⟨0, 0, 0, ⟨#[]⟩⟩
end Sto
end Go.Proofs.YtpkodjllljnleaaGreat
