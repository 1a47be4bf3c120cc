/- The plain arithmetic of floats handed about as their 64 bits: the one NaN, the rank that orders them, the sum as IEEE 754 has it, the float nearest to a whole number. No condition but those named. -/
import Derived.Test.YtpkodjllljnleaaGreatTk
import Derived.Laws.BitsAllLaws
import Ieee.Arith
import Derived.Lib.Bytealg
import GoSem.Op.String
import Derived.Lib.Hide
set_option linter.unusedSimpArgs false
set_option linter.unusedVariables false
namespace Go.Proofs.YtpkodjllljnleaaGreat.Num
def sgn : Nat := 9223372036854775808
def inf : Nat := 9218868437227405312
def nan : Nat := 9221120237041090560
def M (b : Nat) : Nat := if inf < b % sgn then nan else b
def rank (b : Nat) : Nat := if M b < sgn then M b + sgn else 18446744073709551615 - M b
theorem M_lt {b : Nat} (h : b < 18446744073709551616) : M b < 18446744073709551616 := by unfold M nan; split <;> omega
theorem M_nan {b : Nat} (h : inf < b % sgn) : M b = nan := if_pos h
theorem M_not {b : Nat} (h : ¬ inf < b % sgn) : M b = b := if_neg h
theorem M_M (b : Nat) : M (M b) = M b := by
 by_cases h : inf < b % sgn
 ·rw [M_nan h]; rfl
 ·rw [M_not h, M_not h]
theorem rank_inj {a b : Nat} (ha : a < 18446744073709551616) (hb : b < 18446744073709551616) (h : rank a = rank b) : M a = M b := by
 have h1 := M_lt ha
 have h2 := M_lt hb
 unfold rank sgn at h
 split at h <;> split at h <;> omega
def cmp (a b : Nat) : Int := if rank a < rank b then -1 else if rank b < rank a then 1 else 0
theorem cmp_turn (a b : Nat) : cmp a b = -cmp b a := by
 unfold cmp; split <;> split <;> (try split) <;> (try split) <;> omega
theorem cmp_le {a b : Nat} : cmp a b ≤ 0 ↔ rank a ≤ rank b := by
 unfold cmp; split
 ·constructor <;> intro <;> omega
 ·split
  ·constructor <;> intro <;> omega
  ·constructor <;> intro <;> omega
/- The bits, as the code asks them. -/
theorem cut_sign (b : Nat) (h : b < 18446744073709551616) : bits .andNot .u64 (b : Int) 9223372036854775808 = ((b % sgn : Nat) : Int) := by
 have h1 := u64_andNot_nat b 9223372036854775808 h (by decide)
 have h2 : b &&& (18446744073709551615 - 9223372036854775808) = b % sgn := Nat.and_two_pow_sub_one_eq_mod b 63
 rw [h2] at h1
 exact h1
theorem and_sign (b : Nat) (h : b < 18446744073709551616) : bits .and .u64 (b : Int) 9223372036854775808 = ((b / sgn % 2 * sgn : Nat) : Int) := by
 have h1 := u64_and_nat b 9223372036854775808 h (by decide)
 have h2 : b &&& 9223372036854775808 = b / sgn % 2 * sgn := nat_bit 63 b
 rw [h2] at h1
 exact h1
theorem or_sign (b : Nat) (h : b < sgn) : bits .or .u64 (b : Int) 9223372036854775808 = ((b + sgn : Nat) : Int) := by
 have h1 := u64_or_nat b 9223372036854775808 (by unfold sgn at h; omega) (by decide)
 have h2 : b ||| 9223372036854775808 = b + sgn := by
  rw [Nat.or_comm, nat_join 63 9223372036854775808 b (by decide) h]; unfold sgn; omega
 rw [h2] at h1
 exact h1
theorem turn_all (b : Nat) (h : b < 18446744073709551616) : bits .xor .u64 18446744073709551615 (b : Int) = ((18446744073709551615 - b : Nat) : Int) := by
 have h1 := u64_xor_nat 18446744073709551615 b (by decide) h
 have h3 := congrArg BitVec.toNat (BitVec.allOnes_xor (x := BitVec.ofNat 64 b))
 rw [BitVec.toNat_xor, BitVec.toNat_not, BitVec.toNat_ofNat, Nat.mod_eq_of_lt (by omega), BitVec.toNat_allOnes] at h3
 have h4 : 18446744073709551615 ^^^ b = 18446744073709551615 - b := h3
 rw [h4] at h1
 exact h1
theorem and_frac (b : Nat) (h : b < 18446744073709551616) : bits .and .u64 (b : Int) 4503599627370495 = ((b % 4503599627370496 : Nat) : Int) := by
 have h1 := u64_and_nat b 4503599627370495 h (by decide)
 have h2 : b &&& 4503599627370495 = b % 4503599627370496 := Nat.and_two_pow_sub_one_eq_mod b 52
 rw [h2] at h1
 exact h1
theorem and_exp (b : Nat) (h : b < 18446744073709551616) : bits .and .u64 (b : Int) 9218868437227405312 = ((b / 4503599627370496 % 2048 * 4503599627370496 : Nat) : Int) := by
 have h1 := u64_and_nat b 9218868437227405312 h (by decide)
 have h2 : b &&& 9218868437227405312 = b / 4503599627370496 % 2048 * 4503599627370496 := by
  have e1 : b / 4503599627370496 % 2048 * 4503599627370496 = ((b >>> 52) % 2 ^ 11) <<< 52 := by
   rw [Nat.shiftLeft_eq, Nat.shiftRight_eq_div_pow]
  have e2 : 9218868437227405312 = (2 ^ 11 - 1) <<< 52 := by decide
  rw [e1, e2]
  apply Nat.eq_of_testBit_eq
  intro j
  rw [Nat.testBit_and, Nat.testBit_shiftLeft, Nat.testBit_shiftLeft, Nat.testBit_mod_two_pow, Nat.testBit_shiftRight, Nat.testBit_two_pow_sub_one]
  by_cases hj : 52 ≤ j
  ·have e3 : 52 + (j - 52) = j := by omega
   rw [e3]
   simp only [ge_iff_le, hj, decide_true, Bool.true_and]
   exact Bool.and_comm _ _
  ·simp [hj]
 rw [h2] at h1
 exact h1
theorem none_iff (b : Nat) : (b / 4503599627370496 % 2048 * 4503599627370496 = 9218868437227405312 ∧ b % 4503599627370496 ≠ 0) ↔ inf < b % sgn := by
 unfold inf sgn; omega
/- Floats. -/
open Ieee
theorem D_binade : double.binade = 4503599627370496 := by decide +kernel
theorem D_inf : double.infRung = inf := by decide +kernel
theorem D_sgn : double.signWeight = sgn := by decide +kernel
theorem D_least : double.leastPlace = -1074 := by decide +kernel
def rd (neg : Bool) (rung : Nat) : Datum :=
 if rung < 4503599627370496 then .number neg rung (-1074)
 else if rung < inf then .number neg (4503599627370496 + rung % 4503599627370496) (-1074 + (rung / 4503599627370496 - 1 : Nat))
 else if rung = inf then .infinity neg
 else .nan neg (rung - inf)
def isNeg (b : Nat) : Bool := b / sgn % 2 == 1
theorem read_eq (b : Nat) : double.read b = rd (isNeg b) (b % sgn) := by
 unfold Format.read rd isNeg
 rw [D_binade, D_inf, D_sgn, D_least]
theorem rd_nan {b : Nat} (h : inf < b % sgn) : ∃ s t, double.read b = .nan s t := by
 rw [read_eq]; unfold rd
 rw [if_neg (by unfold inf at h; omega), if_neg (by omega), if_neg (by omega)]
 exact ⟨_, _, rfl⟩
theorem rd_inf {b : Nat} (h : b % sgn = inf) : double.read b = .infinity (isNeg b) := by
 rw [read_eq]; unfold rd
 rw [if_neg (by rw [h]; decide), if_neg (by omega), if_pos h]
theorem nearest_zero (s : Bool) (p : Int) : double.nearest s 0 p = double.word s 0 := by unfold Format.nearest; rw [if_pos rfl]
theorem log2_of {n k : Nat} (h1 : 2 ^ k ≤ n) (h2 : n < 2 ^ (k + 1)) : n.log2 = k := by
 have hn : n ≠ 0 := by have := Nat.two_pow_pos k; omega
 exact (Nat.log2_eq_iff hn).2 ⟨h1, h2⟩
theorem nearest_norm (s : Bool) (m e : Nat) (h1 : 4503599627370496 ≤ m) (h2 : m < 9007199254740992) :
  double.nearest s (m <<< e) (-1074) = double.word s (min (e * 4503599627370496 + m) inf) := by
 have hp := Nat.two_pow_pos e
 have hlog : (m <<< e).log2 = 52 + e := by
  refine log2_of ?_ ?_
  ·rw [Nat.shiftLeft_eq, Nat.pow_add]; exact Nat.mul_le_mul_right _ h1
  ·rw [Nat.shiftLeft_eq, show 52 + e + 1 = 53 + e from by omega, Nat.pow_add]; exact Nat.mul_lt_mul_of_pos_right h2 hp
 have hne : ¬ m <<< e = 0 := by
  rw [Nat.shiftLeft_eq]
  intro h
  rcases Nat.mul_eq_zero.1 h with h | h <;> omega
 unfold Format.nearest
 rw [if_neg hne, hlog, D_least, D_inf, D_binade]
 have hf : double.fractionBits = 52 := rfl
 rw [hf]
 have hmax : max ((-1074 : Int) + ((52 + e : Nat) : Int) - ((52 : Nat) : Int)) (-1074) = -1074 + e := by omega
 simp only [hmax]
 have a1 : ((-1074 : Int) - (-1074 + (e : Int))).toNat = 0 := by omega
 have a2 : ((-1074 + (e : Int)) - (-1074)).toNat = e := by omega
 rw [a1, a2]
 have hcut : Toward.even.cut s (m <<< e <<< 0) e = m := by
  unfold Toward.cut
  have g : (1 <<< min e ((m <<< e <<< 0).log2 + 2)) = 2 ^ e := by
   rw [Nat.shiftLeft_zero, hlog, Nat.min_eq_left (by omega), Nat.shiftLeft_eq, Nat.one_mul]
  simp only [g]
  rw [Nat.shiftLeft_zero, Nat.shiftLeft_eq, Nat.mul_div_cancel _ hp, Nat.mul_mod_left]
  have c1 : decide (2 ^ e < 2 * 0) = false := by simp
  have c2 : (2 ^ e == 2 * 0) = false := by rw [beq_eq_false_iff_ne]; omega
  rw [c1, c2]; rfl
 rw [hcut]
theorem nearest_sub (s : Bool) (m : Nat) (h0 : m ≠ 0) (h2 : m < 4503599627370496) :
  double.nearest s m (-1074) = double.word s m := by
 have hlog : m.log2 < 52 := (Nat.log2_lt h0).2 h2
 unfold Format.nearest
 rw [if_neg h0, D_least, D_inf, D_binade]
 have hf : double.fractionBits = 52 := rfl
 rw [hf]
 have hmax : max ((-1074 : Int) + (m.log2 : Int) - ((52 : Nat) : Int)) (-1074) = -1074 := by omega
 simp only [hmax]
 have a1 : ((-1074 : Int) - (-1074)).toNat = 0 := by decide
 rw [a1]
 have hcut : Toward.even.cut s (m <<< 0) 0 = m := by
  unfold Toward.cut
  have g : (1 <<< min 0 ((m <<< 0).log2 + 2)) = 1 := by rw [Nat.zero_min]; rfl
  simp only [g]
  rw [Nat.shiftLeft_zero, Nat.div_one, Nat.mod_one]
  rfl
 rw [hcut, Nat.zero_mul, Nat.zero_add, Nat.min_eq_left (by unfold inf; omega)]
theorem rd_fin {rung : Nat} (h : rung < inf) : ∃ m i, -1074 ≤ i ∧ (∀ s, rd s rung = .number s m i) ∧ ∀ s, double.nearest s (m <<< (i - (-1074)).toNat) (-1074) = double.word s rung := by
 by_cases hs : rung < 4503599627370496
 ·refine ⟨rung, -1074, by omega, fun s => by unfold rd; rw [if_pos hs], fun s => ?_⟩
  have a1 : ((-1074 : Int) - (-1074)).toNat = 0 := by decide
  rw [a1, Nat.shiftLeft_zero]
  by_cases h0 : rung = 0
  ·subst h0; exact nearest_zero s _
  ·exact nearest_sub s rung h0 hs
 ·refine ⟨4503599627370496 + rung % 4503599627370496, -1074 + (rung / 4503599627370496 - 1 : Nat), by omega, fun s => by unfold rd; rw [if_neg hs, if_pos h], fun s => ?_⟩
  have a1 : ((-1074 + ((rung / 4503599627370496 - 1 : Nat) : Int)) - (-1074)).toNat = rung / 4503599627370496 - 1 := by omega
  rw [a1, nearest_norm s _ _ (by omega) (by omega)]
  congr 1
  rw [Nat.min_eq_left (by unfold inf at *; omega)]
  omega
theorem word_eq (s : Bool) (r : Nat) : double.word s r = if s then sgn + r else r := by unfold Format.word; rw [D_sgn]
theorem word_back {b : Nat} (h : b < 18446744073709551616) : double.word (isNeg b) (b % sgn) = b := by
 rw [word_eq]; unfold isNeg sgn
 split <;> rename_i hb <;> simp only [beq_iff_eq] at hb <;> omega
def S (u v : Nat) : Nat := match double.add u v with
 | some r => M r
 | none => nan
def IsSum (u v r : Nat) : Prop := double.add u v = some r ∨ (double.add u v = none ∧ inf < r % sgn)
theorem IsSum.eq {u v r : Nat} (h : IsSum u v r) : M r = S u v := by
 unfold S
 rcases h with h | ⟨h, h2⟩
 ·rw [h]
 ·rw [h, M_nan h2]
theorem M_mod (b : Nat) : (inf < M b % sgn) ↔ inf < b % sgn := by
 by_cases h : inf < b % sgn
 ·rw [M_nan h]; exact ⟨fun _ => h, fun _ => by decide⟩
 ·rw [M_not h]
theorem add_nan_l {u v : Nat} (h : inf < u % sgn) : double.add u v = none := by
 obtain ⟨s, t, h1⟩ := rd_nan h
 unfold Format.add; rw [h1]; rfl
theorem add_nan_r {u v : Nat} (h : inf < v % sgn) : double.add u v = none := by
 obtain ⟨s, t, h1⟩ := rd_nan h
 unfold Format.add; rw [h1]
 cases double.read u <;> rfl
theorem S_M (a b : Nat) : S (M a) (M b) = S a b := by
 by_cases ha : inf < a % sgn
 ·unfold S; rw [add_nan_l ha, add_nan_l ((M_mod a).2 ha)]
 ·by_cases hb : inf < b % sgn
  ·unfold S; rw [add_nan_r hb, add_nan_r ((M_mod b).2 hb)]
  ·rw [M_not ha, M_not hb]
theorem sum_comm (x y : Datum) : x.sum y = y.sum x := by
 cases x <;> cases y <;> try rfl
 ·rename_i s m i t n j
  unfold Datum.sum
  have e1 : min i j = min j i := Int.min_comm _ _
  simp only [e1]
  have e2 : signed s m (i - min j i).toNat + signed t n (j - min j i).toNat = signed t n (j - min j i).toNat + signed s m (i - min j i).toNat := Int.add_comm _ _
  simp only [e2, Bool.and_comm s t]
 ·rename_i s t
  show (if s = t then some (Datum.infinity s) else none) = (if t = s then some (Datum.infinity t) else none)
  by_cases h : s = t
  ·subst h; rfl
  ·rw [if_neg h, if_neg (fun e => h e.symm)]
theorem S_comm (a b : Nat) : S a b = S b a := by unfold S Format.add; rw [sum_comm]
theorem S_nan (a : Nat) : S a nan = nan := by unfold S; rw [add_nan_r (by decide)]
theorem write_inf (s : Bool) : double.write (.infinity s) = double.word s inf := by show double.word s double.infRung = _; rw [D_inf]
theorem read_fin {b : Nat} (h : b % sgn < inf) : ∃ m i, -1074 ≤ i ∧ double.read b = .number (isNeg b) m i ∧ (∀ c, c % sgn = b % sgn → double.read c = .number (isNeg c) m i) ∧ ∀ s, double.nearest s (m <<< (i - (-1074)).toNat) (-1074) = double.word s (b % sgn) := by
 obtain ⟨m, i, hi, hr, hn⟩ := rd_fin h
 exact ⟨m, i, hi, by rw [read_eq, hr], fun c hc => by rw [read_eq, hc, hr], hn⟩
theorem inf_add {a b : Nat} (h : a < 18446744073709551616) (hi : a % sgn = inf) (hb : b % sgn < inf) : S a b = a := by
 have h1 : double.add a b = some a := by
  obtain ⟨m, i, -, hr, -⟩ := read_fin hb
  unfold Format.add; rw [rd_inf hi, hr]
  show Option.map double.write (some (Datum.infinity (isNeg a))) = _
  rw [Option.map_some, write_inf, ← hi, word_back h]
 unfold S; rw [h1]
 exact M_not (by omega)
theorem read_neg_zero : double.read sgn = .number true 0 (-1074) := by decide +kernel
theorem fin_zero {a : Nat} (h : a < 18446744073709551616) (ha : a % sgn < inf) : S a sgn = a := by
 have h1 : double.add a sgn = some a := by
  obtain ⟨m, i, hi, hr, -, hn⟩ := read_fin ha
  have hm : min i (-1074) = -1074 := by omega
  unfold Format.add; rw [hr, read_neg_zero]
  obtain ⟨V, hV⟩ : ∃ V, V = m <<< (i - (-1074)).toNat := ⟨_, rfl⟩
  have ht : signed (isNeg a) m (i - min i (-1074)).toNat + signed true 0 ((-1074) - min i (-1074)).toNat = if isNeg a then -(V : Int) else (V : Int) := by
   unfold signed
   rw [hm, ← hV]
   cases isNeg a <;> simp
  show Option.map double.write (some (.number (if signed (isNeg a) m (i - min i (-1074)).toNat + signed true 0 ((-1074) - min i (-1074)).toNat = 0 then isNeg a && true else decide (signed (isNeg a) m (i - min i (-1074)).toNat + signed true 0 ((-1074) - min i (-1074)).toNat < 0)) (signed (isNeg a) m (i - min i (-1074)).toNat + signed true 0 ((-1074) - min i (-1074)).toNat).natAbs (min i (-1074)))) = _
  rw [ht, hm, Option.map_some]
  show some (double.nearest _ _ _) = _
  have hs : (if (if isNeg a then -(V : Int) else (V : Int)) = 0 then isNeg a && true else decide ((if isNeg a then -(V : Int) else (V : Int)) < 0)) = isNeg a := by
   cases isNeg a
   ·simp
   ·by_cases hz : V = 0
    ·simp [hz]
    ·simp only [if_true]; rw [if_neg (by omega)]; exact decide_eq_true (by omega)
  have ha2 : (if isNeg a then -(V : Int) else (V : Int)).natAbs = V := by cases isNeg a <;> simp
  rw [hs, ha2, hV, hn, word_back h]
 unfold S; rw [h1]
 exact M_not (by omega)
theorem add_zero {a : Nat} (h : a < 18446744073709551616) (hm : M a = a) : S a sgn = a := by
 by_cases h1 : inf < a % sgn
 ·have : a = nan := by rw [M_nan h1] at hm; exact hm.symm
  subst this
  rw [S_comm, S_nan]
 ·by_cases h2 : a % sgn = inf
  ·exact inf_add h h2 (by decide)
  ·exact fin_zero h (by omega)
/- Whole numbers. -/
def rnd (g n : Nat) : Nat := n / g + (decide (g < 2 * (n % g)) || (g == 2 * (n % g) && n / g % 2 == 1)).toNat
def kept (L n : Nat) : Nat := rnd (2 ^ (L - 52)) (n * 2 ^ (52 - L))
def rung (n : Nat) : Nat := if n = 0 then 0 else min ((n.log2 + 1022) * 4503599627370496 + kept n.log2 n) inf
end Go.Proofs.YtpkodjllljnleaaGreat.Num
namespace Go.Proofs.YtpkodjllljnleaaGreat
namespace Val
structure V where
 k : Int
 n : Int
 f : Nat
 s : ByteArray
def chk (v : V) : Int :=
 if v.k < 0 ∨ 3 < v.k then 1
 else if v.n ≠ 0 ∧ v.k ≠ 1 then 1
 else if v.f ≠ 0 ∧ v.k ≠ 2 then 1
 else if v.s.size ≠ 0 ∧ v.k ≠ 3 then 1
 else if Num.M v.f ≠ v.f then 1
 else if 64 < v.s.size then 2 else 0
def emp : ByteArray := ⟨#[]⟩
def zero : V := ⟨0, 0, 0, emp⟩
theorem size_zero {s : ByteArray} (h : s.size = 0) : s = emp := by
 apply ByteArray.ext
 exact Array.eq_empty_of_size_eq_zero h
theorem chk_ok {v : V} (h : chk v = 0) : v = ⟨0, 0, 0, emp⟩ ∨ v = ⟨1, v.n, 0, emp⟩ ∨ (v = ⟨2, 0, v.f, emp⟩ ∧ Num.M v.f = v.f) ∨ (v = ⟨3, 0, 0, v.s⟩ ∧ v.s.size ≤ 64) := by
 obtain ⟨k, n, f, s⟩ := v
 unfold chk at h
 simp only at h ⊢
 split at h
 ·cases h
 split at h
 ·cases h
 split at h
 ·cases h
 split at h
 ·cases h
 split at h
 ·cases h
 split at h
 ·cases h
 next h1 h2 h3 h4 h5 h6 =>
 have h5 : Num.M f = f := Decidable.byContradiction h5
 have hk : k = 0 ∨ k = 1 ∨ k = 2 ∨ k = 3 := by omega
 rcases hk with rfl | rfl | rfl | rfl
 ·obtain rfl : n = 0 := by omega
  obtain rfl : f = 0 := by omega
  obtain rfl := size_zero (s := s) (by omega)
  exact .inl rfl
 ·obtain rfl : f = 0 := by omega
  obtain rfl := size_zero (s := s) (by omega)
  exact .inr (.inl rfl)
 ·obtain rfl : n = 0 := by omega
  obtain rfl := size_zero (s := s) (by omega)
  exact .inr (.inr (.inl ⟨rfl, h5⟩))
 ·obtain rfl : n = 0 := by omega
  obtain rfl : f = 0 := by omega
  exact .inr (.inr (.inr ⟨rfl, by omega⟩))
theorem M_zero : Num.M 0 = 0 := by decide
theorem chk_text (s : ByteArray) : chk ⟨3, 0, 0, s⟩ = if 64 < s.size then 2 else 0 := by
 unfold chk
 rw [if_neg (show ¬ ((3 : Int) < 0 ∨ 3 < (3 : Int)) by decide), if_neg (by simp), if_neg (by simp), if_neg (by simp), if_neg (by rw [M_zero]; simp)]
instance : DecidableEq V := fun a b => decidable_of_iff (a.k = b.k ∧ a.n = b.n ∧ a.f = b.f ∧ a.s = b.s) ⟨fun h => by
 obtain ⟨k, n, f, s⟩ := a
 obtain ⟨k', n', f', s'⟩ := b
 obtain ⟨rfl, rfl, rfl, rfl⟩ := h
 rfl, fun h => by rw [h]; exact ⟨rfl, rfl, rfl, rfl⟩⟩
theorem str_inj {a b : ByteArray} (h : a.toList = b.toList) : a = b := by
 rw [ByteArray.toList_eq, ByteArray.toList_eq] at h
 apply ByteArray.ext
 exact Array.toList_inj.1 h
theorem str_iff {a b : ByteArray} : a = b ↔ a.toList = b.toList := ⟨fun h => by rw [h], str_inj⟩
end Val
end Go.Proofs.YtpkodjllljnleaaGreat
namespace Go.Proofs.YtpkodjllljnleaaGreat
namespace Dct
structure Pr where
 key : ByteArray
 val : Val.V
open Go.Op in
theorem bl_irrefl : ∀ a : List UInt8, bytesLess a a = false
 | [] => rfl
 | x :: r => by
  unfold bytesLess
  rw [bl_irrefl r]; simp
open Go.Op in
theorem bl_trans : ∀ a b c : List UInt8, bytesLess a b = true → bytesLess b c = true → bytesLess a c = true
 | _, [], _, h, _ => by cases ‹List UInt8› <;> simp [bytesLess] at h
 | _, _ :: _, [], _, h => by simp [bytesLess] at h
 | [], _ :: _, _ :: _, _, _ => rfl
 | x :: a, y :: b, z :: c, h1, h2 => by
  simp only [bytesLess, Bool.or_eq_true, Bool.and_eq_true, decide_eq_true_eq, beq_iff_eq] at h1 h2 ⊢
  rcases h1 with h1 | ⟨rfl, h1⟩ <;> rcases h2 with h2 | ⟨rfl, h2⟩
  ·exact .inl (UInt8.lt_trans h1 h2)
  ·exact .inl h1
  ·exact .inl h2
  ·exact .inr ⟨rfl, bl_trans a b c h1 h2⟩
open Go.Op in
theorem bl_tri : ∀ a b : List UInt8, bytesLess a b = true ∨ a = b ∨ bytesLess b a = true
 | [], [] => .inr (.inl rfl)
 | [], _ :: _ => .inl rfl
 | _ :: _, [] => .inr (.inr rfl)
 | x :: a, y :: b => by
  simp only [bytesLess, Bool.or_eq_true, Bool.and_eq_true, decide_eq_true_eq, beq_iff_eq]
  by_cases h1 : x < y
  ·exact .inl (.inl h1)
  by_cases h2 : y < x
  ·exact .inr (.inr (.inl h2))
  have e : x = y := by
   apply UInt8.toNat_inj.1
   have h1' : ¬ x.toNat < y.toNat := h1
   have h2' : ¬ y.toNat < x.toNat := h2
   omega
  subst e
  rcases bl_tri a b with h | h | h
  ·exact .inl (.inr ⟨rfl, h⟩)
  ·exact .inr (.inl (by rw [h]))
  ·exact .inr (.inr (.inr ⟨rfl, h⟩))
def lt (a b : ByteArray) : Bool := Go.Op.bytesLess a.toList b.toList
theorem toList_inj {a b : ByteArray} (h : a.toList = b.toList) : a = b := by
 rw [ByteArray.toList_eq, ByteArray.toList_eq] at h
 apply ByteArray.ext
 exact Array.toList_inj.1 h
theorem eq_iff {a b : ByteArray} : a = b ↔ a.toList = b.toList := ⟨fun h => by rw [h], toList_inj⟩
theorem lt_irrefl (a : ByteArray) : lt a a = false := bl_irrefl _
theorem lt_trans {a b c : ByteArray} (h1 : lt a b = true) (h2 : lt b c = true) : lt a c = true := bl_trans _ _ _ h1 h2
theorem lt_tri (a b : ByteArray) : lt a b = true ∨ a = b ∨ lt b a = true := by
 rcases bl_tri a.toList b.toList with h | h | h
 ·exact .inl h
 ·exact .inr (.inl (toList_inj h))
 ·exact .inr (.inr h)
theorem lt_ne {a b : ByteArray} (h : lt a b = true) : ¬ a = b := fun e => by rw [e, lt_irrefl] at h; cases h
theorem lt_asymm {a b : ByteArray} (h : lt a b = true) : lt b a = false := by
 cases hb : lt b a with
 | false => rfl
 | true => have := lt_trans h hb; rw [lt_irrefl] at this; cases this
def pchk (k : ByteArray) (v : Val.V) : Int := if v.k = 0 then 1 else if 64 < k.size then 2 else Val.chk v
def Up (l : List Pr) : Prop := l.Pairwise fun a b => lt a.key b.key = true
structure Right (l : List Pr) : Prop where
 len : l.length ≤ 8
 ok : ∀ x ∈ l, pchk x.key x.val = 0
 up : Up l
def Good (l : List Pr) (i : Nat) : Prop := ∀ x, l[i]? = some x → pchk x.key x.val = 0 ∧ ∀ j y, i = j + 1 → l[j]? = some y → lt y.key x.key = true
theorem up_of {l : List Pr} (h : ∀ i x y, l[i]? = some x → l[i + 1]? = some y → lt x.key y.key = true) : Up l := by
 induction l with
 | nil => exact List.Pairwise.nil
 | cons a r ih =>
  have hr := ih fun i x y hx hy => h (i + 1) x y (by simpa using hx) (by simpa using hy)
  refine List.Pairwise.cons (fun b hb => ?_) hr
  match r, hb, hr, h with
  | c :: r', hb, hr, h =>
   have h0 := h 0 a c rfl rfl
   rcases List.mem_cons.1 hb with rfl | hb
   ·exact h0
   ·exact lt_trans h0 ((List.pairwise_cons.1 hr).1 b hb)
theorem right_iff (l : List Pr) : Right l ↔ l.length ≤ 8 ∧ ∀ i, i < l.length → Good l i := by
 constructor
 ·intro h
  refine ⟨h.len, fun i hi x hx => ⟨h.ok x (List.mem_of_getElem? hx), fun j y hj hy => ?_⟩⟩
  subst hj
  obtain ⟨h1, e1⟩ := List.getElem?_eq_some_iff.1 hx
  obtain ⟨h2, e2⟩ := List.getElem?_eq_some_iff.1 hy
  have := (List.pairwise_iff_getElem.1 h.up) j (j + 1) h2 h1 (by omega)
  rw [e1, e2] at this
  exact this
 ·intro h
  refine ⟨h.1, fun x hx => ?_, up_of fun i x y hx hy => ?_⟩
  ·obtain ⟨i, hi, e⟩ := List.getElem_of_mem hx
   exact (h.2 i hi x (by rw [List.getElem?_eq_getElem hi, e])).1
  ·exact (h.2 (i + 1) (List.getElem?_eq_some_iff.1 hy).1 y hy).2 i x rfl hx
theorem right_nil : Right [] := ⟨by simp, fun x hx => by simp at hx, List.Pairwise.nil⟩
def fnd : List Pr → ByteArray → Option Val.V
 | [], _ => none
 | x :: r, k => if x.key = k then some x.val else fnd r k
def wo (l : List Pr) (k : ByteArray) : List Pr := l.filter fun p => !decide (p.key = k)
def idx : List Pr → ByteArray → Nat
 | [], _ => 0
 | x :: r, k => if lt x.key k = true then idx r k + 1 else 0
def fin (l : List Pr) (k : ByteArray) : Nat := match l[idx l k]? with
 | some x => if x.key = k then idx l k + 1 else idx l k
 | none => idx l k
theorem idx_le (l : List Pr) (k : ByteArray) : idx l k ≤ l.length := by
 induction l with
 | nil => exact Nat.le_refl _
 | cons x r ih => unfold idx; split <;> simp <;> omega
theorem idx_lt {l : List Pr} {k : ByteArray} {i : Nat} {x : Pr} (h : i < idx l k) (hx : l[i]? = some x) : lt x.key k = true := by
 induction l generalizing i with
 | nil => simp at hx
 | cons y r ih =>
  unfold idx at h
  split at h
  next hy =>
   match i, h, hx with
   | 0, _, hx => simp at hx; subst hx; exact hy
   | i + 1, h, hx => exact ih (i := i) (Nat.lt_of_succ_lt_succ h) (by simpa using hx)
  ·omega
theorem idx_at {l : List Pr} {k : ByteArray} {x : Pr} (hx : l[idx l k]? = some x) : lt x.key k = false := by
 induction l with
 | nil => simp at hx
 | cons y r ih =>
  unfold idx at hx
  split at hx
  ·exact ih (by simpa using hx)
  next hy => simp at hx; subst hx; simpa using hy
theorem fin_le (l : List Pr) (k : ByteArray) : idx l k ≤ fin l k ∧ fin l k ≤ l.length := by
 have h := idx_le l k
 unfold fin
 split
 next x hx =>
  have := (List.getElem?_eq_some_iff.1 hx).1
  split <;> omega
 next => omega
theorem fin_cons_lt {x : Pr} {r : List Pr} {k : ByteArray} (h : lt x.key k = true) : idx (x :: r) k = idx r k + 1 ∧ fin (x :: r) k = fin r k + 1 := by
 have e : idx (x :: r) k = idx r k + 1 := by conv => lhs; unfold idx; rw [if_pos h]
 refine ⟨e, ?_⟩
 unfold fin
 rw [e, List.getElem?_cons_succ]
 split <;> (try split) <;> rfl
theorem fin_cons_eq {x : Pr} {r : List Pr} : idx (x :: r) x.key = 0 ∧ fin (x :: r) x.key = 1 := by
 have e : idx (x :: r) x.key = 0 := by unfold idx; rw [if_neg (by rw [lt_irrefl]; simp)]
 refine ⟨e, ?_⟩
 unfold fin
 rw [e]
 simp
theorem fin_cons_gt {x : Pr} {r : List Pr} {k : ByteArray} (h : lt k x.key = true) : idx (x :: r) k = 0 ∧ fin (x :: r) k = 0 := by
 have e : idx (x :: r) k = 0 := by unfold idx; rw [if_neg (by rw [lt_asymm h]; simp)]
 refine ⟨e, ?_⟩
 unfold fin
 rw [e]
 have hne : ¬ x.key = k := fun e => lt_ne h e.symm
 simp [hne]
theorem wo_above {l : List Pr} {k : ByteArray} (h : ∀ x ∈ l, ¬ x.key = k) : wo l k = l := by
 unfold wo
 rw [List.filter_eq_self]
 intro x hx
 simp [h x hx]
theorem fnd_above {l : List Pr} {k : ByteArray} (h : ∀ x ∈ l, ¬ x.key = k) : fnd l k = none := by
 induction l with
 | nil => rfl
 | cons x r ih =>
  unfold fnd
  rw [if_neg (h x (List.mem_cons_self ..))]
  exact ih fun y hy => h y (List.mem_cons_of_mem _ hy)
theorem above {x : Pr} {r : List Pr} (h : Up (x :: r)) {k : ByteArray} (hk : x.key = k ∨ lt k x.key = true) : ∀ y ∈ r, lt k y.key = true := fun y hy => by
 have h1 := (List.pairwise_cons.1 h).1 y hy
 rcases hk with rfl | hk
 ·exact h1
 ·exact lt_trans hk h1
theorem idx_above {l : List Pr} {k : ByteArray} (h : ∀ y ∈ l, lt k y.key = true) : idx l k = 0 := by
 match l, h with
 | [], _ => rfl
 | x :: r, h => exact (fin_cons_gt (h x (List.mem_cons_self ..))).1
theorem wo_parts {l : List Pr} (h : Up l) (k : ByteArray) : l.take (idx l k) ++ l.drop (fin l k) = wo l k ∧ idx (wo l k) k = idx l k ∧ (fnd l k = if fin l k = idx l k then none else (l[idx l k]?).map (·.val)) ∧ fin l k ≤ idx l k + 1 := by
 induction l with
 | nil => exact ⟨rfl, rfl, rfl, Nat.le_succ 0⟩
 | cons x r ih =>
  obtain ⟨i1, i2, i3, i4⟩ := ih (List.pairwise_cons.1 h).2
  rcases lt_tri x.key k with hk | hk | hk
  ·obtain ⟨e1, e2⟩ := fin_cons_lt (r := r) hk
   have hne := lt_ne hk
   have ew : wo (x :: r) k = x :: wo r k := by unfold wo; rw [List.filter_cons_of_pos (by simp [hne])]
   refine ⟨?_, ?_, ?_, by omega⟩
   ·rw [e1, e2, ew, List.take_succ_cons, List.drop_succ_cons, lcA, i1]
   ·rw [ew, (fin_cons_lt hk).1, i2, e1]
   ·rw [e1, e2, List.getElem?_cons_succ]
    have ef : fnd (x :: r) k = fnd r k := by conv => lhs; unfold fnd; rw [if_neg hne]
    rw [ef, i3]
    by_cases hh : fin r k = idx r k
    ·rw [if_pos hh, if_pos (by omega)]
    ·rw [if_neg hh, if_neg (by omega)]
  ·subst hk
   obtain ⟨e1, e2⟩ := fin_cons_eq (x := x) (r := r)
   have hab := above h (.inl rfl)
   have hr : wo r x.key = r := wo_above fun y hy e => lt_ne (hab y hy) e.symm
   have ew : wo (x :: r) x.key = r := by unfold wo; rw [List.filter_cons_of_neg (by simp)]; exact hr
   refine ⟨?_, ?_, ?_, by omega⟩
   ·rw [e1, e2, ew]; rfl
   ·rw [ew, e1]; exact idx_above hab
   ·rw [e1, e2]; unfold fnd; simp
  ·obtain ⟨e1, e2⟩ := fin_cons_gt (r := r) hk
   have hab := above h (.inr hk)
   have hne : ∀ y ∈ x :: r, ¬ y.key = k := fun y hy e => by
    rcases List.mem_cons.1 hy with rfl | hy
    ·exact lt_ne hk e.symm
    ·exact lt_ne (hab y hy) e.symm
   rw [wo_above hne, fnd_above hne, e1, e2]
   exact ⟨rfl, rfl, by simp, Nat.le_succ 0⟩
def ins (l : List Pr) (k : ByteArray) (v : Val.V) : List Pr := l.take (idx l k) ++ [⟨k, v⟩] ++ l.drop (fin l k)
theorem wo_mem {l : List Pr} {k : ByteArray} {x : Pr} : x ∈ wo l k ↔ x ∈ l ∧ ¬ x.key = k := by
 unfold wo; rw [List.mem_filter]; simp
theorem ins_perm {l : List Pr} (h : Up l) (k : ByteArray) (v : Val.V) : (ins l k v).Perm (wo l k ++ [⟨k, v⟩]) := by
 unfold ins
 rw [← (wo_parts h k).1, List.append_assoc, List.append_assoc]
 exact List.Perm.append_left _ List.perm_append_comm
def Apart (l : List Pr) : Prop := l.Pairwise fun a b => ¬ a.key = b.key
instance (l : List Pr) : Decidable (Right l) := decidable_of_iff (l.length ≤ 8 ∧ (∀ x ∈ l, pchk x.key x.val = 0) ∧ l.Pairwise (fun (a b : Pr) => lt a.key b.key = true)) ⟨fun h => ⟨h.1, h.2.1, h.2.2⟩, fun h => ⟨h.len, h.ok, h.up⟩⟩
def emp : Val.V := ⟨0, 0, 0, ⟨#[]⟩⟩
def mchk (l : List Pr) : Int := if Right l then 0 else 1
def gtV (l : List Pr) (k : ByteArray) : Val.V := if Right l then (fnd l k).getD emp else emp
def gtE (l : List Pr) (k : ByteArray) : Int := if Right l then (if (fnd l k).isSome then 0 else 5) else 1
def ptE (l : List Pr) (k : ByteArray) (v : Val.V) : Int := if Right l then (if pchk k v = 0 then (if (wo l k).length < 8 then 0 else 6) else pchk k v) else 1
def ptL (l : List Pr) (k : ByteArray) (v : Val.V) : List Pr := if ptE l k v = 0 then ins l k v else l
def ctL (l : List Pr) (k : ByteArray) : List Pr := if gtE l k = 0 then wo l k else l
def swE (l : List Pr) (k : ByteArray) (o v : Val.V) : Int := if Right l then (if gtV l k = o then (if v = emp then 0 else ptE l k v) else 9) else 1
def swV (l : List Pr) (k : ByteArray) (o : Val.V) : Val.V := if gtV l k = o then emp else gtV l k
def swL (l : List Pr) (k : ByteArray) (o v : Val.V) : List Pr := if swE l k o v = 0 then (if v = emp then wo l k else ins l k v) else l
theorem mchk_one {l : List Pr} (h : ¬ Right l) : mchk l = 1 := if_neg h
theorem mchk_ok {l : List Pr} (h : Right l) : mchk l = 0 := if_pos h
theorem gt_bad {l : List Pr} (h : ¬ Right l) (k : ByteArray) : gtV l k = emp ∧ gtE l k = 1 := ⟨if_neg h, if_neg h⟩
theorem gt_some {l : List Pr} (h : Right l) {k : ByteArray} {v : Val.V} (hf : fnd l k = some v) : gtV l k = v ∧ gtE l k = 0 := by
 unfold gtV gtE; rw [if_pos h, if_pos h, hf]; exact ⟨rfl, rfl⟩
theorem gt_none {l : List Pr} (h : Right l) {k : ByteArray} (hf : fnd l k = none) : gtV l k = emp ∧ gtE l k = 5 := by
 unfold gtV gtE; rw [if_pos h, if_pos h, hf]; exact ⟨rfl, rfl⟩
theorem pt_bad {l : List Pr} (h : ¬ Right l) (k : ByteArray) (v : Val.V) : ptE l k v = 1 ∧ ptL l k v = l := by
 have e : ptE l k v = 1 := if_neg h
 exact ⟨e, by unfold ptL; rw [e]; rfl⟩
theorem pt_chk {l : List Pr} (h : Right l) {k : ByteArray} {v : Val.V} (hv : ¬ pchk k v = 0) : ptE l k v = pchk k v ∧ ptL l k v = l := by
 have e : ptE l k v = pchk k v := by unfold ptE; rw [if_pos h, if_neg hv]
 exact ⟨e, by unfold ptL; rw [e, if_neg hv]⟩
theorem pt_full {l : List Pr} (h : Right l) {k : ByteArray} {v : Val.V} (hv : pchk k v = 0) (hn : ¬ (wo l k).length < 8) : ptE l k v = 6 ∧ ptL l k v = l := by
 have e : ptE l k v = 6 := by unfold ptE; rw [if_pos h, if_pos hv, if_neg hn]
 exact ⟨e, by unfold ptL; rw [e]; rfl⟩
theorem pt_ok {l : List Pr} (h : Right l) {k : ByteArray} {v : Val.V} (hv : pchk k v = 0) (hn : (wo l k).length < 8) : ptE l k v = 0 ∧ ptL l k v = ins l k v := by
 have e : ptE l k v = 0 := by unfold ptE; rw [if_pos h, if_pos hv, if_pos hn]
 exact ⟨e, by unfold ptL; rw [e]; rfl⟩
theorem gt_ne {l : List Pr} {k : ByteArray} (h : ¬ gtE l k = 0) : gtV l k = emp := by
 unfold gtE at h
 unfold gtV
 split at h
 next hr =>
  rw [if_pos hr]
  cases hf : fnd l k with
  | none => rfl
  | some v => rw [hf] at h; exact absurd rfl h
 next hr => rw [if_neg hr]
theorem gt_nb {l : List Pr} (h : Right l) (k : ByteArray) : ¬ gtE l k = 1 := by
 unfold gtE
 rw [if_pos h]
 split <;> decide
theorem gt_ok {l : List Pr} {k : ByteArray} (h : gtE l k = 0) : Right l := by
 unfold gtE at h
 split at h
 next hr => exact hr
 next => cases h
theorem sw_bad {l : List Pr} (h : ¬ Right l) (k : ByteArray) (o v : Val.V) : swE l k o v = 1 ∧ swL l k o v = l ∧ swV l k o = emp := by
 have e : swE l k o v = 1 := if_neg h
 refine ⟨e, ?_, ?_⟩
 ·unfold swL; rw [e]; rfl
 ·unfold swV; rw [(gt_bad h k).1]; split <;> rfl
theorem sw_unlike {l : List Pr} (h : Right l) {k : ByteArray} {o : Val.V} (v : Val.V) (ho : ¬ gtV l k = o) : swE l k o v = 9 ∧ swL l k o v = l ∧ swV l k o = gtV l k := by
 have e : swE l k o v = 9 := by unfold swE; rw [if_pos h, if_neg ho]
 refine ⟨e, ?_, if_neg ho⟩
 unfold swL; rw [e]; rfl
theorem sw_cut {l : List Pr} (h : Right l) {k : ByteArray} {o : Val.V} (ho : gtV l k = o) : swE l k o emp = 0 ∧ swL l k o emp = wo l k ∧ swV l k o = emp := by
 have e : swE l k o emp = 0 := by unfold swE; rw [if_pos h, if_pos ho, if_pos rfl]
 refine ⟨e, ?_, if_pos ho⟩
 unfold swL; rw [e, if_pos rfl, if_pos rfl]
theorem sw_put {l : List Pr} (h : Right l) {k : ByteArray} {o v : Val.V} (ho : gtV l k = o) (hv : ¬ v = emp) : swE l k o v = ptE l k v ∧ swL l k o v = ptL l k v ∧ swV l k o = emp := by
 have e : swE l k o v = ptE l k v := by unfold swE; rw [if_pos h, if_pos ho, if_neg hv]
 refine ⟨e, ?_, if_pos ho⟩
 unfold swL ptL; rw [e, if_neg hv]
instance : DecidableEq Pr := fun a b => decidable_of_iff (a.key = b.key ∧ a.val = b.val) ⟨fun h => by
 obtain ⟨k, v⟩ := a
 obtain ⟨k', v'⟩ := b
 obtain ⟨rfl, rfl⟩ := h
 rfl, fun h => by rw [h]; exact ⟨rfl, rfl⟩⟩
theorem fnd_parts {l : List Pr} (h : Up l) (k : ByteArray) : (fin l k = idx l k ∧ fnd l k = none) ∨ (fin l k = idx l k + 1 ∧ ∃ x, l[idx l k]? = some x ∧ fnd l k = some x.val) := by
 obtain ⟨_, _, h3, h4⟩ := wo_parts h k
 obtain ⟨h5, h6⟩ := fin_le l k
 by_cases hh : fin l k = idx l k
 ·rw [if_pos hh] at h3; exact .inl ⟨hh, h3⟩
 ·rw [if_neg hh] at h3
  have hx : l[idx l k]? = some (l[idx l k]'(by omega)) := List.getElem?_eq_getElem (by omega)
  exact .inr ⟨by omega, _, hx, by rw [h3, hx]; rfl⟩
end Dct
end Go.Proofs.YtpkodjllljnleaaGreat
namespace Go.Proofs.YtpkodjllljnleaaGreat
namespace Que
def vchk (v : Val.V) : Int := if v.k = 0 then 1 else Val.chk v
structure Right (n : Int) (l : List Val.V) : Prop where
 lo : 1 ≤ n
 hi : n ≤ 8
 len : (l.length : Int) ≤ n
 ok : ∀ v ∈ l, vchk v = 0
instance (n : Int) (l : List Val.V) : Decidable (Right n l) := decidable_of_iff (1 ≤ n ∧ n ≤ 8 ∧ (l.length : Int) ≤ n ∧ ∀ v ∈ l, vchk v = 0) ⟨fun h => ⟨h.1, h.2.1, h.2.2.1, h.2.2.2⟩, fun h => ⟨h.lo, h.hi, h.len, h.ok⟩⟩
def qchk (n : Int) (l : List Val.V) : Int := if Right n l then 0 else 1
def emp : Val.V := ⟨0, 0, 0, ⟨#[]⟩⟩
def psE (n : Int) (l : List Val.V) (v : Val.V) : Int := if Right n l then (if vchk v = 0 then (if (l.length : Int) = n then 6 else 0) else vchk v) else 1
def psL (n : Int) (l : List Val.V) (v : Val.V) : List Val.V := if psE n l v = 0 then l ++ [v] else l
def ppE (n : Int) (l : List Val.V) : Int := if Right n l then (if l.length = 0 then 10 else 0) else 1
def ppL (n : Int) (l : List Val.V) : List Val.V := if Right n l then l.drop 1 else l
def ppV (n : Int) (l : List Val.V) : Val.V := if Right n l then l.headD emp else emp
theorem qchk_ok {n : Int} {l : List Val.V} (h : Right n l) : qchk n l = 0 := if_pos h
theorem qchk_bad {n : Int} {l : List Val.V} (h : ¬ Right n l) : qchk n l = 1 := if_neg h
theorem vchk_none {v : Val.V} (h : v.k = 0) : vchk v = 1 := if_pos h
theorem vchk_some {v : Val.V} (h : ¬ v.k = 0) : vchk v = Val.chk v := if_neg h
theorem ps_bad {n : Int} {l : List Val.V} (h : ¬ Right n l) (v : Val.V) : psE n l v = 1 ∧ psL n l v = l := by
 have e : psE n l v = 1 := if_neg h
 exact ⟨e, by unfold psL; rw [e]; rfl⟩
theorem ps_chk {n : Int} {l : List Val.V} (h : Right n l) {v : Val.V} (hv : ¬ vchk v = 0) : psE n l v = vchk v ∧ psL n l v = l := by
 have e : psE n l v = vchk v := by unfold psE; rw [if_pos h, if_neg hv]
 exact ⟨e, by unfold psL; rw [e, if_neg hv]⟩
theorem ps_full {n : Int} {l : List Val.V} (h : Right n l) {v : Val.V} (hv : vchk v = 0) (hn : (l.length : Int) = n) : psE n l v = 6 ∧ psL n l v = l := by
 have e : psE n l v = 6 := by unfold psE; rw [if_pos h, if_pos hv, if_pos hn]
 exact ⟨e, by unfold psL; rw [e]; rfl⟩
theorem ps_ok {n : Int} {l : List Val.V} (h : Right n l) {v : Val.V} (hv : vchk v = 0) (hn : ¬ (l.length : Int) = n) : psE n l v = 0 ∧ psL n l v = l ++ [v] := by
 have e : psE n l v = 0 := by unfold psE; rw [if_pos h, if_pos hv, if_neg hn]
 exact ⟨e, by unfold psL; rw [e]; rfl⟩
theorem pp_bad {n : Int} {l : List Val.V} (h : ¬ Right n l) : ppE n l = 1 ∧ ppL n l = l ∧ ppV n l = emp := ⟨if_neg h, if_neg h, if_neg h⟩
theorem pp_none {n : Int} {l : List Val.V} (h : Right n l) (h0 : l.length = 0) : ppE n l = 10 ∧ ppL n l = [] ∧ ppV n l = emp := by
 have e : l = [] := List.length_eq_zero_iff.1 h0
 subst e
 exact ⟨by unfold ppE; rw [if_pos h]; rfl, by unfold ppL; rw [if_pos h]; rfl, by unfold ppV; rw [if_pos h]; rfl⟩
theorem pp_ok {n : Int} {l : List Val.V} (h : Right n l) {v : Val.V} (hv : l[0]? = some v) : ppE n l = 0 ∧ ppL n l = l.drop 1 ∧ ppV n l = v := by
 cases l with
 | nil => cases hv
 | cons x r =>
  injection hv with hv
  subst hv
  exact ⟨by unfold ppE; rw [if_pos h]; rfl, by unfold ppL; rw [if_pos h], by unfold ppV; rw [if_pos h]; rfl⟩
theorem right_nil {n : Int} (h1 : 1 ≤ n) (h2 : n ≤ 8) : Right n [] := ⟨h1, h2, by show (0 : Int) ≤ n; omega, fun x hx => by simp at hx⟩
theorem right_told {n : Int} {l : List Val.V} {m : Nat} (hl : l.length = m) (h1 : 1 ≤ n) (h2 : n ≤ 8) (h3 : (m : Int) ≤ n) : (∀ (i : Nat) v, l[i]? = some v → ¬ vchk v = 0 → decide (Right n l) = false) ∧ ((∀ (i : Nat) v, i < m → l[i]? = some v → vchk v = 0) → decide (Right n l) = true) := by
 subst hl
 refine ⟨fun i v hi hv => decide_eq_false fun h => hv (h.ok v (List.mem_of_getElem? hi)), fun h => decide_eq_true ⟨h1, h2, h3, fun v hv => ?_⟩⟩
 obtain ⟨i, hi, e⟩ := List.getElem_of_mem hv
 exact h i v hi (by rw [List.getElem?_eq_getElem hi, e])
end Que
end Go.Proofs.YtpkodjllljnleaaGreat
namespace Go.Proofs.YtpkodjllljnleaaGreat
structure Rf where
 c : Int
 e : Int
 r : Int
deriving DecidableEq
namespace Lck
def zero : Rf := ⟨0, 0, 0⟩
def ok (x : Rf) : Prop := 0 ≤ x.c ∧ x.c < 5 ∧ 1 ≤ x.e ∧ 0 ≤ x.r
instance (x : Rf) : Decidable (ok x) := by unfold ok; infer_instance
def mine (a b : Rf) : Prop := a.c = b.c ∧ a.e = b.e
instance (a b : Rf) : Decidable (mine a b) := by unfold mine; infer_instance
def asked (l : List Rf) (c : Int) : Bool := l.any fun x => decide (x.c = c)
theorem asked_told {l : List Rf} {n : Nat} (hn : l.length = n) (c : Int) : (∀ (i : Nat) x, l[i]? = some x → x.c = c → asked l c = true) ∧ ((∀ (i : Nat) x, i < n → l[i]? = some x → ¬ x.c = c) → asked l c = false) := by
 refine ⟨fun i x hx h => List.any_eq_true.2 ⟨x, List.mem_of_getElem? hx, decide_eq_true h⟩, fun h => Bool.eq_false_iff.2 fun ha => ?_⟩
 obtain ⟨x, hx, hd⟩ := List.any_eq_true.1 ha
 obtain ⟨i, hi⟩ := List.mem_iff_getElem?.1 hx
 exact h i x (by rw [← hn]; exact (List.getElem?_eq_some_iff.1 hi).1) hi (of_decide_eq_true hd)
def Right (l : List Rf) : Prop := ∀ i, i < l.length → ∀ x, l[i]? = some x → ok x ∧ asked (l.take i) x.c = false
theorem right_iff (l : List Rf) : Right l ↔ ∀ i, i < l.length → (l[i]?.all fun x => decide (ok x) && !asked (l.take i) x.c) = true := by
 refine forall_congr' fun i => forall_congr' fun hi => ?_
 rw [List.getElem?_eq_getElem hi]
 simp
instance (l : List Rf) : Decidable (Right l) := decidable_of_iff _ (right_iff l).symm
theorem right_told {l : List Rf} {n : Nat} (hn : l.length = n) : (∀ (i : Nat) x, i < n → l[i]? = some x → ¬ (ok x ∧ asked (l.take i) x.c = false) → decide (Right l) = false) ∧ ((∀ (i : Nat) x, i < n → l[i]? = some x → ok x ∧ asked (l.take i) x.c = false) → decide (Right l) = true) :=
 ⟨fun i x hi hx h => decide_eq_false fun hr => h (hr i (by omega) x hx), fun h => decide_eq_true fun i hi x hx => h i x (by omega) hx⟩
theorem right_nil : Right [] := fun i hi => by simp at hi
def tkE (l : List Rf) (r : Rf) : Int := if Right l ∧ ok r then (if asked l r.c then 11 else 0) else 1
def tkL (l : List Rf) (r : Rf) : List Rf := if tkE l r = 0 then l ++ [r] else l
def tkH (l : List Rf) (r : Rf) : Bool := decide (tkE l r = 0) && decide (l.length = 0)
theorem tk_bad {l : List Rf} {r : Rf} (h : ¬ (Right l ∧ ok r)) : tkE l r = 1 ∧ tkL l r = l ∧ tkH l r = false := by
 have e : tkE l r = 1 := if_neg h
 exact ⟨e, by unfold tkL; rw [e]; rfl, by unfold tkH; rw [e]; rfl⟩
theorem tk_held {l : List Rf} {r : Rf} (h1 : Right l) (h2 : ok r) (h3 : asked l r.c = true) : tkE l r = 11 ∧ tkL l r = l ∧ tkH l r = false := by
 have e : tkE l r = 11 := by unfold tkE; rw [if_pos ⟨h1, h2⟩, if_pos h3]
 exact ⟨e, by unfold tkL; rw [e]; rfl, by unfold tkH; rw [e]; rfl⟩
theorem tk_ok {l : List Rf} {r : Rf} (h1 : Right l) (h2 : ok r) (h3 : asked l r.c = false) : tkE l r = 0 ∧ tkL l r = l ++ [r] ∧ tkH l r = decide (l.length = 0) := by
 have e : tkE l r = 0 := by unfold tkE; rw [if_pos ⟨h1, h2⟩, if_neg (by rw [h3]; decide)]
 exact ⟨e, by unfold tkL; rw [if_pos e], by unfold tkH; rw [decide_eq_true e, Bool.true_and]⟩
def frE (l : List Rf) (r : Rf) : Int := if Right l then (if l.length = 0 then 12 else if mine (l.headD zero) r then 0 else 12) else 1
def frL (l : List Rf) (r : Rf) : List Rf := if frE l r = 0 then l.drop 1 else l
def frN (l : List Rf) (r : Rf) : Rf := if frE l r = 0 then (l.drop 1).headD zero else zero
def frS (l : List Rf) (r : Rf) : Bool := decide (frE l r = 0) && decide (1 < l.length)
theorem fr_no {l : List Rf} {r : Rf} {z : Int} (e : frE l r = z) (hz : ¬ z = 0) : frE l r = z ∧ frL l r = l ∧ frN l r = zero ∧ frS l r = false := by
 have e2 : ¬ frE l r = 0 := by rw [e]; exact hz
 exact ⟨e, if_neg e2, if_neg e2, by unfold frS; rw [decide_eq_false e2]; rfl⟩
theorem fr_bad {l : List Rf} {r : Rf} (h : ¬ Right l) : frE l r = 1 ∧ frL l r = l ∧ frN l r = zero ∧ frS l r = false := fr_no (if_neg h) (by decide)
theorem fr_none {l : List Rf} {r : Rf} (h : Right l) (h0 : l.length = 0) : frE l r = 12 ∧ frL l r = l ∧ frN l r = zero ∧ frS l r = false :=
 fr_no (by unfold frE; rw [if_pos h, if_pos h0]) (by decide)
theorem fr_other {l : List Rf} {r x : Rf} (h : Right l) (hx : l[0]? = some x) (hm : ¬ mine x r) : frE l r = 12 ∧ frL l r = l ∧ frN l r = zero ∧ frS l r = false := by
 cases l with
 | nil => cases hx
 | cons y m =>
  injection hx with hx
  subst hx
  exact fr_no (by unfold frE; rw [if_pos h, if_neg (by simp)]; exact if_neg hm) (by decide)
theorem fr_yes {l : List Rf} {r x : Rf} (h : Right l) (hx : l[0]? = some x) (hm : mine x r) : frE l r = 0 := by
 cases l with
 | nil => cases hx
 | cons y m =>
  injection hx with hx
  subst hx
  unfold frE; rw [if_pos h, if_neg (by simp)]; exact if_pos hm
def wo (l : List Rf) (r : Rf) : List Rf := l.filter fun x => !decide (mine x r)
def drL (l : List Rf) (r : Rf) : List Rf := if Right l then wo l r else l
def drS (l : List Rf) (r : Rf) : Bool := decide (Right l) && decide (0 < (wo l r).length) && !decide ((wo l r).headD zero = l.headD zero)
def drN (l : List Rf) (r : Rf) : Rf := if drS l r = true then (wo l r).headD zero else zero
theorem dr_no {l : List Rf} {r : Rf} (h : drS l r = false) : drS l r = false ∧ drN l r = zero := ⟨h, by unfold drN; rw [h]; rfl⟩
theorem dr_bad {l : List Rf} {r : Rf} (h : ¬ Right l) : drL l r = l ∧ drN l r = zero ∧ drS l r = false := by
 have e : drS l r = false := by unfold drS; rw [decide_eq_false h]; rfl
 exact ⟨if_neg h, (dr_no e).2, e⟩
theorem dr_none {l : List Rf} {r : Rf} (h : Right l) (h0 : (wo l r).length = 0) : drL l r = wo l r ∧ drN l r = zero ∧ drS l r = false := by
 have e : drS l r = false := by unfold drS; rw [h0]; simp
 exact ⟨if_pos h, (dr_no e).2, e⟩
theorem head_of {l : List Rf} {x : Rf} (h : l[0]? = some x) : l.headD zero = x := by
 cases l with
 | nil => cases h
 | cons y m => injection h
theorem dr_same {l : List Rf} {r x y : Rf} (h : Right l) (hx : (wo l r)[0]? = some x) (hy : l[0]? = some y) (he : x = y) : drL l r = wo l r ∧ drN l r = zero ∧ drS l r = false := by
 have e : drS l r = false := by unfold drS; rw [head_of hx, head_of hy, he]; simp
 exact ⟨if_pos h, (dr_no e).2, e⟩
theorem dr_new {l : List Rf} {r x y : Rf} (h : Right l) (hx : (wo l r)[0]? = some x) (hy : l[0]? = some y) (he : ¬ x = y) : drL l r = wo l r ∧ drN l r = x ∧ drS l r = true := by
 have h0 := (List.getElem?_eq_some_iff.1 hx).1
 have e : drS l r = true := by unfold drS; rw [head_of hx, head_of hy, decide_eq_true h, decide_eq_true h0, decide_eq_false he]; rfl
 exact ⟨if_pos h, by unfold drN; rw [if_pos e, head_of hx], e⟩
theorem wo_take_in {l : List Rf} {r x : Rf} {k : Nat} (hx : l[k]? = some x) (hm : ¬ mine x r) : wo (l.take (k + 1)) r = wo (l.take k) r ++ [x] := by
 unfold wo
 rw [List.take_add_one, hx, List.filter_append]
 simp [hm]
theorem wo_take_out {l : List Rf} {r x : Rf} {k : Nat} (hx : l[k]? = some x) (hm : mine x r) : wo (l.take (k + 1)) r = wo (l.take k) r := by
 unfold wo
 rw [List.take_add_one, hx, List.filter_append]
 simp [hm]
theorem wo_le (l : List Rf) (r : Rf) : (wo l r).length ≤ l.length := List.length_filter_le ..
theorem wo_first {l : List Rf} {r x : Rf} (h : (wo l r)[0]? = some x) : ∃ y, l[0]? = some y := by
 cases l with
 | nil => cases h
 | cons y m => exact ⟨y, rfl⟩
theorem right_cons {x : Rf} {m : List Rf} : Right (x :: m) ↔ ok x ∧ asked m x.c = false ∧ Right m := by
 constructor
 ·intro h
  have h0 := h 0 (by simp) x rfl
  have hA : ∀ i y, m[i]? = some y → ok y ∧ asked (m.take i) y.c = false ∧ ¬ x.c = y.c := fun i y hy => by
   have h1 := h (i + 1) (by have := (List.getElem?_eq_some_iff.1 hy).1; simp; omega) y (by rw [List.getElem?_cons_succ]; exact hy)
   rw [List.take_succ_cons] at h1
   have h2 : asked (x :: m.take i) y.c = (decide (x.c = y.c) || asked (m.take i) y.c) := rfl
   rw [h2, Bool.or_eq_false_iff, decide_eq_false_iff_not] at h1
   exact ⟨h1.1, h1.2.2, h1.2.1⟩
  refine ⟨h0.1, (asked_told (l := m) rfl x.c).2 fun i y _ hy e => (hA i y hy).2.2 e.symm, fun i _ y hy => ⟨(hA i y hy).1, (hA i y hy).2.1⟩⟩
 ·rintro ⟨h1, h2, h3⟩ i hi y hy
  cases i with
  | zero => injection hy with hy; subst hy; exact ⟨h1, rfl⟩
  | succ i =>
   rw [List.getElem?_cons_succ] at hy
   have h4 := h3 i (by simp at hi; omega) y hy
   refine ⟨h4.1, ?_⟩
   rw [List.take_succ_cons]
   show (decide (x.c = y.c) || asked (m.take i) y.c) = false
   rw [h4.2, Bool.or_false, decide_eq_false_iff_not]
   intro e
   rw [(asked_told (l := m) rfl x.c).1 i y hy e.symm] at h2
   cases h2
theorem asked_filter {m : List Rf} {c : Int} (p : Rf → Bool) (h : asked m c = false) : asked (m.filter p) c = false := by
 rw [Bool.eq_false_iff] at h ⊢
 intro ha
 obtain ⟨x, hx, hd⟩ := List.any_eq_true.1 ha
 exact h (List.any_eq_true.2 ⟨x, (List.mem_filter.1 hx).1, hd⟩)
theorem right_filter (p : Rf → Bool) : ∀ {l : List Rf}, Right l → Right (l.filter p)
 | [], _ => right_nil
 | x :: m, h => by
  obtain ⟨h1, h2, h3⟩ := right_cons.1 h
  rw [List.filter_cons]
  split
  ·exact right_cons.2 ⟨h1, asked_filter p h2, right_filter p h3⟩
  ·exact right_filter p h3
theorem len_filter {q : Int} : ∀ {l : List Rf}, Right l → l.length ≤ (l.filter fun x => !decide (x.c = q)).length + 1
 | [], _ => Nat.zero_le _
 | x :: m, h => by
  obtain ⟨_, h2, h3⟩ := right_cons.1 h
  by_cases hq : x.c = q
  ·subst hq
   have e : (m.filter fun y => !decide (y.c = x.c)) = m := List.filter_eq_self.2 fun y hy => by
    obtain ⟨i, hi⟩ := List.mem_iff_getElem?.1 hy
    rw [Bool.not_eq_true', decide_eq_false_iff_not]
    intro hc
    rw [(asked_told (l := m) rfl x.c).1 i y hi hc] at h2
    cases h2
   rw [List.filter_cons_of_neg (by simp), e, List.length_cons]
   exact Nat.le_refl _
  ·rw [List.filter_cons_of_pos (by simp [hq]), List.length_cons, List.length_cons]
   have := len_filter (q := q) h3
   omega
theorem len_below : ∀ (k : Nat) {l : List Rf}, Right l → (∀ x ∈ l, x.c < (k : Int)) → l.length ≤ k
 | 0, l, h, hk => by
  cases l with
  | nil => exact Nat.le_refl _
  | cons x m =>
   have h1 := hk x (List.mem_cons_self ..)
   have h2 := (right_cons.1 h).1.1
   omega
 | k + 1, l, h, hk => by
  have h1 := len_filter (q := (k : Int)) h
  have h2 := len_below k (right_filter (fun x => !decide (x.c = (k : Int))) h) fun x hx => by
   obtain ⟨h3, h4⟩ := List.mem_filter.1 hx
   have h5 := hk x h3
   have h6 : ¬ x.c = (k : Int) := by simpa using h4
   omega
  omega
theorem right_len {l : List Rf} (h : Right l) : l.length ≤ 5 := len_below 5 h fun x hx => by
 obtain ⟨i, hi⟩ := List.mem_iff_getElem?.1 hx
 exact (h i (List.getElem?_eq_some_iff.1 hi).1 x hi).1.2.1
theorem fr_take {l : List Rf} {r x : Rf} (h : Right l) (hx : l[0]? = some x) (hm : mine x r) : frE l r = 0 ∧ frL l r = l.drop 1 ∧ frN l r = (l.drop 1).headD zero ∧ frS l r = decide (0 < (l.drop 1).length) := by
 have e := fr_yes h hx hm
 refine ⟨e, by unfold frL; rw [if_pos e], by unfold frN; rw [if_pos e], ?_⟩
 unfold frS
 rw [decide_eq_true e, Bool.true_and, List.length_drop]
 exact decide_eq_decide.2 (by omega)
end Lck
end Go.Proofs.YtpkodjllljnleaaGreat
namespace Go.Proofs.YtpkodjllljnleaaGreat
namespace Gt
open Lck
def Right (m : Int) (l : List Rf) : Prop := 1 ≤ m ∧ m ≤ 5 ∧ (l.length : Int) < m ∧ Lck.Right l
instance (m : Int) (l : List Rf) : Decidable (Right m l) := by unfold Right; infer_instance
def wtE (m : Int) (l : List Rf) (r : Rf) : Int := if Right m l ∧ ok r then (if asked l r.c then 11 else 0) else 1
def wtL (m : Int) (l : List Rf) (r : Rf) : List Rf := if wtE m l r = 0 then (if (l.length : Int) + 1 = m then [] else l ++ [r]) else l
def wtA (m : Int) (l : List Rf) (r : Rf) : List Rf := if wtE m l r = 0 ∧ (l.length : Int) + 1 = m then l ++ [r] else []
def drL (m : Int) (l : List Rf) (r : Rf) : List Rf := if Right m l then wo l r else l
variable {m : Int} {l : List Rf} {r : Rf}
theorem wt_no {z : Int} (e : wtE m l r = z) (hz : ¬ z = 0) : wtE m l r = z ∧ wtL m l r = l ∧ wtA m l r = [] := by
 have e2 : ¬ wtE m l r = 0 := by rw [e]; exact hz
 exact ⟨e, if_neg e2, if_neg (fun h => e2 h.1)⟩
theorem wt_bad (h : ¬ (Right m l ∧ ok r)) : wtE m l r = 1 ∧ wtL m l r = l ∧ wtA m l r = [] := wt_no (if_neg h) (by decide)
theorem wt_held (h1 : Right m l) (h2 : ok r) (h3 : asked l r.c = true) : wtE m l r = 11 ∧ wtL m l r = l ∧ wtA m l r = [] :=
 wt_no (by unfold wtE; rw [if_pos ⟨h1, h2⟩, if_pos h3]) (by decide)
theorem wt_ok (h1 : Right m l) (h2 : ok r) (h3 : asked l r.c = false) : wtE m l r = 0 := by
 unfold wtE; rw [if_pos ⟨h1, h2⟩, if_neg (by rw [h3]; decide)]
theorem wt_full (h1 : Right m l) (h2 : ok r) (h3 : asked l r.c = false) (h4 : (l.length : Int) + 1 = m) : wtE m l r = 0 ∧ wtL m l r = [] ∧ wtA m l r = l ++ [r] := by
 have e := wt_ok h1 h2 h3
 exact ⟨e, by unfold wtL; rw [if_pos e, if_pos h4], if_pos ⟨e, h4⟩⟩
theorem wt_more (h1 : Right m l) (h2 : ok r) (h3 : asked l r.c = false) (h4 : ¬ (l.length : Int) + 1 = m) : wtE m l r = 0 ∧ wtL m l r = l ++ [r] ∧ wtA m l r = [] := by
 have e := wt_ok h1 h2 h3
 exact ⟨e, by unfold wtL; rw [if_pos e, if_neg h4], if_neg (fun h => h4 h.2)⟩
theorem wt_is (h : wtE m l r = 0) : Right m l ∧ ok r ∧ asked l r.c = false := by
 unfold wtE at h
 split at h
 next hr =>
  split at h
  ·cases h
  next ha => exact ⟨hr.1, hr.2, Bool.eq_false_iff.2 ha⟩
 next => cases h
theorem dr_yes (h : Right m l) : drL m l r = wo l r := if_pos h
theorem dr_no (h : ¬ Right m l) : drL m l r = l := if_neg h
end Gt
end Go.Proofs.YtpkodjllljnleaaGreat
