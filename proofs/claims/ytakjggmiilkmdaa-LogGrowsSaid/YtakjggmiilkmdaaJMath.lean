/-
  The plain arithmetic of floats handed about as their 64 bits: the one NaN, the rank that orders them, the sum as IEEE 754 has it, the float nearest to a whole number.
  No condition but the bound of 64 bits where it is named.
  Values: which may be.
  Pure. (XValMath, of stage 4, has the same ahead of its orders and words: take one of the two.)
  What a command is, whether it may be; requests' names, events, their items.
  Pure but for how items lie.
-/
import Derived.Laws.BitsAllLaws
import Ieee.Arith
import Derived.Lib.Bytealg
namespace Go.Proofs.Ytakjggmiilkmdaa.Num

/-- The bit of the sign; infinity's bits; NaN's. -/
def sgn : Nat := 9223372036854775808
def inf : Nat := 9218868437227405312
def nan : Nat := 9221120237041090560
/-- One NaN for all bits that are no number. -/
def M (b : Nat) : Nat := if inf < b % sgn then nan else b
/-- Where bits stand in the order. -/
def rank (b : Nat) : Nat := if M b < sgn then M b + sgn else 18446744073709551615 - M b

theorem M_lt {b : Nat} (h : b < 18446744073709551616) : M b < 18446744073709551616 := by unfold M nan; split <;> omega
theorem M_nan {b : Nat} (h : inf < b % sgn) : M b = nan := if_pos h
theorem M_not {b : Nat} (h : ¬ inf < b % sgn) : M b = b := if_neg h
theorem M_M (b : Nat) : M (M b) = M b := by
  by_cases h : inf < b % sgn
  · rw [M_nan h]; rfl
  · rw [M_not h, M_not h]
theorem rank_lt {b : Nat} (h : b < 18446744073709551616) : rank b < 18446744073709551616 := by
  have := M_lt h; unfold rank sgn; split <;> omega
theorem rank_M (b : Nat) : rank (M b) = rank b := by unfold rank; rw [M_M]
theorem rank_inj {a b : Nat} (ha : a < 18446744073709551616) (hb : b < 18446744073709551616) (h : rank a = rank b) : M a = M b := by
  have h1 := M_lt ha
  have h2 := M_lt hb
  unfold rank sgn at h
  split at h <;> split at h <;> omega
/-- -1, 0 or 1. -/
def cmp (a b : Nat) : Int := if rank a < rank b then -1 else if rank b < rank a then 1 else 0
theorem cmp_turn (a b : Nat) : cmp a b = -cmp b a := by
  unfold cmp; split <;> split <;> (try split) <;> (try split) <;> omega
theorem cmp_self (a : Nat) : cmp a a = 0 := by unfold cmp; simp
theorem cmp_le {a b : Nat} : cmp a b ≤ 0 ↔ rank a ≤ rank b := by
  unfold cmp; split
  · constructor <;> intro <;> omega
  · split
    · constructor <;> intro <;> omega
    · constructor <;> intro <;> omega
theorem cmp_zero {a b : Nat} : cmp a b = 0 ↔ rank a = rank b := by
  unfold cmp; split
  · constructor <;> intro <;> omega
  · split
    · constructor <;> intro <;> omega
    · constructor <;> intro <;> omega
theorem cmp_same {a b : Nat} (ha : a < 18446744073709551616) (hb : b < 18446744073709551616) : cmp a b = 0 ↔ M a = M b := by
  rw [cmp_zero]
  exact ⟨rank_inj ha hb, fun h => by unfold rank; rw [h]⟩

/- The bits, as the code asks them. -/
theorem cut_sign (b : Nat) (h : b < 18446744073709551616) : bits .andNot .u64 (b : Int) 9223372036854775808 = ((b % sgn : Nat) : Int) := by
  have h1 := u64_andNot_nat b 9223372036854775808 h (by decide)
  have h2 : b &&& (18446744073709551615 - 9223372036854775808) = b % sgn := Nat.and_two_pow_sub_one_eq_mod b 63
  rw [h2] at h1
  exact h1
theorem and_sign (b : Nat) (h : b < 18446744073709551616) : bits .and .u64 (b : Int) 9223372036854775808 = ((b / sgn % 2 * sgn : Nat) : Int) := by
  have h1 := u64_and_nat b 9223372036854775808 h (by decide)
  have h2 : b &&& 9223372036854775808 = b / sgn % 2 * sgn := nat_bit 63 b
  rw [h2] at h1
  exact h1
theorem or_sign (b : Nat) (h : b < sgn) : bits .or .u64 (b : Int) 9223372036854775808 = ((b + sgn : Nat) : Int) := by
  have h1 := u64_or_nat b 9223372036854775808 (by unfold sgn at h; omega) (by decide)
  have h2 : b ||| 9223372036854775808 = b + sgn := by
    rw [Nat.or_comm, nat_join 63 9223372036854775808 b (by decide) h]; unfold sgn; omega
  rw [h2] at h1
  exact h1
theorem turn_all (b : Nat) (h : b < 18446744073709551616) : bits .xor .u64 18446744073709551615 (b : Int) = ((18446744073709551615 - b : Nat) : Int) := by
  have h1 := u64_xor_nat 18446744073709551615 b (by decide) h
  have h3 := congrArg BitVec.toNat (BitVec.allOnes_xor (x := BitVec.ofNat 64 b))
  rw [BitVec.toNat_xor, BitVec.toNat_not, BitVec.toNat_ofNat, Nat.mod_eq_of_lt (by omega), BitVec.toNat_allOnes] at h3
  have h4 : 18446744073709551615 ^^^ b = 18446744073709551615 - b := h3
  rw [h4] at h1
  exact h1
/-- The sign turned round. -/
def opp (b : Nat) : Nat := if b < sgn then b + sgn else b - sgn
theorem opp_lt {b : Nat} (h : b < 18446744073709551616) : opp b < 18446744073709551616 := by unfold opp sgn; split <;> omega
theorem xor_sign (b : Nat) (h : b < 18446744073709551616) : bits .xor .u64 (b : Int) 9223372036854775808 = ((opp b : Nat) : Int) := by
  have h1 := u64_xor_nat b 9223372036854775808 h (by decide)
  have h2 : b ^^^ 9223372036854775808 = opp b := by
    unfold opp
    split
    · rename_i hb
      have e : b ^^^ 9223372036854775808 = b ||| 9223372036854775808 := by
        apply Nat.eq_of_testBit_eq
        intro j
        rw [Nat.testBit_xor, Nat.testBit_or]
        have hj : Nat.testBit 9223372036854775808 j = decide (63 = j) := Nat.testBit_two_pow (n := 63) (m := j)
        rw [hj]
        by_cases h63 : 63 = j
        · subst h63
          rw [Nat.testBit_lt_two_pow (x := b) hb]; rfl
        · simp [h63]
      rw [e, Nat.or_comm, nat_join 63 9223372036854775808 b (by decide) hb]; unfold sgn; omega
    · rename_i hb
      have hb2 : sgn ≤ b := by omega
      have hc : b - sgn < sgn := by unfold sgn at *; omega
      have e0 : (b - sgn) ||| 9223372036854775808 = b := by
        rw [Nat.or_comm, nat_join 63 9223372036854775808 (b - sgn) (by decide) hc]; unfold sgn at *; omega
      apply Nat.eq_of_testBit_eq
      intro j
      rw [Nat.testBit_xor]
      have hj : Nat.testBit 9223372036854775808 j = decide (63 = j) := Nat.testBit_two_pow (n := 63) (m := j)
      rw [← e0, Nat.testBit_or, hj]
      by_cases h63 : 63 = j
      · subst h63
        rw [e0, Nat.testBit_lt_two_pow (x := b - sgn) hc]; simp
      · rw [e0]; simp [h63]
  rw [h2] at h1
  exact h1
theorem and_frac (b : Nat) (h : b < 18446744073709551616) : bits .and .u64 (b : Int) 4503599627370495 = ((b % 4503599627370496 : Nat) : Int) := by
  have h1 := u64_and_nat b 4503599627370495 h (by decide)
  have h2 : b &&& 4503599627370495 = b % 4503599627370496 := Nat.and_two_pow_sub_one_eq_mod b 52
  rw [h2] at h1
  exact h1
theorem and_exp (b : Nat) (h : b < 18446744073709551616) : bits .and .u64 (b : Int) 9218868437227405312 = ((b / 4503599627370496 % 2048 * 4503599627370496 : Nat) : Int) := by
  have h1 := u64_and_nat b 9218868437227405312 h (by decide)
  have h2 : b &&& 9218868437227405312 = b / 4503599627370496 % 2048 * 4503599627370496 := by
    have e1 : b / 4503599627370496 % 2048 * 4503599627370496 = ((b >>> 52) % 2 ^ 11) <<< 52 := by
      rw [Nat.shiftLeft_eq, Nat.shiftRight_eq_div_pow]
    have e2 : 9218868437227405312 = (2 ^ 11 - 1) <<< 52 := by decide
    rw [e1, e2]
    apply Nat.eq_of_testBit_eq
    intro j
    rw [Nat.testBit_and, Nat.testBit_shiftLeft, Nat.testBit_shiftLeft, Nat.testBit_mod_two_pow, Nat.testBit_shiftRight, Nat.testBit_two_pow_sub_one]
    by_cases hj : 52 ≤ j
    · have e3 : 52 + (j - 52) = j := by omega
      rw [e3]
      simp only [ge_iff_le, hj, decide_true, Bool.true_and]
      exact Bool.and_comm _ _
    · simp [hj]
  rw [h2] at h1
  exact h1
/-- It is no number: as the document's own text asks it. -/
theorem none_iff (b : Nat) : (b / 4503599627370496 % 2048 * 4503599627370496 = 9218868437227405312 ∧ b % 4503599627370496 ≠ 0) ↔ inf < b % sgn := by
  unfold inf sgn; omega

/- Floats. -/
open Ieee
theorem D_binade : double.binade = 4503599627370496 := by decide +kernel
theorem D_inf : double.infRung = inf := by decide +kernel
theorem D_sgn : double.signWeight = sgn := by decide +kernel
theorem D_least : double.leastPlace = -1074 := by decide +kernel

/-- What a sign and a rung stand for. -/
def rd (neg : Bool) (rung : Nat) : Datum :=
  if rung < 4503599627370496 then .number neg rung (-1074)
  else if rung < inf then .number neg (4503599627370496 + rung % 4503599627370496) (-1074 + (rung / 4503599627370496 - 1 : Nat))
  else if rung = inf then .infinity neg
  else .nan neg (rung - inf)
def isNeg (b : Nat) : Bool := b / sgn % 2 == 1
theorem read_eq (b : Nat) : double.read b = rd (isNeg b) (b % sgn) := by
  unfold Format.read rd isNeg
  rw [D_binade, D_inf, D_sgn, D_least]
theorem rd_nan {b : Nat} (h : inf < b % sgn) : ∃ s t, double.read b = .nan s t := by
  rw [read_eq]; unfold rd
  rw [if_neg (by unfold inf at h; omega), if_neg (by omega), if_neg (by omega)]
  exact ⟨_, _, rfl⟩
theorem rd_inf {b : Nat} (h : b % sgn = inf) : double.read b = .infinity (isNeg b) := by
  rw [read_eq]; unfold rd
  rw [if_neg (by rw [h]; decide), if_neg (by omega), if_pos h]
theorem nearest_zero (s : Bool) (p : Int) : double.nearest s 0 p = double.word s 0 := by unfold Format.nearest; rw [if_pos rfl]

theorem log2_of {n k : Nat} (h1 : 2 ^ k ≤ n) (h2 : n < 2 ^ (k + 1)) : n.log2 = k := by
  have hn : n ≠ 0 := by have := Nat.two_pow_pos k; omega
  exact (Nat.log2_eq_iff hn).2 ⟨h1, h2⟩

/-- A number with 53 digits or fewer, at its place, is written as its own rung. -/
theorem nearest_norm (s : Bool) (m e : Nat) (h1 : 4503599627370496 ≤ m) (h2 : m < 9007199254740992) :
    double.nearest s (m <<< e) (-1074) = double.word s (min (e * 4503599627370496 + m) inf) := by
  have hp := Nat.two_pow_pos e
  have hlog : (m <<< e).log2 = 52 + e := by
    refine log2_of ?_ ?_
    · rw [Nat.shiftLeft_eq, Nat.pow_add]; exact Nat.mul_le_mul_right _ h1
    · rw [Nat.shiftLeft_eq, show 52 + e + 1 = 53 + e from by omega, Nat.pow_add]; exact Nat.mul_lt_mul_of_pos_right h2 hp
  have hne : ¬ m <<< e = 0 := by
    rw [Nat.shiftLeft_eq]
    intro h
    rcases Nat.mul_eq_zero.1 h with h | h <;> omega
  unfold Format.nearest
  rw [if_neg hne, hlog, D_least, D_inf, D_binade]
  have hf : double.fractionBits = 52 := rfl
  rw [hf]
  have hmax : max ((-1074 : Int) + ((52 + e : Nat) : Int) - ((52 : Nat) : Int)) (-1074) = -1074 + e := by omega
  simp only [hmax]
  have a1 : ((-1074 : Int) - (-1074 + (e : Int))).toNat = 0 := by omega
  have a2 : ((-1074 + (e : Int)) - (-1074)).toNat = e := by omega
  rw [a1, a2]
  have hcut : Toward.even.cut s (m <<< e <<< 0) e = m := by
    unfold Toward.cut
    have g : (1 <<< min e ((m <<< e <<< 0).log2 + 2)) = 2 ^ e := by
      rw [Nat.shiftLeft_zero, hlog, Nat.min_eq_left (by omega), Nat.shiftLeft_eq, Nat.one_mul]
    simp only [g]
    rw [Nat.shiftLeft_zero, Nat.shiftLeft_eq, Nat.mul_div_cancel _ hp, Nat.mul_mod_left]
    have c1 : decide (2 ^ e < 2 * 0) = false := by simp
    have c2 : (2 ^ e == 2 * 0) = false := by rw [beq_eq_false_iff_ne]; omega
    rw [c1, c2]; rfl
  rw [hcut]

theorem nearest_sub (s : Bool) (m : Nat) (h0 : m ≠ 0) (h2 : m < 4503599627370496) :
    double.nearest s m (-1074) = double.word s m := by
  have hlog : m.log2 < 52 := (Nat.log2_lt h0).2 h2
  unfold Format.nearest
  rw [if_neg h0, D_least, D_inf, D_binade]
  have hf : double.fractionBits = 52 := rfl
  rw [hf]
  have hmax : max ((-1074 : Int) + (m.log2 : Int) - ((52 : Nat) : Int)) (-1074) = -1074 := by omega
  simp only [hmax]
  have a1 : ((-1074 : Int) - (-1074)).toNat = 0 := by decide
  rw [a1]
  have hcut : Toward.even.cut s (m <<< 0) 0 = m := by
    unfold Toward.cut
    have g : (1 <<< min 0 ((m <<< 0).log2 + 2)) = 1 := by rw [Nat.zero_min]; rfl
    simp only [g]
    rw [Nat.shiftLeft_zero, Nat.div_one, Nat.mod_one]
    rfl
  rw [hcut, Nat.zero_mul, Nat.zero_add, Nat.min_eq_left (by unfold inf; omega)]

/-- A finite float: its number, with the place no lower than the least; written at the least place it is the rung itself. -/
theorem rd_fin {rung : Nat} (h : rung < inf) : ∃ m i, -1074 ≤ i ∧ (∀ s, rd s rung = .number s m i) ∧ ∀ s, double.nearest s (m <<< (i - (-1074)).toNat) (-1074) = double.word s rung := by
  by_cases hs : rung < 4503599627370496
  · refine ⟨rung, -1074, by omega, fun s => by unfold rd; rw [if_pos hs], fun s => ?_⟩
    have a1 : ((-1074 : Int) - (-1074)).toNat = 0 := by decide
    rw [a1, Nat.shiftLeft_zero]
    by_cases h0 : rung = 0
    · subst h0; exact nearest_zero s _
    · exact nearest_sub s rung h0 hs
  · refine ⟨4503599627370496 + rung % 4503599627370496, -1074 + (rung / 4503599627370496 - 1 : Nat), by omega, fun s => by unfold rd; rw [if_neg hs, if_pos h], fun s => ?_⟩
    have a1 : ((-1074 + ((rung / 4503599627370496 - 1 : Nat) : Int)) - (-1074)).toNat = rung / 4503599627370496 - 1 := by omega
    rw [a1, nearest_norm s _ _ (by omega) (by omega)]
    congr 1
    rw [Nat.min_eq_left (by unfold inf at *; omega)]
    omega

/-- The word of a sign and a rung. -/
theorem word_eq (s : Bool) (r : Nat) : double.word s r = if s then sgn + r else r := by unfold Format.word; rw [D_sgn]
theorem word_back {b : Nat} (h : b < 18446744073709551616) : double.word (isNeg b) (b % sgn) = b := by
  rw [word_eq]; unfold isNeg sgn
  split <;> rename_i hb <;> simp only [beq_iff_eq] at hb <;> omega

/-- The sum's bits, one NaN for all. -/
def S (u v : Nat) : Nat := match double.add u v with
  | some r => M r
  | none => nan
/-- What '+' may hand back. -/
def IsSum (u v r : Nat) : Prop := double.add u v = some r ∨ (double.add u v = none ∧ inf < r % sgn)
theorem IsSum.eq {u v r : Nat} (h : IsSum u v r) : M r = S u v := by
  unfold S
  rcases h with h | ⟨h, h2⟩
  · rw [h]
  · rw [h, M_nan h2]

theorem M_mod (b : Nat) : (inf < M b % sgn) ↔ inf < b % sgn := by
  by_cases h : inf < b % sgn
  · rw [M_nan h]; exact ⟨fun _ => h, fun _ => by decide⟩
  · rw [M_not h]
theorem add_nan_l {u v : Nat} (h : inf < u % sgn) : double.add u v = none := by
  obtain ⟨s, t, h1⟩ := rd_nan h
  unfold Format.add; rw [h1]; rfl
theorem add_nan_r {u v : Nat} (h : inf < v % sgn) : double.add u v = none := by
  obtain ⟨s, t, h1⟩ := rd_nan h
  unfold Format.add; rw [h1]
  cases double.read u <;> rfl
theorem S_M (a b : Nat) : S (M a) (M b) = S a b := by
  by_cases ha : inf < a % sgn
  · unfold S; rw [add_nan_l ha, add_nan_l ((M_mod a).2 ha)]
  · by_cases hb : inf < b % sgn
    · unfold S; rw [add_nan_r hb, add_nan_r ((M_mod b).2 hb)]
    · rw [M_not ha, M_not hb]
theorem sum_comm (x y : Datum) : x.sum y = y.sum x := by
  cases x <;> cases y <;> try rfl
  · rename_i s m i t n j
    unfold Datum.sum
    have e1 : min i j = min j i := Int.min_comm _ _
    simp only [e1]
    have e2 : signed s m (i - min j i).toNat + signed t n (j - min j i).toNat = signed t n (j - min j i).toNat + signed s m (i - min j i).toNat := Int.add_comm _ _
    simp only [e2, Bool.and_comm s t]
  · rename_i s t
    show (if s = t then some (Datum.infinity s) else none) = (if t = s then some (Datum.infinity t) else none)
    by_cases h : s = t
    · subst h; rfl
    · rw [if_neg h, if_neg (fun e => h e.symm)]
theorem S_comm (a b : Nat) : S a b = S b a := by unfold S Format.add; rw [sum_comm]
theorem S_nan (a : Nat) : S a nan = nan := by unfold S; rw [add_nan_r (by decide)]

theorem write_inf (s : Bool) : double.write (.infinity s) = double.word s inf := by show double.word s double.infRung = _; rw [D_inf]
theorem inf_same {a : Nat} (h : a < 18446744073709551616) (hi : a % sgn = inf) : S a a = a := by
  have h1 : double.add a a = some a := by
    unfold Format.add; rw [rd_inf hi]
    show Option.map double.write (if isNeg a = isNeg a then some (Datum.infinity (isNeg a)) else none) = _
    rw [if_pos rfl, Option.map_some, write_inf, ← hi, word_back h]
  unfold S; rw [h1]
  exact M_not (by omega)
theorem opp_mod {a : Nat} (h : a < 18446744073709551616) : opp a % sgn = a % sgn := by unfold opp sgn; split <;> omega
theorem opp_neg {a : Nat} (h : a < 18446744073709551616) : isNeg (opp a) = !isNeg a := by
  unfold opp isNeg sgn
  by_cases hb : a < 9223372036854775808
  · rw [if_pos hb, show (a + 9223372036854775808) / 9223372036854775808 = 1 from by omega, show a / 9223372036854775808 = 0 from by omega]; rfl
  · rw [if_neg hb, show (a - 9223372036854775808) / 9223372036854775808 = 0 from by omega, show a / 9223372036854775808 = 1 from by omega]; rfl
theorem inf_opp {a : Nat} (h : a < 18446744073709551616) (hi : a % sgn = inf) : S a (opp a) = nan := by
  have h1 : double.add a (opp a) = none := by
    unfold Format.add; rw [rd_inf hi, rd_inf (by rw [opp_mod h]; exact hi), opp_neg h]
    show Option.map double.write (if isNeg a = (!isNeg a) then some (Datum.infinity (isNeg a)) else none) = _
    rw [if_neg (by cases isNeg a <;> simp)]; rfl
  unfold S; rw [h1]
theorem read_fin {b : Nat} (h : b % sgn < inf) : ∃ m i, -1074 ≤ i ∧ double.read b = .number (isNeg b) m i ∧ (∀ c, c % sgn = b % sgn → double.read c = .number (isNeg c) m i) ∧ ∀ s, double.nearest s (m <<< (i - (-1074)).toNat) (-1074) = double.word s (b % sgn) := by
  obtain ⟨m, i, hi, hr, hn⟩ := rd_fin h
  exact ⟨m, i, hi, by rw [read_eq, hr], fun c hc => by rw [read_eq, hc, hr], hn⟩
theorem inf_add {a b : Nat} (h : a < 18446744073709551616) (hi : a % sgn = inf) (hb : b % sgn < inf) : S a b = a := by
  have h1 : double.add a b = some a := by
    obtain ⟨m, i, -, hr, -⟩ := read_fin hb
    unfold Format.add; rw [rd_inf hi, hr]
    show Option.map double.write (some (Datum.infinity (isNeg a))) = _
    rw [Option.map_some, write_inf, ← hi, word_back h]
  unfold S; rw [h1]
  exact M_not (by omega)
theorem fin_opp {a : Nat} (h : a < 18446744073709551616) (ha : a % sgn < inf) : S a (opp a) = 0 := by
  have h1 : double.add a (opp a) = some 0 := by
    obtain ⟨m, i, -, hr, hr2, -⟩ := read_fin ha
    unfold Format.add; rw [hr, hr2 _ (opp_mod h), opp_neg h]
    have ht : signed (isNeg a) m (i - min i i).toNat + signed (!isNeg a) m (i - min i i).toNat = 0 := by
      unfold signed
      cases isNeg a
      · simp; omega
      · simp; omega
    show Option.map double.write (some (.number (if signed (isNeg a) m (i - min i i).toNat + signed (!isNeg a) m (i - min i i).toNat = 0 then isNeg a && !isNeg a else _) (signed (isNeg a) m (i - min i i).toNat + signed (!isNeg a) m (i - min i i).toNat).natAbs (min i i))) = _
    rw [ht, if_pos rfl, Option.map_some]
    show some (double.nearest _ 0 _) = _
    rw [nearest_zero, Bool.and_not_self, word_eq]; rfl
  unfold S; rw [h1]; rfl
theorem read_neg_zero : double.read sgn = .number true 0 (-1074) := by decide +kernel
theorem fin_zero {a : Nat} (h : a < 18446744073709551616) (ha : a % sgn < inf) : S a sgn = a := by
  have h1 : double.add a sgn = some a := by
    obtain ⟨m, i, hi, hr, -, hn⟩ := read_fin ha
    have hm : min i (-1074) = -1074 := by omega
    unfold Format.add; rw [hr, read_neg_zero]
    obtain ⟨V, hV⟩ : ∃ V, V = m <<< (i - (-1074)).toNat := ⟨_, rfl⟩
    have ht : signed (isNeg a) m (i - min i (-1074)).toNat + signed true 0 ((-1074) - min i (-1074)).toNat = if isNeg a then -(V : Int) else (V : Int) := by
      unfold signed
      rw [hm, ← hV]
      cases isNeg a <;> simp
    show Option.map double.write (some (.number (if signed (isNeg a) m (i - min i (-1074)).toNat + signed true 0 ((-1074) - min i (-1074)).toNat = 0 then isNeg a && true else decide (signed (isNeg a) m (i - min i (-1074)).toNat + signed true 0 ((-1074) - min i (-1074)).toNat < 0)) (signed (isNeg a) m (i - min i (-1074)).toNat + signed true 0 ((-1074) - min i (-1074)).toNat).natAbs (min i (-1074)))) = _
    rw [ht, hm, Option.map_some]
    show some (double.nearest _ _ _) = _
    have hs : (if (if isNeg a then -(V : Int) else (V : Int)) = 0 then isNeg a && true else decide ((if isNeg a then -(V : Int) else (V : Int)) < 0)) = isNeg a := by
      cases isNeg a
      · simp
      · by_cases hz : V = 0
        · simp [hz]
        · simp only [if_true]; rw [if_neg (by omega)]; exact decide_eq_true (by omega)
    have ha2 : (if isNeg a then -(V : Int) else (V : Int)).natAbs = V := by cases isNeg a <;> simp
    rw [hs, ha2, hV, hn, word_back h]
  unfold S; rw [h1]
  exact M_not (by omega)
theorem add_zero {a : Nat} (h : a < 18446744073709551616) (hm : M a = a) : S a sgn = a := by
  by_cases h1 : inf < a % sgn
  · have : a = nan := by rw [M_nan h1] at hm; exact hm.symm
    subst this
    rw [S_comm, S_nan]
  · by_cases h2 : a % sgn = inf
    · exact inf_add h h2 (by decide)
    · exact fin_zero h (by omega)

/- Whole numbers. -/
def rnd (g n : Nat) : Nat := n / g + (decide (g < 2 * (n % g)) || (g == 2 * (n % g) && n / g % 2 == 1)).toNat
theorem toNat_le (b : Bool) : b.toNat ≤ 1 := by cases b <;> decide
theorem rnd_mono {g a b : Nat} (h : a ≤ b) : rnd g a ≤ rnd g b := by
  have hq : a / g ≤ b / g := Nat.div_le_div_right h
  unfold rnd
  by_cases hlt : a / g < b / g
  · have := toNat_le (decide (g < 2 * (a % g)) || (g == 2 * (a % g) && a / g % 2 == 1))
    omega
  · have he : a / g = b / g := by omega
    have h1 := Nat.div_add_mod a g
    have h2 := Nat.div_add_mod b g
    rw [he] at h1 ⊢
    have hr : a % g ≤ b % g := by omega
    refine Nat.add_le_add_left ?_ _
    by_cases c1 : g < 2 * (b % g)
    · rw [decide_eq_true c1]; exact toNat_le _
    · rw [decide_eq_false (show ¬ g < 2 * (a % g) from by omega)]
      by_cases c2 : g = 2 * (a % g)
      · have c3 : g = 2 * (b % g) := by omega
        rw [← c2, ← c3]; simp
      · rw [show (g == 2 * (a % g)) = false from by rw [beq_eq_false_iff_ne]; exact c2]; exact Nat.zero_le _
theorem rnd_one (n : Nat) : rnd 1 n = n := by
  unfold rnd; rw [Nat.div_one, Nat.mod_one]; rfl
theorem rnd_bd {g n : Nat} (hg : 0 < g) (a b : Nat) (h1 : a * g ≤ n) (h2 : n < b * g) : a ≤ rnd g n ∧ rnd g n ≤ b := by
  have l1 : a ≤ n / g := (Nat.le_div_iff_mul_le hg).2 h1
  have l2 : n / g < b := (Nat.div_lt_iff_lt_mul hg).2 h2
  have := toNat_le (decide (g < 2 * (n % g)) || (g == 2 * (n % g) && n / g % 2 == 1))
  unfold rnd
  exact ⟨by omega, by omega⟩
/-- The digits that are kept of a number whose first digit stands at place L. -/
def kept (L n : Nat) : Nat := rnd (2 ^ (L - 52)) (n * 2 ^ (52 - L))
theorem kept_mono {L a b : Nat} (h : a ≤ b) : kept L a ≤ kept L b := rnd_mono (Nat.mul_le_mul_right _ h)
theorem kept_bd {L n : Nat} (h1 : 2 ^ L ≤ n) (h2 : n < 2 ^ (L + 1)) : 4503599627370496 ≤ kept L n ∧ kept L n ≤ 9007199254740992 := by
  unfold kept
  refine rnd_bd (Nat.two_pow_pos _) _ _ ?_ ?_
  · have e : 4503599627370496 * 2 ^ (L - 52) = 2 ^ L * 2 ^ (52 - L) := by
      rw [show 4503599627370496 = 2 ^ 52 from rfl, ← Nat.pow_add, ← Nat.pow_add]
      congr 1; omega
    rw [e]; exact Nat.mul_le_mul_right _ h1
  · have e : 9007199254740992 * 2 ^ (L - 52) = 2 ^ (L + 1) * 2 ^ (52 - L) := by
      rw [show 9007199254740992 = 2 ^ 53 from rfl, ← Nat.pow_add, ← Nat.pow_add]
      congr 1; omega
    rw [e]; exact Nat.mul_lt_mul_of_pos_right h2 (Nat.two_pow_pos _)
/-- The rung of the float nearest to a whole number. -/
def rung (n : Nat) : Nat := if n = 0 then 0 else min ((n.log2 + 1022) * 4503599627370496 + kept n.log2 n) inf
theorem rung_le (n : Nat) : rung n ≤ inf := by unfold rung; split <;> omega
theorem log2_bd {n : Nat} (h : n ≠ 0) : 2 ^ n.log2 ≤ n ∧ n < 2 ^ (n.log2 + 1) := (Nat.log2_eq_iff h).1 rfl
theorem nearest_whole (s : Bool) (n : Nat) : double.nearest s n 0 = double.word s (rung n) := by
  unfold rung
  by_cases h0 : n = 0
  · subst h0; rw [nearest_zero, if_pos rfl]
  · rw [if_neg h0]
    have hb := log2_bd h0
    generalize hL : n.log2 = L at *
    unfold Format.nearest
    rw [if_neg h0, hL, D_least, D_inf, D_binade]
    have hf : double.fractionBits = 52 := rfl
    rw [hf]
    have hmax : max ((0 : Int) + (L : Int) - ((52 : Nat) : Int)) (-1074) = (L : Int) - 52 := by omega
    simp only [hmax]
    have a1 : ((0 : Int) - ((L : Int) - 52)).toNat = 52 - L := by omega
    have a2 : (((L : Int) - 52) - 0).toNat = L - 52 := by omega
    have a3 : (((L : Int) - 52) - (-1074)).toNat = L + 1022 := by omega
    rw [a1, a2, a3]
    have hcut : Toward.even.cut s (n <<< (52 - L)) (L - 52) = kept L n := by
      unfold Toward.cut kept rnd
      have g : (1 <<< min (L - 52) ((n <<< (52 - L)).log2 + 2)) = 2 ^ (L - 52) := by
        rw [Nat.shiftLeft_eq, Nat.one_mul]
        congr 1
        by_cases hl : L ≤ 52
        · omega
        · rw [show 52 - L = 0 from by omega, Nat.shiftLeft_zero, hL]; omega
      simp only [g]
      rw [Nat.shiftLeft_eq]
    rw [hcut]
theorem rung_step {L K p q : Nat} (hl : L ≤ K) (ka : 4503599627370496 ≤ p ∧ p ≤ 9007199254740992) (kb : 4503599627370496 ≤ q ∧ q ≤ 9007199254740992) (h : L = K → p ≤ q) :
    min ((L + 1022) * 4503599627370496 + p) inf ≤ min ((K + 1022) * 4503599627370496 + q) inf := by
  by_cases he : L = K
  · have := h he; subst he; omega
  · omega
theorem rung_mono {a b : Nat} (h : a ≤ b) : rung a ≤ rung b := by
  unfold rung
  by_cases ha : a = 0
  · rw [if_pos ha]; exact Nat.zero_le _
  · have hb : b ≠ 0 := by omega
    rw [if_neg ha, if_neg hb]
    obtain ⟨a1, a2⟩ := log2_bd ha
    obtain ⟨b1, b2⟩ := log2_bd hb
    have ka := kept_bd a1 a2
    have kb := kept_bd b1 b2
    have hl : a.log2 ≤ b.log2 := by
      by_cases hc : a.log2 ≤ b.log2
      · exact hc
      · have h3 : 2 ^ (b.log2 + 1) ≤ 2 ^ a.log2 := Nat.pow_le_pow_right (by decide) (by omega)
        exact absurd (Nat.lt_of_le_of_lt (Nat.le_trans h3 a1) (Nat.lt_of_le_of_lt h b2)) (Nat.lt_irrefl _)
    have km := fun L => kept_mono (L := L) h
    exact rung_step hl ka kb (fun e => by rw [e]; exact km _)

/-- The float of a whole number. -/
def ofInt (n : Int) : Nat := double.write (.number (n < 0) n.natAbs 0)
theorem ofInt_eq (n : Int) : ofInt n = double.word (decide (n < 0)) (rung n.natAbs) := nearest_whole _ _
theorem word_rank (s : Bool) {r : Nat} (h : r ≤ inf) : rank (double.word s r) = if s then sgn - 1 - r else r + sgn := by
  rw [word_eq]
  cases s
  · show rank r = r + sgn
    have hm : M r = r := M_not (by unfold inf sgn at *; omega)
    unfold rank; rw [hm, if_pos (by unfold inf sgn at *; omega)]
  · show rank (sgn + r) = sgn - 1 - r
    have hm : M (sgn + r) = sgn + r := M_not (by unfold inf sgn at *; omega)
    unfold rank; rw [hm, if_neg (by unfold inf sgn at *; omega)]; unfold sgn; omega
theorem ofInt_mono {n m : Int} (h : n ≤ m) : rank (ofInt n) ≤ rank (ofInt m) := by
  have r1 := rung_le n.natAbs
  have r2 := rung_le m.natAbs
  rw [ofInt_eq, ofInt_eq, word_rank _ r1, word_rank _ r2]
  by_cases hn : n < 0
  · by_cases hm : m < 0
    · have := rung_mono (show m.natAbs ≤ n.natAbs by omega)
      simp only [hn, hm, decide_true, if_true]; unfold inf sgn at *; omega
    · simp only [hn, hm, decide_true, decide_false, if_true]; unfold inf sgn at *; simp; omega
  · have hm : ¬ m < 0 := by omega
    have := rung_mono (show n.natAbs ≤ m.natAbs by omega)
    simp [hn, hm]; omega
theorem ofInt_lt (n : Int) : ofInt n < 18446744073709551616 := by
  have := rung_le n.natAbs
  rw [ofInt_eq, word_eq]; unfold inf sgn at *; split <;> omega

end Go.Proofs.Ytakjggmiilkmdaa.Num
set_option linter.unusedSimpArgs false
set_option linter.unusedVariables false
namespace Go.Proofs.Ytakjggmiilkmdaa
namespace Val
structure V where
  k : Int
  n : Int
  f : Nat
  s : ByteArray
def chk (v : V) : Int :=
  if v.k < 0 ∨ 3 < v.k then 1
  else if v.n ≠ 0 ∧ v.k ≠ 1 then 1
  else if v.f ≠ 0 ∧ v.k ≠ 2 then 1
  else if v.s.size ≠ 0 ∧ v.k ≠ 3 then 1
  else if Num.M v.f ≠ v.f then 1
  else if 64 < v.s.size then 2 else 0
def emp : ByteArray := ⟨#[]⟩
def zero : V := ⟨0, 0, 0, emp⟩
theorem size_zero {s : ByteArray} (h : s.size = 0) : s = emp := by
  apply ByteArray.ext
  exact Array.eq_empty_of_size_eq_zero h
theorem chk_ok {v : V} (h : chk v = 0) : v = ⟨0, 0, 0, emp⟩ ∨ v = ⟨1, v.n, 0, emp⟩ ∨ (v = ⟨2, 0, v.f, emp⟩ ∧ Num.M v.f = v.f) ∨ (v = ⟨3, 0, 0, v.s⟩ ∧ v.s.size ≤ 64) := by
  obtain ⟨k, n, f, s⟩ := v
  unfold chk at h
  simp only at h ⊢
  split at h
  · cases h
  split at h
  · cases h
  split at h
  · cases h
  split at h
  · cases h
  split at h
  · cases h
  split at h
  · cases h
  next h1 h2 h3 h4 h5 h6 =>
  have h5 : Num.M f = f := Decidable.byContradiction h5
  have hk : k = 0 ∨ k = 1 ∨ k = 2 ∨ k = 3 := by omega
  rcases hk with rfl | rfl | rfl | rfl
  · obtain rfl : n = 0 := by omega
    obtain rfl : f = 0 := by omega
    obtain rfl := size_zero (s := s) (by omega)
    exact .inl rfl
  · obtain rfl : f = 0 := by omega
    obtain rfl := size_zero (s := s) (by omega)
    exact .inr (.inl rfl)
  · obtain rfl : n = 0 := by omega
    obtain rfl := size_zero (s := s) (by omega)
    exact .inr (.inr (.inl ⟨rfl, h5⟩))
  · obtain rfl : n = 0 := by omega
    obtain rfl : f = 0 := by omega
    exact .inr (.inr (.inr ⟨rfl, by omega⟩))
theorem M_zero : Num.M 0 = 0 := by decide
theorem chk_none : chk zero = 0 := by
  unfold chk zero
  rw [if_neg (by decide), if_neg (by decide), if_neg (by decide), if_neg (by decide), if_neg (by decide), if_neg (by decide)]
theorem emp_size : emp.size = 0 := rfl
theorem chk_int (n : Int) : chk ⟨1, n, 0, emp⟩ = 0 := by
  unfold chk
  rw [if_neg (show ¬ ((1 : Int) < 0 ∨ 3 < (1 : Int)) by decide), if_neg (by simp), if_neg (by simp), if_neg (by intro h; exact h.1 rfl), if_neg (by rw [M_zero]; simp), if_neg (by rw [emp_size]; decide)]
theorem chk_float {f : Nat} (h : Num.M f = f) : chk ⟨2, 0, f, emp⟩ = 0 := by
  unfold chk
  rw [if_neg (show ¬ ((2 : Int) < 0 ∨ 3 < (2 : Int)) by decide), if_neg (by simp), if_neg (by simp), if_neg (by intro h; exact h.1 rfl), if_neg (by rw [h]; simp), if_neg (by rw [emp_size]; decide)]
theorem chk_text (s : ByteArray) : chk ⟨3, 0, 0, s⟩ = if 64 < s.size then 2 else 0 := by
  unfold chk
  rw [if_neg (show ¬ ((3 : Int) < 0 ∨ 3 < (3 : Int)) by decide), if_neg (by simp), if_neg (by simp), if_neg (by simp), if_neg (by rw [M_zero]; simp)]
/-- A word of 64 bits, as a number with a sign. -/
def sg (f : Nat) : Int := if f < 9223372036854775808 then f else (f : Int) - 18446744073709551616
/-- And back. -/
def us (n : Int) : Nat := (n % 18446744073709551616).toNat
theorem us_sg {f : Nat} (h : f < 18446744073709551616) : us (sg f) = f := by unfold us sg; split <;> omega
instance : DecidableEq V := fun a b => decidable_of_iff (a.k = b.k ∧ a.n = b.n ∧ a.f = b.f ∧ a.s = b.s) ⟨fun h => by
  obtain ⟨k, n, f, s⟩ := a
  obtain ⟨k', n', f', s'⟩ := b
  obtain ⟨rfl, rfl, rfl, rfl⟩ := h
  rfl, fun h => by rw [h]; exact ⟨rfl, rfl, rfl, rfl⟩⟩
theorem str_inj {a b : ByteArray} (h : a.toList = b.toList) : a = b := by
  rw [ByteArray.toList_eq, ByteArray.toList_eq] at h
  apply ByteArray.ext
  exact Array.toList_inj.1 h
theorem str_iff {a b : ByteArray} : a = b ↔ a.toList = b.toList := ⟨fun h => by rw [h], str_inj⟩
end Val
end Go.Proofs.Ytakjggmiilkmdaa
set_option linter.unusedSimpArgs false
set_option linter.unusedVariables false
namespace Go.Proofs.Ytakjggmiilkmdaa
namespace Cmd
structure C where
  k : Int
  name : ByteArray
  key : ByteArray
  val : Val.V
  old : Val.V
  n : Int
  m : Int
structure E where
  c : Int
  e : Int
  r : Int
  cmd : C
/-- What a kind names: the name, the key, the old value, the value, N, M. -/
def f0 (k : Int) : Bool := decide (4 ≤ k ∧ k ≤ 17)
def f1 (k : Int) : Bool := decide (6 ≤ k ∧ k ≤ 9)
def f2 (k : Int) : Bool := decide (k = 9)
def f3 (k : Int) : Bool := decide (k = 7 ∨ k = 9 ∨ k = 10 ∨ k = 15)
def f4 (k : Int) : Bool := decide (k = 4 ∨ k = 16)
def f5 (k : Int) : Bool := decide (k = 4)
/-- Nothing. -/
def nil (v : Val.V) : Prop := v.k = 0 ∧ v.n = 0 ∧ v.f = 0 ∧ v.s.size = 0
instance (v : Val.V) : Decidable (nil v) := by unfold nil; infer_instance
/-- What a kind doesn't name is nothing. -/
def others (c : C) : Prop := (f0 c.k = true ∨ c.name.size = 0) ∧ (f1 c.k = true ∨ c.key.size = 0) ∧ (f2 c.k = true ∨ nil c.old) ∧ (f3 c.k = true ∨ nil c.val) ∧ (f4 c.k = true ∨ c.n = 0) ∧ (f5 c.k = true ∨ c.m = 0)
instance (c : C) : Decidable (others c) := by unfold others; infer_instance
/-- Its numbers may be. -/
def nums (c : C) : Prop :=
  if c.k = 16 then 0 ≤ c.n ∧ c.n ≤ 3 else if c.k ≠ 4 then True else
  if c.n = 2 then 1 ≤ c.m ∧ c.m ≤ 8 else if c.n = 4 then 1 ≤ c.m ∧ c.m ≤ 5 else 1 ≤ c.n ∧ c.n ≤ 5 ∧ c.m = 0
instance (c : C) : Decidable (nums c) := by unfold nums; infer_instance
def chk (c : C) : Int :=
  if c.k < 1 ∨ 18 < c.k ∨ ¬ others c ∨ (f0 c.k = true ∧ c.name.size = 0) then 1
  else if 16 < c.name.size ∨ 64 < c.key.size then 2
  else if Val.chk c.old ≠ 0 then Val.chk c.old
  else if Val.chk c.val ≠ 0 then Val.chk c.val
  else if (c.k = 7 ∨ c.k = 10) ∧ c.val.k = 0 then 1
  else if c.k = 15 ∧ c.val.k ≠ 2 then 7
  else if ¬ nums c then 1 else 0
/-- The ways through. -/
theorem chk_cases (c : C) : ((c.k < 1 ∨ 18 < c.k) ∧ chk c = 1) ∨ (¬ (c.k < 1 ∨ 18 < c.k) ∧ decide (others c) = false ∧ True ∧ chk c = 1) ∨
    (¬ (c.k < 1 ∨ 18 < c.k) ∧ decide (others c) = true ∧ f0 c.k = true ∧ c.name.size = 0 ∧ True ∧ chk c = 1) ∨
    (¬ (c.k < 1 ∨ 18 < c.k) ∧ decide (others c) = true ∧ ¬ (f0 c.k = true ∧ c.name.size = 0) ∧ (16 < c.name.size ∨ 64 < c.key.size) ∧ True ∧ chk c = 2) ∨
    (¬ (c.k < 1 ∨ 18 < c.k) ∧ decide (others c) = true ∧ ¬ (f0 c.k = true ∧ c.name.size = 0) ∧ ¬ (16 < c.name.size ∨ 64 < c.key.size) ∧ Val.chk c.old ≠ 0 ∧ True ∧ chk c = Val.chk c.old) ∨
    (¬ (c.k < 1 ∨ 18 < c.k) ∧ decide (others c) = true ∧ ¬ (f0 c.k = true ∧ c.name.size = 0) ∧ ¬ (16 < c.name.size ∨ 64 < c.key.size) ∧ Val.chk c.old = 0 ∧ Val.chk c.val ≠ 0 ∧ True ∧ chk c = Val.chk c.val) ∨
    (¬ (c.k < 1 ∨ 18 < c.k) ∧ decide (others c) = true ∧ ¬ (f0 c.k = true ∧ c.name.size = 0) ∧ ¬ (16 < c.name.size ∨ 64 < c.key.size) ∧ Val.chk c.old = 0 ∧ Val.chk c.val = 0 ∧
      (((c.k = 7 ∨ c.k = 10) ∧ c.val.k = 0 ∧ chk c = 1) ∨ (¬ ((c.k = 7 ∨ c.k = 10) ∧ c.val.k = 0) ∧ c.k = 15 ∧ c.val.k ≠ 2 ∧ chk c = 7) ∨ (¬ ((c.k = 7 ∨ c.k = 10) ∧ c.val.k = 0) ∧ ¬ (c.k = 15 ∧ c.val.k ≠ 2) ∧ decide (nums c) = false ∧ chk c = 1) ∨ (¬ ((c.k = 7 ∨ c.k = 10) ∧ c.val.k = 0) ∧ ¬ (c.k = 15 ∧ c.val.k ≠ 2) ∧ decide (nums c) = true ∧ chk c = 0))) := by
  unfold chk
  by_cases h1 : c.k < 1 ∨ 18 < c.k
  · refine .inl ⟨h1, ?_⟩
    rw [if_pos (by omega)]
  · by_cases h2 : others c
    · have d2 : decide (others c) = true := decide_eq_true h2
      by_cases h3 : f0 c.k = true ∧ c.name.size = 0
      · exact .inr (.inr (.inl ⟨h1, d2, h3.1, h3.2, trivial, by rw [if_pos (.inr (.inr (.inr h3)))]⟩))
      · rw [if_neg (by rintro (h | h | h | h); exact h1 (.inl h); exact h1 (.inr h); exact h h2; exact h3 h)]
        by_cases h4 : 16 < c.name.size ∨ 64 < c.key.size
        · exact .inr (.inr (.inr (.inl ⟨h1, d2, h3, h4, trivial, by rw [if_pos h4]⟩)))
        · rw [if_neg h4]
          by_cases h5 : Val.chk c.old ≠ 0
          · exact .inr (.inr (.inr (.inr (.inl ⟨h1, d2, h3, h4, h5, trivial, by rw [if_pos h5]⟩))))
          · rw [if_neg h5]
            have h5 : Val.chk c.old = 0 := Decidable.byContradiction h5
            by_cases h6 : Val.chk c.val ≠ 0
            · exact .inr (.inr (.inr (.inr (.inr (.inl ⟨h1, d2, h3, h4, h5, h6, trivial, by rw [if_pos h6]⟩)))))
            · rw [if_neg h6]
              have h6 : Val.chk c.val = 0 := Decidable.byContradiction h6
              refine .inr (.inr (.inr (.inr (.inr (.inr ⟨h1, d2, h3, h4, h5, h6, ?_⟩)))))
              by_cases h7 : (c.k = 7 ∨ c.k = 10) ∧ c.val.k = 0
              · exact .inl ⟨h7.1, h7.2, by rw [if_pos h7]⟩
              · rw [if_neg h7]
                by_cases h8 : c.k = 15 ∧ c.val.k ≠ 2
                · exact .inr (.inl ⟨h7, h8.1, h8.2, by rw [if_pos h8]⟩)
                · rw [if_neg h8]
                  by_cases h9 : nums c
                  · exact .inr (.inr (.inr ⟨h7, h8, decide_eq_true h9, by rw [if_neg (fun h => h h9)]⟩))
                  · exact .inr (.inr (.inl ⟨h7, h8, decide_eq_false h9, by rw [if_pos h9]⟩))
    · refine .inr (.inl ⟨h1, decide_eq_false h2, trivial, ?_⟩)
      rw [if_pos (.inr (.inr (.inl h2)))]
def right (e : E) : Prop := 0 ≤ e.c ∧ e.c < 5 ∧ 1 ≤ e.e ∧ 0 ≤ e.r
instance (e : E) : Decidable (right e) := by unfold right; infer_instance
def fits (e : E) : Prop := right e ∧ chk e.cmd = 0 ∧ (e.r = 0 ↔ (e.cmd.k = 1 ∨ e.cmd.k = 18))
instance (e : E) : Decidable (fits e) := by unfold fits; infer_instance
def emp : ByteArray := ⟨#[]⟩
/-- The kinds, as the switches part them. -/
theorem kinds (k : Int) : k = 4 ∨ (k = 5 ∨ k = 11 ∨ k = 12 ∨ k = 13 ∨ k = 14 ∨ k = 17) ∨ (k = 6 ∨ k = 8) ∨ k = 7 ∨ k = 9 ∨ (k = 10 ∨ k = 15) ∨ k = 16 ∨ (k < 4 ∨ 17 < k) := by omega
theorem flags_none {k : Int} (h : k < 4 ∨ 17 < k) : f0 k = false ∧ f1 k = false ∧ f2 k = false ∧ f3 k = false ∧ f4 k = false ∧ f5 k = false := by
  unfold f0 f1 f2 f3 f4 f5
  refine ⟨?_, ?_, ?_, ?_, ?_, ?_⟩ <;> simp <;> omega
theorem size_emp {s : ByteArray} (h : s.size = 0) : s = emp := Val.size_zero h
end Cmd
end Go.Proofs.Ytakjggmiilkmdaa
