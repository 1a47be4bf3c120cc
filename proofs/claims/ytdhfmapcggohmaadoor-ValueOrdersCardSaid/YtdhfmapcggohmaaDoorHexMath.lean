/-
  The plain arithmetic of sixteen digits of sixteen: the digits of a number, the highest first; what a row of digits is read as.
  No condition but those named.
-/
import Derived.Laws.BitsAllLaws
namespace Go.Proofs.YtdhfmapcggohmaaDoor.Hex

/-- A digit's letter. -/
def dig (d : Nat) : UInt8 := if d < 10 then UInt8.ofNat (48 + d) else UInt8.ofNat (87 + d)
/-- The last k digits of b, the highest first. -/
def L (b : Nat) : Nat → List UInt8
  | 0 => []
  | k + 1 => dig (b / 16 ^ k % 16) :: L b k
theorem L_length (b : Nat) : ∀ k, (L b k).length = k
  | 0 => rfl
  | k + 1 => by simp [L, L_length b k]

/-- A letter's digit: small letters alone; and either. -/
def lo (c : UInt8) : Option Nat := if 48 ≤ c.toNat ∧ c.toNat ≤ 57 then some (c.toNat - 48) else if 97 ≤ c.toNat ∧ c.toNat ≤ 102 then some (c.toNat - 87) else none
def up (c : UInt8) : Option Nat := if 48 ≤ c.toNat ∧ c.toNat ≤ 57 then some (c.toNat - 48) else if 97 ≤ c.toNat ||| 32 ∧ c.toNat ||| 32 ≤ 102 then some ((c.toNat ||| 32) - 87) else none
def pl : Nat → List UInt8 → Option Nat
  | acc, [] => some acc
  | acc, c :: r => match lo c with
    | some d => pl (16 * acc + d) r
    | none => none
def ps : Nat → List UInt8 → Option Nat
  | acc, [] => some acc
  | acc, c :: r => match up c with
    | some d => ps (16 * acc + d) r
    | none => none

theorem or32 : ∀ n, n < 256 → (97 ≤ n → n ≤ 102 → n ||| 32 = n) := by decide +kernel
theorem lo_up {c : UInt8} {d : Nat} (h : lo c = some d) : up c = some d := by
  have hc := c.toNat_lt
  unfold lo at h
  unfold up
  split at h
  · rename_i h1; rw [if_pos h1]; exact h
  · rename_i h1
    split at h
    · rename_i h2
      rw [if_neg h1, or32 c.toNat (by omega) h2.1 h2.2, if_pos h2]; exact h
    · cases h
theorem lo_lt {c : UInt8} {d : Nat} (h : lo c = some d) : d < 16 := by
  unfold lo at h
  split at h
  · cases h; omega
  · split at h
    · cases h; omega
    · cases h
theorem up_lt {c : UInt8} {d : Nat} (h : up c = some d) : d < 16 := by
  unfold up at h
  split at h
  · cases h; omega
  · split at h
    · cases h; omega
    · cases h
theorem dig_toNat {d : Nat} (h : d < 16) : (dig d).toNat = if d < 10 then 48 + d else 87 + d := by
  unfold dig
  split <;> simp <;> omega
theorem lo_dig {d : Nat} (h : d < 16) : lo (dig d) = some d := by
  unfold lo
  rw [dig_toNat h]
  split
  · rw [if_pos (by omega)]; congr 1; omega
  · rw [if_neg (by omega), if_pos (by omega)]; congr 1; omega
theorem dig_lo {c : UInt8} {d : Nat} (h : lo c = some d) : dig d = c := by
  have hd := lo_lt h
  apply UInt8.toNat_inj.1
  rw [dig_toNat hd]
  unfold lo at h
  split at h
  · cases h; rw [if_pos (by omega)]; omega
  · split at h
    · cases h; rw [if_neg (by omega)]; omega
    · cases h

theorem pl_ps : ∀ (l : List UInt8) (acc n : Nat), pl acc l = some n → ps acc l = some n
  | [], _, _, h => h
  | c :: r, acc, n, h => by
    unfold pl at h
    unfold ps
    cases hc : lo c with
    | none => rw [hc] at h; cases h
    | some d => rw [hc] at h; rw [lo_up hc]; exact pl_ps r _ _ h
theorem pl_back : ∀ (l : List UInt8) (acc n : Nat), pl acc l = some n → n / 16 ^ l.length = acc ∧ L n l.length = l
  | [], acc, n, h => by cases h; exact ⟨by simp, rfl⟩
  | c :: r, acc, n, h => by
    unfold pl at h
    cases hc : lo c with
    | none => rw [hc] at h; cases h
    | some d =>
      rw [hc] at h
      have hd := lo_lt hc
      obtain ⟨h1, h2⟩ := pl_back r _ _ h
      refine ⟨?_, ?_⟩
      · rw [List.length_cons, Nat.pow_succ, ← Nat.div_div_eq_div_mul, h1]; omega
      · rw [List.length_cons]
        unfold L
        rw [h1, h2, show (16 * acc + d) % 16 = d from by omega, dig_lo hc]
theorem pl_L (b : Nat) : ∀ (k acc : Nat), pl acc (L b k) = some (acc * 16 ^ k + b % 16 ^ k)
  | 0, acc => by simp [L, pl, Nat.mod_one]
  | k + 1, acc => by
    unfold L pl
    rw [lo_dig (Nat.mod_lt _ (by decide))]
    show pl (16 * acc + b / 16 ^ k % 16) (L b k) = _
    rw [pl_L b k]
    congr 1
    rw [Nat.pow_succ, Nat.mod_mul, Nat.add_mul, Nat.mul_comm 16 acc, Nat.mul_assoc, Nat.mul_comm 16 (16 ^ k), Nat.mul_comm (b / 16 ^ k % 16)]
    omega
theorem pl_bound (l : List UInt8) (n : Nat) (h : pl 0 l = some n) : n < 16 ^ l.length := by
  have h1 := (pl_back l 0 n h).1
  rcases Nat.lt_or_ge n (16 ^ l.length) with h2 | h2
  · exact h2
  · have := (Nat.le_div_iff_mul_le (Nat.pow_pos (by decide : 0 < 16))).2 (show 1 * 16 ^ l.length ≤ n by omega)
    omega
theorem L_inj {a b k : Nat} (ha : a < 16 ^ k) (hb : b < 16 ^ k) (h : L a k = L b k) : a = b := by
  have h1 := pl_L a k 0
  rw [h, pl_L b k 0, Nat.mod_eq_of_lt ha, Nat.mod_eq_of_lt hb] at h1
  simpa using h1.symm
/-- Digits that are no row of small ones are no number's digits. -/
theorem not_L {l : List UInt8} (h : pl 0 l = none) (b k : Nat) : L b k ≠ l := by
  intro e
  rw [← e, pl_L] at h
  cases h
/-- Ahead of a number's own digits stand noughts. -/
theorem L_pad {b n : Nat} (h : b < 16 ^ n) : ∀ j, L b (n + j) = List.replicate j 48 ++ L b n
  | 0 => rfl
  | j + 1 => by
    have hz : b / 16 ^ (n + j) = 0 := Nat.div_eq_of_lt (Nat.lt_of_lt_of_le h (Nat.pow_le_pow_right (by decide) (by omega)))
    show dig (b / 16 ^ (n + j) % 16) :: L b (n + j) = _
    rw [hz, L_pad h j, List.replicate_succ]
    rfl
/-- What a walk reads so far stays below its power. -/
theorem ps_step {acc k d : Nat} (h : acc < 16 ^ k) (hd : d < 16) : 16 * acc + d < 16 ^ (k + 1) := by
  rw [Nat.pow_succ]; omega

/-- One more letter ahead. -/
theorem L_cons (b k : Nat) : L b (k + 1) = dig (b / 16 ^ k % 16) :: L b k := rfl
/-- A letter of the digits, by its place from the end. -/
theorem L_at (b : Nat) : ∀ (k t : Nat), t < k → (L b k).getD t 0 = dig (b / 16 ^ (k - 1 - t) % 16)
  | k + 1, 0, _ => by simp [L]
  | k + 1, t + 1, h => by
    have := L_at b k t (by omega)
    simp only [L, List.getD_cons_succ]
    rw [this, show k + 1 - 1 - (t + 1) = k - 1 - t from by omega]

end Go.Proofs.YtdhfmapcggohmaaDoor.Hex
