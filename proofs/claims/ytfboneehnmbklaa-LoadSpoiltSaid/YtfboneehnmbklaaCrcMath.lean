/-
  The plain arithmetic of the sum: one bit's step, one byte's eight steps, a text's bytes; it is linear over exclusive or, and each step is one-to-one on numbers of 32 bits.
  No condition beyond the bound of 32 bits where it is named.
-/
import Derived.Laws.BitsAllLaws
namespace Go.Proofs.Ytfboneehnmbklaa.Crc

/-- One bit out at the low end. -/
def stp (c : Nat) : Nat := c / 2 ^^^ (if c % 2 = 1 then 3988292384 else 0)
/-- Some bits. -/
def rep : Nat → Nat → Nat
  | 0, c => c
  | k + 1, c => stp (rep k c)
/-- One byte's bits. -/
def sh (c : Nat) : Nat := rep 8 c
/-- The state behind more bytes, between the two turnings of all bits. -/
def upd (c : Nat) (l : List UInt8) : Nat := l.foldl (fun c b => sh (c ^^^ b.toNat)) c
/-- All 32 bits turned. -/
def neg (c : Nat) : Nat := 4294967295 - c
def more (c : Nat) (l : List UInt8) : Nat := neg (upd (neg c) l)

theorem neg_lt (c : Nat) : neg c < 4294967296 := by unfold neg; omega
theorem neg_neg {c : Nat} (h : c < 4294967296) : neg (neg c) = c := by unfold neg; omega
theorem neg_inj {a b : Nat} (ha : a < 4294967296) (hb : b < 4294967296) (h : neg a = neg b) : a = b := by unfold neg at h; omega

theorem xor_lt {a b : Nat} (ha : a < 4294967296) (hb : b < 4294967296) : a ^^^ b < 4294967296 :=
  Nat.xor_lt_two_pow (n := 32) ha hb
theorem byte_lt (b : UInt8) : b.toNat < 4294967296 := by have := b.toNat_lt; omega

theorem stp_lt {c : Nat} (h : c < 4294967296) : stp c < 4294967296 := by
  unfold stp
  refine xor_lt (by omega) ?_
  split <;> omega
theorem rep_lt {c : Nat} (h : c < 4294967296) : ∀ k, rep k c < 4294967296
  | 0 => h
  | k + 1 => stp_lt (rep_lt h k)
theorem sh_lt {c : Nat} (h : c < 4294967296) : sh c < 4294967296 := rep_lt h 8
theorem upd_lt : ∀ (l : List UInt8) {c : Nat}, c < 4294967296 → upd c l < 4294967296
  | [], _, h => h
  | b :: l, _, h => upd_lt l (sh_lt (xor_lt h (byte_lt b)))
theorem more_lt (c : Nat) (l : List UInt8) : more c l < 4294967296 := neg_lt _

theorem upd_append (c : Nat) (a b : List UInt8) : upd c (a ++ b) = upd (upd c a) b := by simp [upd]
theorem upd_snoc (c : Nat) (a : List UInt8) (x : UInt8) : upd c (a ++ [x]) = sh (upd c a ^^^ x.toNat) := by simp [upd]
theorem more_append (a b : List UInt8) (c : Nat) : more (more c a) b = more c (a ++ b) := by
  unfold more
  rw [neg_neg (upd_lt a (neg_lt c)), upd_append]

theorem xor_eq_zero {a b : Nat} (h : a ^^^ b = 0) : a = b := by
  have h2 : a ^^^ b ^^^ b = b := by rw [h]; simp
  rw [Nat.xor_assoc, Nat.xor_self, Nat.xor_zero] at h2
  exact h2
theorem xor_move {a b c : Nat} (h : a ^^^ b = c) : a = c ^^^ b := by
  rw [← h, Nat.xor_assoc, Nat.xor_self, Nat.xor_zero]
theorem stp_zero : stp 0 = 0 := by decide
theorem xor_mod2 (a b : Nat) : (a ^^^ b) % 2 = (a % 2 + b % 2) % 2 := by
  have h := Nat.xor_mod_two_pow (a := a) (b := b) (n := 1)
  rw [show (2 : Nat) ^ 1 = 2 from rfl] at h
  rw [h]
  rcases Nat.mod_two_eq_zero_or_one a with ha | ha <;> rcases Nat.mod_two_eq_zero_or_one b with hb | hb <;> rw [ha, hb] <;> rfl
theorem xor_div2 (a b : Nat) : (a ^^^ b) / 2 = a / 2 ^^^ b / 2 := by
  have h := Nat.shiftRight_xor_distrib (a := a) (b := b) (i := 1)
  simpa [Nat.shiftRight_eq_div_pow] using h

theorem stp_xor (a b : Nat) : stp (a ^^^ b) = stp a ^^^ stp b := by
  unfold stp
  rw [xor_div2, xor_mod2]
  rcases Nat.mod_two_eq_zero_or_one a with ha | ha <;> rcases Nat.mod_two_eq_zero_or_one b with hb | hb <;> simp [ha, hb]
  · ac_rfl
  · ac_rfl
  · rw [show a / 2 ^^^ 3988292384 ^^^ (b / 2 ^^^ 3988292384) = a / 2 ^^^ b / 2 ^^^ (3988292384 ^^^ 3988292384) from by ac_rfl]
    simp
theorem rep_xor (a b : Nat) : ∀ k, rep k (a ^^^ b) = rep k a ^^^ rep k b
  | 0 => rfl
  | k + 1 => by show stp (rep k (a ^^^ b)) = _; rw [rep_xor a b k, stp_xor]; rfl
theorem sh_xor (a b : Nat) : sh (a ^^^ b) = sh a ^^^ sh b := rep_xor a b 8

theorem stp_eq_zero {c : Nat} (h : c < 4294967296) (hz : stp c = 0) : c = 0 := by
  unfold stp at hz
  rcases Nat.mod_two_eq_zero_or_one c with hc | hc
  · simp [hc] at hz; omega
  · rw [if_pos hc] at hz
    have : c / 2 = 3988292384 := xor_eq_zero hz
    omega
theorem rep_eq_zero {c : Nat} (h : c < 4294967296) : ∀ k, rep k c = 0 → c = 0
  | 0, hz => hz
  | k + 1, hz => rep_eq_zero h k (stp_eq_zero (rep_lt h k) hz)
theorem sh_eq_zero {c : Nat} (h : c < 4294967296) (hz : sh c = 0) : c = 0 := rep_eq_zero h 8 hz

theorem stp_even (y : Nat) : stp (2 * y) = y := by
  unfold stp
  rw [if_neg (by omega), show 2 * y / 2 = y from by omega]
  simp
theorem rep_succ (k c : Nat) : rep (k + 1) c = rep k (stp c) := by
  induction k with
  | zero => rfl
  | succ k ih => show stp (rep (k + 1) c) = stp (rep k (stp c)); rw [ih]
theorem sh_256 (y : Nat) : sh (256 * y) = y := by
  unfold sh
  rw [show 256 * y = 2 * (128 * y) from by omega, rep_succ, stp_even]
  rw [show 128 * y = 2 * (64 * y) from by omega, rep_succ, stp_even]
  rw [show 64 * y = 2 * (32 * y) from by omega, rep_succ, stp_even]
  rw [show 32 * y = 2 * (16 * y) from by omega, rep_succ, stp_even]
  rw [show 16 * y = 2 * (8 * y) from by omega, rep_succ, stp_even]
  rw [show 8 * y = 2 * (4 * y) from by omega, rep_succ, stp_even]
  rw [show 4 * y = 2 * (2 * y) from by omega, rep_succ, stp_even, rep_succ, stp_even]
  rfl


theorem sh_inj {a b : Nat} (ha : a < 4294967296) (hb : b < 4294967296) (h : sh a = sh b) : a = b :=
  xor_eq_zero (sh_eq_zero (xor_lt ha hb) (by rw [sh_xor, h, Nat.xor_self]))
theorem sh_back {a e : Nat} (ha : a < 4294967296) (he : e < 16777216) (h : sh a = e) : a = 256 * e :=
  sh_inj ha (by omega) (by rw [h, sh_256])

/-- Behind equal texts the states differ if they did ahead. -/
theorem upd_inj : ∀ (l : List UInt8) {a b : Nat}, a < 4294967296 → b < 4294967296 → upd a l = upd b l → a = b
  | [], _, _, _, _, h => h
  | x :: l, a, b, ha, hb, h => by
    have h1 := upd_inj l (sh_lt (xor_lt ha (byte_lt x))) (sh_lt (xor_lt hb (byte_lt x))) h
    have h2 := sh_inj (xor_lt ha (byte_lt x)) (xor_lt hb (byte_lt x)) h1
    have h3 := xor_move h2
    rw [Nat.xor_assoc, Nat.xor_self, Nat.xor_zero] at h3
    exact h3

theorem byte_xor_lt (x y : UInt8) : x.toNat ^^^ y.toNat < 256 := Nat.xor_lt_two_pow (n := 8) x.toNat_lt y.toNat_lt

theorem burst : ∀ (n m : Nat), n + m = 4 → ∀ (c : Nat), c < 4294967296 → ∀ (l l' : List UInt8), l.length = n → l'.length = n →
    ∀ e, e < 256 ^ m → upd c l ^^^ upd c l' = e → l = l' ∧ e = 0
  | 0, m, _, c, _, l, l', hl, hl', e, _, h => by
    obtain rfl := List.length_eq_zero_iff.1 hl
    obtain rfl := List.length_eq_zero_iff.1 hl'
    refine ⟨rfl, ?_⟩
    rw [← h]
    exact Nat.xor_self _
  | n + 1, m, hnm, c, hc, l, l', hl, hl', e, he, h => by
    rcases List.eq_nil_or_concat l with rfl | ⟨p, x, rfl⟩
    · simp at hl
    rcases List.eq_nil_or_concat l' with rfl | ⟨p', x', rfl⟩
    · simp at hl'
    simp only [List.concat_eq_append] at *
    rw [upd_snoc, upd_snoc, ← sh_xor] at h
    have hp : p.length = n := by simpa using hl
    have hp' : p'.length = n := by simpa using hl'
    have hm : 256 ^ m ≤ 16777216 := by
      calc 256 ^ m ≤ 256 ^ 3 := Nat.pow_le_pow_right (by decide) (by omega)
        _ = 16777216 := by decide
    have a1 := upd_lt p hc
    have a2 := upd_lt p' hc
    have hb := sh_back (xor_lt (xor_lt a1 (byte_lt x)) (xor_lt a2 (byte_lt x'))) (by omega) h
    have hx := byte_xor_lt x x'
    have hd : upd c p ^^^ upd c p' = 256 * e ^^^ (x.toNat ^^^ x'.toNat) := by
      apply xor_move
      rw [← hb]
      ac_rfl
    have hlt : 256 * e ^^^ (x.toNat ^^^ x'.toNat) < 256 ^ (m + 1) := by
      rw [show (256 : Nat) = 2 ^ 8 from rfl, ← Nat.pow_mul]
      rw [show (256 : Nat) = 2 ^ 8 from rfl, ← Nat.pow_mul] at he
      refine Nat.xor_lt_two_pow ?_ ?_
      · rw [show 8 * (m + 1) = 8 + 8 * m from by omega, Nat.pow_add]
        exact Nat.mul_lt_mul_of_pos_left he (by decide)
      · refine Nat.lt_of_lt_of_le hx ?_
        rw [show (256 : Nat) = 2 ^ 8 from rfl]
        exact Nat.pow_le_pow_right (by decide) (by omega)
    obtain ⟨rfl, hz⟩ := burst n (m + 1) (by omega) c hc p p' hp hp' _ hlt hd
    have hxe := xor_eq_zero hz
    have he0 : e = 0 := by omega
    subst he0
    have hxx : x.toNat = x'.toNat := xor_eq_zero (by omega)
    exact ⟨by rw [UInt8.toNat_inj.1 hxx], rfl⟩

/-- Texts that differ in some of at most four neighbouring bytes alone have other sums. -/
theorem more_burst (c : Nat) (pre mid mid' post : List UInt8) (h4 : mid.length ≤ 4) (hl : mid'.length = mid.length)
    (h : more c (pre ++ mid ++ post) = more c (pre ++ mid' ++ post)) : mid = mid' := by
  unfold more at h
  have h1 := neg_inj (upd_lt _ (neg_lt c)) (upd_lt _ (neg_lt c)) h
  rw [upd_append, upd_append, upd_append, upd_append] at h1
  have a1 := upd_lt pre (neg_lt c)
  have h2 := upd_inj post (upd_lt mid a1) (upd_lt mid' a1) h1
  have h3 := burst mid.length (4 - mid.length) (by omega) _ a1 mid mid' rfl hl 0 (Nat.pow_pos (by decide)) (by rw [h2, Nat.xor_self])
  exact h3.1

end Go.Proofs.Ytfboneehnmbklaa.Crc
