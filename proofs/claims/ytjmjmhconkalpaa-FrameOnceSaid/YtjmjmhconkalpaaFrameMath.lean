/-
  What the walks of the frames come to: a frame's bytes, what is got from bytes, and that a sum behind its bytes leaves one state.
  Pure: nothing of the program is read.
-/
import Derived.Test.YtjmjmhconkalpaaCrcText
import Derived.Test.YtjmjmhconkalpaaText
namespace Go.Proofs.Ytjmjmhconkalpaa
namespace Frame

def mk (k : Nat) (l : List UInt8) : List UInt8 := 183 :: UInt8.ofNat k :: UInt8.ofNat (l.length / 256) :: UInt8.ofNat (l.length % 256) :: l
def sum (l : List UInt8) : List UInt8 := (four (Crc.more 0 l)).data.toList
def put (k : Nat) (l : List UInt8) : List UInt8 := mk k l ++ sum (mk k l)
def isK (k : Int) : Bool := decide (1 ≤ k) && decide (k ≤ 4)
def putOf (k : Int) (l : List UInt8) : List UInt8 × Int :=
  if isK k then (if l.length ≤ 16384 then (put k.toNat l, 0) else ([], 2)) else ([], 1)
def at' (l : List UInt8) (i : Nat) : Nat := (l.getD i 0).toNat
def formed (l : List UInt8) : Bool :=
  decide (8 ≤ l.length) && decide (at' l 0 = 183) && isK (at' l 1) && decide (256 * at' l 2 + at' l 3 ≤ 16384) && decide (l.length = 256 * at' l 2 + at' l 3 + 8)
def getOf (l : List UInt8) : Nat × List UInt8 × Int :=
  if formed l then (if sum (l.take (l.length - 4)) = l.drop (l.length - 4) then (at' l 1, (l.drop 4).take (l.length - 8), 0) else (0, [], 4)) else (0, [], 3)

theorem mk_length (k : Nat) (l : List UInt8) : (mk k l).length = l.length + 4 := by simp [mk]
theorem sum_length (l : List UInt8) : (sum l).length = 4 := rfl
theorem put_length (k : Nat) (l : List UInt8) : (put k l).length = l.length + 8 := by simp [put, mk_length, sum_length]
theorem isK_iff (k : Int) : isK k = true ↔ 1 ≤ k ∧ k ≤ 4 := by simp [isK]
theorem isK_not (k : Int) : isK k = false ↔ k < 1 ∨ 4 < k := by
  rw [← Bool.not_eq_true, isK_iff]; omega

theorem formed_mk (k : Nat) (l t : List UInt8) (h1 : 1 ≤ k) (h2 : k ≤ 4) (hl : l.length ≤ 16384) (n : Nat) (ht : t.length = n) : formed (mk k l ++ t) = decide (n = 4) := by
  have e1 : k % 256 = k := by omega
  have e2 : l.length / 256 % 256 = l.length / 256 := by omega
  have e3 : l.length % 256 % 256 = l.length % 256 := by omega
  have e4 : 256 * (l.length / 256) + l.length % 256 = l.length := by omega
  have e5 : isK (k : Int) = true := (isK_iff _).2 (by omega)
  simp only [formed, at', mk, List.cons_append, List.getD_cons_zero, List.getD_cons_succ, List.length_cons, List.length_append, ht, UInt8.toNat_ofNat', Nat.reducePow, e1, e2, e3, e4, e5]
  by_cases h : n = 4
  · subst h; simp; omega
  · simp [h]

theorem formed_form {l : List UInt8} (h : formed l = true) : ∃ k b t, l = mk k b ++ t ∧ t.length = 4 ∧ 1 ≤ k ∧ k ≤ 4 ∧ b.length ≤ 16384 := by
  simp only [formed, Bool.and_eq_true, decide_eq_true_eq] at h
  obtain ⟨⟨⟨⟨h8, h0⟩, hk⟩, hn⟩, hl⟩ := h
  obtain ⟨hk1, hk2⟩ := (isK_iff _).1 hk
  match l, h8, h0, hk1, hk2, hn, hl with
  | c0 :: c1 :: c2 :: c3 :: r, h8, h0, hk1, hk2, hn, hl =>
    simp only [at', List.getD_cons_zero, List.getD_cons_succ, List.length_cons] at h0 hk1 hk2 hn hl
    have hc2 := c2.toNat_lt
    have hc3 := c3.toNat_lt
    have hr : r.length = 256 * c2.toNat + c3.toNat + 4 := by omega
    refine ⟨c1.toNat, r.take (256 * c2.toNat + c3.toNat), r.drop (256 * c2.toNat + c3.toNat), ?_, ?_, by omega, by omega, ?_⟩
    · have hlen : (r.take (256 * c2.toNat + c3.toNat)).length = 256 * c2.toNat + c3.toNat := by rw [List.length_take]; omega
      have e0 : c0 = 183 := UInt8.toNat_inj.1 (by rw [h0]; rfl)
      have e1 : UInt8.ofNat c1.toNat = c1 := UInt8.ofNat_toNat
      have e2 : UInt8.ofNat ((256 * c2.toNat + c3.toNat) / 256) = c2 := by
        rw [show (256 * c2.toNat + c3.toNat) / 256 = c2.toNat by omega]; exact UInt8.ofNat_toNat
      have e3 : UInt8.ofNat ((256 * c2.toNat + c3.toNat) % 256) = c3 := by
        rw [show (256 * c2.toNat + c3.toNat) % 256 = c3.toNat by omega]; exact UInt8.ofNat_toNat
      simp only [mk, hlen, e1, e2, e3, e0, List.cons_append, List.take_append_drop]
    · rw [List.length_drop]; omega
    · rw [List.length_take]; omega

theorem take_mk (k : Nat) (b t : List UInt8) (ht : t.length = 4) : (mk k b ++ t).take ((mk k b ++ t).length - 4) = mk k b := by
  rw [List.length_append, ht, Nat.add_sub_cancel, List.take_left']; rfl
theorem drop_mk (k : Nat) (b t : List UInt8) (ht : t.length = 4) : (mk k b ++ t).drop ((mk k b ++ t).length - 4) = t := by
  rw [List.length_append, ht, Nat.add_sub_cancel, List.drop_left']; rfl
theorem body_mk (k : Nat) (b t : List UInt8) (ht : t.length = 4) : ((mk k b ++ t).drop 4).take ((mk k b ++ t).length - 8) = b := by
  rw [List.length_append, mk_length, ht]
  show ((b ++ t)).take (b.length + 4 + 4 - 8) = b
  rw [show b.length + 4 + 4 - 8 = b.length by omega, List.take_left']; rfl
theorem kind_mk (k : Nat) (b t : List UInt8) (hk : k ≤ 4) : at' (mk k b ++ t) 1 = k := by
  show (UInt8.ofNat k).toNat = k
  rw [UInt8.toNat_ofNat']; omega

/-- What is got of bytes that have a frame's form. -/
theorem getOf_mk (k : Nat) (b t : List UInt8) (h1 : 1 ≤ k) (h2 : k ≤ 4) (hb : b.length ≤ 16384) (ht : t.length = 4) : getOf (mk k b ++ t) = if sum (mk k b) = t then (k, b, 0) else (0, [], 4) := by
  unfold getOf
  rw [formed_mk k b t h1 h2 hb 4 ht, take_mk k b t ht, drop_mk k b t ht, body_mk k b t ht, kind_mk k b t h2]
  simp
theorem get_put (k : Nat) (b : List UInt8) (h1 : 1 ≤ k) (h2 : k ≤ 4) (hb : b.length ≤ 16384) : getOf (put k b) = (k, b, 0) := by
  unfold put; rw [getOf_mk k b _ h1 h2 hb (sum_length _), if_pos rfl]
theorem getOf_unformed {l : List UInt8} (h : formed l = false) : getOf l = (0, [], 3) := by
  unfold getOf; rw [h]; rfl
theorem get_more (k : Nat) (b t : List UInt8) (h1 : 1 ≤ k) (h2 : k ≤ 4) (hb : b.length ≤ 16384) (ht : t ≠ []) : getOf (put k b ++ t) = (0, [], 3) := by
  have hp : 0 < t.length := List.length_pos_iff.2 ht
  apply getOf_unformed
  unfold put
  rw [List.append_assoc, formed_mk k b _ h1 h2 hb (4 + t.length) (by simp [sum_length])]
  simp; omega
theorem get_less (k : Nat) (b : List UInt8) (h1 : 1 ≤ k) (h2 : k ≤ 4) (hb : b.length ≤ 16384) (c : Nat) (hc : c < (put k b).length) : getOf ((put k b).take c) = (0, [], 3) := by
  apply getOf_unformed
  by_cases h8 : c < 8
  · unfold formed
    rw [List.length_take, show decide (8 ≤ min c (put k b).length) = false by simp; omega]
    rfl
  · have hl := put_length k b
    have hm : (put k b).take c = mk k b ++ (sum (mk k b)).take (c - (mk k b).length) ∨ c < (mk k b).length := by
      by_cases h : c < (mk k b).length
      · exact .inr h
      · left; unfold put; rw [List.take_append, List.take_of_length_le (by omega)]
    rcases hm with hm | hm
    · rw [mk_length] at hm
      rw [hm, formed_mk k b _ h1 h2 hb _ rfl, List.length_take, sum_length]
      simp; omega
    · rw [mk_length] at hm
      have hg : ∀ i, i < 4 → at' ((put k b).take c) i = at' (put k b) i := by
        intro i hi
        unfold at'
        rw [List.getD, List.getD, List.getElem?_take_of_lt (by omega)]
      have hf : formed (put k b) = true := formed_mk k b (sum (mk k b)) h1 h2 hb 4 rfl
      rw [← Bool.not_eq_true]
      intro h
      simp only [formed, Bool.and_eq_true, decide_eq_true_eq] at hf h
      rw [hg 0 (by omega), hg 1 (by omega), hg 2 (by omega), hg 3 (by omega), List.length_take] at h
      omega

theorem getOf_ok {l : List UInt8} (h : (getOf l).2.2 = 0) : ∃ k b, l = put k b ∧ 1 ≤ k ∧ k ≤ 4 ∧ b.length ≤ 16384 ∧ getOf l = (k, b, 0) := by
  cases hf : formed l
  · rw [getOf_unformed hf] at h; exact absurd h (by decide)
  · obtain ⟨k, b, t, rfl, ht, h1, h2, hb⟩ := formed_form hf
    rw [getOf_mk k b t h1 h2 hb ht] at h ⊢
    split at h
    · rename_i hs
      subst hs
      exact ⟨k, b, rfl, h1, h2, hb, by rw [if_pos rfl]⟩
    · exact absurd h (by decide)
theorem getOf_not {l : List UInt8} (h : (getOf l).2.2 ≠ 0) : (getOf l).1 = 0 ∧ (getOf l).2.1 = [] := by
  unfold getOf at h ⊢
  split
  · split
    · rename_i h1 h2; rw [if_pos h1, if_pos h2] at h; exact absurd rfl h
    · exact ⟨rfl, rfl⟩
  · exact ⟨rfl, rfl⟩
theorem putOf_in {k : Nat} {b : List UInt8} (h1 : 1 ≤ k) (h2 : k ≤ 4) (hb : b.length ≤ 16384) : putOf (k : Int) b = (put k b, 0) := by
  unfold putOf
  rw [if_pos ((isK_iff _).2 (by omega)), if_pos hb]; rfl
theorem putOf_ok {k : Int} {b : List UInt8} (h : (putOf k b).2 = 0) : ∃ n : Nat, k = (n : Int) ∧ 1 ≤ n ∧ n ≤ 4 ∧ b.length ≤ 16384 ∧ putOf k b = (put n b, 0) := by
  cases hk : isK k
  · unfold putOf at h; rw [hk] at h; exact absurd h (by simp)
  · obtain ⟨h1, h2⟩ := (isK_iff k).1 hk
    by_cases hb : b.length ≤ 16384
    · refine ⟨k.toNat, by omega, by omega, by omega, hb, ?_⟩
      unfold putOf; rw [if_pos hk, if_pos hb]
    · unfold putOf at h; rw [if_pos hk, if_neg hb] at h; exact absurd h (by decide)
theorem putOf_not {k : Int} {b : List UInt8} (h : (putOf k b).2 ≠ 0) : (putOf k b).1 = [] := by
  unfold putOf at h ⊢
  split
  · split
    · rename_i h1 h2; rw [if_pos h1, if_pos h2] at h; exact absurd rfl h
    · rfl
  · rfl

/-! ### The state behind bytes and their sum -/
theorem xor_low {r : Nat} (h : r < 256) : 255 - r = 255 ^^^ r := by
  have : ∀ r : Fin 256, 255 - r.val = 255 ^^^ r.val := by decide +kernel
  exact this ⟨r, h⟩
theorem xor_split (y : Nat) : y ^^^ y % 256 = 256 * (y / 256) := by
  apply Nat.eq_of_testBit_eq
  intro i
  rw [Nat.testBit_xor, show (256 : Nat) = 2 ^ 8 from rfl, Nat.testBit_mod_two_pow, Nat.testBit_two_pow_mul, Nat.testBit_div_two_pow]
  by_cases h : i < 8
  · simp [h]; omega
  · simp [h, show 8 ≤ i by omega, show i - 8 + 8 = i by omega]
theorem turn_step (K y : Nat) : Crc.sh ((K ^^^ y) ^^^ (255 - y % 256)) = Crc.sh (K ^^^ 255) ^^^ (y / 256) := by
  rw [xor_low (by omega)]
  rw [show (K ^^^ y) ^^^ (255 ^^^ y % 256) = (K ^^^ 255) ^^^ (y ^^^ y % 256) by ac_rfl]
  rw [xor_split, Crc.sh_xor, Crc.sh_256]
theorem byte_nat (n : Int) (m : Nat) (h : n = (m : Int)) (hm : m < 256) : (byte n).toNat = m := by
  subst h; unfold byte; rw [UInt8.toNat_ofNat']; simp; omega
def rest : Nat := Crc.neg (Crc.sh (Crc.sh (Crc.sh (Crc.sh (0 ^^^ 255) ^^^ 255) ^^^ 255) ^^^ 255))
theorem more_sum (l : List UInt8) : Crc.more 0 (l ++ sum l) = rest := by
  unfold Crc.more rest
  rw [Crc.upd_append]
  unfold sum Crc.more
  have hx : Crc.upd (Crc.neg 0) l < 4294967296 := Crc.upd_lt l (Crc.neg_lt 0)
  generalize Crc.upd (Crc.neg 0) l = x at *
  congr 1
  show Crc.sh (Crc.sh (Crc.sh (Crc.sh (x ^^^ (byte _).toNat) ^^^ (byte _).toNat) ^^^ (byte _).toNat) ^^^ (byte _).toNat) = _
  rw [byte_nat _ (255 - x % 256) (by unfold Crc.neg; omega) (by omega), byte_nat _ (255 - x / 256 % 256) (by unfold Crc.neg; omega) (by omega),
    byte_nat _ (255 - x / 256 / 256 % 256) (by unfold Crc.neg; omega) (by omega), byte_nat _ (255 - x / 256 / 256 / 256 % 256) (by unfold Crc.neg; omega) (by omega)]
  rw [show x ^^^ (255 - x % 256) = (0 ^^^ x) ^^^ (255 - x % 256) by rw [Nat.zero_xor], turn_step, turn_step, turn_step, turn_step,
    show x / 256 / 256 / 256 / 256 = 0 by omega, Nat.xor_zero]
theorem more_put (k : Nat) (b : List UInt8) : Crc.more 0 (put k b) = rest := more_sum _

theorem awake_put : putOf 2 [97, 98] = ([183, 2, 0, 2, 97, 98, 242, 95, 19, 16], 0) := by decide +kernel
theorem awake_get : getOf [183, 2, 0, 2, 97, 98, 242, 95, 19, 16] = (2, [97, 98], 0) := by decide +kernel
theorem awake_more : getOf [183, 2, 0, 2, 97, 98, 242, 95, 19, 16, 120] = (0, [], 3) := by decide +kernel
end Frame
end Go.Proofs.Ytjmjmhconkalpaa
