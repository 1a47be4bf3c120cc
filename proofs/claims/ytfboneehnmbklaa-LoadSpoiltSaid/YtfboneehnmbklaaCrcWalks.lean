/-
  What the functions of the packages crc and phalanxref01 return, for every argument: the sum's state as XCrcMath reckons it.
  No condition but that a string's length fits an int.
-/
import Derived.Test.YtfboneehnmbklaaRows
import Derived.Test.YtfboneehnmbklaaCrcMath
import Derived.WalkKit
import Derived.WalkSpells
import Derived.WalkLawsBesides
import Derived.Lib.Hide
namespace Go.Proofs.Ytfboneehnmbklaa
open Go.RowKit

theorem ret_int {k : IntKind} {a b : Int} (h : a = b) : Ending.returned (.int k a) = .returned (.int k b) := by rw [h]

theorem and_one (c : Nat) (h : c < 4294967296) : bits .and .u32 (c : Int) 1 = ((c % 2 : Nat) : Int) := by
  have := u32_and_nat c 1 h (by decide)
  simpa [Nat.and_one_is_mod] using this
theorem xor_poly (c : Nat) (h : c < 4294967296) : bits .xor .u32 (c : Int) 3988292384 = ((c ^^^ 3988292384 : Nat) : Int) := by
  simpa using u32_xor_nat c 3988292384 h (by decide)

theorem take_snoc (s : ByteArray) (k : Nat) (h : k < s.size) : s.data.toList.take (k + 1) = s.data.toList.take k ++ [s[k]] := by
  rw [List.take_succ_eq_append_getElem (by simpa using h)]; rfl

set_option maxHeartbeats 400000 in
theorem shift_any (c : Nat) (w : World) (hc : c < 4294967296) :
    Calls Try.prog 43 #[.int .u32 c] w fun e w' => e = .returned (.int .u32 (Crc.sh c : Nat)) ∧ w = w' := by
  go_enter Try.func43, Try.ntmps43
  go_wp2
  go_loop [0, 4] (fun x i => ∃ k : Nat, k ≤ 8 ∧ i = .int .i64 k ∧ x = .int .u32 (Crc.rep k c : Nat)) (fun _ i => 8 - (intOf i).toNat)
  case atStart => exact ⟨0, by omega, rfl, rfl⟩
  case round =>
    obtain ⟨k, hk, rfl, rfl⟩ := hrel
    have hx := Crc.rep_lt hc k
    by_cases hlt : k < 8
    · have Ha := Lib.hid (and_one (Crc.rep k c) hx)
      have Hx := Lib.hid (xor_poly (Crc.rep k c / 2) (by omega))
      have Hs : Hid (Crc.rep (k + 1) c = Crc.rep k c / 2 ^^^ (if Crc.rep k c % 2 = 1 then 3988292384 else 0)) := Lib.hid rfl
      generalize Crc.rep k c = x at *
      go_wp2
      · go_round
        case rel =>
          have hb : (bits BinOp.and IntKind.u32 (x : Int) 1 == 1) = true := by assumption
          rw [Ha.out, beq_iff_eq] at hb
          refine ⟨k + 1, by omega, by go_num, ?_⟩
          rw [Hs.out, if_pos (by omega)]
          have h2 := Hx.out
          rw [Int.natCast_ediv] at h2
          rw [← h2]; rfl
        case measure => simp [intOf]; omega
      · go_round
        case rel =>
          have hb : (bits BinOp.and IntKind.u32 (x : Int) 1 == 1) = false := by assumption
          rw [Ha.out, beq_eq_false_iff_ne] at hb
          refine ⟨k + 1, by omega, by go_num, ?_⟩
          rw [Hs.out, if_neg (by omega)]
          simp
        case measure => simp [intOf]; omega
    · obtain rfl : k = 8 := by omega
      go_wp2
      go_ret
      exact ⟨rfl, rfl⟩

theorem shift_at (a : Int) (c : Nat) (w : World) (ha : a = (c : Int)) (hc : c < 4294967296) :
    Calls Try.prog 43 #[.int .u32 a] w fun e w' => e = .returned (.int .u32 (Crc.sh c : Nat)) ∧ w = w' := by
  subst ha; exact shift_any c w hc
theorem not_bits (c : Nat) (h : c < 4294967296) : bits .xor .u32 IntKind.u32.max (c : Int) = ((Crc.neg c : Nat) : Int) := by
  have h1 := u32_xor_nat 4294967295 c (by decide) h
  have h2 : IntKind.u32.max = ((4294967295 : Nat) : Int) := by decide
  rw [h2, h1]
  congr 1
  have h3 := congrArg BitVec.toNat (BitVec.allOnes_xor (x := BitVec.ofNat 32 c))
  rw [BitVec.toNat_xor, BitVec.toNat_not, BitVec.toNat_ofNat, Nat.mod_eq_of_lt (by omega), BitVec.toNat_allOnes] at h3
  exact h3
theorem xor_byte (x : Nat) (b : UInt8) (h : x < 4294967296) : bits .xor .u32 (x : Int) ((b.toNat : Int) % 4294967296) = ((x ^^^ b.toNat : Nat) : Int) := by
  have hb := Crc.byte_lt b
  rw [Int.emod_eq_of_lt (by omega) (by omega)]
  exact u32_xor_nat x b.toNat h hb

set_option maxHeartbeats 400000 in
theorem more_any (c : Nat) (s : ByteArray) (w : World) (hc : c < 4294967296) (hs : s.size ≤ maxLen) :
    Calls Try.prog 36 #[.int .u32 c, .string s] w fun e w' => e = .returned (.int .u32 (Crc.more c s.data.toList : Nat)) ∧ w = w' := by
  unfold maxLen at hs
  go_enter Try.func36, Try.ntmps36
  go_wp2
  go_loop [0, 10] (fun x i => ∃ k : Nat, k ≤ s.size ∧ i = .int .i64 k ∧ x = .int .u32 (Crc.upd (Crc.neg c) (s.data.toList.take k) : Nat)) (fun _ i => s.size - (intOf i).toNat)
  case atStart => exact ⟨0, by omega, rfl, by rw [not_bits c hc]; rfl⟩
  case round =>
    obtain ⟨k, hk, rfl, rfl⟩ := hrel
    have hx := Crc.upd_lt (s.data.toList.take k) (Crc.neg_lt c)
    by_cases hlt : k < s.size
    · have Hs : Hid (Crc.upd (Crc.neg c) (s.data.toList.take (k + 1)) = Crc.sh (Crc.upd (Crc.neg c) (s.data.toList.take k) ^^^ (s[k]).toNat)) := by
        rw [take_snoc s k hlt, Crc.upd_snoc]; exact Lib.hid rfl
      generalize Crc.upd (Crc.neg c) (s.data.toList.take k) = x at *
      go_wp2_with (go_at_call 43; refine (shift_at _ _ _ (xor_byte x s[k] hx) (Crc.xor_lt hx (Crc.byte_lt _))).mono ?_; rintro e w' ⟨rfl, rfl⟩)
      go_round
      case rel => exact ⟨k + 1, by omega, by go_num, by rw [Hs.out]⟩
      case measure => simp [intOf]; omega
    · obtain rfl : k = s.size := by omega
      have hn := Lib.hid (not_bits _ hx)
      have hm : Hid (s.data.toList.take s.size = s.data.toList) := Lib.hid (List.take_of_length_le (by simp))
      go_wp2
      go_ret
      exact ⟨ret_int (by rw [hn.out, hm.out]; rfl), rfl⟩

theorem sum_any (s : ByteArray) (w : World) (hs : s.size ≤ maxLen) :
    Calls Try.prog 25 #[.string s] w fun e w' => e = .returned (.int .u32 (Crc.more 0 s.data.toList : Nat)) ∧ w = w' := by
  go_enter Try.func25, Try.ntmps25
  go_wp2_with (go_at_call 36; refine (more_any 0 s _ (by decide) hs).mono ?_; rintro e w' ⟨rfl, rfl⟩)
  go_ret
  exact ⟨rfl, rfl⟩

set_option maxHeartbeats 400000 in
theorem rmore_any (c : Nat) (s : ByteArray) (w : World) (hc : c < 4294967296) (hs : s.size ≤ maxLen) :
    Calls Try.prog 37 #[.int .u32 c, .string s] w fun e w' => e = .returned (.int .u32 (Crc.more c s.data.toList : Nat)) ∧ w = w' := by
  unfold maxLen at hs
  go_enter Try.func37, Try.ntmps37
  go_wp2
  go_loop [0, 5] (fun x i => ∃ k : Nat, k ≤ s.size ∧ i = .int .i64 k ∧ x = .int .u32 (Crc.upd (Crc.neg c) (s.data.toList.take k) : Nat)) (fun _ i => s.size - (intOf i).toNat)
  case atStart => exact ⟨0, by omega, rfl, by rw [not_bits c hc]; rfl⟩
  case round =>
    obtain ⟨k, hk, rfl, rfl⟩ := hrel
    have hx := Crc.upd_lt (s.data.toList.take k) (Crc.neg_lt c)
    by_cases hlt : k < s.size
    · have Hs : Hid (Crc.upd (Crc.neg c) (s.data.toList.take (k + 1)) = Crc.rep 8 (Crc.upd (Crc.neg c) (s.data.toList.take k) ^^^ (s[k]).toNat)) := by
        rw [take_snoc s k hlt, Crc.upd_snoc]; exact Lib.hid rfl
      generalize Crc.upd (Crc.neg c) (s.data.toList.take k) = x at *
      have Hb := Lib.hid (xor_byte x s[k] hx)
      have hy : x ^^^ (s[k]).toNat < 4294967296 := Crc.xor_lt hx (Crc.byte_lt _)
      generalize x ^^^ (s[k]).toNat = y at *
      go_wp2
      go_loop [0, 6] (fun x i => ∃ j : Nat, j ≤ 8 ∧ i = .int .i64 j ∧ x = .int .u32 (Crc.rep j y : Nat)) (fun _ i => 8 - (intOf i).toNat)
      case atStart => exact ⟨0, by omega, rfl, by rw [Hb.out]; rfl⟩
      case round =>
        obtain ⟨j, hj, rfl, rfl⟩ := hrel
        have hz := Crc.rep_lt hy j
        by_cases hjt : j < 8
        · have Hx := Lib.hid (xor_poly (Crc.rep j y / 2) (by omega))
          have Hs : Hid (Crc.rep (j + 1) y = Crc.rep j y / 2 ^^^ (if Crc.rep j y % 2 = 1 then 3988292384 else 0)) := Lib.hid rfl
          generalize Crc.rep j y = z at *
          go_wp2
          · go_round
            case rel =>
              have hb : ((z : Int) % 2 == 1) = true := by assumption
              rw [beq_iff_eq] at hb
              refine ⟨j + 1, by omega, by go_num, ?_⟩
              rw [Hs.out, if_pos (by omega)]
              have h2 := Hx.out
              rw [Int.natCast_ediv] at h2
              rw [← h2]; rfl
            case measure => simp [intOf]; omega
          · go_round
            case rel =>
              have hb : ((z : Int) % 2 == 1) = false := by assumption
              rw [beq_eq_false_iff_ne] at hb
              refine ⟨j + 1, by omega, by go_num, ?_⟩
              rw [Hs.out, if_neg (by omega)]
              simp
            case measure => simp [intOf]; omega
        · obtain rfl : j = 8 := by omega
          go_wp2
          go_round
          case rel => exact ⟨k + 1, by omega, by go_num, by rw [Hs.out]⟩
          case measure => simp [intOf]; omega
    · obtain rfl : k = s.size := by omega
      have hn := Lib.hid (not_bits _ hx)
      have hm : Hid (s.data.toList.take s.size = s.data.toList) := Lib.hid (List.take_of_length_le (by simp))
      go_wp2
      go_ret
      exact ⟨ret_int (by rw [hn.out, hm.out]; rfl), rfl⟩

theorem rsum_any (s : ByteArray) (w : World) (hs : s.size ≤ maxLen) :
    Calls Try.prog 26 #[.string s] w fun e w' => e = .returned (.int .u32 (Crc.more 0 s.data.toList : Nat)) ∧ w = w' := by
  go_enter Try.func26, Try.ntmps26
  go_wp2_with (go_at_call 37; refine (rmore_any 0 s _ (by decide) hs).mono ?_; rintro e w' ⟨rfl, rfl⟩)
  go_ret
  exact ⟨rfl, rfl⟩

end Go.Proofs.Ytfboneehnmbklaa
