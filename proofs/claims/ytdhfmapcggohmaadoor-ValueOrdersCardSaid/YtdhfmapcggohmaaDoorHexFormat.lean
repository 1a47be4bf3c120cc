/-
  What the library's text of a number to base 16 is, for every number of 64 bits: its own digits, none ahead.
  The library's table of places is as its text lays it (the one place that is read is handed in).
-/
import Derived.Test.YtdhfmapcggohmaaDoorNumBase
import Derived.Test.YtdhfmapcggohmaaDoorHexMath
import Derived.Test.YtdhfmapcggohmaaDoorOwns
import Derived.Lib.ItoaWalk
import Derived.RegionTactic
import Derived.RegionTactic
import Derived.Outline
import Derived.Handy
import Derived.Laws.Strings3
import Derived.Lib.ConvBytes
namespace Go.Proofs.YtdhfmapcggohmaaDoor
open Go.RowKit

/-- The table's place that is read for 16. -/
def TabOk (w : World) : Prop := w.cell? ⟨5, 15, none⟩ = some (.int .u8 4) ∧ 5 < w.heap.size

set_option maxHeartbeats 400000 in
theorem trailing16 (w : World) (h : TabOk w) :
    Calls Tryd.prog 82 #[.int .u64 16] w fun e w' => e = .returned (.int .i64 4) ∧ w = w' := by
  have hc := h.1
  clear h
  have hi : IntKind.u64.wrap (bits BinOp.and IntKind.u64 16 (IntKind.u64.wrap (-16)) * 285870213051353865) / 288230376151711744 = 15 := by decide +kernel
  go_enter Tryd.func82, Tryd.ntmps82
  go_wp2
  go_ret
  exact ⟨rfl, rfl⟩

/-- The letters that the library takes a digit from. -/
def digits : ByteArray := ⟨#[48, 49, 50, 51, 52, 53, 54, 55, 56, 57, 97, 98, 99, 100, 101, 102, 103, 104, 105, 106, 107, 108, 109, 110, 111, 112, 113, 114, 115, 116, 117, 118, 119, 120, 121, 122]⟩
theorem digits_size : digits.size = 36 := rfl
theorem digits_some : ∀ i, i < 16 → digits.data[i]? = some (Hex.dig i) := by decide +kernel
theorem byte_of (s : ByteArray) (i : Nat) (h : i < s.size) (x : UInt8) (hs : s.data[i]? = some x) : s[i] = x := by
  rw [Array.getElem?_eq_getElem h] at hs
  exact Option.some.inj hs
theorem digits_at (i : Nat) (h : i < digits.size) (hi : i < 16) : digits[i] = Hex.dig i := by
  exact byte_of digits i h _ (digits_some i hi)
theorem index_digits (z : Int) (d : Nat) (hz : z = (d : Int)) (hd : d < 16) (w : World) :
    (Instr.index 9 (.string digits) (.int .u64 z)).run Tryd.prog w = .ok (.int .u8 ((Hex.dig d).toNat : Int)) w := by
  subst hz
  rw [run_index_string w 9 digits .u64 _ Tryd.underlying9, dif_pos ⟨by omega, by rw [digits_size]; omega⟩]
  have e : ((d : Int)).toNat = d := by omega
  simp only [e]
  rw [digits_at d (by rw [digits_size]; omega) hd]
theorem and15 (x : Nat) (h : x < 18446744073709551616) : bits .and .u64 (x : Int) 15 = ((x % 16 : Nat) : Int) := by
  have h1 := u64_and_nat x 15 h (by decide)
  have h2 : x &&& 15 = x % 16 := Nat.and_two_pow_sub_one_eq_mod x 4
  rw [h2] at h1
  exact h1

theorem slice65 (B j : Nat) (hj : j < 65) (w : World) :
    (Instr.sliceAt 104 (.pointer (some ⟨B, 0, none⟩)) (some (.int .i64 (j : Int))) none none).run Tryd.prog w = .ok (.slice (some ⟨B, j, none⟩) (65 - j) (65 - j)) w := by
  have hl : Tryd.prog.arrayLen 104 = 65 := by kernel_rfl
  have hs : (sizeOf (Tryd.prog.elem 104)).run Tryd.prog w = .ok 1 w := by kernel_rfl
  rw [run_sliceAt_array_l w 104 ⟨B, 0, none⟩ (by kernel_rfl) .i64 (j : Int) (by omega) (by rw [hl]; omega), hs, hl]
  show Result.ok (slicedAt _ _ _ _ _) w = _
  unfold slicedAt
  rw [Int.toNat_natCast, if_neg (by omega), add_at, Nat.mul_one, Nat.zero_add]

/-- What the library's text gives. -/
def IsText (b : Nat) (w : World) (e : Ending) (w' : World) : Prop := ∃ n, 1 ≤ n ∧ n ≤ 16 ∧ b < 16 ^ n ∧ e = .returned (.tuple #[.slice none 0 0, .string ⟨(Hex.L b n).toArray⟩]) ∧ Below w.heap.size w w'

theorem step_text {b m : Nat} {l : List UInt8} (hm : m + 1 ≤ 65) (hl : l.length = 65) (hd : l.drop (m + 1) = Hex.L b (65 - (m + 1))) :
    (l.set m (Hex.dig (b / 16 ^ (65 - (m + 1)) % 16))).drop m = Hex.L b (65 - m) := by
  rw [set_drop l m _ (by omega), hd, show 65 - m = (65 - (m + 1)) + 1 from by omega]
  rfl

set_option maxRecDepth 100000 in
set_option maxHeartbeats 1000000 in
theorem format16 (b : Nat) (w : World) (hb : b < 18446744073709551616) (ht : TabOk w) :
    Calls Tryd.prog 69 #[.slice none 0 0, .int .u64 b, .int .i64 16, .bool false, .bool false] w (IsText b w) := by
  have hpow : bits .and .i64 16 15 = 0 := by decide +kernel
  have hT := Lib.hid ht
  clear ht
  go_enter Tryd.func69, Tryd.ntmps69
  go_name_bytes PM hPM
  have HPM := Lib.hid hPM
  clear hPM
  go_name_bytes SM hSM
  have eSM : SM = digits := by rw [← hSM]; decide +kernel
  subst eSM
  clear hSM
  go_wp2_with (first | (go_at_call 82; refine (trailing16 _ ?_).mono ?_; rotate_left; rintro e w' ⟨rfl, rfl⟩) | go_in)
  rotate_left
  · exact ⟨by rw [World.cell?_alloc_lt _ _ _ hT.out.2]; exact hT.out.1, by have := hT.out.2; simp; omega⟩
  go_loopw [1, 13] (fun vu vi wr => ∃ (m : Nat) (l : List UInt8), 50 ≤ m ∧ m ≤ 65 ∧ vu = .int .u64 (b / 16 ^ (65 - m) : Nat) ∧ vi = .int .i64 (m : Nat) ∧ Hid (Owns wr w.heap.size l ∧ l.length = 65 ∧ l.drop m = Hex.L b (65 - m)) ∧ Below w.heap.size w wr) (fun _ vi _ => (intOf vi).toNat)
  case atStart => exact ⟨65, List.replicate 65 0, by omega, by omega, by simp, rfl, Lib.hid ⟨owns_zeros _ _ _ 65 rfl, by simp, by simp [Hex.L]⟩, by go_grown⟩
  case round =>
    obtain ⟨m, l, hm1, hm2, rfl, rfl, HO, hbel⟩ := hrel
    obtain ⟨ho, hl, hd⟩ := HO.out
    clear HO
    have HL := Lib.hid hl
    have HD := Lib.hid hd
    have HO := Lib.hid ho
    have hx : b / 16 ^ (65 - m) < 18446744073709551616 := Nat.lt_of_le_of_lt (Nat.div_le_self _ _) hb
    have HN : Hid (b / 16 ^ (65 - m) / 16 = b / 16 ^ (65 - m + 1)) := Lib.hid (by rw [Nat.pow_succ, Nat.div_div_eq_div_mul])
    have HX : Hid (b / 16 ^ (65 - m) < 16 → b < 16 ^ (65 - m + 1)) := Lib.hid (fun h => by
      have h2 := (Nat.div_lt_iff_lt_mul (Nat.pow_pos (by decide : 0 < 16))).1 h
      rw [Nat.pow_succ]; omega)
    obtain ⟨j, rfl⟩ : ∃ j, m = j + 1 := ⟨m - 1, by omega⟩
    obtain ⟨hc, hf⟩ := ho j (by omega)
    clear ho hd hl
    generalize l.getD j 0 = y at *
    have HG : Hid (j = 49 → b / 16 ^ (65 - (j + 1)) < 16) := Lib.hid (fun h => by subst h; exact (Nat.div_lt_iff_lt_mul (by decide)).2 (by omega))
    generalize hq : b / 16 ^ (65 - (j + 1)) = x at *
    have HQ := Lib.hid hq
    clear hq
    have hi := index_digits (bits .and .u64 (x : Int) 15) (x % 16) (and15 x hx) (by omega)
    by_cases h16 : 16 ≤ x
    · go_wp2_with fail
      go_roundw
      case rel =>
        have hj : 50 ≤ j := by
          rcases Nat.lt_or_ge j 50 with h | h
          · exact absurd (HG.out (by omega)) (by omega)
          · exact h
        refine ⟨j, l.set j (Hex.dig (x % 16)), hj, by omega, ?_, ?_, ?_, ?_⟩
        · rw [show 65 - j = 65 - (j + 1) + 1 from by omega, ← HN.out]; go_num
        · go_num
        · refine Lib.hid ⟨?_, by rw [List.length_set]; exact HL.out, ?_⟩
          · exact HO.out.set j (by rw [HL.out]; omega) _ _ rfl
          · rw [← HQ.out]; exact step_text (by omega) HL.out HD.out
        · exact hbel.setCell (Nat.le_refl _) _
      case measure => simp [intOf]
    · have hx16 : x < 16 := by omega
      have hi2 := index_digits (x : Int) x rfl hx16
      have hlt := HX.out hx16
      have HTX := Lib.hid ((HO.out.set j (by rw [HL.out]; omega) (Hex.dig x) _ rfl).text j (65 - j) (65 - j) (by rw [List.length_set, HL.out]; omega))
      have HE : Hid ((l.set j (Hex.dig x)).drop j = Hex.L b (65 - j)) := Lib.hid (by
        have h2 := step_text (b := b) (by omega) HL.out HD.out
        rw [HQ.out, Nat.mod_eq_of_lt hx16] at h2; exact h2)
      rw [HE.out] at HTX
      have hsl := slice65 w.heap.size j (by omega)
      have htx := HTX.out
      have hj : 49 ≤ j := by omega
      go_wp2_with fail
      have hbit : IsText b w (.returned (.tuple #[.slice none 0 0, .string ⟨(Hex.L b (65 - j)).toArray⟩])) (wr.setCell ⟨w.heap.size, j, none⟩ (.int .u8 ((Hex.dig x).toNat : Int))) :=
        ⟨65 - j, by omega, by omega, by rw [show 65 - j = 65 - (j + 1) + 1 from by omega]; exact hlt, rfl, hbel.setCell (Nat.le_refl _) _⟩
      go_ret2
      exact hbit

end Go.Proofs.YtdhfmapcggohmaaDoor
