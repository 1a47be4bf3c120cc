/-
  What the library reads of sixteen letters to base 16: the number, or an error.
  No condition but that there are sixteen.
-/
import Derived.Test.YtdhfmapcggohmaaDoorNumBase
import Derived.Test.YtdhfmapcggohmaaDoorHexMath
import Derived.Test.YtdhfmapcggohmaaDoorOwns
import Derived.Lib.ConvBytes
import Derived.Lib.AtoiAllMem
import Derived.Lib.Strings
import Derived.Lib.Walk
import Derived.Laws.Strings3
import Derived.Outline
import Derived.BigCall
import Derived.BigGuard
namespace Go.Proofs.YtdhfmapcggohmaaDoor
open Go.RowKit

/-- A letter with its bit of 32 set. -/
def low (c : UInt8) : Nat := c.toNat ||| 32
theorem low_lt (c : UInt8) : low c < 256 := Nat.or_lt_two_pow (n := 8) c.toNat_lt (by decide)

set_option maxHeartbeats 400000 in
theorem lower_any (c : UInt8) (w : World) :
    Calls Tryd.prog 85 #[.int .u8 (c.toNat : Int)] w fun e w' => e = .returned (.int .u8 (low c : Nat)) ∧ w = w' := by
  have h := Lib.hid (u8_or_nat c.toNat 32 c.toNat_lt (by decide))
  go_enter Tryd.func85, Tryd.ntmps85
  go_wp2
  go_ret
  exact ⟨ret_int h.out, rfl⟩

theorem lower_at (n : Int) (c : UInt8) (w : World) (h : n = (c.toNat : Int)) :
    Calls Tryd.prog 85 #[.int .u8 n] w fun e w' => e = .returned (.int .u8 (low c : Nat)) ∧ w = w' := by subst h; exact lower_any c w

/-- What the library hands back. -/
def parsed (T : TypeId) : Option Nat → Value
  | some n => .tuple #[.int .u64 (n : Nat), .nilIface]
  | none => .tuple #[.int .u64 0, .iface T (.int .i64 2)]

theorem up_digit {c : UInt8} (h : 48 ≤ c.toNat ∧ c.toNat ≤ 57) : Hex.up c = some (c.toNat - 48) := by unfold Hex.up; rw [if_pos h]
theorem up_letter {c : UInt8} (h : ¬ (48 ≤ c.toNat ∧ c.toNat ≤ 57)) (h2 : 97 ≤ low c ∧ low c ≤ 102) : Hex.up c = some (low c - 87) := by unfold Hex.up; rw [if_neg h]; exact if_pos h2
theorem up_none {c : UInt8} (h : ¬ (48 ≤ c.toNat ∧ c.toNat ≤ 57)) (h2 : ¬ (97 ≤ low c ∧ low c ≤ 102)) : Hex.up c = none := by unfold Hex.up; rw [if_neg h]; exact if_neg h2
theorem ps_cons {acc : Nat} {c : UInt8} {r : List UInt8} {d : Nat} (h : Hex.up c = some d) : Hex.ps acc (c :: r) = Hex.ps (16 * acc + d) r := by
  show (match Hex.up c with | some d => Hex.ps (16 * acc + d) r | none => none) = _
  rw [h]
theorem ps_bad {acc : Nat} {c : UInt8} {r : List UInt8} (h : Hex.up c = none) : Hex.ps acc (c :: r) = none := by
  show (match Hex.up c with | some d => Hex.ps (16 * acc + d) r | none => none) = _
  rw [h]
theorem pow_fifteen {acc k : Nat} (h : acc < 16 ^ k) (hk : k < 16) : acc < 1152921504606846976 :=
  Nat.lt_of_lt_of_le h (Nat.le_trans (Nat.pow_le_pow_right (by decide) (show k ≤ 15 by omega)) (by decide))

set_option maxHeartbeats 4000000 in
set_option maxRecDepth 100000 in
theorem iparse_any (t : ByteArray) (h16 : t.size = 16) (w : World) :
    Calls Tryd.prog 75 #[.string t, .int .i64 16, .int .i64 64] w fun e w' => e = .returned (parsed 109 (Hex.ps 0 t.data.toList)) ∧ w' = Lib.bytesWorld w 5 t := by
  have hemp : t.toList.isEmpty = false := by
    rw [← decide_eq_emptyBytes]
    exact decide_eq_false (fun h => by rw [h] at h16; exact absurd h16 (by decide))
  have hcv := Lib.run_convert_string_bytes (P := Tryd.prog) w 9 66 5 t (u := .string) Tryd.underlying9 Tryd.underlying66 Tryd.underlying5
  have hB : ∀ j, j < t.size → (Lib.bytesWorld w 5 t).cell? ⟨w.heap.size, j, none⟩ = some (.int .u8 (t.data.toList.getD j 0).toNat) := fun j hj => Lib.bytesWorld_cell w 5 t j hj
  obtain ⟨W1, hW1⟩ : ∃ W1, W1 = Lib.bytesWorld w 5 t := ⟨_, rfl⟩
  rw [← hW1] at hcv hB ⊢
  clear hW1
  obtain ⟨bs, hL⟩ : ∃ bs, bs = t.data.toList := ⟨_, rfl⟩
  have hLn : bs.length = 16 := by rw [hL, ← h16, Lib.size_eq]
  rw [← hL] at hB ⊢
  rw [h16] at hcv hB
  clear hL
  have hmv : IntKind.u64.wrap (IntKind.u64.wrap 18446744073709551616 - 1) = 18446744073709551615 := by
    rw [IntKind.wrap_u64, IntKind.wrap_u64]
    decide
  have H16 := Lib.hid h16
  clear h16
  go_enter Tryd.func75, Tryd.ntmps75
  go_wp2
  go_loop [12, 13, 101] (fun vu vn vi => ∃ (k acc : Nat) (a : Int), vu = .bool false ∧ vn = .int .u64 a ∧ vi = .int .i64 k ∧ k ≤ 16 ∧ Hid (a = (acc : Int) ∧ acc < 16 ^ k ∧ Hex.ps 0 bs = Hex.ps acc (bs.drop k)))
    (fun _ _ vi => 16 - (intOf vi).toNat)
  case atStart => exact ⟨0, 0, 0, rfl, rfl, rfl, by omega, Lib.hid ⟨rfl, by decide, rfl⟩⟩
  case round =>
    obtain ⟨k, acc, a, rfl, rfl, rfl, hk, hh⟩ := hrel
    obtain ⟨ha, hacc, hdec⟩ := hh.out
    clear hh
    by_cases hkn : k < 16
    · have hsmall := pow_fifteen hacc hkn
      have a0 : 0 ≤ a := by omega
      have a1 : a < 1152921504606846976 := by omega
      clear hsmall
      have hc := hB k hkn
      have hdrop : bs.drop k = bs[k]'(by omega) :: bs.drop (k + 1) := List.drop_eq_getElem_cons (by omega)
      have hget : bs.getD k 0 = bs[k]'(by omega) := by simp [List.getD, List.getElem?_eq_getElem (show k < bs.length by omega)]
      rw [hdrop] at hdec
      rw [hget] at hc
      generalize bs[k]'(by omega) = c at hc hdec
      have HLn := Lib.hid hLn
      clear hB hdrop hget hLn
      have hc256 : c.toNat < 256 := c.toNat_lt
      have hv := low_lt c
      have HLow := Lib.hid (fun n w h => lower_at n c w h)
      by_cases hdig : 48 ≤ c.toNat ∧ c.toNat ≤ 57
      · rw [ps_cons (up_digit hdig)] at hdec
        have HN : Hid (a * 16 + ((c.toNat : Int) - 48) = ((16 * acc + (c.toNat - 48) : Nat) : Int) ∧ 16 * acc + (c.toNat - 48) < 16 ^ (k + 1) ∧ Hex.ps 0 bs = Hex.ps (16 * acc + (c.toNat - 48)) (bs.drop (k + 1))) := Lib.hid ⟨by omega, Hex.ps_step hacc (by omega), hdec⟩
        obtain ⟨hd0, hd1⟩ := hdig
        clear hacc hdec ha
        go_wp2
        exact ⟨⟨k + 1, 16 * acc + (c.toNat - 48), a * 16 + ((c.toNat : Int) - 48), rfl, (by first | rfl | (congr 1; omega)), (by first | rfl | (congr 1; omega)), by omega, HN⟩, by simp [intOf]; omega⟩
      · have hd : c.toNat < 48 ∨ 57 < c.toNat := by omega
        by_cases hlet : 97 ≤ low c ∧ low c ≤ 102
        · rw [ps_cons (up_letter hdig hlet)] at hdec
          have HN : Hid (a * 16 + ((low c : Int) - 87) = ((16 * acc + (low c - 87) : Nat) : Int) ∧ 16 * acc + (low c - 87) < 16 ^ (k + 1) ∧ Hex.ps 0 bs = Hex.ps (16 * acc + (low c - 87)) (bs.drop (k + 1))) := Lib.hid ⟨by omega, Hex.ps_step hacc (by omega), hdec⟩
          obtain ⟨hd0, hd1⟩ := hlet
          clear hacc hdec ha hdig
          generalize low c = v at *
          rcases hd with hd | hd
          all_goals
            go_wp2_with (go_at_call 85; refine (HLow.out _ _ (by omega)).mono ?_; rintro e w' ⟨rfl, rfl⟩)
            all_goals exact ⟨⟨k + 1, 16 * acc + (v - 87), a * 16 + ((v : Int) - 87), rfl, (by first | rfl | (congr 1; omega)), (by first | rfl | (congr 1; omega)), by omega, HN⟩, by simp [intOf]; omega⟩
        · rw [ps_bad (up_none hdig hlet)] at hdec
          clear hacc ha hdig
          generalize low c = v at *
          have HD := Lib.hid hdec
          clear hdec
          have hl : v < 97 ∨ 102 < v := by omega
          clear hlet
          rcases hd with hd | hd <;> rcases hl with hl | hl
          all_goals
            go_wp2_with (go_at_call 85; refine (HLow.out _ _ (by omega)).mono ?_; rintro e w' ⟨rfl, rfl⟩)
            all_goals go_ret2
            all_goals exact ⟨by rw [HD.out]; rfl, rfl⟩
    · obtain rfl : k = 16 := by omega
      have hF : Hex.ps acc (bs.drop 16) = some acc := by rw [List.drop_eq_nil_of_le (by omega)]; rfl
      rw [hF] at hdec
      subst ha
      have HD := Lib.hid hdec
      clear hdec hacc hF hLn hB
      go_wp2
      go_ret2
      exact ⟨by rw [HD.out]; rfl, rfl⟩

end Go.Proofs.YtdhfmapcggohmaaDoor
