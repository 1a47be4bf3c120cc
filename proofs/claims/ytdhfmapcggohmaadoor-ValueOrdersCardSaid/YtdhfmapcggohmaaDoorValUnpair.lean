/-
  What value.unpair, the document's own Hex and Unhex return: bytes as pairs of hexadecimal digits, and back.
  No condition but bounds on the text's length.
-/
import Derived.Test.YtdhfmapcggohmaaDoorValPairs
import Derived.WalkKit
import Derived.WalkSpells
import Derived.WalkLawsBesides
import Derived.Handy
import Derived.Deep.QuietTactic
import Derived.BigQuiet
import Derived.Deep.RegionWith
import Derived.Deep.RegionHeld3
import Derived.Deep.RegionLaw
import Derived.Deep.Draws
import Derived.Lib.Hide
namespace Go.Proofs.YtdhfmapcggohmaaDoor
open Go.RowKit

set_option maxHeartbeats 400000 in
theorem digit4_any (c : UInt8) (w : World) :
    Calls Tryd.prog 54 #[.int .u8 (c.toNat : Int)] w fun e w' => e = .returned (.int .i64 (digitOf c)) ∧ w = w' := by
  have hc := c.toNat_lt
  by_cases h1 : 48 ≤ c.toNat ∧ c.toNat ≤ 57
  · have hl : Hid (Hex.lo c = some (c.toNat - 48)) := Lib.hid (by unfold Hex.lo; exact if_pos h1)
    obtain ⟨h1, h2⟩ := h1
    go_enter Tryd.func54, Tryd.ntmps54
    go_wp2
    go_ret
    refine ⟨ret_int ?_, rfl⟩
    rw [digitOf_some hl.out]
    omega
  · by_cases h2 : 97 ≤ c.toNat ∧ c.toNat ≤ 102
    · have hl : Hid (Hex.lo c = some (c.toNat - 87)) := Lib.hid (by unfold Hex.lo; rw [if_neg h1]; exact if_pos h2)
      obtain ⟨h2, h3⟩ := h2
      clear h1
      go_enter Tryd.func54, Tryd.ntmps54
      go_wp2
      go_ret
      refine ⟨ret_int ?_, rfl⟩
      rw [digitOf_some hl.out]
      omega
    · have hl : Hid (Hex.lo c = none) := Lib.hid (by unfold Hex.lo; rw [if_neg h1]; exact if_neg h2)
      have h1' : c.toNat < 48 ∨ 57 < c.toNat := by omega
      have h2' : c.toNat < 97 ∨ 102 < c.toNat := by omega
      clear h1 h2
      rcases h1' with h1 | h1 <;> rcases h2' with h2 | h2
      all_goals first
        | (exfalso; omega)
        | (go_enter Tryd.func54, Tryd.ntmps54
           go_wp2
           go_ret
           exact ⟨ret_int (digitOf_none hl.out).symm, rfl⟩)

theorem below_drew0 (B : Nat) (w : World) (n : Nat) : Below B w (w.drewN n) := ⟨rfl, rfl, rfl, Nat.le_refl _, fun _ _ => rfl⟩
theorem indexByte_all : ∀ n : Nat, n < 256 → Lib.indexByte letters.data.toList (UInt8.ofNat n) = digitOf (UInt8.ofNat n) := by decide +kernel
theorem indexByte_is (c : UInt8) : Lib.indexByte letters.data.toList ((c.toNat : Int).toNat.toUInt8) = digitOf c := by
  have h := indexByte_all c.toNat c.toNat_lt
  rw [UInt8.ofNat_toNat] at h
  rw [Int.toNat_natCast]
  show Lib.indexByte letters.data.toList (UInt8.ofNat c.toNat) = _
  rw [UInt8.ofNat_toNat]; exact h
set_option maxHeartbeats 400000 in
set_option maxRecDepth 100000 in
theorem liteIndex_any (s : ByteArray) (c : Int) (w : World) :
    Calls Tryd.prog 77 #[.string s, .int .u8 c] w fun e w' => e = .returned (.int .i64 (Lib.indexByte s.data.toList c.toNat.toUInt8)) ∧ w' = w := by
  go_enter Tryd.func77, Tryd.ntmps77
  go_wp2
  rw [run_callFunc_extern Tryd.func91 (by kernel_rfl) (by kernel_rfl) (by kernel_rfl) (e := Extern.BytealgIndexByte.indexByte) (by kernel_rfl), Lib.run_indexByteString]
  simp only [Result.andThen]
  rw [Oper.upon_value]
  go_wp2
  go_ret
  exact ⟨rfl, rfl⟩
set_option maxHeartbeats 400000 in
theorem letterIndex_any (c : UInt8) (w : World) :
    Calls Tryd.prog 65 #[.string letters, .int .u8 (c.toNat : Int)] w fun e w' => e = .returned (.int .i64 (digitOf c)) ∧ w' = w := by
  have HL := Lib.hid (fun w => liteIndex_any letters (c.toNat : Int) w)
  rw [indexByte_is c] at HL
  generalize letters = s at *
  go_enter Tryd.func65, Tryd.ntmps65
  go_wp2_with fail
  refine (HL.out _).mono ?_; rintro e w' ⟨rfl, rfl⟩
  go_wp2_with fail
  go_ret
  exact ⟨rfl, rfl⟩

/-- Bytes that are read, or none. -/
def IsTxt (r : Option (List UInt8)) (e : Ending) : Prop := (∃ t, r = some t ∧ e = .returned (.tuple #[.string (Val.of t), .bool true])) ∨ (r = none ∧ e = .returned (.tuple #[.string ⟨#[]⟩, .bool false]))
/-- So many signs are read. -/
def Half2 (l p : List UInt8) (j : Nat) : Prop := Val.unL l = (Val.unL (l.drop j)).map (p ++ ·) ∧ 2 * p.length = j
theorem half2_zero (l : List UInt8) : Half2 l [] 0 := ⟨by rw [List.drop_zero]; cases Val.unL l <;> rfl, rfl⟩
theorem drop_two {l : List UInt8} {j : Nat} {a b : UInt8} (ha : l[j]? = some a) (hb : l[j + 1]? = some b) : l.drop j = a :: b :: l.drop (j + 2) := by
  obtain ⟨h1, e1⟩ := List.getElem?_eq_some_iff.1 ha
  obtain ⟨h2, e2⟩ := List.getElem?_eq_some_iff.1 hb
  rw [List.drop_eq_getElem_cons h1, List.drop_eq_getElem_cons h2, e1, e2]
theorem half2_next {l p : List UInt8} {j : Nat} {a b : UInt8} {x y : Nat} (h : Half2 l p j) (ha : l[j]? = some a) (hb : l[j + 1]? = some b) (hx : Hex.lo a = some x) (hy : Hex.lo b = some y) : Half2 l (p ++ [UInt8.ofNat (16 * x + y)]) (j + 2) := by
  refine ⟨?_, by rw [List.length_append, List.length_singleton]; have := h.2; omega⟩
  rw [h.1, drop_two ha hb]
  show Option.map (p ++ ·) (match Hex.lo a, Hex.lo b with
    | some x, some y => (Val.unL (l.drop (j + 2))).map (UInt8.ofNat (16 * x + y) :: ·)
    | _, _ => none) = _
  rw [hx, hy]
  simp only [Option.map_map]
  congr 1
  funext t
  simp
theorem half2_bad {l p : List UInt8} {j : Nat} {a b : UInt8} (h : Half2 l p j) (ha : l[j]? = some a) (hb : l[j + 1]? = some b) (hx : Hex.lo a = none ∨ Hex.lo b = none) : Val.unL l = none := by
  rw [h.1, drop_two ha hb]
  show Option.map (p ++ ·) (match Hex.lo a, Hex.lo b with
    | some x, some y => (Val.unL (l.drop (j + 2))).map (UInt8.ofNat (16 * x + y) :: ·)
    | _, _ => none) = none
  rcases hx with e | e
  · rw [e]; rfl
  · rw [e]; cases Hex.lo a <;> rfl
theorem half2_end {l p : List UInt8} {j : Nat} (h : Half2 l p j) (hj : l.length ≤ j) : Val.unL l = some p := by
  rw [h.1, List.drop_of_length_le hj]
  show Option.map (p ++ ·) (some []) = _
  simp
theorem or_16 : ∀ x : Nat, x < 16 → ∀ y : Nat, y < 16 → bits .or .i64 ((x : Int) * 16) (y : Int) = (x : Int) * 16 + (y : Int) := by decide +kernel
theorem odd_none {l : List UInt8} (h : l.length % 2 ≠ 0) : Val.unL l = none := by
  cases e : Val.unL l with
  | none => rfl
  | some t => exact absurd (Val.unL_even _ _ e) h
theorem byte_is {x y : Nat} (hx : x < 16) (hy : y < 16) : (x : Int) * 16 + (y : Int) = ((UInt8.ofNat (16 * x + y)).toNat : Int) := by rw [UInt8.toNat_ofNat']; omega

set_option maxRecDepth 100000 in
set_option maxHeartbeats 3200000 in
theorem unpair_any (s : ByteArray) (w : World) (hs : s.size ≤ 211106232532992) :
    Calls Tryd.prog 51 #[.string s] w fun e w' => IsTxt (Val.unL s.data.toList) e ∧ Below w.heap.size w w' := by
  have hsize : s.data.toList.length = s.size := by rw [Array.length_toList]; rfl
  by_cases hev : s.size % 2 = 0
  · have HSz := Lib.hid hsize
    have hR0 := Row.new (base := w.heap.size) w [] #[] rfl (Nat.le_refl _) (by decide)
    have HR0 := Lib.hid hR0
    have HT0 := Lib.hid ((Turns.refl w.heap.size 5 w).alloc (Nat.le_refl _) (.cells #[] 5))
    have H0 := Lib.hid (half2_zero s.data.toList)
    have hev2 : (s.size : Int).tmod 2 = 0 := by rw [Int.tmod_eq_emod_of_nonneg (by omega)]; omega
    have hev3 : (s.size : Int) % 2 = 0 := by omega
    clear hsize hR0
    go_enter Tryd.func51, Tryd.ntmps51
    go_name_bytes_deep 10 SM hSM
    have eSM : SM = letters := by rw [← hSM]; decide +kernel
    subst eSM
    clear hSM
    go_wp2_with fail
    go_loopw [4, 5] (fun vs vi wr => ∃ (j : Nat) (p : List UInt8), j ≤ s.size ∧ j % 2 = 0 ∧ vi = .int .i64 j ∧ Hid (Row w.heap.size wr vs p) ∧ Hid (Turns w.heap.size 5 w wr) ∧ w.heap.size ≤ wr.heap.size ∧ Hid (Half2 s.data.toList p j)) (fun _ vi _ => s.size - (intOf vi).toNat)
    case atStart => exact ⟨0, [], Nat.zero_le _, rfl, rfl, HR0, HT0, by simp, H0⟩
    case round =>
      obtain ⟨j, p, hj, hj2, rfl, HR, HT, hsz, HH⟩ := hrel
      by_cases hlt : j < s.size
      · have hlt2 : j + 1 < s.size := by omega
        obtain ⟨a, ha⟩ : ∃ c, s.data.toList[j]? = some c := ⟨_, List.getElem?_eq_getElem (by rw [HSz.out]; exact hlt)⟩
        obtain ⟨b, hb⟩ : ∃ c, s.data.toList[j + 1]? = some c := ⟨_, List.getElem?_eq_getElem (by rw [HSz.out]; exact hlt2)⟩
        have hxa := index_at s j j rfl a ha
        have hxb := index_at s (j + 1) ((j : Int) + 1) (by omega) b hb
        have HA := Lib.hid (fun w => letterIndex_any a w)
        have HB := Lib.hid (fun w => letterIndex_any b w)
        cases hx : Hex.lo a with
        | none =>
          have HN := Lib.hid (half2_bad HH.out ha hb (.inl hx))
          rw [digitOf_none hx] at HA
          have HBl := Lib.hid HT.out.below
          generalize digitOf b = y at *
          clear ha hb HR HT HH
          go_wp2_with fail
          go_quiet (first | exact Calls.quiet_of_same (HA.out _) | exact Calls.quiet_of_same (HB.out _))
          go_wp2_with fail
          go_ret2
          exact ⟨.inr ⟨HN.out, rfl⟩, HBl.out.trans (below_drew0 _ _ _)⟩
        | some x =>
          have hx16 := Hex.lo_lt hx
          rw [digitOf_some hx] at HA
          cases hy : Hex.lo b with
          | none =>
            have HN := Lib.hid (half2_bad HH.out ha hb (.inr hy))
            rw [digitOf_none hy] at HB
            have HBl := Lib.hid HT.out.below
            clear ha hb HR HT HH
            go_wp2_with fail
            go_quiet (first | exact Calls.quiet_of_same (HA.out _) | exact Calls.quiet_of_same (HB.out _))
            go_wp2_with fail
            go_ret2
            exact ⟨.inr ⟨HN.out, rfl⟩, HBl.out.trans (below_drew0 _ _ _)⟩
          | some y =>
            have hy16 := Hex.lo_lt hy
            rw [digitOf_some hy] at HB
            have hzb := byte_is hx16 hy16
            have hn := half2_next HH.out ha hb hx hy
            generalize UInt8.ofNat (16 * x + y) = z at hzb hn
            have HN := Lib.hid hn
            have HZ := Lib.hid hzb
            clear hn hzb
            have hlen : p.length ≤ 105553116266496 := by have := HH.out.2; omega
            have hor := or_16 x hx16 y hy16
            clear ha hb HH hx hy
            go_wp2_with fail
            go_quiet (first | exact Calls.quiet_of_same (HA.out _) | exact Calls.quiet_of_same (HB.out _))
            go_wp2_with (at_builtin; refine wpList_push rfl (.tmp 34) (.tmp 40) rfl w.heap.size (wr.drewN nq) _ p [z] _ 1 1 rfl rfl (cell1 HZ.out) rfl (HR.out.drewN _) (by simp; omega) hsz ?_)
            intro v2 w2 HR2 HT2 hsz2
            have HT3 := Lib.hid (HT2.out _ w (Nat.le_refl _) hsz (HT.out.drewN _))
            clear HR HT HT2
            go_wp2_with fail
            exact ⟨⟨j + 2, _, by omega, by omega, by go_num, HR2, HT3, hsz2, HN⟩, by simp [intOf]; omega⟩
      · obtain rfl : j = s.size := by omega
        have HN := Lib.hid (half2_end HH.out (by rw [HSz.out]; exact Nat.le_refl _))
        have hst := row_string HR.out
        have HBl := Lib.hid HT.out.below
        clear HR HT HH HR0 HT0
        go_wp2_with fail
        go_ret2
        exact ⟨.inl ⟨p, HN.out, rfl⟩, HBl.out⟩
  · have HN := Lib.hid (odd_none (l := s.data.toList) (by rw [hsize]; exact hev))
    have hev2 : (s.size : Int).tmod 2 = 1 := by rw [Int.tmod_eq_emod_of_nonneg (by omega)]; omega
    have hev3 : (s.size : Int) % 2 = 1 := by omega
    clear hsize hev
    go_enter Tryd.func51, Tryd.ntmps51
    go_wp2_with fail
    go_ret2
    exact ⟨.inr ⟨HN.out, rfl⟩, Below.refl _ _⟩

end Go.Proofs.YtdhfmapcggohmaaDoor
