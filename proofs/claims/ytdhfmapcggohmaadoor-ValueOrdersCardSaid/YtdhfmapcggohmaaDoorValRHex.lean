/-
  What the document's own Hex and Unhex return: bytes as pairs of hexadecimal digits, and back.
  No condition but bounds on the text's length.
-/
import Derived.Test.YtdhfmapcggohmaaDoorValUnpair
import Derived.WalkKit
import Derived.WalkSpells
import Derived.WalkLawsBesides
import Derived.Handy
import Derived.Deep.QuietTactic
import Derived.BigQuiet
import Derived.Deep.RegionWith
import Derived.Deep.RegionHeld3
import Derived.Deep.RegionLaw
import Derived.Deep.Draws
import Derived.Lib.Hide
namespace Go.Proofs.YtdhfmapcggohmaaDoor
open Go.RowKit

theorem str_two (x y : UInt8) (w : World) : (convert 66 9 (.slice (some ⟨w.heap.size, 0, none⟩) 2 2)).run Tryd.prog (w.alloc (.cells #[.int .u8 (x.toNat : Int), .int .u8 (y.toNat : Int)] 5))
    = .ok (.string (Val.of [x, y])) (w.alloc (.cells #[.int .u8 (x.toNat : Int), .int .u8 (y.toNat : Int)] 5)) := by
  have h := run_convert_bytes_back (P := Tryd.prog) (w.alloc (.cells #[.int .u8 (x.toNat : Int), .int .u8 (y.toNat : Int)] 5)) 66 9 5 ⟨w.heap.size, 0, none⟩ 2 [x, y] Tryd.underlying66 Tryd.underlying5 Tryd.underlying9 (fun j hj => by
    rw [add_at, World.cell?_alloc_new]
    match j, hj with
    | 0, _ => rfl
    | 1, _ => rfl)
  exact h
theorem of_app (a b : List UInt8) : Val.of a ++ Val.of b = Val.of (a ++ b) := by
  apply ByteArray.ext
  simp [Val.of]

set_option maxRecDepth 100000 in
set_option maxHeartbeats 3200000 in
theorem rhex_any (s : ByteArray) (w : World) (hs : s.size ≤ 211106232532992) :
    Calls Tryd.prog 37 #[.string s] w fun e w' => e = .returned (.string (Val.of (Val.hexL s.data.toList))) ∧ Below w.heap.size w w' := by
  have hsize : s.data.toList.length = s.size := by rw [Array.length_toList]; rfl
  have HSz := Lib.hid hsize
  have HB0 := Lib.hid (Below.refl w.heap.size w)
  clear hsize
  go_enter Tryd.func37, Tryd.ntmps37
  go_name_bytes_deep 10 SM hSM
  have eSM : SM = letters := by rw [← hSM]; decide +kernel
  subst eSM
  clear hSM
  go_wp2_with fail
  go_loopw [3, 4] (fun vs vi wr => ∃ (k : Nat) (t : ByteArray), k ≤ s.size ∧ vs = .string t ∧ vi = .int .i64 k ∧ t.size = 2 * k ∧ Hid (t = Val.of (Val.hexL (s.data.toList.take k))) ∧ Hid (Below w.heap.size w wr)) (fun _ vi _ => s.size - (intOf vi).toNat)
  case atStart => exact ⟨0, _, Nat.zero_le _, rfl, rfl, rfl, Lib.hid rfl, HB0⟩
  case round =>
    obtain ⟨k, t, hk, rfl, rfl, htz, HT, HB⟩ := hrel
    by_cases hlt : k < s.size
    · obtain ⟨c, hck⟩ : ∃ c, s.data.toList[k]? = some c := ⟨_, List.getElem?_eq_getElem (by rw [HSz.out]; exact hlt)⟩
      have hxk := index_at s k k rfl c hck
      have hcb := c.toNat_lt
      have hl1 := letter_at ((c.toNat : Int) / 16) (c.toNat / 16) (by omega) (by omega)
      have hl2 := letter_at ((c.toNat : Int) % 16) (c.toNat % 16) (by omega) (by omega)
      have hhx := hex_take hck
      generalize hd1 : Hex.dig (c.toNat / 16) = d1 at *
      generalize hd2 : Hex.dig (c.toNat % 16) = d2 at *
      have hst : ∀ W : World, (convert 66 9 (.slice (some ⟨W.heap.size, 0, none⟩) 2 2)).run Tryd.prog (W.alloc (.cells #[.int .u8 (d1.toNat : Int), .int .u8 (d2.toNat : Int)] 5)).drew = .ok (.string (Val.of [d1, d2])) (W.alloc (.cells #[.int .u8 (d1.toNat : Int), .int .u8 (d2.toNat : Int)] 5)).drew := fun W => str_two d1 d2 W.drew
      have hz2 : (Val.of [d1, d2]).size = 2 := rfl
      have HX : Hid (t ++ Val.of [d1, d2] = Val.of (Val.hexL (s.data.toList.take (k + 1)))) := Lib.hid (by rw [HT.out, of_app, hhx])
      generalize Val.of [d1, d2] = y at *
      clear hck hd1 hd2 hhx HT
      go_wp2_with fail
      go_region
      all_goals
        go_wp2_with fail
        exact ⟨⟨k + 1, _, by omega, rfl, by go_num, by rw [ByteArray.size_append]; omega, HX, Lib.hid ((HB.out.drew).alloc HB.out.size _)⟩, by simp [intOf]; omega⟩
    · obtain rfl : k = s.size := by omega
      have ht := HT.out
      rw [List.take_of_length_le (by rw [HSz.out]; exact Nat.le_refl _)] at ht
      have HT2 := Lib.hid ht
      clear ht HT
      go_wp2_with fail
      go_ret
      exact ⟨by rw [← HT2.out]; rfl, HB.out⟩

set_option maxRecDepth 100000 in
set_option maxHeartbeats 3200000 in
theorem runhex_any (s : ByteArray) (w : World) (hs : s.size ≤ 211106232532992) :
    Calls Tryd.prog 39 #[.string s] w fun e w' => IsTxt (Val.unL s.data.toList) e ∧ Below w.heap.size w w' := by
  have hsize : s.data.toList.length = s.size := by rw [Array.length_toList]; rfl
  by_cases hev : s.size % 2 = 0
  · have HSz := Lib.hid hsize
    have HB0 := Lib.hid (Below.refl w.heap.size w)
    have H0 := Lib.hid (half2_zero s.data.toList)
    have hev2 : (s.size : Int).tmod 2 = 0 := by rw [Int.tmod_eq_emod_of_nonneg (by omega)]; omega
    have hev3 : (s.size : Int) % 2 = 0 := by omega
    clear hsize
    go_enter Tryd.func39, Tryd.ntmps39
    go_wp2_with fail
    go_loopw [4, 5] (fun vs vi wr => ∃ (j : Nat) (t : ByteArray) (p : List UInt8), j ≤ s.size ∧ j % 2 = 0 ∧ vi = .int .i64 j ∧ vs = .string t ∧ t.size ≤ j ∧ Hid (t = Val.of p) ∧ Hid (Below w.heap.size w wr) ∧ Hid (Half2 s.data.toList p j)) (fun _ vi _ => s.size - (intOf vi).toNat)
    case atStart => exact ⟨0, _, [], Nat.zero_le _, rfl, rfl, rfl, Nat.le_refl _, Lib.hid rfl, HB0, H0⟩
    case round =>
      obtain ⟨j, t, p, hj, hj2, rfl, rfl, htj, HT, HBl, HH⟩ := hrel
      by_cases hlt : j < s.size
      · have hlt2 : j + 1 < s.size := by omega
        obtain ⟨a, ha⟩ : ∃ c, s.data.toList[j]? = some c := ⟨_, List.getElem?_eq_getElem (by rw [HSz.out]; exact hlt)⟩
        obtain ⟨b, hb⟩ : ∃ c, s.data.toList[j + 1]? = some c := ⟨_, List.getElem?_eq_getElem (by rw [HSz.out]; exact hlt2)⟩
        have hxa := index_at s j j rfl a ha
        have hxb := index_at s (j + 1) ((j : Int) + 1) (by omega) b hb
        have HAB : Hid (∀ c w, Calls Tryd.prog 54 #[.int .u8 (UInt8.toNat c : Int)] w fun e w' => e = .returned (.int .i64 (digitOf c)) ∧ w' = w) := Lib.hid fun c w => (digit4_any c w).mono fun e w' ⟨h1, h2⟩ => ⟨h1, h2.symm⟩
        cases hx : Hex.lo a with
        | none =>
          have HN := Lib.hid (half2_bad HH.out ha hb (.inl hx))
          have hda := digitOf_none hx
          clear ha hb HH
          go_wp2_with fail
          go_quiet (exact Calls.quiet_of_same (HAB.out _ _))
          go_wp2_with fail
          go_ret2
          exact ⟨.inr ⟨HN.out, rfl⟩, HBl.out.trans (below_drew0 _ _ _)⟩
        | some x =>
          have hx16 := Hex.lo_lt hx
          have hda := digitOf_some hx
          cases hy : Hex.lo b with
          | none =>
            have HN := Lib.hid (half2_bad HH.out ha hb (.inr hy))
            have hdb := digitOf_none hy
            clear ha hb HH
            go_wp2_with fail
            go_quiet (exact Calls.quiet_of_same (HAB.out _ _))
            go_wp2_with fail
            go_ret2
            exact ⟨.inr ⟨HN.out, rfl⟩, HBl.out.trans (below_drew0 _ _ _)⟩
          | some y =>
            have hy16 := Hex.lo_lt hy
            have hdb := digitOf_some hy
            have hzb := byte_is hx16 hy16
            have hn := half2_next HH.out ha hb hx hy
            generalize UInt8.ofNat (16 * x + y) = z at hzb hn
            have HN := Lib.hid hn
            have hzb2 : 16 * (x : Int) + (y : Int) = (z.toNat : Int) := by omega
            have hst : ∀ (W : World) (n : Nat), (convert 66 9 (.slice (some ⟨W.heap.size, 0, none⟩) 1 1)).run Tryd.prog ((W.drewN n).alloc (.cells #[.int .u8 (16 * (x : Int) + (y : Int))] 5)) = .ok (.string (Val.of [z])) ((W.drewN n).alloc (.cells #[.int .u8 (16 * (x : Int) + (y : Int))] 5)) := fun W n => by
              rw [hzb2]; exact str1 z (W.drewN n)
            have hz1 : (Val.of [z]).size = 1 := rfl
            have HX : Hid (t ++ Val.of [z] = Val.of (p ++ [z])) := Lib.hid (by rw [HT.out, of_app])
            generalize Val.of [z] = q at *
            clear ha hb HH hx hy HT hn hzb hzb2
            go_wp2_with fail
            go_quiet (exact Calls.quiet_of_same (HAB.out _ _))
            go_wp2_with fail
            exact ⟨⟨j + 2, _, _, by omega, by omega, by go_num, rfl, by rw [ByteArray.size_append]; omega, HX, Lib.hid ((HBl.out.trans (below_drew0 _ _ _)).alloc HBl.out.size _), HN⟩, by simp [intOf]; omega⟩
      · obtain rfl : j = s.size := by omega
        have HN := Lib.hid (half2_end HH.out (by rw [HSz.out]; exact Nat.le_refl _))
        have HT2 := Lib.hid HT.out
        clear HH
        go_wp2_with fail
        go_ret2
        exact ⟨.inl ⟨p, HN.out, by rw [← HT2.out]; rfl⟩, HBl.out⟩
  · have HN := Lib.hid (odd_none (l := s.data.toList) (by rw [hsize]; exact hev))
    have hev2 : (s.size : Int).tmod 2 = 1 := by rw [Int.tmod_eq_emod_of_nonneg (by omega)]; omega
    have hev3 : (s.size : Int) % 2 = 1 := by omega
    clear hsize hev
    go_enter Tryd.func39, Tryd.ntmps39
    go_wp2_with fail
    go_ret2
    exact ⟨.inr ⟨HN.out, rfl⟩, Below.refl _ _⟩

end Go.Proofs.YtdhfmapcggohmaaDoor
