/-
  What value.pairs returns: two hexadecimal digits a byte.
  The text is so long at most that twice as many bytes can be appended.
-/
import Derived.Test.YtdhfmapcggohmaaDoorValRow
import Derived.Test.YtdhfmapcggohmaaDoorValLib
import Derived.WalkKit
import Derived.WalkSpells
import Derived.WalkLawsBesides
import Derived.Handy
import Derived.Deep.QuietTactic
import Derived.BigQuiet
import Derived.Deep.RegionWith
import Derived.Deep.RegionHeld3
import Derived.Deep.RegionLaw
import Derived.Deep.Draws
import Derived.Lib.Hide
namespace Go.Proofs.YtdhfmapcggohmaaDoor
open Go.RowKit

theorem letter_at (z : Int) (d : Nat) (hz : z = (d : Int)) (hd : d < 16) (W : World) :
    (Instr.index 9 (.string letters) (.int .u8 z)).run Tryd.prog W = .ok (.int .u8 ((Hex.dig d).toNat : Int)) W := by
  subst hz
  rw [run_index_string W 9 letters .u8 _ Tryd.underlying9, dif_pos ⟨by omega, by rw [letters_size]; omega⟩]
  have e : ((d : Int)).toNat = d := by omega
  simp only [e]
  rw [byte_of letters d (by rw [letters_size]; omega) _ (letters_some d hd)]
theorem and_15 : ∀ n : Nat, n < 256 → bits .and .u8 (n : Int) 15 = (n : Int) % 16 := by decide +kernel
theorem hex_take {l : List UInt8} {k : Nat} {c : UInt8} (h : l[k]? = some c) : Val.hexL (l.take (k + 1)) = Val.hexL (l.take k) ++ [Hex.dig (c.toNat / 16), Hex.dig (c.toNat % 16)] := by
  rw [Val.take_one h, Val.hexL_append]; rfl

set_option maxRecDepth 100000 in
set_option maxHeartbeats 3200000 in
theorem pairs_any (s : ByteArray) (w : World) (hs : s.size ≤ 105553116266496) :
    Calls Tryd.prog 33 #[.string s] w fun e w' => e = .returned (.string (Val.of (Val.hexL s.data.toList))) ∧ Below w.heap.size w w' := by
  have hsize : s.data.toList.length = s.size := by rw [Array.length_toList]; rfl
  have HSz := Lib.hid hsize
  have hR0 := Row.new (base := w.heap.size) w [] #[] rfl (Nat.le_refl _) (by decide)
  have HR0 := Lib.hid hR0
  have HT0 := Lib.hid ((Turns.refl w.heap.size 5 w).alloc (Nat.le_refl _) (.cells #[] 5))
  clear hsize hR0
  go_enter Tryd.func33, Tryd.ntmps33
  go_name_bytes_deep 10 SM hSM
  have eSM : SM = letters := by rw [← hSM]; decide +kernel
  subst eSM
  clear hSM
  go_wp2_with fail
  go_loopw [3, 8] (fun vs vi wr => ∃ (k : Nat), k ≤ s.size ∧ vi = .int .i64 k ∧ Hid (Row w.heap.size wr vs (Val.hexL (s.data.toList.take k))) ∧ Hid (Turns w.heap.size 5 w wr) ∧ w.heap.size ≤ wr.heap.size) (fun _ vi _ => s.size - (intOf vi).toNat)
  case atStart => exact ⟨0, Nat.zero_le _, rfl, HR0, HT0, by simp⟩
  case round =>
    obtain ⟨k, hk, rfl, HR, HT, hsz⟩ := hrel
    by_cases hlt : k < s.size
    · obtain ⟨c, hck⟩ : ∃ c, s.data.toList[k]? = some c := ⟨_, List.getElem?_eq_getElem (by rw [HSz.out]; exact hlt)⟩
      have hxk := index_at s k k rfl c hck
      have hcb := c.toNat_lt
      have hl1 := letter_at ((c.toNat : Int) / 16) (c.toNat / 16) (by omega) (by omega)
      have ha := and_15 c.toNat hcb
      have hl2 := letter_at ((c.toNat : Int) % 16) (c.toNat % 16) (by omega) (by omega)
      have HX := Lib.hid (hex_take hck)
      have hlen : (Val.hexL (s.data.toList.take k)).length ≤ 211106232532990 := by rw [Val.hexL_length, List.length_take]; omega
      clear hck
      go_wp2_with fail
      refine wp_region_noPanic ?_
      go_region_law (refine step_push (by rfl) (.tmp 11) (.tmp 22) (by rfl) w.heap.size wr.drew _ (Val.hexL (s.data.toList.take k)) [Hex.dig (c.toNat / 16), Hex.dig (c.toNat % 16)] _ 2 2 rfl rfl (cell2 rfl rfl) rfl HR.out.drew (by simp; omega) hsz ?_; intro v2 w2 HR2 HT2 hsz2)
      all_goals
        have HT3 := Lib.hid (HT2.out _ w (Nat.le_refl _) hsz (HT.out.drew))
        have HR3 : Hid (Row w.heap.size w2 v2 (Val.hexL (s.data.toList.take (k + 1)))) := Lib.hid (by rw [HX.out]; exact HR2.out)
        clear HR2 HT2 HR HT
        refine NoPanic.normal ?_
        go_wp2_with fail
        exact ⟨⟨k + 1, by omega, by go_num, HR3, HT3, hsz2⟩, by simp [intOf]; omega⟩
    · obtain rfl : k = s.size := by omega
      have hr := HR.out
      rw [List.take_of_length_le (by rw [HSz.out]; exact Nat.le_refl _)] at hr
      have hst := row_string hr
      have HB := Lib.hid HT.out.below
      clear hr HR HT HR0 HT0
      go_wp2_with fail
      go_ret
      exact ⟨rfl, HB.out⟩
end Go.Proofs.YtdhfmapcggohmaaDoor
