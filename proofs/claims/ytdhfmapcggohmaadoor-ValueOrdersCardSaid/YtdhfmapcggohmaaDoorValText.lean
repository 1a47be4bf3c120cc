/-
  What value.Text and the document's own Text return, for every value: its word.
  No condition but that its fields fit their kinds, and that its text leaves room for twice its length.
-/
import Derived.Test.YtdhfmapcggohmaaDoorValBox
import Derived.Test.YtdhfmapcggohmaaDoorValDigits
import Derived.Test.YtdhfmapcggohmaaDoorValRHex
import Derived.WalkKit
import Derived.WalkSpells
import Derived.WalkLawsBesides
import Derived.Handy
import Derived.Deep.QuietTactic
import Derived.BigQuiet
import Derived.Deep.Draws
import Derived.Lib.Hide
namespace Go.Proofs.YtdhfmapcggohmaaDoor
open Go.RowKit

def IsWord (v : Val.V) (w : World) (e : Ending) (w' : World) : Prop := e = .returned (.string (Val.of (Val.word v))) ∧ Below w.heap.size w w'
theorem isWord {v : Val.V} {l : List UInt8} (h : Val.word v = l) {w w' : World} (hb : Below w.heap.size w w') {t : ByteArray} (ht : t = Val.of l) : IsWord v w (.returned (.string t)) w' := by
  unfold IsWord; rw [h, ht]; exact ⟨rfl, hb⟩
theorem new_below {w w1 : World} {o : Obj} (h : Below (w.alloc o).heap.size (w.alloc o) w1) : Below w.heap.size w w1 :=
  ((Below.refl _ w).alloc (Nat.le_refl _) o).trans (h.mono (by simp))
theorem of_cat (c : UInt8) (t : ByteArray) (l : List UInt8) (h : t.data.toList = l) : (⟨#[c]⟩ : ByteArray) ++ t = Val.of (c :: l) := by
  subst h
  apply ByteArray.ext
  simp [Val.of]

set_option maxHeartbeats 1600000 in
theorem vtext_any (v : Val.V) (w : World) (hn : Val.inR v.n) (hf : v.f < 18446744073709551616) (hs : v.s.size ≤ 105553116266496) (ht : TabOk w) : Calls Tryd.prog 17 #[vv v] w (IsWord v w) := by
  obtain ⟨k, n, f, s⟩ := v
  show Calls Tryd.prog 17 #[.agg #[.int .i64 k, .int .i64 n, .int .u64 (f : Int), .string s]] w (IsWord ⟨k, n, f, s⟩ w)
  simp only at hn hf hs
  by_cases h1 : k = 1
  · subst h1
    have HW : Hid (Val.word ⟨1, n, f, s⟩ = Val.dec n) := Lib.hid (if_pos rfl)
    have HD := Lib.hid (fun w => decimal_is n w hn)
    clear hn hf hs ht
    go_enter Tryd.func17, Tryd.ntmps17
    go_wp2_with fail
    refine (HD.out _).mono ?_; rintro e w1 ⟨rfl, b1⟩
    have HB := Lib.hid (new_below b1)
    clear b1
    go_wp2_with fail
    go_ret
    exact isWord HW.out HB.out rfl
  · by_cases h2 : k = 2
    · subst h2
      have HW : Hid (Val.word ⟨2, n, f, s⟩ = 102 :: (hexText (Num.M f)).data.toList) := Lib.hid (by unfold Val.word; rw [if_neg (by simp), if_pos rfl])
      have HD := Lib.hid (fun o => text_any f (w.alloc o) hf (ht.below ((Below.refl _ w).alloc (Nat.le_refl _) o)))
      have hz := hexText_size (Num.M f)
      have HC := Lib.hid (of_cat 102 (hexText (Num.M f)) _ rfl)
      clear hn hf hs ht
      generalize hexText (Num.M f) = t at *
      go_enter Tryd.func17, Tryd.ntmps17
      go_wp2_with fail
      refine (HD.out _).mono ?_; rintro e w1 ⟨rfl, b1⟩
      have HB := Lib.hid (new_below b1)
      clear b1
      go_wp2_with fail
      go_ret
      exact isWord HW.out HB.out HC.out
    · by_cases h3 : k = 3
      · subst h3
        have HW : Hid (Val.word ⟨3, n, f, s⟩ = 120 :: Val.hexL s.data.toList) := Lib.hid (by unfold Val.word; rw [if_neg (by simp), if_neg (by simp), if_pos rfl])
        have HD := Lib.hid (fun w => pairs_any s w (by omega))
        have hz : (Val.of (Val.hexL s.data.toList)).size ≤ 211106232532992 := by
          rw [Val.of_size, Val.hexL_length]
          have : s.data.toList.length = s.size := by rw [Array.length_toList]; rfl
          omega
        have HC := Lib.hid (of_cat 120 (Val.of (Val.hexL s.data.toList)) _ (Val.of_toList _))
        clear hn hf hs ht
        generalize Val.of (Val.hexL s.data.toList) = t at *
        go_enter Tryd.func17, Tryd.ntmps17
        go_wp2_with fail
        refine (HD.out _).mono ?_; rintro e w1 ⟨rfl, b1⟩
        have HB := Lib.hid (new_below b1)
        clear b1
        go_wp2_with fail
        go_ret
        exact isWord HW.out HB.out HC.out
      · have HW : Hid (Val.word ⟨k, n, f, s⟩ = [110, 111, 110, 101]) := Lib.hid (by unfold Val.word; rw [if_neg h1, if_neg h2, if_neg h3])
        clear hn hf hs ht
        go_enter Tryd.func17, Tryd.ntmps17
        go_wp2_with fail
        go_ret
        exact isWord HW.out ((Below.refl _ w).alloc (Nat.le_refl _) _) rfl

set_option maxHeartbeats 1600000 in
theorem rvtext_any (v : Val.V) (w : World) (hn : Val.inR v.n) (hf : v.f < 18446744073709551616) (hs : v.s.size ≤ 105553116266496) : Calls Tryd.prog 19 #[vv v] w (IsWord v w) := by
  obtain ⟨k, n, f, s⟩ := v
  show Calls Tryd.prog 19 #[.agg #[.int .i64 k, .int .i64 n, .int .u64 (f : Int), .string s]] w (IsWord ⟨k, n, f, s⟩ w)
  simp only at hn hf hs
  by_cases h1 : k = 1
  · subst h1
    have HW : Hid (Val.word ⟨1, n, f, s⟩ = Val.dec n) := Lib.hid (if_pos rfl)
    have HD := Lib.hid (fun w => digits_is n w hn)
    clear hn hf hs
    go_enter Tryd.func19, Tryd.ntmps19
    go_wp2_with fail
    refine (HD.out _).mono ?_; rintro e w1 ⟨rfl, b1⟩
    have HB := Lib.hid (new_below b1)
    clear b1
    go_wp2_with fail
    go_ret
    exact isWord HW.out HB.out rfl
  · by_cases h2 : k = 2
    · subst h2
      have HW : Hid (Val.word ⟨2, n, f, s⟩ = 102 :: (hexText (Num.M f)).data.toList) := Lib.hid (by unfold Val.word; rw [if_neg (by simp), if_pos rfl])
      have HD := Lib.hid (fun o => rtext_any f (w.alloc o) hf)
      have hz := hexText_size (Num.M f)
      have HC := Lib.hid (of_cat 102 (hexText (Num.M f)) _ rfl)
      clear hn hf hs
      generalize hexText (Num.M f) = t at *
      go_enter Tryd.func19, Tryd.ntmps19
      go_wp2_with fail
      refine (HD.out _).mono ?_; rintro e w1 ⟨rfl, b1⟩
      have HB := Lib.hid (new_below b1)
      clear b1
      go_wp2_with fail
      go_ret
      exact isWord HW.out HB.out HC.out
    · by_cases h3 : k = 3
      · subst h3
        have HW : Hid (Val.word ⟨3, n, f, s⟩ = 120 :: Val.hexL s.data.toList) := Lib.hid (by unfold Val.word; rw [if_neg (by simp), if_neg (by simp), if_pos rfl])
        have HD := Lib.hid (fun w => rhex_any s w (by omega))
        have hz : (Val.of (Val.hexL s.data.toList)).size ≤ 211106232532992 := by
          rw [Val.of_size, Val.hexL_length]
          have : s.data.toList.length = s.size := by rw [Array.length_toList]; rfl
          omega
        have HC := Lib.hid (of_cat 120 (Val.of (Val.hexL s.data.toList)) _ (Val.of_toList _))
        clear hn hf hs
        generalize Val.of (Val.hexL s.data.toList) = t at *
        go_enter Tryd.func19, Tryd.ntmps19
        go_wp2_with fail
        refine (HD.out _).mono ?_; rintro e w1 ⟨rfl, b1⟩
        have HB := Lib.hid (new_below b1)
        clear b1
        go_wp2_with fail
        go_ret
        exact isWord HW.out HB.out HC.out
      · have HW : Hid (Val.word ⟨k, n, f, s⟩ = [110, 111, 110, 101]) := Lib.hid (by unfold Val.word; rw [if_neg h1, if_neg h2, if_neg h3])
        clear hn hf hs
        go_enter Tryd.func19, Tryd.ntmps19
        go_wp2_with fail
        go_ret
        exact isWord HW.out ((Below.refl _ w).alloc (Nat.le_refl _) _) rfl

end Go.Proofs.YtdhfmapcggohmaaDoor
