/-
  What value.word returns, for every text: the value whose word it is, and whether there is one.
  No condition but a bound on the text's length, and what the listed variables hold.
-/
import Derived.Test.YtdhfmapcggohmaaDoorValText
import Derived.Test.YtdhfmapcggohmaaDoorValUndec
import Derived.WalkKit
import Derived.WalkSpells
import Derived.WalkLawsBesides
import Derived.Handy
import Derived.Deep.QuietTactic
import Derived.BigQuiet
import Derived.Deep.Draws
import Derived.Lib.Hide
namespace Go.Proofs.YtdhfmapcggohmaaDoor
open Go.RowKit

/-- A value, perhaps one that may not be, and whether the text was read. -/
def Reads1 (l : List UInt8) (v : Val.V) (b : Bool) : Prop := v.f < 18446744073709551616 ∧ Val.rdV l = if b = true ∧ Val.chk v = 0 then some v else none
def IsRead1 (l : List UInt8) (w : World) (e : Ending) (w' : World) : Prop := ∃ v b, e = .returned (.tuple #[vv v, .bool b]) ∧ Reads1 l v b ∧ Below w.heap.size w w'
theorem readAns_lt (s : ByteArray) : (readAns s).1 < 18446744073709551616 := by
  by_cases h : (readAns s).2 = 0
  · exact (Val.readAns_ok h).1
  · unfold readAns at h ⊢
    split
    · next h16 =>
      rw [if_pos h16] at h
      cases hp : Hex.pl 0 s.data.toList with
      | none => decide
      | some n =>
        rw [hp] at h
        simp only at h ⊢
        split
        · next hm => rw [if_pos hm] at h; exact absurd rfl h
        · decide
    · decide
theorem reads_f {l : List UInt8} {t : ByteArray} (h1 : l ≠ [110, 111, 110, 101]) (h2 : l.head? = some 102) (ht : t.data.toList = l.tail) (b : Bool) (hb : ((readAns t).2 == 0) = b) : Reads1 l ⟨2, 0, (readAns t).1, Val.emp⟩ b := by
  have e : Val.of l.tail = t := by rw [← ht]; exact Val.of_self t
  refine ⟨readAns_lt t, ?_⟩
  unfold Val.rdV
  rw [if_neg h1, if_pos h2, e]
  by_cases h : (readAns t).2 = 0
  · have hb2 : b = true := by rw [← hb]; simpa using h
    rw [if_pos h, if_pos ⟨hb2, Val.chk_float (Val.readAns_ok h).2.1⟩]
  · have hb2 : b = false := by rw [← hb]; simpa using h
    rw [if_neg h, if_neg (by rw [hb2]; simp)]
theorem reads_x {l : List UInt8} {u : List UInt8} (h1 : l ≠ [110, 111, 110, 101]) (h2 : l.head? = some 120) (hu : Val.unL l.tail = some u) : Reads1 l ⟨3, 0, 0, Val.of u⟩ true := by
  refine ⟨by show 0 < _; decide, ?_⟩
  unfold Val.rdV
  rw [if_neg h1, if_neg (by rw [h2]; decide), if_pos h2, hu, Val.chk_text, Val.of_size]
  simp only
  by_cases h : u.length ≤ 64
  · rw [if_pos h, if_pos (show _ ∧ _ from ⟨by first | rfl | trivial, if_neg (by omega)⟩)]
  · rw [if_neg h, if_neg (by rw [if_pos (show 64 < u.length by omega)]; simp)]
theorem reads_x0 {l : List UInt8} (h1 : l ≠ [110, 111, 110, 101]) (h2 : l.head? = some 120) (hu : Val.unL l.tail = none) : Reads1 l ⟨3, 0, 0, Val.emp⟩ false := by
  refine ⟨by show 0 < _; decide, ?_⟩
  unfold Val.rdV
  rw [if_neg h1, if_neg (by rw [h2]; decide), if_pos h2, hu, if_neg (by simp)]
theorem reads_n {l : List UInt8} {x : Int} {b : Bool} (h1 : l ≠ [110, 111, 110, 101]) (h2 : l.head? ≠ some 102) (h3 : l.head? ≠ some 120) (h : (Val.rd l = some x ∧ b = true) ∨ (Val.rd l = none ∧ b = false)) : Reads1 l ⟨1, x, 0, Val.emp⟩ b := by
  refine ⟨by show 0 < _; decide, ?_⟩
  unfold Val.rdV
  rw [if_neg h1, if_neg h2, if_neg h3]
  rcases h with ⟨h, rfl⟩ | ⟨h, rfl⟩
  · rw [h, if_pos ⟨rfl, Val.chk_int x⟩]; rfl
  · rw [h, if_neg (by simp)]; rfl
theorem zero_new (w : World) : Box (w.alloc (.cells #[.int .i64 0, .int .i64 0, .int .u64 0, .string ⟨#[]⟩] 24)) w.heap.size (.int .i64 0) (.int .i64 0) (.int .u64 0) (.string ⟨#[]⟩) := Box.new w _ _ _ _

set_option maxRecDepth 100000 in
set_option maxHeartbeats 1600000 in
theorem word_any (s : ByteArray) (w : World) (hs : s.size ≤ 140737488355328) (ht : TabOk w) (hv : ErrOk w) :
    Calls Tryd.prog 34 #[.string s] w (IsRead1 s.data.toList w) := by
  have HCF := Lib.hid (fun w => cut_any s 102 w)
  have HCX := Lib.hid (fun w => cut_any s 120 w)
  have BB := Lib.hid (fun o => (Below.refl _ w).alloc (Nat.le_refl _) o)
  have hrest : (rest s).size ≤ 140737488355328 := by unfold rest; rw [ByteArray.size_extract]; omega
  by_cases hn : s.data.toList = [110, 111, 110, 101]
  · have h1 : s.toList = [110, 111, 110, 101] := by rw [ByteArray.toList_eq]; exact hn
    have h2 : (s.toList == [110, 111, 110, 101]) = true := by rw [h1]; rfl
    have HR : Hid (Reads1 s.data.toList ⟨0, 0, 0, Val.emp⟩ true) := Lib.hid ⟨by show 0 < _; decide, by rw [hn, if_pos ⟨rfl, Val.chk_none⟩]; rfl⟩
    clear hn hs ht hv hrest
    go_enter Tryd.func34, Tryd.ntmps34
    go_wp2_with fail
    exact ret_box Tryd.results34 rfl rfl rfl (zero_new w) ⟨⟨0, 0, 0, Val.emp⟩, true, rfl, HR.out, BB.out _⟩
  · have h1 : ¬ s.toList = [110, 111, 110, 101] := by rw [ByteArray.toList_eq]; exact hn
    have h2 : (s.toList == [110, 111, 110, 101]) = false := by simpa using h1
    have HZ := Lib.hid (zero_new w)
    by_cases hf : s.data.toList.head? = some 102
    · have hst : starts 102 s = true := by unfold starts; rw [hf]; rfl
      rw [hst, if_pos rfl] at HCF
      obtain ⟨b, hb⟩ : ∃ b, ((readAns (rest s)).2 == 0) = b := ⟨_, rfl⟩
      have HR := Lib.hid (reads_f hn hf (rest_toList s) b hb)
      have HD := Lib.hid (fun o => read_any (rest s) (w.alloc o) (by simp only [maxLen]; omega) (ht.below (BB.out o)) (hv.below (BB.out o)))
      clear hst hf hn hs ht hv HCX
      unfold IsAns at HD
      generalize rest s = r at *
      generalize (readAns r).1 = f at *
      generalize (readAns r).2 = e2 at *
      go_enter Tryd.func34, Tryd.ntmps34
      go_wp2_with fail
      refine (HCF.out _).mono ?_; rintro e w' ⟨rfl, rfl⟩
      go_wp2_with fail
      refine (HD.out _).mono ?_; rintro e w1 ⟨rfl, b1⟩
      have HB := Lib.hid (new_below b1)
      have HX := Lib.hid (HZ.out.below b1 (by simp))
      clear b1
      obtain ⟨c0, c1, c2, c3, f0, f1, f2, f3⟩ := HX.out.all
      go_wp2_with fail
      exact ret_box Tryd.results34 rfl rfl rfl (box_store HX.out _ _ _ _) ⟨⟨2, 0, f, Val.emp⟩, b, rfl, HR.out, stored_below HB.out (Nat.le_refl _) _ _ _ _⟩
    · have hst : starts 102 s = false := by unfold starts; simpa using hf
      rw [hst, if_neg (by simp)] at HCF
      by_cases hx : s.data.toList.head? = some 120
      · have hst2 : starts 120 s = true := by unfold starts; rw [hx]; rfl
        rw [hst2, if_pos rfl] at HCX
        have HD := Lib.hid (fun w => unpair_any (rest s) w (by omega))
        rw [rest_toList s] at HD
        have HR1 := Lib.hid (fun u (hu : Val.unL s.data.toList.tail = some u) => reads_x hn hx hu)
        have HR0 := Lib.hid (fun (hu : Val.unL s.data.toList.tail = none) => reads_x0 hn hx hu)
        clear hst hst2 hf hx hn hs ht hv
        generalize rest s = r at *
        go_enter Tryd.func34, Tryd.ntmps34
        go_wp2_with fail
        refine (HCF.out _).mono ?_; rintro e w' ⟨rfl, rfl⟩
        go_wp2_with fail
        refine (HCX.out _).mono ?_; rintro e w' ⟨rfl, rfl⟩
        go_wp2_with fail
        refine (HD.out _).mono ?_
        rintro e w1 ⟨⟨u, hu, rfl⟩ | ⟨hu, rfl⟩, b1⟩
        · have HB := Lib.hid (new_below b1)
          have HX := Lib.hid (HZ.out.below b1 (by simp))
          have HR := Lib.hid (HR1.out u hu)
          clear b1 hu
          obtain ⟨c0, c1, c2, c3, f0, f1, f2, f3⟩ := HX.out.all
          generalize Val.of u = z at *
          go_wp2_with fail
          exact ret_box Tryd.results34 rfl rfl rfl (box_store HX.out _ _ _ _) ⟨⟨3, 0, 0, z⟩, true, rfl, HR.out, stored_below HB.out (Nat.le_refl _) _ _ _ _⟩
        · have HB := Lib.hid (new_below b1)
          have HX := Lib.hid (HZ.out.below b1 (by simp))
          have HR := Lib.hid (HR0.out hu)
          clear b1 hu
          obtain ⟨c0, c1, c2, c3, f0, f1, f2, f3⟩ := HX.out.all
          go_wp2_with fail
          exact ret_box Tryd.results34 rfl rfl rfl (box_store HX.out _ _ _ _) ⟨⟨3, 0, 0, Val.emp⟩, false, rfl, HR.out, stored_below HB.out (Nat.le_refl _) _ _ _ _⟩
      · have hst2 : starts 120 s = false := by unfold starts; simpa using hx
        rw [hst2, if_neg (by simp)] at HCX
        have HD := Lib.hid (fun w => undecimal_is s w (by simp only [maxLen]; omega))
        have HR1 := Lib.hid (fun x b h => reads_n (x := x) (b := b) hn hf hx h)
        clear hst hst2 hf hx hn hs ht hv
        go_enter Tryd.func34, Tryd.ntmps34
        go_wp2_with fail
        refine (HCF.out _).mono ?_; rintro e w' ⟨rfl, rfl⟩
        go_wp2_with fail
        refine (HCX.out _).mono ?_; rintro e w' ⟨rfl, rfl⟩
        go_wp2_with fail
        refine (HD.out _).mono ?_
        rintro e w' ⟨⟨x, b, rfl, h⟩, rfl⟩
        have HR := Lib.hid (HR1.out x b h)
        clear h
        go_wp2_with fail
        exact ret_box Tryd.results34 rfl rfl rfl (Box.new w _ _ _ _) ⟨⟨1, x, 0, Val.emp⟩, b, rfl, HR.out, BB.out _⟩
end Go.Proofs.YtdhfmapcggohmaaDoor
