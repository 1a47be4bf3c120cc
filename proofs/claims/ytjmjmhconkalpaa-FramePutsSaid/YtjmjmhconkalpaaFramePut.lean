/-
  The walks of frame.sum, frame.Put and of the document's Put.
  No condition but a text's greatest size.
-/
import Derived.Test.YtjmjmhconkalpaaFrameForm
namespace Go.Proofs.Ytjmjmhconkalpaa
open Go.RowKit

theorem of_four (s : ByteArray) : four (Crc.more 0 s.data.toList) = Val.of (Frame.sum s.data.toList) := (Val.of_self _).symm
theorem more_lt' (s : ByteArray) : Crc.more 0 s.data.toList < 4294967296 := Crc.more_lt _ _

theorem fsum_any (s : ByteArray) (w : World) (hs : s.size ≤ maxLen) :
    Calls Try.prog 14 #[.string s] w fun e w' => e = .returned (.string (Val.of (Frame.sum s.data.toList))) ∧ Below w.heap.size w w' := by
  rw [← of_four]
  go_enter Try.func14, Try.ntmps14
  go_wp2_with fail
  refine (sum_any s _ hs).mono ?_; rintro e w1 ⟨rfl, rfl⟩
  go_wp2_with fail
  refine (text_any _ _ (more_lt' s)).mono ?_; rintro e w1 ⟨rfl, hb⟩
  have HB := Lib.hid hb
  clear hb
  go_wp2_with fail
  go_ret
  exact ⟨rfl, HB.out⟩

theorem u8c (n : Nat) (z : Int) (hz : z = ((n % 256 : Nat) : Int)) : z = ((UInt8.ofNat n).toNat : Int) := by rw [hz, UInt8.toNat_ofNat']
theorem ret_put {s t : ByteArray} {a b : Int} (h1 : s = t) (h2 : a = b) : Ending.returned (.tuple #[.string s, .int .i64 a]) = .returned (.tuple #[.string t, .int .i64 b]) := by rw [h1, h2]

theorem putOf_arg {k : Int} {l : List UInt8} (h : Frame.isK k = false) : Frame.putOf k l = ([], 1) := by unfold Frame.putOf; rw [h]; rfl
theorem putOf_long {k : Int} {l : List UInt8} (h : Frame.isK k = true) (hl : ¬ l.length ≤ 16384) : Frame.putOf k l = ([], 2) := by unfold Frame.putOf; rw [if_pos h, if_neg hl]
theorem nil_of : (⟨#[]⟩ : ByteArray) = Val.of [] := rfl

set_option maxHeartbeats 1000000 in
theorem put_any (k : Int) (s : ByteArray) (w : World) (hs : s.size ≤ maxLen) :
    Calls Try.prog 8 #[.int .i64 k, .string s] w fun e w' =>
      e = .returned (.tuple #[.string (Val.of (Frame.putOf k s.data.toList).1), .int .i64 (Frame.putOf k s.data.toList).2]) ∧ Below w.heap.size w w' := by
  unfold maxLen at hs
  have hz : s.data.toList.length = s.size := by rw [Array.length_toList]; rfl
  cases hk : Frame.isK k
  · have HE := Lib.hid (putOf_arg (l := s.data.toList) hk)
    clear hz
    go_enter Try.func8, Try.ntmps8
    go_wp2_with fail
    refine (isKind_any k false hk _).mono ?_; rintro e w1 ⟨rfl, rfl⟩
    go_wp2_with fail
    go_ret2
    exact ⟨ret_put (by rw [HE.out]; rfl) (by rw [HE.out]), Below.refl _ _⟩
  · by_cases hl : s.size ≤ 16384
    · obtain ⟨h1, h2⟩ := (Frame.isK_iff k).1 hk
      obtain ⟨n, rfl⟩ : ∃ n : Nat, k = (n : Int) := ⟨k.toNat, by omega⟩
      have HE := Lib.hid (Frame.putOf_in (k := n) (b := s.data.toList) (by omega) (by omega) (by omega))
      have HM : Hid (183 :: UInt8.ofNat n :: UInt8.ofNat (s.size / 256) :: UInt8.ofNat (s.size % 256) :: s.data.toList = Frame.mk n s.data.toList) := Lib.hid (by unfold Frame.mk; rw [hz])
      have HP : Hid (Frame.mk n s.data.toList ++ Frame.sum (Frame.mk n s.data.toList) = Frame.put n s.data.toList) := Lib.hid rfl
      have HL : Hid ((Frame.mk n s.data.toList).length ≤ 16388) := Lib.hid (by rw [Frame.mk_length]; omega)
      clear hz
      go_enter Try.func8, Try.ntmps8
      go_wp2_with fail
      refine (isKind_any n true hk _).mono ?_; rintro e w1 ⟨rfl, rfl⟩
      go_wp2_with (at_builtin; refine wpList_pushStr rfl (.tmp 23) (.tmp 24) rfl w.heap.size _ _ [183, UInt8.ofNat n, UInt8.ofNat (s.size / 256), UInt8.ofNat (s.size % 256)] s rfl rfl (Row.new w _ _ (cell4 rfl (u8c _ _ (by omega)) (u8c _ _ (by omega)) (u8c _ _ (by omega))) (Nat.le_refl _) (by show (4:Nat) ≤ maxLen; decide)) (by simp; omega) (by simp) ?_)
      intro v1 w1 hr ht hsz1
      rw [HM.out] at hr
      have HB1 := Lib.hid (ht.out w.heap.size w (Nat.le_refl _) (by simp) ((Turns.refl w.heap.size 5 w).alloc (Nat.le_refl _) _))
      clear ht HM
      generalize Frame.mk n s.data.toList = F at hr HL HP
      have hFs : (Val.of F).size ≤ maxLen := by rw [Val.of_size]; have := HL.out; unfold maxLen; omega
      obtain ⟨A, c, rfl⟩ := hr.out.shape
      have hconv := row_string hr.out
      go_wp2_with fail
      refine (fsum_any (Val.of F) _ hFs).mono ?_; rintro e w2 ⟨rfl, b2⟩
      have HR2 := Lib.hid (hr.out.below b2)
      have HB2 := Lib.hid (HB1.out.below.trans (b2.mono hsz1))
      have hsz2 := HB2.out.size
      clear b2 hr HB1 hconv
      go_wp2_with (at_builtin; refine wpList_pushStr rfl (.tmp 26) (.tmp 29) rfl w.heap.size _ _ F (Val.of (Frame.sum F)) rfl rfl HR2.out (by rw [Val.of_size, Frame.sum_length]; have := HL.out; omega) hsz2 ?_)
      intro v3 w3 hr ht hsz3
      rw [Val.of_toList, HP.out] at hr
      have hconv := row_string hr.out
      have HB3 := Lib.hid (HB2.out.trans (ht.out w.heap.size w2 (Nat.le_refl _) hsz2 (Turns.refl w.heap.size 5 w2)).below)
      clear ht
      obtain ⟨A3, c3, rfl⟩ := hr.out.shape
      go_wp2_with fail
      go_ret2
      exact ⟨ret_put (by rw [HE.out]) (by rw [HE.out]), HB3.out⟩
    · have HE := Lib.hid (putOf_long (l := s.data.toList) hk (by omega))
      clear hz
      go_enter Try.func8, Try.ntmps8
      go_wp2_with fail
      refine (isKind_any k true hk _).mono ?_; rintro e w1 ⟨rfl, rfl⟩
      go_wp2_with fail
      go_ret2
      exact ⟨ret_put (by rw [HE.out]; rfl) (by rw [HE.out]), Below.refl _ _⟩

set_option maxHeartbeats 1000000 in
theorem rput_any (k : Int) (s : ByteArray) (w : World) (hs : s.size ≤ maxLen) :
    Calls Try.prog 9 #[.int .i64 k, .string s] w fun e w' =>
      e = .returned (.tuple #[.string (Val.of (Frame.putOf k s.data.toList).1), .int .i64 (Frame.putOf k s.data.toList).2]) ∧ Below w.heap.size w w' := by
  unfold maxLen at hs
  have hz : s.data.toList.length = s.size := by rw [Array.length_toList]; rfl
  cases hk : Frame.isK k
  · have HE := Lib.hid (putOf_arg (l := s.data.toList) hk)
    clear hz
    rcases (Frame.isK_not k).1 hk with h | h
    · clear hk
      go_enter Try.func9, Try.ntmps9
      go_wp2_with fail
      go_ret2
      exact ⟨ret_put (by rw [HE.out]; rfl) (by rw [HE.out]), Below.refl _ _⟩
    · clear hk
      have h1 : ¬ k < 1 := by omega
      go_enter Try.func9, Try.ntmps9
      go_wp2_with fail
      go_ret2
      exact ⟨ret_put (by rw [HE.out]; rfl) (by rw [HE.out]), Below.refl _ _⟩
  · obtain ⟨h1, h2⟩ := (Frame.isK_iff k).1 hk
    by_cases hl : s.size ≤ 16384
    · obtain ⟨n, rfl⟩ : ∃ n : Nat, k = (n : Int) := ⟨k.toNat, by omega⟩
      have HE := Lib.hid (Frame.putOf_in (k := n) (b := s.data.toList) (by omega) (by omega) (by omega))
      have hst := str4
      have hq : (⟨#[byte 183, byte (n : Int), byte ((s.size : Int) / 256), byte ((s.size : Int) % 256)]⟩ ++ s : ByteArray) = Val.of (Frame.mk n s.data.toList) := by
        rw [← Val.of_self s, show (⟨#[byte 183, byte (n : Int), byte (((Val.of s.data.toList).size : Int) / 256), byte (((Val.of s.data.toList).size : Int) % 256)]⟩ : ByteArray) = Val.of [183, UInt8.ofNat n, UInt8.ofNat (s.data.toList.length / 256), UInt8.ofNat (s.data.toList.length % 256)] from ?_, Val.of_append, Val.of_self]
        · rfl
        · rw [Val.of_size]
          unfold Val.of byte
          rw [show (n : Int).toNat = n by omega, show ((s.data.toList.length : Int) / 256).toNat = s.data.toList.length / 256 by omega, show ((s.data.toList.length : Int) % 256).toNat = s.data.toList.length % 256 by omega]
          rfl
      have hFs : (Val.of (Frame.mk n s.data.toList)).size ≤ 16388 := by rw [Val.of_size, Frame.mk_length]; omega
      have HX : Hid (Val.of (Frame.mk n s.data.toList) ++ four (Crc.more 0 (Frame.mk n s.data.toList)) = Val.of (Frame.put n s.data.toList)) := Lib.hid (by
        rw [show four (Crc.more 0 (Frame.mk n s.data.toList)) = Val.of (Frame.sum (Frame.mk n s.data.toList)) from (Val.of_self _).symm, Val.of_append]; rfl)
      clear hz hk
      go_enter Try.func9, Try.ntmps9
      go_wp2_with fail
      generalize Frame.mk n s.data.toList = F at *
      clear hq hst
      refine (rsum_any (Val.of F) _ (Nat.le_trans hFs (by decide))).mono ?_; rintro e w1 ⟨rfl, hw1⟩
      rw [Val.of_toList]
      have hB1 : Hid (Below w.heap.size w w1) := Lib.hid (by rw [← hw1]; go_grown)
      clear hw1
      go_wp2_with fail
      refine (rtext_any _ _ (Crc.more_lt _ _)).mono ?_; rintro e w2 ⟨rfl, b2⟩
      have HB2 := Lib.hid (hB1.out.trans (b2.mono hB1.out.size))
      have hTs : (four (Crc.more 0 F)).size = 4 := rfl
      generalize four (Crc.more 0 F) = T at *
      clear b2
      go_wp2_with fail
      go_ret2
      exact ⟨ret_put (by rw [HE.out, HX.out]) (by rw [HE.out]), HB2.out⟩
    · have HE := Lib.hid (putOf_long (l := s.data.toList) hk (by omega))
      clear hz hk
      go_enter Try.func9, Try.ntmps9
      go_wp2_with fail
      go_ret2
      exact ⟨ret_put (by rw [HE.out]; rfl) (by rw [HE.out]), Below.refl _ _⟩
end Go.Proofs.Ytjmjmhconkalpaa
