/-
  The walk of the document's Get.
  No condition but a text's greatest size.
-/
import Derived.Test.YtjmjmhconkalpaaFrameGet
namespace Go.Proofs.Ytjmjmhconkalpaa
open Go.RowKit

theorem rget_form (s : ByteArray) (w : World) (hs : s.size ≤ 2 ^ 63 - 1) (hf : Frame.formed s.data.toList = false) :
    Calls Try.prog 12 #[.string s] w fun e w' => e = .returned (.tuple #[.int .i64 0, .string (Val.of []), .int .i64 3]) ∧ Below w.heap.size w w' := by
  have hz : s.data.toList.length = s.size := by rw [Array.length_toList]; rfl
  have hnil : Hid ((⟨#[]⟩ : ByteArray) = Val.of []) := Lib.hid rfl
  by_cases h8 : s.size < 8
  · clear hf hz
    go_enter Try.func12, Try.ntmps12
    go_wp2_with fail
    go_ret3
    exact ⟨rfl, Below.refl _ _⟩
  · obtain ⟨c0, c1, c2, c3, r, hr⟩ := four_front s.data.toList (by omega)
    have hi0 := fun W => index_at s 0 0 rfl c0 (by rw [hr]; rfl) W
    have hi1 := fun W => index_at s 1 1 rfl c1 (by rw [hr]; rfl) W
    have hi2 := fun W => index_at s 2 2 rfl c2 (by rw [hr]; rfl) W
    have hi3 := fun W => index_at s 3 3 rfl c3 (by rw [hr]; rfl) W
    have hl2 := c2.toNat_lt
    have hl3 := c3.toNat_lt
    have hl1 := c1.toNat_lt
    unfold Frame.formed Frame.at' at hf
    rw [hz] at hf
    simp only [show decide (8 ≤ s.size) = true by simp; omega, hr, List.getD_cons_zero, List.getD_cons_succ, Bool.true_and] at hf
    generalize c0.toNat = n0 at *
    generalize c1.toNat = n1 at *
    generalize c2.toNat = n2 at *
    generalize c3.toNat = n3 at *
    clear hr hz
    by_cases e0 : n0 = 183
    · subst e0
      simp only [decide_true, Bool.true_and] at hf
      by_cases k1 : n1 < 1
      · clear hf
        go_enter Try.func12, Try.ntmps12
        go_wp2_with fail
        go_ret3
        exact ⟨rfl, Below.refl _ _⟩
      · by_cases k2 : 4 < n1
        · clear hf
          go_enter Try.func12, Try.ntmps12
          go_wp2_with fail
          go_ret3
          exact ⟨rfl, Below.refl _ _⟩
        · rw [(Frame.isK_iff n1).2 (by omega), Bool.true_and] at hf
          by_cases hn : 256 * n2 + n3 ≤ 16384
          · have hne : s.size ≠ 256 * n2 + n3 + 8 := by intro e; simp [hn, e] at hf
            have hd : (256 * (n2 : Int) + (n3 : Int) != (s.size : Int) - 8) = true := by simp; omega
            clear hf
            go_enter Try.func12, Try.ntmps12
            go_wp2_with fail
            go_region
            all_goals go_wp2_with fail
            all_goals go_ret3
            all_goals exact ⟨rfl, by go_grown⟩
          · clear hf
            go_enter Try.func12, Try.ntmps12
            go_wp2_with fail
            go_region
            all_goals go_wp2_with fail
            all_goals go_ret3
            all_goals exact ⟨rfl, by go_grown⟩
    · clear hf
      go_enter Try.func12, Try.ntmps12
      go_wp2_with fail
      go_ret3
      exact ⟨rfl, Below.refl _ _⟩

theorem mk_nums {b : List UInt8} (hb : b.length ≤ 16384) : 256 * ((UInt8.ofNat (b.length / 256)).toNat) + (UInt8.ofNat (b.length % 256)).toNat = b.length := by
  rw [UInt8.toNat_ofNat', UInt8.toNat_ofNat']; omega

set_option maxHeartbeats 1000000 in
theorem rget_any (s : ByteArray) (w : World) (hs : s.size ≤ maxLen) :
    Calls Try.prog 12 #[.string s] w fun e w' =>
      e = .returned (.tuple #[.int .i64 (Frame.getOf s.data.toList).1, .string (Val.of (Frame.getOf s.data.toList).2.1), .int .i64 (Frame.getOf s.data.toList).2.2]) ∧ Below w.heap.size w w' := by
  have hs0 := hs
  unfold maxLen at hs
  have hz : s.data.toList.length = s.size := by rw [Array.length_toList]; rfl
  cases hf : Frame.formed s.data.toList
  · rw [Frame.getOf_unformed hf]
    exact rget_form s w hs hf
  · obtain ⟨k, b, t, hfm, ht, hk1, hk2, hb⟩ := Frame.formed_form hf
    have hlen : s.size = b.length + 8 := by rw [← hz, hfm, List.length_append, Frame.mk_length, ht]
    have hi0 := fun W => index_at s 0 0 rfl 183 (by rw [hfm]; rfl) W
    have hi1 := fun W => index_at s 1 1 rfl (UInt8.ofNat k) (by rw [hfm]; rfl) W
    have hi2 := fun W => index_at s 2 2 rfl (UInt8.ofNat (b.length / 256)) (by rw [hfm]; rfl) W
    have hi3 := fun W => index_at s 3 3 rfl (UInt8.ofNat (b.length % 256)) (by rw [hfm]; rfl) W
    have hl2 := (UInt8.ofNat (b.length / 256)).toNat_lt
    have hl3 := (UInt8.ofNat (b.length % 256)).toNat_lt
    have hnn := mk_nums hb
    rw [show (((UInt8.ofNat k).toNat : Nat) : Int) = (k : Int) by rw [UInt8.toNat_ofNat']; omega] at hi1
    rw [show (((183 : UInt8).toNat : Nat) : Int) = 183 from rfl] at hi0
    generalize (UInt8.ofNat (b.length / 256)).toNat = n2 at *
    generalize (UInt8.ofNat (b.length % 256)).toNat = n3 at *
    have hiA := fun W => cut_from s (b.length + 4) (4 + (b.length : Int)) (by omega) (by omega) t (by rw [hfm]; have := Frame.drop_mk k b t ht; rwa [List.length_append, Frame.mk_length, ht, Nat.add_sub_cancel] at this) W
    have hiB := fun W => cut_to s (b.length + 4) (4 + (b.length : Int)) (by omega) (by omega) (Frame.mk k b) (by rw [hfm]; have := Frame.take_mk k b t ht; rwa [List.length_append, Frame.mk_length, ht, Nat.add_sub_cancel] at this) W
    have hiC := fun W => cut_both s 4 (b.length + 4) 4 (4 + (b.length : Int)) rfl (by omega) (by omega) (by omega) b (by rw [hfm]; have := Frame.take_mk k b t ht; rw [List.length_append, Frame.mk_length, ht, Nat.add_sub_cancel] at this; rw [this]; rfl) W
    have hE := Frame.getOf_mk k b t hk1 hk2 hb ht
    rw [← hfm] at hE
    have HS := Lib.hid (fun W hW => behind (w := w) hW ((rsum_any (Val.of (Frame.mk k b)) W (by rw [Val.of_size, Frame.mk_length]; unfold maxLen; omega)).mono fun e w' h => ⟨h.1, by rw [← h.2]; exact Below.refl _ _⟩))
    have HT := Lib.hid (fun W hW => behind (w := w) hW (rtext_any (Crc.more 0 (Frame.mk k b)) W (Crc.more_lt _ _)))
    rw [Val.of_toList] at HS
    rw [show four (Crc.more 0 (Frame.mk k b)) = Val.of (Frame.sum (Frame.mk k b)) from (Val.of_self _).symm] at HT
    generalize Frame.sum (Frame.mk k b) = u at *
    generalize Frame.mk k b = F at *
    generalize Crc.more 0 F = c at *
    have hN : 256 * (n2 : Int) + (n3 : Int) = (b.length : Int) := by omega
    have hw : IntKind.i64.wrap (4 + (b.length : Int)) = 4 + (b.length : Int) := by have := wrap64 (4 + b.length) (by omega); simpa using this
    have hd1 : (0 : Int) ≤ 4 + (b.length : Int) := by omega
    have hd2 : (4 : Int) + (b.length : Int) ≤ (b.length : Int) + 8 := by omega
    have hd3 : (4 : Int) ≤ 4 + (b.length : Int) := by omega
    have HB0 := Lib.hid (Below.refl w.heap.size w).drew.drew
    by_cases hu : u = t
    · subst hu
      rw [if_pos rfl] at hE
      have HE := Lib.hid hE
      clear hE hfm hf hz hnn
      generalize b.length = m at *
      go_enter Try.func12, Try.ntmps12
      go_wp2_with fail
      go_region
      all_goals go_wp2_with fail
      all_goals go_region_held3 (fun W => Hid (Below w.heap.size w W)) (first | assumption | go_keep)
        (first
          | (go_simp; go_at_call 16; refine (HS.out _ (by assumption)).mono ?_; rintro e w2 ⟨rfl, hs2⟩)
          | (go_simp; go_at_call 15; refine (HT.out _ (by assumption)).mono ?_; rintro e w2 ⟨rfl, hs2⟩))
      all_goals go_wp2_with fail
      all_goals go_region
      all_goals go_wp2_with fail
      all_goals go_ret3
      all_goals exact ⟨ret_get (by rw [HE.out]) (by rw [HE.out]) (by rw [HE.out]), Below.drew (Hid.out (by assumption))⟩
    · rw [if_neg hu] at hE
      have HE := Lib.hid hE
      have hne : ((Val.of u).toList == (Val.of t).toList) = false := by
        rw [ByteArray.toList_eq, ByteArray.toList_eq, Val.of_toList, Val.of_toList, beq_eq_false_iff_ne]; exact hu
      clear hE hfm hf hz hnn
      generalize b.length = m at *
      go_enter Try.func12, Try.ntmps12
      go_wp2_with fail
      go_region
      all_goals go_wp2_with fail
      all_goals go_region_held3 (fun W => Hid (Below w.heap.size w W)) (first | assumption | go_keep)
        (first
          | (go_simp; go_at_call 16; refine (HS.out _ (by assumption)).mono ?_; rintro e w2 ⟨rfl, hs2⟩)
          | (go_simp; go_at_call 15; refine (HT.out _ (by assumption)).mono ?_; rintro e w2 ⟨rfl, hs2⟩))
      all_goals go_wp2_with fail
      all_goals go_ret3
      all_goals exact ⟨ret_get (by rw [HE.out]; rfl) (by rw [HE.out]; rfl) (by rw [HE.out]), Hid.out (by assumption)⟩
end Go.Proofs.Ytjmjmhconkalpaa
