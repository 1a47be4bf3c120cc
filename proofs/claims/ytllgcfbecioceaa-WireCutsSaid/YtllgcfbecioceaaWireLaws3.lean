/-
  The law WireCuts: it returns true, and nothing that was there is turned.
  No condition but the form's own reach.
-/
import Derived.Test.YtllgcfbecioceaaWireLaws
namespace Go.Proofs.Ytllgcfbecioceaa
open Go.RowKit

/-- What is cut off anywhere is some of the first items, or nothing. -/
theorem cut_items {l : List Wire.It} {k : Nat} (hw : Wire.Wf l) (h : (Wire.E l).2 = 0) (h2 : (Wire.D ((Wire.E l).1.extract 0 k)).2 = 0) :
    ∃ m, Wire.D ((Wire.E l).1.extract 0 k) = (m, 0) ∧ m.length ≤ l.length ∧ m = l.take m.length ∧ Wire.E m = ((Wire.E l).1.extract 0 k, 0) ∧ ∀ x ∈ m, Wire.Good x := by
  obtain ⟨f, hl, he⟩ := Wire.E_ok h
  obtain ⟨m, d1, d2, d3, d4⟩ := Wire.D_ok h2
  have ho := Wire.once h2
  rw [d1] at ho
  have hp : Wire.all m <+: Wire.all l := by
    rw [d3, he]
    show ((txt (Wire.all l)).extract 0 k).data.toList <+: _
    rw [txt_take, txt_list]
    exact List.take_prefix _ _
  have hpre := Wire.all_prefix m l d4 (Wire.good_of hw f hl) hp
  obtain ⟨r, rfl⟩ := hpre
  exact ⟨m, d1, by rw [List.length_append]; omega, by rw [List.take_left], ho, d4⟩
theorem cut_bad_form {l : List Wire.It} {k : Nat} (h : (Wire.E l).2 = 0) (h2 : (Wire.D ((Wire.E l).1.extract 0 k)).2 ≠ 0) : Wire.D ((Wire.E l).1.extract 0 k) = ([], 3) := by
  obtain ⟨f, hl, he⟩ := Wire.E_ok h
  have hz : ((Wire.E l).1.extract 0 k).size ≤ 16384 := by
    rw [he]
    show ((txt (Wire.all l)).extract 0 k).size ≤ _
    rw [txt_take, txt_size]
    exact Nat.le_trans (List.length_take_le' _ _) hl
  have hb := Wire.D_bad h2
  unfold Wire.D at h2 hb ⊢
  rw [if_neg (by omega)] at h2 hb ⊢
  cases hd : Wire.dec ((Wire.E l).1.extract 0 k).data.toList with
  | none => rfl
  | some m => rw [hd] at h2; exact absurd rfl h2
theorem Items.take {w : World} {B : Nat} {A : Option Addr} {l : List Wire.It} (h : Items w B A l) (n : Nat) : Items w B A (l.take n) := fun hp => by
  obtain ⟨b, o, hA, hb, hc⟩ := h (by have := List.length_take_le' n l; omega)
  refine ⟨b, o, hA, hb, fun i x hx => hc i x ?_⟩
  rw [List.getElem?_take] at hx
  split at hx
  · exact hx
  · cases hx

set_option maxHeartbeats 400000 in
theorem cuts_yes (A : Option Addr) (c : Nat) (l : List Wire.It) (at' : Int) (w : World) (hi : Items w w.heap.size A l) (hw : Wire.Wf l) (hs : ∀ x ∈ l, x.s.size ≤ reachBytes) (hl : l.length * 32 ≤ reachBytes) (hlc : l.length ≤ c) (hat : (Lit.int .i64 at').wf = true) :
    Lift.Yes Try.prog 8 #[.slice A l.length c, .int .i64 at'] w := by
  rw [reach_num] at hl
  have hs' : ∀ x ∈ l, x.s.size ≤ 140737488351232 := fun x hx => by have := hs x hx; rwa [reach_num] at this
  have H1 := Lib.hid (encode_any A c l w (by omega) hi hw hs')
  have HI := Lib.hid hi
  obtain ⟨h63a, h63b⟩ := bounds_i64 hat
  unfold Lift.Yes
  by_cases h0 : (Wire.E l).2 = 0
  · have hz : (Wire.E l).1.size ≤ 16384 := by
      obtain ⟨_, h2, h3⟩ := Wire.E_ok h0
      rw [h3]; exact h2
    obtain ⟨k, hk⟩ : ∃ k : Nat, IntKind.u64.wrap at' % ((Wire.E l).1.size + 1 : Nat) = (k : Int) := ⟨(IntKind.u64.wrap at' % ((Wire.E l).1.size + 1 : Nat)).toNat, by have := Int.emod_nonneg (IntKind.u64.wrap at') (b := (((Wire.E l).1.size + 1 : Nat) : Int)) (by omega); omega⟩
    have hkz : k ≤ (Wire.E l).1.size := by
      have := Int.emod_lt_of_pos (IntKind.u64.wrap at') (b := ((Wire.E l).1.size + 1 : Nat)) (by omega)
      omega
    have hk' : (IntKind.u64.wrap at').tmod (((Wire.E l).1.size : Int) + 1) = (k : Int) := by
      rw [← hk, Int.tmod_eq_emod_of_nonneg (by rw [IntKind.wrap_u64]; omega)]; congr 1
    rw [h0] at H1
    have H2 := Lib.hid (fun w1 => decode_any ((Wire.E l).1.extract 0 k) w1 (by rw [ByteArray.size_extract]; omega))
    by_cases h2 : (Wire.D ((Wire.E l).1.extract 0 k)).2 = 0
    · obtain ⟨m, d1, d2, d3, d4, d5⟩ := cut_items hw h0 h2
      rw [d1] at H2
      have hml : m.length ≤ 9223372036854775807 := by omega
      have H3 := Lib.hid (fun B d w1 (h : Items w1 w1.heap.size B m) => encode_any B d m w1 hml h (fun x hx => ⟨(d5 x hx).2.1, (d5 x hx).2.2.1⟩) (fun x hx => by have := (d5 x hx).2.2.2; omega))
      rw [d4] at H3
      have H4 := Lib.hid (fun A A' c c' w1 B B' h h' => same_any A A' c c' m w1 B B' hml h h')
      have HT := Lib.hid d3
      have hmc : m.length ≤ c := by omega
      clear hk hs hs' hi hw h0 h2 d1 d3 d4 d5 hat
      generalize (Wire.E l).1 = es at *
      have hex : (es.extract 0 k).size = k := by rw [ByteArray.size_extract]; omega
      generalize hmn : m.length = mn at *
      have HM := Lib.hid hmn
      clear hmn
      go_enter Try.func8, Try.ntmps8
      go_wp2_with fail
      refine (H1.out).mono ?_; rintro e w1 ⟨rfl, b1⟩
      have HI1 := Lib.hid (HI.out.later b1 (Nat.le_refl _))
      have HB1 := Lib.hid b1
      clear b1
      go_wp2_with fail
      refine (H2.out _).mono ?_; rintro e w2 ⟨v2, rfl, hi2, b2⟩
      obtain ⟨A2, c2, hv2⟩ := hi2.shape
      rw [HM.out] at hv2
      subst hv2
      have HI2 := Lib.hid (HI1.out.later b2 (Nat.le_refl _))
      have HJ2 := Lib.hid hi2.items.2
      have HB2 := Lib.hid (below2 HB1.out b2)
      clear hi2 b2
      go_wp2_with fail
      refine (H3.out _ _ _ HJ2.out).mono ?_; rintro e w3 ⟨rfl, b3⟩
      have HI3 := Lib.hid (HI2.out.later b3 (Nat.le_refl _))
      have HJ3 := Lib.hid (HJ2.out.later b3 (Nat.le_refl _))
      have HB3 := Lib.hid (below2 HB2.out b3)
      clear b3
      go_wp2_with fail
      refine (awake_any _).mono ?_; rintro e w4 ⟨rfl, b4⟩
      have HI4 := Lib.hid (HI3.out.later b4 (Nat.le_refl _))
      have HJ4 := Lib.hid (HJ3.out.later b4 (Nat.le_refl _))
      have HB4 := Lib.hid (below2 HB3.out b4)
      clear b4
      go_wp2_with fail
      have HI5 : Hid (Items w4 w4.heap.size A m) := Lib.hid (by have := HI4.out.take mn; rwa [← HT.out] at this)
      refine (H4.out _ _ _ _ _ _ _ HJ4.out HI5.out).mono ?_; rintro e w5 ⟨rfl, j, rfl⟩
      go_wp2_with fail
      go_ret
      exact ⟨rfl, Lift.drewN_then HB4.out j⟩
    · have d1 := cut_bad_form h0 h2
      rw [d1] at H2
      clear hk hs hs' hi hw h0 h2 d1 hat
      generalize (Wire.E l).1 = es at *
      have hex : (es.extract 0 k).size = k := by rw [ByteArray.size_extract]; omega
      go_enter Try.func8, Try.ntmps8
      go_wp2_with fail
      refine (H1.out).mono ?_; rintro e w1 ⟨rfl, b1⟩
      have HB1 := Lib.hid b1
      clear b1
      go_wp2_with fail
      refine (H2.out _).mono ?_; rintro e w2 ⟨v2, rfl, hi2, b2⟩
      obtain ⟨A2, c2, hv2⟩ := hi2.shape
      subst hv2
      have HB2 := Lib.hid (below2 HB1.out b2)
      clear hi2 b2
      go_wp2_with fail
      refine (awake_any _).mono ?_; rintro e w4 ⟨rfl, b4⟩
      have HB4 := Lib.hid (below2 HB2.out b4)
      clear b4
      go_wp2_with fail
      go_ret
      exact ⟨rfl, HB4.out⟩
  · have hn : (((Wire.E l).2 : Int) != 0) = true := by simpa using h0
    clear hs hs' hi hw h0 hat
    generalize (Wire.E l).2 = en at *
    go_enter Try.func8, Try.ntmps8
    go_wp2_with fail
    refine (H1.out).mono ?_; rintro e w1 ⟨rfl, b1⟩
    have HB1 := Lib.hid b1
    clear b1
    go_wp2_with fail
    refine (awake_any _).mono ?_; rintro e w4 ⟨rfl, b4⟩
    have HB4 := Lib.hid (below2 HB1.out b4)
    clear b4
    go_wp2_with fail
    go_ret
    exact ⟨rfl, HB4.out⟩

end Go.Proofs.Ytllgcfbecioceaa
