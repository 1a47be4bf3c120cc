/-
  The laws of layer 3: each returns true whatever is handed in, and nothing that was there is turned.
  No condition but the form's own reach; WireJoins: two lists of no more than 2^41 items together.
-/
import Derived.Test.YtllgcfbecioceaaWireSame
import Derived.Test.YtllgcfbecioceaaWireOpen
namespace Go.Proofs.Ytllgcfbecioceaa
open Go.RowKit

theorem reach_num : reachBytes = 140737488351232 := by decide
theorem Items.later {w w' : World} {A : Option Addr} {l : List Wire.It} {B : Nat} (h : Items w B A l) (hb : Below B w w') (hB : B ≤ w.heap.size) : Items w' w'.heap.size A l :=
  (h.below hb).more (Nat.le_trans hB hb.size)
theorem below2 {a b c : World} (h : Below a.heap.size a b) (k : Below b.heap.size b c) : Below a.heap.size a c := Lift.then2 h k

theorem all_length_ge : ∀ l : List Wire.It, l.length ≤ (Wire.all l).length
  | [] => Nat.le_refl _
  | x :: l => by
    rw [Wire.all_cons, List.length_append, List.length_cons]
    have := Wire.one_pos x
    have := all_length_ge l
    omega

set_option maxHeartbeats 1600000 in
theorem encodes_yes (A : Option Addr) (c : Nat) (l : List Wire.It) (w : World) (hi : Items w w.heap.size A l) (hA : A = none → l = []) (hw : Wire.Wf l) (hs : ∀ x ∈ l, x.s.size ≤ reachBytes) (hl : l.length * 32 ≤ reachBytes) :
    Lift.Yes Try.prog 3 #[.slice A l.length c] w := by
  rw [reach_num] at hl
  have hs' : ∀ x ∈ l, x.s.size ≤ 140737488351232 := fun x hx => by have := hs x hx; rwa [reach_num] at this
  have H1 := Lib.hid (copied_any A c l w hl hi hA)
  have H2 := Lib.hid (fun w1 (h : Items w1 w1.heap.size A l) => encode_any A c l w1 (by omega) h hw hs')
  have H3 := Lib.hid (fun A' c' w1 (h : Items w1 w1.heap.size A' l) => rencode_any A' c' l w1 (by omega) h hw hs')
  have H4 := Lib.hid (fun A' c' w1 B B' h h' => same_any A A' c c' l w1 B B' (by omega) h h')
  have HI := Lib.hid hi
  clear hi hA hw hs hs' hl
  generalize Wire.E l = E at *
  obtain ⟨es, en⟩ := E
  simp only at H2 H3
  unfold Lift.Yes
  go_enter Try.func3, Try.ntmps3
  go_wp2_with fail
  refine (H1.out).mono ?_; rintro e w1 ⟨A', c', rfl, hi1, b1⟩
  have HI1 := Lib.hid (HI.out.later b1 (Nat.le_refl _))
  have HJ1 := Lib.hid hi1.items.2
  have HB1 := Lib.hid b1
  clear hi1 b1
  go_wp2_with fail
  refine (H2.out _ HI1.out).mono ?_; rintro e w2 ⟨rfl, b2⟩
  have HI2 := Lib.hid (HI1.out.later b2 (Nat.le_refl _))
  have HJ2 := Lib.hid (HJ1.out.later b2 (Nat.le_refl _))
  have HB2 := Lib.hid (below2 HB1.out b2)
  clear b2
  go_wp2_with fail
  refine (H3.out _ _ _ HJ2.out).mono ?_; rintro e w3 ⟨rfl, b3⟩
  have HI3 := Lib.hid (HI2.out.later b3 (Nat.le_refl _))
  have HJ3 := Lib.hid (HJ2.out.later b3 (Nat.le_refl _))
  have HB3 := Lib.hid (below2 HB2.out b3)
  clear b3
  go_wp2_with fail
  refine (awake_any _).mono ?_; rintro e w4 ⟨rfl, b4⟩
  have HI4 := Lib.hid (HI3.out.later b4 (Nat.le_refl _))
  have HJ4 := Lib.hid (HJ3.out.later b4 (Nat.le_refl _))
  have HB4 := Lib.hid (below2 HB3.out b4)
  clear b4
  go_wp2_with fail
  refine (H4.out _ _ _ _ _ HI4.out HJ4.out).mono ?_; rintro e w5 ⟨rfl, m, rfl⟩
  go_wp2_with fail
  go_ret
  exact ⟨rfl, Lift.drewN_then HB4.out m⟩

theorem D_length (s : ByteArray) : (Wire.D s).1.length ≤ 16384 := by
  by_cases h : (Wire.D s).2 = 0
  · obtain ⟨l, h1, h2, h3, h4⟩ := Wire.D_ok h
    rw [h1]
    have h5 : l.length ≤ (Wire.all l).length := all_length_ge l
    have h6 := congrArg List.length h3
    have h7 : s.data.toList.length = s.data.size := Array.length_toList
    have hz : s.data.size = s.size := rfl
    show l.length ≤ 16384
    omega
  · rw [Wire.D_bad h]; decide

set_option maxHeartbeats 1600000 in
theorem decodes_yes (s : ByteArray) (w : World) (hs : s.size ≤ reachBytes) : Lift.Yes Try.prog 4 #[.string s] w := by
  rw [reach_num] at hs
  have hlen : (Wire.D s).1.length ≤ 9223372036854775807 := Nat.le_trans (D_length s) (by decide)
  have H2 := Lib.hid (fun w1 => decode_any s w1 hs)
  have H3 := Lib.hid (fun w1 => rdecode_any s w1 hs)
  generalize Wire.D s = D at *
  obtain ⟨dl, dn⟩ := D
  simp only at H2 H3 hlen
  have H4 := Lib.hid (fun A A' c c' w1 B B' h h' => same_any A A' c c' dl w1 B B' hlen h h')
  clear hlen hs
  unfold Lift.Yes
  go_enter Try.func4, Try.ntmps4
  go_wp2_with fail
  refine (H2.out _).mono ?_; rintro e w1 ⟨v1, rfl, hi1, b1⟩
  obtain ⟨A1, c1, hv1⟩ := hi1.shape
  subst hv1
  have HI1 := Lib.hid hi1.items.2
  have HB1 := Lib.hid b1
  clear hi1 b1
  go_wp2_with fail
  refine (H3.out _).mono ?_; rintro e w2 ⟨v2, rfl, hi2, b2⟩
  obtain ⟨A2, c2, hv2⟩ := hi2.shape
  subst hv2
  have HI2 := Lib.hid (HI1.out.later b2 (Nat.le_refl _))
  have HJ2 := Lib.hid hi2.items.2
  have HB2 := Lib.hid (below2 HB1.out b2)
  clear hi2 b2
  go_wp2_with fail
  refine (awake_any _).mono ?_; rintro e w4 ⟨rfl, b4⟩
  have HI4 := Lib.hid (HI2.out.later b4 (Nat.le_refl _))
  have HJ4 := Lib.hid (HJ2.out.later b4 (Nat.le_refl _))
  have HB4 := Lib.hid (below2 HB2.out b4)
  clear b4
  go_wp2_with fail
  refine (H4.out _ _ _ _ _ _ _ HI4.out HJ4.out).mono ?_; rintro e w5 ⟨rfl, m, rfl⟩
  go_wp2_with fail
  go_ret
  exact ⟨rfl, Lift.drewN_then HB4.out m⟩

set_option maxHeartbeats 1600000 in
theorem back_yes (A : Option Addr) (c : Nat) (l : List Wire.It) (w : World) (hi : Items w w.heap.size A l) (hw : Wire.Wf l) (hs : ∀ x ∈ l, x.s.size ≤ reachBytes) (hl : l.length * 32 ≤ reachBytes) :
    Lift.Yes Try.prog 5 #[.slice A l.length c] w := by
  rw [reach_num] at hl
  have hs' : ∀ x ∈ l, x.s.size ≤ 140737488351232 := fun x hx => by have := hs x hx; rwa [reach_num] at this
  have H2 := Lib.hid (encode_any A c l w (by omega) hi hw hs')
  have HI := Lib.hid hi
  by_cases h0 : (Wire.E l).2 = 0
  · have hb := Wire.back hw h0
    have hz : (Wire.E l).1.size ≤ 140737488351232 := by
      obtain ⟨_, h2, h3⟩ := Wire.E_ok h0
      rw [h3]
      show (Wire.all l).length ≤ _
      omega
    have H3 := Lib.hid (fun w1 => decode_any (Wire.E l).1 w1 hz)
    rw [hb] at H3
    rw [h0] at H2
    have H4 := Lib.hid (fun A' c' w1 B B' h h' => same_any A A' c c' l w1 B B' (by omega) h h')
    clear hi hw hs hs' hl hb hz h0
    generalize (Wire.E l).1 = es at *
    unfold Lift.Yes
    go_enter Try.func5, Try.ntmps5
    go_wp2_with fail
    refine (H2.out).mono ?_; rintro e w2 ⟨rfl, b2⟩
    have HI2 := Lib.hid (HI.out.later b2 (Nat.le_refl _))
    have HB2 := Lib.hid b2
    clear b2
    go_wp2_with fail
    refine (H3.out _).mono ?_; rintro e w3 ⟨v3, rfl, hi3, b3⟩
    obtain ⟨A3, c3, hv3⟩ := hi3.shape
    subst hv3
    have HI3 := Lib.hid (HI2.out.later b3 (Nat.le_refl _))
    have HJ3 := Lib.hid hi3.items.2
    have HB3 := Lib.hid (below2 HB2.out b3)
    clear hi3 b3
    go_wp2_with fail
    refine (awake_any _).mono ?_; rintro e w4 ⟨rfl, b4⟩
    have HI4 := Lib.hid (HI3.out.later b4 (Nat.le_refl _))
    have HJ4 := Lib.hid (HJ3.out.later b4 (Nat.le_refl _))
    have HB4 := Lib.hid (below2 HB3.out b4)
    clear b4
    go_wp2_with fail
    refine (H4.out _ _ _ _ _ HI4.out HJ4.out).mono ?_; rintro e w5 ⟨rfl, m, rfl⟩
    go_wp2_with fail
    go_ret
    exact ⟨rfl, Lift.drewN_then HB4.out m⟩
  · have hb := Wire.E_bad h0
    rw [hb] at H2
    have hn : (((Wire.E l).2 : Int) != 0) = true := by simpa using h0
    clear hi hw hs hs' hl hb h0
    generalize (Wire.E l).2 = en at *
    unfold Lift.Yes
    go_enter Try.func5, Try.ntmps5
    go_wp2_with fail
    refine (H2.out).mono ?_; rintro e w2 ⟨rfl, b2⟩
    have HB2 := Lib.hid b2
    clear b2
    go_wp2_with fail
    refine (awake_any _).mono ?_; rintro e w4 ⟨rfl, b4⟩
    have HB4 := Lib.hid (below2 HB2.out b4)
    clear b4
    go_wp2_with fail
    go_ret
    exact ⟨rfl, HB4.out⟩

set_option maxHeartbeats 1600000 in
theorem once_yes (s : ByteArray) (w : World) (hs : s.size ≤ reachBytes) : Lift.Yes Try.prog 6 #[.string s] w := by
  rw [reach_num] at hs
  have H2 := Lib.hid (fun w1 => decode_any s w1 hs)
  by_cases h0 : (Wire.D s).2 = 0
  · obtain ⟨l, h1, h2, h3, h4⟩ := Wire.D_ok h0
    have ho := Wire.once h0
    have hlen := D_length s
    rw [h1] at H2 ho hlen
    have H3 := Lib.hid (fun A c w1 (h : Items w1 w1.heap.size A l) => encode_any A c l w1 (Nat.le_trans hlen (by decide)) h (fun x hx => ⟨(h4 x hx).2.1, (h4 x hx).2.2.1⟩) (fun x hx => by have := (h4 x hx).2.2.2; omega))
    simp only at ho hlen H2
    rw [ho] at H3
    clear h0 h1 h2 h3 h4 ho hs
    unfold Lift.Yes
    go_enter Try.func6, Try.ntmps6
    go_wp2_with fail
    refine (H2.out _).mono ?_; rintro e w1 ⟨v1, rfl, hi1, b1⟩
    obtain ⟨A1, c1, hv1⟩ := hi1.shape
    subst hv1
    have HI1 := Lib.hid hi1.items.2
    have HB1 := Lib.hid b1
    clear hi1 b1
    go_wp2_with fail
    refine (H3.out _ _ _ HI1.out).mono ?_; rintro e w2 ⟨rfl, b2⟩
    have HB2 := Lib.hid (below2 HB1.out b2)
    clear b2
    go_wp2_with fail
    refine (awake_any _).mono ?_; rintro e w4 ⟨rfl, b4⟩
    have HB4 := Lib.hid (below2 HB2.out b4)
    clear b4
    go_wp2_with fail
    go_ret
    exact ⟨rfl, HB4.out⟩
  · have hb := Wire.D_bad h0
    rw [hb] at H2
    have hn : (((Wire.D s).2 : Int) != 0) = true := by simpa using h0
    clear h0 hb hs
    generalize (Wire.D s).2 = en at *
    unfold Lift.Yes
    go_enter Try.func6, Try.ntmps6
    go_wp2_with fail
    refine (H2.out _).mono ?_; rintro e w1 ⟨v1, rfl, hi1, b1⟩
    obtain ⟨A1, c1, hv1⟩ := hi1.shape
    subst hv1
    have HB1 := Lib.hid b1
    clear hi1 b1
    go_wp2_with fail
    refine (awake_any _).mono ?_; rintro e w4 ⟨rfl, b4⟩
    have HB4 := Lib.hid (below2 HB1.out b4)
    clear b4
    go_wp2_with fail
    go_ret
    exact ⟨rfl, HB4.out⟩

end Go.Proofs.Ytllgcfbecioceaa
