/-
  The laws WireJoins and WireCuts: each returns true, and nothing that was there is turned.
  WireJoins: two lists of no more than 2^42 items together; else no condition but the form's own reach.
-/
import Derived.Test.YtllgcfbecioceaaWireLaws
namespace Go.Proofs.Ytllgcfbecioceaa
open Go.RowKit

theorem flat_append (a b : List Wire.It) : flat (a ++ b) = flat a ++ flat b := List.flatMap_append ..
theorem E_joins {a b : List Wire.It} (h1 : (Wire.E a).2 = 0) (h2 : (Wire.E b).2 = 0) (h3 : (Wire.E a).1.size + (Wire.E b).1.size ≤ 16384) : Wire.E (a ++ b) = ((Wire.E a).1 ++ (Wire.E b).1, 0) := by
  obtain ⟨f1, l1, e1⟩ := Wire.E_ok h1
  obtain ⟨f2, l2, e2⟩ := Wire.E_ok h2
  rw [e1, e2] at h3 ⊢
  have h3' : (Wire.all a).length + (Wire.all b).length ≤ 16384 := h3
  rw [Wire.E_of (by rw [List.all_append, f1, f2]; rfl) (by rw [Wire.all_append, List.length_append]; exact h3'), Wire.all_append]
  exact congrArg (·, (0 : Int)) (txt_append _ _).symm
theorem E_parts {a b : List Wire.It} (h : (Wire.E (a ++ b)).2 = 0) : (Wire.E a).2 = 0 ∧ (Wire.E b).2 = 0 ∧ (Wire.E a).1.size + (Wire.E b).1.size ≤ 16384 := by
  obtain ⟨f, l, _⟩ := Wire.E_ok h
  rw [List.all_append, Bool.and_eq_true] at f
  rw [Wire.all_append, List.length_append] at l
  rw [Wire.E_of f.1 (by omega), Wire.E_of f.2 (by omega)]
  exact ⟨rfl, rfl, l⟩
theorem E_size (l : List Wire.It) : (Wire.E l).1.size ≤ 16384 := by
  by_cases h : (Wire.E l).2 = 0
  · obtain ⟨_, h2, h3⟩ := Wire.E_ok h
    rw [h3]; exact h2
  · rw [Wire.E_bad h]; decide

set_option maxHeartbeats 3200000 in
theorem joins_yes (A B : Option Addr) (c d : Nat) (a b : List Wire.It) (w : World) (hi : Items w w.heap.size A a) (hj : Items w w.heap.size B b) (hA : A = none → a = []) (hB : B = none → b = []) (hw : Wire.Wf a) (hv : Wire.Wf b) (hs : ∀ x ∈ a, x.s.size ≤ reachBytes) (ht : ∀ x ∈ b, x.s.size ≤ reachBytes)
    (hl : (a.length + b.length) * 32 ≤ 140737488351232) :
    Lift.Yes Try.prog 7 #[.slice A a.length c, .slice B b.length d] w := by
  obtain ⟨i0, hi0, hz0, hz1, hz2⟩ := info_parts info_item
  have hs' : ∀ x ∈ a, x.s.size ≤ 140737488351232 := fun x hx => by have := hs x hx; rwa [reach_num] at this
  have ht' : ∀ x ∈ b, x.s.size ≤ 140737488351232 := fun x hx => by have := ht x hx; rwa [reach_num] at this
  have H1 := Lib.hid (encode_any A c a w (by omega) hi hw hs')
  have H2 := Lib.hid (fun w1 (h : Items w1 w1.heap.size B b) => encode_any B d b w1 (by omega) h hv ht')
  have H3 := Lib.hid (fun w1 (h : Items w1 w1.heap.size A a) => copied_any A c a w1 (by omega) h hA)
  have HS := Lib.hid (fun w1 B' (h : Items w1 B' B b) => items_src d h hB)
  have H4 := Lib.hid (fun C e w1 (h : Items w1 w1.heap.size C (a ++ b)) => encode_any C e (a ++ b) w1 (by rw [List.length_append]; omega) h (fun x hx => by
    rcases List.mem_append.1 hx with h | h
    · exact hw x h
    · exact hv x h) (fun x hx => by
    rcases List.mem_append.1 hx with h | h
    · exact hs' x h
    · exact ht' x h))
  have HI := Lib.hid hi
  have HJ := Lib.hid hj
  have za := E_size a
  have zb := E_size b
  have hcase : ((Wire.E a).2 ≠ 0 ∧ (Wire.E (a ++ b)).2 ≠ 0) ∨ ((Wire.E a).2 = 0 ∧ (Wire.E b).2 ≠ 0 ∧ (Wire.E (a ++ b)).2 ≠ 0) ∨ ((Wire.E a).2 = 0 ∧ (Wire.E b).2 = 0 ∧ 16384 < (Wire.E a).1.size + (Wire.E b).1.size ∧ (Wire.E (a ++ b)).2 ≠ 0) ∨
      ((Wire.E a).2 = 0 ∧ (Wire.E b).2 = 0 ∧ (Wire.E a).1.size + (Wire.E b).1.size ≤ 16384 ∧ Wire.E (a ++ b) = ((Wire.E a).1 ++ (Wire.E b).1, 0)) := by
    by_cases h1 : (Wire.E a).2 = 0
    · by_cases h2 : (Wire.E b).2 = 0
      · by_cases h3 : (Wire.E a).1.size + (Wire.E b).1.size ≤ 16384
        · exact .inr (.inr (.inr ⟨h1, h2, h3, E_joins h1 h2 h3⟩))
        · exact .inr (.inr (.inl ⟨h1, h2, by omega, fun h => h3 (E_parts h).2.2⟩))
      · exact .inr (.inl ⟨h1, h2, fun h => h2 (E_parts h).2.1⟩)
    · exact .inl ⟨h1, fun h => h1 (E_parts h).1⟩
  have hbad : (Wire.E (a ++ b)).2 ≠ 0 → (Wire.E (a ++ b)).1 = ⟨#[]⟩ := Wire.E_bad
  have HFL := Lib.hid (flat_append a b)
  have hlab : (a ++ b).length = a.length + b.length := List.length_append
  have HLAB := Lib.hid hlab
  clear hi hj hA hB hw hv hs ht hs' ht' hlab
  generalize hab : a ++ b = ab at *
  clear hab
  generalize Wire.E a = Ea at *
  generalize Wire.E b = Eb at *
  generalize Wire.E ab = Eab at *
  obtain ⟨sa, ea⟩ := Ea
  obtain ⟨sb, eb⟩ := Eb
  obtain ⟨sab, eab⟩ := Eab
  simp only at *
  generalize hna : a.length = na at *
  generalize hnb : b.length = nb at *
  have HNA := Lib.hid hna
  have HNB := Lib.hid hnb
  clear hna hnb
  unfold Lift.Yes
  have hc2 : ((((ea : Int) != 0) = true ∧ ((eab : Int) != 0) = true) ∨ (ea = 0 ∧ ((eb : Int) != 0) = true ∧ ((eab : Int) != 0) = true) ∨ (ea = 0 ∧ eb = 0 ∧ 16384 < sa.size + sb.size ∧ ((eab : Int) != 0) = true)) ∧ sab = ⟨#[]⟩ ∨ (ea = 0 ∧ eb = 0 ∧ sa.size + sb.size ≤ 16384 ∧ sab = sa ++ sb ∧ eab = 0) := by
    rcases hcase with ⟨c1, c2⟩ | ⟨c1, c2, c3⟩ | ⟨c1, c2, c3, c4⟩ | ⟨c1, c2, c3, c4⟩
    · exact .inl ⟨.inl ⟨by simpa using c1, by simpa using c2⟩, hbad c2⟩
    · exact .inl ⟨.inr (.inl ⟨c1, by simpa using c2, by simpa using c3⟩), hbad c3⟩
    · exact .inl ⟨.inr (.inr ⟨c1, c2, c3, by simpa using c4⟩), hbad c4⟩
    · injection c4 with c4 c5
      exact .inr ⟨c1, c2, c3, c4, c5⟩
  clear hcase hbad
  rcases hc2 with ⟨⟨n1, n2⟩ | ⟨rfl, n1, n2⟩ | ⟨rfl, rfl, n1, n2⟩, rfl⟩ | ⟨rfl, rfl, n1, rfl, rfl⟩
  all_goals
    go_enter Try.func7, Try.ntmps7
    go_wp2_with fail
    refine (H1.out).mono ?_; rintro e w1 ⟨rfl, b1⟩
    have HI1 := Lib.hid (HI.out.later b1 (Nat.le_refl _))
    have HJ1 := Lib.hid (HJ.out.later b1 (Nat.le_refl _))
    have HB1 := Lib.hid b1
    clear b1
    go_wp2_with fail
    refine (H2.out _ HJ1.out).mono ?_; rintro e w2 ⟨rfl, b2⟩
    have HI2 := Lib.hid (HI1.out.later b2 (Nat.le_refl _))
    have HJ2 := Lib.hid (HJ1.out.later b2 (Nat.le_refl _))
    have HB2 := Lib.hid (below2 HB1.out b2)
    clear b2
    go_wp2_with fail
    refine (H3.out _ HI2.out).mono ?_; rintro e w3 ⟨A3, c3, rfl, hi3, b3⟩
    have HI3 := Lib.hid hi3
    have HJ3 := Lib.hid (HJ2.out.later b3 (Nat.le_refl _))
    have HB3 := Lib.hid (below2 HB2.out b3)
    have hz3 := b3.size
    clear hi3 b3
    go_wp2_with (at_builtin; refine wpList_append_src _ rfl (.tmp 23) (.tmp 24) 22 22 rfl w2.heap.size 36 i0 (.agg #[.int .i64 0, .int .i64 0, .string ⟨#[]⟩]) 3 32 Try.underlying22 hi0 hz0 hz1 hz2 rfl (by decide) (by decide) _ na (flat a) rfl (by have := HI3.out; unfold Its at this; rw [HNA.out] at this; exact this) nb (flat b) (.slice B nb d) rfl (HS.out _ _ HJ3.out) (by unfold maxLen; omega) (by omega) (by omega) ?_)
    intro v4 w4 hown hg _
    have hI4 : Its w2.heap.size w4 v4 ab := by
      unfold Its
      rw [HFL.out, HLAB.out]
      exact hown
    obtain ⟨A4, c4, hv4⟩ := Its.shape hI4
    rw [HLAB.out] at hv4
    subst hv4
    have HI4 := Lib.hid hI4.items.2
    have HB4 := Lib.hid (HB3.out.trans (Below.mono (Below.grown (Below.refl w2.heap.size w3) hg hz3 (fun b hb => (World.ownsRow.lt HI3.out b hb).1)) HB2.out.size))
    have hz4 : w.heap.size ≤ w4.heap.size := by have h1 := hg.size; have h2 := HB2.out.size; omega
    clear hI4 hown hg hz3
    have H5 := Lib.hid (H4.out A4 c4 w4 HI4.out)
    rw [HLAB.out] at H5
    go_wp2_with fail
    refine (H5.out).mono ?_; rintro e w5 ⟨rfl, b5⟩
    have HB5 := Lib.hid (HB4.out.trans (b5.mono hz4))
    have hz5 := b5.size
    clear b5
    go_wp2_with fail
    refine (awake_any _).mono ?_; rintro e w6 ⟨rfl, b6⟩
    have HB6 := Lib.hid (HB5.out.trans (b6.mono (by omega)))
    clear b6
    go_wp2_with fail
    go_ret
    exact ⟨rfl, HB6.out⟩

end Go.Proofs.Ytllgcfbecioceaa
