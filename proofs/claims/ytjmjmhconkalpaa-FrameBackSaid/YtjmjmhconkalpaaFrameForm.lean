/-
  The walks of frame.isKind and frame.formed: whether there is such a kind, whether bytes have a frame's form.
  No condition but a text's greatest size.
-/
import Derived.Test.YtjmjmhconkalpaaFrameMath
import Derived.Test.YtjmjmhconkalpaaRow
namespace Go.Proofs.Ytjmjmhconkalpaa
open Go.RowKit

theorem isKind_any (k : Int) (b : Bool) (hb : Frame.isK k = b) (w : World) :
    Calls Try.prog 13 #[.int .i64 k] w fun e w' => e = .returned (.bool b) ∧ w = w' := by
  cases b
  · rcases (Frame.isK_not k).1 hb with h | h
    · clear hb
      go_enter Try.func13, Try.ntmps13
      go_wp2
      go_ret
      exact ⟨rfl, rfl⟩
    · clear hb
      have h1 : 1 ≤ k := by omega
      have hd : Hid (decide (k ≤ 4) = false) := Lib.hid (by simp; omega)
      go_enter Try.func13, Try.ntmps13
      go_wp2
      go_ret
      exact ⟨congrArg (fun x => Ending.returned (Value.bool x)) hd.out, rfl⟩
  · obtain ⟨h1, h2⟩ := (Frame.isK_iff k).1 hb
    clear hb
    go_enter Try.func13, Try.ntmps13
    go_wp2
    go_ret
    exact ⟨rfl, rfl⟩

theorem ofInt_64 (a : Nat) (ha : a < 9223372036854775808) : (BitVec.ofInt 64 (a : Int)).toNat = a := by
  rw [BitVec.toNat_ofInt]; omega
theorem wrap64 (n : Nat) (h : n < 9223372036854775808) : IntKind.i64.wrap (n : Int) = (n : Int) := by
  have e : (n : Int) % 2 ^ 64 = n := Int.emod_eq_of_lt (by omega) (by omega)
  simp only [IntKind.wrap, IntKind.bits, IntKind.signed, e]
  rw [if_neg]
  simp
  omega
theorem or_size (a b : Nat) (ha : a < 256) (hb : b < 256) : bits .or .i64 ((a : Int) * 256) (b : Int) = 256 * (a : Int) + (b : Int) := by
  have hx : 256 * a ||| b < 2 ^ 16 := Nat.or_lt_two_pow (by omega) (by omega)
  have h2 : 256 * a ||| b = 256 * a + b := (Nat.two_pow_add_eq_or_of_lt (i := 8) (b := b) (by omega) a).symm
  show IntKind.i64.wrap ((BitVec.ofInt 64 ((a : Int) * 256) ||| BitVec.ofInt 64 (b : Int)).toNat : Int) = _
  rw [show (a : Int) * 256 = ((256 * a : Nat) : Int) by omega, BitVec.toNat_or, ofInt_64 _ (by omega), ofInt_64 _ (by omega), h2, wrap64 _ (by omega)]
  omega
theorem eqb {a b : Int} (h : a = b) : (a == b) = true := by rw [h]; simp
theorem neb {a b : Int} (h : a ≠ b) : (a == b) = false := by simp [h]
theorem four_front (l : List UInt8) (h : 8 ≤ l.length) : ∃ c0 c1 c2 c3 r, l = c0 :: c1 :: c2 :: c3 :: r := by
  match l, h with
  | c0 :: c1 :: c2 :: c3 :: r, _ => exact ⟨c0, c1, c2, c3, r, rfl⟩

theorem formed_any (s : ByteArray) (b : Bool) (hb : Frame.formed s.data.toList = b) (w : World) (hs : s.size ≤ maxLen) :
    Calls Try.prog 17 #[.string s] w fun e w' => e = .returned (.bool b) ∧ Below w.heap.size w w' := by
  unfold maxLen at hs
  have hz : s.data.toList.length = s.size := by rw [Array.length_toList]; rfl
  by_cases h8 : s.size < 8
  · have e : b = false := by
      rw [← hb]; unfold Frame.formed; rw [hz, show decide (8 ≤ s.size) = false by simp; omega]; rfl
    subst e
    clear hb hz
    go_enter Try.func17, Try.ntmps17
    go_wp2_with fail
    go_ret
    exact ⟨rfl, Below.refl _ _⟩
  · obtain ⟨c0, c1, c2, c3, r, hr⟩ := four_front s.data.toList (by omega)
    have hi0 := fun W => index_at s 0 0 rfl c0 (by rw [hr]; rfl) W
    have hi1 := fun W => index_at s 1 1 rfl c1 (by rw [hr]; rfl) W
    have hi2 := fun W => index_at s 2 2 rfl c2 (by rw [hr]; rfl) W
    have hi3 := fun W => index_at s 3 3 rfl c3 (by rw [hr]; rfl) W
    have hl2 := c2.toNat_lt
    have hl3 := c3.toNat_lt
    have hl1 := c1.toNat_lt
    unfold Frame.formed Frame.at' at hb
    rw [hz] at hb
    simp only [show decide (8 ≤ s.size) = true by simp; omega, hr, List.getD_cons_zero, List.getD_cons_succ, Bool.true_and] at hb
    generalize c0.toNat = n0 at *
    generalize c1.toNat = n1 at *
    generalize c2.toNat = n2 at *
    generalize c3.toNat = n3 at *
    clear hr hz
    by_cases e0 : n0 = 183
    · subst e0
      simp only [decide_true, Bool.true_and] at hb
      cases hk : Frame.isK n1
      · have e : b = false := by rw [← hb, hk]; rfl
        subst e
        clear hb
        go_enter Try.func17, Try.ntmps17
        go_wp2_with fail
        refine (isKind_any n1 false hk _).mono ?_; rintro e w1 ⟨rfl, rfl⟩
        go_wp2_with fail
        go_ret
        exact ⟨rfl, Below.refl _ _⟩
      · rw [hk, Bool.true_and] at hb
        have hor := or_size n2 n3 hl2 hl3
        by_cases hn : 256 * n2 + n3 ≤ 16384
        · by_cases hl : s.size = 256 * n2 + n3 + 8
          · have e : b = true := by rw [← hb]; simp [hn, hl]
            subst e
            clear hb
            go_enter Try.func17, Try.ntmps17
            go_wp2_with fail
            refine (isKind_any n1 true hk _).mono ?_; rintro e w1 ⟨rfl, rfl⟩
            go_wp2_with fail
            go_region
            all_goals go_wp2_with fail
            all_goals go_ret
            all_goals exact ⟨congrArg (fun x => Ending.returned (Value.bool x)) (eqb (by omega)), by go_grown⟩
          · have e : b = false := by rw [← hb]; simp [hn, hl]
            subst e
            clear hb
            go_enter Try.func17, Try.ntmps17
            go_wp2_with fail
            refine (isKind_any n1 true hk _).mono ?_; rintro e w1 ⟨rfl, rfl⟩
            go_wp2_with fail
            go_region
            all_goals go_wp2_with fail
            all_goals go_ret
            all_goals exact ⟨congrArg (fun x => Ending.returned (Value.bool x)) (neb (by omega)), by go_grown⟩
        · have e : b = false := by rw [← hb]; simp [hn]
          subst e
          clear hb
          go_enter Try.func17, Try.ntmps17
          go_wp2_with fail
          refine (isKind_any n1 true hk _).mono ?_; rintro e w1 ⟨rfl, rfl⟩
          go_wp2_with fail
          go_region
          all_goals go_wp2_with fail
          all_goals go_ret
          all_goals exact ⟨rfl, by go_grown⟩
    · have e : b = false := by rw [← hb]; simp [e0]
      subst e
      clear hb
      go_enter Try.func17, Try.ntmps17
      go_wp2_with fail
      go_ret
      exact ⟨rfl, Below.refl _ _⟩
end Go.Proofs.Ytjmjmhconkalpaa
