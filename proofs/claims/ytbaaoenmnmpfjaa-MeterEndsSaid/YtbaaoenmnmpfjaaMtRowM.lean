/-
  Meters, pure: what many floats make, one behind the other.
  No condition but the bounds named.
-/
import Derived.Test.YtbaaoenmnmpfjaaMtMath
namespace Go.Proofs.Ytbaaoenmnmpfjaa
namespace Mt
theorem S_lt (u v : Nat) : Num.S u v < 18446744073709551616 := by
  unfold Num.S
  split
  · rename_i r h
    exact Num.M_lt (Ieee.Format.add_lt _ h)
  · decide
theorem S_self (u v : Nat) : Num.M (Num.S u v) = Num.S u v := by
  unfold Num.S
  split
  · exact Num.M_M _
  · rfl
theorem least_self (a b : Nat) : Num.M (least a b) = least a b := by unfold least; split <;> exact Num.M_M _
theorem most_self (a b : Nat) : Num.M (most a b) = most a b := by unfold most; split <;> exact Num.M_M _
theorem rank_least (a b : Nat) : Num.rank (least a b) ≤ Num.rank a ∧ Num.rank (least a b) ≤ Num.rank b := by
  unfold least; split <;> simp only [Num.rank_M] <;> omega
theorem rank_most (a b : Nat) : Num.rank a ≤ Num.rank (most a b) ∧ Num.rank b ≤ Num.rank (most a b) := by
  unfold most; split <;> simp only [Num.rank_M] <;> omega
theorem fit_ad {x : Mtr} {b : Nat} (hf : Fit x) (hb : b < 18446744073709551616) : Fit (ad x b) := by
  unfold ad
  split
  · exact hf
  · split
    · exact hf
    · split
      · exact ⟨by show (1 : Int) ≤ _; decide, Num.M_lt hb, Num.M_lt hb, Num.M_lt hb⟩
      · rename_i h1 h2 h3
        refine ⟨?_, S_lt _ _, least_lt hf.2.2.1 (Num.M_lt hb), most_lt hf.2.2.2 (Num.M_lt hb)⟩
        have := hf.1
        show x.n + 1 ≤ _
        omega
/-- What floats make: how many, which may be, none stands outside of the least and the greatest, which are two of them. -/
structure Inv (l : List Nat) (x : Mtr) : Prop where
  n : x.n = (l.length : Int)
  ok : Ok x
  fit : Fit x
  le : ∀ b ∈ l, Num.rank x.l ≤ Num.rank b ∧ Num.rank b ≤ Num.rank x.m
  hit : l ≠ [] → (∃ b ∈ l, Num.M b = x.l) ∧ (∃ b ∈ l, Num.M b = x.m)
theorem inv_nil : Inv [] zero := ⟨rfl, ok_zero, fit_zero, (fun b h => by simp at h), fun h => absurd rfl h⟩
theorem Inv.snoc {l : List Nat} {x : Mtr} (h : Inv l x) {b : Nat} (hb : b < 18446744073709551616) (hn : l.length < 9223372036854775807) : Inv (l ++ [b]) (ad x b) := by
  have hlen : (l ++ [b]).length = l.length + 1 := by simp
  have hmx : x.n ≠ 9223372036854775807 := by rw [h.n]; omega
  by_cases h0 : l = []
  · have hz : x.n = 0 := by rw [h.n, h0]; rfl
    have hf := fit_ad h.fit hb
    rw [ad_one h.ok hz] at hf ⊢
    subst h0
    refine ⟨rfl, .inr ⟨(by decide : (0 : Int) < 1), Num.M_M b, Num.M_M b, Num.M_M b, Nat.le_refl _⟩, hf, fun b' hb' => ?_, fun _ => ⟨⟨b, by simp, rfl⟩, ⟨b, by simp, rfl⟩⟩⟩
    simp only [List.nil_append, List.mem_singleton] at hb'
    subst hb'
    show Num.rank (Num.M b') ≤ _ ∧ _ ≤ Num.rank (Num.M b')
    rw [Num.rank_M]
    exact ⟨Nat.le_refl _, Nat.le_refl _⟩
  · have hz : x.n ≠ 0 := by
      rw [h.n]
      have := List.length_pos_iff.2 h0
      omega
    have hf := fit_ad h.fit hb
    rw [ad_more h.ok hmx hz] at hf ⊢
    have hok : 0 < x.n ∧ Num.M x.s = x.s ∧ Num.M x.l = x.l ∧ Num.M x.m = x.m ∧ Num.rank x.l ≤ Num.rank x.m := by
      rcases h.ok with ⟨h1, _⟩ | h1
      · exact absurd h1 hz
      · exact h1
    obtain ⟨o1, o2, o3, o4, o5⟩ := hok
    have r1 := rank_least x.l (Num.M b)
    have r2 := rank_most x.m (Num.M b)
    rw [Num.rank_M] at r1 r2
    refine ⟨by rw [hlen]; show x.n + 1 = _; rw [h.n]; omega, .inr ⟨by show 0 < x.n + 1; omega, S_self _ _, least_self _ _, most_self _ _, by show Num.rank (least x.l (Num.M b)) ≤ Num.rank (most x.m (Num.M b)); omega⟩, hf, fun b' hb' => ?_, fun _ => ?_⟩
    · show Num.rank (least x.l (Num.M b)) ≤ _ ∧ _ ≤ Num.rank (most x.m (Num.M b))
      rcases List.mem_append.1 hb' with h1 | h1
      · have := h.le b' h1
        omega
      · rw [List.mem_singleton] at h1
        subst h1
        omega
    · obtain ⟨⟨a1, m1, e1⟩, ⟨a2, m2, e2⟩⟩ := h.hit h0
      constructor
      · show ∃ b', b' ∈ l ++ [b] ∧ Num.M b' = least x.l (Num.M b)
        unfold least
        split
        · exact ⟨b, by simp, (Num.M_M b).symm⟩
        · exact ⟨a1, by simp [m1], by rw [o3]; exact e1⟩
      · show ∃ b', b' ∈ l ++ [b] ∧ Num.M b' = most x.m (Num.M b)
        unfold most
        split
        · exact ⟨b, by simp, (Num.M_M b).symm⟩
        · exact ⟨a2, by simp [m2], by rw [o4]; exact e2⟩
theorem Inv.noErr {l : List Nat} {x : Mtr} (h : Inv l x) (hn : l.length < 9223372036854775807) : adE x = 0 := adE_one h.ok (by rw [h.n]; omega)
theorem Inv.sum {l : List Nat} {x : Mtr} (h : Inv l x) (hn : l.length < 9223372036854775807) (b : Nat) : (ad x b).s = if l.length = 0 then Num.M b else Num.S x.s b := by
  have hmx : x.n ≠ 9223372036854775807 := by rw [h.n]; omega
  by_cases h0 : l.length = 0
  · rw [if_pos h0, ad_one h.ok (by rw [h.n, h0]; rfl)]
  · have hz : x.n ≠ 0 := by rw [h.n]; omega
    rw [if_neg h0, ad_more h.ok hmx hz]
    have hs : Num.M x.s = x.s := by
      rcases h.ok with ⟨h1, _⟩ | h1
      · exact absurd h1 hz
      · exact h1.2.1
    show Num.S x.s (Num.M b) = Num.S x.s b
    have e := Num.S_M x.s (Num.M b)
    rw [Num.M_M, Num.S_M] at e
    exact e.symm
/-- One behind the other. -/
def mf (l : List Nat) : Mtr := l.foldl ad zero
theorem mf_snoc (l : List Nat) (b : Nat) : mf (l ++ [b]) = ad (mf l) b := by unfold mf; rw [List.foldl_append]; rfl
theorem mf_take {l : List Nat} {k x : Nat} (hx : l[k]? = some x) : mf (l.take (k + 1)) = ad (mf (l.take k)) x := by
  rw [List.take_add_one, hx]
  exact mf_snoc _ _
theorem mf_inv {l : List Nat} (hl : ∀ b ∈ l, b < 18446744073709551616) (hn : l.length < 9223372036854775807) : ∀ k, k ≤ l.length → Inv (l.take k) (mf (l.take k))
  | 0, _ => inv_nil
  | k + 1, hk => by
    obtain ⟨x, hx⟩ : ∃ x, l[k]? = some x := ⟨l[k], List.getElem?_eq_getElem (by omega)⟩
    rw [mf_take hx, List.take_add_one, hx]
    exact (mf_inv hl hn k (by omega)).snoc (hl x (List.mem_of_getElem? hx)) (by rw [List.length_take]; omega)
/-- Is it one of them? -/
def hitB (l : List Nat) (y : Nat) : Bool := l.any (fun b => Num.M b == y)
theorem hitB_take {l : List Nat} {k x : Nat} (hx : l[k]? = some x) (y : Nat) : hitB (l.take (k + 1)) y = (hitB (l.take k) y || ((Num.M x : Int) == (y : Int))) := by
  unfold hitB
  rw [List.take_add_one, hx, Option.toList_some, List.any_append]
  simp only [List.any_cons, List.any_nil, Bool.or_false]
  congr 1
  rw [Bool.eq_iff_iff, beq_iff_eq, beq_iff_eq]
  omega
theorem Inv.hits {l : List Nat} {x : Mtr} (h : Inv l x) : (decide (l.length = 0) || hitB l x.l) = true ∧ (decide (l.length = 0) || hitB l x.m) = true := by
  by_cases h0 : l = []
  · subst h0
    exact ⟨rfl, rfl⟩
  · obtain ⟨⟨a1, m1, e1⟩, ⟨a2, m2, e2⟩⟩ := h.hit h0
    unfold hitB
    refine ⟨?_, ?_⟩
    · rw [Bool.or_eq_true, List.any_eq_true]
      exact .inr ⟨a1, m1, by rw [beq_iff_eq]; exact e1⟩
    · rw [Bool.or_eq_true, List.any_eq_true]
      exact .inr ⟨a2, m2, by rw [beq_iff_eq]; exact e2⟩
theorem Inv.cmps {l : List Nat} {x : Mtr} (h : Inv l x) {b : Nat} (hb : b ∈ l) : Num.cmp x.l (Num.M b) ≤ 0 ∧ 0 ≤ Num.cmp x.m (Num.M b) := by
  have h1 := h.le b hb
  have h2 := Num.cmp_turn x.m (Num.M b)
  have h3 : Num.cmp (Num.M b) x.m ≤ 0 := Num.cmp_le.2 (by rw [Num.rank_M]; exact h1.2)
  exact ⟨Num.cmp_le.2 (by rw [Num.rank_M]; exact h1.1), by omega⟩
/- Two floats in either order. -/
theorem least_comm {a b : Nat} (ha : a < 18446744073709551616) (hb : b < 18446744073709551616) : least a b = least b a := by
  unfold least
  rcases Nat.lt_trichotomy (Num.rank a) (Num.rank b) with h | h | h
  · rw [if_neg (by omega), if_pos h]
  · rw [if_neg (by omega), if_neg (by omega)]; exact Num.rank_inj ha hb h
  · rw [if_pos h, if_neg (by omega)]
theorem most_comm {a b : Nat} (ha : a < 18446744073709551616) (hb : b < 18446744073709551616) : most a b = most b a := by
  unfold most
  rcases Nat.lt_trichotomy (Num.rank a) (Num.rank b) with h | h | h
  · rw [if_pos h, if_neg (by omega)]
  · rw [if_neg (by omega), if_neg (by omega)]; exact Num.rank_inj ha hb h
  · rw [if_neg (by omega), if_pos h]
theorem rank_nan {a : Nat} (ha : a < 18446744073709551616) : Num.rank a ≤ Num.rank Num.nan := by
  have e : Num.rank Num.nan = 18444492273895866368 := by decide
  rw [e]
  by_cases h : Num.inf < a % Num.sgn
  · have : Num.rank a = Num.rank Num.nan := by unfold Num.rank; rw [Num.M_nan h]; rfl
    omega
  · unfold Num.rank
    rw [Num.M_not h]
    unfold Num.inf Num.sgn at *
    split <;> omega
theorem most_nan {a : Nat} (ha : a < 18446744073709551616) : most a Num.nan = Num.nan := by
  unfold most
  by_cases h : Num.rank a < Num.rank Num.nan
  · rw [if_pos h]; rfl
  · rw [if_neg h]
    have h2 := rank_nan ha
    have e : Num.M a = Num.M Num.nan := Num.rank_inj ha (by decide) (by omega)
    rw [e]
    rfl
theorem ok_one (a : Nat) : Ok ⟨1, Num.M a, Num.M a, Num.M a⟩ := .inr ⟨(by decide : (0 : Int) < 1), Num.M_M a, Num.M_M a, Num.M_M a, Nat.le_refl _⟩
theorem two (a b : Nat) : ad (ad zero a) b = ⟨2, Num.S (Num.M a) (Num.M b), least (Num.M a) (Num.M b), most (Num.M a) (Num.M b)⟩ := by
  rw [ad_one ok_zero rfl, ad_more (ok_one a) (by show (1 : Int) ≠ _; decide) (by show (1 : Int) ≠ _; decide)]
  rfl
theorem turned {a b : Nat} (ha : a < 18446744073709551616) (hb : b < 18446744073709551616) : ad (ad zero a) b = ad (ad zero b) a := by
  rw [two, two, Num.S_comm, least_comm (Num.M_lt ha) (Num.M_lt hb), most_comm (Num.M_lt ha) (Num.M_lt hb)]
theorem two_nan {a b : Nat} (ha : a < 18446744073709551616) (hb : b < 18446744073709551616) (h : Num.M a = Num.nan ∨ Num.M b = Num.nan) : (ad (ad zero a) b).s = Num.nan ∧ (ad (ad zero a) b).m = Num.nan := by
  rcases h with h | h
  · rw [turned ha hb, two, h]
    exact ⟨Num.S_nan _, most_nan (Num.M_lt hb)⟩
  · rw [two, h]
    exact ⟨Num.S_nan _, most_nan (Num.M_lt ha)⟩
end Mt
end Go.Proofs.Ytbaaoenmnmpfjaa
