/-
  What the walks of the values come to: decimal digits, pairs of hexadecimal ones, whether a value may be, the order of values, their items, their words.
  Pure: nothing of the program is read.
-/
import Derived.Lib.Bytealg
import Derived.Test.YtdhfmapcggohmaaDoorHexRead
namespace Go.Proofs.YtdhfmapcggohmaaDoor
namespace Val

theorem head_app {α : Type} {a : List α} (b : List α) (h : a ≠ []) : (a ++ b).head? = a.head? := by
  cases a with
  | nil => exact absurd rfl h
  | cons x r => rfl

/-! ### Decimal digits -/
def dg (d : Nat) : UInt8 := UInt8.ofNat (48 + d)
def dgs (m : Nat) : List UInt8 := if _h : m < 10 then [dg m] else dgs (m / 10) ++ [dg (m % 10)]
termination_by m
def dec (n : Int) : List UInt8 := if n < 0 then 45 :: dgs n.natAbs else dgs n.natAbs
def vl (l : List UInt8) : Nat := l.foldl (fun a c => 10 * a + (c.toNat - 48)) 0
def isd (c : UInt8) : Bool := decide (48 ≤ c.toNat) && decide (c.toNat ≤ 57)
def inR (n : Int) : Prop := -9223372036854775808 ≤ n ∧ n ≤ 9223372036854775807

theorem dg_toNat {d : Nat} (h : d < 10) : (dg d).toNat = 48 + d := by
  unfold dg; rw [UInt8.toNat_ofNat']; omega
theorem dg_isd {d : Nat} (h : d < 10) : isd (dg d) = true := by unfold isd; rw [dg_toNat h]; simp; omega
theorem dg_of {c : UInt8} (h : isd c = true) : dg (c.toNat - 48) = c := by
  unfold isd at h
  simp at h
  apply UInt8.toNat_inj.1
  rw [dg_toNat (by omega)]; omega
theorem dgs_lt {m : Nat} (h : m < 10) : dgs m = [dg m] := by rw [dgs, dif_pos h]
theorem dgs_ge {m : Nat} (h : ¬ m < 10) : dgs m = dgs (m / 10) ++ [dg (m % 10)] := by rw [dgs, dif_neg h]
theorem vl_append (l : List UInt8) (c : UInt8) : vl (l ++ [c]) = 10 * vl l + (c.toNat - 48) := by
  unfold vl; rw [List.foldl_append]; rfl
theorem vl_nil : vl [] = 0 := rfl
theorem vl_minus (l : List UInt8) : vl (45 :: l) = vl l := rfl
theorem vl_dgs : ∀ (m : Nat), vl (dgs m) = m := by
  intro m
  induction m using Nat.strongRecOn with
  | ind m ih =>
    by_cases h : m < 10
    · rw [dgs_lt h, show [dg m] = [] ++ [dg m] from rfl, vl_append, vl_nil, dg_toNat h]; omega
    · rw [dgs_ge h, vl_append, ih _ (by omega), dg_toNat (by omega)]; omega
theorem dgs_ne (m : Nat) : dgs m ≠ [] := by
  by_cases h : m < 10
  · rw [dgs_lt h]; simp
  · rw [dgs_ge h]; simp
theorem dgs_all : ∀ (m : Nat), (dgs m).all isd = true := by
  intro m
  induction m using Nat.strongRecOn with
  | ind m ih =>
    by_cases h : m < 10
    · rw [dgs_lt h]; simp [dg_isd h]
    · rw [dgs_ge h, List.all_append, ih _ (by omega)]; simp [dg_isd (show m % 10 < 10 by omega)]
theorem dgs_head : ∀ (m : Nat), m ≠ 0 → (dgs m).head? ≠ some 48 := by
  intro m
  induction m using Nat.strongRecOn with
  | ind m ih =>
    intro hm
    by_cases h : m < 10
    · rw [dgs_lt h]
      intro e
      have e2 : dg m = 48 := by simpa using e
      have := congrArg UInt8.toNat e2
      rw [dg_toNat h] at this
      have : (48 : UInt8).toNat = 48 := rfl
      omega
    · rw [dgs_ge h, head_app _ (dgs_ne _)]
      exact ih _ (by omega) (by omega)
theorem dgs_head45 (m : Nat) : (dgs m).head? ≠ some 45 := by
  intro e
  have h := List.all_eq_true.1 (dgs_all m) 45 (List.mem_of_mem_head? (by rw [e]; rfl))
  revert h; decide
theorem dgs_len : ∀ (k m : Nat), 1 ≤ k → m < 10 ^ k → (dgs m).length ≤ k
  | 0, _, h, _ => absurd h (by decide)
  | k + 1, m, _, hm => by
    by_cases h : m < 10
    · rw [dgs_lt h]; simp
    · rw [dgs_ge h, List.length_append]
      have hk : 1 ≤ k := by
        rcases Nat.eq_zero_or_pos k with rfl | h0
        · simp at hm; omega
        · exact h0
      have := dgs_len k (m / 10) hk (by rw [Nat.pow_succ] at hm; omega)
      simp; omega
theorem vl_ge (a b : List UInt8) : vl a ≤ vl (a ++ b) := by
  suffices h : ∀ (b : List UInt8) (x : Nat), x ≤ b.foldl (fun a c => 10 * a + (c.toNat - 48)) x by
    unfold vl; rw [List.foldl_append]; exact h _ _
  intro b
  induction b with
  | nil => intro x; exact Nat.le_refl _
  | cons c r ih => intro x; exact Nat.le_trans (show x ≤ 10 * x + (c.toNat - 48) by omega) (ih _)
theorem vl_pos {l : List UInt8} (hn : l ≠ []) (hd : l.all isd = true) (h0 : l.head? ≠ some 48) : 1 ≤ vl l := by
  match l, hn with
  | c :: r, _ =>
    have h1 := vl_ge [c] r
    have hc : isd c = true := by simp at hd; exact hd.1
    have : vl [c] = c.toNat - 48 := by show 10 * 0 + (c.toNat - 48) = _; omega
    unfold isd at hc
    simp at hc
    have hne : c.toNat ≠ 48 := fun e => h0 (by
      have : c = 48 := UInt8.toNat_inj.1 (by rw [e]; rfl)
      rw [this]; rfl)
    have : vl (c :: r) = vl ([c] ++ r) := rfl
    omega
theorem dgs_vl_rev : ∀ (r : List UInt8), r ≠ [] → r.reverse.all isd = true → (r.reverse.head? = some 48 → r.reverse = [48]) → dgs (vl r.reverse) = r.reverse
  | [], h, _, _ => absurd rfl h
  | [c], _, hd, _ => by
    have hc : isd c = true := by simpa using hd
    have e : vl [c] = c.toNat - 48 := by show 10 * 0 + (c.toNat - 48) = _; omega
    show dgs (vl [c]) = [c]
    have hc2 := hc
    unfold isd at hc2
    simp at hc2
    rw [e, dgs_lt (by omega), dg_of hc]
  | c :: d :: r, _, hd, h0 => by
    rw [List.reverse_cons] at hd h0 ⊢
    rw [List.all_append, Bool.and_eq_true] at hd
    have hc : isd c = true := by simpa using hd.2
    have hne : (d :: r).reverse ≠ [] := by simp
    have hh : (d :: r).reverse.head? ≠ some 48 := fun e => by
      have := h0 (by rw [head_app _ hne]; exact e)
      have := congrArg List.length this
      simp at this
    have ih := dgs_vl_rev (d :: r) (by simp) hd.1 (fun e => absurd e hh)
    have hp := vl_pos hne hd.1 hh
    have hc2 := hc
    unfold isd at hc2
    simp at hc2
    rw [vl_append, dgs_ge (by omega), show (10 * vl (d :: r).reverse + (c.toNat - 48)) / 10 = vl (d :: r).reverse from by omega, ih,
      show (10 * vl (d :: r).reverse + (c.toNat - 48)) % 10 = c.toNat - 48 from by omega, dg_of hc]
theorem dgs_vl {l : List UInt8} (hn : l ≠ []) (hd : l.all isd = true) (h0 : l.head? = some 48 → l = [48]) : dgs (vl l) = l := by
  have := dgs_vl_rev l.reverse (by simpa using hn) (by simpa using hd) (by simpa using h0)
  simpa using this

theorem dgs_split {m : Nat} (_h : m ≠ 0) : dgs m = (if m / 10 = 0 then [] else dgs (m / 10)) ++ [dg (m % 10)] := by
  by_cases h2 : m < 10
  · rw [dgs_lt h2, if_pos (by omega), Nat.mod_eq_of_lt h2]; rfl
  · rw [dgs_ge h2, if_neg (by omega)]
theorem dgs_first (m : Nat) : dgs m = (if m / 10 = 0 then [] else dgs (m / 10)) ++ [dg (m % 10)] := by
  by_cases h2 : m < 10
  · rw [dgs_lt h2, if_pos (by omega), Nat.mod_eq_of_lt h2]; rfl
  · rw [dgs_ge h2, if_neg (by omega)]
theorem dgs_next {N m : Nat} {ds : List UInt8} (hm : m ≠ 0) (h : dgs N = (if m = 0 then [] else dgs m) ++ ds.reverse) : dgs N = (if m / 10 = 0 then [] else dgs (m / 10)) ++ (ds ++ [dg (m % 10)]).reverse := by
  rw [h, if_neg hm, dgs_split hm, List.reverse_append, List.append_assoc]; rfl
theorem dgs_short {N m : Nat} {ds : List UInt8} (hN : N ≤ 9223372036854775808) (h : dgs N = (if m = 0 then [] else dgs m) ++ ds.reverse) : ds.length ≤ 19 := by
  have h1 := dgs_len 19 N (by decide) (by omega)
  rw [h, List.length_append, List.length_reverse] at h1
  omega
theorem tdiv_ten (m : Nat) : (-(m : Int)).tdiv 10 = -((m / 10 : Nat) : Int) := by
  rw [Int.neg_tdiv, Int.tdiv_eq_ediv_of_nonneg (by omega)]; omega
theorem tmod_ten (m : Nat) : (-(m : Int)).tmod 10 = -((m % 10 : Nat) : Int) := by
  rw [Int.neg_tmod, Int.tmod_eq_emod_of_nonneg (by omega)]; omega
/-- The digits behind a sign. -/
def body (l : List UInt8) : List UInt8 := if l.head? = some 45 then l.tail else l
/-- The number whose digits these are. -/
def rd (l : List UInt8) : Option Int :=
  if body l = [] ∨ ((body l).head? = some 48 ∧ l ≠ [48]) ∨ (body l).all isd = false then none
  else if l.head? = some 45 then (if vl (body l) ≤ 9223372036854775808 then some (-(vl (body l) : Int)) else none)
  else if vl (body l) < 9223372036854775808 then some (vl (body l) : Int) else none

theorem rd_dec {n : Int} (h : inR n) : rd (dec n) = some n := by
  unfold inR at h
  unfold dec
  split
  · next hn =>
    have hb : body (45 :: dgs n.natAbs) = dgs n.natAbs := rfl
    unfold rd
    rw [hb, if_neg, if_pos (show (45 :: dgs n.natAbs).head? = some 45 from rfl), vl_dgs, if_pos (by omega)]
    · congr 1; omega
    · rintro (e | ⟨e, _⟩ | e)
      · exact dgs_ne _ e
      · exact dgs_head _ (by omega) e
      · rw [dgs_all] at e; cases e
  · next hn =>
    have hb : body (dgs n.natAbs) = dgs n.natAbs := if_neg (dgs_head45 _)
    unfold rd
    rw [hb, if_neg, if_neg (dgs_head45 _), vl_dgs, if_pos (by omega)]
    · congr 1; omega
    · rintro (e | ⟨e, e2⟩ | e)
      · exact dgs_ne _ e
      · by_cases h0 : n.natAbs = 0
        · rw [h0] at e2; exact e2 (by rw [dgs_lt (by decide)]; rfl)
        · exact dgs_head _ h0 e
      · rw [dgs_all] at e; cases e
theorem rd_some {l : List UInt8} {n : Int} (h : rd l = some n) : l = dec n ∧ inR n := by
  unfold rd at h
  split at h
  · cases h
  · next hc =>
    have h1 : body l ≠ [] := fun e => hc (.inl e)
    have h2 : (body l).head? = some 48 → l = [48] := fun e => Decidable.byContradiction fun e2 => hc (.inr (.inl ⟨e, e2⟩))
    have h3 : (body l).all isd = true := by
      cases e : (body l).all isd with
      | true => rfl
      | false => exact absurd (.inr (.inr e)) hc
    split at h
    · next h45 =>
      split at h
      · next hv =>
        have e := Option.some.inj h
        have hl : l = 45 :: body l := by
          unfold body
          rw [if_pos h45]
          cases l with
          | nil => cases h45
          | cons a r => simp at h45; rw [h45]; rfl
        have h0 : (body l).head? ≠ some 48 := fun e => by
          have := h2 e
          rw [this] at h45
          revert h45; decide
        have hp := vl_pos h1 h3 h0
        refine ⟨?_, by unfold inR; omega⟩
        unfold dec
        rw [if_pos (by omega), ← e, Int.natAbs_neg, Int.natAbs_natCast, dgs_vl h1 h3 (fun e => absurd e h0)]
        exact hl
      · cases h
    · next h45 =>
      split at h
      · next hv =>
        have e := Option.some.inj h
        have hl : body l = l := if_neg h45
        refine ⟨?_, by unfold inR; omega⟩
        unfold dec
        rw [if_neg (by omega), ← e, Int.natAbs_natCast, dgs_vl h1 h3 (fun e => by rw [hl]; exact h2 e), hl]
      · cases h
theorem rd_len {l : List UInt8} {n : Int} (h : rd l = some n) : l.length ≤ 20 := by
  obtain ⟨rfl, hr⟩ := rd_some h
  unfold inR at hr
  unfold dec
  have := dgs_len 19 n.natAbs (by decide) (by omega)
  split
  · simp; omega
  · omega

theorem rd_none_empty {l : List UInt8} (h : body l = []) : rd l = none := if_pos (.inl h)
theorem rd_none_head {l : List UInt8} (h : (body l).head? = some 48) (h2 : l ≠ [48]) : rd l = none := if_pos (.inr (.inl ⟨h, h2⟩))
theorem rd_none_digit {l : List UInt8} {c : UInt8} (h : c ∈ body l) (h2 : isd c = false) : rd l = none := by
  refine if_pos (.inr (.inr ?_))
  rw [Bool.eq_false_iff]
  intro ha
  have := List.all_eq_true.1 ha c h
  rw [h2] at this; cases this
theorem rd_none_great {l : List UInt8} (h : 9223372036854775808 < vl (body l)) : rd l = none := by
  unfold rd
  split
  · rfl
  · split
    · rw [if_neg (by omega)]
    · rw [if_neg (by omega)]
/-- So many digits are right, and their number is still small. -/
def Seen (d : List UInt8) (k v : Nat) : Prop := (d.take k).all isd = true ∧ vl (d.take k) = v ∧ v ≤ 9223372036854775808
theorem seen_zero (d : List UInt8) : Seen d 0 0 := ⟨rfl, rfl, by decide⟩
theorem take_one {d : List UInt8} {k : Nat} {c : UInt8} (h : d[k]? = some c) : d.take (k + 1) = d.take k ++ [c] := by
  rw [List.take_add_one, h]; rfl
theorem seen_next {d : List UInt8} {k v : Nat} {c : UInt8} (h : Seen d k v) (hc : d[k]? = some c) (h1 : 48 ≤ c.toNat) (h2 : c.toNat ≤ 57) (h3 : 10 * v + (c.toNat - 48) ≤ 9223372036854775808) : Seen d (k + 1) (10 * v + (c.toNat - 48)) := by
  obtain ⟨a, b, _⟩ := h
  refine ⟨?_, ?_, h3⟩
  · rw [take_one hc, List.all_append, a]
    simp [isd, h1, h2]
  · rw [take_one hc, vl_append, b]
theorem seen_great {d : List UInt8} {k v : Nat} {c : UInt8} (h : Seen d k v) (hc : d[k]? = some c) (h3 : 9223372036854775808 < 10 * v + (c.toNat - 48)) : 9223372036854775808 < vl d := by
  obtain ⟨_, b, _⟩ := h
  have h4 := vl_append (d.take k) c
  rw [← take_one hc, b] at h4
  have h5 := vl_ge (d.take (k + 1)) (d.drop (k + 1))
  rw [List.take_append_drop] at h5
  omega
theorem seen_end {d : List UInt8} {k v : Nat} (h : Seen d k v) (hk : d.length ≤ k) : d.all isd = true ∧ vl d = v ∧ v ≤ 9223372036854775808 := by
  unfold Seen at h
  rwa [List.take_of_length_le hk] at h
theorem rd_end {l : List UInt8} {v : Nat} (h1 : body l ≠ []) (h2 : (body l).head? = some 48 → l = [48]) (h3 : (body l).all isd = true) (h4 : vl (body l) = v) (h5 : v ≤ 9223372036854775808) :
    rd l = if l.head? = some 45 then some (-(v : Int)) else if v < 9223372036854775808 then some (v : Int) else none := by
  unfold rd
  rw [if_neg, h4, if_pos h5]
  · rintro (e | ⟨e, e2⟩ | e)
    · exact h1 e
    · exact e2 (h2 e)
    · rw [h3] at e; cases e
theorem tdiv_least (d : Nat) (h : d ≤ 9) : (-9223372036854775808 + (d : Int)).tdiv 10 = -(((9223372036854775808 - d) / 10 : Nat) : Int) := by
  rw [show (-9223372036854775808 + (d : Int)) = -((9223372036854775808 - d : Nat) : Int) by omega, Int.neg_tdiv, Int.tdiv_eq_ediv_of_nonneg (by omega)]; omega

/-! ### Pairs of hexadecimal digits -/
def hexL : List UInt8 → List UInt8
  | [] => []
  | c :: r => Hex.dig (c.toNat / 16) :: Hex.dig (c.toNat % 16) :: hexL r
def unL : List UInt8 → Option (List UInt8)
  | [] => some []
  | [_] => none
  | a :: b :: r => match Hex.lo a, Hex.lo b with
    | some x, some y => (unL r).map (UInt8.ofNat (16 * x + y) :: ·)
    | _, _ => none
theorem hexL_length : ∀ (l : List UInt8), (hexL l).length = 2 * l.length
  | [] => rfl
  | c :: r => by simp [hexL, hexL_length r]; omega
theorem hexL_append : ∀ (a b : List UInt8), hexL (a ++ b) = hexL a ++ hexL b
  | [], _ => rfl
  | c :: r, b => by simp [hexL, hexL_append r b]
theorem unL_hexL : ∀ (l : List UInt8), unL (hexL l) = some l
  | [] => rfl
  | c :: r => by
    have hc : c.toNat < 256 := c.toNat_lt
    show (match Hex.lo (Hex.dig (c.toNat / 16)), Hex.lo (Hex.dig (c.toNat % 16)) with
      | some x, some y => (unL (hexL r)).map (UInt8.ofNat (16 * x + y) :: ·)
      | _, _ => none) = _
    rw [Hex.lo_dig (by omega), Hex.lo_dig (by omega), unL_hexL r]
    simp only [Option.map_some]
    rw [show 16 * (c.toNat / 16) + c.toNat % 16 = c.toNat from by omega, UInt8.ofNat_toNat]
theorem hexL_unL : ∀ (l t : List UInt8), unL l = some t → hexL t = l
  | [], t, h => by cases h; rfl
  | [_], t, h => by cases h
  | a :: b :: r, t, h => by
    have h0 : (match Hex.lo a, Hex.lo b with
      | some x, some y => (unL r).map (UInt8.ofNat (16 * x + y) :: ·)
      | _, _ => none) = some t := h
    cases ha : Hex.lo a with
    | none => rw [ha] at h0; cases h0
    | some x =>
      cases hb : Hex.lo b with
      | none => rw [ha, hb] at h0; cases h0
      | some y =>
        rw [ha, hb] at h0
        cases hu : unL r with
        | none => simp only [hu] at h0; cases h0
        | some u =>
          simp only [hu, Option.map_some] at h0
          have e := Option.some.inj h0
          subst e
          have hx := Hex.lo_lt ha
          have hy := Hex.lo_lt hb
          have hv : (UInt8.ofNat (16 * x + y)).toNat = 16 * x + y := by rw [UInt8.toNat_ofNat']; omega
          show Hex.dig ((UInt8.ofNat (16 * x + y)).toNat / 16) :: Hex.dig ((UInt8.ofNat (16 * x + y)).toNat % 16) :: hexL u = _
          rw [hv, show (16 * x + y) / 16 = x from by omega, show (16 * x + y) % 16 = y from by omega, Hex.dig_lo ha, Hex.dig_lo hb, hexL_unL r u hu]
theorem unL_even : ∀ (l t : List UInt8), unL l = some t → l.length % 2 = 0
  | [], _, _ => rfl
  | [_], _, h => by cases h
  | a :: b :: r, t, h => by
    have := hexL_unL _ _ h
    rw [← this, hexL_length]; omega

/-! ### Values -/
structure V where
  k : Int
  n : Int
  f : Nat
  s : ByteArray
def chk (v : V) : Int :=
  if v.k < 0 ∨ 3 < v.k then 1
  else if v.n ≠ 0 ∧ v.k ≠ 1 then 1
  else if v.f ≠ 0 ∧ v.k ≠ 2 then 1
  else if v.s.size ≠ 0 ∧ v.k ≠ 3 then 1
  else if Num.M v.f ≠ v.f then 1
  else if 64 < v.s.size then 2 else 0
def emp : ByteArray := ⟨#[]⟩
def zero : V := ⟨0, 0, 0, emp⟩
theorem size_zero {s : ByteArray} (h : s.size = 0) : s = emp := by
  apply ByteArray.ext
  exact Array.eq_empty_of_size_eq_zero h
theorem chk_ok {v : V} (h : chk v = 0) : v = ⟨0, 0, 0, emp⟩ ∨ v = ⟨1, v.n, 0, emp⟩ ∨ (v = ⟨2, 0, v.f, emp⟩ ∧ Num.M v.f = v.f) ∨ (v = ⟨3, 0, 0, v.s⟩ ∧ v.s.size ≤ 64) := by
  obtain ⟨k, n, f, s⟩ := v
  unfold chk at h
  simp only at h ⊢
  split at h
  · cases h
  split at h
  · cases h
  split at h
  · cases h
  split at h
  · cases h
  split at h
  · cases h
  split at h
  · cases h
  next h1 h2 h3 h4 h5 h6 =>
  have h5 : Num.M f = f := Decidable.byContradiction h5
  have hk : k = 0 ∨ k = 1 ∨ k = 2 ∨ k = 3 := by omega
  rcases hk with rfl | rfl | rfl | rfl
  · obtain rfl : n = 0 := by omega
    obtain rfl : f = 0 := by omega
    obtain rfl := size_zero (s := s) (by omega)
    exact .inl rfl
  · obtain rfl : f = 0 := by omega
    obtain rfl := size_zero (s := s) (by omega)
    exact .inr (.inl rfl)
  · obtain rfl : n = 0 := by omega
    obtain rfl := size_zero (s := s) (by omega)
    exact .inr (.inr (.inl ⟨rfl, h5⟩))
  · obtain rfl : n = 0 := by omega
    obtain rfl : f = 0 := by omega
    exact .inr (.inr (.inr ⟨rfl, by omega⟩))
theorem M_zero : Num.M 0 = 0 := by decide
theorem chk_none : chk zero = 0 := by
  unfold chk zero
  rw [if_neg (by decide), if_neg (by decide), if_neg (by decide), if_neg (by decide), if_neg (by decide), if_neg (by decide)]
theorem emp_size : emp.size = 0 := rfl
theorem chk_int (n : Int) : chk ⟨1, n, 0, emp⟩ = 0 := by
  unfold chk
  rw [if_neg (show ¬ ((1 : Int) < 0 ∨ 3 < (1 : Int)) by decide), if_neg (by simp), if_neg (by simp), if_neg (by intro h; exact h.1 rfl), if_neg (by rw [M_zero]; simp), if_neg (by rw [emp_size]; decide)]
theorem chk_float {f : Nat} (h : Num.M f = f) : chk ⟨2, 0, f, emp⟩ = 0 := by
  unfold chk
  rw [if_neg (show ¬ ((2 : Int) < 0 ∨ 3 < (2 : Int)) by decide), if_neg (by simp), if_neg (by simp), if_neg (by intro h; exact h.1 rfl), if_neg (by rw [h]; simp), if_neg (by rw [emp_size]; decide)]
theorem chk_text (s : ByteArray) : chk ⟨3, 0, 0, s⟩ = if 64 < s.size then 2 else 0 := by
  unfold chk
  rw [if_neg (show ¬ ((3 : Int) < 0 ∨ 3 < (3 : Int)) by decide), if_neg (by simp), if_neg (by simp), if_neg (by simp), if_neg (by rw [M_zero]; simp)]

/-! ### Their order -/
def ci (x y : Int) : Int := if x < y then -1 else if y < x then 1 else 0
def orI (x y : Int) : Int := if x ≠ 0 then x else y
structure IsOrd {α : Type} (c : α → α → Int) : Prop where
  anti : ∀ a b, c a b = -c b a
  trans : ∀ a b d, c a b ≤ 0 → c b d ≤ 0 → c a d ≤ 0
  bound : ∀ a b, -1 ≤ c a b ∧ c a b ≤ 1
theorem IsOrd.or {α : Type} {c d : α → α → Int} (hc : IsOrd c) (hd : IsOrd d) : IsOrd (fun a b => orI (c a b) (d a b)) where
  anti a b := by
    have h1 := hc.anti a b
    have h2 := hd.anti a b
    show orI _ _ = -orI _ _
    unfold orI
    split <;> split <;> omega
  trans a b e h1 h2 := by
    have t1 := hc.trans a b e
    have t2 := hd.trans a b e
    have t3 := hc.trans b e a
    have t4 := hc.trans e a b
    have a1 := hc.anti a b
    have a2 := hc.anti b e
    have a3 := hc.anti a e
    show orI _ _ ≤ 0
    have h1 : orI (c a b) (d a b) ≤ 0 := h1
    have h2 : orI (c b e) (d b e) ≤ 0 := h2
    unfold orI at h1 h2 ⊢
    split at h1 <;> split at h2 <;> split <;> omega
  bound a b := by
    have h1 := hc.bound a b
    have h2 := hd.bound a b
    show -1 ≤ orI _ _ ∧ orI _ _ ≤ 1
    unfold orI
    split <;> omega
theorem IsOrd.on {α β : Type} {c : α → α → Int} (hc : IsOrd c) (f : β → α) : IsOrd (fun a b => c (f a) (f b)) where
  anti _a _b := hc.anti _ _
  trans _a _b _d := hc.trans _ _ _
  bound _a _b := hc.bound _ _
theorem ci_ord : IsOrd ci where
  anti a b := by unfold ci; split <;> (try split) <;> (try split) <;> omega
  trans a b d := by unfold ci; intro h1 h2; (split at h1) <;> (split at h2) <;> (try split at h1) <;> (try split at h2) <;> (try split) <;> (try split) <;> omega
  bound a b := by unfold ci; split <;> (try split) <;> omega
theorem num_ord : IsOrd Num.cmp where
  anti := Num.cmp_turn
  trans a b d h1 h2 := Num.cmp_le.2 (Nat.le_trans (Num.cmp_le.1 h1) (Num.cmp_le.1 h2))
  bound a b := by unfold Num.cmp; split <;> (try split) <;> omega
open Lib (compareBytes)
theorem cb_bound : ∀ (a b : List UInt8), -1 ≤ compareBytes a b ∧ compareBytes a b ≤ 1
  | [], [] => by simp [compareBytes]
  | [], _ :: _ => by simp [compareBytes]
  | _ :: _, [] => by simp [compareBytes]
  | x :: a, y :: b => by
    have := cb_bound a b
    unfold compareBytes
    split
    · omega
    · split <;> omega
theorem cb_anti : ∀ (a b : List UInt8), compareBytes a b = -compareBytes b a
  | [], [] => by simp [compareBytes]
  | [], _ :: _ => by simp [compareBytes]
  | _ :: _, [] => by simp [compareBytes]
  | x :: a, y :: b => by
    have := cb_anti a b
    unfold compareBytes
    simp only [UInt8.lt_iff_toNat_lt]
    split <;> split <;> (try split) <;> omega
theorem cb_trans : ∀ (a b d : List UInt8), compareBytes a b ≤ 0 → compareBytes b d ≤ 0 → compareBytes a d ≤ 0
  | [], _, [] => by simp [compareBytes]
  | [], _, _ :: _ => by simp [compareBytes]
  | _ :: _, [], _ => by simp [compareBytes]
  | _ :: _, _ :: _, [] => by simp [compareBytes]
  | x :: a, y :: b, z :: d => by
    have ih := cb_trans a b d
    unfold compareBytes
    simp only [UInt8.lt_iff_toNat_lt]
    intro h1 h2
    (split at h1) <;> (split at h2) <;> (try split at h1) <;> (try split at h2) <;> (split <;> (try split)) <;> omega
theorem cb_zero : ∀ (a b : List UInt8), compareBytes a b = 0 → a = b
  | [], [], _ => rfl
  | [], _ :: _, h => by simp [compareBytes] at h
  | _ :: _, [], h => by simp [compareBytes] at h
  | x :: a, y :: b, h => by
    unfold compareBytes at h
    simp only [UInt8.lt_iff_toNat_lt] at h
    split at h
    · omega
    · split at h
      · omega
      · obtain rfl : x = y := UInt8.toNat_inj.1 (by omega)
        rw [cb_zero a b h]
theorem cb_self (a : List UInt8) : compareBytes a a = 0 := by have := cb_anti a a; omega
theorem less_cb : ∀ (a b : List UInt8), Go.Op.bytesLess a b = decide (compareBytes a b = -1)
  | [], [] => by simp [compareBytes, Go.Op.bytesLess]
  | [], _ :: _ => by simp [compareBytes, Go.Op.bytesLess]
  | _ :: _, [] => by simp [compareBytes, Go.Op.bytesLess]
  | x :: a, y :: b => by
    have ih := less_cb a b
    have hb := cb_bound a b
    unfold compareBytes Go.Op.bytesLess
    rw [ih]
    by_cases h : x < y
    · simp [h]
    · by_cases h2 : y < x
      · have hne : x ≠ y := fun e => by subst e; exact h h2
        simp [h, h2, hne]
      · obtain rfl : x = y := by
          rw [UInt8.lt_iff_toNat_lt] at h h2
          exact UInt8.toNat_inj.1 (by omega)
        simp [h]
theorem cb_ord : IsOrd compareBytes := ⟨cb_anti, cb_trans, cb_bound⟩
/-- The order of values. -/
def cmpV (a b : V) : Int := orI (ci a.k b.k) (orI (ci a.n b.n) (orI (Num.cmp a.f b.f) (compareBytes a.s.data.toList b.s.data.toList)))
theorem cmpV_ord : IsOrd cmpV :=
  (ci_ord.on V.k).or ((ci_ord.on V.n).or ((num_ord.on V.f).or (cb_ord.on fun v : V => v.s.data.toList)))
theorem orI_zero {x y : Int} : orI x y = 0 ↔ x = 0 ∧ y = 0 := by unfold orI; split <;> omega
theorem ci_zero {x y : Int} : ci x y = 0 ↔ x = y := by unfold ci; split <;> (try split) <;> omega
theorem cmpV_zero {a b : V} (ha : a.f < 18446744073709551616) (hb : b.f < 18446744073709551616) (h1 : chk a = 0) (h2 : chk b = 0) : cmpV a b = 0 ↔ a = b := by
  constructor
  · intro h
    unfold cmpV at h
    rw [orI_zero, orI_zero, orI_zero, ci_zero, ci_zero, Num.cmp_same ha hb] at h
    obtain ⟨e1, e2, e3, e4⟩ := h
    have m : ∀ v : V, chk v = 0 → Num.M v.f = v.f := fun v hv => by
      rcases chk_ok hv with e | e | ⟨_, e⟩ | ⟨e, _⟩
      · rw [e]; exact M_zero
      · rw [e]; exact M_zero
      · exact e
      · rw [e]; exact M_zero
    rw [m a h1, m b h2] at e3
    have e5 := Go.WideShapes.bytes_inj (cb_zero _ _ e4)
    obtain ⟨k, n, f, s⟩ := a
    obtain ⟨k', n', f', s'⟩ := b
    simp only at e1 e2 e3 e5
    subst e1 e2 e3 e5
    rfl
  · rintro rfl
    have := cmpV_ord.anti a a
    omega

/-! ### Their words -/
def word (v : V) : List UInt8 :=
  if v.k = 1 then dec v.n
  else if v.k = 2 then 102 :: (hexText (Num.M v.f)).data.toList
  else if v.k = 3 then 120 :: hexL v.s.data.toList
  else [110, 111, 110, 101]
def of (l : List UInt8) : ByteArray := ⟨l.toArray⟩
theorem of_toList (l : List UInt8) : (of l).data.toList = l := by simp [of]
theorem of_self (s : ByteArray) : of s.data.toList = s := by apply ByteArray.ext; simp [of]
theorem of_size (l : List UInt8) : (of l).size = l.length := by simp [of, ByteArray.size]
/-- What a word reads as. -/
def rdV (l : List UInt8) : Option V :=
  if l = [110, 111, 110, 101] then some zero
  else if l.head? = some 102 then (if (readAns (of l.tail)).2 = 0 then some ⟨2, 0, (readAns (of l.tail)).1, emp⟩ else none)
  else if l.head? = some 120 then (match unL l.tail with | some t => if t.length ≤ 64 then some ⟨3, 0, 0, of t⟩ else none | none => none)
  else (rd l).map fun n => ⟨1, n, 0, emp⟩
theorem dec_head {n : Int} {c : UInt8} (h : (dec n).head? = some c) : c = 45 ∨ isd c = true := by
  unfold dec at h
  split at h
  · left; simpa using h.symm
  · right; exact List.all_eq_true.1 (dgs_all _) c (List.mem_of_mem_head? (by rw [h]; rfl))
theorem dec_ne (n : Int) : dec n ≠ [] := by unfold dec; split; · simp
                                            · exact dgs_ne _
theorem readAns_ok {s : ByteArray} (h : (readAns s).2 = 0) : (readAns s).1 < 18446744073709551616 ∧ Num.M (readAns s).1 = (readAns s).1 ∧ hexText (readAns s).1 = s := by
  by_cases hs : s.size = 16
  · cases hp : Hex.pl 0 s.data.toList with
    | none => rw [readAns_none hp] at h; cases h
    | some n =>
      by_cases hm : Num.M n = n
      · rw [readAns_some hs hp hm]
        have := pl_size hs hp
        exact ⟨this.1, hm, this.2⟩
      · rw [readAns_nan hp hm] at h; cases h
  · rw [readAns_size hs] at h; cases h
theorem rdV_some {l : List UInt8} {v : V} (h : rdV l = some v) : chk v = 0 ∧ word v = l ∧ v.f < 18446744073709551616 ∧ (v.n = 0 ∨ inR v.n) := by
  unfold rdV at h
  split at h
  · next e =>
    cases h
    exact ⟨chk_none, e.symm, by decide, .inl rfl⟩
  · split at h
    · next hh =>
      split at h
      · next he =>
        have e := Option.some.inj h
        have ha := readAns_ok he
        rw [← e]
        refine ⟨chk_float ha.2.1, ?_, ha.1, .inl rfl⟩
        unfold word
        simp only [if_neg (show ¬ (2 : Int) = 1 by decide), if_true]
        rw [ha.2.1, ha.2.2, of_toList]
        cases l with
        | nil => cases hh
        | cons a r => simp at hh; rw [hh]; rfl
      · cases h
    · split at h
      · next hh =>
        split at h
        · next t ht =>
          split at h
          · next hl =>
            have e := Option.some.inj h
            rw [← e]
            refine ⟨by rw [chk_text, of_size, if_neg (by omega)], ?_, by show 0 < _; decide, .inl rfl⟩
            unfold word
            simp only [if_neg (show ¬ (3 : Int) = 1 by decide), if_neg (show ¬ (3 : Int) = 2 by decide), if_true]
            rw [of_toList, hexL_unL _ _ ht]
            cases l with
            | nil => cases hh
            | cons a r => simp at hh; rw [hh]; rfl
          · cases h
        · cases h
      · obtain ⟨n, hn, e⟩ := Option.map_eq_some_iff.1 h
        rw [← e]
        refine ⟨chk_int n, ?_, by show 0 < _; decide, .inr (rd_some hn).2⟩
        unfold word
        rw [if_pos rfl]
        exact (rd_some hn).1.symm
theorem rdV_word {v : V} (h : chk v = 0) (hf : v.f < 18446744073709551616) (hn : inR v.n) : rdV (word v) = some v := by
  rcases chk_ok h with e | e | ⟨e, hm⟩ | ⟨e, hs⟩
  · rw [e]; rfl
  · rw [e]
    have hw : word ⟨1, v.n, 0, emp⟩ = dec v.n := if_pos rfl
    have h1 : (dec v.n).head? ≠ some 102 := fun e => by rcases dec_head e with h | h <;> revert h <;> decide
    have h2 : (dec v.n).head? ≠ some 120 := fun e => by rcases dec_head e with h | h <;> revert h <;> decide
    have h3 : dec v.n ≠ [110, 111, 110, 101] := fun e => by
      have h : (dec v.n).head? = some 110 := by rw [e]; rfl
      rcases dec_head h with h | h <;> revert h <;> decide
    unfold rdV
    rw [hw, if_neg h3, if_neg h1, if_neg h2, rd_dec hn]; rfl
  · have hw : word v = 102 :: (hexText v.f).data.toList := by
      unfold word
      rw [if_neg (by rw [e]; simp), if_pos (by rw [e]), hm]
    have ha : readAns (of (hexText v.f).data.toList) = (v.f, 0) := by
      rw [of_self]
      exact readAns_some (hexText_size _) (hexText_pl hf) hm
    unfold rdV
    rw [hw, if_neg (by intro e; injection e with e; revert e; decide), if_pos (show (102 :: (hexText v.f).data.toList).head? = some 102 from rfl), List.tail_cons, ha, if_pos rfl, ← e]
  · have hw : word v = 120 :: hexL v.s.data.toList := by
      unfold word
      rw [if_neg (by rw [e]; simp), if_neg (by rw [e]; simp), if_pos (by rw [e])]
    unfold rdV
    rw [hw, if_neg (by intro e; injection e with e; revert e; decide), if_neg (show ¬ (120 :: hexL v.s.data.toList).head? = some 102 by rw [List.head?_cons]; decide), if_pos (show (120 :: hexL v.s.data.toList).head? = some 120 from rfl), List.tail_cons, unL_hexL]
    simp only
    rw [if_pos (by rw [Array.length_toList]; exact hs), of_self, ← e]
/-- A word that is read holds no more than so many signs. -/
theorem rdV_long {l : List UInt8} (h : 129 < l.length) : rdV l = none := by
  have ht : 129 ≤ l.tail.length := by rw [List.length_tail]; omega
  unfold rdV
  split
  · next e => rw [e] at h; revert h; decide
  · split
    · rw [readAns_size (s := of l.tail) (by rw [of_size]; omega), if_neg (show ¬ ((0, 3) : Nat × Int).2 = 0 by decide)]
    · split
      · split
        · next t hu =>
          have := hexL_unL _ _ hu
          have h2 := hexL_length t
          rw [this] at h2
          rw [if_neg (by omega)]
        · rfl
      · cases hr : rd l with
        | none => rfl
        | some n => have := rd_len hr; omega

/-! ### Their items -/
structure It where
  k : Int
  n : Int
  s : ByteArray
/-- A word of 64 bits, as a number with a sign. -/
def sg (f : Nat) : Int := if f < 9223372036854775808 then f else (f : Int) - 18446744073709551616
/-- And back. -/
def us (n : Int) : Nat := (n % 18446744073709551616).toNat
theorem us_sg {f : Nat} (h : f < 18446744073709551616) : us (sg f) = f := by unfold us sg; split <;> omega
def items (v : V) : List It := ⟨0, v.k, emp⟩ ::
  (if v.k = 1 then [⟨0, v.n, emp⟩] else if v.k = 2 then [⟨0, sg v.f, emp⟩] else if v.k = 3 then [⟨1, 0, v.s⟩] else [])
/-- What stands at the head of such a list. -/
def take : List It → V
  | [] => zero
  | [x] => ⟨x.n, 0, 0, emp⟩
  | x :: y :: _ => ⟨x.n, if x.n = 1 then y.n else 0, if x.n = 2 then us y.n else 0, if x.n = 3 then y.s else emp⟩
theorem take_items {v : V} (h : chk v = 0) (hf : v.f < 18446744073709551616) (r : List It) : take (items v ++ r) = v ∨ (v.k = 0) := by
  rcases chk_ok h with e | e | ⟨e, hm⟩ | ⟨e, hs⟩
  · right; rw [e]
  · left; rw [e]; rfl
  · left; rw [e]
    show (⟨2, 0, us (sg v.f), emp⟩ : V) = _
    rw [us_sg hf]
  · left; rw [e]; rfl
theorem take_none (r : List It) : take (items zero ++ r) = zero := by
  cases r <;> rfl
theorem take_all {v : V} (h : chk v = 0) (hf : v.f < 18446744073709551616) (r : List It) : take (items v ++ r) = v := by
  rcases take_items h hf r with e | e
  · exact e
  · rcases chk_ok h with e2 | e2 | ⟨e2, _⟩ | ⟨e2, _⟩
    · rw [e2]; exact take_none r
    · rw [e2] at e; cases e
    · rw [e2] at e; cases e
    · rw [e2] at e; cases e

end Val
end Go.Proofs.YtdhfmapcggohmaaDoor
