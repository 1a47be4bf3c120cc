/-
  Meters, pure: what may be one, what is added, what is read.
  No condition but the bounds named.
-/
import Derived.Test.YtbaaoenmnmpfjaaNumEnds
namespace Go.Proofs.Ytbaaoenmnmpfjaa

structure Mtr where
  n : Int
  s : Nat
  l : Nat
  m : Nat
  deriving DecidableEq
namespace Mt
def zero : Mtr := ⟨0, 0, 0, 0⟩
/-- Its numbers fit 64 bits. -/
def Fit (x : Mtr) : Prop := x.n ≤ 9223372036854775807 ∧ x.s < 18446744073709551616 ∧ x.l < 18446744073709551616 ∧ x.m < 18446744073709551616
/-- It may be a meter. -/
def Ok (x : Mtr) : Prop := (x.n = 0 ∧ x.s = 0 ∧ x.l = 0 ∧ x.m = 0) ∨ (0 < x.n ∧ Num.M x.s = x.s ∧ Num.M x.l = x.l ∧ Num.M x.m = x.m ∧ Num.rank x.l ≤ Num.rank x.m)
instance (x : Mtr) : Decidable (Ok x) := by unfold Ok; infer_instance
theorem least_lt {a b : Nat} (ha : a < 18446744073709551616) (hb : b < 18446744073709551616) : least a b < 18446744073709551616 := by
  unfold least; split
  · exact Num.M_lt hb
  · exact Num.M_lt ha
theorem most_lt {a b : Nat} (ha : a < 18446744073709551616) (hb : b < 18446744073709551616) : most a b < 18446744073709551616 := by
  unfold most; split
  · exact Num.M_lt hb
  · exact Num.M_lt ha
theorem fit_zero : Fit zero := ⟨by decide, by decide, by decide, by decide⟩
theorem ok_zero : Ok zero := .inl ⟨rfl, rfl, rfl, rfl⟩
theorem ok_none {n : Int} {s l m : Nat} (hn : ¬ 0 < n) : decide ((⟨n, s, l, m⟩ : Mtr) = ⟨0, 0, 0, 0⟩) = decide (Ok ⟨n, s, l, m⟩) := by
  rw [decide_eq_decide]
  simp only [Mtr.mk.injEq]
  constructor
  · exact fun h => .inl h
  · rintro (h | ⟨h, _⟩)
    · exact h
    · exact absurd h hn
theorem ok_s {n : Int} {s l m : Nat} (hn : 0 < n) (h : ¬ Num.M s = s) : ¬ Ok ⟨n, s, l, m⟩ := by
  rintro (⟨h0, _⟩ | ⟨_, h1, _⟩)
  · have h0 : n = 0 := h0
    omega
  · exact h h1
theorem ok_l {n : Int} {s l m : Nat} (hn : 0 < n) (h : ¬ Num.M l = l) : ¬ Ok ⟨n, s, l, m⟩ := by
  rintro (⟨h0, _⟩ | ⟨_, _, h1, _⟩)
  · have h0 : n = 0 := h0
    omega
  · exact h h1
theorem ok_m {n : Int} {s l m : Nat} (hn : 0 < n) (h : ¬ Num.M m = m) : ¬ Ok ⟨n, s, l, m⟩ := by
  rintro (⟨h0, _⟩ | ⟨_, _, _, h1, _⟩)
  · have h0 : n = 0 := h0
    omega
  · exact h h1
theorem ok_all {n : Int} {s l m : Nat} (hn : 0 < n) (hs : Num.M s = s) (hl : Num.M l = l) (hm : Num.M m = m) : Ok ⟨n, s, l, m⟩ ↔ Num.cmp l m ≤ 0 := by
  rw [Num.cmp_le]
  constructor
  · rintro (⟨h0, _⟩ | ⟨_, _, _, _, h1⟩)
    · have h0 : n = 0 := h0
      omega
    · exact h1
  · exact fun h => .inr ⟨hn, hs, hl, hm, h⟩
theorem okn {n : Int} {s l m : Nat} (h0 : ¬ n = 0) (hn : ¬ 0 < n) : ¬ Ok ⟨n, s, l, m⟩ := by
  rintro (⟨h1, _⟩ | ⟨h1, _⟩)
  · exact h0 h1
  · exact hn h1
theorem okn_s {n : Int} {s l m : Nat} (h0 : ¬ n = 0) (h : ¬ Num.M s = s) : ¬ Ok ⟨n, s, l, m⟩ := by
  rintro (⟨h1, _⟩ | ⟨_, h1, _⟩)
  · exact h0 h1
  · exact h h1
theorem okn_l {n : Int} {s l m : Nat} (h0 : ¬ n = 0) (h : ¬ Num.M l = l) : ¬ Ok ⟨n, s, l, m⟩ := by
  rintro (⟨h1, _⟩ | ⟨_, _, h1, _⟩)
  · exact h0 h1
  · exact h h1
theorem okn_m {n : Int} {s l m : Nat} (h0 : ¬ n = 0) (h : ¬ Num.M m = m) : ¬ Ok ⟨n, s, l, m⟩ := by
  rintro (⟨h1, _⟩ | ⟨_, _, _, h1, _⟩)
  · exact h0 h1
  · exact h h1
/-- A float more, and the error. -/
def ad (x : Mtr) (b : Nat) : Mtr := if ¬ Ok x then x else if x.n = 9223372036854775807 then x else if x.n = 0 then ⟨1, Num.M b, Num.M b, Num.M b⟩ else ⟨x.n + 1, Num.S x.s (Num.M b), least x.l (Num.M b), most x.m (Num.M b)⟩
def adE (x : Mtr) : Int := if ¬ Ok x then 1 else if x.n = 9223372036854775807 then 6 else 0
theorem ad_bad {x : Mtr} (h : ¬ Ok x) (b : Nat) : ad x b = x := if_pos h
theorem adE_bad {x : Mtr} (h : ¬ Ok x) : adE x = 1 := if_pos h
theorem ad_full {x : Mtr} (h : Ok x) (hn : x.n = 9223372036854775807) (b : Nat) : ad x b = x := by unfold ad; rw [if_neg (by simpa using h), if_pos hn]
theorem adE_full {x : Mtr} (h : Ok x) (hn : x.n = 9223372036854775807) : adE x = 6 := by unfold adE; rw [if_neg (by simpa using h), if_pos hn]
theorem ad_one {x : Mtr} (h : Ok x) (hn : x.n = 0) (b : Nat) : ad x b = ⟨1, Num.M b, Num.M b, Num.M b⟩ := by unfold ad; rw [if_neg (by simpa using h), if_neg (by omega), if_pos hn]
theorem adE_one {x : Mtr} (h : Ok x) (hn : x.n ≠ 9223372036854775807) : adE x = 0 := by unfold adE; rw [if_neg (by simpa using h), if_neg hn]
theorem ad_more {x : Mtr} (h : Ok x) (hn : x.n ≠ 9223372036854775807) (h0 : x.n ≠ 0) (b : Nat) : ad x b = ⟨x.n + 1, Num.S x.s (Num.M b), least x.l (Num.M b), most x.m (Num.M b)⟩ := by unfold ad; rw [if_neg (by simpa using h), if_neg hn, if_neg h0]
theorem ok_pos {x : Mtr} (h : Ok x) : 0 ≤ x.n := by
  rcases h with ⟨h, _⟩ | ⟨h, _⟩ <;> omega
/-- What is read: its kind, number, float, and the error. -/
structure Rd where
  k : Int
  n : Int
  f : Nat
  e : Int
  deriving DecidableEq
def rd (x : Mtr) (q : Int) : Rd :=
  if ¬ Ok x ∨ q < 0 ∨ 3 < q then ⟨0, 0, 0, 1⟩ else if q = 0 then ⟨1, x.n, 0, 0⟩ else if x.n = 0 then ⟨0, 0, 0, 10⟩ else ⟨2, 0, (if q = 1 then x.s else if q = 2 then x.l else x.m), 0⟩
theorem rd_bad {x : Mtr} {q : Int} (h : ¬ Ok x ∨ q < 0 ∨ 3 < q) : rd x q = ⟨0, 0, 0, 1⟩ := if_pos h
theorem rd_in {x : Mtr} {q : Int} (h : Ok x) (h1 : 0 ≤ q) (h2 : q ≤ 3) : ¬ (¬ Ok x ∨ q < 0 ∨ 3 < q) := by
  rintro (h3 | h3 | h3)
  · exact h3 h
  · omega
  · omega
theorem rd_0 {x : Mtr} (h : Ok x) : rd x 0 = ⟨1, x.n, 0, 0⟩ := by unfold rd; rw [if_neg (rd_in h (by decide) (by decide)), if_pos rfl]
theorem rd_no {x : Mtr} {q : Int} (h : Ok x) (h1 : 0 ≤ q) (h2 : q ≤ 3) (hq : q ≠ 0) (hn : x.n = 0) : rd x q = ⟨0, 0, 0, 10⟩ := by unfold rd; rw [if_neg (rd_in h h1 h2), if_neg hq, if_pos hn]
theorem rd_1 {x : Mtr} (h : Ok x) (hn : ¬ x.n = 0) : rd x 1 = ⟨2, 0, x.s, 0⟩ := by unfold rd; rw [if_neg (rd_in h (by decide) (by decide)), if_neg (by decide), if_neg hn, if_pos rfl]
theorem rd_2 {x : Mtr} (h : Ok x) (hn : ¬ x.n = 0) : rd x 2 = ⟨2, 0, x.l, 0⟩ := by unfold rd; rw [if_neg (rd_in h (by decide) (by decide)), if_neg (by decide), if_neg hn, if_neg (by decide), if_pos rfl]
theorem rd_3 {x : Mtr} (h : Ok x) (hn : ¬ x.n = 0) : rd x 3 = ⟨2, 0, x.m, 0⟩ := by unfold rd; rw [if_neg (rd_in h (by decide) (by decide)), if_neg (by decide), if_neg hn, if_neg (by decide), if_neg (by decide)]
end Mt
end Go.Proofs.Ytbaaoenmnmpfjaa
