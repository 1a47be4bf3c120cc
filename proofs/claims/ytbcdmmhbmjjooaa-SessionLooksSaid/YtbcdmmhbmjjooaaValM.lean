/-
  Values: which may be.
  Pure. (XValMath, of stage 4, has the same ahead of its orders and words: take one of the two.)
-/
import Derived.Lib.Bytealg
import Derived.Test.YtbcdmmhbmjjooaaNumMath
set_option linter.unusedSimpArgs false
set_option linter.unusedVariables false
namespace Go.Proofs.Ytbcdmmhbmjjooaa
namespace Val
structure V where
  k : Int
  n : Int
  f : Nat
  s : ByteArray
def chk (v : V) : Int :=
  if v.k < 0 ∨ 3 < v.k then 1
  else if v.n ≠ 0 ∧ v.k ≠ 1 then 1
  else if v.f ≠ 0 ∧ v.k ≠ 2 then 1
  else if v.s.size ≠ 0 ∧ v.k ≠ 3 then 1
  else if Num.M v.f ≠ v.f then 1
  else if 64 < v.s.size then 2 else 0
def emp : ByteArray := ⟨#[]⟩
def zero : V := ⟨0, 0, 0, emp⟩
theorem size_zero {s : ByteArray} (h : s.size = 0) : s = emp := by
  apply ByteArray.ext
  exact Array.eq_empty_of_size_eq_zero h
theorem chk_ok {v : V} (h : chk v = 0) : v = ⟨0, 0, 0, emp⟩ ∨ v = ⟨1, v.n, 0, emp⟩ ∨ (v = ⟨2, 0, v.f, emp⟩ ∧ Num.M v.f = v.f) ∨ (v = ⟨3, 0, 0, v.s⟩ ∧ v.s.size ≤ 64) := by
  obtain ⟨k, n, f, s⟩ := v
  unfold chk at h
  simp only at h ⊢
  split at h
  · cases h
  split at h
  · cases h
  split at h
  · cases h
  split at h
  · cases h
  split at h
  · cases h
  split at h
  · cases h
  next h1 h2 h3 h4 h5 h6 =>
  have h5 : Num.M f = f := Decidable.byContradiction h5
  have hk : k = 0 ∨ k = 1 ∨ k = 2 ∨ k = 3 := by omega
  rcases hk with rfl | rfl | rfl | rfl
  · obtain rfl : n = 0 := by omega
    obtain rfl : f = 0 := by omega
    obtain rfl := size_zero (s := s) (by omega)
    exact .inl rfl
  · obtain rfl : f = 0 := by omega
    obtain rfl := size_zero (s := s) (by omega)
    exact .inr (.inl rfl)
  · obtain rfl : n = 0 := by omega
    obtain rfl := size_zero (s := s) (by omega)
    exact .inr (.inr (.inl ⟨rfl, h5⟩))
  · obtain rfl : n = 0 := by omega
    obtain rfl : f = 0 := by omega
    exact .inr (.inr (.inr ⟨rfl, by omega⟩))
theorem M_zero : Num.M 0 = 0 := by decide
theorem chk_none : chk zero = 0 := by
  unfold chk zero
  rw [if_neg (by decide), if_neg (by decide), if_neg (by decide), if_neg (by decide), if_neg (by decide), if_neg (by decide)]
theorem emp_size : emp.size = 0 := rfl
theorem chk_int (n : Int) : chk ⟨1, n, 0, emp⟩ = 0 := by
  unfold chk
  rw [if_neg (show ¬ ((1 : Int) < 0 ∨ 3 < (1 : Int)) by decide), if_neg (by simp), if_neg (by simp), if_neg (by intro h; exact h.1 rfl), if_neg (by rw [M_zero]; simp), if_neg (by rw [emp_size]; decide)]
theorem chk_float {f : Nat} (h : Num.M f = f) : chk ⟨2, 0, f, emp⟩ = 0 := by
  unfold chk
  rw [if_neg (show ¬ ((2 : Int) < 0 ∨ 3 < (2 : Int)) by decide), if_neg (by simp), if_neg (by simp), if_neg (by intro h; exact h.1 rfl), if_neg (by rw [h]; simp), if_neg (by rw [emp_size]; decide)]
theorem chk_text (s : ByteArray) : chk ⟨3, 0, 0, s⟩ = if 64 < s.size then 2 else 0 := by
  unfold chk
  rw [if_neg (show ¬ ((3 : Int) < 0 ∨ 3 < (3 : Int)) by decide), if_neg (by simp), if_neg (by simp), if_neg (by simp), if_neg (by rw [M_zero]; simp)]
/-- A word of 64 bits, as a number with a sign. -/
def sg (f : Nat) : Int := if f < 9223372036854775808 then f else (f : Int) - 18446744073709551616
/-- And back. -/
def us (n : Int) : Nat := (n % 18446744073709551616).toNat
theorem us_sg {f : Nat} (h : f < 18446744073709551616) : us (sg f) = f := by unfold us sg; split <;> omega
instance : DecidableEq V := fun a b => decidable_of_iff (a.k = b.k ∧ a.n = b.n ∧ a.f = b.f ∧ a.s = b.s) ⟨fun h => by
  obtain ⟨k, n, f, s⟩ := a
  obtain ⟨k', n', f', s'⟩ := b
  obtain ⟨rfl, rfl, rfl, rfl⟩ := h
  rfl, fun h => by rw [h]; exact ⟨rfl, rfl, rfl, rfl⟩⟩
theorem str_inj {a b : ByteArray} (h : a.toList = b.toList) : a = b := by
  rw [ByteArray.toList_eq, ByteArray.toList_eq] at h
  apply ByteArray.ext
  exact Array.toList_inj.1 h
theorem str_iff {a b : ByteArray} : a = b ↔ a.toList = b.toList := ⟨fun h => by rw [h], str_inj⟩
end Val
end Go.Proofs.Ytbcdmmhbmjjooaa
