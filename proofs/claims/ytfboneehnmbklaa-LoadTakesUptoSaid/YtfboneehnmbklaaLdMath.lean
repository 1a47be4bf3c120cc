/-
  Pieces, loads, and what the functions of layer 19 give: plain lists.
  Pure. No condition.
-/
import Derived.Test.YtfboneehnmbklaaCrcMath
namespace Go.Proofs.Ytfboneehnmbklaa
/-- A piece; a load. -/
structure Lpc where
  n : Int
  a : Int
  t : Int
  s : Nat
  d : ByteArray
structure Ldd where
  n : Int
  t : Int
  s : Nat
  h : List Bool
  d : List ByteArray
namespace Ldm
/-- How many pieces so many bytes have. -/
def cn (m : Nat) : Nat := if m = 0 then 1 else (m + 63) / 64
/-- May it be a piece; may it be a load; are they of one snapshot. -/
def PR (p : Lpc) : Prop := (1 ≤ p.t ∧ p.t ≤ 256 ∧ 0 ≤ p.a ∧ p.a < p.t) ∧ (p.a < p.t - 1 → p.d.size = 64) ∧ (¬ p.a < p.t - 1 → p.d.size ≤ 64 ∧ (0 < p.d.size ∨ p.t = 1))
def LR (l : Ldd) : Prop := 0 ≤ l.t ∧ l.t ≤ 256 ∧ (l.h.length : Int) = l.t ∧ (l.d.length : Int) = l.t
def AL (l : Ldd) (p : Lpc) : Prop := l.n = p.n ∧ (l.t = 0 ∨ (l.t = p.t ∧ l.s = p.s))
instance (p : Lpc) : Decidable (PR p) := by unfold PR; infer_instance
instance (l : Ldd) : Decidable (LR l) := by unfold LR; infer_instance
instance (l : Ldd) (p : Lpc) : Decidable (AL l p) := by unfold AL; infer_instance
/-- A load of a piece's snapshot; a load with a piece. -/
def bg (p : Lpc) : Ldd := ⟨p.n, p.t, p.s, List.replicate p.t.toNat false, List.replicate p.t.toNat ⟨#[]⟩⟩
def pt (l : Ldd) (p : Lpc) : Ldd := ⟨l.n, l.t, l.s, l.h.set p.a.toNat true, l.d.set p.a.toNat p.d⟩
def tk (l : Ldd) (p : Lpc) : Ldd := if ¬ (LR l ∧ PR p) then l else if ¬ AL l p then l else if l.t = 0 then pt (bg p) p else if l.h[p.a.toNat]? = some true then l else pt l p
def tkE (l : Ldd) (p : Lpc) : Int := if ¬ (LR l ∧ PR p) then 1 else if ¬ AL l p then 9 else if l.t = 0 then 0 else if l.h[p.a.toNat]? = some true then 8 else 0
/-- The first one that isn't there. -/
def fi : List Bool → Int
  | [] => -1
  | false :: _ => 0
  | true :: r => if fi r < 0 then -1 else fi r + 1
def ms (l : Ldd) : Int := if l.t = 0 ∨ ¬ LR l then 0 else fi l.h
/-- All bytes, one behind the other. -/
def cat (d : List ByteArray) : List UInt8 := (d.map (·.data.toList)).flatten
def wh (l : Ldd) : ByteArray := if ms l ≠ -1 then ⟨#[]⟩ else if Crc.more 0 (cat l.d) = l.s then ⟨(cat l.d).toArray⟩ else ⟨#[]⟩
def whE (l : Ldd) : Int := if ms l ≠ -1 then 5 else if Crc.more 0 (cat l.d) = l.s then 0 else 4
/-- A piece of bytes. -/
def ct (v : Int) (s : ByteArray) (a : Int) : Lpc :=
  if 16384 < s.size then ⟨0, 0, 0, 0, ⟨#[]⟩⟩ else if a < 0 ∨ (cn s.size : Int) ≤ a then ⟨0, 0, 0, 0, ⟨#[]⟩⟩ else
    ⟨v, a, cn s.size, Crc.more 0 s.data.toList, s.extract (a.toNat * 64) (if s.size ≤ a.toNat * 64 + 64 then s.size else a.toNat * 64 + 64)⟩
def ctE (s : ByteArray) (a : Int) : Int := if 16384 < s.size then 2 else if a < 0 ∨ (cn s.size : Int) ≤ a then 5 else 0

theorem cn_pos (m : Nat) : 1 ≤ cn m := by unfold cn; split <;> omega
theorem cn_le {m : Nat} (h : m ≤ 16384) : cn m ≤ 256 := by unfold cn; split <;> omega
theorem cn_gt {m : Nat} (h : 16384 < m) : 256 < cn m := by unfold cn; split <;> omega
theorem cn_cover (m : Nat) : m ≤ cn m * 64 := by unfold cn; split <;> omega
theorem cn_least (m k : Nat) (hk : k + 1 < cn m) : (k + 1) * 64 < m := by unfold cn at hk; split at hk <;> omega
theorem cn_at {m k : Nat} (hk : k < cn m) : k * 64 ≤ m := by unfold cn at hk; split at hk <;> omega
theorem cn_in {m k : Nat} (hk : k < cn m) (hm : 0 < m) : k * 64 < m := by unfold cn at hk; split at hk <;> omega
theorem cn_next {m k : Nat} (h : k * 64 < m) : k + 1 ≤ cn m := by unfold cn; split <;> omega
theorem cn_stop {m k : Nat} (h1 : 1 ≤ k) (hk : k ≤ cn m) (h : ¬ k * 64 < m) : k = cn m := by unfold cn at *; split at hk <;> split <;> omega
theorem cn_quo {m : Nat} (h : 0 < m % 64 ∨ m / 64 = 0) : cn m = m / 64 + 1 := by unfold cn; split <;> omega
theorem cn_quo2 {m : Nat} (h : m % 64 = 0) (h2 : ¬ m / 64 = 0) : cn m = m / 64 := by unfold cn; split <;> omega
theorem cn_small {m : Nat} (h : m ≤ 140737488351232) : cn m ≤ 2199023255488 := by unfold cn; split <;> omega
theorem fi_some : ∀ (l : List Bool) (k : Nat), l[k]? = some false → (∀ i, i < k → l[i]? = some true) → fi l = (k : Int)
  | [], k, h, _ => by simp at h
  | false :: r, 0, _, _ => rfl
  | true :: r, 0, h, _ => by simp at h
  | false :: r, k + 1, _, h => by have := h 0 (by omega); simp at this
  | true :: r, k + 1, h, ha => by
    have ih := fi_some r k (by simpa using h) (fun i hi => by have := ha (i + 1) (by omega); simpa using this)
    unfold fi
    rw [ih]
    split <;> omega
theorem fi_none : ∀ (l : List Bool), (∀ i, i < l.length → l[i]? = some true) → fi l = -1
  | [], _ => rfl
  | false :: r, h => by have := h 0 (by simp); simp at this
  | true :: r, h => by
    have ih := fi_none r (fun i hi => by have := h (i + 1) (by simp; omega); simpa using this)
    unfold fi
    rw [ih]
    rfl
/-- What it says of the list. -/
theorem fi_told : ∀ (l : List Bool), (fi l = -1 ∧ ∀ i, i < l.length → l[i]? = some true) ∨ ∃ k : Nat, fi l = (k : Int) ∧ l[k]? = some false ∧ ∀ i, i < k → l[i]? = some true
  | [] => .inl ⟨rfl, fun i hi => by simp at hi⟩
  | false :: r => .inr ⟨0, rfl, rfl, fun i hi => by omega⟩
  | true :: r => by
    rcases fi_told r with ⟨h1, h2⟩ | ⟨k, h1, h2, h3⟩
    · refine .inl ⟨by unfold fi; rw [h1]; rfl, fun i hi => ?_⟩
      match i, hi with
      | 0, _ => rfl
      | i + 1, hi => simpa using h2 i (by simpa using hi)
    · refine .inr ⟨k + 1, by unfold fi; rw [h1]; split <;> omega, by simpa using h2, fun i hi => ?_⟩
      match i, hi with
      | 0, _ => rfl
      | i + 1, hi => simpa using h3 i (by omega)
theorem cat_nil : cat [] = [] := rfl
theorem cat_append (a b : List ByteArray) : cat (a ++ b) = cat a ++ cat b := by simp [cat]
theorem cat_one (x : ByteArray) : cat [x] = x.data.toList := by simp [cat]
theorem cat_take {l : List ByteArray} {k : Nat} {x : ByteArray} (h : l[k]? = some x) : cat (l.take (k + 1)) = cat (l.take k) ++ x.data.toList := by
  rw [List.take_add_one, h, Option.toList_some, cat_append, cat_one]
theorem cat_le (l : List ByteArray) (k : Nat) : (cat (l.take k)).length ≤ (cat l).length := by
  have h : cat l = cat (l.take k) ++ cat (l.drop k) := by rw [← cat_append, List.take_append_drop]
  rw [h, List.length_append]
  omega
theorem ba_app (l : List UInt8) (x : ByteArray) : ((⟨l.toArray⟩ : ByteArray) ++ x) = ⟨(l ++ x.data.toList).toArray⟩ := by
  apply ByteArray.ext
  simp
end Ldm
end Go.Proofs.Ytfboneehnmbklaa
