/-
  Queues as lists of values: which may be, what is pushed and popped.
  Pure.
-/
import Derived.Test.YtieegdlphjkbdaaValM
set_option linter.unusedSimpArgs false
set_option linter.unusedVariables false
namespace Go.Proofs.Ytieegdlphjkbdaa
namespace Que
/-- Whether a queue may have such a value. -/
def vchk (v : Val.V) : Int := if v.k = 0 then 1 else Val.chk v
structure Right (n : Int) (l : List Val.V) : Prop where
  lo : 1 ≤ n
  hi : n ≤ 8
  len : (l.length : Int) ≤ n
  ok : ∀ v ∈ l, vchk v = 0
instance (n : Int) (l : List Val.V) : Decidable (Right n l) := decidable_of_iff (1 ≤ n ∧ n ≤ 8 ∧ (l.length : Int) ≤ n ∧ ∀ v ∈ l, vchk v = 0) ⟨fun h => ⟨h.1, h.2.1, h.2.2.1, h.2.2.2⟩, fun h => ⟨h.lo, h.hi, h.len, h.ok⟩⟩
def qchk (n : Int) (l : List Val.V) : Int := if Right n l then 0 else 1
def emp : Val.V := ⟨0, 0, 0, ⟨#[]⟩⟩
/-- What the calls answer. -/
def psE (n : Int) (l : List Val.V) (v : Val.V) : Int := if Right n l then (if vchk v = 0 then (if (l.length : Int) = n then 6 else 0) else vchk v) else 1
def psL (n : Int) (l : List Val.V) (v : Val.V) : List Val.V := if psE n l v = 0 then l ++ [v] else l
def ppE (n : Int) (l : List Val.V) : Int := if Right n l then (if l.length = 0 then 10 else 0) else 1
def ppL (n : Int) (l : List Val.V) : List Val.V := if Right n l then l.drop 1 else l
def ppV (n : Int) (l : List Val.V) : Val.V := if Right n l then l.headD emp else emp
theorem qchk_ok {n : Int} {l : List Val.V} (h : Right n l) : qchk n l = 0 := if_pos h
theorem qchk_bad {n : Int} {l : List Val.V} (h : ¬ Right n l) : qchk n l = 1 := if_neg h
theorem vchk_none {v : Val.V} (h : v.k = 0) : vchk v = 1 := if_pos h
theorem vchk_some {v : Val.V} (h : ¬ v.k = 0) : vchk v = Val.chk v := if_neg h
theorem ps_bad {n : Int} {l : List Val.V} (h : ¬ Right n l) (v : Val.V) : psE n l v = 1 ∧ psL n l v = l := by
  have e : psE n l v = 1 := if_neg h
  exact ⟨e, by unfold psL; rw [e]; rfl⟩
theorem ps_chk {n : Int} {l : List Val.V} (h : Right n l) {v : Val.V} (hv : ¬ vchk v = 0) : psE n l v = vchk v ∧ psL n l v = l := by
  have e : psE n l v = vchk v := by unfold psE; rw [if_pos h, if_neg hv]
  exact ⟨e, by unfold psL; rw [e, if_neg hv]⟩
theorem ps_full {n : Int} {l : List Val.V} (h : Right n l) {v : Val.V} (hv : vchk v = 0) (hn : (l.length : Int) = n) : psE n l v = 6 ∧ psL n l v = l := by
  have e : psE n l v = 6 := by unfold psE; rw [if_pos h, if_pos hv, if_pos hn]
  exact ⟨e, by unfold psL; rw [e]; rfl⟩
theorem ps_ok {n : Int} {l : List Val.V} (h : Right n l) {v : Val.V} (hv : vchk v = 0) (hn : ¬ (l.length : Int) = n) : psE n l v = 0 ∧ psL n l v = l ++ [v] := by
  have e : psE n l v = 0 := by unfold psE; rw [if_pos h, if_pos hv, if_neg hn]
  exact ⟨e, by unfold psL; rw [e]; rfl⟩
theorem pp_bad {n : Int} {l : List Val.V} (h : ¬ Right n l) : ppE n l = 1 ∧ ppL n l = l ∧ ppV n l = emp := ⟨if_neg h, if_neg h, if_neg h⟩
theorem pp_none {n : Int} {l : List Val.V} (h : Right n l) (h0 : l.length = 0) : ppE n l = 10 ∧ ppL n l = [] ∧ ppV n l = emp := by
  have e : l = [] := List.length_eq_zero_iff.1 h0
  subst e
  exact ⟨by unfold ppE; rw [if_pos h]; rfl, by unfold ppL; rw [if_pos h]; rfl, by unfold ppV; rw [if_pos h]; rfl⟩
theorem pp_ok {n : Int} {l : List Val.V} (h : Right n l) {v : Val.V} (hv : l[0]? = some v) : ppE n l = 0 ∧ ppL n l = l.drop 1 ∧ ppV n l = v := by
  cases l with
  | nil => cases hv
  | cons x r =>
    injection hv with hv
    subst hv
    exact ⟨by unfold ppE; rw [if_pos h]; rfl, by unfold ppL; rw [if_pos h], by unfold ppV; rw [if_pos h]; rfl⟩
/-- A queue that may be may be behind a push, and behind a pop. -/
theorem ps_right {n : Int} {l : List Val.V} (h : Right n l) (v : Val.V) : Right n (psL n l v) := by
  unfold psL
  split
  next he =>
    unfold psE at he
    rw [if_pos h] at he
    split at he
    next hv =>
      split at he
      · cases he
      next hn =>
        have hlen := h.len
        refine ⟨h.lo, h.hi, ?_, fun x hx => ?_⟩
        · rw [List.length_append]
          show ((l.length + 1 : Nat) : Int) ≤ n
          omega
        · rcases List.mem_append.1 hx with hx | hx
          · exact h.ok x hx
          · rw [List.mem_singleton] at hx; subst hx; exact hv
    next hv => exact absurd he hv
  next => exact h
theorem drop_right {n : Int} {l : List Val.V} (h : Right n l) : Right n (l.drop 1) := by
  have hl := h.len
  refine ⟨h.lo, h.hi, ?_, fun x hx => h.ok x (List.mem_of_mem_drop hx)⟩
  rw [List.length_drop]
  omega
theorem pp_right {n : Int} {l : List Val.V} (h : Right n l) : Right n (ppL n l) := by
  unfold ppL
  rw [if_pos h]
  exact drop_right h
theorem right_nil {n : Int} (h1 : 1 ≤ n) (h2 : n ≤ 8) : Right n [] := ⟨h1, h2, by show (0 : Int) ≤ n; omega, fun x hx => by simp at hx⟩
/-- A loop's way: all the first so many are fit. -/
theorem right_told {n : Int} {l : List Val.V} {m : Nat} (hl : l.length = m) (h1 : 1 ≤ n) (h2 : n ≤ 8) (h3 : (m : Int) ≤ n) : (∀ (i : Nat) v, l[i]? = some v → ¬ vchk v = 0 → decide (Right n l) = false) ∧ ((∀ (i : Nat) v, i < m → l[i]? = some v → vchk v = 0) → decide (Right n l) = true) := by
  subst hl
  refine ⟨fun i v hi hv => decide_eq_false fun h => hv (h.ok v (List.mem_of_getElem? hi)), fun h => decide_eq_true ⟨h1, h2, h3, fun v hv => ?_⟩⟩
  obtain ⟨i, hi, e⟩ := List.getElem_of_mem hv
  exact h i v hi (by rw [List.getElem?_eq_getElem hi, e])
end Que
end Go.Proofs.Ytieegdlphjkbdaa
