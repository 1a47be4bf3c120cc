/-
  Who comes to hold a lock, call by call, and that just they are told.
  Pure.
-/
import Derived.Test.YtahmcgnlpogfaaaLockMath
set_option linter.unusedSimpArgs false
set_option linter.unusedVariables false
namespace Go.Proofs.Ytahmcgnlpogfaaa
namespace Lck
/-- Somebody holds it, and either nobody did, or another one did. -/
def held (s s' : List Rf) : Bool := decide (0 < s'.length) && (decide (s.length = 0) || !decide (s.headD zero = s'.headD zero))
def Told (s s' t : List Rf) : Prop := t = if held s s' = true then [s'.headD zero] else []
theorem held_self (s : List Rf) : held s s = false := by
  unfold held
  cases s with
  | nil => rfl
  | cons x m => simp
theorem told_same (s : List Rf) : Told s s [] := by unfold Told; rw [held_self]; rfl
theorem told_tk {s : List Rf} (r : Rf) : Told s (tkL s r) (if tkH s r = true then [r] else []) := by
  by_cases he : tkE s r = 0
  · have e1 : tkL s r = s ++ [r] := if_pos he
    have e2 : tkH s r = decide (s.length = 0) := by unfold tkH; rw [decide_eq_true he, Bool.true_and]
    rw [e1, e2]
    unfold Told held
    cases s with
    | nil => simp
    | cons x m => simp
  · have e1 : tkL s r = s := if_neg he
    have e2 : tkH s r = false := by unfold tkH; rw [decide_eq_false he]; rfl
    rw [e1, e2]
    exact told_same s
theorem fr_cons {s : List Rf} {r : Rf} (h : frE s r = 0) : ∃ x m, s = x :: m := by
  unfold frE at h
  split at h
  next hr =>
    cases s with
    | nil => simp at h
    | cons x m => exact ⟨x, m, rfl⟩
  next => cases h
theorem told_fr {s : List Rf} (hr : Right s) (r : Rf) : Told s (frL s r) (if frS s r = true then [frN s r] else []) := by
  by_cases he : frE s r = 0
  · have e1 : frL s r = s.drop 1 := if_pos he
    have e2 : frN s r = (s.drop 1).headD zero := if_pos he
    have e3 : frS s r = decide (1 < s.length) := by unfold frS; rw [decide_eq_true he, Bool.true_and]
    rw [e1, e2, e3]
    obtain ⟨x, m, rfl⟩ := fr_cons he
    unfold Told held
    cases m with
    | nil => simp
    | cons y m =>
      have hxy : ¬ x = y := fun h => by
        have h1 := (right_cons.1 hr).2.1
        subst h
        rw [(asked_told (l := x :: m) rfl x.c).1 0 x rfl rfl] at h1
        cases h1
      simp [hxy]
  · have e1 : frL s r = s := if_neg he
    have e3 : frS s r = false := by unfold frS; rw [decide_eq_false he]; rfl
    rw [e1, e3]
    exact told_same s
theorem told_dr {s : List Rf} (hr : Right s) (r : Rf) : Told s (drL s r) (if drS s r = true then [drN s r] else []) := by
  have e1 : drL s r = wo s r := if_pos hr
  have e2 : drS s r = held s (wo s r) := by
    unfold drS held
    rw [decide_eq_true hr, Bool.true_and]
    cases s with
    | nil => rfl
    | cons x m =>
      rw [show decide ((x :: m).length = 0) = false from decide_eq_false (by simp), Bool.false_or]
      congr 2
      exact decide_eq_decide.2 ⟨Eq.symm, Eq.symm⟩
  unfold Told
  rw [e1, ← e2]
  by_cases h : drS s r = true
  · rw [if_pos h, if_pos h]
    unfold drN
    rw [if_pos h]
  · rw [if_neg h, if_neg h]
/-- What is read at the end of a call. -/
theorem held_none {s s' : List Rf} (h : s'.length = 0) : held s s' = false := by
  unfold held; rw [h]; rfl
theorem held_first {s s' : List Rf} (h : 0 < s'.length) (h2 : s.length = 0) : held s s' = true := by
  unfold held; rw [decide_eq_true h, decide_eq_true h2]; rfl
theorem held_next {s s' : List Rf} {x y : Rf} (hx : s[0]? = some x) (hy : s'[0]? = some y) : held s s' = !decide (x = y) := by
  unfold held
  rw [head_of hx, head_of hy, decide_eq_true (List.getElem?_eq_some_iff.1 hy).1, Bool.true_and, decide_eq_false (p := s.length = 0) (by have := (List.getElem?_eq_some_iff.1 hx).1; omega), Bool.false_or]
theorem held_some {s s' : List Rf} (h : held s s' = true) : ∃ y, s'[0]? = some y ∧ s'.headD zero = y := by
  cases s' with
  | nil => rw [held_none rfl] at h; cases h
  | cons y m => exact ⟨y, rfl, rfl⟩
theorem told_yes {s s' t : List Rf} (h : Told s s' t) (hh : held s s' = true) : t = [s'.headD zero] := by
  unfold Told at h; rw [h, if_pos hh]
theorem told_no {s s' t : List Rf} (h : Told s s' t) (hh : held s s' = false) : t = [] := by
  unfold Told at h; rw [h, hh]; rfl
theorem tk_more {s : List Rf} {r : Rf} (h : tkE s r = 0) : tkL s r = s ++ [r] := if_pos h
theorem fr_drop {s : List Rf} {r : Rf} (h : frE s r = 0) : frL s r = s.drop 1 ∧ 0 < s.length := by
  obtain ⟨x, m, rfl⟩ := fr_cons h
  exact ⟨if_pos h, by simp⟩
end Lck
end Go.Proofs.Ytahmcgnlpogfaaa
