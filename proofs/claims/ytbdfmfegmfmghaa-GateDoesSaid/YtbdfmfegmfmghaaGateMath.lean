/-
  Gates as lists of requests, and a number: which may be, what waiting and dropping answer.
  Pure.
-/
import Derived.Test.YtbdfmfegmfmghaaLockMath
set_option linter.unusedSimpArgs false
set_option linter.unusedVariables false
namespace Go.Proofs.Ytbdfmfegmfmghaa
namespace Gt
open Lck
/-- A gate for so many may be. -/
def Right (m : Int) (l : List Rf) : Prop := 1 ≤ m ∧ m ≤ 5 ∧ (l.length : Int) < m ∧ Lck.Right l
instance (m : Int) (l : List Rf) : Decidable (Right m l) := by unfold Right; infer_instance
/-- What waiting answers: an error, who waits then, who goes through. -/
def wtE (m : Int) (l : List Rf) (r : Rf) : Int := if Right m l ∧ ok r then (if asked l r.c then 11 else 0) else 1
def wtL (m : Int) (l : List Rf) (r : Rf) : List Rf := if wtE m l r = 0 then (if (l.length : Int) + 1 = m then [] else l ++ [r]) else l
def wtA (m : Int) (l : List Rf) (r : Rf) : List Rf := if wtE m l r = 0 ∧ (l.length : Int) + 1 = m then l ++ [r] else []
def drL (m : Int) (l : List Rf) (r : Rf) : List Rf := if Right m l then wo l r else l
variable {m : Int} {l : List Rf} {r : Rf}
theorem wt_no {z : Int} (e : wtE m l r = z) (hz : ¬ z = 0) : wtE m l r = z ∧ wtL m l r = l ∧ wtA m l r = [] := by
  have e2 : ¬ wtE m l r = 0 := by rw [e]; exact hz
  exact ⟨e, if_neg e2, if_neg (fun h => e2 h.1)⟩
theorem wt_bad (h : ¬ (Right m l ∧ ok r)) : wtE m l r = 1 ∧ wtL m l r = l ∧ wtA m l r = [] := wt_no (if_neg h) (by decide)
theorem wt_held (h1 : Right m l) (h2 : ok r) (h3 : asked l r.c = true) : wtE m l r = 11 ∧ wtL m l r = l ∧ wtA m l r = [] :=
  wt_no (by unfold wtE; rw [if_pos ⟨h1, h2⟩, if_pos h3]) (by decide)
theorem wt_ok (h1 : Right m l) (h2 : ok r) (h3 : asked l r.c = false) : wtE m l r = 0 := by
  unfold wtE; rw [if_pos ⟨h1, h2⟩, if_neg (by rw [h3]; decide)]
theorem wt_full (h1 : Right m l) (h2 : ok r) (h3 : asked l r.c = false) (h4 : (l.length : Int) + 1 = m) : wtE m l r = 0 ∧ wtL m l r = [] ∧ wtA m l r = l ++ [r] := by
  have e := wt_ok h1 h2 h3
  exact ⟨e, by unfold wtL; rw [if_pos e, if_pos h4], if_pos ⟨e, h4⟩⟩
theorem wt_more (h1 : Right m l) (h2 : ok r) (h3 : asked l r.c = false) (h4 : ¬ (l.length : Int) + 1 = m) : wtE m l r = 0 ∧ wtL m l r = l ++ [r] ∧ wtA m l r = [] := by
  have e := wt_ok h1 h2 h3
  exact ⟨e, by unfold wtL; rw [if_pos e, if_neg h4], if_neg (fun h => h4 h.2)⟩
theorem wt_is (h : wtE m l r = 0) : Right m l ∧ ok r ∧ asked l r.c = false := by
  unfold wtE at h
  split at h
  next hr =>
    split at h
    · cases h
    next ha => exact ⟨hr.1, hr.2, Bool.eq_false_iff.2 ha⟩
  next => cases h
theorem dr_yes (h : Right m l) : drL m l r = wo l r := if_pos h
theorem dr_no (h : ¬ Right m l) : drL m l r = l := if_neg h
theorem right_of (h1 : 1 ≤ m) (h2 : m ≤ 5) : Right m [] := ⟨h1, h2, by show (0 : Int) < m; omega, right_nil⟩
theorem right_ap (h1 : Right m l) (h2 : ok r) (h3 : asked l r.c = false) (h4 : ¬ (l.length : Int) + 1 = m) : Right m (l ++ [r]) :=
  ⟨h1.1, h1.2.1, by
    have := h1.2.2.1
    rw [List.length_append]
    show ((l.length + 1 : Nat) : Int) < m
    omega, Lck.right_ap h1.2.2.2 h2 h3⟩
theorem right_wo (h : Right m l) (r : Rf) : Right m (wo l r) :=
  ⟨h.1, h.2.1, by
    have := h.2.2.1
    have := wo_le l r
    omega, right_filter _ h.2.2.2⟩
end Gt
end Go.Proofs.Ytbdfmfegmfmghaa
