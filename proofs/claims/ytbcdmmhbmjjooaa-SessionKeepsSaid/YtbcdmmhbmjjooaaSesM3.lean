/-
  What openings, beginnings, ends and closes leave, way by way.
  Pure.
-/
import Derived.Test.YtbcdmmhbmjjooaaSesMath
set_option linter.unusedSimpArgs false
set_option linter.unusedVariables false
namespace Go.Proofs.Ytbcdmmhbmjjooaa
namespace Ses
theorem set_set {t : T} {c : Int} (h : 0 ≤ c ∧ c < 5) (a b : S) : (t.set c a).set c b = t.set c b := by
  rcases cases5 h with rfl | rfl | rfl | rfl | rfl <;> rfl
theorem get_as {s : S} {l d : Bool} (hl : s.live = l) (hd : s.dn = d) : ∃ ep rq p, s = ⟨l, ep, rq, d, p⟩ := ⟨s.ep, s.rq, s.p, by rw [← hl, ← hd]⟩
theorem look_c {t : T} {r : Rf} {k : Int} (h : look t r = k) (hk : ¬ k = 5) : 0 ≤ r.c ∧ r.c < 5 := ok_c (look_in h hk).1
theorem beg_yes {t : T} {r : Rf} (h1 : decide (look t r = 1) = true) (h2 : decide (r.r = 0) = false) : begT t r = t.set r.c { t.get r.c with rq := r.r, dn := false, p := Sto.rz } := if_pos ⟨of_decide_eq_true h1, of_decide_eq_false h2⟩
theorem beg_no1 {t : T} {r : Rf} (h1 : decide (look t r = 1) = false) : begT t r = t := if_neg fun h => of_decide_eq_false h1 h.1
theorem beg_no2 {t : T} {r : Rf} (h2 : decide (r.r = 0) = true) : begT t r = t := if_neg fun h => h.2 (of_decide_eq_true h2)
theorem end_yes {t : T} {r : Rf} {x : Sto.Rp} (h1 : decide (look t r = 3) = true) (h2 : Sto.rep x = true) : endT t r x = t.set r.c { t.get r.c with dn := true, p := x } := if_pos ⟨of_decide_eq_true h1, h2⟩
theorem end_no1 {t : T} {r : Rf} {x : Sto.Rp} (h1 : decide (look t r = 3) = false) : endT t r x = t := if_neg fun h => of_decide_eq_false h1 h.1
theorem end_no2 {t : T} {r : Rf} {x : Sto.Rp} (h2 : Sto.rep x = false) : endT t r x = t := if_neg fun h => by rw [h2] at h; cases h.2
theorem op_no1 {t : T} {r : Rf} (h1 : decide (look t r = 1) = false) : openT t r = t ∧ openP t r = Sto.err 1 := ⟨if_neg fun h => of_decide_eq_false h1 h.1, if_neg fun h => of_decide_eq_false h1 h.1⟩
theorem op_no2 {t : T} {r : Rf} (h2 : decide (r.r = 0) = false) : openT t r = t ∧ openP t r = Sto.err 1 := ⟨if_neg fun h => of_decide_eq_false h2 h.2, if_neg fun h => of_decide_eq_false h2 h.2⟩
theorem op_yes {t : T} {r : Rf} (h1 : decide (look t r = 1) = true) (h2 : decide (r.r = 0) = true) (h3 : decide (live t r.c < 4) = true) : openT t r = t.set r.c ⟨true, r.e, 0, true, Sto.rz⟩ ∧ openP t r = Sto.rz := by
  have e : openS t r = ⟨true, r.e, 0, true, Sto.rz⟩ := if_pos (of_decide_eq_true h3)
  refine ⟨(if_pos ⟨of_decide_eq_true h1, of_decide_eq_true h2⟩).trans (by rw [e]), (if_pos ⟨of_decide_eq_true h1, of_decide_eq_true h2⟩).trans (by rw [e])⟩
theorem op_full {t : T} {r : Rf} (h1 : decide (look t r = 1) = true) (h2 : decide (r.r = 0) = true) (h3 : decide (live t r.c < 4) = false) : openT t r = t.set r.c ⟨false, r.e, 0, true, Sto.err 6⟩ ∧ openP t r = Sto.err 6 := by
  have e : openS t r = ⟨false, r.e, 0, true, Sto.err 6⟩ := if_neg (of_decide_eq_false h3)
  refine ⟨(if_pos ⟨of_decide_eq_true h1, of_decide_eq_true h2⟩).trans (by rw [e]), (if_pos ⟨of_decide_eq_true h1, of_decide_eq_true h2⟩).trans (by rw [e])⟩
theorem live_z {t : T} {c : Int} (h : 0 ≤ c ∧ c < 5) : live (t.set c z) (-1) = live t c := by
  rw [live_set h]
  show live t c + 0 = _
  omega
theorem cl_lo {t : T} {c : Int} (h : decide (c < 0) = true) : closeT t c = t := if_neg fun g => by have := of_decide_eq_true h; omega
theorem cl_hi {t : T} {c : Int} (h : decide (5 ≤ c) = true) : closeT t c = t := if_neg fun g => by have := of_decide_eq_true h; omega
theorem cl_no {t : T} {c : Int} (h : decide (Right t) = false) : closeT t c = t := if_neg fun g => of_decide_eq_false h g.2.2.1
theorem cl_dead {t : T} {c : Int} (h : (t.get c).live = false) : closeT t c = t := if_neg fun g => by rw [h] at g; cases g.2.2.2
theorem cl_in {c : Int} (h1 : decide (c < 0) = false) (h2 : decide (5 ≤ c) = false) : 0 ≤ c ∧ c < 5 := by
  have := of_decide_eq_false h1
  have := of_decide_eq_false h2
  omega
theorem cl_done {t : T} {c : Int} (h : 0 ≤ c ∧ c < 5) (h2 : decide (Right t) = true) (h3 : (t.get c).live = true) (h4 : (t.get c).dn = true) : closeT t c = t.set c { t.get c with live := false } :=
  (if_pos ⟨h.1, h.2, of_decide_eq_true h2, h3⟩).trans (by rw [closeS, if_pos h4])
theorem cl_open {t : T} {c : Int} (h : 0 ≤ c ∧ c < 5) (h2 : decide (Right t) = true) (h3 : (t.get c).live = true) (h4 : (t.get c).dn = false) : closeT t c = t.set c { t.get c with live := false, dn := true, p := Sto.err 14 } :=
  (if_pos ⟨h.1, h.2, of_decide_eq_true h2, h3⟩).trans (by rw [closeS, if_neg (by rw [h4]; decide)])
end Ses
end Go.Proofs.Ytbcdmmhbmjjooaa
