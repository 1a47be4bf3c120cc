/-
  Floats fit behind all calls; the document's example; the reply of what waits; whose request is past.
  Pure.
-/
import Derived.Test.YtbcdmmhbmjjooaaSesM3
set_option linter.unusedSimpArgs false
set_option linter.unusedVariables false
namespace Go.Proofs.Ytbcdmmhbmjjooaa
namespace Ses
theorem set_out {t : T} {c : Int} (h : ¬ (0 ≤ c ∧ c < 5)) (s : S) : t.set c s = t := by
  unfold T.set
  rw [if_neg (by omega), if_neg (by omega), if_neg (by omega), if_neg (by omega), if_neg (by omega)]
theorem fit_set {t : T} {c : Int} {s : S} (h : Fit t) (hs : s.p.v.f < 18446744073709551616) : Fit (t.set c s) := fun d hd => by
  by_cases hc : 0 ≤ c ∧ c < 5
  · by_cases e : d = c
    · rw [e, get_set hc]; exact hs
    · rw [get_ne hc hd e]; exact h d hd
  · rw [set_out hc]; exact h d hd
theorem fit_get {t : T} (h : Fit t) (c : Int) : (t.get c).p.v.f < 18446744073709551616 := by
  by_cases hc : 0 ≤ c ∧ c < 5
  · exact h c hc
  · unfold T.get
    rw [if_neg (by omega), if_neg (by omega), if_neg (by omega), if_neg (by omega), if_neg (by omega)]
    decide
theorem fit_open {t : T} (h : Fit t) (r : Rf) : Fit (openT t r) := by
  unfold openT
  split
  · refine fit_set h ?_
    unfold openS
    split
    · show 0 < _; decide
    · show 0 < _; decide
  · exact h
theorem fit_beg {t : T} (h : Fit t) (r : Rf) : Fit (begT t r) := by
  unfold begT
  split
  · exact fit_set h (by show 0 < _; decide)
  · exact h
theorem fit_end {t : T} (h : Fit t) (r : Rf) {x : Sto.Rp} (hx : x.v.f < 18446744073709551616) : Fit (endT t r x) := by
  unfold endT
  split
  · exact fit_set h hx
  · exact h
theorem fit_close {t : T} (h : Fit t) (c : Int) : Fit (closeT t c) := by
  unfold closeT
  split
  · refine fit_set h ?_
    unfold closeS
    split
    · exact fit_get h c
    · show 0 < _; decide
  · exact h
def t0 : T := ⟨z, z, z, z, z⟩
def t1 : T := ⟨⟨true, 1, 0, true, Sto.rz⟩, z, z, z, z⟩
def t2 : T := ⟨⟨true, 1, 1, false, Sto.rz⟩, z, z, z, z⟩
theorem fit_0 : Fit t0 := fun c hc => by rcases cases5 hc with rfl | rfl | rfl | rfl | rfl <;> decide
theorem fit_1 : Fit t1 := fun c hc => by rcases cases5 hc with rfl | rfl | rfl | rfl | rfl <;> decide
theorem fit_2 : Fit t2 := fun c hc => by rcases cases5 hc with rfl | rfl | rfl | rfl | rfl <;> decide
theorem aw_look : look t0 ⟨0, 1, 0⟩ = 1 := by decide
theorem aw_open : openT t0 ⟨0, 1, 0⟩ = t1 ∧ openP t0 ⟨0, 1, 0⟩ = Sto.rz := by decide
theorem aw_beg : begT t1 ⟨0, 1, 1⟩ = t2 := by decide
theorem aw_look1 : look t1 ⟨0, 1, 1⟩ = 1 := by decide
theorem aw_look2 : look t2 ⟨0, 1, 1⟩ = 3 := by decide
theorem aw_right : decide (Right t2) = true := by decide
/-- What waits is live. -/
theorem waits_live {t : T} {r : Rf} (h : look t r = 3) : (t.get r.c).live = true := by
  obtain ⟨hk, hR, hl⟩ := look_in h (by decide)
  obtain ⟨h1, h2, h3⟩ := waits_is hl
  have he : 1 ≤ r.e := hk.2.2.1
  rcases (one_pos (right_one hR (ok_c hk)) (by omega)).1 with g | ⟨_, _, g⟩
  · rw [h3] at g; cases g
  · exact g
/-- The reply with which a request ends is told again, also when its session has ended. -/
theorem replies {t : T} {r : Rf} {x : Sto.Rp} (h : look t r = 3) (hx : Sto.rep x = true) :
    look (endT t r x) r = 2 ∧ ((endT t r x).get r.c).p = x ∧ look (closeT (endT t r x) r.c) r = 2 ∧ ((closeT (endT t r x) r.c).get r.c).p = x ∧ ((closeT (endT t r x) r.c).get r.c).live = false := by
  obtain ⟨a, b⟩ := end_again h hx
  have hl : ((endT t r x).get r.c).live = true := by
    unfold endT
    rw [if_pos ⟨h, hx⟩, get_set (look_c h (by decide))]
    exact waits_live h
  obtain ⟨c, d, e⟩ := close_again a hl
  exact ⟨a, b, c, d.trans b, e⟩
/-- Requests that were fresh are past. -/
def Had (t : T) (l : List Rf) : Prop := ∀ q ∈ l, Past t q
theorem had_nil (t : T) : Had t [] := fun q h => by simp at h
theorem had_ne {t : T} {l : List Rf} {r : Rf} (h : Had t l) (hr : look t r = 1) {i : Nat} {q : Rf} (hq : l[i]? = some q) : decide (q = r) = false :=
  decide_eq_false fun e => past_not hr (e ▸ h q (List.mem_of_getElem? hq))
theorem had_open {t : T} {l : List Rf} {r : Rf} (h : Had t l) (hr : look t r = 1) (h0 : r.r = 0) : Had (openT t r) (l ++ [r]) := fun q hq => by
  rcases List.mem_append.1 hq with hq | hq
  · exact open_past (h q hq)
  · rw [List.mem_singleton.1 hq]; exact open_now hr h0
theorem had_beg {t : T} {l : List Rf} {r : Rf} (h : Had t l) (hr : look t r = 1) (h0 : ¬ r.r = 0) : Had (begT t r) (l ++ [r]) := fun q hq => by
  rcases List.mem_append.1 hq with hq | hq
  · exact beg_past (h q hq)
  · rw [List.mem_singleton.1 hq]; exact beg_now hr h0
theorem had_end {t : T} {l : List Rf} (h : Had t l) (r : Rf) (x : Sto.Rp) : Had (endT t r x) l := fun q hq => end_past (h q hq)
theorem had_close {t : T} {l : List Rf} (h : Had t l) (c : Int) : Had (closeT t c) l := fun q hq => close_past (h q hq)
theorem open_not {t : T} {r : Rf} (hr : look t r = 1) (h0 : r.r = 0) : decide (look (openT t r) r = 1) = false := decide_eq_false (past_look (open_now hr h0))
theorem beg_not {t : T} {r : Rf} (hr : look t r = 1) (h0 : ¬ r.r = 0) : decide (look (begT t r) r = 1) = false := decide_eq_false (past_look (beg_now hr h0))
end Ses
theorem ieq_self (x : Int) : decide (x = x) = true := decide_eq_true rfl
theorem beq_self2 (b : Bool) : decide (b = b) = true := decide_eq_true rfl
theorem rpe_self (p : Sto.Rp) : decide (p = p) = true := decide_eq_true rfl
end Go.Proofs.Ytbcdmmhbmjjooaa
