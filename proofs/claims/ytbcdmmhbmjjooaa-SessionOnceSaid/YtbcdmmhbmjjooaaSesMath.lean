/-
  Sessions of clients: which may be, what a request is, what an opening, a beginning, an end, a close leave.
  Pure.
-/
import Derived.Test.YtbcdmmhbmjjooaaRpMath
import Derived.Test.YtbcdmmhbmjjooaaLockMath
set_option linter.unusedSimpArgs false
set_option linter.unusedVariables false
namespace Go.Proofs.Ytbcdmmhbmjjooaa
namespace Ses
/-- A session. -/
structure S where
  live : Bool
  ep : Int
  rq : Int
  dn : Bool
  p : Sto.Rp
  deriving DecidableEq
def z : S := ⟨false, 0, 0, false, Sto.rz⟩
/-- All clients' sessions. -/
structure T where
  s0 : S
  s1 : S
  s2 : S
  s3 : S
  s4 : S
  deriving DecidableEq
def T.get (t : T) (c : Int) : S := if c = 0 then t.s0 else if c = 1 then t.s1 else if c = 2 then t.s2 else if c = 3 then t.s3 else if c = 4 then t.s4 else z
def T.set (t : T) (c : Int) (s : S) : T := if c = 0 then { t with s0 := s } else if c = 1 then { t with s1 := s } else if c = 2 then { t with s2 := s } else if c = 3 then { t with s3 := s } else if c = 4 then { t with s4 := s } else t
def one (s : S) : Bool := if s.ep = 0 then decide (s = z) else (s.dn || (decide (s.p = Sto.rz) && decide (1 ≤ s.rq) && s.live)) && decide (0 < s.ep) && decide (0 ≤ s.rq) && Sto.rep s.p
def b2i (b : Bool) : Int := if b = true then 1 else 0
/-- How many are live but a client's. -/
def live (t : T) (q : Int) : Int := b2i (t.s0.live && !decide (0 = q)) + b2i (t.s1.live && !decide (1 = q)) + b2i (t.s2.live && !decide (2 = q)) + b2i (t.s3.live && !decide (3 = q)) + b2i (t.s4.live && !decide (4 = q))
def Right (t : T) : Prop := (one t.s0 = true ∧ one t.s1 = true ∧ one t.s2 = true ∧ one t.s3 = true ∧ one t.s4 = true) ∧ live t (-1) ≤ 4
instance (t : T) : Decidable (Right t) := by unfold Right; infer_instance
/-- What a request is. -/
def lookS (s : S) (r : Rf) : Int :=
  if r.r = 0 ∧ s.ep < r.e then 1 else if r.e ≠ s.ep ∨ r.r < s.rq then 5 else if r.r = s.rq then (if s.dn = true then 2 else 3) else if s.live = false then 4 else if r.r - 1 = s.rq ∧ s.dn = true then 1 else 5
def look (t : T) (r : Rf) : Int := if Lck.ok r ∧ Right t then lookS (t.get r.c) r else 5
def openS (t : T) (r : Rf) : S := if live t r.c < 4 then ⟨true, r.e, 0, true, Sto.rz⟩ else ⟨false, r.e, 0, true, Sto.err 6⟩
def openT (t : T) (r : Rf) : T := if look t r = 1 ∧ r.r = 0 then t.set r.c (openS t r) else t
def openP (t : T) (r : Rf) : Sto.Rp := if look t r = 1 ∧ r.r = 0 then (openS t r).p else Sto.err 1
def begT (t : T) (r : Rf) : T := if look t r = 1 ∧ ¬ r.r = 0 then t.set r.c { t.get r.c with rq := r.r, dn := false, p := Sto.rz } else t
def endT (t : T) (r : Rf) (x : Sto.Rp) : T := if look t r = 3 ∧ Sto.rep x = true then t.set r.c { t.get r.c with dn := true, p := x } else t
def closeS (s : S) : S := if s.dn = true then { s with live := false } else { s with live := false, dn := true, p := Sto.err 14 }
def closeT (t : T) (c : Int) : T := if 0 ≤ c ∧ c < 5 ∧ Right t ∧ (t.get c).live = true then t.set c (closeS (t.get c)) else t
/-- Laws of places. -/
theorem cases5 {c : Int} (h : 0 ≤ c ∧ c < 5) : c = 0 ∨ c = 1 ∨ c = 2 ∨ c = 3 ∨ c = 4 := by omega
theorem ok_c {r : Rf} (h : Lck.ok r) : 0 ≤ r.c ∧ r.c < 5 := ⟨h.1, h.2.1⟩
theorem get_set {t : T} {c : Int} (h : 0 ≤ c ∧ c < 5) (s : S) : (t.set c s).get c = s := by
  rcases cases5 h with rfl | rfl | rfl | rfl | rfl <;> rfl
theorem get_ne {t : T} {c d : Int} (hc : 0 ≤ c ∧ c < 5) (hd : 0 ≤ d ∧ d < 5) (hn : ¬ d = c) (s : S) : (t.set c s).get d = t.get d := by
  rcases cases5 hc with rfl | rfl | rfl | rfl | rfl <;> rcases cases5 hd with rfl | rfl | rfl | rfl | rfl <;> first | exact absurd rfl hn | rfl
theorem b2i_is (b : Bool) : (b = true ∧ b2i b = 1) ∨ (b = false ∧ b2i b = 0) := by cases b <;> simp [b2i]
theorem live_set {t : T} {c : Int} (h : 0 ≤ c ∧ c < 5) (s : S) : live (t.set c s) (-1) = live t c + b2i s.live := by
  rcases cases5 h with rfl | rfl | rfl | rfl | rfl <;> simp [live, T.set, b2i] <;> omega
theorem live_at {t : T} {c : Int} (h : 0 ≤ c ∧ c < 5) : live t (-1) = live t c + b2i (t.get c).live := by
  rcases cases5 h with rfl | rfl | rfl | rfl | rfl <;> simp [live, T.get, b2i] <;> omega
theorem right_one {t : T} (h : Right t) {c : Int} (hc : 0 ≤ c ∧ c < 5) : one (t.get c) = true := by
  obtain ⟨⟨h0, h1, h2, h3, h4⟩, _⟩ := h
  rcases cases5 hc with rfl | rfl | rfl | rfl | rfl
  · exact h0
  · exact h1
  · exact h2
  · exact h3
  · exact h4
theorem right_set {t : T} (h : Right t) {c : Int} (hc : 0 ≤ c ∧ c < 5) {s : S} (hs : one s = true) (hl : live t c + b2i s.live ≤ 4) : Right (t.set c s) := by
  obtain ⟨⟨h0, h1, h2, h3, h4⟩, _⟩ := h
  refine ⟨?_, by rw [live_set hc]; exact hl⟩
  rcases cases5 hc with rfl | rfl | rfl | rfl | rfl
  · exact ⟨hs, h1, h2, h3, h4⟩
  · exact ⟨h0, hs, h2, h3, h4⟩
  · exact ⟨h0, h1, hs, h3, h4⟩
  · exact ⟨h0, h1, h2, hs, h4⟩
  · exact ⟨h0, h1, h2, h3, hs⟩
/-- What the program asks of a session that isn't zero; how many of the first are live. -/
def snd (s : S) : Bool := decide (0 < s.ep) && decide (0 ≤ s.rq) && Sto.rep s.p && (s.dn || (s.live && decide (0 < s.rq) && decide (s.p = Sto.rz)))
theorem one_snd (s : S) : one s = (decide (s = z) || snd s) := by
  unfold one
  by_cases h : s.ep = 0
  · rw [if_pos h]
    unfold snd
    rw [decide_eq_false (p := 0 < s.ep) (by omega)]
    simp
  · rw [if_neg h, decide_eq_false (p := s = z) (fun e => h (by rw [e]; rfl))]
    unfold snd
    rw [Bool.eq_iff_iff]
    simp only [Bool.and_eq_true, Bool.or_eq_true, decide_eq_true_eq, Bool.false_or]
    constructor
    · rintro ⟨⟨⟨h1, h2⟩, h3⟩, h4⟩
      exact ⟨⟨⟨h2, h3⟩, h4⟩, h1.imp id fun ⟨⟨a, b⟩, c⟩ => ⟨⟨c, by omega⟩, a⟩⟩
    · rintro ⟨⟨⟨h2, h3⟩, h4⟩, h1⟩
      exact ⟨⟨⟨h1.imp id fun ⟨⟨c, b⟩, a⟩ => ⟨⟨a, by omega⟩, c⟩, h2⟩, h3⟩, h4⟩
def cnt (t : T) (q : Int) : Nat → Int
  | 0 => 0
  | k + 1 => cnt t q k + b2i ((t.get k).live && !decide ((k : Int) = q))
theorem cnt5 (t : T) (q : Int) : cnt t q 5 = live t q := by
  unfold live
  simp [cnt, T.get]
theorem cnt_le (t : T) (q : Int) : ∀ k : Nat, 0 ≤ cnt t q k ∧ cnt t q k ≤ k
  | 0 => ⟨Int.le_refl 0, Int.le_refl 0⟩
  | k + 1 => by
    have h := cnt_le t q k
    rcases b2i_is ((t.get k).live && !decide ((k : Int) = q)) with ⟨_, g⟩ | ⟨_, g⟩ <;> (show 0 ≤ cnt t q k + _ ∧ cnt t q k + _ ≤ _; rw [g]; omega)
theorem right_all (t : T) : (∀ c : Int, 0 ≤ c ∧ c < 5 → one (t.get c) = true) → decide (Right t) = decide (live t (-1) ≤ 4) := fun h => by
  have e : Right t ↔ live t (-1) ≤ 4 := ⟨fun g => g.2, fun g => ⟨⟨h 0 (by decide), h 1 (by decide), h 2 (by decide), h 3 (by decide), h 4 (by decide)⟩, g⟩⟩
  rw [Bool.eq_iff_iff, decide_eq_true_eq, decide_eq_true_eq]
  exact e
theorem right_no {t : T} {c : Int} (hc : 0 ≤ c ∧ c < 5) (h : one (t.get c) = false) : decide (Right t) = false :=
  decide_eq_false fun g => by rw [right_one g hc] at h; cases h
/-- Floats that fit. -/
def Fit (t : T) : Prop := ∀ c : Int, 0 ≤ c ∧ c < 5 → (t.get c).p.v.f < 18446744073709551616
theorem look_in {t : T} {r : Rf} {k : Int} (h : look t r = k) (hk : ¬ k = 5) : Lck.ok r ∧ Right t ∧ lookS (t.get r.c) r = k := by
  unfold look at h
  split at h
  next g => exact ⟨g.1, g.2, h⟩
  next => exact absurd h.symm hk
theorem look_bad {t : T} {r : Rf} (h : ¬ (Lck.ok r ∧ Right t)) : look t r = 5 := if_neg h
theorem rep_rz : Sto.rep Sto.rz = true := by decide
theorem rep_err {e : Int} (h : 0 ≤ e ∧ e ≤ 18) : Sto.rep (Sto.err e) = true := by
  unfold Sto.rep Sto.err
  rw [decide_eq_true h.1, decide_eq_true h.2]
  rfl
/-- What a fresh request is, what one that waits is. -/
theorem fresh_is {s : S} {r : Rf} (h : lookS s r = 1) : (r.r = 0 ∧ s.ep < r.e) ∨ (r.e = s.ep ∧ r.r = s.rq + 1 ∧ s.live = true ∧ s.dn = true) := by
  unfold lookS at h
  by_cases h1 : r.r = 0 ∧ s.ep < r.e
  · exact .inl h1
  rw [if_neg h1] at h
  by_cases h2 : r.e ≠ s.ep ∨ r.r < s.rq
  · rw [if_pos h2] at h; cases h
  rw [if_neg h2] at h
  by_cases h3 : r.r = s.rq
  · rw [if_pos h3] at h
    split at h <;> cases h
  rw [if_neg h3] at h
  by_cases h4 : s.live = false
  · rw [if_pos h4] at h; cases h
  rw [if_neg h4] at h
  by_cases h5 : r.r - 1 = s.rq ∧ s.dn = true
  · exact .inr ⟨by omega, by omega, by simpa using h4, h5.2⟩
  · rw [if_neg h5] at h; cases h
theorem waits_is {s : S} {r : Rf} (h : lookS s r = 3) : r.e = s.ep ∧ r.r = s.rq ∧ s.dn = false := by
  unfold lookS at h
  by_cases h1 : r.r = 0 ∧ s.ep < r.e
  · rw [if_pos h1] at h; cases h
  rw [if_neg h1] at h
  by_cases h2 : r.e ≠ s.ep ∨ r.r < s.rq
  · rw [if_pos h2] at h; cases h
  rw [if_neg h2] at h
  by_cases h3 : r.r = s.rq
  · rw [if_pos h3] at h
    by_cases h6 : s.dn = true
    · rw [if_pos h6] at h; cases h
    · exact ⟨by omega, h3, by simpa using h6⟩
  rw [if_neg h3] at h
  by_cases h4 : s.live = false
  · rw [if_pos h4] at h; cases h
  rw [if_neg h4] at h
  by_cases h5 : r.r - 1 = s.rq ∧ s.dn = true
  · rw [if_pos h5] at h; cases h
  · rw [if_neg h5] at h; cases h
theorem one_pos {s : S} (h : one s = true) (he : ¬ s.ep = 0) : (s.dn = true ∨ (s.p = Sto.rz ∧ 1 ≤ s.rq ∧ s.live = true)) ∧ 0 < s.ep ∧ 0 ≤ s.rq ∧ Sto.rep s.p = true := by
  unfold one at h
  rw [if_neg he] at h
  simp only [Bool.and_eq_true, Bool.or_eq_true, decide_eq_true_eq] at h
  exact ⟨h.1.1.1.imp id fun g => ⟨g.1.1, g.1.2, g.2⟩, h.1.1.2, h.1.2, h.2⟩
theorem one_of {s : S} (h0 : 0 < s.ep) (h1 : s.dn = true ∨ (s.p = Sto.rz ∧ 1 ≤ s.rq ∧ s.live = true)) (h2 : 0 ≤ s.rq) (h3 : Sto.rep s.p = true) : one s = true := by
  unfold one
  rw [if_neg (by omega)]
  simp only [Bool.and_eq_true, Bool.or_eq_true, decide_eq_true_eq]
  exact ⟨⟨⟨h1.imp id fun g => ⟨⟨g.1, g.2.1⟩, g.2.2⟩, h0⟩, h2⟩, h3⟩
theorem one_zero {s : S} (h : one s = true) (he : s.ep = 0) : s = z := by
  unfold one at h
  rw [if_pos he] at h
  exact of_decide_eq_true h
theorem live_le {t : T} (h : Right t) {c : Int} (hc : 0 ≤ c ∧ c < 5) : live t c ≤ 4 := by
  have h1 := live_at (t := t) hc
  have h2 := h.2
  rcases b2i_is (t.get c).live with ⟨_, g⟩ | ⟨_, g⟩ <;> omega
/-- What they leave may be. -/
theorem open_right {t : T} (h : Right t) (r : Rf) : Right (openT t r) := by
  unfold openT
  split
  next g =>
    obtain ⟨hk, _, hl⟩ := look_in g.1 (by decide)
    have hc := ok_c hk
    have hm := live_le h hc
    have he : 1 ≤ r.e := hk.2.2.1
    unfold openS
    split
    next hl4 => exact right_set h hc (one_of (by show 0 < r.e; omega) (.inl rfl) (Int.le_refl 0) rep_rz) (by show live t r.c + 1 ≤ 4; omega)
    next hl4 => exact right_set h hc (one_of (by show 0 < r.e; omega) (.inl rfl) (Int.le_refl 0) (rep_err (by decide))) (by show live t r.c + 0 ≤ 4; omega)
  next => exact h
theorem beg_right {t : T} (h : Right t) (r : Rf) : Right (begT t r) := by
  unfold begT
  split
  next g =>
    obtain ⟨hk, _, hl⟩ := look_in g.1 (by decide)
    have hc := ok_c hk
    rcases fresh_is hl with ⟨h0, _⟩ | ⟨h1, h2, h3, h4⟩
    · exact absurd h0 g.2
    have he : 1 ≤ r.e := hk.2.2.1
    have hr : 0 ≤ r.r := hk.2.2.2
    have h0 := g.2
    have hla := live_at (t := t) hc
    have h5 := h.2
    refine right_set h hc (one_of (by show 0 < (t.get r.c).ep; omega) (.inr ⟨rfl, by show 1 ≤ r.r; omega, h3⟩) hr rep_rz) ?_
    show live t r.c + b2i (t.get r.c).live ≤ 4
    omega
  next => exact h
theorem end_right {t : T} (h : Right t) (r : Rf) (x : Sto.Rp) : Right (endT t r x) := by
  unfold endT
  split
  next g =>
    obtain ⟨hk, _, hl⟩ := look_in g.1 (by decide)
    have hc := ok_c hk
    obtain ⟨h1, h2, h3⟩ := waits_is hl
    have he : 1 ≤ r.e := hk.2.2.1
    have hr : 0 ≤ r.r := hk.2.2.2
    have hla := live_at (t := t) hc
    have h5 := h.2
    refine right_set h hc (one_of (by show 0 < (t.get r.c).ep; omega) (.inl rfl) (by show 0 ≤ (t.get r.c).rq; omega) g.2) ?_
    show live t r.c + b2i (t.get r.c).live ≤ 4
    omega
  next => exact h
theorem close_right {t : T} (h : Right t) (c : Int) : Right (closeT t c) := by
  unfold closeT
  split
  next g =>
    obtain ⟨h1, h2, _, hl⟩ := g
    have hc : 0 ≤ c ∧ c < 5 := ⟨h1, h2⟩
    have ho := right_one h hc
    have he : ¬ (t.get c).ep = 0 := fun e => by rw [one_zero ho e] at hl; cases hl
    obtain ⟨o1, o2, o3, o4⟩ := one_pos ho he
    have hm := live_le h hc
    unfold closeS
    split
    next hd => exact right_set h hc (one_of o2 (.inl hd) o3 o4) (by show live t c + 0 ≤ 4; omega)
    next hd => exact right_set h hc (one_of o2 (.inl rfl) o3 (rep_err (by decide))) (by show live t c + 0 ≤ 4; omega)
  next => exact h
/-- A request that was fresh once. -/
def Past (t : T) (r : Rf) : Prop := (0 ≤ r.c ∧ r.c < 5) ∧ (r.e < (t.get r.c).ep ∨ (r.e = (t.get r.c).ep ∧ r.r ≤ (t.get r.c).rq))
theorem past_not {t : T} {r : Rf} (h : look t r = 1) : ¬ Past t r := by
  obtain ⟨hk, _, hl⟩ := look_in h (by decide)
  rintro ⟨_, g⟩
  rcases fresh_is hl with ⟨h0, h1⟩ | ⟨h1, h2, _, _⟩ <;> omega
/-- What is past stays so where no session goes back. -/
theorem past_set {t : T} {c : Int} {s : S} {r : Rf} (h : Past t r) (hc : 0 ≤ c ∧ c < 5) (hs : (t.get c).ep < s.ep ∨ (s.ep = (t.get c).ep ∧ (t.get c).rq ≤ s.rq)) : Past (t.set c s) r := by
  obtain ⟨h0, h1⟩ := h
  refine ⟨h0, ?_⟩
  by_cases hrc : r.c = c
  · rw [hrc] at h1 ⊢
    rw [get_set hc]
    omega
  · rw [get_ne hc h0 hrc]
    exact h1
theorem open_past {t : T} {r q : Rf} (h : Past t q) : Past (openT t r) q := by
  unfold openT
  split
  next g =>
    obtain ⟨hk, _, hl⟩ := look_in g.1 (by decide)
    refine past_set h (ok_c hk) ?_
    have e1 : (openS t r).ep = r.e := by unfold openS; split <;> rfl
    have e2 : (openS t r).rq = 0 := by unfold openS; split <;> rfl
    rw [e1, e2]
    have hr := g.2
    rcases fresh_is hl with ⟨_, h1⟩ | ⟨h1, h2, _, _⟩
    · exact .inl h1
    · exact .inr ⟨h1, by omega⟩
  next => exact h
theorem beg_past {t : T} {r q : Rf} (h : Past t q) : Past (begT t r) q := by
  unfold begT
  split
  next g =>
    obtain ⟨hk, _, hl⟩ := look_in g.1 (by decide)
    refine past_set h (ok_c hk) (.inr ⟨rfl, ?_⟩)
    show (t.get r.c).rq ≤ r.r
    rcases fresh_is hl with ⟨h0, _⟩ | ⟨_, h2, _, _⟩
    · exact absurd h0 g.2
    · omega
  next => exact h
theorem end_past {t : T} {r q : Rf} {x : Sto.Rp} (h : Past t q) : Past (endT t r x) q := by
  unfold endT
  split
  next g =>
    obtain ⟨hk, _, _⟩ := look_in g.1 (by decide)
    exact past_set h (ok_c hk) (.inr ⟨rfl, Int.le_refl _⟩)
  next => exact h
theorem close_past {t : T} {c : Int} {q : Rf} (h : Past t q) : Past (closeT t c) q := by
  unfold closeT
  split
  next g =>
    refine past_set h ⟨g.1, g.2.1⟩ (.inr ?_)
    unfold closeS
    split <;> exact ⟨rfl, Int.le_refl _⟩
  next => exact h
/-- Who was fresh is past, and so isn't fresh any more. -/
theorem open_now {t : T} {r : Rf} (h : look t r = 1) (h0 : r.r = 0) : Past (openT t r) r := by
  obtain ⟨hk, _, hl⟩ := look_in h (by decide)
  unfold openT
  rw [if_pos ⟨h, h0⟩]
  refine ⟨ok_c hk, .inr ?_⟩
  rw [get_set (ok_c hk)]
  unfold openS
  split <;> exact ⟨rfl, by show r.r ≤ 0; omega⟩
theorem beg_now {t : T} {r : Rf} (h : look t r = 1) (h0 : ¬ r.r = 0) : Past (begT t r) r := by
  obtain ⟨hk, _, hl⟩ := look_in h (by decide)
  unfold begT
  rw [if_pos ⟨h, h0⟩]
  refine ⟨ok_c hk, .inr ?_⟩
  rw [get_set (ok_c hk)]
  rcases fresh_is hl with ⟨h1, _⟩ | ⟨h1, _, _, _⟩
  · exact absurd h1 h0
  · exact ⟨h1, Int.le_refl _⟩
theorem past_look {t : T} {r : Rf} (h : Past t r) : ¬ look t r = 1 := fun g => past_not g h
/-- The reply of a request that ends. -/
theorem end_again {t : T} {r : Rf} {x : Sto.Rp} (h : look t r = 3) (hx : Sto.rep x = true) : look (endT t r x) r = 2 ∧ ((endT t r x).get r.c).p = x := by
  obtain ⟨hk, hR, hl⟩ := look_in h (by decide)
  obtain ⟨h1, h2, h3⟩ := waits_is hl
  have hr2 := end_right hR r x
  unfold endT at hr2 ⊢
  rw [if_pos ⟨h, hx⟩] at hr2 ⊢
  refine ⟨?_, by rw [get_set (ok_c hk)]⟩
  unfold look
  rw [if_pos ⟨hk, hr2⟩, get_set (ok_c hk)]
  unfold lookS
  rw [if_neg (by show ¬ (r.r = 0 ∧ (t.get r.c).ep < r.e); omega), if_neg (by show ¬ (r.e ≠ (t.get r.c).ep ∨ r.r < (t.get r.c).rq); omega), if_pos (show r.r = (t.get r.c).rq from h2), if_pos rfl]
theorem end_stays {t : T} {r : Rf} {x : Sto.Rp} (hx : ¬ Sto.rep x = true) : endT t r x = t := if_neg fun g => hx g.2
theorem close_again {t : T} {r : Rf} (h : look t r = 2) (hl : (t.get r.c).live = true) : look (closeT t r.c) r = 2 ∧ ((closeT t r.c).get r.c).p = (t.get r.c).p ∧ ((closeT t r.c).get r.c).live = false := by
  obtain ⟨hk, hR, hs⟩ := look_in h (by decide)
  have hc := ok_c hk
  have hr2 := close_right hR r.c
  have hd : r.e = (t.get r.c).ep ∧ r.r = (t.get r.c).rq ∧ (t.get r.c).dn = true := by
    unfold lookS at hs
    by_cases h1 : r.r = 0 ∧ (t.get r.c).ep < r.e
    · rw [if_pos h1] at hs; cases hs
    rw [if_neg h1] at hs
    by_cases h2 : r.e ≠ (t.get r.c).ep ∨ r.r < (t.get r.c).rq
    · rw [if_pos h2] at hs; cases hs
    rw [if_neg h2] at hs
    by_cases h3 : r.r = (t.get r.c).rq
    · rw [if_pos h3] at hs
      by_cases h6 : (t.get r.c).dn = true
      · exact ⟨by omega, h3, h6⟩
      · rw [if_neg h6] at hs; cases hs
    rw [if_neg h3] at hs
    by_cases h4 : (t.get r.c).live = false
    · rw [if_pos h4] at hs; cases hs
    rw [if_neg h4] at hs
    split at hs <;> cases hs
  obtain ⟨d1, d2, d3⟩ := hd
  have e : closeT t r.c = t.set r.c { t.get r.c with live := false } := by
    unfold closeT
    rw [if_pos ⟨hc.1, hc.2, hR, hl⟩]
    unfold closeS
    rw [if_pos d3]
  rw [e] at hr2 ⊢
  refine ⟨?_, by rw [get_set hc], by rw [get_set hc]⟩
  unfold look
  rw [if_pos ⟨hk, hr2⟩, get_set hc]
  unfold lookS
  rw [if_neg (by show ¬ (r.r = 0 ∧ (t.get r.c).ep < r.e); omega), if_neg (by show ¬ (r.e ≠ (t.get r.c).ep ∨ r.r < (t.get r.c).rq); omega), if_pos (show r.r = (t.get r.c).rq from d2), if_pos (show (t.get r.c).dn = true from d3)]
end Ses
end Go.Proofs.Ytbcdmmhbmjjooaa
