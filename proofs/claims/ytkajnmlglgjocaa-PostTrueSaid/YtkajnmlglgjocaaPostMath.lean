/-
  What a post is, what a call of it answers; what follows of rows of calls: how many messages there are, and whose data they have.
  Pure: nothing of the program is read.
-/
import Derived.Test.YtkajnmlglgjocaaOp
import Derived.Test.YtkajnmlglgjocaaText
namespace Go.Proofs.Ytkajnmlglgjocaa
namespace Pst
/-- A post: its messages, and of each place its side. -/
structure P where
  m : List Mail
  s : Nat → Int
def empty : P := ⟨[], fun _ => 0⟩
def noMail : Mail := ⟨0, 0, ⟨#[]⟩, false⟩
def place (n : Int) : Bool := decide (0 ≤ n ∧ n < 12)
def put (p : P) (m : Mail) : P × Int := if 2048 ≤ p.m.length then (p, 6) else (⟨p.m ++ [m], p.s⟩, 0)
def send (p : P) (m : Mail) : P × Int :=
  if place m.f = true ∧ place m.t = true then (if 16392 < m.d.size then (p, 2) else put p ⟨m.f, m.t, m.d, false⟩) else (p, 1)
def at' (p : P) (i : Int) : Option Mail := if 0 ≤ i then p.m[i.toNat]? else none
def arrives (p : P) (m : Mail) : Bool := place m.f && place m.t && decide (p.s m.f.toNat = p.s m.t.toNat)
def lose (p : P) (i : Int) : P × Int := match at' p i with
  | some _ => (⟨p.m.eraseIdx i.toNat, p.s⟩, 0)
  | none => (p, 5)
def take (p : P) (i : Int) : P × Mail × Bool × Int := match at' p i with
  | some m => (⟨p.m.eraseIdx i.toNat, p.s⟩, m, arrives p m, 0)
  | none => (p, noMail, false, 5)
def twice (p : P) (i : Int) : P × Int := match at' p i with
  | some m => put p m
  | none => (p, 5)
/-- A text with one byte turned. -/
def turned (d : ByteArray) (a : Nat) (t : Int) : ByteArray := Val.of (d.data.toList.set a (d.data.toList.getD a 0 ^^^ UInt8.ofNat t.toNat))
def spoil (p : P) (i a t : Int) : P × Int := match at' p i with
  | some m => if 0 ≤ a ∧ a < m.d.size ∧ t ≠ 0 then (if m.s = true then (p, 8) else (⟨p.m.set i.toNat ⟨m.f, m.t, turned m.d a.toNat t, true⟩, p.s⟩, 0)) else (p, 1)
  | none => (p, 5)
def move (p : P) (n v : Int) : P × Int := if place n = true then (⟨p.m, fun j => if j = n.toNat then v else p.s j⟩, 0) else (p, 1)
/-- Any call. -/
def step (p : P) (o : Op) : P × Mail × Bool × Int :=
  if o.k = 1 then ((send p o.m).1, noMail, false, (send p o.m).2) else
  if o.k = 2 then take p o.i else
  if o.k = 3 then ((lose p o.i).1, noMail, false, (lose p o.i).2) else
  if o.k = 4 then ((twice p o.i).1, noMail, false, (twice p o.i).2) else
  if o.k = 5 then ((spoil p o.i o.n o.b).1, noMail, false, (spoil p o.i o.n o.b).2) else
  if o.k = 6 then ((move p o.i o.n).1, noMail, false, (move p o.i o.n).2) else (p, noMail, false, 0)

theorem turned_size (d : ByteArray) (a : Nat) (t : Int) : (turned d a t).size = d.size := by
  unfold turned
  rw [Val.of_size, List.length_set, Array.length_toList]; rfl
theorem at_some {p : P} {i : Int} {m : Mail} (h : at' p i = some m) : 0 ≤ i ∧ i.toNat < p.m.length ∧ p.m[i.toNat]? = some m := by
  unfold at' at h
  split at h
  · rename_i h0; exact ⟨h0, (List.getElem?_eq_some_iff.1 h).1, h⟩
  · cases h
theorem at_none {p : P} {i : Int} (h : at' p i = none) : i < 0 ∨ (p.m.length : Int) ≤ i := by
  unfold at' at h
  split at h
  · rename_i h0
    have := List.getElem?_eq_none_iff.1 h
    omega
  · omega

/-- What is said of each message of a post. -/
def Each (q : Mail → Prop) (p : P) : Prop := ∀ x ∈ p.m, q x
theorem Each.put {q : Mail → Prop} {p : P} {m : Mail} (h : Each q p) (hm : q m) : Each q (put p m).1 := by
  unfold Pst.put
  split
  · exact h
  · intro x hx
    rcases List.mem_append.1 hx with hx | hx
    · exact h x hx
    · simp at hx; subst hx; exact hm
theorem Each.erase {q : Mail → Prop} {p : P} (h : Each q p) (i : Nat) : Each q ⟨p.m.eraseIdx i, p.s⟩ := fun x hx => h x (List.mem_of_mem_eraseIdx hx)
theorem mem_at {p : P} {i : Int} {m : Mail} (h : at' p i = some m) : m ∈ p.m := List.mem_of_getElem? (at_some h).2.2
/-- A step keeps what is so of each message, if a sent one has it, and a turned one. -/
theorem Each.step {q : Mail → Prop} {p : P} {o : Op} (h : Each q p) (hs : o.k = 1 → o.m.d.size ≤ 16392 → q ⟨o.m.f, o.m.t, o.m.d, false⟩)
    (ht : ∀ (m : Mail) (a : Nat), q m → m.s = false → q ⟨m.f, m.t, turned m.d a o.b, true⟩) : Each q (step p o).1 := by
  unfold Pst.step
  split
  · rename_i h1
    unfold send
    split
    · split
      · exact h
      · exact h.put (hs h1 (by omega))
    · exact h
  split
  · unfold take
    split
    · exact h.erase _
    · exact h
  split
  · unfold lose
    split
    · exact h.erase _
    · exact h
  split
  · unfold twice
    split
    · rename_i m hm
      exact h.put (h m (mem_at hm))
    · exact h
  split
  · unfold spoil
    split
    · rename_i m hm
      split
      · split
        · exact h
        · rename_i hf
          intro x hx
          rcases List.mem_or_eq_of_mem_set hx with hx | hx
          · exact h x hx
          · subst hx; exact ht m _ (h m (mem_at hm)) (by simpa using hf)
      · exact h
    · exact h
  split
  · unfold move
    split
    · exact h
    · exact h
  · exact h
theorem put_len (p : P) (m : Mail) : (put p m).1.m.length = p.m.length + (if (put p m).2 = 0 then 1 else 0) ∧ ((put p m).2 = 0 ∨ (put p m).2 = 6) := by
  unfold put
  split
  · simp
  · simp
/-- What a step does to the number of messages. -/
theorem step_len (p : P) (o : Op) : (step p o).1.m.length = p.m.length + (if (step p o).2.2.2 = 0 ∧ (o.k = 1 ∨ o.k = 4) then 1 else 0) - (if (step p o).2.2.2 = 0 ∧ (o.k = 2 ∨ o.k = 3) then 1 else 0) ∧
    ((step p o).2.2.2 = 0 → o.k = 2 ∨ o.k = 3 → 1 ≤ p.m.length) := by
  by_cases h1 : o.k = 1
  · have e : step p o = ((send p o.m).1, noMail, false, (send p o.m).2) := by unfold step; rw [if_pos h1]
    rw [e, h1]
    unfold send
    split
    · split
      · simp
      · have := put_len p ⟨o.m.f, o.m.t, o.m.d, false⟩
        simp [this.1]
    · simp
  by_cases h2 : o.k = 2
  · have e : step p o = take p o.i := by unfold step; rw [if_neg h1, if_pos h2]
    rw [e, h2]
    unfold take
    split
    · rename_i m hm
      have h3 := (at_some hm).2.1
      simp [List.length_eraseIdx, h3]
      omega
    · simp
  by_cases h3 : o.k = 3
  · have e : step p o = ((lose p o.i).1, noMail, false, (lose p o.i).2) := by unfold step; rw [if_neg h1, if_neg h2, if_pos h3]
    rw [e, h3]
    unfold lose
    split
    · rename_i m hm
      have h4 := (at_some hm).2.1
      simp [List.length_eraseIdx, h4]
      omega
    · simp
  by_cases h4 : o.k = 4
  · have e : step p o = ((twice p o.i).1, noMail, false, (twice p o.i).2) := by unfold step; rw [if_neg h1, if_neg h2, if_neg h3, if_pos h4]
    rw [e, h4]
    unfold twice
    split
    · rename_i m hm
      have := put_len p m
      simp [this.1]
    · simp
  have e2 : (step p o).1.m.length = p.m.length := by
    unfold step
    rw [if_neg h1, if_neg h2, if_neg h3, if_neg h4]
    split
    · unfold spoil
      split
      · split
        · split
          · rfl
          · simp
        · rfl
      · rfl
    split
    · unfold move
      split <;> rfl
    · rfl
  rw [e2]
  simp [h1, h2, h3, h4]
theorem step_le (p : P) (o : Op) : (step p o).1.m.length ≤ p.m.length + 1 := by
  have := (step_len p o).1
  split at this <;> omega

/-- In how many places two texts differ. -/
def diffs : List UInt8 → List UInt8 → Nat
  | x :: a, y :: b => (if x = y then 0 else 1) + diffs a b
  | _, _ => 0
theorem diffs_self : ∀ l, diffs l l = 0
  | [] => rfl
  | x :: l => by unfold diffs; simp [diffs_self l]
theorem diffs_nil (l : List UInt8) : diffs l [] = 0 := by cases l <;> rfl
theorem diffs_set : ∀ (l : List UInt8) (a : Nat) (x : UInt8), diffs l (l.set a x) ≤ 1
  | [], _, _ => by simp [diffs]
  | y :: l, 0, x => by
    rw [List.set_cons_zero]; unfold diffs; rw [diffs_self]; split <;> omega
  | y :: l, a + 1, x => by
    rw [List.set_cons_succ]; unfold diffs; have := diffs_set l a x; simp; exact this
theorem diffs_eq : ∀ (a b : List UInt8), a.length = b.length → diffs a b = 0 → a = b
  | [], [], _, _ => rfl
  | x :: a, y :: b, h, h0 => by
    unfold diffs at h0
    split at h0
    · rename_i hxy
      subst hxy
      rw [diffs_eq a b (by simpa using h) (by omega)]
    · omega
theorem diffs_take : ∀ (a b : List UInt8) (k : Nat) (x y : UInt8), a[k]? = some x → b[k]? = some y → diffs (a.take (k + 1)) (b.take (k + 1)) = diffs (a.take k) (b.take k) + (if x = y then 0 else 1)
  | u :: a, v :: b, 0, x, y, h1, h2 => by
    simp at h1 h2
    subst h1 h2
    simp [diffs]
  | u :: a, v :: b, k + 1, x, y, h1, h2 => by
    rw [List.getElem?_cons_succ] at h1 h2
    have := diffs_take a b k x y h1 h2
    rw [List.take_succ_cons, List.take_succ_cons, List.take_succ_cons, List.take_succ_cons]
    unfold diffs
    rw [this]
    omega
theorem diffs_le : ∀ (a b : List UInt8), diffs a b ≤ a.length
  | [], _ => by simp [diffs]
  | x :: a, [] => by simp [diffs]
  | x :: a, y :: b => by
    unfold diffs
    have := diffs_le a b
    simp
    split <;> omega
/-- near's two answers. -/
def near (a b : ByteArray) : Bool × Bool := if a.size = b.size then (decide (diffs a.data.toList b.data.toList ≤ 1), decide (diffs a.data.toList b.data.toList = 0)) else (false, false)
theorem near_size {a b : ByteArray} (h : a.size = b.size) : near a b = (decide (diffs a.data.toList b.data.toList ≤ 1), decide (diffs a.data.toList b.data.toList = 0)) := if_pos h
theorem near_not {a b : ByteArray} (h : ¬ a.size = b.size) : near a b = (false, false) := if_neg h
/-- One that was sent is one's own. -/
def fits (y x : Mail) : Bool := decide (y.f = x.f) && decide (y.t = x.t) && (near y.d x.d).1 && ((near y.d x.d).2 || x.s)
def Good (sent : List Mail) (x : Mail) : Prop := sent.any (fun y => fits y x) = true
theorem Good.more {sent : List Mail} {x : Mail} (h : Good sent x) (y : Mail) : Good (sent ++ [y]) x := by
  unfold Good at h ⊢
  rw [List.any_append, h]; rfl
theorem fits_sent (m : Mail) : fits m ⟨m.f, m.t, m.d, false⟩ = true := by
  unfold fits
  simp [near_size (a := m.d) (b := m.d) rfl, diffs_self]
theorem good_sent (sent : List Mail) (m : Mail) : Good (sent ++ [m]) ⟨m.f, m.t, m.d, false⟩ := by
  unfold Good
  rw [List.any_append]
  simp [fits_sent]
theorem fits_turned {y m : Mail} (h : fits y m = true) (hs : m.s = false) (a : Nat) (t : Int) : fits y ⟨m.f, m.t, turned m.d a t, true⟩ = true := by
  unfold fits at h ⊢
  rw [hs] at h
  simp only [Bool.and_eq_true, Bool.or_false] at h ⊢
  obtain ⟨⟨⟨h1, h2⟩, h3⟩, h4⟩ := h
  refine ⟨⟨⟨h1, h2⟩, ?_⟩, by simp⟩
  by_cases hz : y.d.size = m.d.size
  · rw [near_size hz] at h4
    have h5 : y.d.data.toList = m.d.data.toList := diffs_eq _ _ (by rw [Array.length_toList, Array.length_toList]; exact hz) (by simpa using h4)
    rw [near_size (by rw [turned_size]; exact hz), h5]
    unfold turned
    rw [Val.of_toList]
    simpa using diffs_set _ _ _
  · rw [near_not hz] at h4
    cases h4
theorem Good.turned {sent : List Mail} {m : Mail} (h : Good sent m) (hs : m.s = false) (a : Nat) (t : Int) : Good sent ⟨m.f, m.t, Pst.turned m.d a t, true⟩ := by
  unfold Good at h ⊢
  obtain ⟨y, hy, hf⟩ := List.any_eq_true.1 h
  exact List.any_eq_true.2 ⟨y, hy, fits_turned hf hs a t⟩

/-- The row of what was sent behind a step. -/
def sentOf (sent : List Mail) (p : P) (o : Op) : List Mail := if (step p o).2.2.2 = 0 ∧ o.k = 1 then sent ++ [o.m] else sent
def seenOf (seen : List Mail) (p : P) (o : Op) : List Mail := if (step p o).2.2.2 = 0 ∧ o.k = 2 then seen ++ [(step p o).2.1] else seen
theorem sent_sub {sent : List Mail} {p : P} {o : Op} {x : Mail} (h : Good sent x) : Good (sentOf sent p o) x := by
  unfold sentOf
  split
  · exact h.more _
  · exact h
theorem good_step {sent : List Mail} {p : P} (h : Each (Good sent) p) (o : Op) : Each (Good (sentOf sent p o)) (step p o).1 := by
  by_cases h1 : (step p o).2.2.2 = 0 ∧ o.k = 1
  · have e : sentOf sent p o = sent ++ [o.m] := if_pos h1
    rw [e]
    exact Each.step (fun x hx => (h x hx).more _) (fun _ _ => good_sent _ _) (fun m a hm hs => hm.turned hs a _)
  · have e : sentOf sent p o = sent := if_neg h1
    rw [e]
    by_cases h2 : o.k = 1
    · have e3 : step p o = ((send p o.m).1, noMail, false, (send p o.m).2) := by unfold step; rw [if_pos h2]
      rw [e3] at h1 ⊢
      have h4 : ¬ (send p o.m).2 = 0 := fun e => h1 ⟨e, h2⟩
      have h5 : (send p o.m).1 = p := by
        unfold send put at h4 ⊢
        split
        · rename_i c1
          rw [if_pos c1] at h4
          split
          · rfl
          · rename_i c2
            rw [if_neg c2] at h4
            split
            · rfl
            · rename_i c3
              rw [if_neg c3] at h4
              exact absurd rfl h4
        · rfl
      show Each _ (send p o.m).1
      rw [h5]; exact h
    · exact Each.step h (fun e => absurd e h2) (fun m a hm hs => hm.turned hs a _)
theorem good_seen {sent seen : List Mail} {p : P} (h : Each (Good sent) p) (hs : ∀ x ∈ seen, Good sent x) (o : Op) : ∀ x ∈ seenOf seen p o, Good (sentOf sent p o) x := by
  intro x hx
  unfold seenOf at hx
  split at hx
  · rename_i hc
    rcases List.mem_append.1 hx with hx | hx
    · exact sent_sub (hs x hx)
    · simp at hx
      have e : step p o = take p o.i := by unfold step; rw [if_neg (by omega), if_pos hc.2]
      have h0 := hc.1
      rw [e] at hx h0
      unfold take at hx h0
      split at hx
      · rename_i m hm
        subst hx
        exact sent_sub (h _ (mem_at hm))
      · rename_i hm
        rw [hm] at h0
        cases h0
  · exact sent_sub (hs x hx)
theorem sent_len (sent : List Mail) (p : P) (o : Op) : (sentOf sent p o).length ≤ sent.length + 1 := by
  unfold sentOf; split <;> simp
theorem seen_len (seen : List Mail) (p : P) (o : Op) : (seenOf seen p o).length ≤ seen.length + 1 := by
  unfold seenOf; split <;> simp
end Pst
end Go.Proofs.Ytkajnmlglgjocaa
