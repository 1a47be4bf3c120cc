/-
  Requests, and locks as lists of them: which may be, what is taken, given up, dropped.
  Pure.
-/
import Derived.Lib.Hide
set_option linter.unusedSimpArgs false
set_option linter.unusedVariables false
namespace Go.Proofs.Ytbcdmmhbmjjooaa
structure Rf where
  c : Int
  e : Int
  r : Int
deriving DecidableEq
namespace Lck
def zero : Rf := ⟨0, 0, 0⟩
/-- Whether a request may be. -/
def ok (x : Rf) : Prop := 0 ≤ x.c ∧ x.c < 5 ∧ 1 ≤ x.e ∧ 0 ≤ x.r
instance (x : Rf) : Decidable (ok x) := by unfold ok; infer_instance
/-- Whether two are of one session. -/
def mine (a b : Rf) : Prop := a.c = b.c ∧ a.e = b.e
instance (a b : Rf) : Decidable (mine a b) := by unfold mine; infer_instance
/-- Whether one of the client's is there. -/
def asked (l : List Rf) (c : Int) : Bool := l.any fun x => decide (x.c = c)
theorem asked_told {l : List Rf} {n : Nat} (hn : l.length = n) (c : Int) : (∀ (i : Nat) x, l[i]? = some x → x.c = c → asked l c = true) ∧ ((∀ (i : Nat) x, i < n → l[i]? = some x → ¬ x.c = c) → asked l c = false) := by
  refine ⟨fun i x hx h => List.any_eq_true.2 ⟨x, List.mem_of_getElem? hx, decide_eq_true h⟩, fun h => Bool.eq_false_iff.2 fun ha => ?_⟩
  obtain ⟨x, hx, hd⟩ := List.any_eq_true.1 ha
  obtain ⟨i, hi⟩ := List.mem_iff_getElem?.1 hx
  exact h i x (by rw [← hn]; exact (List.getElem?_eq_some_iff.1 hi).1) hi (of_decide_eq_true hd)
/-- A lock may be: each may, and no two are of one client. -/
def Right (l : List Rf) : Prop := ∀ i, i < l.length → ∀ x, l[i]? = some x → ok x ∧ asked (l.take i) x.c = false
theorem right_iff (l : List Rf) : Right l ↔ ∀ i, i < l.length → (l[i]?.all fun x => decide (ok x) && !asked (l.take i) x.c) = true := by
  refine forall_congr' fun i => forall_congr' fun hi => ?_
  rw [List.getElem?_eq_getElem hi]
  simp
instance (l : List Rf) : Decidable (Right l) := decidable_of_iff _ (right_iff l).symm
theorem right_told {l : List Rf} {n : Nat} (hn : l.length = n) : (∀ (i : Nat) x, i < n → l[i]? = some x → ¬ (ok x ∧ asked (l.take i) x.c = false) → decide (Right l) = false) ∧ ((∀ (i : Nat) x, i < n → l[i]? = some x → ok x ∧ asked (l.take i) x.c = false) → decide (Right l) = true) :=
  ⟨fun i x hi hx h => decide_eq_false fun hr => h (hr i (by omega) x hx), fun h => decide_eq_true fun i hi x hx => h i x (by omega) hx⟩
theorem right_nil : Right [] := fun i hi => by simp at hi
/-- What the calls answer. -/
def tkE (l : List Rf) (r : Rf) : Int := if Right l ∧ ok r then (if asked l r.c then 11 else 0) else 1
def tkL (l : List Rf) (r : Rf) : List Rf := if tkE l r = 0 then l ++ [r] else l
def tkH (l : List Rf) (r : Rf) : Bool := decide (tkE l r = 0) && decide (l.length = 0)
theorem tk_bad {l : List Rf} {r : Rf} (h : ¬ (Right l ∧ ok r)) : tkE l r = 1 ∧ tkL l r = l ∧ tkH l r = false := by
  have e : tkE l r = 1 := if_neg h
  exact ⟨e, by unfold tkL; rw [e]; rfl, by unfold tkH; rw [e]; rfl⟩
theorem tk_held {l : List Rf} {r : Rf} (h1 : Right l) (h2 : ok r) (h3 : asked l r.c = true) : tkE l r = 11 ∧ tkL l r = l ∧ tkH l r = false := by
  have e : tkE l r = 11 := by unfold tkE; rw [if_pos ⟨h1, h2⟩, if_pos h3]
  exact ⟨e, by unfold tkL; rw [e]; rfl, by unfold tkH; rw [e]; rfl⟩
theorem tk_ok {l : List Rf} {r : Rf} (h1 : Right l) (h2 : ok r) (h3 : asked l r.c = false) : tkE l r = 0 ∧ tkL l r = l ++ [r] ∧ tkH l r = decide (l.length = 0) := by
  have e : tkE l r = 0 := by unfold tkE; rw [if_pos ⟨h1, h2⟩, if_neg (by rw [h3]; decide)]
  exact ⟨e, by unfold tkL; rw [if_pos e], by unfold tkH; rw [decide_eq_true e, Bool.true_and]⟩
def frE (l : List Rf) (r : Rf) : Int := if Right l then (if l.length = 0 then 12 else if mine (l.headD zero) r then 0 else 12) else 1
def frL (l : List Rf) (r : Rf) : List Rf := if frE l r = 0 then l.drop 1 else l
def frN (l : List Rf) (r : Rf) : Rf := if frE l r = 0 then (l.drop 1).headD zero else zero
def frS (l : List Rf) (r : Rf) : Bool := decide (frE l r = 0) && decide (1 < l.length)
theorem fr_no {l : List Rf} {r : Rf} {z : Int} (e : frE l r = z) (hz : ¬ z = 0) : frE l r = z ∧ frL l r = l ∧ frN l r = zero ∧ frS l r = false := by
  have e2 : ¬ frE l r = 0 := by rw [e]; exact hz
  exact ⟨e, if_neg e2, if_neg e2, by unfold frS; rw [decide_eq_false e2]; rfl⟩
theorem fr_bad {l : List Rf} {r : Rf} (h : ¬ Right l) : frE l r = 1 ∧ frL l r = l ∧ frN l r = zero ∧ frS l r = false := fr_no (if_neg h) (by decide)
theorem fr_none {l : List Rf} {r : Rf} (h : Right l) (h0 : l.length = 0) : frE l r = 12 ∧ frL l r = l ∧ frN l r = zero ∧ frS l r = false :=
  fr_no (by unfold frE; rw [if_pos h, if_pos h0]) (by decide)
theorem fr_other {l : List Rf} {r x : Rf} (h : Right l) (hx : l[0]? = some x) (hm : ¬ mine x r) : frE l r = 12 ∧ frL l r = l ∧ frN l r = zero ∧ frS l r = false := by
  cases l with
  | nil => cases hx
  | cons y m =>
    injection hx with hx
    subst hx
    exact fr_no (by unfold frE; rw [if_pos h, if_neg (by simp)]; exact if_neg hm) (by decide)
theorem fr_yes {l : List Rf} {r x : Rf} (h : Right l) (hx : l[0]? = some x) (hm : mine x r) : frE l r = 0 := by
  cases l with
  | nil => cases hx
  | cons y m =>
    injection hx with hx
    subst hx
    unfold frE; rw [if_pos h, if_neg (by simp)]; exact if_pos hm
theorem fr_last {l : List Rf} {r x : Rf} (h : Right l) (hx : l[0]? = some x) (hm : mine x r) (h1 : l.length = 1) : frE l r = 0 ∧ frL l r = [] ∧ frN l r = zero ∧ frS l r = false := by
  have e := fr_yes h hx hm
  have e2 : l.drop 1 = [] := List.drop_eq_nil_of_le (by omega)
  exact ⟨e, by unfold frL; rw [if_pos e, e2], by unfold frN; rw [if_pos e, e2]; rfl, by unfold frS; rw [h1]; simp⟩
theorem fr_next {l : List Rf} {r x y : Rf} (h : Right l) (hx : l[0]? = some x) (hm : mine x r) (hy : l[1]? = some y) : frE l r = 0 ∧ frL l r = l.drop 1 ∧ frN l r = y ∧ frS l r = true := by
  have e := fr_yes h hx hm
  match l, hy with
  | a :: b :: m, hy =>
    simp at hy
    subst hy
    exact ⟨e, by unfold frL; rw [if_pos e], by unfold frN; rw [if_pos e]; rfl, by unfold frS; rw [e]; simp⟩
/-- Without a session's requests. -/
def wo (l : List Rf) (r : Rf) : List Rf := l.filter fun x => !decide (mine x r)
def drL (l : List Rf) (r : Rf) : List Rf := if Right l then wo l r else l
def drS (l : List Rf) (r : Rf) : Bool := decide (Right l) && decide (0 < (wo l r).length) && !decide ((wo l r).headD zero = l.headD zero)
def drN (l : List Rf) (r : Rf) : Rf := if drS l r = true then (wo l r).headD zero else zero
theorem dr_no {l : List Rf} {r : Rf} (h : drS l r = false) : drS l r = false ∧ drN l r = zero := ⟨h, by unfold drN; rw [h]; rfl⟩
theorem dr_bad {l : List Rf} {r : Rf} (h : ¬ Right l) : drL l r = l ∧ drN l r = zero ∧ drS l r = false := by
  have e : drS l r = false := by unfold drS; rw [decide_eq_false h]; rfl
  exact ⟨if_neg h, (dr_no e).2, e⟩
theorem dr_none {l : List Rf} {r : Rf} (h : Right l) (h0 : (wo l r).length = 0) : drL l r = wo l r ∧ drN l r = zero ∧ drS l r = false := by
  have e : drS l r = false := by unfold drS; rw [h0]; simp
  exact ⟨if_pos h, (dr_no e).2, e⟩
theorem head_of {l : List Rf} {x : Rf} (h : l[0]? = some x) : l.headD zero = x := by
  cases l with
  | nil => cases h
  | cons y m => injection h
theorem dr_same {l : List Rf} {r x y : Rf} (h : Right l) (hx : (wo l r)[0]? = some x) (hy : l[0]? = some y) (he : x = y) : drL l r = wo l r ∧ drN l r = zero ∧ drS l r = false := by
  have e : drS l r = false := by unfold drS; rw [head_of hx, head_of hy, he]; simp
  exact ⟨if_pos h, (dr_no e).2, e⟩
theorem dr_new {l : List Rf} {r x y : Rf} (h : Right l) (hx : (wo l r)[0]? = some x) (hy : l[0]? = some y) (he : ¬ x = y) : drL l r = wo l r ∧ drN l r = x ∧ drS l r = true := by
  have h0 := (List.getElem?_eq_some_iff.1 hx).1
  have e : drS l r = true := by unfold drS; rw [head_of hx, head_of hy, decide_eq_true h, decide_eq_true h0, decide_eq_false he]; rfl
  exact ⟨if_pos h, by unfold drN; rw [if_pos e, head_of hx], e⟩
/-- The first so many: one more, that is taken or not. -/
theorem wo_take_in {l : List Rf} {r x : Rf} {k : Nat} (hx : l[k]? = some x) (hm : ¬ mine x r) : wo (l.take (k + 1)) r = wo (l.take k) r ++ [x] := by
  unfold wo
  rw [List.take_add_one, hx, List.filter_append]
  simp [hm]
theorem wo_take_out {l : List Rf} {r x : Rf} {k : Nat} (hx : l[k]? = some x) (hm : mine x r) : wo (l.take (k + 1)) r = wo (l.take k) r := by
  unfold wo
  rw [List.take_add_one, hx, List.filter_append]
  simp [hm]
theorem wo_le (l : List Rf) (r : Rf) : (wo l r).length ≤ l.length := List.length_filter_le ..
theorem wo_first {l : List Rf} {r x : Rf} (h : (wo l r)[0]? = some x) : ∃ y, l[0]? = some y := by
  cases l with
  | nil => cases h
  | cons y m => exact ⟨y, rfl⟩
/-- A lock that may be has no more than five, may still be behind each call. -/
theorem asked_append (l m : List Rf) (c : Int) : asked (l ++ m) c = (asked l c || asked m c) := List.any_append
theorem right_ap {l : List Rf} {r : Rf} (h : Right l) (h2 : ok r) (h3 : asked l r.c = false) : Right (l ++ [r]) := by
  intro i hi x hx
  rcases Nat.lt_or_ge i l.length with hl | hl
  · rw [List.getElem?_append_left hl] at hx
    rw [List.take_append_of_le_length (by omega)]
    exact h i hl x hx
  · have e : i = l.length := by rw [List.length_append] at hi; simp at hi; omega
    subst e
    simp at hx
    subst hx
    rw [List.take_left]
    exact ⟨h2, h3⟩
theorem right_cons {x : Rf} {m : List Rf} : Right (x :: m) ↔ ok x ∧ asked m x.c = false ∧ Right m := by
  constructor
  · intro h
    have h0 := h 0 (by simp) x rfl
    have hA : ∀ i y, m[i]? = some y → ok y ∧ asked (m.take i) y.c = false ∧ ¬ x.c = y.c := fun i y hy => by
      have h1 := h (i + 1) (by have := (List.getElem?_eq_some_iff.1 hy).1; simp; omega) y (by rw [List.getElem?_cons_succ]; exact hy)
      rw [List.take_succ_cons] at h1
      have h2 : asked (x :: m.take i) y.c = (decide (x.c = y.c) || asked (m.take i) y.c) := rfl
      rw [h2, Bool.or_eq_false_iff, decide_eq_false_iff_not] at h1
      exact ⟨h1.1, h1.2.2, h1.2.1⟩
    refine ⟨h0.1, (asked_told (l := m) rfl x.c).2 fun i y _ hy e => (hA i y hy).2.2 e.symm, fun i _ y hy => ⟨(hA i y hy).1, (hA i y hy).2.1⟩⟩
  · rintro ⟨h1, h2, h3⟩ i hi y hy
    cases i with
    | zero => injection hy with hy; subst hy; exact ⟨h1, rfl⟩
    | succ i =>
      rw [List.getElem?_cons_succ] at hy
      have h4 := h3 i (by simp at hi; omega) y hy
      refine ⟨h4.1, ?_⟩
      rw [List.take_succ_cons]
      show (decide (x.c = y.c) || asked (m.take i) y.c) = false
      rw [h4.2, Bool.or_false, decide_eq_false_iff_not]
      intro e
      rw [(asked_told (l := m) rfl x.c).1 i y hy e.symm] at h2
      cases h2
theorem asked_filter {m : List Rf} {c : Int} (p : Rf → Bool) (h : asked m c = false) : asked (m.filter p) c = false := by
  rw [Bool.eq_false_iff] at h ⊢
  intro ha
  obtain ⟨x, hx, hd⟩ := List.any_eq_true.1 ha
  exact h (List.any_eq_true.2 ⟨x, (List.mem_filter.1 hx).1, hd⟩)
theorem right_filter (p : Rf → Bool) : ∀ {l : List Rf}, Right l → Right (l.filter p)
  | [], _ => right_nil
  | x :: m, h => by
    obtain ⟨h1, h2, h3⟩ := right_cons.1 h
    rw [List.filter_cons]
    split
    · exact right_cons.2 ⟨h1, asked_filter p h2, right_filter p h3⟩
    · exact right_filter p h3
/-- A lock that may be has five requests at most. -/
theorem len_filter {q : Int} : ∀ {l : List Rf}, Right l → l.length ≤ (l.filter fun x => !decide (x.c = q)).length + 1
  | [], _ => Nat.zero_le _
  | x :: m, h => by
    obtain ⟨_, h2, h3⟩ := right_cons.1 h
    by_cases hq : x.c = q
    · subst hq
      have e : (m.filter fun y => !decide (y.c = x.c)) = m := List.filter_eq_self.2 fun y hy => by
        obtain ⟨i, hi⟩ := List.mem_iff_getElem?.1 hy
        rw [Bool.not_eq_true', decide_eq_false_iff_not]
        intro hc
        rw [(asked_told (l := m) rfl x.c).1 i y hi hc] at h2
        cases h2
      rw [List.filter_cons_of_neg (by simp), e, List.length_cons]
      exact Nat.le_refl _
    · rw [List.filter_cons_of_pos (by simp [hq]), List.length_cons, List.length_cons]
      have := len_filter (q := q) h3
      omega
theorem len_below : ∀ (k : Nat) {l : List Rf}, Right l → (∀ x ∈ l, x.c < (k : Int)) → l.length ≤ k
  | 0, l, h, hk => by
    cases l with
    | nil => exact Nat.le_refl _
    | cons x m =>
      have h1 := hk x (List.mem_cons_self ..)
      have h2 := (right_cons.1 h).1.1
      omega
  | k + 1, l, h, hk => by
    have h1 := len_filter (q := (k : Int)) h
    have h2 := len_below k (right_filter (fun x => !decide (x.c = (k : Int))) h) fun x hx => by
      obtain ⟨h3, h4⟩ := List.mem_filter.1 hx
      have h5 := hk x h3
      have h6 : ¬ x.c = (k : Int) := by simpa using h4
      omega
    omega
theorem right_len {l : List Rf} (h : Right l) : l.length ≤ 5 := len_below 5 h fun x hx => by
  obtain ⟨i, hi⟩ := List.mem_iff_getElem?.1 hx
  exact (h i (List.getElem?_eq_some_iff.1 hi).1 x hi).1.2.1
/-- What is given up, without asking who is next. -/
theorem fr_take {l : List Rf} {r x : Rf} (h : Right l) (hx : l[0]? = some x) (hm : mine x r) : frE l r = 0 ∧ frL l r = l.drop 1 ∧ frN l r = (l.drop 1).headD zero ∧ frS l r = decide (0 < (l.drop 1).length) := by
  have e := fr_yes h hx hm
  refine ⟨e, by unfold frL; rw [if_pos e], by unfold frN; rw [if_pos e], ?_⟩
  unfold frS
  rw [decide_eq_true e, Bool.true_and, List.length_drop]
  exact decide_eq_decide.2 (by omega)
theorem tk_right {l : List Rf} (h : Right l) (r : Rf) : Right (tkL l r) := by
  unfold tkL
  split
  next he =>
    unfold tkE at he
    split at he
    next hr =>
      split at he
      · cases he
      next ha => exact right_ap hr.1 hr.2 (Bool.eq_false_iff.2 ha)
    next => cases he
  next => exact h
theorem fr_right {l : List Rf} (h : Right l) (r : Rf) : Right (frL l r) := by
  unfold frL
  split
  · cases l with
    | nil => exact right_nil
    | cons x m => exact (right_cons.1 h).2.2
  · exact h
theorem dr_right {l : List Rf} (h : Right l) (r : Rf) : Right (drL l r) := by
  unfold drL
  rw [if_pos h]
  exact right_filter _ h
end Lck
end Go.Proofs.Ytbcdmmhbmjjooaa
