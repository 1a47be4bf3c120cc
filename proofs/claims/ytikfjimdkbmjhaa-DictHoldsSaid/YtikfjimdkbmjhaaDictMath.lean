/-
  Maps as lists of pairs in their keys' order: which may be, what is asked, put, cut and swapped; what follows of one another.
  Pure.
-/
import Derived.Test.YtikfjimdkbmjhaaValM
import GoSem.Op.String
set_option linter.unusedSimpArgs false
set_option linter.unusedVariables false
namespace Go.Proofs.Ytikfjimdkbmjhaa
namespace Dct
/-- A pair. -/
structure Pr where
  key : ByteArray
  val : Val.V
open Go.Op in
theorem bl_irrefl : ∀ a : List UInt8, bytesLess a a = false
  | [] => rfl
  | x :: r => by
    unfold bytesLess
    rw [bl_irrefl r]; simp
open Go.Op in
theorem bl_trans : ∀ a b c : List UInt8, bytesLess a b = true → bytesLess b c = true → bytesLess a c = true
  | _, [], _, h, _ => by cases ‹List UInt8› <;> simp [bytesLess] at h
  | _, _ :: _, [], _, h => by simp [bytesLess] at h
  | [], _ :: _, _ :: _, _, _ => rfl
  | x :: a, y :: b, z :: c, h1, h2 => by
    simp only [bytesLess, Bool.or_eq_true, Bool.and_eq_true, decide_eq_true_eq, beq_iff_eq] at h1 h2 ⊢
    rcases h1 with h1 | ⟨rfl, h1⟩ <;> rcases h2 with h2 | ⟨rfl, h2⟩
    · exact .inl (UInt8.lt_trans h1 h2)
    · exact .inl h1
    · exact .inl h2
    · exact .inr ⟨rfl, bl_trans a b c h1 h2⟩
open Go.Op in
theorem bl_tri : ∀ a b : List UInt8, bytesLess a b = true ∨ a = b ∨ bytesLess b a = true
  | [], [] => .inr (.inl rfl)
  | [], _ :: _ => .inl rfl
  | _ :: _, [] => .inr (.inr rfl)
  | x :: a, y :: b => by
    simp only [bytesLess, Bool.or_eq_true, Bool.and_eq_true, decide_eq_true_eq, beq_iff_eq]
    by_cases h1 : x < y
    · exact .inl (.inl h1)
    by_cases h2 : y < x
    · exact .inr (.inr (.inl h2))
    have e : x = y := by
      apply UInt8.toNat_inj.1
      have h1' : ¬ x.toNat < y.toNat := h1
      have h2' : ¬ y.toNat < x.toNat := h2
      omega
    subst e
    rcases bl_tri a b with h | h | h
    · exact .inl (.inr ⟨rfl, h⟩)
    · exact .inr (.inl (by rw [h]))
    · exact .inr (.inr (.inr ⟨rfl, h⟩))
/-- A key stands ahead of another one. -/
def lt (a b : ByteArray) : Bool := Go.Op.bytesLess a.toList b.toList
theorem toList_inj {a b : ByteArray} (h : a.toList = b.toList) : a = b := by
  rw [ByteArray.toList_eq, ByteArray.toList_eq] at h
  apply ByteArray.ext
  exact Array.toList_inj.1 h
theorem eq_iff {a b : ByteArray} : a = b ↔ a.toList = b.toList := ⟨fun h => by rw [h], toList_inj⟩
theorem lt_irrefl (a : ByteArray) : lt a a = false := bl_irrefl _
theorem lt_trans {a b c : ByteArray} (h1 : lt a b = true) (h2 : lt b c = true) : lt a c = true := bl_trans _ _ _ h1 h2
theorem lt_tri (a b : ByteArray) : lt a b = true ∨ a = b ∨ lt b a = true := by
  rcases bl_tri a.toList b.toList with h | h | h
  · exact .inl h
  · exact .inr (.inl (toList_inj h))
  · exact .inr (.inr h)
theorem lt_ne {a b : ByteArray} (h : lt a b = true) : ¬ a = b := fun e => by rw [e, lt_irrefl] at h; cases h
theorem lt_asymm {a b : ByteArray} (h : lt a b = true) : lt b a = false := by
  cases hb : lt b a with
  | false => rfl
  | true => have := lt_trans h hb; rw [lt_irrefl] at this; cases this
/-- Whether a map may have such a pair. -/
def pchk (k : ByteArray) (v : Val.V) : Int := if v.k = 0 then 1 else if 64 < k.size then 2 else Val.chk v
def Up (l : List Pr) : Prop := l.Pairwise fun a b => lt a.key b.key = true
structure Right (l : List Pr) : Prop where
  len : l.length ≤ 8
  ok : ∀ x ∈ l, pchk x.key x.val = 0
  up : Up l
/-- Up to here a map may be: what a round of the loop asks. -/
def Good (l : List Pr) (i : Nat) : Prop := ∀ x, l[i]? = some x → pchk x.key x.val = 0 ∧ ∀ j y, i = j + 1 → l[j]? = some y → lt y.key x.key = true
theorem up_of {l : List Pr} (h : ∀ i x y, l[i]? = some x → l[i + 1]? = some y → lt x.key y.key = true) : Up l := by
  induction l with
  | nil => exact List.Pairwise.nil
  | cons a r ih =>
    have hr := ih fun i x y hx hy => h (i + 1) x y (by simpa using hx) (by simpa using hy)
    refine List.Pairwise.cons (fun b hb => ?_) hr
    match r, hb, hr, h with
    | c :: r', hb, hr, h =>
      have h0 := h 0 a c rfl rfl
      rcases List.mem_cons.1 hb with rfl | hb
      · exact h0
      · exact lt_trans h0 ((List.pairwise_cons.1 hr).1 b hb)
theorem right_iff (l : List Pr) : Right l ↔ l.length ≤ 8 ∧ ∀ i, i < l.length → Good l i := by
  constructor
  · intro h
    refine ⟨h.len, fun i hi x hx => ⟨h.ok x (List.mem_of_getElem? hx), fun j y hj hy => ?_⟩⟩
    subst hj
    obtain ⟨h1, e1⟩ := List.getElem?_eq_some_iff.1 hx
    obtain ⟨h2, e2⟩ := List.getElem?_eq_some_iff.1 hy
    have := (List.pairwise_iff_getElem.1 h.up) j (j + 1) h2 h1 (by omega)
    rw [e1, e2] at this
    exact this
  · intro h
    refine ⟨h.1, fun x hx => ?_, up_of fun i x y hx hy => ?_⟩
    · obtain ⟨i, hi, e⟩ := List.getElem_of_mem hx
      exact (h.2 i hi x (by rw [List.getElem?_eq_getElem hi, e])).1
    · exact (h.2 (i + 1) (List.getElem?_eq_some_iff.1 hy).1 y hy).2 i x rfl hx
theorem right_nil : Right [] := ⟨by simp, fun x hx => by simp at hx, List.Pairwise.nil⟩
/-- What a key has. -/
def fnd : List Pr → ByteArray → Option Val.V
  | [], _ => none
  | x :: r, k => if x.key = k then some x.val else fnd r k
def wo (l : List Pr) (k : ByteArray) : List Pr := l.filter fun p => !decide (p.key = k)
/-- How many keys stand ahead. -/
def idx : List Pr → ByteArray → Nat
  | [], _ => 0
  | x :: r, k => if lt x.key k = true then idx r k + 1 else 0
/-- The place behind the key's own pair. -/
def fin (l : List Pr) (k : ByteArray) : Nat := match l[idx l k]? with
  | some x => if x.key = k then idx l k + 1 else idx l k
  | none => idx l k
theorem idx_le (l : List Pr) (k : ByteArray) : idx l k ≤ l.length := by
  induction l with
  | nil => exact Nat.le_refl _
  | cons x r ih => unfold idx; split <;> simp <;> omega
theorem idx_lt {l : List Pr} {k : ByteArray} {i : Nat} {x : Pr} (h : i < idx l k) (hx : l[i]? = some x) : lt x.key k = true := by
  induction l generalizing i with
  | nil => simp at hx
  | cons y r ih =>
    unfold idx at h
    split at h
    next hy =>
      match i, h, hx with
      | 0, _, hx => simp at hx; subst hx; exact hy
      | i + 1, h, hx => exact ih (i := i) (Nat.lt_of_succ_lt_succ h) (by simpa using hx)
    · omega
theorem idx_at {l : List Pr} {k : ByteArray} {x : Pr} (hx : l[idx l k]? = some x) : lt x.key k = false := by
  induction l with
  | nil => simp at hx
  | cons y r ih =>
    unfold idx at hx
    split at hx
    · exact ih (by simpa using hx)
    next hy => simp at hx; subst hx; simpa using hy
/-- What counts the keys ahead is the place at which they end. -/
theorem idx_unique {l : List Pr} {k : ByteArray} {i : Nat} (h1 : ∀ j x, j < i → l[j]? = some x → lt x.key k = true) (hi : i ≤ l.length) (h2 : ∀ x, l[i]? = some x → lt x.key k = false) : idx l k = i := by
  rcases Nat.lt_trichotomy (idx l k) i with h | h | h
  · obtain ⟨x, hx⟩ : ∃ x, l[idx l k]? = some x := ⟨_, List.getElem?_eq_getElem (by omega)⟩
    have e1 := h1 _ x h hx
    rw [idx_at hx] at e1; cases e1
  · exact h
  · have hle := idx_le l k
    obtain ⟨x, hx⟩ : ∃ x, l[i]? = some x := ⟨_, List.getElem?_eq_getElem (by omega)⟩
    have e1 := idx_lt h hx
    rw [h2 x hx] at e1; cases e1
theorem fin_le (l : List Pr) (k : ByteArray) : idx l k ≤ fin l k ∧ fin l k ≤ l.length := by
  have h := idx_le l k
  unfold fin
  split
  next x hx =>
    have := (List.getElem?_eq_some_iff.1 hx).1
    split <;> omega
  next => omega
theorem fin_cons_lt {x : Pr} {r : List Pr} {k : ByteArray} (h : lt x.key k = true) : idx (x :: r) k = idx r k + 1 ∧ fin (x :: r) k = fin r k + 1 := by
  have e : idx (x :: r) k = idx r k + 1 := by conv => lhs; unfold idx; rw [if_pos h]
  refine ⟨e, ?_⟩
  unfold fin
  rw [e, List.getElem?_cons_succ]
  split <;> (try split) <;> rfl
theorem fin_cons_eq {x : Pr} {r : List Pr} : idx (x :: r) x.key = 0 ∧ fin (x :: r) x.key = 1 := by
  have e : idx (x :: r) x.key = 0 := by unfold idx; rw [if_neg (by rw [lt_irrefl]; simp)]
  refine ⟨e, ?_⟩
  unfold fin
  rw [e]
  simp
theorem fin_cons_gt {x : Pr} {r : List Pr} {k : ByteArray} (h : lt k x.key = true) : idx (x :: r) k = 0 ∧ fin (x :: r) k = 0 := by
  have e : idx (x :: r) k = 0 := by unfold idx; rw [if_neg (by rw [lt_asymm h]; simp)]
  refine ⟨e, ?_⟩
  unfold fin
  rw [e]
  have hne : ¬ x.key = k := fun e => lt_ne h e.symm
  simp [hne]
theorem wo_above {l : List Pr} {k : ByteArray} (h : ∀ x ∈ l, ¬ x.key = k) : wo l k = l := by
  unfold wo
  rw [List.filter_eq_self]
  intro x hx
  simp [h x hx]
theorem fnd_above {l : List Pr} {k : ByteArray} (h : ∀ x ∈ l, ¬ x.key = k) : fnd l k = none := by
  induction l with
  | nil => rfl
  | cons x r ih =>
    unfold fnd
    rw [if_neg (h x (List.mem_cons_self ..))]
    exact ih fun y hy => h y (List.mem_cons_of_mem _ hy)
theorem above {x : Pr} {r : List Pr} (h : Up (x :: r)) {k : ByteArray} (hk : x.key = k ∨ lt k x.key = true) : ∀ y ∈ r, lt k y.key = true := fun y hy => by
  have h1 := (List.pairwise_cons.1 h).1 y hy
  rcases hk with rfl | hk
  · exact h1
  · exact lt_trans hk h1
theorem idx_above {l : List Pr} {k : ByteArray} (h : ∀ y ∈ l, lt k y.key = true) : idx l k = 0 := by
  match l, h with
  | [], _ => rfl
  | x :: r, h => exact (fin_cons_gt (h x (List.mem_cons_self ..))).1
/-- Without a key: what stands ahead, and behind. -/
theorem wo_parts {l : List Pr} (h : Up l) (k : ByteArray) : l.take (idx l k) ++ l.drop (fin l k) = wo l k ∧ idx (wo l k) k = idx l k ∧ (fnd l k = if fin l k = idx l k then none else (l[idx l k]?).map (·.val)) ∧ fin l k ≤ idx l k + 1 := by
  induction l with
  | nil => exact ⟨rfl, rfl, rfl, Nat.le_succ 0⟩
  | cons x r ih =>
    obtain ⟨i1, i2, i3, i4⟩ := ih (List.pairwise_cons.1 h).2
    rcases lt_tri x.key k with hk | hk | hk
    · obtain ⟨e1, e2⟩ := fin_cons_lt (r := r) hk
      have hne := lt_ne hk
      have ew : wo (x :: r) k = x :: wo r k := by unfold wo; rw [List.filter_cons_of_pos (by simp [hne])]
      refine ⟨?_, ?_, ?_, by omega⟩
      · rw [e1, e2, ew, List.take_succ_cons, List.drop_succ_cons, List.cons_append, i1]
      · rw [ew, (fin_cons_lt hk).1, i2, e1]
      · rw [e1, e2, List.getElem?_cons_succ]
        have ef : fnd (x :: r) k = fnd r k := by conv => lhs; unfold fnd; rw [if_neg hne]
        rw [ef, i3]
        by_cases hh : fin r k = idx r k
        · rw [if_pos hh, if_pos (by omega)]
        · rw [if_neg hh, if_neg (by omega)]
    · subst hk
      obtain ⟨e1, e2⟩ := fin_cons_eq (x := x) (r := r)
      have hab := above h (.inl rfl)
      have hr : wo r x.key = r := wo_above fun y hy e => lt_ne (hab y hy) e.symm
      have ew : wo (x :: r) x.key = r := by unfold wo; rw [List.filter_cons_of_neg (by simp)]; exact hr
      refine ⟨?_, ?_, ?_, by omega⟩
      · rw [e1, e2, ew]; rfl
      · rw [ew, e1]; exact idx_above hab
      · rw [e1, e2]; unfold fnd; simp
    · obtain ⟨e1, e2⟩ := fin_cons_gt (r := r) hk
      have hab := above h (.inr hk)
      have hne : ∀ y ∈ x :: r, ¬ y.key = k := fun y hy e => by
        rcases List.mem_cons.1 hy with rfl | hy
        · exact lt_ne hk e.symm
        · exact lt_ne (hab y hy) e.symm
      rw [wo_above hne, fnd_above hne, e1, e2]
      exact ⟨rfl, rfl, by simp, Nat.le_succ 0⟩
/-- With a key's new value. -/
def ins (l : List Pr) (k : ByteArray) (v : Val.V) : List Pr := l.take (idx l k) ++ [⟨k, v⟩] ++ l.drop (fin l k)
theorem wo_take {l : List Pr} (h : Up l) (k : ByteArray) : (wo l k).take (idx l k) = l.take (idx l k) ∧ (wo l k).drop (idx l k) = l.drop (fin l k) := by
  have e := (wo_parts h k).1
  have hl : (l.take (idx l k)).length = idx l k := by rw [List.length_take]; have := idx_le l k; omega
  rw [← e]
  constructor
  · exact List.take_left' hl
  · exact List.drop_left' hl
theorem ins_wo {l : List Pr} (h : Up l) (k : ByteArray) (v : Val.V) : (wo l k).take (idx (wo l k) k) ++ [⟨k, v⟩] ++ (wo l k).drop (idx (wo l k) k) = ins l k v := by
  rw [(wo_parts h k).2.1, (wo_take h k).1, (wo_take h k).2]; rfl
theorem wo_length {l : List Pr} (h : Up l) (k : ByteArray) : (wo l k).length = idx l k + (l.length - fin l k) := by
  rw [← (wo_parts h k).1, List.length_append, List.length_take, List.length_drop]
  have := idx_le l k
  omega
theorem wo_up {l : List Pr} (h : Up l) (k : ByteArray) : Up (wo l k) := List.Pairwise.filter _ h
theorem wo_mem {l : List Pr} {k : ByteArray} {x : Pr} : x ∈ wo l k ↔ x ∈ l ∧ ¬ x.key = k := by
  unfold wo; rw [List.mem_filter]; simp
theorem wo_right {l : List Pr} (h : Right l) (k : ByteArray) : Right (wo l k) :=
  ⟨Nat.le_trans (List.length_filter_le _ _) h.len, fun x hx => h.ok x (wo_mem.1 hx).1, wo_up h.up k⟩
theorem fnd_wo (l : List Pr) (k : ByteArray) : fnd (wo l k) k = none := fnd_above fun x hx => (wo_mem.1 hx).2
theorem fnd_wo_ne {k j : ByteArray} (hj : ¬ k = j) : ∀ l : List Pr, fnd (wo l k) j = fnd l j
  | [] => rfl
  | x :: r => by
    have ih := fnd_wo_ne hj r
    unfold wo at ih ⊢
    by_cases hx : x.key = k
    · rw [List.filter_cons_of_neg (by simp [hx]), ih]
      conv => rhs; unfold fnd
      rw [if_neg (fun e => hj (by rw [← hx, e]))]
    · rw [List.filter_cons_of_pos (by simp [hx])]
      unfold fnd
      rw [ih]
theorem fnd_append (a b : List Pr) (k : ByteArray) : fnd (a ++ b) k = (fnd a k).or (fnd b k) := by
  induction a with
  | nil => simp [fnd]
  | cons x r ih =>
    rw [List.cons_append]
    show (if x.key = k then some x.val else fnd (r ++ b) k) = (if x.key = k then some x.val else fnd r k).or (fnd b k)
    split
    · rfl
    · exact ih
theorem ins_up {l : List Pr} (h : Up l) (k : ByteArray) (v : Val.V) : Up (ins l k v) := by
  have hw := wo_up h k
  obtain ⟨e1, e2⟩ := wo_take h k
  have hm : ∀ {x}, x ∈ l.take (idx l k) → lt x.key k = true := fun hx => by
    obtain ⟨i, hi, e⟩ := List.getElem_of_mem hx
    rw [List.getElem_take] at e
    rw [List.length_take] at hi
    exact idx_lt (l := l) (i := i) (by omega) (by rw [List.getElem?_eq_getElem (by omega), e])
  have hd : ∀ {x}, x ∈ l.drop (fin l k) → lt k x.key = true := fun {x} hx => by
    have hxw : x ∈ wo l k := by rw [← (wo_parts h k).1]; exact List.mem_append_right _ hx
    rcases lt_tri x.key k with hk | hk | hk
    · exfalso
      obtain ⟨i, hi, e⟩ := List.getElem_of_mem hx
      rw [List.getElem_drop] at e
      rw [List.length_drop] at hi
      have hle := fin_le l k
      obtain ⟨y, hy⟩ : ∃ y, l[idx l k]? = some y := ⟨_, List.getElem?_eq_getElem (by omega)⟩
      have h1 := idx_at hy
      have h2 : l[fin l k + i]? = some x := by rw [List.getElem?_eq_getElem (by omega), e]
      by_cases hc : fin l k + i = idx l k
      · rw [hc, hy] at h2
        injection h2 with h2
        rw [h2, hk] at h1; cases h1
      · obtain ⟨g1, q1⟩ := List.getElem?_eq_some_iff.1 hy
        obtain ⟨g2, q2⟩ := List.getElem?_eq_some_iff.1 h2
        have := (List.pairwise_iff_getElem.1 h) _ _ g1 g2 (by omega)
        rw [q1, q2] at this
        have := lt_trans this hk
        rw [h1] at this; cases this
    · exact absurd hk (wo_mem.1 hxw).2
    · exact hk
  unfold ins Up
  rw [List.append_assoc, List.pairwise_append]
  refine ⟨h.sublist (List.take_sublist _ _), ?_, fun a ha b hb => ?_⟩
  · exact List.Pairwise.cons (fun b hb => hd hb) (h.sublist (List.drop_sublist _ _))
  · rcases List.mem_append.1 hb with hb | hb
    · rw [List.mem_singleton] at hb; subst hb; exact hm ha
    · exact lt_trans (hm ha) (hd hb)
theorem ins_perm {l : List Pr} (h : Up l) (k : ByteArray) (v : Val.V) : (ins l k v).Perm (wo l k ++ [⟨k, v⟩]) := by
  unfold ins
  rw [← (wo_parts h k).1, List.append_assoc, List.append_assoc]
  exact List.Perm.append_left _ List.perm_append_comm
theorem ins_right {l : List Pr} (h : Right l) {k : ByteArray} {v : Val.V} (hv : pchk k v = 0) (hn : (wo l k).length < 8) : Right (ins l k v) := by
  have hp := ins_perm h.up k v
  refine ⟨?_, fun x hx => ?_, ins_up h.up k v⟩
  · rw [hp.length_eq, List.length_append]; exact hn
  · rcases List.mem_append.1 (hp.mem_iff.1 hx) with hx | hx
    · exact h.ok x (wo_mem.1 hx).1
    · rw [List.mem_singleton] at hx; subst hx; exact hv
theorem wo_perm {a b : List Pr} (h : a.Perm b) (k : ByteArray) : (wo a k).Perm (wo b k) := h.filter _
/-- Keys are apart. -/
def Apart (l : List Pr) : Prop := l.Pairwise fun a b => ¬ a.key = b.key
theorem Up.apart {l : List Pr} (h : Up l) : Apart l := h.imp fun hab => lt_ne hab
theorem apart_perm {a b : List Pr} (h : a.Perm b) (ha : Apart a) : Apart b := h.pairwise ha fun hab e => hab e.symm
theorem fnd_mem {l : List Pr} (h : Apart l) {x : Pr} (hx : x ∈ l) : fnd l x.key = some x.val := by
  induction l with
  | nil => simp at hx
  | cons y r ih =>
    unfold fnd
    rcases List.mem_cons.1 hx with rfl | hx
    · rw [if_pos rfl]
    · rw [if_neg ((List.pairwise_cons.1 h).1 x hx)]
      exact ih (List.pairwise_cons.1 h).2 hx
theorem fnd_some {l : List Pr} {k : ByteArray} {v : Val.V} (h : fnd l k = some v) : ∃ x ∈ l, x.key = k ∧ x.val = v := by
  induction l with
  | nil => cases h
  | cons y r ih =>
    unfold fnd at h
    split at h
    next hy => injection h with h; exact ⟨y, List.mem_cons_self .., hy, h⟩
    · obtain ⟨x, hx, e⟩ := ih h; exact ⟨x, List.mem_cons_of_mem _ hx, e⟩
theorem fnd_none {l : List Pr} {k : ByteArray} (h : fnd l k = none) : ∀ x ∈ l, ¬ x.key = k := by
  induction l with
  | nil => intro x hx; simp at hx
  | cons y r ih =>
    unfold fnd at h
    split at h
    · cases h
    next hy =>
      intro x hx
      rcases List.mem_cons.1 hx with rfl | hx
      · exact hy
      · exact ih h x hx
theorem fnd_perm {a b : List Pr} (h : a.Perm b) (ha : Apart a) (k : ByteArray) : fnd a k = fnd b k := by
  cases hb : fnd b k with
  | some v =>
    obtain ⟨x, hx, rfl, rfl⟩ := fnd_some hb
    exact fnd_mem ha (h.mem_iff.2 hx)
  | none =>
    exact fnd_above fun x hx => fnd_none hb x (h.mem_iff.1 hx)
theorem fnd_ins {l : List Pr} (h : Up l) (k : ByteArray) (v : Val.V) : fnd (ins l k v) k = some v :=
  fnd_mem (x := ⟨k, v⟩) (ins_up h k v).apart ((ins_perm h k v).mem_iff.2 (List.mem_append_right _ (List.mem_singleton.2 rfl)))
theorem fnd_ins_ne {l : List Pr} (h : Up l) {k j : ByteArray} (hj : ¬ k = j) (v : Val.V) : fnd (ins l k v) j = fnd l j := by
  rw [fnd_perm (ins_perm h k v) (ins_up h k v).apart, fnd_append, fnd_wo_ne hj]
  have e : fnd [⟨k, v⟩] j = none := fnd_above fun x hx => by rw [List.mem_singleton] at hx; subst hx; exact hj
  rw [e]
  cases fnd l j <;> rfl
theorem wo_ins {l : List Pr} (h : Up l) (k : ByteArray) (v : Val.V) : wo (ins l k v) k = wo l k := by
  unfold ins wo
  rw [List.filter_append, List.filter_append]
  have e : ([⟨k, v⟩] : List Pr).filter (fun p => !decide (p.key = k)) = [] := by simp
  rw [e, List.append_nil, ← List.filter_append]
  show wo (l.take (idx l k) ++ l.drop (fin l k)) k = wo l k
  rw [(wo_parts h k).1]
  exact wo_above fun x hx => (wo_mem.1 hx).2
instance : DecidableEq Val.V := fun a b => decidable_of_iff (a.k = b.k ∧ a.n = b.n ∧ a.f = b.f ∧ a.s = b.s) ⟨fun h => by
  obtain ⟨k, n, f, s⟩ := a
  obtain ⟨k', n', f', s'⟩ := b
  obtain ⟨rfl, rfl, rfl, rfl⟩ := h
  rfl, fun h => by rw [h]; exact ⟨rfl, rfl, rfl, rfl⟩⟩
instance (l : List Pr) : Decidable (Right l) := decidable_of_iff (l.length ≤ 8 ∧ (∀ x ∈ l, pchk x.key x.val = 0) ∧ l.Pairwise (fun (a b : Pr) => lt a.key b.key = true)) ⟨fun h => ⟨h.1, h.2.1, h.2.2⟩, fun h => ⟨h.len, h.ok, h.up⟩⟩
/-- What the calls answer. -/
def emp : Val.V := ⟨0, 0, 0, ⟨#[]⟩⟩
def mchk (l : List Pr) : Int := if Right l then 0 else 1
def gtV (l : List Pr) (k : ByteArray) : Val.V := if Right l then (fnd l k).getD emp else emp
def gtE (l : List Pr) (k : ByteArray) : Int := if Right l then (if (fnd l k).isSome then 0 else 5) else 1
def ptE (l : List Pr) (k : ByteArray) (v : Val.V) : Int := if Right l then (if pchk k v = 0 then (if (wo l k).length < 8 then 0 else 6) else pchk k v) else 1
def ptL (l : List Pr) (k : ByteArray) (v : Val.V) : List Pr := if ptE l k v = 0 then ins l k v else l
def ctL (l : List Pr) (k : ByteArray) : List Pr := if gtE l k = 0 then wo l k else l
def swE (l : List Pr) (k : ByteArray) (o v : Val.V) : Int := if Right l then (if gtV l k = o then (if v = emp then 0 else ptE l k v) else 9) else 1
def swV (l : List Pr) (k : ByteArray) (o : Val.V) : Val.V := if gtV l k = o then emp else gtV l k
def swL (l : List Pr) (k : ByteArray) (o v : Val.V) : List Pr := if swE l k o v = 0 then (if v = emp then wo l k else ins l k v) else l
theorem mchk_one {l : List Pr} (h : ¬ Right l) : mchk l = 1 := if_neg h
theorem mchk_ok {l : List Pr} (h : Right l) : mchk l = 0 := if_pos h
theorem gt_bad {l : List Pr} (h : ¬ Right l) (k : ByteArray) : gtV l k = emp ∧ gtE l k = 1 := ⟨if_neg h, if_neg h⟩
theorem gt_some {l : List Pr} (h : Right l) {k : ByteArray} {v : Val.V} (hf : fnd l k = some v) : gtV l k = v ∧ gtE l k = 0 := by
  unfold gtV gtE; rw [if_pos h, if_pos h, hf]; exact ⟨rfl, rfl⟩
theorem gt_none {l : List Pr} (h : Right l) {k : ByteArray} (hf : fnd l k = none) : gtV l k = emp ∧ gtE l k = 5 := by
  unfold gtV gtE; rw [if_pos h, if_pos h, hf]; exact ⟨rfl, rfl⟩
theorem pt_bad {l : List Pr} (h : ¬ Right l) (k : ByteArray) (v : Val.V) : ptE l k v = 1 ∧ ptL l k v = l := by
  have e : ptE l k v = 1 := if_neg h
  exact ⟨e, by unfold ptL; rw [e]; rfl⟩
theorem pt_chk {l : List Pr} (h : Right l) {k : ByteArray} {v : Val.V} (hv : ¬ pchk k v = 0) : ptE l k v = pchk k v ∧ ptL l k v = l := by
  have e : ptE l k v = pchk k v := by unfold ptE; rw [if_pos h, if_neg hv]
  exact ⟨e, by unfold ptL; rw [e, if_neg hv]⟩
theorem pt_full {l : List Pr} (h : Right l) {k : ByteArray} {v : Val.V} (hv : pchk k v = 0) (hn : ¬ (wo l k).length < 8) : ptE l k v = 6 ∧ ptL l k v = l := by
  have e : ptE l k v = 6 := by unfold ptE; rw [if_pos h, if_pos hv, if_neg hn]
  exact ⟨e, by unfold ptL; rw [e]; rfl⟩
theorem pt_ok {l : List Pr} (h : Right l) {k : ByteArray} {v : Val.V} (hv : pchk k v = 0) (hn : (wo l k).length < 8) : ptE l k v = 0 ∧ ptL l k v = ins l k v := by
  have e : ptE l k v = 0 := by unfold ptE; rw [if_pos h, if_pos hv, if_pos hn]
  exact ⟨e, by unfold ptL; rw [e]; rfl⟩
theorem gt_ne {l : List Pr} {k : ByteArray} (h : ¬ gtE l k = 0) : gtV l k = emp := by
  unfold gtE at h
  unfold gtV
  split at h
  next hr =>
    rw [if_pos hr]
    cases hf : fnd l k with
    | none => rfl
    | some v => rw [hf] at h; exact absurd rfl h
  next hr => rw [if_neg hr]
theorem gt_nb {l : List Pr} (h : Right l) (k : ByteArray) : ¬ gtE l k = 1 := by
  unfold gtE
  rw [if_pos h]
  split <;> decide
theorem gt_ok {l : List Pr} {k : ByteArray} (h : gtE l k = 0) : Right l := by
  unfold gtE at h
  split at h
  next hr => exact hr
  next => cases h
theorem sw_bad {l : List Pr} (h : ¬ Right l) (k : ByteArray) (o v : Val.V) : swE l k o v = 1 ∧ swL l k o v = l ∧ swV l k o = emp := by
  have e : swE l k o v = 1 := if_neg h
  refine ⟨e, ?_, ?_⟩
  · unfold swL; rw [e]; rfl
  · unfold swV; rw [(gt_bad h k).1]; split <;> rfl
theorem sw_unlike {l : List Pr} (h : Right l) {k : ByteArray} {o : Val.V} (v : Val.V) (ho : ¬ gtV l k = o) : swE l k o v = 9 ∧ swL l k o v = l ∧ swV l k o = gtV l k := by
  have e : swE l k o v = 9 := by unfold swE; rw [if_pos h, if_neg ho]
  refine ⟨e, ?_, if_neg ho⟩
  unfold swL; rw [e]; rfl
theorem sw_cut {l : List Pr} (h : Right l) {k : ByteArray} {o : Val.V} (ho : gtV l k = o) : swE l k o emp = 0 ∧ swL l k o emp = wo l k ∧ swV l k o = emp := by
  have e : swE l k o emp = 0 := by unfold swE; rw [if_pos h, if_pos ho, if_pos rfl]
  refine ⟨e, ?_, if_pos ho⟩
  unfold swL; rw [e, if_pos rfl, if_pos rfl]
theorem sw_put {l : List Pr} (h : Right l) {k : ByteArray} {o v : Val.V} (ho : gtV l k = o) (hv : ¬ v = emp) : swE l k o v = ptE l k v ∧ swL l k o v = ptL l k v ∧ swV l k o = emp := by
  have e : swE l k o v = ptE l k v := by unfold swE; rw [if_pos h, if_pos ho, if_neg hv]
  refine ⟨e, ?_, if_pos ho⟩
  unfold swL ptL; rw [e, if_neg hv]
theorem fnd_drop {l : List Pr} {k : Nat} {x : Pr} (h : l[k]? = some x) (key : ByteArray) : fnd (l.drop k) key = if x.key = key then some x.val else fnd (l.drop (k + 1)) key := by
  obtain ⟨h1, h2⟩ := List.getElem?_eq_some_iff.1 h
  rw [List.drop_eq_getElem_cons h1, h2]
  rfl
theorem wo_take_more {l : List Pr} {k : Nat} {x : Pr} (h : l[k]? = some x) (key : ByteArray) : wo (l.take (k + 1)) key = if x.key = key then wo (l.take k) key else wo (l.take k) key ++ [x] := by
  rw [List.take_add_one, h]
  unfold wo
  rw [List.filter_append]
  show List.filter _ (List.take k l) ++ List.filter _ [x] = _
  by_cases hx : x.key = key
  · rw [if_pos hx, List.filter_cons_of_neg (by simp [hx]), List.filter_nil, List.append_nil]
  · rw [if_neg hx, List.filter_cons_of_pos (by simp [hx]), List.filter_nil]
instance : DecidableEq Pr := fun a b => decidable_of_iff (a.key = b.key ∧ a.val = b.val) ⟨fun h => by
  obtain ⟨k, v⟩ := a
  obtain ⟨k', v'⟩ := b
  obtain ⟨rfl, rfl⟩ := h
  rfl, fun h => by rw [h]; exact ⟨rfl, rfl⟩⟩
/-- What is told by parts. -/
theorem fnd_parts {l : List Pr} (h : Up l) (k : ByteArray) : (fin l k = idx l k ∧ fnd l k = none) ∨ (fin l k = idx l k + 1 ∧ ∃ x, l[idx l k]? = some x ∧ fnd l k = some x.val) := by
  obtain ⟨_, _, h3, h4⟩ := wo_parts h k
  obtain ⟨h5, h6⟩ := fin_le l k
  by_cases hh : fin l k = idx l k
  · rw [if_pos hh] at h3; exact .inl ⟨hh, h3⟩
  · rw [if_neg hh] at h3
    have hx : l[idx l k]? = some (l[idx l k]'(by omega)) := List.getElem?_eq_getElem (by omega)
    exact .inr ⟨by omega, _, hx, by rw [h3, hx]; rfl⟩
end Dct
end Go.Proofs.Ytikfjimdkbmjhaa
