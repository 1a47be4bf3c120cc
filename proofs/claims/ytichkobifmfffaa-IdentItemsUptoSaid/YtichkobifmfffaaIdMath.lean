/-
  Nodes, lists of them, strict majorities: the reckoning.
  Pure: nothing of the program is read.
-/
import Derived.Lib.Hide
namespace Go.Proofs.Ytichkobifmfffaa
namespace Ident

/-- A node: a slot, and which start of it. -/
structure Id where
  s : Int
  c : Int
deriving DecidableEq

def right (x : Id) : Bool := decide (0 ≤ x.s) && decide (x.s < 7) && decide (1 ≤ x.c)
def Rising (l : List Id) : Prop := (∀ x ∈ l, right x = true) ∧ l.Pairwise (fun a b => a.s < b.s)
noncomputable def rises (l : List Id) : Bool := @decide (Rising l) (Classical.propDecidable _)
def has (l : List Id) (x : Id) : Bool := decide (x ∈ l)
def slot (l : List Id) (n : Int) : Option Id := l.find? fun x => decide (x.s = n)
def both (a b : List Id) : List Id := a.filter (has b)
def withN (l : List Id) (x : Id) : List Id := l.takeWhile (fun y => decide (y.s < x.s)) ++ (x :: (l.dropWhile (fun y => decide (y.s < x.s))).filter fun y => decide (y.s ≠ x.s))
def most (n : Nat) : Nat := n / 2 + 1
def major (part whole : List Id) : Bool := decide (most whole.length ≤ (both whole part).length)

theorem rises_true {l : List Id} : rises l = true ↔ Rising l := by unfold rises; exact @decide_eq_true_iff _ (Classical.propDecidable _)
theorem rises_false {l : List Id} (h : ¬ Rising l) : rises l = false := by
  rw [Bool.eq_false_iff]; exact fun e => h (rises_true.1 e)

/-! Rising, place by place -/
theorem Rising.nil : Rising [] := ⟨(fun x hx => by cases hx), List.Pairwise.nil⟩
theorem Rising.lt {l : List Id} (h : Rising l) {i j : Nat} {x y : Id} (hx : l[i]? = some x) (hy : l[j]? = some y) (hij : i < j) : x.s < y.s := by
  obtain ⟨hi, rfl⟩ := List.getElem?_eq_some_iff.1 hx
  obtain ⟨hj, rfl⟩ := List.getElem?_eq_some_iff.1 hy
  exact List.pairwise_iff_getElem.1 h.2 i j hi hj hij
theorem Rising.right {l : List Id} (h : Rising l) {i : Nat} {x : Id} (hx : l[i]? = some x) : right x = true := h.1 x (List.mem_of_getElem? hx)
theorem take_succ {l : List Id} {k : Nat} {x : Id} (h : l[k]? = some x) : l.take (k + 1) = l.take k ++ [x] := by
  rw [List.take_add_one, h]; rfl
/-- One node more. -/
theorem Rising.step {l : List Id} {k : Nat} {x : Id} (h : Rising (l.take k)) (hx : l[k]? = some x) (hr : Ident.right x = true) (hp : ∀ y, 0 < k → l[k - 1]? = some y → y.s < x.s) : Rising (l.take (k + 1)) := by
  rw [take_succ hx]
  refine ⟨fun y hy => ?_, ?_⟩
  · rcases List.mem_append.1 hy with hy | hy
    · exact h.1 y hy
    · rw [List.mem_singleton.1 hy]; exact hr
  · rw [List.pairwise_append]
    refine ⟨h.2, List.pairwise_singleton _ _, fun a ha b hb => ?_⟩
    rw [List.mem_singleton.1 hb]
    obtain ⟨i, hi⟩ := List.getElem?_of_mem ha
    rw [List.getElem?_take] at hi
    split at hi
    · rename_i hik
      have hlt : k - 1 < l.length := by have := (List.getElem?_eq_some_iff.1 hx).1; omega
      obtain ⟨y, hy⟩ : ∃ y, l[k - 1]? = some y := ⟨_, List.getElem?_eq_getElem hlt⟩
      have h1 := hp y (by omega) hy
      rcases Nat.lt_or_ge i (k - 1) with h2 | h2
      · have h3 := h.lt (i := i) (j := k - 1) (x := a) (y := y) (by rw [List.getElem?_take, if_pos hik]; exact hi) (by rw [List.getElem?_take, if_pos (by omega)]; exact hy) h2
        omega
      · obtain rfl : i = k - 1 := by omega
        rw [hy] at hi
        cases hi
        exact h1
    · cases hi
theorem Rising.not_right {l : List Id} {k : Nat} {x : Id} (hx : l[k]? = some x) (hr : Ident.right x = false) : ¬ Rising l := fun h => by
  rw [h.right hx] at hr; cases hr
theorem Rising.not_up {l : List Id} {k : Nat} {x y : Id} (hx : l[k]? = some x) (hk : 0 < k) (hy : l[k - 1]? = some y) (hn : ¬ y.s < x.s) : ¬ Rising l := fun h =>
  hn (h.lt hy hx (by omega))

/-! A slot's first node -/
theorem slot_here {l : List Id} {k : Nat} {x : Id} {n : Int} (h : ∀ y ∈ l.take k, ¬ y.s = n) (hx : l[k]? = some x) (he : x.s = n) : slot l n = some x := by
  have hl : l = l.take k ++ l.drop k := (List.take_append_drop k l).symm
  have hk := (List.getElem?_eq_some_iff.1 hx).1
  unfold slot
  rw [hl, List.find?_append, List.find?_eq_none.2 (fun y hy => by simpa using h y hy)]
  rw [List.drop_eq_getElem_cons hk]
  have : l[k] = x := by rw [List.getElem?_eq_getElem hk] at hx; injection hx
  rw [this]
  simp [he]
theorem slot_none {l : List Id} {n : Int} (h : ∀ y ∈ l, ¬ y.s = n) : slot l n = none := by
  unfold slot
  exact List.find?_eq_none.2 (fun y hy => by simpa using h y hy)
theorem take_step {l : List Id} {k : Nat} {x : Id} {p : Id → Prop} (h : ∀ y ∈ l.take k, p y) (hx : l[k]? = some x) (hp : p x) : ∀ y ∈ l.take (k + 1), p y := fun y hy => by
  rw [take_succ hx] at hy
  rcases List.mem_append.1 hy with hy | hy
  · exact h y hy
  · rw [List.mem_singleton.1 hy]; exact hp

/-! What two lists have in common -/
theorem both_yes {a b : List Id} {k : Nat} {x : Id} (hx : a[k]? = some x) (h : has b x = true) : both (a.take (k + 1)) b = both (a.take k) b ++ [x] := by
  unfold both
  rw [take_succ hx, List.filter_append]
  simp [h]
theorem both_no {a b : List Id} {k : Nat} {x : Id} (hx : a[k]? = some x) (h : has b x = false) : both (a.take (k + 1)) b = both (a.take k) b := by
  unfold both
  rw [take_succ hx, List.filter_append]
  simp [h]
theorem both_le (a b : List Id) : (both a b).length ≤ a.length := List.length_filter_le _ _
theorem two_meet : ∀ (l : List Id) (p q : Id → Bool), (∀ x ∈ l, p x = true → q x = true → False) → (l.filter p).length + (l.filter q).length ≤ l.length
  | [], _, _, _ => by simp
  | x :: l, p, q, h => by
    have ih := two_meet l p q (fun y hy => h y (List.mem_cons_of_mem _ hy))
    have hx := h x List.mem_cons_self
    rw [List.filter_cons, List.filter_cons]
    cases hp : p x <;> cases hq : q x <;> simp <;> first | omega | exact (hx hp hq).elim
theorem meet {whole a b : List Id} (ha : major a whole = true) (hb : major b whole = true) : ∃ (k : Nat) (x : Id), whole[k]? = some x ∧ has a x = true ∧ has b x = true := by
  refine Classical.byContradiction fun hn => ?_
  have h := two_meet whole (has a) (has b) (fun x hx h1 h2 => by
    obtain ⟨k, hk⟩ := List.getElem?_of_mem hx
    exact hn ⟨k, x, hk, h1, h2⟩)
  have h1 := of_decide_eq_true ha
  have h2 := of_decide_eq_true hb
  unfold both at h1 h2
  unfold most at h1 h2
  omega
/-- Whether the first so many of a list hold one that two others have. -/
def metTo (a b : List Id) (l : List Id) : Bool := l.any fun x => has a x && has b x
theorem metTo_step {a b l : List Id} {k : Nat} {x : Id} (hx : l[k]? = some x) : metTo a b (l.take (k + 1)) = (metTo a b (l.take k) || (has a x && has b x)) := by
  unfold metTo
  rw [take_succ hx, List.any_append]
  simp
theorem metTo_all {whole a b : List Id} (ha : major a whole = true) (hb : major b whole = true) : metTo a b whole = true := by
  obtain ⟨k, x, h1, h2, h3⟩ := meet ha hb
  unfold metTo
  rw [List.any_eq_true]
  exact ⟨x, List.mem_of_getElem? h1, by simp [h2, h3]⟩

/-! A list with one node more -/
theorem split_at {p : Id → Bool} : ∀ (l : List Id) (k : Nat), k ≤ l.length → (∀ y ∈ l.take k, p y = true) → (k = l.length ∨ ∃ y, l[k]? = some y ∧ p y = false) → l.take k = l.takeWhile p ∧ l.drop k = l.dropWhile p
  | [], k, hk, _, _ => by simp
  | y :: l, 0, _, _, h2 => by
    rcases h2 with h2 | ⟨z, hz, hp⟩
    · simp at h2
    · simp at hz
      subst hz
      simp [hp]
  | y :: l, k + 1, hk, h1, h2 => by
    have hy : p y = true := h1 y (by simp)
    have ih := split_at l k (by simpa using hk) (fun z hz => h1 z (by simp [hz])) (by
      rcases h2 with h2 | ⟨z, hz, hp⟩
      · exact .inl (by simpa using h2)
      · exact .inr ⟨z, by simpa using hz, hp⟩)
    simp [hy, ih.1, ih.2]
theorem withN_split {l : List Id} {x : Id} {k : Nat} (hk : k ≤ l.length) (h1 : ∀ y ∈ l.take k, y.s < x.s) (h2 : k = l.length ∨ ∃ y, l[k]? = some y ∧ ¬ y.s < x.s) :
    withN l x = l.take k ++ (x :: (l.drop k).filter fun y => decide (y.s ≠ x.s)) := by
  have h := split_at (p := fun y => decide (y.s < x.s)) l k hk (fun y hy => by simpa using h1 y hy) (h2.imp id fun ⟨y, hy, hp⟩ => ⟨y, hy, by simpa using hp⟩)
  unfold withN
  rw [← h.1, ← h.2]
theorem filter_step {l : List Id} {k : Nat} {y : Id} {p : Id → Bool} (hy : l[k]? = some y) (hp : p y = true) : (l.take (k + 1)).filter p = (l.take k).filter p ++ [y] := by
  rw [take_succ hy, List.filter_append]; simp [hp]
theorem filter_skip {l : List Id} {k : Nat} {y : Id} {p : Id → Bool} (hy : l[k]? = some y) (hp : p y = false) : (l.take (k + 1)).filter p = (l.take k).filter p := by
  rw [take_succ hy, List.filter_append]; simp [hp]
/-- The document's way: a step, with whether the node is in. -/
def wstep (x : Id) (p : List Id × Bool) (y : Id) : List Id × Bool :=
  ((if p.2 = false ∧ x.s ≤ y.s then p.1 ++ [x] else p.1) ++ (if y.s ≠ x.s then [y] else []), p.2 || decide (x.s ≤ y.s))
def wgo (x : Id) (l : List Id) : List Id × Bool := l.foldl (wstep x) ([], false)
theorem wgo_step {x y : Id} {l : List Id} {k : Nat} (h : l[k]? = some y) : wgo x (l.take (k + 1)) = wstep x (wgo x (l.take k)) y := by
  unfold wgo
  rw [take_succ h, List.foldl_append]; rfl
theorem wgo_done (x : Id) : ∀ (l o : List Id), l.foldl (wstep x) (o, true) = (o ++ l.filter (fun y => decide (y.s ≠ x.s)), true)
  | [], o => by simp
  | y :: l, o => by
    rw [List.foldl_cons]
    have e : wstep x (o, true) y = (o ++ (if y.s ≠ x.s then [y] else []), true) := by simp [wstep]
    rw [e, wgo_done x l, List.filter_cons]
    by_cases h : y.s = x.s <;> simp [h]
theorem wgo_all (x : Id) : ∀ (l o : List Id), (if (l.foldl (wstep x) (o, false)).2 = true then (l.foldl (wstep x) (o, false)).1 else (l.foldl (wstep x) (o, false)).1 ++ [x]) = o ++ withN l x
  | [], o => by simp [withN]
  | y :: l, o => by
    rw [List.foldl_cons]
    by_cases h : x.s ≤ y.s
    · have e : wstep x (o, false) y = (o ++ [x] ++ (if y.s ≠ x.s then [y] else []), true) := by simp [wstep, h]
      have hn : ¬ y.s < x.s := by omega
      rw [e, wgo_done, if_pos rfl]
      unfold withN
      rw [List.takeWhile_cons, List.dropWhile_cons]
      by_cases h2 : y.s = x.s <;> simp [hn, h2]
    · have hn : y.s < x.s := by omega
      have e : wstep x (o, false) y = (o ++ [y], false) := by
        simp [wstep, h]; omega
      rw [e, wgo_all x l]
      unfold withN
      rw [List.takeWhile_cons, List.dropWhile_cons]
      simp [hn]
theorem wgo_le (x : Id) : ∀ (l : List Id) (p : List Id × Bool), (l.foldl (wstep x) p).1.length + (if (l.foldl (wstep x) p).2 = true then 0 else 1) ≤ p.1.length + l.length + (if p.2 = true then 0 else 1)
  | [], p => Nat.le_refl _
  | y :: l, p => by
    rw [List.foldl_cons]
    have ih := wgo_le x l (wstep x p y)
    refine Nat.le_trans ih ?_
    obtain ⟨o, d⟩ := p
    simp only [wstep, List.length_append, List.length_cons]
    cases d
    · by_cases h : x.s ≤ y.s
      · simp [h]; split <;> simp <;> omega
      · simp [h]; split <;> simp <;> omega
    · simp; split <;> simp <;> omega
theorem withN_le (l : List Id) (x : Id) : (withN l x).length ≤ l.length + 1 := by
  have h : (l.takeWhile fun y => decide (y.s < x.s)).length + (l.dropWhile fun y => decide (y.s < x.s)).length = l.length := by
    rw [← List.length_append, List.takeWhile_append_dropWhile]
  have h2 : ((l.dropWhile fun y => decide (y.s < x.s)).filter fun y => decide (y.s ≠ x.s)).length ≤ (l.dropWhile fun y => decide (y.s < x.s)).length := List.length_filter_le _ _
  unfold withN
  rw [List.length_append, List.length_cons]
  omega
/-- Of a list that goes up: the nodes below the slot, the node, the nodes above. -/
theorem withN_up (x : Id) : ∀ (l : List Id), l.Pairwise (fun a b => a.s < b.s) → withN l x = l.filter (fun y => decide (y.s < x.s)) ++ (x :: l.filter fun y => decide (x.s < y.s))
  | [], _ => rfl
  | y :: l, h => by
    rw [List.pairwise_cons] at h
    by_cases hy : y.s < x.s
    · have ih := withN_up x l h.2
      have hn : ¬ x.s < y.s := by omega
      unfold withN at ih ⊢
      rw [List.takeWhile_cons, List.dropWhile_cons, List.filter_cons, List.filter_cons]
      simp only [hy, hn, decide_true, decide_false, if_true, List.cons_append]
      rw [ih]
      rfl
    · have h0 : (y :: l).filter (fun y => decide (y.s < x.s)) = [] := by
        rw [List.filter_eq_nil_iff]
        intro z hz
        rcases List.mem_cons.1 hz with rfl | hz
        · simpa using hy
        · have := h.1 z hz
          simp; omega
      have h1 : (y :: l).filter (fun y => decide (y.s ≠ x.s)) = (y :: l).filter (fun y => decide (x.s < y.s)) := by
        refine List.filter_congr fun z hz => ?_
        rw [Bool.eq_iff_iff, decide_eq_true_eq, decide_eq_true_eq]
        rcases List.mem_cons.1 hz with rfl | hz
        · omega
        · have := h.1 z hz
          omega
      rw [h0, ← h1]
      unfold withN
      rw [List.takeWhile_cons, List.dropWhile_cons]
      simp [hy]
theorem withN_rises {l : List Id} {x : Id} (h : Rising l) (hx : right x = true) : Rising (withN l x) := by
  rw [withN_up x l h.2]
  refine ⟨fun y hy => ?_, ?_⟩
  · rcases List.mem_append.1 hy with hy | hy
    · exact h.1 y (List.mem_filter.1 hy).1
    · rcases List.mem_cons.1 hy with rfl | hy
      · exact hx
      · exact h.1 y (List.mem_filter.1 hy).1
  · rw [List.pairwise_append, List.pairwise_cons]
    refine ⟨h.2.filter _, ⟨fun y hy => of_decide_eq_true (List.mem_filter.1 hy).2, h.2.filter _⟩, fun a ha b hb => ?_⟩
    have h1 := of_decide_eq_true (List.mem_filter.1 ha).2
    rcases List.mem_cons.1 hb with rfl | hb
    · exact h1
    · have := of_decide_eq_true (List.mem_filter.1 hb).2
      omega
theorem withN_has (l : List Id) (x : Id) : has (withN l x) x = true := by
  unfold has withN
  simp
theorem withN_keeps {l : List Id} {x y : Id} (h : Rising l) (hy : y ∈ l) (hn : y.s ≠ x.s) : has (withN l x) y = true := by
  rw [withN_up x l h.2]
  unfold has
  rw [decide_eq_true_eq, List.mem_append, List.mem_cons]
  rcases Int.lt_or_gt_of_ne hn with h1 | h1
  · exact .inl (List.mem_filter.2 ⟨hy, by simpa using h1⟩)
  · exact .inr (.inr (List.mem_filter.2 ⟨hy, by simpa using h1⟩))
theorem withN_count (x : Id) : ∀ (l : List Id), l.Pairwise (fun a b => a.s < b.s) → (l.filter fun y => decide (y.s < x.s)).length + 1 + (l.filter fun y => decide (x.s < y.s)).length = if (slot l x.s).isSome = true then l.length else l.length + 1
  | [], _ => rfl
  | y :: l, h => by
    rw [List.pairwise_cons] at h
    have ih := withN_count x l h.2
    unfold slot at ih ⊢
    rw [List.filter_cons, List.filter_cons, List.find?_cons]
    by_cases h1 : y.s < x.s
    · have h2 : ¬ x.s < y.s := by omega
      have h3 : ¬ y.s = x.s := by omega
      simp only [h1, h2, h3, decide_true, decide_false, if_true, List.length_cons]
      split at ih <;> rename_i hs <;> simp only [hs] <;> simp <;> omega
    · by_cases h2 : x.s < y.s
      · have h3 : ¬ y.s = x.s := by omega
        simp only [h1, h2, h3, decide_true, decide_false, if_true, List.length_cons]
        split at ih <;> rename_i hs <;> simp only [hs] <;> simp <;> omega
      · have h3 : y.s = x.s := by omega
        have h4 : l.filter (fun z => decide (z.s < x.s)) = [] := by
          rw [List.filter_eq_nil_iff]; intro z hz; have := h.1 z hz; simp; omega
        have h5 : l.filter (fun z => decide (x.s < z.s)) = l := by
          rw [List.filter_eq_self]; intro z hz; have := h.1 z hz; simp; omega
        simp [h3, h4, h5]
        omega
theorem withN_length {l : List Id} {x : Id} (h : Rising l) : (withN l x).length = if (slot l x.s).isSome = true then l.length else l.length + 1 := by
  rw [withN_up x l h.2, List.length_append, List.length_cons, ← withN_count x l h.2]
  omega
theorem rising_length {l : List Id} (h : Rising l) : l.length ≤ 7 := by
  have key : ∀ (l : List Id), Rising l → ∀ n : Int, (∀ x ∈ l, n ≤ x.s) → n ≤ 7 → (l.length : Int) ≤ 7 - n := by
    intro l
    induction l with
    | nil => intro _ n _ hn; simp; omega
    | cons y l ih =>
      intro h n hn h7
      obtain ⟨h1, h2⟩ := h
      rw [List.pairwise_cons] at h2
      have hr := h1 y List.mem_cons_self
      unfold right at hr
      simp at hr
      have h0 := hn y List.mem_cons_self
      have := ih ⟨fun x hx => h1 x (List.mem_cons_of_mem _ hx), h2.2⟩ (n + 1) (fun x hx => by have := h2.1 x hx; omega) (by omega)
      simp
      omega
  have := key l h 0 (fun x hx => by have := h.1 x hx; unfold right at this; simp at this; omega) (by decide)
  omega
end Ident
end Go.Proofs.Ytichkobifmfffaa
