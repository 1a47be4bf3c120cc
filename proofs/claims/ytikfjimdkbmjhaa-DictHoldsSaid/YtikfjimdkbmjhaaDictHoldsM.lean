/-
  What holds along a row of calls: the map is the plain list, but for the order.
  Pure.
-/
import Derived.Test.YtikfjimdkbmjhaaDictMath
set_option linter.unusedSimpArgs false
set_option linter.unusedVariables false
namespace Go.Proofs.Ytikfjimdkbmjhaa
namespace Dct
theorem chk_le (v : Val.V) : 0 ≤ Val.chk v ∧ Val.chk v ≤ 2 := by
  unfold Val.chk
  (repeat' split) <;> omega
theorem pchk_le (k : ByteArray) (v : Val.V) : 0 ≤ pchk k v ∧ pchk k v ≤ 2 := by
  have := chk_le v
  unfold pchk
  (repeat' split) <;> omega
theorem ptE_le (l : List Pr) (k : ByteArray) (v : Val.V) : 0 ≤ ptE l k v ∧ ptE l k v ≤ 6 := by
  have := pchk_le k v
  unfold ptE
  (repeat' split) <;> omega
theorem emp_of {v : Val.V} (h : Val.chk v = 0) (hk : v.k = 0) : v = emp := by
  rcases Val.chk_ok h with e | e | ⟨e, _⟩ | ⟨e, _⟩
  · exact e
  · rw [e] at hk; cases hk
  · rw [e] at hk; cases hk
  · rw [e] at hk; cases hk
/-- Why nothing was put. -/
theorem pt_why {l : List Pr} (hr : Right l) {k : ByteArray} {v : Val.V} (hv : ¬ v = emp) (h : ¬ ptE l k v = 0) : (fnd l k = none ∧ l.length = 8) ∨ 64 < k.size ∨ ¬ Val.chk v = 0 := by
  by_cases hp : pchk k v = 0
  · by_cases hn : (wo l k).length < 8
    · exact absurd (pt_ok hr hp hn).1 h
    · left
      have h8 := hr.len
      have hw := wo_length hr.up k
      obtain ⟨f1, f2⟩ := fin_le l k
      rcases fnd_parts hr.up k with ⟨hf, he⟩ | ⟨hf, x, hx, he⟩
      · exact ⟨he, by omega⟩
      · have := (List.getElem?_eq_some_iff.1 hx).1
        omega
  · right
    unfold pchk at hp
    split at hp
    next hk => exact .inr fun hc => hv (emp_of hc hk)
    next =>
      split at hp
      next h64 => exact .inl h64
      next => exact .inr hp
theorem pt_zero' {l : List Pr} {k : ByteArray} {v : Val.V} (h : ptE l k v = 0) : Right l ∧ pchk k v = 0 ∧ (wo l k).length < 8 := by
  unfold ptE at h
  split at h
  next hr =>
    split at h
    next hp =>
      split at h
      next hn => exact ⟨hr, hp, hn⟩
      next => cases h
    next hp => exact absurd h hp
  next => cases h
/-- What a call of the row leaves. -/
structure Sw (l : List Pr) (k : ByteArray) (v o : Val.V) (sw : Bool) (l' : List Pr) (e : Int) : Prop where
  gone : e = 0 → v = emp → l' = wo l k
  has : e = 0 → ¬ v = emp → l' = ins l k v ∧ pchk k v = 0 ∧ (wo l k).length < 8
  stays : ¬ e = 0 → l' = l
  why : ¬ e = 0 → (fnd l k = none ∧ l.length = 8) ∨ 64 < k.size ∨ ¬ Val.chk v = 0 ∨ (sw = true ∧ ¬ gtV l k = o) ∨ (fnd l k = none ∧ v = emp)
  nine : sw = true → (e = 9 ↔ ¬ gtV l k = o)
theorem sw_swap {l : List Pr} (hr : Right l) (k : ByteArray) (v o : Val.V) : Sw l k v o true (swL l k o v) (swE l k o v) := by
  by_cases ho : gtV l k = o
  · by_cases hv : v = emp
    · subst hv
      obtain ⟨e1, e2, _⟩ := sw_cut hr ho
      exact ⟨fun _ _ => e2, fun _ h => absurd rfl h, fun h => absurd e1 h, fun h => absurd e1 h, fun _ => ⟨(fun h => by rw [e1] at h; cases h), fun h => absurd ho h⟩⟩
    · obtain ⟨e1, e2, _⟩ := sw_put hr ho hv
      rw [e1, e2]
      refine ⟨fun _ h => absurd h hv, fun h _ => ?_, fun h => if_neg h, fun h => ?_, fun _ => ⟨fun h => ?_, fun h => absurd ho h⟩⟩
      · have hz := pt_zero' h
        exact ⟨(pt_ok hr hz.2.1 hz.2.2).2, hz.2⟩
      · rcases pt_why hr hv h with h | h | h
        · exact .inl h
        · exact .inr (.inl h)
        · exact .inr (.inr (.inl h))
      · have := ptE_le l k v; omega
  · obtain ⟨e1, e2, _⟩ := sw_unlike hr v ho
    rw [e1, e2]
    exact ⟨(fun h => by cases h), (fun h => by cases h), fun _ => rfl, fun _ => .inr (.inr (.inr (.inl ⟨rfl, ho⟩))), fun _ => ⟨fun _ => ho, fun _ => rfl⟩⟩
theorem sw_cutE {l : List Pr} (hr : Right l) (k : ByteArray) (o : Val.V) : Sw l k emp o false (ctL l k) (gtE l k) := by
  refine ⟨fun h _ => if_pos h, fun _ h => absurd rfl h, fun h => if_neg h, fun h => ?_, fun h => by cases h⟩
  cases hf : fnd l k with
  | some v => exact absurd (gt_some hr hf).2 h
  | none => exact .inr (.inr (.inr (.inr ⟨rfl, rfl⟩)))
theorem sw_putE {l : List Pr} (hr : Right l) (k : ByteArray) {v : Val.V} (o : Val.V) (hv : ¬ v = emp) : Sw l k v o false (ptL l k v) (ptE l k v) := by
  refine ⟨fun _ h => absurd h hv, fun h _ => ?_, fun h => if_neg h, fun h => ?_, fun h => by cases h⟩
  · have hz := (pt_zero' h).2
    exact ⟨(pt_ok hr hz.1 hz.2).2, hz⟩
  · rcases pt_why hr hv h with h | h | h
    · exact .inl h
    · exact .inr (.inl h)
    · exact .inr (.inr (.inl h))
/-- The map is right, and is the plain list but for the order. -/
structure Holds (l p : List Pr) : Prop where
  right : Right l
  perm : p.Perm l
theorem Holds.apart {l p : List Pr} (h : Holds l p) : Apart p := apart_perm h.perm.symm h.right.up.apart
theorem Holds.fnd {l p : List Pr} (h : Holds l p) (k : ByteArray) : fnd p k = fnd l k := fnd_perm h.perm h.apart k
theorem Holds.nil : Holds [] [] := ⟨right_nil, .nil⟩
theorem Holds.len {l p : List Pr} (h : Holds l p) : p.length = l.length := h.perm.length_eq
theorem Holds.cut {l p l' : List Pr} (h : Holds l p) {k : ByteArray} (e : l' = wo l k) : Holds l' (wo p k) := by
  subst e; exact ⟨wo_right h.right k, wo_perm h.perm k⟩
theorem Holds.put {l p l' : List Pr} (h : Holds l p) {k : ByteArray} {v : Val.V} (e : l' = ins l k v ∧ pchk k v = 0 ∧ (wo l k).length < 8) : Holds l' (wo p k ++ [⟨k, v⟩]) := by
  obtain ⟨rfl, hp, hn⟩ := e
  exact ⟨ins_right h.right hp hn, ((wo_perm h.perm k).append_right _).trans (ins_perm h.right.up k v).symm⟩
theorem Holds.get {l p : List Pr} (h : Holds l p) {j : Nat} {x : Pr} (hx : p[j]? = some x) : gtV l x.key = x.val ∧ gtE l x.key = 0 :=
  gt_some h.right (by rw [← h.fnd]; exact fnd_mem h.apart (List.mem_of_getElem? hx))
/-- The place of a key in the plain list, so far. -/
def At (p : List Pr) (k : ByteArray) (j : Nat) (z : Int) : Prop := (z = -1 ∧ ∀ i x, i < j → p[i]? = some x → ¬ x.key = k) ∨ (∃ (a : Nat) (x : Pr), z = a ∧ p[a]? = some x ∧ x.key = k)
theorem At.start (p : List Pr) (k : ByteArray) : At p k 0 (-1) := .inl ⟨rfl, fun i x hi _ => by omega⟩
theorem At.here {p : List Pr} {k : ByteArray} {j : Nat} {x : Pr} (hx : p[j]? = some x) (hk : x.key = k) : At p k (j + 1) (j : Int) := .inr ⟨j, x, rfl, hx, hk⟩
theorem At.next {p : List Pr} {k : ByteArray} {j : Nat} {z : Int} {x : Pr} (h : At p k j z) (hx : p[j]? = some x) (hk : ¬ x.key = k) : At p k (j + 1) z := by
  rcases h with ⟨h1, h2⟩ | h
  · refine .inl ⟨h1, fun i y hi hy => ?_⟩
    by_cases hij : i = j
    · subst hij; rw [hx] at hy; injection hy with hy; subst hy; exact hk
    · exact h2 i y (by omega) hy
  · exact .inr h
theorem apart_at {p : List Pr} (h : Apart p) {i j : Nat} {x y : Pr} (hx : p[i]? = some x) (hy : p[j]? = some y) (hij : ¬ i = j) : ¬ x.key = y.key := by
  obtain ⟨h1, e1⟩ := List.getElem?_eq_some_iff.1 hx
  obtain ⟨h2, e2⟩ := List.getElem?_eq_some_iff.1 hy
  rcases Nat.lt_or_gt_of_ne hij with hlt | hlt
  · have := List.pairwise_iff_getElem.1 h i j h1 h2 hlt
    rw [e1, e2] at this; exact this
  · have := List.pairwise_iff_getElem.1 h j i h2 h1 hlt
    rw [e1, e2] at this; exact fun e => this e.symm
theorem none_of {l p : List Pr} (h : Holds l p) {k : ByteArray} {n : Nat} (hn : p.length = n) (h2 : ∀ i x, i < n → p[i]? = some x → ¬ x.key = k) : fnd l k = none := by
  rw [← h.fnd]
  refine fnd_above fun x hx => ?_
  obtain ⟨i, hi, e⟩ := List.getElem_of_mem hx
  exact h2 i x (by omega) (by rw [List.getElem?_eq_getElem hi, e])
end Dct
end Go.Proofs.Ytikfjimdkbmjhaa
