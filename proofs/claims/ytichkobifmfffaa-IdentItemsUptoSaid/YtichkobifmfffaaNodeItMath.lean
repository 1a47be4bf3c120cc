/-
  The items of a list of nodes, and the nodes that stand at the head of items: the reckoning.
  Pure: nothing of the program is read.
-/
import Derived.Test.YtichkobifmfffaaItem
import Derived.Test.YtichkobifmfffaaIdMath
namespace Go.Proofs.Ytichkobifmfffaa
namespace Ident
open Itm (It emp)

def pair (x : Id) : List It := [⟨0, x.s, emp⟩, ⟨0, x.c, emp⟩]
def items (l : List Id) : List It := ⟨0, l.length, emp⟩ :: l.flatMap pair
theorem flat_length : ∀ l : List Id, (l.flatMap pair).length = 2 * l.length
  | [] => rfl
  | x :: l => by
    rw [List.flatMap_cons, List.length_append, flat_length l, List.length_cons]
    show 2 + _ = _
    omega
theorem items_length (l : List Id) : (items l).length = 2 * l.length + 1 := by
  unfold items
  rw [List.length_cons, flat_length]
theorem flat_get : ∀ (l : List Id) (k : Nat) (x : Id), l[k]? = some x → (l.flatMap pair)[2 * k]? = some ⟨0, x.s, emp⟩ ∧ (l.flatMap pair)[2 * k + 1]? = some ⟨0, x.c, emp⟩
  | y :: l, 0, x, h => by simp at h; subst h; exact ⟨rfl, rfl⟩
  | y :: l, k + 1, x, h => by
    rw [List.getElem?_cons_succ] at h
    obtain ⟨h1, h2⟩ := flat_get l k x h
    rw [List.flatMap_cons]
    show ((⟨0, y.s, emp⟩ : It) :: ⟨0, y.c, emp⟩ :: l.flatMap pair)[2 * (k + 1)]? = _ ∧ ((⟨0, y.s, emp⟩ : It) :: ⟨0, y.c, emp⟩ :: l.flatMap pair)[2 * (k + 1) + 1]? = _
    rw [show 2 * (k + 1) = 2 * k + 1 + 1 from by omega]
    simp only [List.getElem?_cons_succ]
    exact ⟨h1, h2⟩
theorem items_get {l : List Id} {k : Nat} {x : Id} (h : l[k]? = some x) : (items l)[2 * k + 1]? = some ⟨0, x.s, emp⟩ ∧ (items l)[2 * k + 2]? = some ⟨0, x.c, emp⟩ := by
  obtain ⟨h1, h2⟩ := flat_get l k x h
  unfold items
  rw [show 2 * k + 2 = 2 * k + 1 + 1 from rfl]
  simp only [List.getElem?_cons_succ]
  exact ⟨h1, h2⟩
theorem flat_take {l : List Id} {k : Nat} {x : Id} (h : l[k]? = some x) : (l.take (k + 1)).flatMap pair = (l.take k).flatMap pair ++ pair x := by
  rw [take_succ h, List.flatMap_append]; simp

/-- How many nodes the first number lets be read. -/
def cnt (L : List It) : Nat := (min (L.headD ⟨0, 0, emp⟩).n (min 7 (((L.length - 1) / 2 : Nat) : Int))).toNat
def nodeAt (L : List It) (i : Nat) : Id := ⟨(L.getD (2 * i + 1) ⟨0, 0, emp⟩).n, (L.getD (2 * i + 2) ⟨0, 0, emp⟩).n⟩
def pre (L : List It) (j : Nat) : List Id := (List.range j).map (nodeAt L)
def tk (L : List It) : List Id := pre L (cnt L)
theorem pre_succ (L : List It) (j : Nat) : pre L (j + 1) = pre L j ++ [nodeAt L j] := by
  unfold pre
  rw [List.range_succ, List.map_append]; rfl
theorem pre_length (L : List It) (j : Nat) : (pre L j).length = j := by unfold pre; simp
theorem tk_length (L : List It) : (tk L).length = cnt L := pre_length _ _
theorem cnt_le (L : List It) : cnt L ≤ 7 ∧ cnt L ≤ (L.length - 1) / 2 := by
  unfold cnt
  omega
theorem own_length (L : List It) (h : 1 ≤ L.length) : (items (tk L)).length ≤ L.length := by
  rw [items_length, tk_length]
  have := (cnt_le L).2
  omega
/-- A rising list is read from its items, whatever stands behind. -/
theorem tk_items {l : List Id} (h : l.length ≤ 7) (r : List It) : tk (items l ++ r) = l := by
  have hc : cnt (items l ++ r) = l.length := by
    unfold cnt
    rw [List.length_append, items_length]
    show (min (l.length : Int) _).toNat = _
    omega
  unfold tk
  rw [hc]
  refine List.ext_getElem? fun i => ?_
  unfold pre
  rw [List.getElem?_map]
  rcases Nat.lt_or_ge i l.length with hi | hi
  · rw [List.getElem?_range hi]
    obtain ⟨h1, h2⟩ := items_get (List.getElem?_eq_getElem hi)
    have hl := items_length l
    have e1 : (items l ++ r)[2 * i + 1]? = some ⟨0, l[i].s, emp⟩ := by rw [List.getElem?_append_left (by omega)]; exact h1
    have e2 : (items l ++ r)[2 * i + 2]? = some ⟨0, l[i].c, emp⟩ := by rw [List.getElem?_append_left (by omega)]; exact h2
    rw [List.getElem?_eq_getElem hi]
    simp only [Option.map_some, nodeAt, List.getD, e1, e2]
    rfl
  · rw [List.getElem?_eq_none (by simpa using hi), List.getElem?_eq_none hi]
    rfl
end Ident
end Go.Proofs.Ytichkobifmfffaa
