/-
  slices.Reverse on a row of bytes that is the caller's own.
  No condition but those named.
-/
import Derived.Test.YtdhfmapcggohmaaDoorValRow
import Derived.WalkKit
import Derived.WalkSpells
import Derived.WalkLawsBesides
import Derived.Handy
import Derived.Deep.QuietTactic
import Derived.BigQuiet
import Derived.Deep.Draws
import Derived.Lib.Hide
namespace Go.Proofs.YtdhfmapcggohmaaDoor
open Go.RowKit

/-- The first and the last so many places exchanged. -/
def Half (l L : List UInt8) (k : Nat) : Prop := L.length = l.length ∧ ∀ i, i < l.length → L.getD i 0 = if i < k ∨ l.length ≤ i + k then l.getD (l.length - 1 - i) 0 else l.getD i 0
theorem half_zero (l : List UInt8) : Half l l 0 := ⟨rfl, fun i hi => by rw [if_neg (by omega)]⟩
theorem getD_set {l : List UInt8} {i j : Nat} {x : UInt8} (h : i < l.length) : (l.set i x).getD j 0 = if j = i then x else l.getD j 0 := by
  simp only [List.getD_eq_getElem?_getD, List.getElem?_set]
  by_cases e : i = j
  · subst e; simp [h]
  · rw [if_neg e, if_neg (fun h => e h.symm)]
theorem half_next {l L : List UInt8} {k : Nat} (h : Half l L k) (hk : k + 1 + k < l.length) : Half l ((L.set k (L.getD (l.length - 1 - k) 0)).set (l.length - 1 - k) (L.getD k 0)) (k + 1) := by
  obtain ⟨h1, h2⟩ := h
  refine ⟨by rw [List.length_set, List.length_set, h1], fun i hi => ?_⟩
  rw [getD_set (by rw [List.length_set]; omega), getD_set (by omega)]
  have ek := h2 k (by omega)
  have ej := h2 (l.length - 1 - k) (by omega)
  rw [if_neg (by omega)] at ek ej
  have ei := h2 i hi
  by_cases e1 : i = l.length - 1 - k
  · rw [if_pos e1, if_pos (by omega), ek]
    congr 1; omega
  · rw [if_neg e1]
    by_cases e2 : i = k
    · rw [if_pos e2, if_pos (by omega), ej]
      congr 1; omega
    · rw [if_neg e2, ei]
      by_cases e3 : i < k ∨ l.length ≤ i + k
      · rw [if_pos e3, if_pos (by omega)]
      · rw [if_neg e3, if_neg (by omega)]
theorem half_end {l L : List UInt8} {k : Nat} (h : Half l L k) (hk : l.length ≤ k + 1 + k) : L = l.reverse := by
  obtain ⟨h1, h2⟩ := h
  apply List.ext_getElem?
  intro i
  by_cases hi : i < l.length
  · have e := h2 i hi
    rw [List.getElem?_reverse hi, List.getElem?_eq_getElem (by omega), List.getElem?_eq_getElem (by omega)]
    simp only [List.getD_eq_getElem?_getD, List.getElem?_eq_getElem hi, List.getElem?_eq_getElem (show i < L.length by omega), List.getElem?_eq_getElem (show l.length - 1 - i < l.length by omega), Option.getD_some] at e
    rw [e]
    split
    · rfl
    · congr 1
      congr 1
      omega
  · rw [List.getElem?_eq_none (by omega), List.getElem?_eq_none (by simp; omega)]

/-- Nothing but a block's cells is another one. -/
def Sets (B : Nat) (w w' : World) : Prop := Below B w w' ∧ w'.heap.size = w.heap.size
theorem Owns.drewN {w : World} {B : Nat} {l : List UInt8} (h : Owns w B l) (n : Nat) : Owns (w.drewN n) B l := h

theorem half_step {l L : List UInt8} {k j n : Nat} (h : Half l L k) (hn : l.length = n) (hj : j + 1 + k = n) (hk : k < j) : Half l ((L.set k (L.getD j 0)).set j (L.getD k 0)) (k + 1) := by
  have := half_next h (by omega)
  rwa [show l.length - 1 - k = j from by omega] at this
set_option maxHeartbeats 1600000 in
theorem reverse_any (B c n : Nat) (l : List UInt8) (w : World) (hn : l.length = n) (h1 : 1 ≤ n) (hb : n ≤ 1000) (ho : Owns w B l) :
    Calls Tryd.prog 46 #[.slice (some ⟨B, 0, none⟩) n c] w fun e w' => e = .returned (.tuple #[]) ∧ Owns w' B l.reverse ∧ Below B w w' := by
  have HN := Lib.hid hn
  have HO := Lib.hid ho
  have H0 := Lib.hid (half_zero l)
  clear hn ho
  go_enter Tryd.func46, Tryd.ntmps46
  go_wp2
  go_loopw [2, 3] (fun vi vj wr => ∃ (k j : Nat) (L : List UInt8), vi = .int .i64 k ∧ vj = .int .i64 j ∧ Hid (j + 1 + k = n) ∧ Hid (Half l L k) ∧ Hid (Owns wr B L) ∧ Hid (Below B w wr)) (fun vi _ _ => n - (intOf vi).toNat)
  case atStart => exact ⟨0, n - 1, l, rfl, by congr 1; omega, Lib.hid (by omega), H0, HO, Lib.hid (Below.refl _ _)⟩
  case round =>
    obtain ⟨k, j, L, rfl, rfl, hj, hh, hO, hB2⟩ := hrel
    by_cases hlt : k < j
    · have hL : L.length = n := by rw [hh.out.1, HN.out]
      have hjn := hj.out
      obtain ⟨c0, f0⟩ := hO.out k (by omega)
      obtain ⟨c1, f1⟩ := hO.out j (by omega)
      have hk2 : k < n := by omega
      have hj2 : j < n := by omega
      have hj1 : 1 ≤ j := by omega
      have hO2 : Hid (Owns ((wr.drew.setCell ⟨B, k, none⟩ (.int .u8 ((L.getD j 0).toNat : Int))).setCell ⟨B, j, none⟩ (.int .u8 ((L.getD k 0).toNat : Int))) B ((L.set k (L.getD j 0)).set j (L.getD k 0))) :=
        Lib.hid (Owns.set (Owns.set hO.out.drew k (by omega) _ _ rfl) j (by rw [List.length_set]; omega) _ _ rfl)
      have hB3 : Hid (Below B w ((wr.drew.setCell ⟨B, k, none⟩ (.int .u8 ((L.getD j 0).toNat : Int))).setCell ⟨B, j, none⟩ (.int .u8 ((L.getD k 0).toNat : Int)))) :=
        Lib.hid ((hB2.out.drew.setCell (p := ⟨B, k, none⟩) (Nat.le_refl _) _).setCell (p := ⟨B, j, none⟩) (Nat.le_refl _) _)
      have hh2 := Lib.hid (half_step hh.out HN.out hjn hlt)
      have hn2 : j - 1 + 1 + (k + 1) = n := by omega
      have hjc : ((j : Int) - 1) = ((j - 1 : Nat) : Int) := by omega
      clear hL hjn hO hB2 hh
      go_wp2
      go_region
      all_goals
        go_wp2
        exact ⟨⟨k + 1, j - 1, _, by go_num, by rw [← hjc], Lib.hid hn2, hh2, hO2, hB3⟩, by simp [intOf]; omega⟩
    · have HR := Lib.hid (half_end hh.out (by have := HN.out; have := hj.out; omega))
      have h2 : ¬ (k : Int) < j := by omega
      go_wp2
      exact bodyPost_end (v := .tuple #[]) (by simp [results, Tryd.results46, go_sem]) rfl ⟨rfl, by rw [← HR.out]; exact hO.out, hB2.out⟩
end Go.Proofs.YtdhfmapcggohmaaDoor
