/-
  A block that holds bytes and may be written: what a store does to it.
  No condition but those named.
-/
import Derived.Test.YtkajnmlglgjocaaRows
import Derived.WalkKit
import Derived.Handy
import Derived.Laws.Strings3
import Derived.Deep.Draws
import Derived.Below
namespace Go.Proofs.Ytkajnmlglgjocaa
open Go.RowKit

/-- Block B holds the bytes l, and they may be written. -/
def Owns (w : World) (B : Nat) (l : List UInt8) : Prop := ∀ j, j < l.length → w.cell? ⟨B, j, none⟩ = some (.int .u8 ((l.getD j 0).toNat : Int)) ∧ w.frozen? ⟨B, j, none⟩ = false

theorem Owns.set {w : World} {B : Nat} {l : List UInt8} (h : Owns w B l) (i : Nat) (hi : i < l.length) (x : UInt8) (n : Int) (hn : n = (x.toNat : Int)) : Owns (w.setCell ⟨B, i, none⟩ (.int .u8 n)) B (l.set i x) := by
  subst hn
  intro j hj
  rw [List.length_set] at hj
  obtain ⟨h1, h2⟩ := h j hj
  obtain ⟨h3, _⟩ := h i hi
  refine ⟨?_, ?_⟩
  · by_cases hij : i = j
    · subst hij
      rw [World.cell?_setCell_same _ _ _ h3]
      simp [List.getD, hi]
    · rw [World.cell?_setCell_other _ _ _ _ (fun e => hij (by injection e)), h1]
      simp [List.getD, hij]
  · rw [World.frozen?_setCell]; exact h2
theorem Owns.drew {w : World} {B : Nat} {l : List UInt8} (h : Owns w B l) : Owns w.drew B l := h

/-- A row of noughts that was just made. -/
theorem owns_zeros (w : World) (C : Array Value) (t : TypeId) (n : Nat) (hC : C = Array.replicate n (.int .u8 0)) : Owns (w.alloc (.cells C t)) w.heap.size (List.replicate n 0) := by
  subst hC
  intro j hj
  rw [List.length_replicate] at hj
  refine ⟨?_, World.frozen?_alloc_new _ _ _ _⟩
  rw [World.cell?_alloc_new, Array.getElem?_replicate, if_pos hj]
  simp [List.getD, hj]
theorem set_drop (l : List UInt8) (i : Nat) (x : UInt8) (h : i < l.length) : (l.set i x).drop i = x :: l.drop (i + 1) := by
  rw [List.drop_eq_getElem_cons (by simpa using h)]
  simp [List.drop_set]

theorem add_at (b o j : Nat) : (⟨b, o, none⟩ : Addr).add j = ⟨b, o + j, none⟩ := by
  unfold Addr.add
  split
  · rename_i h; subst h; rfl
  · rfl

/-- The bytes of a block from some place on, read as a string. -/
theorem Owns.text {w : World} {B : Nat} {l : List UInt8} (h : Owns w B l) (o cap n : Nat) (hn : o + n = l.length) :
    (convert 51 9 (.slice (some ⟨B, o, none⟩) n cap)).run Try.prog w = .ok (.string ⟨(l.drop o).toArray⟩) w := by
  have h1 := run_convert_bytes_back (P := Try.prog) w 51 9 5 ⟨B, o, none⟩ cap (l.drop o) Try.underlying51 Try.underlying5 Try.underlying9 (fun j hj => by
    rw [List.length_drop] at hj
    rw [add_at, (h (o + j) (by omega)).1]
    have h2 : o + j < l.length := by omega
    simp [List.getD, h2])
  rw [List.length_drop] at h1
  rwa [show l.length - o = n from by omega] at h1

end Go.Proofs.Ytkajnmlglgjocaa
