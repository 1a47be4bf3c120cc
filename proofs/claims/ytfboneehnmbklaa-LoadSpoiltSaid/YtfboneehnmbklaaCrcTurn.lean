/-
  A text of which some of four neighbouring bytes are turned: its sum is another one, if it is another text; a block of bytes that is written.
  No condition but those named.
-/
import Derived.Test.YtfboneehnmbklaaCrcWalks
namespace Go.Proofs.Ytfboneehnmbklaa
open Go.RowKit

namespace Crc
/-- A text of which up to k neighbouring bytes from p on are turned by t's bytes. -/
def turned (l : List UInt8) (p t : Nat) : Nat → List UInt8
  | 0 => l
  | k + 1 => if p + k < l.length then (turned l p t k).set (p + k) ((turned l p t k).getD (p + k) 0 ^^^ UInt8.ofNat (t / 2 ^ (8 * k))) else turned l p t k
theorem turned_length (l : List UInt8) (p t : Nat) : ∀ k, (turned l p t k).length = l.length
  | 0 => rfl
  | k + 1 => by
    unfold turned
    split
    · rw [List.length_set]; exact turned_length l p t k
    · exact turned_length l p t k
theorem turned_take (l : List UInt8) (p t : Nat) : ∀ k, (turned l p t k).take p = l.take p
  | 0 => rfl
  | k + 1 => by
    unfold turned
    split
    · rw [List.take_set_of_le (by omega)]; exact turned_take l p t k
    · exact turned_take l p t k
theorem turned_drop (l : List UInt8) (p t : Nat) : ∀ k, k ≤ 4 → (turned l p t k).drop (p + 4) = l.drop (p + 4)
  | 0, _ => rfl
  | k + 1, h => by
    unfold turned
    split
    · rw [List.drop_set_of_lt (by omega)]; exact turned_drop l p t k (by omega)
    · exact turned_drop l p t k (by omega)
theorem parts (l : List UInt8) (p : Nat) : l = l.take p ++ (l.drop p).take 4 ++ l.drop (p + 4) := by
  rw [← List.drop_drop, List.append_assoc, List.take_append_drop, List.take_append_drop]
theorem turned_sum (l : List UInt8) (p t : Nat) (h : more 0 (turned l p t 4) = more 0 l) : turned l p t 4 = l := by
  have h1 := parts (turned l p t 4) p
  have h2 := parts l p
  rw [turned_take, turned_drop l p t 4 (by omega)] at h1
  have h3 : more 0 (l.take p ++ ((turned l p t 4).drop p).take 4 ++ l.drop (p + 4)) = more 0 (l.take p ++ (l.drop p).take 4 ++ l.drop (p + 4)) := by
    rw [← h1, ← h2]; exact h
  have h4 := more_burst 0 _ _ _ _ (by simp; omega) (by simp [turned_length]) h3
  rw [h1, h4, ← h2]
end Crc

theorem bytes_ext {a b : ByteArray} (h : a.toList = b.toList) : a = b := by
  rw [ByteArray.toList_eq, ByteArray.toList_eq] at h
  exact Go.WideShapes.bytes_inj h

/-- Block B holds the bytes l, and they may be written. -/
def Owns (w : World) (B : Nat) (l : List UInt8) : Prop := ∀ j, j < l.length → w.cell? ⟨B, j, none⟩ = some (.int .u8 ((l.getD j 0).toNat : Int)) ∧ w.frozen? ⟨B, j, none⟩ = false

theorem Owns.set {w : World} {B : Nat} {l : List UInt8} (h : Owns w B l) (i : Nat) (hi : i < l.length) (x : UInt8) (n : Int) (hn : n = (x.toNat : Int)) : Owns (w.setCell ⟨B, i, none⟩ (.int .u8 n)) B (l.set i x) := by
  subst hn
  intro j hj
  rw [List.length_set] at hj
  obtain ⟨h1, h2⟩ := h j hj
  obtain ⟨h3, _⟩ := h i hi
  refine ⟨?_, ?_⟩
  · by_cases hij : i = j
    · subst hij
      rw [World.cell?_setCell_same _ _ _ h3]
      simp [List.getD, hi]
    · rw [World.cell?_setCell_other _ _ _ _ (fun e => hij (by injection e)), h1]
      simp [List.getD, hij]
  · rw [World.frozen?_setCell]; exact h2
theorem Owns.drew {w : World} {B : Nat} {l : List UInt8} (h : Owns w B l) : Owns w.drew B l := h
theorem xor_turn (x : UInt8) (t k : Nat) : bits .xor .u8 (x.toNat : Int) ((t : Int) / 2 ^ (8 * k) % 256) = ((x ^^^ UInt8.ofNat (t / 2 ^ (8 * k))).toNat : Int) := by
  have h1 : (t : Int) / 2 ^ (8 * k) % 256 = ((t / 2 ^ (8 * k) % 256 : Nat) : Int) := by simp
  rw [h1, u8_xor_nat _ _ x.toNat_lt (by omega), UInt8.toNat_xor, UInt8.toNat_ofNat']
theorem owns_made (s : ByteArray) (w : World) (c : Nat) (t : TypeId) :
    Owns (w.alloc (.cells (bytesRow s c) t ((bytesRow s c).size, (bytesRow s c).size + 1))).drew w.heap.size s.data.toList := by
  intro j hj
  have hj2 : j < s.data.size := by simpa using hj
  refine ⟨?_, ?_⟩
  · show (w.alloc _).cell? _ = _
    rw [World.cell?_alloc_mark, bytesRow_at s c j hj2]
    simp only [List.getD, Array.getElem?_toList, Array.getElem?_eq_getElem hj2, Option.getD_some]
  · show (w.alloc _).frozen? _ = _
    rw [World.frozen?_alloc_mark]
    have h2 : s.data.size ≤ (bytesRow s c).size := by simp [bytesRow]
    simp; omega
theorem tmod_at (a : Int) (n : Nat) (hn : 0 < n) : ∃ p : Nat, p < n ∧ (IntKind.u64.wrap a).tmod (n : Int) = (p : Int) := by
  rw [IntKind.wrap_u64]
  obtain ⟨m, hm⟩ := Int.eq_ofNat_of_zero_le (show 0 ≤ a % 18446744073709551616 by omega)
  rw [hm]
  exact ⟨m % n, Nat.mod_lt _ hn, rfl⟩

end Go.Proofs.Ytfboneehnmbklaa
