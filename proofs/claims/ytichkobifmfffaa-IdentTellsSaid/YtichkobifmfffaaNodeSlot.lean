/-
  What Slot returns, the program's and the document's: the first node of a slot.
  No condition but that a slice is no longer than a machine's.
-/
import Derived.Test.YtichkobifmfffaaNodeOne
import Derived.WalkKit
import Derived.WalkSpells
import Derived.WalkLawsBesides
import Derived.Handy
import Derived.Deep.QuietTactic
import Derived.BigQuiet
import Derived.Deep.RegionWith
import Derived.Deep.RegionHeld3
import Derived.Deep.Draws
import Derived.Lib.Hide
namespace Go.Proofs.Ytichkobifmfffaa
open Go.RowKit

/-- What Slot answers. -/
def slotV (o : Option Ident.Id) : Value := .tuple #[nv (o.getD ⟨0, 0⟩), .bool o.isSome]
def Missing (l : List Ident.Id) (k : Nat) (n : Int) : Prop := ∀ y ∈ l.take k, ¬ y.s = n
theorem missing_all {l : List Ident.Id} {k : Nat} {n : Int} (h : Missing l k n) (hk : l.length ≤ k) : Ident.slot l n = none :=
  Ident.slot_none fun y hy => h y (by rw [List.take_of_length_le hk]; exact hy)
theorem ne_false {a b : Int} (h : a ≠ b) : (a == b) = false := by simpa using h

set_option maxHeartbeats 1600000 in
theorem slot_any (A : Option Addr) (c : Nat) (l : List Ident.Id) (q : Int) (w : World) (hl : l.length ≤ 9223372036854775807) (hi : nodeLay.Reads w w.heap.size A l) :
    Calls Try.prog 9 #[.slice A l.length c, .int .i64 q] w fun e w' => e = .returned (slotV (Ident.slot l q)) ∧ Below w.heap.size w w' := by
  have HI := Lib.hid hi
  clear hi
  have HP := Lib.hid (Pair.new w ⟨0, 0⟩)
  have HB0 := Lib.hid ((Below.refl _ w).alloc (Nat.le_refl _) (.cells #[.int .i64 0, .int .i64 0] 24))
  generalize hn : l.length = n at *
  have HN := Lib.hid hn
  clear hn
  go_enter Try.func9, Try.ntmps9
  go_wp2_with fail
  go_loopw [10] (fun vi wr => ∃ k : Nat, k ≤ n ∧ vi = .int .i64 k ∧ Hid (Missing l k q) ∧ Hid (Pair wr w.heap.size ⟨0, 0⟩) ∧ Hid (Below w.heap.size w wr)) (fun vi _ => n - (intOf vi).toNat)
  case atStart => exact ⟨0, Nat.zero_le _, rfl, Lib.hid (fun y hy => by simp at hy), HP, HB0⟩
  case round =>
    obtain ⟨k, hk, rfl, HF, HQ, HB⟩ := hrel
    obtain ⟨q0, q1, f0, f1⟩ := HQ.out.all
    have hs := HB.out.size
    have hlt2 := HQ.out.lt
    clear HP HB0
    simp only at q0 q1
    by_cases hlt : k < n
    · obtain ⟨x, hx⟩ := Lay.get_of (l := l) (k := k) (by rw [HN.out]; exact hlt)
      obtain ⟨b, o, rfl, hb, hc⟩ := HI.out (by rw [HN.out]; omega)
      obtain ⟨c0, c1⟩ := at_node ((hc k x hx).keep (w' := wr) fun p hp => HB.out.cell (by rw [hp]; exact hb))
      have HX := Lib.hid hx
      obtain ⟨xs, xc⟩ := x
      have HB1 := Lib.hid (HB.out.alloc hs (.cells #[.int .i64 xs, .int .i64 xc] 24))
      have HQ1 := Lib.hid (HQ.out.alloc (.cells #[.int .i64 xs, .int .i64 xc] 24))
      clear hx hc
      simp only at c0 c1
      by_cases he : xs = q
      · subst he
        have HR := Lib.hid (Ident.slot_here HF.out HX.out rfl)
        clear HF
        go_wp2_with fail
        exact ret_node Try.results9 rfl rfl rfl ((pair_store HQ.out ⟨xs, xc⟩).alloc _) ⟨by rw [HR.out]; rfl, (stored2_below HB.out (Nat.le_refl _) ⟨xs, xc⟩).alloc (stored2_below HB.out (Nat.le_refl _) ⟨xs, xc⟩).size _⟩
      · have HF1 : Hid (Missing l (k + 1) q) := Lib.hid (Ident.take_step HF.out HX.out he)
        have he2 := ne_false he
        clear HF
        go_wp2_with fail
        exact ⟨⟨k + 1, by omega, by go_num, HF1, HQ1, HB1⟩, by simp [intOf]; omega⟩
    · obtain rfl : k = n := by omega
      have HR := Lib.hid (missing_all HF.out (by rw [HN.out]; exact Nat.le_refl _))
      go_wp2_with fail
      exact ret_node Try.results9 rfl rfl rfl (pair_store HQ.out ⟨0, 0⟩) ⟨by rw [HR.out]; rfl, stored2_below HB.out (Nat.le_refl _) ⟨0, 0⟩⟩

set_option maxHeartbeats 1600000 in
theorem rslot_any (A : Option Addr) (c : Nat) (l : List Ident.Id) (q : Int) (w : World) (hl : l.length ≤ 9223372036854775807) (hi : nodeLay.Reads w w.heap.size A l) :
    Calls Try.prog 10 #[.slice A l.length c, .int .i64 q] w fun e w' => e = .returned (slotV (Ident.slot l q)) ∧ Below w.heap.size w w' := by
  have HI := Lib.hid hi
  clear hi
  have HP := Lib.hid (Pair.new w ⟨0, 0⟩)
  have HB0 := Lib.hid ((Below.refl _ w).alloc (Nat.le_refl _) (.cells #[.int .i64 0, .int .i64 0] 24))
  generalize hn : l.length = n at *
  have HN := Lib.hid hn
  clear hn
  go_enter Try.func10, Try.ntmps10
  go_wp2_with fail
  go_loopw [6] (fun vi wr => ∃ k : Nat, k ≤ n ∧ vi = .int .i64 k ∧ Hid (Missing l k q) ∧ Hid (Pair wr w.heap.size ⟨0, 0⟩) ∧ Hid (Below w.heap.size w wr)) (fun vi _ => n - (intOf vi).toNat)
  case atStart => exact ⟨0, Nat.zero_le _, rfl, Lib.hid (fun y hy => by simp at hy), HP, HB0⟩
  case round =>
    obtain ⟨k, hk, rfl, HF, HQ, HB⟩ := hrel
    obtain ⟨q0, q1, f0, f1⟩ := HQ.out.all
    have hs := HB.out.size
    have hlt2 := HQ.out.lt
    clear HP HB0
    simp only at q0 q1
    by_cases hlt : k < n
    · obtain ⟨x, hx⟩ := Lay.get_of (l := l) (k := k) (by rw [HN.out]; exact hlt)
      obtain ⟨b, o, rfl, hb, hc⟩ := HI.out (by rw [HN.out]; omega)
      obtain ⟨c0, c1⟩ := at_node ((hc k x hx).keep (w' := wr) fun p hp => HB.out.cell (by rw [hp]; exact hb))
      have HX := Lib.hid hx
      obtain ⟨xs, xc⟩ := x
      have hk1 : (0 : Int) ≤ (k : Int) := by omega
      have hk2 : (k : Int) < (n : Int) := by omega
      clear hx hc
      simp only at c0 c1
      by_cases he : xs = q
      · subst he
        have HR := Lib.hid (Ident.slot_here HF.out HX.out rfl)
        clear HF
        go_wp2_with fail
        exact ret_node Try.results10 rfl rfl rfl (pair_store HQ.out ⟨xs, xc⟩) ⟨by rw [HR.out]; rfl, stored2_below HB.out (Nat.le_refl _) ⟨xs, xc⟩⟩
      · have HF1 : Hid (Missing l (k + 1) q) := Lib.hid (Ident.take_step HF.out HX.out he)
        have he2 := ne_false he
        clear HF
        go_wp2_with fail
        exact ⟨⟨k + 1, by omega, by go_num, HF1, HQ, HB⟩, by simp [intOf]; omega⟩
    · obtain rfl : k = n := by omega
      have HR := Lib.hid (missing_all HF.out (by rw [HN.out]; exact Nat.le_refl _))
      go_wp2_with fail
      exact ret_node Try.results10 rfl rfl rfl (pair_store HQ.out ⟨0, 0⟩) ⟨by rw [HR.out]; rfl, stored2_below HB.out (Nat.le_refl _) ⟨0, 0⟩⟩
end Go.Proofs.Ytichkobifmfffaa
