/-
  What the law ValueOrders returns: true, for every three values.
  No condition but the form's own, and what the listed variables hold.
-/
import Derived.Test.YtdhfmapcggohmaaDoorValLaws2
import Derived.WalkKit
import Derived.WalkSpells
import Derived.WalkLawsBesides
import Derived.Handy
import Derived.Deep.QuietTactic
import Derived.BigQuiet
import Derived.Deep.RegionWith
import Derived.Deep.RegionHeld3
import Derived.Deep.Draws
import Derived.Lib.Hide
namespace Go.Proofs.YtdhfmapcggohmaaDoor
open Go.RowKit

/-- Two values are one, or differ at some first field. -/
def Differ (a b : Val.V) : Prop := ¬ a.k = b.k ∨ (a.k = b.k ∧ ¬ a.n = b.n) ∨ (a.k = b.k ∧ a.n = b.n ∧ ¬ a.f = b.f) ∨ (a.k = b.k ∧ a.n = b.n ∧ a.f = b.f ∧ ¬ a.s = b.s)
theorem differ_of {a b : Val.V} (h : a ≠ b) : Differ a b := by
  obtain ⟨k, n, f, s⟩ := a
  obtain ⟨k', n', f', s'⟩ := b
  unfold Differ
  simp only
  by_cases h1 : k = k'
  · by_cases h2 : n = n'
    · by_cases h3 : f = f'
      · by_cases h4 : s = s'
        · subst h1 h2 h3 h4; exact absurd rfl h
        · exact .inr (.inr (.inr ⟨h1, h2, h3, h4⟩))
      · exact .inr (.inr (.inl ⟨h1, h2, h3⟩))
    · exact .inr (.inl ⟨h1, h2⟩)
  · exact .inl h1
/-- The cells of two values, and what is beside them. -/
def Two (w W : World) (a b c : Val.V) : Prop := W.cell? ⟨w.heap.size, 0, none⟩ = some (.int .i64 a.k) ∧ W.cell? ⟨w.heap.size, 1, none⟩ = some (.int .i64 a.n) ∧ W.cell? ⟨w.heap.size, 2, none⟩ = some (.int .u64 (a.f : Int)) ∧ W.cell? ⟨w.heap.size, 3, none⟩ = some (.string a.s) ∧
  W.cell? ⟨w.heap.size + 1, 0, none⟩ = some (.int .i64 b.k) ∧ W.cell? ⟨w.heap.size + 1, 1, none⟩ = some (.int .i64 b.n) ∧ W.cell? ⟨w.heap.size + 1, 2, none⟩ = some (.int .u64 (b.f : Int)) ∧ W.cell? ⟨w.heap.size + 1, 3, none⟩ = some (.string b.s) ∧
  W.cell? ⟨w.heap.size + 1 + 1, 0, none⟩ = some (.int .i64 c.k) ∧ W.cell? ⟨w.heap.size + 1 + 1, 1, none⟩ = some (.int .i64 c.n) ∧ W.cell? ⟨w.heap.size + 1 + 1, 2, none⟩ = some (.int .u64 (c.f : Int)) ∧ W.cell? ⟨w.heap.size + 1 + 1, 3, none⟩ = some (.string c.s) ∧ Hid (Below w.heap.size w W)
theorem Two.below {w W : World} {a b c : Val.V} (h : Two w W a b c) : Below w.heap.size w W := h.2.2.2.2.2.2.2.2.2.2.2.2.out
theorem Two.step {w W w1 : World} {a b c : Val.V} (h : Two w W a b c) (hb : Below W.heap.size W w1) : Two w w1 a b c := by
  have hbe := h.below
  obtain ⟨a0, a1, a2, a3, b0, b1, b2, b3, c0, c1, c2, c3, _⟩ := h
  have ha : Four w.heap.size a W := ⟨a0, a1, a2, a3⟩
  have hb' : Four (w.heap.size + 1) b W := ⟨b0, b1, b2, b3⟩
  have hc : Four (w.heap.size + 1 + 1) c W := ⟨c0, c1, c2, c3⟩
  obtain ⟨a0, a1, a2, a3⟩ := ha.keep hb
  obtain ⟨b0, b1, b2, b3⟩ := hb'.keep hb
  obtain ⟨c0, c1, c2, c3⟩ := hc.keep hb
  exact ⟨a0, a1, a2, a3, b0, b1, b2, b3, c0, c1, c2, c3, Lib.hid (hbe.trans (hb.mono hbe.size))⟩
theorem Two.drew {w W : World} {a b c : Val.V} (h : Two w W a b c) : Two w W.drew a b c := h.step (Below.refl _ W).drew
theorem two_new (w : World) (a b c : Val.V) : Two w (((w.alloc (.cells #[.int .i64 a.k, .int .i64 a.n, .int .u64 (a.f : Int), .string a.s] 24)).alloc (.cells #[.int .i64 b.k, .int .i64 b.n, .int .u64 (b.f : Int), .string b.s] 24)).alloc (.cells #[.int .i64 c.k, .int .i64 c.n, .int .u64 (c.f : Int), .string c.s] 24)).drew a b c := by
  have A := Four.new w a.k a.n a.f a.s
  have B := Four.new (w.alloc (.cells #[.int .i64 a.k, .int .i64 a.n, .int .u64 (a.f : Int), .string a.s] 24)) b.k b.n b.f b.s
  have C := Four.new ((w.alloc (.cells #[.int .i64 a.k, .int .i64 a.n, .int .u64 (a.f : Int), .string a.s] 24)).alloc (.cells #[.int .i64 b.k, .int .i64 b.n, .int .u64 (b.f : Int), .string b.s] 24)) c.k c.n c.f c.s
  have A2 := A.keep ((Below.refl _ _).alloc (Nat.le_refl _) (.cells #[.int .i64 b.k, .int .i64 b.n, .int .u64 (b.f : Int), .string b.s] 24))
  have A3 := A2.keep ((Below.refl _ _).alloc (Nat.le_refl _) (.cells #[.int .i64 c.k, .int .i64 c.n, .int .u64 (c.f : Int), .string c.s] 24))
  have B3 := B.keep ((Below.refl _ _).alloc (Nat.le_refl _) (.cells #[.int .i64 c.k, .int .i64 c.n, .int .u64 (c.f : Int), .string c.s] 24))
  simp only [World.size_alloc] at B3 C
  obtain ⟨a0, a1, a2, a3⟩ := A3
  obtain ⟨b0, b1, b2, b3⟩ := B3
  obtain ⟨c0, c1, c2, c3⟩ := C
  exact ⟨a0, a1, a2, a3, b0, b1, b2, b3, c0, c1, c2, c3, Lib.hid (((((Below.refl _ w).alloc (Nat.le_refl _) _).alloc (by simp) _).alloc (by simp <;> omega) _).drew)⟩
theorem with_world {S : World → Prop} {Q : Exit → Act → World → Prop} {e : Exit} {a : Act} {w : World} (hs : S w) (h : S w → Q e a w) : Q e a w := h hs
/-- What the law asks of the order's three answers. -/
theorem three (a b c : Val.V) : 0 < Val.cmpV a b ∨ (Val.cmpV a b ≤ 0 ∧ 0 < Val.cmpV b c) ∨ (Val.cmpV a b ≤ 0 ∧ Val.cmpV b c ≤ 0 ∧ Val.cmpV a c ≤ 0) := by
  have := Val.cmpV_ord.trans a b c
  omega
/-- What the law asks of two values' order and whether they are one. -/
theorem same_or (a b : Val.V) (ha : a.f < 18446744073709551616) (hb : b.f < 18446744073709551616) : ¬ Val.chk a = 0 ∨ (Val.chk a = 0 ∧ ¬ Val.chk b = 0) ∨ (Val.chk a = 0 ∧ Val.chk b = 0 ∧ Val.cmpV a b = 0 ∧ a = b) ∨ (Val.chk a = 0 ∧ Val.chk b = 0 ∧ ¬ Val.cmpV a b = 0 ∧ Differ a b) := by
  by_cases h1 : Val.chk a = 0
  · by_cases h2 : Val.chk b = 0
    · have h := Val.cmpV_zero ha hb h1 h2
      by_cases h3 : a = b
      · exact .inr (.inr (.inl ⟨h1, h2, h.2 h3, h3⟩))
      · exact .inr (.inr (.inr ⟨h1, h2, fun e => h3 (h.1 e), differ_of h3⟩))
    · exact .inr (.inl ⟨h1, h2⟩)
  · exact .inl h1

end Go.Proofs.YtdhfmapcggohmaaDoor
