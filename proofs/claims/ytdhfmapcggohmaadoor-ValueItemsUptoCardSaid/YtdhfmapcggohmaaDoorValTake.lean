/-
  What value.take returns, for every slice of items that holds one: the value that stands at its head.
  No condition but that the numbers of the items fit their kind.
-/
import Derived.Test.YtdhfmapcggohmaaDoorValTake0
import Derived.WalkKit
import Derived.WalkSpells
import Derived.WalkLawsBesides
import Derived.Handy
import Derived.Deep.QuietTactic
import Derived.BigQuiet
import Derived.Deep.Draws
import Derived.Lib.Hide
namespace Go.Proofs.YtdhfmapcggohmaaDoor
open Go.RowKit

section
variable (b o c n : Nat) (x y : Val.It) (w : World)
set_option maxRecDepth 100000 in
set_option maxHeartbeats 1600000 in
theorem take_i (hn : 2 ≤ n) (hb : b < w.heap.size) (hx : At w b o 0 x) (hy : At w b o 1 y) (hN : ∀ w, Calls Tryd.prog 21 #[.int .i64 x.n] w (IsNamed true false false true w)) :
    Calls Tryd.prog 29 #[.slice (some ⟨b, o, none⟩) n c] w fun e w' => e = .returned (.agg #[.int .i64 x.n, .int .i64 y.n, .int .u64 0, .string ⟨#[]⟩]) ∧ Below w.heap.size w w' := by
  obtain ⟨xk, xn, xs⟩ := x
  obtain ⟨yk, yn, ys⟩ := y
  simp only at hN
  have HN := Lib.hid hN
  have HY := Lib.hid hy
  obtain ⟨x0, x1, x2⟩ := hx
  simp only [Nat.zero_mul, Nat.add_zero] at x0 x1 x2
  have hn1 : ((n : Int) == 1) = false := by rw [beq_eq_false_iff_ne]; omega
  have HZ := Lib.hid ((Box.new w (.int .i64 0) (.int .i64 0) (.int .u64 0) (.string ⟨#[]⟩)).alloc (.cells #[.int .i64 xn, .int .i64 0, .int .u64 0, .string ⟨#[]⟩] 24))
  have HV := Lib.hid (Box.new (w.alloc (.cells #[.int .i64 0, .int .i64 0, .int .u64 0, .string ⟨#[]⟩] 24)) (.int .i64 xn) (.int .i64 0) (.int .u64 0) (.string ⟨#[]⟩))
  clear hN hy
  go_enter Tryd.func29, Tryd.ntmps29
  go_wp2_with fail
  refine (HN.out _).mono ?_; rintro e w1 ⟨rfl, b1⟩
  have HZ1 := Lib.hid (HZ.out.below b1 (by simp <;> omega))
  have HV1 := Lib.hid (HV.out.below b1 (by simp <;> omega))
  have hlt := HZ1.out.lt
  have hlt2 := HV1.out.lt
  simp only [World.size_alloc] at HV1 hlt2
  have hb1 : b < w1.heap.size := by omega
  have HB := Lib.hid ((((Below.refl _ w).alloc (Nat.le_refl _) _).alloc (by simp) _).trans (b1.mono (by simp <;> omega)))
  obtain ⟨y0, y1, y2⟩ := HY.out.keep (w' := w1) (fun p hp => HB.out.cell (by rw [hp]; exact hb))
  simp only [Nat.one_mul] at y0 y1 y2
  obtain ⟨z0, z1, z2, z3, f0, f1, f2, f3⟩ := HZ1.out.all
  obtain ⟨v0, v1, v2, v3, g0, g1, g2, g3⟩ := HV1.out.all
  clear b1
  go_wp2_with fail
  exact ret_box1 Tryd.results29 rfl rfl ((box_store (HZ1.out.other (g := w.heap.size + 1) (by omega) 1 _) _ _ _ _).alloc _) ⟨rfl, ((stored_below (HB.out.setCell (p := ⟨w.heap.size + 1, 1, none⟩) (by show w.heap.size ≤ w.heap.size + 1; omega) _) (Nat.le_refl _) _ _ _ _).alloc (stored_below (HB.out.setCell (p := ⟨w.heap.size + 1, 1, none⟩) (by show w.heap.size ≤ w.heap.size + 1; omega) _) (Nat.le_refl _) _ _ _ _).size _)⟩
set_option maxRecDepth 100000 in
set_option maxHeartbeats 1600000 in
theorem take_f (hn : 2 ≤ n) (hb : b < w.heap.size) (hx : At w b o 0 x) (hy : At w b o 1 y) (hN : ∀ w, Calls Tryd.prog 21 #[.int .i64 x.n] w (IsNamed false true false true w)) :
    Calls Tryd.prog 29 #[.slice (some ⟨b, o, none⟩) n c] w fun e w' => e = .returned (.agg #[.int .i64 x.n, .int .i64 0, .int .u64 (Val.us y.n : Nat), .string ⟨#[]⟩]) ∧ Below w.heap.size w w' := by
  obtain ⟨xk, xn, xs⟩ := x
  obtain ⟨yk, yn, ys⟩ := y
  simp only at hN
  have hus := wrap_us yn
  simp only
  generalize Val.us yn = u at *
  have HN := Lib.hid hN
  have HY := Lib.hid hy
  obtain ⟨x0, x1, x2⟩ := hx
  simp only [Nat.zero_mul, Nat.add_zero] at x0 x1 x2
  have hn1 : ((n : Int) == 1) = false := by rw [beq_eq_false_iff_ne]; omega
  have HZ := Lib.hid ((Box.new w (.int .i64 0) (.int .i64 0) (.int .u64 0) (.string ⟨#[]⟩)).alloc (.cells #[.int .i64 xn, .int .i64 0, .int .u64 0, .string ⟨#[]⟩] 24))
  have HV := Lib.hid (Box.new (w.alloc (.cells #[.int .i64 0, .int .i64 0, .int .u64 0, .string ⟨#[]⟩] 24)) (.int .i64 xn) (.int .i64 0) (.int .u64 0) (.string ⟨#[]⟩))
  clear hN hy
  go_enter Tryd.func29, Tryd.ntmps29
  go_wp2_with fail
  refine (HN.out _).mono ?_; rintro e w1 ⟨rfl, b1⟩
  have HZ1 := Lib.hid (HZ.out.below b1 (by simp <;> omega))
  have HV1 := Lib.hid (HV.out.below b1 (by simp <;> omega))
  have hlt := HZ1.out.lt
  have hlt2 := HV1.out.lt
  simp only [World.size_alloc] at HV1 hlt2
  have hb1 : b < w1.heap.size := by omega
  have HB := Lib.hid ((((Below.refl _ w).alloc (Nat.le_refl _) _).alloc (by simp) _).trans (b1.mono (by simp <;> omega)))
  obtain ⟨y0, y1, y2⟩ := HY.out.keep (w' := w1) (fun p hp => HB.out.cell (by rw [hp]; exact hb))
  simp only [Nat.one_mul] at y0 y1 y2
  obtain ⟨z0, z1, z2, z3, f0, f1, f2, f3⟩ := HZ1.out.all
  obtain ⟨v0, v1, v2, v3, g0, g1, g2, g3⟩ := HV1.out.all
  clear b1
  go_wp2_with fail
  exact ret_box1 Tryd.results29 rfl rfl ((box_store (HZ1.out.other (g := w.heap.size + 1) (by omega) 2 _) _ _ _ _).alloc _) ⟨rfl, ((stored_below (HB.out.setCell (p := ⟨w.heap.size + 1, 2, none⟩) (by show w.heap.size ≤ w.heap.size + 1; omega) _) (Nat.le_refl _) _ _ _ _).alloc (stored_below (HB.out.setCell (p := ⟨w.heap.size + 1, 2, none⟩) (by show w.heap.size ≤ w.heap.size + 1; omega) _) (Nat.le_refl _) _ _ _ _).size _)⟩
end
end Go.Proofs.YtdhfmapcggohmaaDoor
