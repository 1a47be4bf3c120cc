/-
  What the law IdentTells returns: true, for every argument.
  No condition but the form's own.
-/
import Derived.Test.YtichkobifmfffaaNodeAwake
import Derived.Test.YtichkobifmfffaaNodeRRise
import Derived.Test.YtichkobifmfffaaNodeSlot
import Derived.WalkKit
import Derived.WalkSpells
import Derived.WalkLawsBesides
import Derived.Handy
import Derived.Deep.QuietTactic
import Derived.BigQuiet
import Derived.Deep.RegionWith
import Derived.Deep.RegionHeld3
import Derived.Deep.Draws
import Derived.Lib.Hide
namespace Go.Proofs.Ytichkobifmfffaa
open Go.RowKit
/-- Three blocks of a node each are kept, and what was below a mark. -/
def Keep6 (w : World) (g g' g'' : Nat) (x y z : Ident.Id) (W : World) : Prop :=
  W.cell? ⟨g, 0, none⟩ = some (.int .i64 x.s) ∧ W.cell? ⟨g, 1, none⟩ = some (.int .i64 x.c) ∧ W.cell? ⟨g', 0, none⟩ = some (.int .i64 y.s) ∧ W.cell? ⟨g', 1, none⟩ = some (.int .i64 y.c) ∧
  W.cell? ⟨g'', 0, none⟩ = some (.int .i64 z.s) ∧ W.cell? ⟨g'', 1, none⟩ = some (.int .i64 z.c) ∧ Hid (Below w.heap.size w W)
theorem Keep6.step {w W W' : World} {g g' g'' : Nat} {x y z : Ident.Id} (h : Keep6 w g g' g'' x y z W) (hb : Below W.heap.size W W') : Keep6 w g g' g'' x y z W' := by
  obtain ⟨a1, a2, a3, a4, a5, a6, a7⟩ := h
  have l1 := World.block_lt_of_cell? W _ a1
  have l2 := World.block_lt_of_cell? W _ a3
  have l3 := World.block_lt_of_cell? W _ a5
  exact ⟨(hb.cell (p := ⟨g, 0, none⟩) l1).trans a1, (hb.cell (p := ⟨g, 1, none⟩) l1).trans a2, (hb.cell (p := ⟨g', 0, none⟩) l2).trans a3, (hb.cell (p := ⟨g', 1, none⟩) l2).trans a4,
    (hb.cell (p := ⟨g'', 0, none⟩) l3).trans a5, (hb.cell (p := ⟨g'', 1, none⟩) l3).trans a6, Lib.hid (a7.out.trans (hb.mono a7.out.size))⟩

set_option maxHeartbeats 3200000 in
theorem tells_yes (A : Option Addr) (c : Nat) (l : List Ident.Id) (x : Ident.Id) (w : World) (hl : l.length * 16 ≤ reachBytes) (hi : nodeLay.Reads w w.heap.size A l) :
    Lift.Yes Try.prog 3 #[.slice A l.length c, nv x] w := by
  rw [reach_num] at hl
  have H1 := Lib.hid (fun W (h : Below w.heap.size w W) => slot_any A c l x.s W (by omega) (hi.later h (Nat.le_refl _)))
  have H2 := Lib.hid (fun W (h : Below w.heap.size w W) => rslot_any A c l x.s W (by omega) (hi.later h (Nat.le_refl _)))
  have H3 := Lib.hid (fun W (_ : Below w.heap.size w W) => right_any x W)
  have H4 := Lib.hid (fun W (_ : Below w.heap.size w W) => rright_any x W)
  have H5 := Lib.hid (fun W (h : Below w.heap.size w W) => rises_any A c l W (by omega) (hi.later h (Nat.le_refl _)))
  have H6 := Lib.hid (fun W (h : Below w.heap.size w W) => rrises_any A c l W (by omega) (hi.later h (Nat.le_refl _)))
  have H7 := Lib.hid (fun W (h : Below w.heap.size w W) => has_any A c l x W (by omega) (hi.later h (Nat.le_refl _)))
  have H8 := Lib.hid (fun W (h : Below w.heap.size w W) => rhas_any A c l x W (by omega) (hi.later h (Nat.le_refl _)))
  have HP := Lib.hid (Pair.new w x)
  have HB0 := Lib.hid ((Below.refl _ w).alloc (Nat.le_refl _) (.cells #[.int .i64 x.s, .int .i64 x.c] 24))
  unfold slotV at H1 H2
  generalize Ident.slot l x.s = so at *
  generalize so.getD ⟨0, 0⟩ = y at *
  generalize so.isSome = ok at *
  generalize Ident.right x = r at *
  generalize Ident.rises l = ri at *
  generalize Ident.has l x = ha at *
  generalize l.length = n at *
  clear hi hl
  obtain ⟨s, t⟩ := x
  obtain ⟨ys, yt⟩ := y
  unfold nv at *
  simp only at H1 H2 H3 H4 H7 H8 HB0
  unfold Lift.Yes
  go_enter Try.func3, Try.ntmps3
  go_wp2_with fail
  refine (H1.out _ HB0.out).mono ?_; rintro e w1 ⟨rfl, b1⟩
  have HP1 := Lib.hid ((HP.out.below b1 (by simp)).alloc (.cells #[.int .i64 ys, .int .i64 yt] 24))
  have HB1 := Lib.hid ((Lift.then2 HB0.out b1).alloc (Lift.then2 HB0.out b1).size (.cells #[.int .i64 ys, .int .i64 yt] 24))
  have HA1 := Lib.hid (Pair.new w1 ⟨ys, yt⟩)
  obtain ⟨q0, q1, -⟩ := (HP.out.below b1 (by simp)).all
  simp only at q0 q1
  have hlt1 := (HP.out.below b1 (by simp)).lt
  clear b1
  go_wp2_with fail
  refine (H2.out _ HB1.out).mono ?_; rintro e w2 ⟨rfl, b2⟩
  have HP2 := Lib.hid ((HP1.out.below b2 HP1.out.lt).alloc (.cells #[.int .i64 ys, .int .i64 yt] 24))
  have HA2 := Lib.hid ((HA1.out.below b2 (by simp)).alloc (.cells #[.int .i64 ys, .int .i64 yt] 24))
  have HC2 := Lib.hid (Pair.new w2 ⟨ys, yt⟩)
  have HB2 := Lib.hid ((Lift.then2 HB1.out b2).alloc (Lift.then2 HB1.out b2).size (.cells #[.int .i64 ys, .int .i64 yt] 24))
  have hK : Keep6 w w.heap.size w1.heap.size w2.heap.size ⟨s, t⟩ ⟨ys, yt⟩ ⟨ys, yt⟩ (w2.alloc (.cells #[.int .i64 ys, .int .i64 yt] 24)).drew := ⟨HP2.out.cell 0, HP2.out.cell 1, HA2.out.cell 0, HA2.out.cell 1, HC2.out.cell 0, HC2.out.cell 1, Lib.hid HB2.out.drew⟩
  have G0 : Hid (∀ W, Keep6 w w.heap.size w1.heap.size w2.heap.size ⟨s, t⟩ ⟨ys, yt⟩ ⟨ys, yt⟩ W → Calls Try.prog 11 #[] W fun e w' => e = .returned (.bool true) ∧ Keep6 w w.heap.size w1.heap.size w2.heap.size ⟨s, t⟩ ⟨ys, yt⟩ ⟨ys, yt⟩ w') := Lib.hid fun W hW => (nawake_any W).mono fun e w' ⟨he, hb⟩ => ⟨he, hW.step hb⟩
  have G3 : Hid (∀ W, Keep6 w w.heap.size w1.heap.size w2.heap.size ⟨s, t⟩ ⟨ys, yt⟩ ⟨ys, yt⟩ W → Calls Try.prog 12 #[.agg #[.int .i64 s, .int .i64 t]] W fun e w' => e = .returned (.bool r) ∧ Keep6 w w.heap.size w1.heap.size w2.heap.size ⟨s, t⟩ ⟨ys, yt⟩ ⟨ys, yt⟩ w') := Lib.hid fun W hW => (H3.out W hW.2.2.2.2.2.2.out).mono fun e w' ⟨he, hb⟩ => ⟨he, hW.step hb⟩
  have G4 : Hid (∀ W, Keep6 w w.heap.size w1.heap.size w2.heap.size ⟨s, t⟩ ⟨ys, yt⟩ ⟨ys, yt⟩ W → Calls Try.prog 13 #[.agg #[.int .i64 s, .int .i64 t]] W fun e w' => e = .returned (.bool r) ∧ Keep6 w w.heap.size w1.heap.size w2.heap.size ⟨s, t⟩ ⟨ys, yt⟩ ⟨ys, yt⟩ w') := Lib.hid fun W hW => (H4.out W hW.2.2.2.2.2.2.out).mono fun e w' ⟨he, hb⟩ => ⟨he, hW.step hb⟩
  have G5 : Hid (∀ W, Keep6 w w.heap.size w1.heap.size w2.heap.size ⟨s, t⟩ ⟨ys, yt⟩ ⟨ys, yt⟩ W → Calls Try.prog 14 #[.slice A n c] W fun e w' => e = .returned (.bool ri) ∧ Keep6 w w.heap.size w1.heap.size w2.heap.size ⟨s, t⟩ ⟨ys, yt⟩ ⟨ys, yt⟩ w') := Lib.hid fun W hW => (H5.out W hW.2.2.2.2.2.2.out).mono fun e w' ⟨he, hb⟩ => ⟨he, hW.step hb⟩
  have G6 : Hid (∀ W, Keep6 w w.heap.size w1.heap.size w2.heap.size ⟨s, t⟩ ⟨ys, yt⟩ ⟨ys, yt⟩ W → Calls Try.prog 15 #[.slice A n c] W fun e w' => e = .returned (.bool ri) ∧ Keep6 w w.heap.size w1.heap.size w2.heap.size ⟨s, t⟩ ⟨ys, yt⟩ ⟨ys, yt⟩ w') := Lib.hid fun W hW => (H6.out W hW.2.2.2.2.2.2.out).mono fun e w' ⟨he, hb⟩ => ⟨he, hW.step hb⟩
  have G7 : Hid (∀ W, Keep6 w w.heap.size w1.heap.size w2.heap.size ⟨s, t⟩ ⟨ys, yt⟩ ⟨ys, yt⟩ W → Calls Try.prog 16 #[.slice A n c, .agg #[.int .i64 s, .int .i64 t]] W fun e w' => e = .returned (.bool ha) ∧ Keep6 w w.heap.size w1.heap.size w2.heap.size ⟨s, t⟩ ⟨ys, yt⟩ ⟨ys, yt⟩ w') := Lib.hid fun W hW => (H7.out W hW.2.2.2.2.2.2.out).mono fun e w' ⟨he, hb⟩ => ⟨he, hW.step hb⟩
  have G8 : Hid (∀ W, Keep6 w w.heap.size w1.heap.size w2.heap.size ⟨s, t⟩ ⟨ys, yt⟩ ⟨ys, yt⟩ W → Calls Try.prog 17 #[.slice A n c, .agg #[.int .i64 s, .int .i64 t]] W fun e w' => e = .returned (.bool ha) ∧ Keep6 w w.heap.size w1.heap.size w2.heap.size ⟨s, t⟩ ⟨ys, yt⟩ ⟨ys, yt⟩ w') := Lib.hid fun W hW => (H8.out W hW.2.2.2.2.2.2.out).mono fun e w' ⟨he, hb⟩ => ⟨he, hW.step hb⟩
  have hrr : (r == r) = true := by simp
  have hri : (ri == ri) = true := by simp
  have hha : (ha == ha) = true := by simp
  have hok : (ok == ok) = true := by simp
  unfold Keep6 at G0 G3 G4 G5 G6 G7 G8 hK
  simp only at G0 G3 G4 G5 G6 G7 G8 hK
  clear b2 q0 q1 H1 H2 H3 H4 H5 H6 H7 H8 HP HA1 HP1 HP2 HA2 HC2 HB1 HB2 HB0
  go_wp2_with fail
  refine wp_region_held_drew (S := (fun W => W.cell? ⟨w.heap.size, 0, none⟩ = some (.int .i64 s) ∧ W.cell? ⟨w.heap.size, 1, none⟩ = some (.int .i64 t) ∧ W.cell? ⟨w1.heap.size, 0, none⟩ = some (.int .i64 ys) ∧ W.cell? ⟨w1.heap.size, 1, none⟩ = some (.int .i64 yt) ∧ W.cell? ⟨w2.heap.size, 0, none⟩ = some (.int .i64 ys) ∧ W.cell? ⟨w2.heap.size, 1, none⟩ = some (.int .i64 yt) ∧ Hid (Below w.heap.size w W))) (by kernel_rfl) ?_ (fun hHeld => ?_)
  · (try dsimp only); exact hK
  refine wpAnyH_ready (rs := [0]) (by kernel_rfl) (by simp) ?_
  refine AllReadyH.cons (o := ⟨some 23, _, _, _, _, _⟩) rfl (fun K hK => ?_) AllReadyH.nil
  go_simp
  go_at_call 11
  refine (G0.out _ (by assumption)).mono ?_; rintro e w3 ⟨rfl, hs⟩
  refine hK.out _ _ hs (fun hHeld => ?_)
  clear hK K
  try simp only [Act.put, List.setIfInBounds_toArray, List.set_cons_zero, List.set_cons_succ]
  refine wpAnyH_take (i := 1) (oi := ⟨some 24, _, _, _, _, _⟩) (v := ?_) rfl (by kernel_rfl) (by kernel_rfl) (by kernel_rfl) (fun _ _ _ h => h) (Or.inl ⟨by rfl, ?_⟩) (by assumption) ?_
  rotate_left
  · (intro w hSw; (try dsimp only at hSw); go_simp; try with_reducible rfl)
  try simp only [Act.put, List.setIfInBounds_toArray, List.set_cons_zero, List.set_cons_succ]
  refine wpAnyH_take (i := 2) (oi := ⟨some 25, _, _, _, _, _⟩) (v := ?_) rfl (by kernel_rfl) (by kernel_rfl) (by kernel_rfl) (fun _ _ _ h => h) (Or.inl ⟨by rfl, ?_⟩) (by assumption) ?_
  rotate_left
  · (intro w hSw; (try dsimp only at hSw); go_simp; try with_reducible rfl)
  try simp only [Act.put, List.setIfInBounds_toArray, List.set_cons_zero, List.set_cons_succ]
  refine wpAnyH_take (i := 4) (oi := ⟨some 27, _, _, _, _, _⟩) (v := ?_) rfl (by kernel_rfl) (by kernel_rfl) (by kernel_rfl) (fun _ _ _ h => h) (Or.inl ⟨by rfl, ?_⟩) (by assumption) ?_
  rotate_left
  · (intro w hSw; (try dsimp only at hSw); go_simp; try with_reducible rfl)
  try simp only [Act.put, List.setIfInBounds_toArray, List.set_cons_zero, List.set_cons_succ]
  refine wpAnyH_ready (rs := [3]) (by kernel_rfl) (by simp) ?_
  refine AllReadyH.cons (o := ⟨some 26, _, _, _, _, _⟩) rfl (fun K hK => ?_) AllReadyH.nil
  go_simp
  go_at_call 12
  refine (G3.out _ (by assumption)).mono ?_; rintro e w3 ⟨rfl, hs⟩
  refine hK.out _ _ hs (fun hHeld => ?_)
  clear hK K
  try simp only [Act.put, List.setIfInBounds_toArray, List.set_cons_zero, List.set_cons_succ]
  refine wpAnyH_ready (rs := [5]) (by kernel_rfl) (by simp) ?_
  refine AllReadyH.cons (o := ⟨some 28, _, _, _, _, _⟩) rfl (fun K hK => ?_) AllReadyH.nil
  go_simp
  go_at_call 13
  refine (G4.out _ (by assumption)).mono ?_; rintro e w3 ⟨rfl, hs⟩
  refine hK.out _ _ hs (fun hHeld => ?_)
  clear hK K
  try simp only [Act.put, List.setIfInBounds_toArray, List.set_cons_zero, List.set_cons_succ]
  refine wpAnyH_take (i := 6) (oi := ⟨some 29, _, _, _, _, _⟩) (v := ?_) rfl (by kernel_rfl) (by kernel_rfl) (by kernel_rfl) (fun _ _ _ h => h) (Or.inl ⟨by rfl, ?_⟩) (by assumption) ?_
  rotate_left
  · (intro w hSw; (try dsimp only at hSw); go_simp; try with_reducible rfl)
  try simp only [Act.put, List.setIfInBounds_toArray, List.set_cons_zero, List.set_cons_succ]
  refine wpAnyH_take (i := 7) (oi := ⟨some 30, _, _, _, _, _⟩) (v := ?_) rfl (by kernel_rfl) (by kernel_rfl) (by kernel_rfl) (fun _ _ _ h => h) (Or.inl ⟨by rfl, ?_⟩) (by assumption) ?_
  rotate_left
  · (intro w hSw; (try dsimp only at hSw); go_simp; try with_reducible rfl)
  try simp only [Act.put, List.setIfInBounds_toArray, List.set_cons_zero, List.set_cons_succ]
  refine wpAnyH_take (i := 8) (oi := ⟨some 31, _, _, _, _, _⟩) (v := ?_) rfl (by kernel_rfl) (by kernel_rfl) (by kernel_rfl) (fun _ _ _ h => h) (Or.inl ⟨by rfl, ?_⟩) (by assumption) ?_
  rotate_left
  · (intro w hSw; (try dsimp only at hSw); go_simp; try with_reducible rfl)
  try simp only [Act.put, List.setIfInBounds_toArray, List.set_cons_zero, List.set_cons_succ]
  refine wpAnyH_take (i := 9) (oi := ⟨some 32, _, _, _, _, _⟩) (v := ?_) rfl (by kernel_rfl) (by kernel_rfl) (by kernel_rfl) (fun _ _ _ h => h) (Or.inl ⟨by rfl, ?_⟩) (by assumption) ?_
  rotate_left
  · (intro w hSw; (try dsimp only at hSw); go_simp; try with_reducible rfl)
  try simp only [Act.put, List.setIfInBounds_toArray, List.set_cons_zero, List.set_cons_succ]
  refine wpAnyH_take (i := 11) (oi := ⟨some 34, _, _, _, _, _⟩) (v := ?_) rfl (by kernel_rfl) (by kernel_rfl) (by kernel_rfl) (fun _ _ _ h => h) (Or.inl ⟨by rfl, ?_⟩) (by assumption) ?_
  rotate_left
  · (intro w hSw; (try dsimp only at hSw); go_simp; try with_reducible rfl)
  try simp only [Act.put, List.setIfInBounds_toArray, List.set_cons_zero, List.set_cons_succ]
  refine wpAnyH_ready (rs := [10]) (by kernel_rfl) (by simp) ?_
  refine AllReadyH.cons (o := ⟨some 33, _, _, _, _, _⟩) rfl (fun K hK => ?_) AllReadyH.nil
  go_simp
  go_at_call 14
  refine (G5.out _ (by assumption)).mono ?_; rintro e w3 ⟨rfl, hs⟩
  refine hK.out _ _ hs (fun hHeld => ?_)
  clear hK K
  try simp only [Act.put, List.setIfInBounds_toArray, List.set_cons_zero, List.set_cons_succ]
  refine wpAnyH_ready (rs := [12]) (by kernel_rfl) (by simp) ?_
  refine AllReadyH.cons (o := ⟨some 35, _, _, _, _, _⟩) rfl (fun K hK => ?_) AllReadyH.nil
  go_simp
  go_at_call 15
  refine (G6.out _ (by assumption)).mono ?_; rintro e w3 ⟨rfl, hs⟩
  refine hK.out _ _ hs (fun hHeld => ?_)
  clear hK K
  try simp only [Act.put, List.setIfInBounds_toArray, List.set_cons_zero, List.set_cons_succ]
  refine wpAnyH_take (i := 13) (oi := ⟨some 36, _, _, _, _, _⟩) (v := ?_) rfl (by kernel_rfl) (by kernel_rfl) (by kernel_rfl) (fun _ _ _ h => h) (Or.inl ⟨by rfl, ?_⟩) (by assumption) ?_
  rotate_left
  · (intro w hSw; (try dsimp only at hSw); go_simp; try with_reducible rfl)
  try simp only [Act.put, List.setIfInBounds_toArray, List.set_cons_zero, List.set_cons_succ]
  refine wpAnyH_take (i := 14) (oi := ⟨some 37, _, _, _, _, _⟩) (v := ?_) rfl (by kernel_rfl) (by kernel_rfl) (by kernel_rfl) (fun _ _ _ h => h) (Or.inl ⟨by rfl, ?_⟩) (by assumption) ?_
  rotate_left
  · (intro w hSw; (try dsimp only at hSw); go_simp; try with_reducible rfl)
  try simp only [Act.put, List.setIfInBounds_toArray, List.set_cons_zero, List.set_cons_succ]
  refine wpAnyH_take (i := 15) (oi := ⟨some 38, _, _, _, _, _⟩) (v := ?_) rfl (by kernel_rfl) (by kernel_rfl) (by kernel_rfl) (fun _ _ _ h => h) (Or.inl ⟨by rfl, ?_⟩) (by assumption) ?_
  rotate_left
  · (intro w hSw; (try dsimp only at hSw); go_simp; try with_reducible rfl)
  try simp only [Act.put, List.setIfInBounds_toArray, List.set_cons_zero, List.set_cons_succ]
  refine wpAnyH_take (i := 16) (oi := ⟨some 39, _, _, _, _, _⟩) (v := ?_) rfl (by kernel_rfl) (by kernel_rfl) (by kernel_rfl) (fun _ _ _ h => h) (Or.inl ⟨by rfl, ?_⟩) (by assumption) ?_
  rotate_left
  · (intro w hSw; (try dsimp only at hSw); go_simp; try with_reducible rfl)
  try simp only [Act.put, List.setIfInBounds_toArray, List.set_cons_zero, List.set_cons_succ]
  refine wpAnyH_take (i := 17) (oi := ⟨some 40, _, _, _, _, _⟩) (v := ?_) rfl (by kernel_rfl) (by kernel_rfl) (by kernel_rfl) (fun _ _ _ h => h) (Or.inl ⟨by rfl, ?_⟩) (by assumption) ?_
  rotate_left
  · (intro w hSw; (try dsimp only at hSw); go_simp; try with_reducible rfl)
  try simp only [Act.put, List.setIfInBounds_toArray, List.set_cons_zero, List.set_cons_succ]
  refine wpAnyH_take (i := 19) (oi := ⟨some 42, _, _, _, _, _⟩) (v := ?_) rfl (by kernel_rfl) (by kernel_rfl) (by kernel_rfl) (fun _ _ _ h => h) (Or.inl ⟨by rfl, ?_⟩) (by assumption) ?_
  rotate_left
  · (intro w hSw; (try dsimp only at hSw); go_simp; try with_reducible rfl)
  try simp only [Act.put, List.setIfInBounds_toArray, List.set_cons_zero, List.set_cons_succ]
  refine wpAnyH_take (i := 20) (oi := ⟨some 43, _, _, _, _, _⟩) (v := ?_) rfl (by kernel_rfl) (by kernel_rfl) (by kernel_rfl) (fun _ _ _ h => h) (Or.inl ⟨by rfl, ?_⟩) (by assumption) ?_
  rotate_left
  · (intro w hSw; (try dsimp only at hSw); go_simp; try with_reducible rfl)
  try simp only [Act.put, List.setIfInBounds_toArray, List.set_cons_zero, List.set_cons_succ]
  refine wpAnyH_ready (rs := [18]) (by kernel_rfl) (by simp) ?_
  refine AllReadyH.cons (o := ⟨some 41, _, _, _, _, _⟩) rfl (fun K hK => ?_) AllReadyH.nil
  go_simp
  go_at_call 16
  refine (G7.out _ (by assumption)).mono ?_; rintro e w3 ⟨rfl, hs⟩
  refine hK.out _ _ hs (fun hHeld => ?_)
  clear hK K
  try simp only [Act.put, List.setIfInBounds_toArray, List.set_cons_zero, List.set_cons_succ]
  refine wpAnyH_ready (rs := [21]) (by kernel_rfl) (by simp) ?_
  refine AllReadyH.cons (o := ⟨some 44, _, _, _, _, _⟩) rfl (fun K hK => ?_) AllReadyH.nil
  go_simp
  go_at_call 17
  refine (G8.out _ (by assumption)).mono ?_; rintro e w3 ⟨rfl, hs⟩
  refine hK.out _ _ hs (fun hHeld => ?_)
  clear hK K
  try simp only [Act.put, List.setIfInBounds_toArray, List.set_cons_zero, List.set_cons_succ]
  refine wpAnyH_take (i := 22) (oi := ⟨some 45, _, _, _, _, _⟩) (v := ?_) rfl (by kernel_rfl) (by kernel_rfl) (by kernel_rfl) (fun _ _ _ h => h) (Or.inl ⟨by rfl, ?_⟩) (by assumption) ?_
  rotate_left
  · (intro w hSw; (try dsimp only at hSw); go_simp; try with_reducible rfl)
  try simp only [Act.put, List.setIfInBounds_toArray, List.set_cons_zero, List.set_cons_succ]
  refine wpAnyH_take (i := 23) (oi := ⟨some 46, _, _, _, _, _⟩) (v := ?_) rfl (by kernel_rfl) (by kernel_rfl) (by kernel_rfl) (fun _ _ _ h => h) (Or.inl ⟨by rfl, ?_⟩) (by assumption) ?_
  rotate_left
  · (intro w hSw; (try dsimp only at hSw); go_simp; try with_reducible rfl)
  try simp only [Act.put, List.setIfInBounds_toArray, List.set_cons_zero, List.set_cons_succ]
  refine wpAnyH_take (i := 24) (oi := ⟨some 47, _, _, _, _, _⟩) (v := ?_) rfl (by kernel_rfl) (by kernel_rfl) (by kernel_rfl) (fun _ _ _ h => h) (Or.inl ⟨by rfl, ?_⟩) (by assumption) ?_
  rotate_left
  · (intro w hSw; (try dsimp only at hSw); go_simp; try with_reducible rfl)
  try simp only [Act.put, List.setIfInBounds_toArray, List.set_cons_zero, List.set_cons_succ]
  refine wpAnyH_take (i := 25) (oi := ⟨some 48, _, _, _, _, _⟩) (v := ?_) rfl (by kernel_rfl) (by kernel_rfl) (by kernel_rfl) (fun _ _ _ h => h) (Or.inl ⟨by rfl, ?_⟩) (by assumption) ?_
  rotate_left
  · (intro w hSw; (try dsimp only at hSw); go_simp; try with_reducible rfl)
  try simp only [Act.put, List.setIfInBounds_toArray, List.set_cons_zero, List.set_cons_succ]
  refine wpAnyH_take (i := 26) (oi := ⟨some 49, _, _, _, _, _⟩) (v := ?_) rfl (by kernel_rfl) (by kernel_rfl) (by kernel_rfl) (fun _ _ _ h => h) (Or.inl ⟨by rfl, ?_⟩) (by assumption) ?_
  rotate_left
  · (intro w hSw; (try dsimp only at hSw); go_simp; try with_reducible rfl)
  try simp only [Act.put, List.setIfInBounds_toArray, List.set_cons_zero, List.set_cons_succ]
  refine wpAnyH_take (i := 27) (oi := ⟨some 50, _, _, _, _, _⟩) (v := ?_) rfl (by kernel_rfl) (by kernel_rfl) (by kernel_rfl) (fun _ _ _ h => h) (Or.inl ⟨by rfl, ?_⟩) (by assumption) ?_
  rotate_left
  · (intro w hSw; (try dsimp only at hSw); go_simp; try with_reducible rfl)
  try simp only [Act.put, List.setIfInBounds_toArray, List.set_cons_zero, List.set_cons_succ]
  refine wpAnyH_take (i := 28) (oi := ⟨some 51, _, _, _, _, _⟩) (v := ?_) rfl (by kernel_rfl) (by kernel_rfl) (by kernel_rfl) (fun _ _ _ h => h) (Or.inl ⟨by rfl, ?_⟩) (by assumption) ?_
  rotate_left
  · (intro w hSw; (try dsimp only at hSw); go_simp; try with_reducible rfl)
  try simp only [Act.put, List.setIfInBounds_toArray, List.set_cons_zero, List.set_cons_succ]
  refine wpAnyH_take (i := 29) (oi := ⟨some 52, _, _, _, _, _⟩) (v := ?_) rfl (by kernel_rfl) (by kernel_rfl) (by kernel_rfl) (fun _ _ _ h => h) (Or.inl ⟨by rfl, ?_⟩) (by assumption) ?_
  rotate_left
  · (intro w hSw; (try dsimp only at hSw); go_simp; try with_reducible rfl)
  try simp only [Act.put, List.setIfInBounds_toArray, List.set_cons_zero, List.set_cons_succ]
  refine wpAnyH_take (i := 30) (oi := ⟨some 53, _, _, _, _, _⟩) (v := ?_) rfl (by kernel_rfl) (by kernel_rfl) (by kernel_rfl) (fun _ _ _ h => h) (Or.inl ⟨by rfl, ?_⟩) (by assumption) ?_
  rotate_left
  · (intro w hSw; (try dsimp only at hSw); go_simp; try with_reducible rfl)
  try simp only [Act.put, List.setIfInBounds_toArray, List.set_cons_zero, List.set_cons_succ]
  refine wpAnyH_take (i := 31) (oi := ⟨some 54, _, _, _, _, _⟩) (v := ?_) rfl (by kernel_rfl) (by kernel_rfl) (by kernel_rfl) (fun _ _ _ h => h) (Or.inl ⟨by rfl, ?_⟩) (by assumption) ?_
  rotate_left
  · (intro w hSw; (try dsimp only at hSw); go_simp; try with_reducible rfl)
  try simp only [Act.put, List.setIfInBounds_toArray, List.set_cons_zero, List.set_cons_succ]
  refine wpAnyH_take (i := 32) (oi := ⟨some 55, _, _, _, _, _⟩) (v := ?_) rfl (by kernel_rfl) (by kernel_rfl) (by kernel_rfl) (fun _ _ _ h => h) (Or.inl ⟨by rfl, ?_⟩) (by assumption) ?_
  rotate_left
  · (intro w hSw; (try dsimp only at hSw); go_simp; try with_reducible rfl)
  try simp only [Act.put, List.setIfInBounds_toArray, List.set_cons_zero, List.set_cons_succ]
  refine wpAnyH_take (i := 33) (oi := ⟨some 56, _, _, _, _, _⟩) (v := ?_) rfl (by kernel_rfl) (by kernel_rfl) (by kernel_rfl) (fun _ _ _ h => h) (Or.inl ⟨by rfl, ?_⟩) (by assumption) ?_
  rotate_left
  · (intro w hSw; (try dsimp only at hSw); go_simp; try with_reducible rfl)
  try simp only [Act.put, List.setIfInBounds_toArray, List.set_cons_zero, List.set_cons_succ]
  refine wpAnyH_take (i := 34) (oi := ⟨some 4, _, _, _, _, _⟩) (v := ?_) rfl (by kernel_rfl) (by kernel_rfl) (by kernel_rfl) (fun _ _ _ h => h) (Or.inl ⟨by rfl, ?_⟩) (by assumption) ?_
  rotate_left
  · (intro w hSw; (try dsimp only at hSw); go_simp; try with_reducible rfl)
  try simp only [Act.put, List.setIfInBounds_toArray, List.set_cons_zero, List.set_cons_succ]
  refine wpAnyH_done (by kernel_rfl) ?_ _
  have HF := Lib.hid hs.2.2.2.2.2.2.out
  go_wp2_with fail
  go_ret
  exact ⟨rfl, HF.out⟩
end Go.Proofs.Ytichkobifmfffaa
