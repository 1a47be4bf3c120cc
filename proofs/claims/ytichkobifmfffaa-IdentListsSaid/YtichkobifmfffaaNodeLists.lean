/-
  What the law IdentLists returns: true, for every argument.
  No condition but the form's own.
-/
import Derived.Test.YtichkobifmfffaaNodeAwake
import Derived.Test.YtichkobifmfffaaNodeRWith
import Derived.WalkKit
import Derived.WalkSpells
import Derived.WalkLawsBesides
import Derived.Handy
import Derived.Deep.QuietTactic
import Derived.BigQuiet
import Derived.Deep.RegionWith
import Derived.Deep.RegionHeld3
import Derived.Deep.Draws
import Derived.Lib.Hide
namespace Go.Proofs.Ytichkobifmfffaa
open Go.RowKit
/-- A slice that reads as these nodes; what was below a mark is so still. -/
def Gives (l : List Ident.Id) (w : World) (e : Ending) (W' : World) : Prop := ∃ A c, e = .returned (.slice A l.length c) ∧ Hid (nodeLay.Reads W' W'.heap.size A l) ∧ Hid (Below w.heap.size w W')
theorem gives {l : List Ident.Id} {w W W' : World} {e : Ending} (h : IsNodes l W e W') (hb : Below w.heap.size w W) : Gives l w e W' := by
  obtain ⟨A, c, he, ho, hbb⟩ := h
  exact ⟨A, c, he, Lib.hid ho.reads.2, Lib.hid (Lift.then2 hb hbb)⟩
theorem same_from {w W : World} (A B : Option Addr) (c d : Nat) (l : List Ident.Id) (hl : l.length ≤ 9223372036854775807) (_hb : Below w.heap.size w W) (ha : nodeLay.Reads W W.heap.size A l) (hc : nodeLay.Reads W W.heap.size B l) :
    Calls Try.prog 21 #[.slice A l.length c, .slice B l.length d] W fun e W' => e = .returned (.bool true) ∧ ∃ m, W' = W.drewN m := nsame_any A B c d l W _ _ hl ha hc

set_option maxHeartbeats 3200000 in
theorem lists_yes (A B : Option Addr) (c d : Nat) (a b : List Ident.Id) (x : Ident.Id) (w : World) (hl : a.length * 16 ≤ reachBytes) (hm : b.length * 16 ≤ reachBytes) (hlc : a.length ≤ c) (hi : nodeLay.Reads w w.heap.size A a) (hj : nodeLay.Reads w w.heap.size B b) (hA : A = none → a = []) (hB : B = none → b = []) :
    Lift.Yes Try.prog 4 #[.slice A a.length c, .slice B b.length d, nv x] w := by
  rw [reach_num] at hl hm
  have H1 := Lib.hid (fun W (h : Below w.heap.size w W) => ncopied_any A c a W (by omega) (hi.later h (Nat.le_refl _)) hA)
  have H2 := Lib.hid (fun W (h : Below w.heap.size w W) => ncopied_any B d b W (by omega) (hj.later h (Nat.le_refl _)) hB)
  have H3 := Lib.hid (fun W (h : Below w.heap.size w W) => both_any A B c d a b W (by omega) (by omega) (hi.later h (Nat.le_refl _)) (hj.later h (Nat.le_refl _)))
  have H4 := Lib.hid (fun W (h : Below w.heap.size w W) => with_any A c a x W (by omega) hlc (hi.later h (Nat.le_refl _)) hA)
  have H5 := Lib.hid (fun P Q p q W h h' => rboth_any P Q p q a b W (by omega) (by omega) h h')
  have H6 := Lib.hid (fun P p W h => rwith_any P p a x W (by omega) h)
  have hk := Keep2.new w x
  have HI := Lib.hid hi
  have HJ := Lib.hid hj
  have h3 := Ident.both_le a b
  have h4 := Ident.withN_le a x
  generalize Ident.both a b = u at *
  generalize Ident.withN a x = v at *
  have HSa := Lib.hid (fun P Q p q W h h' => nsame_any P Q p q a W W.heap.size W.heap.size (by omega) h h')
  have HSb := Lib.hid (fun P Q p q W h h' => nsame_any P Q p q b W W.heap.size W.heap.size (by omega) h h')
  have HSu := Lib.hid (fun P Q p q W h h' => nsame_any P Q p q u W W.heap.size W.heap.size (by omega) h h')
  have HSv := Lib.hid (fun P Q p q W h h' => nsame_any P Q p q v W W.heap.size W.heap.size (by omega) h h')
  clear hi hj hA hB h3 h4 hl hm hlc
  unfold IsNodes at H1 H2 H3 H4 H5 H6
  generalize a.length = na at *
  generalize b.length = nb at *
  generalize u.length = nu at *
  generalize v.length = nvv at *
  obtain ⟨s, t⟩ := x
  have HK0 := Lib.hid hk
  unfold nv at *
  clear hk
  simp only at H4 H6
  unfold Lift.Yes
  go_enter Try.func4, Try.ntmps4
  go_wp2_with fail
  refine (H1.out _ HK0.out.2.2.out).mono ?_; rintro e w1 ⟨A1, c1, rfl, o1, b1⟩
  have HK1 := Lib.hid (HK0.out.step b1)
  have HP1 := Lib.hid o1.reads.2
  clear o1 b1
  go_wp2_with fail
  refine (H2.out _ HK1.out.2.2.out).mono ?_; rintro e w2 ⟨A2, c2, rfl, o2, b2⟩
  have HK2 := Lib.hid (HK1.out.step b2)
  have HP2 := Lib.hid (HP1.out.later b2 (Nat.le_refl _))
  have HQ2 := Lib.hid o2.reads.2
  clear o2 b2 H1 H2 HP1
  have HC3 : Hid (∀ W, Keep2 w w.heap.size ⟨s, t⟩ W → Calls Try.prog 19 #[.slice A na c, .slice B nb d] W fun e W' => ∃ A3 c3, e = .returned (.slice A3 nu c3) ∧ Hid (nodeLay.Reads W' W'.heap.size A3 u) ∧ Hid (Below W.heap.size W W') ∧ Keep2 w w.heap.size ⟨s, t⟩ W') := Lib.hid fun W hW => (H3.out W hW.2.2.out).mono fun e W' ⟨A3, c3, he, ho, hb⟩ => ⟨A3, c3, he, Lib.hid ho.reads.2, Lib.hid hb, hW.step hb⟩
  have HC4 : Hid (∀ W, Keep2 w w.heap.size ⟨s, t⟩ W → Calls Try.prog 20 #[.slice A na c, .agg #[.int .i64 s, .int .i64 t]] W fun e W' => ∃ A3 c3, e = .returned (.slice A3 nvv c3) ∧ Hid (nodeLay.Reads W' W'.heap.size A3 v) ∧ Hid (Below W.heap.size W W') ∧ Keep2 w w.heap.size ⟨s, t⟩ W') := Lib.hid fun W hW => (H4.out W hW.2.2.out).mono fun e W' ⟨A3, c3, he, ho, hb⟩ => ⟨A3, c3, he, Lib.hid ho.reads.2, Lib.hid hb, hW.step hb⟩
  have hs2 := HK2.out.drewN 1
  unfold Keep2 at HC3 HC4 hs2
  simp only at HC3 HC4 hs2
  go_wp2_with fail
  refine wp_region_held_drew (S := (fun W => W.cell? ⟨w.heap.size, 0, none⟩ = some (.int .i64 s) ∧ W.cell? ⟨w.heap.size, 1, none⟩ = some (.int .i64 t) ∧ Hid (Below w.heap.size w W))) (by kernel_rfl) ?_ (fun hHeld => ?_)
  · (try dsimp only); exact hs2
  refine wpAnyH_take (i := 0) (oi := ⟨some 15, _, _, _, _, _⟩) (v := ?_) rfl (by kernel_rfl) (by kernel_rfl) (by kernel_rfl) (fun _ _ _ h => h) (Or.inl ⟨by rfl, ?_⟩) (by assumption) ?_
  rotate_left
  · (intro w hSw; (try dsimp only at hSw); go_simp; try with_reducible rfl)
  try simp only [Act.put, List.setIfInBounds_toArray, List.set_cons_zero, List.set_cons_succ]
  refine wpAnyH_take (i := 1) (oi := ⟨some 16, _, _, _, _, _⟩) (v := ?_) rfl (by kernel_rfl) (by kernel_rfl) (by kernel_rfl) (fun _ _ _ h => h) (Or.inl ⟨by rfl, ?_⟩) (by assumption) ?_
  rotate_left
  · (intro w hSw; (try dsimp only at hSw); go_simp; try with_reducible rfl)
  try simp only [Act.put, List.setIfInBounds_toArray, List.set_cons_zero, List.set_cons_succ]
  refine wpAnyH_take (i := 3) (oi := ⟨some 18, _, _, _, _, _⟩) (v := ?_) rfl (by kernel_rfl) (by kernel_rfl) (by kernel_rfl) (fun _ _ _ h => h) (Or.inl ⟨by rfl, ?_⟩) (by assumption) ?_
  rotate_left
  · (intro w hSw; (try dsimp only at hSw); go_simp; try with_reducible rfl)
  try simp only [Act.put, List.setIfInBounds_toArray, List.set_cons_zero, List.set_cons_succ]
  refine wpAnyH_take (i := 4) (oi := ⟨some 19, _, _, _, _, _⟩) (v := ?_) rfl (by kernel_rfl) (by kernel_rfl) (by kernel_rfl) (fun _ _ _ h => h) (Or.inl ⟨by rfl, ?_⟩) (by assumption) ?_
  rotate_left
  · (intro w hSw; (try dsimp only at hSw); go_simp; try with_reducible rfl)
  try simp only [Act.put, List.setIfInBounds_toArray, List.set_cons_zero, List.set_cons_succ]
  refine wpAnyH_ready (rs := [2]) (by kernel_rfl) (by simp) ?_
  refine AllReadyH.cons (o := ⟨some 17, _, _, _, _, _⟩) rfl (fun K hK => ?_) AllReadyH.nil
  go_simp
  go_at_call 19
  refine (HC3.out _ (by assumption)).mono ?_; rintro e w3 ⟨A3, c3, rfl, hr3, hb3, hs⟩
  refine hK.out _ _ hs (fun hHeld => ?_)
  clear hK K
  try simp only [Act.put, List.setIfInBounds_toArray, List.set_cons_zero, List.set_cons_succ]
  refine wpAnyH_ready (rs := [5]) (by kernel_rfl) (by simp) ?_
  refine AllReadyH.cons (o := ⟨some 20, _, _, _, _, _⟩) rfl (fun K hK => ?_) AllReadyH.nil
  go_simp
  go_at_call 20
  refine (HC4.out _ (by assumption)).mono ?_; rintro e w4 ⟨A4, c4, rfl, hr4, hb4, hs⟩
  refine hK.out _ _ hs (fun hHeld => ?_)
  clear hK K
  try simp only [Act.put, List.setIfInBounds_toArray, List.set_cons_zero, List.set_cons_succ]
  refine wpAnyH_take (i := 6) (oi := ⟨some 9, _, _, _, _, _⟩) (v := ?_) rfl (by kernel_rfl) (by kernel_rfl) (by kernel_rfl) (fun _ _ _ h => h) (Or.inl ⟨by rfl, ?_⟩) (by assumption) ?_
  rotate_left
  · (intro w hSw; (try dsimp only at hSw); go_simp; try with_reducible rfl)
  try simp only [Act.put, List.setIfInBounds_toArray, List.set_cons_zero, List.set_cons_succ]
  refine wpAnyH_take (i := 7) (oi := ⟨some 10, _, _, _, _, _⟩) (v := ?_) rfl (by kernel_rfl) (by kernel_rfl) (by kernel_rfl) (fun _ _ _ h => h) (Or.inl ⟨by rfl, ?_⟩) (by assumption) ?_
  rotate_left
  · (intro w hSw; (try dsimp only at hSw); go_simp; try with_reducible rfl)
  try simp only [Act.put, List.setIfInBounds_toArray, List.set_cons_zero, List.set_cons_succ]
  refine wpAnyH_done (by kernel_rfl) ?_ _
  have hk4 : Keep2 w w.heap.size ⟨s, t⟩ w4 := hs
  have HK4 := Lib.hid hk4
  have hb24 : Below w2.heap.size w2 w4 := Lift.then2 (Lift.then2 (Lift.drewN_then (Below.refl _ w2) 1) hb3.out) hb4.out
  have HP4 := Lib.hid (HP2.out.later hb24 (Nat.le_refl _))
  have HQ4 := Lib.hid (HQ2.out.later hb24 (Nat.le_refl _))
  have HR4 := Lib.hid (hr3.out.later hb4.out (Nat.le_refl _))
  clear hs hs2 hk4 hb24 hb3 hb4 hr3 HC3 HC4 HK2 HP2 HQ2 HK1 H3 H4
  go_wp2_with fail
  refine (nawake_any _).mono ?_; rintro e w5 ⟨rfl, b5⟩
  have HK5 := Lib.hid (HK4.out.step b5)
  have HP5 := Lib.hid (HP4.out.later b5 (Nat.le_refl _))
  have HQ5 := Lib.hid (HQ4.out.later b5 (Nat.le_refl _))
  have HR5 := Lib.hid (HR4.out.later b5 (Nat.le_refl _))
  have HT5 := Lib.hid (hr4.out.later b5 (Nat.le_refl _))
  clear b5 hr4 HP4 HQ4 HR4 HK4
  go_wp2_with fail
  refine (H5.out _ _ _ _ _ HP5.out HQ5.out).mono ?_; rintro e w6 ⟨A6, c6, rfl, o6, b6⟩
  have HK6 := Lib.hid (HK5.out.step b6)
  have HP6 := Lib.hid (HP5.out.later b6 (Nat.le_refl _))
  have HQ6 := Lib.hid (HQ5.out.later b6 (Nat.le_refl _))
  have HR6 := Lib.hid (HR5.out.later b6 (Nat.le_refl _))
  have HT6 := Lib.hid (HT5.out.later b6 (Nat.le_refl _))
  have HU6 := Lib.hid o6.reads.2
  clear b6 o6 HP5 HQ5 HR5 HK5 HT5
  go_wp2_with fail
  refine (HSu.out _ _ _ _ _ HR6.out HU6.out).mono ?_; rintro e w7 ⟨rfl, m7, rfl⟩
  have hk7 := HK6.out.drewN m7
  obtain ⟨q0, q1, -⟩ := hk7
  simp only at q0 q1
  go_wp2_with fail
  refine (H6.out _ _ _ (HP6.out.drewN m7)).mono ?_; rintro e w8 ⟨A8, c8, rfl, o8, b8⟩
  have HK8 := Lib.hid ((HK6.out.drewN m7).step b8)
  have HP8 := Lib.hid ((HP6.out.drewN m7).later b8 (Nat.le_refl _))
  have HQ8 := Lib.hid ((HQ6.out.drewN m7).later b8 (Nat.le_refl _))
  have HT8 := Lib.hid ((HT6.out.drewN m7).later b8 (Nat.le_refl _))
  have HU8 := Lib.hid o8.reads.2
  clear b8 o8 q0 q1 HP6 HQ6 HT6 HU6 HR6 HK6
  go_wp2_with fail
  refine (HSv.out _ _ _ _ _ HT8.out HU8.out).mono ?_; rintro e w9 ⟨rfl, m9, rfl⟩
  go_wp2_with fail
  refine (HSa.out _ _ _ _ _ ((HI.out.later HK8.out.2.2.out (Nat.le_refl _)).drewN m9) (HP8.out.drewN m9)).mono ?_; rintro e w10 ⟨rfl, m10, rfl⟩
  go_wp2_with fail
  refine (HSb.out _ _ _ _ _ ((HJ.out.later HK8.out.2.2.out (Nat.le_refl _)).drewN _) (HQ8.out.drewN _)).mono ?_; rintro e w11 ⟨rfl, m11, rfl⟩
  go_wp2_with fail
  go_ret
  exact ⟨rfl, (HK8.out.drewN _).2.2.out⟩
end Go.Proofs.Ytichkobifmfffaa
