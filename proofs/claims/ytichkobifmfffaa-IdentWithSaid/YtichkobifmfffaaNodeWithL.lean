/-
  What the law IdentWith returns: true, for every argument.
  No condition but the form's own.
-/
import Derived.Test.YtichkobifmfffaaNodeAwake
import Derived.Test.YtichkobifmfffaaNodeSlot
import Derived.WalkKit
import Derived.WalkSpells
import Derived.WalkLawsBesides
import Derived.Handy
import Derived.Deep.QuietTactic
import Derived.BigQuiet
import Derived.Deep.RegionWith
import Derived.Deep.RegionHeld3
import Derived.Deep.Draws
import Derived.Lib.Hide
namespace Go.Proofs.Ytichkobifmfffaa
open Go.RowKit
theorem count_is (l : List Ident.Id) (x : Ident.Id) (h : Ident.Rising l) (b : Bool) (hb : (Ident.slot l x.s).isSome = b) : ((Ident.withN l x).length : Int) = if b = true then (l.length : Int) else (l.length : Int) + 1 := by
  rw [Ident.withN_length h, hb]
  cases b <;> simp

set_option maxHeartbeats 3200000 in
theorem withl_yes (A : Option Addr) (c : Nat) (l : List Ident.Id) (x : Ident.Id) (w : World) (hl : l.length * 16 ≤ reachBytes) (hlc : l.length ≤ c) (hi : nodeLay.Reads w w.heap.size A l) (hA : A = none → l = []) :
    Lift.Yes Try.prog 7 #[.slice A l.length c, nv x] w := by
  rw [reach_num] at hl
  have H1 := Lib.hid (fun W (h : Below w.heap.size w W) => rises_any A c l W (by omega) (hi.later h (Nat.le_refl _)))
  have H2 := Lib.hid (fun W => right_any x W)
  have H3 := Lib.hid (fun W (h : Below w.heap.size w W) => with_any A c l x W (by omega) hlc (hi.later h (Nat.le_refl _)) hA)
  have H4 := Lib.hid (fun W (h : Below w.heap.size w W) => slot_any A c l x.s W (by omega) (hi.later h (Nat.le_refl _)))
  have hm := Ident.withN_le l x
  have H5 := Lib.hid (fun M cm y W h => hasb M cm (Ident.withN l x) y true W h (by omega))
  have H6 := Lib.hid (fun M cm W h => rises_any M cm (Ident.withN l x) W (by omega) h)
  have HK0 := Lib.hid (Keep2.new w x)
  have HI := Lib.hid hi
  unfold Lift.Yes
  cases hr : Ident.rises l
  · rw [hr] at H1
    generalize l.length = n at *
    obtain ⟨s, t⟩ := x
    unfold nv
    go_enter Try.func7, Try.ntmps7
    go_wp2_with fail
    refine (H1.out _ HK0.out.2.2.out).mono ?_; rintro e w1 ⟨rfl, b1⟩
    have HK1 := Lib.hid (HK0.out.step b1)
    clear b1
    go_wp2_with fail
    refine (nawake_any _).mono ?_; rintro e w2 ⟨rfl, b2⟩
    have HK2 := Lib.hid (HK1.out.step b2)
    clear b2
    go_wp2_with fail
    go_ret
    exact ⟨rfl, HK2.out.2.2.out⟩
  · have hR := Ident.rises_true.1 hr
    rw [hr] at H1
    cases hx : Ident.right x
    · rw [hx] at H2
      generalize l.length = n at *
      clear hx
      obtain ⟨s, t⟩ := x
      unfold nv at *
      simp only at H2
      go_enter Try.func7, Try.ntmps7
      go_wp2_with fail
      refine (H1.out _ HK0.out.2.2.out).mono ?_; rintro e w1 ⟨rfl, b1⟩
      have HK1 := Lib.hid (HK0.out.step b1)
      obtain ⟨q0, q1, -⟩ := HK1.out
      simp only at q0 q1
      clear b1
      go_wp2_with fail
      refine (H2.out _).mono ?_; rintro e w2 ⟨rfl, b2⟩
      have HK2 := Lib.hid (HK1.out.step b2)
      clear b2
      go_wp2_with fail
      refine (nawake_any _).mono ?_; rintro e w3 ⟨rfl, b3⟩
      have HK3 := Lib.hid (HK2.out.step b3)
      clear b3
      go_wp2_with fail
      go_ret
      exact ⟨rfl, HK3.out.2.2.out⟩
    · rw [hx] at H2
      have hRm := Ident.rises_true.2 (Ident.withN_rises hR hx)
      have HHx := Lib.hid (Ident.withN_has l x)
      have HKp := Lib.hid (fun y (hy : y ∈ l) (hn : y.s ≠ x.s) => Ident.withN_keeps hR hy hn)
      rw [hRm] at H6
      have hcnt := count_is l x hR _ rfl
      unfold slotV at H4
      generalize hso : Ident.slot l x.s = so at *
      clear hso
      generalize so.getD ⟨0, 0⟩ = y0 at *
      generalize Ident.withN l x = m at *
      unfold IsNodes at H3
      generalize hml : m.length = nm at *
      generalize hn : l.length = n at *
      have HN := Lib.hid hn
      clear hn hml hm hi hA hr hRm hR hx
      obtain ⟨s, t⟩ := x
      obtain ⟨y0s, y0c⟩ := y0
      unfold nv at *
      simp only at H2 H3 H4
      cases hth : so.isSome
      all_goals
        rw [hth] at H4 hcnt
        have hc2 := hcnt
        first | rw [if_pos rfl] at hc2 | rw [if_neg (by decide)] at hc2
        clear hcnt hth
        go_enter Try.func7, Try.ntmps7
        go_wp2_with fail
        refine (H1.out _ HK0.out.2.2.out).mono ?_; rintro e w1 ⟨rfl, b1⟩
        have HK1 := Lib.hid (HK0.out.step b1)
        obtain ⟨q0, q1, -⟩ := HK1.out
        simp only at q0 q1
        clear b1
        go_wp2_with fail
        refine (H2.out _).mono ?_; rintro e w2 ⟨rfl, b2⟩
        have HK2 := Lib.hid (HK1.out.step b2)
        clear q0 q1
        obtain ⟨q0, q1, -⟩ := HK2.out
        simp only at q0 q1
        clear b2
        go_wp2_with fail
        refine (H3.out _ HK2.out.2.2.out).mono ?_; rintro e w3 ⟨M, cm, rfl, o3, b3⟩
        have HK3 := Lib.hid (HK2.out.step b3)
        have HM3 := Lib.hid o3.reads.2
        clear q0 q1
        obtain ⟨q0, q1, -⟩ := HK3.out
        simp only at q0 q1
        clear b3 o3
        go_wp2_with fail
        refine (H4.out _ HK3.out.2.2.out).mono ?_; rintro e w4 ⟨rfl, b4⟩
        have HK4 := Lib.hid ((HK3.out.step b4).alloc (.cells #[.int .i64 y0s, .int .i64 y0c] 24))
        have HM4 := Lib.hid ((HM3.out.later b4 (Nat.le_refl _)).later ((Below.refl _ w4).alloc (Nat.le_refl _) (.cells #[.int .i64 y0s, .int .i64 y0c] 24)) (Nat.le_refl _))
        clear q0 q1 b4 HM3 HK0 HK1 HK2 HK3 H1 H2 H3 H4
        go_wp2_with fail
        go_loopw [9] (fun vi wr => ∃ k : Nat, k ≤ n ∧ vi = .int .i64 k ∧ Hid (nodeLay.Reads wr wr.heap.size M m) ∧ Hid (Keep2 w w.heap.size ⟨s, t⟩ wr)) (fun vi _ => n - (intOf vi).toNat)
        case atStart => exact ⟨0, Nat.zero_le _, rfl, HM4, HK4⟩
        case round =>
          obtain ⟨k, hk, rfl, HM, HK⟩ := hrel
          clear HM4 HK4
          by_cases hlt : k < n
          · obtain ⟨y, hy⟩ := Lay.get_of (l := l) (k := k) (by rw [HN.out]; exact hlt)
            obtain ⟨b, o, rfl, hb, hc⟩ := HI.out (by rw [HN.out]; omega)
            obtain ⟨c0, c1⟩ := at_node ((hc k y hy).keep (w' := wr) fun p hp => HK.out.2.2.out.cell (by rw [hp]; exact hb))
            have hk1 : (0 : Int) ≤ (k : Int) := by omega
            have hk2 : (k : Int) < (n : Int) := by omega
            have hmem := List.mem_of_getElem? hy
            have HY := Lib.hid hy
            have hK : Keep2 w w.heap.size ⟨s, t⟩ wr := HK.out
            obtain ⟨ys, yc⟩ := y
            simp only at c0 c1
            by_cases hq : ys = s
            · have hzb : (ys != s) = false := by simp [hq]
              have hs0 := hK.drewN 1
              unfold Keep2 at hs0
              simp only at hs0
              clear hq hmem hy hc hK
              go_wp2_with fail
              refine wp_region_held_drew (S := (fun W => W.cell? ⟨w.heap.size, 0, none⟩ = some (.int .i64 s) ∧ W.cell? ⟨b, o + k * 2, none⟩ = some (.int .i64 ys))) (by kernel_rfl) ?_ (fun hHeld => ?_)
              · (try dsimp only); exact ⟨hs0.1, c0⟩
              refine wpAnyH_take (i := 0) (oi := ⟨some 41, _, _, _, _, _⟩) (v := ?_) rfl (by kernel_rfl) (by kernel_rfl) (by kernel_rfl) (fun _ _ _ h => h) (Or.inl ⟨by rfl, ?_⟩) (by assumption) ?_
              rotate_left
              · (intro w hSw; (try dsimp only at hSw); go_simp; try with_reducible rfl)
              try simp only [Act.put, List.setIfInBounds_toArray, List.set_cons_zero, List.set_cons_succ]
              refine wpAnyH_take (i := 1) (oi := ⟨some 42, _, _, _, _, _⟩) (v := ?_) rfl (by kernel_rfl) (by kernel_rfl) (by kernel_rfl) (fun _ _ _ h => h) (Or.inl ⟨by rfl, ?_⟩) (by assumption) ?_
              rotate_left
              · (intro w hSw; (try dsimp only at hSw); go_simp; try with_reducible rfl)
              try simp only [Act.put, List.setIfInBounds_toArray, List.set_cons_zero, List.set_cons_succ]
              refine wpAnyH_take (i := 2) (oi := ⟨some 43, _, _, _, _, _⟩) (v := ?_) rfl (by kernel_rfl) (by kernel_rfl) (by kernel_rfl) (fun _ _ _ h => h) (Or.inl ⟨by rfl, ?_⟩) (by assumption) ?_
              rotate_left
              · (intro w hSw; (try dsimp only at hSw); go_simp; try with_reducible rfl)
              try simp only [Act.put, List.setIfInBounds_toArray, List.set_cons_zero, List.set_cons_succ]
              refine wpAnyH_take (i := 3) (oi := ⟨some 44, _, _, _, _, _⟩) (v := ?_) rfl (by kernel_rfl) (by kernel_rfl) (by kernel_rfl) (fun _ _ _ h => h) (Or.inl ⟨by rfl, ?_⟩) (by assumption) ?_
              rotate_left
              · (intro w hSw; (try dsimp only at hSw); go_simp; try with_reducible rfl)
              try simp only [Act.put, List.setIfInBounds_toArray, List.set_cons_zero, List.set_cons_succ]
              refine wpAnyH_take (i := 4) (oi := ⟨some 45, _, _, _, _, _⟩) (v := ?_) rfl (by kernel_rfl) (by kernel_rfl) (by kernel_rfl) (fun _ _ _ h => h) (Or.inl ⟨by rfl, ?_⟩) (by assumption) ?_
              rotate_left
              · (intro w hSw; (try dsimp only at hSw); go_simp; try with_reducible rfl)
              try simp only [Act.put, List.setIfInBounds_toArray, List.set_cons_zero, List.set_cons_succ]
              refine wpAnyH_take (i := 5) (oi := ⟨some 46, _, _, _, _, _⟩) (v := ?_) rfl (by kernel_rfl) (by kernel_rfl) (by kernel_rfl) (fun _ _ _ h => h) (Or.inl ⟨by rfl, ?_⟩) (by assumption) ?_
              rotate_left
              · (intro w hSw; (try dsimp only at hSw); go_simp; try with_reducible rfl)
              try simp only [Act.put, List.setIfInBounds_toArray, List.set_cons_zero, List.set_cons_succ]
              refine wpAnyH_take (i := 6) (oi := ⟨some 47, _, _, _, _, _⟩) (v := ?_) rfl (by kernel_rfl) (by kernel_rfl) (by kernel_rfl) (fun _ _ _ h => h) (Or.inl ⟨by rfl, ?_⟩) (by assumption) ?_
              rotate_left
              · (intro w hSw; (try dsimp only at hSw); go_simp; try with_reducible rfl)
              try simp only [Act.put, List.setIfInBounds_toArray, List.set_cons_zero, List.set_cons_succ]
              refine wpAnyH_take (i := 7) (oi := ⟨some 48, _, _, _, _, _⟩) (v := ?_) rfl (by kernel_rfl) (by kernel_rfl) (by kernel_rfl) (fun _ _ _ h => h) (Or.inl ⟨by rfl, ?_⟩) (by assumption) ?_
              rotate_left
              · (intro w hSw; (try dsimp only at hSw); go_simp; try with_reducible rfl)
              try simp only [Act.put, List.setIfInBounds_toArray, List.set_cons_zero, List.set_cons_succ]
              refine wpAnyH_take (i := 8) (oi := ⟨some 49, _, _, _, _, _⟩) (v := ?_) rfl (by kernel_rfl) (by kernel_rfl) (by kernel_rfl) (fun _ _ _ h => h) (Or.inl ⟨by rfl, ?_⟩) (by assumption) ?_
              rotate_left
              · (intro w hSw; (try dsimp only at hSw); go_simp; try with_reducible rfl)
              try simp only [Act.put, List.setIfInBounds_toArray, List.set_cons_zero, List.set_cons_succ]
              refine wpAnyH_take (i := 9) (oi := ⟨some 50, _, _, _, _, _⟩) (v := undef) rfl (by kernel_rfl) (by kernel_rfl) (by kernel_rfl) (fun _ _ _ h => h) (Or.inr ⟨by rfl, rfl⟩) (by assumption) ?_
              try simp only [Act.put, List.setIfInBounds_toArray, List.set_cons_zero, List.set_cons_succ]
              refine wpAnyH_take (i := 10) (oi := ⟨some 51, _, _, _, _, _⟩) (v := undef) rfl (by kernel_rfl) (by kernel_rfl) (by kernel_rfl) (fun _ _ _ h => h) (Or.inr ⟨by rfl, rfl⟩) (by assumption) ?_
              try simp only [Act.put, List.setIfInBounds_toArray, List.set_cons_zero, List.set_cons_succ]
              refine wpAnyH_take (i := 11) (oi := ⟨some 52, _, _, _, _, _⟩) (v := undef) rfl (by kernel_rfl) (by kernel_rfl) (by kernel_rfl) (fun _ _ _ h => h) (Or.inr ⟨by rfl, rfl⟩) (by assumption) ?_
              try simp only [Act.put, List.setIfInBounds_toArray, List.set_cons_zero, List.set_cons_succ]
              refine wpAnyH_take (i := 12) (oi := ⟨some 53, _, _, _, _, _⟩) (v := undef) rfl (by kernel_rfl) (by kernel_rfl) (by kernel_rfl) (fun _ _ _ h => h) (Or.inr ⟨by rfl, rfl⟩) (by assumption) ?_
              try simp only [Act.put, List.setIfInBounds_toArray, List.set_cons_zero, List.set_cons_succ]
              refine wpAnyH_take (i := 13) (oi := ⟨some 54, _, _, _, _, _⟩) (v := undef) rfl (by kernel_rfl) (by kernel_rfl) (by kernel_rfl) (fun _ _ _ h => h) (Or.inr ⟨by rfl, rfl⟩) (by assumption) ?_
              try simp only [Act.put, List.setIfInBounds_toArray, List.set_cons_zero, List.set_cons_succ]
              refine wpAnyH_take (i := 14) (oi := ⟨some 55, _, _, _, _, _⟩) (v := undef) rfl (by kernel_rfl) (by kernel_rfl) (by kernel_rfl) (fun _ _ _ h => h) (Or.inr ⟨by rfl, rfl⟩) (by assumption) ?_
              try simp only [Act.put, List.setIfInBounds_toArray, List.set_cons_zero, List.set_cons_succ]
              refine wpAnyH_take (i := 15) (oi := ⟨some 56, _, _, _, _, _⟩) (v := undef) rfl (by kernel_rfl) (by kernel_rfl) (by kernel_rfl) (fun _ _ _ h => h) (Or.inr ⟨by rfl, rfl⟩) (by assumption) ?_
              try simp only [Act.put, List.setIfInBounds_toArray, List.set_cons_zero, List.set_cons_succ]
              refine wpAnyH_take (i := 16) (oi := ⟨some 57, _, _, _, _, _⟩) (v := ?_) rfl (by kernel_rfl) (by kernel_rfl) (by kernel_rfl) (fun _ _ _ h => h) (Or.inl ⟨by rfl, ?_⟩) (by assumption) ?_
              rotate_left
              · (intro w hSw; (try dsimp only at hSw); go_simp; try with_reducible rfl)
              try simp only [Act.put, List.setIfInBounds_toArray, List.set_cons_zero, List.set_cons_succ]
              refine wpAnyH_done (by kernel_rfl) ?_ _
              go_wp2_with fail
              exact ⟨⟨k + 1, by omega, by go_num, Lib.hid (HM.out.drewN 1), Lib.hid (HK.out.drewN 1)⟩, by simp [intOf]; omega⟩
            · have hzb : (ys != s) = true := by simpa using hq
              have HH := Lib.hid (HKp.out ⟨ys, yc⟩ hmem hq)
              have HG : Hid (∀ W, Keep2 w w.heap.size ⟨s, t⟩ W ∧ nodeLay.Reads W W.heap.size M m → Calls Try.prog 16 #[.slice M nm cm, .agg #[.int .i64 ys, .int .i64 yc]] W fun e w' => e = .returned (.bool true) ∧ Keep2 w w.heap.size ⟨s, t⟩ w' ∧ nodeLay.Reads w' w'.heap.size M m) := Lib.hid fun W hW => (H5.out M cm ⟨ys, yc⟩ W HH.out hW.2).mono fun e w' ⟨he, hb⟩ => ⟨he, hW.1.step hb, hW.2.later hb (Nat.le_refl _)⟩
              have hs0 := hK.drewN 1
              unfold Keep2 at hs0 HG
              simp only at hs0 HG
              clear hq hmem hy hc hK
              go_wp2_with fail
              refine wp_region_held_drew (S := (fun W => W.cell? ⟨w.heap.size, 0, none⟩ = some (.int .i64 s) ∧ W.cell? ⟨b, o + k * 2, none⟩ = some (.int .i64 ys) ∧ W.cell? ⟨b, o + k * 2 + 1, none⟩ = some (.int .i64 yc) ∧ Hid (Keep2 w w.heap.size ⟨s, t⟩ W) ∧ Hid (nodeLay.Reads W W.heap.size M m))) (by kernel_rfl) ?_ (fun hHeld => ?_)
              · (try dsimp only); exact ⟨hs0.1, c0, c1, Lib.hid (HK.out.drewN 1), Lib.hid (HM.out.drewN 1)⟩
              refine wpAnyH_take (i := 0) (oi := ⟨some 41, _, _, _, _, _⟩) (v := ?_) rfl (by kernel_rfl) (by kernel_rfl) (by kernel_rfl) (fun _ _ _ h => h) (Or.inl ⟨by rfl, ?_⟩) (by assumption) ?_
              rotate_left
              · (intro w hSw; (try dsimp only at hSw); go_simp; try with_reducible rfl)
              try simp only [Act.put, List.setIfInBounds_toArray, List.set_cons_zero, List.set_cons_succ]
              refine wpAnyH_take (i := 1) (oi := ⟨some 42, _, _, _, _, _⟩) (v := ?_) rfl (by kernel_rfl) (by kernel_rfl) (by kernel_rfl) (fun _ _ _ h => h) (Or.inl ⟨by rfl, ?_⟩) (by assumption) ?_
              rotate_left
              · (intro w hSw; (try dsimp only at hSw); go_simp; try with_reducible rfl)
              try simp only [Act.put, List.setIfInBounds_toArray, List.set_cons_zero, List.set_cons_succ]
              refine wpAnyH_take (i := 2) (oi := ⟨some 43, _, _, _, _, _⟩) (v := ?_) rfl (by kernel_rfl) (by kernel_rfl) (by kernel_rfl) (fun _ _ _ h => h) (Or.inl ⟨by rfl, ?_⟩) (by assumption) ?_
              rotate_left
              · (intro w hSw; (try dsimp only at hSw); go_simp; try with_reducible rfl)
              try simp only [Act.put, List.setIfInBounds_toArray, List.set_cons_zero, List.set_cons_succ]
              refine wpAnyH_take (i := 3) (oi := ⟨some 44, _, _, _, _, _⟩) (v := ?_) rfl (by kernel_rfl) (by kernel_rfl) (by kernel_rfl) (fun _ _ _ h => h) (Or.inl ⟨by rfl, ?_⟩) (by assumption) ?_
              rotate_left
              · (intro w hSw; (try dsimp only at hSw); go_simp; try with_reducible rfl)
              try simp only [Act.put, List.setIfInBounds_toArray, List.set_cons_zero, List.set_cons_succ]
              refine wpAnyH_take (i := 4) (oi := ⟨some 45, _, _, _, _, _⟩) (v := ?_) rfl (by kernel_rfl) (by kernel_rfl) (by kernel_rfl) (fun _ _ _ h => h) (Or.inl ⟨by rfl, ?_⟩) (by assumption) ?_
              rotate_left
              · (intro w hSw; (try dsimp only at hSw); go_simp; try with_reducible rfl)
              try simp only [Act.put, List.setIfInBounds_toArray, List.set_cons_zero, List.set_cons_succ]
              refine wpAnyH_take (i := 5) (oi := ⟨some 46, _, _, _, _, _⟩) (v := ?_) rfl (by kernel_rfl) (by kernel_rfl) (by kernel_rfl) (fun _ _ _ h => h) (Or.inl ⟨by rfl, ?_⟩) (by assumption) ?_
              rotate_left
              · (intro w hSw; (try dsimp only at hSw); go_simp; try with_reducible rfl)
              try simp only [Act.put, List.setIfInBounds_toArray, List.set_cons_zero, List.set_cons_succ]
              refine wpAnyH_take (i := 6) (oi := ⟨some 47, _, _, _, _, _⟩) (v := ?_) rfl (by kernel_rfl) (by kernel_rfl) (by kernel_rfl) (fun _ _ _ h => h) (Or.inl ⟨by rfl, ?_⟩) (by assumption) ?_
              rotate_left
              · (intro w hSw; (try dsimp only at hSw); go_simp; try with_reducible rfl)
              try simp only [Act.put, List.setIfInBounds_toArray, List.set_cons_zero, List.set_cons_succ]
              refine wpAnyH_take (i := 7) (oi := ⟨some 48, _, _, _, _, _⟩) (v := ?_) rfl (by kernel_rfl) (by kernel_rfl) (by kernel_rfl) (fun _ _ _ h => h) (Or.inl ⟨by rfl, ?_⟩) (by assumption) ?_
              rotate_left
              · (intro w hSw; (try dsimp only at hSw); go_simp; try with_reducible rfl)
              try simp only [Act.put, List.setIfInBounds_toArray, List.set_cons_zero, List.set_cons_succ]
              refine wpAnyH_take (i := 8) (oi := ⟨some 49, _, _, _, _, _⟩) (v := ?_) rfl (by kernel_rfl) (by kernel_rfl) (by kernel_rfl) (fun _ _ _ h => h) (Or.inl ⟨by rfl, ?_⟩) (by assumption) ?_
              rotate_left
              · (intro w hSw; (try dsimp only at hSw); go_simp; try with_reducible rfl)
              try simp only [Act.put, List.setIfInBounds_toArray, List.set_cons_zero, List.set_cons_succ]
              refine wpAnyH_take (i := 9) (oi := ⟨some 50, _, _, _, _, _⟩) (v := ?_) rfl (by kernel_rfl) (by kernel_rfl) (by kernel_rfl) (fun _ _ _ h => h) (Or.inl ⟨by rfl, ?_⟩) (by assumption) ?_
              rotate_left
              · (intro w hSw; (try dsimp only at hSw); go_simp; try with_reducible rfl)
              try simp only [Act.put, List.setIfInBounds_toArray, List.set_cons_zero, List.set_cons_succ]
              refine wpAnyH_take (i := 10) (oi := ⟨some 51, _, _, _, _, _⟩) (v := ?_) rfl (by kernel_rfl) (by kernel_rfl) (by kernel_rfl) (fun _ _ _ h => h) (Or.inl ⟨by rfl, ?_⟩) (by assumption) ?_
              rotate_left
              · (intro w hSw; (try dsimp only at hSw); go_simp; try with_reducible rfl)
              try simp only [Act.put, List.setIfInBounds_toArray, List.set_cons_zero, List.set_cons_succ]
              refine wpAnyH_take (i := 11) (oi := ⟨some 52, _, _, _, _, _⟩) (v := ?_) rfl (by kernel_rfl) (by kernel_rfl) (by kernel_rfl) (fun _ _ _ h => h) (Or.inl ⟨by rfl, ?_⟩) (by assumption) ?_
              rotate_left
              · (intro w hSw; (try dsimp only at hSw); go_simp; try with_reducible rfl)
              try simp only [Act.put, List.setIfInBounds_toArray, List.set_cons_zero, List.set_cons_succ]
              refine wpAnyH_take (i := 12) (oi := ⟨some 53, _, _, _, _, _⟩) (v := ?_) rfl (by kernel_rfl) (by kernel_rfl) (by kernel_rfl) (fun _ _ _ h => h) (Or.inl ⟨by rfl, ?_⟩) (by assumption) ?_
              rotate_left
              · (intro w hSw; (try dsimp only at hSw); go_simp; try with_reducible rfl)
              try simp only [Act.put, List.setIfInBounds_toArray, List.set_cons_zero, List.set_cons_succ]
              refine wpAnyH_take (i := 13) (oi := ⟨some 54, _, _, _, _, _⟩) (v := ?_) rfl (by kernel_rfl) (by kernel_rfl) (by kernel_rfl) (fun _ _ _ h => h) (Or.inl ⟨by rfl, ?_⟩) (by assumption) ?_
              rotate_left
              · (intro w hSw; (try dsimp only at hSw); go_simp; try with_reducible rfl)
              try simp only [Act.put, List.setIfInBounds_toArray, List.set_cons_zero, List.set_cons_succ]
              refine wpAnyH_ready (rs := [14]) (by kernel_rfl) (by simp) ?_
              refine AllReadyH.cons (o := ⟨some 55, _, _, _, _, _⟩) rfl (fun K hK => ?_) AllReadyH.nil
              go_simp
              go_at_call 16
              refine (HG.out _ ⟨hHeld.2.2.2.1.out, hHeld.2.2.2.2.out⟩).mono ?_; rintro e w5 ⟨rfl, hk5, hm5⟩; have hK5 : Keep2 w w.heap.size ⟨s, t⟩ w5 := hk5; have hd0 : w5.cell? ⟨b, o + k * 2, none⟩ = some (.int .i64 ys) := (at_node ((HI.out.block (by rw [HN.out]; omega)).2 k ⟨ys, yc⟩ HY.out |>.keep fun p hp => hK5.2.2.out.cell (by rw [hp]; exact hb))).1; have hd1 : w5.cell? ⟨b, o + k * 2 + 1, none⟩ = some (.int .i64 yc) := (at_node ((HI.out.block (by rw [HN.out]; omega)).2 k ⟨ys, yc⟩ HY.out |>.keep fun p hp => hK5.2.2.out.cell (by rw [hp]; exact hb))).2; have hs := And.intro hk5.1 (And.intro hd0 (And.intro hd1 (And.intro (Lib.hid hK5) (Lib.hid hm5))))
              refine hK.out _ _ hs (fun hHeld => ?_)
              clear hK K
              try simp only [Act.put, List.setIfInBounds_toArray, List.set_cons_zero, List.set_cons_succ]
              refine wpAnyH_take (i := 15) (oi := ⟨some 56, _, _, _, _, _⟩) (v := ?_) rfl (by kernel_rfl) (by kernel_rfl) (by kernel_rfl) (fun _ _ _ h => h) (Or.inl ⟨by rfl, ?_⟩) (by assumption) ?_
              rotate_left
              · (intro w hSw; (try dsimp only at hSw); go_simp; try with_reducible rfl)
              try simp only [Act.put, List.setIfInBounds_toArray, List.set_cons_zero, List.set_cons_succ]
              refine wpAnyH_take (i := 16) (oi := ⟨some 57, _, _, _, _, _⟩) (v := ?_) rfl (by kernel_rfl) (by kernel_rfl) (by kernel_rfl) (fun _ _ _ h => h) (Or.inl ⟨by rfl, ?_⟩) (by assumption) ?_
              rotate_left
              · (intro w hSw; (try dsimp only at hSw); go_simp; try with_reducible rfl)
              try simp only [Act.put, List.setIfInBounds_toArray, List.set_cons_zero, List.set_cons_succ]
              refine wpAnyH_done (by kernel_rfl) ?_ _
              go_wp2_with fail
              exact ⟨⟨k + 1, by omega, by go_num, hs.2.2.2.2, hs.2.2.2.1⟩, by simp [intOf]; omega⟩
          · obtain rfl : k = n := by omega
            have hK : Keep2 w w.heap.size ⟨s, t⟩ wr := HK.out
            go_wp2_with fail
            refine (nawake_any _).mono ?_; rintro e w6 ⟨rfl, b6⟩
            have HK6 := Lib.hid (HK.out.step b6)
            have HM6 := Lib.hid (HM.out.later b6 (Nat.le_refl _))
            clear b6 hK
            go_wp2_with fail
            refine (H6.out _ _ _ HM6.out).mono ?_; rintro e w7 ⟨rfl, b7⟩
            have HK7 := Lib.hid (HK6.out.step b7)
            have HM7 := Lib.hid (HM6.out.later b7 (Nat.le_refl _))
            obtain ⟨q0, q1, -⟩ := HK7.out
            simp only at q0 q1
            clear b7
            go_wp2_with fail
            refine (H5.out _ _ ⟨s, t⟩ _ HHx.out HM7.out).mono ?_; rintro e w8 ⟨rfl, b8⟩
            have HK8 := Lib.hid (HK7.out.step b8)
            clear b8
            go_wp2_with fail
            go_ret
            exact ⟨rfl, HK8.out.2.2.out⟩
end Go.Proofs.Ytichkobifmfffaa
