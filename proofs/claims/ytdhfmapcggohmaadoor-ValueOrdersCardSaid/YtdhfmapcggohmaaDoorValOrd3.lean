/-
  The law ValueOrders, one of the three ways that the three answers of the order may be.
  No condition but the form's own, and what the listed variables hold.
-/
import Derived.Test.YtdhfmapcggohmaaDoorValOrd0
import Derived.WalkKit
import Derived.WalkSpells
import Derived.WalkLawsBesides
import Derived.Handy
import Derived.Deep.QuietTactic
import Derived.BigQuiet
import Derived.Deep.RegionWith
import Derived.Deep.RegionHeld3
import Derived.Deep.RegionLaw
import Derived.Deep.Draws
import Derived.Lib.Hide
namespace Go.Proofs.YtdhfmapcggohmaaDoor
open Go.RowKit

set_option maxRecDepth 100000 in
set_option maxHeartbeats 12800000 in
theorem orders_yes3 (a b c : Val.V) (w : World) (ha : a.f < 18446744073709551616) (hb : b.f < 18446744073709551616) (hc : c.f < 18446744073709551616) (ht : TabOk w) (hv : ErrOk w) (h3 : Val.cmpV a b ≤ 0 ∧ Val.cmpV b c ≤ 0 ∧ Val.cmpV a c ≤ 0) : Lift.Yes Tryd.prog 4 #[vv a, vv b, vv c] w := by
  have hso := same_or a b ha hb
  have hbd := Val.cmpV_ord.bound a b
  have hba : Val.cmpV b a = -Val.cmpV a b := Val.cmpV_ord.anti b a
  have HA : Hid (∀ W, Two w W a b c → Calls Tryd.prog 8 #[] W fun e w1 => e = .returned (.bool true) ∧ Two w w1 a b c) := Lib.hid fun W hk => (awake_any W (ht.below hk.below) (hv.below hk.below)).mono fun e w1 ⟨he, hb⟩ => ⟨he, hk.step hb⟩
  have HC : Hid (∀ (k n : Int) (f : Nat) (s : ByteArray) (k' n' : Int) (f' : Nat) (s' : ByteArray), f < 18446744073709551616 → f' < 18446744073709551616 → ∀ W, Two w W a b c → Calls Tryd.prog 11 #[.agg #[.int .i64 k, .int .i64 n, .int .u64 (f : Int), .string s], .agg #[.int .i64 k', .int .i64 n', .int .u64 (f' : Int), .string s']] W fun e w1 => e = .returned (.int .i64 (Val.cmpV ⟨k, n, f, s⟩ ⟨k', n', f', s'⟩)) ∧ Two w w1 a b c) :=
    Lib.hid fun k n f s k' n' f' s' h h' W hk => (cmpV_any ⟨k, n, f, s⟩ ⟨k', n', f', s'⟩ W h h').mono fun e w1 ⟨he, hb⟩ => ⟨he, hk.step hb⟩
  have HD : Hid (∀ W, Two w W a b c → Calls Tryd.prog 12 #[vv a, vv b] W fun e w1 => e = .returned (.int .i64 (Val.cmpV a b)) ∧ Two w w1 a b c) := Lib.hid fun W hk => (rcmpV_any a b W ha hb).mono fun e w1 ⟨he, hb⟩ => ⟨he, hk.step hb⟩
  have HK : Hid (∀ (k n : Int) (f : Nat) (s : ByteArray), f < 18446744073709551616 → ∀ W, Two w W a b c → Calls Tryd.prog 9 #[.agg #[.int .i64 k, .int .i64 n, .int .u64 (f : Int), .string s]] W fun e w1 => e = .returned (.int .i64 (Val.chk ⟨k, n, f, s⟩)) ∧ Two w w1 a b c) :=
    Lib.hid fun k n f s h W hk => (check_any ⟨k, n, f, s⟩ W h).mono fun e w1 ⟨he, hb⟩ => ⟨he, hk.step hb⟩
  have hb0 := two_new w a b c
  unfold Differ at hso
  unfold Two at HA HC HD HK hb0
  obtain ⟨k, n, f, s⟩ := a
  obtain ⟨k', n', f', s'⟩ := b
  obtain ⟨k'', n'', f'', s''⟩ := c
  unfold vv at *
  simp only at ha hb hc HA HC HD HK hb0 hso
  have H3 := Lib.hid h3
  have HSO := Lib.hid hso
  clear ht hv h3 hso
  generalize hx : Val.cmpV ⟨k, n, f, s⟩ ⟨k', n', f', s'⟩ = x at *
  have hneg : IntKind.i64.wrap (- -x) = x := by rw [Int.neg_neg]; exact IntWalk.i64_in _ (by omega)
  have hwx : IntKind.i64.wrap x = x := IntWalk.i64_in _ (by omega)
  have hxx : (x != x) = false := by simp
  unfold Lift.Yes
  go_enter Tryd.func4, Tryd.ntmps4
  go_wp2_with fail
  go_region_held3 (fun W => W.cell? ⟨w.heap.size, 0, none⟩ = some (.int .i64 k) ∧ W.cell? ⟨w.heap.size, 1, none⟩ = some (.int .i64 n) ∧ W.cell? ⟨w.heap.size, 2, none⟩ = some (.int .u64 (f : Int)) ∧ W.cell? ⟨w.heap.size, 3, none⟩ = some (.string s) ∧
      W.cell? ⟨w.heap.size + 1, 0, none⟩ = some (.int .i64 k') ∧ W.cell? ⟨w.heap.size + 1, 1, none⟩ = some (.int .i64 n') ∧ W.cell? ⟨w.heap.size + 1, 2, none⟩ = some (.int .u64 (f' : Int)) ∧ W.cell? ⟨w.heap.size + 1, 3, none⟩ = some (.string s') ∧
      W.cell? ⟨w.heap.size + 1 + 1, 0, none⟩ = some (.int .i64 k'') ∧ W.cell? ⟨w.heap.size + 1 + 1, 1, none⟩ = some (.int .i64 n'') ∧ W.cell? ⟨w.heap.size + 1 + 1, 2, none⟩ = some (.int .u64 (f'' : Int)) ∧ W.cell? ⟨w.heap.size + 1 + 1, 3, none⟩ = some (.string s'') ∧ Hid (Below w.heap.size w W))
    (first | assumption | go_keep)
    (first
      | (go_simp; go_at_call 8; refine (HA.out _ (by assumption)).mono ?_; rintro e w1 ⟨rfl, hs⟩)
      | (go_simp; go_at_call 11; refine (HC.out _ _ _ _ _ _ _ _ (by assumption) (by assumption) _ (by assumption)).mono ?_; rintro e w1 ⟨rfl, hs⟩)
      | (go_simp; go_at_call 12; refine (HD.out _ (by assumption)).mono ?_; rintro e w1 ⟨rfl, hs⟩))
  all_goals
    refine with_world (S := (fun W => W.cell? ⟨w.heap.size, 0, none⟩ = some (.int .i64 k) ∧ W.cell? ⟨w.heap.size, 1, none⟩ = some (.int .i64 n) ∧ W.cell? ⟨w.heap.size, 2, none⟩ = some (.int .u64 (f : Int)) ∧ W.cell? ⟨w.heap.size, 3, none⟩ = some (.string s) ∧
      W.cell? ⟨w.heap.size + 1, 0, none⟩ = some (.int .i64 k') ∧ W.cell? ⟨w.heap.size + 1, 1, none⟩ = some (.int .i64 n') ∧ W.cell? ⟨w.heap.size + 1, 2, none⟩ = some (.int .u64 (f' : Int)) ∧ W.cell? ⟨w.heap.size + 1, 3, none⟩ = some (.string s') ∧
      W.cell? ⟨w.heap.size + 1 + 1, 0, none⟩ = some (.int .i64 k'') ∧ W.cell? ⟨w.heap.size + 1 + 1, 1, none⟩ = some (.int .i64 n'') ∧ W.cell? ⟨w.heap.size + 1 + 1, 2, none⟩ = some (.int .u64 (f'' : Int)) ∧ W.cell? ⟨w.heap.size + 1 + 1, 3, none⟩ = some (.string s'') ∧ Hid (Below w.heap.size w W))) (by assumption) ?_
    intro hs
    clear hneg hxx hbd hba HA HD hb0
    obtain ⟨h1, h2, h3⟩ := H3.out
    obtain ⟨c0, c1, c2, c3, d0, d1, d2, d3, e0, e1, e2, e3, hB⟩ := id hs
    go_wp2_with (refine (HC.out _ _ _ _ _ _ _ _ (by assumption) (by assumption) _ (by assumption)).mono ?_; rintro e w1 ⟨rfl, hs⟩; obtain ⟨c0, c1, c2, c3, d0, d1, d2, d3, e0, e1, e2, e3, hB⟩ := id hs; try rw [hx])
    clear h1 H3
    try clear h2
    try clear h3
    rcases HSO.out with hq | ⟨hp, hq⟩ | ⟨hp, hq, hz, he⟩ | ⟨hp, hq, hz, he⟩
    · clear HSO
      have hbd := chk_bd ⟨k, n, f, s⟩
      have hca2 : Val.chk ⟨k, n, f, s⟩ = 1 ∨ Val.chk ⟨k, n, f, s⟩ = 2 := by omega
      clear hbd hq
      rcases hca2 with hca | hca
      all_goals
        have hdr := Two.drew (a := ⟨k, n, f, s⟩) (b := ⟨k', n', f', s'⟩) (c := ⟨k'', n'', f'', s''⟩) hs
        unfold Two at hdr
        simp only at hdr
        refine wp_region_held_drew (S := (fun W => W.cell? ⟨w.heap.size, 0, none⟩ = some (.int .i64 k) ∧ W.cell? ⟨w.heap.size, 1, none⟩ = some (.int .i64 n) ∧ W.cell? ⟨w.heap.size, 2, none⟩ = some (.int .u64 (f : Int)) ∧ W.cell? ⟨w.heap.size, 3, none⟩ = some (.string s) ∧ W.cell? ⟨w.heap.size + 1, 0, none⟩ = some (.int .i64 k') ∧ W.cell? ⟨w.heap.size + 1, 1, none⟩ = some (.int .i64 n') ∧ W.cell? ⟨w.heap.size + 1, 2, none⟩ = some (.int .u64 (f' : Int)) ∧ W.cell? ⟨w.heap.size + 1, 3, none⟩ = some (.string s') ∧ W.cell? ⟨w.heap.size + 1 + 1, 0, none⟩ = some (.int .i64 k'') ∧ W.cell? ⟨w.heap.size + 1 + 1, 1, none⟩ = some (.int .i64 n'') ∧ W.cell? ⟨w.heap.size + 1 + 1, 2, none⟩ = some (.int .u64 (f'' : Int)) ∧ W.cell? ⟨w.heap.size + 1 + 1, 3, none⟩ = some (.string s'') ∧ Hid (Below w.heap.size w W))) (by kernel_rfl) hdr (fun hHeld => ?_)
        refine wpAnyH_take (i := 0) (oi := ⟨some 44, _, _, _, _, _⟩) (v := ?_) rfl (by kernel_rfl) (by kernel_rfl) (by kernel_rfl) (fun _ _ _ h => h) (Or.inl ⟨by rfl, ?_⟩) (by assumption) ?_
        rotate_left
        · (intro w hSw; (try dsimp only at hSw); go_simp; try with_reducible rfl)
        try simp only [Act.put, List.setIfInBounds_toArray, List.set_cons_zero, List.set_cons_succ]
        refine wpAnyH_ready (rs := [1]) (by kernel_rfl) (by simp) ?_
        refine AllReadyH.cons (o := ⟨some 45, _, _, _, _, _⟩) rfl (fun K hK => ?_) AllReadyH.nil
        go_simp
        go_at_call 9; refine (HK.out _ _ _ _ (by assumption) _ (by assumption)).mono ?_; rintro e w1 ⟨he, hs⟩; rw [hca] at he; subst he
        refine hK.out _ _ hs (fun hHeld => ?_)
        clear hK K
        try simp only [Act.put, List.setIfInBounds_toArray, List.set_cons_zero, List.set_cons_succ]
        refine wpAnyH_take (i := 2) (oi := ⟨some 46, _, _, _, _, _⟩) (v := ?_) rfl (by kernel_rfl) (by kernel_rfl) (by kernel_rfl) (fun _ _ _ h => h) (Or.inl ⟨by rfl, ?_⟩) (by assumption) ?_
        rotate_left
        · (intro w hSw; (try dsimp only at hSw); go_simp; try with_reducible rfl)
        try simp only [Act.put, List.setIfInBounds_toArray, List.set_cons_zero, List.set_cons_succ]
        refine wpAnyH_take (i := 3) (oi := ⟨some 47, _, _, _, _, _⟩) (v := ?_) rfl (by kernel_rfl) (by kernel_rfl) (by kernel_rfl) (fun _ _ _ h => h) (Or.inl ⟨by rfl, ?_⟩) (by assumption) ?_
        rotate_left
        · (intro w hSw; (try dsimp only at hSw); go_simp; try with_reducible rfl)
        try simp only [Act.put, List.setIfInBounds_toArray, List.set_cons_zero, List.set_cons_succ]
        refine wpAnyH_take (i := 4) (oi := ⟨some 48, _, _, _, _, _⟩) (v := undef) rfl (by kernel_rfl) (by kernel_rfl) (by kernel_rfl) (fun _ _ _ h => h) (Or.inr ⟨by rfl, rfl⟩) (by assumption) ?_
        try simp only [Act.put, List.setIfInBounds_toArray, List.set_cons_zero, List.set_cons_succ]
        refine wpAnyH_take (i := 5) (oi := ⟨some 49, _, _, _, _, _⟩) (v := undef) rfl (by kernel_rfl) (by kernel_rfl) (by kernel_rfl) (fun _ _ _ h => h) (Or.inr ⟨by rfl, rfl⟩) (by assumption) ?_
        try simp only [Act.put, List.setIfInBounds_toArray, List.set_cons_zero, List.set_cons_succ]
        refine wpAnyH_take (i := 6) (oi := ⟨some 50, _, _, _, _, _⟩) (v := undef) rfl (by kernel_rfl) (by kernel_rfl) (by kernel_rfl) (fun _ _ _ h => h) (Or.inr ⟨by rfl, rfl⟩) (by assumption) ?_
        try simp only [Act.put, List.setIfInBounds_toArray, List.set_cons_zero, List.set_cons_succ]
        refine wpAnyH_take (i := 7) (oi := ⟨some 51, _, _, _, _, _⟩) (v := ?_) rfl (by kernel_rfl) (by kernel_rfl) (by kernel_rfl) (fun _ _ _ h => h) (Or.inl ⟨by rfl, ?_⟩) (by assumption) ?_
        rotate_left
        · (intro w hSw; (try dsimp only at hSw); go_simp; try with_reducible rfl)
        try simp only [Act.put, List.setIfInBounds_toArray, List.set_cons_zero, List.set_cons_succ]
        refine wpAnyH_take (i := 8) (oi := ⟨some 52, _, _, _, _, _⟩) (v := ?_) rfl (by kernel_rfl) (by kernel_rfl) (by kernel_rfl) (fun _ _ _ h => h) (Or.inl ⟨by rfl, ?_⟩) (by assumption) ?_
        rotate_left
        · (intro w hSw; (try dsimp only at hSw); go_simp; try with_reducible rfl)
        try simp only [Act.put, List.setIfInBounds_toArray, List.set_cons_zero, List.set_cons_succ]
        refine wpAnyH_take (i := 9) (oi := ⟨some 53, _, _, _, _, _⟩) (v := undef) rfl (by kernel_rfl) (by kernel_rfl) (by kernel_rfl) (fun _ _ _ h => h) (Or.inr ⟨by rfl, rfl⟩) (by assumption) ?_
        try simp only [Act.put, List.setIfInBounds_toArray, List.set_cons_zero, List.set_cons_succ]
        refine wpAnyH_take (i := 10) (oi := ⟨some 54, _, _, _, _, _⟩) (v := undef) rfl (by kernel_rfl) (by kernel_rfl) (by kernel_rfl) (fun _ _ _ h => h) (Or.inr ⟨by rfl, rfl⟩) (by assumption) ?_
        try simp only [Act.put, List.setIfInBounds_toArray, List.set_cons_zero, List.set_cons_succ]
        refine wpAnyH_take (i := 11) (oi := ⟨some 55, _, _, _, _, _⟩) (v := undef) rfl (by kernel_rfl) (by kernel_rfl) (by kernel_rfl) (fun _ _ _ h => h) (Or.inr ⟨by rfl, rfl⟩) (by assumption) ?_
        try simp only [Act.put, List.setIfInBounds_toArray, List.set_cons_zero, List.set_cons_succ]
        refine wpAnyH_take (i := 12) (oi := ⟨some 56, _, _, _, _, _⟩) (v := undef) rfl (by kernel_rfl) (by kernel_rfl) (by kernel_rfl) (fun _ _ _ h => h) (Or.inr ⟨by rfl, rfl⟩) (by assumption) ?_
        try simp only [Act.put, List.setIfInBounds_toArray, List.set_cons_zero, List.set_cons_succ]
        refine wpAnyH_take (i := 13) (oi := ⟨some 57, _, _, _, _, _⟩) (v := undef) rfl (by kernel_rfl) (by kernel_rfl) (by kernel_rfl) (fun _ _ _ h => h) (Or.inr ⟨by rfl, rfl⟩) (by assumption) ?_
        try simp only [Act.put, List.setIfInBounds_toArray, List.set_cons_zero, List.set_cons_succ]
        refine wpAnyH_take (i := 14) (oi := ⟨some 58, _, _, _, _, _⟩) (v := undef) rfl (by kernel_rfl) (by kernel_rfl) (by kernel_rfl) (fun _ _ _ h => h) (Or.inr ⟨by rfl, rfl⟩) (by assumption) ?_
        try simp only [Act.put, List.setIfInBounds_toArray, List.set_cons_zero, List.set_cons_succ]
        refine wpAnyH_take (i := 15) (oi := ⟨some 59, _, _, _, _, _⟩) (v := undef) rfl (by kernel_rfl) (by kernel_rfl) (by kernel_rfl) (fun _ _ _ h => h) (Or.inr ⟨by rfl, rfl⟩) (by assumption) ?_
        try simp only [Act.put, List.setIfInBounds_toArray, List.set_cons_zero, List.set_cons_succ]
        refine wpAnyH_take (i := 16) (oi := ⟨some 60, _, _, _, _, _⟩) (v := undef) rfl (by kernel_rfl) (by kernel_rfl) (by kernel_rfl) (fun _ _ _ h => h) (Or.inr ⟨by rfl, rfl⟩) (by assumption) ?_
        try simp only [Act.put, List.setIfInBounds_toArray, List.set_cons_zero, List.set_cons_succ]
        refine wpAnyH_take (i := 17) (oi := ⟨some 61, _, _, _, _, _⟩) (v := ?_) rfl (by kernel_rfl) (by kernel_rfl) (by kernel_rfl) (fun _ _ _ h => h) (Or.inl ⟨by rfl, ?_⟩) (by assumption) ?_
        rotate_left
        · (intro w hSw; (try dsimp only at hSw); go_simp; try with_reducible rfl)
        try simp only [Act.put, List.setIfInBounds_toArray, List.set_cons_zero, List.set_cons_succ]
        refine wpAnyH_take (i := 18) (oi := ⟨some 6, _, _, _, _, _⟩) (v := ?_) rfl (by kernel_rfl) (by kernel_rfl) (by kernel_rfl) (fun _ _ _ h => h) (Or.inl ⟨by rfl, ?_⟩) (by assumption) ?_
        rotate_left
        · (intro w hSw; (try dsimp only at hSw); go_simp; try with_reducible rfl)
        try simp only [Act.put, List.setIfInBounds_toArray, List.set_cons_zero, List.set_cons_succ]
        refine wpAnyH_done (by kernel_rfl) ?_ _
        have hB := hs.2.2.2.2.2.2.2.2.2.2.2.2
        clear hs
        go_wp2_with fail
        go_ret
        exact ⟨rfl, hB.out⟩
    · clear HSO
      have hca := hp
      have hbd := chk_bd ⟨k', n', f', s'⟩
      have hcb2 : Val.chk ⟨k', n', f', s'⟩ = 1 ∨ Val.chk ⟨k', n', f', s'⟩ = 2 := by omega
      clear hbd hq hp
      rcases hcb2 with hcb | hcb
      all_goals
        have hdr := Two.drew (a := ⟨k, n, f, s⟩) (b := ⟨k', n', f', s'⟩) (c := ⟨k'', n'', f'', s''⟩) hs
        unfold Two at hdr
        simp only at hdr
        refine wp_region_held_drew (S := (fun W => W.cell? ⟨w.heap.size, 0, none⟩ = some (.int .i64 k) ∧ W.cell? ⟨w.heap.size, 1, none⟩ = some (.int .i64 n) ∧ W.cell? ⟨w.heap.size, 2, none⟩ = some (.int .u64 (f : Int)) ∧ W.cell? ⟨w.heap.size, 3, none⟩ = some (.string s) ∧ W.cell? ⟨w.heap.size + 1, 0, none⟩ = some (.int .i64 k') ∧ W.cell? ⟨w.heap.size + 1, 1, none⟩ = some (.int .i64 n') ∧ W.cell? ⟨w.heap.size + 1, 2, none⟩ = some (.int .u64 (f' : Int)) ∧ W.cell? ⟨w.heap.size + 1, 3, none⟩ = some (.string s') ∧ W.cell? ⟨w.heap.size + 1 + 1, 0, none⟩ = some (.int .i64 k'') ∧ W.cell? ⟨w.heap.size + 1 + 1, 1, none⟩ = some (.int .i64 n'') ∧ W.cell? ⟨w.heap.size + 1 + 1, 2, none⟩ = some (.int .u64 (f'' : Int)) ∧ W.cell? ⟨w.heap.size + 1 + 1, 3, none⟩ = some (.string s'') ∧ Hid (Below w.heap.size w W))) (by kernel_rfl) hdr (fun hHeld => ?_)
        refine wpAnyH_take (i := 0) (oi := ⟨some 44, _, _, _, _, _⟩) (v := ?_) rfl (by kernel_rfl) (by kernel_rfl) (by kernel_rfl) (fun _ _ _ h => h) (Or.inl ⟨by rfl, ?_⟩) (by assumption) ?_
        rotate_left
        · (intro w hSw; (try dsimp only at hSw); go_simp; try with_reducible rfl)
        try simp only [Act.put, List.setIfInBounds_toArray, List.set_cons_zero, List.set_cons_succ]
        refine wpAnyH_ready (rs := [1]) (by kernel_rfl) (by simp) ?_
        refine AllReadyH.cons (o := ⟨some 45, _, _, _, _, _⟩) rfl (fun K hK => ?_) AllReadyH.nil
        go_simp
        go_at_call 9; refine (HK.out _ _ _ _ (by assumption) _ (by assumption)).mono ?_; rintro e w1 ⟨he, hs⟩; rw [hca] at he; subst he
        refine hK.out _ _ hs (fun hHeld => ?_)
        clear hK K
        try simp only [Act.put, List.setIfInBounds_toArray, List.set_cons_zero, List.set_cons_succ]
        refine wpAnyH_take (i := 2) (oi := ⟨some 46, _, _, _, _, _⟩) (v := ?_) rfl (by kernel_rfl) (by kernel_rfl) (by kernel_rfl) (fun _ _ _ h => h) (Or.inl ⟨by rfl, ?_⟩) (by assumption) ?_
        rotate_left
        · (intro w hSw; (try dsimp only at hSw); go_simp; try with_reducible rfl)
        try simp only [Act.put, List.setIfInBounds_toArray, List.set_cons_zero, List.set_cons_succ]
        refine wpAnyH_take (i := 3) (oi := ⟨some 47, _, _, _, _, _⟩) (v := ?_) rfl (by kernel_rfl) (by kernel_rfl) (by kernel_rfl) (fun _ _ _ h => h) (Or.inl ⟨by rfl, ?_⟩) (by assumption) ?_
        rotate_left
        · (intro w hSw; (try dsimp only at hSw); go_simp; try with_reducible rfl)
        try simp only [Act.put, List.setIfInBounds_toArray, List.set_cons_zero, List.set_cons_succ]
        refine wpAnyH_take (i := 4) (oi := ⟨some 48, _, _, _, _, _⟩) (v := ?_) rfl (by kernel_rfl) (by kernel_rfl) (by kernel_rfl) (fun _ _ _ h => h) (Or.inl ⟨by rfl, ?_⟩) (by assumption) ?_
        rotate_left
        · (intro w hSw; (try dsimp only at hSw); go_simp; try with_reducible rfl)
        try simp only [Act.put, List.setIfInBounds_toArray, List.set_cons_zero, List.set_cons_succ]
        refine wpAnyH_ready (rs := [5]) (by kernel_rfl) (by simp) ?_
        refine AllReadyH.cons (o := ⟨some 49, _, _, _, _, _⟩) rfl (fun K hK => ?_) AllReadyH.nil
        go_simp
        go_at_call 9; refine (HK.out _ _ _ _ (by assumption) _ (by assumption)).mono ?_; rintro e w1 ⟨he, hs⟩; rw [hcb] at he; subst he
        refine hK.out _ _ hs (fun hHeld => ?_)
        clear hK K
        try simp only [Act.put, List.setIfInBounds_toArray, List.set_cons_zero, List.set_cons_succ]
        refine wpAnyH_take (i := 6) (oi := ⟨some 50, _, _, _, _, _⟩) (v := ?_) rfl (by kernel_rfl) (by kernel_rfl) (by kernel_rfl) (fun _ _ _ h => h) (Or.inl ⟨by rfl, ?_⟩) (by assumption) ?_
        rotate_left
        · (intro w hSw; (try dsimp only at hSw); go_simp; try with_reducible rfl)
        try simp only [Act.put, List.setIfInBounds_toArray, List.set_cons_zero, List.set_cons_succ]
        refine wpAnyH_take (i := 7) (oi := ⟨some 51, _, _, _, _, _⟩) (v := ?_) rfl (by kernel_rfl) (by kernel_rfl) (by kernel_rfl) (fun _ _ _ h => h) (Or.inl ⟨by rfl, ?_⟩) (by assumption) ?_
        rotate_left
        · (intro w hSw; (try dsimp only at hSw); go_simp; try with_reducible rfl)
        try simp only [Act.put, List.setIfInBounds_toArray, List.set_cons_zero, List.set_cons_succ]
        refine wpAnyH_take (i := 8) (oi := ⟨some 52, _, _, _, _, _⟩) (v := ?_) rfl (by kernel_rfl) (by kernel_rfl) (by kernel_rfl) (fun _ _ _ h => h) (Or.inl ⟨by rfl, ?_⟩) (by assumption) ?_
        rotate_left
        · (intro w hSw; (try dsimp only at hSw); go_simp; try with_reducible rfl)
        try simp only [Act.put, List.setIfInBounds_toArray, List.set_cons_zero, List.set_cons_succ]
        refine wpAnyH_take (i := 9) (oi := ⟨some 53, _, _, _, _, _⟩) (v := undef) rfl (by kernel_rfl) (by kernel_rfl) (by kernel_rfl) (fun _ _ _ h => h) (Or.inr ⟨by rfl, rfl⟩) (by assumption) ?_
        try simp only [Act.put, List.setIfInBounds_toArray, List.set_cons_zero, List.set_cons_succ]
        refine wpAnyH_take (i := 10) (oi := ⟨some 54, _, _, _, _, _⟩) (v := undef) rfl (by kernel_rfl) (by kernel_rfl) (by kernel_rfl) (fun _ _ _ h => h) (Or.inr ⟨by rfl, rfl⟩) (by assumption) ?_
        try simp only [Act.put, List.setIfInBounds_toArray, List.set_cons_zero, List.set_cons_succ]
        refine wpAnyH_take (i := 11) (oi := ⟨some 55, _, _, _, _, _⟩) (v := undef) rfl (by kernel_rfl) (by kernel_rfl) (by kernel_rfl) (fun _ _ _ h => h) (Or.inr ⟨by rfl, rfl⟩) (by assumption) ?_
        try simp only [Act.put, List.setIfInBounds_toArray, List.set_cons_zero, List.set_cons_succ]
        refine wpAnyH_take (i := 12) (oi := ⟨some 56, _, _, _, _, _⟩) (v := undef) rfl (by kernel_rfl) (by kernel_rfl) (by kernel_rfl) (fun _ _ _ h => h) (Or.inr ⟨by rfl, rfl⟩) (by assumption) ?_
        try simp only [Act.put, List.setIfInBounds_toArray, List.set_cons_zero, List.set_cons_succ]
        refine wpAnyH_take (i := 13) (oi := ⟨some 57, _, _, _, _, _⟩) (v := undef) rfl (by kernel_rfl) (by kernel_rfl) (by kernel_rfl) (fun _ _ _ h => h) (Or.inr ⟨by rfl, rfl⟩) (by assumption) ?_
        try simp only [Act.put, List.setIfInBounds_toArray, List.set_cons_zero, List.set_cons_succ]
        refine wpAnyH_take (i := 14) (oi := ⟨some 58, _, _, _, _, _⟩) (v := undef) rfl (by kernel_rfl) (by kernel_rfl) (by kernel_rfl) (fun _ _ _ h => h) (Or.inr ⟨by rfl, rfl⟩) (by assumption) ?_
        try simp only [Act.put, List.setIfInBounds_toArray, List.set_cons_zero, List.set_cons_succ]
        refine wpAnyH_take (i := 15) (oi := ⟨some 59, _, _, _, _, _⟩) (v := undef) rfl (by kernel_rfl) (by kernel_rfl) (by kernel_rfl) (fun _ _ _ h => h) (Or.inr ⟨by rfl, rfl⟩) (by assumption) ?_
        try simp only [Act.put, List.setIfInBounds_toArray, List.set_cons_zero, List.set_cons_succ]
        refine wpAnyH_take (i := 16) (oi := ⟨some 60, _, _, _, _, _⟩) (v := undef) rfl (by kernel_rfl) (by kernel_rfl) (by kernel_rfl) (fun _ _ _ h => h) (Or.inr ⟨by rfl, rfl⟩) (by assumption) ?_
        try simp only [Act.put, List.setIfInBounds_toArray, List.set_cons_zero, List.set_cons_succ]
        refine wpAnyH_take (i := 17) (oi := ⟨some 61, _, _, _, _, _⟩) (v := ?_) rfl (by kernel_rfl) (by kernel_rfl) (by kernel_rfl) (fun _ _ _ h => h) (Or.inl ⟨by rfl, ?_⟩) (by assumption) ?_
        rotate_left
        · (intro w hSw; (try dsimp only at hSw); go_simp; try with_reducible rfl)
        try simp only [Act.put, List.setIfInBounds_toArray, List.set_cons_zero, List.set_cons_succ]
        refine wpAnyH_take (i := 18) (oi := ⟨some 6, _, _, _, _, _⟩) (v := ?_) rfl (by kernel_rfl) (by kernel_rfl) (by kernel_rfl) (fun _ _ _ h => h) (Or.inl ⟨by rfl, ?_⟩) (by assumption) ?_
        rotate_left
        · (intro w hSw; (try dsimp only at hSw); go_simp; try with_reducible rfl)
        try simp only [Act.put, List.setIfInBounds_toArray, List.set_cons_zero, List.set_cons_succ]
        refine wpAnyH_done (by kernel_rfl) ?_ _
        have hB := hs.2.2.2.2.2.2.2.2.2.2.2.2
        clear hs
        go_wp2_with fail
        go_ret
        exact ⟨rfl, hB.out⟩
    · clear HSO
      have hca := hp
      have hcb := hq
      clear hp hq
      injection he with e1 e2 e3 e4
      subst e1 e2 e3 e4
      rw [hz] at hx
      clear hz
      have hdr := Two.drew (a := ⟨k, n, f, s⟩) (b := ⟨k, n, f, s⟩) (c := ⟨k'', n'', f'', s''⟩) hs
      unfold Two at hdr
      simp only at hdr
      go_region_held3 (fun W => W.cell? ⟨w.heap.size, 0, none⟩ = some (.int .i64 k) ∧ W.cell? ⟨w.heap.size, 1, none⟩ = some (.int .i64 n) ∧ W.cell? ⟨w.heap.size, 2, none⟩ = some (.int .u64 (f : Int)) ∧ W.cell? ⟨w.heap.size, 3, none⟩ = some (.string s) ∧
            W.cell? ⟨w.heap.size + 1, 0, none⟩ = some (.int .i64 k) ∧ W.cell? ⟨w.heap.size + 1, 1, none⟩ = some (.int .i64 n) ∧ W.cell? ⟨w.heap.size + 1, 2, none⟩ = some (.int .u64 (f : Int)) ∧ W.cell? ⟨w.heap.size + 1, 3, none⟩ = some (.string s) ∧
            W.cell? ⟨w.heap.size + 1 + 1, 0, none⟩ = some (.int .i64 k'') ∧ W.cell? ⟨w.heap.size + 1 + 1, 1, none⟩ = some (.int .i64 n'') ∧ W.cell? ⟨w.heap.size + 1 + 1, 2, none⟩ = some (.int .u64 (f'' : Int)) ∧ W.cell? ⟨w.heap.size + 1 + 1, 3, none⟩ = some (.string s'') ∧ Hid (Below w.heap.size w W))
        (first | assumption | go_keep)
        (first
          | (go_simp; go_at_call 9; refine (HK.out _ _ _ _ (by assumption) _ (by assumption)).mono ?_; rintro e w1 ⟨he, hs⟩; (first | rw [hca] at he | rw [hcb] at he); subst he)
          | (go_simp; go_at_call 11; refine (HC.out _ _ _ _ _ _ _ _ (by assumption) (by assumption) _ (by assumption)).mono ?_; rintro e w1 ⟨he, hs⟩; rw [hx] at he; subst he))
      all_goals
        refine with_world (S := (fun W => W.cell? ⟨w.heap.size, 0, none⟩ = some (.int .i64 k) ∧ W.cell? ⟨w.heap.size, 1, none⟩ = some (.int .i64 n) ∧ W.cell? ⟨w.heap.size, 2, none⟩ = some (.int .u64 (f : Int)) ∧ W.cell? ⟨w.heap.size, 3, none⟩ = some (.string s) ∧
            W.cell? ⟨w.heap.size + 1, 0, none⟩ = some (.int .i64 k) ∧ W.cell? ⟨w.heap.size + 1, 1, none⟩ = some (.int .i64 n) ∧ W.cell? ⟨w.heap.size + 1, 2, none⟩ = some (.int .u64 (f : Int)) ∧ W.cell? ⟨w.heap.size + 1, 3, none⟩ = some (.string s) ∧
            W.cell? ⟨w.heap.size + 1 + 1, 0, none⟩ = some (.int .i64 k'') ∧ W.cell? ⟨w.heap.size + 1 + 1, 1, none⟩ = some (.int .i64 n'') ∧ W.cell? ⟨w.heap.size + 1 + 1, 2, none⟩ = some (.int .u64 (f'' : Int)) ∧ W.cell? ⟨w.heap.size + 1 + 1, 3, none⟩ = some (.string s'') ∧ Hid (Below w.heap.size w W))) (by assumption) ?_
        intro hs
        have hB := hs.2.2.2.2.2.2.2.2.2.2.2.2
        clear hs
        go_wp2_with fail
        go_ret
        exact ⟨rfl, hB.out⟩
    · clear HSO
      have hca := hp
      have hcb := hq
      clear hp hq
      have hz2 : (x == 0) = false := by simpa using hz
      have hcases : (k == k') = false ∨ (n == n') = false ∨ ((f : Int) == (f' : Int)) = false ∨ ((s.toList == s'.toList) = false ∧ ¬ s.toList = s'.toList) := by
        rcases he with h | ⟨_, h⟩ | ⟨_, _, h⟩ | ⟨_, _, _, h⟩
        · exact .inl (by simpa using h)
        · exact .inr (.inl (by simpa using h))
        · exact .inr (.inr (.inl (by rw [beq_eq_false_iff_ne]; omega)))
        · have h2 : ¬ s.toList = s'.toList := fun e => h (bytes_same e)
          exact .inr (.inr (.inr ⟨by simpa using h2, h2⟩))
      clear he hz
      rcases hcases with hd | hd | hd | ⟨hd, hd2⟩
      all_goals
        have hdr := Two.drew (a := ⟨k, n, f, s⟩) (b := ⟨k', n', f', s'⟩) (c := ⟨k'', n'', f'', s''⟩) hs
        unfold Two at hdr
        simp only at hdr
        go_region_held3 (fun W => W.cell? ⟨w.heap.size, 0, none⟩ = some (.int .i64 k) ∧ W.cell? ⟨w.heap.size, 1, none⟩ = some (.int .i64 n) ∧ W.cell? ⟨w.heap.size, 2, none⟩ = some (.int .u64 (f : Int)) ∧ W.cell? ⟨w.heap.size, 3, none⟩ = some (.string s) ∧
              W.cell? ⟨w.heap.size + 1, 0, none⟩ = some (.int .i64 k') ∧ W.cell? ⟨w.heap.size + 1, 1, none⟩ = some (.int .i64 n') ∧ W.cell? ⟨w.heap.size + 1, 2, none⟩ = some (.int .u64 (f' : Int)) ∧ W.cell? ⟨w.heap.size + 1, 3, none⟩ = some (.string s') ∧
              W.cell? ⟨w.heap.size + 1 + 1, 0, none⟩ = some (.int .i64 k'') ∧ W.cell? ⟨w.heap.size + 1 + 1, 1, none⟩ = some (.int .i64 n'') ∧ W.cell? ⟨w.heap.size + 1 + 1, 2, none⟩ = some (.int .u64 (f'' : Int)) ∧ W.cell? ⟨w.heap.size + 1 + 1, 3, none⟩ = some (.string s'') ∧ Hid (Below w.heap.size w W))
          (first | assumption | go_keep)
          (first
            | (go_simp; go_at_call 9; refine (HK.out _ _ _ _ (by assumption) _ (by assumption)).mono ?_; rintro e w1 ⟨he, hs⟩; (first | rw [hca] at he | rw [hcb] at he); subst he)
            | (go_simp; go_at_call 11; refine (HC.out _ _ _ _ _ _ _ _ (by assumption) (by assumption) _ (by assumption)).mono ?_; rintro e w1 ⟨he, hs⟩; rw [hx] at he; subst he))
        all_goals
          refine with_world (S := (fun W => W.cell? ⟨w.heap.size, 0, none⟩ = some (.int .i64 k) ∧ W.cell? ⟨w.heap.size, 1, none⟩ = some (.int .i64 n) ∧ W.cell? ⟨w.heap.size, 2, none⟩ = some (.int .u64 (f : Int)) ∧ W.cell? ⟨w.heap.size, 3, none⟩ = some (.string s) ∧
              W.cell? ⟨w.heap.size + 1, 0, none⟩ = some (.int .i64 k') ∧ W.cell? ⟨w.heap.size + 1, 1, none⟩ = some (.int .i64 n') ∧ W.cell? ⟨w.heap.size + 1, 2, none⟩ = some (.int .u64 (f' : Int)) ∧ W.cell? ⟨w.heap.size + 1, 3, none⟩ = some (.string s') ∧
              W.cell? ⟨w.heap.size + 1 + 1, 0, none⟩ = some (.int .i64 k'') ∧ W.cell? ⟨w.heap.size + 1 + 1, 1, none⟩ = some (.int .i64 n'') ∧ W.cell? ⟨w.heap.size + 1 + 1, 2, none⟩ = some (.int .u64 (f'' : Int)) ∧ W.cell? ⟨w.heap.size + 1 + 1, 3, none⟩ = some (.string s'') ∧ Hid (Below w.heap.size w W))) (by assumption) ?_
          intro hs
          have hB := hs.2.2.2.2.2.2.2.2.2.2.2.2
          clear hs
          go_wp2_with fail
          go_ret
          exact ⟨rfl, hB.out⟩
end Go.Proofs.YtdhfmapcggohmaaDoor
