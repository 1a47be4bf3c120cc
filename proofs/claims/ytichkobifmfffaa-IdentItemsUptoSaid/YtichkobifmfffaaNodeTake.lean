/-
  What ident.take returns: the nodes that stand at the head of items.
  No condition but that there is an item, and the items are no more than the second form's bulk.
-/
import Derived.Test.YtichkobifmfffaaNodeItems
import Derived.Test.YtichkobifmfffaaNodeBoth
import Derived.WalkKit
import Derived.WalkSpells
import Derived.WalkLawsBesides
import Derived.Handy
import Derived.Deep.QuietTactic
import Derived.BigQuiet
import Derived.Deep.RegionWith
import Derived.Deep.RegionHeld3
import Derived.Deep.Draws
import Derived.Lib.Hide
namespace Go.Proofs.Ytichkobifmfffaa
open Go.RowKit
theorem cnt_lt (L : List Itm.It) (x : Itm.It) (n : Nat) (hx : L[0]? = some x) (hn : L.length = n) (m : Int) (hm : (if (((n - 1) / 2 : Nat) : Int) < (if 7 < x.n then 7 else x.n) then (((n - 1) / 2 : Nat) : Int) else (if 7 < x.n then 7 else x.n)) = m) : ∀ k : Nat, (k : Int) < m ↔ k < Ident.cnt L := fun k => by
  have e : L.headD ⟨0, 0, Itm.emp⟩ = x := by
    cases L with
    | nil => simp at hx
    | cons y r => simpa using hx
  unfold Ident.cnt
  rw [e, hn]
  subst hm
  omega
theorem nodeAt_is {L : List Itm.It} {k : Nat} {x y : Itm.It} (hx : L[2 * k + 1]? = some x) (hy : L[2 * k + 2]? = some y) : Ident.nodeAt L k = ⟨x.n, y.n⟩ := by
  unfold Ident.nodeAt
  simp only [List.getD, hx, hy]
  rfl

set_option maxHeartbeats 3200000 in
theorem take_any (b o c n : Nat) (L : List Itm.It) (w : World) (hl : L.length = n) (h1 : 1 ≤ n) (hbig : n ≤ 1000000000) (hb : b < w.heap.size) (hi : ∀ i x, L[i]? = some x → itemLay.At w b o i x) :
    Calls Try.prog 32 #[.slice (some ⟨b, o, none⟩) n c] w (IsNodes (Ident.tk L) w) := by
  obtain ⟨x0, hx0⟩ := Lay.get_of (l := L) (k := 0) (by omega)
  obtain ⟨_, d1, _⟩ := at_item (hi 0 x0 hx0)
  simp only [Nat.zero_mul, Nat.add_zero] at d1
  obtain ⟨mi, hmi⟩ : ∃ m : Int, (if (((n - 1) / 2 : Nat) : Int) < (if 7 < x0.n then 7 else x0.n) then (((n - 1) / 2 : Nat) : Int) else (if 7 < x0.n then 7 else x0.n)) = m := ⟨_, rfl⟩
  have HCm := Lib.hid (cnt_lt L x0 n hx0 hl mi hmi)
  have hc7 := Ident.cnt_le L
  have HTk : Hid (Ident.tk L = Ident.pre L (Ident.cnt L)) := Lib.hid rfl
  rw [hl] at hc7
  obtain ⟨hc7, hc2⟩ := hc7
  have hcn : 2 * Ident.cnt L + 1 ≤ n := by omega
  have hq : ((n : Int) - 1).tdiv 2 = (((n - 1) / 2 : Nat) : Int) := by rw [Int.tdiv_eq_ediv_of_nonneg (by omega)]; omega
  have HMi := Lib.hid hmi
  have hq2 : wrap64 (((n - 1) / 2 : Nat) : Int) = (((n - 1) / 2 : Nat) : Int) := by unfold wrap64; omega
  generalize (((n - 1) / 2 : Nat) : Int) = qi at *
  clear hmi
  generalize hcc : Ident.cnt L = cn at *
  clear hcc hc2
  have HI := Lib.hid hi
  have HL := Lib.hid hl
  have HW : Hid (nodeLay.Own w.heap.size (w.alloc (.cells #[] 24)) (.slice (some ⟨w.heap.size, 0, none⟩) 0 0) (Ident.pre L 0)) := Lib.hid (Lay.Own.new w [] _ _ _ _ rfl (Nat.le_refl _) rfl rfl rfl (by decide))
  have HB0 := Lib.hid ((Below.refl _ w).alloc (Nat.le_refl _) (.cells #[] 24))
  clear hi hl hx0
  obtain ⟨x0k, x0n, x0s⟩ := x0
  simp only at d1 HMi
  have h3 : (7 < x0n ∧ qi < 7 ∧ mi = qi) ∨ (7 < x0n ∧ ¬ qi < 7 ∧ mi = 7) ∨ (¬ 7 < x0n ∧ qi < x0n ∧ mi = qi) ∨ (¬ 7 < x0n ∧ ¬ qi < x0n ∧ mi = x0n) := by
    have hm := HMi.out
    by_cases a1 : 7 < x0n
    · rw [if_pos a1] at hm
      by_cases a2 : qi < 7
      · rw [if_pos a2] at hm; exact .inl ⟨a1, a2, hm.symm⟩
      · rw [if_neg a2] at hm; exact .inr (.inl ⟨a1, a2, hm.symm⟩)
    · rw [if_neg a1] at hm
      by_cases a2 : qi < x0n
      · rw [if_pos a2] at hm; exact .inr (.inr (.inl ⟨a1, a2, hm.symm⟩))
      · rw [if_neg a2] at hm; exact .inr (.inr (.inr ⟨a1, a2, hm.symm⟩))
  clear HMi
  rcases h3 with ⟨a1, a2, rfl⟩ | ⟨a1, a2, rfl⟩ | ⟨a1, a2, rfl⟩ | ⟨a1, a2, rfl⟩
  all_goals
    go_enter Try.func32, Try.ntmps32
    go_wp2_with fail
    go_loopw [3, 15] (fun vs vi wr => ∃ k : Nat, k ≤ cn ∧ vi = .int .i64 k ∧ Hid (nodeLay.Own w.heap.size wr vs (Ident.pre L k)) ∧ Hid (Below w.heap.size w wr)) (fun _ vi _ => cn - (intOf vi).toNat)
    case atStart => exact ⟨0, Nat.zero_le _, rfl, HW, HB0⟩
    case round =>
      obtain ⟨k, hk, rfl, HR, HB⟩ := hrel
      clear HW HB0 d1
      have hs := HB.out.size
      by_cases hlt : k < cn
      · have hlt2 := (HCm.out k).2 hlt
        obtain ⟨x, hx⟩ := Lay.get_of (l := L) (k := 2 * k + 1) (by rw [HL.out]; omega)
        obtain ⟨y, hy⟩ := Lay.get_of (l := L) (k := 2 * k + 2) (by rw [HL.out]; omega)
        obtain ⟨_, c1, _⟩ := at_item ((HI.out _ x hx).keep (w' := wr) fun p hp => HB.out.cell (by rw [hp]; exact hb))
        obtain ⟨_, e1, _⟩ := at_item ((HI.out _ y hy).keep (w' := wr) fun p hp => HB.out.cell (by rw [hp]; exact hb))
        have HN1 := Lib.hid (nodeAt_is hx hy)
        have HE := Lib.hid (Ident.pre_succ L k)
        have hpl := Ident.pre_length L k
        have hk1 : (0 : Int) ≤ 2 * (k : Int) + 1 := by omega
        have hk2 : 2 * (k : Int) + 1 < (n : Int) := by omega
        have hk3 : (0 : Int) ≤ 2 * (k : Int) + 2 := by omega
        have hk4 : 2 * (k : Int) + 2 < (n : Int) := by omega
        have hw1 : IntKind.i64.wrap (2 * (k : Int)) = 2 * (k : Int) := IntWalk.i64_in _ (by omega)
        have hw2 : IntKind.i64.wrap (2 * (k : Int) + 1) = 2 * (k : Int) + 1 := IntWalk.i64_in _ (by omega)
        have hw3 : IntKind.i64.wrap (2 * (k : Int) + 2) = 2 * (k : Int) + 2 := IntWalk.i64_in _ (by omega)
        have ht1 : (2 * (k : Int) + 1).toNat = 2 * k + 1 := by omega
        have ht2 : (2 * (k : Int) + 2).toNat = 2 * k + 2 := by omega
        have HL1 : Hid ((Ident.pre L k).length + [(⟨x.n, y.n⟩ : Ident.Id)].length ≤ 9223372036854775807) := Lib.hid (by rw [hpl]; simp; omega)
        have HL2 : Hid (((Ident.pre L k).length + [(⟨x.n, y.n⟩ : Ident.Id)].length) * nodeLay.bytes ≤ 211106232532992) := Lib.hid (by rw [hpl]; show _ * 16 ≤ _; simp; omega)
        clear hx hy hpl
        obtain ⟨xk, xn, xs⟩ := x
        obtain ⟨yk, yn, ys⟩ := y
        simp only at c1 e1 HN1 HL1 HL2
        have HRr := Lib.hid HR.out.drew
        have HBr := Lib.hid HB.out.drew
        have HBa := Lib.hid ((HB.out.alloc hs (.cells #[.int .i64 xn, .int .i64 yn] 24)).drew)
        go_wp2_with fail
        refine wp_region_held_drew (S := (fun W => W.cell? ⟨b, o + (2 * k + 1) * 3 + 1, none⟩ = some (.int .i64 xn) ∧ W.cell? ⟨b, o + (2 * k + 2) * 3 + 1, none⟩ = some (.int .i64 yn) ∧ Hid (Below w.heap.size w W))) (by kernel_rfl) ?_ (fun hHeld => ?_)
        · (try dsimp only); exact ⟨c1, e1, HBr⟩
        refine wpAnyH_take (i := 0) (oi := ⟨some 18, _, _, _, _, _⟩) (v := ?_) rfl (by kernel_rfl) (by kernel_rfl) (by kernel_rfl) (fun _ _ _ h => h) (Or.inl ⟨by rfl, ?_⟩) (by assumption) ?_
        rotate_left
        · (intro w hSw; (try dsimp only at hSw); go_simp; try with_reducible rfl)
        try simp only [Act.put, List.setIfInBounds_toArray, List.set_cons_zero, List.set_cons_succ]
        refine wpAnyH_take (i := 1) (oi := ⟨some 19, _, _, _, _, _⟩) (v := ?_) rfl (by kernel_rfl) (by kernel_rfl) (by kernel_rfl) (fun _ _ _ h => h) (Or.inl ⟨by rfl, ?_⟩) (by assumption) ?_
        rotate_left
        · (intro w hSw; (try dsimp only at hSw); go_simp; try with_reducible rfl)
        try simp only [Act.put, List.setIfInBounds_toArray, List.set_cons_zero, List.set_cons_succ]
        refine wpAnyH_take (i := 2) (oi := ⟨some 20, _, _, _, _, _⟩) (v := ?_) rfl (by kernel_rfl) (by kernel_rfl) (by kernel_rfl) (fun _ _ _ h => h) (Or.inl ⟨by rfl, ?_⟩) (by assumption) ?_
        rotate_left
        · (intro w hSw; (try dsimp only at hSw); go_simp; try with_reducible rfl)
        try simp only [Act.put, List.setIfInBounds_toArray, List.set_cons_zero, List.set_cons_succ]
        refine wpAnyH_take (i := 3) (oi := ⟨some 21, _, _, _, _, _⟩) (v := ?_) rfl (by kernel_rfl) (by kernel_rfl) (by kernel_rfl) (fun _ _ _ h => h) (Or.inl ⟨by rfl, ?_⟩) (by assumption) ?_
        rotate_left
        · (intro w hSw; (try dsimp only at hSw); go_simp; try with_reducible rfl)
        try simp only [Act.put, List.setIfInBounds_toArray, List.set_cons_zero, List.set_cons_succ]
        refine wpAnyH_take (i := 4) (oi := ⟨some 22, _, _, _, _, _⟩) (v := ?_) rfl (by kernel_rfl) (by kernel_rfl) (by kernel_rfl) (fun _ _ _ h => h) (Or.inl ⟨by rfl, ?_⟩) (by assumption) ?_
        rotate_left
        · (intro w hSw; (try dsimp only at hSw); go_simp; try with_reducible rfl)
        try simp only [Act.put, List.setIfInBounds_toArray, List.set_cons_zero, List.set_cons_succ]
        refine wpAnyH_take (i := 5) (oi := ⟨some 23, _, _, _, _, _⟩) (v := ?_) rfl (by kernel_rfl) (by kernel_rfl) (by kernel_rfl) (fun _ _ _ h => h) (Or.inl ⟨by rfl, ?_⟩) (by assumption) ?_
        rotate_left
        · (intro w hSw; (try dsimp only at hSw); go_simp; try with_reducible rfl)
        try simp only [Act.put, List.setIfInBounds_toArray, List.set_cons_zero, List.set_cons_succ]
        refine wpAnyH_take (i := 6) (oi := ⟨some 24, _, _, _, _, _⟩) (v := ?_) rfl (by kernel_rfl) (by kernel_rfl) (by kernel_rfl) (fun _ _ _ h => h) (Or.inl ⟨by rfl, ?_⟩) (by assumption) ?_
        rotate_left
        · (intro w hSw; (try dsimp only at hSw); go_simp; try with_reducible rfl)
        try simp only [Act.put, List.setIfInBounds_toArray, List.set_cons_zero, List.set_cons_succ]
        refine wpAnyH_take (i := 7) (oi := ⟨some 25, _, _, _, _, _⟩) (v := ?_) rfl (by kernel_rfl) (by kernel_rfl) (by kernel_rfl) (fun _ _ _ h => h) (Or.inl ⟨by rfl, ?_⟩) (by assumption) ?_
        rotate_left
        · (intro w hSw; (try dsimp only at hSw); go_simp; try with_reducible rfl)
        try simp only [Act.put, List.setIfInBounds_toArray, List.set_cons_zero, List.set_cons_succ]
        refine wpAnyH_take (i := 8) (oi := ⟨some 26, _, _, _, _, _⟩) (v := ?_) rfl (by kernel_rfl) (by kernel_rfl) (by kernel_rfl) (fun _ _ _ h => h) (Or.inl ⟨by rfl, ?_⟩) (by assumption) ?_
        rotate_left
        · (intro w hSw; (try dsimp only at hSw); go_simp; try with_reducible rfl)
        try simp only [Act.put, List.setIfInBounds_toArray, List.set_cons_zero, List.set_cons_succ]
        refine wpAnyH_take (i := 9) (oi := ⟨some 27, _, _, _, _, _⟩) (v := ?_) rfl (by kernel_rfl) (by kernel_rfl) (by kernel_rfl) (fun _ _ _ h => h) (Or.inl ⟨by rfl, ?_⟩) (by assumption) ?_
        rotate_left
        · (intro w hSw; (try dsimp only at hSw); go_simp; try with_reducible rfl)
        try simp only [Act.put, List.setIfInBounds_toArray, List.set_cons_zero, List.set_cons_succ]
        refine wpAnyH_take (i := 10) (oi := ⟨some 28, _, _, _, _, _⟩) (v := ?_) rfl (by kernel_rfl) (by kernel_rfl) (by kernel_rfl) (fun _ _ _ h => h) (Or.inl ⟨by rfl, ?_⟩) (by assumption) ?_
        rotate_left
        · (intro w hSw; (try dsimp only at hSw); go_simp; try with_reducible rfl)
        try simp only [Act.put, List.setIfInBounds_toArray, List.set_cons_zero, List.set_cons_succ]
        refine wpAnyH_take (i := 11) (oi := ⟨some 29, _, _, _, _, _⟩) (v := ?_) rfl (by kernel_rfl) (by kernel_rfl) (by kernel_rfl) (fun _ _ _ h => h) (Or.inl ⟨by rfl, ?_⟩) (by assumption) ?_
        rotate_left
        · (intro w hSw; (try dsimp only at hSw); go_simp; try with_reducible rfl)
        try simp only [Act.put, List.setIfInBounds_toArray, List.set_cons_zero, List.set_cons_succ]
        refine wpAnyH_take (i := 12) (oi := ⟨some 30, _, _, _, _, _⟩) (v := ?_) rfl (by kernel_rfl) (by kernel_rfl) (by kernel_rfl) (fun _ _ _ h => h) (Or.inl ⟨by rfl, ?_⟩) (by assumption) ?_
        rotate_left
        · (intro w hSw; (try dsimp only at hSw); go_simp; try with_reducible rfl)
        try simp only [Act.put, List.setIfInBounds_toArray, List.set_cons_zero, List.set_cons_succ]
        refine wpAnyH_take (i := 13) (oi := ⟨some 31, _, _, _, _, _⟩) (v := ?_) rfl (by kernel_rfl) (by kernel_rfl) (by kernel_rfl) (fun _ _ _ h => h) (Or.inl ⟨by rfl, ?_⟩) (by assumption) ?_
        rotate_left
        · (intro w hSw; (try dsimp only at hSw); go_simp; try with_reducible rfl)
        try simp only [Act.put, List.setIfInBounds_toArray, List.set_cons_zero, List.set_cons_succ]
        refine wpAnyH_take (i := 14) (oi := ⟨some 32, _, _, _, _, _⟩) (v := ?_) rfl (by kernel_rfl) (by kernel_rfl) (by kernel_rfl) (fun _ _ _ h => h) (Or.inl ⟨by rfl, ?_⟩) (by assumption) ?_
        rotate_left
        · (intro w hSw; (try dsimp only at hSw); go_simp; try with_reducible rfl)
        try simp only [Act.put, List.setIfInBounds_toArray, List.set_cons_zero, List.set_cons_succ]
        refine wpAnyH_take (i := 15) (oi := ⟨some 33, _, _, _, _, _⟩) (v := ?_) rfl (by kernel_rfl) (by kernel_rfl) (by kernel_rfl) (fun _ _ _ h => h) (Or.inl ⟨by rfl, ?_⟩) (by assumption) ?_
        rotate_left
        · (intro w hSw; (try dsimp only at hSw); go_simp; try with_reducible rfl)
        try simp only [Act.put, List.setIfInBounds_toArray, List.set_cons_zero, List.set_cons_succ]
        refine wpAnyH_ready (rs := [16]) (by kernel_rfl) (by simp) ?_
        refine AllReadyH.cons (o := ⟨some 34, _, _, _, _, _⟩) rfl (fun K hK => ?_) AllReadyH.nil
        go_simp
        refine hK.out _ _ ?_ (fun hHeld => ?_)
        · (try dsimp only); exact ⟨(HBa.out.cell (p := ⟨b, o + (2 * k + 1) * 3 + 1, none⟩) hb).trans ((HB.out.cell (p := ⟨b, o + (2 * k + 1) * 3 + 1, none⟩) hb).symm.trans c1), (HBa.out.cell (p := ⟨b, o + (2 * k + 2) * 3 + 1, none⟩) hb).trans ((HB.out.cell (p := ⟨b, o + (2 * k + 2) * 3 + 1, none⟩) hb).symm.trans e1), HBa⟩
        clear hK K
        try simp only [Act.put, List.setIfInBounds_toArray, List.set_cons_zero, List.set_cons_succ]
        refine wpAnyH_ready (rs := [17]) (by kernel_rfl) (by simp) ?_
        refine AllReadyH.cons (o := ⟨some 35, _, _, _, _, _⟩) rfl (fun K hK => ?_) AllReadyH.nil
        refine nodeLay.step_push (by rfl) (.tmp 18) (.tmp 34) (by rfl) w.heap.size wr.drew _ (Ident.pre L k) [⟨xn, yn⟩] _ _ 1 1 (by rfl) (by rfl) rfl rfl rfl HRr.out HL1.out HL2.out HBr.out.size ?_; intro v3 w3 HR3 HT3 hs3; have hb3 := below_turns HBr.out HT3.out (Nat.le_refl _); have hs := And.intro ((hb3.cell (p := ⟨b, o + (2 * k + 1) * 3 + 1, none⟩) hb).trans ((HB.out.cell (p := ⟨b, o + (2 * k + 1) * 3 + 1, none⟩) hb).symm.trans c1)) (And.intro ((hb3.cell (p := ⟨b, o + (2 * k + 2) * 3 + 1, none⟩) hb).trans ((HB.out.cell (p := ⟨b, o + (2 * k + 2) * 3 + 1, none⟩) hb).symm.trans e1)) (Lib.hid hb3))
        refine hK.out _ _ hs (fun hHeld => ?_)
        clear hK K
        try simp only [Act.put, List.setIfInBounds_toArray, List.set_cons_zero, List.set_cons_succ]
        refine wpAnyH_take (i := 18) (oi := ⟨some 3, _, _, _, _, _⟩) (v := ?_) rfl (by kernel_rfl) (by kernel_rfl) (by kernel_rfl) (fun _ _ _ h => h) (Or.inl ⟨by rfl, ?_⟩) (by assumption) ?_
        rotate_left
        · (intro w hSw; (try dsimp only at hSw); go_simp; try with_reducible rfl)
        try simp only [Act.put, List.setIfInBounds_toArray, List.set_cons_zero, List.set_cons_succ]
        refine wpAnyH_done (by kernel_rfl) ?_ _
        have HR5 : Hid (nodeLay.Own w.heap.size w3 v3 (Ident.pre L (k + 1))) := Lib.hid (by rw [HE.out, HN1.out]; exact HR3.out)
        clear HR3 HT3 HRr HBr HR
        go_wp2_with fail
        exact ⟨⟨k + 1, by omega, by go_num, HR5, hs.2.2⟩, by simp [intOf]; omega⟩
      · obtain rfl : k = cn := by omega
        have hlt2 := fun h => hlt ((HCm.out k).1 h)
        have HR5 : Hid (nodeLay.Own w.heap.size wr _ (Ident.tk L)) := Lib.hid (by rw [HTk.out]; exact HR.out)
        clear HR
        go_wp2_with fail
        go_ret
        exact isNodes HR5.out (Nat.le_refl _) HB.out
end Go.Proofs.Ytichkobifmfffaa
