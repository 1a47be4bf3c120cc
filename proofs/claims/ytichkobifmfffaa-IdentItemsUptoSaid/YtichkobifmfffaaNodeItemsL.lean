/-
  What the law IdentItems returns: true, where the lists are no more than the second form's bulk.
  No condition but the form's own.
-/
import Derived.Test.YtichkobifmfffaaNodeAwake
import Derived.Test.YtichkobifmfffaaNodeFrom
import Derived.WalkKit
import Derived.WalkSpells
import Derived.WalkLawsBesides
import Derived.Handy
import Derived.Deep.QuietTactic
import Derived.BigQuiet
import Derived.Deep.RegionWith
import Derived.Deep.RegionHeld3
import Derived.Deep.Draws
import Derived.Lib.Hide
namespace Go.Proofs.Ytichkobifmfffaa
open Go.RowKit
theorem from_back (l : List Ident.Id) (p q : List Itm.It) : Ident.rises l = true → Ident.tk ((p ++ (Ident.items l ++ q)).drop p.length) = l ∧ ((p ++ (Ident.items l ++ q)).drop p.length).take (Ident.items l).length = Ident.items l := fun h => by
  have h7 := Ident.rising_length (Ident.rises_true.1 h)
  rw [List.drop_left, Ident.tk_items h7, List.take_left]
  exact ⟨rfl, rfl⟩
/-- What the law asks of From. -/
def IsBack (l : List Ident.Id) (z0 : Int) (w : World) (e : Ending) (w' : World) : Prop :=
  ∃ (A : Option Addr) (m : List Ident.Id) (q : Nat) (z : Int) (b : Bool), e = .returned (.tuple #[.slice A m.length q, .int .i64 z, .bool b]) ∧ Hid (nodeLay.Reads w' w'.heap.size A m) ∧ (Ident.rises l = true → m = l ∧ z = z0 ∧ b = true) ∧ Below w.heap.size w w'
theorem from_here (l : List Ident.Id) (p q : List Itm.It) (g c1 : Nat) (W : World) (hc : (p ++ (Ident.items l ++ q)).length ≤ c1) (hb : (p ++ (Ident.items l ++ q)).length ≤ 1000000000) (hg : g < W.heap.size) (hi : ∀ i x, (p ++ (Ident.items l ++ q))[i]? = some x → itemLay.At W g 0 i x) :
    Calls Try.prog 29 #[.slice (some ⟨g, 0, none⟩) (p ++ (Ident.items l ++ q)).length c1, .int .i64 p.length] W (IsBack l ((p.length : Int) + ((Ident.items l).length : Int)) W) := by
  have hil := Ident.items_length l
  refine (from_any g 0 c1 _ p.length _ W rfl (by simp; omega) hc hb hg hi).mono ?_
  rintro e w' ⟨A, m, n, z, b, rfl, hr, h, hb'⟩
  refine ⟨A, m, n, z, b, rfl, Lib.hid hr, fun hl => ?_, hb'⟩
  obtain ⟨h1, h2⟩ := from_back l p q hl
  rw [h1] at h
  exact h ⟨hl, h2⟩

set_option maxHeartbeats 6400000 in
theorem itemsl_yes (A B C : Option Addr) (c d e : Nat) (l : List Ident.Id) (p q : List Itm.It) (w : World) (hl : l.length ≤ 1048576) (hp : p.length ≤ 1048576) (hq : q.length ≤ 1048576) (hi : nodeLay.Reads w w.heap.size A l) (hj : itemLay.Reads w w.heap.size B p) (hk : itemLay.Reads w w.heap.size C q) (hB : B = none → p = []) (hC : C = none → q = []) :
    Lift.Yes Try.prog 8 #[.slice A l.length c, .slice B p.length d, .slice C q.length e] w := by
  have hil := Ident.items_length l
  have HIt := Lib.hid (items_any A c l w (by omega) hi)
  have HF := Lib.hid (fun g c1 W => from_here l p q g c1 W)
  have HRi := Lib.hid (fun W (h : Below w.heap.size w W) => rises_any A c l W (by omega) (hi.later h (Nat.le_refl _)))
  have HSm := Lib.hid (fun P c' W (h : Below w.heap.size w W) (h2 : nodeLay.Reads W W.heap.size P l) => nsame_any A P c c' l W W.heap.size W.heap.size (by omega) (hi.later h (Nat.le_refl _)) h2)
  have HI := Lib.hid hi
  have HJ := Lib.hid hj
  have HK := Lib.hid hk
  have HBn := Lib.hid hB
  have HCn := Lib.hid hC
  have h0 : (Ident.items l)[0]? = some ⟨0, (l.length : Int), Itm.emp⟩ := rfl
  have HG : Hid (∀ k x, l[k]? = some x → (Ident.items l)[2 * k + 1]? = some ⟨0, x.s, Itm.emp⟩ ∧ (Ident.items l)[2 * k + 2]? = some ⟨0, x.c, Itm.emp⟩) := Lib.hid fun k x h => Ident.items_get h
  unfold IsItems at HIt
  clear hi hj hk hB hC
  have hlL : (p ++ (Ident.items l ++ q)).length = p.length + ((Ident.items l).length + q.length) := by simp
  generalize hown : Ident.items l = own at *
  have HH0 := Lib.hid h0
  have hM := hil
  generalize hm : own.length = M at *
  have HMl := Lib.hid hm
  generalize hpl : p.length = np at *
  have HPl := Lib.hid hpl
  generalize hql : q.length = nq at *
  have HQl := Lib.hid hql
  generalize hn : l.length = n at *
  have HN := Lib.hid hn
  have HMn : Hid (M = 2 * n + 1) := Lib.hid hM
  have hMb : M ≤ 2097153 := by omega
  have hM0 : 0 < M := by omega
  have hMne : ((M : Int) != 2 * (n : Int) + 1) = false := by simp; omega
  clear hown hm hpl hql hn h0 hil hM
  unfold Lift.Yes
  go_enter Try.func8, Try.ntmps8
  go_wp2_with fail
  refine (HIt.out).mono ?_; rintro e1 w1 ⟨A1, c1, rfl, o1, b1⟩
  have hO := o1.reads.2
  obtain ⟨g1, hA1⟩ : ∃ g1 : Addr, A1 = some g1 := by
    obtain ⟨b, o, h, _⟩ := hO (by rw [HMl.out]; omega)
    exact ⟨_, h⟩
  have HO1 := Lib.hid hO
  have HB1 := Lib.hid b1
  have HR0 : Hid (itemLay.Own w1.heap.size (w1.alloc (.cells #[] 44)) (.slice (some ⟨w1.heap.size, 0, none⟩) 0 0) []) := Lib.hid (Lay.Own.new w1 [] _ _ _ _ rfl (Nat.le_refl _) rfl rfl rfl (by decide))
  have HT0 := Lib.hid ((Turns.refl w1.heap.size 44 w1).alloc (Nat.le_refl _) (.cells #[] 44))
  have HPj : Hid (∀ W, Turns w1.heap.size 44 w1 W → itemLay.Reads W W.heap.size B p) := Lib.hid fun W h => HJ.out.later (HB1.out.trans (h.below.mono HB1.out.size)) (Nat.le_refl _)
  have HPo : Hid (∀ W, Turns w1.heap.size 44 w1 W → itemLay.Reads W W.heap.size A1 own) := Lib.hid fun W h => HO1.out.later h.below (Nat.le_refl _)
  have HPk : Hid (∀ W, Turns w1.heap.size 44 w1 W → itemLay.Reads W W.heap.size C q) := Lib.hid fun W h => HK.out.later (HB1.out.trans (h.below.mono HB1.out.size)) (Nat.le_refl _)
  have HA1 : Hid (A1 = none → own = []) := Lib.hid (by rw [hA1]; intro h; cases h)
  clear b1 o1 hO hA1 HIt
  go_wp2_with (at_builtin; refine itemLay.wpList_more rfl (.tmp 15) (.tmp 16) rfl w1.heap.size _ _ [] B np d _ p rfl rfl HPl.out.symm HR0.out (HPj.out _ HT0.out) HBn.out (by rw [HPl.out]; simp; omega) (by rw [HPl.out]; show _ * 32 ≤ _; simp; omega) HT0.out.size ?_)
  intro v5 w5 HR5 HD5 hs5
  have HT5 := Lib.hid (HT0.out.trans HD5.out)
  obtain ⟨A5, c5, hv5⟩ := HR5.out.shape
  subst hv5
  clear HD5 HR0 HT0
  go_wp2_with (at_builtin; refine itemLay.wpList_more rfl (.tmp 17) (.tmp 18) rfl w1.heap.size _ _ p A1 M c1 _ own rfl rfl HMl.out.symm HR5.out (HPo.out _ HT5.out) HA1.out (by rw [HPl.out, HMl.out]; omega) (by rw [HPl.out, HMl.out]; show _ * 32 ≤ _; omega) hs5 ?_)
  intro v6 w6 HR6 HD6 hs6
  have HT6 := Lib.hid (HT5.out.trans HD6.out)
  obtain ⟨A6, c6, hv6⟩ := HR6.out.shape
  subst hv6
  clear HD6 HR5 HT5
  go_wp2_with (at_builtin; refine itemLay.wpList_more rfl (.tmp 19) (.tmp 20) rfl w1.heap.size _ _ (p ++ own) C nq e _ q rfl rfl HQl.out.symm HR6.out (HPk.out _ HT6.out) HCn.out (by rw [List.length_append, HPl.out, HMl.out, HQl.out]; omega) (by rw [List.length_append, HPl.out, HMl.out, HQl.out]; show _ * 32 ≤ _; omega) hs6 ?_)
  intro v7 w7 HR7 HD7 hs7
  have HT7 := Lib.hid (HT6.out.trans HD7.out)
  have hr7 : itemLay.Own w1.heap.size w7 v7 (p ++ (own ++ q)) := by simpa using HR7.out
  have hne : p ++ (own ++ q) ≠ [] := by
    intro h
    have := congrArg List.length h
    rw [hlL] at this
    simp at this
    omega
  obtain ⟨g, c7, rfl, hc7, _, hg7, hi7⟩ := hr7.block hne
  have HB7 := Lib.hid (HB1.out.trans (HT7.out.below.mono HB1.out.size))
  have HO7 := Lib.hid (HPo.out _ HT7.out)
  have hL : (p ++ (own ++ q)).length ≤ 1000000000 := by rw [hlL]; omega
  have HFr := Lib.hid (HF.out g c7 w7 hc7 hL hg7 hi7)
  clear hr7 HD7 HR6 HR7 HT6 hi7 HF hc7 hL hne HPj HPo HPk HT7 HA1
  generalize (p ++ (own ++ q)).length = N at *
  clear hlL
  go_wp2_with fail
  refine (HFr.out).mono ?_
  rintro e2 w8 ⟨A8, m, q8, z, bb, rfl, hm8, hfr, b8⟩
  have HB8 := Lib.hid (HB7.out.trans (b8.mono HB7.out.size))
  have HO8 := Lib.hid (HO7.out.later b8 (Nat.le_refl _))
  have HFb := Lib.hid hfr
  obtain ⟨b0, o0, rfl, hb0, hc0⟩ := HO8.out (by rw [HMl.out]; omega)
  have HC0 := Lib.hid hc0
  obtain ⟨x0, x1, x2⟩ := at_item (hc0 0 _ HH0.out)
  simp only [Nat.zero_mul, Nat.add_zero, Itm.emp] at x0 x1 x2
  have hw1 : IntKind.i64.wrap (2 * (n : Int)) = 2 * (n : Int) := IntWalk.i64_in _ (by omega)
  have hw2 : IntKind.i64.wrap (2 * (n : Int) + 1) = 2 * (n : Int) + 1 := IntWalk.i64_in _ (by omega)
  have hnn : ((n : Int) == (n : Int)) = true := by simp
  clear b8 HFr HO7 HO1 hfr hc0
  go_wp2_with fail
  go_loopw [12] (fun vi wr => ∃ k : Nat, k ≤ n ∧ vi = .int .i64 k ∧ Hid (Below w8.heap.size w8 wr)) (fun vi _ => n - (intOf vi).toNat)
  case atStart => exact ⟨0, Nat.zero_le _, rfl, Lib.hid (Below.refl _ _)⟩
  case round =>
    obtain ⟨k, hk, rfl, HBr⟩ := hrel
    have HBw := Lib.hid (HB8.out.trans (HBr.out.mono HB8.out.size))
    clear x0 x1 x2
    by_cases hlt : k < n
    · obtain ⟨x, hx⟩ := Lay.get_of (l := l) (k := k) (by rw [HN.out]; exact hlt)
      obtain ⟨b, o, rfl, hb, hc⟩ := HI.out (by rw [HN.out]; omega)
      obtain ⟨c0, c1⟩ := at_node ((hc k x hx).keep (w' := wr) fun p hp => HBw.out.cell (by rw [hp]; exact hb))
      obtain ⟨e1, e2⟩ := HG.out k x hx
      obtain ⟨y0, y1, y2⟩ := at_item ((HC0.out _ _ e1).keep (w' := wr) fun p hp => HBr.out.cell (by rw [hp]; exact hb0))
      obtain ⟨z0, z1, z2⟩ := at_item ((HC0.out _ _ e2).keep (w' := wr) fun p hp => HBr.out.cell (by rw [hp]; exact hb0))
      obtain ⟨xs, xc⟩ := x
      simp only [Itm.emp] at c0 c1 y0 y1 y2 z0 z1 z2
      have hM2 := HMn.out
      have hk1 : (0 : Int) ≤ 1 + 2 * (k : Int) := by omega
      have hk2 : 1 + 2 * (k : Int) < (M : Int) := by omega
      have hk3 : (0 : Int) ≤ 2 + 2 * (k : Int) := by omega
      have hk4 : 2 + 2 * (k : Int) < (M : Int) := by omega
      have hk5 : (0 : Int) ≤ (k : Int) := by omega
      have hk6 : (k : Int) < (n : Int) := by omega
      have hv1 : IntKind.i64.wrap (2 * (k : Int)) = 2 * (k : Int) := IntWalk.i64_in _ (by omega)
      have hv2 : IntKind.i64.wrap (1 + 2 * (k : Int)) = 1 + 2 * (k : Int) := IntWalk.i64_in _ (by omega)
      have hv3 : IntKind.i64.wrap (2 + 2 * (k : Int)) = 2 + 2 * (k : Int) := IntWalk.i64_in _ (by omega)
      have ht1 : (1 + 2 * (k : Int)).toNat = 2 * k + 1 := by omega
      have ht2 : (2 + 2 * (k : Int)).toNat = 2 * k + 2 := by omega
      clear hx hc e1 e2 hM2
      go_wp2_with fail
      refine wp_region_held_drew (S := (fun W => W.cell? ⟨b0, o0 + (2 * k + 1) * 3, none⟩ = some (.int .i64 0) ∧ W.cell? ⟨b0, o0 + (2 * k + 1) * 3 + 1, none⟩ = some (.int .i64 xs) ∧ W.cell? ⟨b0, o0 + (2 * k + 1) * 3 + 2, none⟩ = some (.string ⟨#[]⟩) ∧ W.cell? ⟨b0, o0 + (2 * k + 2) * 3, none⟩ = some (.int .i64 0) ∧ W.cell? ⟨b0, o0 + (2 * k + 2) * 3 + 1, none⟩ = some (.int .i64 xc) ∧ W.cell? ⟨b0, o0 + (2 * k + 2) * 3 + 2, none⟩ = some (.string ⟨#[]⟩) ∧ W.cell? ⟨b, o + k * 2, none⟩ = some (.int .i64 xs) ∧ W.cell? ⟨b, o + k * 2 + 1, none⟩ = some (.int .i64 xc))) (by kernel_rfl) ?_ (fun hHeld => ?_)
      · (try dsimp only); exact ⟨y0, y1, y2, z0, z1, z2, c0, c1⟩
      refine wpAnyH_take (i := 0) (oi := ⟨some 52, _, _, _, _, _⟩) (v := ?_) rfl (by kernel_rfl) (by kernel_rfl) (by kernel_rfl) (fun _ _ _ h => h) (Or.inl ⟨by rfl, ?_⟩) (by assumption) ?_
      rotate_left
      · (intro w hSw; (try dsimp only at hSw); go_simp; try with_reducible rfl)
      try simp only [Act.put, List.setIfInBounds_toArray, List.set_cons_zero, List.set_cons_succ]
      refine wpAnyH_take (i := 1) (oi := ⟨some 53, _, _, _, _, _⟩) (v := ?_) rfl (by kernel_rfl) (by kernel_rfl) (by kernel_rfl) (fun _ _ _ h => h) (Or.inl ⟨by rfl, ?_⟩) (by assumption) ?_
      rotate_left
      · (intro w hSw; (try dsimp only at hSw); go_simp; try with_reducible rfl)
      try simp only [Act.put, List.setIfInBounds_toArray, List.set_cons_zero, List.set_cons_succ]
      refine wpAnyH_take (i := 2) (oi := ⟨some 54, _, _, _, _, _⟩) (v := ?_) rfl (by kernel_rfl) (by kernel_rfl) (by kernel_rfl) (fun _ _ _ h => h) (Or.inl ⟨by rfl, ?_⟩) (by assumption) ?_
      rotate_left
      · (intro w hSw; (try dsimp only at hSw); go_simp; try with_reducible rfl)
      try simp only [Act.put, List.setIfInBounds_toArray, List.set_cons_zero, List.set_cons_succ]
      refine wpAnyH_take (i := 3) (oi := ⟨some 55, _, _, _, _, _⟩) (v := ?_) rfl (by kernel_rfl) (by kernel_rfl) (by kernel_rfl) (fun _ _ _ h => h) (Or.inl ⟨by rfl, ?_⟩) (by assumption) ?_
      rotate_left
      · (intro w hSw; (try dsimp only at hSw); go_simp; try with_reducible rfl)
      try simp only [Act.put, List.setIfInBounds_toArray, List.set_cons_zero, List.set_cons_succ]
      refine wpAnyH_take (i := 4) (oi := ⟨some 56, _, _, _, _, _⟩) (v := ?_) rfl (by kernel_rfl) (by kernel_rfl) (by kernel_rfl) (fun _ _ _ h => h) (Or.inl ⟨by rfl, ?_⟩) (by assumption) ?_
      rotate_left
      · (intro w hSw; (try dsimp only at hSw); go_simp; try with_reducible rfl)
      try simp only [Act.put, List.setIfInBounds_toArray, List.set_cons_zero, List.set_cons_succ]
      refine wpAnyH_take (i := 5) (oi := ⟨some 57, _, _, _, _, _⟩) (v := ?_) rfl (by kernel_rfl) (by kernel_rfl) (by kernel_rfl) (fun _ _ _ h => h) (Or.inl ⟨by rfl, ?_⟩) (by assumption) ?_
      rotate_left
      · (intro w hSw; (try dsimp only at hSw); go_simp; try with_reducible rfl)
      try simp only [Act.put, List.setIfInBounds_toArray, List.set_cons_zero, List.set_cons_succ]
      refine wpAnyH_take (i := 6) (oi := ⟨some 58, _, _, _, _, _⟩) (v := ?_) rfl (by kernel_rfl) (by kernel_rfl) (by kernel_rfl) (fun _ _ _ h => h) (Or.inl ⟨by rfl, ?_⟩) (by assumption) ?_
      rotate_left
      · (intro w hSw; (try dsimp only at hSw); go_simp; try with_reducible rfl)
      try simp only [Act.put, List.setIfInBounds_toArray, List.set_cons_zero, List.set_cons_succ]
      refine wpAnyH_take (i := 7) (oi := ⟨some 59, _, _, _, _, _⟩) (v := ?_) rfl (by kernel_rfl) (by kernel_rfl) (by kernel_rfl) (fun _ _ _ h => h) (Or.inl ⟨by rfl, ?_⟩) (by assumption) ?_
      rotate_left
      · (intro w hSw; (try dsimp only at hSw); go_simp; try with_reducible rfl)
      try simp only [Act.put, List.setIfInBounds_toArray, List.set_cons_zero, List.set_cons_succ]
      refine wpAnyH_take (i := 8) (oi := ⟨some 60, _, _, _, _, _⟩) (v := ?_) rfl (by kernel_rfl) (by kernel_rfl) (by kernel_rfl) (fun _ _ _ h => h) (Or.inl ⟨by rfl, ?_⟩) (by assumption) ?_
      rotate_left
      · (intro w hSw; (try dsimp only at hSw); go_simp; try with_reducible rfl)
      try simp only [Act.put, List.setIfInBounds_toArray, List.set_cons_zero, List.set_cons_succ]
      refine wpAnyH_take (i := 9) (oi := ⟨some 61, _, _, _, _, _⟩) (v := ?_) rfl (by kernel_rfl) (by kernel_rfl) (by kernel_rfl) (fun _ _ _ h => h) (Or.inl ⟨by rfl, ?_⟩) (by assumption) ?_
      rotate_left
      · (intro w hSw; (try dsimp only at hSw); go_simp; try with_reducible rfl)
      try simp only [Act.put, List.setIfInBounds_toArray, List.set_cons_zero, List.set_cons_succ]
      refine wpAnyH_take (i := 10) (oi := ⟨some 62, _, _, _, _, _⟩) (v := ?_) rfl (by kernel_rfl) (by kernel_rfl) (by kernel_rfl) (fun _ _ _ h => h) (Or.inl ⟨by rfl, ?_⟩) (by assumption) ?_
      rotate_left
      · (intro w hSw; (try dsimp only at hSw); go_simp; try with_reducible rfl)
      try simp only [Act.put, List.setIfInBounds_toArray, List.set_cons_zero, List.set_cons_succ]
      refine wpAnyH_take (i := 11) (oi := ⟨some 63, _, _, _, _, _⟩) (v := ?_) rfl (by kernel_rfl) (by kernel_rfl) (by kernel_rfl) (fun _ _ _ h => h) (Or.inl ⟨by rfl, ?_⟩) (by assumption) ?_
      rotate_left
      · (intro w hSw; (try dsimp only at hSw); go_simp; try with_reducible rfl)
      try simp only [Act.put, List.setIfInBounds_toArray, List.set_cons_zero, List.set_cons_succ]
      refine wpAnyH_take (i := 12) (oi := ⟨some 64, _, _, _, _, _⟩) (v := ?_) rfl (by kernel_rfl) (by kernel_rfl) (by kernel_rfl) (fun _ _ _ h => h) (Or.inl ⟨by rfl, ?_⟩) (by assumption) ?_
      rotate_left
      · (intro w hSw; (try dsimp only at hSw); go_simp; try with_reducible rfl)
      try simp only [Act.put, List.setIfInBounds_toArray, List.set_cons_zero, List.set_cons_succ]
      refine wpAnyH_take (i := 13) (oi := ⟨some 65, _, _, _, _, _⟩) (v := ?_) rfl (by kernel_rfl) (by kernel_rfl) (by kernel_rfl) (fun _ _ _ h => h) (Or.inl ⟨by rfl, ?_⟩) (by assumption) ?_
      rotate_left
      · (intro w hSw; (try dsimp only at hSw); go_simp; try with_reducible rfl)
      try simp only [Act.put, List.setIfInBounds_toArray, List.set_cons_zero, List.set_cons_succ]
      refine wpAnyH_take (i := 14) (oi := ⟨some 66, _, _, _, _, _⟩) (v := ?_) rfl (by kernel_rfl) (by kernel_rfl) (by kernel_rfl) (fun _ _ _ h => h) (Or.inl ⟨by rfl, ?_⟩) (by assumption) ?_
      rotate_left
      · (intro w hSw; (try dsimp only at hSw); go_simp; try with_reducible rfl)
      try simp only [Act.put, List.setIfInBounds_toArray, List.set_cons_zero, List.set_cons_succ]
      refine wpAnyH_take (i := 15) (oi := ⟨some 67, _, _, _, _, _⟩) (v := ?_) rfl (by kernel_rfl) (by kernel_rfl) (by kernel_rfl) (fun _ _ _ h => h) (Or.inl ⟨by rfl, ?_⟩) (by assumption) ?_
      rotate_left
      · (intro w hSw; (try dsimp only at hSw); go_simp; try with_reducible rfl)
      try simp only [Act.put, List.setIfInBounds_toArray, List.set_cons_zero, List.set_cons_succ]
      refine wpAnyH_take (i := 16) (oi := ⟨some 68, _, _, _, _, _⟩) (v := ?_) rfl (by kernel_rfl) (by kernel_rfl) (by kernel_rfl) (fun _ _ _ h => h) (Or.inl ⟨by rfl, ?_⟩) (by assumption) ?_
      rotate_left
      · (intro w hSw; (try dsimp only at hSw); go_simp; try with_reducible rfl)
      try simp only [Act.put, List.setIfInBounds_toArray, List.set_cons_zero, List.set_cons_succ]
      refine wpAnyH_take (i := 17) (oi := ⟨some 69, _, _, _, _, _⟩) (v := ?_) rfl (by kernel_rfl) (by kernel_rfl) (by kernel_rfl) (fun _ _ _ h => h) (Or.inl ⟨by rfl, ?_⟩) (by assumption) ?_
      rotate_left
      · (intro w hSw; (try dsimp only at hSw); go_simp; try with_reducible rfl)
      try simp only [Act.put, List.setIfInBounds_toArray, List.set_cons_zero, List.set_cons_succ]
      refine wpAnyH_take (i := 18) (oi := ⟨some 70, _, _, _, _, _⟩) (v := ?_) rfl (by kernel_rfl) (by kernel_rfl) (by kernel_rfl) (fun _ _ _ h => h) (Or.inl ⟨by rfl, ?_⟩) (by assumption) ?_
      rotate_left
      · (intro w hSw; (try dsimp only at hSw); go_simp; try with_reducible rfl)
      try simp only [Act.put, List.setIfInBounds_toArray, List.set_cons_zero, List.set_cons_succ]
      refine wpAnyH_take (i := 19) (oi := ⟨some 71, _, _, _, _, _⟩) (v := ?_) rfl (by kernel_rfl) (by kernel_rfl) (by kernel_rfl) (fun _ _ _ h => h) (Or.inl ⟨by rfl, ?_⟩) (by assumption) ?_
      rotate_left
      · (intro w hSw; (try dsimp only at hSw); go_simp; try with_reducible rfl)
      try simp only [Act.put, List.setIfInBounds_toArray, List.set_cons_zero, List.set_cons_succ]
      refine wpAnyH_take (i := 20) (oi := ⟨some 72, _, _, _, _, _⟩) (v := ?_) rfl (by kernel_rfl) (by kernel_rfl) (by kernel_rfl) (fun _ _ _ h => h) (Or.inl ⟨by rfl, ?_⟩) (by assumption) ?_
      rotate_left
      · (intro w hSw; (try dsimp only at hSw); go_simp; try with_reducible rfl)
      try simp only [Act.put, List.setIfInBounds_toArray, List.set_cons_zero, List.set_cons_succ]
      refine wpAnyH_take (i := 21) (oi := ⟨some 73, _, _, _, _, _⟩) (v := ?_) rfl (by kernel_rfl) (by kernel_rfl) (by kernel_rfl) (fun _ _ _ h => h) (Or.inl ⟨by rfl, ?_⟩) (by assumption) ?_
      rotate_left
      · (intro w hSw; (try dsimp only at hSw); go_simp; try with_reducible rfl)
      try simp only [Act.put, List.setIfInBounds_toArray, List.set_cons_zero, List.set_cons_succ]
      refine wpAnyH_take (i := 22) (oi := ⟨some 74, _, _, _, _, _⟩) (v := ?_) rfl (by kernel_rfl) (by kernel_rfl) (by kernel_rfl) (fun _ _ _ h => h) (Or.inl ⟨by rfl, ?_⟩) (by assumption) ?_
      rotate_left
      · (intro w hSw; (try dsimp only at hSw); go_simp; try with_reducible rfl)
      try simp only [Act.put, List.setIfInBounds_toArray, List.set_cons_zero, List.set_cons_succ]
      refine wpAnyH_take (i := 23) (oi := ⟨some 75, _, _, _, _, _⟩) (v := ?_) rfl (by kernel_rfl) (by kernel_rfl) (by kernel_rfl) (fun _ _ _ h => h) (Or.inl ⟨by rfl, ?_⟩) (by assumption) ?_
      rotate_left
      · (intro w hSw; (try dsimp only at hSw); go_simp; try with_reducible rfl)
      try simp only [Act.put, List.setIfInBounds_toArray, List.set_cons_zero, List.set_cons_succ]
      refine wpAnyH_take (i := 24) (oi := ⟨some 76, _, _, _, _, _⟩) (v := ?_) rfl (by kernel_rfl) (by kernel_rfl) (by kernel_rfl) (fun _ _ _ h => h) (Or.inl ⟨by rfl, ?_⟩) (by assumption) ?_
      rotate_left
      · (intro w hSw; (try dsimp only at hSw); go_simp; try with_reducible rfl)
      try simp only [Act.put, List.setIfInBounds_toArray, List.set_cons_zero, List.set_cons_succ]
      refine wpAnyH_take (i := 25) (oi := ⟨some 77, _, _, _, _, _⟩) (v := ?_) rfl (by kernel_rfl) (by kernel_rfl) (by kernel_rfl) (fun _ _ _ h => h) (Or.inl ⟨by rfl, ?_⟩) (by assumption) ?_
      rotate_left
      · (intro w hSw; (try dsimp only at hSw); go_simp; try with_reducible rfl)
      try simp only [Act.put, List.setIfInBounds_toArray, List.set_cons_zero, List.set_cons_succ]
      refine wpAnyH_take (i := 26) (oi := ⟨some 78, _, _, _, _, _⟩) (v := ?_) rfl (by kernel_rfl) (by kernel_rfl) (by kernel_rfl) (fun _ _ _ h => h) (Or.inl ⟨by rfl, ?_⟩) (by assumption) ?_
      rotate_left
      · (intro w hSw; (try dsimp only at hSw); go_simp; try with_reducible rfl)
      try simp only [Act.put, List.setIfInBounds_toArray, List.set_cons_zero, List.set_cons_succ]
      refine wpAnyH_take (i := 27) (oi := ⟨some 79, _, _, _, _, _⟩) (v := ?_) rfl (by kernel_rfl) (by kernel_rfl) (by kernel_rfl) (fun _ _ _ h => h) (Or.inl ⟨by rfl, ?_⟩) (by assumption) ?_
      rotate_left
      · (intro w hSw; (try dsimp only at hSw); go_simp; try with_reducible rfl)
      try simp only [Act.put, List.setIfInBounds_toArray, List.set_cons_zero, List.set_cons_succ]
      refine wpAnyH_done (by kernel_rfl) ?_ _
      go_wp2_with fail
      exact ⟨⟨k + 1, by omega, by go_num, Lib.hid HBr.out.drew⟩, by simp [intOf]; omega⟩
    · obtain rfl : k = n := by omega
      have HM8 := Lib.hid (hm8.out.later HBr.out (Nat.le_refl _))
      cases hr : Ident.rises l
      · rw [hr] at HRi
        clear hr
        go_wp2_with fail
        refine (nawake_any _).mono ?_; rintro e3 w9 ⟨rfl, b9⟩
        have HB9 := Lib.hid (Lift.then2 HBw.out b9)
        clear b9
        go_wp2_with fail
        refine (HRi.out _ HB9.out).mono ?_; rintro e4 w10 ⟨rfl, b10⟩
        have HB10 := Lib.hid (Lift.then2 HB9.out b10)
        clear b10
        go_wp2_with fail
        go_ret
        exact ⟨rfl, HB10.out⟩
      · obtain ⟨hm1, hz1, hb1⟩ := HFb.out hr
        rw [hr] at HRi
        clear hr HFb
        subst hm1 hz1 hb1
        rw [HN.out]
        have hzz : ((np : Int) + (M : Int) == (np : Int) + (M : Int)) = true := by simp
        go_wp2_with fail
        refine (nawake_any _).mono ?_; rintro e3 w9 ⟨rfl, b9⟩
        have HB9 := Lib.hid (Lift.then2 HBw.out b9)
        have HM9 := Lib.hid (HM8.out.later b9 (Nat.le_refl _))
        clear b9
        go_wp2_with fail
        refine (HRi.out _ HB9.out).mono ?_; rintro e4 w10 ⟨rfl, b10⟩
        have HB10 := Lib.hid (Lift.then2 HB9.out b10)
        have HM10 := Lib.hid (HM9.out.later b10 (Nat.le_refl _))
        clear b10
        go_wp2_with fail
        refine (HSm.out _ _ _ HB10.out HM10.out).mono ?_; rintro e5 w11 ⟨rfl, j, rfl⟩
        go_wp2_with fail
        go_ret
        exact ⟨rfl, Lift.drewN_then HB10.out _⟩
end Go.Proofs.Ytichkobifmfffaa
