/-
  What ident.number and ident.Items return: an item, a list's items.
  No condition but that a list is no longer than the second form's bulk.
-/
import Derived.Test.YtichkobifmfffaaNodeItMath
import Derived.Test.YtichkobifmfffaaNodeOne
import Derived.WalkKit
import Derived.WalkSpells
import Derived.WalkLawsBesides
import Derived.Handy
import Derived.Deep.QuietTactic
import Derived.BigQuiet
import Derived.Deep.RegionWith
import Derived.Deep.RegionHeld3
import Derived.Deep.Draws
import Derived.Lib.Hide
namespace Go.Proofs.Ytichkobifmfffaa
open Go.RowKit
theorem trip_new (w : World) (a b c : Value) (i : Nat) : (w.alloc (.cells #[a, b, c] 44)).cell? ⟨w.heap.size, i, none⟩ = #[a, b, c][i]? := cell_of_row _ _ i _ _ (0, 0) (heap_alloc_new w _)
/-- A way out of a function that answers with an item's block. -/
theorem ret_item {f : Func} (hf : f.results = #[.cell 2 44]) {R : Ending → World → Prop} {a : Act} {w : World} {B : Nat} {p q r : Value}
    (h2 : a.tmps[2]? = some (.pointer (some ⟨B, 0, none⟩))) (hd : a.defers = []) (k0 : w.cell? ⟨B, 0, none⟩ = some p) (k1 : w.cell? ⟨B, 1, none⟩ = some q) (k2 : w.cell? ⟨B, 2, none⟩ = some r)
    (hR : R (.returned (.agg #[p, q, r])) w) : bodyPost Try.prog f R Exit.ret a w :=
  bodyPost_ret (v := .agg #[p, q, r]) (by simp [results, hf, go_sem, h2, k0, k1, k2]) hd hR
set_option maxHeartbeats 800000 in
theorem number_any (z : Int) (w : World) : Calls Try.prog 31 #[.int .i64 z] w fun e w' => e = .returned (.agg #[.int .i64 0, .int .i64 z, .string ⟨#[]⟩]) ∧ Below w.heap.size w w' := by
  have HB := Lib.hid ((Below.refl _ w).alloc (Nat.le_refl _) (.cells #[.int .i64 0, .int .i64 z, .string ⟨#[]⟩] 44))
  go_enter Try.func31, Try.ntmps31
  go_wp2_with fail
  exact ret_item Try.results31 rfl rfl (trip_new _ _ _ _ 0) (trip_new _ _ _ _ 1) (trip_new _ _ _ _ 2) ⟨rfl, HB.out⟩

/-- A slice of the call's own of just these items; below all is as it was. -/
def IsItems (l : List Itm.It) (w : World) (e : Ending) (w' : World) : Prop := ∃ A c, e = .returned (.slice A l.length c) ∧ itemLay.Own w.heap.size w' (.slice A l.length c) l ∧ Below w.heap.size w w'
theorem isItems {l : List Itm.It} {w w' : World} {v : Value} {base : Nat} (h : itemLay.Own base w' v l) (hb : w.heap.size ≤ base) (hw : Below w.heap.size w w') : IsItems l w (.returned v) w' := by
  obtain ⟨A, c, rfl⟩ := h.shape
  exact ⟨A, c, rfl, h.mono hb, hw⟩
/-- A node's block is kept, and what was below. -/
def Keep3 (w : World) (g : Nat) (x : Ident.Id) (W : World) : Prop :=
  W.cell? ⟨g, 0, none⟩ = some (.int .i64 x.s) ∧ W.cell? ⟨g, 1, none⟩ = some (.int .i64 x.c) ∧ Hid (Pair W g x) ∧ Hid (Below w.heap.size w W)
theorem Keep3.mk' {w W : World} {g : Nat} {x : Ident.Id} (h : Pair W g x) (hb : Below w.heap.size w W) : Keep3 w g x W := ⟨h.cell 0, h.cell 1, Lib.hid h, Lib.hid hb⟩
theorem Keep3.step {w W W' : World} {g : Nat} {x : Ident.Id} (h : Keep3 w g x W) (hb : Below W.heap.size W W') : Keep3 w g x W' :=
  Keep3.mk' (h.2.2.1.out.below hb h.2.2.1.out.lt) (h.2.2.2.out.trans (hb.mono h.2.2.2.out.size))
theorem Keep3.alloc {w W : World} {g : Nat} {x : Ident.Id} (h : Keep3 w g x W) (o : Obj) : Keep3 w g x (W.alloc o) := h.step ((Below.refl _ W).alloc (Nat.le_refl _) o)
theorem Keep3.turned {w W W' : World} {g : Nat} {x : Ident.Id} (h : Keep3 w g x W) (hT : Turns w.heap.size 44 W W') : Keep3 w g x W' :=
  Keep3.mk' (hT.others g _ _ _ (by decide) h.2.2.1.out) (h.2.2.2.out.trans hT.below)

set_option maxHeartbeats 3200000 in
theorem items_any (A : Option Addr) (c : Nat) (l : List Ident.Id) (w : World) (hl : l.length ≤ 1000000000) (hi : nodeLay.Reads w w.heap.size A l) :
    Calls Try.prog 28 #[.slice A l.length c] w (IsItems (Ident.items l) w) := by
  have HI := Lib.hid hi
  clear hi
  have HE : Hid ((⟨0, (l.length : Int), Itm.emp⟩ : Itm.It) :: (l.take l.length).flatMap Ident.pair = Ident.items l) := Lib.hid (by rw [List.take_length]; rfl)
  have HR0 : Hid (∀ w1, Below w.heap.size w w1 → itemLay.Own w.heap.size (w1.alloc (.cells #[.int .i64 0, .int .i64 l.length, .string ⟨#[]⟩] 44)) (.slice (some ⟨w1.heap.size, 0, none⟩) 1 1) [⟨0, (l.length : Int), Itm.emp⟩]) := Lib.hid fun w1 h => Lay.Own.new (L := itemLay) w1 [⟨0, (l.length : Int), Itm.emp⟩] _ _ _ _ rfl h.size rfl rfl rfl (by simp)
  generalize hn : l.length = n at *
  have HN := Lib.hid hn
  clear hn
  go_enter Try.func28, Try.ntmps28
  go_wp2_with fail
  refine (number_any _ _).mono ?_; rintro e w1 ⟨rfl, b1⟩
  have HR1 := Lib.hid (HR0.out _ b1)
  have HB1 := Lib.hid (b1.alloc b1.size (.cells #[.int .i64 0, .int .i64 n, .string ⟨#[]⟩] 44))
  clear b1 HR0
  go_wp2_with fail
  go_loopw [3, 12] (fun vs vi wr => ∃ k : Nat, k ≤ n ∧ vi = .int .i64 k ∧ Hid (itemLay.Own w.heap.size wr vs (⟨0, (n : Int), Itm.emp⟩ :: (l.take k).flatMap Ident.pair)) ∧ Hid (Below w.heap.size w wr)) (fun _ vi _ => n - (intOf vi).toNat)
  case atStart => exact ⟨0, Nat.zero_le _, rfl, HR1, HB1⟩
  case round =>
    obtain ⟨k, hk, rfl, HR, HB⟩ := hrel
    clear HR1 HB1
    have hs := HB.out.size
    by_cases hlt : k < n
    · obtain ⟨x, hx⟩ := Lay.get_of (l := l) (k := k) (by rw [HN.out]; exact hlt)
      obtain ⟨b, o, rfl, hb, hc⟩ := HI.out (by rw [HN.out]; omega)
      obtain ⟨c0, c1⟩ := at_node ((hc k x hx).keep (w' := wr) fun p hp => HB.out.cell (by rw [hp]; exact hb))
      have HX := Lib.hid (Ident.flat_take hx)
      obtain ⟨A0, c0', hv⟩ := HR.out.shape
      subst hv
      have hK0 : Keep3 w wr.heap.size x (wr.alloc (.cells #[.int .i64 x.s, .int .i64 x.c] 24)).drew := Keep3.mk' (Pair.new wr x) ((HB.out.alloc hs (.cells #[.int .i64 x.s, .int .i64 x.c] 24)).drew)
      have HRr := Lib.hid ((HR.out.alloc (.cells #[.int .i64 x.s, .int .i64 x.c] 24)).drew)
      have hfl : ((⟨0, (n : Int), Itm.emp⟩ : Itm.It) :: (l.take k).flatMap Ident.pair).length = 2 * k + 1 := by rw [List.length_cons, Ident.flat_length, List.length_take, HN.out]; omega
      generalize hLL : (⟨0, (n : Int), Itm.emp⟩ : Itm.It) :: (l.take k).flatMap Ident.pair = LL at *
      have HLL := Lib.hid hLL
      have HFL := Lib.hid hfl
      rw [hfl] at HRr
      have HC : Hid (∀ z W, Keep3 w wr.heap.size x W → Calls Try.prog 31 #[.int .i64 z] W fun e w' => e = .returned (.agg #[.int .i64 0, .int .i64 z, .string ⟨#[]⟩]) ∧ Hid (Below W.heap.size W w') ∧ Keep3 w wr.heap.size x w') := Lib.hid fun z W hW => (number_any z W).mono fun e w' ⟨he, hb⟩ => ⟨he, Lib.hid hb, hW.step hb⟩
      have HL1 : Hid (LL.length + [(⟨0, x.s, Itm.emp⟩ : Itm.It), ⟨0, x.c, Itm.emp⟩].length ≤ 9223372036854775807) := Lib.hid (by rw [hfl]; simp; omega)
      have HL2 : Hid ((LL.length + [(⟨0, x.s, Itm.emp⟩ : Itm.It), ⟨0, x.c, Itm.emp⟩].length) * itemLay.bytes ≤ 211106232532992) := Lib.hid (by rw [hfl]; show _ * 32 ≤ _; simp; omega)
      clear hx hc HR hLL
      rw [hfl]
      clear hfl
      obtain ⟨xs, xc⟩ := x
      unfold Keep3 at HC hK0
      simp only at c0 c1 HC hK0
      go_wp2_with fail
      refine wp_region_held_drew (S := (fun W => W.cell? ⟨wr.heap.size, 0, none⟩ = some (.int .i64 xs) ∧ W.cell? ⟨wr.heap.size, 1, none⟩ = some (.int .i64 xc) ∧ Hid (Pair W wr.heap.size ⟨xs, xc⟩) ∧ Hid (Below w.heap.size w W))) (by kernel_rfl) ?_ (fun hHeld => ?_)
      · (try dsimp only); exact hK0
      refine wpAnyH_take (i := 0) (oi := ⟨some 16, _, _, _, _, _⟩) (v := ?_) rfl (by kernel_rfl) (by kernel_rfl) (by kernel_rfl) (fun _ _ _ h => h) (Or.inl ⟨by rfl, ?_⟩) (by assumption) ?_
      rotate_left
      · (intro w hSw; (try dsimp only at hSw); go_simp; try with_reducible rfl)
      try simp only [Act.put, List.setIfInBounds_toArray, List.set_cons_zero, List.set_cons_succ]
      refine wpAnyH_take (i := 1) (oi := ⟨some 17, _, _, _, _, _⟩) (v := ?_) rfl (by kernel_rfl) (by kernel_rfl) (by kernel_rfl) (fun _ _ _ h => h) (Or.inl ⟨by rfl, ?_⟩) (by assumption) ?_
      rotate_left
      · (intro w hSw; (try dsimp only at hSw); go_simp; try with_reducible rfl)
      try simp only [Act.put, List.setIfInBounds_toArray, List.set_cons_zero, List.set_cons_succ]
      refine wpAnyH_take (i := 2) (oi := ⟨some 18, _, _, _, _, _⟩) (v := ?_) rfl (by kernel_rfl) (by kernel_rfl) (by kernel_rfl) (fun _ _ _ h => h) (Or.inl ⟨by rfl, ?_⟩) (by assumption) ?_
      rotate_left
      · (intro w hSw; (try dsimp only at hSw); go_simp; try with_reducible rfl)
      try simp only [Act.put, List.setIfInBounds_toArray, List.set_cons_zero, List.set_cons_succ]
      refine wpAnyH_take (i := 4) (oi := ⟨some 20, _, _, _, _, _⟩) (v := ?_) rfl (by kernel_rfl) (by kernel_rfl) (by kernel_rfl) (fun _ _ _ h => h) (Or.inl ⟨by rfl, ?_⟩) (by assumption) ?_
      rotate_left
      · (intro w hSw; (try dsimp only at hSw); go_simp; try with_reducible rfl)
      try simp only [Act.put, List.setIfInBounds_toArray, List.set_cons_zero, List.set_cons_succ]
      refine wpAnyH_take (i := 5) (oi := ⟨some 21, _, _, _, _, _⟩) (v := ?_) rfl (by kernel_rfl) (by kernel_rfl) (by kernel_rfl) (fun _ _ _ h => h) (Or.inl ⟨by rfl, ?_⟩) (by assumption) ?_
      rotate_left
      · (intro w hSw; (try dsimp only at hSw); go_simp; try with_reducible rfl)
      try simp only [Act.put, List.setIfInBounds_toArray, List.set_cons_zero, List.set_cons_succ]
      refine wpAnyH_ready (rs := [3]) (by kernel_rfl) (by simp) ?_
      refine AllReadyH.cons (o := ⟨some 19, _, _, _, _, _⟩) rfl (fun K hK => ?_) AllReadyH.nil
      go_simp
      go_at_call 31
      refine (HC.out _ _ (by assumption)).mono ?_; rintro e w2 ⟨rfl, hb2, hs⟩; have HRr := Lib.hid (HRr.out.below hb2.out)
      refine hK.out _ _ hs (fun hHeld => ?_)
      clear hK K
      try simp only [Act.put, List.setIfInBounds_toArray, List.set_cons_zero, List.set_cons_succ]
      refine wpAnyH_ready (rs := [6]) (by kernel_rfl) (by simp) ?_
      refine AllReadyH.cons (o := ⟨some 22, _, _, _, _, _⟩) rfl (fun K hK => ?_) AllReadyH.nil
      go_simp
      go_at_call 31
      refine (HC.out _ _ (by assumption)).mono ?_; rintro e w2 ⟨rfl, hb2, hs⟩; have HRr := Lib.hid (HRr.out.below hb2.out)
      refine hK.out _ _ hs (fun hHeld => ?_)
      clear hK K
      try simp only [Act.put, List.setIfInBounds_toArray, List.set_cons_zero, List.set_cons_succ]
      refine wpAnyH_ready (rs := [7]) (by kernel_rfl) (by simp) ?_
      refine AllReadyH.cons (o := ⟨some 23, _, _, _, _, _⟩) rfl (fun K hK => ?_) AllReadyH.nil
      go_simp
      refine hK.out _ _ ?_ (fun hHeld => ?_)
      · (try dsimp only); exact Keep3.alloc (x := ⟨xs, xc⟩) hHeld _
      clear hK K
      try simp only [Act.put, List.setIfInBounds_toArray, List.set_cons_zero, List.set_cons_succ]
      refine wpAnyH_ready (rs := [8]) (by kernel_rfl) (by simp) ?_
      refine AllReadyH.cons (o := ⟨some 24, _, _, _, _, _⟩) rfl (fun K hK => ?_) AllReadyH.nil
      refine itemLay.step_push (by rfl) (.tmp 16) (.tmp 23) (by rfl) w.heap.size w2 _ LL [⟨0, xs, Itm.emp⟩, ⟨0, xc, Itm.emp⟩] _ _ 2 2 (by rfl) (by rfl) rfl rfl rfl HRr.out HL1.out HL2.out hs.2.2.2.out.size ?_; intro v3 w3 HR3 HT3 hs3; have hs := Keep3.turned (x := ⟨xs, xc⟩) hs HT3.out; unfold Keep3 at hs; simp only at hs
      refine hK.out _ _ hs (fun hHeld => ?_)
      clear hK K
      try simp only [Act.put, List.setIfInBounds_toArray, List.set_cons_zero, List.set_cons_succ]
      refine wpAnyH_take (i := 9) (oi := ⟨some 3, _, _, _, _, _⟩) (v := ?_) rfl (by kernel_rfl) (by kernel_rfl) (by kernel_rfl) (fun _ _ _ h => h) (Or.inl ⟨by rfl, ?_⟩) (by assumption) ?_
      rotate_left
      · (intro w hSw; (try dsimp only at hSw); go_simp; try with_reducible rfl)
      try simp only [Act.put, List.setIfInBounds_toArray, List.set_cons_zero, List.set_cons_succ]
      refine wpAnyH_done (by kernel_rfl) ?_ _
      have HR5 : Hid (itemLay.Own w.heap.size w3 v3 (⟨0, (n : Int), Itm.emp⟩ :: (l.take (k + 1)).flatMap Ident.pair)) := Lib.hid (by rw [HX.out]; have := HR3.out; rw [← HLL.out] at this; exact this)
      have HB5 := hs.2.2.2
      clear hs HR3 HT3 HRr
      go_wp2_with fail
      exact ⟨⟨k + 1, by omega, by go_num, HR5, HB5⟩, by simp [intOf]; omega⟩
    · obtain rfl : k = n := by omega
      have hr := HR.out
      rw [HE.out] at hr
      have HR2 := Lib.hid hr
      clear hr HR
      go_wp2_with fail
      go_ret
      exact isItems HR2.out (Nat.le_refl _) HB.out
end Go.Proofs.Ytichkobifmfffaa
