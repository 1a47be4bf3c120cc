/-
  What Take returns.
  No condition but that the messages are no more than the form's reach.
-/
import Derived.Test.YtkajnmlglgjocaaPostTwice
import Derived.WalkKit
import Derived.WalkSpells
import Derived.WalkLawsBesides
import Derived.Handy
import Derived.Deep.QuietTactic
import Derived.BigQuiet
import Derived.Deep.RegionWith
import Derived.Deep.RegionHeld3
import Derived.Deep.Draws
import Derived.Lib.Hide
import Derived.Lib.LazyBuf
namespace Go.Proofs.Ytkajnmlglgjocaa
open Go.RowKit


/-- A post, a message, whether it arrives, an error; whose the messages are: the call's own, or those that were handed in. -/
def IsTX (A0 : Option Addr) (c0 : Nat) (l0 : List Pst.Mail) (r : Pst.P × Pst.Mail × Bool × Int) (w : World) (e : Ending) (w' : World) : Prop := ∃ A c, e = .returned (.tuple #[pv A r.1.m.length c r.1.s, mailV r.2.1, .bool r.2.2.1, .int .i64 r.2.2.2]) ∧ (mailLay.Own w.heap.size w' (.slice A r.1.m.length c) r.1.m ∨ (A = A0 ∧ c = c0 ∧ r.1.m = l0)) ∧ Below w.heap.size w w'
theorem take_is (p : Pst.P) (i : Int) : (Pst.lose p i = (p, 5) ∧ Pst.take p i = (p, Pst.noMail, false, 5)) ∨
    ∃ (k : Nat) (m : Pst.Mail) (q : Pst.P), i = k ∧ k < p.m.length ∧ p.m[k]? = some m ∧ Pst.lose p i = (q, 0) ∧ Pst.take p i = (q, m, Pst.arrives p m, 0) := by
  unfold Pst.lose Pst.take
  rcases at_is p i with ⟨h1, h2⟩ | ⟨k, m, rfl, h1, h2, h3, h4⟩
  · rw [h1]; exact .inl ⟨rfl, rfl⟩
  · rw [h3]; exact .inr ⟨k, m, _, rfl, h1, h2, rfl, rfl⟩
set_option maxHeartbeats 3200000 in
theorem take_any (A : Option Addr) (c : Nat) (p : Pst.P) (i : Int) (w : World) (hl : p.m.length ≤ 5000000000000) (hi : mailLay.Reads w w.heap.size A p.m) (hA : A = none → p.m = []) (hcap : p.m.length ≤ c) :
    Calls Try.prog 14 #[pv A p.m.length c p.s, .int .i64 i] w (IsTX A c p.m (Pst.take p i) w) := by
  obtain ⟨HP0, HR0, HN0, HB0, hsz⟩ := made3 w 25 (pc A p.m.length c p.s) 25 (pc none 0 0 fun _ => 0) 27 (mc Pst.noMail)
  have HL : Hid (∀ W, Below w.heap.size w W → Calls Try.prog 15 #[pv A p.m.length c p.s, .int .i64 i] W (IsPE (Pst.lose p i) W)) := Lib.hid fun W hW => lose_any A c p i W hl (hi.later hW (Nat.le_refl _)) hA hcap
  rcases take_is p i with ⟨hL, he⟩ | ⟨k, m, q, rfl, hk, hm, hL, he⟩
  · have HE := Lib.hid he
    rw [hL] at HL
    clear he hL hi hA
    unfold pv at HL ⊢
    go_enter Try.func14, Try.ntmps14
    go_wp2_with (refine wpList_lp rfl _ rfl HP0 rfl ?_)
    refine (HL.out _ HB0.out).mono ?_; rintro e w1 ⟨A1, c1, rfl, o1, b1⟩
    rw [hsz] at o1
    have HO1 := Lib.hid (o1.alloc (.cells (pc none 0 0 fun _ => 0) 25))
    have HB1 := Lib.hid ((Lift.then2 HB0.out b1).alloc (Lift.then2 HB0.out b1).size (.cells (pc none 0 0 fun _ => 0) 25))
    have HR1 := Lib.hid ((Blk.hb HR0 b1).out.alloc (.cells (pc none 0 0 fun _ => 0) 25))
    have HN1 := Lib.hid ((Blk.hb HN0 b1).out.alloc (.cells (pc none 0 0 fun _ => 0) 25))
    have HQ1 := Lib.hid (Blk.new w1 25 (pc none 0 0 fun _ => 0))
    have hs1 := b1.size
    rw [hsz] at hs1
    clear b1 o1 HL HP0 HR0 HB0 HN0 hsz
    go_wp2_with (refine wpList_sp rfl _ _ rfl HQ1 rfl rfl (Nat.le_trans (by omega) hs1 : w.heap.size ≤ w1.heap.size) ?_)
    intro w2 HS
    have HB2 := Lib.hid (below_turns HB1.out HS.out.turns (Nat.le_refl _))
    have HO2 := Lib.hid (HO1.out.turned ne_mp HS.out.turns)
    have HR2 := Lib.hid (HS.out.far HR1.out (by omega))
    have HN2 := Lib.hid (HS.out.far HN1.out (by omega))
    have HQ2 := Lib.hid HS.out.blk
    clear HS HO1 HR1 HN1 HQ1 HB1
    go_wp2_with (first | refine wpList_lp rfl _ rfl HQ2 rfl ?_ | refine wpList_sp rfl _ _ rfl HR2 rfl rfl (Nat.le_add_right w.heap.size 1) ?_)
    intro w3 HS
    have HN3 := Lib.hid (HS.out.far HN2.out (by omega))
    go_wp2_with (refine wpList_sm (m' := Pst.noMail) rfl _ _ rfl HN3 rfl rfl (Nat.le_add_right w.heap.size 2) ?_)
    intro w4 HS4
    go_wp2_with fail
    refine ret_pmbe Try.results14 rfl rfl rfl rfl rfl (HS4.out.far HS.out.blk (by omega)) HS4.out.blk ?_
    rw [HE.out]
    have ho := (HO2.out.turned ne_mp HS.out.turns).far HS4.out (by omega)
    exact ⟨A1, c1, rfl, .inl (ho.mono (Nat.le_add_right _ 3)), below_turns (below_turns HB2.out HS.out.turns (Nat.le_refl _)) HS4.out.turns (Nat.le_refl _)⟩
  · have HE := Lib.hid he
    rw [hL] at HL
    have HAr := Lib.hid (fun W => arrives_any A p.m.length c p m W)
    obtain ⟨b, o, rfl, hb, hc⟩ := hi (by omega)
    obtain ⟨m0, m1, m2, m3⟩ := at_mail (hc k m hm)
    have HMs : Hid (∀ W, Hid (Below w.heap.size w W) → W.cell? ⟨b, o + k * 4, none⟩ = some (.int .i64 m.f) ∧ W.cell? ⟨b, o + k * 4 + 1, none⟩ = some (.int .i64 m.t) ∧ W.cell? ⟨b, o + k * 4 + 2, none⟩ = some (.string m.d) ∧ W.cell? ⟨b, o + k * 4 + 3, none⟩ = some (.bool m.s)) := Lib.hid fun W hB =>
      ⟨(hB.out.cell (by exact hb)).trans m0, (hB.out.cell (by exact hb)).trans m1, (hB.out.cell (by exact hb)).trans m2, (hB.out.cell (by exact hb)).trans m3⟩
    have hk1 : (0 : Int) ≤ (k : Int) := by omega
    have hk2 : (k : Int) < (p.m.length : Int) := by omega
    clear he hi hA m0 m1 m2 m3 hc hm hL
    unfold mailV at HAr
    unfold pv at HAr HL ⊢
    generalize p.m.length = n at *
    generalize Pst.arrives p m = ar at *
    go_enter Try.func14, Try.ntmps14
    go_wp2_with (refine wpList_lp rfl _ rfl HP0 rfl ?_)
    refine (HL.out _ HB0.out).mono ?_; rintro e w1 ⟨A1, c1, rfl, o1, b1⟩
    rw [hsz] at o1
    have HO1 := Lib.hid (o1.alloc (.cells (pc none 0 0 fun _ => 0) 25))
    have HB1 := Lib.hid ((Lift.then2 HB0.out b1).alloc (Lift.then2 HB0.out b1).size (.cells (pc none 0 0 fun _ => 0) 25))
    have HP1 := Lib.hid ((Blk.hb HP0 b1).out.alloc (.cells (pc none 0 0 fun _ => 0) 25))
    have HR1 := Lib.hid ((Blk.hb HR0 b1).out.alloc (.cells (pc none 0 0 fun _ => 0) 25))
    have HN1 := Lib.hid ((Blk.hb HN0 b1).out.alloc (.cells (pc none 0 0 fun _ => 0) 25))
    have HQ1 := Lib.hid (Blk.new w1 25 (pc none 0 0 fun _ => 0))
    have hs1 := b1.size
    rw [hsz] at hs1
    clear b1 o1 HL HP0 HR0 HB0 HN0 hsz
    go_wp2_with (refine wpList_sp rfl _ _ rfl HQ1 rfl rfl (Nat.le_trans (by omega) hs1 : w.heap.size ≤ w1.heap.size) ?_)
    intro w2 HS
    have hw2 : w1.heap.size < w2.heap.size := by rw [HS.out.size]; simp
    have HB2 := Lib.hid (below_turns HB1.out HS.out.turns (Nat.le_refl _))
    have HO2 := Lib.hid (HO1.out.turned ne_mp HS.out.turns)
    have HP2 := Lib.hid (HS.out.far HP1.out (by omega))
    have HR2 := Lib.hid (HS.out.far HR1.out (by omega))
    have HN2 := Lib.hid (HS.out.far HN1.out (by omega))
    have HQ2 := Lib.hid HS.out.blk
    obtain ⟨x0, x1⟩ := Blk.one HP2 0 (v := .slice (some ⟨b, o, none⟩) n c) rfl
    obtain ⟨m0, m1, m2, m3⟩ := HMs.out _ HB2
    have HB3 : Hid (Below w.heap.size w (w2.alloc (.cells #[.int .i64 m.f, .int .i64 m.t, .string m.d, .bool m.s] 27)).drew) := Lib.hid (HB2.out.alloc HB2.out.size _).drew
    have HO3 : Hid (mailLay.Own (w.heap.size + 3) (w2.alloc (.cells #[.int .i64 m.f, .int .i64 m.t, .string m.d, .bool m.s] 27)).drew _ _) := Lib.hid (HO2.out.alloc _).drew
    have HP3 : Hid (Blk (w2.alloc (.cells #[.int .i64 m.f, .int .i64 m.t, .string m.d, .bool m.s] 27)).drew w.heap.size 25 _) := Lib.hid (HP2.out.alloc _)
    have HQ3 : Hid (Blk (w2.alloc (.cells #[.int .i64 m.f, .int .i64 m.t, .string m.d, .bool m.s] 27)).drew w1.heap.size 25 _) := Lib.hid (HQ2.out.alloc _)
    have HR3 : Hid (Blk (w2.alloc (.cells #[.int .i64 m.f, .int .i64 m.t, .string m.d, .bool m.s] 27)).drew (w.heap.size + 1) 25 _) := Lib.hid (HR2.out.alloc _)
    have HN3 : Hid (Blk (w2.alloc (.cells #[.int .i64 m.f, .int .i64 m.t, .string m.d, .bool m.s] 27)).drew (w.heap.size + 2) 27 _) := Lib.hid (HN2.out.alloc _)
    have HM3 : Hid (Blk (w2.alloc (.cells #[.int .i64 m.f, .int .i64 m.t, .string m.d, .bool m.s] 27)).drew w2.heap.size 27 (mc m)) := Lib.hid (Blk.new w2 _ _)
    have hw2s := HB2.out.size
    clear HS HO1 HR1 HN1 HQ1 HB1 HP1 HP2 HR2 HN2 HQ2 HO2 HB2
    generalize hln : q.m.length = ln at *
    have HLN := Lib.hid hln
    clear hln
    go_wp2_with fail
    refine wp_region_held_drew (S := (fun W => Hid (Blk W w.heap.size 25 (pc (some ⟨b, o, none⟩) n c p.s)) ∧ Hid (Blk W w1.heap.size 25 (pc A1 ln c1 q.s)) ∧ Hid (Blk W w2.heap.size 27 (mc m)))) (by kernel_rfl) ?_ (fun hHeld => ?_)
    · (try dsimp only); exact ⟨HP3, HQ3, HM3⟩
    refine wpAnyH_take (i := 0) (oi := ⟨some 27, _, _, _, _, _⟩) (v := ?_) rfl (by kernel_rfl) (by kernel_rfl) (by kernel_rfl) (fun _ _ _ h => h) (Or.inl ⟨by rfl, ?_⟩) (by assumption) ?_
    rotate_left
    · (intro w hSw; refine Eq.trans (exec_lp hSw.2.1 (by rfl) (by rfl)) ?_; with_reducible rfl)
    try simp only [Act.put, List.setIfInBounds_toArray, List.set_cons_zero, List.set_cons_succ]
    refine wpAnyH_take (i := 1) (oi := ⟨some 28, _, _, _, _, _⟩) (v := ?_) rfl (by kernel_rfl) (by kernel_rfl) (by kernel_rfl) (fun _ _ _ h => h) (Or.inl ⟨by rfl, ?_⟩) (by assumption) ?_
    rotate_left
    · (intro w hSw; refine Eq.trans (exec_lm hSw.2.2 (by rfl) (by rfl)) ?_; with_reducible rfl)
    try simp only [Act.put, List.setIfInBounds_toArray, List.set_cons_zero, List.set_cons_succ]
    refine wpAnyH_take (i := 2) (oi := ⟨some 29, _, _, _, _, _⟩) (v := ?_) rfl (by kernel_rfl) (by kernel_rfl) (by kernel_rfl) (fun _ _ _ h => h) (Or.inl ⟨by rfl, ?_⟩) (by assumption) ?_
    rotate_left
    · (intro w hSw; refine Eq.trans (exec_lp hSw.1 (by rfl) (by rfl)) ?_; with_reducible rfl)
    try simp only [Act.put, List.setIfInBounds_toArray, List.set_cons_zero, List.set_cons_succ]
    refine wpAnyH_take (i := 3) (oi := ⟨some 30, _, _, _, _, _⟩) (v := ?_) rfl (by kernel_rfl) (by kernel_rfl) (by kernel_rfl) (fun _ _ _ h => h) (Or.inl ⟨by rfl, ?_⟩) (by assumption) ?_
    rotate_left
    · (intro w hSw; refine Eq.trans (exec_lm hSw.2.2 (by rfl) (by rfl)) ?_; with_reducible rfl)
    try simp only [Act.put, List.setIfInBounds_toArray, List.set_cons_zero, List.set_cons_succ]
    refine wpAnyH_ready (rs := [4]) (by kernel_rfl) (by simp) ?_
    refine AllReadyH.cons (o := ⟨some 31, _, _, _, _, _⟩) rfl (fun K hK => ?_) AllReadyH.nil
    go_simp
    go_at_call 28
    refine (HAr.out _).mono ?_; rintro e w4 ⟨rfl, b4⟩; have HB4 := Lib.hid (Lift.then2 HB3.out b4); have HO4 := Lib.hid (HO3.out.below b4); have HR4 := Blk.hb HR3 b4; have HN4 := Blk.hb HN3 b4; have hs := And.intro (Blk.hb hHeld.1 b4) (And.intro (Blk.hb hHeld.2.1 b4) (Blk.hb hHeld.2.2 b4)); clear b4
    refine hK.out _ _ hs (fun hHeld => ?_)
    clear hK K
    try simp only [Act.put, List.setIfInBounds_toArray, List.set_cons_zero, List.set_cons_succ]
    refine wpAnyH_ready (rs := [5]) (by kernel_rfl) (by simp) ?_
    refine AllReadyH.cons (o := ⟨none, _, _, _, _, _⟩) rfl (fun K hK => ?_) AllReadyH.nil
    refine step_sp (by rfl) (.tmp 4) (.tmp 27) (by rfl) HR4 (by rfl) (by rfl) (Nat.le_add_right w.heap.size 1) ?_; intro w5 HS5; have hs := And.intro (Lib.hid (HS5.out.far hHeld.1.out (by omega))) (And.intro (Lib.hid (HS5.out.far hHeld.2.1.out (by omega))) (Lib.hid (HS5.out.far hHeld.2.2.out (by omega)))); have HN5 := Lib.hid (HS5.out.far HN4.out (by omega)); have HB5 := Lib.hid (below_turns HB4.out HS5.out.turns (Nat.le_refl _)); have HO5 := Lib.hid (HO4.out.turned ne_mp HS5.out.turns)
    refine hK.out _ _ hs (fun hHeld => ?_)
    clear hK K
    try simp only [Act.put]
    refine wpAnyH_ready (rs := [6]) (by kernel_rfl) (by simp) ?_
    refine AllReadyH.cons (o := ⟨none, _, _, _, _, _⟩) rfl (fun K hK => ?_) AllReadyH.nil
    refine step_sm (by rfl) (.tmp 5) (.tmp 28) (by rfl) Pst.noMail m HN5 (by rfl) (by rfl) (Nat.le_add_right w.heap.size 2) ?_; intro w6 HS6; have hs := And.intro (Lib.hid (HS6.out.far hHeld.1.out (by omega))) (And.intro (Lib.hid (HS6.out.far hHeld.2.1.out (by omega))) (Lib.hid (HS6.out.far hHeld.2.2.out (by omega))))
    refine hK.out _ _ hs (fun hHeld => ?_)
    clear hK K
    try simp only [Act.put]
    refine wpAnyH_take (i := 7) (oi := ⟨some 6, _, _, _, _, _⟩) (v := ?_) rfl (by kernel_rfl) (by kernel_rfl) (by kernel_rfl) (fun _ _ _ h => h) (Or.inl ⟨by rfl, ?_⟩) (by assumption) ?_
    rotate_left
    · (intro w hSw; (try dsimp only at hSw); go_simp; try with_reducible rfl)
    try simp only [Act.put, List.setIfInBounds_toArray, List.set_cons_zero, List.set_cons_succ]
    refine wpAnyH_take (i := 8) (oi := ⟨some 7, _, _, _, _, _⟩) (v := ?_) rfl (by kernel_rfl) (by kernel_rfl) (by kernel_rfl) (fun _ _ _ h => h) (Or.inl ⟨by rfl, ?_⟩) (by assumption) ?_
    rotate_left
    · (intro w hSw; (try dsimp only at hSw); go_simp; try with_reducible rfl)
    try simp only [Act.put, List.setIfInBounds_toArray, List.set_cons_zero, List.set_cons_succ]
    refine wpAnyH_done (by kernel_rfl) ?_ _
    go_wp2_with fail
    refine ret_pmbe Try.results14 rfl rfl rfl rfl rfl (HS6.out.far HS5.out.blk (by omega)) HS6.out.blk ?_
    rw [HE.out]
    have ho := HO5.out.far HS6.out (by omega)
    rw [← HLN.out] at ho
    exact ⟨A1, c1, by rw [HLN.out]; rfl, .inl (ho.mono (Nat.le_add_right _ 3)), below_turns HB5.out HS6.out.turns (Nat.le_refl _)⟩
end Go.Proofs.Ytkajnmlglgjocaa
