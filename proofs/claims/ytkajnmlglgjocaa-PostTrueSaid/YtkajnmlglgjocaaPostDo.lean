/-
  What the law's do returns: any call of the program.
  No condition but that the messages are no more than the form's reach, and what is mixed in is a byte.
-/
import Derived.Test.YtkajnmlglgjocaaPostMove
import Derived.Test.YtkajnmlglgjocaaPostSpoil
import Derived.WalkKit
import Derived.WalkSpells
import Derived.WalkLawsBesides
import Derived.Handy
import Derived.Deep.QuietTactic
import Derived.BigQuiet
import Derived.Deep.RegionWith
import Derived.Deep.RegionHeld3
import Derived.Deep.Draws
import Derived.Lib.Hide
import Derived.Lib.LazyBuf
namespace Go.Proofs.Ytkajnmlglgjocaa
open Go.RowKit


theorem step_k (o : Pst.Op) : o.k = 1 ∨ o.k = 2 ∨ o.k = 3 ∨ o.k = 4 ∨ o.k = 5 ∨ o.k = 6 ∨ ((o.k == 1) = false ∧ (o.k == 2) = false ∧ (o.k == 3) = false ∧ (o.k == 4) = false ∧ (o.k == 5) = false ∧ (o.k == 6) = false) := by
  by_cases h1 : o.k = 1
  · exact .inl h1
  by_cases h2 : o.k = 2
  · exact .inr (.inl h2)
  by_cases h3 : o.k = 3
  · exact .inr (.inr (.inl h3))
  by_cases h4 : o.k = 4
  · exact .inr (.inr (.inr (.inl h4)))
  by_cases h5 : o.k = 5
  · exact .inr (.inr (.inr (.inr (.inl h5))))
  by_cases h6 : o.k = 6
  · exact .inr (.inr (.inr (.inr (.inr (.inl h6)))))
  exact .inr (.inr (.inr (.inr (.inr (.inr ⟨by simpa using h1, by simpa using h2, by simpa using h3, by simpa using h4, by simpa using h5, by simpa using h6⟩)))))
theorem step_1 (p : Pst.P) (o : Pst.Op) (h : o.k = 1) : Pst.step p o = ((Pst.send p o.m).1, Pst.noMail, false, (Pst.send p o.m).2) := by unfold Pst.step; rw [if_pos h]
theorem step_2 (p : Pst.P) (o : Pst.Op) (h : o.k = 2) : Pst.step p o = Pst.take p o.i := by unfold Pst.step; rw [if_neg (by omega), if_pos h]
theorem step_3 (p : Pst.P) (o : Pst.Op) (h : o.k = 3) : Pst.step p o = ((Pst.lose p o.i).1, Pst.noMail, false, (Pst.lose p o.i).2) := by unfold Pst.step; rw [if_neg (by omega), if_neg (by omega), if_pos h]
theorem step_4 (p : Pst.P) (o : Pst.Op) (h : o.k = 4) : Pst.step p o = ((Pst.twice p o.i).1, Pst.noMail, false, (Pst.twice p o.i).2) := by unfold Pst.step; rw [if_neg (by omega), if_neg (by omega), if_neg (by omega), if_pos h]
theorem step_5 (p : Pst.P) (o : Pst.Op) (h : o.k = 5) : Pst.step p o = ((Pst.spoil p o.i o.n o.b).1, Pst.noMail, false, (Pst.spoil p o.i o.n o.b).2) := by unfold Pst.step; rw [if_neg (by omega), if_neg (by omega), if_neg (by omega), if_neg (by omega), if_pos h]
theorem step_6 (p : Pst.P) (o : Pst.Op) (h : o.k = 6) : Pst.step p o = ((Pst.move p o.i o.n).1, Pst.noMail, false, (Pst.move p o.i o.n).2) := by unfold Pst.step; rw [if_neg (by omega), if_neg (by omega), if_neg (by omega), if_neg (by omega), if_neg (by omega), if_pos h]
theorem step_0 (p : Pst.P) (o : Pst.Op) (h : (o.k == 1) = false ∧ (o.k == 2) = false ∧ (o.k == 3) = false ∧ (o.k == 4) = false ∧ (o.k == 5) = false ∧ (o.k == 6) = false) : Pst.step p o = (p, Pst.noMail, false, 0) := by
  simp only [beq_eq_false_iff_ne] at h
  obtain ⟨h1, h2, h3, h4, h5, h6⟩ := h
  unfold Pst.step
  rw [if_neg h1, if_neg h2, if_neg h3, if_neg h4, if_neg h5, if_neg h6]
/-- The five blocks that do and ref make. -/
structure DK (w : World) (pcs : Array Value) (W : World) : Prop where
  p : Blk W w.heap.size 25 pcs
  r : Blk W (w.heap.size + 2) 25 (pc none 0 0 fun _ => 0)
  q : Blk W (w.heap.size + 3) 27 (mc Pst.noMail)
  m : Blk W (w.heap.size + 4) 27 (mc Pst.noMail)
  b : Below w.heap.size w W
  z : w.heap.size + 5 ≤ W.heap.size
theorem DK.below {w W W' : World} {pcs : Array Value} (h : DK w pcs W) (hb : Below W.heap.size W W') : DK w pcs W' :=
  have hz := h.z
  ⟨h.p.below hb (by omega), h.r.below hb (by omega), h.q.below hb (by omega), h.m.below hb (by omega), Lift.then2 h.b hb, Nat.le_trans hz hb.size⟩
theorem DK.drew {w W : World} {pcs : Array Value} (h : DK w pcs W) : DK w pcs W.drew := ⟨h.p, h.r, h.q, h.m, h.b.drew, h.z⟩
theorem DK.new (w : World) (pcs ocs : Array Value) : DK w pcs (((((w.alloc (.cells pcs 25)).alloc (.cells ocs 29)).alloc (.cells (pc none 0 0 fun _ => 0) 25)).alloc (.cells (mc Pst.noMail) 27)).alloc (.cells (mc Pst.noMail) 27)) := by
  obtain ⟨HP, _, HR, HB, hs⟩ := made3 w 25 pcs 29 ocs 25 (pc none 0 0 fun _ => 0)
  obtain ⟨HQ, HM, HB2, hs2⟩ := made2 (((w.alloc (.cells pcs 25)).alloc (.cells ocs 29)).alloc (.cells (pc none 0 0 fun _ => 0) 25)) 27 (mc Pst.noMail) 27 (mc Pst.noMail)
  rw [hs] at HQ HM hs2
  exact ⟨(Blk.hb HP HB2.out).out, (Blk.hb HR HB2.out).out, HQ.out, HM.out, Lift.then2 HB.out HB2.out, by omega⟩
set_option maxRecDepth 100000 in
set_option maxHeartbeats 6400000 in
theorem do_any (A : Option Addr) (c : Nat) (p : Pst.P) (o : Pst.Op) (w : World) (hl : p.m.length ≤ 5000000000000) (hi : mailLay.Reads w w.heap.size A p.m) (hA : A = none → p.m = []) (hcap : p.m.length ≤ c) (hb : 0 ≤ o.b ∧ o.b < 256) :
    Calls Try.prog 8 #[pv A p.m.length c p.s, opV o] w (IsTX A c p.m (Pst.step p o) w) := by
  have HX1 : Hid (∀ W, Below w.heap.size w W → Calls Try.prog 13 #[pv A p.m.length c p.s, mailV o.m] W (IsPX A c p.m (Pst.send p o.m) W)) := Lib.hid fun W hW => (send_any A p.m.length c p o.m W rfl hl (hi.later hW (Nat.le_refl _)) hA).mono fun _ _ h => h.px
  have HX2 : Hid (∀ W, Below w.heap.size w W → Calls Try.prog 14 #[pv A p.m.length c p.s, .int .i64 o.i] W (IsTX A c p.m (Pst.take p o.i) W)) := Lib.hid fun W hW => take_any A c p o.i W hl (hi.later hW (Nat.le_refl _)) hA hcap
  have HX3 : Hid (∀ W, Below w.heap.size w W → Calls Try.prog 15 #[pv A p.m.length c p.s, .int .i64 o.i] W (IsPX A c p.m (Pst.lose p o.i) W)) := Lib.hid fun W hW => (lose_any A c p o.i W hl (hi.later hW (Nat.le_refl _)) hA hcap).mono fun _ _ h => h.px
  have HX4 : Hid (∀ W, Below w.heap.size w W → Calls Try.prog 16 #[pv A p.m.length c p.s, .int .i64 o.i] W (IsPX A c p.m (Pst.twice p o.i) W)) := Lib.hid fun W hW => (twice_any A c p o.i W hl (hi.later hW (Nat.le_refl _)) hA).mono fun _ _ h => h.px
  have HX5 : Hid (∀ W, Below w.heap.size w W → Calls Try.prog 17 #[pv A p.m.length c p.s, .int .i64 o.i, .int .i64 o.n, .int .u8 o.b] W (IsPX A c p.m (Pst.spoil p o.i o.n o.b) W)) := Lib.hid fun W hW => (spoil_any A p.m.length c p o.i o.n o.b W rfl hl (hi.later hW (Nat.le_refl _)) hA hb).mono fun _ _ h => h.px
  have HX6 : Hid (∀ W, Below w.heap.size w W → Calls Try.prog 18 #[pv A p.m.length c p.s, .int .i64 o.i, .int .i64 o.n] W (IsPX A c p.m (Pst.move p o.i o.n) W)) := Lib.hid fun W hW => (move_any A p.m.length c p o.i o.n W rfl hl (hi.later hW (Nat.le_refl _)) hA).mono fun _ _ h => h.px
  clear hi hA hcap
  rcases step_k o with hk | hk | hk | hk | hk | hk | hk
  · have HE := Lib.hid (step_1 p o hk)
    have HX := HX1
    clear HX1 HX2 HX3 HX4 HX5 HX6
    obtain ⟨ok, oi, on, ob, ⟨mf, mt, md, ms⟩⟩ := o
    simp only at hk HE HX hb
    subst hk
    generalize Pst.send p ⟨mf, mt, md, ms⟩ = r at *
    obtain ⟨q, er⟩ := r
    simp only at HE
    unfold IsPX at HX
    simp only at HX
    unfold pv opV
    simp only [pv, mailV] at HX
    obtain HD0 := Lib.hid (DK.new w (pc A p.m.length c p.s) #[.int .i64 1, .int .i64 oi, .int .i64 on, .int .u8 ob, .int .i64 mf, .int .i64 mt, .string md, .bool ms])
    have HP0 := Lib.hid HD0.out.p
    have hsz : w.heap.size + 5 ≤ _ := HD0.out.z
    go_enter Try.func8, Try.ntmps8
    go_wp2_with (refine wpList_lp rfl _ rfl HP0 rfl ?_)
    refine (HX.out _ HD0.out.b).mono ?_; rintro e w1 ⟨A1, c1, rfl, o1, b1⟩
    have HD1 := Lib.hid (HD0.out.below b1)
    have HO1 := Lib.hid (o1.imp (fun h => h.mono hsz) id)
    have HP1 := Lib.hid HD1.out.p
    clear o1 b1 hsz HX HP0 HD0
    go_wp2_with (refine wpList_sp rfl _ _ rfl HP1 rfl rfl (Nat.le_refl w.heap.size) ?_)
    intro w2 HS
    have HO2 := Lib.hid (HO1.out.imp (fun h => h.turned ne_mp HS.out.turns) id)
    have HPd : Hid (Blk w2.drew w.heap.size 25 _) := Lib.hid HS.out.blk
    have HRd : Hid (Blk w2.drew (w.heap.size + 2) 25 _) := Lib.hid (HS.out.far HD1.out.r (by omega))
    have HNd : Hid (Blk w2.drew (w.heap.size + 3) 27 _) := Lib.hid (HS.out.far HD1.out.q (by omega))
    have HMd : Hid (Blk w2.drew (w.heap.size + 4) 27 _) := Lib.hid (HS.out.far HD1.out.m (by omega))
    have HBd : Hid (Below w.heap.size w w2.drew) := Lib.hid (below_turns HD1.out.b HS.out.turns (Nat.le_refl _)).drew
    have HOd : Hid (mailLay.Own (w.heap.size + 5) w2.drew (.slice A1 q.m.length c1) q.m ∨ (A1 = A ∧ c1 = c ∧ q.m = p.m)) := Lib.hid HO2.out
    clear HO1 HO2 HP1 HD1 HS
    have HSo : Hid (∀ W, Hid (Blk W w.heap.size 25 (pc A1 q.m.length c1 q.s)) → Hid (Blk W (w.heap.size + 4) 27 (mc Pst.noMail)) → Hid (Blk W w.heap.size 25 (pc A1 q.m.length c1 q.s)) ∧ Hid (Blk W (w.heap.size + 4) 27 (mc Pst.noMail))) := Lib.hid fun W h h' => ⟨h, h'⟩
    go_wp2_with fail
    refine wp_region_held_drew (S := (fun W => Hid (Blk W w.heap.size 25 (pc A1 q.m.length c1 q.s)) ∧ Hid (Blk W (w.heap.size + 4) 27 (mc Pst.noMail)))) (by kernel_rfl) ?_ (fun hHeld => ?_)
    · (try dsimp only); exact ⟨HPd, HMd⟩
    refine wpAnyH_take (i := 0) (oi := ⟨some 75, _, _, _, _, _⟩) (v := ?_) rfl (by kernel_rfl) (by kernel_rfl) (by kernel_rfl) (fun _ _ _ h => h) (Or.inl ⟨by rfl, ?_⟩) (by assumption) ?_
    rotate_left
    · (intro w hSw; refine Eq.trans (exec_lp hSw.1 (by rfl) (by rfl)) ?_; with_reducible rfl)
    try simp only [Act.put, List.setIfInBounds_toArray, List.set_cons_zero, List.set_cons_succ]
    refine wpAnyH_take (i := 1) (oi := ⟨some 76, _, _, _, _, _⟩) (v := ?_) rfl (by kernel_rfl) (by kernel_rfl) (by kernel_rfl) (fun _ _ _ h => h) (Or.inl ⟨by rfl, ?_⟩) (by assumption) ?_
    rotate_left
    · (intro w hSw; refine Eq.trans (exec_lm hSw.2 (by rfl) (by rfl)) ?_; with_reducible rfl)
    try simp only [Act.put, List.setIfInBounds_toArray, List.set_cons_zero, List.set_cons_succ]
    refine wpAnyH_take (i := 2) (oi := ⟨some 77, _, _, _, _, _⟩) (v := ?_) rfl (by kernel_rfl) (by kernel_rfl) (by kernel_rfl) (fun _ _ _ h => h) (Or.inl ⟨by rfl, ?_⟩) (by assumption) ?_
    rotate_left
    · (intro w hSw; (try dsimp only at hSw); go_simp; try with_reducible rfl)
    try simp only [Act.put, List.setIfInBounds_toArray, List.set_cons_zero, List.set_cons_succ]
    refine wpAnyH_take (i := 3) (oi := ⟨some 78, _, _, _, _, _⟩) (v := ?_) rfl (by kernel_rfl) (by kernel_rfl) (by kernel_rfl) (fun _ _ _ h => h) (Or.inl ⟨by rfl, ?_⟩) (by assumption) ?_
    rotate_left
    · (intro w hSw; (try dsimp only at hSw); go_simp; try with_reducible rfl)
    try simp only [Act.put, List.setIfInBounds_toArray, List.set_cons_zero, List.set_cons_succ]
    refine wpAnyH_ready (rs := [4]) (by kernel_rfl) (by simp) ?_
    refine AllReadyH.cons (o := ⟨none, _, _, _, _, _⟩) rfl (fun K hK => ?_) AllReadyH.nil
    refine step_sp (by rfl) (.tmp 4) (.tmp 75) (by rfl) HRd (by rfl) (by rfl) (Nat.le_add_right w.heap.size 2) ?_; intro w8 HS8; have hs := HSo.out _ (Lib.hid (HS8.out.far hHeld.1.out (by omega))) (Lib.hid (HS8.out.far hHeld.2.out (by omega))); have HN8 := Lib.hid (HS8.out.far HNd.out (by omega)); have HB8 := Lib.hid (below_turns HBd.out HS8.out.turns (Nat.le_refl _))
    refine hK.out _ _ hs (fun hHeld => ?_)
    clear hK K
    try simp only [Act.put]
    refine wpAnyH_ready (rs := [5]) (by kernel_rfl) (by simp) ?_
    refine AllReadyH.cons (o := ⟨none, _, _, _, _, _⟩) rfl (fun K hK => ?_) AllReadyH.nil
    refine step_sm (by rfl) (.tmp 5) (.tmp 76) (by rfl) Pst.noMail Pst.noMail HN8 (by rfl) (by rfl) (Nat.le_add_right w.heap.size 3) ?_; intro w9 HS9; have hs := HSo.out _ (Lib.hid (HS9.out.far hHeld.1.out (by omega))) (Lib.hid (HS9.out.far hHeld.2.out (by omega))); have HB9 := Lib.hid (below_turns HB8.out HS9.out.turns (Nat.le_refl _))
    refine hK.out _ _ hs (fun hHeld => ?_)
    clear hK K
    try simp only [Act.put]
    refine wpAnyH_take (i := 6) (oi := ⟨some 6, _, _, _, _, _⟩) (v := ?_) rfl (by kernel_rfl) (by kernel_rfl) (by kernel_rfl) (fun _ _ _ h => h) (Or.inl ⟨by rfl, ?_⟩) (by assumption) ?_
    rotate_left
    · (intro w hSw; (try dsimp only at hSw); go_simp; try with_reducible rfl)
    try simp only [Act.put, List.setIfInBounds_toArray, List.set_cons_zero, List.set_cons_succ]
    refine wpAnyH_take (i := 7) (oi := ⟨some 7, _, _, _, _, _⟩) (v := ?_) rfl (by kernel_rfl) (by kernel_rfl) (by kernel_rfl) (fun _ _ _ h => h) (Or.inl ⟨by rfl, ?_⟩) (by assumption) ?_
    rotate_left
    · (intro w hSw; (try dsimp only at hSw); go_simp; try with_reducible rfl)
    try simp only [Act.put, List.setIfInBounds_toArray, List.set_cons_zero, List.set_cons_succ]
    refine wpAnyH_done (by kernel_rfl) ?_ _
    go_wp2_with fail
    refine ret_pmbe Try.results8 rfl rfl rfl rfl rfl (HS9.out.far HS8.out.blk (by omega)) HS9.out.blk ?_
    rw [HE.out]
    exact ⟨A1, c1, rfl, HOd.out.imp (fun (h : mailLay.Own (w.heap.size + 5) _ _ _) => ((h.turned ne_mp HS8.out.turns).far HS9.out (by omega)).mono (Nat.le_add_right _ 5)) id, HB9.out⟩
  · have HE := Lib.hid (step_2 p o hk)
    have HX := HX2
    clear HX1 HX2 HX3 HX4 HX5 HX6
    obtain ⟨ok, oi, on, ob, ⟨mf, mt, md, ms⟩⟩ := o
    simp only at hk HE HX hb
    subst hk
    generalize Pst.take p oi = r at *
    obtain ⟨q, mm, ar, er⟩ := r
    unfold IsTX at HX
    simp only at HX
    unfold pv opV
    simp only [pv, mailV] at HX
    obtain HD0 := Lib.hid (DK.new w (pc A p.m.length c p.s) #[.int .i64 2, .int .i64 oi, .int .i64 on, .int .u8 ob, .int .i64 mf, .int .i64 mt, .string md, .bool ms])
    have HP0 := Lib.hid HD0.out.p
    have hsz : w.heap.size + 5 ≤ _ := HD0.out.z
    go_enter Try.func8, Try.ntmps8
    go_wp2_with (refine wpList_lp rfl _ rfl HP0 rfl ?_)
    refine (HX.out _ HD0.out.b).mono ?_; rintro e w1 ⟨A1, c1, rfl, o1, b1⟩
    have HD1 := Lib.hid (HD0.out.below b1)
    have HO1 := Lib.hid (o1.imp (fun h => h.mono hsz) id)
    have HP1 := Lib.hid HD1.out.p
    clear o1 b1 hsz HX HP0 HD0
    go_wp2_with (refine wpList_sp rfl _ _ rfl HP1 rfl rfl (Nat.le_refl w.heap.size) ?_)
    intro w2 HS
    have HO2 := Lib.hid (HO1.out.imp (fun h => h.turned ne_mp HS.out.turns) id)
    have HM2 := Lib.hid (HS.out.far HD1.out.m (by omega))
    go_wp2_with (refine wpList_sm (m' := mm) rfl _ _ rfl HM2 rfl rfl (Nat.le_add_right w.heap.size 4) ?_)
    intro w3 HT
    have HPd : Hid (Blk w3.drew w.heap.size 25 _) := Lib.hid (HT.out.far HS.out.blk (by omega))
    have HRd : Hid (Blk w3.drew (w.heap.size + 2) 25 _) := Lib.hid (HT.out.far (HS.out.far HD1.out.r (by omega)) (by omega))
    have HNd : Hid (Blk w3.drew (w.heap.size + 3) 27 _) := Lib.hid (HT.out.far (HS.out.far HD1.out.q (by omega)) (by omega))
    have HMd : Hid (Blk w3.drew (w.heap.size + 4) 27 _) := Lib.hid HT.out.blk
    have HBd : Hid (Below w.heap.size w w3.drew) := Lib.hid (below_turns (below_turns HD1.out.b HS.out.turns (Nat.le_refl _)) HT.out.turns (Nat.le_refl _)).drew
    have HOd : Hid (mailLay.Own (w.heap.size + 5) w3.drew (.slice A1 q.m.length c1) q.m ∨ (A1 = A ∧ c1 = c ∧ q.m = p.m)) := Lib.hid (by
      rcases HO2.out with h | h
      · exact .inl (Lay.Own.drew (h.far HT.out (by omega)))
      · exact .inr h)
    clear HO1 HO2 HP1 HD1 HS HT HM2
    have HSo : Hid (∀ W, Hid (Blk W w.heap.size 25 (pc A1 q.m.length c1 q.s)) → Hid (Blk W (w.heap.size + 4) 27 (mc mm)) → Hid (Blk W w.heap.size 25 (pc A1 q.m.length c1 q.s)) ∧ Hid (Blk W (w.heap.size + 4) 27 (mc mm))) := Lib.hid fun W h h' => ⟨h, h'⟩
    go_wp2_with fail
    refine wp_region_held_drew (S := (fun W => Hid (Blk W w.heap.size 25 (pc A1 q.m.length c1 q.s)) ∧ Hid (Blk W (w.heap.size + 4) 27 (mc mm)))) (by kernel_rfl) ?_ (fun hHeld => ?_)
    · (try dsimp only); exact ⟨HPd, HMd⟩
    refine wpAnyH_take (i := 0) (oi := ⟨some 75, _, _, _, _, _⟩) (v := ?_) rfl (by kernel_rfl) (by kernel_rfl) (by kernel_rfl) (fun _ _ _ h => h) (Or.inl ⟨by rfl, ?_⟩) (by assumption) ?_
    rotate_left
    · (intro w hSw; refine Eq.trans (exec_lp hSw.1 (by rfl) (by rfl)) ?_; with_reducible rfl)
    try simp only [Act.put, List.setIfInBounds_toArray, List.set_cons_zero, List.set_cons_succ]
    refine wpAnyH_take (i := 1) (oi := ⟨some 76, _, _, _, _, _⟩) (v := ?_) rfl (by kernel_rfl) (by kernel_rfl) (by kernel_rfl) (fun _ _ _ h => h) (Or.inl ⟨by rfl, ?_⟩) (by assumption) ?_
    rotate_left
    · (intro w hSw; refine Eq.trans (exec_lm hSw.2 (by rfl) (by rfl)) ?_; with_reducible rfl)
    try simp only [Act.put, List.setIfInBounds_toArray, List.set_cons_zero, List.set_cons_succ]
    refine wpAnyH_take (i := 2) (oi := ⟨some 77, _, _, _, _, _⟩) (v := ?_) rfl (by kernel_rfl) (by kernel_rfl) (by kernel_rfl) (fun _ _ _ h => h) (Or.inl ⟨by rfl, ?_⟩) (by assumption) ?_
    rotate_left
    · (intro w hSw; (try dsimp only at hSw); go_simp; try with_reducible rfl)
    try simp only [Act.put, List.setIfInBounds_toArray, List.set_cons_zero, List.set_cons_succ]
    refine wpAnyH_take (i := 3) (oi := ⟨some 78, _, _, _, _, _⟩) (v := ?_) rfl (by kernel_rfl) (by kernel_rfl) (by kernel_rfl) (fun _ _ _ h => h) (Or.inl ⟨by rfl, ?_⟩) (by assumption) ?_
    rotate_left
    · (intro w hSw; (try dsimp only at hSw); go_simp; try with_reducible rfl)
    try simp only [Act.put, List.setIfInBounds_toArray, List.set_cons_zero, List.set_cons_succ]
    refine wpAnyH_ready (rs := [4]) (by kernel_rfl) (by simp) ?_
    refine AllReadyH.cons (o := ⟨none, _, _, _, _, _⟩) rfl (fun K hK => ?_) AllReadyH.nil
    refine step_sp (by rfl) (.tmp 4) (.tmp 75) (by rfl) HRd (by rfl) (by rfl) (Nat.le_add_right w.heap.size 2) ?_; intro w8 HS8; have hs := HSo.out _ (Lib.hid (HS8.out.far hHeld.1.out (by omega))) (Lib.hid (HS8.out.far hHeld.2.out (by omega))); have HN8 := Lib.hid (HS8.out.far HNd.out (by omega)); have HB8 := Lib.hid (below_turns HBd.out HS8.out.turns (Nat.le_refl _))
    refine hK.out _ _ hs (fun hHeld => ?_)
    clear hK K
    try simp only [Act.put]
    refine wpAnyH_ready (rs := [5]) (by kernel_rfl) (by simp) ?_
    refine AllReadyH.cons (o := ⟨none, _, _, _, _, _⟩) rfl (fun K hK => ?_) AllReadyH.nil
    refine step_sm (by rfl) (.tmp 5) (.tmp 76) (by rfl) Pst.noMail mm HN8 (by rfl) (by rfl) (Nat.le_add_right w.heap.size 3) ?_; intro w9 HS9; have hs := HSo.out _ (Lib.hid (HS9.out.far hHeld.1.out (by omega))) (Lib.hid (HS9.out.far hHeld.2.out (by omega))); have HB9 := Lib.hid (below_turns HB8.out HS9.out.turns (Nat.le_refl _))
    refine hK.out _ _ hs (fun hHeld => ?_)
    clear hK K
    try simp only [Act.put]
    refine wpAnyH_take (i := 6) (oi := ⟨some 6, _, _, _, _, _⟩) (v := ?_) rfl (by kernel_rfl) (by kernel_rfl) (by kernel_rfl) (fun _ _ _ h => h) (Or.inl ⟨by rfl, ?_⟩) (by assumption) ?_
    rotate_left
    · (intro w hSw; (try dsimp only at hSw); go_simp; try with_reducible rfl)
    try simp only [Act.put, List.setIfInBounds_toArray, List.set_cons_zero, List.set_cons_succ]
    refine wpAnyH_take (i := 7) (oi := ⟨some 7, _, _, _, _, _⟩) (v := ?_) rfl (by kernel_rfl) (by kernel_rfl) (by kernel_rfl) (fun _ _ _ h => h) (Or.inl ⟨by rfl, ?_⟩) (by assumption) ?_
    rotate_left
    · (intro w hSw; (try dsimp only at hSw); go_simp; try with_reducible rfl)
    try simp only [Act.put, List.setIfInBounds_toArray, List.set_cons_zero, List.set_cons_succ]
    refine wpAnyH_done (by kernel_rfl) ?_ _
    go_wp2_with fail
    refine ret_pmbe Try.results8 rfl rfl rfl rfl rfl (HS9.out.far HS8.out.blk (by omega)) HS9.out.blk ?_
    rw [HE.out]
    exact ⟨A1, c1, rfl, HOd.out.imp (fun (h : mailLay.Own (w.heap.size + 5) _ _ _) => ((h.turned ne_mp HS8.out.turns).far HS9.out (by omega)).mono (Nat.le_add_right _ 5)) id, HB9.out⟩
  · have HE := Lib.hid (step_3 p o hk)
    have HX := HX3
    clear HX1 HX2 HX3 HX4 HX5 HX6
    obtain ⟨ok, oi, on, ob, ⟨mf, mt, md, ms⟩⟩ := o
    simp only at hk HE HX hb
    subst hk
    generalize Pst.lose p oi = r at *
    obtain ⟨q, er⟩ := r
    simp only at HE
    unfold IsPX at HX
    simp only at HX
    unfold pv opV
    simp only [pv] at HX
    obtain HD0 := Lib.hid (DK.new w (pc A p.m.length c p.s) #[.int .i64 3, .int .i64 oi, .int .i64 on, .int .u8 ob, .int .i64 mf, .int .i64 mt, .string md, .bool ms])
    have HP0 := Lib.hid HD0.out.p
    have hsz : w.heap.size + 5 ≤ _ := HD0.out.z
    go_enter Try.func8, Try.ntmps8
    go_wp2_with (refine wpList_lp rfl _ rfl HP0 rfl ?_)
    refine (HX.out _ HD0.out.b).mono ?_; rintro e w1 ⟨A1, c1, rfl, o1, b1⟩
    have HD1 := Lib.hid (HD0.out.below b1)
    have HO1 := Lib.hid (o1.imp (fun h => h.mono hsz) id)
    have HP1 := Lib.hid HD1.out.p
    clear o1 b1 hsz HX HP0 HD0
    go_wp2_with (refine wpList_sp rfl _ _ rfl HP1 rfl rfl (Nat.le_refl w.heap.size) ?_)
    intro w2 HS
    have HO2 := Lib.hid (HO1.out.imp (fun h => h.turned ne_mp HS.out.turns) id)
    have HPd : Hid (Blk w2.drew w.heap.size 25 _) := Lib.hid HS.out.blk
    have HRd : Hid (Blk w2.drew (w.heap.size + 2) 25 _) := Lib.hid (HS.out.far HD1.out.r (by omega))
    have HNd : Hid (Blk w2.drew (w.heap.size + 3) 27 _) := Lib.hid (HS.out.far HD1.out.q (by omega))
    have HMd : Hid (Blk w2.drew (w.heap.size + 4) 27 _) := Lib.hid (HS.out.far HD1.out.m (by omega))
    have HBd : Hid (Below w.heap.size w w2.drew) := Lib.hid (below_turns HD1.out.b HS.out.turns (Nat.le_refl _)).drew
    have HOd : Hid (mailLay.Own (w.heap.size + 5) w2.drew (.slice A1 q.m.length c1) q.m ∨ (A1 = A ∧ c1 = c ∧ q.m = p.m)) := Lib.hid HO2.out
    clear HO1 HO2 HP1 HD1 HS
    have HSo : Hid (∀ W, Hid (Blk W w.heap.size 25 (pc A1 q.m.length c1 q.s)) → Hid (Blk W (w.heap.size + 4) 27 (mc Pst.noMail)) → Hid (Blk W w.heap.size 25 (pc A1 q.m.length c1 q.s)) ∧ Hid (Blk W (w.heap.size + 4) 27 (mc Pst.noMail))) := Lib.hid fun W h h' => ⟨h, h'⟩
    go_wp2_with fail
    refine wp_region_held_drew (S := (fun W => Hid (Blk W w.heap.size 25 (pc A1 q.m.length c1 q.s)) ∧ Hid (Blk W (w.heap.size + 4) 27 (mc Pst.noMail)))) (by kernel_rfl) ?_ (fun hHeld => ?_)
    · (try dsimp only); exact ⟨HPd, HMd⟩
    refine wpAnyH_take (i := 0) (oi := ⟨some 75, _, _, _, _, _⟩) (v := ?_) rfl (by kernel_rfl) (by kernel_rfl) (by kernel_rfl) (fun _ _ _ h => h) (Or.inl ⟨by rfl, ?_⟩) (by assumption) ?_
    rotate_left
    · (intro w hSw; refine Eq.trans (exec_lp hSw.1 (by rfl) (by rfl)) ?_; with_reducible rfl)
    try simp only [Act.put, List.setIfInBounds_toArray, List.set_cons_zero, List.set_cons_succ]
    refine wpAnyH_take (i := 1) (oi := ⟨some 76, _, _, _, _, _⟩) (v := ?_) rfl (by kernel_rfl) (by kernel_rfl) (by kernel_rfl) (fun _ _ _ h => h) (Or.inl ⟨by rfl, ?_⟩) (by assumption) ?_
    rotate_left
    · (intro w hSw; refine Eq.trans (exec_lm hSw.2 (by rfl) (by rfl)) ?_; with_reducible rfl)
    try simp only [Act.put, List.setIfInBounds_toArray, List.set_cons_zero, List.set_cons_succ]
    refine wpAnyH_take (i := 2) (oi := ⟨some 77, _, _, _, _, _⟩) (v := ?_) rfl (by kernel_rfl) (by kernel_rfl) (by kernel_rfl) (fun _ _ _ h => h) (Or.inl ⟨by rfl, ?_⟩) (by assumption) ?_
    rotate_left
    · (intro w hSw; (try dsimp only at hSw); go_simp; try with_reducible rfl)
    try simp only [Act.put, List.setIfInBounds_toArray, List.set_cons_zero, List.set_cons_succ]
    refine wpAnyH_take (i := 3) (oi := ⟨some 78, _, _, _, _, _⟩) (v := ?_) rfl (by kernel_rfl) (by kernel_rfl) (by kernel_rfl) (fun _ _ _ h => h) (Or.inl ⟨by rfl, ?_⟩) (by assumption) ?_
    rotate_left
    · (intro w hSw; (try dsimp only at hSw); go_simp; try with_reducible rfl)
    try simp only [Act.put, List.setIfInBounds_toArray, List.set_cons_zero, List.set_cons_succ]
    refine wpAnyH_ready (rs := [4]) (by kernel_rfl) (by simp) ?_
    refine AllReadyH.cons (o := ⟨none, _, _, _, _, _⟩) rfl (fun K hK => ?_) AllReadyH.nil
    refine step_sp (by rfl) (.tmp 4) (.tmp 75) (by rfl) HRd (by rfl) (by rfl) (Nat.le_add_right w.heap.size 2) ?_; intro w8 HS8; have hs := HSo.out _ (Lib.hid (HS8.out.far hHeld.1.out (by omega))) (Lib.hid (HS8.out.far hHeld.2.out (by omega))); have HN8 := Lib.hid (HS8.out.far HNd.out (by omega)); have HB8 := Lib.hid (below_turns HBd.out HS8.out.turns (Nat.le_refl _))
    refine hK.out _ _ hs (fun hHeld => ?_)
    clear hK K
    try simp only [Act.put]
    refine wpAnyH_ready (rs := [5]) (by kernel_rfl) (by simp) ?_
    refine AllReadyH.cons (o := ⟨none, _, _, _, _, _⟩) rfl (fun K hK => ?_) AllReadyH.nil
    refine step_sm (by rfl) (.tmp 5) (.tmp 76) (by rfl) Pst.noMail Pst.noMail HN8 (by rfl) (by rfl) (Nat.le_add_right w.heap.size 3) ?_; intro w9 HS9; have hs := HSo.out _ (Lib.hid (HS9.out.far hHeld.1.out (by omega))) (Lib.hid (HS9.out.far hHeld.2.out (by omega))); have HB9 := Lib.hid (below_turns HB8.out HS9.out.turns (Nat.le_refl _))
    refine hK.out _ _ hs (fun hHeld => ?_)
    clear hK K
    try simp only [Act.put]
    refine wpAnyH_take (i := 6) (oi := ⟨some 6, _, _, _, _, _⟩) (v := ?_) rfl (by kernel_rfl) (by kernel_rfl) (by kernel_rfl) (fun _ _ _ h => h) (Or.inl ⟨by rfl, ?_⟩) (by assumption) ?_
    rotate_left
    · (intro w hSw; (try dsimp only at hSw); go_simp; try with_reducible rfl)
    try simp only [Act.put, List.setIfInBounds_toArray, List.set_cons_zero, List.set_cons_succ]
    refine wpAnyH_take (i := 7) (oi := ⟨some 7, _, _, _, _, _⟩) (v := ?_) rfl (by kernel_rfl) (by kernel_rfl) (by kernel_rfl) (fun _ _ _ h => h) (Or.inl ⟨by rfl, ?_⟩) (by assumption) ?_
    rotate_left
    · (intro w hSw; (try dsimp only at hSw); go_simp; try with_reducible rfl)
    try simp only [Act.put, List.setIfInBounds_toArray, List.set_cons_zero, List.set_cons_succ]
    refine wpAnyH_done (by kernel_rfl) ?_ _
    go_wp2_with fail
    refine ret_pmbe Try.results8 rfl rfl rfl rfl rfl (HS9.out.far HS8.out.blk (by omega)) HS9.out.blk ?_
    rw [HE.out]
    exact ⟨A1, c1, rfl, HOd.out.imp (fun (h : mailLay.Own (w.heap.size + 5) _ _ _) => ((h.turned ne_mp HS8.out.turns).far HS9.out (by omega)).mono (Nat.le_add_right _ 5)) id, HB9.out⟩
  · have HE := Lib.hid (step_4 p o hk)
    have HX := HX4
    clear HX1 HX2 HX3 HX4 HX5 HX6
    obtain ⟨ok, oi, on, ob, ⟨mf, mt, md, ms⟩⟩ := o
    simp only at hk HE HX hb
    subst hk
    generalize Pst.twice p oi = r at *
    obtain ⟨q, er⟩ := r
    simp only at HE
    unfold IsPX at HX
    simp only at HX
    unfold pv opV
    simp only [pv] at HX
    obtain HD0 := Lib.hid (DK.new w (pc A p.m.length c p.s) #[.int .i64 4, .int .i64 oi, .int .i64 on, .int .u8 ob, .int .i64 mf, .int .i64 mt, .string md, .bool ms])
    have HP0 := Lib.hid HD0.out.p
    have hsz : w.heap.size + 5 ≤ _ := HD0.out.z
    go_enter Try.func8, Try.ntmps8
    go_wp2_with (refine wpList_lp rfl _ rfl HP0 rfl ?_)
    refine (HX.out _ HD0.out.b).mono ?_; rintro e w1 ⟨A1, c1, rfl, o1, b1⟩
    have HD1 := Lib.hid (HD0.out.below b1)
    have HO1 := Lib.hid (o1.imp (fun h => h.mono hsz) id)
    have HP1 := Lib.hid HD1.out.p
    clear o1 b1 hsz HX HP0 HD0
    go_wp2_with (refine wpList_sp rfl _ _ rfl HP1 rfl rfl (Nat.le_refl w.heap.size) ?_)
    intro w2 HS
    have HO2 := Lib.hid (HO1.out.imp (fun h => h.turned ne_mp HS.out.turns) id)
    have HPd : Hid (Blk w2.drew w.heap.size 25 _) := Lib.hid HS.out.blk
    have HRd : Hid (Blk w2.drew (w.heap.size + 2) 25 _) := Lib.hid (HS.out.far HD1.out.r (by omega))
    have HNd : Hid (Blk w2.drew (w.heap.size + 3) 27 _) := Lib.hid (HS.out.far HD1.out.q (by omega))
    have HMd : Hid (Blk w2.drew (w.heap.size + 4) 27 _) := Lib.hid (HS.out.far HD1.out.m (by omega))
    have HBd : Hid (Below w.heap.size w w2.drew) := Lib.hid (below_turns HD1.out.b HS.out.turns (Nat.le_refl _)).drew
    have HOd : Hid (mailLay.Own (w.heap.size + 5) w2.drew (.slice A1 q.m.length c1) q.m ∨ (A1 = A ∧ c1 = c ∧ q.m = p.m)) := Lib.hid HO2.out
    clear HO1 HO2 HP1 HD1 HS
    have HSo : Hid (∀ W, Hid (Blk W w.heap.size 25 (pc A1 q.m.length c1 q.s)) → Hid (Blk W (w.heap.size + 4) 27 (mc Pst.noMail)) → Hid (Blk W w.heap.size 25 (pc A1 q.m.length c1 q.s)) ∧ Hid (Blk W (w.heap.size + 4) 27 (mc Pst.noMail))) := Lib.hid fun W h h' => ⟨h, h'⟩
    go_wp2_with fail
    refine wp_region_held_drew (S := (fun W => Hid (Blk W w.heap.size 25 (pc A1 q.m.length c1 q.s)) ∧ Hid (Blk W (w.heap.size + 4) 27 (mc Pst.noMail)))) (by kernel_rfl) ?_ (fun hHeld => ?_)
    · (try dsimp only); exact ⟨HPd, HMd⟩
    refine wpAnyH_take (i := 0) (oi := ⟨some 75, _, _, _, _, _⟩) (v := ?_) rfl (by kernel_rfl) (by kernel_rfl) (by kernel_rfl) (fun _ _ _ h => h) (Or.inl ⟨by rfl, ?_⟩) (by assumption) ?_
    rotate_left
    · (intro w hSw; refine Eq.trans (exec_lp hSw.1 (by rfl) (by rfl)) ?_; with_reducible rfl)
    try simp only [Act.put, List.setIfInBounds_toArray, List.set_cons_zero, List.set_cons_succ]
    refine wpAnyH_take (i := 1) (oi := ⟨some 76, _, _, _, _, _⟩) (v := ?_) rfl (by kernel_rfl) (by kernel_rfl) (by kernel_rfl) (fun _ _ _ h => h) (Or.inl ⟨by rfl, ?_⟩) (by assumption) ?_
    rotate_left
    · (intro w hSw; refine Eq.trans (exec_lm hSw.2 (by rfl) (by rfl)) ?_; with_reducible rfl)
    try simp only [Act.put, List.setIfInBounds_toArray, List.set_cons_zero, List.set_cons_succ]
    refine wpAnyH_take (i := 2) (oi := ⟨some 77, _, _, _, _, _⟩) (v := ?_) rfl (by kernel_rfl) (by kernel_rfl) (by kernel_rfl) (fun _ _ _ h => h) (Or.inl ⟨by rfl, ?_⟩) (by assumption) ?_
    rotate_left
    · (intro w hSw; (try dsimp only at hSw); go_simp; try with_reducible rfl)
    try simp only [Act.put, List.setIfInBounds_toArray, List.set_cons_zero, List.set_cons_succ]
    refine wpAnyH_take (i := 3) (oi := ⟨some 78, _, _, _, _, _⟩) (v := ?_) rfl (by kernel_rfl) (by kernel_rfl) (by kernel_rfl) (fun _ _ _ h => h) (Or.inl ⟨by rfl, ?_⟩) (by assumption) ?_
    rotate_left
    · (intro w hSw; (try dsimp only at hSw); go_simp; try with_reducible rfl)
    try simp only [Act.put, List.setIfInBounds_toArray, List.set_cons_zero, List.set_cons_succ]
    refine wpAnyH_ready (rs := [4]) (by kernel_rfl) (by simp) ?_
    refine AllReadyH.cons (o := ⟨none, _, _, _, _, _⟩) rfl (fun K hK => ?_) AllReadyH.nil
    refine step_sp (by rfl) (.tmp 4) (.tmp 75) (by rfl) HRd (by rfl) (by rfl) (Nat.le_add_right w.heap.size 2) ?_; intro w8 HS8; have hs := HSo.out _ (Lib.hid (HS8.out.far hHeld.1.out (by omega))) (Lib.hid (HS8.out.far hHeld.2.out (by omega))); have HN8 := Lib.hid (HS8.out.far HNd.out (by omega)); have HB8 := Lib.hid (below_turns HBd.out HS8.out.turns (Nat.le_refl _))
    refine hK.out _ _ hs (fun hHeld => ?_)
    clear hK K
    try simp only [Act.put]
    refine wpAnyH_ready (rs := [5]) (by kernel_rfl) (by simp) ?_
    refine AllReadyH.cons (o := ⟨none, _, _, _, _, _⟩) rfl (fun K hK => ?_) AllReadyH.nil
    refine step_sm (by rfl) (.tmp 5) (.tmp 76) (by rfl) Pst.noMail Pst.noMail HN8 (by rfl) (by rfl) (Nat.le_add_right w.heap.size 3) ?_; intro w9 HS9; have hs := HSo.out _ (Lib.hid (HS9.out.far hHeld.1.out (by omega))) (Lib.hid (HS9.out.far hHeld.2.out (by omega))); have HB9 := Lib.hid (below_turns HB8.out HS9.out.turns (Nat.le_refl _))
    refine hK.out _ _ hs (fun hHeld => ?_)
    clear hK K
    try simp only [Act.put]
    refine wpAnyH_take (i := 6) (oi := ⟨some 6, _, _, _, _, _⟩) (v := ?_) rfl (by kernel_rfl) (by kernel_rfl) (by kernel_rfl) (fun _ _ _ h => h) (Or.inl ⟨by rfl, ?_⟩) (by assumption) ?_
    rotate_left
    · (intro w hSw; (try dsimp only at hSw); go_simp; try with_reducible rfl)
    try simp only [Act.put, List.setIfInBounds_toArray, List.set_cons_zero, List.set_cons_succ]
    refine wpAnyH_take (i := 7) (oi := ⟨some 7, _, _, _, _, _⟩) (v := ?_) rfl (by kernel_rfl) (by kernel_rfl) (by kernel_rfl) (fun _ _ _ h => h) (Or.inl ⟨by rfl, ?_⟩) (by assumption) ?_
    rotate_left
    · (intro w hSw; (try dsimp only at hSw); go_simp; try with_reducible rfl)
    try simp only [Act.put, List.setIfInBounds_toArray, List.set_cons_zero, List.set_cons_succ]
    refine wpAnyH_done (by kernel_rfl) ?_ _
    go_wp2_with fail
    refine ret_pmbe Try.results8 rfl rfl rfl rfl rfl (HS9.out.far HS8.out.blk (by omega)) HS9.out.blk ?_
    rw [HE.out]
    exact ⟨A1, c1, rfl, HOd.out.imp (fun (h : mailLay.Own (w.heap.size + 5) _ _ _) => ((h.turned ne_mp HS8.out.turns).far HS9.out (by omega)).mono (Nat.le_add_right _ 5)) id, HB9.out⟩
  · have HE := Lib.hid (step_5 p o hk)
    have HX := HX5
    clear HX1 HX2 HX3 HX4 HX5 HX6
    obtain ⟨ok, oi, on, ob, ⟨mf, mt, md, ms⟩⟩ := o
    simp only at hk HE HX hb
    subst hk
    generalize Pst.spoil p oi on ob = r at *
    obtain ⟨q, er⟩ := r
    simp only at HE
    unfold IsPX at HX
    simp only at HX
    unfold pv opV
    simp only [pv] at HX
    obtain HD0 := Lib.hid (DK.new w (pc A p.m.length c p.s) #[.int .i64 5, .int .i64 oi, .int .i64 on, .int .u8 ob, .int .i64 mf, .int .i64 mt, .string md, .bool ms])
    have HP0 := Lib.hid HD0.out.p
    have hsz : w.heap.size + 5 ≤ _ := HD0.out.z
    go_enter Try.func8, Try.ntmps8
    go_wp2_with (refine wpList_lp rfl _ rfl HP0 rfl ?_)
    refine (HX.out _ HD0.out.b).mono ?_; rintro e w1 ⟨A1, c1, rfl, o1, b1⟩
    have HD1 := Lib.hid (HD0.out.below b1)
    have HO1 := Lib.hid (o1.imp (fun h => h.mono hsz) id)
    have HP1 := Lib.hid HD1.out.p
    clear o1 b1 hsz HX HP0 HD0
    go_wp2_with (refine wpList_sp rfl _ _ rfl HP1 rfl rfl (Nat.le_refl w.heap.size) ?_)
    intro w2 HS
    have HO2 := Lib.hid (HO1.out.imp (fun h => h.turned ne_mp HS.out.turns) id)
    have HPd : Hid (Blk w2.drew w.heap.size 25 _) := Lib.hid HS.out.blk
    have HRd : Hid (Blk w2.drew (w.heap.size + 2) 25 _) := Lib.hid (HS.out.far HD1.out.r (by omega))
    have HNd : Hid (Blk w2.drew (w.heap.size + 3) 27 _) := Lib.hid (HS.out.far HD1.out.q (by omega))
    have HMd : Hid (Blk w2.drew (w.heap.size + 4) 27 _) := Lib.hid (HS.out.far HD1.out.m (by omega))
    have HBd : Hid (Below w.heap.size w w2.drew) := Lib.hid (below_turns HD1.out.b HS.out.turns (Nat.le_refl _)).drew
    have HOd : Hid (mailLay.Own (w.heap.size + 5) w2.drew (.slice A1 q.m.length c1) q.m ∨ (A1 = A ∧ c1 = c ∧ q.m = p.m)) := Lib.hid HO2.out
    clear HO1 HO2 HP1 HD1 HS
    have HSo : Hid (∀ W, Hid (Blk W w.heap.size 25 (pc A1 q.m.length c1 q.s)) → Hid (Blk W (w.heap.size + 4) 27 (mc Pst.noMail)) → Hid (Blk W w.heap.size 25 (pc A1 q.m.length c1 q.s)) ∧ Hid (Blk W (w.heap.size + 4) 27 (mc Pst.noMail))) := Lib.hid fun W h h' => ⟨h, h'⟩
    go_wp2_with fail
    refine wp_region_held_drew (S := (fun W => Hid (Blk W w.heap.size 25 (pc A1 q.m.length c1 q.s)) ∧ Hid (Blk W (w.heap.size + 4) 27 (mc Pst.noMail)))) (by kernel_rfl) ?_ (fun hHeld => ?_)
    · (try dsimp only); exact ⟨HPd, HMd⟩
    refine wpAnyH_take (i := 0) (oi := ⟨some 75, _, _, _, _, _⟩) (v := ?_) rfl (by kernel_rfl) (by kernel_rfl) (by kernel_rfl) (fun _ _ _ h => h) (Or.inl ⟨by rfl, ?_⟩) (by assumption) ?_
    rotate_left
    · (intro w hSw; refine Eq.trans (exec_lp hSw.1 (by rfl) (by rfl)) ?_; with_reducible rfl)
    try simp only [Act.put, List.setIfInBounds_toArray, List.set_cons_zero, List.set_cons_succ]
    refine wpAnyH_take (i := 1) (oi := ⟨some 76, _, _, _, _, _⟩) (v := ?_) rfl (by kernel_rfl) (by kernel_rfl) (by kernel_rfl) (fun _ _ _ h => h) (Or.inl ⟨by rfl, ?_⟩) (by assumption) ?_
    rotate_left
    · (intro w hSw; refine Eq.trans (exec_lm hSw.2 (by rfl) (by rfl)) ?_; with_reducible rfl)
    try simp only [Act.put, List.setIfInBounds_toArray, List.set_cons_zero, List.set_cons_succ]
    refine wpAnyH_take (i := 2) (oi := ⟨some 77, _, _, _, _, _⟩) (v := ?_) rfl (by kernel_rfl) (by kernel_rfl) (by kernel_rfl) (fun _ _ _ h => h) (Or.inl ⟨by rfl, ?_⟩) (by assumption) ?_
    rotate_left
    · (intro w hSw; (try dsimp only at hSw); go_simp; try with_reducible rfl)
    try simp only [Act.put, List.setIfInBounds_toArray, List.set_cons_zero, List.set_cons_succ]
    refine wpAnyH_take (i := 3) (oi := ⟨some 78, _, _, _, _, _⟩) (v := ?_) rfl (by kernel_rfl) (by kernel_rfl) (by kernel_rfl) (fun _ _ _ h => h) (Or.inl ⟨by rfl, ?_⟩) (by assumption) ?_
    rotate_left
    · (intro w hSw; (try dsimp only at hSw); go_simp; try with_reducible rfl)
    try simp only [Act.put, List.setIfInBounds_toArray, List.set_cons_zero, List.set_cons_succ]
    refine wpAnyH_ready (rs := [4]) (by kernel_rfl) (by simp) ?_
    refine AllReadyH.cons (o := ⟨none, _, _, _, _, _⟩) rfl (fun K hK => ?_) AllReadyH.nil
    refine step_sp (by rfl) (.tmp 4) (.tmp 75) (by rfl) HRd (by rfl) (by rfl) (Nat.le_add_right w.heap.size 2) ?_; intro w8 HS8; have hs := HSo.out _ (Lib.hid (HS8.out.far hHeld.1.out (by omega))) (Lib.hid (HS8.out.far hHeld.2.out (by omega))); have HN8 := Lib.hid (HS8.out.far HNd.out (by omega)); have HB8 := Lib.hid (below_turns HBd.out HS8.out.turns (Nat.le_refl _))
    refine hK.out _ _ hs (fun hHeld => ?_)
    clear hK K
    try simp only [Act.put]
    refine wpAnyH_ready (rs := [5]) (by kernel_rfl) (by simp) ?_
    refine AllReadyH.cons (o := ⟨none, _, _, _, _, _⟩) rfl (fun K hK => ?_) AllReadyH.nil
    refine step_sm (by rfl) (.tmp 5) (.tmp 76) (by rfl) Pst.noMail Pst.noMail HN8 (by rfl) (by rfl) (Nat.le_add_right w.heap.size 3) ?_; intro w9 HS9; have hs := HSo.out _ (Lib.hid (HS9.out.far hHeld.1.out (by omega))) (Lib.hid (HS9.out.far hHeld.2.out (by omega))); have HB9 := Lib.hid (below_turns HB8.out HS9.out.turns (Nat.le_refl _))
    refine hK.out _ _ hs (fun hHeld => ?_)
    clear hK K
    try simp only [Act.put]
    refine wpAnyH_take (i := 6) (oi := ⟨some 6, _, _, _, _, _⟩) (v := ?_) rfl (by kernel_rfl) (by kernel_rfl) (by kernel_rfl) (fun _ _ _ h => h) (Or.inl ⟨by rfl, ?_⟩) (by assumption) ?_
    rotate_left
    · (intro w hSw; (try dsimp only at hSw); go_simp; try with_reducible rfl)
    try simp only [Act.put, List.setIfInBounds_toArray, List.set_cons_zero, List.set_cons_succ]
    refine wpAnyH_take (i := 7) (oi := ⟨some 7, _, _, _, _, _⟩) (v := ?_) rfl (by kernel_rfl) (by kernel_rfl) (by kernel_rfl) (fun _ _ _ h => h) (Or.inl ⟨by rfl, ?_⟩) (by assumption) ?_
    rotate_left
    · (intro w hSw; (try dsimp only at hSw); go_simp; try with_reducible rfl)
    try simp only [Act.put, List.setIfInBounds_toArray, List.set_cons_zero, List.set_cons_succ]
    refine wpAnyH_done (by kernel_rfl) ?_ _
    go_wp2_with fail
    refine ret_pmbe Try.results8 rfl rfl rfl rfl rfl (HS9.out.far HS8.out.blk (by omega)) HS9.out.blk ?_
    rw [HE.out]
    exact ⟨A1, c1, rfl, HOd.out.imp (fun (h : mailLay.Own (w.heap.size + 5) _ _ _) => ((h.turned ne_mp HS8.out.turns).far HS9.out (by omega)).mono (Nat.le_add_right _ 5)) id, HB9.out⟩
  · have HE := Lib.hid (step_6 p o hk)
    have HX := HX6
    clear HX1 HX2 HX3 HX4 HX5 HX6
    obtain ⟨ok, oi, on, ob, ⟨mf, mt, md, ms⟩⟩ := o
    simp only at hk HE HX hb
    subst hk
    generalize Pst.move p oi on = r at *
    obtain ⟨q, er⟩ := r
    simp only at HE
    unfold IsPX at HX
    simp only at HX
    unfold pv opV
    simp only [pv] at HX
    obtain HD0 := Lib.hid (DK.new w (pc A p.m.length c p.s) #[.int .i64 6, .int .i64 oi, .int .i64 on, .int .u8 ob, .int .i64 mf, .int .i64 mt, .string md, .bool ms])
    have HP0 := Lib.hid HD0.out.p
    have hsz : w.heap.size + 5 ≤ _ := HD0.out.z
    go_enter Try.func8, Try.ntmps8
    go_wp2_with (refine wpList_lp rfl _ rfl HP0 rfl ?_)
    refine (HX.out _ HD0.out.b).mono ?_; rintro e w1 ⟨A1, c1, rfl, o1, b1⟩
    have HD1 := Lib.hid (HD0.out.below b1)
    have HO1 := Lib.hid (o1.imp (fun h => h.mono hsz) id)
    have HP1 := Lib.hid HD1.out.p
    clear o1 b1 hsz HX HP0 HD0
    go_wp2_with (refine wpList_sp rfl _ _ rfl HP1 rfl rfl (Nat.le_refl w.heap.size) ?_)
    intro w2 HS
    have HO2 := Lib.hid (HO1.out.imp (fun h => h.turned ne_mp HS.out.turns) id)
    have HPd : Hid (Blk w2.drew w.heap.size 25 _) := Lib.hid HS.out.blk
    have HRd : Hid (Blk w2.drew (w.heap.size + 2) 25 _) := Lib.hid (HS.out.far HD1.out.r (by omega))
    have HNd : Hid (Blk w2.drew (w.heap.size + 3) 27 _) := Lib.hid (HS.out.far HD1.out.q (by omega))
    have HMd : Hid (Blk w2.drew (w.heap.size + 4) 27 _) := Lib.hid (HS.out.far HD1.out.m (by omega))
    have HBd : Hid (Below w.heap.size w w2.drew) := Lib.hid (below_turns HD1.out.b HS.out.turns (Nat.le_refl _)).drew
    have HOd : Hid (mailLay.Own (w.heap.size + 5) w2.drew (.slice A1 q.m.length c1) q.m ∨ (A1 = A ∧ c1 = c ∧ q.m = p.m)) := Lib.hid HO2.out
    clear HO1 HO2 HP1 HD1 HS
    have HSo : Hid (∀ W, Hid (Blk W w.heap.size 25 (pc A1 q.m.length c1 q.s)) → Hid (Blk W (w.heap.size + 4) 27 (mc Pst.noMail)) → Hid (Blk W w.heap.size 25 (pc A1 q.m.length c1 q.s)) ∧ Hid (Blk W (w.heap.size + 4) 27 (mc Pst.noMail))) := Lib.hid fun W h h' => ⟨h, h'⟩
    go_wp2_with fail
    refine wp_region_held_drew (S := (fun W => Hid (Blk W w.heap.size 25 (pc A1 q.m.length c1 q.s)) ∧ Hid (Blk W (w.heap.size + 4) 27 (mc Pst.noMail)))) (by kernel_rfl) ?_ (fun hHeld => ?_)
    · (try dsimp only); exact ⟨HPd, HMd⟩
    refine wpAnyH_take (i := 0) (oi := ⟨some 75, _, _, _, _, _⟩) (v := ?_) rfl (by kernel_rfl) (by kernel_rfl) (by kernel_rfl) (fun _ _ _ h => h) (Or.inl ⟨by rfl, ?_⟩) (by assumption) ?_
    rotate_left
    · (intro w hSw; refine Eq.trans (exec_lp hSw.1 (by rfl) (by rfl)) ?_; with_reducible rfl)
    try simp only [Act.put, List.setIfInBounds_toArray, List.set_cons_zero, List.set_cons_succ]
    refine wpAnyH_take (i := 1) (oi := ⟨some 76, _, _, _, _, _⟩) (v := ?_) rfl (by kernel_rfl) (by kernel_rfl) (by kernel_rfl) (fun _ _ _ h => h) (Or.inl ⟨by rfl, ?_⟩) (by assumption) ?_
    rotate_left
    · (intro w hSw; refine Eq.trans (exec_lm hSw.2 (by rfl) (by rfl)) ?_; with_reducible rfl)
    try simp only [Act.put, List.setIfInBounds_toArray, List.set_cons_zero, List.set_cons_succ]
    refine wpAnyH_take (i := 2) (oi := ⟨some 77, _, _, _, _, _⟩) (v := ?_) rfl (by kernel_rfl) (by kernel_rfl) (by kernel_rfl) (fun _ _ _ h => h) (Or.inl ⟨by rfl, ?_⟩) (by assumption) ?_
    rotate_left
    · (intro w hSw; (try dsimp only at hSw); go_simp; try with_reducible rfl)
    try simp only [Act.put, List.setIfInBounds_toArray, List.set_cons_zero, List.set_cons_succ]
    refine wpAnyH_take (i := 3) (oi := ⟨some 78, _, _, _, _, _⟩) (v := ?_) rfl (by kernel_rfl) (by kernel_rfl) (by kernel_rfl) (fun _ _ _ h => h) (Or.inl ⟨by rfl, ?_⟩) (by assumption) ?_
    rotate_left
    · (intro w hSw; (try dsimp only at hSw); go_simp; try with_reducible rfl)
    try simp only [Act.put, List.setIfInBounds_toArray, List.set_cons_zero, List.set_cons_succ]
    refine wpAnyH_ready (rs := [4]) (by kernel_rfl) (by simp) ?_
    refine AllReadyH.cons (o := ⟨none, _, _, _, _, _⟩) rfl (fun K hK => ?_) AllReadyH.nil
    refine step_sp (by rfl) (.tmp 4) (.tmp 75) (by rfl) HRd (by rfl) (by rfl) (Nat.le_add_right w.heap.size 2) ?_; intro w8 HS8; have hs := HSo.out _ (Lib.hid (HS8.out.far hHeld.1.out (by omega))) (Lib.hid (HS8.out.far hHeld.2.out (by omega))); have HN8 := Lib.hid (HS8.out.far HNd.out (by omega)); have HB8 := Lib.hid (below_turns HBd.out HS8.out.turns (Nat.le_refl _))
    refine hK.out _ _ hs (fun hHeld => ?_)
    clear hK K
    try simp only [Act.put]
    refine wpAnyH_ready (rs := [5]) (by kernel_rfl) (by simp) ?_
    refine AllReadyH.cons (o := ⟨none, _, _, _, _, _⟩) rfl (fun K hK => ?_) AllReadyH.nil
    refine step_sm (by rfl) (.tmp 5) (.tmp 76) (by rfl) Pst.noMail Pst.noMail HN8 (by rfl) (by rfl) (Nat.le_add_right w.heap.size 3) ?_; intro w9 HS9; have hs := HSo.out _ (Lib.hid (HS9.out.far hHeld.1.out (by omega))) (Lib.hid (HS9.out.far hHeld.2.out (by omega))); have HB9 := Lib.hid (below_turns HB8.out HS9.out.turns (Nat.le_refl _))
    refine hK.out _ _ hs (fun hHeld => ?_)
    clear hK K
    try simp only [Act.put]
    refine wpAnyH_take (i := 6) (oi := ⟨some 6, _, _, _, _, _⟩) (v := ?_) rfl (by kernel_rfl) (by kernel_rfl) (by kernel_rfl) (fun _ _ _ h => h) (Or.inl ⟨by rfl, ?_⟩) (by assumption) ?_
    rotate_left
    · (intro w hSw; (try dsimp only at hSw); go_simp; try with_reducible rfl)
    try simp only [Act.put, List.setIfInBounds_toArray, List.set_cons_zero, List.set_cons_succ]
    refine wpAnyH_take (i := 7) (oi := ⟨some 7, _, _, _, _, _⟩) (v := ?_) rfl (by kernel_rfl) (by kernel_rfl) (by kernel_rfl) (fun _ _ _ h => h) (Or.inl ⟨by rfl, ?_⟩) (by assumption) ?_
    rotate_left
    · (intro w hSw; (try dsimp only at hSw); go_simp; try with_reducible rfl)
    try simp only [Act.put, List.setIfInBounds_toArray, List.set_cons_zero, List.set_cons_succ]
    refine wpAnyH_done (by kernel_rfl) ?_ _
    go_wp2_with fail
    refine ret_pmbe Try.results8 rfl rfl rfl rfl rfl (HS9.out.far HS8.out.blk (by omega)) HS9.out.blk ?_
    rw [HE.out]
    exact ⟨A1, c1, rfl, HOd.out.imp (fun (h : mailLay.Own (w.heap.size + 5) _ _ _) => ((h.turned ne_mp HS8.out.turns).far HS9.out (by omega)).mono (Nat.le_add_right _ 5)) id, HB9.out⟩
  · have HE := Lib.hid (step_0 p o hk)
    clear HX1 HX2 HX3 HX4 HX5 HX6
    obtain ⟨ok, oi, on, ob, ⟨mf, mt, md, ms⟩⟩ := o
    simp only at hk HE hb
    obtain ⟨h1, h2, h3, h4, h5, h6⟩ := hk
    have HD0 := Lib.hid (DK.drew (DK.new w (pc A p.m.length c p.s) #[.int .i64 ok, .int .i64 oi, .int .i64 on, .int .u8 ob, .int .i64 mf, .int .i64 mt, .string md, .bool ms]))
    unfold pv opV
    go_enter Try.func8, Try.ntmps8
    have HPd := Lib.hid HD0.out.p
    have HRd := Lib.hid HD0.out.r
    have HNd := Lib.hid HD0.out.q
    have HMd := Lib.hid HD0.out.m
    have HBd := Lib.hid HD0.out.b
    have HSo : Hid (∀ W, Hid (Blk W w.heap.size 25 (pc A p.m.length c p.s)) → Hid (Blk W (w.heap.size + 4) 27 (mc Pst.noMail)) → Hid (Blk W w.heap.size 25 (pc A p.m.length c p.s)) ∧ Hid (Blk W (w.heap.size + 4) 27 (mc Pst.noMail))) := Lib.hid fun W h h' => ⟨h, h'⟩
    go_wp2_with fail
    refine wp_region_held_drew (S := (fun W => Hid (Blk W w.heap.size 25 (pc A p.m.length c p.s)) ∧ Hid (Blk W (w.heap.size + 4) 27 (mc Pst.noMail)))) (by kernel_rfl) ?_ (fun hHeld => ?_)
    · (try dsimp only); exact ⟨HPd, HMd⟩
    refine wpAnyH_take (i := 0) (oi := ⟨some 75, _, _, _, _, _⟩) (v := ?_) rfl (by kernel_rfl) (by kernel_rfl) (by kernel_rfl) (fun _ _ _ h => h) (Or.inl ⟨by rfl, ?_⟩) (by assumption) ?_
    rotate_left
    · (intro w hSw; refine Eq.trans (exec_lp hSw.1 (by rfl) (by rfl)) ?_; with_reducible rfl)
    try simp only [Act.put, List.setIfInBounds_toArray, List.set_cons_zero, List.set_cons_succ]
    refine wpAnyH_take (i := 1) (oi := ⟨some 76, _, _, _, _, _⟩) (v := ?_) rfl (by kernel_rfl) (by kernel_rfl) (by kernel_rfl) (fun _ _ _ h => h) (Or.inl ⟨by rfl, ?_⟩) (by assumption) ?_
    rotate_left
    · (intro w hSw; refine Eq.trans (exec_lm hSw.2 (by rfl) (by rfl)) ?_; with_reducible rfl)
    try simp only [Act.put, List.setIfInBounds_toArray, List.set_cons_zero, List.set_cons_succ]
    refine wpAnyH_take (i := 2) (oi := ⟨some 77, _, _, _, _, _⟩) (v := ?_) rfl (by kernel_rfl) (by kernel_rfl) (by kernel_rfl) (fun _ _ _ h => h) (Or.inl ⟨by rfl, ?_⟩) (by assumption) ?_
    rotate_left
    · (intro w hSw; (try dsimp only at hSw); go_simp; try with_reducible rfl)
    try simp only [Act.put, List.setIfInBounds_toArray, List.set_cons_zero, List.set_cons_succ]
    refine wpAnyH_take (i := 3) (oi := ⟨some 78, _, _, _, _, _⟩) (v := ?_) rfl (by kernel_rfl) (by kernel_rfl) (by kernel_rfl) (fun _ _ _ h => h) (Or.inl ⟨by rfl, ?_⟩) (by assumption) ?_
    rotate_left
    · (intro w hSw; (try dsimp only at hSw); go_simp; try with_reducible rfl)
    try simp only [Act.put, List.setIfInBounds_toArray, List.set_cons_zero, List.set_cons_succ]
    refine wpAnyH_ready (rs := [4]) (by kernel_rfl) (by simp) ?_
    refine AllReadyH.cons (o := ⟨none, _, _, _, _, _⟩) rfl (fun K hK => ?_) AllReadyH.nil
    refine step_sp (by rfl) (.tmp 4) (.tmp 75) (by rfl) HRd (by rfl) (by rfl) (Nat.le_add_right w.heap.size 2) ?_; intro w8 HS8; have hs := HSo.out _ (Lib.hid (HS8.out.far hHeld.1.out (by omega))) (Lib.hid (HS8.out.far hHeld.2.out (by omega))); have HN8 := Lib.hid (HS8.out.far HNd.out (by omega)); have HB8 := Lib.hid (below_turns HBd.out HS8.out.turns (Nat.le_refl _))
    refine hK.out _ _ hs (fun hHeld => ?_)
    clear hK K
    try simp only [Act.put]
    refine wpAnyH_ready (rs := [5]) (by kernel_rfl) (by simp) ?_
    refine AllReadyH.cons (o := ⟨none, _, _, _, _, _⟩) rfl (fun K hK => ?_) AllReadyH.nil
    refine step_sm (by rfl) (.tmp 5) (.tmp 76) (by rfl) Pst.noMail Pst.noMail HN8 (by rfl) (by rfl) (Nat.le_add_right w.heap.size 3) ?_; intro w9 HS9; have hs := HSo.out _ (Lib.hid (HS9.out.far hHeld.1.out (by omega))) (Lib.hid (HS9.out.far hHeld.2.out (by omega))); have HB9 := Lib.hid (below_turns HB8.out HS9.out.turns (Nat.le_refl _))
    refine hK.out _ _ hs (fun hHeld => ?_)
    clear hK K
    try simp only [Act.put]
    refine wpAnyH_take (i := 6) (oi := ⟨some 6, _, _, _, _, _⟩) (v := ?_) rfl (by kernel_rfl) (by kernel_rfl) (by kernel_rfl) (fun _ _ _ h => h) (Or.inl ⟨by rfl, ?_⟩) (by assumption) ?_
    rotate_left
    · (intro w hSw; (try dsimp only at hSw); go_simp; try with_reducible rfl)
    try simp only [Act.put, List.setIfInBounds_toArray, List.set_cons_zero, List.set_cons_succ]
    refine wpAnyH_take (i := 7) (oi := ⟨some 7, _, _, _, _, _⟩) (v := ?_) rfl (by kernel_rfl) (by kernel_rfl) (by kernel_rfl) (fun _ _ _ h => h) (Or.inl ⟨by rfl, ?_⟩) (by assumption) ?_
    rotate_left
    · (intro w hSw; (try dsimp only at hSw); go_simp; try with_reducible rfl)
    try simp only [Act.put, List.setIfInBounds_toArray, List.set_cons_zero, List.set_cons_succ]
    refine wpAnyH_done (by kernel_rfl) ?_ _
    go_wp2_with fail
    refine ret_pmbe Try.results8 rfl rfl rfl rfl rfl (HS9.out.far HS8.out.blk (by omega)) HS9.out.blk ?_
    rw [HE.out]
    exact ⟨A, c, rfl, .inr ⟨rfl, rfl, rfl⟩, HB9.out⟩
end Go.Proofs.Ytkajnmlglgjocaa
