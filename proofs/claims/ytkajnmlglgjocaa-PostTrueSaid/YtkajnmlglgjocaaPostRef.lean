/-
  What the law's ref returns: any call as the document has it.
  No condition but that the messages are no more than the form's reach, and what is mixed in is a byte.
-/
import Derived.Test.YtkajnmlglgjocaaPostDo
import Derived.Test.YtkajnmlglgjocaaPostRSend
import Derived.Test.YtkajnmlglgjocaaPostRTwice
import Derived.Test.YtkajnmlglgjocaaPostRSpoil
import Derived.WalkKit
import Derived.WalkSpells
import Derived.WalkLawsBesides
import Derived.Handy
import Derived.Deep.QuietTactic
import Derived.BigQuiet
import Derived.Deep.RegionWith
import Derived.Deep.RegionHeld3
import Derived.Deep.Draws
import Derived.Lib.Hide
import Derived.Lib.LazyBuf
namespace Go.Proofs.Ytkajnmlglgjocaa
open Go.RowKit


set_option maxRecDepth 100000 in
set_option maxHeartbeats 6400000 in
theorem ref_any (A : Option Addr) (c : Nat) (p : Pst.P) (o : Pst.Op) (w : World) (hl : p.m.length ≤ 5000000000000) (hi : mailLay.Reads w w.heap.size A p.m) (hA : A = none → p.m = []) (hcap : p.m.length ≤ c) (hb : 0 ≤ o.b ∧ o.b < 256) :
    Calls Try.prog 9 #[pv A p.m.length c p.s, opV o] w (IsTX A c p.m (Pst.step p o) w) := by
  have HX1 : Hid (∀ W, Below w.heap.size w W → Calls Try.prog 19 #[pv A p.m.length c p.s, mailV o.m] W (IsPX A c p.m (Pst.send p o.m) W)) := Lib.hid fun W hW => rsend_any A c p o.m W hl (hi.later hW (Nat.le_refl _)) hA hcap
  have HX2 : Hid (∀ W, Below w.heap.size w W → Calls Try.prog 20 #[pv A p.m.length c p.s, .int .i64 o.i] W (IsTX A c p.m (Pst.take p o.i) W)) := Lib.hid fun W hW => rtake_x A c p o.i W hl (hi.later hW (Nat.le_refl _)) hA hcap
  have HX3 : Hid (∀ W, Below w.heap.size w W → Calls Try.prog 21 #[pv A p.m.length c p.s, .int .i64 o.i] W (IsPX A c p.m (Pst.lose p o.i) W)) := Lib.hid fun W hW => rlose_any A c p o.i W hl (hi.later hW (Nat.le_refl _)) hA hcap
  have HX4 : Hid (∀ W, Below w.heap.size w W → Calls Try.prog 22 #[pv A p.m.length c p.s, .int .i64 o.i] W (IsPX A c p.m (Pst.twice p o.i) W)) := Lib.hid fun W hW => rtwice_any A c p o.i W hl (hi.later hW (Nat.le_refl _)) hA hcap
  have HX5 : Hid (∀ W, Below w.heap.size w W → Calls Try.prog 23 #[pv A p.m.length c p.s, .int .i64 o.i, .int .i64 o.n, .int .u8 o.b] W (IsPX A c p.m (Pst.spoil p o.i o.n o.b) W)) := Lib.hid fun W hW => rspoil_any A c p o.i o.n o.b W hl (hi.later hW (Nat.le_refl _)) hA hcap hb
  have HX6 : Hid (∀ W, Below w.heap.size w W → Calls Try.prog 24 #[pv A p.m.length c p.s, .int .i64 o.i, .int .i64 o.n] W (IsPX A c p.m (Pst.move p o.i o.n) W)) := Lib.hid fun W hW => rmove_any A c p o.i o.n W (hi.later hW (Nat.le_refl _)) hA hcap
  clear hi hA hcap
  rcases step_k o with hk | hk | hk | hk | hk | hk | hk
  · have HE := Lib.hid (step_1 p o hk)
    have HX := HX1
    clear HX1 HX2 HX3 HX4 HX5 HX6
    obtain ⟨ok, oi, on, ob, ⟨mf, mt, md, ms⟩⟩ := o
    simp only at hk HE HX hb
    subst hk
    generalize Pst.send p ⟨mf, mt, md, ms⟩ = r at *
    obtain ⟨q, er⟩ := r
    simp only at HE
    unfold IsPX at HX
    simp only at HX
    unfold pv opV
    simp only [pv, mailV] at HX
    obtain HD0 := Lib.hid (DK.new w (pc A p.m.length c p.s) #[.int .i64 1, .int .i64 oi, .int .i64 on, .int .u8 ob, .int .i64 mf, .int .i64 mt, .string md, .bool ms])
    have HP0 := Lib.hid HD0.out.p
    have hsz : w.heap.size + 5 ≤ _ := HD0.out.z
    go_enter Try.func9, Try.ntmps9
    go_wp2_with (refine wpList_lp rfl _ rfl HP0 rfl ?_)
    refine (HX.out _ HD0.out.b).mono ?_; rintro e w1 ⟨A1, c1, rfl, o1, b1⟩
    have HD1 := Lib.hid (HD0.out.below b1)
    have HO1 := Lib.hid (o1.imp (fun h => h.mono hsz) id)
    have HP1 := Lib.hid HD1.out.p
    clear o1 b1 hsz HX HP0 HD0
    go_wp2_with (refine wpList_sp rfl _ _ rfl HP1 rfl rfl (Nat.le_refl w.heap.size) ?_)
    intro w2 HS
    have HO2 := Lib.hid (HO1.out.imp (fun h => h.turned ne_mp HS.out.turns) id)
    have HPd : Hid (Blk w2.drew w.heap.size 25 _) := Lib.hid HS.out.blk
    have HRd : Hid (Blk w2.drew (w.heap.size + 2) 25 _) := Lib.hid (HS.out.far HD1.out.r (by omega))
    have HNd : Hid (Blk w2.drew (w.heap.size + 3) 27 _) := Lib.hid (HS.out.far HD1.out.q (by omega))
    have HMd : Hid (Blk w2.drew (w.heap.size + 4) 27 _) := Lib.hid (HS.out.far HD1.out.m (by omega))
    have HBd : Hid (Below w.heap.size w w2.drew) := Lib.hid (below_turns HD1.out.b HS.out.turns (Nat.le_refl _)).drew
    have HOd : Hid (mailLay.Own (w.heap.size + 5) w2.drew (.slice A1 q.m.length c1) q.m ∨ (A1 = A ∧ c1 = c ∧ q.m = p.m)) := Lib.hid HO2.out
    clear HO1 HO2 HP1 HD1 HS
    have HSo : Hid (∀ W, Hid (Blk W w.heap.size 25 (pc A1 q.m.length c1 q.s)) → Hid (Blk W (w.heap.size + 4) 27 (mc Pst.noMail)) → Hid (Blk W w.heap.size 25 (pc A1 q.m.length c1 q.s)) ∧ Hid (Blk W (w.heap.size + 4) 27 (mc Pst.noMail))) := Lib.hid fun W h h' => ⟨h, h'⟩
    go_wp2_with fail
    refine wp_region_held_drew (S := (fun W => Hid (Blk W w.heap.size 25 (pc A1 q.m.length c1 q.s)) ∧ Hid (Blk W (w.heap.size + 4) 27 (mc Pst.noMail)))) (by kernel_rfl) ?_ (fun hHeld => ?_)
    · (try dsimp only); exact ⟨HPd, HMd⟩
    refine wpAnyH_take (i := 0) (oi := ⟨some 75, _, _, _, _, _⟩) (v := ?_) rfl (by kernel_rfl) (by kernel_rfl) (by kernel_rfl) (fun _ _ _ h => h) (Or.inl ⟨by rfl, ?_⟩) (by assumption) ?_
    rotate_left
    · (intro w hSw; refine Eq.trans (exec_lp hSw.1 (by rfl) (by rfl)) ?_; with_reducible rfl)
    try simp only [Act.put, List.setIfInBounds_toArray, List.set_cons_zero, List.set_cons_succ]
    refine wpAnyH_take (i := 1) (oi := ⟨some 76, _, _, _, _, _⟩) (v := ?_) rfl (by kernel_rfl) (by kernel_rfl) (by kernel_rfl) (fun _ _ _ h => h) (Or.inl ⟨by rfl, ?_⟩) (by assumption) ?_
    rotate_left
    · (intro w hSw; refine Eq.trans (exec_lm hSw.2 (by rfl) (by rfl)) ?_; with_reducible rfl)
    try simp only [Act.put, List.setIfInBounds_toArray, List.set_cons_zero, List.set_cons_succ]
    refine wpAnyH_take (i := 2) (oi := ⟨some 77, _, _, _, _, _⟩) (v := ?_) rfl (by kernel_rfl) (by kernel_rfl) (by kernel_rfl) (fun _ _ _ h => h) (Or.inl ⟨by rfl, ?_⟩) (by assumption) ?_
    rotate_left
    · (intro w hSw; (try dsimp only at hSw); go_simp; try with_reducible rfl)
    try simp only [Act.put, List.setIfInBounds_toArray, List.set_cons_zero, List.set_cons_succ]
    refine wpAnyH_take (i := 3) (oi := ⟨some 78, _, _, _, _, _⟩) (v := ?_) rfl (by kernel_rfl) (by kernel_rfl) (by kernel_rfl) (fun _ _ _ h => h) (Or.inl ⟨by rfl, ?_⟩) (by assumption) ?_
    rotate_left
    · (intro w hSw; (try dsimp only at hSw); go_simp; try with_reducible rfl)
    try simp only [Act.put, List.setIfInBounds_toArray, List.set_cons_zero, List.set_cons_succ]
    refine wpAnyH_ready (rs := [4]) (by kernel_rfl) (by simp) ?_
    refine AllReadyH.cons (o := ⟨none, _, _, _, _, _⟩) rfl (fun K hK => ?_) AllReadyH.nil
    refine step_sp (by rfl) (.tmp 4) (.tmp 75) (by rfl) HRd (by rfl) (by rfl) (Nat.le_add_right w.heap.size 2) ?_; intro w8 HS8; have hs := HSo.out _ (Lib.hid (HS8.out.far hHeld.1.out (by omega))) (Lib.hid (HS8.out.far hHeld.2.out (by omega))); have HN8 := Lib.hid (HS8.out.far HNd.out (by omega)); have HB8 := Lib.hid (below_turns HBd.out HS8.out.turns (Nat.le_refl _))
    refine hK.out _ _ hs (fun hHeld => ?_)
    clear hK K
    try simp only [Act.put]
    refine wpAnyH_ready (rs := [5]) (by kernel_rfl) (by simp) ?_
    refine AllReadyH.cons (o := ⟨none, _, _, _, _, _⟩) rfl (fun K hK => ?_) AllReadyH.nil
    refine step_sm (by rfl) (.tmp 5) (.tmp 76) (by rfl) Pst.noMail Pst.noMail HN8 (by rfl) (by rfl) (Nat.le_add_right w.heap.size 3) ?_; intro w9 HS9; have hs := HSo.out _ (Lib.hid (HS9.out.far hHeld.1.out (by omega))) (Lib.hid (HS9.out.far hHeld.2.out (by omega))); have HB9 := Lib.hid (below_turns HB8.out HS9.out.turns (Nat.le_refl _))
    refine hK.out _ _ hs (fun hHeld => ?_)
    clear hK K
    try simp only [Act.put]
    refine wpAnyH_take (i := 6) (oi := ⟨some 6, _, _, _, _, _⟩) (v := ?_) rfl (by kernel_rfl) (by kernel_rfl) (by kernel_rfl) (fun _ _ _ h => h) (Or.inl ⟨by rfl, ?_⟩) (by assumption) ?_
    rotate_left
    · (intro w hSw; (try dsimp only at hSw); go_simp; try with_reducible rfl)
    try simp only [Act.put, List.setIfInBounds_toArray, List.set_cons_zero, List.set_cons_succ]
    refine wpAnyH_take (i := 7) (oi := ⟨some 7, _, _, _, _, _⟩) (v := ?_) rfl (by kernel_rfl) (by kernel_rfl) (by kernel_rfl) (fun _ _ _ h => h) (Or.inl ⟨by rfl, ?_⟩) (by assumption) ?_
    rotate_left
    · (intro w hSw; (try dsimp only at hSw); go_simp; try with_reducible rfl)
    try simp only [Act.put, List.setIfInBounds_toArray, List.set_cons_zero, List.set_cons_succ]
    refine wpAnyH_done (by kernel_rfl) ?_ _
    go_wp2_with fail
    refine ret_pmbe Try.results9 rfl rfl rfl rfl rfl (HS9.out.far HS8.out.blk (by omega)) HS9.out.blk ?_
    rw [HE.out]
    exact ⟨A1, c1, rfl, HOd.out.imp (fun (h : mailLay.Own (w.heap.size + 5) _ _ _) => ((h.turned ne_mp HS8.out.turns).far HS9.out (by omega)).mono (Nat.le_add_right _ 5)) id, HB9.out⟩
  · have HE := Lib.hid (step_2 p o hk)
    have HX := HX2
    clear HX1 HX2 HX3 HX4 HX5 HX6
    obtain ⟨ok, oi, on, ob, ⟨mf, mt, md, ms⟩⟩ := o
    simp only at hk HE HX hb
    subst hk
    generalize Pst.take p oi = r at *
    obtain ⟨q, mm, ar, er⟩ := r
    unfold IsTX at HX
    simp only at HX
    unfold pv opV
    simp only [pv, mailV] at HX
    obtain HD0 := Lib.hid (DK.new w (pc A p.m.length c p.s) #[.int .i64 2, .int .i64 oi, .int .i64 on, .int .u8 ob, .int .i64 mf, .int .i64 mt, .string md, .bool ms])
    have HP0 := Lib.hid HD0.out.p
    have hsz : w.heap.size + 5 ≤ _ := HD0.out.z
    go_enter Try.func9, Try.ntmps9
    go_wp2_with (refine wpList_lp rfl _ rfl HP0 rfl ?_)
    refine (HX.out _ HD0.out.b).mono ?_; rintro e w1 ⟨A1, c1, rfl, o1, b1⟩
    have HD1 := Lib.hid (HD0.out.below b1)
    have HO1 := Lib.hid (o1.imp (fun h => h.mono hsz) id)
    have HP1 := Lib.hid HD1.out.p
    clear o1 b1 hsz HX HP0 HD0
    go_wp2_with (refine wpList_sp rfl _ _ rfl HP1 rfl rfl (Nat.le_refl w.heap.size) ?_)
    intro w2 HS
    have HO2 := Lib.hid (HO1.out.imp (fun h => h.turned ne_mp HS.out.turns) id)
    have HM2 := Lib.hid (HS.out.far HD1.out.m (by omega))
    go_wp2_with (refine wpList_sm (m' := mm) rfl _ _ rfl HM2 rfl rfl (Nat.le_add_right w.heap.size 4) ?_)
    intro w3 HT
    have HPd : Hid (Blk w3.drew w.heap.size 25 _) := Lib.hid (HT.out.far HS.out.blk (by omega))
    have HRd : Hid (Blk w3.drew (w.heap.size + 2) 25 _) := Lib.hid (HT.out.far (HS.out.far HD1.out.r (by omega)) (by omega))
    have HNd : Hid (Blk w3.drew (w.heap.size + 3) 27 _) := Lib.hid (HT.out.far (HS.out.far HD1.out.q (by omega)) (by omega))
    have HMd : Hid (Blk w3.drew (w.heap.size + 4) 27 _) := Lib.hid HT.out.blk
    have HBd : Hid (Below w.heap.size w w3.drew) := Lib.hid (below_turns (below_turns HD1.out.b HS.out.turns (Nat.le_refl _)) HT.out.turns (Nat.le_refl _)).drew
    have HOd : Hid (mailLay.Own (w.heap.size + 5) w3.drew (.slice A1 q.m.length c1) q.m ∨ (A1 = A ∧ c1 = c ∧ q.m = p.m)) := Lib.hid (by
      rcases HO2.out with h | h
      · exact .inl (Lay.Own.drew (h.far HT.out (by omega)))
      · exact .inr h)
    clear HO1 HO2 HP1 HD1 HS HT HM2
    have HSo : Hid (∀ W, Hid (Blk W w.heap.size 25 (pc A1 q.m.length c1 q.s)) → Hid (Blk W (w.heap.size + 4) 27 (mc mm)) → Hid (Blk W w.heap.size 25 (pc A1 q.m.length c1 q.s)) ∧ Hid (Blk W (w.heap.size + 4) 27 (mc mm))) := Lib.hid fun W h h' => ⟨h, h'⟩
    go_wp2_with fail
    refine wp_region_held_drew (S := (fun W => Hid (Blk W w.heap.size 25 (pc A1 q.m.length c1 q.s)) ∧ Hid (Blk W (w.heap.size + 4) 27 (mc mm)))) (by kernel_rfl) ?_ (fun hHeld => ?_)
    · (try dsimp only); exact ⟨HPd, HMd⟩
    refine wpAnyH_take (i := 0) (oi := ⟨some 75, _, _, _, _, _⟩) (v := ?_) rfl (by kernel_rfl) (by kernel_rfl) (by kernel_rfl) (fun _ _ _ h => h) (Or.inl ⟨by rfl, ?_⟩) (by assumption) ?_
    rotate_left
    · (intro w hSw; refine Eq.trans (exec_lp hSw.1 (by rfl) (by rfl)) ?_; with_reducible rfl)
    try simp only [Act.put, List.setIfInBounds_toArray, List.set_cons_zero, List.set_cons_succ]
    refine wpAnyH_take (i := 1) (oi := ⟨some 76, _, _, _, _, _⟩) (v := ?_) rfl (by kernel_rfl) (by kernel_rfl) (by kernel_rfl) (fun _ _ _ h => h) (Or.inl ⟨by rfl, ?_⟩) (by assumption) ?_
    rotate_left
    · (intro w hSw; refine Eq.trans (exec_lm hSw.2 (by rfl) (by rfl)) ?_; with_reducible rfl)
    try simp only [Act.put, List.setIfInBounds_toArray, List.set_cons_zero, List.set_cons_succ]
    refine wpAnyH_take (i := 2) (oi := ⟨some 77, _, _, _, _, _⟩) (v := ?_) rfl (by kernel_rfl) (by kernel_rfl) (by kernel_rfl) (fun _ _ _ h => h) (Or.inl ⟨by rfl, ?_⟩) (by assumption) ?_
    rotate_left
    · (intro w hSw; (try dsimp only at hSw); go_simp; try with_reducible rfl)
    try simp only [Act.put, List.setIfInBounds_toArray, List.set_cons_zero, List.set_cons_succ]
    refine wpAnyH_take (i := 3) (oi := ⟨some 78, _, _, _, _, _⟩) (v := ?_) rfl (by kernel_rfl) (by kernel_rfl) (by kernel_rfl) (fun _ _ _ h => h) (Or.inl ⟨by rfl, ?_⟩) (by assumption) ?_
    rotate_left
    · (intro w hSw; (try dsimp only at hSw); go_simp; try with_reducible rfl)
    try simp only [Act.put, List.setIfInBounds_toArray, List.set_cons_zero, List.set_cons_succ]
    refine wpAnyH_ready (rs := [4]) (by kernel_rfl) (by simp) ?_
    refine AllReadyH.cons (o := ⟨none, _, _, _, _, _⟩) rfl (fun K hK => ?_) AllReadyH.nil
    refine step_sp (by rfl) (.tmp 4) (.tmp 75) (by rfl) HRd (by rfl) (by rfl) (Nat.le_add_right w.heap.size 2) ?_; intro w8 HS8; have hs := HSo.out _ (Lib.hid (HS8.out.far hHeld.1.out (by omega))) (Lib.hid (HS8.out.far hHeld.2.out (by omega))); have HN8 := Lib.hid (HS8.out.far HNd.out (by omega)); have HB8 := Lib.hid (below_turns HBd.out HS8.out.turns (Nat.le_refl _))
    refine hK.out _ _ hs (fun hHeld => ?_)
    clear hK K
    try simp only [Act.put]
    refine wpAnyH_ready (rs := [5]) (by kernel_rfl) (by simp) ?_
    refine AllReadyH.cons (o := ⟨none, _, _, _, _, _⟩) rfl (fun K hK => ?_) AllReadyH.nil
    refine step_sm (by rfl) (.tmp 5) (.tmp 76) (by rfl) Pst.noMail mm HN8 (by rfl) (by rfl) (Nat.le_add_right w.heap.size 3) ?_; intro w9 HS9; have hs := HSo.out _ (Lib.hid (HS9.out.far hHeld.1.out (by omega))) (Lib.hid (HS9.out.far hHeld.2.out (by omega))); have HB9 := Lib.hid (below_turns HB8.out HS9.out.turns (Nat.le_refl _))
    refine hK.out _ _ hs (fun hHeld => ?_)
    clear hK K
    try simp only [Act.put]
    refine wpAnyH_take (i := 6) (oi := ⟨some 6, _, _, _, _, _⟩) (v := ?_) rfl (by kernel_rfl) (by kernel_rfl) (by kernel_rfl) (fun _ _ _ h => h) (Or.inl ⟨by rfl, ?_⟩) (by assumption) ?_
    rotate_left
    · (intro w hSw; (try dsimp only at hSw); go_simp; try with_reducible rfl)
    try simp only [Act.put, List.setIfInBounds_toArray, List.set_cons_zero, List.set_cons_succ]
    refine wpAnyH_take (i := 7) (oi := ⟨some 7, _, _, _, _, _⟩) (v := ?_) rfl (by kernel_rfl) (by kernel_rfl) (by kernel_rfl) (fun _ _ _ h => h) (Or.inl ⟨by rfl, ?_⟩) (by assumption) ?_
    rotate_left
    · (intro w hSw; (try dsimp only at hSw); go_simp; try with_reducible rfl)
    try simp only [Act.put, List.setIfInBounds_toArray, List.set_cons_zero, List.set_cons_succ]
    refine wpAnyH_done (by kernel_rfl) ?_ _
    go_wp2_with fail
    refine ret_pmbe Try.results9 rfl rfl rfl rfl rfl (HS9.out.far HS8.out.blk (by omega)) HS9.out.blk ?_
    rw [HE.out]
    exact ⟨A1, c1, rfl, HOd.out.imp (fun (h : mailLay.Own (w.heap.size + 5) _ _ _) => ((h.turned ne_mp HS8.out.turns).far HS9.out (by omega)).mono (Nat.le_add_right _ 5)) id, HB9.out⟩
  · have HE := Lib.hid (step_3 p o hk)
    have HX := HX3
    clear HX1 HX2 HX3 HX4 HX5 HX6
    obtain ⟨ok, oi, on, ob, ⟨mf, mt, md, ms⟩⟩ := o
    simp only at hk HE HX hb
    subst hk
    generalize Pst.lose p oi = r at *
    obtain ⟨q, er⟩ := r
    simp only at HE
    unfold IsPX at HX
    simp only at HX
    unfold pv opV
    simp only [pv] at HX
    obtain HD0 := Lib.hid (DK.new w (pc A p.m.length c p.s) #[.int .i64 3, .int .i64 oi, .int .i64 on, .int .u8 ob, .int .i64 mf, .int .i64 mt, .string md, .bool ms])
    have HP0 := Lib.hid HD0.out.p
    have hsz : w.heap.size + 5 ≤ _ := HD0.out.z
    go_enter Try.func9, Try.ntmps9
    go_wp2_with (refine wpList_lp rfl _ rfl HP0 rfl ?_)
    refine (HX.out _ HD0.out.b).mono ?_; rintro e w1 ⟨A1, c1, rfl, o1, b1⟩
    have HD1 := Lib.hid (HD0.out.below b1)
    have HO1 := Lib.hid (o1.imp (fun h => h.mono hsz) id)
    have HP1 := Lib.hid HD1.out.p
    clear o1 b1 hsz HX HP0 HD0
    go_wp2_with (refine wpList_sp rfl _ _ rfl HP1 rfl rfl (Nat.le_refl w.heap.size) ?_)
    intro w2 HS
    have HO2 := Lib.hid (HO1.out.imp (fun h => h.turned ne_mp HS.out.turns) id)
    have HPd : Hid (Blk w2.drew w.heap.size 25 _) := Lib.hid HS.out.blk
    have HRd : Hid (Blk w2.drew (w.heap.size + 2) 25 _) := Lib.hid (HS.out.far HD1.out.r (by omega))
    have HNd : Hid (Blk w2.drew (w.heap.size + 3) 27 _) := Lib.hid (HS.out.far HD1.out.q (by omega))
    have HMd : Hid (Blk w2.drew (w.heap.size + 4) 27 _) := Lib.hid (HS.out.far HD1.out.m (by omega))
    have HBd : Hid (Below w.heap.size w w2.drew) := Lib.hid (below_turns HD1.out.b HS.out.turns (Nat.le_refl _)).drew
    have HOd : Hid (mailLay.Own (w.heap.size + 5) w2.drew (.slice A1 q.m.length c1) q.m ∨ (A1 = A ∧ c1 = c ∧ q.m = p.m)) := Lib.hid HO2.out
    clear HO1 HO2 HP1 HD1 HS
    have HSo : Hid (∀ W, Hid (Blk W w.heap.size 25 (pc A1 q.m.length c1 q.s)) → Hid (Blk W (w.heap.size + 4) 27 (mc Pst.noMail)) → Hid (Blk W w.heap.size 25 (pc A1 q.m.length c1 q.s)) ∧ Hid (Blk W (w.heap.size + 4) 27 (mc Pst.noMail))) := Lib.hid fun W h h' => ⟨h, h'⟩
    go_wp2_with fail
    refine wp_region_held_drew (S := (fun W => Hid (Blk W w.heap.size 25 (pc A1 q.m.length c1 q.s)) ∧ Hid (Blk W (w.heap.size + 4) 27 (mc Pst.noMail)))) (by kernel_rfl) ?_ (fun hHeld => ?_)
    · (try dsimp only); exact ⟨HPd, HMd⟩
    refine wpAnyH_take (i := 0) (oi := ⟨some 75, _, _, _, _, _⟩) (v := ?_) rfl (by kernel_rfl) (by kernel_rfl) (by kernel_rfl) (fun _ _ _ h => h) (Or.inl ⟨by rfl, ?_⟩) (by assumption) ?_
    rotate_left
    · (intro w hSw; refine Eq.trans (exec_lp hSw.1 (by rfl) (by rfl)) ?_; with_reducible rfl)
    try simp only [Act.put, List.setIfInBounds_toArray, List.set_cons_zero, List.set_cons_succ]
    refine wpAnyH_take (i := 1) (oi := ⟨some 76, _, _, _, _, _⟩) (v := ?_) rfl (by kernel_rfl) (by kernel_rfl) (by kernel_rfl) (fun _ _ _ h => h) (Or.inl ⟨by rfl, ?_⟩) (by assumption) ?_
    rotate_left
    · (intro w hSw; refine Eq.trans (exec_lm hSw.2 (by rfl) (by rfl)) ?_; with_reducible rfl)
    try simp only [Act.put, List.setIfInBounds_toArray, List.set_cons_zero, List.set_cons_succ]
    refine wpAnyH_take (i := 2) (oi := ⟨some 77, _, _, _, _, _⟩) (v := ?_) rfl (by kernel_rfl) (by kernel_rfl) (by kernel_rfl) (fun _ _ _ h => h) (Or.inl ⟨by rfl, ?_⟩) (by assumption) ?_
    rotate_left
    · (intro w hSw; (try dsimp only at hSw); go_simp; try with_reducible rfl)
    try simp only [Act.put, List.setIfInBounds_toArray, List.set_cons_zero, List.set_cons_succ]
    refine wpAnyH_take (i := 3) (oi := ⟨some 78, _, _, _, _, _⟩) (v := ?_) rfl (by kernel_rfl) (by kernel_rfl) (by kernel_rfl) (fun _ _ _ h => h) (Or.inl ⟨by rfl, ?_⟩) (by assumption) ?_
    rotate_left
    · (intro w hSw; (try dsimp only at hSw); go_simp; try with_reducible rfl)
    try simp only [Act.put, List.setIfInBounds_toArray, List.set_cons_zero, List.set_cons_succ]
    refine wpAnyH_ready (rs := [4]) (by kernel_rfl) (by simp) ?_
    refine AllReadyH.cons (o := ⟨none, _, _, _, _, _⟩) rfl (fun K hK => ?_) AllReadyH.nil
    refine step_sp (by rfl) (.tmp 4) (.tmp 75) (by rfl) HRd (by rfl) (by rfl) (Nat.le_add_right w.heap.size 2) ?_; intro w8 HS8; have hs := HSo.out _ (Lib.hid (HS8.out.far hHeld.1.out (by omega))) (Lib.hid (HS8.out.far hHeld.2.out (by omega))); have HN8 := Lib.hid (HS8.out.far HNd.out (by omega)); have HB8 := Lib.hid (below_turns HBd.out HS8.out.turns (Nat.le_refl _))
    refine hK.out _ _ hs (fun hHeld => ?_)
    clear hK K
    try simp only [Act.put]
    refine wpAnyH_ready (rs := [5]) (by kernel_rfl) (by simp) ?_
    refine AllReadyH.cons (o := ⟨none, _, _, _, _, _⟩) rfl (fun K hK => ?_) AllReadyH.nil
    refine step_sm (by rfl) (.tmp 5) (.tmp 76) (by rfl) Pst.noMail Pst.noMail HN8 (by rfl) (by rfl) (Nat.le_add_right w.heap.size 3) ?_; intro w9 HS9; have hs := HSo.out _ (Lib.hid (HS9.out.far hHeld.1.out (by omega))) (Lib.hid (HS9.out.far hHeld.2.out (by omega))); have HB9 := Lib.hid (below_turns HB8.out HS9.out.turns (Nat.le_refl _))
    refine hK.out _ _ hs (fun hHeld => ?_)
    clear hK K
    try simp only [Act.put]
    refine wpAnyH_take (i := 6) (oi := ⟨some 6, _, _, _, _, _⟩) (v := ?_) rfl (by kernel_rfl) (by kernel_rfl) (by kernel_rfl) (fun _ _ _ h => h) (Or.inl ⟨by rfl, ?_⟩) (by assumption) ?_
    rotate_left
    · (intro w hSw; (try dsimp only at hSw); go_simp; try with_reducible rfl)
    try simp only [Act.put, List.setIfInBounds_toArray, List.set_cons_zero, List.set_cons_succ]
    refine wpAnyH_take (i := 7) (oi := ⟨some 7, _, _, _, _, _⟩) (v := ?_) rfl (by kernel_rfl) (by kernel_rfl) (by kernel_rfl) (fun _ _ _ h => h) (Or.inl ⟨by rfl, ?_⟩) (by assumption) ?_
    rotate_left
    · (intro w hSw; (try dsimp only at hSw); go_simp; try with_reducible rfl)
    try simp only [Act.put, List.setIfInBounds_toArray, List.set_cons_zero, List.set_cons_succ]
    refine wpAnyH_done (by kernel_rfl) ?_ _
    go_wp2_with fail
    refine ret_pmbe Try.results9 rfl rfl rfl rfl rfl (HS9.out.far HS8.out.blk (by omega)) HS9.out.blk ?_
    rw [HE.out]
    exact ⟨A1, c1, rfl, HOd.out.imp (fun (h : mailLay.Own (w.heap.size + 5) _ _ _) => ((h.turned ne_mp HS8.out.turns).far HS9.out (by omega)).mono (Nat.le_add_right _ 5)) id, HB9.out⟩
  · have HE := Lib.hid (step_4 p o hk)
    have HX := HX4
    clear HX1 HX2 HX3 HX4 HX5 HX6
    obtain ⟨ok, oi, on, ob, ⟨mf, mt, md, ms⟩⟩ := o
    simp only at hk HE HX hb
    subst hk
    generalize Pst.twice p oi = r at *
    obtain ⟨q, er⟩ := r
    simp only at HE
    unfold IsPX at HX
    simp only at HX
    unfold pv opV
    simp only [pv] at HX
    obtain HD0 := Lib.hid (DK.new w (pc A p.m.length c p.s) #[.int .i64 4, .int .i64 oi, .int .i64 on, .int .u8 ob, .int .i64 mf, .int .i64 mt, .string md, .bool ms])
    have HP0 := Lib.hid HD0.out.p
    have hsz : w.heap.size + 5 ≤ _ := HD0.out.z
    go_enter Try.func9, Try.ntmps9
    go_wp2_with (refine wpList_lp rfl _ rfl HP0 rfl ?_)
    refine (HX.out _ HD0.out.b).mono ?_; rintro e w1 ⟨A1, c1, rfl, o1, b1⟩
    have HD1 := Lib.hid (HD0.out.below b1)
    have HO1 := Lib.hid (o1.imp (fun h => h.mono hsz) id)
    have HP1 := Lib.hid HD1.out.p
    clear o1 b1 hsz HX HP0 HD0
    go_wp2_with (refine wpList_sp rfl _ _ rfl HP1 rfl rfl (Nat.le_refl w.heap.size) ?_)
    intro w2 HS
    have HO2 := Lib.hid (HO1.out.imp (fun h => h.turned ne_mp HS.out.turns) id)
    have HPd : Hid (Blk w2.drew w.heap.size 25 _) := Lib.hid HS.out.blk
    have HRd : Hid (Blk w2.drew (w.heap.size + 2) 25 _) := Lib.hid (HS.out.far HD1.out.r (by omega))
    have HNd : Hid (Blk w2.drew (w.heap.size + 3) 27 _) := Lib.hid (HS.out.far HD1.out.q (by omega))
    have HMd : Hid (Blk w2.drew (w.heap.size + 4) 27 _) := Lib.hid (HS.out.far HD1.out.m (by omega))
    have HBd : Hid (Below w.heap.size w w2.drew) := Lib.hid (below_turns HD1.out.b HS.out.turns (Nat.le_refl _)).drew
    have HOd : Hid (mailLay.Own (w.heap.size + 5) w2.drew (.slice A1 q.m.length c1) q.m ∨ (A1 = A ∧ c1 = c ∧ q.m = p.m)) := Lib.hid HO2.out
    clear HO1 HO2 HP1 HD1 HS
    have HSo : Hid (∀ W, Hid (Blk W w.heap.size 25 (pc A1 q.m.length c1 q.s)) → Hid (Blk W (w.heap.size + 4) 27 (mc Pst.noMail)) → Hid (Blk W w.heap.size 25 (pc A1 q.m.length c1 q.s)) ∧ Hid (Blk W (w.heap.size + 4) 27 (mc Pst.noMail))) := Lib.hid fun W h h' => ⟨h, h'⟩
    go_wp2_with fail
    refine wp_region_held_drew (S := (fun W => Hid (Blk W w.heap.size 25 (pc A1 q.m.length c1 q.s)) ∧ Hid (Blk W (w.heap.size + 4) 27 (mc Pst.noMail)))) (by kernel_rfl) ?_ (fun hHeld => ?_)
    · (try dsimp only); exact ⟨HPd, HMd⟩
    refine wpAnyH_take (i := 0) (oi := ⟨some 75, _, _, _, _, _⟩) (v := ?_) rfl (by kernel_rfl) (by kernel_rfl) (by kernel_rfl) (fun _ _ _ h => h) (Or.inl ⟨by rfl, ?_⟩) (by assumption) ?_
    rotate_left
    · (intro w hSw; refine Eq.trans (exec_lp hSw.1 (by rfl) (by rfl)) ?_; with_reducible rfl)
    try simp only [Act.put, List.setIfInBounds_toArray, List.set_cons_zero, List.set_cons_succ]
    refine wpAnyH_take (i := 1) (oi := ⟨some 76, _, _, _, _, _⟩) (v := ?_) rfl (by kernel_rfl) (by kernel_rfl) (by kernel_rfl) (fun _ _ _ h => h) (Or.inl ⟨by rfl, ?_⟩) (by assumption) ?_
    rotate_left
    · (intro w hSw; refine Eq.trans (exec_lm hSw.2 (by rfl) (by rfl)) ?_; with_reducible rfl)
    try simp only [Act.put, List.setIfInBounds_toArray, List.set_cons_zero, List.set_cons_succ]
    refine wpAnyH_take (i := 2) (oi := ⟨some 77, _, _, _, _, _⟩) (v := ?_) rfl (by kernel_rfl) (by kernel_rfl) (by kernel_rfl) (fun _ _ _ h => h) (Or.inl ⟨by rfl, ?_⟩) (by assumption) ?_
    rotate_left
    · (intro w hSw; (try dsimp only at hSw); go_simp; try with_reducible rfl)
    try simp only [Act.put, List.setIfInBounds_toArray, List.set_cons_zero, List.set_cons_succ]
    refine wpAnyH_take (i := 3) (oi := ⟨some 78, _, _, _, _, _⟩) (v := ?_) rfl (by kernel_rfl) (by kernel_rfl) (by kernel_rfl) (fun _ _ _ h => h) (Or.inl ⟨by rfl, ?_⟩) (by assumption) ?_
    rotate_left
    · (intro w hSw; (try dsimp only at hSw); go_simp; try with_reducible rfl)
    try simp only [Act.put, List.setIfInBounds_toArray, List.set_cons_zero, List.set_cons_succ]
    refine wpAnyH_ready (rs := [4]) (by kernel_rfl) (by simp) ?_
    refine AllReadyH.cons (o := ⟨none, _, _, _, _, _⟩) rfl (fun K hK => ?_) AllReadyH.nil
    refine step_sp (by rfl) (.tmp 4) (.tmp 75) (by rfl) HRd (by rfl) (by rfl) (Nat.le_add_right w.heap.size 2) ?_; intro w8 HS8; have hs := HSo.out _ (Lib.hid (HS8.out.far hHeld.1.out (by omega))) (Lib.hid (HS8.out.far hHeld.2.out (by omega))); have HN8 := Lib.hid (HS8.out.far HNd.out (by omega)); have HB8 := Lib.hid (below_turns HBd.out HS8.out.turns (Nat.le_refl _))
    refine hK.out _ _ hs (fun hHeld => ?_)
    clear hK K
    try simp only [Act.put]
    refine wpAnyH_ready (rs := [5]) (by kernel_rfl) (by simp) ?_
    refine AllReadyH.cons (o := ⟨none, _, _, _, _, _⟩) rfl (fun K hK => ?_) AllReadyH.nil
    refine step_sm (by rfl) (.tmp 5) (.tmp 76) (by rfl) Pst.noMail Pst.noMail HN8 (by rfl) (by rfl) (Nat.le_add_right w.heap.size 3) ?_; intro w9 HS9; have hs := HSo.out _ (Lib.hid (HS9.out.far hHeld.1.out (by omega))) (Lib.hid (HS9.out.far hHeld.2.out (by omega))); have HB9 := Lib.hid (below_turns HB8.out HS9.out.turns (Nat.le_refl _))
    refine hK.out _ _ hs (fun hHeld => ?_)
    clear hK K
    try simp only [Act.put]
    refine wpAnyH_take (i := 6) (oi := ⟨some 6, _, _, _, _, _⟩) (v := ?_) rfl (by kernel_rfl) (by kernel_rfl) (by kernel_rfl) (fun _ _ _ h => h) (Or.inl ⟨by rfl, ?_⟩) (by assumption) ?_
    rotate_left
    · (intro w hSw; (try dsimp only at hSw); go_simp; try with_reducible rfl)
    try simp only [Act.put, List.setIfInBounds_toArray, List.set_cons_zero, List.set_cons_succ]
    refine wpAnyH_take (i := 7) (oi := ⟨some 7, _, _, _, _, _⟩) (v := ?_) rfl (by kernel_rfl) (by kernel_rfl) (by kernel_rfl) (fun _ _ _ h => h) (Or.inl ⟨by rfl, ?_⟩) (by assumption) ?_
    rotate_left
    · (intro w hSw; (try dsimp only at hSw); go_simp; try with_reducible rfl)
    try simp only [Act.put, List.setIfInBounds_toArray, List.set_cons_zero, List.set_cons_succ]
    refine wpAnyH_done (by kernel_rfl) ?_ _
    go_wp2_with fail
    refine ret_pmbe Try.results9 rfl rfl rfl rfl rfl (HS9.out.far HS8.out.blk (by omega)) HS9.out.blk ?_
    rw [HE.out]
    exact ⟨A1, c1, rfl, HOd.out.imp (fun (h : mailLay.Own (w.heap.size + 5) _ _ _) => ((h.turned ne_mp HS8.out.turns).far HS9.out (by omega)).mono (Nat.le_add_right _ 5)) id, HB9.out⟩
  · have HE := Lib.hid (step_5 p o hk)
    have HX := HX5
    clear HX1 HX2 HX3 HX4 HX5 HX6
    obtain ⟨ok, oi, on, ob, ⟨mf, mt, md, ms⟩⟩ := o
    simp only at hk HE HX hb
    subst hk
    generalize Pst.spoil p oi on ob = r at *
    obtain ⟨q, er⟩ := r
    simp only at HE
    unfold IsPX at HX
    simp only at HX
    unfold pv opV
    simp only [pv] at HX
    obtain HD0 := Lib.hid (DK.new w (pc A p.m.length c p.s) #[.int .i64 5, .int .i64 oi, .int .i64 on, .int .u8 ob, .int .i64 mf, .int .i64 mt, .string md, .bool ms])
    have HP0 := Lib.hid HD0.out.p
    have hsz : w.heap.size + 5 ≤ _ := HD0.out.z
    go_enter Try.func9, Try.ntmps9
    go_wp2_with (refine wpList_lp rfl _ rfl HP0 rfl ?_)
    refine (HX.out _ HD0.out.b).mono ?_; rintro e w1 ⟨A1, c1, rfl, o1, b1⟩
    have HD1 := Lib.hid (HD0.out.below b1)
    have HO1 := Lib.hid (o1.imp (fun h => h.mono hsz) id)
    have HP1 := Lib.hid HD1.out.p
    clear o1 b1 hsz HX HP0 HD0
    go_wp2_with (refine wpList_sp rfl _ _ rfl HP1 rfl rfl (Nat.le_refl w.heap.size) ?_)
    intro w2 HS
    have HO2 := Lib.hid (HO1.out.imp (fun h => h.turned ne_mp HS.out.turns) id)
    have HPd : Hid (Blk w2.drew w.heap.size 25 _) := Lib.hid HS.out.blk
    have HRd : Hid (Blk w2.drew (w.heap.size + 2) 25 _) := Lib.hid (HS.out.far HD1.out.r (by omega))
    have HNd : Hid (Blk w2.drew (w.heap.size + 3) 27 _) := Lib.hid (HS.out.far HD1.out.q (by omega))
    have HMd : Hid (Blk w2.drew (w.heap.size + 4) 27 _) := Lib.hid (HS.out.far HD1.out.m (by omega))
    have HBd : Hid (Below w.heap.size w w2.drew) := Lib.hid (below_turns HD1.out.b HS.out.turns (Nat.le_refl _)).drew
    have HOd : Hid (mailLay.Own (w.heap.size + 5) w2.drew (.slice A1 q.m.length c1) q.m ∨ (A1 = A ∧ c1 = c ∧ q.m = p.m)) := Lib.hid HO2.out
    clear HO1 HO2 HP1 HD1 HS
    have HSo : Hid (∀ W, Hid (Blk W w.heap.size 25 (pc A1 q.m.length c1 q.s)) → Hid (Blk W (w.heap.size + 4) 27 (mc Pst.noMail)) → Hid (Blk W w.heap.size 25 (pc A1 q.m.length c1 q.s)) ∧ Hid (Blk W (w.heap.size + 4) 27 (mc Pst.noMail))) := Lib.hid fun W h h' => ⟨h, h'⟩
    go_wp2_with fail
    refine wp_region_held_drew (S := (fun W => Hid (Blk W w.heap.size 25 (pc A1 q.m.length c1 q.s)) ∧ Hid (Blk W (w.heap.size + 4) 27 (mc Pst.noMail)))) (by kernel_rfl) ?_ (fun hHeld => ?_)
    · (try dsimp only); exact ⟨HPd, HMd⟩
    refine wpAnyH_take (i := 0) (oi := ⟨some 75, _, _, _, _, _⟩) (v := ?_) rfl (by kernel_rfl) (by kernel_rfl) (by kernel_rfl) (fun _ _ _ h => h) (Or.inl ⟨by rfl, ?_⟩) (by assumption) ?_
    rotate_left
    · (intro w hSw; refine Eq.trans (exec_lp hSw.1 (by rfl) (by rfl)) ?_; with_reducible rfl)
    try simp only [Act.put, List.setIfInBounds_toArray, List.set_cons_zero, List.set_cons_succ]
    refine wpAnyH_take (i := 1) (oi := ⟨some 76, _, _, _, _, _⟩) (v := ?_) rfl (by kernel_rfl) (by kernel_rfl) (by kernel_rfl) (fun _ _ _ h => h) (Or.inl ⟨by rfl, ?_⟩) (by assumption) ?_
    rotate_left
    · (intro w hSw; refine Eq.trans (exec_lm hSw.2 (by rfl) (by rfl)) ?_; with_reducible rfl)
    try simp only [Act.put, List.setIfInBounds_toArray, List.set_cons_zero, List.set_cons_succ]
    refine wpAnyH_take (i := 2) (oi := ⟨some 77, _, _, _, _, _⟩) (v := ?_) rfl (by kernel_rfl) (by kernel_rfl) (by kernel_rfl) (fun _ _ _ h => h) (Or.inl ⟨by rfl, ?_⟩) (by assumption) ?_
    rotate_left
    · (intro w hSw; (try dsimp only at hSw); go_simp; try with_reducible rfl)
    try simp only [Act.put, List.setIfInBounds_toArray, List.set_cons_zero, List.set_cons_succ]
    refine wpAnyH_take (i := 3) (oi := ⟨some 78, _, _, _, _, _⟩) (v := ?_) rfl (by kernel_rfl) (by kernel_rfl) (by kernel_rfl) (fun _ _ _ h => h) (Or.inl ⟨by rfl, ?_⟩) (by assumption) ?_
    rotate_left
    · (intro w hSw; (try dsimp only at hSw); go_simp; try with_reducible rfl)
    try simp only [Act.put, List.setIfInBounds_toArray, List.set_cons_zero, List.set_cons_succ]
    refine wpAnyH_ready (rs := [4]) (by kernel_rfl) (by simp) ?_
    refine AllReadyH.cons (o := ⟨none, _, _, _, _, _⟩) rfl (fun K hK => ?_) AllReadyH.nil
    refine step_sp (by rfl) (.tmp 4) (.tmp 75) (by rfl) HRd (by rfl) (by rfl) (Nat.le_add_right w.heap.size 2) ?_; intro w8 HS8; have hs := HSo.out _ (Lib.hid (HS8.out.far hHeld.1.out (by omega))) (Lib.hid (HS8.out.far hHeld.2.out (by omega))); have HN8 := Lib.hid (HS8.out.far HNd.out (by omega)); have HB8 := Lib.hid (below_turns HBd.out HS8.out.turns (Nat.le_refl _))
    refine hK.out _ _ hs (fun hHeld => ?_)
    clear hK K
    try simp only [Act.put]
    refine wpAnyH_ready (rs := [5]) (by kernel_rfl) (by simp) ?_
    refine AllReadyH.cons (o := ⟨none, _, _, _, _, _⟩) rfl (fun K hK => ?_) AllReadyH.nil
    refine step_sm (by rfl) (.tmp 5) (.tmp 76) (by rfl) Pst.noMail Pst.noMail HN8 (by rfl) (by rfl) (Nat.le_add_right w.heap.size 3) ?_; intro w9 HS9; have hs := HSo.out _ (Lib.hid (HS9.out.far hHeld.1.out (by omega))) (Lib.hid (HS9.out.far hHeld.2.out (by omega))); have HB9 := Lib.hid (below_turns HB8.out HS9.out.turns (Nat.le_refl _))
    refine hK.out _ _ hs (fun hHeld => ?_)
    clear hK K
    try simp only [Act.put]
    refine wpAnyH_take (i := 6) (oi := ⟨some 6, _, _, _, _, _⟩) (v := ?_) rfl (by kernel_rfl) (by kernel_rfl) (by kernel_rfl) (fun _ _ _ h => h) (Or.inl ⟨by rfl, ?_⟩) (by assumption) ?_
    rotate_left
    · (intro w hSw; (try dsimp only at hSw); go_simp; try with_reducible rfl)
    try simp only [Act.put, List.setIfInBounds_toArray, List.set_cons_zero, List.set_cons_succ]
    refine wpAnyH_take (i := 7) (oi := ⟨some 7, _, _, _, _, _⟩) (v := ?_) rfl (by kernel_rfl) (by kernel_rfl) (by kernel_rfl) (fun _ _ _ h => h) (Or.inl ⟨by rfl, ?_⟩) (by assumption) ?_
    rotate_left
    · (intro w hSw; (try dsimp only at hSw); go_simp; try with_reducible rfl)
    try simp only [Act.put, List.setIfInBounds_toArray, List.set_cons_zero, List.set_cons_succ]
    refine wpAnyH_done (by kernel_rfl) ?_ _
    go_wp2_with fail
    refine ret_pmbe Try.results9 rfl rfl rfl rfl rfl (HS9.out.far HS8.out.blk (by omega)) HS9.out.blk ?_
    rw [HE.out]
    exact ⟨A1, c1, rfl, HOd.out.imp (fun (h : mailLay.Own (w.heap.size + 5) _ _ _) => ((h.turned ne_mp HS8.out.turns).far HS9.out (by omega)).mono (Nat.le_add_right _ 5)) id, HB9.out⟩
  · have HE := Lib.hid (step_6 p o hk)
    have HX := HX6
    clear HX1 HX2 HX3 HX4 HX5 HX6
    obtain ⟨ok, oi, on, ob, ⟨mf, mt, md, ms⟩⟩ := o
    simp only at hk HE HX hb
    subst hk
    generalize Pst.move p oi on = r at *
    obtain ⟨q, er⟩ := r
    simp only at HE
    unfold IsPX at HX
    simp only at HX
    unfold pv opV
    simp only [pv] at HX
    obtain HD0 := Lib.hid (DK.new w (pc A p.m.length c p.s) #[.int .i64 6, .int .i64 oi, .int .i64 on, .int .u8 ob, .int .i64 mf, .int .i64 mt, .string md, .bool ms])
    have HP0 := Lib.hid HD0.out.p
    have hsz : w.heap.size + 5 ≤ _ := HD0.out.z
    go_enter Try.func9, Try.ntmps9
    go_wp2_with (refine wpList_lp rfl _ rfl HP0 rfl ?_)
    refine (HX.out _ HD0.out.b).mono ?_; rintro e w1 ⟨A1, c1, rfl, o1, b1⟩
    have HD1 := Lib.hid (HD0.out.below b1)
    have HO1 := Lib.hid (o1.imp (fun h => h.mono hsz) id)
    have HP1 := Lib.hid HD1.out.p
    clear o1 b1 hsz HX HP0 HD0
    go_wp2_with (refine wpList_sp rfl _ _ rfl HP1 rfl rfl (Nat.le_refl w.heap.size) ?_)
    intro w2 HS
    have HO2 := Lib.hid (HO1.out.imp (fun h => h.turned ne_mp HS.out.turns) id)
    have HPd : Hid (Blk w2.drew w.heap.size 25 _) := Lib.hid HS.out.blk
    have HRd : Hid (Blk w2.drew (w.heap.size + 2) 25 _) := Lib.hid (HS.out.far HD1.out.r (by omega))
    have HNd : Hid (Blk w2.drew (w.heap.size + 3) 27 _) := Lib.hid (HS.out.far HD1.out.q (by omega))
    have HMd : Hid (Blk w2.drew (w.heap.size + 4) 27 _) := Lib.hid (HS.out.far HD1.out.m (by omega))
    have HBd : Hid (Below w.heap.size w w2.drew) := Lib.hid (below_turns HD1.out.b HS.out.turns (Nat.le_refl _)).drew
    have HOd : Hid (mailLay.Own (w.heap.size + 5) w2.drew (.slice A1 q.m.length c1) q.m ∨ (A1 = A ∧ c1 = c ∧ q.m = p.m)) := Lib.hid HO2.out
    clear HO1 HO2 HP1 HD1 HS
    have HSo : Hid (∀ W, Hid (Blk W w.heap.size 25 (pc A1 q.m.length c1 q.s)) → Hid (Blk W (w.heap.size + 4) 27 (mc Pst.noMail)) → Hid (Blk W w.heap.size 25 (pc A1 q.m.length c1 q.s)) ∧ Hid (Blk W (w.heap.size + 4) 27 (mc Pst.noMail))) := Lib.hid fun W h h' => ⟨h, h'⟩
    go_wp2_with fail
    refine wp_region_held_drew (S := (fun W => Hid (Blk W w.heap.size 25 (pc A1 q.m.length c1 q.s)) ∧ Hid (Blk W (w.heap.size + 4) 27 (mc Pst.noMail)))) (by kernel_rfl) ?_ (fun hHeld => ?_)
    · (try dsimp only); exact ⟨HPd, HMd⟩
    refine wpAnyH_take (i := 0) (oi := ⟨some 75, _, _, _, _, _⟩) (v := ?_) rfl (by kernel_rfl) (by kernel_rfl) (by kernel_rfl) (fun _ _ _ h => h) (Or.inl ⟨by rfl, ?_⟩) (by assumption) ?_
    rotate_left
    · (intro w hSw; refine Eq.trans (exec_lp hSw.1 (by rfl) (by rfl)) ?_; with_reducible rfl)
    try simp only [Act.put, List.setIfInBounds_toArray, List.set_cons_zero, List.set_cons_succ]
    refine wpAnyH_take (i := 1) (oi := ⟨some 76, _, _, _, _, _⟩) (v := ?_) rfl (by kernel_rfl) (by kernel_rfl) (by kernel_rfl) (fun _ _ _ h => h) (Or.inl ⟨by rfl, ?_⟩) (by assumption) ?_
    rotate_left
    · (intro w hSw; refine Eq.trans (exec_lm hSw.2 (by rfl) (by rfl)) ?_; with_reducible rfl)
    try simp only [Act.put, List.setIfInBounds_toArray, List.set_cons_zero, List.set_cons_succ]
    refine wpAnyH_take (i := 2) (oi := ⟨some 77, _, _, _, _, _⟩) (v := ?_) rfl (by kernel_rfl) (by kernel_rfl) (by kernel_rfl) (fun _ _ _ h => h) (Or.inl ⟨by rfl, ?_⟩) (by assumption) ?_
    rotate_left
    · (intro w hSw; (try dsimp only at hSw); go_simp; try with_reducible rfl)
    try simp only [Act.put, List.setIfInBounds_toArray, List.set_cons_zero, List.set_cons_succ]
    refine wpAnyH_take (i := 3) (oi := ⟨some 78, _, _, _, _, _⟩) (v := ?_) rfl (by kernel_rfl) (by kernel_rfl) (by kernel_rfl) (fun _ _ _ h => h) (Or.inl ⟨by rfl, ?_⟩) (by assumption) ?_
    rotate_left
    · (intro w hSw; (try dsimp only at hSw); go_simp; try with_reducible rfl)
    try simp only [Act.put, List.setIfInBounds_toArray, List.set_cons_zero, List.set_cons_succ]
    refine wpAnyH_ready (rs := [4]) (by kernel_rfl) (by simp) ?_
    refine AllReadyH.cons (o := ⟨none, _, _, _, _, _⟩) rfl (fun K hK => ?_) AllReadyH.nil
    refine step_sp (by rfl) (.tmp 4) (.tmp 75) (by rfl) HRd (by rfl) (by rfl) (Nat.le_add_right w.heap.size 2) ?_; intro w8 HS8; have hs := HSo.out _ (Lib.hid (HS8.out.far hHeld.1.out (by omega))) (Lib.hid (HS8.out.far hHeld.2.out (by omega))); have HN8 := Lib.hid (HS8.out.far HNd.out (by omega)); have HB8 := Lib.hid (below_turns HBd.out HS8.out.turns (Nat.le_refl _))
    refine hK.out _ _ hs (fun hHeld => ?_)
    clear hK K
    try simp only [Act.put]
    refine wpAnyH_ready (rs := [5]) (by kernel_rfl) (by simp) ?_
    refine AllReadyH.cons (o := ⟨none, _, _, _, _, _⟩) rfl (fun K hK => ?_) AllReadyH.nil
    refine step_sm (by rfl) (.tmp 5) (.tmp 76) (by rfl) Pst.noMail Pst.noMail HN8 (by rfl) (by rfl) (Nat.le_add_right w.heap.size 3) ?_; intro w9 HS9; have hs := HSo.out _ (Lib.hid (HS9.out.far hHeld.1.out (by omega))) (Lib.hid (HS9.out.far hHeld.2.out (by omega))); have HB9 := Lib.hid (below_turns HB8.out HS9.out.turns (Nat.le_refl _))
    refine hK.out _ _ hs (fun hHeld => ?_)
    clear hK K
    try simp only [Act.put]
    refine wpAnyH_take (i := 6) (oi := ⟨some 6, _, _, _, _, _⟩) (v := ?_) rfl (by kernel_rfl) (by kernel_rfl) (by kernel_rfl) (fun _ _ _ h => h) (Or.inl ⟨by rfl, ?_⟩) (by assumption) ?_
    rotate_left
    · (intro w hSw; (try dsimp only at hSw); go_simp; try with_reducible rfl)
    try simp only [Act.put, List.setIfInBounds_toArray, List.set_cons_zero, List.set_cons_succ]
    refine wpAnyH_take (i := 7) (oi := ⟨some 7, _, _, _, _, _⟩) (v := ?_) rfl (by kernel_rfl) (by kernel_rfl) (by kernel_rfl) (fun _ _ _ h => h) (Or.inl ⟨by rfl, ?_⟩) (by assumption) ?_
    rotate_left
    · (intro w hSw; (try dsimp only at hSw); go_simp; try with_reducible rfl)
    try simp only [Act.put, List.setIfInBounds_toArray, List.set_cons_zero, List.set_cons_succ]
    refine wpAnyH_done (by kernel_rfl) ?_ _
    go_wp2_with fail
    refine ret_pmbe Try.results9 rfl rfl rfl rfl rfl (HS9.out.far HS8.out.blk (by omega)) HS9.out.blk ?_
    rw [HE.out]
    exact ⟨A1, c1, rfl, HOd.out.imp (fun (h : mailLay.Own (w.heap.size + 5) _ _ _) => ((h.turned ne_mp HS8.out.turns).far HS9.out (by omega)).mono (Nat.le_add_right _ 5)) id, HB9.out⟩
  · have HE := Lib.hid (step_0 p o hk)
    clear HX1 HX2 HX3 HX4 HX5 HX6
    obtain ⟨ok, oi, on, ob, ⟨mf, mt, md, ms⟩⟩ := o
    simp only at hk HE hb
    obtain ⟨h1, h2, h3, h4, h5, h6⟩ := hk
    have HD0 := Lib.hid (DK.drew (DK.new w (pc A p.m.length c p.s) #[.int .i64 ok, .int .i64 oi, .int .i64 on, .int .u8 ob, .int .i64 mf, .int .i64 mt, .string md, .bool ms]))
    unfold pv opV
    go_enter Try.func9, Try.ntmps9
    have HPd := Lib.hid HD0.out.p
    have HRd := Lib.hid HD0.out.r
    have HNd := Lib.hid HD0.out.q
    have HMd := Lib.hid HD0.out.m
    have HBd := Lib.hid HD0.out.b
    have HSo : Hid (∀ W, Hid (Blk W w.heap.size 25 (pc A p.m.length c p.s)) → Hid (Blk W (w.heap.size + 4) 27 (mc Pst.noMail)) → Hid (Blk W w.heap.size 25 (pc A p.m.length c p.s)) ∧ Hid (Blk W (w.heap.size + 4) 27 (mc Pst.noMail))) := Lib.hid fun W h h' => ⟨h, h'⟩
    go_wp2_with fail
    refine wp_region_held_drew (S := (fun W => Hid (Blk W w.heap.size 25 (pc A p.m.length c p.s)) ∧ Hid (Blk W (w.heap.size + 4) 27 (mc Pst.noMail)))) (by kernel_rfl) ?_ (fun hHeld => ?_)
    · (try dsimp only); exact ⟨HPd, HMd⟩
    refine wpAnyH_take (i := 0) (oi := ⟨some 75, _, _, _, _, _⟩) (v := ?_) rfl (by kernel_rfl) (by kernel_rfl) (by kernel_rfl) (fun _ _ _ h => h) (Or.inl ⟨by rfl, ?_⟩) (by assumption) ?_
    rotate_left
    · (intro w hSw; refine Eq.trans (exec_lp hSw.1 (by rfl) (by rfl)) ?_; with_reducible rfl)
    try simp only [Act.put, List.setIfInBounds_toArray, List.set_cons_zero, List.set_cons_succ]
    refine wpAnyH_take (i := 1) (oi := ⟨some 76, _, _, _, _, _⟩) (v := ?_) rfl (by kernel_rfl) (by kernel_rfl) (by kernel_rfl) (fun _ _ _ h => h) (Or.inl ⟨by rfl, ?_⟩) (by assumption) ?_
    rotate_left
    · (intro w hSw; refine Eq.trans (exec_lm hSw.2 (by rfl) (by rfl)) ?_; with_reducible rfl)
    try simp only [Act.put, List.setIfInBounds_toArray, List.set_cons_zero, List.set_cons_succ]
    refine wpAnyH_take (i := 2) (oi := ⟨some 77, _, _, _, _, _⟩) (v := ?_) rfl (by kernel_rfl) (by kernel_rfl) (by kernel_rfl) (fun _ _ _ h => h) (Or.inl ⟨by rfl, ?_⟩) (by assumption) ?_
    rotate_left
    · (intro w hSw; (try dsimp only at hSw); go_simp; try with_reducible rfl)
    try simp only [Act.put, List.setIfInBounds_toArray, List.set_cons_zero, List.set_cons_succ]
    refine wpAnyH_take (i := 3) (oi := ⟨some 78, _, _, _, _, _⟩) (v := ?_) rfl (by kernel_rfl) (by kernel_rfl) (by kernel_rfl) (fun _ _ _ h => h) (Or.inl ⟨by rfl, ?_⟩) (by assumption) ?_
    rotate_left
    · (intro w hSw; (try dsimp only at hSw); go_simp; try with_reducible rfl)
    try simp only [Act.put, List.setIfInBounds_toArray, List.set_cons_zero, List.set_cons_succ]
    refine wpAnyH_ready (rs := [4]) (by kernel_rfl) (by simp) ?_
    refine AllReadyH.cons (o := ⟨none, _, _, _, _, _⟩) rfl (fun K hK => ?_) AllReadyH.nil
    refine step_sp (by rfl) (.tmp 4) (.tmp 75) (by rfl) HRd (by rfl) (by rfl) (Nat.le_add_right w.heap.size 2) ?_; intro w8 HS8; have hs := HSo.out _ (Lib.hid (HS8.out.far hHeld.1.out (by omega))) (Lib.hid (HS8.out.far hHeld.2.out (by omega))); have HN8 := Lib.hid (HS8.out.far HNd.out (by omega)); have HB8 := Lib.hid (below_turns HBd.out HS8.out.turns (Nat.le_refl _))
    refine hK.out _ _ hs (fun hHeld => ?_)
    clear hK K
    try simp only [Act.put]
    refine wpAnyH_ready (rs := [5]) (by kernel_rfl) (by simp) ?_
    refine AllReadyH.cons (o := ⟨none, _, _, _, _, _⟩) rfl (fun K hK => ?_) AllReadyH.nil
    refine step_sm (by rfl) (.tmp 5) (.tmp 76) (by rfl) Pst.noMail Pst.noMail HN8 (by rfl) (by rfl) (Nat.le_add_right w.heap.size 3) ?_; intro w9 HS9; have hs := HSo.out _ (Lib.hid (HS9.out.far hHeld.1.out (by omega))) (Lib.hid (HS9.out.far hHeld.2.out (by omega))); have HB9 := Lib.hid (below_turns HB8.out HS9.out.turns (Nat.le_refl _))
    refine hK.out _ _ hs (fun hHeld => ?_)
    clear hK K
    try simp only [Act.put]
    refine wpAnyH_take (i := 6) (oi := ⟨some 6, _, _, _, _, _⟩) (v := ?_) rfl (by kernel_rfl) (by kernel_rfl) (by kernel_rfl) (fun _ _ _ h => h) (Or.inl ⟨by rfl, ?_⟩) (by assumption) ?_
    rotate_left
    · (intro w hSw; (try dsimp only at hSw); go_simp; try with_reducible rfl)
    try simp only [Act.put, List.setIfInBounds_toArray, List.set_cons_zero, List.set_cons_succ]
    refine wpAnyH_take (i := 7) (oi := ⟨some 7, _, _, _, _, _⟩) (v := ?_) rfl (by kernel_rfl) (by kernel_rfl) (by kernel_rfl) (fun _ _ _ h => h) (Or.inl ⟨by rfl, ?_⟩) (by assumption) ?_
    rotate_left
    · (intro w hSw; (try dsimp only at hSw); go_simp; try with_reducible rfl)
    try simp only [Act.put, List.setIfInBounds_toArray, List.set_cons_zero, List.set_cons_succ]
    refine wpAnyH_done (by kernel_rfl) ?_ _
    go_wp2_with fail
    refine ret_pmbe Try.results9 rfl rfl rfl rfl rfl (HS9.out.far HS8.out.blk (by omega)) HS9.out.blk ?_
    rw [HE.out]
    exact ⟨A, c, rfl, .inr ⟨rfl, rfl, rfl⟩, HB9.out⟩
end Go.Proofs.Ytkajnmlglgjocaa
