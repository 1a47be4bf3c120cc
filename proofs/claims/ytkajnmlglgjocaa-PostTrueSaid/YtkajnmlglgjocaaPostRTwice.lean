/-
  What the document's Lose and Twice return.
  No condition but that the messages are no more than the form's reach.
-/
import Derived.Test.YtkajnmlglgjocaaPostRTake
import Derived.Test.YtkajnmlglgjocaaPostRow
import Derived.WalkKit
import Derived.WalkSpells
import Derived.WalkLawsBesides
import Derived.Handy
import Derived.Deep.QuietTactic
import Derived.BigQuiet
import Derived.Deep.RegionWith
import Derived.Deep.RegionHeld3
import Derived.Deep.Draws
import Derived.Lib.Hide
import Derived.Lib.LazyBuf
namespace Go.Proofs.Ytkajnmlglgjocaa
open Go.RowKit


theorem lose_take (p : Pst.P) (i : Int) : Pst.lose p i = ((Pst.take p i).1, (Pst.take p i).2.2.2) := by
  unfold Pst.lose Pst.take
  cases Pst.at' p i <;> rfl
theorem Lay.Own.apart {P : Program} {α : Type} {L : Lay P α} {w w' : World} {base b g : Nat} {t : TypeId} {cs : Array Value} {v : Value} {l : List α} (h : L.Own base w v l) (hs : Stored b g t cs w w') (hg : v.ownBlock ≠ some g) : L.Own base w' v l := by
  refine ⟨h.1, ?_⟩
  rcases h.2 with h0 | ⟨g', cap, cur, hv, hb, hg', hr⟩
  · exact .inl h0
  · refine .inr ⟨g', cap, cur, hv, hb, hs.far hg' (fun e => hg ?_), hr⟩
    rw [hv, e]; rfl
theorem own_new {P : Program} {α : Type} {L : Lay P α} {w : World} {base : Nat} {v : Value} {l : List α} (h : L.Own base w v l) : v.ownBlock ≠ some w.heap.size := fun e => Nat.lt_irrefl _ (World.ownsRow.lt h _ e).2
set_option maxHeartbeats 3200000 in
theorem rlose_any (A : Option Addr) (c : Nat) (p : Pst.P) (i : Int) (w : World) (hl : p.m.length ≤ 5000000000000) (hi : mailLay.Reads w w.heap.size A p.m) (hA : A = none → p.m = []) (hcap : p.m.length ≤ c) :
    Calls Try.prog 21 #[pv A p.m.length c p.s, .int .i64 i] w (IsPX A c p.m (Pst.lose p i) w) := by
  obtain ⟨HP0, HR0, HB0, hsz⟩ := made2 w 25 (pc A p.m.length c p.s) 25 (pc none 0 0 fun _ => 0)
  have HT : Hid (∀ W, Below w.heap.size w W → Calls Try.prog 20 #[pv A p.m.length c p.s, .int .i64 i] W (IsTX A c p.m (Pst.take p i) W)) := Lib.hid fun W hW => rtake_x A c p i W hl (hi.later hW (Nat.le_refl _)) hA hcap
  have HI := Lib.hid (fun W (hW : Below w.heap.size w W) => hi.later hW (Nat.le_refl _))
  have HA := Lib.hid hA
  have HCap := Lib.hid hcap
  rw [lose_take]
  clear hi hA hcap
  generalize Pst.take p i = r at *
  obtain ⟨q, m, ar, er⟩ := r
  unfold pv at HT ⊢
  go_enter Try.func21, Try.ntmps21
  go_wp2_with (refine wpList_lp rfl _ rfl HP0 rfl ?_)
  refine (HT.out _ HB0.out).mono ?_; rintro e w1 ⟨A1, c1, rfl, o1, b1⟩
  have HO1 := Lib.hid o1
  have HB1 := Lib.hid ((Lift.then2 HB0.out b1).alloc (Lift.then2 HB0.out b1).size (.cells (mc Pst.noMail) 27))
  have HP1 := Lib.hid ((Blk.hb HP0 b1).out.alloc (.cells (mc Pst.noMail) 27))
  have HR1 := Lib.hid ((Blk.hb HR0 b1).out.alloc (.cells (mc Pst.noMail) 27))
  have HM1 := Lib.hid (Blk.new w1 27 (mc Pst.noMail))
  have hs1 := b1.size
  rw [hsz] at hs1
  clear o1 b1 HT HP0 HR0 hsz
  go_wp2_with (refine wpList_sp rfl _ _ rfl HP1 rfl rfl (Nat.le_refl w.heap.size) ?_)
  intro w2 HS2
  have HM2 := Lib.hid (HS2.out.far HM1.out (by omega))
  have HR2 := Lib.hid (HS2.out.far HR1.out (by omega))
  have HP2 := Lib.hid HS2.out.blk
  clear HP1 HR1 HM1
  go_wp2_with (refine wpList_sm (m' := m) rfl _ _ rfl HM2 rfl rfl (by omega : w.heap.size ≤ w1.heap.size) ?_)
  intro w3 HS3
  have HP3 := Lib.hid (HS3.out.far HP2.out (by omega))
  have HR3 := Lib.hid (HS3.out.far HR2.out (by omega))
  clear HP2 HR2 HM2
  go_wp2_with (first | refine wpList_lp rfl _ rfl HP3 rfl ?_ | refine wpList_sp rfl _ _ rfl HR3 rfl rfl (Nat.le_add_right w.heap.size 1) ?_)
  intro w4 HS4
  have HB4 := Lib.hid (below_turns (below_turns (below_turns HB1.out HS2.out.turns (Nat.le_refl _)) HS3.out.turns (Nat.le_refl _)) HS4.out.turns (Nat.le_refl _))
  go_wp2_with fail
  refine ret_pe Try.results21 rfl rfl rfl HS4.out.blk ?_
  rcases HO1.out with ho | ⟨rfl, rfl, h3⟩
  · have h1 := own_new ho
    have h2 := (((ho.alloc (.cells (mc Pst.noMail) 27)).turned ne_mp HS2.out.turns).apart HS3.out h1).turned ne_mp HS4.out.turns
    exact IsPE.px ⟨A1, c1, rfl, h2.mono HB0.out.size, HB4.out⟩
  · replace h3 : q.m = p.m := h3
    exact ⟨A1, c1, rfl, .inr ⟨rfl, rfl, h3⟩, HB4.out⟩

theorem rtwice_is (p : Pst.P) (i : Int) : ((i < 0 ∨ (0 ≤ i ∧ (p.m.length : Int) ≤ i)) ∧ Pst.twice p i = (p, 5)) ∨
    ∃ (k : Nat) (m : Pst.Mail), i = k ∧ k < p.m.length ∧ p.m[k]? = some m ∧ (((2048 : Int) ≤ p.m.length ∧ Pst.twice p i = (p, 6)) ∨ ((p.m.length : Int) < 2048 ∧ Pst.twice p i = (⟨p.m ++ [m], p.s⟩, 0))) := by
  rcases twice_is p i with ⟨h1, h2⟩ | ⟨k, m, rfl, h1, h2, _, h4⟩
  · rw [decide_eq_false_iff_not] at h1
    exact .inl ⟨by omega, h2⟩
  · refine .inr ⟨k, m, rfl, h1, h2, ?_⟩
    rw [h4]
    unfold Pst.put
    by_cases h : 2048 ≤ p.m.length
    · exact .inl ⟨by omega, by rw [if_pos h]⟩
    · exact .inr ⟨by omega, by rw [if_neg h]⟩
set_option maxRecDepth 100000 in
set_option maxHeartbeats 3200000 in
theorem rtwice_any (A : Option Addr) (c : Nat) (p : Pst.P) (i : Int) (w : World) (hl : p.m.length ≤ 5000000000000) (hi : mailLay.Reads w w.heap.size A p.m) (hA : A = none → p.m = []) (hcap : p.m.length ≤ c) :
    Calls Try.prog 22 #[pv A p.m.length c p.s, .int .i64 i] w (IsPX A c p.m (Pst.twice p i) w) := by
  obtain ⟨HP0, HR0, HB0, hsz⟩ := made2 w 25 (pc A p.m.length c p.s) 25 (pc none 0 0 fun _ => 0)
  have HI := Lib.hid (fun W (hW : Below w.heap.size w W) => hi.later hW (Nat.le_refl _))
  have HA := Lib.hid hA
  have HCap := Lib.hid hcap
  have HW := with_pre (c := c) rfl hl hi hA
  have hpc : (pc A p.m.length c p.s)[0]? = some (.slice A p.m.length c) := rfl
  clear hi hA hcap
  unfold pv at HW ⊢
  rcases rtwice_is p i with ⟨hf, he⟩ | ⟨k, m, rfl, hk, hm, ⟨hf, he⟩ | ⟨hf, he⟩⟩
  · have HE := Lib.hid he
    clear he
    rcases hf with hf | ⟨hf, hf2⟩
    all_goals
      go_enter Try.func22, Try.ntmps22
      go_wp2_with (first | refine wpList_lp rfl _ rfl HP0 rfl ?_ | refine wpList_sp rfl _ _ rfl HR0 rfl rfl (Nat.le_add_right w.heap.size 1) ?_)
      intro w2 HS
      have HB1 := Lib.hid (below_turns HB0.out HS.out.turns (Nat.le_refl _))
      go_wp2_with fail
      refine ret_pe Try.results22 rfl rfl rfl HS.out.blk ?_
      rw [HE.out]
      exact ⟨A, c, rfl, .inr ⟨rfl, rfl, rfl⟩, HB1.out⟩
  · have HE := Lib.hid he
    have hk1 : (0 : Int) ≤ (k : Int) := by omega
    have hk2 : (k : Int) < (p.m.length : Int) := by omega
    clear he hm
    go_enter Try.func22, Try.ntmps22
    go_wp2_with (first | refine wpList_lp rfl _ rfl HP0 rfl ?_ | refine wpList_sp rfl _ _ rfl HR0 rfl rfl (Nat.le_add_right w.heap.size 1) ?_)
    intro w2 HS
    have HB1 := Lib.hid (below_turns HB0.out HS.out.turns (Nat.le_refl _))
    go_wp2_with fail
    refine ret_pe Try.results22 rfl rfl rfl HS.out.blk ?_
    rw [HE.out]
    exact ⟨A, c, rfl, .inr ⟨rfl, rfl, rfl⟩, HB1.out⟩
  · have HE := Lib.hid he
    have hk1 : (0 : Int) ≤ (k : Int) := by omega
    have hk2 : (k : Int) < (p.m.length : Int) := by omega
    have HM := Lib.hid hm
    have hne : p.m ≠ [] := fun h => by rw [h] at hm; simp at hm
    have HL1 : Hid (p.m.length + 1 ≤ 9223372036854775807) := Lib.hid (by omega)
    have HL2 : Hid ((p.m.length + 1) * mailLay.bytes ≤ 211106232532992) := Lib.hid (by show _ * 40 ≤ _; omega)
    clear he hm
    go_enter Try.func22, Try.ntmps22
    go_wp2_with (refine wpList_lp rfl _ rfl HP0 rfl ?_)
    refine (HW.out _ HB0.out).mono ?_; rintro e w1 ⟨A1, c1, rfl, o1, b1⟩
    rw [hsz] at o1
    have HB1 := Lib.hid (Lift.then2 HB0.out b1)
    have HP1 := Blk.hb HP0 b1
    have HR1 := Blk.hb HR0 b1
    have hs1 := b1.size
    rw [hsz] at hs1
    obtain ⟨g, cg, hv, hlc, hgb, hgl, _⟩ := o1.block hne
    injection hv with hv1 hv2 hv3
    subst hv1 hv3
    have HO1 := Lib.hid o1
    clear o1 b1 HP0 HR0 HB0 HW hpc hsz hne
    go_wp2_with (refine wpList_sp rfl _ _ rfl HP1 rfl rfl (Nat.le_refl w.heap.size) ?_)
    intro w2 HS
    have hs2 : w.heap.size < w2.heap.size := by rw [HS.out.size]; omega
    have hs3 : w.heap.size + 2 ≤ w2.heap.size := by rw [HS.out.size]; omega
    have HO2 : Hid (mailLay.Own (w.heap.size + 2) w2.drew (.slice (some ⟨g, 0, none⟩) p.m.length c1) p.m) := Lib.hid (HO1.out.turned ne_mp HS.out.turns).drew
    obtain ⟨m0, m1, m2, m3⟩ := own_at HO2.out HM.out
    have HP2 : Hid (Blk w2.drew w.heap.size 25 _) := Lib.hid HS.out.blk
    have HR2 : Hid (Blk w2.drew (w.heap.size + 1) 25 _) := Lib.hid (HS.out.far HR1.out (by omega))
    have HB2 : Hid (Below w.heap.size w w2.drew) := Lib.hid (below_turns HB1.out HS.out.turns (Nat.le_refl _)).drew
    obtain ⟨q0, q1⟩ := Blk.one (Lib.hid HS.out.blk) 0 (v := .slice (some ⟨g, 0, none⟩) p.m.length c1) rfl
    replace m0 : w2.cell? ⟨g, k * 4, none⟩ = some (.int .i64 m.f) := m0
    replace m1 : w2.cell? ⟨g, k * 4 + 1, none⟩ = some (.int .i64 m.t) := m1
    replace m2 : w2.cell? ⟨g, k * 4 + 2, none⟩ = some (.string m.d) := m2
    replace m3 : w2.cell? ⟨g, k * 4 + 3, none⟩ = some (.bool m.s) := m3
    obtain ⟨mf, mt, md, ms⟩ := m
    simp only at m0 m1 m2 m3
    clear HS HO1 HR1 HP1 HB1
    go_wp2_with fail
    refine wp_region_any (by kernel_rfl) ?_
    change wpAny _ _ _ _ _ _ _ (World.drew _)
    refine wpAny_take (i := 0) (oi := ⟨some 23, _, _, _, _, _⟩) (v := ?_) rfl (by kernel_rfl) (by kernel_rfl) (by kernel_rfl) (fun _ _ _ h => h) (Or.inl ⟨by rfl, ?_⟩) ?_
    rotate_left
    · (intro w; go_simp; try with_reducible rfl)
    try simp only [Act.put, List.setIfInBounds_toArray, List.set_cons_zero, List.set_cons_succ]
    refine wpAny_take (i := 2) (oi := ⟨some 25, _, _, _, _, _⟩) (v := ?_) rfl (by kernel_rfl) (by kernel_rfl) (by kernel_rfl) (fun _ _ _ h => h) (Or.inl ⟨by rfl, ?_⟩) ?_
    rotate_left
    · (intro w; go_simp; try with_reducible rfl)
    try simp only [Act.put, List.setIfInBounds_toArray, List.set_cons_zero, List.set_cons_succ]
    refine wpAny_take (i := 4) (oi := ⟨some 27, _, _, _, _, _⟩) (v := ?_) rfl (by kernel_rfl) (by kernel_rfl) (by kernel_rfl) (fun _ _ _ h => h) (Or.inl ⟨by rfl, ?_⟩) ?_
    rotate_left
    · (intro w; go_simp; try with_reducible rfl)
    try simp only [Act.put, List.setIfInBounds_toArray, List.set_cons_zero, List.set_cons_succ]
    refine wpAny_ready (rs := [1, 3]) (by kernel_rfl) (by simp) ?_
    refine AllReady.cons (o := ⟨some 24, _, _, _, _, _⟩) rfl (fun K hK => ?_) (AllReady.cons (o := ⟨some 26, _, _, _, _, _⟩) rfl (fun K hK => ?_) AllReady.nil)
    replace hK := Lib.hid hK
    go_simp
    refine hK.out _ _ ?_
    clear hK K
    try simp only [Act.put, List.setIfInBounds_toArray, List.set_cons_zero, List.set_cons_succ]
    refine wpAny_ready (rs := [3]) (by kernel_rfl) (by simp) ?_
    refine AllReady.cons (o := ⟨some 26, _, _, _, _, _⟩) rfl (fun K hK => ?_) AllReady.nil
    replace hK := Lib.hid hK
    go_simp
    refine hK.out _ _ ?_
    clear hK K
    try simp only [Act.put, List.setIfInBounds_toArray, List.set_cons_zero, List.set_cons_succ]
    refine wpAny_take (i := 5) (oi := ⟨some 28, _, _, _, _, _⟩) (v := ?_) rfl (by kernel_rfl) (by kernel_rfl) (by kernel_rfl) (fun _ _ _ h => h) (Or.inl ⟨by rfl, ?_⟩) ?_
    rotate_left
    · (intro w; go_simp; try with_reducible rfl)
    try simp only [Act.put, List.setIfInBounds_toArray, List.set_cons_zero, List.set_cons_succ]
    refine wpAny_ready (rs := [6]) (by kernel_rfl) (by simp) ?_
    refine AllReady.cons (o := ⟨some 29, _, _, _, _, _⟩) rfl (fun K hK => ?_) AllReady.nil
    replace hK := Lib.hid hK
    go_simp
    refine hK.out _ _ ?_
    clear hK K
    try simp only [Act.put, List.setIfInBounds_toArray, List.set_cons_zero, List.set_cons_succ]
    refine wpAny_ready (rs := [7]) (by kernel_rfl) (by simp) ?_
    refine AllReady.cons (o := ⟨some 30, _, _, _, _, _⟩) rfl (fun K hK => ?_) AllReady.nil
    replace hK := Lib.hid hK
    go_simp
    refine hK.out _ _ ?_
    clear hK K
    try simp only [Act.put, List.setIfInBounds_toArray, List.set_cons_zero, List.set_cons_succ]
    refine wpAny_ready (rs := [8]) (by kernel_rfl) (by simp) ?_
    refine AllReady.cons (o := ⟨some 31, _, _, _, _, _⟩) rfl (fun K hK => ?_) AllReady.nil
    replace hK := Lib.hid hK
    refine mailLay.step_push (by rfl) (.tmp 24) (.tmp 30) (by rfl) (w.heap.size + 2) w2.drew _ p.m [⟨mf, mt, md, ms⟩] _ w2.heap.size 1 1 (by rfl) (by rfl) rfl rfl rfl HO2.out HL1.out HL2.out hs3 ?_; intro v3 w3 HR3 HT3 hs4; generalize p.m ++ [⟨mf, mt, md, ms⟩] = l3 at *; obtain ⟨A3, c3, hv⟩ := HR3.out.shape; subst hv; have HP3 := Lib.hid (HP2.out.turned HT3.out (by decide)); have HB3 := Lib.hid (below_turns HB2.out HT3.out (Nat.le_add_right _ _)); have HQ3 := Lib.hid (HR2.out.turned HT3.out (by decide)); have HP4 := Lib.hid (pc_mails (some ⟨g, 0, none⟩) A3 p.m.length c1 l3.length c3 p.s ▸ HP3.out.set_ 0 (.slice A3 l3.length c3)); have HQ4 := Lib.hid (HQ3.out.far (p := ⟨w.heap.size, 0, none⟩) (by simp) (.slice A3 l3.length c3)); have HT4 := Lib.hid (turns_cell HP3.out (Nat.le_refl w.heap.size) 0 (.slice A3 l3.length c3)); obtain ⟨x3, y3⟩ := Blk.one HP3 0 (v := .slice (some ⟨g, 0, none⟩) p.m.length c1) rfl; clear HT3
    refine hK.out _ _ ?_
    clear hK K
    try simp only [Act.put, List.setIfInBounds_toArray, List.set_cons_zero, List.set_cons_succ]
    refine wpAny_take (i := 9) (oi := ⟨some 32, _, _, _, _, _⟩) (v := ?_) rfl (by kernel_rfl) (by kernel_rfl) (by kernel_rfl) (fun _ _ _ h => h) (Or.inl ⟨by rfl, ?_⟩) ?_
    rotate_left
    · (intro w; go_simp; try with_reducible rfl)
    try simp only [Act.put, List.setIfInBounds_toArray, List.set_cons_zero, List.set_cons_succ]
    refine wpAny_ready (rs := [10]) (by kernel_rfl) (by simp) ?_
    refine AllReady.cons (o := ⟨none, _, _, _, _, _⟩) rfl (fun K hK => ?_) AllReady.nil
    replace hK := Lib.hid hK
    go_simp
    refine hK.out _ _ ?_
    clear hK K
    try simp only [Act.put, List.setIfInBounds_toArray, List.set_cons_zero, List.set_cons_succ]
    refine wpAny_done (by kernel_rfl) ?_ _
    rotate_left
    replace hK := Lib.hid hK
    go_simp
    refine hK.out _ _ ?_
    clear hK K
    try simp only [Act.put, List.setIfInBounds_toArray, List.set_cons_zero, List.set_cons_succ]
    refine wpAny_take (i := 5) (oi := ⟨some 28, _, _, _, _, _⟩) (v := ?_) rfl (by kernel_rfl) (by kernel_rfl) (by kernel_rfl) (fun _ _ _ h => h) (Or.inl ⟨by rfl, ?_⟩) ?_
    rotate_left
    · (intro w; go_simp; try with_reducible rfl)
    try simp only [Act.put, List.setIfInBounds_toArray, List.set_cons_zero, List.set_cons_succ]
    refine wpAny_ready (rs := [1, 6]) (by kernel_rfl) (by simp) ?_
    refine AllReady.cons (o := ⟨some 24, _, _, _, _, _⟩) rfl (fun K hK => ?_) (AllReady.cons (o := ⟨some 29, _, _, _, _, _⟩) rfl (fun K hK => ?_) AllReady.nil)
    replace hK := Lib.hid hK
    go_simp
    refine hK.out _ _ ?_
    clear hK K
    try simp only [Act.put, List.setIfInBounds_toArray, List.set_cons_zero, List.set_cons_succ]
    refine wpAny_ready (rs := [6]) (by kernel_rfl) (by simp) ?_
    refine AllReady.cons (o := ⟨some 29, _, _, _, _, _⟩) rfl (fun K hK => ?_) AllReady.nil
    replace hK := Lib.hid hK
    go_simp
    refine hK.out _ _ ?_
    clear hK K
    try simp only [Act.put, List.setIfInBounds_toArray, List.set_cons_zero, List.set_cons_succ]
    refine wpAny_ready (rs := [7]) (by kernel_rfl) (by simp) ?_
    refine AllReady.cons (o := ⟨some 30, _, _, _, _, _⟩) rfl (fun K hK => ?_) AllReady.nil
    replace hK := Lib.hid hK
    go_simp
    refine hK.out _ _ ?_
    clear hK K
    try simp only [Act.put, List.setIfInBounds_toArray, List.set_cons_zero, List.set_cons_succ]
    refine wpAny_ready (rs := [8]) (by kernel_rfl) (by simp) ?_
    refine AllReady.cons (o := ⟨some 31, _, _, _, _, _⟩) rfl (fun K hK => ?_) AllReady.nil
    replace hK := Lib.hid hK
    refine mailLay.step_push (by rfl) (.tmp 24) (.tmp 30) (by rfl) (w.heap.size + 2) w2.drew _ p.m [⟨mf, mt, md, ms⟩] _ w2.heap.size 1 1 (by rfl) (by rfl) rfl rfl rfl HO2.out HL1.out HL2.out hs3 ?_; intro v3 w3 HR3 HT3 hs4; generalize p.m ++ [⟨mf, mt, md, ms⟩] = l3 at *; obtain ⟨A3, c3, hv⟩ := HR3.out.shape; subst hv; have HP3 := Lib.hid (HP2.out.turned HT3.out (by decide)); have HB3 := Lib.hid (below_turns HB2.out HT3.out (Nat.le_add_right _ _)); have HQ3 := Lib.hid (HR2.out.turned HT3.out (by decide)); have HP4 := Lib.hid (pc_mails (some ⟨g, 0, none⟩) A3 p.m.length c1 l3.length c3 p.s ▸ HP3.out.set_ 0 (.slice A3 l3.length c3)); have HQ4 := Lib.hid (HQ3.out.far (p := ⟨w.heap.size, 0, none⟩) (by simp) (.slice A3 l3.length c3)); have HT4 := Lib.hid (turns_cell HP3.out (Nat.le_refl w.heap.size) 0 (.slice A3 l3.length c3)); obtain ⟨x3, y3⟩ := Blk.one HP3 0 (v := .slice (some ⟨g, 0, none⟩) p.m.length c1) rfl; clear HT3
    refine hK.out _ _ ?_
    clear hK K
    try simp only [Act.put, List.setIfInBounds_toArray, List.set_cons_zero, List.set_cons_succ]
    refine wpAny_take (i := 9) (oi := ⟨some 32, _, _, _, _, _⟩) (v := ?_) rfl (by kernel_rfl) (by kernel_rfl) (by kernel_rfl) (fun _ _ _ h => h) (Or.inl ⟨by rfl, ?_⟩) ?_
    rotate_left
    · (intro w; go_simp; try with_reducible rfl)
    try simp only [Act.put, List.setIfInBounds_toArray, List.set_cons_zero, List.set_cons_succ]
    refine wpAny_ready (rs := [10]) (by kernel_rfl) (by simp) ?_
    refine AllReady.cons (o := ⟨none, _, _, _, _, _⟩) rfl (fun K hK => ?_) AllReady.nil
    replace hK := Lib.hid hK
    go_simp
    refine hK.out _ _ ?_
    clear hK K
    try simp only [Act.put, List.setIfInBounds_toArray, List.set_cons_zero, List.set_cons_succ]
    refine wpAny_done (by kernel_rfl) ?_ _
    rotate_left
    replace hK := Lib.hid hK
    go_simp
    refine hK.out _ _ ?_
    clear hK K
    try simp only [Act.put, List.setIfInBounds_toArray, List.set_cons_zero, List.set_cons_succ]
    refine wpAny_ready (rs := [1, 7]) (by kernel_rfl) (by simp) ?_
    refine AllReady.cons (o := ⟨some 24, _, _, _, _, _⟩) rfl (fun K hK => ?_) (AllReady.cons (o := ⟨some 30, _, _, _, _, _⟩) rfl (fun K hK => ?_) AllReady.nil)
    replace hK := Lib.hid hK
    go_simp
    refine hK.out _ _ ?_
    clear hK K
    try simp only [Act.put, List.setIfInBounds_toArray, List.set_cons_zero, List.set_cons_succ]
    refine wpAny_ready (rs := [7]) (by kernel_rfl) (by simp) ?_
    refine AllReady.cons (o := ⟨some 30, _, _, _, _, _⟩) rfl (fun K hK => ?_) AllReady.nil
    replace hK := Lib.hid hK
    go_simp
    refine hK.out _ _ ?_
    clear hK K
    try simp only [Act.put, List.setIfInBounds_toArray, List.set_cons_zero, List.set_cons_succ]
    refine wpAny_ready (rs := [8]) (by kernel_rfl) (by simp) ?_
    refine AllReady.cons (o := ⟨some 31, _, _, _, _, _⟩) rfl (fun K hK => ?_) AllReady.nil
    replace hK := Lib.hid hK
    refine mailLay.step_push (by rfl) (.tmp 24) (.tmp 30) (by rfl) (w.heap.size + 2) w2.drew _ p.m [⟨mf, mt, md, ms⟩] _ w2.heap.size 1 1 (by rfl) (by rfl) rfl rfl rfl HO2.out HL1.out HL2.out hs3 ?_; intro v3 w3 HR3 HT3 hs4; generalize p.m ++ [⟨mf, mt, md, ms⟩] = l3 at *; obtain ⟨A3, c3, hv⟩ := HR3.out.shape; subst hv; have HP3 := Lib.hid (HP2.out.turned HT3.out (by decide)); have HB3 := Lib.hid (below_turns HB2.out HT3.out (Nat.le_add_right _ _)); have HQ3 := Lib.hid (HR2.out.turned HT3.out (by decide)); have HP4 := Lib.hid (pc_mails (some ⟨g, 0, none⟩) A3 p.m.length c1 l3.length c3 p.s ▸ HP3.out.set_ 0 (.slice A3 l3.length c3)); have HQ4 := Lib.hid (HQ3.out.far (p := ⟨w.heap.size, 0, none⟩) (by simp) (.slice A3 l3.length c3)); have HT4 := Lib.hid (turns_cell HP3.out (Nat.le_refl w.heap.size) 0 (.slice A3 l3.length c3)); obtain ⟨x3, y3⟩ := Blk.one HP3 0 (v := .slice (some ⟨g, 0, none⟩) p.m.length c1) rfl; clear HT3
    refine hK.out _ _ ?_
    clear hK K
    try simp only [Act.put, List.setIfInBounds_toArray, List.set_cons_zero, List.set_cons_succ]
    refine wpAny_take (i := 9) (oi := ⟨some 32, _, _, _, _, _⟩) (v := ?_) rfl (by kernel_rfl) (by kernel_rfl) (by kernel_rfl) (fun _ _ _ h => h) (Or.inl ⟨by rfl, ?_⟩) ?_
    rotate_left
    · (intro w; go_simp; try with_reducible rfl)
    try simp only [Act.put, List.setIfInBounds_toArray, List.set_cons_zero, List.set_cons_succ]
    refine wpAny_ready (rs := [10]) (by kernel_rfl) (by simp) ?_
    refine AllReady.cons (o := ⟨none, _, _, _, _, _⟩) rfl (fun K hK => ?_) AllReady.nil
    replace hK := Lib.hid hK
    go_simp
    refine hK.out _ _ ?_
    clear hK K
    try simp only [Act.put, List.setIfInBounds_toArray, List.set_cons_zero, List.set_cons_succ]
    refine wpAny_done (by kernel_rfl) ?_ _
    rotate_left
    replace hK := Lib.hid hK
    go_simp
    refine hK.out _ _ ?_
    clear hK K
    try simp only [Act.put, List.setIfInBounds_toArray, List.set_cons_zero, List.set_cons_succ]
    refine wpAny_ready (rs := [1]) (by kernel_rfl) (by simp) ?_
    refine AllReady.cons (o := ⟨some 24, _, _, _, _, _⟩) rfl (fun K hK => ?_) AllReady.nil
    replace hK := Lib.hid hK
    go_simp
    refine hK.out _ _ ?_
    clear hK K
    try simp only [Act.put, List.setIfInBounds_toArray, List.set_cons_zero, List.set_cons_succ]
    refine wpAny_ready (rs := [8]) (by kernel_rfl) (by simp) ?_
    refine AllReady.cons (o := ⟨some 31, _, _, _, _, _⟩) rfl (fun K hK => ?_) AllReady.nil
    replace hK := Lib.hid hK
    refine mailLay.step_push (by rfl) (.tmp 24) (.tmp 30) (by rfl) (w.heap.size + 2) w2.drew _ p.m [⟨mf, mt, md, ms⟩] _ w2.heap.size 1 1 (by rfl) (by rfl) rfl rfl rfl HO2.out HL1.out HL2.out hs3 ?_; intro v3 w3 HR3 HT3 hs4; generalize p.m ++ [⟨mf, mt, md, ms⟩] = l3 at *; obtain ⟨A3, c3, hv⟩ := HR3.out.shape; subst hv; have HP3 := Lib.hid (HP2.out.turned HT3.out (by decide)); have HB3 := Lib.hid (below_turns HB2.out HT3.out (Nat.le_add_right _ _)); have HQ3 := Lib.hid (HR2.out.turned HT3.out (by decide)); have HP4 := Lib.hid (pc_mails (some ⟨g, 0, none⟩) A3 p.m.length c1 l3.length c3 p.s ▸ HP3.out.set_ 0 (.slice A3 l3.length c3)); have HQ4 := Lib.hid (HQ3.out.far (p := ⟨w.heap.size, 0, none⟩) (by simp) (.slice A3 l3.length c3)); have HT4 := Lib.hid (turns_cell HP3.out (Nat.le_refl w.heap.size) 0 (.slice A3 l3.length c3)); obtain ⟨x3, y3⟩ := Blk.one HP3 0 (v := .slice (some ⟨g, 0, none⟩) p.m.length c1) rfl; clear HT3
    refine hK.out _ _ ?_
    clear hK K
    try simp only [Act.put, List.setIfInBounds_toArray, List.set_cons_zero, List.set_cons_succ]
    refine wpAny_take (i := 9) (oi := ⟨some 32, _, _, _, _, _⟩) (v := ?_) rfl (by kernel_rfl) (by kernel_rfl) (by kernel_rfl) (fun _ _ _ h => h) (Or.inl ⟨by rfl, ?_⟩) ?_
    rotate_left
    · (intro w; go_simp; try with_reducible rfl)
    try simp only [Act.put, List.setIfInBounds_toArray, List.set_cons_zero, List.set_cons_succ]
    refine wpAny_ready (rs := [10]) (by kernel_rfl) (by simp) ?_
    refine AllReady.cons (o := ⟨none, _, _, _, _, _⟩) rfl (fun K hK => ?_) AllReady.nil
    replace hK := Lib.hid hK
    go_simp
    refine hK.out _ _ ?_
    clear hK K
    try simp only [Act.put, List.setIfInBounds_toArray, List.set_cons_zero, List.set_cons_succ]
    refine wpAny_done (by kernel_rfl) ?_ _
    rotate_left
    all_goals
      go_wp2_with (first | refine wpList_lp rfl _ rfl HP4 rfl ?_ | refine wpList_sp rfl _ _ rfl HQ4 rfl rfl (Nat.le_add_right w.heap.size 1) ?_)
      intro w5 HS
      go_wp2_with fail
      refine ret_pe Try.results22 rfl rfl rfl HS.out.blk ?_
      rw [HE.out]
      exact IsPE.px ⟨A3, c3, rfl, ((HR3.out.turned ne_mp HT4.out).turned ne_mp HS.out.turns).mono (Nat.le_add_right _ 2), below_turns (below_turns HB3.out HT4.out (Nat.le_refl _)) HS.out.turns (Nat.le_refl _)⟩
end Go.Proofs.Ytkajnmlglgjocaa
