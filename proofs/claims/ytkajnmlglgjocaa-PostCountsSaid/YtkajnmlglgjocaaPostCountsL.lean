/-
  The law PostCounts: it returns true whatever is handed in.
  No condition but the form's own of a slice of calls: its numbers fit their kinds.
-/
import Derived.Test.YtkajnmlglgjocaaPostGood
import Derived.WalkKit
import Derived.WalkSpells
import Derived.WalkLawsBesides
import Derived.Handy
import Derived.Deep.QuietTactic
import Derived.BigQuiet
import Derived.Deep.RegionWith
import Derived.Deep.RegionHeld3
import Derived.Deep.Draws
import Derived.Lib.Hide
import Derived.Lib.LazyBuf
namespace Go.Proofs.Ytkajnmlglgjocaa
open Go.RowKit


/-- What a step does to the number of messages, case by case. -/
theorem counts_is {p q : Pst.P} {x : Pst.Op} {mm : Pst.Mail} {ar : Bool} {er : Int} (h : Pst.step p x = (q, mm, ar, er)) :
    ((er == 0) = false ∧ q.m.length = p.m.length) ∨ (er = 0 ∧ x.k = 1 ∧ q.m.length = p.m.length + 1) ∨ (er = 0 ∧ x.k = 4 ∧ q.m.length = p.m.length + 1) ∨
    (er = 0 ∧ x.k = 2 ∧ q.m.length + 1 = p.m.length) ∨ (er = 0 ∧ x.k = 3 ∧ q.m.length + 1 = p.m.length) ∨
    (er = 0 ∧ (x.k == 1) = false ∧ (x.k == 2) = false ∧ (x.k == 3) = false ∧ (x.k == 4) = false ∧ q.m.length = p.m.length) := by
  obtain ⟨h1, h2⟩ := Pst.step_len p x
  rw [h] at h1 h2
  simp only at h1 h2
  by_cases he : er = 0
  · by_cases k1 : x.k = 1
    · exact .inr (.inl ⟨he, k1, by simp [he, k1] at h1; exact h1⟩)
    by_cases k4 : x.k = 4
    · exact .inr (.inr (.inl ⟨he, k4, by simp [he, k4] at h1; exact h1⟩))
    by_cases k2 : x.k = 2
    · have := h2 he (.inl k2)
      exact .inr (.inr (.inr (.inl ⟨he, k2, by simp [he, k2] at h1; omega⟩)))
    by_cases k3 : x.k = 3
    · have := h2 he (.inr k3)
      exact .inr (.inr (.inr (.inr (.inl ⟨he, k3, by simp [he, k3] at h1; omega⟩))))
    exact .inr (.inr (.inr (.inr (.inr ⟨he, by simpa using k1, by simpa using k2, by simpa using k3, by simpa using k4, by simp [k1, k2, k3, k4] at h1; exact h1⟩))))
  · exact .inl ⟨by simpa using he, by simp [he] at h1; exact h1⟩
set_option maxRecDepth 100000 in
set_option maxHeartbeats 6400000 in
theorem counts_yes (A0 : Option Addr) (c0 : Nat) (l : List Pst.Op) (w : World) (hl : l.length ≤ 9223372036854775807) (hi : opLay.Reads w w.heap.size A0 l) (hw : ∀ x ∈ l, 0 ≤ x.b ∧ x.b < 256) :
    Lift.Yes Try.prog 6 #[.slice A0 l.length c0] w := by
  unfold Lift.Yes
  obtain ⟨HP0, HB0, hs0⟩ := made1 w 25 (pc none 0 0 fun _ => 0)
  have HG0 : Hid (Good w w.heap.size (w.alloc (.cells (pc none 0 0 fun _ => 0) 25)) none 0 [] 0) := Lib.hid (.inl ⟨Lay.Own.none _ _, .inr rfl⟩)
  have HI := Lib.hid hi
  have HGet : Hid (∀ k, k < l.length → ∃ x, l[k]? = some x ∧ 0 ≤ x.b ∧ x.b < 256) := Lib.hid fun k hk => ⟨l[k], List.getElem?_eq_getElem hk, hw _ (List.getElem_mem hk)⟩
  clear hi hw
  generalize hn : l.length = n at *
  have HN := Lib.hid hn
  clear hn
  unfold pc at HP0 HB0 HG0
  unfold pc at hs0
  go_enter Try.func6, Try.ntmps6
  go_wp2_with fail
  go_loopw [4, 5] (fun vn vi wr => ∃ (k : Nat) (p : Pst.P) (A : Option Addr) (c r : Nat), k ≤ n ∧ k ≤ 300 ∧ p.m.length ≤ k ∧ vi = .int .i64 k ∧ vn = .int .i64 (p.m.length : Nat) ∧ Hid (Blk wr w.heap.size 25 (pc A p.m.length c p.s)) ∧ Hid (Good w w.heap.size wr A c p.m r) ∧ r < wr.heap.size ∧ Hid (Below w.heap.size w wr)) (fun _ vi _ => n - (intOf vi).toNat)
  case atStart => exact ⟨0, Pst.empty, none, 0, 0, Nat.zero_le _, by decide, Nat.zero_le _, rfl, rfl, HP0, HG0, by simp, HB0⟩
  case round =>
    obtain ⟨k, p, A, c, r, hkn, hk300, hpk, rfl, rfl, HP, HG, hr, HB⟩ := hrel
    clear HP0 HG0 HB0 hs0
    have hsz := HB.out.size
    have hpw := HP.out.lt
    have hk0 : (0 : Int) ≤ (k : Int) := by omega
    by_cases hc : k < n ∧ k < 300
    · obtain ⟨hlt, hlt3⟩ := hc
      obtain ⟨x, hx, hb1, hb2⟩ := HGet.out k hlt
      obtain ⟨bl, ol, rfl, hbl, hcl⟩ := HI.out (by rw [HN.out]; omega)
      have hk1 : (k : Int) < (n : Int) := by omega
      have hk3 : (k : Int) < 300 := by omega
      have HPf : Hid (∀ W, Below wr.drew.heap.size wr.drew W → Hid (Blk W w.heap.size 25 (pc A p.m.length c p.s))) := Lib.hid fun W hW => Lib.hid (Blk.below (w := wr.drew) HP.out hW hpw)
      have HOf : Hid (∀ W, Below wr.drew.heap.size wr.drew W → Hid (opLay.At W bl ol k x)) := Lib.hid fun W hW => Lib.hid ((hcl k x hx).keep fun q hq => ((HB.out.drew.trans (hW.mono hsz)).cell (by rw [hq]; exact hbl)))
      have HX := do_good x ⟨hb1, hb2⟩ (w0 := w) (W0 := wr.drew) (base := w.heap.size) HB.out.drew hsz (HG.out.later ((Below.refl _ wr).drew)) hr (by omega)
      obtain ⟨⟨q, mm, ar, er⟩, hst⟩ : ∃ r, Pst.step p x = r := ⟨_, rfl⟩
      rw [hst] at HX
      have HC := Lib.hid (counts_is hst)
      have hql := Pst.step_le p x
      rw [hst] at hql
      replace hql : q.m.length ≤ p.m.length + 1 := hql
      have HX0 : Hid (∀ W, Below w.heap.size w W → W.cell? ⟨bl, ol + k * 8, none⟩ = some (.int .i64 x.k)) := Lib.hid fun W hW => ((hW.cell (p := ⟨bl, ol + k * 8, none⟩) hbl)).trans (at_op (hcl k x hx)).1
      clear hst hcl hx hb1 hb2 HI HGet
      go_wp2_with fail
      go_cut [6, 7, 8, 9] (fun sQ sM sOk sE wx => ∃ (gQ gM : Nat) (A1 : Option Addr) (c1 k1 : Nat), sQ = .pointer (some ⟨gQ, 0, none⟩) ∧ sM = .pointer (some ⟨gM, 0, none⟩) ∧ sOk = .bool ar ∧ sE = .int .i64 er ∧ Hid (Done w wr.drew w.heap.size q mm A1 c1 k1 gQ gM wx))
      case first =>
        refine wp_region_held_drew (S := (fun W => Hid (Below wr.drew.heap.size wr.drew W))) (by kernel_rfl) ?_ (fun hHeld => ?_)
        · (try dsimp only); exact Lib.hid (Below.refl _ _)
        refine wpAnyH_take (i := 0) (oi := ⟨some 21, _, _, _, _, _⟩) (v := ?_) rfl (by kernel_rfl) (by kernel_rfl) (by kernel_rfl) (fun _ _ _ h => h) (Or.inl ⟨by rfl, ?_⟩) (by assumption) ?_
        rotate_left
        · (intro w hSw; refine Eq.trans (exec_lp (HPf.out w hSw.out) (by rfl) (by rfl)) ?_; with_reducible rfl)
        try simp only [Act.put, List.setIfInBounds_toArray, List.set_cons_zero, List.set_cons_succ]
        refine wpAnyH_take (i := 1) (oi := ⟨some 22, _, _, _, _, _⟩) (v := ?_) rfl (by kernel_rfl) (by kernel_rfl) (by kernel_rfl) (fun _ _ _ h => h) (Or.inl ⟨by rfl, ?_⟩) (by assumption) ?_
        rotate_left
        · (intro w hSw; (try dsimp only at hSw); go_simp; try with_reducible rfl)
        try simp only [Act.put, List.setIfInBounds_toArray, List.set_cons_zero, List.set_cons_succ]
        refine wpAnyH_take (i := 2) (oi := ⟨some 23, _, _, _, _, _⟩) (v := ?_) rfl (by kernel_rfl) (by kernel_rfl) (by kernel_rfl) (fun _ _ _ h => h) (Or.inl ⟨by rfl, ?_⟩) (by assumption) ?_
        rotate_left
        · (intro w hSw; (try dsimp only at hSw); go_simp; try with_reducible rfl)
        try simp only [Act.put, List.setIfInBounds_toArray, List.set_cons_zero, List.set_cons_succ]
        refine wpAnyH_take (i := 3) (oi := ⟨some 24, _, _, _, _, _⟩) (v := ?_) rfl (by kernel_rfl) (by kernel_rfl) (by kernel_rfl) (fun _ _ _ h => h) (Or.inl ⟨by rfl, ?_⟩) (by assumption) ?_
        rotate_left
        · (intro w hSw; (try dsimp only at hSw); go_simp; try with_reducible rfl)
        try simp only [Act.put, List.setIfInBounds_toArray, List.set_cons_zero, List.set_cons_succ]
        refine wpAnyH_take (i := 4) (oi := ⟨some 25, _, _, _, _, _⟩) (v := ?_) rfl (by kernel_rfl) (by kernel_rfl) (by kernel_rfl) (fun _ _ _ h => h) (Or.inl ⟨by rfl, ?_⟩) (by assumption) ?_
        rotate_left
        · (intro w hSw; refine Eq.trans (exec_lo (HOf.out w hSw.out) (by rfl) (by rfl)) ?_; with_reducible rfl)
        try simp only [Act.put, List.setIfInBounds_toArray, List.set_cons_zero, List.set_cons_succ]
        refine wpAnyH_ready (rs := [5, 11, 12]) (by kernel_rfl) (by simp) ?_
        refine AllReadyH.cons (o := ⟨some 26, _, _, _, _, _⟩) rfl (fun K hK => ?_) (AllReadyH.cons (o := ⟨some 6, _, _, _, _, _⟩) rfl (fun K hK => ?_) (AllReadyH.cons (o := ⟨some 7, _, _, _, _, _⟩) rfl (fun K hK => ?_) AllReadyH.nil))
        go_simp
        go_at_call 8
        refine (HX.out _ hHeld.out).mono ?_; rintro e wA ⟨A1, c1, k1, rfl, g1, n1, b1⟩; have HG := Lib.hid g1; (try have HQ := Blk.hb HQ b1); (try have HM := Blk.hb HM b1); have hzA := b1.size; have hkA : k1 < wA.heap.size := (by have := hHeld.out.size; omega); have hs := Lib.hid (Lift.then2 hHeld.out b1); clear g1 b1
        refine hK.out _ _ hs (fun hHeld => ?_)
        clear hK K
        try simp only 
        refine wpAnyH_take (i := 6) (oi := ⟨some 20, _, _, _, _, _⟩) (v := ?_) rfl (by kernel_rfl) (by kernel_rfl) (by kernel_rfl) (fun _ _ _ h => h) (Or.inl ⟨by rfl, ?_⟩) (by assumption) ?_
        rotate_left
        · (intro w hSw; (try dsimp only at hSw); go_simp; try with_reducible rfl)
        try simp only [Act.put, List.setIfInBounds_toArray, List.set_cons_zero, List.set_cons_succ]
        refine wpAnyH_take (i := 7) (oi := ⟨some 27, _, _, _, _, _⟩) (v := ?_) rfl (by kernel_rfl) (by kernel_rfl) (by kernel_rfl) (fun _ _ _ h => h) (Or.inl ⟨by rfl, ?_⟩) (by assumption) ?_
        rotate_left
        · (intro w hSw; (try dsimp only at hSw); go_simp; try with_reducible rfl)
        try simp only [Act.put, List.setIfInBounds_toArray, List.set_cons_zero, List.set_cons_succ]
        refine wpAnyH_take (i := 8) (oi := ⟨some 28, _, _, _, _, _⟩) (v := ?_) rfl (by kernel_rfl) (by kernel_rfl) (by kernel_rfl) (fun _ _ _ h => h) (Or.inl ⟨by rfl, ?_⟩) (by assumption) ?_
        rotate_left
        · (intro w hSw; (try dsimp only at hSw); go_simp; try with_reducible rfl)
        try simp only [Act.put, List.setIfInBounds_toArray, List.set_cons_zero, List.set_cons_succ]
        refine wpAnyH_take (i := 9) (oi := ⟨some 29, _, _, _, _, _⟩) (v := ?_) rfl (by kernel_rfl) (by kernel_rfl) (by kernel_rfl) (fun _ _ _ h => h) (Or.inl ⟨by rfl, ?_⟩) (by assumption) ?_
        rotate_left
        · (intro w hSw; (try dsimp only at hSw); go_simp; try with_reducible rfl)
        try simp only [Act.put, List.setIfInBounds_toArray, List.set_cons_zero, List.set_cons_succ]
        refine wpAnyH_take (i := 10) (oi := ⟨some 30, _, _, _, _, _⟩) (v := ?_) rfl (by kernel_rfl) (by kernel_rfl) (by kernel_rfl) (fun _ _ _ h => h) (Or.inl ⟨by rfl, ?_⟩) (by assumption) ?_
        rotate_left
        · (intro w hSw; (try dsimp only at hSw); go_simp; try with_reducible rfl)
        try simp only [Act.put, List.setIfInBounds_toArray, List.set_cons_zero, List.set_cons_succ]
        refine wpAnyH_ready (rs := [11, 12]) (by kernel_rfl) (by simp) ?_
        refine AllReadyH.cons (o := ⟨some 6, _, _, _, _, _⟩) rfl (fun K hK => ?_) (AllReadyH.cons (o := ⟨some 7, _, _, _, _, _⟩) rfl (fun K hK => ?_) AllReadyH.nil)
        refine step_ap (by rfl) (by rfl) ?_; intro wB gQ HQ hb1 hzB hq1 hq2; (try have HG := Lib.hid (HG.out.later hb1.out)); (try have HM := Blk.hb HM hb1.out); have hqb : wr.drew.heap.size ≤ gQ := Nat.le_trans hHeld.out.size hq1; have hs := Lib.hid (Lift.then2 hHeld.out hb1.out); clear hb1
        refine hK.out _ _ hs (fun hHeld => ?_)
        clear hK K
        try simp only [Act.put, List.setIfInBounds_toArray, List.set_cons_zero, List.set_cons_succ]
        refine wpAnyH_ready (rs := [12]) (by kernel_rfl) (by simp) ?_
        refine AllReadyH.cons (o := ⟨some 7, _, _, _, _, _⟩) rfl (fun K hK => ?_) AllReadyH.nil
        refine step_am (by rfl) (by rfl) ?_; intro wC gM HM hb1 hzC hm1 hm2; (try have HG := Lib.hid (HG.out.later hb1.out)); (try have HQ := Blk.hb HQ hb1.out); have hmb : wr.drew.heap.size ≤ gM := Nat.le_trans hHeld.out.size hm1; have hs := Lib.hid (Lift.then2 hHeld.out hb1.out); clear hb1
        refine hK.out _ _ hs (fun hHeld => ?_)
        clear hK K
        try simp only [Act.put, List.setIfInBounds_toArray, List.set_cons_zero, List.set_cons_succ]
        refine wpAnyH_ready (rs := [13]) (by kernel_rfl) (by simp) ?_
        refine AllReadyH.cons (o := ⟨none, _, _, _, _, _⟩) rfl (fun K hK => ?_) AllReadyH.nil
        refine step_sp (by rfl) (.tmp 6) (.tmp 27) (by rfl) HQ (by rfl) (by rfl) hqb ?_; intro wD HSq; have HM := Lib.hid (HM.out.turned HSq.out.turns (by decide)); have HG := Lib.hid (HG.out.turned HSq.out.turns); have hzD := HSq.out.size; have hs := Lib.hid (below_turns hHeld.out HSq.out.turns (Nat.le_refl _))
        refine hK.out _ _ hs (fun hHeld => ?_)
        clear hK K
        try simp only [Act.put]
        refine wpAnyH_ready (rs := [14]) (by kernel_rfl) (by simp) ?_
        refine AllReadyH.cons (o := ⟨none, _, _, _, _, _⟩) rfl (fun K hK => ?_) AllReadyH.nil
        refine step_sm (by rfl) (.tmp 7) (.tmp 28) (by rfl) Pst.noMail mm HM (by rfl) (by rfl) hmb ?_; intro wE HSm; have HQ := Lib.hid (HSq.out.blk.turned HSm.out.turns (by decide)); have HG := Lib.hid (HG.out.apart HSm.out (by omega)); have hzE := HSm.out.size; have hs := Lib.hid (below_turns hHeld.out HSm.out.turns (Nat.le_refl _))
        refine hK.out _ _ hs (fun hHeld => ?_)
        clear hK K
        try simp only [Act.put]
        refine wpAnyH_take (i := 15) (oi := ⟨some 8, _, _, _, _, _⟩) (v := ?_) rfl (by kernel_rfl) (by kernel_rfl) (by kernel_rfl) (fun _ _ _ h => h) (Or.inl ⟨by rfl, ?_⟩) (by assumption) ?_
        rotate_left
        · (intro w hSw; (try dsimp only at hSw); go_simp; try with_reducible rfl)
        try simp only [Act.put, List.setIfInBounds_toArray, List.set_cons_zero, List.set_cons_succ]
        refine wpAnyH_take (i := 16) (oi := ⟨some 9, _, _, _, _, _⟩) (v := ?_) rfl (by kernel_rfl) (by kernel_rfl) (by kernel_rfl) (fun _ _ _ h => h) (Or.inl ⟨by rfl, ?_⟩) (by assumption) ?_
        rotate_left
        · (intro w hSw; (try dsimp only at hSw); go_simp; try with_reducible rfl)
        try simp only [Act.put, List.setIfInBounds_toArray, List.set_cons_zero, List.set_cons_succ]
        refine wpAnyH_done (by kernel_rfl) ?_ _
        rotate_left
        refine step_am (by rfl) (by rfl) ?_; intro wC gM HM hb1 hzC hm1 hm2; (try have HG := Lib.hid (HG.out.later hb1.out)); (try have HQ := Blk.hb HQ hb1.out); have hmb : wr.drew.heap.size ≤ gM := Nat.le_trans hHeld.out.size hm1; have hs := Lib.hid (Lift.then2 hHeld.out hb1.out); clear hb1
        refine hK.out _ _ hs (fun hHeld => ?_)
        clear hK K
        try simp only [Act.put, List.setIfInBounds_toArray, List.set_cons_zero, List.set_cons_succ]
        refine wpAnyH_ready (rs := [11]) (by kernel_rfl) (by simp) ?_
        refine AllReadyH.cons (o := ⟨some 6, _, _, _, _, _⟩) rfl (fun K hK => ?_) AllReadyH.nil
        refine step_ap (by rfl) (by rfl) ?_; intro wB gQ HQ hb1 hzB hq1 hq2; (try have HG := Lib.hid (HG.out.later hb1.out)); (try have HM := Blk.hb HM hb1.out); have hqb : wr.drew.heap.size ≤ gQ := Nat.le_trans hHeld.out.size hq1; have hs := Lib.hid (Lift.then2 hHeld.out hb1.out); clear hb1
        refine hK.out _ _ hs (fun hHeld => ?_)
        clear hK K
        try simp only [Act.put, List.setIfInBounds_toArray, List.set_cons_zero, List.set_cons_succ]
        refine wpAnyH_ready (rs := [13]) (by kernel_rfl) (by simp) ?_
        refine AllReadyH.cons (o := ⟨none, _, _, _, _, _⟩) rfl (fun K hK => ?_) AllReadyH.nil
        refine step_sp (by rfl) (.tmp 6) (.tmp 27) (by rfl) HQ (by rfl) (by rfl) hqb ?_; intro wD HSq; have HM := Lib.hid (HM.out.turned HSq.out.turns (by decide)); have HG := Lib.hid (HG.out.turned HSq.out.turns); have hzD := HSq.out.size; have hs := Lib.hid (below_turns hHeld.out HSq.out.turns (Nat.le_refl _))
        refine hK.out _ _ hs (fun hHeld => ?_)
        clear hK K
        try simp only [Act.put]
        refine wpAnyH_ready (rs := [14]) (by kernel_rfl) (by simp) ?_
        refine AllReadyH.cons (o := ⟨none, _, _, _, _, _⟩) rfl (fun K hK => ?_) AllReadyH.nil
        refine step_sm (by rfl) (.tmp 7) (.tmp 28) (by rfl) Pst.noMail mm HM (by rfl) (by rfl) hmb ?_; intro wE HSm; have HQ := Lib.hid (HSq.out.blk.turned HSm.out.turns (by decide)); have HG := Lib.hid (HG.out.apart HSm.out (by omega)); have hzE := HSm.out.size; have hs := Lib.hid (below_turns hHeld.out HSm.out.turns (Nat.le_refl _))
        refine hK.out _ _ hs (fun hHeld => ?_)
        clear hK K
        try simp only [Act.put]
        refine wpAnyH_take (i := 15) (oi := ⟨some 8, _, _, _, _, _⟩) (v := ?_) rfl (by kernel_rfl) (by kernel_rfl) (by kernel_rfl) (fun _ _ _ h => h) (Or.inl ⟨by rfl, ?_⟩) (by assumption) ?_
        rotate_left
        · (intro w hSw; (try dsimp only at hSw); go_simp; try with_reducible rfl)
        try simp only [Act.put, List.setIfInBounds_toArray, List.set_cons_zero, List.set_cons_succ]
        refine wpAnyH_take (i := 16) (oi := ⟨some 9, _, _, _, _, _⟩) (v := ?_) rfl (by kernel_rfl) (by kernel_rfl) (by kernel_rfl) (fun _ _ _ h => h) (Or.inl ⟨by rfl, ?_⟩) (by assumption) ?_
        rotate_left
        · (intro w hSw; (try dsimp only at hSw); go_simp; try with_reducible rfl)
        try simp only [Act.put, List.setIfInBounds_toArray, List.set_cons_zero, List.set_cons_succ]
        refine wpAnyH_done (by kernel_rfl) ?_ _
        rotate_left
        refine step_ap (by rfl) (by rfl) ?_; intro wB gQ HQ hb1 hzB hq1 hq2; (try have HG := Lib.hid (HG.out.later hb1.out)); (try have HM := Blk.hb HM hb1.out); have hqb : wr.drew.heap.size ≤ gQ := Nat.le_trans hHeld.out.size hq1; have hs := Lib.hid (Lift.then2 hHeld.out hb1.out); clear hb1
        refine hK.out _ _ hs (fun hHeld => ?_)
        clear hK K
        try simp only [Act.put, List.setIfInBounds_toArray, List.set_cons_zero, List.set_cons_succ]
        refine wpAnyH_ready (rs := [5, 12]) (by kernel_rfl) (by simp) ?_
        refine AllReadyH.cons (o := ⟨some 26, _, _, _, _, _⟩) rfl (fun K hK => ?_) (AllReadyH.cons (o := ⟨some 7, _, _, _, _, _⟩) rfl (fun K hK => ?_) AllReadyH.nil)
        go_simp
        go_at_call 8
        refine (HX.out _ hHeld.out).mono ?_; rintro e wA ⟨A1, c1, k1, rfl, g1, n1, b1⟩; have HG := Lib.hid g1; (try have HQ := Blk.hb HQ b1); (try have HM := Blk.hb HM b1); have hzA := b1.size; have hkA : k1 < wA.heap.size := (by have := hHeld.out.size; omega); have hs := Lib.hid (Lift.then2 hHeld.out b1); clear g1 b1
        refine hK.out _ _ hs (fun hHeld => ?_)
        clear hK K
        try simp only 
        refine wpAnyH_take (i := 6) (oi := ⟨some 20, _, _, _, _, _⟩) (v := ?_) rfl (by kernel_rfl) (by kernel_rfl) (by kernel_rfl) (fun _ _ _ h => h) (Or.inl ⟨by rfl, ?_⟩) (by assumption) ?_
        rotate_left
        · (intro w hSw; (try dsimp only at hSw); go_simp; try with_reducible rfl)
        try simp only [Act.put, List.setIfInBounds_toArray, List.set_cons_zero, List.set_cons_succ]
        refine wpAnyH_take (i := 7) (oi := ⟨some 27, _, _, _, _, _⟩) (v := ?_) rfl (by kernel_rfl) (by kernel_rfl) (by kernel_rfl) (fun _ _ _ h => h) (Or.inl ⟨by rfl, ?_⟩) (by assumption) ?_
        rotate_left
        · (intro w hSw; (try dsimp only at hSw); go_simp; try with_reducible rfl)
        try simp only [Act.put, List.setIfInBounds_toArray, List.set_cons_zero, List.set_cons_succ]
        refine wpAnyH_take (i := 8) (oi := ⟨some 28, _, _, _, _, _⟩) (v := ?_) rfl (by kernel_rfl) (by kernel_rfl) (by kernel_rfl) (fun _ _ _ h => h) (Or.inl ⟨by rfl, ?_⟩) (by assumption) ?_
        rotate_left
        · (intro w hSw; (try dsimp only at hSw); go_simp; try with_reducible rfl)
        try simp only [Act.put, List.setIfInBounds_toArray, List.set_cons_zero, List.set_cons_succ]
        refine wpAnyH_take (i := 9) (oi := ⟨some 29, _, _, _, _, _⟩) (v := ?_) rfl (by kernel_rfl) (by kernel_rfl) (by kernel_rfl) (fun _ _ _ h => h) (Or.inl ⟨by rfl, ?_⟩) (by assumption) ?_
        rotate_left
        · (intro w hSw; (try dsimp only at hSw); go_simp; try with_reducible rfl)
        try simp only [Act.put, List.setIfInBounds_toArray, List.set_cons_zero, List.set_cons_succ]
        refine wpAnyH_take (i := 10) (oi := ⟨some 30, _, _, _, _, _⟩) (v := ?_) rfl (by kernel_rfl) (by kernel_rfl) (by kernel_rfl) (fun _ _ _ h => h) (Or.inl ⟨by rfl, ?_⟩) (by assumption) ?_
        rotate_left
        · (intro w hSw; (try dsimp only at hSw); go_simp; try with_reducible rfl)
        try simp only [Act.put, List.setIfInBounds_toArray, List.set_cons_zero, List.set_cons_succ]
        refine wpAnyH_ready (rs := [12]) (by kernel_rfl) (by simp) ?_
        refine AllReadyH.cons (o := ⟨some 7, _, _, _, _, _⟩) rfl (fun K hK => ?_) AllReadyH.nil
        refine step_am (by rfl) (by rfl) ?_; intro wC gM HM hb1 hzC hm1 hm2; (try have HG := Lib.hid (HG.out.later hb1.out)); (try have HQ := Blk.hb HQ hb1.out); have hmb : wr.drew.heap.size ≤ gM := Nat.le_trans hHeld.out.size hm1; have hs := Lib.hid (Lift.then2 hHeld.out hb1.out); clear hb1
        refine hK.out _ _ hs (fun hHeld => ?_)
        clear hK K
        try simp only [Act.put, List.setIfInBounds_toArray, List.set_cons_zero, List.set_cons_succ]
        refine wpAnyH_ready (rs := [13]) (by kernel_rfl) (by simp) ?_
        refine AllReadyH.cons (o := ⟨none, _, _, _, _, _⟩) rfl (fun K hK => ?_) AllReadyH.nil
        refine step_sp (by rfl) (.tmp 6) (.tmp 27) (by rfl) HQ (by rfl) (by rfl) hqb ?_; intro wD HSq; have HM := Lib.hid (HM.out.turned HSq.out.turns (by decide)); have HG := Lib.hid (HG.out.turned HSq.out.turns); have hzD := HSq.out.size; have hs := Lib.hid (below_turns hHeld.out HSq.out.turns (Nat.le_refl _))
        refine hK.out _ _ hs (fun hHeld => ?_)
        clear hK K
        try simp only [Act.put]
        refine wpAnyH_ready (rs := [14]) (by kernel_rfl) (by simp) ?_
        refine AllReadyH.cons (o := ⟨none, _, _, _, _, _⟩) rfl (fun K hK => ?_) AllReadyH.nil
        refine step_sm (by rfl) (.tmp 7) (.tmp 28) (by rfl) Pst.noMail mm HM (by rfl) (by rfl) hmb ?_; intro wE HSm; have HQ := Lib.hid (HSq.out.blk.turned HSm.out.turns (by decide)); have HG := Lib.hid (HG.out.apart HSm.out (by omega)); have hzE := HSm.out.size; have hs := Lib.hid (below_turns hHeld.out HSm.out.turns (Nat.le_refl _))
        refine hK.out _ _ hs (fun hHeld => ?_)
        clear hK K
        try simp only [Act.put]
        refine wpAnyH_take (i := 15) (oi := ⟨some 8, _, _, _, _, _⟩) (v := ?_) rfl (by kernel_rfl) (by kernel_rfl) (by kernel_rfl) (fun _ _ _ h => h) (Or.inl ⟨by rfl, ?_⟩) (by assumption) ?_
        rotate_left
        · (intro w hSw; (try dsimp only at hSw); go_simp; try with_reducible rfl)
        try simp only [Act.put, List.setIfInBounds_toArray, List.set_cons_zero, List.set_cons_succ]
        refine wpAnyH_take (i := 16) (oi := ⟨some 9, _, _, _, _, _⟩) (v := ?_) rfl (by kernel_rfl) (by kernel_rfl) (by kernel_rfl) (fun _ _ _ h => h) (Or.inl ⟨by rfl, ?_⟩) (by assumption) ?_
        rotate_left
        · (intro w hSw; (try dsimp only at hSw); go_simp; try with_reducible rfl)
        try simp only [Act.put, List.setIfInBounds_toArray, List.set_cons_zero, List.set_cons_succ]
        refine wpAnyH_done (by kernel_rfl) ?_ _
        rotate_left
        refine step_am (by rfl) (by rfl) ?_; intro wC gM HM hb1 hzC hm1 hm2; (try have HG := Lib.hid (HG.out.later hb1.out)); (try have HQ := Blk.hb HQ hb1.out); have hmb : wr.drew.heap.size ≤ gM := Nat.le_trans hHeld.out.size hm1; have hs := Lib.hid (Lift.then2 hHeld.out hb1.out); clear hb1
        refine hK.out _ _ hs (fun hHeld => ?_)
        clear hK K
        try simp only [Act.put, List.setIfInBounds_toArray, List.set_cons_zero, List.set_cons_succ]
        refine wpAnyH_ready (rs := [5]) (by kernel_rfl) (by simp) ?_
        refine AllReadyH.cons (o := ⟨some 26, _, _, _, _, _⟩) rfl (fun K hK => ?_) AllReadyH.nil
        go_simp
        go_at_call 8
        refine (HX.out _ hHeld.out).mono ?_; rintro e wA ⟨A1, c1, k1, rfl, g1, n1, b1⟩; have HG := Lib.hid g1; (try have HQ := Blk.hb HQ b1); (try have HM := Blk.hb HM b1); have hzA := b1.size; have hkA : k1 < wA.heap.size := (by have := hHeld.out.size; omega); have hs := Lib.hid (Lift.then2 hHeld.out b1); clear g1 b1
        refine hK.out _ _ hs (fun hHeld => ?_)
        clear hK K
        try simp only 
        refine wpAnyH_take (i := 6) (oi := ⟨some 20, _, _, _, _, _⟩) (v := ?_) rfl (by kernel_rfl) (by kernel_rfl) (by kernel_rfl) (fun _ _ _ h => h) (Or.inl ⟨by rfl, ?_⟩) (by assumption) ?_
        rotate_left
        · (intro w hSw; (try dsimp only at hSw); go_simp; try with_reducible rfl)
        try simp only [Act.put, List.setIfInBounds_toArray, List.set_cons_zero, List.set_cons_succ]
        refine wpAnyH_take (i := 7) (oi := ⟨some 27, _, _, _, _, _⟩) (v := ?_) rfl (by kernel_rfl) (by kernel_rfl) (by kernel_rfl) (fun _ _ _ h => h) (Or.inl ⟨by rfl, ?_⟩) (by assumption) ?_
        rotate_left
        · (intro w hSw; (try dsimp only at hSw); go_simp; try with_reducible rfl)
        try simp only [Act.put, List.setIfInBounds_toArray, List.set_cons_zero, List.set_cons_succ]
        refine wpAnyH_take (i := 8) (oi := ⟨some 28, _, _, _, _, _⟩) (v := ?_) rfl (by kernel_rfl) (by kernel_rfl) (by kernel_rfl) (fun _ _ _ h => h) (Or.inl ⟨by rfl, ?_⟩) (by assumption) ?_
        rotate_left
        · (intro w hSw; (try dsimp only at hSw); go_simp; try with_reducible rfl)
        try simp only [Act.put, List.setIfInBounds_toArray, List.set_cons_zero, List.set_cons_succ]
        refine wpAnyH_take (i := 9) (oi := ⟨some 29, _, _, _, _, _⟩) (v := ?_) rfl (by kernel_rfl) (by kernel_rfl) (by kernel_rfl) (fun _ _ _ h => h) (Or.inl ⟨by rfl, ?_⟩) (by assumption) ?_
        rotate_left
        · (intro w hSw; (try dsimp only at hSw); go_simp; try with_reducible rfl)
        try simp only [Act.put, List.setIfInBounds_toArray, List.set_cons_zero, List.set_cons_succ]
        refine wpAnyH_take (i := 10) (oi := ⟨some 30, _, _, _, _, _⟩) (v := ?_) rfl (by kernel_rfl) (by kernel_rfl) (by kernel_rfl) (fun _ _ _ h => h) (Or.inl ⟨by rfl, ?_⟩) (by assumption) ?_
        rotate_left
        · (intro w hSw; (try dsimp only at hSw); go_simp; try with_reducible rfl)
        try simp only [Act.put, List.setIfInBounds_toArray, List.set_cons_zero, List.set_cons_succ]
        refine wpAnyH_ready (rs := [13]) (by kernel_rfl) (by simp) ?_
        refine AllReadyH.cons (o := ⟨none, _, _, _, _, _⟩) rfl (fun K hK => ?_) AllReadyH.nil
        refine step_sp (by rfl) (.tmp 6) (.tmp 27) (by rfl) HQ (by rfl) (by rfl) hqb ?_; intro wD HSq; have HM := Lib.hid (HM.out.turned HSq.out.turns (by decide)); have HG := Lib.hid (HG.out.turned HSq.out.turns); have hzD := HSq.out.size; have hs := Lib.hid (below_turns hHeld.out HSq.out.turns (Nat.le_refl _))
        refine hK.out _ _ hs (fun hHeld => ?_)
        clear hK K
        try simp only [Act.put]
        refine wpAnyH_ready (rs := [14]) (by kernel_rfl) (by simp) ?_
        refine AllReadyH.cons (o := ⟨none, _, _, _, _, _⟩) rfl (fun K hK => ?_) AllReadyH.nil
        refine step_sm (by rfl) (.tmp 7) (.tmp 28) (by rfl) Pst.noMail mm HM (by rfl) (by rfl) hmb ?_; intro wE HSm; have HQ := Lib.hid (HSq.out.blk.turned HSm.out.turns (by decide)); have HG := Lib.hid (HG.out.apart HSm.out (by omega)); have hzE := HSm.out.size; have hs := Lib.hid (below_turns hHeld.out HSm.out.turns (Nat.le_refl _))
        refine hK.out _ _ hs (fun hHeld => ?_)
        clear hK K
        try simp only [Act.put]
        refine wpAnyH_take (i := 15) (oi := ⟨some 8, _, _, _, _, _⟩) (v := ?_) rfl (by kernel_rfl) (by kernel_rfl) (by kernel_rfl) (fun _ _ _ h => h) (Or.inl ⟨by rfl, ?_⟩) (by assumption) ?_
        rotate_left
        · (intro w hSw; (try dsimp only at hSw); go_simp; try with_reducible rfl)
        try simp only [Act.put, List.setIfInBounds_toArray, List.set_cons_zero, List.set_cons_succ]
        refine wpAnyH_take (i := 16) (oi := ⟨some 9, _, _, _, _, _⟩) (v := ?_) rfl (by kernel_rfl) (by kernel_rfl) (by kernel_rfl) (fun _ _ _ h => h) (Or.inl ⟨by rfl, ?_⟩) (by assumption) ?_
        rotate_left
        · (intro w hSw; (try dsimp only at hSw); go_simp; try with_reducible rfl)
        try simp only [Act.put, List.setIfInBounds_toArray, List.set_cons_zero, List.set_cons_succ]
        refine wpAnyH_done (by kernel_rfl) ?_ _
        rotate_left
        refine step_am (by rfl) (by rfl) ?_; intro wC gM HM hb1 hzC hm1 hm2; (try have HG := Lib.hid (HG.out.later hb1.out)); (try have HQ := Blk.hb HQ hb1.out); have hmb : wr.drew.heap.size ≤ gM := Nat.le_trans hHeld.out.size hm1; have hs := Lib.hid (Lift.then2 hHeld.out hb1.out); clear hb1
        refine hK.out _ _ hs (fun hHeld => ?_)
        clear hK K
        try simp only [Act.put, List.setIfInBounds_toArray, List.set_cons_zero, List.set_cons_succ]
        refine wpAnyH_ready (rs := [5, 11]) (by kernel_rfl) (by simp) ?_
        refine AllReadyH.cons (o := ⟨some 26, _, _, _, _, _⟩) rfl (fun K hK => ?_) (AllReadyH.cons (o := ⟨some 6, _, _, _, _, _⟩) rfl (fun K hK => ?_) AllReadyH.nil)
        go_simp
        go_at_call 8
        refine (HX.out _ hHeld.out).mono ?_; rintro e wA ⟨A1, c1, k1, rfl, g1, n1, b1⟩; have HG := Lib.hid g1; (try have HQ := Blk.hb HQ b1); (try have HM := Blk.hb HM b1); have hzA := b1.size; have hkA : k1 < wA.heap.size := (by have := hHeld.out.size; omega); have hs := Lib.hid (Lift.then2 hHeld.out b1); clear g1 b1
        refine hK.out _ _ hs (fun hHeld => ?_)
        clear hK K
        try simp only 
        refine wpAnyH_take (i := 6) (oi := ⟨some 20, _, _, _, _, _⟩) (v := ?_) rfl (by kernel_rfl) (by kernel_rfl) (by kernel_rfl) (fun _ _ _ h => h) (Or.inl ⟨by rfl, ?_⟩) (by assumption) ?_
        rotate_left
        · (intro w hSw; (try dsimp only at hSw); go_simp; try with_reducible rfl)
        try simp only [Act.put, List.setIfInBounds_toArray, List.set_cons_zero, List.set_cons_succ]
        refine wpAnyH_take (i := 7) (oi := ⟨some 27, _, _, _, _, _⟩) (v := ?_) rfl (by kernel_rfl) (by kernel_rfl) (by kernel_rfl) (fun _ _ _ h => h) (Or.inl ⟨by rfl, ?_⟩) (by assumption) ?_
        rotate_left
        · (intro w hSw; (try dsimp only at hSw); go_simp; try with_reducible rfl)
        try simp only [Act.put, List.setIfInBounds_toArray, List.set_cons_zero, List.set_cons_succ]
        refine wpAnyH_take (i := 8) (oi := ⟨some 28, _, _, _, _, _⟩) (v := ?_) rfl (by kernel_rfl) (by kernel_rfl) (by kernel_rfl) (fun _ _ _ h => h) (Or.inl ⟨by rfl, ?_⟩) (by assumption) ?_
        rotate_left
        · (intro w hSw; (try dsimp only at hSw); go_simp; try with_reducible rfl)
        try simp only [Act.put, List.setIfInBounds_toArray, List.set_cons_zero, List.set_cons_succ]
        refine wpAnyH_take (i := 9) (oi := ⟨some 29, _, _, _, _, _⟩) (v := ?_) rfl (by kernel_rfl) (by kernel_rfl) (by kernel_rfl) (fun _ _ _ h => h) (Or.inl ⟨by rfl, ?_⟩) (by assumption) ?_
        rotate_left
        · (intro w hSw; (try dsimp only at hSw); go_simp; try with_reducible rfl)
        try simp only [Act.put, List.setIfInBounds_toArray, List.set_cons_zero, List.set_cons_succ]
        refine wpAnyH_take (i := 10) (oi := ⟨some 30, _, _, _, _, _⟩) (v := ?_) rfl (by kernel_rfl) (by kernel_rfl) (by kernel_rfl) (fun _ _ _ h => h) (Or.inl ⟨by rfl, ?_⟩) (by assumption) ?_
        rotate_left
        · (intro w hSw; (try dsimp only at hSw); go_simp; try with_reducible rfl)
        try simp only [Act.put, List.setIfInBounds_toArray, List.set_cons_zero, List.set_cons_succ]
        refine wpAnyH_ready (rs := [11]) (by kernel_rfl) (by simp) ?_
        refine AllReadyH.cons (o := ⟨some 6, _, _, _, _, _⟩) rfl (fun K hK => ?_) AllReadyH.nil
        refine step_ap (by rfl) (by rfl) ?_; intro wB gQ HQ hb1 hzB hq1 hq2; (try have HG := Lib.hid (HG.out.later hb1.out)); (try have HM := Blk.hb HM hb1.out); have hqb : wr.drew.heap.size ≤ gQ := Nat.le_trans hHeld.out.size hq1; have hs := Lib.hid (Lift.then2 hHeld.out hb1.out); clear hb1
        refine hK.out _ _ hs (fun hHeld => ?_)
        clear hK K
        try simp only [Act.put, List.setIfInBounds_toArray, List.set_cons_zero, List.set_cons_succ]
        refine wpAnyH_ready (rs := [13]) (by kernel_rfl) (by simp) ?_
        refine AllReadyH.cons (o := ⟨none, _, _, _, _, _⟩) rfl (fun K hK => ?_) AllReadyH.nil
        refine step_sp (by rfl) (.tmp 6) (.tmp 27) (by rfl) HQ (by rfl) (by rfl) hqb ?_; intro wD HSq; have HM := Lib.hid (HM.out.turned HSq.out.turns (by decide)); have HG := Lib.hid (HG.out.turned HSq.out.turns); have hzD := HSq.out.size; have hs := Lib.hid (below_turns hHeld.out HSq.out.turns (Nat.le_refl _))
        refine hK.out _ _ hs (fun hHeld => ?_)
        clear hK K
        try simp only [Act.put]
        refine wpAnyH_ready (rs := [14]) (by kernel_rfl) (by simp) ?_
        refine AllReadyH.cons (o := ⟨none, _, _, _, _, _⟩) rfl (fun K hK => ?_) AllReadyH.nil
        refine step_sm (by rfl) (.tmp 7) (.tmp 28) (by rfl) Pst.noMail mm HM (by rfl) (by rfl) hmb ?_; intro wE HSm; have HQ := Lib.hid (HSq.out.blk.turned HSm.out.turns (by decide)); have HG := Lib.hid (HG.out.apart HSm.out (by omega)); have hzE := HSm.out.size; have hs := Lib.hid (below_turns hHeld.out HSm.out.turns (Nat.le_refl _))
        refine hK.out _ _ hs (fun hHeld => ?_)
        clear hK K
        try simp only [Act.put]
        refine wpAnyH_take (i := 15) (oi := ⟨some 8, _, _, _, _, _⟩) (v := ?_) rfl (by kernel_rfl) (by kernel_rfl) (by kernel_rfl) (fun _ _ _ h => h) (Or.inl ⟨by rfl, ?_⟩) (by assumption) ?_
        rotate_left
        · (intro w hSw; (try dsimp only at hSw); go_simp; try with_reducible rfl)
        try simp only [Act.put, List.setIfInBounds_toArray, List.set_cons_zero, List.set_cons_succ]
        refine wpAnyH_take (i := 16) (oi := ⟨some 9, _, _, _, _, _⟩) (v := ?_) rfl (by kernel_rfl) (by kernel_rfl) (by kernel_rfl) (fun _ _ _ h => h) (Or.inl ⟨by rfl, ?_⟩) (by assumption) ?_
        rotate_left
        · (intro w hSw; (try dsimp only at hSw); go_simp; try with_reducible rfl)
        try simp only [Act.put, List.setIfInBounds_toArray, List.set_cons_zero, List.set_cons_succ]
        refine wpAnyH_done (by kernel_rfl) ?_ _
        rotate_left
        refine step_ap (by rfl) (by rfl) ?_; intro wB gQ HQ hb1 hzB hq1 hq2; (try have HG := Lib.hid (HG.out.later hb1.out)); (try have HM := Blk.hb HM hb1.out); have hqb : wr.drew.heap.size ≤ gQ := Nat.le_trans hHeld.out.size hq1; have hs := Lib.hid (Lift.then2 hHeld.out hb1.out); clear hb1
        refine hK.out _ _ hs (fun hHeld => ?_)
        clear hK K
        try simp only [Act.put, List.setIfInBounds_toArray, List.set_cons_zero, List.set_cons_succ]
        refine wpAnyH_ready (rs := [5]) (by kernel_rfl) (by simp) ?_
        refine AllReadyH.cons (o := ⟨some 26, _, _, _, _, _⟩) rfl (fun K hK => ?_) AllReadyH.nil
        go_simp
        go_at_call 8
        refine (HX.out _ hHeld.out).mono ?_; rintro e wA ⟨A1, c1, k1, rfl, g1, n1, b1⟩; have HG := Lib.hid g1; (try have HQ := Blk.hb HQ b1); (try have HM := Blk.hb HM b1); have hzA := b1.size; have hkA : k1 < wA.heap.size := (by have := hHeld.out.size; omega); have hs := Lib.hid (Lift.then2 hHeld.out b1); clear g1 b1
        refine hK.out _ _ hs (fun hHeld => ?_)
        clear hK K
        try simp only 
        refine wpAnyH_take (i := 6) (oi := ⟨some 20, _, _, _, _, _⟩) (v := ?_) rfl (by kernel_rfl) (by kernel_rfl) (by kernel_rfl) (fun _ _ _ h => h) (Or.inl ⟨by rfl, ?_⟩) (by assumption) ?_
        rotate_left
        · (intro w hSw; (try dsimp only at hSw); go_simp; try with_reducible rfl)
        try simp only [Act.put, List.setIfInBounds_toArray, List.set_cons_zero, List.set_cons_succ]
        refine wpAnyH_take (i := 7) (oi := ⟨some 27, _, _, _, _, _⟩) (v := ?_) rfl (by kernel_rfl) (by kernel_rfl) (by kernel_rfl) (fun _ _ _ h => h) (Or.inl ⟨by rfl, ?_⟩) (by assumption) ?_
        rotate_left
        · (intro w hSw; (try dsimp only at hSw); go_simp; try with_reducible rfl)
        try simp only [Act.put, List.setIfInBounds_toArray, List.set_cons_zero, List.set_cons_succ]
        refine wpAnyH_take (i := 8) (oi := ⟨some 28, _, _, _, _, _⟩) (v := ?_) rfl (by kernel_rfl) (by kernel_rfl) (by kernel_rfl) (fun _ _ _ h => h) (Or.inl ⟨by rfl, ?_⟩) (by assumption) ?_
        rotate_left
        · (intro w hSw; (try dsimp only at hSw); go_simp; try with_reducible rfl)
        try simp only [Act.put, List.setIfInBounds_toArray, List.set_cons_zero, List.set_cons_succ]
        refine wpAnyH_take (i := 9) (oi := ⟨some 29, _, _, _, _, _⟩) (v := ?_) rfl (by kernel_rfl) (by kernel_rfl) (by kernel_rfl) (fun _ _ _ h => h) (Or.inl ⟨by rfl, ?_⟩) (by assumption) ?_
        rotate_left
        · (intro w hSw; (try dsimp only at hSw); go_simp; try with_reducible rfl)
        try simp only [Act.put, List.setIfInBounds_toArray, List.set_cons_zero, List.set_cons_succ]
        refine wpAnyH_take (i := 10) (oi := ⟨some 30, _, _, _, _, _⟩) (v := ?_) rfl (by kernel_rfl) (by kernel_rfl) (by kernel_rfl) (fun _ _ _ h => h) (Or.inl ⟨by rfl, ?_⟩) (by assumption) ?_
        rotate_left
        · (intro w hSw; (try dsimp only at hSw); go_simp; try with_reducible rfl)
        try simp only [Act.put, List.setIfInBounds_toArray, List.set_cons_zero, List.set_cons_succ]
        refine wpAnyH_ready (rs := [13]) (by kernel_rfl) (by simp) ?_
        refine AllReadyH.cons (o := ⟨none, _, _, _, _, _⟩) rfl (fun K hK => ?_) AllReadyH.nil
        refine step_sp (by rfl) (.tmp 6) (.tmp 27) (by rfl) HQ (by rfl) (by rfl) hqb ?_; intro wD HSq; have HM := Lib.hid (HM.out.turned HSq.out.turns (by decide)); have HG := Lib.hid (HG.out.turned HSq.out.turns); have hzD := HSq.out.size; have hs := Lib.hid (below_turns hHeld.out HSq.out.turns (Nat.le_refl _))
        refine hK.out _ _ hs (fun hHeld => ?_)
        clear hK K
        try simp only [Act.put]
        refine wpAnyH_ready (rs := [14]) (by kernel_rfl) (by simp) ?_
        refine AllReadyH.cons (o := ⟨none, _, _, _, _, _⟩) rfl (fun K hK => ?_) AllReadyH.nil
        refine step_sm (by rfl) (.tmp 7) (.tmp 28) (by rfl) Pst.noMail mm HM (by rfl) (by rfl) hmb ?_; intro wE HSm; have HQ := Lib.hid (HSq.out.blk.turned HSm.out.turns (by decide)); have HG := Lib.hid (HG.out.apart HSm.out (by omega)); have hzE := HSm.out.size; have hs := Lib.hid (below_turns hHeld.out HSm.out.turns (Nat.le_refl _))
        refine hK.out _ _ hs (fun hHeld => ?_)
        clear hK K
        try simp only [Act.put]
        refine wpAnyH_take (i := 15) (oi := ⟨some 8, _, _, _, _, _⟩) (v := ?_) rfl (by kernel_rfl) (by kernel_rfl) (by kernel_rfl) (fun _ _ _ h => h) (Or.inl ⟨by rfl, ?_⟩) (by assumption) ?_
        rotate_left
        · (intro w hSw; (try dsimp only at hSw); go_simp; try with_reducible rfl)
        try simp only [Act.put, List.setIfInBounds_toArray, List.set_cons_zero, List.set_cons_succ]
        refine wpAnyH_take (i := 16) (oi := ⟨some 9, _, _, _, _, _⟩) (v := ?_) rfl (by kernel_rfl) (by kernel_rfl) (by kernel_rfl) (fun _ _ _ h => h) (Or.inl ⟨by rfl, ?_⟩) (by assumption) ?_
        rotate_left
        · (intro w hSw; (try dsimp only at hSw); go_simp; try with_reducible rfl)
        try simp only [Act.put, List.setIfInBounds_toArray, List.set_cons_zero, List.set_cons_succ]
        refine wpAnyH_done (by kernel_rfl) ?_ _
        rotate_left
        all_goals
          go_wp2_with fail
          go_meet
          exact ⟨gQ, gM, A1, c1, k1, rfl, rfl, rfl, rfl, Lib.hid ⟨HQ.out, HSm.out.blk, HG.out, hs.out, hqb, hmb, by omega⟩⟩
      case rest =>
      obtain ⟨gQ, gM, A1, c1, k1, rfl, rfl, rfl, rfl, HD⟩ := hcut
      have HBx : Hid (Below w.heap.size w wc) := Lib.hid (HB.out.drew.trans (HD.out.b.mono hsz))
      have x0 := HX0.out wc HBx.out
      have HPx := HPf.out wc HD.out.b
      have HQx := Lib.hid HD.out.q
      have hqn := HD.out.qn
      have hkx := HD.out.k
      clear HX HPf HOf HX0 HP HG
      rcases HC.out with ⟨he, hq⟩ | ⟨rfl, hk, hq⟩ | ⟨rfl, hk, hq⟩ | ⟨rfl, hk, hq⟩ | ⟨rfl, hk, hq⟩ | ⟨rfl, h1, h2, h3, h4, hq⟩
      all_goals
        clear HC
        try rw [hk] at x0
        try clear hk
        have hz : (pc A1 q.m.length c1 q.s)[0]? = some (.slice A1 q.m.length c1) := rfl
        have hwa : IntKind.i64.wrap ((p.m.length : Int) + 1) = (p.m.length : Int) + 1 := IntWalk.i64_in _ (by omega)
        have hwb : IntKind.i64.wrap (p.m.length : Int) = (p.m.length : Int) := IntWalk.i64_in _ (by omega)
        have hwc : IntKind.i64.wrap (q.m.length : Int) = (q.m.length : Int) := IntWalk.i64_in _ (by omega)
        generalize hpl : p.m.length = a at *
        generalize hqg : q.m.length = b at *
        have HQG := Lib.hid hqg
        clear hpl hqg
        first | subst hq | skip
        go_wp2_with (first | refine wpList_lp rfl _ rfl HQx rfl ?_ | refine wpList_sp rfl _ _ rfl HPx rfl rfl (Nat.le_refl w.heap.size) ?_)
        intro w2 HS
        have z0 := (HS.out.blk.cell 0).trans hz
        have HB2 := Lib.hid (below_turns HBx.out HS.out.turns (Nat.le_refl _))
        have HG2 := Lib.hid (HD.out.g.turned HS.out.turns)
        have HP2 := HS.out.blk
        rw [← HQG.out] at HP2
        have HP2 := Lib.hid HP2
        have hk2 : k1 < w2.heap.size := by rw [HS.out.size]; exact hkx
        clear HS HPx HQx HD HBx hz
        go_wp2_with fail
        exact ⟨⟨k + 1, q, A1, c1, k1, by omega, by omega, by rw [HQG.out]; omega, by go_num, by first | (rw [HQG.out]; done) | (rw [HQG.out]; go_num), HP2, HG2, hk2, HB2⟩, by simp [intOf]; omega⟩
    · rcases Nat.lt_or_ge k n with hlt | hlt
      · have hk1 : (k : Int) < (n : Int) := by omega
        have hk3 : ¬ (k : Int) < 300 := by omega
        clear HI HGet HP HG
        go_wp2_with fail
        refine (awake_any _).mono ?_; rintro e w3 ⟨rfl, b3⟩
        have HB3 := Lib.hid (Lift.then2 HB.out b3)
        clear b3
        go_wp2_with fail
        go_ret
        exact ⟨rfl, HB3.out⟩
      · have hk1 : ¬ (k : Int) < (n : Int) := by omega
        clear HI HGet HP HG
        go_wp2_with fail
        refine (awake_any _).mono ?_; rintro e w3 ⟨rfl, b3⟩
        have HB3 := Lib.hid (Lift.then2 HB.out b3)
        clear b3
        go_wp2_with fail
        go_ret
        exact ⟨rfl, HB3.out⟩
end Go.Proofs.Ytkajnmlglgjocaa
