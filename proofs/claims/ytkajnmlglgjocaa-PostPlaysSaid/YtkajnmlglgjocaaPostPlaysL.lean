/-
  The law PostPlays: it returns true whatever is handed in.
  No condition but the form's own of a slice of calls: its numbers fit their kinds.
-/
import Derived.Test.YtkajnmlglgjocaaPostGood
import Derived.WalkKit
import Derived.WalkSpells
import Derived.WalkLawsBesides
import Derived.Handy
import Derived.Deep.QuietTactic
import Derived.BigQuiet
import Derived.Deep.RegionWith
import Derived.Deep.RegionHeld3
import Derived.Deep.Draws
import Derived.Lib.Hide
import Derived.Lib.LazyBuf
namespace Go.Proofs.Ytkajnmlglgjocaa
open Go.RowKit


theorem wpList_lpg {ops : Array Oper} {rest : List Oper} {o : Oper} {a : Act} {w : World} {Q : Exit → Act → World → Prop} (hw : Region.wanted o (yielded ops a.tmps) = true) (x : Operand) (ho : o.op = .load 25 x)
    {g : Nat} {A : Option Addr} {n c : Nat} {s : Nat → Int} (hb : Hid (Blk w g 25 (pc A n c s))) (hx : a.eval x = .pointer (some ⟨g, 0, none⟩))
    (h : wpList Try.prog ops Q rest (a.put o.dst (.agg (pc A n c s))) w) : wpList Try.prog ops Q (o :: rest) a w :=
  BigFrame.wpList_want hw fun _ hK => wp_load_row _ x ho g hx _ _ (0, 0) _ hb.out Try.underlying25 rfl info_post (hK _ _ h)
theorem wpList_lmg {ops : Array Oper} {rest : List Oper} {o : Oper} {a : Act} {w : World} {Q : Exit → Act → World → Prop} (hw : Region.wanted o (yielded ops a.tmps) = true) (x : Operand) (ho : o.op = .load 27 x)
    {g : Nat} {m : Pst.Mail} (hb : Hid (Blk w g 27 (mc m))) (hx : a.eval x = .pointer (some ⟨g, 0, none⟩))
    (h : wpList Try.prog ops Q rest (a.put o.dst (.agg #[.int .i64 m.f, .int .i64 m.t, .string m.d, .bool m.s])) w) : wpList Try.prog ops Q (o :: rest) a w :=
  BigFrame.wpList_want hw fun _ hK => wp_load_row _ x ho g hx _ _ (0, 0) _ hb.out Try.underlying27 rfl info_mail4 (hK _ _ h)

set_option maxRecDepth 100000 in
set_option maxHeartbeats 6400000 in
theorem plays_yes (A0 : Option Addr) (c0 : Nat) (l : List Pst.Op) (w : World) (hl : l.length ≤ 9223372036854775807) (hi : opLay.Reads w w.heap.size A0 l) (hw : ∀ x ∈ l, 0 ≤ x.b ∧ x.b < 256) :
    Lift.Yes Try.prog 4 #[.slice A0 l.length c0] w := by
  unfold Lift.Yes
  obtain ⟨HP0, HR0, HB0, hs0⟩ := made2 w 25 (pc none 0 0 fun _ => 0) 25 (pc none 0 0 fun _ => 0)
  have HG0 : Hid (Good w w.heap.size ((w.alloc (.cells (pc none 0 0 fun _ => 0) 25)).alloc (.cells (pc none 0 0 fun _ => 0) 25)) none 0 [] 0) := Lib.hid (.inl ⟨Lay.Own.none _ _, .inr rfl⟩)
  have HI := Lib.hid hi
  have HGet : Hid (∀ k, k < l.length → ∃ x, l[k]? = some x ∧ 0 ≤ x.b ∧ x.b < 256) := Lib.hid fun k hk => ⟨l[k], List.getElem?_eq_getElem hk, hw _ (List.getElem_mem hk)⟩
  clear hi hw
  generalize hn : l.length = n at *
  have HN := Lib.hid hn
  clear hn
  unfold pc at HP0 HR0 HB0 HG0
  unfold pc at hs0
  go_enter Try.func4, Try.ntmps4
  go_wp2_with fail
  go_loopw [5] (fun vi wr => ∃ (k : Nat) (p : Pst.P) (A A' : Option Addr) (c r c' r' : Nat), k ≤ n ∧ k ≤ 300 ∧ p.m.length ≤ k ∧ vi = .int .i64 k ∧ Hid (Blk wr w.heap.size 25 (pc A p.m.length c p.s)) ∧ Hid (Good w w.heap.size wr A c p.m r) ∧ r < wr.heap.size ∧ Hid (Blk wr (w.heap.size + 1) 25 (pc A' p.m.length c' p.s)) ∧ Hid (Good w w.heap.size wr A' c' p.m r') ∧ r' < wr.heap.size ∧ Hid (Below w.heap.size w wr)) (fun vi _ => n - (intOf vi).toNat)
  case atStart => exact ⟨0, Pst.empty, none, none, 0, 0, 0, 0, Nat.zero_le _, by decide, Nat.zero_le _, rfl, HP0, HG0, by simp, HR0, HG0, by simp, HB0⟩
  case round =>
    obtain ⟨k, p, A, A', c, r, c', r', hkn, hk300, hpk, rfl, HP, HG, hr, HR, HGr, hrr, HB⟩ := hrel
    clear HP0 HG0 HB0 HR0 hs0
    have hsz := HB.out.size
    have hpw := HP.out.lt
    have hrw := HR.out.lt
    have hk0 : (0 : Int) ≤ (k : Int) := by omega
    by_cases hc : k < n ∧ k < 300
    · obtain ⟨hlt, hlt3⟩ := hc
      obtain ⟨x, hx, hb1, hb2⟩ := HGet.out k hlt
      obtain ⟨bl, ol, rfl, hbl, hcl⟩ := HI.out (by rw [HN.out]; omega)
      have hk1 : (k : Int) < (n : Int) := by omega
      have hk3 : (k : Int) < 300 := by omega
      have HPf : Hid (∀ W, Below wr.drew.heap.size wr.drew W → Hid (Blk W w.heap.size 25 (pc A p.m.length c p.s))) := Lib.hid fun W hW => Lib.hid (Blk.below (w := wr.drew) HP.out hW hpw)
      have HRf : Hid (∀ W, Below wr.drew.heap.size wr.drew W → Hid (Blk W (w.heap.size + 1) 25 (pc A' p.m.length c' p.s))) := Lib.hid fun W hW => Lib.hid (Blk.below (w := wr.drew) HR.out hW hrw)
      have HOf : Hid (∀ W, Below wr.drew.heap.size wr.drew W → Hid (opLay.At W bl ol k x)) := Lib.hid fun W hW => Lib.hid ((hcl k x hx).keep fun q hq => ((HB.out.drew.trans (hW.mono hsz)).cell (by rw [hq]; exact hbl)))
      have HX := do_good x ⟨hb1, hb2⟩ (w0 := w) (W0 := wr.drew) (base := w.heap.size) HB.out.drew hsz (HG.out.later ((Below.refl _ wr).drew)) hr (by omega)
      have HY : Hid (∀ W0, Below wr.drew.heap.size wr.drew W0 → Hid (∀ W, Below W0.heap.size W0 W → Calls Try.prog 9 #[.agg (pc A' p.m.length c' p.s), opV x] W (IsGood w w.heap.size W0.heap.size (Pst.step p x) W))) := Lib.hid fun W0 h0 =>
        ref_good x ⟨hb1, hb2⟩ (w0 := w) (W0 := W0) (base := w.heap.size) (HB.out.drew.trans (h0.mono hsz)) (Nat.le_trans hsz h0.size) ((HGr.out.later ((Below.refl _ wr).drew)).later h0) (Nat.lt_of_lt_of_le hrr h0.size) (by omega)
      have hql := Pst.step_le p x
      obtain ⟨⟨q, mm, ar, er⟩, hst⟩ : ∃ r, Pst.step p x = r := ⟨_, rfl⟩
      rw [hst] at HX HY hql
      replace hql : q.m.length ≤ p.m.length + 1 := hql
      clear hst hcl hx hb1 hb2 HI HGet
      go_wp2_with fail
      go_cut [6, 7, 8, 9] (fun sQ sM sOk sE wx => ∃ (gQ gM : Nat) (A1 : Option Addr) (c1 k1 : Nat), sQ = .pointer (some ⟨gQ, 0, none⟩) ∧ sM = .pointer (some ⟨gM, 0, none⟩) ∧ sOk = .bool ar ∧ sE = .int .i64 er ∧ Hid (Done w wr.drew w.heap.size q mm A1 c1 k1 gQ gM wx))
      case first =>
        refine wp_region_held_drew (S := (fun W => Hid (Below wr.drew.heap.size wr.drew W))) (by kernel_rfl) ?_ (fun hHeld => ?_)
        · (try dsimp only); exact Lib.hid (Below.refl _ _)
        refine wpAnyH_take (i := 0) (oi := ⟨some 25, _, _, _, _, _⟩) (v := ?_) rfl (by kernel_rfl) (by kernel_rfl) (by kernel_rfl) (fun _ _ _ h => h) (Or.inl ⟨by rfl, ?_⟩) (by assumption) ?_
        rotate_left
        · (intro w hSw; refine Eq.trans (exec_lp (HPf.out w hSw.out) (by rfl) (by rfl)) ?_; with_reducible rfl)
        try simp only [Act.put, List.setIfInBounds_toArray, List.set_cons_zero, List.set_cons_succ]
        refine wpAnyH_take (i := 1) (oi := ⟨some 26, _, _, _, _, _⟩) (v := ?_) rfl (by kernel_rfl) (by kernel_rfl) (by kernel_rfl) (fun _ _ _ h => h) (Or.inl ⟨by rfl, ?_⟩) (by assumption) ?_
        rotate_left
        · (intro w hSw; (try dsimp only at hSw); go_simp; try with_reducible rfl)
        try simp only [Act.put, List.setIfInBounds_toArray, List.set_cons_zero, List.set_cons_succ]
        refine wpAnyH_take (i := 2) (oi := ⟨some 27, _, _, _, _, _⟩) (v := ?_) rfl (by kernel_rfl) (by kernel_rfl) (by kernel_rfl) (fun _ _ _ h => h) (Or.inl ⟨by rfl, ?_⟩) (by assumption) ?_
        rotate_left
        · (intro w hSw; (try dsimp only at hSw); go_simp; try with_reducible rfl)
        try simp only [Act.put, List.setIfInBounds_toArray, List.set_cons_zero, List.set_cons_succ]
        refine wpAnyH_take (i := 3) (oi := ⟨some 28, _, _, _, _, _⟩) (v := ?_) rfl (by kernel_rfl) (by kernel_rfl) (by kernel_rfl) (fun _ _ _ h => h) (Or.inl ⟨by rfl, ?_⟩) (by assumption) ?_
        rotate_left
        · (intro w hSw; (try dsimp only at hSw); go_simp; try with_reducible rfl)
        try simp only [Act.put, List.setIfInBounds_toArray, List.set_cons_zero, List.set_cons_succ]
        refine wpAnyH_take (i := 4) (oi := ⟨some 29, _, _, _, _, _⟩) (v := ?_) rfl (by kernel_rfl) (by kernel_rfl) (by kernel_rfl) (fun _ _ _ h => h) (Or.inl ⟨by rfl, ?_⟩) (by assumption) ?_
        rotate_left
        · (intro w hSw; refine Eq.trans (exec_lo (HOf.out w hSw.out) (by rfl) (by rfl)) ?_; with_reducible rfl)
        try simp only [Act.put, List.setIfInBounds_toArray, List.set_cons_zero, List.set_cons_succ]
        refine wpAnyH_ready (rs := [5, 11, 12]) (by kernel_rfl) (by simp) ?_
        refine AllReadyH.cons (o := ⟨some 30, _, _, _, _, _⟩) rfl (fun K hK => ?_) (AllReadyH.cons (o := ⟨some 6, _, _, _, _, _⟩) rfl (fun K hK => ?_) (AllReadyH.cons (o := ⟨some 7, _, _, _, _, _⟩) rfl (fun K hK => ?_) AllReadyH.nil))
        go_simp
        go_at_call 8
        refine (HX.out _ hHeld.out).mono ?_; rintro e wA ⟨A1, c1, k1, rfl, g1, n1, b1⟩; have HG := Lib.hid g1; (try have HQ := Blk.hb HQ b1); (try have HM := Blk.hb HM b1); have hzA := b1.size; have hkA : k1 < wA.heap.size := (by have := hHeld.out.size; omega); have hs := Lib.hid (Lift.then2 hHeld.out b1); clear g1 b1
        refine hK.out _ _ hs (fun hHeld => ?_)
        clear hK K
        try simp only 
        refine wpAnyH_take (i := 6) (oi := ⟨some 24, _, _, _, _, _⟩) (v := ?_) rfl (by kernel_rfl) (by kernel_rfl) (by kernel_rfl) (fun _ _ _ h => h) (Or.inl ⟨by rfl, ?_⟩) (by assumption) ?_
        rotate_left
        · (intro w hSw; (try dsimp only at hSw); go_simp; try with_reducible rfl)
        try simp only [Act.put, List.setIfInBounds_toArray, List.set_cons_zero, List.set_cons_succ]
        refine wpAnyH_take (i := 7) (oi := ⟨some 31, _, _, _, _, _⟩) (v := ?_) rfl (by kernel_rfl) (by kernel_rfl) (by kernel_rfl) (fun _ _ _ h => h) (Or.inl ⟨by rfl, ?_⟩) (by assumption) ?_
        rotate_left
        · (intro w hSw; (try dsimp only at hSw); go_simp; try with_reducible rfl)
        try simp only [Act.put, List.setIfInBounds_toArray, List.set_cons_zero, List.set_cons_succ]
        refine wpAnyH_take (i := 8) (oi := ⟨some 32, _, _, _, _, _⟩) (v := ?_) rfl (by kernel_rfl) (by kernel_rfl) (by kernel_rfl) (fun _ _ _ h => h) (Or.inl ⟨by rfl, ?_⟩) (by assumption) ?_
        rotate_left
        · (intro w hSw; (try dsimp only at hSw); go_simp; try with_reducible rfl)
        try simp only [Act.put, List.setIfInBounds_toArray, List.set_cons_zero, List.set_cons_succ]
        refine wpAnyH_take (i := 9) (oi := ⟨some 33, _, _, _, _, _⟩) (v := ?_) rfl (by kernel_rfl) (by kernel_rfl) (by kernel_rfl) (fun _ _ _ h => h) (Or.inl ⟨by rfl, ?_⟩) (by assumption) ?_
        rotate_left
        · (intro w hSw; (try dsimp only at hSw); go_simp; try with_reducible rfl)
        try simp only [Act.put, List.setIfInBounds_toArray, List.set_cons_zero, List.set_cons_succ]
        refine wpAnyH_take (i := 10) (oi := ⟨some 34, _, _, _, _, _⟩) (v := ?_) rfl (by kernel_rfl) (by kernel_rfl) (by kernel_rfl) (fun _ _ _ h => h) (Or.inl ⟨by rfl, ?_⟩) (by assumption) ?_
        rotate_left
        · (intro w hSw; (try dsimp only at hSw); go_simp; try with_reducible rfl)
        try simp only [Act.put, List.setIfInBounds_toArray, List.set_cons_zero, List.set_cons_succ]
        refine wpAnyH_ready (rs := [11, 12]) (by kernel_rfl) (by simp) ?_
        refine AllReadyH.cons (o := ⟨some 6, _, _, _, _, _⟩) rfl (fun K hK => ?_) (AllReadyH.cons (o := ⟨some 7, _, _, _, _, _⟩) rfl (fun K hK => ?_) AllReadyH.nil)
        refine step_ap (by rfl) (by rfl) ?_; intro wB gQ HQ hb1 hzB hq1 hq2; (try have HG := Lib.hid (HG.out.later hb1.out)); (try have HM := Blk.hb HM hb1.out); have hqb : wr.drew.heap.size ≤ gQ := Nat.le_trans hHeld.out.size hq1; have hs := Lib.hid (Lift.then2 hHeld.out hb1.out); clear hb1
        refine hK.out _ _ hs (fun hHeld => ?_)
        clear hK K
        try simp only [Act.put, List.setIfInBounds_toArray, List.set_cons_zero, List.set_cons_succ]
        refine wpAnyH_ready (rs := [12]) (by kernel_rfl) (by simp) ?_
        refine AllReadyH.cons (o := ⟨some 7, _, _, _, _, _⟩) rfl (fun K hK => ?_) AllReadyH.nil
        refine step_am (by rfl) (by rfl) ?_; intro wC gM HM hb1 hzC hm1 hm2; (try have HG := Lib.hid (HG.out.later hb1.out)); (try have HQ := Blk.hb HQ hb1.out); have hmb : wr.drew.heap.size ≤ gM := Nat.le_trans hHeld.out.size hm1; have hs := Lib.hid (Lift.then2 hHeld.out hb1.out); clear hb1
        refine hK.out _ _ hs (fun hHeld => ?_)
        clear hK K
        try simp only [Act.put, List.setIfInBounds_toArray, List.set_cons_zero, List.set_cons_succ]
        refine wpAnyH_ready (rs := [13]) (by kernel_rfl) (by simp) ?_
        refine AllReadyH.cons (o := ⟨none, _, _, _, _, _⟩) rfl (fun K hK => ?_) AllReadyH.nil
        refine step_sp (by rfl) (.tmp 6) (.tmp 31) (by rfl) HQ (by rfl) (by rfl) hqb ?_; intro wD HSq; have HM := Lib.hid (HM.out.turned HSq.out.turns (by decide)); have HG := Lib.hid (HG.out.turned HSq.out.turns); have hzD := HSq.out.size; have hs := Lib.hid (below_turns hHeld.out HSq.out.turns (Nat.le_refl _))
        refine hK.out _ _ hs (fun hHeld => ?_)
        clear hK K
        try simp only [Act.put]
        refine wpAnyH_ready (rs := [14]) (by kernel_rfl) (by simp) ?_
        refine AllReadyH.cons (o := ⟨none, _, _, _, _, _⟩) rfl (fun K hK => ?_) AllReadyH.nil
        refine step_sm (by rfl) (.tmp 7) (.tmp 32) (by rfl) Pst.noMail mm HM (by rfl) (by rfl) hmb ?_; intro wE HSm; have HQ := Lib.hid (HSq.out.blk.turned HSm.out.turns (by decide)); have HG := Lib.hid (HG.out.apart HSm.out (by omega)); have hzE := HSm.out.size; have hs := Lib.hid (below_turns hHeld.out HSm.out.turns (Nat.le_refl _))
        refine hK.out _ _ hs (fun hHeld => ?_)
        clear hK K
        try simp only [Act.put]
        refine wpAnyH_take (i := 15) (oi := ⟨some 8, _, _, _, _, _⟩) (v := ?_) rfl (by kernel_rfl) (by kernel_rfl) (by kernel_rfl) (fun _ _ _ h => h) (Or.inl ⟨by rfl, ?_⟩) (by assumption) ?_
        rotate_left
        · (intro w hSw; (try dsimp only at hSw); go_simp; try with_reducible rfl)
        try simp only [Act.put, List.setIfInBounds_toArray, List.set_cons_zero, List.set_cons_succ]
        refine wpAnyH_take (i := 16) (oi := ⟨some 9, _, _, _, _, _⟩) (v := ?_) rfl (by kernel_rfl) (by kernel_rfl) (by kernel_rfl) (fun _ _ _ h => h) (Or.inl ⟨by rfl, ?_⟩) (by assumption) ?_
        rotate_left
        · (intro w hSw; (try dsimp only at hSw); go_simp; try with_reducible rfl)
        try simp only [Act.put, List.setIfInBounds_toArray, List.set_cons_zero, List.set_cons_succ]
        refine wpAnyH_done (by kernel_rfl) ?_ _
        rotate_left
        refine step_am (by rfl) (by rfl) ?_; intro wC gM HM hb1 hzC hm1 hm2; (try have HG := Lib.hid (HG.out.later hb1.out)); (try have HQ := Blk.hb HQ hb1.out); have hmb : wr.drew.heap.size ≤ gM := Nat.le_trans hHeld.out.size hm1; have hs := Lib.hid (Lift.then2 hHeld.out hb1.out); clear hb1
        refine hK.out _ _ hs (fun hHeld => ?_)
        clear hK K
        try simp only [Act.put, List.setIfInBounds_toArray, List.set_cons_zero, List.set_cons_succ]
        refine wpAnyH_ready (rs := [11]) (by kernel_rfl) (by simp) ?_
        refine AllReadyH.cons (o := ⟨some 6, _, _, _, _, _⟩) rfl (fun K hK => ?_) AllReadyH.nil
        refine step_ap (by rfl) (by rfl) ?_; intro wB gQ HQ hb1 hzB hq1 hq2; (try have HG := Lib.hid (HG.out.later hb1.out)); (try have HM := Blk.hb HM hb1.out); have hqb : wr.drew.heap.size ≤ gQ := Nat.le_trans hHeld.out.size hq1; have hs := Lib.hid (Lift.then2 hHeld.out hb1.out); clear hb1
        refine hK.out _ _ hs (fun hHeld => ?_)
        clear hK K
        try simp only [Act.put, List.setIfInBounds_toArray, List.set_cons_zero, List.set_cons_succ]
        refine wpAnyH_ready (rs := [13]) (by kernel_rfl) (by simp) ?_
        refine AllReadyH.cons (o := ⟨none, _, _, _, _, _⟩) rfl (fun K hK => ?_) AllReadyH.nil
        refine step_sp (by rfl) (.tmp 6) (.tmp 31) (by rfl) HQ (by rfl) (by rfl) hqb ?_; intro wD HSq; have HM := Lib.hid (HM.out.turned HSq.out.turns (by decide)); have HG := Lib.hid (HG.out.turned HSq.out.turns); have hzD := HSq.out.size; have hs := Lib.hid (below_turns hHeld.out HSq.out.turns (Nat.le_refl _))
        refine hK.out _ _ hs (fun hHeld => ?_)
        clear hK K
        try simp only [Act.put]
        refine wpAnyH_ready (rs := [14]) (by kernel_rfl) (by simp) ?_
        refine AllReadyH.cons (o := ⟨none, _, _, _, _, _⟩) rfl (fun K hK => ?_) AllReadyH.nil
        refine step_sm (by rfl) (.tmp 7) (.tmp 32) (by rfl) Pst.noMail mm HM (by rfl) (by rfl) hmb ?_; intro wE HSm; have HQ := Lib.hid (HSq.out.blk.turned HSm.out.turns (by decide)); have HG := Lib.hid (HG.out.apart HSm.out (by omega)); have hzE := HSm.out.size; have hs := Lib.hid (below_turns hHeld.out HSm.out.turns (Nat.le_refl _))
        refine hK.out _ _ hs (fun hHeld => ?_)
        clear hK K
        try simp only [Act.put]
        refine wpAnyH_take (i := 15) (oi := ⟨some 8, _, _, _, _, _⟩) (v := ?_) rfl (by kernel_rfl) (by kernel_rfl) (by kernel_rfl) (fun _ _ _ h => h) (Or.inl ⟨by rfl, ?_⟩) (by assumption) ?_
        rotate_left
        · (intro w hSw; (try dsimp only at hSw); go_simp; try with_reducible rfl)
        try simp only [Act.put, List.setIfInBounds_toArray, List.set_cons_zero, List.set_cons_succ]
        refine wpAnyH_take (i := 16) (oi := ⟨some 9, _, _, _, _, _⟩) (v := ?_) rfl (by kernel_rfl) (by kernel_rfl) (by kernel_rfl) (fun _ _ _ h => h) (Or.inl ⟨by rfl, ?_⟩) (by assumption) ?_
        rotate_left
        · (intro w hSw; (try dsimp only at hSw); go_simp; try with_reducible rfl)
        try simp only [Act.put, List.setIfInBounds_toArray, List.set_cons_zero, List.set_cons_succ]
        refine wpAnyH_done (by kernel_rfl) ?_ _
        rotate_left
        refine step_ap (by rfl) (by rfl) ?_; intro wB gQ HQ hb1 hzB hq1 hq2; (try have HG := Lib.hid (HG.out.later hb1.out)); (try have HM := Blk.hb HM hb1.out); have hqb : wr.drew.heap.size ≤ gQ := Nat.le_trans hHeld.out.size hq1; have hs := Lib.hid (Lift.then2 hHeld.out hb1.out); clear hb1
        refine hK.out _ _ hs (fun hHeld => ?_)
        clear hK K
        try simp only [Act.put, List.setIfInBounds_toArray, List.set_cons_zero, List.set_cons_succ]
        refine wpAnyH_ready (rs := [5, 12]) (by kernel_rfl) (by simp) ?_
        refine AllReadyH.cons (o := ⟨some 30, _, _, _, _, _⟩) rfl (fun K hK => ?_) (AllReadyH.cons (o := ⟨some 7, _, _, _, _, _⟩) rfl (fun K hK => ?_) AllReadyH.nil)
        go_simp
        go_at_call 8
        refine (HX.out _ hHeld.out).mono ?_; rintro e wA ⟨A1, c1, k1, rfl, g1, n1, b1⟩; have HG := Lib.hid g1; (try have HQ := Blk.hb HQ b1); (try have HM := Blk.hb HM b1); have hzA := b1.size; have hkA : k1 < wA.heap.size := (by have := hHeld.out.size; omega); have hs := Lib.hid (Lift.then2 hHeld.out b1); clear g1 b1
        refine hK.out _ _ hs (fun hHeld => ?_)
        clear hK K
        try simp only 
        refine wpAnyH_take (i := 6) (oi := ⟨some 24, _, _, _, _, _⟩) (v := ?_) rfl (by kernel_rfl) (by kernel_rfl) (by kernel_rfl) (fun _ _ _ h => h) (Or.inl ⟨by rfl, ?_⟩) (by assumption) ?_
        rotate_left
        · (intro w hSw; (try dsimp only at hSw); go_simp; try with_reducible rfl)
        try simp only [Act.put, List.setIfInBounds_toArray, List.set_cons_zero, List.set_cons_succ]
        refine wpAnyH_take (i := 7) (oi := ⟨some 31, _, _, _, _, _⟩) (v := ?_) rfl (by kernel_rfl) (by kernel_rfl) (by kernel_rfl) (fun _ _ _ h => h) (Or.inl ⟨by rfl, ?_⟩) (by assumption) ?_
        rotate_left
        · (intro w hSw; (try dsimp only at hSw); go_simp; try with_reducible rfl)
        try simp only [Act.put, List.setIfInBounds_toArray, List.set_cons_zero, List.set_cons_succ]
        refine wpAnyH_take (i := 8) (oi := ⟨some 32, _, _, _, _, _⟩) (v := ?_) rfl (by kernel_rfl) (by kernel_rfl) (by kernel_rfl) (fun _ _ _ h => h) (Or.inl ⟨by rfl, ?_⟩) (by assumption) ?_
        rotate_left
        · (intro w hSw; (try dsimp only at hSw); go_simp; try with_reducible rfl)
        try simp only [Act.put, List.setIfInBounds_toArray, List.set_cons_zero, List.set_cons_succ]
        refine wpAnyH_take (i := 9) (oi := ⟨some 33, _, _, _, _, _⟩) (v := ?_) rfl (by kernel_rfl) (by kernel_rfl) (by kernel_rfl) (fun _ _ _ h => h) (Or.inl ⟨by rfl, ?_⟩) (by assumption) ?_
        rotate_left
        · (intro w hSw; (try dsimp only at hSw); go_simp; try with_reducible rfl)
        try simp only [Act.put, List.setIfInBounds_toArray, List.set_cons_zero, List.set_cons_succ]
        refine wpAnyH_take (i := 10) (oi := ⟨some 34, _, _, _, _, _⟩) (v := ?_) rfl (by kernel_rfl) (by kernel_rfl) (by kernel_rfl) (fun _ _ _ h => h) (Or.inl ⟨by rfl, ?_⟩) (by assumption) ?_
        rotate_left
        · (intro w hSw; (try dsimp only at hSw); go_simp; try with_reducible rfl)
        try simp only [Act.put, List.setIfInBounds_toArray, List.set_cons_zero, List.set_cons_succ]
        refine wpAnyH_ready (rs := [12]) (by kernel_rfl) (by simp) ?_
        refine AllReadyH.cons (o := ⟨some 7, _, _, _, _, _⟩) rfl (fun K hK => ?_) AllReadyH.nil
        refine step_am (by rfl) (by rfl) ?_; intro wC gM HM hb1 hzC hm1 hm2; (try have HG := Lib.hid (HG.out.later hb1.out)); (try have HQ := Blk.hb HQ hb1.out); have hmb : wr.drew.heap.size ≤ gM := Nat.le_trans hHeld.out.size hm1; have hs := Lib.hid (Lift.then2 hHeld.out hb1.out); clear hb1
        refine hK.out _ _ hs (fun hHeld => ?_)
        clear hK K
        try simp only [Act.put, List.setIfInBounds_toArray, List.set_cons_zero, List.set_cons_succ]
        refine wpAnyH_ready (rs := [13]) (by kernel_rfl) (by simp) ?_
        refine AllReadyH.cons (o := ⟨none, _, _, _, _, _⟩) rfl (fun K hK => ?_) AllReadyH.nil
        refine step_sp (by rfl) (.tmp 6) (.tmp 31) (by rfl) HQ (by rfl) (by rfl) hqb ?_; intro wD HSq; have HM := Lib.hid (HM.out.turned HSq.out.turns (by decide)); have HG := Lib.hid (HG.out.turned HSq.out.turns); have hzD := HSq.out.size; have hs := Lib.hid (below_turns hHeld.out HSq.out.turns (Nat.le_refl _))
        refine hK.out _ _ hs (fun hHeld => ?_)
        clear hK K
        try simp only [Act.put]
        refine wpAnyH_ready (rs := [14]) (by kernel_rfl) (by simp) ?_
        refine AllReadyH.cons (o := ⟨none, _, _, _, _, _⟩) rfl (fun K hK => ?_) AllReadyH.nil
        refine step_sm (by rfl) (.tmp 7) (.tmp 32) (by rfl) Pst.noMail mm HM (by rfl) (by rfl) hmb ?_; intro wE HSm; have HQ := Lib.hid (HSq.out.blk.turned HSm.out.turns (by decide)); have HG := Lib.hid (HG.out.apart HSm.out (by omega)); have hzE := HSm.out.size; have hs := Lib.hid (below_turns hHeld.out HSm.out.turns (Nat.le_refl _))
        refine hK.out _ _ hs (fun hHeld => ?_)
        clear hK K
        try simp only [Act.put]
        refine wpAnyH_take (i := 15) (oi := ⟨some 8, _, _, _, _, _⟩) (v := ?_) rfl (by kernel_rfl) (by kernel_rfl) (by kernel_rfl) (fun _ _ _ h => h) (Or.inl ⟨by rfl, ?_⟩) (by assumption) ?_
        rotate_left
        · (intro w hSw; (try dsimp only at hSw); go_simp; try with_reducible rfl)
        try simp only [Act.put, List.setIfInBounds_toArray, List.set_cons_zero, List.set_cons_succ]
        refine wpAnyH_take (i := 16) (oi := ⟨some 9, _, _, _, _, _⟩) (v := ?_) rfl (by kernel_rfl) (by kernel_rfl) (by kernel_rfl) (fun _ _ _ h => h) (Or.inl ⟨by rfl, ?_⟩) (by assumption) ?_
        rotate_left
        · (intro w hSw; (try dsimp only at hSw); go_simp; try with_reducible rfl)
        try simp only [Act.put, List.setIfInBounds_toArray, List.set_cons_zero, List.set_cons_succ]
        refine wpAnyH_done (by kernel_rfl) ?_ _
        rotate_left
        refine step_am (by rfl) (by rfl) ?_; intro wC gM HM hb1 hzC hm1 hm2; (try have HG := Lib.hid (HG.out.later hb1.out)); (try have HQ := Blk.hb HQ hb1.out); have hmb : wr.drew.heap.size ≤ gM := Nat.le_trans hHeld.out.size hm1; have hs := Lib.hid (Lift.then2 hHeld.out hb1.out); clear hb1
        refine hK.out _ _ hs (fun hHeld => ?_)
        clear hK K
        try simp only [Act.put, List.setIfInBounds_toArray, List.set_cons_zero, List.set_cons_succ]
        refine wpAnyH_ready (rs := [5]) (by kernel_rfl) (by simp) ?_
        refine AllReadyH.cons (o := ⟨some 30, _, _, _, _, _⟩) rfl (fun K hK => ?_) AllReadyH.nil
        go_simp
        go_at_call 8
        refine (HX.out _ hHeld.out).mono ?_; rintro e wA ⟨A1, c1, k1, rfl, g1, n1, b1⟩; have HG := Lib.hid g1; (try have HQ := Blk.hb HQ b1); (try have HM := Blk.hb HM b1); have hzA := b1.size; have hkA : k1 < wA.heap.size := (by have := hHeld.out.size; omega); have hs := Lib.hid (Lift.then2 hHeld.out b1); clear g1 b1
        refine hK.out _ _ hs (fun hHeld => ?_)
        clear hK K
        try simp only 
        refine wpAnyH_take (i := 6) (oi := ⟨some 24, _, _, _, _, _⟩) (v := ?_) rfl (by kernel_rfl) (by kernel_rfl) (by kernel_rfl) (fun _ _ _ h => h) (Or.inl ⟨by rfl, ?_⟩) (by assumption) ?_
        rotate_left
        · (intro w hSw; (try dsimp only at hSw); go_simp; try with_reducible rfl)
        try simp only [Act.put, List.setIfInBounds_toArray, List.set_cons_zero, List.set_cons_succ]
        refine wpAnyH_take (i := 7) (oi := ⟨some 31, _, _, _, _, _⟩) (v := ?_) rfl (by kernel_rfl) (by kernel_rfl) (by kernel_rfl) (fun _ _ _ h => h) (Or.inl ⟨by rfl, ?_⟩) (by assumption) ?_
        rotate_left
        · (intro w hSw; (try dsimp only at hSw); go_simp; try with_reducible rfl)
        try simp only [Act.put, List.setIfInBounds_toArray, List.set_cons_zero, List.set_cons_succ]
        refine wpAnyH_take (i := 8) (oi := ⟨some 32, _, _, _, _, _⟩) (v := ?_) rfl (by kernel_rfl) (by kernel_rfl) (by kernel_rfl) (fun _ _ _ h => h) (Or.inl ⟨by rfl, ?_⟩) (by assumption) ?_
        rotate_left
        · (intro w hSw; (try dsimp only at hSw); go_simp; try with_reducible rfl)
        try simp only [Act.put, List.setIfInBounds_toArray, List.set_cons_zero, List.set_cons_succ]
        refine wpAnyH_take (i := 9) (oi := ⟨some 33, _, _, _, _, _⟩) (v := ?_) rfl (by kernel_rfl) (by kernel_rfl) (by kernel_rfl) (fun _ _ _ h => h) (Or.inl ⟨by rfl, ?_⟩) (by assumption) ?_
        rotate_left
        · (intro w hSw; (try dsimp only at hSw); go_simp; try with_reducible rfl)
        try simp only [Act.put, List.setIfInBounds_toArray, List.set_cons_zero, List.set_cons_succ]
        refine wpAnyH_take (i := 10) (oi := ⟨some 34, _, _, _, _, _⟩) (v := ?_) rfl (by kernel_rfl) (by kernel_rfl) (by kernel_rfl) (fun _ _ _ h => h) (Or.inl ⟨by rfl, ?_⟩) (by assumption) ?_
        rotate_left
        · (intro w hSw; (try dsimp only at hSw); go_simp; try with_reducible rfl)
        try simp only [Act.put, List.setIfInBounds_toArray, List.set_cons_zero, List.set_cons_succ]
        refine wpAnyH_ready (rs := [13]) (by kernel_rfl) (by simp) ?_
        refine AllReadyH.cons (o := ⟨none, _, _, _, _, _⟩) rfl (fun K hK => ?_) AllReadyH.nil
        refine step_sp (by rfl) (.tmp 6) (.tmp 31) (by rfl) HQ (by rfl) (by rfl) hqb ?_; intro wD HSq; have HM := Lib.hid (HM.out.turned HSq.out.turns (by decide)); have HG := Lib.hid (HG.out.turned HSq.out.turns); have hzD := HSq.out.size; have hs := Lib.hid (below_turns hHeld.out HSq.out.turns (Nat.le_refl _))
        refine hK.out _ _ hs (fun hHeld => ?_)
        clear hK K
        try simp only [Act.put]
        refine wpAnyH_ready (rs := [14]) (by kernel_rfl) (by simp) ?_
        refine AllReadyH.cons (o := ⟨none, _, _, _, _, _⟩) rfl (fun K hK => ?_) AllReadyH.nil
        refine step_sm (by rfl) (.tmp 7) (.tmp 32) (by rfl) Pst.noMail mm HM (by rfl) (by rfl) hmb ?_; intro wE HSm; have HQ := Lib.hid (HSq.out.blk.turned HSm.out.turns (by decide)); have HG := Lib.hid (HG.out.apart HSm.out (by omega)); have hzE := HSm.out.size; have hs := Lib.hid (below_turns hHeld.out HSm.out.turns (Nat.le_refl _))
        refine hK.out _ _ hs (fun hHeld => ?_)
        clear hK K
        try simp only [Act.put]
        refine wpAnyH_take (i := 15) (oi := ⟨some 8, _, _, _, _, _⟩) (v := ?_) rfl (by kernel_rfl) (by kernel_rfl) (by kernel_rfl) (fun _ _ _ h => h) (Or.inl ⟨by rfl, ?_⟩) (by assumption) ?_
        rotate_left
        · (intro w hSw; (try dsimp only at hSw); go_simp; try with_reducible rfl)
        try simp only [Act.put, List.setIfInBounds_toArray, List.set_cons_zero, List.set_cons_succ]
        refine wpAnyH_take (i := 16) (oi := ⟨some 9, _, _, _, _, _⟩) (v := ?_) rfl (by kernel_rfl) (by kernel_rfl) (by kernel_rfl) (fun _ _ _ h => h) (Or.inl ⟨by rfl, ?_⟩) (by assumption) ?_
        rotate_left
        · (intro w hSw; (try dsimp only at hSw); go_simp; try with_reducible rfl)
        try simp only [Act.put, List.setIfInBounds_toArray, List.set_cons_zero, List.set_cons_succ]
        refine wpAnyH_done (by kernel_rfl) ?_ _
        rotate_left
        refine step_am (by rfl) (by rfl) ?_; intro wC gM HM hb1 hzC hm1 hm2; (try have HG := Lib.hid (HG.out.later hb1.out)); (try have HQ := Blk.hb HQ hb1.out); have hmb : wr.drew.heap.size ≤ gM := Nat.le_trans hHeld.out.size hm1; have hs := Lib.hid (Lift.then2 hHeld.out hb1.out); clear hb1
        refine hK.out _ _ hs (fun hHeld => ?_)
        clear hK K
        try simp only [Act.put, List.setIfInBounds_toArray, List.set_cons_zero, List.set_cons_succ]
        refine wpAnyH_ready (rs := [5, 11]) (by kernel_rfl) (by simp) ?_
        refine AllReadyH.cons (o := ⟨some 30, _, _, _, _, _⟩) rfl (fun K hK => ?_) (AllReadyH.cons (o := ⟨some 6, _, _, _, _, _⟩) rfl (fun K hK => ?_) AllReadyH.nil)
        go_simp
        go_at_call 8
        refine (HX.out _ hHeld.out).mono ?_; rintro e wA ⟨A1, c1, k1, rfl, g1, n1, b1⟩; have HG := Lib.hid g1; (try have HQ := Blk.hb HQ b1); (try have HM := Blk.hb HM b1); have hzA := b1.size; have hkA : k1 < wA.heap.size := (by have := hHeld.out.size; omega); have hs := Lib.hid (Lift.then2 hHeld.out b1); clear g1 b1
        refine hK.out _ _ hs (fun hHeld => ?_)
        clear hK K
        try simp only 
        refine wpAnyH_take (i := 6) (oi := ⟨some 24, _, _, _, _, _⟩) (v := ?_) rfl (by kernel_rfl) (by kernel_rfl) (by kernel_rfl) (fun _ _ _ h => h) (Or.inl ⟨by rfl, ?_⟩) (by assumption) ?_
        rotate_left
        · (intro w hSw; (try dsimp only at hSw); go_simp; try with_reducible rfl)
        try simp only [Act.put, List.setIfInBounds_toArray, List.set_cons_zero, List.set_cons_succ]
        refine wpAnyH_take (i := 7) (oi := ⟨some 31, _, _, _, _, _⟩) (v := ?_) rfl (by kernel_rfl) (by kernel_rfl) (by kernel_rfl) (fun _ _ _ h => h) (Or.inl ⟨by rfl, ?_⟩) (by assumption) ?_
        rotate_left
        · (intro w hSw; (try dsimp only at hSw); go_simp; try with_reducible rfl)
        try simp only [Act.put, List.setIfInBounds_toArray, List.set_cons_zero, List.set_cons_succ]
        refine wpAnyH_take (i := 8) (oi := ⟨some 32, _, _, _, _, _⟩) (v := ?_) rfl (by kernel_rfl) (by kernel_rfl) (by kernel_rfl) (fun _ _ _ h => h) (Or.inl ⟨by rfl, ?_⟩) (by assumption) ?_
        rotate_left
        · (intro w hSw; (try dsimp only at hSw); go_simp; try with_reducible rfl)
        try simp only [Act.put, List.setIfInBounds_toArray, List.set_cons_zero, List.set_cons_succ]
        refine wpAnyH_take (i := 9) (oi := ⟨some 33, _, _, _, _, _⟩) (v := ?_) rfl (by kernel_rfl) (by kernel_rfl) (by kernel_rfl) (fun _ _ _ h => h) (Or.inl ⟨by rfl, ?_⟩) (by assumption) ?_
        rotate_left
        · (intro w hSw; (try dsimp only at hSw); go_simp; try with_reducible rfl)
        try simp only [Act.put, List.setIfInBounds_toArray, List.set_cons_zero, List.set_cons_succ]
        refine wpAnyH_take (i := 10) (oi := ⟨some 34, _, _, _, _, _⟩) (v := ?_) rfl (by kernel_rfl) (by kernel_rfl) (by kernel_rfl) (fun _ _ _ h => h) (Or.inl ⟨by rfl, ?_⟩) (by assumption) ?_
        rotate_left
        · (intro w hSw; (try dsimp only at hSw); go_simp; try with_reducible rfl)
        try simp only [Act.put, List.setIfInBounds_toArray, List.set_cons_zero, List.set_cons_succ]
        refine wpAnyH_ready (rs := [11]) (by kernel_rfl) (by simp) ?_
        refine AllReadyH.cons (o := ⟨some 6, _, _, _, _, _⟩) rfl (fun K hK => ?_) AllReadyH.nil
        refine step_ap (by rfl) (by rfl) ?_; intro wB gQ HQ hb1 hzB hq1 hq2; (try have HG := Lib.hid (HG.out.later hb1.out)); (try have HM := Blk.hb HM hb1.out); have hqb : wr.drew.heap.size ≤ gQ := Nat.le_trans hHeld.out.size hq1; have hs := Lib.hid (Lift.then2 hHeld.out hb1.out); clear hb1
        refine hK.out _ _ hs (fun hHeld => ?_)
        clear hK K
        try simp only [Act.put, List.setIfInBounds_toArray, List.set_cons_zero, List.set_cons_succ]
        refine wpAnyH_ready (rs := [13]) (by kernel_rfl) (by simp) ?_
        refine AllReadyH.cons (o := ⟨none, _, _, _, _, _⟩) rfl (fun K hK => ?_) AllReadyH.nil
        refine step_sp (by rfl) (.tmp 6) (.tmp 31) (by rfl) HQ (by rfl) (by rfl) hqb ?_; intro wD HSq; have HM := Lib.hid (HM.out.turned HSq.out.turns (by decide)); have HG := Lib.hid (HG.out.turned HSq.out.turns); have hzD := HSq.out.size; have hs := Lib.hid (below_turns hHeld.out HSq.out.turns (Nat.le_refl _))
        refine hK.out _ _ hs (fun hHeld => ?_)
        clear hK K
        try simp only [Act.put]
        refine wpAnyH_ready (rs := [14]) (by kernel_rfl) (by simp) ?_
        refine AllReadyH.cons (o := ⟨none, _, _, _, _, _⟩) rfl (fun K hK => ?_) AllReadyH.nil
        refine step_sm (by rfl) (.tmp 7) (.tmp 32) (by rfl) Pst.noMail mm HM (by rfl) (by rfl) hmb ?_; intro wE HSm; have HQ := Lib.hid (HSq.out.blk.turned HSm.out.turns (by decide)); have HG := Lib.hid (HG.out.apart HSm.out (by omega)); have hzE := HSm.out.size; have hs := Lib.hid (below_turns hHeld.out HSm.out.turns (Nat.le_refl _))
        refine hK.out _ _ hs (fun hHeld => ?_)
        clear hK K
        try simp only [Act.put]
        refine wpAnyH_take (i := 15) (oi := ⟨some 8, _, _, _, _, _⟩) (v := ?_) rfl (by kernel_rfl) (by kernel_rfl) (by kernel_rfl) (fun _ _ _ h => h) (Or.inl ⟨by rfl, ?_⟩) (by assumption) ?_
        rotate_left
        · (intro w hSw; (try dsimp only at hSw); go_simp; try with_reducible rfl)
        try simp only [Act.put, List.setIfInBounds_toArray, List.set_cons_zero, List.set_cons_succ]
        refine wpAnyH_take (i := 16) (oi := ⟨some 9, _, _, _, _, _⟩) (v := ?_) rfl (by kernel_rfl) (by kernel_rfl) (by kernel_rfl) (fun _ _ _ h => h) (Or.inl ⟨by rfl, ?_⟩) (by assumption) ?_
        rotate_left
        · (intro w hSw; (try dsimp only at hSw); go_simp; try with_reducible rfl)
        try simp only [Act.put, List.setIfInBounds_toArray, List.set_cons_zero, List.set_cons_succ]
        refine wpAnyH_done (by kernel_rfl) ?_ _
        rotate_left
        refine step_ap (by rfl) (by rfl) ?_; intro wB gQ HQ hb1 hzB hq1 hq2; (try have HG := Lib.hid (HG.out.later hb1.out)); (try have HM := Blk.hb HM hb1.out); have hqb : wr.drew.heap.size ≤ gQ := Nat.le_trans hHeld.out.size hq1; have hs := Lib.hid (Lift.then2 hHeld.out hb1.out); clear hb1
        refine hK.out _ _ hs (fun hHeld => ?_)
        clear hK K
        try simp only [Act.put, List.setIfInBounds_toArray, List.set_cons_zero, List.set_cons_succ]
        refine wpAnyH_ready (rs := [5]) (by kernel_rfl) (by simp) ?_
        refine AllReadyH.cons (o := ⟨some 30, _, _, _, _, _⟩) rfl (fun K hK => ?_) AllReadyH.nil
        go_simp
        go_at_call 8
        refine (HX.out _ hHeld.out).mono ?_; rintro e wA ⟨A1, c1, k1, rfl, g1, n1, b1⟩; have HG := Lib.hid g1; (try have HQ := Blk.hb HQ b1); (try have HM := Blk.hb HM b1); have hzA := b1.size; have hkA : k1 < wA.heap.size := (by have := hHeld.out.size; omega); have hs := Lib.hid (Lift.then2 hHeld.out b1); clear g1 b1
        refine hK.out _ _ hs (fun hHeld => ?_)
        clear hK K
        try simp only 
        refine wpAnyH_take (i := 6) (oi := ⟨some 24, _, _, _, _, _⟩) (v := ?_) rfl (by kernel_rfl) (by kernel_rfl) (by kernel_rfl) (fun _ _ _ h => h) (Or.inl ⟨by rfl, ?_⟩) (by assumption) ?_
        rotate_left
        · (intro w hSw; (try dsimp only at hSw); go_simp; try with_reducible rfl)
        try simp only [Act.put, List.setIfInBounds_toArray, List.set_cons_zero, List.set_cons_succ]
        refine wpAnyH_take (i := 7) (oi := ⟨some 31, _, _, _, _, _⟩) (v := ?_) rfl (by kernel_rfl) (by kernel_rfl) (by kernel_rfl) (fun _ _ _ h => h) (Or.inl ⟨by rfl, ?_⟩) (by assumption) ?_
        rotate_left
        · (intro w hSw; (try dsimp only at hSw); go_simp; try with_reducible rfl)
        try simp only [Act.put, List.setIfInBounds_toArray, List.set_cons_zero, List.set_cons_succ]
        refine wpAnyH_take (i := 8) (oi := ⟨some 32, _, _, _, _, _⟩) (v := ?_) rfl (by kernel_rfl) (by kernel_rfl) (by kernel_rfl) (fun _ _ _ h => h) (Or.inl ⟨by rfl, ?_⟩) (by assumption) ?_
        rotate_left
        · (intro w hSw; (try dsimp only at hSw); go_simp; try with_reducible rfl)
        try simp only [Act.put, List.setIfInBounds_toArray, List.set_cons_zero, List.set_cons_succ]
        refine wpAnyH_take (i := 9) (oi := ⟨some 33, _, _, _, _, _⟩) (v := ?_) rfl (by kernel_rfl) (by kernel_rfl) (by kernel_rfl) (fun _ _ _ h => h) (Or.inl ⟨by rfl, ?_⟩) (by assumption) ?_
        rotate_left
        · (intro w hSw; (try dsimp only at hSw); go_simp; try with_reducible rfl)
        try simp only [Act.put, List.setIfInBounds_toArray, List.set_cons_zero, List.set_cons_succ]
        refine wpAnyH_take (i := 10) (oi := ⟨some 34, _, _, _, _, _⟩) (v := ?_) rfl (by kernel_rfl) (by kernel_rfl) (by kernel_rfl) (fun _ _ _ h => h) (Or.inl ⟨by rfl, ?_⟩) (by assumption) ?_
        rotate_left
        · (intro w hSw; (try dsimp only at hSw); go_simp; try with_reducible rfl)
        try simp only [Act.put, List.setIfInBounds_toArray, List.set_cons_zero, List.set_cons_succ]
        refine wpAnyH_ready (rs := [13]) (by kernel_rfl) (by simp) ?_
        refine AllReadyH.cons (o := ⟨none, _, _, _, _, _⟩) rfl (fun K hK => ?_) AllReadyH.nil
        refine step_sp (by rfl) (.tmp 6) (.tmp 31) (by rfl) HQ (by rfl) (by rfl) hqb ?_; intro wD HSq; have HM := Lib.hid (HM.out.turned HSq.out.turns (by decide)); have HG := Lib.hid (HG.out.turned HSq.out.turns); have hzD := HSq.out.size; have hs := Lib.hid (below_turns hHeld.out HSq.out.turns (Nat.le_refl _))
        refine hK.out _ _ hs (fun hHeld => ?_)
        clear hK K
        try simp only [Act.put]
        refine wpAnyH_ready (rs := [14]) (by kernel_rfl) (by simp) ?_
        refine AllReadyH.cons (o := ⟨none, _, _, _, _, _⟩) rfl (fun K hK => ?_) AllReadyH.nil
        refine step_sm (by rfl) (.tmp 7) (.tmp 32) (by rfl) Pst.noMail mm HM (by rfl) (by rfl) hmb ?_; intro wE HSm; have HQ := Lib.hid (HSq.out.blk.turned HSm.out.turns (by decide)); have HG := Lib.hid (HG.out.apart HSm.out (by omega)); have hzE := HSm.out.size; have hs := Lib.hid (below_turns hHeld.out HSm.out.turns (Nat.le_refl _))
        refine hK.out _ _ hs (fun hHeld => ?_)
        clear hK K
        try simp only [Act.put]
        refine wpAnyH_take (i := 15) (oi := ⟨some 8, _, _, _, _, _⟩) (v := ?_) rfl (by kernel_rfl) (by kernel_rfl) (by kernel_rfl) (fun _ _ _ h => h) (Or.inl ⟨by rfl, ?_⟩) (by assumption) ?_
        rotate_left
        · (intro w hSw; (try dsimp only at hSw); go_simp; try with_reducible rfl)
        try simp only [Act.put, List.setIfInBounds_toArray, List.set_cons_zero, List.set_cons_succ]
        refine wpAnyH_take (i := 16) (oi := ⟨some 9, _, _, _, _, _⟩) (v := ?_) rfl (by kernel_rfl) (by kernel_rfl) (by kernel_rfl) (fun _ _ _ h => h) (Or.inl ⟨by rfl, ?_⟩) (by assumption) ?_
        rotate_left
        · (intro w hSw; (try dsimp only at hSw); go_simp; try with_reducible rfl)
        try simp only [Act.put, List.setIfInBounds_toArray, List.set_cons_zero, List.set_cons_succ]
        refine wpAnyH_done (by kernel_rfl) ?_ _
        rotate_left
        all_goals
          go_wp2_with fail
          go_meet
          exact ⟨gQ, gM, A1, c1, k1, rfl, rfl, rfl, rfl, Lib.hid ⟨HQ.out, HSm.out.blk, HG.out, hs.out, hqb, hmb, by omega⟩⟩
      case rest =>
      obtain ⟨gQ, gM, A1, c1, k1, rfl, rfl, rfl, rfl, HD⟩ := hcut
      generalize wc = wd at *
      have hqn : wr.heap.size ≤ gQ := HD.out.qn
      have hmn : wr.heap.size ≤ gM := HD.out.mn
      have hql2 := HD.out.q.lt
      have hml2 := HD.out.m.lt
      have hkx := HD.out.k
      have HBy : Hid (Below w.heap.size w wd) := Lib.hid (HB.out.drew.trans (HD.out.b.mono hsz))
      have HRf2 : Hid (∀ W, Below wd.drew.heap.size wd.drew W → Hid (Blk W (w.heap.size + 1) 25 (pc A' p.m.length c' p.s))) := Lib.hid fun W hW => HRf.out W (Lift.then2 HD.out.b.drew hW)
      have HOf2 : Hid (∀ W, Below wd.drew.heap.size wd.drew W → Hid (opLay.At W bl ol k x)) := Lib.hid fun W hW => HOf.out W (Lift.then2 HD.out.b.drew hW)
      have HPf2 : Hid (∀ W, Below wd.drew.heap.size wd.drew W → Hid (Blk W w.heap.size 25 (pc A p.m.length c p.s))) := Lib.hid fun W hW => HPf.out W (Lift.then2 HD.out.b.drew hW)
      have HX2 := HY.out wd.drew HD.out.b.drew
      clear HX HY HPf HRf HOf HP HG HR HGr
      go_wp2_with fail
      go_cut [10, 11, 12, 13] (fun sQ sM sOk sE wx => ∃ (gQ' gM' : Nat) (A2 : Option Addr) (c2 k2 : Nat), sQ = .pointer (some ⟨gQ', 0, none⟩) ∧ sM = .pointer (some ⟨gM', 0, none⟩) ∧ sOk = .bool ar ∧ sE = .int .i64 er ∧ Hid (Done w wd.drew w.heap.size q mm A2 c2 k2 gQ' gM' wx))
      case first =>
        refine wp_region_held_drew (S := (fun W => Hid (Below wd.drew.heap.size wd.drew W))) (by kernel_rfl) ?_ (fun hHeld => ?_)
        · (try dsimp only); exact Lib.hid (Below.refl _ _)
        refine wpAnyH_take (i := 0) (oi := ⟨some 36, _, _, _, _, _⟩) (v := ?_) rfl (by kernel_rfl) (by kernel_rfl) (by kernel_rfl) (fun _ _ _ h => h) (Or.inl ⟨by rfl, ?_⟩) (by assumption) ?_
        rotate_left
        · (intro w hSw; refine Eq.trans (exec_lp (HRf2.out w hSw.out) (by rfl) (by rfl)) ?_; with_reducible rfl)
        try simp only [Act.put, List.setIfInBounds_toArray, List.set_cons_zero, List.set_cons_succ]
        refine wpAnyH_take (i := 1) (oi := ⟨some 37, _, _, _, _, _⟩) (v := ?_) rfl (by kernel_rfl) (by kernel_rfl) (by kernel_rfl) (fun _ _ _ h => h) (Or.inl ⟨by rfl, ?_⟩) (by assumption) ?_
        rotate_left
        · (intro w hSw; (try dsimp only at hSw); go_simp; try with_reducible rfl)
        try simp only [Act.put, List.setIfInBounds_toArray, List.set_cons_zero, List.set_cons_succ]
        refine wpAnyH_take (i := 2) (oi := ⟨some 38, _, _, _, _, _⟩) (v := ?_) rfl (by kernel_rfl) (by kernel_rfl) (by kernel_rfl) (fun _ _ _ h => h) (Or.inl ⟨by rfl, ?_⟩) (by assumption) ?_
        rotate_left
        · (intro w hSw; (try dsimp only at hSw); go_simp; try with_reducible rfl)
        try simp only [Act.put, List.setIfInBounds_toArray, List.set_cons_zero, List.set_cons_succ]
        refine wpAnyH_take (i := 3) (oi := ⟨some 39, _, _, _, _, _⟩) (v := ?_) rfl (by kernel_rfl) (by kernel_rfl) (by kernel_rfl) (fun _ _ _ h => h) (Or.inl ⟨by rfl, ?_⟩) (by assumption) ?_
        rotate_left
        · (intro w hSw; (try dsimp only at hSw); go_simp; try with_reducible rfl)
        try simp only [Act.put, List.setIfInBounds_toArray, List.set_cons_zero, List.set_cons_succ]
        refine wpAnyH_take (i := 4) (oi := ⟨some 40, _, _, _, _, _⟩) (v := ?_) rfl (by kernel_rfl) (by kernel_rfl) (by kernel_rfl) (fun _ _ _ h => h) (Or.inl ⟨by rfl, ?_⟩) (by assumption) ?_
        rotate_left
        · (intro w hSw; refine Eq.trans (exec_lo (HOf2.out w hSw.out) (by rfl) (by rfl)) ?_; with_reducible rfl)
        try simp only [Act.put, List.setIfInBounds_toArray, List.set_cons_zero, List.set_cons_succ]
        refine wpAnyH_ready (rs := [5, 11, 12]) (by kernel_rfl) (by simp) ?_
        refine AllReadyH.cons (o := ⟨some 41, _, _, _, _, _⟩) rfl (fun K hK => ?_) (AllReadyH.cons (o := ⟨some 10, _, _, _, _, _⟩) rfl (fun K hK => ?_) (AllReadyH.cons (o := ⟨some 11, _, _, _, _, _⟩) rfl (fun K hK => ?_) AllReadyH.nil))
        go_simp
        go_at_call 9
        refine (HX2.out _ hHeld.out).mono ?_; rintro e wA ⟨A1, c1, k1, rfl, g1, n1, b1⟩; have HG := Lib.hid g1; (try have HQ := Blk.hb HQ b1); (try have HM := Blk.hb HM b1); have hzA := b1.size; have hkA : k1 < wA.heap.size := (by have := hHeld.out.size; omega); have hs := Lib.hid (Lift.then2 hHeld.out b1); clear g1 b1
        refine hK.out _ _ hs (fun hHeld => ?_)
        clear hK K
        try simp only 
        refine wpAnyH_take (i := 6) (oi := ⟨some 35, _, _, _, _, _⟩) (v := ?_) rfl (by kernel_rfl) (by kernel_rfl) (by kernel_rfl) (fun _ _ _ h => h) (Or.inl ⟨by rfl, ?_⟩) (by assumption) ?_
        rotate_left
        · (intro w hSw; (try dsimp only at hSw); go_simp; try with_reducible rfl)
        try simp only [Act.put, List.setIfInBounds_toArray, List.set_cons_zero, List.set_cons_succ]
        refine wpAnyH_take (i := 7) (oi := ⟨some 42, _, _, _, _, _⟩) (v := ?_) rfl (by kernel_rfl) (by kernel_rfl) (by kernel_rfl) (fun _ _ _ h => h) (Or.inl ⟨by rfl, ?_⟩) (by assumption) ?_
        rotate_left
        · (intro w hSw; (try dsimp only at hSw); go_simp; try with_reducible rfl)
        try simp only [Act.put, List.setIfInBounds_toArray, List.set_cons_zero, List.set_cons_succ]
        refine wpAnyH_take (i := 8) (oi := ⟨some 43, _, _, _, _, _⟩) (v := ?_) rfl (by kernel_rfl) (by kernel_rfl) (by kernel_rfl) (fun _ _ _ h => h) (Or.inl ⟨by rfl, ?_⟩) (by assumption) ?_
        rotate_left
        · (intro w hSw; (try dsimp only at hSw); go_simp; try with_reducible rfl)
        try simp only [Act.put, List.setIfInBounds_toArray, List.set_cons_zero, List.set_cons_succ]
        refine wpAnyH_take (i := 9) (oi := ⟨some 44, _, _, _, _, _⟩) (v := ?_) rfl (by kernel_rfl) (by kernel_rfl) (by kernel_rfl) (fun _ _ _ h => h) (Or.inl ⟨by rfl, ?_⟩) (by assumption) ?_
        rotate_left
        · (intro w hSw; (try dsimp only at hSw); go_simp; try with_reducible rfl)
        try simp only [Act.put, List.setIfInBounds_toArray, List.set_cons_zero, List.set_cons_succ]
        refine wpAnyH_take (i := 10) (oi := ⟨some 45, _, _, _, _, _⟩) (v := ?_) rfl (by kernel_rfl) (by kernel_rfl) (by kernel_rfl) (fun _ _ _ h => h) (Or.inl ⟨by rfl, ?_⟩) (by assumption) ?_
        rotate_left
        · (intro w hSw; (try dsimp only at hSw); go_simp; try with_reducible rfl)
        try simp only [Act.put, List.setIfInBounds_toArray, List.set_cons_zero, List.set_cons_succ]
        refine wpAnyH_ready (rs := [11, 12]) (by kernel_rfl) (by simp) ?_
        refine AllReadyH.cons (o := ⟨some 10, _, _, _, _, _⟩) rfl (fun K hK => ?_) (AllReadyH.cons (o := ⟨some 11, _, _, _, _, _⟩) rfl (fun K hK => ?_) AllReadyH.nil)
        refine step_ap (by rfl) (by rfl) ?_; intro wB gQ HQ hb1 hzB hq1 hq2; (try have HG := Lib.hid (HG.out.later hb1.out)); (try have HM := Blk.hb HM hb1.out); have hqb : wd.drew.heap.size ≤ gQ := Nat.le_trans hHeld.out.size hq1; have hs := Lib.hid (Lift.then2 hHeld.out hb1.out); clear hb1
        refine hK.out _ _ hs (fun hHeld => ?_)
        clear hK K
        try simp only [Act.put, List.setIfInBounds_toArray, List.set_cons_zero, List.set_cons_succ]
        refine wpAnyH_ready (rs := [12]) (by kernel_rfl) (by simp) ?_
        refine AllReadyH.cons (o := ⟨some 11, _, _, _, _, _⟩) rfl (fun K hK => ?_) AllReadyH.nil
        refine step_am (by rfl) (by rfl) ?_; intro wC gM HM hb1 hzC hm1 hm2; (try have HG := Lib.hid (HG.out.later hb1.out)); (try have HQ := Blk.hb HQ hb1.out); have hmb : wd.drew.heap.size ≤ gM := Nat.le_trans hHeld.out.size hm1; have hs := Lib.hid (Lift.then2 hHeld.out hb1.out); clear hb1
        refine hK.out _ _ hs (fun hHeld => ?_)
        clear hK K
        try simp only [Act.put, List.setIfInBounds_toArray, List.set_cons_zero, List.set_cons_succ]
        refine wpAnyH_ready (rs := [13]) (by kernel_rfl) (by simp) ?_
        refine AllReadyH.cons (o := ⟨none, _, _, _, _, _⟩) rfl (fun K hK => ?_) AllReadyH.nil
        refine step_sp (by rfl) (.tmp 10) (.tmp 42) (by rfl) HQ (by rfl) (by rfl) hqb ?_; intro wD HSq; have HM := Lib.hid (HM.out.turned HSq.out.turns (by decide)); have HG := Lib.hid (HG.out.turned HSq.out.turns); have hzD := HSq.out.size; have hs := Lib.hid (below_turns hHeld.out HSq.out.turns (Nat.le_refl _))
        refine hK.out _ _ hs (fun hHeld => ?_)
        clear hK K
        try simp only [Act.put]
        refine wpAnyH_ready (rs := [14]) (by kernel_rfl) (by simp) ?_
        refine AllReadyH.cons (o := ⟨none, _, _, _, _, _⟩) rfl (fun K hK => ?_) AllReadyH.nil
        refine step_sm (by rfl) (.tmp 11) (.tmp 43) (by rfl) Pst.noMail mm HM (by rfl) (by rfl) hmb ?_; intro wE HSm; have HQ := Lib.hid (HSq.out.blk.turned HSm.out.turns (by decide)); have HG := Lib.hid (HG.out.apart HSm.out (by omega)); have hzE := HSm.out.size; have hs := Lib.hid (below_turns hHeld.out HSm.out.turns (Nat.le_refl _))
        refine hK.out _ _ hs (fun hHeld => ?_)
        clear hK K
        try simp only [Act.put]
        refine wpAnyH_take (i := 15) (oi := ⟨some 12, _, _, _, _, _⟩) (v := ?_) rfl (by kernel_rfl) (by kernel_rfl) (by kernel_rfl) (fun _ _ _ h => h) (Or.inl ⟨by rfl, ?_⟩) (by assumption) ?_
        rotate_left
        · (intro w hSw; (try dsimp only at hSw); go_simp; try with_reducible rfl)
        try simp only [Act.put, List.setIfInBounds_toArray, List.set_cons_zero, List.set_cons_succ]
        refine wpAnyH_take (i := 16) (oi := ⟨some 13, _, _, _, _, _⟩) (v := ?_) rfl (by kernel_rfl) (by kernel_rfl) (by kernel_rfl) (fun _ _ _ h => h) (Or.inl ⟨by rfl, ?_⟩) (by assumption) ?_
        rotate_left
        · (intro w hSw; (try dsimp only at hSw); go_simp; try with_reducible rfl)
        try simp only [Act.put, List.setIfInBounds_toArray, List.set_cons_zero, List.set_cons_succ]
        refine wpAnyH_done (by kernel_rfl) ?_ _
        rotate_left
        refine step_am (by rfl) (by rfl) ?_; intro wC gM HM hb1 hzC hm1 hm2; (try have HG := Lib.hid (HG.out.later hb1.out)); (try have HQ := Blk.hb HQ hb1.out); have hmb : wd.drew.heap.size ≤ gM := Nat.le_trans hHeld.out.size hm1; have hs := Lib.hid (Lift.then2 hHeld.out hb1.out); clear hb1
        refine hK.out _ _ hs (fun hHeld => ?_)
        clear hK K
        try simp only [Act.put, List.setIfInBounds_toArray, List.set_cons_zero, List.set_cons_succ]
        refine wpAnyH_ready (rs := [11]) (by kernel_rfl) (by simp) ?_
        refine AllReadyH.cons (o := ⟨some 10, _, _, _, _, _⟩) rfl (fun K hK => ?_) AllReadyH.nil
        refine step_ap (by rfl) (by rfl) ?_; intro wB gQ HQ hb1 hzB hq1 hq2; (try have HG := Lib.hid (HG.out.later hb1.out)); (try have HM := Blk.hb HM hb1.out); have hqb : wd.drew.heap.size ≤ gQ := Nat.le_trans hHeld.out.size hq1; have hs := Lib.hid (Lift.then2 hHeld.out hb1.out); clear hb1
        refine hK.out _ _ hs (fun hHeld => ?_)
        clear hK K
        try simp only [Act.put, List.setIfInBounds_toArray, List.set_cons_zero, List.set_cons_succ]
        refine wpAnyH_ready (rs := [13]) (by kernel_rfl) (by simp) ?_
        refine AllReadyH.cons (o := ⟨none, _, _, _, _, _⟩) rfl (fun K hK => ?_) AllReadyH.nil
        refine step_sp (by rfl) (.tmp 10) (.tmp 42) (by rfl) HQ (by rfl) (by rfl) hqb ?_; intro wD HSq; have HM := Lib.hid (HM.out.turned HSq.out.turns (by decide)); have HG := Lib.hid (HG.out.turned HSq.out.turns); have hzD := HSq.out.size; have hs := Lib.hid (below_turns hHeld.out HSq.out.turns (Nat.le_refl _))
        refine hK.out _ _ hs (fun hHeld => ?_)
        clear hK K
        try simp only [Act.put]
        refine wpAnyH_ready (rs := [14]) (by kernel_rfl) (by simp) ?_
        refine AllReadyH.cons (o := ⟨none, _, _, _, _, _⟩) rfl (fun K hK => ?_) AllReadyH.nil
        refine step_sm (by rfl) (.tmp 11) (.tmp 43) (by rfl) Pst.noMail mm HM (by rfl) (by rfl) hmb ?_; intro wE HSm; have HQ := Lib.hid (HSq.out.blk.turned HSm.out.turns (by decide)); have HG := Lib.hid (HG.out.apart HSm.out (by omega)); have hzE := HSm.out.size; have hs := Lib.hid (below_turns hHeld.out HSm.out.turns (Nat.le_refl _))
        refine hK.out _ _ hs (fun hHeld => ?_)
        clear hK K
        try simp only [Act.put]
        refine wpAnyH_take (i := 15) (oi := ⟨some 12, _, _, _, _, _⟩) (v := ?_) rfl (by kernel_rfl) (by kernel_rfl) (by kernel_rfl) (fun _ _ _ h => h) (Or.inl ⟨by rfl, ?_⟩) (by assumption) ?_
        rotate_left
        · (intro w hSw; (try dsimp only at hSw); go_simp; try with_reducible rfl)
        try simp only [Act.put, List.setIfInBounds_toArray, List.set_cons_zero, List.set_cons_succ]
        refine wpAnyH_take (i := 16) (oi := ⟨some 13, _, _, _, _, _⟩) (v := ?_) rfl (by kernel_rfl) (by kernel_rfl) (by kernel_rfl) (fun _ _ _ h => h) (Or.inl ⟨by rfl, ?_⟩) (by assumption) ?_
        rotate_left
        · (intro w hSw; (try dsimp only at hSw); go_simp; try with_reducible rfl)
        try simp only [Act.put, List.setIfInBounds_toArray, List.set_cons_zero, List.set_cons_succ]
        refine wpAnyH_done (by kernel_rfl) ?_ _
        rotate_left
        refine step_ap (by rfl) (by rfl) ?_; intro wB gQ HQ hb1 hzB hq1 hq2; (try have HG := Lib.hid (HG.out.later hb1.out)); (try have HM := Blk.hb HM hb1.out); have hqb : wd.drew.heap.size ≤ gQ := Nat.le_trans hHeld.out.size hq1; have hs := Lib.hid (Lift.then2 hHeld.out hb1.out); clear hb1
        refine hK.out _ _ hs (fun hHeld => ?_)
        clear hK K
        try simp only [Act.put, List.setIfInBounds_toArray, List.set_cons_zero, List.set_cons_succ]
        refine wpAnyH_ready (rs := [5, 12]) (by kernel_rfl) (by simp) ?_
        refine AllReadyH.cons (o := ⟨some 41, _, _, _, _, _⟩) rfl (fun K hK => ?_) (AllReadyH.cons (o := ⟨some 11, _, _, _, _, _⟩) rfl (fun K hK => ?_) AllReadyH.nil)
        go_simp
        go_at_call 9
        refine (HX2.out _ hHeld.out).mono ?_; rintro e wA ⟨A1, c1, k1, rfl, g1, n1, b1⟩; have HG := Lib.hid g1; (try have HQ := Blk.hb HQ b1); (try have HM := Blk.hb HM b1); have hzA := b1.size; have hkA : k1 < wA.heap.size := (by have := hHeld.out.size; omega); have hs := Lib.hid (Lift.then2 hHeld.out b1); clear g1 b1
        refine hK.out _ _ hs (fun hHeld => ?_)
        clear hK K
        try simp only 
        refine wpAnyH_take (i := 6) (oi := ⟨some 35, _, _, _, _, _⟩) (v := ?_) rfl (by kernel_rfl) (by kernel_rfl) (by kernel_rfl) (fun _ _ _ h => h) (Or.inl ⟨by rfl, ?_⟩) (by assumption) ?_
        rotate_left
        · (intro w hSw; (try dsimp only at hSw); go_simp; try with_reducible rfl)
        try simp only [Act.put, List.setIfInBounds_toArray, List.set_cons_zero, List.set_cons_succ]
        refine wpAnyH_take (i := 7) (oi := ⟨some 42, _, _, _, _, _⟩) (v := ?_) rfl (by kernel_rfl) (by kernel_rfl) (by kernel_rfl) (fun _ _ _ h => h) (Or.inl ⟨by rfl, ?_⟩) (by assumption) ?_
        rotate_left
        · (intro w hSw; (try dsimp only at hSw); go_simp; try with_reducible rfl)
        try simp only [Act.put, List.setIfInBounds_toArray, List.set_cons_zero, List.set_cons_succ]
        refine wpAnyH_take (i := 8) (oi := ⟨some 43, _, _, _, _, _⟩) (v := ?_) rfl (by kernel_rfl) (by kernel_rfl) (by kernel_rfl) (fun _ _ _ h => h) (Or.inl ⟨by rfl, ?_⟩) (by assumption) ?_
        rotate_left
        · (intro w hSw; (try dsimp only at hSw); go_simp; try with_reducible rfl)
        try simp only [Act.put, List.setIfInBounds_toArray, List.set_cons_zero, List.set_cons_succ]
        refine wpAnyH_take (i := 9) (oi := ⟨some 44, _, _, _, _, _⟩) (v := ?_) rfl (by kernel_rfl) (by kernel_rfl) (by kernel_rfl) (fun _ _ _ h => h) (Or.inl ⟨by rfl, ?_⟩) (by assumption) ?_
        rotate_left
        · (intro w hSw; (try dsimp only at hSw); go_simp; try with_reducible rfl)
        try simp only [Act.put, List.setIfInBounds_toArray, List.set_cons_zero, List.set_cons_succ]
        refine wpAnyH_take (i := 10) (oi := ⟨some 45, _, _, _, _, _⟩) (v := ?_) rfl (by kernel_rfl) (by kernel_rfl) (by kernel_rfl) (fun _ _ _ h => h) (Or.inl ⟨by rfl, ?_⟩) (by assumption) ?_
        rotate_left
        · (intro w hSw; (try dsimp only at hSw); go_simp; try with_reducible rfl)
        try simp only [Act.put, List.setIfInBounds_toArray, List.set_cons_zero, List.set_cons_succ]
        refine wpAnyH_ready (rs := [12]) (by kernel_rfl) (by simp) ?_
        refine AllReadyH.cons (o := ⟨some 11, _, _, _, _, _⟩) rfl (fun K hK => ?_) AllReadyH.nil
        refine step_am (by rfl) (by rfl) ?_; intro wC gM HM hb1 hzC hm1 hm2; (try have HG := Lib.hid (HG.out.later hb1.out)); (try have HQ := Blk.hb HQ hb1.out); have hmb : wd.drew.heap.size ≤ gM := Nat.le_trans hHeld.out.size hm1; have hs := Lib.hid (Lift.then2 hHeld.out hb1.out); clear hb1
        refine hK.out _ _ hs (fun hHeld => ?_)
        clear hK K
        try simp only [Act.put, List.setIfInBounds_toArray, List.set_cons_zero, List.set_cons_succ]
        refine wpAnyH_ready (rs := [13]) (by kernel_rfl) (by simp) ?_
        refine AllReadyH.cons (o := ⟨none, _, _, _, _, _⟩) rfl (fun K hK => ?_) AllReadyH.nil
        refine step_sp (by rfl) (.tmp 10) (.tmp 42) (by rfl) HQ (by rfl) (by rfl) hqb ?_; intro wD HSq; have HM := Lib.hid (HM.out.turned HSq.out.turns (by decide)); have HG := Lib.hid (HG.out.turned HSq.out.turns); have hzD := HSq.out.size; have hs := Lib.hid (below_turns hHeld.out HSq.out.turns (Nat.le_refl _))
        refine hK.out _ _ hs (fun hHeld => ?_)
        clear hK K
        try simp only [Act.put]
        refine wpAnyH_ready (rs := [14]) (by kernel_rfl) (by simp) ?_
        refine AllReadyH.cons (o := ⟨none, _, _, _, _, _⟩) rfl (fun K hK => ?_) AllReadyH.nil
        refine step_sm (by rfl) (.tmp 11) (.tmp 43) (by rfl) Pst.noMail mm HM (by rfl) (by rfl) hmb ?_; intro wE HSm; have HQ := Lib.hid (HSq.out.blk.turned HSm.out.turns (by decide)); have HG := Lib.hid (HG.out.apart HSm.out (by omega)); have hzE := HSm.out.size; have hs := Lib.hid (below_turns hHeld.out HSm.out.turns (Nat.le_refl _))
        refine hK.out _ _ hs (fun hHeld => ?_)
        clear hK K
        try simp only [Act.put]
        refine wpAnyH_take (i := 15) (oi := ⟨some 12, _, _, _, _, _⟩) (v := ?_) rfl (by kernel_rfl) (by kernel_rfl) (by kernel_rfl) (fun _ _ _ h => h) (Or.inl ⟨by rfl, ?_⟩) (by assumption) ?_
        rotate_left
        · (intro w hSw; (try dsimp only at hSw); go_simp; try with_reducible rfl)
        try simp only [Act.put, List.setIfInBounds_toArray, List.set_cons_zero, List.set_cons_succ]
        refine wpAnyH_take (i := 16) (oi := ⟨some 13, _, _, _, _, _⟩) (v := ?_) rfl (by kernel_rfl) (by kernel_rfl) (by kernel_rfl) (fun _ _ _ h => h) (Or.inl ⟨by rfl, ?_⟩) (by assumption) ?_
        rotate_left
        · (intro w hSw; (try dsimp only at hSw); go_simp; try with_reducible rfl)
        try simp only [Act.put, List.setIfInBounds_toArray, List.set_cons_zero, List.set_cons_succ]
        refine wpAnyH_done (by kernel_rfl) ?_ _
        rotate_left
        refine step_am (by rfl) (by rfl) ?_; intro wC gM HM hb1 hzC hm1 hm2; (try have HG := Lib.hid (HG.out.later hb1.out)); (try have HQ := Blk.hb HQ hb1.out); have hmb : wd.drew.heap.size ≤ gM := Nat.le_trans hHeld.out.size hm1; have hs := Lib.hid (Lift.then2 hHeld.out hb1.out); clear hb1
        refine hK.out _ _ hs (fun hHeld => ?_)
        clear hK K
        try simp only [Act.put, List.setIfInBounds_toArray, List.set_cons_zero, List.set_cons_succ]
        refine wpAnyH_ready (rs := [5]) (by kernel_rfl) (by simp) ?_
        refine AllReadyH.cons (o := ⟨some 41, _, _, _, _, _⟩) rfl (fun K hK => ?_) AllReadyH.nil
        go_simp
        go_at_call 9
        refine (HX2.out _ hHeld.out).mono ?_; rintro e wA ⟨A1, c1, k1, rfl, g1, n1, b1⟩; have HG := Lib.hid g1; (try have HQ := Blk.hb HQ b1); (try have HM := Blk.hb HM b1); have hzA := b1.size; have hkA : k1 < wA.heap.size := (by have := hHeld.out.size; omega); have hs := Lib.hid (Lift.then2 hHeld.out b1); clear g1 b1
        refine hK.out _ _ hs (fun hHeld => ?_)
        clear hK K
        try simp only 
        refine wpAnyH_take (i := 6) (oi := ⟨some 35, _, _, _, _, _⟩) (v := ?_) rfl (by kernel_rfl) (by kernel_rfl) (by kernel_rfl) (fun _ _ _ h => h) (Or.inl ⟨by rfl, ?_⟩) (by assumption) ?_
        rotate_left
        · (intro w hSw; (try dsimp only at hSw); go_simp; try with_reducible rfl)
        try simp only [Act.put, List.setIfInBounds_toArray, List.set_cons_zero, List.set_cons_succ]
        refine wpAnyH_take (i := 7) (oi := ⟨some 42, _, _, _, _, _⟩) (v := ?_) rfl (by kernel_rfl) (by kernel_rfl) (by kernel_rfl) (fun _ _ _ h => h) (Or.inl ⟨by rfl, ?_⟩) (by assumption) ?_
        rotate_left
        · (intro w hSw; (try dsimp only at hSw); go_simp; try with_reducible rfl)
        try simp only [Act.put, List.setIfInBounds_toArray, List.set_cons_zero, List.set_cons_succ]
        refine wpAnyH_take (i := 8) (oi := ⟨some 43, _, _, _, _, _⟩) (v := ?_) rfl (by kernel_rfl) (by kernel_rfl) (by kernel_rfl) (fun _ _ _ h => h) (Or.inl ⟨by rfl, ?_⟩) (by assumption) ?_
        rotate_left
        · (intro w hSw; (try dsimp only at hSw); go_simp; try with_reducible rfl)
        try simp only [Act.put, List.setIfInBounds_toArray, List.set_cons_zero, List.set_cons_succ]
        refine wpAnyH_take (i := 9) (oi := ⟨some 44, _, _, _, _, _⟩) (v := ?_) rfl (by kernel_rfl) (by kernel_rfl) (by kernel_rfl) (fun _ _ _ h => h) (Or.inl ⟨by rfl, ?_⟩) (by assumption) ?_
        rotate_left
        · (intro w hSw; (try dsimp only at hSw); go_simp; try with_reducible rfl)
        try simp only [Act.put, List.setIfInBounds_toArray, List.set_cons_zero, List.set_cons_succ]
        refine wpAnyH_take (i := 10) (oi := ⟨some 45, _, _, _, _, _⟩) (v := ?_) rfl (by kernel_rfl) (by kernel_rfl) (by kernel_rfl) (fun _ _ _ h => h) (Or.inl ⟨by rfl, ?_⟩) (by assumption) ?_
        rotate_left
        · (intro w hSw; (try dsimp only at hSw); go_simp; try with_reducible rfl)
        try simp only [Act.put, List.setIfInBounds_toArray, List.set_cons_zero, List.set_cons_succ]
        refine wpAnyH_ready (rs := [13]) (by kernel_rfl) (by simp) ?_
        refine AllReadyH.cons (o := ⟨none, _, _, _, _, _⟩) rfl (fun K hK => ?_) AllReadyH.nil
        refine step_sp (by rfl) (.tmp 10) (.tmp 42) (by rfl) HQ (by rfl) (by rfl) hqb ?_; intro wD HSq; have HM := Lib.hid (HM.out.turned HSq.out.turns (by decide)); have HG := Lib.hid (HG.out.turned HSq.out.turns); have hzD := HSq.out.size; have hs := Lib.hid (below_turns hHeld.out HSq.out.turns (Nat.le_refl _))
        refine hK.out _ _ hs (fun hHeld => ?_)
        clear hK K
        try simp only [Act.put]
        refine wpAnyH_ready (rs := [14]) (by kernel_rfl) (by simp) ?_
        refine AllReadyH.cons (o := ⟨none, _, _, _, _, _⟩) rfl (fun K hK => ?_) AllReadyH.nil
        refine step_sm (by rfl) (.tmp 11) (.tmp 43) (by rfl) Pst.noMail mm HM (by rfl) (by rfl) hmb ?_; intro wE HSm; have HQ := Lib.hid (HSq.out.blk.turned HSm.out.turns (by decide)); have HG := Lib.hid (HG.out.apart HSm.out (by omega)); have hzE := HSm.out.size; have hs := Lib.hid (below_turns hHeld.out HSm.out.turns (Nat.le_refl _))
        refine hK.out _ _ hs (fun hHeld => ?_)
        clear hK K
        try simp only [Act.put]
        refine wpAnyH_take (i := 15) (oi := ⟨some 12, _, _, _, _, _⟩) (v := ?_) rfl (by kernel_rfl) (by kernel_rfl) (by kernel_rfl) (fun _ _ _ h => h) (Or.inl ⟨by rfl, ?_⟩) (by assumption) ?_
        rotate_left
        · (intro w hSw; (try dsimp only at hSw); go_simp; try with_reducible rfl)
        try simp only [Act.put, List.setIfInBounds_toArray, List.set_cons_zero, List.set_cons_succ]
        refine wpAnyH_take (i := 16) (oi := ⟨some 13, _, _, _, _, _⟩) (v := ?_) rfl (by kernel_rfl) (by kernel_rfl) (by kernel_rfl) (fun _ _ _ h => h) (Or.inl ⟨by rfl, ?_⟩) (by assumption) ?_
        rotate_left
        · (intro w hSw; (try dsimp only at hSw); go_simp; try with_reducible rfl)
        try simp only [Act.put, List.setIfInBounds_toArray, List.set_cons_zero, List.set_cons_succ]
        refine wpAnyH_done (by kernel_rfl) ?_ _
        rotate_left
        refine step_am (by rfl) (by rfl) ?_; intro wC gM HM hb1 hzC hm1 hm2; (try have HG := Lib.hid (HG.out.later hb1.out)); (try have HQ := Blk.hb HQ hb1.out); have hmb : wd.drew.heap.size ≤ gM := Nat.le_trans hHeld.out.size hm1; have hs := Lib.hid (Lift.then2 hHeld.out hb1.out); clear hb1
        refine hK.out _ _ hs (fun hHeld => ?_)
        clear hK K
        try simp only [Act.put, List.setIfInBounds_toArray, List.set_cons_zero, List.set_cons_succ]
        refine wpAnyH_ready (rs := [5, 11]) (by kernel_rfl) (by simp) ?_
        refine AllReadyH.cons (o := ⟨some 41, _, _, _, _, _⟩) rfl (fun K hK => ?_) (AllReadyH.cons (o := ⟨some 10, _, _, _, _, _⟩) rfl (fun K hK => ?_) AllReadyH.nil)
        go_simp
        go_at_call 9
        refine (HX2.out _ hHeld.out).mono ?_; rintro e wA ⟨A1, c1, k1, rfl, g1, n1, b1⟩; have HG := Lib.hid g1; (try have HQ := Blk.hb HQ b1); (try have HM := Blk.hb HM b1); have hzA := b1.size; have hkA : k1 < wA.heap.size := (by have := hHeld.out.size; omega); have hs := Lib.hid (Lift.then2 hHeld.out b1); clear g1 b1
        refine hK.out _ _ hs (fun hHeld => ?_)
        clear hK K
        try simp only 
        refine wpAnyH_take (i := 6) (oi := ⟨some 35, _, _, _, _, _⟩) (v := ?_) rfl (by kernel_rfl) (by kernel_rfl) (by kernel_rfl) (fun _ _ _ h => h) (Or.inl ⟨by rfl, ?_⟩) (by assumption) ?_
        rotate_left
        · (intro w hSw; (try dsimp only at hSw); go_simp; try with_reducible rfl)
        try simp only [Act.put, List.setIfInBounds_toArray, List.set_cons_zero, List.set_cons_succ]
        refine wpAnyH_take (i := 7) (oi := ⟨some 42, _, _, _, _, _⟩) (v := ?_) rfl (by kernel_rfl) (by kernel_rfl) (by kernel_rfl) (fun _ _ _ h => h) (Or.inl ⟨by rfl, ?_⟩) (by assumption) ?_
        rotate_left
        · (intro w hSw; (try dsimp only at hSw); go_simp; try with_reducible rfl)
        try simp only [Act.put, List.setIfInBounds_toArray, List.set_cons_zero, List.set_cons_succ]
        refine wpAnyH_take (i := 8) (oi := ⟨some 43, _, _, _, _, _⟩) (v := ?_) rfl (by kernel_rfl) (by kernel_rfl) (by kernel_rfl) (fun _ _ _ h => h) (Or.inl ⟨by rfl, ?_⟩) (by assumption) ?_
        rotate_left
        · (intro w hSw; (try dsimp only at hSw); go_simp; try with_reducible rfl)
        try simp only [Act.put, List.setIfInBounds_toArray, List.set_cons_zero, List.set_cons_succ]
        refine wpAnyH_take (i := 9) (oi := ⟨some 44, _, _, _, _, _⟩) (v := ?_) rfl (by kernel_rfl) (by kernel_rfl) (by kernel_rfl) (fun _ _ _ h => h) (Or.inl ⟨by rfl, ?_⟩) (by assumption) ?_
        rotate_left
        · (intro w hSw; (try dsimp only at hSw); go_simp; try with_reducible rfl)
        try simp only [Act.put, List.setIfInBounds_toArray, List.set_cons_zero, List.set_cons_succ]
        refine wpAnyH_take (i := 10) (oi := ⟨some 45, _, _, _, _, _⟩) (v := ?_) rfl (by kernel_rfl) (by kernel_rfl) (by kernel_rfl) (fun _ _ _ h => h) (Or.inl ⟨by rfl, ?_⟩) (by assumption) ?_
        rotate_left
        · (intro w hSw; (try dsimp only at hSw); go_simp; try with_reducible rfl)
        try simp only [Act.put, List.setIfInBounds_toArray, List.set_cons_zero, List.set_cons_succ]
        refine wpAnyH_ready (rs := [11]) (by kernel_rfl) (by simp) ?_
        refine AllReadyH.cons (o := ⟨some 10, _, _, _, _, _⟩) rfl (fun K hK => ?_) AllReadyH.nil
        refine step_ap (by rfl) (by rfl) ?_; intro wB gQ HQ hb1 hzB hq1 hq2; (try have HG := Lib.hid (HG.out.later hb1.out)); (try have HM := Blk.hb HM hb1.out); have hqb : wd.drew.heap.size ≤ gQ := Nat.le_trans hHeld.out.size hq1; have hs := Lib.hid (Lift.then2 hHeld.out hb1.out); clear hb1
        refine hK.out _ _ hs (fun hHeld => ?_)
        clear hK K
        try simp only [Act.put, List.setIfInBounds_toArray, List.set_cons_zero, List.set_cons_succ]
        refine wpAnyH_ready (rs := [13]) (by kernel_rfl) (by simp) ?_
        refine AllReadyH.cons (o := ⟨none, _, _, _, _, _⟩) rfl (fun K hK => ?_) AllReadyH.nil
        refine step_sp (by rfl) (.tmp 10) (.tmp 42) (by rfl) HQ (by rfl) (by rfl) hqb ?_; intro wD HSq; have HM := Lib.hid (HM.out.turned HSq.out.turns (by decide)); have HG := Lib.hid (HG.out.turned HSq.out.turns); have hzD := HSq.out.size; have hs := Lib.hid (below_turns hHeld.out HSq.out.turns (Nat.le_refl _))
        refine hK.out _ _ hs (fun hHeld => ?_)
        clear hK K
        try simp only [Act.put]
        refine wpAnyH_ready (rs := [14]) (by kernel_rfl) (by simp) ?_
        refine AllReadyH.cons (o := ⟨none, _, _, _, _, _⟩) rfl (fun K hK => ?_) AllReadyH.nil
        refine step_sm (by rfl) (.tmp 11) (.tmp 43) (by rfl) Pst.noMail mm HM (by rfl) (by rfl) hmb ?_; intro wE HSm; have HQ := Lib.hid (HSq.out.blk.turned HSm.out.turns (by decide)); have HG := Lib.hid (HG.out.apart HSm.out (by omega)); have hzE := HSm.out.size; have hs := Lib.hid (below_turns hHeld.out HSm.out.turns (Nat.le_refl _))
        refine hK.out _ _ hs (fun hHeld => ?_)
        clear hK K
        try simp only [Act.put, List.set_cons_zero, List.set_cons_succ]
        refine wpAnyH_take (i := 15) (oi := ⟨some 12, _, _, _, _, _⟩) (v := ?_) rfl (by kernel_rfl) (by kernel_rfl) (by kernel_rfl) (fun _ _ _ h => h) (Or.inl ⟨by rfl, ?_⟩) (by assumption) ?_
        rotate_left
        · (intro w hSw; (try dsimp only at hSw); go_simp; try with_reducible rfl)
        try simp only [Act.put, List.setIfInBounds_toArray, List.set_cons_zero, List.set_cons_succ]
        refine wpAnyH_take (i := 16) (oi := ⟨some 13, _, _, _, _, _⟩) (v := ?_) rfl (by kernel_rfl) (by kernel_rfl) (by kernel_rfl) (fun _ _ _ h => h) (Or.inl ⟨by rfl, ?_⟩) (by assumption) ?_
        rotate_left
        · (intro w hSw; (try dsimp only at hSw); go_simp; try with_reducible rfl)
        try simp only [Act.put, List.setIfInBounds_toArray, List.set_cons_zero, List.set_cons_succ]
        refine wpAnyH_done (by kernel_rfl) ?_ _
        rotate_left
        refine step_ap (by rfl) (by rfl) ?_; intro wB gQ HQ hb1 hzB hq1 hq2; (try have HG := Lib.hid (HG.out.later hb1.out)); (try have HM := Blk.hb HM hb1.out); have hqb : wd.drew.heap.size ≤ gQ := Nat.le_trans hHeld.out.size hq1; have hs := Lib.hid (Lift.then2 hHeld.out hb1.out); clear hb1
        refine hK.out _ _ hs (fun hHeld => ?_)
        clear hK K
        try simp only [Act.put, List.setIfInBounds_toArray, List.set_cons_zero, List.set_cons_succ]
        refine wpAnyH_ready (rs := [5]) (by kernel_rfl) (by simp) ?_
        refine AllReadyH.cons (o := ⟨some 41, _, _, _, _, _⟩) rfl (fun K hK => ?_) AllReadyH.nil
        go_simp
        go_at_call 9
        refine (HX2.out _ hHeld.out).mono ?_; rintro e wA ⟨A1, c1, k1, rfl, g1, n1, b1⟩; have HG := Lib.hid g1; (try have HQ := Blk.hb HQ b1); (try have HM := Blk.hb HM b1); have hzA := b1.size; have hkA : k1 < wA.heap.size := (by have := hHeld.out.size; omega); have hs := Lib.hid (Lift.then2 hHeld.out b1); clear g1 b1
        refine hK.out _ _ hs (fun hHeld => ?_)
        clear hK K
        try simp only [Act.put, List.setIfInBounds_toArray, List.set_cons_zero, List.set_cons_succ]
        refine wpAnyH_take (i := 6) (oi := ⟨some 35, _, _, _, _, _⟩) (v := ?_) rfl (by kernel_rfl) (by kernel_rfl) (by kernel_rfl) (fun _ _ _ h => h) (Or.inl ⟨by rfl, ?_⟩) (by assumption) ?_
        rotate_left
        · (intro w hSw; (try dsimp only at hSw); go_simp; try with_reducible rfl)
        try simp only [Act.put, List.setIfInBounds_toArray, List.set_cons_zero, List.set_cons_succ]
        refine wpAnyH_take (i := 7) (oi := ⟨some 42, _, _, _, _, _⟩) (v := ?_) rfl (by kernel_rfl) (by kernel_rfl) (by kernel_rfl) (fun _ _ _ h => h) (Or.inl ⟨by rfl, ?_⟩) (by assumption) ?_
        rotate_left
        · (intro w hSw; (try dsimp only at hSw); go_simp; try with_reducible rfl)
        try simp only [Act.put, List.setIfInBounds_toArray, List.set_cons_zero, List.set_cons_succ]
        refine wpAnyH_take (i := 8) (oi := ⟨some 43, _, _, _, _, _⟩) (v := ?_) rfl (by kernel_rfl) (by kernel_rfl) (by kernel_rfl) (fun _ _ _ h => h) (Or.inl ⟨by rfl, ?_⟩) (by assumption) ?_
        rotate_left
        · (intro w hSw; (try dsimp only at hSw); go_simp; try with_reducible rfl)
        try simp only [Act.put, List.setIfInBounds_toArray, List.set_cons_zero, List.set_cons_succ]
        refine wpAnyH_take (i := 9) (oi := ⟨some 44, _, _, _, _, _⟩) (v := ?_) rfl (by kernel_rfl) (by kernel_rfl) (by kernel_rfl) (fun _ _ _ h => h) (Or.inl ⟨by rfl, ?_⟩) (by assumption) ?_
        rotate_left
        · (intro w hSw; (try dsimp only at hSw); go_simp; try with_reducible rfl)
        try simp only [Act.put, List.setIfInBounds_toArray, List.set_cons_zero, List.set_cons_succ]
        refine wpAnyH_take (i := 10) (oi := ⟨some 45, _, _, _, _, _⟩) (v := ?_) rfl (by kernel_rfl) (by kernel_rfl) (by kernel_rfl) (fun _ _ _ h => h) (Or.inl ⟨by rfl, ?_⟩) (by assumption) ?_
        rotate_left
        · (intro w hSw; (try dsimp only at hSw); go_simp; try with_reducible rfl)
        try simp only [Act.put, List.setIfInBounds_toArray, List.set_cons_zero, List.set_cons_succ]
        refine wpAnyH_ready (rs := [13]) (by kernel_rfl) (by simp) ?_
        refine AllReadyH.cons (o := ⟨none, _, _, _, _, _⟩) rfl (fun K hK => ?_) AllReadyH.nil
        refine step_sp (by rfl) (.tmp 10) (.tmp 42) (by rfl) HQ (by rfl) (by rfl) hqb ?_; intro wD HSq; have HM := Lib.hid (HM.out.turned HSq.out.turns (by decide)); have HG := Lib.hid (HG.out.turned HSq.out.turns); have hzD := HSq.out.size; have hs := Lib.hid (below_turns hHeld.out HSq.out.turns (Nat.le_refl _))
        refine hK.out _ _ hs (fun hHeld => ?_)
        clear hK K
        try simp only [Act.put, List.setIfInBounds_toArray, List.set_cons_zero, List.set_cons_succ]
        refine wpAnyH_ready (rs := [14]) (by kernel_rfl) (by simp) ?_
        refine AllReadyH.cons (o := ⟨none, _, _, _, _, _⟩) rfl (fun K hK => ?_) AllReadyH.nil
        refine step_sm (by rfl) (.tmp 11) (.tmp 43) (by rfl) Pst.noMail mm HM (by rfl) (by rfl) hmb ?_; intro wE HSm; have HQ := Lib.hid (HSq.out.blk.turned HSm.out.turns (by decide)); have HG := Lib.hid (HG.out.apart HSm.out (by omega)); have hzE := HSm.out.size; have hs := Lib.hid (below_turns hHeld.out HSm.out.turns (Nat.le_refl _))
        refine hK.out _ _ hs (fun hHeld => ?_)
        clear hK K
        try simp only [Act.put, List.setIfInBounds_toArray, List.set_cons_zero, List.set_cons_succ]
        refine wpAnyH_take (i := 15) (oi := ⟨some 12, _, _, _, _, _⟩) (v := ?_) rfl (by kernel_rfl) (by kernel_rfl) (by kernel_rfl) (fun _ _ _ h => h) (Or.inl ⟨by rfl, ?_⟩) (by assumption) ?_
        rotate_left
        · (intro w hSw; (try dsimp only at hSw); go_simp; try with_reducible rfl)
        try simp only [Act.put, List.setIfInBounds_toArray, List.set_cons_zero, List.set_cons_succ]
        refine wpAnyH_take (i := 16) (oi := ⟨some 13, _, _, _, _, _⟩) (v := ?_) rfl (by kernel_rfl) (by kernel_rfl) (by kernel_rfl) (fun _ _ _ h => h) (Or.inl ⟨by rfl, ?_⟩) (by assumption) ?_
        rotate_left
        · (intro w hSw; (try dsimp only at hSw); go_simp; try with_reducible rfl)
        try simp only [Act.put, List.setIfInBounds_toArray, List.set_cons_zero, List.set_cons_succ]
        refine wpAnyH_done (by kernel_rfl) ?_ _
        rotate_left
        all_goals
          go_wp2_with fail
          go_meet
          exact ⟨gQ, gM, A1, c1, k1, rfl, rfl, rfl, rfl, Lib.hid ⟨HQ.out, HSm.out.blk, HG.out, hs.out, hqb, hmb, by omega⟩⟩
      case rest =>
      obtain ⟨gQ', gM', A2, c2, k2, rfl, rfl, rfl, rfl, HE⟩ := hcut
      have hqn2 : wd.heap.size ≤ gQ' := HE.out.qn
      have hbd : Below wd.heap.size wd wc := ((Below.refl _ wd).drew).trans HE.out.b
      have HD2 := Lib.hid (HD.out.later hbd)
      have HBx := Lib.hid (Lift.then2 HBy.out hbd)
      have HQ := Lib.hid HD2.out.q
      have HM := Lib.hid HD2.out.m
      have HQ' := Lib.hid HE.out.q
      have HM' := Lib.hid HE.out.m
      have HP := HPf2.out wc HE.out.b
      have HR := HRf2.out wc HE.out.b
      have HSame : Hid (Calls Try.prog 11 #[.agg (pc A1 q.m.length c1 q.s), .agg (pc A2 q.m.length c2 q.s)] wc fun e w' => e = .returned (.bool true) ∧ Below wc.heap.size wc w') := Lib.hid (same_any A1 A2 c1 c2 q.s q.m wc (by omega) (HD2.out.g.reads HBx.out).1 (HE.out.g.reads HBx.out).1)
      have hz1 := hbd.size
      have hz2 := HD2.out.k
      have hz3 := HE.out.k
      have hw3 : IntKind.i64.wrap (k : Int) = (k : Int) := IntWalk.i64_in _ (by omega)
      clear HX2 HPf2 HRf2 HOf2 hbd HBy
      go_wp2_with (first | refine wpList_lm rfl _ rfl HM rfl ?_ | refine wpList_lm rfl _ rfl HM' rfl ?_ | refine wpList_lpg (by rfl) _ rfl HQ rfl ?_ | refine wpList_lpg (by rfl) _ rfl HQ' rfl ?_)
      refine (HSame.out).mono ?_; rintro e w2 ⟨rfl, b2⟩
      have hz4 := b2.size
      have HQ2 : Hid (Blk w2.drew gQ 25 (pc A1 q.m.length c1 q.s)) := Lib.hid (Blk.hb HQ b2).out
      have HQ2' : Hid (Blk w2.drew gQ' 25 (pc A2 q.m.length c2 q.s)) := Lib.hid (Blk.hb HQ' b2).out
      have HP2 : Hid (Blk w2.drew w.heap.size 25 _) := Lib.hid (Blk.hb HP b2).out
      have HR2 : Hid (Blk w2.drew (w.heap.size + 1) 25 _) := Lib.hid (Blk.hb HR b2).out
      have HG1 : Hid (Good w w.heap.size w2.drew A1 c1 q.m k1) := Lib.hid ((HD2.out.g.later b2).later ((Below.refl _ w2).drew))
      have HG2 : Hid (Good w w.heap.size w2.drew A2 c2 q.m k2) := Lib.hid ((HE.out.g.later b2).later ((Below.refl _ w2).drew))
      have HB2 : Hid (Below w.heap.size w w2.drew) := Lib.hid (Lift.then2 HBx.out b2).drew
      have hk1z : k1 < w2.drew.heap.size := Nat.lt_of_lt_of_le hz2 hz4
      have hk2z : k2 < w2.drew.heap.size := Nat.lt_of_lt_of_le hz3 hz4
      clear b2 HSame HD HD2 HE HQ HQ' HM HM' HP HR HBx
      go_wp2_with fail
      refine wp_region_held_drew (S := (fun W => Hid (Blk W gQ 25 (pc A1 q.m.length c1 q.s)) ∧ Hid (Blk W gQ' 25 (pc A2 q.m.length c2 q.s)))) (by kernel_rfl) ?_ (fun hHeld => ?_)
      · (try dsimp only); exact ⟨HQ2, HQ2'⟩
      refine wpAnyH_take (i := 0) (oi := ⟨some 65, _, _, _, _, _⟩) (v := ?_) rfl (by kernel_rfl) (by kernel_rfl) (by kernel_rfl) (fun _ _ _ h => h) (Or.inl ⟨by rfl, ?_⟩) (by assumption) ?_
      rotate_left
      · (intro w hSw; refine Eq.trans (exec_lp hSw.1 (by rfl) (by rfl)) ?_; with_reducible rfl)
      try simp only [Act.put, List.setIfInBounds_toArray, List.set_cons_zero, List.set_cons_succ]
      refine wpAnyH_take (i := 1) (oi := ⟨some 66, _, _, _, _, _⟩) (v := ?_) rfl (by kernel_rfl) (by kernel_rfl) (by kernel_rfl) (fun _ _ _ h => h) (Or.inl ⟨by rfl, ?_⟩) (by assumption) ?_
      rotate_left
      · (intro w hSw; refine Eq.trans (exec_lp hSw.2 (by rfl) (by rfl)) ?_; with_reducible rfl)
      try simp only [Act.put, List.setIfInBounds_toArray, List.set_cons_zero, List.set_cons_succ]
      refine wpAnyH_ready (rs := [2]) (by kernel_rfl) (by simp) ?_
      refine AllReadyH.cons (o := ⟨none, _, _, _, _, _⟩) rfl (fun K hK => ?_) AllReadyH.nil
      refine step_sp (by rfl) (.tmp 3) (.tmp 65) (by rfl) HP2 (by rfl) (by rfl) (Nat.le_refl w.heap.size) ?_; intro w3 HS3; have hs := And.intro (Lib.hid (HS3.out.far hHeld.1.out (by omega))) (Lib.hid (HS3.out.far hHeld.2.out (by omega))); have HR3 := Lib.hid (HS3.out.far HR2.out (by omega)); have HB3 := Lib.hid (below_turns HB2.out HS3.out.turns (Nat.le_refl _))
      refine hK.out _ _ hs (fun hHeld => ?_)
      clear hK K
      try simp only [Act.put, List.setIfInBounds_toArray, List.set_cons_zero, List.set_cons_succ]
      refine wpAnyH_ready (rs := [3]) (by kernel_rfl) (by simp) ?_
      refine AllReadyH.cons (o := ⟨none, _, _, _, _, _⟩) rfl (fun K hK => ?_) AllReadyH.nil
      refine step_sp (by rfl) (.tmp 4) (.tmp 66) (by rfl) HR3 (by rfl) (by rfl) (Nat.le_add_right w.heap.size 1) ?_; intro w4 HS4; have hs := And.intro (Lib.hid (HS4.out.far hHeld.1.out (by omega))) (Lib.hid (HS4.out.far hHeld.2.out (by omega))); have HB4 := Lib.hid (below_turns HB3.out HS4.out.turns (Nat.le_refl _))
      refine hK.out _ _ hs (fun hHeld => ?_)
      clear hK K
      try simp only [Act.put, List.setIfInBounds_toArray, List.set_cons_zero, List.set_cons_succ]
      refine wpAnyH_done (by kernel_rfl) ?_ _
      have HP4 := Lib.hid (HS4.out.far HS3.out.blk (by omega))
      have HR4 := Lib.hid HS4.out.blk
      have HG3 := Lib.hid ((HG1.out.turned HS3.out.turns).turned HS4.out.turns)
      have HG4 := Lib.hid ((HG2.out.turned HS3.out.turns).turned HS4.out.turns)
      have hk3z : k1 < w4.heap.size := by rw [HS4.out.size, HS3.out.size]; exact hk1z
      have hk4z : k2 < w4.heap.size := by rw [HS4.out.size, HS3.out.size]; exact hk2z
      go_wp2_with fail
      exact ⟨⟨k + 1, q, A1, A2, c1, k1, c2, k2, by omega, by omega, by omega, by go_num, HP4, HG3, hk3z, HR4, HG4, hk4z, HB4⟩, by simp [intOf]; omega⟩
    · rcases Nat.lt_or_ge k n with hlt | hlt
      · have hk1 : (k : Int) < (n : Int) := by omega
        have hk3 : ¬ (k : Int) < 300 := by omega
        clear HI HGet HP HG HR HGr
        go_wp2_with fail
        refine (awake_any _).mono ?_; rintro e w3 ⟨rfl, b3⟩
        have HB3 := Lib.hid (Lift.then2 HB.out b3)
        clear b3
        go_wp2_with fail
        go_ret
        exact ⟨rfl, HB3.out⟩
      · have hk1 : ¬ (k : Int) < (n : Int) := by omega
        clear HI HGet HP HG HR HGr
        go_wp2_with fail
        refine (awake_any _).mono ?_; rintro e w3 ⟨rfl, b3⟩
        have HB3 := Lib.hid (Lift.then2 HB.out b3)
        clear b3
        go_wp2_with fail
        go_ret
        exact ⟨rfl, HB3.out⟩
end Go.Proofs.Ytkajnmlglgjocaa
