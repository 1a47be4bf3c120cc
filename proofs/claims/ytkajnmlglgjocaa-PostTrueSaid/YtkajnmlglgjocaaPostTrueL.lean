/-
  The law PostTrue: it returns true whatever is handed in.
  No condition but the form's own of a slice of calls: its numbers fit their kinds, its texts are no longer than its reach.
-/
import Derived.Test.YtkajnmlglgjocaaPostRows
import Derived.Deep.CutBlock
import Derived.WalkKit
import Derived.WalkSpells
import Derived.WalkLawsBesides
import Derived.Handy
import Derived.Deep.QuietTactic
import Derived.BigQuiet
import Derived.Deep.RegionWith
import Derived.Deep.RegionHeld3
import Derived.Deep.Draws
import Derived.Lib.Hide
import Derived.Lib.LazyBuf
namespace Go.Proofs.Ytkajnmlglgjocaa
open Go.RowKit


set_option maxRecDepth 100000 in
set_option maxHeartbeats 12800000 in
theorem true_yes (A0 : Option Addr) (c0 : Nat) (l : List Pst.Op) (w : World) (hl : l.length ≤ 9223372036854775807) (hi : opLay.Reads w w.heap.size A0 l) (hw : ∀ x ∈ l, (0 ≤ x.b ∧ x.b < 256) ∧ x.m.d.size ≤ 9223372036854775807) :
    Lift.Yes Try.prog 5 #[.slice A0 l.length c0] w := by
  unfold Lift.Yes
  obtain ⟨HP0, HB0, hs0⟩ := made1 w 25 (pc none 0 0 fun _ => 0)
  have HG0 : Hid (Good w w.heap.size (w.alloc (.cells (pc none 0 0 fun _ => 0) 25)) none 0 [] 0) := Lib.hid (.inl ⟨Lay.Own.none _ _, .inr rfl⟩)
  have HR0 : Hid (Rows2 w.heap.size (w.alloc (.cells (pc none 0 0 fun _ => 0) 25)) (.slice none 0 0) (.slice none 0 0) [] [] 0) := Lib.hid ⟨Lay.Own.none _ _, Lay.Own.none _ _, fun k hk => (by cases hk), (by intro e; cases e), (by intro e; cases e)⟩
  have HM0 : Hid (Mine [] [] Pst.empty) := Lib.hid ⟨fun x hx => (by cases hx), fun x hx => (by cases hx), fun x hx => (by cases hx)⟩
  have HI := Lib.hid hi
  have HGet : Hid (∀ k, k < l.length → ∃ x, l[k]? = some x ∧ (0 ≤ x.b ∧ x.b < 256) ∧ x.m.d.size ≤ 9223372036854775807) := Lib.hid fun k hk => ⟨l[k], List.getElem?_eq_getElem hk, hw _ (List.getElem_mem hk)⟩
  clear hi hw
  generalize hn : l.length = n at *
  have HN := Lib.hid hn
  clear hn
  unfold pc at HP0 HB0 HG0 HR0
  unfold pc at hs0
  go_enter Try.func5, Try.ntmps5
  go_upto_block 0 with fail
  go_cut [4, 5] (fun vs ve wx => ∃ (p : Pst.P) (A : Option Addr) (c r : Nat) (sent seen : List Pst.Mail), p.m.length ≤ 200 ∧ sent.length ≤ 200 ∧ seen.length ≤ 200 ∧ Hid (Blk wx w.heap.size 25 (pc A p.m.length c p.s)) ∧ Hid (Good w w.heap.size wx A c p.m r) ∧ Hid (Below w.heap.size w wx) ∧ Hid (Rows2 w.heap.size wx vs ve sent seen r) ∧ Hid (Mine sent seen p))
  case first =>
    go_wp2_with fail
    go_loopw [4, 5, 6] (fun vs ve vi wr => ∃ (k : Nat) (p : Pst.P) (A : Option Addr) (c r : Nat) (sent seen : List Pst.Mail), k ≤ n ∧ k ≤ 200 ∧ p.m.length ≤ k ∧ sent.length ≤ k ∧ seen.length ≤ k ∧ vi = .int .i64 k ∧ Hid (Blk wr w.heap.size 25 (pc A p.m.length c p.s)) ∧ Hid (Good w w.heap.size wr A c p.m r) ∧ r < wr.heap.size ∧ Hid (Below w.heap.size w wr) ∧ Hid (Rows2 w.heap.size wr vs ve sent seen r) ∧ Hid (Mine sent seen p)) (fun _ _ vi _ => n - (intOf vi).toNat)
    case atStart => exact ⟨0, Pst.empty, none, 0, 0, [], [], Nat.zero_le _, by decide, Nat.zero_le _, Nat.zero_le _, Nat.zero_le _, rfl, HP0, HG0, by simp, HB0, HR0, HM0⟩
    case round =>
      obtain ⟨k, p, A, c, r, sent, seen, hkn, hk200, hpk, hsk, hek, rfl, HP, HG, hr, HB, HR, HM⟩ := hrel
      clear HP0 HG0 HB0 hs0 HR0 HM0
      have hsz := HB.out.size
      have hpw := HP.out.lt
      have hk0 : (0 : Int) ≤ (k : Int) := by omega
      by_cases hc : k < n ∧ k < 200
      · obtain ⟨hlt, hlt3⟩ := hc
        obtain ⟨x, hx, hob, hxd⟩ := HGet.out k hlt
        obtain ⟨bl, ol, rfl, hbl, hcl⟩ := HI.out (by rw [HN.out]; omega)
        have hk1 : (k : Int) < (n : Int) := by omega
        have hk3 : (k : Int) < 200 := by omega
        have hrd : r < wr.drew.heap.size := hr
        have HPf : Hid (∀ W, Below wr.drew.heap.size wr.drew W → Hid (Blk W w.heap.size 25 (pc A p.m.length c p.s))) := Lib.hid fun W hW => Lib.hid (Blk.below (w := wr.drew) HP.out hW hpw)
        have HOf : Hid (∀ W, Below wr.drew.heap.size wr.drew W → Hid (opLay.At W bl ol k x)) := Lib.hid fun W hW => Lib.hid ((hcl k x hx).keep fun q hq => ((HB.out.drew.trans (hW.mono hsz)).cell (by rw [hq]; exact hbl)))
        have HX := do_goodD x hob (w0 := w) (W0 := wr.drew) (base := w.heap.size) HB.out.drew hsz (HG.out.later ((Below.refl _ wr).drew)) (by omega)
        have HMs := HM.out.step x hxd
        have hql := Pst.step_le p x
        have hsl := Pst.sent_len sent p x
        have hel := Pst.seen_len seen p x
        obtain ⟨⟨q, mm, ar, er⟩, hst⟩ : ∃ r, Pst.step p x = r := ⟨_, rfl⟩
        rw [hst] at HX HMs hql
        replace HMs := Lib.hid HMs
        have HC := Lib.hid (true_is hst sent seen)
        replace hql : q.m.length ≤ p.m.length + 1 := hql
        clear hst hcl hx hob hxd HI HGet HM
        go_wp2_with fail
        go_cut [7, 8, 9, 10] (fun sQ sM sOk sE wx => ∃ (gQ gM : Nat) (A1 : Option Addr) (c1 k1 : Nat), sQ = .pointer (some ⟨gQ, 0, none⟩) ∧ sM = .pointer (some ⟨gM, 0, none⟩) ∧ sOk = .bool ar ∧ sE = .int .i64 er ∧ (k1 = r ∨ wr.drew.heap.size ≤ k1) ∧ Hid (Done w wr.drew w.heap.size q mm A1 c1 k1 gQ gM wx))
        case first =>
          refine wp_region_held_drew (S := (fun W => Hid (Below wr.drew.heap.size wr.drew W))) (by kernel_rfl) ?_ (fun hHeld => ?_)
          · (try dsimp only); exact Lib.hid (Below.refl _ _)
          refine wpAnyH_take (i := 0) (oi := ⟨some 27, _, _, _, _, _⟩) (v := ?_) rfl (by kernel_rfl) (by kernel_rfl) (by kernel_rfl) (fun _ _ _ h => h) (Or.inl ⟨by rfl, ?_⟩) (by assumption) ?_
          rotate_left
          · (intro w hSw; refine Eq.trans (exec_lp (HPf.out w hSw.out) (by rfl) (by rfl)) ?_; with_reducible rfl)
          try simp only [Act.put, List.setIfInBounds_toArray, List.set_cons_zero, List.set_cons_succ]
          refine wpAnyH_take (i := 1) (oi := ⟨some 28, _, _, _, _, _⟩) (v := ?_) rfl (by kernel_rfl) (by kernel_rfl) (by kernel_rfl) (fun _ _ _ h => h) (Or.inl ⟨by rfl, ?_⟩) (by assumption) ?_
          rotate_left
          · (intro w hSw; (try dsimp only at hSw); go_simp; try with_reducible rfl)
          try simp only [Act.put, List.setIfInBounds_toArray, List.set_cons_zero, List.set_cons_succ]
          refine wpAnyH_take (i := 2) (oi := ⟨some 29, _, _, _, _, _⟩) (v := ?_) rfl (by kernel_rfl) (by kernel_rfl) (by kernel_rfl) (fun _ _ _ h => h) (Or.inl ⟨by rfl, ?_⟩) (by assumption) ?_
          rotate_left
          · (intro w hSw; (try dsimp only at hSw); go_simp; try with_reducible rfl)
          try simp only [Act.put, List.setIfInBounds_toArray, List.set_cons_zero, List.set_cons_succ]
          refine wpAnyH_take (i := 3) (oi := ⟨some 30, _, _, _, _, _⟩) (v := ?_) rfl (by kernel_rfl) (by kernel_rfl) (by kernel_rfl) (fun _ _ _ h => h) (Or.inl ⟨by rfl, ?_⟩) (by assumption) ?_
          rotate_left
          · (intro w hSw; (try dsimp only at hSw); go_simp; try with_reducible rfl)
          try simp only [Act.put, List.setIfInBounds_toArray, List.set_cons_zero, List.set_cons_succ]
          refine wpAnyH_take (i := 4) (oi := ⟨some 31, _, _, _, _, _⟩) (v := ?_) rfl (by kernel_rfl) (by kernel_rfl) (by kernel_rfl) (fun _ _ _ h => h) (Or.inl ⟨by rfl, ?_⟩) (by assumption) ?_
          rotate_left
          · (intro w hSw; refine Eq.trans (exec_lo (HOf.out w hSw.out) (by rfl) (by rfl)) ?_; with_reducible rfl)
          try simp only [Act.put, List.setIfInBounds_toArray, List.set_cons_zero, List.set_cons_succ]
          refine wpAnyH_ready (rs := [5, 11, 12]) (by kernel_rfl) (by simp) ?_
          refine AllReadyH.cons (o := ⟨some 32, _, _, _, _, _⟩) rfl (fun K hK => ?_) (AllReadyH.cons (o := ⟨some 7, _, _, _, _, _⟩) rfl (fun K hK => ?_) (AllReadyH.cons (o := ⟨some 8, _, _, _, _, _⟩) rfl (fun K hK => ?_) AllReadyH.nil))
          go_simp
          go_at_call 8
          refine (HX.out _ hHeld.out).mono ?_; rintro e wA ⟨A1, c1, k1, rfl, g1, n1, b1⟩; have HG := Lib.hid g1; (try have HQ := Blk.hb HQ b1); (try have HM := Blk.hb HM b1); have hzA := b1.size; have hzc := hHeld.out.size; have hkA : k1 < wA.heap.size := (by omega); have hs := Lib.hid (Lift.then2 hHeld.out b1); clear g1 b1
          refine hK.out _ _ hs (fun hHeld => ?_)
          clear hK K
          try simp only [Act.put, List.setIfInBounds_toArray, List.set_cons_zero, List.set_cons_succ]
          refine wpAnyH_take (i := 6) (oi := ⟨some 26, _, _, _, _, _⟩) (v := ?_) rfl (by kernel_rfl) (by kernel_rfl) (by kernel_rfl) (fun _ _ _ h => h) (Or.inl ⟨by rfl, ?_⟩) (by assumption) ?_
          rotate_left
          · (intro w hSw; (try dsimp only at hSw); go_simp; try with_reducible rfl)
          try simp only [Act.put, List.setIfInBounds_toArray, List.set_cons_zero, List.set_cons_succ]
          refine wpAnyH_take (i := 7) (oi := ⟨some 33, _, _, _, _, _⟩) (v := ?_) rfl (by kernel_rfl) (by kernel_rfl) (by kernel_rfl) (fun _ _ _ h => h) (Or.inl ⟨by rfl, ?_⟩) (by assumption) ?_
          rotate_left
          · (intro w hSw; (try dsimp only at hSw); go_simp; try with_reducible rfl)
          try simp only [Act.put, List.setIfInBounds_toArray, List.set_cons_zero, List.set_cons_succ]
          refine wpAnyH_take (i := 8) (oi := ⟨some 34, _, _, _, _, _⟩) (v := ?_) rfl (by kernel_rfl) (by kernel_rfl) (by kernel_rfl) (fun _ _ _ h => h) (Or.inl ⟨by rfl, ?_⟩) (by assumption) ?_
          rotate_left
          · (intro w hSw; (try dsimp only at hSw); go_simp; try with_reducible rfl)
          try simp only [Act.put, List.setIfInBounds_toArray, List.set_cons_zero, List.set_cons_succ]
          refine wpAnyH_take (i := 9) (oi := ⟨some 35, _, _, _, _, _⟩) (v := ?_) rfl (by kernel_rfl) (by kernel_rfl) (by kernel_rfl) (fun _ _ _ h => h) (Or.inl ⟨by rfl, ?_⟩) (by assumption) ?_
          rotate_left
          · (intro w hSw; (try dsimp only at hSw); go_simp; try with_reducible rfl)
          try simp only [Act.put, List.setIfInBounds_toArray, List.set_cons_zero, List.set_cons_succ]
          refine wpAnyH_take (i := 10) (oi := ⟨some 36, _, _, _, _, _⟩) (v := ?_) rfl (by kernel_rfl) (by kernel_rfl) (by kernel_rfl) (fun _ _ _ h => h) (Or.inl ⟨by rfl, ?_⟩) (by assumption) ?_
          rotate_left
          · (intro w hSw; (try dsimp only at hSw); go_simp; try with_reducible rfl)
          try simp only [Act.put, List.setIfInBounds_toArray, List.set_cons_zero, List.set_cons_succ]
          refine wpAnyH_ready (rs := [11, 12]) (by kernel_rfl) (by simp) ?_
          refine AllReadyH.cons (o := ⟨some 7, _, _, _, _, _⟩) rfl (fun K hK => ?_) (AllReadyH.cons (o := ⟨some 8, _, _, _, _, _⟩) rfl (fun K hK => ?_) AllReadyH.nil)
          refine step_ap (by rfl) (by rfl) ?_; intro wB gQ HQ hb1 hzB hq1 hq2; (try have HG := Lib.hid (HG.out.later hb1.out)); (try have HM := Blk.hb HM hb1.out); have hqb : wr.drew.heap.size ≤ gQ := Nat.le_trans hHeld.out.size hq1; have hs := Lib.hid (Lift.then2 hHeld.out hb1.out); clear hb1
          refine hK.out _ _ hs (fun hHeld => ?_)
          clear hK K
          try simp only [Act.put, List.setIfInBounds_toArray, List.set_cons_zero, List.set_cons_succ]
          refine wpAnyH_ready (rs := [12]) (by kernel_rfl) (by simp) ?_
          refine AllReadyH.cons (o := ⟨some 8, _, _, _, _, _⟩) rfl (fun K hK => ?_) AllReadyH.nil
          refine step_am (by rfl) (by rfl) ?_; intro wC gM HM hb1 hzC hm1 hm2; (try have HG := Lib.hid (HG.out.later hb1.out)); (try have HQ := Blk.hb HQ hb1.out); have hmb : wr.drew.heap.size ≤ gM := Nat.le_trans hHeld.out.size hm1; have hs := Lib.hid (Lift.then2 hHeld.out hb1.out); clear hb1
          refine hK.out _ _ hs (fun hHeld => ?_)
          clear hK K
          try simp only [Act.put, List.setIfInBounds_toArray, List.set_cons_zero, List.set_cons_succ]
          refine wpAnyH_ready (rs := [13]) (by kernel_rfl) (by simp) ?_
          refine AllReadyH.cons (o := ⟨none, _, _, _, _, _⟩) rfl (fun K hK => ?_) AllReadyH.nil
          refine step_sp (by rfl) (.tmp 7) (.tmp 33) (by rfl) HQ (by rfl) (by rfl) hqb ?_; intro wD HSq; have HM := Lib.hid (HM.out.turned HSq.out.turns (by decide)); have HG := Lib.hid (HG.out.turned HSq.out.turns); have hzD := HSq.out.size; have hs := Lib.hid (below_turns hHeld.out HSq.out.turns (Nat.le_refl _))
          refine hK.out _ _ hs (fun hHeld => ?_)
          clear hK K
          try simp only [Act.put, List.setIfInBounds_toArray, List.set_cons_zero, List.set_cons_succ]
          refine wpAnyH_ready (rs := [14]) (by kernel_rfl) (by simp) ?_
          refine AllReadyH.cons (o := ⟨none, _, _, _, _, _⟩) rfl (fun K hK => ?_) AllReadyH.nil
          refine step_sm (by rfl) (.tmp 8) (.tmp 34) (by rfl) Pst.noMail mm HM (by rfl) (by rfl) hmb ?_; intro wE HSm; have HQ := Lib.hid (HSq.out.blk.turned HSm.out.turns (by decide)); have HG := Lib.hid (HG.out.apart HSm.out (by omega)); have hzE := HSm.out.size; have hs := Lib.hid (below_turns hHeld.out HSm.out.turns (Nat.le_refl _))
          refine hK.out _ _ hs (fun hHeld => ?_)
          clear hK K
          try simp only [Act.put, List.setIfInBounds_toArray, List.set_cons_zero, List.set_cons_succ]
          refine wpAnyH_take (i := 15) (oi := ⟨some 9, _, _, _, _, _⟩) (v := ?_) rfl (by kernel_rfl) (by kernel_rfl) (by kernel_rfl) (fun _ _ _ h => h) (Or.inl ⟨by rfl, ?_⟩) (by assumption) ?_
          rotate_left
          · (intro w hSw; (try dsimp only at hSw); go_simp; try with_reducible rfl)
          try simp only [Act.put, List.setIfInBounds_toArray, List.set_cons_zero, List.set_cons_succ]
          refine wpAnyH_take (i := 16) (oi := ⟨some 10, _, _, _, _, _⟩) (v := ?_) rfl (by kernel_rfl) (by kernel_rfl) (by kernel_rfl) (fun _ _ _ h => h) (Or.inl ⟨by rfl, ?_⟩) (by assumption) ?_
          rotate_left
          · (intro w hSw; (try dsimp only at hSw); go_simp; try with_reducible rfl)
          try simp only [Act.put, List.setIfInBounds_toArray, List.set_cons_zero, List.set_cons_succ]
          refine wpAnyH_done (by kernel_rfl) ?_ _
          rotate_left
          refine step_am (by rfl) (by rfl) ?_; intro wC gM HM hb1 hzC hm1 hm2; (try have HG := Lib.hid (HG.out.later hb1.out)); (try have HQ := Blk.hb HQ hb1.out); have hmb : wr.drew.heap.size ≤ gM := Nat.le_trans hHeld.out.size hm1; have hs := Lib.hid (Lift.then2 hHeld.out hb1.out); clear hb1
          refine hK.out _ _ hs (fun hHeld => ?_)
          clear hK K
          try simp only [Act.put, List.setIfInBounds_toArray, List.set_cons_zero, List.set_cons_succ]
          refine wpAnyH_ready (rs := [11]) (by kernel_rfl) (by simp) ?_
          refine AllReadyH.cons (o := ⟨some 7, _, _, _, _, _⟩) rfl (fun K hK => ?_) AllReadyH.nil
          refine step_ap (by rfl) (by rfl) ?_; intro wB gQ HQ hb1 hzB hq1 hq2; (try have HG := Lib.hid (HG.out.later hb1.out)); (try have HM := Blk.hb HM hb1.out); have hqb : wr.drew.heap.size ≤ gQ := Nat.le_trans hHeld.out.size hq1; have hs := Lib.hid (Lift.then2 hHeld.out hb1.out); clear hb1
          refine hK.out _ _ hs (fun hHeld => ?_)
          clear hK K
          try simp only [Act.put, List.setIfInBounds_toArray, List.set_cons_zero, List.set_cons_succ]
          refine wpAnyH_ready (rs := [13]) (by kernel_rfl) (by simp) ?_
          refine AllReadyH.cons (o := ⟨none, _, _, _, _, _⟩) rfl (fun K hK => ?_) AllReadyH.nil
          refine step_sp (by rfl) (.tmp 7) (.tmp 33) (by rfl) HQ (by rfl) (by rfl) hqb ?_; intro wD HSq; have HM := Lib.hid (HM.out.turned HSq.out.turns (by decide)); have HG := Lib.hid (HG.out.turned HSq.out.turns); have hzD := HSq.out.size; have hs := Lib.hid (below_turns hHeld.out HSq.out.turns (Nat.le_refl _))
          refine hK.out _ _ hs (fun hHeld => ?_)
          clear hK K
          try simp only [Act.put, List.setIfInBounds_toArray, List.set_cons_zero, List.set_cons_succ]
          refine wpAnyH_ready (rs := [14]) (by kernel_rfl) (by simp) ?_
          refine AllReadyH.cons (o := ⟨none, _, _, _, _, _⟩) rfl (fun K hK => ?_) AllReadyH.nil
          refine step_sm (by rfl) (.tmp 8) (.tmp 34) (by rfl) Pst.noMail mm HM (by rfl) (by rfl) hmb ?_; intro wE HSm; have HQ := Lib.hid (HSq.out.blk.turned HSm.out.turns (by decide)); have HG := Lib.hid (HG.out.apart HSm.out (by omega)); have hzE := HSm.out.size; have hs := Lib.hid (below_turns hHeld.out HSm.out.turns (Nat.le_refl _))
          refine hK.out _ _ hs (fun hHeld => ?_)
          clear hK K
          try simp only [Act.put, List.setIfInBounds_toArray, List.set_cons_zero, List.set_cons_succ]
          refine wpAnyH_take (i := 15) (oi := ⟨some 9, _, _, _, _, _⟩) (v := ?_) rfl (by kernel_rfl) (by kernel_rfl) (by kernel_rfl) (fun _ _ _ h => h) (Or.inl ⟨by rfl, ?_⟩) (by assumption) ?_
          rotate_left
          · (intro w hSw; (try dsimp only at hSw); go_simp; try with_reducible rfl)
          try simp only [Act.put, List.setIfInBounds_toArray, List.set_cons_zero, List.set_cons_succ]
          refine wpAnyH_take (i := 16) (oi := ⟨some 10, _, _, _, _, _⟩) (v := ?_) rfl (by kernel_rfl) (by kernel_rfl) (by kernel_rfl) (fun _ _ _ h => h) (Or.inl ⟨by rfl, ?_⟩) (by assumption) ?_
          rotate_left
          · (intro w hSw; (try dsimp only at hSw); go_simp; try with_reducible rfl)
          try simp only [Act.put, List.setIfInBounds_toArray, List.set_cons_zero, List.set_cons_succ]
          refine wpAnyH_done (by kernel_rfl) ?_ _
          rotate_left
          refine step_ap (by rfl) (by rfl) ?_; intro wB gQ HQ hb1 hzB hq1 hq2; (try have HG := Lib.hid (HG.out.later hb1.out)); (try have HM := Blk.hb HM hb1.out); have hqb : wr.drew.heap.size ≤ gQ := Nat.le_trans hHeld.out.size hq1; have hs := Lib.hid (Lift.then2 hHeld.out hb1.out); clear hb1
          refine hK.out _ _ hs (fun hHeld => ?_)
          clear hK K
          try simp only [Act.put, List.setIfInBounds_toArray, List.set_cons_zero, List.set_cons_succ]
          refine wpAnyH_ready (rs := [5, 12]) (by kernel_rfl) (by simp) ?_
          refine AllReadyH.cons (o := ⟨some 32, _, _, _, _, _⟩) rfl (fun K hK => ?_) (AllReadyH.cons (o := ⟨some 8, _, _, _, _, _⟩) rfl (fun K hK => ?_) AllReadyH.nil)
          go_simp
          go_at_call 8
          refine (HX.out _ hHeld.out).mono ?_; rintro e wA ⟨A1, c1, k1, rfl, g1, n1, b1⟩; have HG := Lib.hid g1; (try have HQ := Blk.hb HQ b1); (try have HM := Blk.hb HM b1); have hzA := b1.size; have hzc := hHeld.out.size; have hkA : k1 < wA.heap.size := (by omega); have hs := Lib.hid (Lift.then2 hHeld.out b1); clear g1 b1
          refine hK.out _ _ hs (fun hHeld => ?_)
          clear hK K
          try simp only [Act.put, List.setIfInBounds_toArray, List.set_cons_zero, List.set_cons_succ]
          refine wpAnyH_take (i := 6) (oi := ⟨some 26, _, _, _, _, _⟩) (v := ?_) rfl (by kernel_rfl) (by kernel_rfl) (by kernel_rfl) (fun _ _ _ h => h) (Or.inl ⟨by rfl, ?_⟩) (by assumption) ?_
          rotate_left
          · (intro w hSw; (try dsimp only at hSw); go_simp; try with_reducible rfl)
          try simp only [Act.put, List.setIfInBounds_toArray, List.set_cons_zero, List.set_cons_succ]
          refine wpAnyH_take (i := 7) (oi := ⟨some 33, _, _, _, _, _⟩) (v := ?_) rfl (by kernel_rfl) (by kernel_rfl) (by kernel_rfl) (fun _ _ _ h => h) (Or.inl ⟨by rfl, ?_⟩) (by assumption) ?_
          rotate_left
          · (intro w hSw; (try dsimp only at hSw); go_simp; try with_reducible rfl)
          try simp only [Act.put, List.setIfInBounds_toArray, List.set_cons_zero, List.set_cons_succ]
          refine wpAnyH_take (i := 8) (oi := ⟨some 34, _, _, _, _, _⟩) (v := ?_) rfl (by kernel_rfl) (by kernel_rfl) (by kernel_rfl) (fun _ _ _ h => h) (Or.inl ⟨by rfl, ?_⟩) (by assumption) ?_
          rotate_left
          · (intro w hSw; (try dsimp only at hSw); go_simp; try with_reducible rfl)
          try simp only [Act.put, List.setIfInBounds_toArray, List.set_cons_zero, List.set_cons_succ]
          refine wpAnyH_take (i := 9) (oi := ⟨some 35, _, _, _, _, _⟩) (v := ?_) rfl (by kernel_rfl) (by kernel_rfl) (by kernel_rfl) (fun _ _ _ h => h) (Or.inl ⟨by rfl, ?_⟩) (by assumption) ?_
          rotate_left
          · (intro w hSw; (try dsimp only at hSw); go_simp; try with_reducible rfl)
          try simp only [Act.put, List.setIfInBounds_toArray, List.set_cons_zero, List.set_cons_succ]
          refine wpAnyH_take (i := 10) (oi := ⟨some 36, _, _, _, _, _⟩) (v := ?_) rfl (by kernel_rfl) (by kernel_rfl) (by kernel_rfl) (fun _ _ _ h => h) (Or.inl ⟨by rfl, ?_⟩) (by assumption) ?_
          rotate_left
          · (intro w hSw; (try dsimp only at hSw); go_simp; try with_reducible rfl)
          try simp only [Act.put, List.setIfInBounds_toArray, List.set_cons_zero, List.set_cons_succ]
          refine wpAnyH_ready (rs := [12]) (by kernel_rfl) (by simp) ?_
          refine AllReadyH.cons (o := ⟨some 8, _, _, _, _, _⟩) rfl (fun K hK => ?_) AllReadyH.nil
          refine step_am (by rfl) (by rfl) ?_; intro wC gM HM hb1 hzC hm1 hm2; (try have HG := Lib.hid (HG.out.later hb1.out)); (try have HQ := Blk.hb HQ hb1.out); have hmb : wr.drew.heap.size ≤ gM := Nat.le_trans hHeld.out.size hm1; have hs := Lib.hid (Lift.then2 hHeld.out hb1.out); clear hb1
          refine hK.out _ _ hs (fun hHeld => ?_)
          clear hK K
          try simp only [Act.put, List.setIfInBounds_toArray, List.set_cons_zero, List.set_cons_succ]
          refine wpAnyH_ready (rs := [13]) (by kernel_rfl) (by simp) ?_
          refine AllReadyH.cons (o := ⟨none, _, _, _, _, _⟩) rfl (fun K hK => ?_) AllReadyH.nil
          refine step_sp (by rfl) (.tmp 7) (.tmp 33) (by rfl) HQ (by rfl) (by rfl) hqb ?_; intro wD HSq; have HM := Lib.hid (HM.out.turned HSq.out.turns (by decide)); have HG := Lib.hid (HG.out.turned HSq.out.turns); have hzD := HSq.out.size; have hs := Lib.hid (below_turns hHeld.out HSq.out.turns (Nat.le_refl _))
          refine hK.out _ _ hs (fun hHeld => ?_)
          clear hK K
          try simp only [Act.put, List.setIfInBounds_toArray, List.set_cons_zero, List.set_cons_succ]
          refine wpAnyH_ready (rs := [14]) (by kernel_rfl) (by simp) ?_
          refine AllReadyH.cons (o := ⟨none, _, _, _, _, _⟩) rfl (fun K hK => ?_) AllReadyH.nil
          refine step_sm (by rfl) (.tmp 8) (.tmp 34) (by rfl) Pst.noMail mm HM (by rfl) (by rfl) hmb ?_; intro wE HSm; have HQ := Lib.hid (HSq.out.blk.turned HSm.out.turns (by decide)); have HG := Lib.hid (HG.out.apart HSm.out (by omega)); have hzE := HSm.out.size; have hs := Lib.hid (below_turns hHeld.out HSm.out.turns (Nat.le_refl _))
          refine hK.out _ _ hs (fun hHeld => ?_)
          clear hK K
          try simp only [Act.put, List.setIfInBounds_toArray, List.set_cons_zero, List.set_cons_succ]
          refine wpAnyH_take (i := 15) (oi := ⟨some 9, _, _, _, _, _⟩) (v := ?_) rfl (by kernel_rfl) (by kernel_rfl) (by kernel_rfl) (fun _ _ _ h => h) (Or.inl ⟨by rfl, ?_⟩) (by assumption) ?_
          rotate_left
          · (intro w hSw; (try dsimp only at hSw); go_simp; try with_reducible rfl)
          try simp only [Act.put, List.setIfInBounds_toArray, List.set_cons_zero, List.set_cons_succ]
          refine wpAnyH_take (i := 16) (oi := ⟨some 10, _, _, _, _, _⟩) (v := ?_) rfl (by kernel_rfl) (by kernel_rfl) (by kernel_rfl) (fun _ _ _ h => h) (Or.inl ⟨by rfl, ?_⟩) (by assumption) ?_
          rotate_left
          · (intro w hSw; (try dsimp only at hSw); go_simp; try with_reducible rfl)
          try simp only [Act.put, List.setIfInBounds_toArray, List.set_cons_zero, List.set_cons_succ]
          refine wpAnyH_done (by kernel_rfl) ?_ _
          rotate_left
          refine step_am (by rfl) (by rfl) ?_; intro wC gM HM hb1 hzC hm1 hm2; (try have HG := Lib.hid (HG.out.later hb1.out)); (try have HQ := Blk.hb HQ hb1.out); have hmb : wr.drew.heap.size ≤ gM := Nat.le_trans hHeld.out.size hm1; have hs := Lib.hid (Lift.then2 hHeld.out hb1.out); clear hb1
          refine hK.out _ _ hs (fun hHeld => ?_)
          clear hK K
          try simp only [Act.put, List.setIfInBounds_toArray, List.set_cons_zero, List.set_cons_succ]
          refine wpAnyH_ready (rs := [5]) (by kernel_rfl) (by simp) ?_
          refine AllReadyH.cons (o := ⟨some 32, _, _, _, _, _⟩) rfl (fun K hK => ?_) AllReadyH.nil
          go_simp
          go_at_call 8
          refine (HX.out _ hHeld.out).mono ?_; rintro e wA ⟨A1, c1, k1, rfl, g1, n1, b1⟩; have HG := Lib.hid g1; (try have HQ := Blk.hb HQ b1); (try have HM := Blk.hb HM b1); have hzA := b1.size; have hzc := hHeld.out.size; have hkA : k1 < wA.heap.size := (by omega); have hs := Lib.hid (Lift.then2 hHeld.out b1); clear g1 b1
          refine hK.out _ _ hs (fun hHeld => ?_)
          clear hK K
          try simp only [Act.put, List.setIfInBounds_toArray, List.set_cons_zero, List.set_cons_succ]
          refine wpAnyH_take (i := 6) (oi := ⟨some 26, _, _, _, _, _⟩) (v := ?_) rfl (by kernel_rfl) (by kernel_rfl) (by kernel_rfl) (fun _ _ _ h => h) (Or.inl ⟨by rfl, ?_⟩) (by assumption) ?_
          rotate_left
          · (intro w hSw; (try dsimp only at hSw); go_simp; try with_reducible rfl)
          try simp only [Act.put, List.setIfInBounds_toArray, List.set_cons_zero, List.set_cons_succ]
          refine wpAnyH_take (i := 7) (oi := ⟨some 33, _, _, _, _, _⟩) (v := ?_) rfl (by kernel_rfl) (by kernel_rfl) (by kernel_rfl) (fun _ _ _ h => h) (Or.inl ⟨by rfl, ?_⟩) (by assumption) ?_
          rotate_left
          · (intro w hSw; (try dsimp only at hSw); go_simp; try with_reducible rfl)
          try simp only [Act.put, List.setIfInBounds_toArray, List.set_cons_zero, List.set_cons_succ]
          refine wpAnyH_take (i := 8) (oi := ⟨some 34, _, _, _, _, _⟩) (v := ?_) rfl (by kernel_rfl) (by kernel_rfl) (by kernel_rfl) (fun _ _ _ h => h) (Or.inl ⟨by rfl, ?_⟩) (by assumption) ?_
          rotate_left
          · (intro w hSw; (try dsimp only at hSw); go_simp; try with_reducible rfl)
          try simp only [Act.put, List.setIfInBounds_toArray, List.set_cons_zero, List.set_cons_succ]
          refine wpAnyH_take (i := 9) (oi := ⟨some 35, _, _, _, _, _⟩) (v := ?_) rfl (by kernel_rfl) (by kernel_rfl) (by kernel_rfl) (fun _ _ _ h => h) (Or.inl ⟨by rfl, ?_⟩) (by assumption) ?_
          rotate_left
          · (intro w hSw; (try dsimp only at hSw); go_simp; try with_reducible rfl)
          try simp only [Act.put, List.setIfInBounds_toArray, List.set_cons_zero, List.set_cons_succ]
          refine wpAnyH_take (i := 10) (oi := ⟨some 36, _, _, _, _, _⟩) (v := ?_) rfl (by kernel_rfl) (by kernel_rfl) (by kernel_rfl) (fun _ _ _ h => h) (Or.inl ⟨by rfl, ?_⟩) (by assumption) ?_
          rotate_left
          · (intro w hSw; (try dsimp only at hSw); go_simp; try with_reducible rfl)
          try simp only [Act.put, List.setIfInBounds_toArray, List.set_cons_zero, List.set_cons_succ]
          refine wpAnyH_ready (rs := [13]) (by kernel_rfl) (by simp) ?_
          refine AllReadyH.cons (o := ⟨none, _, _, _, _, _⟩) rfl (fun K hK => ?_) AllReadyH.nil
          refine step_sp (by rfl) (.tmp 7) (.tmp 33) (by rfl) HQ (by rfl) (by rfl) hqb ?_; intro wD HSq; have HM := Lib.hid (HM.out.turned HSq.out.turns (by decide)); have HG := Lib.hid (HG.out.turned HSq.out.turns); have hzD := HSq.out.size; have hs := Lib.hid (below_turns hHeld.out HSq.out.turns (Nat.le_refl _))
          refine hK.out _ _ hs (fun hHeld => ?_)
          clear hK K
          try simp only [Act.put, List.setIfInBounds_toArray, List.set_cons_zero, List.set_cons_succ]
          refine wpAnyH_ready (rs := [14]) (by kernel_rfl) (by simp) ?_
          refine AllReadyH.cons (o := ⟨none, _, _, _, _, _⟩) rfl (fun K hK => ?_) AllReadyH.nil
          refine step_sm (by rfl) (.tmp 8) (.tmp 34) (by rfl) Pst.noMail mm HM (by rfl) (by rfl) hmb ?_; intro wE HSm; have HQ := Lib.hid (HSq.out.blk.turned HSm.out.turns (by decide)); have HG := Lib.hid (HG.out.apart HSm.out (by omega)); have hzE := HSm.out.size; have hs := Lib.hid (below_turns hHeld.out HSm.out.turns (Nat.le_refl _))
          refine hK.out _ _ hs (fun hHeld => ?_)
          clear hK K
          try simp only [Act.put, List.setIfInBounds_toArray, List.set_cons_zero, List.set_cons_succ]
          refine wpAnyH_take (i := 15) (oi := ⟨some 9, _, _, _, _, _⟩) (v := ?_) rfl (by kernel_rfl) (by kernel_rfl) (by kernel_rfl) (fun _ _ _ h => h) (Or.inl ⟨by rfl, ?_⟩) (by assumption) ?_
          rotate_left
          · (intro w hSw; (try dsimp only at hSw); go_simp; try with_reducible rfl)
          try simp only [Act.put, List.setIfInBounds_toArray, List.set_cons_zero, List.set_cons_succ]
          refine wpAnyH_take (i := 16) (oi := ⟨some 10, _, _, _, _, _⟩) (v := ?_) rfl (by kernel_rfl) (by kernel_rfl) (by kernel_rfl) (fun _ _ _ h => h) (Or.inl ⟨by rfl, ?_⟩) (by assumption) ?_
          rotate_left
          · (intro w hSw; (try dsimp only at hSw); go_simp; try with_reducible rfl)
          try simp only [Act.put, List.setIfInBounds_toArray, List.set_cons_zero, List.set_cons_succ]
          refine wpAnyH_done (by kernel_rfl) ?_ _
          rotate_left
          refine step_am (by rfl) (by rfl) ?_; intro wC gM HM hb1 hzC hm1 hm2; (try have HG := Lib.hid (HG.out.later hb1.out)); (try have HQ := Blk.hb HQ hb1.out); have hmb : wr.drew.heap.size ≤ gM := Nat.le_trans hHeld.out.size hm1; have hs := Lib.hid (Lift.then2 hHeld.out hb1.out); clear hb1
          refine hK.out _ _ hs (fun hHeld => ?_)
          clear hK K
          try simp only [Act.put, List.setIfInBounds_toArray, List.set_cons_zero, List.set_cons_succ]
          refine wpAnyH_ready (rs := [5, 11]) (by kernel_rfl) (by simp) ?_
          refine AllReadyH.cons (o := ⟨some 32, _, _, _, _, _⟩) rfl (fun K hK => ?_) (AllReadyH.cons (o := ⟨some 7, _, _, _, _, _⟩) rfl (fun K hK => ?_) AllReadyH.nil)
          go_simp
          go_at_call 8
          refine (HX.out _ hHeld.out).mono ?_; rintro e wA ⟨A1, c1, k1, rfl, g1, n1, b1⟩; have HG := Lib.hid g1; (try have HQ := Blk.hb HQ b1); (try have HM := Blk.hb HM b1); have hzA := b1.size; have hzc := hHeld.out.size; have hkA : k1 < wA.heap.size := (by omega); have hs := Lib.hid (Lift.then2 hHeld.out b1); clear g1 b1
          refine hK.out _ _ hs (fun hHeld => ?_)
          clear hK K
          try simp only [Act.put, List.setIfInBounds_toArray, List.set_cons_zero, List.set_cons_succ]
          refine wpAnyH_take (i := 6) (oi := ⟨some 26, _, _, _, _, _⟩) (v := ?_) rfl (by kernel_rfl) (by kernel_rfl) (by kernel_rfl) (fun _ _ _ h => h) (Or.inl ⟨by rfl, ?_⟩) (by assumption) ?_
          rotate_left
          · (intro w hSw; (try dsimp only at hSw); go_simp; try with_reducible rfl)
          try simp only [Act.put, List.setIfInBounds_toArray, List.set_cons_zero, List.set_cons_succ]
          refine wpAnyH_take (i := 7) (oi := ⟨some 33, _, _, _, _, _⟩) (v := ?_) rfl (by kernel_rfl) (by kernel_rfl) (by kernel_rfl) (fun _ _ _ h => h) (Or.inl ⟨by rfl, ?_⟩) (by assumption) ?_
          rotate_left
          · (intro w hSw; (try dsimp only at hSw); go_simp; try with_reducible rfl)
          try simp only [Act.put, List.setIfInBounds_toArray, List.set_cons_zero, List.set_cons_succ]
          refine wpAnyH_take (i := 8) (oi := ⟨some 34, _, _, _, _, _⟩) (v := ?_) rfl (by kernel_rfl) (by kernel_rfl) (by kernel_rfl) (fun _ _ _ h => h) (Or.inl ⟨by rfl, ?_⟩) (by assumption) ?_
          rotate_left
          · (intro w hSw; (try dsimp only at hSw); go_simp; try with_reducible rfl)
          try simp only [Act.put, List.setIfInBounds_toArray, List.set_cons_zero, List.set_cons_succ]
          refine wpAnyH_take (i := 9) (oi := ⟨some 35, _, _, _, _, _⟩) (v := ?_) rfl (by kernel_rfl) (by kernel_rfl) (by kernel_rfl) (fun _ _ _ h => h) (Or.inl ⟨by rfl, ?_⟩) (by assumption) ?_
          rotate_left
          · (intro w hSw; (try dsimp only at hSw); go_simp; try with_reducible rfl)
          try simp only [Act.put, List.setIfInBounds_toArray, List.set_cons_zero, List.set_cons_succ]
          refine wpAnyH_take (i := 10) (oi := ⟨some 36, _, _, _, _, _⟩) (v := ?_) rfl (by kernel_rfl) (by kernel_rfl) (by kernel_rfl) (fun _ _ _ h => h) (Or.inl ⟨by rfl, ?_⟩) (by assumption) ?_
          rotate_left
          · (intro w hSw; (try dsimp only at hSw); go_simp; try with_reducible rfl)
          try simp only [Act.put, List.setIfInBounds_toArray, List.set_cons_zero, List.set_cons_succ]
          refine wpAnyH_ready (rs := [11]) (by kernel_rfl) (by simp) ?_
          refine AllReadyH.cons (o := ⟨some 7, _, _, _, _, _⟩) rfl (fun K hK => ?_) AllReadyH.nil
          refine step_ap (by rfl) (by rfl) ?_; intro wB gQ HQ hb1 hzB hq1 hq2; (try have HG := Lib.hid (HG.out.later hb1.out)); (try have HM := Blk.hb HM hb1.out); have hqb : wr.drew.heap.size ≤ gQ := Nat.le_trans hHeld.out.size hq1; have hs := Lib.hid (Lift.then2 hHeld.out hb1.out); clear hb1
          refine hK.out _ _ hs (fun hHeld => ?_)
          clear hK K
          try simp only [Act.put, List.setIfInBounds_toArray, List.set_cons_zero, List.set_cons_succ]
          refine wpAnyH_ready (rs := [13]) (by kernel_rfl) (by simp) ?_
          refine AllReadyH.cons (o := ⟨none, _, _, _, _, _⟩) rfl (fun K hK => ?_) AllReadyH.nil
          refine step_sp (by rfl) (.tmp 7) (.tmp 33) (by rfl) HQ (by rfl) (by rfl) hqb ?_; intro wD HSq; have HM := Lib.hid (HM.out.turned HSq.out.turns (by decide)); have HG := Lib.hid (HG.out.turned HSq.out.turns); have hzD := HSq.out.size; have hs := Lib.hid (below_turns hHeld.out HSq.out.turns (Nat.le_refl _))
          refine hK.out _ _ hs (fun hHeld => ?_)
          clear hK K
          try simp only [Act.put, List.setIfInBounds_toArray, List.set_cons_zero, List.set_cons_succ]
          refine wpAnyH_ready (rs := [14]) (by kernel_rfl) (by simp) ?_
          refine AllReadyH.cons (o := ⟨none, _, _, _, _, _⟩) rfl (fun K hK => ?_) AllReadyH.nil
          refine step_sm (by rfl) (.tmp 8) (.tmp 34) (by rfl) Pst.noMail mm HM (by rfl) (by rfl) hmb ?_; intro wE HSm; have HQ := Lib.hid (HSq.out.blk.turned HSm.out.turns (by decide)); have HG := Lib.hid (HG.out.apart HSm.out (by omega)); have hzE := HSm.out.size; have hs := Lib.hid (below_turns hHeld.out HSm.out.turns (Nat.le_refl _))
          refine hK.out _ _ hs (fun hHeld => ?_)
          clear hK K
          try simp only [Act.put, List.setIfInBounds_toArray, List.set_cons_zero, List.set_cons_succ]
          refine wpAnyH_take (i := 15) (oi := ⟨some 9, _, _, _, _, _⟩) (v := ?_) rfl (by kernel_rfl) (by kernel_rfl) (by kernel_rfl) (fun _ _ _ h => h) (Or.inl ⟨by rfl, ?_⟩) (by assumption) ?_
          rotate_left
          · (intro w hSw; (try dsimp only at hSw); go_simp; try with_reducible rfl)
          try simp only [Act.put, List.setIfInBounds_toArray, List.set_cons_zero, List.set_cons_succ]
          refine wpAnyH_take (i := 16) (oi := ⟨some 10, _, _, _, _, _⟩) (v := ?_) rfl (by kernel_rfl) (by kernel_rfl) (by kernel_rfl) (fun _ _ _ h => h) (Or.inl ⟨by rfl, ?_⟩) (by assumption) ?_
          rotate_left
          · (intro w hSw; (try dsimp only at hSw); go_simp; try with_reducible rfl)
          try simp only [Act.put, List.setIfInBounds_toArray, List.set_cons_zero, List.set_cons_succ]
          refine wpAnyH_done (by kernel_rfl) ?_ _
          rotate_left
          refine step_ap (by rfl) (by rfl) ?_; intro wB gQ HQ hb1 hzB hq1 hq2; (try have HG := Lib.hid (HG.out.later hb1.out)); (try have HM := Blk.hb HM hb1.out); have hqb : wr.drew.heap.size ≤ gQ := Nat.le_trans hHeld.out.size hq1; have hs := Lib.hid (Lift.then2 hHeld.out hb1.out); clear hb1
          refine hK.out _ _ hs (fun hHeld => ?_)
          clear hK K
          try simp only [Act.put, List.setIfInBounds_toArray, List.set_cons_zero, List.set_cons_succ]
          refine wpAnyH_ready (rs := [5]) (by kernel_rfl) (by simp) ?_
          refine AllReadyH.cons (o := ⟨some 32, _, _, _, _, _⟩) rfl (fun K hK => ?_) AllReadyH.nil
          go_simp
          go_at_call 8
          refine (HX.out _ hHeld.out).mono ?_; rintro e wA ⟨A1, c1, k1, rfl, g1, n1, b1⟩; have HG := Lib.hid g1; (try have HQ := Blk.hb HQ b1); (try have HM := Blk.hb HM b1); have hzA := b1.size; have hzc := hHeld.out.size; have hkA : k1 < wA.heap.size := (by omega); have hs := Lib.hid (Lift.then2 hHeld.out b1); clear g1 b1
          refine hK.out _ _ hs (fun hHeld => ?_)
          clear hK K
          try simp only [Act.put, List.setIfInBounds_toArray, List.set_cons_zero, List.set_cons_succ]
          refine wpAnyH_take (i := 6) (oi := ⟨some 26, _, _, _, _, _⟩) (v := ?_) rfl (by kernel_rfl) (by kernel_rfl) (by kernel_rfl) (fun _ _ _ h => h) (Or.inl ⟨by rfl, ?_⟩) (by assumption) ?_
          rotate_left
          · (intro w hSw; (try dsimp only at hSw); go_simp; try with_reducible rfl)
          try simp only [Act.put, List.setIfInBounds_toArray, List.set_cons_zero, List.set_cons_succ]
          refine wpAnyH_take (i := 7) (oi := ⟨some 33, _, _, _, _, _⟩) (v := ?_) rfl (by kernel_rfl) (by kernel_rfl) (by kernel_rfl) (fun _ _ _ h => h) (Or.inl ⟨by rfl, ?_⟩) (by assumption) ?_
          rotate_left
          · (intro w hSw; (try dsimp only at hSw); go_simp; try with_reducible rfl)
          try simp only [Act.put, List.setIfInBounds_toArray, List.set_cons_zero, List.set_cons_succ]
          refine wpAnyH_take (i := 8) (oi := ⟨some 34, _, _, _, _, _⟩) (v := ?_) rfl (by kernel_rfl) (by kernel_rfl) (by kernel_rfl) (fun _ _ _ h => h) (Or.inl ⟨by rfl, ?_⟩) (by assumption) ?_
          rotate_left
          · (intro w hSw; (try dsimp only at hSw); go_simp; try with_reducible rfl)
          try simp only [Act.put, List.setIfInBounds_toArray, List.set_cons_zero, List.set_cons_succ]
          refine wpAnyH_take (i := 9) (oi := ⟨some 35, _, _, _, _, _⟩) (v := ?_) rfl (by kernel_rfl) (by kernel_rfl) (by kernel_rfl) (fun _ _ _ h => h) (Or.inl ⟨by rfl, ?_⟩) (by assumption) ?_
          rotate_left
          · (intro w hSw; (try dsimp only at hSw); go_simp; try with_reducible rfl)
          try simp only [Act.put, List.setIfInBounds_toArray, List.set_cons_zero, List.set_cons_succ]
          refine wpAnyH_take (i := 10) (oi := ⟨some 36, _, _, _, _, _⟩) (v := ?_) rfl (by kernel_rfl) (by kernel_rfl) (by kernel_rfl) (fun _ _ _ h => h) (Or.inl ⟨by rfl, ?_⟩) (by assumption) ?_
          rotate_left
          · (intro w hSw; (try dsimp only at hSw); go_simp; try with_reducible rfl)
          try simp only [Act.put, List.setIfInBounds_toArray, List.set_cons_zero, List.set_cons_succ]
          refine wpAnyH_ready (rs := [13]) (by kernel_rfl) (by simp) ?_
          refine AllReadyH.cons (o := ⟨none, _, _, _, _, _⟩) rfl (fun K hK => ?_) AllReadyH.nil
          refine step_sp (by rfl) (.tmp 7) (.tmp 33) (by rfl) HQ (by rfl) (by rfl) hqb ?_; intro wD HSq; have HM := Lib.hid (HM.out.turned HSq.out.turns (by decide)); have HG := Lib.hid (HG.out.turned HSq.out.turns); have hzD := HSq.out.size; have hs := Lib.hid (below_turns hHeld.out HSq.out.turns (Nat.le_refl _))
          refine hK.out _ _ hs (fun hHeld => ?_)
          clear hK K
          try simp only [Act.put, List.setIfInBounds_toArray, List.set_cons_zero, List.set_cons_succ]
          refine wpAnyH_ready (rs := [14]) (by kernel_rfl) (by simp) ?_
          refine AllReadyH.cons (o := ⟨none, _, _, _, _, _⟩) rfl (fun K hK => ?_) AllReadyH.nil
          refine step_sm (by rfl) (.tmp 8) (.tmp 34) (by rfl) Pst.noMail mm HM (by rfl) (by rfl) hmb ?_; intro wE HSm; have HQ := Lib.hid (HSq.out.blk.turned HSm.out.turns (by decide)); have HG := Lib.hid (HG.out.apart HSm.out (by omega)); have hzE := HSm.out.size; have hs := Lib.hid (below_turns hHeld.out HSm.out.turns (Nat.le_refl _))
          refine hK.out _ _ hs (fun hHeld => ?_)
          clear hK K
          try simp only [Act.put, List.setIfInBounds_toArray, List.set_cons_zero, List.set_cons_succ]
          refine wpAnyH_take (i := 15) (oi := ⟨some 9, _, _, _, _, _⟩) (v := ?_) rfl (by kernel_rfl) (by kernel_rfl) (by kernel_rfl) (fun _ _ _ h => h) (Or.inl ⟨by rfl, ?_⟩) (by assumption) ?_
          rotate_left
          · (intro w hSw; (try dsimp only at hSw); go_simp; try with_reducible rfl)
          try simp only [Act.put, List.setIfInBounds_toArray, List.set_cons_zero, List.set_cons_succ]
          refine wpAnyH_take (i := 16) (oi := ⟨some 10, _, _, _, _, _⟩) (v := ?_) rfl (by kernel_rfl) (by kernel_rfl) (by kernel_rfl) (fun _ _ _ h => h) (Or.inl ⟨by rfl, ?_⟩) (by assumption) ?_
          rotate_left
          · (intro w hSw; (try dsimp only at hSw); go_simp; try with_reducible rfl)
          try simp only [Act.put, List.setIfInBounds_toArray, List.set_cons_zero, List.set_cons_succ]
          refine wpAnyH_done (by kernel_rfl) ?_ _
          rotate_left
          all_goals
            go_wp2_with fail
            go_meet
            exact ⟨gQ, gM, A1, c1, k1, rfl, rfl, rfl, rfl, by omega, Lib.hid ⟨HQ.out, HSm.out.blk, HG.out, hs.out, hqb, hmb, by omega⟩⟩
        case rest =>
        obtain ⟨gQ, gM, A1, c1, k1, rfl, rfl, rfl, rfl, hk1r, HD⟩ := hcut
        have HBx : Hid (Below w.heap.size w wc) := Lib.hid (HB.out.drew.trans (HD.out.b.mono hsz))
        obtain ⟨x0, _, _, _, x4, x5, x6, x7⟩ := at_op (HOf.out wc HD.out.b).out
        have HPx := HPf.out wc HD.out.b
        have HQx := Lib.hid HD.out.q
        have HMx := Lib.hid HD.out.m
        have HGx := Lib.hid HD.out.g
        have hqn : wr.heap.size ≤ gQ := HD.out.qn
        have hkx := HD.out.k
        have HRx := Lib.hid (HR.out.later (W' := wc) (((Below.refl _ wr).drew).trans HD.out.b) hk1r)
        have hwz := HBx.out.size
        have HLs : Hid (sent.length ≤ 1000) := Lib.hid (by omega)
        have HLe : Hid (seen.length ≤ 1000) := Lib.hid (by omega)
        have HLb : Hid (w.heap.size ≤ wc.heap.size) := Lib.hid hwz
        have hgQ := HQx.out.lt
        clear HX HPf HOf HP HG HR HD
        rcases HC.out with ⟨he, hs, hse⟩ | ⟨rfl, hk, hs, hse⟩ | ⟨rfl, hk, hs, hse⟩ | ⟨rfl, h1, h2, hs, hse⟩
        · rw [hs, hse] at HMs
          clear HC hs hse x4 x5 x6 x7
          go_wp2_with (first | refine wpList_lp rfl _ rfl HQx rfl ?_ | refine wpList_sp rfl _ _ rfl HPx rfl rfl (Nat.le_refl w.heap.size) ?_)
          intro w2 HS
          have HB2 := Lib.hid (below_turns HBx.out HS.out.turns (Nat.le_refl _))
          have HG2 := Lib.hid (HGx.out.turned HS.out.turns)
          have HP2 := Lib.hid HS.out.blk
          have HR2 := Lib.hid (HRx.out.turned HS.out.turns)
          have hk2 : k1 < w2.heap.size := by rw [HS.out.size]; exact hkx
          clear HS HPx HQx HGx HRx HBx
          go_wp2_with fail
          exact ⟨⟨k + 1, q, A1, c1, k1, sent, seen, by omega, by omega, by omega, by omega, by omega, by go_num, HP2, HG2, hk2, HB2, HR2, HMs⟩, by simp [intOf]; omega⟩
        · rw [hs] at HMs hsl
          rw [hse] at HMs
          rw [hk] at x0
          clear HC hs hse hk
          obtain ⟨xk, xi, xn, xb, ⟨xf, xt, xd, xs⟩⟩ := x
          simp only at x4 x5 x6 x7 hsl HMs
          go_wp2_with (at_builtin; refine wpList_pushA rfl (.tmp 47) (.tmp 53) rfl w.heap.size wc _ sent ⟨xf, xt, xd, xs⟩ _ wc.heap.size rfl rfl rfl rfl (Lib.hid HRx.out.s) HLs HLb ?_)
          intro v3 w3 HGr
          have hz3 := HGr.out.size
          replace HGx := Lib.hid (HGr.out.good HGx.out HRx.out.sp)
          replace HPx := Lib.hid (HGr.out.far HPx.out (own_neP HRx.out.s HPx.out))
          replace HQx := Lib.hid (HGr.out.far HQx.out (own_neP HRx.out.s HQx.out))
          replace HBx : Hid (Below w.heap.size w w3) := Lib.hid (HBx.out.trans HGr.out.below)
          replace x0 := (HGr.out.below.cell (p := ⟨bl, ol + k * 8, none⟩) hbl).trans x0
          replace HRx := Lib.hid (HRx.out.sent HGr.out hkx)
          replace hkx : k1 < w3.heap.size := Nat.lt_of_lt_of_le hkx hz3
          clear HGr x4 x5 x6 x7 HMx
          generalize sent ++ [⟨xf, xt, xd, xs⟩] = s2 at *
          go_wp2_with (first | refine wpList_lp rfl _ rfl HQx rfl ?_ | refine wpList_sp rfl _ _ rfl HPx rfl rfl (Nat.le_refl w.heap.size) ?_)
          intro w2 HS
          have HB2 := Lib.hid (below_turns HBx.out HS.out.turns (Nat.le_refl _))
          have HG2 := Lib.hid (HGx.out.turned HS.out.turns)
          have HP2 := Lib.hid HS.out.blk
          have HR2 := Lib.hid (HRx.out.turned HS.out.turns)
          have hk2 : k1 < w2.heap.size := by rw [HS.out.size]; exact hkx
          clear HS HPx HQx HGx HRx HBx
          go_wp2_with fail
          exact ⟨⟨k + 1, q, A1, c1, k1, s2, seen, by omega, by omega, by omega, by omega, by omega, by go_num, HP2, HG2, hk2, HB2, HR2, HMs⟩, by simp [intOf]; omega⟩
        · rw [hse] at HMs hel
          rw [hs] at HMs
          rw [hk] at x0
          clear HC hs hse hk
          go_wp2_with (first | (at_builtin; refine wpList_pushA rfl (.tmp 65) (.tmp 67) rfl w.heap.size wc _ seen mm _ wc.heap.size rfl rfl rfl rfl (Lib.hid HRx.out.e) HLe HLb ?_) | refine wpList_lm rfl _ rfl HMx rfl ?_)
          intro v3 w3 HGr
          have hz3 := HGr.out.size
          replace HGx := Lib.hid (HGr.out.good HGx.out HRx.out.ep)
          replace HPx := Lib.hid (HGr.out.far HPx.out (own_neP HRx.out.e HPx.out))
          replace HQx := Lib.hid (HGr.out.far HQx.out (own_neP HRx.out.e HQx.out))
          replace HBx : Hid (Below w.heap.size w w3) := Lib.hid (HBx.out.trans HGr.out.below)
          replace x0 := (HGr.out.below.cell (p := ⟨bl, ol + k * 8, none⟩) hbl).trans x0
          replace HRx := Lib.hid (HRx.out.seen HGr.out hkx)
          replace hkx : k1 < w3.heap.size := Nat.lt_of_lt_of_le hkx hz3
          clear HGr x4 x5 x6 x7 HMx
          generalize seen ++ [mm] = s2 at *
          go_wp2_with (first | refine wpList_lp rfl _ rfl HQx rfl ?_ | refine wpList_sp rfl _ _ rfl HPx rfl rfl (Nat.le_refl w.heap.size) ?_)
          intro w2 HS
          have HB2 := Lib.hid (below_turns HBx.out HS.out.turns (Nat.le_refl _))
          have HG2 := Lib.hid (HGx.out.turned HS.out.turns)
          have HP2 := Lib.hid HS.out.blk
          have HR2 := Lib.hid (HRx.out.turned HS.out.turns)
          have hk2 : k1 < w2.heap.size := by rw [HS.out.size]; exact hkx
          clear HS HPx HQx HGx HRx HBx
          go_wp2_with fail
          exact ⟨⟨k + 1, q, A1, c1, k1, sent, s2, by omega, by omega, by omega, by omega, by omega, by go_num, HP2, HG2, hk2, HB2, HR2, HMs⟩, by simp [intOf]; omega⟩
        · rw [hs, hse] at HMs
          clear HC hs hse x4 x5 x6 x7
          go_wp2_with (first | refine wpList_lp rfl _ rfl HQx rfl ?_ | refine wpList_sp rfl _ _ rfl HPx rfl rfl (Nat.le_refl w.heap.size) ?_)
          intro w2 HS
          have HB2 := Lib.hid (below_turns HBx.out HS.out.turns (Nat.le_refl _))
          have HG2 := Lib.hid (HGx.out.turned HS.out.turns)
          have HP2 := Lib.hid HS.out.blk
          have HR2 := Lib.hid (HRx.out.turned HS.out.turns)
          have hk2 : k1 < w2.heap.size := by rw [HS.out.size]; exact hkx
          clear HS HPx HQx HGx HRx HBx
          go_wp2_with fail
          exact ⟨⟨k + 1, q, A1, c1, k1, sent, seen, by omega, by omega, by omega, by omega, by omega, by go_num, HP2, HG2, hk2, HB2, HR2, HMs⟩, by simp [intOf]; omega⟩
      · have hcc : (k : Int) < (n : Int) ∧ ¬ (k : Int) < 200 ∨ ¬ (k : Int) < (n : Int) := by omega
        have hpk2 : p.m.length ≤ 200 := by omega
        have hsk2 : sent.length ≤ 200 := by omega
        have hek2 : seen.length ≤ 200 := by omega
        clear HI HGet
        rcases hcc with ⟨hc1, hc2⟩ | hc1
        all_goals
          go_wp2_with fail
          go_meet
          exact ⟨p, A, c, r, sent, seen, hpk2, hsk2, hek2, HP, HG, HB, HR, HM⟩
  case rest =>
  obtain ⟨p, A, c, r, sent, seen, hpk, hsk, hek, HP, HG, HB, HR, HM⟩ := hcut
  clear HP0 HG0 HB0 hs0 HR0 HM0 HI HGet HN hl
  have hsz := HB.out.size
  have HIp := Lib.hid (show mailLay.Reads wc wc.heap.size A p.m ∧ (A = none → p.m = []) from ⟨(HG.out.reads HB.out).1, (HG.out.reads HB.out).2.1⟩)
  obtain ⟨z0, _⟩ := Blk.one HP 0 (v := .slice A p.m.length c) rfl
  have HLL : Hid (seen.length ≤ 1000 ∧ p.m.length ≤ 1000) := Lib.hid (by omega)
  have HLb : Hid (w.heap.size ≤ wc.heap.size) := Lib.hid hsz
  have HAllN : (seen ++ p.m).length ≤ 1000 := by rw [List.length_append]; omega
  go_wp2_with (at_builtin; refine wpList_moreA rfl (.tmp 70) (.tmp 72) rfl w.heap.size wc _ seen A c wc.heap.size p.m rfl rfl (Lib.hid HR.out.e) HIp HLL HLb ?_)
  intro v3 w3 HGr
  have HS3 := Lib.hid (HGr.out.row HR.out.s HR.out.se)
  have HE3 := Lib.hid HGr.out.own
  have HB3 := Lib.hid (HB.out.trans HGr.out.below)
  have HAll : Hid (∀ x ∈ seen ++ p.m, Pst.Good sent x) := Lib.hid fun x hx => by
    rcases List.mem_append.1 hx with hx | hx
    · exact HM.out.e x hx
    · exact HM.out.p x hx
  have HMz := Lib.hid HM.out.z
  generalize seen ++ p.m = all at *
  obtain ⟨As, cs, hvs⟩ := HS3.out.shape
  obtain ⟨Ae, ce, hve⟩ := HE3.out.shape
  subst hvs hve
  have HYat : Hid (∀ j, j < sent.length → ∃ y gs, sent[j]? = some y ∧ As = some ⟨gs, 0, none⟩ ∧ w3.cell? ⟨gs, j * 4, none⟩ = some (.int .i64 y.f) ∧ w3.cell? ⟨gs, j * 4 + 1, none⟩ = some (.int .i64 y.t) ∧ w3.cell? ⟨gs, j * 4 + 2, none⟩ = some (.string y.d) ∧ y.d.size ≤ 9223372036854775807) := Lib.hid fun j hj => by
    have hne : sent ≠ [] := fun h => by rw [h] at hj; simp at hj
    have hy : sent[j]? = some sent[j] := List.getElem?_eq_getElem hj
    have ho := HS3.out
    obtain ⟨gs, cs', hv, _⟩ := ho.block hne
    injection hv with h1 h2 h3
    subst h1
    obtain ⟨m0, m1, m2, _⟩ := own_at ho hy
    exact ⟨_, gs, hy, rfl, m0, m1, m2, HMz.out _ (List.getElem_mem hj)⟩
  have HXat : Hid (∀ j, j < all.length → ∃ x ge, all[j]? = some x ∧ Ae = some ⟨ge, 0, none⟩ ∧ w3.cell? ⟨ge, j * 4, none⟩ = some (.int .i64 x.f) ∧ w3.cell? ⟨ge, j * 4 + 1, none⟩ = some (.int .i64 x.t) ∧ w3.cell? ⟨ge, j * 4 + 2, none⟩ = some (.string x.d) ∧ w3.cell? ⟨ge, j * 4 + 3, none⟩ = some (.bool x.s) ∧ Pst.Good sent x ∧ x.d.size ≤ 9223372036854775807) := Lib.hid fun j hj => by
    have hne : all ≠ [] := fun h => by rw [h] at hj; simp at hj
    have hy : all[j]? = some all[j] := List.getElem?_eq_getElem hj
    have ho := HE3.out
    obtain ⟨gs, cs', hv, _⟩ := ho.block hne
    injection hv with h1 h2 h3
    subst h1
    obtain ⟨m0, m1, m2, m3⟩ := own_at ho hy
    have hg := HAll.out _ (List.getElem_mem hj)
    exact ⟨_, gs, hy, rfl, m0, m1, m2, m3, hg, good_fit hg HMz.out⟩
  have HFin : Hid (∀ x, Pst.Good sent x → (sent.take sent.length).any (fun y => Pst.fits y x) = true) := Lib.hid fun x hx => by rw [List.take_length]; exact hx
  have HMore : Hid (∀ (x y : Pst.Mail) (j : Nat), sent[j]? = some y → (sent.take (j + 1)).any (fun y => Pst.fits y x) = ((sent.take j).any (fun y => Pst.fits y x) || Pst.fits y x)) := Lib.hid fun x y j h => any_more h
  have HBase : Hid (∀ x, (sent.take 0).any (fun y => Pst.fits y x) = false) := Lib.hid fun x => by simp
  have hsk2 : sent.length ≤ 1000 := by omega
  generalize hS : sent.length = S at *
  generalize hN2 : all.length = N at *
  clear HGr HS3 HE3 HAll HMz HIp HLL HLb HP HG HR HM HB hS hN2
  go_wp2_with fail
  go_loopw [11] (fun vi wr2 => ∃ k m : Nat, k ≤ N ∧ vi = .int .i64 k ∧ wr2 = w3.drewN m) (fun vi _ => N - (intOf vi).toNat)
  case atStart => exact ⟨0, 0, Nat.zero_le _, rfl, rfl⟩
  case round =>
  obtain ⟨k, m, hkN, rfl, rfl⟩ := hrel
  by_cases hlt : k < N
  · obtain ⟨x, ge, hx, rfl, e0, e1, e2, e3, hgd, hxz⟩ := HXat.out k hlt
    have hk1 : (0 : Int) ≤ (k : Int) := by omega
    have hk2 : (k : Int) < (N : Int) := by omega
    have HGd := Lib.hid (HFin.out x hgd)
    have HB0 := Lib.hid (HBase.out x)
    clear hgd hx HXat
    go_wp2_with fail
    go_loopw [12, 13] (fun vo vj wr3 => ∃ j m' : Nat, j ≤ S ∧ vj = .int .i64 j ∧ vo = .bool ((sent.take j).any (fun y => Pst.fits y x)) ∧ wr3 = w3.drewN m') (fun _ vj _ => S - (intOf vj).toNat)
    case atStart => exact ⟨0, m, Nat.zero_le _, rfl, by rw [HB0.out], rfl⟩
    case round =>
    obtain ⟨j, m', hjS, rfl, rfl, rfl⟩ := hrel
    by_cases hjl : j < S
    · obtain ⟨y, gs, hy, rfl, y0, y1, y2, hyz⟩ := HYat.out j hjl
      have hj1 : (0 : Int) ≤ (j : Int) := by omega
      have hj2 : (j : Int) < (S : Int) := by omega
      have HA := Lib.hid (HMore.out x y j hy)
      have HNr := Lib.hid (fun W => near_any y.d x.d W hyz hxz)
      have HF : Hid (Pst.fits y x = (decide (y.f = x.f) && decide (y.t = x.t) && (Pst.near y.d x.d).1 && ((Pst.near y.d x.d).2 || x.s))) := Lib.hid rfl
      rw [HF.out] at HA
      generalize (Pst.near y.d x.d).1 = o1 at *
      generalize (Pst.near y.d x.d).2 = o2 at *
      generalize (sent.take j).any (fun y => Pst.fits y x) = b at *
      obtain ⟨yf, yt, yd, ys⟩ := y
      obtain ⟨xf, xt, xd, xs⟩ := x
      simp only at y0 y1 y2 e0 e1 e2 e3 HA HNr
      clear hy HF HMore HYat HGd HB0 hyz hxz
      go_wp2_with fail
      refine wp_region_held_drew (S := (fun W => W.cell? ⟨gs, j * 4 + 2, none⟩ = some (.string yd) ∧ W.cell? ⟨ge, k * 4 + 2, none⟩ = some (.string xd))) (by kernel_rfl) ?_ (fun hHeld => ?_)
      · (try dsimp only); exact ⟨y2, e2⟩
      refine wpAnyH_take (i := 0) (oi := ⟨some 87, _, _, _, _, _⟩) (v := ?_) rfl (by kernel_rfl) (by kernel_rfl) (by kernel_rfl) (fun _ _ _ h => h) (Or.inl ⟨by rfl, ?_⟩) (by assumption) ?_
      rotate_left
      · (intro w hSw; (try dsimp only at hSw); go_simp; try with_reducible rfl)
      try simp only [Act.put, List.setIfInBounds_toArray, List.set_cons_zero, List.set_cons_succ]
      refine wpAnyH_take (i := 1) (oi := ⟨some 88, _, _, _, _, _⟩) (v := ?_) rfl (by kernel_rfl) (by kernel_rfl) (by kernel_rfl) (fun _ _ _ h => h) (Or.inl ⟨by rfl, ?_⟩) (by assumption) ?_
      rotate_left
      · (intro w hSw; (try dsimp only at hSw); go_simp; try with_reducible rfl)
      try simp only [Act.put, List.setIfInBounds_toArray, List.set_cons_zero, List.set_cons_succ]
      refine wpAnyH_take (i := 2) (oi := ⟨some 89, _, _, _, _, _⟩) (v := ?_) rfl (by kernel_rfl) (by kernel_rfl) (by kernel_rfl) (fun _ _ _ h => h) (Or.inl ⟨by rfl, ?_⟩) (by assumption) ?_
      rotate_left
      · (intro w hSw; (try dsimp only at hSw); go_simp; try with_reducible rfl)
      try simp only [Act.put, List.setIfInBounds_toArray, List.set_cons_zero, List.set_cons_succ]
      refine wpAnyH_take (i := 3) (oi := ⟨some 90, _, _, _, _, _⟩) (v := ?_) rfl (by kernel_rfl) (by kernel_rfl) (by kernel_rfl) (fun _ _ _ h => h) (Or.inl ⟨by rfl, ?_⟩) (by assumption) ?_
      rotate_left
      · (intro w hSw; (try dsimp only at hSw); go_simp; try with_reducible rfl)
      try simp only [Act.put, List.setIfInBounds_toArray, List.set_cons_zero, List.set_cons_succ]
      refine wpAnyH_take (i := 4) (oi := ⟨some 91, _, _, _, _, _⟩) (v := ?_) rfl (by kernel_rfl) (by kernel_rfl) (by kernel_rfl) (fun _ _ _ h => h) (Or.inl ⟨by rfl, ?_⟩) (by assumption) ?_
      rotate_left
      · (intro w hSw; (try dsimp only at hSw); go_simp; try with_reducible rfl)
      try simp only [Act.put, List.setIfInBounds_toArray, List.set_cons_zero, List.set_cons_succ]
      refine wpAnyH_take (i := 5) (oi := ⟨some 92, _, _, _, _, _⟩) (v := ?_) rfl (by kernel_rfl) (by kernel_rfl) (by kernel_rfl) (fun _ _ _ h => h) (Or.inl ⟨by rfl, ?_⟩) (by assumption) ?_
      rotate_left
      · (intro w hSw; (try dsimp only at hSw); go_simp; try with_reducible rfl)
      try simp only [Act.put, List.setIfInBounds_toArray, List.set_cons_zero, List.set_cons_succ]
      refine wpAnyH_take (i := 6) (oi := ⟨some 93, _, _, _, _, _⟩) (v := ?_) rfl (by kernel_rfl) (by kernel_rfl) (by kernel_rfl) (fun _ _ _ h => h) (Or.inl ⟨by rfl, ?_⟩) (by assumption) ?_
      rotate_left
      · (intro w hSw; (try dsimp only at hSw); go_simp; try with_reducible rfl)
      try simp only [Act.put, List.setIfInBounds_toArray, List.set_cons_zero, List.set_cons_succ]
      refine wpAnyH_take (i := 7) (oi := ⟨some 94, _, _, _, _, _⟩) (v := ?_) rfl (by kernel_rfl) (by kernel_rfl) (by kernel_rfl) (fun _ _ _ h => h) (Or.inl ⟨by rfl, ?_⟩) (by assumption) ?_
      rotate_left
      · (intro w hSw; (try dsimp only at hSw); go_simp; try with_reducible rfl)
      try simp only [Act.put, List.setIfInBounds_toArray, List.set_cons_zero, List.set_cons_succ]
      refine wpAnyH_take (i := 8) (oi := ⟨some 95, _, _, _, _, _⟩) (v := ?_) rfl (by kernel_rfl) (by kernel_rfl) (by kernel_rfl) (fun _ _ _ h => h) (Or.inl ⟨by rfl, ?_⟩) (by assumption) ?_
      rotate_left
      · (intro w hSw; (try dsimp only at hSw); go_simp; try with_reducible rfl)
      try simp only [Act.put, List.setIfInBounds_toArray, List.set_cons_zero, List.set_cons_succ]
      refine wpAnyH_take (i := 9) (oi := ⟨some 96, _, _, _, _, _⟩) (v := ?_) rfl (by kernel_rfl) (by kernel_rfl) (by kernel_rfl) (fun _ _ _ h => h) (Or.inl ⟨by rfl, ?_⟩) (by assumption) ?_
      rotate_left
      · (intro w hSw; (try dsimp only at hSw); go_simp; try with_reducible rfl)
      try simp only [Act.put, List.setIfInBounds_toArray, List.set_cons_zero, List.set_cons_succ]
      refine wpAnyH_ready (rs := [10]) (by kernel_rfl) (by simp) ?_
      refine AllReadyH.cons (o := ⟨some 97, _, _, _, _, _⟩) rfl (fun K hK => ?_) AllReadyH.nil
      go_simp
      go_at_call 12
      refine (HNr.out _).mono ?_; rintro e w1 ⟨rfl, m1, rfl⟩; have hs := hHeld
      refine hK.out _ _ hs (fun hHeld => ?_)
      clear hK K
      try simp only [Act.put, List.setIfInBounds_toArray, List.set_cons_zero, List.set_cons_succ]
      refine wpAnyH_take (i := 11) (oi := ⟨some 86, _, _, _, _, _⟩) (v := ?_) rfl (by kernel_rfl) (by kernel_rfl) (by kernel_rfl) (fun _ _ _ h => h) (Or.inl ⟨by rfl, ?_⟩) (by assumption) ?_
      rotate_left
      · (intro w hSw; (try dsimp only at hSw); go_simp; try with_reducible rfl)
      try simp only [Act.put, List.setIfInBounds_toArray, List.set_cons_zero, List.set_cons_succ]
      refine wpAnyH_take (i := 12) (oi := ⟨some 98, _, _, _, _, _⟩) (v := ?_) rfl (by kernel_rfl) (by kernel_rfl) (by kernel_rfl) (fun _ _ _ h => h) (Or.inl ⟨by rfl, ?_⟩) (by assumption) ?_
      rotate_left
      · (intro w hSw; (try dsimp only at hSw); go_simp; try with_reducible rfl)
      try simp only [Act.put, List.setIfInBounds_toArray, List.set_cons_zero, List.set_cons_succ]
      refine wpAnyH_take (i := 13) (oi := ⟨some 99, _, _, _, _, _⟩) (v := ?_) rfl (by kernel_rfl) (by kernel_rfl) (by kernel_rfl) (fun _ _ _ h => h) (Or.inl ⟨by rfl, ?_⟩) (by assumption) ?_
      rotate_left
      · (intro w hSw; (try dsimp only at hSw); go_simp; try with_reducible rfl)
      try simp only [Act.put, List.setIfInBounds_toArray, List.set_cons_zero, List.set_cons_succ]
      refine wpAnyH_take (i := 14) (oi := ⟨some 14, _, _, _, _, _⟩) (v := ?_) rfl (by kernel_rfl) (by kernel_rfl) (by kernel_rfl) (fun _ _ _ h => h) (Or.inl ⟨by rfl, ?_⟩) (by assumption) ?_
      rotate_left
      · (intro w hSw; (try dsimp only at hSw); go_simp; try with_reducible rfl)
      try simp only [Act.put, List.setIfInBounds_toArray, List.set_cons_zero, List.set_cons_succ]
      refine wpAnyH_take (i := 15) (oi := ⟨some 15, _, _, _, _, _⟩) (v := ?_) rfl (by kernel_rfl) (by kernel_rfl) (by kernel_rfl) (fun _ _ _ h => h) (Or.inl ⟨by rfl, ?_⟩) (by assumption) ?_
      rotate_left
      · (intro w hSw; (try dsimp only at hSw); go_simp; try with_reducible rfl)
      try simp only [Act.put, List.setIfInBounds_toArray, List.set_cons_zero, List.set_cons_succ]
      refine wpAnyH_done (by kernel_rfl) ?_ _
      go_wp2_with fail
      cases b
      · by_cases hf : yf = xf
        · by_cases ht : yt = xt
          · cases o1
            · have HV : Hid (Value.bool false = Value.bool ((sent.take (j + 1)).any fun y => Pst.fits y ⟨xf, xt, xd, xs⟩)) := Lib.hid (by rw [HA.out]; simp [hf, ht])
              subst hf ht
              go_quiet (fail)
              go_wp2_with fail
              exact ⟨⟨j + 1, m' + 1 + m1 + nq, by omega, by go_num, HV.out, rfl⟩, by simp [intOf]; omega⟩
            · cases o2
              · have HV : Hid (Value.bool xs = Value.bool ((sent.take (j + 1)).any fun y => Pst.fits y ⟨xf, xt, xd, xs⟩)) := Lib.hid (by rw [HA.out]; simp [hf, ht])
                subst hf ht
                go_quiet (fail)
                go_wp2_with fail
                exact ⟨⟨j + 1, m' + 1 + m1 + nq, by omega, by go_num, HV.out, rfl⟩, by simp [intOf]; omega⟩
              · have HV : Hid (Value.bool true = Value.bool ((sent.take (j + 1)).any fun y => Pst.fits y ⟨xf, xt, xd, xs⟩)) := Lib.hid (by rw [HA.out]; simp [hf, ht])
                subst hf ht
                go_quiet (fail)
                go_wp2_with fail
                exact ⟨⟨j + 1, m' + 1 + m1 + nq, by omega, by go_num, HV.out, rfl⟩, by simp [intOf]; omega⟩
          · have HV : Hid (Value.bool false = Value.bool ((sent.take (j + 1)).any fun y => Pst.fits y ⟨xf, xt, xd, xs⟩)) := Lib.hid (by rw [HA.out]; simp [ht])
            have ht2 : (yt == xt) = false := by simpa using ht
            subst hf
            go_quiet (fail)
            go_wp2_with fail
            exact ⟨⟨j + 1, m' + 1 + m1 + nq, by omega, by go_num, HV.out, rfl⟩, by simp [intOf]; omega⟩
        · have HV : Hid (Value.bool false = Value.bool ((sent.take (j + 1)).any fun y => Pst.fits y ⟨xf, xt, xd, xs⟩)) := Lib.hid (by rw [HA.out]; simp [hf])
          have hf2 : (yf == xf) = false := by simpa using hf
          go_quiet (fail)
          go_wp2_with fail
          exact ⟨⟨j + 1, m' + 1 + m1 + nq, by omega, by go_num, HV.out, rfl⟩, by simp [intOf]; omega⟩
      · have HV : Hid (Value.bool true = Value.bool ((sent.take (j + 1)).any fun y => Pst.fits y ⟨xf, xt, xd, xs⟩)) := Lib.hid (by rw [HA.out]; simp)
        go_quiet (fail)
        go_wp2_with fail
        exact ⟨⟨j + 1, m' + 1 + m1 + nq, by omega, by go_num, HV.out, rfl⟩, by simp [intOf]; omega⟩
    · obtain rfl : j = S := by omega
      rw [HGd.out]
      clear HYat HMore HFin HBase
      go_wp2_with fail
      exact ⟨⟨k + 1, m', by omega, by go_num, rfl⟩, by simp [intOf]; omega⟩
  · obtain rfl : k = N := by omega
    clear HXat HYat HMore HFin HBase
    go_wp2_with fail
    refine (awake_any _).mono ?_; rintro e w4 ⟨rfl, b4⟩
    have HB4 := Lib.hid (Lift.then2 (Lift.drewN_then HB3.out m) b4)
    clear b4
    go_wp2_with fail
    go_ret
    exact ⟨rfl, HB4.out⟩
end Go.Proofs.Ytkajnmlglgjocaa
