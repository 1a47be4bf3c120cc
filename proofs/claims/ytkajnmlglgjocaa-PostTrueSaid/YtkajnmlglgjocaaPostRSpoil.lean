/-
  What the document's Spoil returns.
  No condition but that the messages are no more than the form's reach, and what is mixed in is a byte.
-/
import Derived.Test.YtkajnmlglgjocaaPostSpoil
import Derived.WalkKit
import Derived.WalkSpells
import Derived.WalkLawsBesides
import Derived.Handy
import Derived.Deep.QuietTactic
import Derived.BigQuiet
import Derived.Deep.RegionWith
import Derived.Deep.RegionHeld3
import Derived.Deep.Draws
import Derived.Lib.Hide
import Derived.Lib.LazyBuf
namespace Go.Proofs.Ytkajnmlglgjocaa
open Go.RowKit


theorem cells_later {w W : World} {b q : Nat} {m : Pst.Mail} (hb : b < w.heap.size) (h : w.cell? ⟨b, q, none⟩ = some (.int .i64 m.f) ∧ w.cell? ⟨b, q + 1, none⟩ = some (.int .i64 m.t) ∧ w.cell? ⟨b, q + 2, none⟩ = some (.string m.d) ∧ w.cell? ⟨b, q + 3, none⟩ = some (.bool m.s)) (hB : Below w.heap.size w W) :
    W.cell? ⟨b, q + 2, none⟩ = some (.string m.d) ∧ W.cell? ⟨b, q + 3, none⟩ = some (.bool m.s) := ⟨(hB.cell (by exact hb)).trans h.2.2.1, (hB.cell (by exact hb)).trans h.2.2.2⟩
set_option maxRecDepth 100000 in
set_option maxHeartbeats 3200000 in
theorem rspoil_any (A : Option Addr) (c : Nat) (p : Pst.P) (i a t : Int) (w : World) (hl : p.m.length ≤ 5000000000000) (hi : mailLay.Reads w w.heap.size A p.m) (hA : A = none → p.m = []) (hcap : p.m.length ≤ c) (ht : 0 ≤ t ∧ t < 256) :
    Calls Try.prog 23 #[pv A p.m.length c p.s, .int .i64 i, .int .i64 a, .int .u8 t] w (IsPX A c p.m (Pst.spoil p i a t) w) := by
  obtain ⟨HP0, HR0, HB0, hsz⟩ := made2 w 25 (pc A p.m.length c p.s) 25 (pc none 0 0 fun _ => 0)
  have HI := Lib.hid (fun W (hW : Below w.heap.size w W) => hi.later hW (Nat.le_refl _))
  have HA := Lib.hid hA
  have HCap := Lib.hid hcap
  have HW := with_pre (c := c) rfl hl hi hA
  have hpc : (pc A p.m.length c p.s)[0]? = some (.slice A p.m.length c) := rfl
  unfold pv at HW ⊢
  rcases spoil_is p i a t ht with ⟨hf, _, he⟩ | ⟨k, m, rfl, hk, hm, _, hcs⟩
  · have HE := Lib.hid he
    rw [decide_eq_false_iff_not] at hf
    have hf2 : i < 0 ∨ (0 ≤ i ∧ (p.m.length : Int) ≤ i) := by omega
    clear he hf hi hA hcap ht
    rcases hf2 with hf | ⟨hf, hf2⟩
    all_goals
      go_enter Try.func23, Try.ntmps23
      go_wp2_with (first | refine wpList_lp rfl _ rfl HP0 rfl ?_ | refine wpList_sp rfl _ _ rfl HR0 rfl rfl (Nat.le_add_right w.heap.size 1) ?_)
      intro w2 HS
      have HB1 := Lib.hid (below_turns HB0.out HS.out.turns (Nat.le_refl _))
      go_wp2_with fail
      refine ret_pe Try.results23 rfl rfl rfl HS.out.blk ?_
      rw [HE.out]
      exact ⟨A, c, rfl, .inr ⟨rfl, rfl, rfl⟩, HB1.out⟩
  · obtain ⟨b0, o0, rfl, hb0, hc0⟩ := hi (by omega)
    obtain ⟨x2, x3⟩ := cells_later hb0 (at_mail (hc0 k m hm)) HB0.out
    have hk1 : (0 : Int) ≤ (k : Int) := by omega
    have hk2 : (k : Int) < (p.m.length : Int) := by omega
    have hw0 : b0 ≠ w.heap.size := by omega
    have hw1 : b0 ≠ w.heap.size + 1 := by omega
    have HM := Lib.hid hm
    have hne : p.m ≠ [] := fun h => by rw [h] at hm; simp at hm
    obtain ⟨mf, mt, md, ms⟩ := m
    simp only at x2 x3 hcs
    have y2 : w.cell? ⟨b0, o0 + k * 4 + 2, none⟩ = some (.string md) := (at_mail (hc0 k _ hm)).2.2.1
    have y3 : w.cell? ⟨b0, o0 + k * 4 + 3, none⟩ = some (.bool ms) := (at_mail (hc0 k _ hm)).2.2.2
    clear hm hi hc0 hA hcap ht
    rcases hcs with ⟨ha, he⟩ | ⟨ha, hb, he⟩ | ⟨ha, hb, h0, he⟩ | ⟨b, u, hb, hu, hu2, ea, eu, hs, he⟩ | ⟨b, u, hb, hu, hu2, ea, eu, hs, he⟩
    all_goals (have HE := Lib.hid he; clear he)
    · go_enter Try.func23, Try.ntmps23
      go_wp2_with (first | refine wpList_lp rfl _ rfl HP0 rfl ?_ | refine wpList_sp rfl _ _ rfl HR0 rfl rfl (Nat.le_add_right w.heap.size 1) ?_)
      intro w2 HS
      have HB1 := Lib.hid (below_turns HB0.out HS.out.turns (Nat.le_refl _))
      go_wp2_with fail
      refine ret_pe Try.results23 rfl rfl rfl HS.out.blk ?_
      rw [HE.out]
      exact ⟨_, c, rfl, .inr ⟨rfl, rfl, rfl⟩, HB1.out⟩
    · go_enter Try.func23, Try.ntmps23
      go_wp2_with (first | refine wpList_lp rfl _ rfl HP0 rfl ?_ | refine wpList_sp rfl _ _ rfl HR0 rfl rfl (Nat.le_add_right w.heap.size 1) ?_)
      intro w2 HS
      have HB1 := Lib.hid (below_turns HB0.out HS.out.turns (Nat.le_refl _))
      go_wp2_with fail
      refine ret_pe Try.results23 rfl rfl rfl HS.out.blk ?_
      rw [HE.out]
      exact ⟨_, c, rfl, .inr ⟨rfl, rfl, rfl⟩, HB1.out⟩
    · subst h0
      go_enter Try.func23, Try.ntmps23
      go_wp2_with (first | refine wpList_lp rfl _ rfl HP0 rfl ?_ | refine wpList_sp rfl _ _ rfl HR0 rfl rfl (Nat.le_add_right w.heap.size 1) ?_)
      intro w2 HS
      have HB1 := Lib.hid (below_turns HB0.out HS.out.turns (Nat.le_refl _))
      go_wp2_with fail
      refine ret_pe Try.results23 rfl rfl rfl HS.out.blk ?_
      rw [HE.out]
      exact ⟨_, c, rfl, .inr ⟨rfl, rfl, rfl⟩, HB1.out⟩
    · subst ea eu
      subst hs
      have ha1 : (0 : Int) ≤ (b : Int) := by omega
      have ha2 : (b : Int) < (md.size : Int) := by omega
      have hu1 : ((u : Int) == 0) = false := by simp; omega
      go_enter Try.func23, Try.ntmps23
      go_wp2_with (first | refine wpList_lp rfl _ rfl HP0 rfl ?_ | refine wpList_sp rfl _ _ rfl HR0 rfl rfl (Nat.le_add_right w.heap.size 1) ?_)
      intro w2 HS
      have HB1 := Lib.hid (below_turns HB0.out HS.out.turns (Nat.le_refl _))
      go_wp2_with fail
      refine ret_pe Try.results23 rfl rfl rfl HS.out.blk ?_
      rw [HE.out]
      exact ⟨_, c, rfl, .inr ⟨rfl, rfl, rfl⟩, HB1.out⟩
    · subst ea eu
      subst hs
      have ha1 : (0 : Int) ≤ (b : Int) := by omega
      have ha2 : (b : Int) < (md.size : Int) := by omega
      have hu1 : ((u : Int) == 0) = false := by simp; omega
      go_enter Try.func23, Try.ntmps23
      go_wp2_with (refine wpList_lp rfl _ rfl HP0 rfl ?_)
      refine (HW.out _ HB0.out).mono ?_; rintro e w1 ⟨A1, c1, rfl, o1, b1⟩
      rw [hsz] at o1
      have HB1 := Lib.hid (Lift.then2 HB0.out b1)
      have HP1 := Blk.hb HP0 b1
      have HR1 := Blk.hb HR0 b1
      have hs1 := b1.size
      rw [hsz] at hs1
      obtain ⟨g, cg, hv, hlc, hgb, hgl, _⟩ := o1.block hne
      injection hv with hv1 hv2 hv3
      subst hv1 hv3
      have HO1 := Lib.hid o1
      clear o1 b1 HP0 HR0 HB0 HW hpc hsz hne x2 x3 y2 y3
      go_wp2_with (refine wpList_sp rfl _ _ rfl HP1 rfl rfl (Nat.le_refl w.heap.size) ?_)
      intro w2 HS
      have hs2 : w2.heap.size = w1.heap.size := HS.out.size
      have HO2 := Lib.hid (HO1.out.turned ne_mp HS.out.turns)
      have HP2 := Lib.hid HS.out.blk
      have HR2 := Lib.hid (HS.out.far HR1.out (by omega))
      have HB2 := Lib.hid (below_turns HB1.out HS.out.turns (Nat.le_refl _))
      obtain ⟨m0, m1, m2, m3⟩ := own_at HO2.out HM.out
      obtain ⟨q0, q1⟩ := Blk.one HP2 0 (v := .slice (some ⟨g, 0, none⟩) p.m.length c1) rfl
      simp only at m2 m3
      have hgl2 : g < w2.heap.size := by omega
      have hsb : w.heap.size + 2 ≤ w2.heap.size := by omega
      clear HS HO1 HR1 HP1 HB1 m0 m1 hs2 hgl
      go_wp2_with (refine wpList_bytes rfl _ rfl rfl ?_)
      intro w3 cb HOw HBy _
      have HP3 := Blk.hb HP2 HBy.out
      have HR3 := Blk.hb HR2 HBy.out
      have HO3 := Lib.hid (HO2.out.below HBy.out)
      have HB3 := Lib.hid (Lift.then2 HB2.out HBy.out)
      have hlen : md.data.toList.length = md.size := by rw [Array.length_toList]; rfl
      obtain ⟨y0, y1⟩ := HOw.out b (by rw [hlen]; exact hb)
      have HT0 : Hid ((⟨((md.data.toList.set b (md.data.toList.getD b 0 ^^^ UInt8.ofNat u)).drop 0).toArray⟩ : ByteArray) = Pst.turned md b u) := Lib.hid (by unfold Pst.turned Val.of; simp)
      have HOw6 := Lib.hid (HOw.out.set b (by rw [hlen]; exact hb) (md.data.toList.getD b 0 ^^^ UInt8.ofNat u) _ (xor_byte _ u hu2))
      have hcv := HOw6.out.text 0 cb md.size (by rw [List.length_set, hlen]; simp)
      rw [HT0.out] at hcv
      generalize Pst.turned md b u = T' at *
      obtain ⟨m0, m1, n2, n3⟩ := own_at HO3.out HM.out
      obtain ⟨cur, hbk, _⟩ := own_blk HO3.out
      have f2 := hbk.frozen (k * 4 + 2)
      have f3 := hbk.frozen (k * 4 + 3)
      simp only at n2 n3
      clear m0 m1 m2 m3 hbk
      obtain ⟨q0, q1⟩ := Blk.one HP3 0 (v := .slice (some ⟨g, 0, none⟩) p.m.length c1) rfl
      have hd1 : w.heap.size ≠ g := by omega
      have hd2 : w.heap.size ≠ w2.heap.size := by omega
      have hd3 : w.heap.size + 1 ≠ g := by omega
      have hd4 : w.heap.size + 1 ≠ w2.heap.size := by omega
      have hd5 : g ≠ w2.heap.size := by omega
      have HP6 := Lib.hid (((HP3.out.far (p := ⟨w2.heap.size, b, none⟩) hd2 (.int .u8 (bits .xor .u8 ((md.data.toList.getD b 0).toNat : Int) (u : Int)))).far (p := ⟨g, k * 4 + 2, none⟩) hd1 (.string T')).far (p := ⟨g, k * 4 + 3, none⟩) hd1 (.bool true))
      have HR6 := Lib.hid (((HR3.out.far (p := ⟨w2.heap.size, b, none⟩) hd4 (.int .u8 (bits .xor .u8 ((md.data.toList.getD b 0).toNat : Int) (u : Int)))).far (p := ⟨g, k * 4 + 2, none⟩) hd3 (.string T')).far (p := ⟨g, k * 4 + 3, none⟩) hd3 (.bool true))
      have HB6 := Lib.hid (((HB3.out.setCell (p := ⟨w2.heap.size, b, none⟩) (by show w.heap.size ≤ w2.heap.size; omega) (.int .u8 (bits .xor .u8 ((md.data.toList.getD b 0).toNat : Int) (u : Int)))).setCell (p := ⟨g, k * 4 + 2, none⟩) (by show w.heap.size ≤ g; omega) (.string T')).setCell (p := ⟨g, k * 4 + 3, none⟩) (by show w.heap.size ≤ g; omega) (.bool true))
      have HO4 : Hid (mailLay.Own (w.heap.size + 2) (w3.setCell ⟨w2.heap.size, b, none⟩ (.int .u8 (bits .xor .u8 ((md.data.toList.getD b 0).toNat : Int) (u : Int)))) (.slice (some ⟨g, 0, none⟩) p.m.length c1) p.m) := Lib.hid (ownsRow_setCell_other HO3.out (by simpa [Value.ownBlock] using hd5) _)
      have HO6 := Lib.hid (Lay.Own.put2 HO4.out HM.out T' true)
      generalize (md.data.toList.getD b 0).toNat = xb at *
      clear HOw HOw6 HBy HP2 HR2 HB2 HO2 HP3 HR3 HO3 HB3 HO4 hlen HT0
      go_wp2_with (first | refine wpList_lp rfl _ rfl HP6 rfl ?_ | refine wpList_sp rfl _ _ rfl HR6 rfl rfl (Nat.le_add_right w.heap.size 1) ?_)
      intro w7 HS
      go_wp2_with fail
      refine ret_pe Try.results23 rfl rfl rfl HS.out.blk ?_
      rw [HE.out]
      refine IsPE.px ?_
      unfold IsPE
      dsimp only
      rw [List.length_set]
      exact ⟨_, _, rfl, (HO6.out.turned ne_mp HS.out.turns).mono (by omega), below_turns HB6.out HS.out.turns (Nat.le_refl _)⟩
end Go.Proofs.Ytkajnmlglgjocaa
