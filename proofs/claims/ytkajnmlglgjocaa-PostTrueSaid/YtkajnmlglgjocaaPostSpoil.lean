/-
  What Spoil returns.
  No condition but that the messages are no more than the form's reach, and what is mixed in is a byte.
-/
import Derived.Test.YtkajnmlglgjocaaPostRow
import Derived.OneCell
import Derived.WalkKit
import Derived.WalkSpells
import Derived.WalkLawsBesides
import Derived.Handy
import Derived.Deep.QuietTactic
import Derived.BigQuiet
import Derived.Deep.RegionWith
import Derived.Deep.RegionHeld3
import Derived.Deep.Draws
import Derived.Lib.Hide
import Derived.Lib.LazyBuf
namespace Go.Proofs.Ytkajnmlglgjocaa
open Go.RowKit


theorem spoil_is (p : Pst.P) (i a t : Int) (ht : 0 ≤ t ∧ t < 256) : (decide (0 ≤ i ∧ i < (p.m.length : Int)) = false ∧ Pst.at' p i = none ∧ Pst.spoil p i a t = (p, 5)) ∨
    ∃ (k : Nat) (m : Pst.Mail), i = k ∧ k < p.m.length ∧ p.m[k]? = some m ∧ decide (0 ≤ i ∧ i < (p.m.length : Int)) = true ∧
      ((a < 0 ∧ Pst.spoil p i a t = (p, 1)) ∨ (0 ≤ a ∧ (m.d.size : Int) ≤ a ∧ Pst.spoil p i a t = (p, 1)) ∨ (0 ≤ a ∧ a < m.d.size ∧ t = 0 ∧ Pst.spoil p i a t = (p, 1)) ∨
       (∃ b u : Nat, b < m.d.size ∧ 0 < u ∧ u < 256 ∧ a = b ∧ t = u ∧ m.s = true ∧ Pst.spoil p i a t = (p, 8)) ∨
       (∃ b u : Nat, b < m.d.size ∧ 0 < u ∧ u < 256 ∧ a = b ∧ t = u ∧ m.s = false ∧ Pst.spoil p i a t = (⟨p.m.set k ⟨m.f, m.t, Pst.turned m.d b u, true⟩, p.s⟩, 0))) := by
  unfold Pst.spoil
  rcases at_is p i with ⟨h1, h2⟩ | ⟨k, m, rfl, h1, h2, h3, h4⟩
  · rw [h1]; exact .inl ⟨h2, rfl, rfl⟩
  · rw [h3]
    refine .inr ⟨k, m, rfl, h1, h2, h4, ?_⟩
    by_cases ha : 0 ≤ a
    · by_cases hb : a < m.d.size
      · by_cases h0 : t = 0
        · exact .inr (.inr (.inl ⟨ha, hb, h0, by simp [h0]⟩))
        · have hc : (0 ≤ a ∧ a < (m.d.size : Int) ∧ t ≠ 0) := ⟨ha, hb, h0⟩
          simp only [if_pos hc]
          cases hs : m.s
          · refine .inr (.inr (.inr (.inr ⟨a.toNat, t.toNat, by omega, by omega, by omega, by omega, by omega, rfl, ?_⟩)))
            have : ((t.toNat : Nat) : Int) = t := by omega
            simp [this]
          · exact .inr (.inr (.inr (.inl ⟨a.toNat, t.toNat, by omega, by omega, by omega, by omega, by omega, rfl, by simp⟩)))
      · exact .inr (.inl ⟨ha, by omega, by simp; omega⟩)
    · exact .inl ⟨by omega, by simp; omega⟩

set_option maxRecDepth 100000 in
set_option maxHeartbeats 3200000 in
theorem spoil_any (A : Option Addr) (n c : Nat) (p : Pst.P) (i a t : Int) (w : World) (hn : p.m.length = n) (hl : n ≤ 5000000000000) (hi : mailLay.Reads w w.heap.size A p.m) (hA : A = none → p.m = []) (ht : 0 ≤ t ∧ t < 256) :
    Calls Try.prog 17 #[pv A n c p.s, .int .i64 i, .int .i64 a, .int .u8 t] w (IsPE (Pst.spoil p i a t) w) := by
  obtain ⟨HP0, HR0, HB0, hsz⟩ := made2 w 25 (pc A p.m.length c p.s) 25 (pc none 0 0 fun _ => 0)
  subst hn
  have HO := own_pre (c := c) rfl hl hi hA
  have HT := Lib.hid (spoil_is p i a t ht)
  clear hi hA ht
  unfold pv at HO ⊢
  go_enter Try.func17, Try.ntmps17
  go_wp2_with (refine wpList_lp rfl _ rfl HP0 rfl ?_)
  refine (HO.out _ HB0.out).mono ?_; rintro e w1 ⟨A1, c1, rfl, o1, b1⟩
  rw [hsz] at o1
  have HO1 := Lib.hid (o1.alloc (.cells (pc none 0 0 fun _ => 0) 25))
  have HB1 := Lib.hid ((Lift.then2 HB0.out b1).alloc (Lift.then2 HB0.out b1).size (.cells (pc none 0 0 fun _ => 0) 25))
  have HR1 := Lib.hid ((Blk.hb HR0 b1).out.alloc (.cells (pc none 0 0 fun _ => 0) 25))
  have HQ1 := Lib.hid (Blk.new w1 25 (pc none 0 0 fun _ => 0))
  have hs1 := b1.size
  rw [hsz] at hs1
  clear b1 o1 HO HP0 HR0 HB0 hsz
  go_wp2_with (refine wpList_sp rfl _ _ rfl HQ1 rfl rfl (Nat.le_trans (by omega) hs1 : w.heap.size ≤ w1.heap.size) ?_)
  intro w2 HS
  have HB2 := Lib.hid (below_turns HB1.out HS.out.turns (Nat.le_refl _))
  have HO2 := Lib.hid (HO1.out.turned ne_mp HS.out.turns)
  have HR2 := Lib.hid (HS.out.far HR1.out (by omega))
  have HQ2 := Lib.hid HS.out.blk
  have hs2 : w1.heap.size < w2.heap.size := by rw [HS.out.size]; simp
  clear HS HO1 HR1 HQ1 HB1
  rcases HT.out with ⟨hf, _, he⟩ | ⟨k, m, rfl, hk, hm, hf, hcs⟩
  · have HE := Lib.hid he
    have HH := has_pre _ _ _ hf
    unfold pv at HH
    clear he hf HT
    go_wp2_with (refine wpList_lp rfl _ rfl HQ2 rfl ?_)
    refine (HH.out _ _ _ _).mono ?_; rintro e w3 ⟨rfl, b3⟩
    have HB3 := Lib.hid (Lift.then2 HB2.out b3)
    have HO3 := Lib.hid (HO2.out.below b3)
    have HQ3 := Blk.hb HQ2 b3
    have HR3 := Blk.hb HR2 b3
    clear b3
    go_wp2_with (first | refine wpList_lp rfl _ rfl HQ3 rfl ?_ | refine wpList_sp rfl _ _ rfl HR3 rfl rfl (Nat.le_add_right w.heap.size 1) ?_)
    intro w4 HS
    go_wp2_with fail
    refine ret_pe Try.results17 rfl rfl rfl HS.out.blk ?_
    rw [HE.out]
    exact ⟨A1, c1, rfl, (HO3.out.turned ne_mp HS.out.turns).mono (by omega), below_turns HB3.out HS.out.turns (Nat.le_refl _)⟩
  · have HH := has_pre _ _ _ hf
    unfold pv at HH
    have hne : p.m ≠ [] := fun h => by rw [h] at hm; simp at hm
    obtain ⟨g, cg, hv, hlc, hgb, hgl, _⟩ := HO2.out.block hne
    injection hv with hv1 hv2 hv3
    subst hv1 hv3
    have hk1 : (0 : Int) ≤ (k : Int) := by omega
    have hk2 : (k : Int) < (p.m.length : Int) := by omega
    have HK := Lib.hid hk
    have HCs := Lib.hid hcs
    have HM := Lib.hid hm
    have hgq : g ≠ w1.heap.size := fun e => by
      obtain ⟨cur, hb, _⟩ := own_blk HO2.out
      rw [e] at hb
      have h2 := HQ2.out
      unfold Blk at hb h2
      rw [hb] at h2
      injection h2 with h2
      injection h2 with _ h3
      exact absurd h3 (by decide)
    clear hf HT hne hcs
    go_wp2_with (refine wpList_lp rfl _ rfl HQ2 rfl ?_)
    refine (HH.out _ _ _ _).mono ?_; rintro e w3 ⟨rfl, b3⟩
    have HB3 := Lib.hid (Lift.then2 HB2.out b3)
    have HO3 := Lib.hid (HO2.out.below b3)
    have HQ3 := Blk.hb HQ2 b3
    have HR3 := Blk.hb HR2 b3
    have hs3 := b3.size
    obtain ⟨q0, q1⟩ := Blk.one HQ3 0 (v := .slice (some ⟨g, 0, none⟩) p.m.length c1) rfl
    obtain ⟨m0, m1, m2, m3⟩ := own_at HO3.out hm
    obtain ⟨mf, mt, md, ms⟩ := m
    simp only at m0 m1 m2 m3 HCs
    have HM4 : Hid (Blk (w3.alloc (.cells #[.int .i64 mf, .int .i64 mt, .string md, .bool ms] 27)) w3.heap.size 27 (mc ⟨mf, mt, md, ms⟩)) := Lib.hid (Blk.new w3 _ _)
    have HQ4 := Lib.hid (HQ3.out.alloc (.cells #[.int .i64 mf, .int .i64 mt, .string md, .bool ms] 27))
    have HR4 := Lib.hid (HR3.out.alloc (.cells #[.int .i64 mf, .int .i64 mt, .string md, .bool ms] 27))
    have HB4 := Lib.hid (HB3.out.alloc HB3.out.size (.cells #[.int .i64 mf, .int .i64 mt, .string md, .bool ms] 27))
    have HO4 := Lib.hid (HO3.out.alloc (.cells #[.int .i64 mf, .int .i64 mt, .string md, .bool ms] 27))
    clear b3 hm hk
    rcases HCs.out with ⟨ha, he⟩ | ⟨ha, hb, he⟩ | ⟨ha, hb, h0, he⟩ | ⟨b, u, hb, hu, hu2, ea, eu, hs, he⟩ | ⟨b, u, hb, hu, hu2, ea, eu, hs, he⟩
    all_goals (have HE := Lib.hid he; clear he HCs)
    · go_wp2_with (first | refine wpList_lp rfl _ rfl HQ4 rfl ?_ | refine wpList_sp rfl _ _ rfl HR4 rfl rfl (Nat.le_add_right w.heap.size 1) ?_)
      intro w4 HS
      go_wp2_with fail
      refine ret_pe Try.results17 rfl rfl rfl HS.out.blk ?_
      rw [HE.out]
      exact ⟨_, _, rfl, (HO4.out.turned ne_mp HS.out.turns).mono (by omega), below_turns HB4.out HS.out.turns (Nat.le_refl _)⟩
    · go_wp2_with (first | refine wpList_lp rfl _ rfl HQ4 rfl ?_ | refine wpList_sp rfl _ _ rfl HR4 rfl rfl (Nat.le_add_right w.heap.size 1) ?_)
      intro w4 HS
      go_wp2_with fail
      refine ret_pe Try.results17 rfl rfl rfl HS.out.blk ?_
      rw [HE.out]
      exact ⟨_, _, rfl, (HO4.out.turned ne_mp HS.out.turns).mono (by omega), below_turns HB4.out HS.out.turns (Nat.le_refl _)⟩
    · subst h0
      go_wp2_with (first | refine wpList_lp rfl _ rfl HQ4 rfl ?_ | refine wpList_sp rfl _ _ rfl HR4 rfl rfl (Nat.le_add_right w.heap.size 1) ?_)
      intro w4 HS
      go_wp2_with fail
      refine ret_pe Try.results17 rfl rfl rfl HS.out.blk ?_
      rw [HE.out]
      exact ⟨_, _, rfl, (HO4.out.turned ne_mp HS.out.turns).mono (by omega), below_turns HB4.out HS.out.turns (Nat.le_refl _)⟩
    · subst ea eu
      subst hs
      have ha1 : (0 : Int) ≤ (b : Int) := by omega
      have ha2 : (b : Int) < (md.size : Int) := by omega
      have hu1 : ((u : Int) == 0) = false := by simp; omega
      go_wp2_with (first | refine wpList_lp rfl _ rfl HQ4 rfl ?_ | refine wpList_sp rfl _ _ rfl HR4 rfl rfl (Nat.le_add_right w.heap.size 1) ?_)
      intro w4 HS
      go_wp2_with fail
      refine ret_pe Try.results17 rfl rfl rfl HS.out.blk ?_
      rw [HE.out]
      exact ⟨_, _, rfl, (HO4.out.turned ne_mp HS.out.turns).mono (by omega), below_turns HB4.out HS.out.turns (Nat.le_refl _)⟩
    · subst ea eu
      subst hs
      have ha1 : (0 : Int) ≤ (b : Int) := by omega
      have ha2 : (b : Int) < (md.size : Int) := by omega
      have hu1 : ((u : Int) == 0) = false := by simp; omega
      have hs4 : (w3.alloc (.cells #[.int .i64 mf, .int .i64 mt, .string md, .bool false] 27)).heap.size = w3.heap.size + 1 := by simp
      go_wp2_with (refine wpList_bytes rfl _ rfl rfl ?_)
      intro w5 cb HOw HBy0 _
      have HBy : Hid (Below (w3.alloc (.cells #[.int .i64 mf, .int .i64 mt, .string md, .bool false] 27)).heap.size (w3.alloc (.cells #[.int .i64 mf, .int .i64 mt, .string md, .bool false] 27)) w5) := Lib.hid (by rw [hs4]; exact HBy0.out)
      have HM5 := Blk.hb HM4 HBy.out
      have HQ5 := Blk.hb HQ4 HBy.out
      have HR5 := Blk.hb HR4 HBy.out
      have HO5 := Lib.hid (HO4.out.below HBy.out)
      have HB5 := Lib.hid (Lift.then2 HB4.out HBy.out)
      have hlen : md.data.toList.length = md.size := by rw [Array.length_toList]; rfl
      obtain ⟨y0, y1⟩ := HOw.out b (by rw [hlen]; exact hb)
      have HT0 : Hid ((⟨((md.data.toList.set b (md.data.toList.getD b 0 ^^^ UInt8.ofNat u)).drop 0).toArray⟩ : ByteArray) = Pst.turned md b u) := Lib.hid (by unfold Pst.turned Val.of; simp)
      have HOw6 := Lib.hid (HOw.out.set b (by rw [hlen]; exact hb) (md.data.toList.getD b 0 ^^^ UInt8.ofNat u) _ (xor_byte _ u hu2))
      have hcv := HOw6.out.text 0 cb md.size (by rw [List.length_set, hlen]; simp)
      rw [HT0.out] at hcv
      generalize Pst.turned md b u = T' at *
      obtain ⟨x2, z2⟩ := Blk.one HM5 2 (v := .string md) rfl
      obtain ⟨x3, z3⟩ := Blk.one HM5 3 (v := .bool false) rfl
      obtain ⟨q0, q1⟩ := Blk.one HQ5 0 (v := .slice (some ⟨g, 0, none⟩) p.m.length c1) rfl
      have hd1 : w1.heap.size ≠ w3.heap.size := by omega
      have hd2 : w1.heap.size ≠ w3.heap.size + 1 := by omega
      have hd3 : w.heap.size + 1 ≠ w3.heap.size := by omega
      have hd4 : w.heap.size + 1 ≠ w3.heap.size + 1 := by omega
      have hd5 : g ≠ w3.heap.size := by omega
      have hd6 : g ≠ w3.heap.size + 1 := by omega
      have HM7 : Hid (Blk (((w5.setCell ⟨w3.heap.size + 1, b, none⟩ (.int .u8 (bits .xor .u8 ((md.data.toList.getD b 0).toNat : Int) (u : Int)))).setCell ⟨w3.heap.size, 2, none⟩ (.string T')).setCell ⟨w3.heap.size, 3, none⟩ (.bool true)) w3.heap.size 27 (mc ⟨mf, mt, T', true⟩)) :=
        Lib.hid (((HM5.out.far (p := ⟨w3.heap.size + 1, b, none⟩) (by simp) _).set_ 2 (.string T')).set_ 3 (.bool true))
      have HQ7 := Lib.hid (((HQ5.out.far (p := ⟨w3.heap.size + 1, b, none⟩) hd2 (.int .u8 (bits .xor .u8 ((md.data.toList.getD b 0).toNat : Int) (u : Int)))).far (p := ⟨w3.heap.size, 2, none⟩) hd1 (.string T')).far (p := ⟨w3.heap.size, 3, none⟩) hd1 (.bool true))
      have HR7 := Lib.hid (((HR5.out.far (p := ⟨w3.heap.size + 1, b, none⟩) hd4 (.int .u8 (bits .xor .u8 ((md.data.toList.getD b 0).toNat : Int) (u : Int)))).far (p := ⟨w3.heap.size, 2, none⟩) hd3 (.string T')).far (p := ⟨w3.heap.size, 3, none⟩) hd3 (.bool true))
      have HB7 := Lib.hid (((HB5.out.setCell (p := ⟨w3.heap.size + 1, b, none⟩) (by show w.heap.size ≤ w3.heap.size + 1; omega) (.int .u8 (bits .xor .u8 ((md.data.toList.getD b 0).toNat : Int) (u : Int)))).setCell (p := ⟨w3.heap.size, 2, none⟩) (by show w.heap.size ≤ w3.heap.size; omega) (.string T')).setCell (p := ⟨w3.heap.size, 3, none⟩) (by show w.heap.size ≤ w3.heap.size; omega) (.bool true))
      have HO7 : Hid (mailLay.Own (w.heap.size + 2) (((w5.setCell ⟨w3.heap.size + 1, b, none⟩ (.int .u8 (bits .xor .u8 ((md.data.toList.getD b 0).toNat : Int) (u : Int)))).setCell ⟨w3.heap.size, 2, none⟩ (.string T')).setCell ⟨w3.heap.size, 3, none⟩ (.bool true)) (.slice (some ⟨g, 0, none⟩) p.m.length c1) p.m) :=
        Lib.hid (ownsRow_setCell_other (ownsRow_setCell_other (ownsRow_setCell_other HO5.out (by simpa [Value.ownBlock] using hd6) _) (by simpa [Value.ownBlock] using hd5) _) (by simpa [Value.ownBlock] using hd5) _)
      generalize (md.data.toList.getD b 0).toNat = xb at *
      clear HOw HOw6 HBy HBy0 HM4 HQ4 HR4 HB4 HO4 HM5 HQ5 HR5 HO5 HB5 hlen HT0
      go_wp2_with (first | refine wpList_lm rfl _ rfl HM7 rfl ?_ | refine wpList_srow rfl _ _ rfl ⟨mf, mt, T', true⟩ HO7 HK rfl rfl ?_)
      intro w8 HS8
      have HQ8 := Lib.hid (HS8.out.far HQ7.out (Ne.symm hgq))
      have HR8 := Lib.hid (HS8.out.far HR7.out (by omega))
      have HB8 := Lib.hid (below_turns HB7.out HS8.out.turns (Nat.le_add_right w.heap.size 2))
      have HO8 := Lib.hid HS8.out.own
      clear HS8 HQ7 HR7 HB7 HO7 HM7
      go_wp2_with (first | refine wpList_lp rfl _ rfl HQ8 rfl ?_ | refine wpList_sp rfl _ _ rfl HR8 rfl rfl (Nat.le_add_right w.heap.size 1) ?_)
      intro w9 HS
      go_wp2_with fail
      refine ret_pe Try.results17 rfl rfl rfl HS.out.blk ?_
      rw [HE.out]
      unfold IsPE
      dsimp only
      rw [List.length_set]
      exact ⟨_, _, rfl, (HO8.out.turned ne_mp HS.out.turns).mono (by omega), below_turns HB8.out HS.out.turns (Nat.le_refl _)⟩
end Go.Proofs.Ytkajnmlglgjocaa
