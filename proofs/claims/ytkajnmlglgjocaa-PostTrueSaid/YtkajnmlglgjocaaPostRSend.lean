/-
  What the document's Send returns.
  No condition but that the messages are no more than the form's reach.
-/
import Derived.Test.YtkajnmlglgjocaaPostSend
import Derived.WalkKit
import Derived.WalkSpells
import Derived.WalkLawsBesides
import Derived.Handy
import Derived.Deep.QuietTactic
import Derived.BigQuiet
import Derived.Deep.RegionWith
import Derived.Deep.RegionHeld3
import Derived.Deep.Draws
import Derived.Lib.Hide
import Derived.Lib.LazyBuf
namespace Go.Proofs.Ytkajnmlglgjocaa
open Go.RowKit


theorem rsend_is (p : Pst.P) (m : Pst.Mail) : (Pst.place m.f = false ∧ Pst.send p m = (p, 1)) ∨ (Pst.place m.f = true ∧ Pst.place m.t = false ∧ Pst.send p m = (p, 1)) ∨
    (Pst.place m.f = true ∧ Pst.place m.t = true ∧ (16392 : Int) < m.d.size ∧ Pst.send p m = (p, 2)) ∨ (Pst.place m.f = true ∧ Pst.place m.t = true ∧ (m.d.size : Int) ≤ 16392 ∧ (2048 : Int) ≤ p.m.length ∧ Pst.send p m = (p, 6)) ∨
    (Pst.place m.f = true ∧ Pst.place m.t = true ∧ (m.d.size : Int) ≤ 16392 ∧ (p.m.length : Int) < 2048 ∧ Pst.send p m = (⟨p.m ++ [⟨m.f, m.t, m.d, false⟩], p.s⟩, 0)) := by
  rcases send_is p m with h | h | h | ⟨h1, h2, h3, h4⟩
  · exact .inl h
  · exact .inr (.inl h)
  · exact .inr (.inr (.inl h))
  · unfold Pst.put at h4
    by_cases h5 : 2048 ≤ p.m.length
    · rw [if_pos h5] at h4
      exact .inr (.inr (.inr (.inl ⟨h1, h2, h3, by omega, h4⟩)))
    · rw [if_neg h5] at h4
      exact .inr (.inr (.inr (.inr ⟨h1, h2, h3, by omega, h4⟩)))

set_option maxRecDepth 100000 in
set_option maxHeartbeats 3200000 in
theorem rsend_any (A : Option Addr) (c : Nat) (p : Pst.P) (m : Pst.Mail) (w : World) (hl : p.m.length ≤ 5000000000000) (hi : mailLay.Reads w w.heap.size A p.m) (hA : A = none → p.m = []) (_hcap : p.m.length ≤ c) :
    Calls Try.prog 19 #[pv A p.m.length c p.s, mailV m] w (IsPX A c p.m (Pst.send p m) w) := by
  obtain ⟨HP0, HM0, HR0, HB0, hsz⟩ := made3 w 25 (pc A p.m.length c p.s) 27 (mc m) 25 (pc none 0 0 fun _ => 0)
  have HW := with_pre (c := c) rfl hl hi hA
  have HI := Lib.hid (fun W (hW : Below w.heap.size w W) => hi.later hW (Nat.le_refl _))
  have HA := Lib.hid hA
  obtain ⟨x0, y0⟩ := Blk.one HM0 0 (v := .int .i64 m.f) rfl
  obtain ⟨x1, y1⟩ := Blk.one HM0 1 (v := .int .i64 m.t) rfl
  obtain ⟨x2, y2⟩ := Blk.one HM0 2 (v := .string m.d) rfl
  have hpc : (pc A p.m.length c p.s)[0]? = some (.slice A p.m.length c) := rfl
  clear hi hA
  unfold mailV
  unfold pv at HW ⊢
  rcases rsend_is p m with ⟨hf, he⟩ | ⟨hf, ht, he⟩ | ⟨hf, ht, hz, he⟩ | ⟨hf, ht, hz, hq, he⟩ | ⟨hf, ht, hz, hq, he⟩
  · have HE := Lib.hid he
    have HF := rplace_pre _ _ hf
    clear hf he
    go_enter Try.func19, Try.ntmps19
    go_wp2_with fail
    refine (HF.out _).mono ?_; rintro e w1 ⟨rfl, rfl⟩
    go_wp2_with (first | refine wpList_lp rfl _ rfl HP0 rfl ?_ | refine wpList_sp rfl _ _ rfl HR0 rfl rfl (Nat.le_add_right w.heap.size 2) ?_)
    intro w2 HS
    have HB1 := Lib.hid (below_turns HB0.out HS.out.turns (Nat.le_refl _))
    go_wp2_with fail
    refine ret_pe Try.results19 rfl rfl rfl HS.out.blk ?_
    rw [HE.out]
    exact ⟨A, c, rfl, .inr ⟨rfl, rfl, rfl⟩, HB1.out⟩
  · have HE := Lib.hid he
    have HF := rplace_pre _ _ hf
    have HT := rplace_pre _ _ ht
    clear hf ht he
    go_enter Try.func19, Try.ntmps19
    go_wp2_with fail
    refine (HF.out _).mono ?_; rintro e w1 ⟨rfl, rfl⟩
    go_wp2_with fail
    refine (HT.out _).mono ?_; rintro e w1 ⟨rfl, rfl⟩
    go_wp2_with (first | refine wpList_lp rfl _ rfl HP0 rfl ?_ | refine wpList_sp rfl _ _ rfl HR0 rfl rfl (Nat.le_add_right w.heap.size 2) ?_)
    intro w2 HS
    have HB1 := Lib.hid (below_turns HB0.out HS.out.turns (Nat.le_refl _))
    go_wp2_with fail
    refine ret_pe Try.results19 rfl rfl rfl HS.out.blk ?_
    rw [HE.out]
    exact ⟨A, c, rfl, .inr ⟨rfl, rfl, rfl⟩, HB1.out⟩
  · have HE := Lib.hid he
    have HF := rplace_pre _ _ hf
    have HT := rplace_pre _ _ ht
    clear hf ht he
    go_enter Try.func19, Try.ntmps19
    go_wp2_with fail
    refine (HF.out _).mono ?_; rintro e w1 ⟨rfl, rfl⟩
    go_wp2_with fail
    refine (HT.out _).mono ?_; rintro e w1 ⟨rfl, rfl⟩
    go_wp2_with (first | refine wpList_lp rfl _ rfl HP0 rfl ?_ | refine wpList_sp rfl _ _ rfl HR0 rfl rfl (Nat.le_add_right w.heap.size 2) ?_)
    intro w2 HS
    have HB1 := Lib.hid (below_turns HB0.out HS.out.turns (Nat.le_refl _))
    go_wp2_with fail
    refine ret_pe Try.results19 rfl rfl rfl HS.out.blk ?_
    rw [HE.out]
    exact ⟨A, c, rfl, .inr ⟨rfl, rfl, rfl⟩, HB1.out⟩
  · have HE := Lib.hid he
    have HF := rplace_pre _ _ hf
    have HT := rplace_pre _ _ ht
    clear hf ht he
    go_enter Try.func19, Try.ntmps19
    go_wp2_with fail
    refine (HF.out _).mono ?_; rintro e w1 ⟨rfl, rfl⟩
    go_wp2_with fail
    refine (HT.out _).mono ?_; rintro e w1 ⟨rfl, rfl⟩
    go_wp2_with (first | refine wpList_lp rfl _ rfl HP0 rfl ?_ | refine wpList_sp rfl _ _ rfl HR0 rfl rfl (Nat.le_add_right w.heap.size 2) ?_)
    intro w2 HS
    have HB1 := Lib.hid (below_turns HB0.out HS.out.turns (Nat.le_refl _))
    go_wp2_with fail
    refine ret_pe Try.results19 rfl rfl rfl HS.out.blk ?_
    rw [HE.out]
    exact ⟨A, c, rfl, .inr ⟨rfl, rfl, rfl⟩, HB1.out⟩
  · have HE := Lib.hid he
    have HF := rplace_pre _ _ hf
    have HT := rplace_pre _ _ ht
    clear hf ht he
    go_enter Try.func19, Try.ntmps19
    go_wp2_with fail
    refine (HF.out _).mono ?_; rintro e w1 ⟨rfl, rfl⟩
    go_wp2_with fail
    refine (HT.out _).mono ?_; rintro e w1 ⟨rfl, rfl⟩
    go_wp2_with (refine wpList_lp rfl _ rfl HP0 rfl ?_)
    refine (HW.out _ HB0.out).mono ?_; rintro e w1 ⟨A1, c1, rfl, o1, b1⟩
    rw [hsz] at o1
    have HO1 := Lib.hid o1
    have HB1 := Lib.hid (Lift.then2 HB0.out b1)
    have HP1 := Blk.hb HP0 b1
    have HR1 := Blk.hb HR0 b1
    have HM1 := Blk.hb HM0 b1
    have hs1 := b1.size
    rw [hsz] at hs1
    clear b1 o1 x0 x1 x2 y0 y1 y2
    go_wp2_with (refine wpList_sp rfl _ _ rfl HP1 rfl rfl (Nat.le_refl w.heap.size) ?_)
    intro w2 HS
    have hw2 := HS.out.size
    have HB2 := Lib.hid (below_turns HB1.out HS.out.turns (Nat.le_refl _))
    have HO2 := Lib.hid ((HO1.out.turned ne_mp HS.out.turns).low (by omega : w.heap.size + 1 < w.heap.size + 3) 3 (.bool false))
    have HP2 := Lib.hid HS.out.blk
    have HM2 := Lib.hid (HM1.out.turned HS.out.turns (by decide))
    have HR2 := Lib.hid (HS.out.far HR1.out (by omega))
    obtain ⟨x3, y3⟩ := Blk.one HM2 3 (v := .bool m.s) rfl
    obtain ⟨z0, z1⟩ := Blk.one HP2 0 (v := .slice A1 p.m.length c1) rfl
    have HM3 : Hid (Blk _ (w.heap.size + 1) 27 (mc ⟨m.f, m.t, m.d, false⟩)) := Lib.hid (HM2.out.set_ 3 (.bool false))
    have HP3 := Lib.hid (HP2.out.far (p := ⟨w.heap.size + 1, 3, none⟩) (by simp) (.bool false))
    have HR3 := Lib.hid (HR2.out.far (p := ⟨w.heap.size + 1, 3, none⟩) (by simp) (.bool false))
    have HB3 := Lib.hid (HB2.out.setCell (p := ⟨w.heap.size + 1, 3, none⟩) (by simp) (.bool false))
    have hs3 : w.heap.size + 3 ≤ w2.heap.size := by omega
    clear HS HM2 HR2 HP2 HB2 HO1 HB1 HP1 HR1 HM1 hw2
    go_wp2_with (first | (at_builtin; refine mailLay.wpList_push rfl (.tmp 34) (.tmp 36) rfl (w.heap.size + 3) (w2.setCell ⟨w.heap.size + 1, 3, none⟩ (.bool false)) _ p.m [⟨m.f, m.t, m.d, false⟩] _ w2.heap.size 1 1 rfl rfl rfl (by simp) rfl HO2.out ?h1 ?h2 ?h3 ?_) | refine wpList_lm rfl _ rfl HM3 rfl ?_)
    case h1 => simp; omega
    case h2 => show _ * 40 ≤ _; simp; omega
    case h3 => simpa using hs3
    intro v4 w4 HO4 HT4 hs4
    generalize p.m ++ [⟨m.f, m.t, m.d, false⟩] = l4 at *
    obtain ⟨A4, c4, hv⟩ := HO4.out.shape
    subst hv
    have HB4 := Lib.hid (below_turns HB3.out HT4.out (Nat.le_add_right _ _))
    have HR4 := Lib.hid (HR3.out.turned HT4.out (by decide))
    have HP4 := Lib.hid (HP3.out.turned HT4.out (by decide))
    have HP5 := Lib.hid (pc_mails A1 A4 p.m.length c1 l4.length c4 p.s ▸ HP4.out.set_ 0 (.slice A4 l4.length c4))
    have HR5 := Lib.hid (HR4.out.far (p := ⟨w.heap.size, 0, none⟩) (by simp) (.slice A4 l4.length c4))
    have HT5 := Lib.hid (turns_cell HP4.out (Nat.le_refl w.heap.size) 0 (.slice A4 l4.length c4))
    obtain ⟨u0, u1⟩ := Blk.one HP4 0 (v := .slice A1 p.m.length c1) rfl
    clear HT4 HM3 HP3 HR3 HB3 HO2 x3 y3 z0 z1
    go_wp2_with (first | refine wpList_lp rfl _ rfl HP5 rfl ?_ | refine wpList_sp rfl _ _ rfl HR5 rfl rfl (Nat.le_add_right w.heap.size 2) ?_)
    intro w6 HS
    go_wp2_with fail
    refine ret_pe Try.results19 rfl rfl rfl HS.out.blk ?_
    rw [HE.out]
    exact IsPE.px ⟨A4, c4, rfl, ((HO4.out.turned ne_mp HT5.out).turned ne_mp HS.out.turns).mono (by omega), below_turns (below_turns HB4.out HT5.out (Nat.le_refl _)) HS.out.turns (Nat.le_refl _)⟩
end Go.Proofs.Ytkajnmlglgjocaa
