/-
  What Move returns, the program's and the document's.
  No condition but that the messages are no more than the form's reach.
-/
import Derived.Test.YtkajnmlglgjocaaPostSend
import Derived.WalkKit
import Derived.WalkSpells
import Derived.WalkLawsBesides
import Derived.Handy
import Derived.Deep.QuietTactic
import Derived.BigQuiet
import Derived.Deep.RegionWith
import Derived.Deep.RegionHeld3
import Derived.Deep.Draws
import Derived.Lib.Hide
import Derived.Lib.LazyBuf
namespace Go.Proofs.Ytkajnmlglgjocaa
open Go.RowKit


theorem move_is (p : Pst.P) (n v : Int) : (Pst.place n = false ∧ Pst.move p n v = (p, 1)) ∨ (∃ k : Nat, k < 12 ∧ n = k ∧ Pst.place n = true ∧ Pst.move p n v = (⟨p.m, fun j => if j = k then v else p.s j⟩, 0)) := by
  unfold Pst.move
  cases h : Pst.place n
  · exact .inl ⟨rfl, by simp⟩
  · refine .inr ⟨n.toNat, ?_, ?_, rfl, by simp⟩
    all_goals
      unfold Pst.place at h
      have := of_decide_eq_true h
      omega
set_option maxHeartbeats 1600000 in
theorem move_any (A : Option Addr) (n c : Nat) (p : Pst.P) (k v : Int) (w : World) (hn : p.m.length = n) (hl : n ≤ 5000000000000) (hi : mailLay.Reads w w.heap.size A p.m) (hA : A = none → p.m = []) :
    Calls Try.prog 18 #[pv A n c p.s, .int .i64 k, .int .i64 v] w (IsPE (Pst.move p k v) w) := by
  obtain ⟨HP0, HR0, HB0, hsz⟩ := made2 w 25 (pc A n c p.s) 25 (pc none 0 0 fun _ => 0)
  have HO := own_pre (c := c) hn hl hi hA
  clear hn hi hA
  unfold pv at HO ⊢
  go_enter Try.func18, Try.ntmps18
  go_wp2_with (refine wpList_lp rfl _ rfl HP0 rfl ?_)
  refine (HO.out _ HB0.out).mono ?_; rintro e w1 ⟨A1, c1, rfl, o1, b1⟩
  have HO1 := Lib.hid ((o1.mono HB0.out.size).alloc (.cells (pc none 0 0 fun _ => 0) 25))
  have HB1 := Lib.hid ((Lift.then2 HB0.out b1).alloc (Lift.then2 HB0.out b1).size (.cells (pc none 0 0 fun _ => 0) 25))
  have HR1 := Lib.hid ((Blk.hb HR0 b1).out.alloc (.cells (pc none 0 0 fun _ => 0) 25))
  have HQ1 := Lib.hid (Blk.new w1 25 (pc none 0 0 fun _ => 0))
  have hs1 := b1.size
  rw [hsz] at hs1
  clear b1 o1 HO HP0 HR0 HB0 hsz
  go_wp2_with (refine wpList_sp rfl _ _ rfl HQ1 rfl rfl (Nat.le_trans (by omega) hs1 : w.heap.size ≤ w1.heap.size) ?_)
  intro w2 HS
  have HB2 := Lib.hid (below_turns HB1.out HS.out.turns (Nat.le_refl _))
  have HO2 := Lib.hid (HO1.out.turned ne_mp HS.out.turns)
  have HR2 := Lib.hid (HS.out.far HR1.out (by omega))
  have HQ2 := Lib.hid HS.out.blk
  clear HS HO1 HR1 HQ1 HB1
  rcases move_is p k v with ⟨hf, he⟩ | ⟨q, hq, hkq, hf, he⟩
  · have HE := Lib.hid he
    have HF := place_pre _ _ hf
    clear he hf
    go_wp2_with fail
    refine (HF.out _).mono ?_; rintro e w3 ⟨rfl, rfl⟩
    go_wp2_with (first | refine wpList_lp rfl _ rfl HQ2 rfl ?_ | refine wpList_sp rfl _ _ rfl HR2 rfl rfl (Nat.le_add_right w.heap.size 1) ?_)
    intro w3 HS
    go_wp2_with fail
    refine ret_pe Try.results18 rfl rfl rfl HS.out.blk ?_
    rw [HE.out]
    exact ⟨A1, c1, rfl, HO2.out.turned ne_mp HS.out.turns, below_turns HB2.out HS.out.turns (Nat.le_refl _)⟩
  · have HE := Lib.hid he
    have HF := place_pre _ _ hf
    subst hkq
    obtain ⟨x0, x1⟩ := Blk.one HQ2 (1 + q) (pc_at _ _ _ _ q hq)
    have HQ3 := Lib.hid (pc_turn _ _ _ _ q hq v ▸ HQ2.out.set_ (1 + q) (.int .i64 v))
    have HR3 := Lib.hid (HR2.out.far (p := ⟨w1.heap.size, 1 + q, none⟩) (by show _ ≠ w1.heap.size; omega) (.int .i64 v))
    have HT3 := Lib.hid (turns_cell HQ2.out (Nat.le_trans (by omega) hs1 : w.heap.size ≤ w1.heap.size) (1 + q) (.int .i64 v))
    have hq1 : (0 : Int) ≤ (q : Int) := by omega
    have hq2 : (q : Int) < 12 := by omega
    clear he hf
    go_wp2_with fail
    refine (HF.out _).mono ?_; rintro e w3 ⟨rfl, rfl⟩
    go_wp2_with (first | refine wpList_lp rfl _ rfl HQ3 rfl ?_ | refine wpList_sp rfl _ _ rfl HR3 rfl rfl (Nat.le_add_right w.heap.size 1) ?_)
    intro w3 HS
    go_wp2_with fail
    refine ret_pe Try.results18 rfl rfl rfl HS.out.blk ?_
    rw [HE.out]
    exact ⟨A1, c1, rfl, (HO2.out.turned ne_mp HT3.out).turned ne_mp HS.out.turns, below_turns (below_turns HB2.out HT3.out (Nat.le_refl _)) HS.out.turns (Nat.le_refl _)⟩

set_option maxHeartbeats 1600000 in
theorem rmove_any (A : Option Addr) (c : Nat) (p : Pst.P) (k v : Int) (w : World) (hi : mailLay.Reads w w.heap.size A p.m) (hA : A = none → p.m = []) (_hcap : p.m.length ≤ c) :
    Calls Try.prog 24 #[pv A p.m.length c p.s, .int .i64 k, .int .i64 v] w (IsPX A c p.m (Pst.move p k v) w) := by
  obtain ⟨HP0, HR0, HB0, hsz⟩ := made2 w 25 (pc A p.m.length c p.s) 25 (pc none 0 0 fun _ => 0)
  have HI := Lib.hid (fun W (hW : Below w.heap.size w W) => hi.later hW (Nat.le_refl _))
  have HA := Lib.hid hA
  clear hi hA
  unfold pv
  rcases move_is p k v with ⟨hf, he⟩ | ⟨q, hq, hkq, hf, he⟩
  · have HE := Lib.hid he
    have HF := rplace_pre _ _ hf
    clear he hf
    go_enter Try.func24, Try.ntmps24
    go_wp2_with fail
    refine (HF.out _).mono ?_; rintro e w3 ⟨rfl, rfl⟩
    go_wp2_with (first | refine wpList_lp rfl _ rfl HP0 rfl ?_ | refine wpList_sp rfl _ _ rfl HR0 rfl rfl (Nat.le_add_right w.heap.size 1) ?_)
    intro w3 HS
    have HB1 := Lib.hid (below_turns HB0.out HS.out.turns (Nat.le_refl _))
    go_wp2_with fail
    refine ret_pe Try.results24 rfl rfl rfl HS.out.blk ?_
    rw [HE.out]
    exact ⟨A, c, rfl, .inr ⟨rfl, rfl, rfl⟩, HB1.out⟩
  · have HE := Lib.hid he
    have HF := rplace_pre _ _ hf
    subst hkq
    have hpc := pc_at A p.m.length c p.s q hq
    have hq1 : (0 : Int) ≤ (q : Int) := by omega
    have hq2 : (q : Int) < 12 := by omega
    have hpt := pc_turn A p.m.length c p.s q hq v
    clear he hf
    go_enter Try.func24, Try.ntmps24
    go_wp2_with fail
    refine (HF.out _).mono ?_; rintro e w3 ⟨rfl, rfl⟩
    obtain ⟨HP1, HR1, HB1, _⟩ := made2 w 25 (pc A p.m.length c (fun j => if j = q then v else p.s j)) 25 (pc none 0 0 fun _ => 0)
    go_wp2_with (first | refine wpList_lp rfl _ rfl HP1 rfl ?_ | refine wpList_sp rfl _ _ rfl HR1 rfl rfl (Nat.le_add_right w.heap.size 1) ?_)
    intro w3 HS
    have HB2 := Lib.hid (below_turns HB1.out HS.out.turns (Nat.le_refl _))
    go_wp2_with fail
    refine ret_pe Try.results24 rfl rfl rfl HS.out.blk ?_
    rw [HE.out]
    exact ⟨A, c, rfl, .inr ⟨rfl, rfl, rfl⟩, HB2.out⟩
end Go.Proofs.Ytkajnmlglgjocaa
