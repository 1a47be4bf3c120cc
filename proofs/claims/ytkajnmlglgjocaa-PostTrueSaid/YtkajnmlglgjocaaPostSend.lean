/-
  What Send returns, the program's and the document's.
  No condition but that the messages are no more than the form's reach.
-/
import Derived.Test.YtkajnmlglgjocaaPostOne
import Derived.WalkKit
import Derived.WalkSpells
import Derived.WalkLawsBesides
import Derived.Handy
import Derived.Deep.QuietTactic
import Derived.BigQuiet
import Derived.Deep.RegionWith
import Derived.Deep.RegionHeld3
import Derived.Deep.Draws
import Derived.Lib.Hide
import Derived.Lib.LazyBuf
namespace Go.Proofs.Ytkajnmlglgjocaa
open Go.RowKit


theorem send_is (p : Pst.P) (m : Pst.Mail) : (Pst.place m.f = false ∧ Pst.send p m = (p, 1)) ∨ (Pst.place m.f = true ∧ Pst.place m.t = false ∧ Pst.send p m = (p, 1)) ∨
    (Pst.place m.f = true ∧ Pst.place m.t = true ∧ (16392 : Int) < m.d.size ∧ Pst.send p m = (p, 2)) ∨ (Pst.place m.f = true ∧ Pst.place m.t = true ∧ (m.d.size : Int) ≤ 16392 ∧ Pst.send p m = Pst.put p ⟨m.f, m.t, m.d, false⟩) := by
  unfold Pst.send
  cases h1 : Pst.place m.f <;> cases h2 : Pst.place m.t <;> by_cases h3 : 16392 < m.d.size <;> simp [h3] <;> omega
theorem place_pre (n : Int) (b : Bool) (h : Pst.place n = b) : Hid (∀ w, Calls Try.prog 25 #[.int .i64 n] w fun e w' => e = .returned (.bool b) ∧ w' = w) := Lib.hid fun w => h ▸ place_any n w
theorem rplace_pre (n : Int) (b : Bool) (h : Pst.place n = b) : Hid (∀ w, Calls Try.prog 31 #[.int .i64 n] w fun e w' => e = .returned (.bool b) ∧ w' = w) := Lib.hid fun w => h ▸ rplace_any n w
theorem own_pre {A : Option Addr} {n c : Nat} {p : Pst.P} {w : World} (hn : p.m.length = n) (hl : n ≤ 5000000000000) (hi : mailLay.Reads w w.heap.size A p.m) (hA : A = none → p.m = []) :
    Hid (∀ W, Below w.heap.size w W → Calls Try.prog 26 #[pv A n c p.s] W (IsPost p.m p.s W)) := Lib.hid fun W hW => own_any A n c p.s p.m W hn hl (hi.later hW (Nat.le_refl _)) hA
theorem with_pre {A : Option Addr} {n c : Nat} {p : Pst.P} {w : World} (hn : p.m.length = n) (hl : n ≤ 5000000000000) (hi : mailLay.Reads w w.heap.size A p.m) (hA : A = none → p.m = []) :
    Hid (∀ W, Below w.heap.size w W → Calls Try.prog 32 #[pv A n c p.s] W (IsPost p.m p.s W)) := Lib.hid fun W hW => with_any A n c p.s p.m W hn hl (hi.later hW (Nat.le_refl _)) hA
theorem put_pre {A : Option Addr} {n c : Nat} {p : Pst.P} {w : World} (hn : p.m.length = n) (hl : n ≤ 5000000000000) (hi : mailLay.Reads w w.heap.size A p.m) (hA : A = none → p.m = []) :
    Hid (∀ m W, Below w.heap.size w W → Calls Try.prog 27 #[pv A n c p.s, mailV m] W (IsPE (Pst.put p m) W)) := Lib.hid fun m W hW => put_any A n c p m W hn hl (hi.later hW (Nat.le_refl _)) hA

set_option maxRecDepth 100000 in
set_option maxHeartbeats 1600000 in
theorem send_any (A : Option Addr) (n c : Nat) (p : Pst.P) (m : Pst.Mail) (w : World) (hn : p.m.length = n) (hl : n ≤ 5000000000000) (hi : mailLay.Reads w w.heap.size A p.m) (hA : A = none → p.m = []) :
    Calls Try.prog 13 #[pv A n c p.s, mailV m] w (IsPE (Pst.send p m) w) := by
  obtain ⟨HP0, HM0, HR0, HB0, hsz⟩ := made3 w 25 (pc A n c p.s) 27 (mc m) 25 (pc none 0 0 fun _ => 0)
  have HO := own_pre (c := c) hn hl hi hA
  have HU := put_pre (c := c) hn hl hi hA
  have HN := Lib.hid hn
  obtain ⟨x0, y0⟩ := Blk.one HM0 0 (v := .int .i64 m.f) rfl
  obtain ⟨x1, y1⟩ := Blk.one HM0 1 (v := .int .i64 m.t) rfl
  obtain ⟨x2, y2⟩ := Blk.one HM0 2 (v := .string m.d) rfl
  obtain ⟨x3, y3⟩ := Blk.one HM0 3 (v := .bool m.s) rfl
  clear hn hi hA
  unfold mailV at HU ⊢
  unfold pv at HO HU ⊢
  rcases send_is p m with ⟨hf, he⟩ | ⟨hf, ht, he⟩ | ⟨hf, ht, hz, he⟩ | ⟨hf, ht, hz, he⟩
  · have HE := Lib.hid he
    have HF := place_pre _ _ hf
    clear hf he
    go_enter Try.func13, Try.ntmps13
    go_wp2_with fail
    refine (HF.out _).mono ?_; rintro e w1 ⟨rfl, rfl⟩
    go_wp2_with (refine wpList_lp rfl _ rfl HP0 rfl ?_)
    refine (HO.out _ HB0.out).mono ?_; rintro e w1 ⟨A1, c1, rfl, o1, b1⟩
    have HO1 := Lib.hid (o1.mono HB0.out.size)
    have HB1 := Lib.hid (Lift.then2 HB0.out b1)
    have HR1 := Blk.hb HR0 b1
    clear b1 o1
    go_wp2_with (refine wpList_sp rfl _ _ rfl HR1 rfl rfl (Nat.le_add_right w.heap.size 2) ?_)
    intro w2 HS
    go_wp2_with fail
    refine ret_pe Try.results13 rfl rfl rfl HS.out.blk ?_
    rw [HE.out]
    exact ⟨A1, c1, rfl, HO1.out.turned ne_mp HS.out.turns, below_turns HB1.out HS.out.turns (Nat.le_refl _)⟩
  · have HE := Lib.hid he
    have HF := place_pre _ _ hf
    have HT := place_pre _ _ ht
    clear hf ht he
    go_enter Try.func13, Try.ntmps13
    go_wp2_with fail
    refine (HF.out _).mono ?_; rintro e w1 ⟨rfl, rfl⟩
    go_wp2_with fail
    refine (HT.out _).mono ?_; rintro e w1 ⟨rfl, rfl⟩
    go_wp2_with (refine wpList_lp rfl _ rfl HP0 rfl ?_)
    refine (HO.out _ HB0.out).mono ?_; rintro e w1 ⟨A1, c1, rfl, o1, b1⟩
    have HO1 := Lib.hid (o1.mono HB0.out.size)
    have HB1 := Lib.hid (Lift.then2 HB0.out b1)
    have HR1 := Blk.hb HR0 b1
    clear b1 o1
    go_wp2_with (refine wpList_sp rfl _ _ rfl HR1 rfl rfl (Nat.le_add_right w.heap.size 2) ?_)
    intro w2 HS
    go_wp2_with fail
    refine ret_pe Try.results13 rfl rfl rfl HS.out.blk ?_
    rw [HE.out]
    exact ⟨A1, c1, rfl, HO1.out.turned ne_mp HS.out.turns, below_turns HB1.out HS.out.turns (Nat.le_refl _)⟩
  · have HE := Lib.hid he
    have HF := place_pre _ _ hf
    have HT := place_pre _ _ ht
    clear hf ht he
    go_enter Try.func13, Try.ntmps13
    go_wp2_with fail
    refine (HF.out _).mono ?_; rintro e w1 ⟨rfl, rfl⟩
    go_wp2_with fail
    refine (HT.out _).mono ?_; rintro e w1 ⟨rfl, rfl⟩
    go_wp2_with (refine wpList_lp rfl _ rfl HP0 rfl ?_)
    refine (HO.out _ HB0.out).mono ?_; rintro e w1 ⟨A1, c1, rfl, o1, b1⟩
    have HO1 := Lib.hid (o1.mono HB0.out.size)
    have HB1 := Lib.hid (Lift.then2 HB0.out b1)
    have HR1 := Blk.hb HR0 b1
    clear b1 o1
    go_wp2_with (refine wpList_sp rfl _ _ rfl HR1 rfl rfl (Nat.le_add_right w.heap.size 2) ?_)
    intro w2 HS
    go_wp2_with fail
    refine ret_pe Try.results13 rfl rfl rfl HS.out.blk ?_
    rw [HE.out]
    exact ⟨A1, c1, rfl, HO1.out.turned ne_mp HS.out.turns, below_turns HB1.out HS.out.turns (Nat.le_refl _)⟩
  · have HE := Lib.hid he
    have HF := place_pre _ _ hf
    have HT := place_pre _ _ ht
    obtain ⟨HP1, HM1, HR1, HB1, _⟩ := made3 w 25 (pc A n c p.s) 27 (mc ⟨m.f, m.t, m.d, false⟩) 25 (pc none 0 0 fun _ => 0)
    clear hf ht he
    go_enter Try.func13, Try.ntmps13
    go_wp2_with fail
    refine (HF.out _).mono ?_; rintro e w1 ⟨rfl, rfl⟩
    go_wp2_with fail
    refine (HT.out _).mono ?_; rintro e w1 ⟨rfl, rfl⟩
    go_wp2_with (first | refine wpList_lp rfl _ rfl HP1 rfl ?_ | refine wpList_lm rfl _ rfl HM1 rfl ?_)
    refine (HU.out ⟨m.f, m.t, m.d, false⟩ _ HB1.out).mono ?_; rintro e w1 ⟨A1, c1, rfl, o1, b1⟩
    have HO1 := Lib.hid (o1.mono HB1.out.size)
    have HB2 := Lib.hid (Lift.then2 HB1.out b1)
    have HR2 := Blk.hb HR1 b1
    clear b1 o1
    go_wp2_with (refine wpList_sp rfl _ _ rfl HR2 rfl rfl (Nat.le_add_right w.heap.size 2) ?_)
    intro w2 HS
    go_wp2_with fail
    refine ret_pe Try.results13 rfl rfl rfl HS.out.blk ?_
    rw [HE.out]
    exact ⟨A1, c1, rfl, HO1.out.turned ne_mp HS.out.turns, below_turns HB2.out HS.out.turns (Nat.le_refl _)⟩
end Go.Proofs.Ytkajnmlglgjocaa
