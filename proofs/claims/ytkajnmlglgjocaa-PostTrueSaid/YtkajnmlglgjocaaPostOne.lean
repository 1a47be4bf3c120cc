/-
  What isPlace, place, has, slices.Clone, own and with return.
  No condition but that a slice is no longer than the form's reach.
-/
import Derived.Test.YtkajnmlglgjocaaPost
import Derived.WalkKit
import Derived.WalkSpells
import Derived.WalkLawsBesides
import Derived.Handy
import Derived.Deep.QuietTactic
import Derived.BigQuiet
import Derived.Deep.RegionWith
import Derived.Deep.RegionHeld3
import Derived.Deep.Draws
import Derived.Lib.Hide
import Derived.Lib.LazyBuf
namespace Go.Proofs.Ytkajnmlglgjocaa
open Go.RowKit

theorem place_is (n : Int) (r : Bool) (h : Pst.place n = r) : (r = true ∧ 0 ≤ n ∧ n < 12) ∨ (r = false ∧ (¬ 0 ≤ n ∨ (0 ≤ n ∧ ¬ n < 12))) := by
  subst h
  unfold Pst.place
  by_cases h1 : 0 ≤ n <;> by_cases h2 : n < 12 <;> simp [h1, h2] <;> omega
set_option maxHeartbeats 800000 in
theorem rplace_any (n : Int) (w : World) : Calls Try.prog 31 #[.int .i64 n] w fun e w' => e = .returned (.bool (Pst.place n)) ∧ w' = w := by
  have h := place_is n _ rfl
  generalize Pst.place n = r at *
  rcases h with ⟨rfl, h1, h2⟩ | ⟨rfl, h1 | ⟨h1, h2⟩⟩
  all_goals
    go_enter Try.func31, Try.ntmps31
    go_wp2_with fail
    go_ret
    exact ⟨rfl, rfl⟩
theorem place_yes {n : Int} {k : Nat} (h : (k : Int) = n) (hk : k < 12) : Pst.place n = true := by
  unfold Pst.place; exact decide_eq_true (by omega)
theorem place_no {n : Int} (h : ∀ j : Nat, j < 12 → (j : Int) ≠ n) : Pst.place n = false := by
  unfold Pst.place
  rw [decide_eq_false_iff_not]
  intro ⟨h1, h2⟩
  exact h n.toNat (by omega) (by omega)
set_option maxHeartbeats 800000 in
theorem place_any (n : Int) (w : World) : Calls Try.prog 25 #[.int .i64 n] w fun e w' => e = .returned (.bool (Pst.place n)) ∧ w' = w := by
  go_enter Try.func25, Try.ntmps25
  go_wp2_with fail
  go_loopw [4] (fun vi wr => ∃ k : Nat, k ≤ 12 ∧ vi = .int .i64 k ∧ Hid (∀ j : Nat, j < k → (j : Int) ≠ n) ∧ wr = w) (fun vi _ => 12 - (intOf vi).toNat)
  case atStart => exact ⟨0, by omega, rfl, Lib.hid (fun j hj => by omega), rfl⟩
  case round =>
    obtain ⟨k, hk, rfl, HF, rfl⟩ := hrel
    by_cases hlt : k < 12
    · by_cases he : (k : Int) = n
      · have HR := Lib.hid (place_yes he hlt)
        have he2 : ((k : Int) == n) = true := by simpa using he
        clear he
        go_wp2_with fail
        go_ret
        exact ⟨by rw [HR.out]; rfl, rfl⟩
      · have HF1 : Hid (∀ j : Nat, j < k + 1 → (j : Int) ≠ n) := Lib.hid fun j hj => by
          rcases Nat.lt_or_ge j k with h | h
          · exact HF.out j h
          · have : j = k := by omega
            subst this; exact he
        have he2 : ((k : Int) == n) = false := by simpa using he
        clear he
        go_wp2_with fail
        exact ⟨⟨k + 1, by omega, by go_num, HF1, trivial⟩, by simp [intOf]; omega⟩
    · obtain rfl : k = 12 := by omega
      have HR := Lib.hid (place_no HF.out)
      go_wp2_with fail
      go_ret
      exact ⟨by rw [HR.out]; rfl, rfl⟩

theorem has_is (n : Nat) (i : Int) (r : Bool) (h : decide (0 ≤ i ∧ i < (n : Int)) = r) : (r = true ∧ 0 ≤ i ∧ i < (n : Int)) ∨ (r = false ∧ (¬ 0 ≤ i ∨ (0 ≤ i ∧ ¬ i < (n : Int)))) := by
  subst h
  by_cases h1 : 0 ≤ i <;> by_cases h2 : i < n <;> simp [h1, h2] <;> omega
set_option maxHeartbeats 800000 in
theorem has_any (A : Option Addr) (n c : Nat) (s : Nat → Int) (i : Int) (w : World) : Calls Try.prog 29 #[pv A n c s, .int .i64 i] w fun e w' => e = .returned (.bool (decide (0 ≤ i ∧ i < (n : Int)))) ∧ Below w.heap.size w w' := by
  have h := has_is n i _ rfl
  generalize decide (0 ≤ i ∧ i < (n : Int)) = r at *
  have hc : (pc A n c s)[0]? = some (.slice A n c) := rfl
  have HB := Lib.hid ((Below.refl _ w).alloc (Nat.le_refl _) (.cells (pc A n c s) 25))
  unfold pv
  generalize pc A n c s = cs at *
  rcases h with ⟨rfl, h1, h2⟩ | ⟨rfl, h1 | ⟨h1, h2⟩⟩
  all_goals
    go_enter Try.func29, Try.ntmps29
    go_wp2_with fail
    go_ret
    exact ⟨rfl, HB.out⟩

/-- A slice of the call's own of just these messages; below all is as it was. -/
def IsMails (l : List Pst.Mail) (w : World) (e : Ending) (w' : World) : Prop := ∃ A c, e = .returned (.slice A l.length c) ∧ mailLay.Own w.heap.size w' (.slice A l.length c) l ∧ Below w.heap.size w w'
theorem isMails {l : List Pst.Mail} {w w' : World} {v : Value} {base : Nat} (h : mailLay.Own base w' v l) (hb : w.heap.size ≤ base) (hw : Below w.heap.size w w') : IsMails l w (.returned v) w' := by
  obtain ⟨A, c, rfl⟩ := h.shape
  exact ⟨A, c, rfl, h.mono hb, hw⟩
/-- slices.Clone: nil of nil, else a copy. -/
theorem clone_nil (c : Nat) (w : World) : Calls Try.prog 30 #[.slice none 0 c] w (IsMails [] w) := by
  have hq := fun W => run_eql_slice_nil (P := Try.prog) W 22 27 none 0 c Try.underlying22
  have HB0 := Lib.hid (Below.refl w.heap.size w)
  go_enter Try.func30, Try.ntmps30
  go_wp2_with fail
  go_ret
  exact isMails (Lay.Own.none w _) (Nat.le_refl _) HB0.out
set_option maxHeartbeats 1600000 in
theorem clone_some (ad : Addr) (c : Nat) (l : List Pst.Mail) (w : World) (hl : l.length ≤ 5000000000000) (hi : mailLay.Reads w w.heap.size (some ad) l) :
    Calls Try.prog 30 #[.slice (some ad) l.length c] w (IsMails l w) := by
  have hq := fun W => run_eql_slice_nil (P := Try.prog) W 22 27 (some ad) l.length c Try.underlying22
  have HI := Lib.hid (fun o => hi.below ((Below.refl w.heap.size w).alloc (Nat.le_refl _) o))
  have HW : Hid (mailLay.Own w.heap.size (w.alloc (.cells #[] 27)) (.slice (some ⟨w.heap.size, 0, none⟩) 0 0) []) := Lib.hid (Lay.Own.new w [] _ _ _ _ rfl (Nat.le_refl _) rfl rfl rfl (by decide))
  have HB0 := Lib.hid ((Below.refl _ w).alloc (Nat.le_refl _) (.cells #[] 27))
  clear hi
  generalize hn : l.length = n at *
  have HN := Lib.hid hn
  clear hn
  go_enter Try.func30, Try.ntmps30
  go_wp2_with (at_builtin; refine mailLay.wpList_more rfl (.tmp 5) (.tmp 6) rfl w.heap.size _ _ [] (some ad) n c w.heap.size l rfl rfl HN.out.symm HW.out (HI.out _) (fun h => by cases h) ?h1 ?h2 (by simp) ?_)
  case h1 => rw [HN.out]; simp; omega
  case h2 => rw [HN.out]; show _ * 40 ≤ _; simp; omega
  intro v2 w2 HR2 HT2 hs2
  have HB3 := Lib.hid (below_turns HB0.out HT2.out (Nat.le_refl _))
  clear HT2
  go_wp2_with fail
  go_ret
  exact isMails HR2.out (Nat.le_refl _) HB3.out
theorem clone_any (A : Option Addr) (c n : Nat) (l : List Pst.Mail) (w : World) (hn : l.length = n) (hl : n ≤ 5000000000000) (hi : mailLay.Reads w w.heap.size A l) (hA : A = none → l = []) :
    Calls Try.prog 30 #[.slice A n c] w (IsMails l w) := by
  subst hn
  match A, hi, hA with
  | none, _, hA => obtain rfl := hA rfl; exact clone_nil c w
  | some ad, hi, _ => exact clone_some ad c l w hl hi

/-- A post of the call's own messages, with these sides. -/
def IsPost (l : List Pst.Mail) (s : Nat → Int) (w : World) (e : Ending) (w' : World) : Prop := ∃ A c, e = .returned (pv A l.length c s) ∧ mailLay.Own w.heap.size w' (.slice A l.length c) l ∧ Below w.heap.size w w'

set_option maxHeartbeats 1600000 in
theorem own_any (A : Option Addr) (n c : Nat) (s : Nat → Int) (l : List Pst.Mail) (w : World) (hn : l.length = n) (hl : n ≤ 5000000000000) (hi : mailLay.Reads w w.heap.size A l) (hA : A = none → l = []) :
    Calls Try.prog 26 #[pv A n c s] w (IsPost l s w) := by
  obtain ⟨HP0, HR0, HB0, _⟩ := made2 w 25 (pc A n c s) 25 (pc none 0 0 fun _ => 0)
  have HC := Lib.hid (clone_any A c n l _ hn hl (hi.later HB0.out (Nat.le_refl _)) hA)
  have HM := Lib.hid (fun A' c' => pc_mails A A' n c n c' s)
  have hc : (pc A n c s)[0]? = some (.slice A n c) := rfl
  subst hn
  clear hi hA
  unfold pv
  generalize pc A l.length c s = cs at *
  go_enter Try.func26, Try.ntmps26
  go_wp2_with fail
  refine HC.out.mono ?_; rintro e w1 ⟨A1, c1, rfl, o1, b1⟩
  have HO1 := Lib.hid o1
  have HB1 := Lib.hid (Lift.then2 HB0.out b1)
  have HP1 := Blk.hb HP0 b1
  have HR1 := Blk.hb HR0 b1
  have HP2 := Lib.hid (HM.out A1 c1 ▸ HP1.out.set_ 0 (.slice A1 l.length c1))
  have HR2 := Lib.hid (HR1.out.far (p := ⟨w.heap.size, 0, none⟩) (by simp) (.slice A1 l.length c1))
  have HT2 := Lib.hid (turns_cell HP1.out (Nat.le_refl w.heap.size) 0 (.slice A1 l.length c1))
  obtain ⟨x0, x1⟩ := Blk.one HP1 0 hc
  clear b1 o1 HC HP0 HR0 HB0 hc
  go_wp2_with (first | refine wpList_lp rfl _ rfl HP2 rfl ?_ | refine wpList_sp rfl _ _ rfl HR2 rfl rfl (Nat.le_add_right w.heap.size 1) ?_)
  intro w2 HS
  have HB3 := Lib.hid (below_turns (below_turns HB1.out HT2.out (Nat.le_refl _)) HS.out.turns (Nat.le_refl _))
  have HO3 := Lib.hid ((HO1.out.turned ne_mp HT2.out).turned ne_mp HS.out.turns)
  go_wp2_with fail
  refine ret_p Try.results26 rfl rfl HS.out.blk ?_
  exact ⟨A1, c1, rfl, HO3.out.mono (by omega), HB3.out⟩

set_option maxHeartbeats 1600000 in
theorem with_any (A : Option Addr) (n c : Nat) (s : Nat → Int) (l : List Pst.Mail) (w : World) (hn : l.length = n) (hl : n ≤ 5000000000000) (hi : mailLay.Reads w w.heap.size A l) (hA : A = none → l = []) :
    Calls Try.prog 32 #[pv A n c s] w (IsPost l s w) := by
  obtain ⟨HP0, HR0, HN0, HB0, hsz⟩ := made3 w 25 (pc A n c s) 25 (pc none 0 0 fun _ => 0) 27 #[]
  have HI := Lib.hid (hi.below HB0.out)
  have HA := Lib.hid hA
  have HW := Lib.hid (Lay.Own.new (L := mailLay) (base := w.heap.size + 2) ((w.alloc (.cells (pc A n c s) 25)).alloc (.cells (pc none 0 0 fun _ => 0) 25)) [] #[] (w.heap.size + 2) 0 0 rfl (by simp) (by simp) rfl rfl (by decide))
  have HM := Lib.hid (fun A' c' => pc_mails A A' n c n c' s)
  have hc : (pc A n c s)[0]? = some (.slice A n c) := rfl
  clear hi hA hsz HN0
  subst hn
  unfold pv
  generalize pc A l.length c s = cs at *
  go_enter Try.func32, Try.ntmps32
  go_wp2_with (at_builtin; refine mailLay.wpList_more rfl (.tmp 3) (.tmp 5) rfl (w.heap.size + 2) _ _ [] A l.length c w.heap.size l rfl rfl rfl HW.out HI.out HA.out ?h1 ?h2 (by simp) ?_)
  case h1 => simp; omega
  case h2 => show _ * 40 ≤ _; simp; omega
  intro v1 w1 HR HT hs1
  have HO1 := Lib.hid HR.out
  obtain ⟨A1, c1, hv⟩ := HR.out.shape
  subst hv
  have HB1 := Lib.hid (below_turns HB0.out HT.out (Nat.le_add_right _ _))
  have HP1 := Lib.hid (HP0.out.turned HT.out (by decide))
  have HR1 := Lib.hid (HR0.out.turned HT.out (by decide))
  have HP2 := Lib.hid (HM.out A1 c1 ▸ HP1.out.set_ 0 (.slice A1 l.length c1))
  have HR2 := Lib.hid (HR1.out.far (p := ⟨w.heap.size, 0, none⟩) (by simp) (.slice A1 l.length c1))
  have HT2 := Lib.hid (turns_cell HP1.out (Nat.le_refl w.heap.size) 0 (.slice A1 l.length c1))
  obtain ⟨x0, x1⟩ := Blk.one HP1 0 hc
  clear HP0 HR0 HB0 hc HT HR HW
  go_wp2_with (first | refine wpList_lp rfl _ rfl HP2 rfl ?_ | refine wpList_sp rfl _ _ rfl HR2 rfl rfl (Nat.le_add_right w.heap.size 1) ?_)
  intro w2 HS
  have HB3 := Lib.hid (below_turns (below_turns HB1.out HT2.out (Nat.le_refl _)) HS.out.turns (Nat.le_refl _))
  have HO3 := Lib.hid ((HO1.out.turned ne_mp HT2.out).turned ne_mp HS.out.turns)
  go_wp2_with fail
  refine ret_p Try.results32 rfl rfl HS.out.blk ?_
  exact ⟨A1, c1, rfl, HO3.out.mono (by omega), HB3.out⟩

/-- A post of the call's own messages and an error. -/
def IsPE (r : Pst.P × Int) (w : World) (e : Ending) (w' : World) : Prop := ∃ A c, e = .returned (.tuple #[pv A r.1.m.length c r.1.s, .int .i64 r.2]) ∧ mailLay.Own w.heap.size w' (.slice A r.1.m.length c) r.1.m ∧ Below w.heap.size w w'
set_option maxRecDepth 100000 in
set_option maxHeartbeats 1600000 in
theorem put_any (A : Option Addr) (n c : Nat) (p : Pst.P) (m : Pst.Mail) (w : World) (hn : p.m.length = n) (hl : n ≤ 5000000000000) (hi : mailLay.Reads w w.heap.size A p.m) (hA : A = none → p.m = []) :
    Calls Try.prog 27 #[pv A n c p.s, mailV m] w (IsPE (Pst.put p m) w) := by
  obtain ⟨HP0, HM0, HR0, HB0, hsz⟩ := made3 w 25 (pc A n c p.s) 27 (mc m) 25 (pc none 0 0 fun _ => 0)
  have HO := Lib.hid (own_any A n c p.s p.m _ hn hl (hi.later HB0.out (Nat.le_refl _)) hA)
  have HN := Lib.hid hn
  clear hn hi hA
  unfold mailV
  unfold pv at HO ⊢
  go_enter Try.func27, Try.ntmps27
  go_wp2_with (refine wpList_lp rfl _ rfl HP0 rfl ?_)
  refine HO.out.mono ?_; rintro e w1 ⟨A1, c1, rfl, o1, b1⟩
  have HO1 := Lib.hid ((o1.mono HB0.out.size).alloc (.cells (pc none 0 0 fun _ => 0) 25))
  have HB1 := Lib.hid ((Lift.then2 HB0.out b1).alloc (Lift.then2 HB0.out b1).size (.cells (pc none 0 0 fun _ => 0) 25))
  have HM1 := Lib.hid ((Blk.hb HM0 b1).out.alloc (.cells (pc none 0 0 fun _ => 0) 25))
  have HR1 := Lib.hid ((Blk.hb HR0 b1).out.alloc (.cells (pc none 0 0 fun _ => 0) 25))
  have HQ1 := Lib.hid (Blk.new w1 25 (pc none 0 0 fun _ => 0))
  have hs1 := b1.size
  rw [hsz] at hs1
  clear b1 o1 HO HP0 HR0 HB0 HM0 hsz
  go_wp2_with (refine wpList_sp rfl _ _ rfl HQ1 rfl rfl (Nat.le_trans (by omega) hs1 : w.heap.size ≤ w1.heap.size) ?_)
  intro w2 HS
  have HB2 := Lib.hid (below_turns HB1.out HS.out.turns (Nat.le_refl _))
  have HO2 := Lib.hid (HO1.out.turned ne_mp HS.out.turns)
  have HM2 := Lib.hid (HM1.out.turned HS.out.turns (by decide))
  have HR2 := Lib.hid (HS.out.far HR1.out (by omega))
  have HQ2 := Lib.hid HS.out.blk
  have hw2 : w2.heap.size = w1.heap.size + 1 := by rw [HS.out.size]; simp
  obtain ⟨x0, x1⟩ := Blk.one HQ2 0 (v := .slice A1 p.m.length c1) rfl
  clear HS HO1 HM1 HR1 HQ1 HB1
  by_cases hf : 2048 ≤ p.m.length
  · have hr : Pst.put p m = (p, 6) := by unfold Pst.put; rw [if_pos hf]
    have hf2 : (2048 : Int) ≤ (p.m.length : Int) := by omega
    have HE := Lib.hid hr
    clear hf hr
    go_wp2_with (first | refine wpList_lp rfl _ rfl HQ2 rfl ?_ | refine wpList_sp rfl _ _ rfl HR2 rfl rfl (Nat.le_add_right w.heap.size 2) ?_)
    intro w3 HS
    go_wp2_with fail
    refine ret_pe Try.results27 rfl rfl rfl HS.out.blk ?_
    rw [HE.out]
    exact ⟨A1, c1, rfl, HO2.out.turned ne_mp HS.out.turns, below_turns HB2.out HS.out.turns (Nat.le_refl _)⟩
  · have hr : Pst.put p m = (⟨p.m ++ [m], p.s⟩, 0) := by unfold Pst.put; rw [if_neg hf]
    have hf2 : (p.m.length : Int) < 2048 := by omega
    have hf3 : p.m.length + 1 ≤ 2048 := by omega
    have HE := Lib.hid hr
    clear hf hr
    go_wp2_with (first | (at_builtin; refine mailLay.wpList_push rfl (.tmp 15) (.tmp 17) rfl w.heap.size w2 _ p.m [m] _ (w1.heap.size + 1) 1 1 rfl rfl rfl hw2.symm rfl HO2.out ?h1 ?h2 ?h3 ?_) | refine wpList_lm rfl _ rfl HM2 rfl ?_)
    case h1 => simp; omega
    case h2 => show _ * 40 ≤ _; simp; omega
    case h3 => omega
    intro v3 w3 HR3 HT3 hs3
    generalize hl3 : p.m ++ [m] = l3 at *
    have HL3 := Lib.hid hl3
    clear hl3
    have HO3 := Lib.hid HR3.out
    obtain ⟨A3, c3, hv⟩ := HR3.out.shape
    subst hv
    clear HR3
    have HB3 := Lib.hid (below_turns HB2.out HT3.out (Nat.le_refl _))
    have HR3 := Lib.hid (HR2.out.turned HT3.out (by decide))
    have HQ3 := Lib.hid (HQ2.out.turned HT3.out (by decide))
    have HQ4 := Lib.hid (pc_mails A1 A3 p.m.length c1 l3.length c3 p.s ▸ HQ3.out.set_ 0 (.slice A3 l3.length c3))
    have HR4 := Lib.hid (HR3.out.far (p := ⟨w1.heap.size, 0, none⟩) (by show _ ≠ w1.heap.size; omega) (.slice A3 l3.length c3))
    have HT4 := Lib.hid (turns_cell HQ3.out (Nat.le_trans (by omega) hs1 : w.heap.size ≤ w1.heap.size) 0 (.slice A3 l3.length c3))
    obtain ⟨x0, x1⟩ := Blk.one HQ3 0 (v := .slice A1 p.m.length c1) rfl
    clear HT3 HM2 HO2 HB2 HR2 HQ2
    go_wp2_with (first | refine wpList_lp rfl _ rfl HQ4 rfl ?_ | refine wpList_sp rfl _ _ rfl HR4 rfl rfl (Nat.le_add_right w.heap.size 2) ?_)
    intro w5 HS
    go_wp2_with fail
    refine ret_pe Try.results27 rfl rfl rfl HS.out.blk ?_
    rw [HE.out]
    exact ⟨A3, c3, rfl, (HO3.out.turned ne_mp HT4.out).turned ne_mp HS.out.turns, below_turns (below_turns HB3.out HT4.out (Nat.le_refl _)) HS.out.turns (Nat.le_refl _)⟩

/-- A post and an error; whose the messages are: the call's own, or those that were handed in. -/
def IsPX (A0 : Option Addr) (c0 : Nat) (l0 : List Pst.Mail) (r : Pst.P × Int) (w : World) (e : Ending) (w' : World) : Prop := ∃ A c, e = .returned (.tuple #[pv A r.1.m.length c r.1.s, .int .i64 r.2]) ∧ (mailLay.Own w.heap.size w' (.slice A r.1.m.length c) r.1.m ∨ (A = A0 ∧ c = c0 ∧ r.1.m = l0)) ∧ Below w.heap.size w w'
theorem own_none {base : Nat} {w : World} {A : Option Addr} {c : Nat} {l : List Pst.Mail} (h : mailLay.Own base w (.slice A l.length c) l) (hA : A = none) : l = [] := by
  by_cases hl : l = []
  · exact hl
  · obtain ⟨g, c', hv, _⟩ := h.block hl
    injection hv with h1
    rw [hA] at h1
    cases h1
theorem IsPE.px {A0 : Option Addr} {c0 : Nat} {l0 : List Pst.Mail} {r : Pst.P × Int} {w : World} {e : Ending} {w' : World} (h : IsPE r w e w') : IsPX A0 c0 l0 r w e w' := by
  obtain ⟨A, c, he, ho, hb⟩ := h
  exact ⟨A, c, he, .inl ho, hb⟩
end Go.Proofs.Ytkajnmlglgjocaa
