/-
  What the laws ValueChecks and ValueReads return: true, for every argument.
  No condition but the form's own, and what the listed variables hold.
-/
import Derived.Test.YtdhfmapcggohmaaDoorValAwake
import Derived.Test.YtdhfmapcggohmaaDoorLift
import Derived.WalkKit
import Derived.WalkSpells
import Derived.WalkLawsBesides
import Derived.Handy
import Derived.Deep.QuietTactic
import Derived.BigQuiet
import Derived.Deep.RegionWith
import Derived.Deep.RegionHeld3
import Derived.Deep.Draws
import Derived.Lib.Hide
namespace Go.Proofs.YtdhfmapcggohmaaDoor
open Go.RowKit

/-- A block's four cells. -/
def Four (B : Nat) (v : Val.V) (w : World) : Prop := w.cell? ⟨B, 0, none⟩ = some (.int .i64 v.k) ∧ w.cell? ⟨B, 1, none⟩ = some (.int .i64 v.n) ∧ w.cell? ⟨B, 2, none⟩ = some (.int .u64 (v.f : Int)) ∧ w.cell? ⟨B, 3, none⟩ = some (.string v.s)
theorem Four.keep {B : Nat} {v : Val.V} {w w1 : World} (h : Four B v w) (hb : Below w.heap.size w w1) : Four B v w1 := by
  have hlt := World.block_lt_of_cell? w _ h.1
  exact ⟨(hb.cell (p := ⟨B, 0, none⟩) hlt).trans h.1, (hb.cell (p := ⟨B, 1, none⟩) hlt).trans h.2.1, (hb.cell (p := ⟨B, 2, none⟩) hlt).trans h.2.2.1, (hb.cell (p := ⟨B, 3, none⟩) hlt).trans h.2.2.2⟩
theorem Four.lt {B : Nat} {v : Val.V} {w : World} (h : Four B v w) : B < w.heap.size := World.block_lt_of_cell? w _ h.1
theorem Four.new (w : World) (k n : Int) (f : Nat) (s : ByteArray) : Four w.heap.size ⟨k, n, f, s⟩ (w.alloc (.cells #[.int .i64 k, .int .i64 n, .int .u64 (f : Int), .string s] 24)) :=
  ⟨(Box.new w _ _ _ _).cell 0, (Box.new w _ _ _ _).cell 1, (Box.new w _ _ _ _).cell 2, (Box.new w _ _ _ _).cell 3⟩
theorem reach_num : reachBytes = 140737488351232 := by decide

theorem five {a b c d p : Prop} (h : a ∧ b ∧ c ∧ d ∧ Hid p) : p := h.2.2.2.2.out
/-- What the region keeps. -/
def Keeps (w W : World) (v : Val.V) : Prop := W.cell? ⟨w.heap.size, 0, none⟩ = some (.int .i64 v.k) ∧ W.cell? ⟨w.heap.size, 1, none⟩ = some (.int .i64 v.n) ∧ W.cell? ⟨w.heap.size, 2, none⟩ = some (.int .u64 (v.f : Int)) ∧ W.cell? ⟨w.heap.size, 3, none⟩ = some (.string v.s) ∧ Hid (Below w.heap.size w W)
theorem Keeps.step {w W w1 : World} {v : Val.V} (h : Keeps w W v) (hb : Below W.heap.size W w1) : Keeps w w1 v := by
  have h4 : Four w.heap.size v W := ⟨h.1, h.2.1, h.2.2.1, h.2.2.2.1⟩
  have h5 := h4.keep hb
  exact ⟨h5.1, h5.2.1, h5.2.2.1, h5.2.2.2, Lib.hid (h.2.2.2.2.out.trans (hb.mono h.2.2.2.2.out.size))⟩

set_option maxRecDepth 100000 in
set_option maxHeartbeats 3200000 in
theorem checks_yes (v : Val.V) (w : World) (hf : v.f < 18446744073709551616) (ht : TabOk w) (hv : ErrOk w) : Lift.Yes Tryd.prog 3 #[vv v] w := by
  have HA : Hid (∀ W, Keeps w W v → Calls Tryd.prog 8 #[] W fun e w1 => e = .returned (.bool true) ∧ Keeps w w1 v) := Lib.hid fun W hk => (awake_any W (ht.below hk.2.2.2.2.out) (hv.below hk.2.2.2.2.out)).mono fun e w1 ⟨he, hb⟩ => ⟨he, hk.step hb⟩
  have HC : Hid (∀ W, Keeps w W v → Calls Tryd.prog 9 #[vv v] W fun e w1 => e = .returned (.int .i64 (Val.chk v)) ∧ Keeps w w1 v) := Lib.hid fun W hk => (check_any v W hf).mono fun e w1 ⟨he, hb⟩ => ⟨he, hk.step hb⟩
  have HD : Hid (∀ W, Keeps w W v → Calls Tryd.prog 10 #[vv v] W fun e w1 => e = .returned (.int .i64 (Val.chk v)) ∧ Keeps w w1 v) := Lib.hid fun W hk => (rcheck_any v W hf).mono fun e w1 ⟨he, hb⟩ => ⟨he, hk.step hb⟩
  have hb0 := Lib.hid (((Below.refl _ w).alloc (Nat.le_refl _) (.cells #[.int .i64 v.k, .int .i64 v.n, .int .u64 (v.f : Int), .string v.s] 24)).drew)
  generalize Val.chk v = x at *
  obtain ⟨k, n, f, s⟩ := v
  unfold Keeps at HA HC HD
  unfold vv at *
  simp only at HC HD HA hb0
  clear hf ht hv
  unfold Lift.Yes
  go_enter Tryd.func3, Tryd.ntmps3
  go_wp2_with fail
  go_region_held3 (fun W => W.cell? ⟨w.heap.size, 0, none⟩ = some (.int .i64 k) ∧ W.cell? ⟨w.heap.size, 1, none⟩ = some (.int .i64 n) ∧ W.cell? ⟨w.heap.size, 2, none⟩ = some (.int .u64 (f : Int)) ∧ W.cell? ⟨w.heap.size, 3, none⟩ = some (.string s) ∧ Hid (Below w.heap.size w W))
    (first | assumption | go_keep)
    (first
      | (go_simp; go_at_call 8; refine (HA.out _ (by assumption)).mono ?_; rintro e w1 ⟨rfl, hs⟩)
      | (go_simp; go_at_call 9; refine (HC.out _ (by assumption)).mono ?_; rintro e w1 ⟨rfl, hs⟩)
      | (go_simp; go_at_call 10; refine (HD.out _ (by assumption)).mono ?_; rintro e w1 ⟨rfl, hs⟩))
  all_goals
    have hxx : (x == x) = true := by simp
    go_wp2_with fail
    go_ret
    exact ⟨rfl, five (by assumption)⟩

set_option maxRecDepth 100000 in
set_option maxHeartbeats 3200000 in
theorem reads_yes (s : ByteArray) (w : World) (hs : s.size ≤ reachBytes) (ht : TabOk w) (hv : ErrOk w) : Lift.Yes Tryd.prog 7 #[.string s] w := by
  rw [reach_num] at hs
  have HR := Lib.hid (vread_any s w (by omega) ht hv)
  have HRR := Lib.hid (fun W => rvread_any s W (by omega))
  have HA := Lib.hid (fun W hb => awake_any W (ht.below hb) (hv.below hb))
  unfold IsRead at HR HRR
  unfold Lift.Yes
  cases hr : Val.rdV s.data.toList with
  | none =>
    rw [ans_none hr] at HR HRR
    unfold vv Val.zero Val.emp at *
    simp only at HR HRR
    clear hr ht hv
    go_enter Tryd.func7, Tryd.ntmps7
    go_wp2_with fail
    refine (HR.out).mono ?_; rintro e w1 ⟨rfl, b1⟩
    have HB1 := Lib.hid (b1.alloc b1.size (.cells #[.int .i64 0, .int .i64 0, .int .u64 0, .string ⟨#[]⟩] 24))
    have HF1 := Lib.hid (Four.new w1 0 0 0 ⟨#[]⟩)
    clear b1
    go_wp2_with fail
    refine (HRR.out _).mono ?_; rintro e w2 ⟨rfl, b2⟩
    have HB2 := Lib.hid (HB1.out.trans (b2.mono HB1.out.size))
    have HF2 := Lib.hid (HF1.out.keep b2)
    have hlt2 := HF2.out.lt
    have HB3 := Lib.hid (HB2.out.alloc HB2.out.size (.cells #[.int .i64 0, .int .i64 0, .int .u64 0, .string ⟨#[]⟩] 24))
    have HF3 := Lib.hid (HF2.out.keep ((Below.refl _ w2).alloc (Nat.le_refl _) (.cells #[.int .i64 0, .int .i64 0, .int .u64 0, .string ⟨#[]⟩] 24)))
    have HG3 := Lib.hid (Four.new w2 0 0 0 ⟨#[]⟩)
    clear b2
    go_wp2_with fail
    refine (HA.out _ HB3.out).mono ?_; rintro e w4 ⟨rfl, b4⟩
    obtain ⟨c0, c1, c2, c3⟩ := HF3.out.keep b4
    obtain ⟨d0, d1, d2, d3⟩ := HG3.out.keep b4
    have HB4 := Lib.hid (HB3.out.trans (b4.mono HB3.out.size))
    clear b4
    go_wp2_with fail
    go_ret
    exact ⟨rfl, HB4.out⟩
  | some v =>
    obtain ⟨hc, hw, hf, hn⟩ := Val.rdV_some hr
    rw [ans_some hr] at HR HRR
    have hnr : Val.inR v.n := by
      rcases hn with h | h
      · unfold Val.inR; omega
      · exact h
    have hsz : v.s.size ≤ 105553116266496 := by
      rcases Val.chk_ok hc with e | e | ⟨e, _⟩ | ⟨_, e⟩
      · rw [e]; show Val.emp.size ≤ _; decide
      · rw [e]; show Val.emp.size ≤ _; decide
      · rw [e]; show Val.emp.size ≤ _; decide
      · omega
    have HT := Lib.hid (fun W hb => vtext_any v W hnr hf hsz (ht.below hb))
    have HC := Lib.hid (fun W => check_any v W hf)
    unfold IsWord at HT
    rw [hw, Val.of_self s] at HT
    rw [hc] at HC
    obtain ⟨k, n, f, t⟩ := v
    unfold vv at *
    simp only at HR HRR HT HC
    clear hr ht hv hc hw hf hn hnr hsz
    go_enter Tryd.func7, Tryd.ntmps7
    go_wp2_with fail
    refine (HR.out).mono ?_; rintro e w1 ⟨rfl, b1⟩
    have HB1 := Lib.hid (b1.alloc b1.size (.cells #[.int .i64 k, .int .i64 n, .int .u64 (f : Int), .string t] 24))
    have HF1 := Lib.hid (Four.new w1 k n f t)
    clear b1
    go_wp2_with fail
    refine (HRR.out _).mono ?_; rintro e w2 ⟨rfl, b2⟩
    have HB2 := Lib.hid (HB1.out.trans (b2.mono HB1.out.size))
    have HF2 := Lib.hid (HF1.out.keep b2)
    have hlt2 := HF2.out.lt
    have HB3 := Lib.hid (HB2.out.alloc HB2.out.size (.cells #[.int .i64 k, .int .i64 n, .int .u64 (f : Int), .string t] 24))
    have HF3 := Lib.hid (HF2.out.keep ((Below.refl _ w2).alloc (Nat.le_refl _) (.cells #[.int .i64 k, .int .i64 n, .int .u64 (f : Int), .string t] 24)))
    have HG3 := Lib.hid (Four.new w2 k n f t)
    clear b2
    go_wp2_with fail
    refine (HA.out _ HB3.out).mono ?_; rintro e w4 ⟨rfl, b4⟩
    have HF4 := Lib.hid (HF3.out.keep b4)
    obtain ⟨c0, c1, c2, c3⟩ := HF4.out
    obtain ⟨d0, d1, d2, d3⟩ := HG3.out.keep b4
    have HB4 := Lib.hid (HB3.out.trans (b4.mono HB3.out.size))
    clear b4
    go_wp2_with fail
    refine (HT.out _ HB4.out).mono ?_; rintro e w5 ⟨rfl, b5⟩
    obtain ⟨p0, p1, p2, p3⟩ := HF4.out.keep b5
    have HB5 := Lib.hid (HB4.out.trans (b5.mono HB4.out.size))
    clear b5
    go_wp2_with fail
    refine (HC.out _).mono ?_; rintro e w6 ⟨rfl, b6⟩
    have HB6 := Lib.hid (HB5.out.trans (b6.mono HB5.out.size))
    clear b6
    go_wp2_with fail
    go_ret
    exact ⟨rfl, HB6.out⟩
end Go.Proofs.YtdhfmapcggohmaaDoor
