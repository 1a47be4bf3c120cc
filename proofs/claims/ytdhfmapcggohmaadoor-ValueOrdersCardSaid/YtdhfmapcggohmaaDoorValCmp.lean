/-
  What value.Cmp and the document's own Cmp return, for all values: the order of values as XValMath reckons it.
  No condition but that the floats' bits are numbers of 64 bits.
-/
import Derived.Test.YtdhfmapcggohmaaDoorValLib
import Derived.Test.YtdhfmapcggohmaaDoorNumCmp
import Derived.Below
import Derived.WalkKit
import Derived.WalkSpells
import Derived.WalkLawsBesides
import Derived.Handy
import Derived.Deep.QuietTactic
import Derived.BigQuiet
import Derived.Deep.RegionWith
import Derived.Deep.RegionHeld3
import Derived.Deep.RegionLaw
import Derived.Deep.Draws
import Derived.Lib.Hide
namespace Go.Proofs.YtdhfmapcggohmaaDoor
open Go.RowKit

/-- The first that is not nought. -/
def nz : List Int → Int
  | [] => 0
  | x :: r => if x ≠ 0 then x else nz r
theorem nz_four (a b c d : Int) : nz [a, b, c, d] = Val.orI a (Val.orI b (Val.orI c d)) := by
  unfold nz nz nz nz nz Val.orI
  split
  · rfl
  · split
    · rfl
    · split
      · rfl
      · split
        · rfl
        · omega
set_option maxHeartbeats 800000 in
theorem or_any (g n : Nat) (xs : List Int) (w : World) (hn : xs.length = n) (hb : n ≤ 4) (hc : ∀ i x, xs[i]? = some x → w.cell? ⟨g, i, none⟩ = some (.int .i64 x)) :
    Calls Tryd.prog 24 #[.slice (some ⟨g, 0, none⟩) n n] w fun e w' => e = .returned (.int .i64 (nz xs)) ∧ w = w' := by
  have HC := Lib.hid hc
  have HN := Lib.hid hn
  clear hc hn
  go_enter Tryd.func24, Tryd.ntmps24
  go_wp2
  go_loop [8] (fun vi => ∃ k : Nat, k ≤ n ∧ vi = .int .i64 k ∧ Hid (nz xs = nz (xs.drop k))) (fun vi => n - (intOf vi).toNat)
  case atStart => exact ⟨0, Nat.zero_le _, rfl, Lib.hid rfl⟩
  case round =>
    obtain ⟨k, hk, rfl, hh⟩ := hrel
    by_cases hlt : k < n
    · have hk2 : k < xs.length := by rw [HN.out]; exact hlt
      have hd := List.drop_eq_getElem_cons hk2
      have h0 := hh.out
      rw [hd] at h0
      have hcell := HC.out k xs[k] (List.getElem?_eq_getElem hk2)
      generalize xs[k] = x at *
      by_cases hx : x = 0
      · subst hx
        have h1 : nz xs = nz (xs.drop (k + 1)) := h0
        have H1 := Lib.hid h1
        clear h0 h1 hd hh hk2
        go_wp2_with fail
        exact ⟨⟨k + 1, by omega, by go_num, H1⟩, by simp [intOf]; omega⟩
      · have h1 : nz xs = x := h0.trans (if_pos hx)
        have H1 := Lib.hid h1
        clear h0 h1 hd hh hk2
        have hx2 : (x != 0) = true := by simpa using hx
        go_wp2_with fail
        go_ret
        exact ⟨by rw [H1.out]; rfl, rfl⟩
    · obtain rfl : k = n := by omega
      have h0 := hh.out
      rw [List.drop_of_length_le (by rw [HN.out]; exact Nat.le_refl _)] at h0
      have H1 := Lib.hid h0
      clear h0 hh
      go_wp2_with fail
      go_ret
      exact ⟨by rw [H1.out]; rfl, rfl⟩

theorem or4 (W : World) (a b c d : Int) (g : Nat) (ty : TypeId) (hg : g = W.heap.size) :
    Calls Tryd.prog 24 #[.slice (some ⟨g, 0, none⟩) 4 4] (W.alloc (.cells #[.int .i64 a, .int .i64 b, .int .i64 c, .int .i64 d] ty)).drew fun e w' => e = .returned (.int .i64 (Val.orI a (Val.orI b (Val.orI c d)))) ∧ (W.alloc (.cells #[.int .i64 a, .int .i64 b, .int .i64 c, .int .i64 d] ty)).drew = w' := by
  subst hg
  rw [← nz_four]
  refine or_any W.heap.size 4 [a, b, c, d] _ rfl (by decide) fun i x hx => ?_
  show (W.alloc _).cell? _ = _
  rw [World.cell?_alloc_new]
  match i, hx with
  | 0, hx => simp at hx; subst hx; rfl
  | 1, hx => simp at hx; subst hx; rfl
  | 2, hx => simp at hx; subst hx; rfl
  | 3, hx => simp at hx; subst hx; rfl
  | i + 4, hx => simp at hx

set_option maxHeartbeats 1600000 in
theorem cmpV_any (a b : Val.V) (w : World) (ha : a.f < 18446744073709551616) (hb : b.f < 18446744073709551616) :
    Calls Tryd.prog 11 #[.agg #[.int .i64 a.k, .int .i64 a.n, .int .u64 (a.f : Int), .string a.s], .agg #[.int .i64 b.k, .int .i64 b.n, .int .u64 (b.f : Int), .string b.s]] w fun e w' => e = .returned (.int .i64 (Val.cmpV a b)) ∧ Below w.heap.size w w' := by
  obtain ⟨k, n, f, s⟩ := a
  obtain ⟨k', n', f', s'⟩ := b
  simp only at ha hb
  have HC := Lib.hid (fun x y w => ci_any x y w)
  have HF := Lib.hid (fun w => cmp_any f f' w ha hb)
  have HS := Lib.hid (fun w => compare_any s s' w)
  show Calls Tryd.prog 11 #[.agg #[.int .i64 k, .int .i64 n, .int .u64 (f : Int), .string s], .agg #[.int .i64 k', .int .i64 n', .int .u64 (f' : Int), .string s']] w _
  go_enter Tryd.func11, Tryd.ntmps11
  go_wp2_with fail
  go_region_held3 (fun w' => w'.cell? ⟨w.heap.size, 0, none⟩ = some (.int .i64 k) ∧ w'.cell? ⟨w.heap.size, 1, none⟩ = some (.int .i64 n) ∧ w'.cell? ⟨w.heap.size, 2, none⟩ = some (.int .u64 (f : Int)) ∧ w'.cell? ⟨w.heap.size, 3, none⟩ = some (.string s) ∧
      w'.cell? ⟨w.heap.size + 1, 0, none⟩ = some (.int .i64 k') ∧ w'.cell? ⟨w.heap.size + 1, 1, none⟩ = some (.int .i64 n') ∧ w'.cell? ⟨w.heap.size + 1, 2, none⟩ = some (.int .u64 (f' : Int)) ∧ w'.cell? ⟨w.heap.size + 1, 3, none⟩ = some (.string s'))
    (first | assumption | go_keep)
    (first
      | (go_simp; go_at_call 25; refine (HC.out _ _ _).mono ?_; rintro e w' ⟨rfl, rfl⟩)
      | (go_simp; go_at_call 26; refine (HF.out _).mono ?_; rintro e w' ⟨rfl, rfl⟩)
      | (go_simp; go_at_call 27; refine (HS.out _).mono ?_; rintro e w' ⟨rfl, rfl⟩)
      | (go_simp; go_at_call 24; refine (or4 _ _ _ _ _ _ _ (by simp)).mono ?_; rintro e w' ⟨rfl, rfl⟩))
  all_goals
    go_wp2_with fail
    go_ret
    exact ⟨rfl, ((((Below.refl _ w).alloc (Nat.le_refl _) _).alloc (by simp) _).alloc (by simp <;> omega) _).drew⟩

set_option maxHeartbeats 1600000 in
theorem rcmpV_any (a b : Val.V) (w : World) (ha : a.f < 18446744073709551616) (hb : b.f < 18446744073709551616) :
    Calls Tryd.prog 12 #[.agg #[.int .i64 a.k, .int .i64 a.n, .int .u64 (a.f : Int), .string a.s], .agg #[.int .i64 b.k, .int .i64 b.n, .int .u64 (b.f : Int), .string b.s]] w fun e w' => e = .returned (.int .i64 (Val.cmpV a b)) ∧ Below w.heap.size w w' := by
  obtain ⟨k, n, f, s⟩ := a
  obtain ⟨k', n', f', s'⟩ := b
  simp only at ha hb
  have HF := Lib.hid (fun w => rcmp_any f f' w ha hb)
  show Calls Tryd.prog 12 #[.agg #[.int .i64 k, .int .i64 n, .int .u64 (f : Int), .string s], .agg #[.int .i64 k', .int .i64 n', .int .u64 (f' : Int), .string s']] w _
  have h1 := Val.less_cb s.data.toList s'.data.toList
  have h3 := Val.cb_bound s.data.toList s'.data.toList
  have HV : Hid (Val.cmpV ⟨k, n, f, s⟩ ⟨k', n', f', s'⟩ = Val.orI (Val.ci k k') (Val.orI (Val.ci n n') (Val.orI (Num.cmp f f') (Lib.compareBytes s.data.toList s'.data.toList)))) := Lib.hid rfl
  have hl : Go.Op.bytesLess s.toList s'.toList = Go.Op.bytesLess s.data.toList s'.data.toList := by rw [ByteArray.toList_eq, ByteArray.toList_eq]
  have hr : (s.toList == s'.toList) = decide (Lib.compareBytes s.data.toList s'.data.toList = 0) := by
    rw [ByteArray.toList_eq, ByteArray.toList_eq, Bool.eq_iff_iff, decide_eq_true_eq, beq_iff_eq]
    exact ⟨fun e => by rw [e]; exact Val.cb_self _, Val.cb_zero _ _⟩
  rw [h1] at hl
  clear h1
  generalize Val.cmpV ⟨k, n, f, s⟩ ⟨k', n', f', s'⟩ = z at *
  generalize Lib.compareBytes s.data.toList s'.data.toList = c at *
  generalize Num.cmp f f' = d at *
  have fin : ∀ {x : Int} {w' : World}, z = x → Below w.heap.size w w' → Ending.returned (.int .i64 x) = .returned (.int .i64 z) ∧ Below w.heap.size w w' := fun h hb => ⟨by rw [h], hb⟩
  have FIN : Hid (∀ (x : Int) (w' : World), z = x → Below w.heap.size w w' → Ending.returned (.int .i64 x) = .returned (.int .i64 z) ∧ Below w.heap.size w w') := Lib.hid fun x w' => fin
  have BB : ∀ a b, Hid (Below w.heap.size w ((w.alloc a).alloc b)) := fun a b => Lib.hid (((Below.refl _ w).alloc (Nat.le_refl _) a).alloc (by simp) b)
  clear fin ha hb
  rcases Int.lt_trichotomy k k' with hk | hk | hk
  · have E := Lib.hid (show z = -1 by rw [HV.out]; unfold Val.ci; rw [if_pos hk]; rfl)
    have hne : ¬ k = k' := by omega
    clear HV hl hr h3
    go_enter Tryd.func12, Tryd.ntmps12
    go_wp2_with fail
    go_ret
    exact FIN.out _ _ E.out (BB _ _).out
  · subst hk
    have hkl : ¬ k < k := by omega
    rcases Int.lt_trichotomy n n' with hn | hn | hn
    · have E := Lib.hid (show z = -1 by rw [HV.out]; unfold Val.ci; rw [if_neg hkl, if_neg hkl, if_pos hn]; rfl)
      clear HV hl hr h3
      go_enter Tryd.func12, Tryd.ntmps12
      go_wp2_with fail
      go_ret
      exact FIN.out _ _ E.out (BB _ _).out
    · subst hn
      have hnl : ¬ n < n := by omega
      have E : Hid (z = Val.orI d c) := Lib.hid (by rw [HV.out]; unfold Val.ci; rw [if_neg hkl, if_neg hkl, if_neg hnl, if_neg hnl]; rfl)
      clear HV
      by_cases hd : d = 0
      · subst hd
        have E : Hid (z = c) := Lib.hid (by rw [E.out]; rfl)
        have hc : c = -1 ∨ c = 0 ∨ c = 1 := by omega
        rcases hc with rfl | rfl | rfl
        · rw [show decide ((-1 : Int) = -1) = true from rfl] at hl
          clear hr h3
          go_enter Tryd.func12, Tryd.ntmps12
          go_wp2_with (go_at_call 28; refine (HF.out _).mono ?_; rintro e w' ⟨rfl, rfl⟩)
          go_ret
          exact FIN.out _ _ E.out (BB _ _).out
        · rw [show decide ((0 : Int) = -1) = false from rfl] at hl
          rw [show decide ((0 : Int) = 0) = true from rfl] at hr
          clear h3
          go_enter Tryd.func12, Tryd.ntmps12
          go_wp2_with (go_at_call 28; refine (HF.out _).mono ?_; rintro e w' ⟨rfl, rfl⟩)
          go_ret
          exact FIN.out _ _ E.out (BB _ _).out
        · rw [show decide ((1 : Int) = -1) = false from rfl] at hl
          rw [show decide ((1 : Int) = 0) = false from rfl] at hr
          clear h3
          go_enter Tryd.func12, Tryd.ntmps12
          go_wp2_with (go_at_call 28; refine (HF.out _).mono ?_; rintro e w' ⟨rfl, rfl⟩)
          go_ret
          exact FIN.out _ _ E.out (BB _ _).out
      · have E : Hid (z = d) := Lib.hid (by rw [E.out]; exact if_pos hd)
        have hd2 : (d != 0) = true := by simpa using hd
        clear hl hr h3
        go_enter Tryd.func12, Tryd.ntmps12
        go_wp2_with (go_at_call 28; refine (HF.out _).mono ?_; rintro e w' ⟨rfl, rfl⟩)
        go_ret
        exact FIN.out _ _ E.out (BB _ _).out
    · have hnl : ¬ n < n' := by omega
      have E := Lib.hid (show z = 1 by rw [HV.out]; unfold Val.ci; rw [if_neg hkl, if_neg hkl, if_neg hnl, if_pos hn]; rfl)
      clear HV hl hr h3
      go_enter Tryd.func12, Tryd.ntmps12
      go_wp2_with fail
      go_ret
      exact FIN.out _ _ E.out (BB _ _).out
  · have E := Lib.hid (show z = 1 by rw [HV.out]; unfold Val.ci; rw [if_neg (by omega), if_pos hk]; rfl)
    have hne : ¬ k = k' := by omega
    have hkl : ¬ k < k' := by omega
    clear HV hl hr h3
    go_enter Tryd.func12, Tryd.ntmps12
    go_wp2_with fail
    go_ret
    exact FIN.out _ _ E.out (BB _ _).out

end Go.Proofs.YtdhfmapcggohmaaDoor
