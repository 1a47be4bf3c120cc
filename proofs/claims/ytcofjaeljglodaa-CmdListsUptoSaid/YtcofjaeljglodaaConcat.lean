/-
  What slices.Grow of the nil slice, slices.Concat of items return.
  No condition but bounds on how many.
-/
import Derived.Test.YtcofjaeljglodaaVlItems
import Derived.Lib.AppendZeros
set_option linter.unusedSimpArgs false
set_option linter.unusedVariables false
namespace Go.Proofs.Ytcofjaeljglodaa
open Go.RowKit

set_option maxRecDepth 100000 in
set_option maxHeartbeats 3200000 in
theorem grow_any (n : Nat) (w : World) (h0 : 0 < n) (hn : n ≤ 1000) : Calls Try.prog 48 #[.slice none 0 0, .int .i64 n] w fun e w' => ∃ A c, e = .returned (.slice A 0 c) ∧ itemLay.Own w.heap.size w' (.slice A 0 c) [] ∧ Below w.heap.size w w' := by
  obtain ⟨i0, hi, hz0, hz1, hz2⟩ := info_parts itemLay.info
  have hc1 := grownCap_ge w n 0 57
  have hr := Lib.run_append_nil_zeros (P := Try.prog) w 38 3 38 57 i0 itemLay.z .i64 .i64 itemLay.und Try.underlying3 hi hz0 n h0 (by rw [hz1]; decide) (by omega) (by rw [hz2]; show n * 32 ≤ _; omega)
  have HR := Lib.hid hr
  have hc2 := grownCap_le_maxLen w n 0 57 (by unfold maxLen; omega)
  generalize grownCap w n 0 57 = G at *
  have HO : Hid (itemLay.Own w.heap.size (w.drew.alloc (.cells (Builtin.zeroCells itemLay.z.cells n ++ Builtin.zeroCells itemLay.z.cells (G - n)) 57)) (.slice (some ⟨w.heap.size, 0, none⟩) 0 G) []) := by
    have := World.ownsRow_made (base := w.heap.size) (e := 57) (size := 3) w.drew (Builtin.zeroCells itemLay.z.cells n ++ Builtin.zeroCells itemLay.z.cells (G - n)) G (Nat.le_refl _) hc2 (by
      rw [Array.size_append, size_zeroCells, size_zeroCells]
      have : itemLay.z.cells.size = 3 := rfl
      rw [this]; omega)
    exact Lib.hid this
  have HB : Hid (Below w.heap.size w (w.drew.alloc (.cells (Builtin.zeroCells itemLay.z.cells n ++ Builtin.zeroCells itemLay.z.cells (G - n)) 57))) := Lib.hid ((Below.refl _ w).drew.alloc (Nat.le_refl _) _)
  generalize w.drew.alloc (.cells (Builtin.zeroCells itemLay.z.cells n ++ Builtin.zeroCells itemLay.z.cells (G - n)) 57) = wz at *
  clear hr hi hz0 hz1 hz2 hc1 hc2
  have h1 : ¬ ((n : Int) < 0) := by omega
  have h2 : (0 : Int) < (n : Int) := by omega
  have h3 : wrap64 (n : Int) = (n : Int) := by unfold wrap64; omega
  go_enter Try.func48, Try.ntmps48
  go_wp2_with (first | (at_builtin; refine Lib.wpList_append_run _ rfl _ _ _ _ rfl _ _ rfl rfl _ _ HR.out ?_))
  go_ret
  exact ⟨_, _, rfl, HO.out, HB.out⟩
/-- Rows, one behind the other. -/
def cat (rs : List (Option Addr × Nat × List Itm.It)) : List Itm.It := rs.flatMap (·.2.2)
theorem cat_take {rs : List (Option Addr × Nat × List Itm.It)} {k : Nat} {x : Option Addr × Nat × List Itm.It} (h : rs[k]? = some x) : cat (rs.take (k + 1)) = cat (rs.take k) ++ x.2.2 := by
  unfold cat
  rw [Lay.take_succ h, List.flatMap_append]
  simp
theorem cat_le (rs : List (Option Addr × Nat × List Itm.It)) (k : Nat) : (cat (rs.take k)).length ≤ (cat rs).length := by
  conv => rhs; rw [← List.take_append_drop k rs]
  unfold cat
  rw [List.flatMap_append, List.length_append]
  omega
set_option maxRecDepth 100000 in
set_option maxHeartbeats 6400000 in
theorem concat_any (g n : Nat) (rs : List (Option Addr × Nat × List Itm.It)) (w : World) (hn : rs.length = n) (hb : n ≤ 1000) (hg : g < w.heap.size) (hc : ∀ (i : Nat) (x : Option Addr × Nat × List Itm.It), rs[i]? = some x → w.cell? ⟨g, i, none⟩ = some (.slice x.1 x.2.2.length x.2.1))
    (hr : ∀ (i : Nat) (x : Option Addr × Nat × List Itm.It), rs[i]? = some x → itemLay.Reads w w.heap.size x.1 x.2.2 ∧ (x.1 = none → x.2.2 = [])) (h0 : 0 < (cat rs).length) (h1 : (cat rs).length ≤ 1000) :
    Calls Try.prog 33 #[.slice (some ⟨g, 0, none⟩) n n] w (IsIt (cat rs) w) := by
  have HN := Lib.hid hn
  have HCW : Hid (∀ W, Below w.heap.size w W → ∀ (i : Nat) (x : Option Addr × Nat × List Itm.It), rs[i]? = some x → W.cell? ⟨g, i, none⟩ = some (.slice x.1 x.2.2.length x.2.1)) := Lib.hid fun W hW i x hx => (hW.cell hg).trans (hc i x hx)
  have HRW : Hid (∀ W, Below w.heap.size w W → ∀ (i : Nat) (x : Option Addr × Nat × List Itm.It), rs[i]? = some x → itemLay.Reads W W.heap.size x.1 x.2.2 ∧ (x.1 = none → x.2.2 = [])) := Lib.hid fun W hW i x hx => ⟨(hr i x hx).1.later hW (Nat.le_refl _), (hr i x hx).2⟩
  have HT := Lib.hid (fun k => Nat.le_trans (cat_le rs k) h1)
  have HG := Lib.hid (fun W => grow_any (cat rs).length W h0 h1)
  have HTake : Hid (rs.take n = rs) := Lib.hid (by rw [← HN.out, List.take_length])
  clear hn hc hr h0 h1 hg
  go_enter Try.func33, Try.ntmps33
  go_wp2_with fail
  go_loopw [3, 11] (fun vs vi wr => ∃ k : Nat, k ≤ n ∧ vs = .int .i64 ((cat (rs.take k)).length : Nat) ∧ vi = .int .i64 k ∧ w = wr) (fun _ vi _ => n - (intOf vi).toNat)
  case atStart => exact ⟨0, Nat.zero_le _, rfl, rfl, rfl⟩
  case round =>
    obtain ⟨k, hk, rfl, rfl, rfl⟩ := hrel
    by_cases hlt : k < n
    · obtain ⟨⟨A, c, m⟩, hx⟩ := Lay.get_of (l := rs) (k := k) (by rw [HN.out]; exact hlt)
      have hcell := HCW.out _ (Below.refl _ _) _ _ hx
      have ht := HT.out (k + 1)
      have he := cat_take hx
      rw [he, List.length_append] at ht
      have HE : Hid ((cat (rs.take (k + 1))).length = (cat (rs.take k)).length + m.length) := Lib.hid (by rw [he, List.length_append])
      clear he hx
      simp only at hcell ht
      generalize (cat (rs.take k)).length = q at *
      generalize m.length = mm at *
      have h1 : wrap64 ((q : Int) + (mm : Int)) = ((q + mm : Nat) : Int) := by unfold wrap64; omega
      have h2 : ¬ (((q + mm : Nat) : Int) < 0) := by omega
      have h3 : ¬ ((q : Int) + (mm : Int) < 0) := by omega
      go_wp2_with fail
      exact ⟨⟨k + 1, by omega, by rw [HE.out]; go_num, by go_num, by simp⟩, by simp [intOf]; omega⟩
    · obtain rfl : k = n := by omega
      rw [HTake.out]
      go_wp2_with fail
      refine (HG.out _).mono ?_; rintro e w1 ⟨A0, c0, rfl, o1, b1⟩
      have HK := Lib.hid ((Kn.start _).called b1 o1)
      simp only [List.nil_append] at HK
      clear b1 o1
      go_wp2_with fail
      go_loopw [6, 27] (fun vs vi wr => ∃ (q : Nat) (A : Option Addr) (c N : Nat), q ≤ k ∧ Hid ((cat (rs.take q)).length = N) ∧ vs = .slice A N c ∧ vi = .int .i64 q ∧ Hid (Kn w.heap.size w wr [] [row itemLay (.slice A N c) (cat (rs.take q))])) (fun _ vi _ => k - (intOf vi).toNat)
      case atStart => exact ⟨0, A0, c0, 0, Nat.zero_le _, Lib.hid rfl, rfl, rfl, HK⟩
      case round =>
        clear HK
        obtain ⟨q, A, c, N, hq, hN, rfl, rfl, HK⟩ := hrel
        by_cases hlt : q < k
        · obtain ⟨⟨A1, c1, m⟩, hx⟩ := Lay.get_of (l := rs) (k := q) (by rw [HN.out]; exact hlt)
          have hcell := HCW.out _ HK.out.b _ _ hx
          have HR := Lib.hid (HRW.out _ HK.out.b _ _ hx)
          have he := cat_take hx
          have ht := HT.out (q + 1)
          rw [he, List.length_append] at ht
          have HL : Hid ((cat (rs.take q)).length + m.length ≤ 9223372036854775807 ∧ ((cat (rs.take q)).length + m.length) * itemLay.bytes ≤ 211106232532992) := Lib.hid ⟨by simp only at ht; omega, by show _ * 32 ≤ _; simp only at ht; omega⟩
          have HE := Lib.hid he
          clear he hx ht
          simp only at hcell HR
          go_wp2_with (first | (at_builtin; refine wpList_kmore HK itemLay 0 rfl _ _ rfl rfl rfl m rfl rfl HR HL (Lib.hid List.length_append) ?_; intro A4 c4 _ HK'; simp only [List.set] at HK'; replace HK := HK'; clear HK'))
          refine ⟨⟨q + 1, A4, c4, _, by omega, Lib.hid ((congrArg List.length HE.out).trans List.length_append), rfl, by go_num, ?_⟩, by simp [intOf]; omega⟩
          rw [HE.out]
          exact HK
        · obtain rfl : q = k := by omega
          rw [HTake.out] at HK hN
          obtain rfl := hN.out
          go_wp2_with fail
          go_ret
          exact ⟨A, c, rfl, HK.out.own 0 rfl, HK.out.b⟩
end Go.Proofs.Ytcofjaeljglodaa
