/-
  What twin, Same and near return.
  No condition but that the messages are no more than the form's reach.
-/
import Derived.Test.YtkajnmlglgjocaaPostOne
import Derived.ChangeKeysEq
import Derived.WalkKit
import Derived.WalkSpells
import Derived.WalkLawsBesides
import Derived.Handy
import Derived.Deep.QuietTactic
import Derived.BigQuiet
import Derived.Deep.RegionWith
import Derived.Deep.RegionHeld3
import Derived.Deep.Draws
import Derived.Lib.Hide
import Derived.Lib.LazyBuf
namespace Go.Proofs.Ytkajnmlglgjocaa
open Go.RowKit


set_option maxHeartbeats 1600000 in
theorem twin_any (A : Option Addr) (n c : Nat) (s : Nat → Int) (l : List Pst.Mail) (w : World) (hn : l.length = n) (hl : n ≤ 5000000000000) (hi : mailLay.Reads w w.heap.size A l) (hA : A = none → l = []) :
    Calls Try.prog 7 #[pv A n c s] w (IsPost l s w) := by
  obtain ⟨HP0, HR0, HN0, HB0, hsz⟩ := made3 w 25 (pc A n c s) 25 (pc none 0 0 fun _ => 0) 27 #[]
  have HI := Lib.hid (hi.below HB0.out)
  have HA := Lib.hid hA
  have HW := Lib.hid (Lay.Own.new (L := mailLay) (base := w.heap.size + 2) ((w.alloc (.cells (pc A n c s) 25)).alloc (.cells (pc none 0 0 fun _ => 0) 25)) [] #[] (w.heap.size + 2) 0 0 rfl (by simp) (by simp) rfl rfl (by decide))
  have HM := Lib.hid (fun A' c' => pc_mails A A' n c n c' s)
  have hc : (pc A n c s)[0]? = some (.slice A n c) := rfl
  clear hi hA hsz HN0
  subst hn
  unfold pv
  generalize pc A l.length c s = cs at *
  go_enter Try.func7, Try.ntmps7
  go_wp2_with (at_builtin; refine mailLay.wpList_more rfl (.tmp 3) (.tmp 5) rfl (w.heap.size + 2) _ _ [] A l.length c w.heap.size l rfl rfl rfl HW.out HI.out HA.out ?h1 ?h2 (by simp) ?_)
  case h1 => simp; omega
  case h2 => show _ * 40 ≤ _; simp; omega
  intro v1 w1 HR HT hs1
  have HO1 := Lib.hid HR.out
  obtain ⟨A1, c1, hv⟩ := HR.out.shape
  subst hv
  have HB1 := Lib.hid (below_turns HB0.out HT.out (Nat.le_add_right _ _))
  have HP1 := Lib.hid (HP0.out.turned HT.out (by decide))
  have HR1 := Lib.hid (HR0.out.turned HT.out (by decide))
  have HP2 := Lib.hid (HM.out A1 c1 ▸ HP1.out.set_ 0 (.slice A1 l.length c1))
  have HR2 := Lib.hid (HR1.out.far (p := ⟨w.heap.size, 0, none⟩) (by simp) (.slice A1 l.length c1))
  have HT2 := Lib.hid (turns_cell HP1.out (Nat.le_refl w.heap.size) 0 (.slice A1 l.length c1))
  obtain ⟨x0, x1⟩ := Blk.one HP1 0 hc
  clear HP0 HR0 HB0 hc HT HR HW
  go_wp2_with (first | refine wpList_lp rfl _ rfl HP2 rfl ?_ | refine wpList_sp rfl _ _ rfl HR2 rfl rfl (Nat.le_add_right w.heap.size 1) ?_)
  intro w2 HS
  have HB3 := Lib.hid (below_turns (below_turns HB1.out HT2.out (Nat.le_refl _)) HS.out.turns (Nat.le_refl _))
  have HO3 := Lib.hid ((HO1.out.turned ne_mp HT2.out).turned ne_mp HS.out.turns)
  go_wp2_with fail
  refine ret_p Try.results7 rfl rfl HS.out.blk ?_
  exact ⟨A1, c1, rfl, HO3.out.mono (by omega), HB3.out⟩


theorem cells_int : Try.prog.cellsOf 3 = 1 := by kernel_rfl
/-- Twelve numbers are the same as themselves. -/
theorem sides_eq (s : Nat → Int) (w : World) : (Op.equalIn 10000 23 (.agg #[.int .i64 (s 0), .int .i64 (s 1), .int .i64 (s 2), .int .i64 (s 3), .int .i64 (s 4), .int .i64 (s 5), .int .i64 (s 6), .int .i64 (s 7), .int .i64 (s 8), .int .i64 (s 9), .int .i64 (s 10), .int .i64 (s 11)]) (.agg #[.int .i64 (s 0), .int .i64 (s 1), .int .i64 (s 2), .int .i64 (s 3), .int .i64 (s 4), .int .i64 (s 5), .int .i64 (s 6), .int .i64 (s 7), .int .i64 (s 8), .int .i64 (s 9), .int .i64 (s 10), .int .i64 (s 11)])).run Try.prog w = .ok true w := by
  obtain ⟨i, hi⟩ : ∃ i, Try.prog.info? 3 = some i := Option.isSome_iff_exists.1 (by kernel_rfl)
  obtain ⟨i, hi, hs⟩ : ∃ i, Try.prog.info? 3 = some i ∧ i.size = 1 := by
    have h : (Try.prog.info? 3).map (·.size) = some 1 := by kernel_rfl
    rw [hi] at h
    exact ⟨i, hi, by simpa using h⟩
  rw [run_equalIn_array w 9999 _ _ Try.underlying23 hi, cells_int]
  simp [List.range, List.range.loop, Op.eqItems, Sem.run_bind, part, sizeOf, typeInfo, hi, hs, isAgg, Try.underlying3, run_underlying, run_equalIn_int]

set_option maxRecDepth 100000 in
set_option maxHeartbeats 3200000 in
theorem same_any (A A' : Option Addr) (c c' : Nat) (s : Nat → Int) (l : List Pst.Mail) (w : World) (hl : l.length ≤ 5000000000000) (hi : mailLay.Reads w w.heap.size A l) (hi' : mailLay.Reads w w.heap.size A' l) :
    Calls Try.prog 11 #[pv A l.length c s, pv A' l.length c' s] w fun e w' => e = .returned (.bool true) ∧ Below w.heap.size w w' := by
  obtain ⟨HP0, HQ0, HB0, _⟩ := made2 w 25 (pc A l.length c s) 25 (pc A' l.length c' s)
  have HI := Lib.hid hi
  have HI' := Lib.hid hi'
  have HGet : Hid (∀ k, k < l.length → ∃ x, l[k]? = some x) := Lib.hid fun k hk => Lay.get_of hk
  clear hi hi'
  generalize hn : l.length = n at *
  have HN := Lib.hid hn
  clear hn
  have hnn : ((n : Int) != (n : Int)) = false := by simp
  have hsd := sides_eq s
  unfold pv pc
  unfold pc at HP0 HQ0
  go_enter Try.func11, Try.ntmps11
  go_wp2_with fail
  go_loopw [5] (fun vi wr => ∃ k : Nat, k ≤ n ∧ vi = .int .i64 k ∧ Hid (Blk wr w.heap.size 25 (pc A n c s)) ∧ Hid (Blk wr (w.heap.size + 1) 25 (pc A' n c' s)) ∧ Hid (Below w.heap.size w wr)) (fun vi _ => n - (intOf vi).toNat)
  case atStart => exact ⟨0, Nat.zero_le _, rfl, HP0, HQ0, HB0⟩
  case round =>
    obtain ⟨k, hk, rfl, HP, HQ, HB⟩ := hrel
    obtain ⟨x0, _⟩ := Blk.one HP 0 (v := .slice A n c) rfl
    obtain ⟨x1, _⟩ := Blk.one HQ 0 (v := .slice A' n c') rfl
    clear HP0 HQ0 HB0
    by_cases hlt : k < n
    · obtain ⟨x, hx⟩ := HGet.out k hlt
      obtain ⟨b, o, rfl, hb, hc⟩ := HI.out (by rw [HN.out]; omega)
      obtain ⟨b', o', rfl, hb', hc'⟩ := HI'.out (by rw [HN.out]; omega)
      obtain ⟨c0, c1, c2, c3⟩ := at_mail ((hc k x hx).keep (w' := wr) fun p hp => HB.out.cell (by rw [hp]; exact hb))
      obtain ⟨d0, d1, d2, d3⟩ := at_mail ((hc' k x hx).keep (w' := wr) fun p hp => HB.out.cell (by rw [hp]; exact hb'))
      clear hc hc' hx
      have hk1 : (0 : Int) ≤ (k : Int) := by omega
      have hk2 : (k : Int) < (n : Int) := by omega
      obtain ⟨xf, xt, xd, xs⟩ := x
      simp only at c0 c1 c2 c3 d0 d1 d2 d3
      go_wp2_with fail
      go_quiet (fail)
      go_wp2_with fail
      exact ⟨⟨k + 1, by omega, by go_num, Lib.hid (HP.out.drewN _), Lib.hid (HQ.out.drewN _), Lib.hid (Lift.drewN_then HB.out _)⟩, by simp [intOf]; omega⟩
    · obtain rfl : k = n := by omega
      go_wp2_with fail
      go_ret
      exact ⟨rfl, HB.out⟩

theorem near_step {a b : ByteArray} {k : Nat} {x y : UInt8} (hx : a.data.toList[k]? = some x) (hy : b.data.toList[k]? = some y) :
    Pst.diffs (a.data.toList.take (k + 1)) (b.data.toList.take (k + 1)) = Pst.diffs (a.data.toList.take k) (b.data.toList.take k) + (if x = y then 0 else 1) := Pst.diffs_take _ _ _ _ _ hx hy
set_option maxHeartbeats 3200000 in
theorem near_any (a b : ByteArray) (w : World) (ha : a.size ≤ 9223372036854775807) (_hb : b.size ≤ 9223372036854775807) :
    Calls Try.prog 12 #[.string a, .string b] w fun e w' => e = .returned (.tuple #[.bool (Pst.near a b).1, .bool (Pst.near a b).2]) ∧ ∃ m, w' = w.drewN m := by
  by_cases hs : a.size = b.size
  · have HE := Lib.hid (Pst.near_size hs)
    have hn1 : ((b.size : Int) != (b.size : Int)) = false := by simp
    have HA : Hid (Pst.diffs (a.data.toList.take b.size) (b.data.toList.take b.size) = Pst.diffs a.data.toList b.data.toList) := Lib.hid (by
      rw [List.take_of_length_le (by rw [Array.length_toList]; show a.size ≤ _; omega), List.take_of_length_le (by rw [Array.length_toList]; show b.size ≤ _; omega)])
    have HLe : Hid (∀ k, k ≤ b.size → Pst.diffs (a.data.toList.take k) (b.data.toList.take k) ≤ k) := Lib.hid fun k hk => Nat.le_trans (Pst.diffs_le _ _) (by rw [List.length_take]; omega)
    have HSt : Hid (∀ (k : Nat) (h1 : k < a.size) (h2 : k < b.size), Pst.diffs (a.data.toList.take (k + 1)) (b.data.toList.take (k + 1)) = Pst.diffs (a.data.toList.take k) (b.data.toList.take k) + (if a[k] = b[k] then 0 else 1)) := Lib.hid fun k h1 h2 =>
      near_step (by rw [Array.getElem?_toList]; exact Array.getElem?_eq_getElem (by exact h1)) (by rw [Array.getElem?_toList]; exact Array.getElem?_eq_getElem (by exact h2))
    have HSz := Lib.hid hs
    go_enter Try.func12, Try.ntmps12
    go_wp2_with fail
    go_loopw [6, 7] (fun vn vi wr => ∃ k m : Nat, k ≤ b.size ∧ vi = .int .i64 k ∧ vn = .int .i64 (Pst.diffs (a.data.toList.take k) (b.data.toList.take k) : Nat) ∧ wr = w.drewN m) (fun _ vi _ => b.size - (intOf vi).toNat)
    case atStart => exact ⟨0, 0, Nat.zero_le _, rfl, by simp [Pst.diffs], rfl⟩
    case round =>
      obtain ⟨k, m, hk, rfl, rfl, rfl⟩ := hrel
      have hle := HLe.out k hk
      by_cases hlt : k < b.size
      · have ha' : k < a.size := by omega
        have HST := Lib.hid (HSt.out k ha' hlt)
        have hk1 : (0 : Int) ≤ (k : Int) := by omega
        have hk2 : (k : Int) < (b.size : Int) := by omega
        have hk3 : (k : Int) < (a.size : Int) := by omega
        generalize Pst.diffs (a.data.toList.take k) (b.data.toList.take k) = d at *
        by_cases hxy : a[k] = b[k]
        · have h1 : ((a[k].toNat : Int) != (b[k].toNat : Int)) = false := by simp [hxy]
          have HD : Hid (Pst.diffs (a.data.toList.take (k + 1)) (b.data.toList.take (k + 1)) = d) := Lib.hid (by rw [HST.out, if_pos hxy]; rfl)
          clear hxy HST
          go_wp2_with fail
          go_quiet (fail)
          go_wp2_with fail
          exact ⟨⟨k + 1, m + nq, by omega, by go_num, by rw [HD.out], rfl⟩, by simp [intOf]; omega⟩
        · have h1 : ((a[k].toNat : Int) != (b[k].toNat : Int)) = true := by simp; intro e; exact hxy (UInt8.toNat_inj.1 (by omega))
          have HD : Hid (Pst.diffs (a.data.toList.take (k + 1)) (b.data.toList.take (k + 1)) = d + 1) := Lib.hid (by rw [HST.out, if_neg hxy])
          have hd1 : IntKind.i64.wrap ((d : Int) + 1) = (d : Int) + 1 := IntWalk.i64_in _ (by omega)
          clear hxy HST
          go_wp2_with fail
          go_quiet (fail)
          go_wp2_with fail
          exact ⟨⟨k + 1, m + nq, by omega, by go_num, by rw [HD.out]; go_num, rfl⟩, by simp [intOf]; omega⟩
      · obtain rfl : k = b.size := by omega
        rw [HA.out]
        generalize Pst.diffs a.data.toList b.data.toList = d at *
        clear HSt HLe HA hle
        go_wp2_with fail
        go_ret2
        refine ⟨?_, m, rfl⟩
        rw [HE.out]
        have e1 : decide ((d : Int) ≤ 1) = decide (d ≤ 1) := decide_eq_decide.2 (by omega)
        have e2 : ((d : Int) == 0) = decide (d = 0) := by rw [Bool.beq_eq_decide_eq]; exact decide_eq_decide.2 (by omega)
        show Ending.returned (.tuple #[.bool (decide ((d : Int) ≤ 1)), .bool ((d : Int) == 0)]) = Ending.returned (.tuple #[.bool (decide (d ≤ 1)), .bool (decide (d = 0))])
        rw [e1, e2]
  · have HE := Lib.hid (Pst.near_not hs)
    have hs2 : ((a.size : Int) != (b.size : Int)) = true := by simp; omega
    go_enter Try.func12, Try.ntmps12
    go_wp2_with fail
    go_ret2
    exact ⟨by rw [HE.out]; rfl, 0, rfl⟩
end Go.Proofs.Ytkajnmlglgjocaa
