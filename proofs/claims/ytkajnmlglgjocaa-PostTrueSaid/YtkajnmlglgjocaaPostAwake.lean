/-
  What awake returns: the document's example.
  No condition.
-/
import Derived.Test.YtkajnmlglgjocaaPostSpoil
import Derived.WalkKit
import Derived.WalkSpells
import Derived.WalkLawsBesides
import Derived.Handy
import Derived.Deep.QuietTactic
import Derived.BigQuiet
import Derived.Deep.RegionWith
import Derived.Deep.RegionHeld3
import Derived.Deep.Draws
import Derived.Lib.Hide
import Derived.Lib.LazyBuf
namespace Go.Proofs.Ytkajnmlglgjocaa
open Go.RowKit


def ab : ByteArray := ⟨#[97, 98]⟩
def aa : ByteArray := ⟨#[97, 97]⟩
theorem wake1 : Pst.send Pst.empty ⟨0, 1, ab, false⟩ = (⟨[⟨0, 1, ab, false⟩], fun _ => 0⟩, 0) := by
  unfold Pst.send
  rw [if_pos (by decide), if_neg (by decide)]
  unfold Pst.put
  rw [if_neg (by decide)]
  rfl
theorem wake_turned : Pst.turned ab 1 3 = aa := by decide
theorem wake2 : Pst.spoil ⟨[⟨0, 1, ab, false⟩], fun _ => 0⟩ 0 1 3 = (⟨[⟨0, 1, aa, true⟩], fun _ => 0⟩, 0) := by
  have h : Pst.at' ⟨[⟨0, 1, ab, false⟩], fun _ => 0⟩ 0 = some ⟨0, 1, ab, false⟩ := rfl
  unfold Pst.spoil
  rw [h]
  simp only
  rw [if_pos (by decide), if_neg (by decide)]
  simp only [Int.toNat_zero, Int.toNat_one, wake_turned]
  rfl
theorem wake3 : Pst.take ⟨[⟨0, 1, aa, true⟩], fun _ => 0⟩ 0 = (⟨[], fun _ => 0⟩, ⟨0, 1, aa, true⟩, true, 0) := by
  have h : Pst.at' ⟨[⟨0, 1, aa, true⟩], fun _ => 0⟩ 0 = some ⟨0, 1, aa, true⟩ := rfl
  unfold Pst.take
  rw [h]
  rfl
set_option maxRecDepth 100000 in
set_option maxHeartbeats 3200000 in
theorem awake_any (w : World) : Calls Try.prog 10 #[] w fun e w' => e = .returned (.bool true) ∧ Below w.heap.size w w' := by
  have H1 : Hid (Calls Try.prog 13 #[.agg (pc none 0 0 fun _ => 0), .agg #[.int .i64 0, .int .i64 1, .string ab, .bool false]] w (IsPE (⟨[⟨0, 1, ab, false⟩], fun _ => 0⟩, 0) w)) := Lib.hid (by
    have h := send_any none 0 0 Pst.empty ⟨0, 1, ab, false⟩ w rfl (by decide) (Lay.Reads.nil _ _ _) (fun _ => rfl)
    rw [wake1] at h
    exact h)
  have H2 : Hid (∀ (A : Option Addr) (c : Nat) (W : World), mailLay.Reads W W.heap.size A [⟨0, 1, ab, false⟩] → (A = none → ([⟨0, 1, ab, false⟩] : List Pst.Mail) = []) → Calls Try.prog 17 #[.agg (pc A 1 c fun _ => 0), .int .i64 0, .int .i64 1, .int .u8 3] W (IsPE (⟨[⟨0, 1, aa, true⟩], fun _ => 0⟩, 0) W)) := Lib.hid fun A c W hi hA => by
    have h := spoil_any A 1 c ⟨[⟨0, 1, ab, false⟩], fun _ => 0⟩ 0 1 3 W rfl (by decide) hi hA (by decide)
    rw [wake2] at h
    exact h
  have H3 : Hid (∀ (A : Option Addr) (c : Nat) (W : World), mailLay.Reads W W.heap.size A [⟨0, 1, aa, true⟩] → (A = none → ([⟨0, 1, aa, true⟩] : List Pst.Mail) = []) → 1 ≤ c → Calls Try.prog 14 #[.agg (pc A 1 c fun _ => 0), .int .i64 0] W (IsTX A c [⟨0, 1, aa, true⟩] (⟨[], fun _ => 0⟩, ⟨0, 1, aa, true⟩, true, 0) W)) := Lib.hid fun A c W hi hA hc => by
    have h := take_any A c ⟨[⟨0, 1, aa, true⟩], fun _ => 0⟩ 0 W (by simp) hi hA hc
    rw [wake3] at h
    exact h
  unfold pc at H1
  go_enter Try.func10, Try.ntmps10
  go_wp2_with fail
  refine (H1.out).mono ?_; rintro e w1 ⟨A1, c1, rfl, o1, b1⟩
  have HO1 := Lib.hid (o1.alloc (.cells (pc none 0 0 fun _ => 0) 25))
  have HB1 := Lib.hid (b1.alloc b1.size (.cells (pc none 0 0 fun _ => 0) 25))
  have HQ1 := Lib.hid (Blk.new w1 25 (pc none 0 0 fun _ => 0))
  have hs1 := b1.size
  clear o1 b1 H1
  go_wp2_with (refine wpList_sp (A' := A1) (n' := 1) (c' := c1) (s' := fun _ => 0) rfl _ _ rfl HQ1 rfl rfl hs1 ?_)
  intro w2 HS2
  have HO2 := Lib.hid (HO1.out.turned ne_mp HS2.out.turns)
  have HB2 := Lib.hid (below_turns HB1.out HS2.out.turns (Nat.le_refl _))
  have HP2 := Lib.hid HS2.out.blk
  clear HO1 HB1 HQ1 HS2
  go_wp2_with (refine wpList_lp rfl _ rfl HP2 rfl ?_)
  refine (H2.out _ _ _ HO2.out.reads.2 (own_none HO2.out)).mono ?_; rintro e w3 ⟨A3, c3, rfl, o3, b3⟩
  have HO3 := Lib.hid (o3.mono HB2.out.size)
  have HB3 := Lib.hid (Lift.then2 HB2.out b3)
  have HP3 := Blk.hb HP2 b3
  clear o3 b3 H2 HO2
  go_wp2_with (refine wpList_sp (A' := A3) (n' := 1) (c' := c3) (s' := fun _ => 0) rfl _ _ rfl HP3 rfl rfl hs1 ?_)
  intro w4 HS4
  have HO4 := Lib.hid (HO3.out.turned ne_mp HS4.out.turns)
  have HB4 := Lib.hid (below_turns HB3.out HS4.out.turns (Nat.le_refl _))
  have HP4 := Lib.hid HS4.out.blk
  clear HO3 HB3 HP3 HS4 HB2 HP2
  go_wp2_with (refine wpList_lp rfl _ rfl HP4 rfl ?_)
  refine (H3.out _ _ _ HO4.out.reads.2 (own_none HO4.out) HO4.out.cap).mono ?_; rintro e w5 ⟨A5, c5, rfl, o5, b5⟩
  have HB5 := Lib.hid (Lift.then2 HB4.out b5)
  have HP5 := Blk.hb HP4 b5
  obtain ⟨HQ6, HM6, HB6, hsz6⟩ := made2 w5 25 (pc none 0 0 fun _ => 0) 27 (mc Pst.noMail)
  have hP5 := HP5.out.lt
  have HP6 := Blk.hb HP5 HB6.out
  have HB7 := Lib.hid (Lift.then2 HB5.out HB6.out)
  have hs5 := HB5.out.size
  clear o5 b5 H3 HP4 HO4
  go_wp2_with (refine wpList_sp (A' := A5) (n' := 0) (c' := c5) (s' := fun _ => 0) rfl _ _ rfl HQ6 rfl rfl hs5 ?_)
  intro w7 HS7
  have HM7 := Lib.hid (HS7.out.far HM6.out (by omega))
  have HP7 := Lib.hid (HS7.out.far HP6.out (by omega))
  go_wp2_with (refine wpList_sm (m' := ⟨0, 1, aa, true⟩) rfl _ _ rfl HM7 rfl rfl (by omega : w.heap.size ≤ w5.heap.size + 1) ?_)
  intro w8 HS8
  obtain ⟨x0, _⟩ := Blk.one (Lib.hid HS8.out.blk) 2 (v := .string aa) rfl
  obtain ⟨x1, _⟩ := Blk.one (Lib.hid (HS8.out.far HS7.out.blk (by omega))) 0 (v := .slice A5 0 c5) rfl
  obtain ⟨x2, _⟩ := Blk.one (Lib.hid (HS8.out.far HP7.out (by omega))) 0 (v := .slice A3 1 c3) rfl
  have HB8 := Lib.hid (below_turns (below_turns HB7.out HS7.out.turns (Nat.le_refl _)) HS8.out.turns (Nat.le_refl _))
  have haa : aa.toList = [97, 97] := by kernel_rfl
  go_wp2_with fail
  go_ret
  exact ⟨rfl, HB8.out⟩
end Go.Proofs.Ytkajnmlglgjocaa
