/-
  The laws FramePuts, FrameGets, FrameBack, FrameOnce: they return true whatever is handed in.
  No condition but the form's own reach of a string (2^47 - 4096 bytes).
-/
import Derived.Test.YtjmjmhconkalpaaFrameAwake
import Derived.Test.YtjmjmhconkalpaaLift
namespace Go.Proofs.Ytjmjmhconkalpaa
open Go.RowKit

theorem reach_num : reachBytes = 140737488351232 := by decide
theorem reach_max {s : ByteArray} (h : s.size ≤ reachBytes) : s.size ≤ maxLen := Nat.le_trans h (by decide)

theorem tmod_at (a : Int) (n : Nat) (hn : 0 < n) : ∃ p : Nat, p < n ∧ (IntKind.u64.wrap a).tmod (n : Int) = (p : Int) := by
  rw [IntKind.wrap_u64]
  obtain ⟨m, hm⟩ := Int.eq_ofNat_of_zero_le (show 0 ≤ a % 18446744073709551616 by omega)
  rw [hm]
  exact ⟨m % n, Nat.mod_lt _ hn, rfl⟩

theorem puts_yes (k : Int) (s : ByteArray) (w : World) (hs : s.size ≤ reachBytes) : Lift.Yes Try.prog 3 #[.int .i64 k, .string s] w := by
  have hm := reach_max hs
  have HP := Lib.hid (fun W => put_any k s W hm)
  have HR := Lib.hid (fun W => rput_any k s W hm)
  generalize (Frame.putOf k s.data.toList).1 = l at *
  generalize (Frame.putOf k s.data.toList).2 = x at *
  clear hs hm
  unfold Lift.Yes
  go_enter Try.func3, Try.ntmps3
  go_wp2_with fail
  refine (HP.out _).mono ?_; rintro e w1 ⟨rfl, b1⟩
  have HB1 := Lib.hid b1
  clear b1
  go_wp2_with fail
  refine (HR.out _).mono ?_; rintro e w2 ⟨rfl, b2⟩
  have HB2 := Lib.hid (HB1.out.trans (b2.mono HB1.out.size))
  clear b2
  go_wp2_with fail
  refine (awake_any _).mono ?_; rintro e w3 ⟨rfl, b3⟩
  have HB3 := Lib.hid (HB2.out.trans (b3.mono HB2.out.size))
  clear b3
  have hxx : (x == x) = true := by simp
  go_wp2_with fail
  go_ret
  exact ⟨rfl, HB3.out⟩

theorem gets_yes (s : ByteArray) (w : World) (hs : s.size ≤ reachBytes) : Lift.Yes Try.prog 4 #[.string s] w := by
  have hm := reach_max hs
  have HP := Lib.hid (fun W => get_any s W hm)
  have HR := Lib.hid (fun W => rget_any s W hm)
  generalize (Frame.getOf s.data.toList).1 = k at *
  generalize (Frame.getOf s.data.toList).2.1 = l at *
  generalize (Frame.getOf s.data.toList).2.2 = x at *
  clear hs hm
  unfold Lift.Yes
  go_enter Try.func4, Try.ntmps4
  go_wp2_with fail
  refine (HP.out _).mono ?_; rintro e w1 ⟨rfl, b1⟩
  have HB1 := Lib.hid b1
  clear b1
  go_wp2_with fail
  refine (HR.out _).mono ?_; rintro e w2 ⟨rfl, b2⟩
  have HB2 := Lib.hid (HB1.out.trans (b2.mono HB1.out.size))
  clear b2
  go_wp2_with fail
  refine (awake_any _).mono ?_; rintro e w3 ⟨rfl, b3⟩
  have HB3 := Lib.hid (HB2.out.trans (b3.mono HB2.out.size))
  clear b3
  have hxx : (x == x) = true := by simp
  go_wp2_with fail
  go_ret
  exact ⟨rfl, HB3.out⟩

set_option maxHeartbeats 1000000 in
theorem once_yes (s : ByteArray) (w : World) (hs : s.size ≤ reachBytes) : Lift.Yes Try.prog 7 #[.string s] w := by
  have hm := reach_max hs
  unfold Lift.Yes
  by_cases hx : (Frame.getOf s.data.toList).2.2 = 0
  · obtain ⟨k, b, hl, h1, h2, hb, hg⟩ := Frame.getOf_ok hx
    have HP := Lib.hid (fun W => get_is s W hm _ _ _ hg)
    have HR := Lib.hid (fun W => put_is k (Val.of b) W (by rw [Val.of_size]; unfold maxLen; omega) (Frame.put k b) 0 (by rw [Val.of_toList]; exact Frame.putOf_in h1 h2 hb))
    have hT : Val.of (Frame.put k b) = s := by rw [← hl, Val.of_self]
    rw [hT] at HR
    clear hs hm hx hg hl hT
    go_enter Try.func7, Try.ntmps7
    go_wp2_with fail
    refine (HP.out _).mono ?_; rintro e w1 ⟨rfl, b1⟩
    have HB1 := Lib.hid b1
    clear b1
    go_wp2_with fail
    refine (HR.out _).mono ?_; rintro e w2 ⟨rfl, b2⟩
    have HB2 := Lib.hid (HB1.out.trans (b2.mono HB1.out.size))
    clear b2
    go_wp2_with fail
    refine (awake_any _).mono ?_; rintro e w3 ⟨rfl, b3⟩
    have HB3 := Lib.hid (HB2.out.trans (b3.mono HB2.out.size))
    clear b3
    go_wp2_with fail
    go_ret
    exact ⟨rfl, HB3.out⟩
  · obtain ⟨h1, h2⟩ := Frame.getOf_not hx
    have HP := Lib.hid (fun W => get_is s W hm 0 [] (Frame.getOf s.data.toList).2.2 (by rw [← h1, ← h2]))
    generalize (Frame.getOf s.data.toList).2.2 = x at HP hx
    have hnil : (Val.of []).toList = [] := by rw [ByteArray.toList_eq, Val.of_toList]
    have hxn : (x == 0) = false := by simpa using hx
    have hxm : (x != 0) = true := by simpa using hx
    clear hs hm h1 h2 hx
    go_enter Try.func7, Try.ntmps7
    go_wp2_with fail
    refine (HP.out _).mono ?_; rintro e w1 ⟨rfl, b1⟩
    have HB1 := Lib.hid b1
    clear b1
    go_wp2_with fail
    refine (awake_any _).mono ?_; rintro e w3 ⟨rfl, b3⟩
    have HB3 := Lib.hid (HB1.out.trans (b3.mono HB1.out.size))
    clear b3
    go_wp2_with fail
    go_ret
    exact ⟨rfl, HB3.out⟩

set_option maxHeartbeats 1000000 in
theorem back_yes (k : Int) (s : ByteArray) (c : Int) (w : World) (hs : s.size ≤ reachBytes) : Lift.Yes Try.prog 5 #[.int .i64 k, .string s, .int .i64 c] w := by
  have hm := reach_max hs
  unfold Lift.Yes
  by_cases hx : (Frame.putOf k s.data.toList).2 = 0
  · obtain ⟨n, rfl, h1, h2, hb, hp⟩ := Frame.putOf_ok hx
    have hlen := Frame.put_length n s.data.toList
    obtain ⟨p, hpn, he⟩ := tmod_at c (Frame.put n s.data.toList).length (by omega)
    have hT : (Val.of (Frame.put n s.data.toList)).size = (Frame.put n s.data.toList).length := Val.of_size _
    have HP := Lib.hid (fun W => put_is n s W hm _ _ hp)
    have HG := Lib.hid (fun W => get_is (Val.of (Frame.put n s.data.toList)) W (by rw [Val.of_size]; unfold maxLen; omega) n s.data.toList 0 (by rw [Val.of_toList]; exact Frame.get_put n _ h1 h2 hb))
    have HL := Lib.hid (fun W => get_is (Val.of ((Frame.put n s.data.toList).take p)) W (by rw [Val.of_size, List.length_take]; unfold maxLen; omega) 0 [] 3 (by rw [Val.of_toList]; exact Frame.get_less n _ h1 h2 hb p hpn))
    have HM := Lib.hid (fun W => get_is (Val.of (Frame.put n s.data.toList) ++ (⟨#[0]⟩ : ByteArray)) W (by rw [show (⟨#[0]⟩ : ByteArray) = Val.of [0] from rfl, Val.of_append, Val.of_size, List.length_append]; show _ + 1 ≤ _; unfold maxLen; omega) 0 [] 3 (by rw [show (⟨#[0]⟩ : ByteArray) = Val.of [0] from rfl, Val.of_append, Val.of_toList]; exact Frame.get_more n _ _ h1 h2 hb (by simp)))
    have hcut := fun W => cut_to (Val.of (Frame.put n s.data.toList)) p (p : Int) rfl (by rw [Val.of_size]; omega) ((Frame.put n s.data.toList).take p) (by rw [Val.of_toList]) W
    rw [Val.of_self] at HG
    have hz : s.data.toList.length = s.size := by rw [Array.length_toList]; rfl
    rw [hz] at hlen hb
    generalize Val.of ((Frame.put n s.data.toList).take p) = U at *
    generalize hL : (Frame.put n s.data.toList).length = m at *
    generalize Val.of (Frame.put n s.data.toList) = T at *
    have hm1 : 8 ≤ m := by omega
    have hm2 : m ≤ 16392 := by omega
    clear hs hm hx hp hL hz hlen
    go_enter Try.func5, Try.ntmps5
    go_wp2_with fail
    refine (HP.out _).mono ?_; rintro e w1 ⟨rfl, b1⟩
    have HB1 := Lib.hid b1
    clear b1
    go_wp2_with fail
    refine (HG.out _).mono ?_; rintro e w2 ⟨rfl, b2⟩
    have HB2 := Lib.hid (HB1.out.trans (b2.mono HB1.out.size))
    clear b2
    go_wp2_with fail
    refine (HL.out _).mono ?_; rintro e w3 ⟨rfl, b3⟩
    have HB3 := Lib.hid (HB2.out.trans (b3.mono HB2.out.size))
    clear b3
    go_wp2_with fail
    refine (HM.out _).mono ?_; rintro e w4 ⟨rfl, b4⟩
    have HB4 := Lib.hid (HB3.out.trans (b4.mono HB3.out.size))
    clear b4
    go_wp2_with fail
    refine (awake_any _).mono ?_; rintro e w5 ⟨rfl, b5⟩
    have HB5 := Lib.hid (HB4.out.trans (b5.mono HB4.out.size))
    clear b5
    go_wp2_with fail
    go_ret
    exact ⟨rfl, HB5.out⟩
  · have hn := Frame.putOf_not hx
    have HP := Lib.hid (fun W => put_is k s W hm [] (Frame.putOf k s.data.toList).2 (by rw [← hn]))
    generalize (Frame.putOf k s.data.toList).2 = x at HP hx
    have hnil : (Val.of []).toList = [] := by rw [ByteArray.toList_eq, Val.of_toList]
    have hxn : (x == 0) = false := by simpa using hx
    have hxm : (x != 0) = true := by simpa using hx
    clear hs hm hx hn
    go_enter Try.func5, Try.ntmps5
    go_wp2_with fail
    refine (HP.out _).mono ?_; rintro e w1 ⟨rfl, b1⟩
    have HB1 := Lib.hid b1
    clear b1
    go_wp2_with fail
    refine (awake_any _).mono ?_; rintro e w3 ⟨rfl, b3⟩
    have HB3 := Lib.hid (HB1.out.trans (b3.mono HB1.out.size))
    clear b3
    go_wp2_with fail
    go_ret
    exact ⟨rfl, HB3.out⟩
end Go.Proofs.Ytjmjmhconkalpaa
