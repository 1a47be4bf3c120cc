/-
  The laws NumTexts, NumReads: each returns true whatever is handed in, and nothing that was there is turned.
  The library's table of places, and its variable for a wrong form, are as its text lays them.
-/
import Derived.Test.YtldlckhkgofgdaaDoorHexRead
import Derived.Test.YtldlckhkgofgdaaDoorLift
namespace Go.Proofs.YtldlckhkgofgdaaDoor
open Go.RowKit

theorem reach_num : reachBytes = 140737488351232 := by decide
theorem TabOk.drewN {w : World} (h : TabOk w) (n : Nat) : TabOk (w.drewN n) := h
theorem hex_ans {b : Nat} (hb : b < 18446744073709551616) : readAns (hexText (Num.M b)) = (Num.M b, 0) :=
  readAns_some (hexText_size _) (hexText_pl (Num.M_lt hb)) (Num.M_M b)

set_option maxHeartbeats 1000000 in
theorem texts_yes (b : Int) (w : World) (hb : (Lit.int .u64 b).wf = true) (ht : TabOk w) (hv : ErrOk w) : Lift.Yes Tryd.prog 3 #[.int .u64 b] w := by
  obtain ⟨b, rfl, hlt⟩ := u64_lt hb
  clear hb
  have H1 := Lib.hid (fun w ht => text_any b w hlt ht)
  have HR := Lib.hid (fun w ht hv => read_any (hexText (Num.M b)) w (by rw [hexText_size]; decide) ht hv)
  have H2 := Lib.hid (fun w => rtext_any b w hlt)
  have H3 := Lib.hid (fun w => make_any b w hlt)
  unfold IsAns at HR
  rw [hex_ans hlt] at HR
  generalize hexText (Num.M b) = s at *
  generalize Num.M b = x at *
  have HT := Lib.hid ht
  have HV := Lib.hid hv
  clear ht hv
  unfold Lift.Yes
  go_enter Tryd.func3, Tryd.ntmps3
  go_wp2_with fail
  refine (H1.out _ HT.out).mono ?_; rintro e w1 ⟨rfl, b1⟩
  have HT1 := Lib.hid (HT.out.below b1)
  have HV1 := Lib.hid (HV.out.below b1)
  go_wp2_with fail
  refine (HR.out _ HT1.out HV1.out).mono ?_; rintro e w2 ⟨rfl, b2⟩
  have HT2 := Lib.hid (HT1.out.below b2)
  go_wp2_with fail
  refine (awake_any _).mono ?_; rintro e w' ⟨rfl, n, rfl⟩
  go_wp2_with fail
  refine (H1.out _ (HT2.out.drewN n)).mono ?_; rintro e w3 ⟨rfl, b3⟩
  go_wp2_with fail
  refine (H2.out _).mono ?_; rintro e w4 ⟨rfl, b4⟩
  go_wp2_with fail
  refine (H3.out _).mono ?_; rintro e w' ⟨rfl, rfl⟩
  go_wp2_with fail
  go_ret
  exact ⟨rfl, Lift.then3 (Lift.drewN_then (Lift.then2 b1 b2) n) b3 b4⟩

set_option maxHeartbeats 1000000 in
theorem reads_yes (s : ByteArray) (w : World) (hs : s.size ≤ reachBytes) (ht : TabOk w) (hv : ErrOk w) : Lift.Yes Tryd.prog 4 #[.string s] w := by
  have hm : s.size ≤ maxLen := Nat.le_trans hs (by decide)
  have H1 := Lib.hid (read_any s w hm ht hv)
  have H2 := Lib.hid (fun w => rread_any s w hm)
  unfold IsAns at H1
  generalize readAns s = r at *
  obtain ⟨r1, r2⟩ := r
  clear ht hv
  unfold Lift.Yes
  go_enter Tryd.func4, Tryd.ntmps4
  go_wp2_with fail
  refine (H1.out).mono ?_; rintro e w1 ⟨rfl, b1⟩
  go_wp2_with fail
  refine (H2.out _).mono ?_; rintro e w' ⟨rfl, rfl⟩
  go_wp2_with fail
  refine (awake_any _).mono ?_; rintro e w' ⟨rfl, n, rfl⟩
  go_wp2_with fail
  go_ret
  exact ⟨rfl, Lift.drewN_then b1 n⟩

end Go.Proofs.YtldlckhkgofgdaaDoor
