/-
  What the law StoreRefused returns: true.
  No condition but what the slice reads as, and that the floats are of 64 bits.
-/
import Derived.Test.YtpkodjllljnleaaMP
import Derived.Test.YtpkodjllljnleaaMB
import Derived.Test.YtpkodjllljnleaaStoReply
import Derived.Test.YtpkodjllljnleaaMR
set_option linter.unusedSimpArgs false
set_option linter.unusedVariables false
namespace Go.Proofs.Ytpkodjllljnleaa
open Go.RowKit

set_option maxRecDepth 100000 in
set_option maxHeartbeats 12800000 in
theorem refused_yes (A : Option Addr) (cp n : Nat) (l : List Oh) (r : Rf) (c : Cmd.C) (w : World) (hs : Obs w A n cp l) (hv : c.val.f < 18446744073709551616) (ho : c.old.f < 18446744073709551616) :
    Calls Try.prog 4 #[.slice A n cp, .agg #[.int .i64 r.c, .int .i64 r.e, .int .i64 r.r], .agg (cmA c)] w (fun e w' => e = .returned (.bool true) ∧ Below w.heap.size w w') := by
  have HA := Lib.hid oawake_any
  have HT := Lib.hid (fun W (hW : Below w.heap.size w W) => twin_keep A cp n l W (hs.later hW))
  have HD := Lib.hid (fun W (hW : Below w.heap.size w W) => sdo_any A cp n l r c W (hs.later hW) hv ho)
  have HS := Lib.hid same_yes
  have HNo := Lib.hid (Sto.doo_no (l := vs l) (r := r) (c := c))
  have HK := kn2 w 34 #[.int .i64 r.c, .int .i64 r.e, .int .i64 r.r] 36 (cmA c)
  unfold IsB at HA HS
  unfold IsKp at HT
  unfold IsDo at HD
  clear hs hv ho
  generalize Sto.doo (vs l) r c = Y at *
  obtain ⟨yl, ⟨pe, pv⟩, yt, ys⟩ := Y
  simp only at HD HNo
  go_enter Try.func4, Try.ntmps4
  go_wp2_with fail
  refine (HT.out _ HK.out.b).mono ?_; rintro e w1 ⟨A1, n1, c1, l1, R1, rfl, v1, k1, i1⟩
  replace HK := Lib.hid (HK.out.join k1)
  simp only [List.nil_append] at HK
  have HV1 := Lib.hid v1
  have HI1 := Lib.hid i1
  clear v1 k1 i1
  go_wp2_with (first | refine wpList_exe (kexec_lr HK 0 _ (by rfl) (by rfl) (by rfl)) (by rfl) ?_ | refine wpList_exe (kcm HK 1 _ (by rfl) (by rfl) (by rfl)) (by rfl) ?_)
  refine (HD.out _ HK.out.b).mono ?_; rintro e w1 ⟨A2, n2, c2, l2, O, k, d, R2, rfl, v2, k2, i2⟩
  replace HK := Lib.hid (HK.out.join k2)
  have HV2 := Lib.hid v2
  have HI2 := Lib.hid i2
  clear v2 k2 i2 HT HD
  by_cases hz : pe = 0
  · have hz2 : (pe == 0) = true := by simpa using hz
    clear hz
    go_wp2_with (first | (refine wpList_arp HK rfl rfl ?_; intro _ g9 HK'; simp only [List.cons_append, List.nil_append] at HK'; replace HK := HK'; clear HK') | (refine wpList_srp (q := ⟨pe, pv⟩) HK 2 rfl _ _ rfl rfl rfl rfl ?_; intro _ HK'; simp only [List.set] at HK'; replace HK := HK'; clear HK') | refine wpList_exe (krp_e HK 2 _ (by rfl) (by rfl) (by rfl)) (by rfl) ?_)
    refine (HA.out _).mono ?_; rintro e w1 ⟨rfl, b1⟩
    replace HK := Lib.hid (HK.out.call b1); clear b1
    go_wp2_with fail
    go_ret
    exact ⟨rfl, HK.out.b⟩
  obtain ⟨e1, e2, e3, e4⟩ := HNo.out hz
  subst e2 e3
  have HE1 : Hid (vs l2 = vs l1) := Lib.hid (by rw [HV2.out, e1, HV1.out])
  obtain rfl : k = 0 := (HI2.out _ _ _ _ _ HK.out (fun y hy => List.mem_append_right _ hy)).2.len.symm
  have hz2 : (pe == 0) = false := by simpa using hz
  clear e1 hz HNo
  by_cases h9 : pe = 9
  · subst h9
    clear e4 hz2
    go_wp2_with (first | (refine wpList_arp HK rfl rfl ?_; intro _ g9 HK'; simp only [List.cons_append, List.nil_append] at HK'; replace HK := HK'; clear HK') | (refine wpList_srp (q := ⟨9, pv⟩) HK 2 rfl _ _ rfl rfl rfl rfl ?_; intro _ HK'; simp only [List.set] at HK'; replace HK := HK'; clear HK') | refine wpList_exe (krp_e HK 2 _ (by rfl) (by rfl) (by rfl)) (by rfl) ?_)
    refine (HA.out _).mono ?_; rintro e w1 ⟨rfl, b1⟩
    replace HK := Lib.hid (HK.out.call b1); clear b1
    go_wp2_with fail
    refine (HS.out _ _ _ _ _ _ _ _ _ (HI2.out _ _ _ _ _ HK.out (fun y hy => List.mem_append_right _ hy)).1 (HI1.out _ _ _ _ _ HK.out (fun y hy => List.mem_append_left _ hy)) HE1.out).mono ?_; rintro e w1 ⟨rfl, b1⟩
    replace HK := Lib.hid (HK.out.call b1); clear b1
    go_wp2_with (first | refine wpList_exe (krp_e HK 2 _ (by rfl) (by rfl) (by rfl)) (by rfl) ?_)
    go_ret
    exact ⟨rfl, HK.out.b⟩
  · obtain rfl : pv = Sto.vn := e4.resolve_left h9
    have h9b : (pe == 9) = false := by simpa using h9
    clear e4 h9
    go_wp2_with (first | (refine wpList_arp HK rfl rfl ?_; intro _ g9 HK'; simp only [List.cons_append, List.nil_append] at HK'; replace HK := HK'; clear HK') | (refine wpList_srp (q := ⟨pe, Sto.vn⟩) HK 2 rfl _ _ rfl rfl rfl rfl ?_; intro _ HK'; simp only [List.set] at HK'; replace HK := HK'; clear HK') | refine wpList_exe (krp_e HK 2 _ (by rfl) (by rfl) (by rfl)) (by rfl) ?_)
    refine (HA.out _).mono ?_; rintro e w1 ⟨rfl, b1⟩
    replace HK := Lib.hid (HK.out.call b1); clear b1
    go_wp2_with fail
    refine (HS.out _ _ _ _ _ _ _ _ _ (HI2.out _ _ _ _ _ HK.out (fun y hy => List.mem_append_right _ hy)).1 (HI1.out _ _ _ _ _ HK.out (fun y hy => List.mem_append_left _ hy)) HE1.out).mono ?_; rintro e w1 ⟨rfl, b1⟩
    replace HK := Lib.hid (HK.out.call b1); clear b1
    go_wp2_with (first | refine wpList_exe (krp_e HK 2 _ (by rfl) (by rfl) (by rfl)) (by rfl) ?_ | refine wpList_exe (krp_v HK 2 _ (by rfl) (by rfl) (by rfl)) (by rfl) ?_ | refine wpList_exe (exec_veq (v := Sto.vn) (u := Sto.vn) _ _ (by rfl) (by rfl) (by rfl) (b := true) rfl) (by rfl) ?_)
    go_ret
    exact ⟨rfl, HK.out.b⟩
end Go.Proofs.Ytpkodjllljnleaa
