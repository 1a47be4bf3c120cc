/-
  The laws LockDoes and LockWaits: each returns true, and leaves what came in as it was.
  No condition but what the slice reads as.
-/
import Derived.Test.YtahmcgnlpogfaaaLockAwake
import Derived.Test.YtahmcgnlpogfaaaLockRef
set_option linter.unusedSimpArgs false
set_option linter.unusedVariables false
namespace Go.Proofs.Ytahmcgnlpogfaaa
open Go.RowKit

theorem fits_tk {l : List Rf} {r : Rf} (h : Fits rfLay rF l) : Fits rfLay rF (Lck.tkL l r) := by
  unfold Lck.tkL
  split
  next h0 =>
    unfold Lck.tkE at h0
    split at h0
    next hr =>
      have h1 := Lck.right_len hr.1
      refine ⟨fun x hx => trivial, ?_⟩
      rw [List.length_append]
      show (l.length + 1) * 24 ≤ _
      omega
    next => cases h0
  next => exact h
theorem fits_fr {l : List Rf} {r : Rf} (h : Fits rfLay rF l) : Fits rfLay rF (Lck.frL l r) := by
  unfold Lck.frL
  split
  · exact h.sub (fun x hx => List.mem_of_mem_drop hx) (by rw [List.length_drop]; omega)
  · exact h
theorem fits_dr {l : List Rf} {r : Rf} (h : Fits rfLay rF l) : Fits rfLay rF (Lck.drL l r) := by
  unfold Lck.drL
  split
  · exact h.sub (fun x hx => (List.mem_filter.1 hx).1) (Lck.wo_le l r)
  · exact h
set_option maxRecDepth 100000 in
set_option maxHeartbeats 25600000 in
theorem does_yes (A : Option Addr) (c n : Nat) (l : List Rf) (r : Rf) (w : World) (hs : Sls rfLay rF w A n c l) :
    Calls Try.prog 3 #[.slice A n c, .agg #[.int .i64 r.c, .int .i64 r.e, .int .i64 r.r]] w (fun e w' => e = .returned (.bool true) ∧ Below w.heap.size w w') := by
  have HS := Lib.hid hs
  have HFl := Lib.hid hs.fit
  have HFt := Lib.hid (fits_tk (r := r) hs.fit)
  have HFf := Lib.hid (fits_fr (r := r) hs.fit)
  have HFd := Lib.hid (fits_dr (r := r) hs.fit)
  have HTw := Lib.hid (fun W (hW : Below w.heap.size w W) => ltwin_any A c n l W (hs.later hW))
  have HT := Lib.hid (fun W (hW : Below w.heap.size w W) => ltake_any A c n l r W (hs.later hW))
  have HRT := Lib.hid (fun W A c n (h : Sls rfLay rF W A n c l) => rltake_any A c n l r W h)
  have HF := Lib.hid (fun W (hW : Below w.heap.size w W) => lfree_any A c n l r W (hs.later hW))
  have HRF := Lib.hid (fun W A c n (h : Sls rfLay rF W A n c l) => rlfree_any A c n l r W h)
  have HD := Lib.hid (fun W (hW : Below w.heap.size w W) => ldrop_any A c n l r W (hs.later hW))
  have HRD := Lib.hid (fun W A c n (h : Sls rfLay rF W A n c l) => rldrop_any A c n l r W h)
  have HR := Lib.hid (fun W (hW : Below w.heap.size w W) => lright_any A c n l W (hs.later hW))
  have HRR := Lib.hid (fun W A c n (h : Sls rfLay rF W A n c l) => rlright_any A c n l W h)
  have HAw := Lib.hid (fun W => awake_any W)
  clear hs
  generalize Lck.tkL l r = tl at *
  generalize Lck.tkH l r = th at *
  generalize Lck.tkE l r = te at *
  generalize Lck.frL l r = fl at *
  generalize Lck.frN l r = fn at *
  generalize Lck.frS l r = fs at *
  generalize Lck.frE l r = fe at *
  generalize Lck.drL l r = dl at *
  generalize Lck.drN l r = dn at *
  generalize Lck.drS l r = ds at *
  generalize decide (Lck.Right l) = rr at *
  unfold IsTk IsTkr IsFr IsFrr IsDr IsDrr IsB IsLg at *
  have HE1 := Lib.hid (req_self fn)
  have HE2 := Lib.hid (req_self dn)
  have HK := kn1 w 24 #[.int .i64 r.c, .int .i64 r.e, .int .i64 r.r]
  go_enter Try.func3, Try.ntmps3
  go_wp2_with fail
  refine (HTw.out _ HK.out.b).mono ?_; rintro e w1 ⟨A0, n0, c0, rfl, o1, b1⟩
  replace HK := Lib.hid (HK.out.called b1 o1)
  simp only [List.nil_append] at HK
  clear b1 o1 HTw
  go_wp2_with (first | refine wpList_exe (kexec_lr HK 0 _ (by rfl) (by rfl) (by rfl)) (by rfl) ?_)
  refine (HT.out _ HK.out.b).mono ?_; rintro e w1 ⟨A1, n1, c1, rfl, o1, b1⟩
  replace HK := Lib.hid (HK.out.called b1 o1)
  simp only [List.cons_append, List.nil_append] at HK
  clear b1 o1 HT
  go_wp2_with (first | refine wpList_exe (kexec_lr HK 0 _ (by rfl) (by rfl) (by rfl)) (by rfl) ?_)
  refine (HRT.out _ _ _ _ (Sls.own (HK.out.own 0 rfl) HFl.out)).mono ?_; rintro e w1 ⟨A2, n2, c2, rfl, o1, b1⟩
  obtain ⟨R1, HK1, hkeep, i2, hi2⟩ := HK.out.toldR b1 (i := 0) rfl o1
  replace HK := HK1
  have hi0 := Lib.hid (hkeep 0 _ rfl)
  have hi1 := Lib.hid (hkeep 1 _ rfl)
  replace hi2 := Lib.hid hi2
  clear b1 o1 HK1 hkeep HRT
  go_wp2_with (first | refine wpList_exe (kexec_lr HK 0 _ (by rfl) (by rfl) (by rfl)) (by rfl) ?_)
  refine (HF.out _ HK.out.b).mono ?_; rintro e w1 ⟨A3, n3, c3, rfl, o1, b1⟩
  replace HK := Lib.hid (HK.out.called b1 o1)
  replace hi0 := Lib.hid (get_put (z := row rfLay (.slice A3 n3 c3) fl) hi0.out)
  replace hi1 := Lib.hid (get_put (z := row rfLay (.slice A3 n3 c3) fl) hi1.out)
  replace hi2 := Lib.hid (get_put (z := row rfLay (.slice A3 n3 c3) fl) hi2.out)
  have hi3 := Lib.hid (get_last R1 (row rfLay (.slice A3 n3 c3) fl))
  clear b1 o1 HF
  generalize R1.length = i3 at *
  generalize R1 ++ [row rfLay (.slice A3 n3 c3) fl] = R2 at *
  go_wp2_with (first | (refine wpList_akr HK rfl rfl ?_; intro _ g3 HK'; simp only [List.cons_append, List.nil_append] at HK'; replace HK := HK'; clear HK') | (refine wpList_sr HK 1 rfl _ _ rfl rfl rfl rfl ?_; intro _ HK'; simp only [List.set] at HK'; replace HK := HK'; clear HK') | refine wpList_exe (kexec_lr HK 0 _ (by rfl) (by rfl) (by rfl)) (by rfl) ?_)
  refine (HRF.out _ _ _ _ (Sls.own (HK.out.own 0 hi0.out) HFl.out)).mono ?_; rintro e w1 ⟨A4, n4, c4, rfl, o1, b1⟩
  obtain ⟨R3, HK1, hkeep, i4, hi4⟩ := HK.out.toldR b1 (i := 0) hi0.out o1
  replace HK := HK1
  replace hi0 := Lib.hid (hkeep 0 _ hi0.out)
  replace hi1 := Lib.hid (hkeep 1 _ hi1.out)
  replace hi2 := Lib.hid (hkeep i2 _ hi2.out)
  replace hi3 := Lib.hid (hkeep i3 _ hi3.out)
  replace hi4 := Lib.hid hi4
  clear b1 o1 HK1 hkeep HRF
  go_wp2_with (first | (refine wpList_akr HK rfl rfl ?_; intro _ g4 HK'; simp only [List.cons_append, List.nil_append] at HK'; replace HK := HK'; clear HK') | (refine wpList_sr HK 2 rfl _ _ rfl rfl rfl rfl ?_; intro _ HK'; simp only [List.set] at HK'; replace HK := HK'; clear HK') | refine wpList_exe (kexec_lr HK 0 _ (by rfl) (by rfl) (by rfl)) (by rfl) ?_)
  refine (HD.out _ HK.out.b).mono ?_; rintro e w1 ⟨A5, n5, c5, rfl, o1, b1⟩
  replace HK := Lib.hid (HK.out.called b1 o1)
  replace hi0 := Lib.hid (get_put (z := row rfLay (.slice A5 n5 c5) dl) hi0.out)
  replace hi1 := Lib.hid (get_put (z := row rfLay (.slice A5 n5 c5) dl) hi1.out)
  replace hi2 := Lib.hid (get_put (z := row rfLay (.slice A5 n5 c5) dl) hi2.out)
  replace hi3 := Lib.hid (get_put (z := row rfLay (.slice A5 n5 c5) dl) hi3.out)
  replace hi4 := Lib.hid (get_put (z := row rfLay (.slice A5 n5 c5) dl) hi4.out)
  have hi5 := Lib.hid (get_last R3 (row rfLay (.slice A5 n5 c5) dl))
  clear b1 o1 HD
  generalize R3.length = i5 at *
  generalize R3 ++ [row rfLay (.slice A5 n5 c5) dl] = R4 at *
  go_wp2_with (first | (refine wpList_akr HK rfl rfl ?_; intro _ g5 HK'; simp only [List.cons_append, List.nil_append] at HK'; replace HK := HK'; clear HK') | (refine wpList_sr HK 3 rfl _ _ rfl rfl rfl rfl ?_; intro _ HK'; simp only [List.set] at HK'; replace HK := HK'; clear HK') | refine wpList_exe (kexec_lr HK 0 _ (by rfl) (by rfl) (by rfl)) (by rfl) ?_)
  refine (HRD.out _ _ _ _ (Sls.own (HK.out.own 0 hi0.out) HFl.out)).mono ?_; rintro e w1 ⟨A6, n6, c6, rfl, o1, b1⟩
  obtain ⟨R5, HK1, hkeep, i6, hi6⟩ := HK.out.toldR b1 (i := 0) hi0.out o1
  replace HK := HK1
  replace hi0 := Lib.hid (hkeep 0 _ hi0.out)
  replace hi1 := Lib.hid (hkeep 1 _ hi1.out)
  replace hi2 := Lib.hid (hkeep i2 _ hi2.out)
  replace hi3 := Lib.hid (hkeep i3 _ hi3.out)
  replace hi4 := Lib.hid (hkeep i4 _ hi4.out)
  replace hi5 := Lib.hid (hkeep i5 _ hi5.out)
  replace hi6 := Lib.hid hi6
  clear b1 o1 HK1 hkeep HRD
  go_wp2_with (first | (refine wpList_akr HK rfl rfl ?_; intro _ g6 HK'; simp only [List.cons_append, List.nil_append] at HK'; replace HK := HK'; clear HK') | (refine wpList_sr HK 4 rfl _ _ rfl rfl rfl rfl ?_; intro _ HK'; simp only [List.set] at HK'; replace HK := HK'; clear HK'))
  refine (lsame_self _ _ _ _ _ _ tl _ (Sls.own (HK.out.own 1 hi1.out) HFt.out) (Sls.own (HK.out.own i2 hi2.out) HFt.out)).mono ?_; rintro e w1 ⟨rfl, b1⟩
  replace HK := Lib.hid (HK.out.call b1); clear b1
  go_wp2_with fail
  refine (lsame_self _ _ _ _ _ _ fl _ (Sls.own (HK.out.own i3 hi3.out) HFf.out) (Sls.own (HK.out.own i4 hi4.out) HFf.out)).mono ?_; rintro e w1 ⟨rfl, b1⟩
  replace HK := Lib.hid (HK.out.call b1); clear b1
  go_wp2_with fail
  refine (lsame_self _ _ _ _ _ _ dl _ (Sls.own (HK.out.own i5 hi5.out) HFd.out) (Sls.own (HK.out.own i6 hi6.out) HFd.out)).mono ?_; rintro e w1 ⟨rfl, b1⟩
  replace HK := Lib.hid (HK.out.call b1); clear b1
  go_wp2_with fail
  refine (lsame_self _ _ _ _ _ _ l _ (HS.out.later HK.out.b) (Sls.own (HK.out.own 0 hi0.out) HFl.out)).mono ?_; rintro e w1 ⟨rfl, b1⟩
  replace HK := Lib.hid (HK.out.call b1); clear b1
  go_wp2_with fail
  refine (HAw.out _).mono ?_; rintro e w1 ⟨rfl, b1⟩
  replace HK := Lib.hid (HK.out.call b1); clear b1
  go_wp2_with fail
  refine (HR.out _ HK.out.b).mono ?_; rintro e w1 ⟨rfl, b1⟩
  replace HK := Lib.hid (HK.out.call b1); clear b1
  go_wp2_with fail
  refine (HRR.out _ _ _ _ (Sls.own (HK.out.own 0 hi0.out) HFl.out)).mono ?_; rintro e w1 ⟨rfl, b1⟩
  replace HK := Lib.hid (HK.out.call b1); clear b1
  go_wp2_with (first | refine wpList_exe (kexec_lr HK 1 _ (by rfl) (by rfl) (by rfl)) (by rfl) ?_ | refine wpList_exe (kexec_lr HK 2 _ (by rfl) (by rfl) (by rfl)) (by rfl) ?_ | refine wpList_exe (kexec_lr HK 3 _ (by rfl) (by rfl) (by rfl)) (by rfl) ?_ | refine wpList_exe (kexec_lr HK 4 _ (by rfl) (by rfl) (by rfl)) (by rfl) ?_ | refine wpList_exe (exec_req (v := fn) (u := fn) _ _ (by rfl) (by rfl) (by rfl) HE1.out) (by rfl) ?_ | refine wpList_exe (exec_req (v := dn) (u := dn) _ _ (by rfl) (by rfl) (by rfl) HE2.out) (by rfl) ?_)
  go_ret
  exact ⟨rfl, HK.out.b⟩
end Go.Proofs.Ytahmcgnlpogfaaa
