/-
  The laws QueueDoes and QueueKeeps: each returns true, and leaves what came in as it was.
  No condition but what the slice reads as, and that floats' bits fit 64.
-/
import Derived.Test.YtieegdlphjkbdaaQueAwake
import Derived.Test.YtieegdlphjkbdaaQueRef
set_option linter.unusedSimpArgs false
set_option linter.unusedVariables false
namespace Go.Proofs.Ytieegdlphjkbdaa
open Go.RowKit

theorem fits_ps {N : Int} {l : List Val.V} {v : Val.V} (h : Fits vaLay vF l) (hv : vF v) : Fits vaLay vF (Que.psL N l v) := by
  unfold Que.psL
  split
  next h0 =>
    unfold Que.psE at h0
    split at h0
    next hr =>
      have h1 := hr.len
      have h2 := hr.hi
      refine ⟨fun x hx => ?_, ?_⟩
      · rcases List.mem_append.1 hx with hx | hx
        · exact h.fs x hx
        · rw [List.mem_singleton] at hx; subst hx; exact hv
      · rw [List.length_append]
        show (l.length + 1) * 40 ≤ _
        omega
    next => cases h0
  next => exact h
theorem fits_pp {N : Int} {l : List Val.V} (h : Fits vaLay vF l) : Fits vaLay vF (Que.ppL N l) := by
  unfold Que.ppL
  split
  · exact h.sub (fun x hx => List.mem_of_mem_drop hx) (by rw [List.length_drop]; omega)
  · exact h
theorem vF_pp {N : Int} {l : List Val.V} (h : Fits vaLay vF l) : vF (Que.ppV N l) := by
  unfold Que.ppV
  split
  · cases l with
    | nil => show (0 : Nat) < _; decide
    | cons x r => exact h.fs x (List.mem_cons_self ..)
  · show (0 : Nat) < _; decide
set_option maxRecDepth 100000 in
set_option maxHeartbeats 6400000 in
theorem does_yes (N : Int) (A : Option Addr) (c n : Nat) (l : List Val.V) (v : Val.V) (w : World) (hs : Sls vaLay vF w A n c l) (hv : vF v) :
    Calls Try.prog 3 #[.int .i64 N, .slice A n c, .agg #[.int .i64 v.k, .int .i64 v.n, .int .u64 (v.f : Int), .string v.s]] w (fun e w' => e = .returned (.bool true) ∧ Below w.heap.size w w') := by
  have HS := Lib.hid hs
  have HFl := Lib.hid hs.fit
  have HFp := Lib.hid (fits_ps (N := N) hs.fit hv)
  have HFc := Lib.hid (fits_pp (N := N) hs.fit)
  have HTw := Lib.hid (fun W (hW : Below w.heap.size w W) => qtwin_any A c n l W (hs.later hW))
  have HP := Lib.hid (fun W (hW : Below w.heap.size w W) => push_any N A c n l v W (hs.later hW) hv)
  have HRP := Lib.hid (fun W A c n (h : Sls vaLay vF W A n c l) => rpush_any N A c n l v W h hv)
  have HC := Lib.hid (fun W (hW : Below w.heap.size w W) => pop_any N A c n l W (hs.later hW))
  have HRC := Lib.hid (fun W A c n (h : Sls vaLay vF W A n c l) => rpop_any N A c n l W h)
  have HR := Lib.hid (fun W (hW : Below w.heap.size w W) => qright_any N A c n l W (hs.later hW))
  have HRR := Lib.hid (fun W A c n (h : Sls vaLay vF W A n c l) => rqright_any N A c n l W h)
  have HAw := Lib.hid (fun W => awake_any W)
  clear hs hv
  generalize Que.psL N l v = p at *
  generalize Que.psE N l v = pe at *
  generalize Que.ppL N l = x at *
  generalize Que.ppV N l = gv at *
  generalize Que.ppE N l = ge at *
  generalize decide (Que.Right N l) = r at *
  obtain ⟨k, m, f, s⟩ := v
  obtain ⟨gk, gm, gf, gs⟩ := gv
  unfold IsLEg IsQP IsQPr IsQVr IsB IsLg vv at *
  simp only at HP HRP HC HRC ⊢
  have HV := Lib.hid (show decide ((⟨gk, gm, gf, gs⟩ : Val.V) = ⟨gk, gm, gf, gs⟩) = true by simp)
  have HK := kn1 w 25 (vC k m f s)
  unfold vC at HK
  go_enter Try.func3, Try.ntmps3
  go_wp2_with fail
  refine (HTw.out _ HK.out.b).mono ?_; rintro e w1 ⟨A0, n0, c0, rfl, o1, b1⟩
  replace HK := Lib.hid (HK.out.called b1 o1)
  simp only [List.nil_append] at HK
  clear b1 o1 HTw
  go_wp2_with (first | refine wpList_of_exec (by rfl) (kexec_vv HK 0 _ (by rfl) (by rfl) (by rfl)) ?_)
  refine (HP.out _ HK.out.b).mono ?_; rintro e w1 ⟨A1, n1, c1, rfl, o1, b1⟩
  replace HK := Lib.hid (HK.out.called b1 o1)
  simp only [List.cons_append, List.nil_append] at HK
  clear b1 o1
  go_wp2_with (first | refine wpList_of_exec (by rfl) (kexec_vv HK 0 _ (by rfl) (by rfl) (by rfl)) ?_)
  refine (HRP.out _ _ _ _ (Sls.own (HK.out.own 0 rfl) HFl.out)).mono ?_; rintro e w1 ⟨A2, n2, c2, rfl, o1, b1⟩
  obtain ⟨R1, HK1, hkeep, i2, hi2⟩ := HK.out.toldR b1 (i := 0) rfl o1
  replace HK := HK1
  have hi0 := Lib.hid (hkeep 0 _ rfl)
  have hi1 := Lib.hid (hkeep 1 _ rfl)
  replace hi2 := Lib.hid hi2
  clear b1 o1 HK1 hkeep
  go_wp2_with fail
  refine (HC.out _ HK.out.b).mono ?_; rintro e w1 ⟨A3, n3, c3, rfl, o1, b1⟩
  replace HK := Lib.hid (HK.out.called b1 o1)
  replace hi0 := Lib.hid (get_put (z := row vaLay (.slice A3 n3 c3) x) hi0.out)
  replace hi1 := Lib.hid (get_put (z := row vaLay (.slice A3 n3 c3) x) hi1.out)
  replace hi2 := Lib.hid (get_put (z := row vaLay (.slice A3 n3 c3) x) hi2.out)
  have hi3 := Lib.hid (get_last R1 (row vaLay (.slice A3 n3 c3) x))
  clear b1 o1
  generalize R1.length = i3 at *
  generalize R1 ++ [row vaLay (.slice A3 n3 c3) x] = R2 at *
  go_wp2_with (first | (refine wpList_akv HK rfl rfl ?_; intro _ g3 HK'; simp only [List.cons_append, List.nil_append] at HK'; replace HK := HK'; clear HK') | (refine wpList_sv (f2 := gf) HK 1 rfl _ _ rfl rfl rfl rfl ?_; intro _ HK'; simp only [List.set] at HK'; replace HK := HK'; clear HK'))
  refine (HRC.out _ _ _ _ (Sls.own (HK.out.own 0 hi0.out) HFl.out)).mono ?_; rintro e w1 ⟨A4, n4, c4, rfl, o1, b1⟩
  obtain ⟨R3, HK1, hkeep, i4, hi4⟩ := HK.out.toldR b1 (i := 0) hi0.out o1
  replace HK := HK1
  replace hi0 := Lib.hid (hkeep 0 _ hi0.out)
  replace hi1 := Lib.hid (hkeep 1 _ hi1.out)
  replace hi2 := Lib.hid (hkeep i2 _ hi2.out)
  replace hi3 := Lib.hid (hkeep i3 _ hi3.out)
  replace hi4 := Lib.hid hi4
  clear b1 o1 HK1 hkeep
  go_wp2_with (first | (refine wpList_akv HK rfl rfl ?_; intro _ g4 HK'; simp only [List.cons_append, List.nil_append] at HK'; replace HK := HK'; clear HK') | (refine wpList_sv (f2 := gf) HK 2 rfl _ _ rfl rfl rfl rfl ?_; intro _ HK'; simp only [List.set] at HK'; replace HK := HK'; clear HK'))
  refine (HAw.out _).mono ?_; rintro e w1 ⟨rfl, b1⟩
  replace HK := Lib.hid (HK.out.call b1); clear b1
  go_wp2_with fail
  refine (HR.out _ HK.out.b).mono ?_; rintro e w1 ⟨rfl, b1⟩
  replace HK := Lib.hid (HK.out.call b1); clear b1
  go_wp2_with fail
  refine (HRR.out _ _ _ _ (Sls.own (HK.out.own 0 hi0.out) HFl.out)).mono ?_; rintro e w1 ⟨rfl, b1⟩
  replace HK := Lib.hid (HK.out.call b1); clear b1
  go_wp2_with fail
  refine (qsame_self _ _ _ _ _ _ p _ (Sls.own (HK.out.own 1 hi1.out) HFp.out) (Sls.own (HK.out.own i2 hi2.out) HFp.out)).mono ?_; rintro e w1 ⟨rfl, b1⟩
  replace HK := Lib.hid (HK.out.call b1); clear b1
  go_wp2_with fail
  refine (qsame_self _ _ _ _ _ _ x _ (Sls.own (HK.out.own i3 hi3.out) HFc.out) (Sls.own (HK.out.own i4 hi4.out) HFc.out)).mono ?_; rintro e w1 ⟨rfl, b1⟩
  replace HK := Lib.hid (HK.out.call b1); clear b1
  go_wp2_with (first | refine wpList_of_exec (by rfl) (kexec_vv HK 1 _ (by rfl) (by rfl) (by rfl)) ?_ | refine wpList_of_exec (by rfl) (kexec_vv HK 2 _ (by rfl) (by rfl) (by rfl)) ?_ | refine wpList_of_exec (by rfl) (exec_veq (v := ⟨gk, gm, gf, gs⟩) (u := ⟨gk, gm, gf, gs⟩) _ _ (by rfl) (by rfl) (by rfl) HV.out) ?_)
  refine (qsame_self _ _ _ _ _ _ l _ (HS.out.later HK.out.b) (Sls.own (HK.out.own 0 hi0.out) HFl.out)).mono ?_; rintro e w1 ⟨rfl, b1⟩
  replace HK := Lib.hid (HK.out.call b1); clear b1
  go_wp2_with fail
  go_ret
  exact ⟨rfl, HK.out.b⟩
theorem right_yes {N : Int} {A : Option Addr} {c n : Nat} {l : List Val.V} {w : World} (hr : Que.Right N l) (hs : Sls vaLay vF w A n c l) : Calls Try.prog 12 #[.int .i64 N, .slice A n c] w (fun e w' => e = .returned (.bool true) ∧ Below w.heap.size w w') := by
  have h := qright_any N A c n l w hs
  rw [decide_eq_true hr] at h
  exact h
set_option maxRecDepth 100000 in
set_option maxHeartbeats 6400000 in
theorem keeps_yes (N : Int) (A : Option Addr) (c n : Nat) (l : List Val.V) (v : Val.V) (w : World) (hs : Sls vaLay vF w A n c l) (hv : vF v) :
    Calls Try.prog 5 #[.int .i64 N, .slice A n c, .agg #[.int .i64 v.k, .int .i64 v.n, .int .u64 (v.f : Int), .string v.s]] w (fun e w' => e = .returned (.bool true) ∧ Below w.heap.size w w') := by
  have HS := Lib.hid hs
  have HP := Lib.hid (fun W (hW : Below w.heap.size w W) => push_any N A c n l v W (hs.later hW) hv)
  have HC := Lib.hid (fun W (hW : Below w.heap.size w W) => pop_any N A c n l W (hs.later hW))
  have HR := Lib.hid (fun W (hW : Below w.heap.size w W) => qright_any N A c n l W (hs.later hW))
  have HAw := Lib.hid (fun W => awake_any W)
  by_cases hr : Que.Right N l
  · have HFp := Lib.hid (fits_ps (N := N) hs.fit hv)
    have HFc := Lib.hid (fits_pp (N := N) hs.fit)
    have HR1 := Lib.hid (fun W A n c (h : Sls vaLay vF W A n c (Que.psL N l v)) => right_yes (Que.ps_right hr v) h)
    have HR2 := Lib.hid (fun W A n c (h : Sls vaLay vF W A n c (Que.ppL N l)) => right_yes (Que.pp_right hr) h)
    rw [decide_eq_true hr] at HR
    clear hs hv hr
    generalize Que.psL N l v = p at *
    generalize Que.psE N l v = pe at *
    generalize Que.ppL N l = x at *
    generalize Que.ppV N l = gv at *
    generalize Que.ppE N l = ge at *
    obtain ⟨k, m, f, s⟩ := v
    obtain ⟨gk, gm, gf, gs⟩ := gv
    unfold IsLEg IsQP IsB vv at *
    simp only at HP HC ⊢
    have HK := kn1 w 25 (vC k m f s)
    unfold vC at HK
    go_enter Try.func5, Try.ntmps5
    go_wp2_with (first | refine wpList_of_exec (by rfl) (kexec_vv HK 0 _ (by rfl) (by rfl) (by rfl)) ?_)
    refine (HP.out _ HK.out.b).mono ?_; rintro e w1 ⟨A1, n1, c1, rfl, o1, b1⟩
    replace HK := Lib.hid (HK.out.called b1 o1)
    simp only [List.nil_append] at HK
    clear b1 o1
    go_wp2_with fail
    refine (HC.out _ HK.out.b).mono ?_; rintro e w1 ⟨A3, n3, c3, rfl, o1, b1⟩
    replace HK := Lib.hid (HK.out.called b1 o1)
    simp only [List.cons_append, List.nil_append] at HK
    clear b1 o1
    go_wp2_with (first | (refine wpList_akv HK rfl rfl ?_; intro _ g3 HK'; simp only [List.cons_append, List.nil_append] at HK'; replace HK := HK'; clear HK') | (refine wpList_sv (f2 := gf) HK 1 rfl _ _ rfl rfl rfl rfl ?_; intro _ HK'; simp only [List.set] at HK'; replace HK := HK'; clear HK'))
    refine (HR.out _ HK.out.b).mono ?_; rintro e w1 ⟨rfl, b1⟩
    replace HK := Lib.hid (HK.out.call b1); clear b1
    go_wp2_with fail
    refine (HAw.out _).mono ?_; rintro e w1 ⟨rfl, b1⟩
    replace HK := Lib.hid (HK.out.call b1); clear b1
    go_wp2_with fail
    refine (HR1.out _ _ _ _ (Sls.own (HK.out.own 0 rfl) HFp.out)).mono ?_; rintro e w1 ⟨rfl, b1⟩
    replace HK := Lib.hid (HK.out.call b1); clear b1
    go_wp2_with fail
    refine (HR2.out _ _ _ _ (Sls.own (HK.out.own 1 rfl) HFc.out)).mono ?_; rintro e w1 ⟨rfl, b1⟩
    replace HK := Lib.hid (HK.out.call b1); clear b1
    go_wp2_with fail
    go_ret
    exact ⟨rfl, HK.out.b⟩
  · obtain ⟨e1, e2⟩ := Que.ps_bad hr v
    obtain ⟨e3, e4, e5⟩ := Que.pp_bad hr
    have HFl := Lib.hid hs.fit
    rw [e1, e2] at HP
    rw [e3, e4, e5] at HC
    rw [decide_eq_false hr] at HR
    clear hs hv hr e1 e2 e3 e4 e5
    obtain ⟨k, m, f, s⟩ := v
    unfold IsLEg IsQP IsB Que.emp vv at *
    simp only at HP HC ⊢
    have HV := Lib.hid (show decide ((⟨0, 0, 0, ⟨#[]⟩⟩ : Val.V) = ⟨0, 0, 0, ⟨#[]⟩⟩) = true by simp)
    have HK := kn1 w 25 (vC k m f s)
    unfold vC at HK
    go_enter Try.func5, Try.ntmps5
    go_wp2_with (first | refine wpList_of_exec (by rfl) (kexec_vv HK 0 _ (by rfl) (by rfl) (by rfl)) ?_)
    refine (HP.out _ HK.out.b).mono ?_; rintro e w1 ⟨A1, n1, c1, rfl, o1, b1⟩
    replace HK := Lib.hid (HK.out.called b1 o1)
    simp only [List.nil_append] at HK
    clear b1 o1
    go_wp2_with fail
    refine (HC.out _ HK.out.b).mono ?_; rintro e w1 ⟨A3, n3, c3, rfl, o1, b1⟩
    replace HK := Lib.hid (HK.out.called b1 o1)
    simp only [List.cons_append, List.nil_append] at HK
    clear b1 o1
    go_wp2_with (first | (refine wpList_akv HK rfl rfl ?_; intro _ g3 HK'; simp only [List.cons_append, List.nil_append] at HK'; replace HK := HK'; clear HK') | (refine wpList_sv (f2 := 0) HK 1 rfl _ _ rfl rfl rfl rfl ?_; intro _ HK'; simp only [List.set] at HK'; replace HK := HK'; clear HK'))
    refine (HR.out _ HK.out.b).mono ?_; rintro e w1 ⟨rfl, b1⟩
    replace HK := Lib.hid (HK.out.call b1); clear b1
    go_wp2_with fail
    refine (HAw.out _).mono ?_; rintro e w1 ⟨rfl, b1⟩
    replace HK := Lib.hid (HK.out.call b1); clear b1
    go_wp2_with (first | refine wpList_of_exec (by rfl) (kexec_vv HK 1 _ (by rfl) (by rfl) (by rfl)) ?_ | refine wpList_of_exec (by rfl) (exec_veq (v := ⟨0, 0, 0, ⟨#[]⟩⟩) (u := ⟨0, 0, 0, ⟨#[]⟩⟩) _ _ (by rfl) (by rfl) (by rfl) HV.out) ?_)
    refine (qsame_self _ _ _ _ _ _ l _ (Sls.own (HK.out.own 0 rfl) HFl.out) (HS.out.later HK.out.b)).mono ?_; rintro e w1 ⟨rfl, b1⟩
    replace HK := Lib.hid (HK.out.call b1); clear b1
    go_wp2_with fail
    refine (qsame_self _ _ _ _ _ _ l _ (Sls.own (HK.out.own 1 rfl) HFl.out) (HS.out.later HK.out.b)).mono ?_; rintro e w1 ⟨rfl, b1⟩
    replace HK := Lib.hid (HK.out.call b1); clear b1
    go_wp2_with fail
    go_ret
    exact ⟨rfl, HK.out.b⟩
end Go.Proofs.Ytieegdlphjkbdaa
