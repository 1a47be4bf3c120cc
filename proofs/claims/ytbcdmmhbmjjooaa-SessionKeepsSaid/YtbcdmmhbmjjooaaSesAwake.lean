/-
  What the law's own example returns.
  No condition but that floats and numbers fit 64 bits.
-/
import Derived.Test.YtbcdmmhbmjjooaaSesOpen
import Derived.Test.YtbcdmmhbmjjooaaSesBegin
import Derived.Test.YtbcdmmhbmjjooaaSesM4
set_option linter.unusedSimpArgs false
set_option linter.unusedVariables false
set_option maxRecDepth 100000
namespace Go.Proofs.Ytbcdmmhbmjjooaa
open Go.RowKit

theorem tz_is : tz = Ses.t0 := rfl
set_option maxHeartbeats 6400000 in
theorem sawake_any (w : World) : Calls Try.prog 8 #[] w (IsB true w) := by
  have HO : Hid (∀ W, Calls Try.prog 13 #[.agg (tbA Ses.t0), .agg #[.int .i64 0, .int .i64 1, .int .i64 0]] W (IsTP Ses.t1 Sto.rz W)) := Lib.hid (fun W => by have h := sopen_any Ses.t0 ⟨0, 1, 0⟩ W Ses.fit_0 (by decide); rw [Ses.aw_open.1, Ses.aw_open.2] at h; exact h)
  have HB : Hid (∀ W, Calls Try.prog 15 #[.agg (tbA Ses.t1), .agg #[.int .i64 0, .int .i64 1, .int .i64 1]] W (IsT Ses.t2 W)) := Lib.hid (fun W => by have h := sbeg_any Ses.t1 ⟨0, 1, 1⟩ W Ses.fit_1 (by decide); rw [Ses.aw_beg] at h; exact h)
  have HL0 : Hid (∀ W, Calls Try.prog 9 #[.agg (tbA Ses.t0), .agg #[.int .i64 0, .int .i64 1, .int .i64 0]] W (IsN 1 W)) := Lib.hid (fun W => by have h := slook_any Ses.t0 ⟨0, 1, 0⟩ W Ses.fit_0 (by decide); rw [Ses.aw_look] at h; exact h)
  have HL1 : Hid (∀ W, Calls Try.prog 9 #[.agg (tbA Ses.t1), .agg #[.int .i64 0, .int .i64 1, .int .i64 1]] W (IsN 1 W)) := Lib.hid (fun W => by have h := slook_any Ses.t1 ⟨0, 1, 1⟩ W Ses.fit_1 (by decide); rw [Ses.aw_look1] at h; exact h)
  have HL2 : Hid (∀ W, Calls Try.prog 9 #[.agg (tbA Ses.t2), .agg #[.int .i64 0, .int .i64 1, .int .i64 1]] W (IsN 3 W)) := Lib.hid (fun W => by have h := slook_any Ses.t2 ⟨0, 1, 1⟩ W Ses.fit_2 (by decide); rw [Ses.aw_look2] at h; exact h)
  have HR : Hid (∀ W, Calls Try.prog 11 #[.agg (tbA Ses.t2)] W (IsB true W)) := Lib.hid (fun W => by have h := sright_any Ses.t2 W Ses.fit_2; rw [Ses.aw_right] at h; exact h)
  have HK := Lib.hid (Kn.start w)
  unfold IsTP at HO
  unfold IsT at HB
  unfold IsN at HL0 HL1 HL2
  unfold IsB at HR
  unfold IsB
  generalize Ses.t1 = u1 at *
  generalize Ses.t2 = u2 at *
  go_enter Try.func8, Try.ntmps8
  go_wp2_with (first | (refine wpList_akr HK rfl rfl ?_; intro _ g1 HK'; simp only [List.cons_append, List.nil_append] at HK'; replace HK := HK'; clear HK') | (refine wpList_sr HK 0 rfl _ _ rfl rfl rfl rfl ?_; intro _ HK'; simp only [List.set] at HK'; replace HK := HK'; clear HK') | (refine wpList_atb HK rfl rfl ?_; intro _ g2 HK'; rw [tz_is] at HK'; simp only [List.cons_append, List.nil_append] at HK'; replace HK := HK'; clear HK') | refine wpList_exe (ktb HK 1 _ (by rfl) (by rfl) (by rfl)) (by rfl) ?_ | refine wpList_exe (kexec_lr HK 0 _ (by rfl) (by rfl) (by rfl)) (by rfl) ?_)
  refine (HO.out _).mono ?_; rintro e w1 ⟨rfl, b1⟩
  replace HK := Lib.hid (HK.out.call b1); clear b1
  go_wp2_with (first | (refine wpList_atb HK rfl rfl ?_; intro _ g3 HK'; simp only [List.cons_append, List.nil_append] at HK'; replace HK := HK'; clear HK') | (refine wpList_arp HK rfl rfl ?_; intro _ g4 HK'; simp only [List.cons_append, List.nil_append] at HK'; replace HK := HK'; clear HK') | (refine wpList_stb (t2 := u1) HK 2 rfl _ _ rfl rfl rfl rfl ?_; intro _ HK'; simp only [List.set] at HK'; replace HK := HK'; clear HK') | (refine wpList_srp (q := Sto.rz) HK 3 rfl _ _ rfl rfl rfl rfl ?_; intro _ HK'; simp only [List.set] at HK'; replace HK := HK'; clear HK') | (refine wpList_sc HK 0 rfl _ _ _ rfl rfl rfl rfl rfl rfl (by show 2 < 3; decide) (by kernel_rfl) ?_; intro _ HK' _; simp only [List.set] at HK'; replace HK := HK'; clear HK') | refine wpList_exe (ktb HK 2 _ (by rfl) (by rfl) (by rfl)) (by rfl) ?_ | refine wpList_exe (kexec_lr HK 0 _ (by rfl) (by rfl) (by rfl)) (by rfl) ?_)
  refine (HB.out _).mono ?_; rintro e w1 ⟨rfl, b1⟩
  replace HK := Lib.hid (HK.out.call b1); clear b1
  go_wp2_with (first | (refine wpList_atb HK rfl rfl ?_; intro _ g5 HK'; simp only [List.cons_append, List.nil_append] at HK'; replace HK := HK'; clear HK') | (refine wpList_stb (t2 := u2) HK 4 rfl _ _ rfl rfl rfl rfl ?_; intro _ HK'; simp only [List.set] at HK'; replace HK := HK'; clear HK') | refine wpList_exe (ktb HK 1 _ (by rfl) (by rfl) (by rfl)) (by rfl) ?_)
  refine (HL0.out _).mono ?_; rintro e w1 ⟨rfl, b1⟩
  replace HK := Lib.hid (HK.out.call b1); clear b1
  go_wp2_with (first | refine wpList_exe (krp HK 3 _ (by rfl) (by rfl) (by rfl)) (by rfl) ?_ | refine wpList_exe (exec_rz (by rfl)) (by rfl) ?_ | refine wpList_exe (exec_rpe (p := Sto.rz) (q := Sto.rz) _ _ (by rfl) (by rfl) (by rfl) (rpe_self _)) (by rfl) ?_ | refine wpList_exe (ktb HK 2 _ (by rfl) (by rfl) (by rfl)) (by rfl) ?_ | refine wpList_exe (kexec_lr HK 0 _ (by rfl) (by rfl) (by rfl)) (by rfl) ?_)
  refine (HL1.out _).mono ?_; rintro e w1 ⟨rfl, b1⟩
  replace HK := Lib.hid (HK.out.call b1); clear b1
  go_wp2_with (first | refine wpList_exe (ktb HK 4 _ (by rfl) (by rfl) (by rfl)) (by rfl) ?_ | refine wpList_exe (kexec_lr HK 0 _ (by rfl) (by rfl) (by rfl)) (by rfl) ?_)
  refine (HL2.out _).mono ?_; rintro e w1 ⟨rfl, b1⟩
  replace HK := Lib.hid (HK.out.call b1); clear b1
  go_wp2_with (first | refine wpList_exe (ktb HK 4 _ (by rfl) (by rfl) (by rfl)) (by rfl) ?_)
  refine (HR.out _).mono ?_; rintro e w1 ⟨rfl, b1⟩
  replace HK := Lib.hid (HK.out.call b1); clear b1
  go_wp2_with fail
  go_ret
  exact ⟨rfl, HK.out.b⟩
end Go.Proofs.Ytbcdmmhbmjjooaa
