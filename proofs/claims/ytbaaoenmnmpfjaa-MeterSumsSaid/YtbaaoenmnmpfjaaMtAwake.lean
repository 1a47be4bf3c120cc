/-
  What the laws' example returns: true.
  No condition.
-/
import Derived.Test.YtbaaoenmnmpfjaaMtAdd
import Derived.Test.YtbaaoenmnmpfjaaMtRead
set_option linter.unusedSimpArgs false
set_option linter.unusedVariables false
namespace Go.Proofs.Ytbaaoenmnmpfjaa
open Go.RowKit

theorem exec_vsame {w : World} {o : Oper} {a : Act} {k n : Int} {f : Nat} (p q : Operand) (ho : o.op = .binOp .eql 29 p q 29) (hx : a.eval p = .agg #[.int .i64 k, .int .i64 n, .int .u64 (f : Int), .string ⟨#[]⟩]) (hy : a.eval q = .agg #[.int .i64 k, .int .i64 n, .int .u64 (f : Int), .string ⟨#[]⟩]) :
    (execOp a.eval o).run Try.prog w = .ok (.value (.bool true)) w := by
  unfold execOp
  simp only [ho, hx, hy]
  go_simp
namespace Mt
theorem aw1 : ad zero 4607182418800017408 = ⟨1, 4607182418800017408, 4607182418800017408, 4607182418800017408⟩ ∧ adE zero = 0 := by decide +kernel
theorem aw2 : ad ⟨1, 4607182418800017408, 4607182418800017408, 4607182418800017408⟩ 4611686018427387904 = ⟨2, 4613937818241073152, 4607182418800017408, 4611686018427387904⟩ ∧ adE ⟨1, 4607182418800017408, 4607182418800017408, 4607182418800017408⟩ = 0 := by decide +kernel
theorem aw3 : rd ⟨2, 4613937818241073152, 4607182418800017408, 4611686018427387904⟩ 1 = ⟨2, 0, 4613937818241073152, 0⟩ := by decide +kernel
end Mt
set_option maxRecDepth 100000 in
set_option maxHeartbeats 3200000 in
theorem awake_any (w : World) : Calls Try.prog 11 #[] w (IsB true w) := by
  have H1 : Hid (∀ W, Calls Try.prog 7 #[.agg #[.int .i64 0, .int .u64 0, .int .u64 0, .int .u64 0], .int .u64 4607182418800017408] W (IsMe ⟨1, 4607182418800017408, 4607182418800017408, 4607182418800017408⟩ 0 W)) := Lib.hid fun W => by
    have h := madd_any Mt.zero Mt.fit_zero 4607182418800017408 (by decide) W
    rw [Mt.aw1.1, Mt.aw1.2] at h
    exact h
  have H2 : Hid (∀ W, Calls Try.prog 7 #[.agg #[.int .i64 1, .int .u64 4607182418800017408, .int .u64 4607182418800017408, .int .u64 4607182418800017408], .int .u64 4611686018427387904] W (IsMe ⟨2, 4613937818241073152, 4607182418800017408, 4611686018427387904⟩ 0 W)) := Lib.hid fun W => by
    have h := madd_any ⟨1, 4607182418800017408, 4607182418800017408, 4607182418800017408⟩ ⟨by decide, by decide, by decide, by decide⟩ 4611686018427387904 (by decide) W
    rw [Mt.aw2.1, Mt.aw2.2] at h
    exact h
  have H3 : Hid (∀ W, Calls Try.prog 9 #[.agg #[.int .i64 2, .int .u64 4613937818241073152, .int .u64 4607182418800017408, .int .u64 4611686018427387904], .int .i64 1] W (IsVe ⟨2, 0, 4613937818241073152, 0⟩ W)) := Lib.hid fun W => by
    have h := mread_any ⟨2, 4613937818241073152, 4607182418800017408, 4611686018427387904⟩ ⟨by decide, by decide, by decide, by decide⟩ 1 W
    rw [Mt.aw3] at h
    exact h
  unfold IsMe IsVe IsB at *
  have HK := Lib.hid (Kn.start w)
  go_enter Try.func11, Try.ntmps11
  go_wp2_with fail
  refine (H1.out _).mono ?_; rintro e w1 ⟨rfl, b1⟩
  replace HK := Lib.hid (HK.out.call b1); clear b1
  go_wp2_with (first | (refine wpList_akm HK rfl rfl ?_; intro _ g1 HK'; simp only [List.cons_append, List.nil_append] at HK'; replace HK := HK'; clear HK') | (refine wpList_sm (s2 := 4607182418800017408) (l2 := 4607182418800017408) (m2 := 4607182418800017408) HK 0 rfl _ _ rfl rfl rfl rfl ?_; intro _ HK'; simp only [List.set] at HK'; replace HK := HK'; clear HK') | refine wpList_exe (kexec_lm HK 0 _ (by rfl) (by rfl) (by rfl)) (by rfl) ?_)
  refine (H2.out _).mono ?_; rintro e w1 ⟨rfl, b1⟩
  replace HK := Lib.hid (HK.out.call b1); clear b1
  go_wp2_with (first | (refine wpList_sm (s2 := 4613937818241073152) (l2 := 4607182418800017408) (m2 := 4611686018427387904) HK 0 rfl _ _ rfl rfl rfl rfl ?_; intro _ HK'; simp only [List.set] at HK'; replace HK := HK'; clear HK') | refine wpList_exe (kexec_lm HK 0 _ (by rfl) (by rfl) (by rfl)) (by rfl) ?_)
  refine (H3.out _).mono ?_; rintro e w1 ⟨rfl, b1⟩
  replace HK := Lib.hid (HK.out.call b1); clear b1
  go_wp2_with (first | (refine wpList_akv HK rfl rfl ?_; intro _ g2 HK'; simp only [List.cons_append, List.nil_append] at HK'; replace HK := HK'; clear HK') | (refine wpList_sv (f2 := 4613937818241073152) HK 1 rfl _ _ rfl rfl rfl rfl ?_; intro _ HK'; simp only [List.set] at HK'; replace HK := HK'; clear HK') | refine wpList_exe (kexec_mn HK 0 _ (by rfl) (by rfl) (by rfl)) (by rfl) ?_ | refine wpList_of_exec (by rfl) (kexec_vv HK 1 _ (by rfl) (by rfl) (by rfl)) ?_)
  go_ret
  exact ⟨rfl, HK.out.b⟩
end Go.Proofs.Ytbaaoenmnmpfjaa
