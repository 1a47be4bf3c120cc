/-
  The law MeterTurned: it returns true, and leaves what came in as it was.
  No condition but that the floats' bits fit 64.
-/
import Derived.Test.YtbaaoenmnmpfjaaMtAwake
import Derived.Test.YtbaaoenmnmpfjaaMtRowM
set_option linter.unusedSimpArgs false
set_option linter.unusedVariables false
namespace Go.Proofs.Ytbaaoenmnmpfjaa
open Go.RowKit

/-- Behind two floats. -/
theorem two_any (a b : Nat) (ha : a < 18446744073709551616) (hb : b < 18446744073709551616) :
    ∃ n s l m n2 s2 l2 m2 e e2, Mt.ad (Mt.ad Mt.zero a) b = ⟨n2, s2, l2, m2⟩ ∧ (∀ W, Calls Try.prog 7 #[.agg #[.int .i64 0, .int .u64 0, .int .u64 0, .int .u64 0], .int .u64 (a : Int)] W (IsMe ⟨n, s, l, m⟩ e W)) ∧
      (∀ W, Calls Try.prog 7 #[.agg #[.int .i64 n, .int .u64 (s : Int), .int .u64 (l : Int), .int .u64 (m : Int)], .int .u64 (b : Int)] W (IsMe ⟨n2, s2, l2, m2⟩ e2 W)) :=
  ⟨_, _, _, _, _, _, _, _, _, _, rfl, fun W => madd_any Mt.zero Mt.fit_zero a ha W, fun W => madd_any (Mt.ad Mt.zero a) (Mt.fit_ad Mt.fit_zero ha) b hb W⟩
set_option maxRecDepth 100000 in
set_option maxHeartbeats 6400000 in
theorem turned_yes (a b : Nat) (ha : a < 18446744073709551616) (hb : b < 18446744073709551616) (w : World) :
    Calls Try.prog 5 #[.int .u64 (a : Int), .int .u64 (b : Int)] w (fun e w' => e = .returned (.bool true) ∧ Below w.heap.size w w') := by
  obtain ⟨n, s, l, m, n2, s2, l2, m2, e1, e2, hx, h1, h2⟩ := two_any a b ha hb
  obtain ⟨n', s', l', m', n3, s3, l3, m3, e3, e4, hy, h3, h4⟩ := two_any b a hb ha
  have ht := Mt.turned ha hb
  have hnan := Mt.two_nan ha hb
  rw [hx] at hnan
  rw [hx, hy] at ht
  injection ht with t1 t2 t3 t4
  subst t1 t2 t3 t4
  have H1 := Lib.hid h1
  have H2 := Lib.hid h2
  have H3 := Lib.hid h3
  have H4 := Lib.hid h4
  have HAw := Lib.hid (fun W => awake_any W)
  have HA := Lib.hid (fun W => rmake_any a W ha)
  have HB := Lib.hid (fun W => rmake_any b W hb)
  clear hx hy h1 h2 h3 h4 ha hb
  unfold IsMe IsB at *
  generalize Num.M a = x at *
  generalize Num.M b = y at *
  have HK := Lib.hid (Kn.start w)
  have hcase : (((x : Int) == 9221120237041090560) = true ∧ (((s2 : Int) == 9221120237041090560) = true ∧ ((m2 : Int) == 9221120237041090560) = true)) ∨ (((x : Int) == 9221120237041090560) = false ∧ ((y : Int) == 9221120237041090560) = true ∧ (((s2 : Int) == 9221120237041090560) = true ∧ ((m2 : Int) == 9221120237041090560) = true)) ∨ (((x : Int) == 9221120237041090560) = false ∧ ((y : Int) == 9221120237041090560) = false) := by
    have hh : (x = Num.nan ∨ y = Num.nan) → (((s2 : Int) == 9221120237041090560) = true ∧ ((m2 : Int) == 9221120237041090560) = true) := fun h => by
      obtain ⟨i1, i2⟩ := hnan h
      have i1 : s2 = Num.nan := i1
      have i2 : m2 = Num.nan := i2
      subst i1 i2
      exact ⟨rfl, rfl⟩
    have hq : ∀ z : Nat, ((z : Int) == 9221120237041090560) = true ↔ z = Num.nan := fun z => by rw [beq_iff_eq]; unfold Num.nan; omega
    by_cases hx : x = Num.nan
    · exact .inl ⟨(hq x).2 hx, hh (.inl hx)⟩
    · have hx2 : ((x : Int) == 9221120237041090560) = false := Bool.eq_false_iff.2 fun h => hx ((hq x).1 h)
      by_cases hy : y = Num.nan
      · exact .inr (.inl ⟨hx2, (hq y).2 hy, hh (.inr hy)⟩)
      · exact .inr (.inr ⟨hx2, Bool.eq_false_iff.2 fun h => hy ((hq y).1 h)⟩)
  replace hcase := Lib.hid hcase
  clear hnan
  go_enter Try.func5, Try.ntmps5
  go_wp2_with fail
  refine (H1.out _).mono ?_; rintro e w1 ⟨rfl, b1⟩
  replace HK := Lib.hid (HK.out.call b1); clear b1
  go_wp2_with (first | (refine wpList_akm HK rfl rfl ?_; intro _ g1 HK'; simp only [List.cons_append, List.nil_append] at HK'; replace HK := HK'; clear HK') | (refine wpList_sm HK 0 rfl _ _ rfl rfl rfl rfl ?_; intro _ HK'; simp only [List.set] at HK'; replace HK := HK'; clear HK') | refine wpList_exe (kexec_lm HK 0 _ (by rfl) (by rfl) (by rfl)) (by rfl) ?_)
  refine (H2.out _).mono ?_; rintro e w1 ⟨rfl, b1⟩
  replace HK := Lib.hid (HK.out.call b1); clear b1
  go_wp2_with (first | (refine wpList_sm HK 0 rfl _ _ rfl rfl rfl rfl ?_; intro _ HK'; simp only [List.set] at HK'; replace HK := HK'; clear HK'))
  refine (H3.out _).mono ?_; rintro e w1 ⟨rfl, b1⟩
  replace HK := Lib.hid (HK.out.call b1); clear b1
  go_wp2_with (first | (refine wpList_akm HK rfl rfl ?_; intro _ g2 HK'; simp only [List.cons_append, List.nil_append] at HK'; replace HK := HK'; clear HK') | (refine wpList_sm HK 1 rfl _ _ rfl rfl rfl rfl ?_; intro _ HK'; simp only [List.set] at HK'; replace HK := HK'; clear HK') | refine wpList_exe (kexec_lm HK 1 _ (by rfl) (by rfl) (by rfl)) (by rfl) ?_)
  refine (H4.out _).mono ?_; rintro e w1 ⟨rfl, b1⟩
  replace HK := Lib.hid (HK.out.call b1); clear b1
  go_wp2_with (first | (refine wpList_sm HK 1 rfl _ _ rfl rfl rfl rfl ?_; intro _ HK'; simp only [List.set] at HK'; replace HK := HK'; clear HK'))
  refine (HA.out _).mono ?_; rintro e w1 ⟨rfl, rfl⟩
  clear H1 H2 H3 H4 HA
  rcases hcase.out with ⟨c1, c2, c3⟩ | ⟨c1, c2, c3, c4⟩ | ⟨c1, c2⟩
  · go_wp2_with fail
    (refine (HAw.out _).mono ?_; rintro e w1 ⟨rfl, b1⟩; replace HK := Lib.hid (HK.out.call b1); clear b1)
    have k00 := HK.out.cell 0 rfl 0 (v := .int .i64 n2) rfl
    have k01 := HK.out.cell 0 rfl 1 (v := .int .u64 (s2 : Int)) rfl
    have k02 := HK.out.cell 0 rfl 2 (v := .int .u64 (l2 : Int)) rfl
    have k03 := HK.out.cell 0 rfl 3 (v := .int .u64 (m2 : Int)) rfl
    have k10 := HK.out.cell 1 rfl 0 (v := .int .i64 n2) rfl
    have k11 := HK.out.cell 1 rfl 1 (v := .int .u64 (s2 : Int)) rfl
    have k12 := HK.out.cell 1 rfl 2 (v := .int .u64 (l2 : Int)) rfl
    have k13 := HK.out.cell 1 rfl 3 (v := .int .u64 (m2 : Int)) rfl
    go_wp2_with fail
    go_ret
    exact ⟨rfl, HK.out.b⟩
  · go_wp2_with fail
    refine (HB.out _).mono ?_; rintro e w1 ⟨rfl, rfl⟩
    go_wp2_with fail
    (refine (HAw.out _).mono ?_; rintro e w1 ⟨rfl, b1⟩; replace HK := Lib.hid (HK.out.call b1); clear b1)
    have k00 := HK.out.cell 0 rfl 0 (v := .int .i64 n2) rfl
    have k01 := HK.out.cell 0 rfl 1 (v := .int .u64 (s2 : Int)) rfl
    have k02 := HK.out.cell 0 rfl 2 (v := .int .u64 (l2 : Int)) rfl
    have k03 := HK.out.cell 0 rfl 3 (v := .int .u64 (m2 : Int)) rfl
    have k10 := HK.out.cell 1 rfl 0 (v := .int .i64 n2) rfl
    have k11 := HK.out.cell 1 rfl 1 (v := .int .u64 (s2 : Int)) rfl
    have k12 := HK.out.cell 1 rfl 2 (v := .int .u64 (l2 : Int)) rfl
    have k13 := HK.out.cell 1 rfl 3 (v := .int .u64 (m2 : Int)) rfl
    go_wp2_with fail
    go_ret
    exact ⟨rfl, HK.out.b⟩
  · go_wp2_with fail
    refine (HB.out _).mono ?_; rintro e w1 ⟨rfl, rfl⟩
    go_wp2_with fail
    (refine (HAw.out _).mono ?_; rintro e w1 ⟨rfl, b1⟩; replace HK := Lib.hid (HK.out.call b1); clear b1)
    have k00 := HK.out.cell 0 rfl 0 (v := .int .i64 n2) rfl
    have k01 := HK.out.cell 0 rfl 1 (v := .int .u64 (s2 : Int)) rfl
    have k02 := HK.out.cell 0 rfl 2 (v := .int .u64 (l2 : Int)) rfl
    have k03 := HK.out.cell 0 rfl 3 (v := .int .u64 (m2 : Int)) rfl
    have k10 := HK.out.cell 1 rfl 0 (v := .int .i64 n2) rfl
    have k11 := HK.out.cell 1 rfl 1 (v := .int .u64 (s2 : Int)) rfl
    have k12 := HK.out.cell 1 rfl 2 (v := .int .u64 (l2 : Int)) rfl
    have k13 := HK.out.cell 1 rfl 3 (v := .int .u64 (m2 : Int)) rfl
    go_wp2_with fail
    go_ret
    exact ⟨rfl, HK.out.b⟩
end Go.Proofs.Ytbaaoenmnmpfjaa
