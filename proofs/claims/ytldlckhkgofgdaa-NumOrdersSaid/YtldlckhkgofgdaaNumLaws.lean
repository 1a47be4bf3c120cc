/-
  The laws NumMakes, NumOrders, NumOne, NumAdds, NumEdges, NumEnds, NumOf: each returns true whatever is handed in, and nothing that was there is turned.
  No condition.
-/
import Derived.Test.YtldlckhkgofgdaaNumWalks
import Derived.Test.YtldlckhkgofgdaaLift
namespace Go.Proofs.Ytldlckhkgofgdaa
open Go.RowKit

theorem below_drew (w : World) (n : Nat) : Below w.heap.size w (w.drewN n) := ⟨rfl, rfl, rfl, Nat.le_refl _, fun _ _ => rfl⟩

set_option maxHeartbeats 400000 in
theorem makes_yes (b : Int) (w : World) (hb : (Lit.int .u64 b).wf = true) : Lift.Yes Try.prog 3 #[.int .u64 b] w := by
  obtain ⟨b, rfl, hlt⟩ := u64_lt hb
  clear hb
  have H1 := Lib.hid (fun w => make_any b w hlt)
  have H2 := Lib.hid (fun w => rmake_any b w hlt)
  have H3 := Lib.hid (fun w => make_any (Num.M b) w (Num.M_lt hlt))
  rw [Num.M_M] at H3
  generalize Num.M b = x at *
  unfold Lift.Yes
  go_enter Try.func3, Try.ntmps3
  go_wp2_with fail
  refine (awake_any _).mono ?_; rintro e w' ⟨rfl, n, rfl⟩
  go_wp2_with fail
  refine (H1.out _).mono ?_; rintro e w' ⟨rfl, rfl⟩
  go_wp2_with fail
  refine (H2.out _).mono ?_; rintro e w' ⟨rfl, rfl⟩
  go_wp2_with fail
  refine (H1.out _).mono ?_; rintro e w' ⟨rfl, rfl⟩
  go_wp2_with fail
  refine (H3.out _).mono ?_; rintro e w' ⟨rfl, rfl⟩
  go_wp2_with fail
  refine (H1.out _).mono ?_; rintro e w' ⟨rfl, rfl⟩
  go_wp2_with fail
  go_ret
  exact ⟨rfl, below_drew w n⟩

set_option maxHeartbeats 400000 in
theorem orders_yes (a b : Int) (w : World) (ha : (Lit.int .u64 a).wf = true) (hb : (Lit.int .u64 b).wf = true) : Lift.Yes Try.prog 4 #[.int .u64 a, .int .u64 b] w := by
  obtain ⟨a, rfl, hla⟩ := u64_lt ha
  obtain ⟨b, rfl, hlb⟩ := u64_lt hb
  clear ha hb
  have H1 := Lib.hid (fun w => cmp_any a b w hla hlb)
  have H2 := Lib.hid (fun w => rcmp_any a b w hla hlb)
  have H3 := Lib.hid (fun w => least_any a b w hla hlb)
  have H4 := Lib.hid (fun w => rleast_any a b w hla hlb)
  have H5 := Lib.hid (fun w => most_any a b w hla hlb)
  have H6 := Lib.hid (fun w => rmost_any a b w hla hlb)
  generalize Num.cmp a b = x at *
  generalize least a b = y at *
  generalize most a b = z at *
  unfold Lift.Yes
  go_enter Try.func4, Try.ntmps4
  go_wp2_with fail
  refine (awake_any _).mono ?_; rintro e w' ⟨rfl, n, rfl⟩
  go_wp2_with fail
  refine (H1.out _).mono ?_; rintro e w' ⟨rfl, rfl⟩
  go_wp2_with fail
  refine (H2.out _).mono ?_; rintro e w' ⟨rfl, rfl⟩
  go_wp2_with fail
  refine (H3.out _).mono ?_; rintro e w' ⟨rfl, rfl⟩
  go_wp2_with fail
  refine (H4.out _).mono ?_; rintro e w' ⟨rfl, rfl⟩
  go_wp2_with fail
  refine (H5.out _).mono ?_; rintro e w' ⟨rfl, rfl⟩
  go_wp2_with fail
  refine (H6.out _).mono ?_; rintro e w' ⟨rfl, rfl⟩
  go_wp2_with fail
  go_ret
  exact ⟨rfl, below_drew w n⟩

set_option maxHeartbeats 400000 in
theorem adds_yes (a b : Int) (w : World) (ha : (Lit.int .u64 a).wf = true) (hb : (Lit.int .u64 b).wf = true) : Lift.Yes Try.prog 6 #[.int .u64 a, .int .u64 b] w := by
  obtain ⟨a, rfl, hla⟩ := u64_lt ha
  obtain ⟨b, rfl, hlb⟩ := u64_lt hb
  clear ha hb
  have H1 := Lib.hid (fun w => add_any a b w hla hlb)
  have H2 := Lib.hid (fun w => radd_any a b w)
  generalize Num.S a b = x at *
  unfold Lift.Yes
  go_enter Try.func6, Try.ntmps6
  go_wp2_with fail
  refine (awake_any _).mono ?_; rintro e w' ⟨rfl, n, rfl⟩
  go_wp2_with fail
  refine (H1.out _).mono ?_; rintro e w' ⟨rfl, n2, rfl⟩
  go_wp2_with fail
  refine (H2.out _).mono ?_; rintro e w' ⟨rfl, n3, rfl⟩
  go_wp2_with fail
  go_ret
  exact ⟨rfl, rfl, rfl, rfl, Nat.le_refl _, fun _ _ => rfl⟩

theorem ends_of (a b : Nat) (ha : a < 18446744073709551616) (hb : b < 18446744073709551616) :
    (least a b = Num.M a ∧ most a b = Num.M b) ∨ (least a b = Num.M b ∧ most a b = Num.M a ∧ Num.M a ≠ Num.M b) := by
  unfold least most
  rcases Nat.lt_trichotomy (Num.rank a) (Num.rank b) with h | h | h
  · left; rw [if_neg (by omega), if_pos h]; exact ⟨rfl, rfl⟩
  · left; rw [if_neg (by omega), if_neg (by omega)]; exact ⟨rfl, Num.rank_inj ha hb h⟩
  · right; rw [if_pos h, if_neg (by omega)]
    refine ⟨rfl, rfl, fun e => ?_⟩
    have : Num.rank a = Num.rank b := by unfold Num.rank; rw [e]
    omega
theorem ends_le (a b : Nat) : Num.cmp (least a b) (most a b) ≤ 0 := by
  rw [Num.cmp_le]
  unfold least most
  split <;> split <;> simp only [Num.rank_M] <;> omega

set_option maxHeartbeats 400000 in
theorem ends_yes (a b : Int) (w : World) (ha : (Lit.int .u64 a).wf = true) (hb : (Lit.int .u64 b).wf = true) : Lift.Yes Try.prog 8 #[.int .u64 a, .int .u64 b] w := by
  obtain ⟨a, rfl, hla⟩ := u64_lt ha
  obtain ⟨b, rfl, hlb⟩ := u64_lt hb
  clear ha hb
  have H1 := Lib.hid (fun w => least_any a b w hla hlb)
  have H2 := Lib.hid (fun w => most_any a b w hla hlb)
  have H3 := Lib.hid (fun w => make_any a w hla)
  have H4 := Lib.hid (fun w => make_any b w hlb)
  have ma := Num.M_lt hla
  have mb := Num.M_lt hlb
  have hcm := ends_le a b
  rcases ends_of a b hla hlb with ⟨e1, e2⟩ | ⟨e1, e2, e3⟩
  · rw [e1, e2] at hcm
    rw [e1] at H1
    rw [e2] at H2
    have H5 := Lib.hid (fun w => cmp_any (Num.M a) (Num.M b) w ma mb)
    clear e1 e2
    generalize Num.cmp (Num.M a) (Num.M b) = x at *
    generalize Num.M a = y at *
    generalize Num.M b = z at *
    unfold Lift.Yes
    go_enter Try.func8, Try.ntmps8
    go_wp2_with fail
    refine (H1.out _).mono ?_; rintro e w' ⟨rfl, rfl⟩
    go_wp2_with fail
    refine (H2.out _).mono ?_; rintro e w' ⟨rfl, rfl⟩
    go_wp2_with fail
    refine (H3.out _).mono ?_; rintro e w' ⟨rfl, rfl⟩
    go_wp2_with fail
    refine (H4.out _).mono ?_; rintro e w' ⟨rfl, rfl⟩
    go_wp2_with fail
    refine (awake_any _).mono ?_; rintro e w' ⟨rfl, n, rfl⟩
    go_wp2_with fail
    refine (H5.out _).mono ?_; rintro e w' ⟨rfl, rfl⟩
    go_wp2_with fail
    go_ret
    exact ⟨rfl, below_drew w n⟩
  · rw [e1, e2] at hcm
    rw [e1] at H1
    rw [e2] at H2
    have H5 := Lib.hid (fun w => cmp_any (Num.M b) (Num.M a) w mb ma)
    clear e1 e2
    generalize Num.cmp (Num.M b) (Num.M a) = x at *
    generalize Num.M a = y at *
    generalize Num.M b = z at *
    have hne : ((z : Int) == (y : Int)) = false := by rw [beq_eq_false_iff_ne]; omega
    clear e3
    unfold Lift.Yes
    go_enter Try.func8, Try.ntmps8
    go_wp2_with fail
    refine (H1.out _).mono ?_; rintro e w' ⟨rfl, rfl⟩
    go_wp2_with fail
    refine (H2.out _).mono ?_; rintro e w' ⟨rfl, rfl⟩
    go_wp2_with fail
    refine (H3.out _).mono ?_; rintro e w' ⟨rfl, rfl⟩
    go_wp2_with fail
    refine (H4.out _).mono ?_; rintro e w' ⟨rfl, rfl⟩
    go_wp2_with fail
    refine (awake_any _).mono ?_; rintro e w' ⟨rfl, n, rfl⟩
    go_wp2_with fail
    refine (H5.out _).mono ?_; rintro e w' ⟨rfl, rfl⟩
    go_wp2_with fail
    go_ret
    exact ⟨rfl, below_drew w n⟩

set_option maxHeartbeats 400000 in
theorem of_yes (n m : Int) (w : World) (_hn : (Lit.int .i64 n).wf = true) (_hm : (Lit.int .i64 m).wf = true) : Lift.Yes Try.prog 9 #[.int .i64 n, .int .i64 m] w := by
  by_cases h : m < n
  · have hle : Num.cmp (Num.ofInt m) (Num.ofInt n) ≤ 0 := Num.cmp_le.2 (Num.ofInt_mono (by omega))
    have H5 := Lib.hid (fun w => cmp_any (Num.ofInt m) (Num.ofInt n) w (Num.ofInt_lt m) (Num.ofInt_lt n))
    generalize Num.cmp (Num.ofInt m) (Num.ofInt n) = x at *
    unfold Lift.Yes
    go_enter Try.func9, Try.ntmps9
    go_wp2_with fail
    refine (awake_any _).mono ?_; rintro e w' ⟨rfl, k, rfl⟩
    go_wp2_with fail
    refine (of_any m _).mono ?_; rintro e w' ⟨rfl, rfl⟩
    go_wp2_with fail
    refine (rof_any m _).mono ?_; rintro e w' ⟨rfl, rfl⟩
    go_wp2_with fail
    refine (of_any m _).mono ?_; rintro e w' ⟨rfl, rfl⟩
    go_wp2_with fail
    refine (of_any n _).mono ?_; rintro e w' ⟨rfl, rfl⟩
    go_wp2_with fail
    refine (H5.out _).mono ?_; rintro e w' ⟨rfl, rfl⟩
    go_wp2_with fail
    go_ret
    exact ⟨rfl, below_drew w k⟩
  · have hle : Num.cmp (Num.ofInt n) (Num.ofInt m) ≤ 0 := Num.cmp_le.2 (Num.ofInt_mono (by omega))
    have H5 := Lib.hid (fun w => cmp_any (Num.ofInt n) (Num.ofInt m) w (Num.ofInt_lt n) (Num.ofInt_lt m))
    generalize Num.cmp (Num.ofInt n) (Num.ofInt m) = x at *
    unfold Lift.Yes
    go_enter Try.func9, Try.ntmps9
    go_wp2_with fail
    refine (awake_any _).mono ?_; rintro e w' ⟨rfl, k, rfl⟩
    go_wp2_with fail
    refine (of_any n _).mono ?_; rintro e w' ⟨rfl, rfl⟩
    go_wp2_with fail
    refine (rof_any n _).mono ?_; rintro e w' ⟨rfl, rfl⟩
    go_wp2_with fail
    refine (of_any n _).mono ?_; rintro e w' ⟨rfl, rfl⟩
    go_wp2_with fail
    refine (of_any m _).mono ?_; rintro e w' ⟨rfl, rfl⟩
    go_wp2_with fail
    refine (H5.out _).mono ?_; rintro e w' ⟨rfl, rfl⟩
    go_wp2_with fail
    go_ret
    exact ⟨rfl, below_drew w k⟩

theorem cmp_bd (a b : Nat) : -1 ≤ Num.cmp a b ∧ Num.cmp a b ≤ 1 := by unfold Num.cmp; split <;> (try split) <;> omega

set_option maxHeartbeats 400000 in
theorem one_yes (a b c : Int) (w : World) (ha : (Lit.int .u64 a).wf = true) (hb : (Lit.int .u64 b).wf = true) (hc : (Lit.int .u64 c).wf = true) : Lift.Yes Try.prog 5 #[.int .u64 a, .int .u64 b, .int .u64 c] w := by
  obtain ⟨a, rfl, hla⟩ := u64_lt ha
  obtain ⟨b, rfl, hlb⟩ := u64_lt hb
  obtain ⟨c, rfl, hlc⟩ := u64_lt hc
  clear ha hb hc
  have H1 := Lib.hid (fun w => cmp_any a b w hla hlb)
  have H2 := Lib.hid (fun w => cmp_any b a w hlb hla)
  have H3 := Lib.hid (fun w => cmp_any a a w hla hla)
  have H4 := Lib.hid (fun w => cmp_any b c w hlb hlc)
  have H5 := Lib.hid (fun w => cmp_any a c w hla hlc)
  have H6 := Lib.hid (fun w => make_any a w hla)
  have H7 := Lib.hid (fun w => make_any b w hlb)
  rw [Num.cmp_self] at H3
  rw [Num.cmp_turn b a] at H2
  have hbd := cmp_bd a b
  have hchain : Num.cmp a b ≤ 0 → Num.cmp b c ≤ 0 → Num.cmp a c ≤ 0 := by
    intro h1 h2
    have h3 := Num.cmp_le.1 h1
    have h4 := Num.cmp_le.1 h2
    exact Num.cmp_le.2 (by omega)
  have hsame : ((Num.cmp a b == 0) == ((Num.M a : Int) == (Num.M b : Int))) = true := by
    have h0 := Num.cmp_same hla hlb
    rw [beq_iff_eq, Bool.eq_iff_iff, beq_iff_eq, beq_iff_eq, h0]
    omega
  have HS := Lib.hid hsame
  clear hsame
  generalize Num.cmp a b = x at *
  generalize Num.cmp b c = y at *
  generalize Num.cmp a c = z at *
  generalize Num.M a = u at *
  generalize Num.M b = v at *
  have hx1 := hbd.1
  have hx2 := hbd.2
  clear hbd
  have HC := Lib.hid hchain
  clear hchain
  unfold Lift.Yes
  go_enter Try.func5, Try.ntmps5
  go_wp2_with fail
  refine (awake_any _).mono ?_; rintro e w' ⟨rfl, n, rfl⟩
  go_wp2_with fail
  refine (H1.out _).mono ?_; rintro e w' ⟨rfl, rfl⟩
  go_wp2_with fail
  refine (H2.out _).mono ?_; rintro e w' ⟨rfl, rfl⟩
  go_wp2_with fail
  refine (H3.out _).mono ?_; rintro e w' ⟨rfl, rfl⟩
  go_wp2_with fail
  refine (H1.out _).mono ?_; rintro e w' ⟨rfl, rfl⟩
  by_cases p1 : x ≤ 0
  · by_cases p2 : y ≤ 0
    · have p3 := HC.out p1 p2
      go_wp2_with fail
      refine (H4.out _).mono ?_; rintro e w' ⟨rfl, rfl⟩
      go_wp2_with fail
      refine (H5.out _).mono ?_; rintro e w' ⟨rfl, rfl⟩
      go_wp2_with fail
      refine (H1.out _).mono ?_; rintro e w' ⟨rfl, rfl⟩
      go_wp2_with fail
      refine (H6.out _).mono ?_; rintro e w' ⟨rfl, rfl⟩
      go_wp2_with fail
      refine (H7.out _).mono ?_; rintro e w' ⟨rfl, rfl⟩
      go_wp2_with fail
      go_ret
      exact ⟨ret_bool HS.out, below_drew w n⟩
    · go_wp2_with fail
      refine (H4.out _).mono ?_; rintro e w' ⟨rfl, rfl⟩
      go_wp2_with fail
      refine (H1.out _).mono ?_; rintro e w' ⟨rfl, rfl⟩
      go_wp2_with fail
      refine (H6.out _).mono ?_; rintro e w' ⟨rfl, rfl⟩
      go_wp2_with fail
      refine (H7.out _).mono ?_; rintro e w' ⟨rfl, rfl⟩
      go_wp2_with fail
      go_ret
      exact ⟨ret_bool HS.out, below_drew w n⟩
  · go_wp2_with fail
    refine (H1.out _).mono ?_; rintro e w' ⟨rfl, rfl⟩
    go_wp2_with fail
    refine (H6.out _).mono ?_; rintro e w' ⟨rfl, rfl⟩
    go_wp2_with fail
    refine (H7.out _).mono ?_; rintro e w' ⟨rfl, rfl⟩
    go_wp2_with fail
    go_ret
    exact ⟨ret_bool HS.out, below_drew w n⟩

set_option maxHeartbeats 1000000 in
theorem edges_yes (a b : Int) (w : World) (ha : (Lit.int .u64 a).wf = true) (hb : (Lit.int .u64 b).wf = true) : Lift.Yes Try.prog 7 #[.int .u64 a, .int .u64 b] w := by
  obtain ⟨a, rfl, hla⟩ := u64_lt ha
  obtain ⟨b, rfl, hlb⟩ := u64_lt hb
  clear ha hb
  have H1 := Lib.hid (fun w => make_any a w hla)
  have H2 := Lib.hid (fun w => make_any b w hlb)
  have hma := Num.M_M a
  have hmb := Num.M_M b
  have ha := Num.M_lt hla
  have hb := Num.M_lt hlb
  generalize Num.M a = x at *
  generalize Num.M b = y at *
  clear hla hlb
  have G1 := Lib.hid (fun w => add_any x y w ha hb)
  have G2 := Lib.hid (fun w => add_any y x w hb ha)
  rw [Num.S_comm y x] at G2
  have G3 := Lib.hid (fun w => add_any x Num.sgn w ha (by decide))
  rw [Num.add_zero ha hma] at G3
  have G4 := Lib.hid (fun w => add_any x Num.nan w ha (by decide))
  rw [Num.S_nan] at G4
  have G5 := Lib.hid (fun w => add_any x x w ha ha)
  have G6 := Lib.hid (fun w => add_any x (Num.opp x) w ha (Num.opp_lt ha))
  have hx := Lib.hid (Num.xor_sign x ha)
  have hc := Lib.hid (Num.cut_sign x ha)
  have hd := Lib.hid (Num.cut_sign y hb)
  generalize hs : Num.S x y = s at *
  have HSs := Lib.hid hs
  clear hs
  unfold Lift.Yes
  go_enter Try.func7, Try.ntmps7
  go_wp2_with fail
  refine (H1.out _).mono ?_; rintro e w' ⟨rfl, rfl⟩
  go_wp2_with fail
  refine (H2.out _).mono ?_; rintro e w' ⟨rfl, rfl⟩
  go_wp2_with fail
  refine (awake_any _).mono ?_; rintro e w' ⟨rfl, n, rfl⟩
  go_wp2_with fail
  refine (G1.out _).mono ?_; rintro e w' ⟨rfl, n1, rfl⟩
  go_wp2_with fail
  refine (G2.out _).mono ?_; rintro e w' ⟨rfl, n2, rfl⟩
  go_wp2_with fail
  refine (G3.out _).mono ?_; rintro e w' ⟨rfl, n3, rfl⟩
  go_wp2_with fail
  refine (G4.out _).mono ?_; rintro e w' ⟨rfl, n4, rfl⟩
  go_wp2_with fail
  · go_ret
    exact ⟨rfl, rfl, rfl, rfl, Nat.le_refl _, fun _ _ => rfl⟩
  · have h1 : (bits BinOp.andNot IntKind.u64 (x : Int) 9223372036854775808 == 9218868437227405312) = true := by assumption
    rw [hc.out, beq_iff_eq] at h1
    have h2 : x % Num.sgn = Num.inf := by unfold Num.inf; omega
    have hH2 := Lib.hid h2
    clear h1 h2
    rw [Num.inf_same ha hH2.out] at G5
    rw [Num.inf_opp ha hH2.out] at G6
    refine (G5.out _).mono ?_; rintro e w' ⟨rfl, n5, rfl⟩
    go_wp2_with fail
    rw [hx.out]
    refine (G6.out _).mono ?_; rintro e w' ⟨rfl, n6, rfl⟩
    by_cases hy : y % Num.sgn < Num.inf
    · have hs2 : s = x := by rw [← HSs.out]; exact Num.inf_add ha hH2.out hy
      subst hs2
      have hlt : decide (9218868437227405312 ≤ bits BinOp.andNot IntKind.u64 (y : Int) 9223372036854775808) = false := by
        rw [hd.out]; unfold Num.inf at hy; exact decide_eq_false (by omega)
      clear hy
      go_wp2_with fail
      refine (G1.out _).mono ?_; rintro e w' ⟨rfl, n7, rfl⟩
      go_wp2_with fail
      go_ret
      exact ⟨rfl, rfl, rfl, rfl, Nat.le_refl _, fun _ _ => rfl⟩
    · have hlt : decide (9218868437227405312 ≤ bits BinOp.andNot IntKind.u64 (y : Int) 9223372036854775808) = true := by
        rw [hd.out]; unfold Num.inf at hy; exact decide_eq_true (by omega)
      clear hy
      go_wp2_with fail
      go_ret
      exact ⟨rfl, rfl, rfl, rfl, Nat.le_refl _, fun _ _ => rfl⟩
  · have h1 : (bits BinOp.andNot IntKind.u64 (x : Int) 9223372036854775808 == 9218868437227405312) = false := by assumption
    have h0 : ((x : Int) == 9221120237041090560) = false := by assumption
    rw [hc.out, beq_eq_false_iff_ne] at h1
    rw [beq_eq_false_iff_ne] at h0
    have h2 : x % Num.sgn < Num.inf := by
      have h3 : ¬ Num.inf < x % Num.sgn := by
        intro h4
        rw [Num.M_nan h4] at hma
        unfold Num.nan at hma
        omega
      unfold Num.inf at *
      omega
    rw [Num.fin_opp ha h2] at G6
    clear h0 h1 h2
    rw [hx.out]
    refine (G6.out _).mono ?_; rintro e w' ⟨rfl, n6, rfl⟩
    go_wp2_with fail
    go_ret
    exact ⟨rfl, rfl, rfl, rfl, Nat.le_refl _, fun _ _ => rfl⟩

end Go.Proofs.Ytldlckhkgofgdaa
