/-
  What Cmp, Right, heeds, Prepare and Accept return.
  No condition.
-/
import Derived.Test.YtfganmbjaglmiaaBalLay
import Derived.Deep.DeepCutAuto
set_option linter.unusedSimpArgs false
set_option linter.unusedVariables false
namespace Go.Proofs.Ytfganmbjaglmiaa
open Go.RowKit

section
variable {w : World} {o : Oper} {a : Act} {b c : Bal} {p q : Bpm}
theorem bal_eq (b c : Bal) : decide (b = c) = (decide (b.r = c.r) && decide (b.s = c.s)) := by
  obtain ⟨r, s⟩ := b
  obtain ⟨r2, s2⟩ := c
  rw [Bool.eq_iff_iff]
  simp
theorem exec_beq {d : Bool} (x y : Operand) (ho : o.op = .binOp .eql 23 x y 23) (hx : a.eval x = .agg #[.int .i64 b.r, .int .i64 b.s]) (hy : a.eval y = .agg #[.int .i64 c.r, .int .i64 c.s]) (hb : decide (b = c) = d) :
    (execOp a.eval o).run Try.prog w = .ok (.value (.bool d)) w := by
  rw [bal_eq] at hb
  subst hb
  unfold execOp
  simp only [ho, hx, hy]
  go_simp
  by_cases h1 : b.r = c.r <;> by_cases h2 : b.s = c.s <;> simp [h1, h2]
end
set_option maxRecDepth 100000 in
set_option maxHeartbeats 3200000 in
theorem b20ccmp_any (a b : Bal) (w : World) : Calls Try.prog 9 #[.agg #[.int .i64 a.r, .int .i64 a.s], .agg #[.int .i64 b.r, .int .i64 b.s]] w (IsIB (Blt.cm a b) w) := by
  show Calls Try.prog 9 #[.agg (blA a), .agg (blA b)] w _
  have HK := kn2 w 23 (blA a) 23 (blA b)
  have hc : (a = b ∧ Blt.cm a b = 0) ∨ (¬ a = b ∧ a.r < b.r ∧ Blt.cm a b = -1) ∨ (¬ a = b ∧ ¬ a.r < b.r ∧ ¬ a.r = b.r ∧ Blt.cm a b = 1) ∨ (¬ a = b ∧ ¬ a.r < b.r ∧ a.r = b.r ∧ a.s < b.s ∧ Blt.cm a b = -1) ∨ (¬ a = b ∧ ¬ a.r < b.r ∧ a.r = b.r ∧ b.s < a.s ∧ Blt.cm a b = 1) := by
    unfold Blt.cm
    by_cases h0 : a = b
    · subst h0
      exact .inl ⟨rfl, by rw [if_neg (Blt.lt_irr a), if_neg (Blt.lt_irr a)]⟩
    by_cases h1 : a.r < b.r
    · exact .inr (.inl ⟨h0, h1, if_pos (show Blt.lt a b from .inl h1)⟩)
    · by_cases h2 : a.r = b.r
      · by_cases h3 : a.s < b.s
        · exact .inr (.inr (.inr (.inl ⟨h0, h1, h2, h3, if_pos (show Blt.lt a b from .inr ⟨by omega, h3⟩)⟩)))
        · have hl : ¬ Blt.lt a b := by unfold Blt.lt; omega
          have hl2 : Blt.lt b a := Classical.byContradiction fun q => h0 (Blt.tri hl q)
          exact .inr (.inr (.inr (.inr ⟨h0, h1, h2, by unfold Blt.lt at hl2; omega, by rw [if_neg hl, if_pos hl2]⟩)))
      · exact .inr (.inr (.inl ⟨h0, h1, h2, by rw [if_neg (show ¬ Blt.lt a b from by unfold Blt.lt; omega), if_pos (show Blt.lt b a from by unfold Blt.lt; omega)]⟩))
  unfold IsIB
  generalize Blt.cm a b = m at *
  have p0 : (blA a)[0]? = some (.int .i64 a.r) := rfl
  have p1 : (blA a)[1]? = some (.int .i64 a.s) := rfl
  have q0 : (blA b)[0]? = some (.int .i64 b.r) := rfl
  have q1 : (blA b)[1]? = some (.int .i64 b.s) := rfl
  generalize blA a = la at *
  generalize blA b = lb at *
  rcases hc with ⟨h0, rfl⟩ | ⟨h0, h1, rfl⟩ | ⟨h0, h1, h2, rfl⟩ | ⟨h0, h1, h2, h3, rfl⟩ | ⟨h0, h1, h2, h3, rfl⟩
  · have hd : Hid (decide (a = b) = true) := Lib.hid (decide_eq_true h0)
    clear h0
    obtain ⟨ar, a2⟩ := a
    obtain ⟨br, bs⟩ := b
    simp only at *
    go_enter Try.func9, Try.ntmps9
    go_wp2_with (first | refine wpList_exe (exec_beq (b := ⟨ar, a2⟩) (c := ⟨br, bs⟩) _ _ (by rfl) (by rfl) (by rfl) hd.out) (by rfl) ?_)
    go_ret
    exact ⟨rfl, HK.out.b⟩
  · have hd : Hid (decide (a = b) = false) := Lib.hid (decide_eq_false h0)
    clear h0
    obtain ⟨ar, a2⟩ := a
    obtain ⟨br, bs⟩ := b
    simp only at *
    go_enter Try.func9, Try.ntmps9
    clear hd
    go_wp2_with fail
    go_ret
    exact ⟨rfl, HK.out.b⟩
  · have hd : Hid (decide (a = b) = false) := Lib.hid (decide_eq_false h0)
    clear h0
    obtain ⟨ar, a2⟩ := a
    obtain ⟨br, bs⟩ := b
    simp only at *
    go_enter Try.func9, Try.ntmps9
    clear hd
    go_wp2_with fail
    go_ret
    exact ⟨rfl, HK.out.b⟩
  · have hd : Hid (decide (a = b) = false) := Lib.hid (decide_eq_false h0)
    clear h0
    obtain ⟨ar, a2⟩ := a
    obtain ⟨br, bs⟩ := b
    simp only at *
    go_enter Try.func9, Try.ntmps9
    clear hd
    go_wp2_with fail
    go_ret
    exact ⟨rfl, HK.out.b⟩
  · have hd : Hid (decide (a = b) = false) := Lib.hid (decide_eq_false h0)
    clear h0
    have h4 : ¬ a.s < b.s := by omega
    obtain ⟨ar, a2⟩ := a
    obtain ⟨br, bs⟩ := b
    simp only at *
    go_enter Try.func9, Try.ntmps9
    clear hd
    go_wp2_with fail
    go_ret
    exact ⟨rfl, HK.out.b⟩
set_option maxRecDepth 100000 in
set_option maxHeartbeats 3200000 in
theorem b20cright_any (b : Bal) (w : World) : Calls Try.prog 11 #[.agg #[.int .i64 b.r, .int .i64 b.s]] w (IsB (decide (Blt.Rt b)) w) := by
  show Calls Try.prog 11 #[.agg (blA b)] w _
  have HP : Hid (∀ q : Bool, (q = true ↔ (1 ≤ b.r ∧ 0 ≤ b.s ∧ b.s < 7)) → q = decide (Blt.Rt b)) := Lib.hid fun q hq => by
    rw [Bool.eq_iff_iff, hq, decide_eq_true_eq]; rfl
  generalize decide (Blt.Rt b) = r at *
  have HK := kn1 w 23 (blA b)
  have q0 : (blA b)[0]? = some (.int .i64 b.r) := rfl
  have q1 : (blA b)[1]? = some (.int .i64 b.s) := rfl
  generalize blA b = lb at *
  obtain ⟨br, bs⟩ := b
  simp only at *
  have hc : ¬ 1 ≤ br ∨ (1 ≤ br ∧ ¬ 0 ≤ bs) ∨ (1 ≤ br ∧ 0 ≤ bs) := by omega
  unfold IsB
  rcases hc with h1 | ⟨h1, h2⟩ | ⟨h1, h2⟩
  all_goals
    go_enter Try.func11, Try.ntmps11
    go_wp2_with fail
    all_goals
      go_ret
      refine ⟨congrArg (fun b => Ending.returned (.bool b)) (HP.out _ ?_), HK.out.b⟩
      clear HP HK q0 q1
      simp only [Bool.and_eq_true, Bool.or_eq_true, decide_eq_true_eq, beq_iff_eq, Bool.false_eq_true, false_iff, true_iff]
      omega
theorem b20cok_bad {x : Bvo} {b : Bal} (h : ¬ Blt.ok x b) : ¬ Blt.Rt b ∨ (Blt.Rt b ∧ Blt.cm b x.p < 0) := by
  by_cases hr : Blt.Rt b
  · right
    refine ⟨hr, ?_⟩
    have hl : Blt.lt b x.p := Classical.byContradiction fun q => h ⟨hr, q⟩
    unfold Blt.cm
    rw [if_pos hl]
    decide
  · exact .inl hr
theorem b20cok_good {x : Bvo} {b : Bal} (h : Blt.ok x b) : Blt.Rt b ∧ ¬ Blt.cm b x.p < 0 := by
  refine ⟨h.1, ?_⟩
  unfold Blt.cm
  rw [if_neg h.2]
  split <;> omega
set_option maxRecDepth 100000 in
set_option maxHeartbeats 6400000 in
theorem b20cheeds_any (x : Bvo) (b : Bal) (w : World) : Calls Try.prog 21 #[.agg #[.int .i64 x.p.r, .int .i64 x.p.s, .int .i64 x.a.r, .int .i64 x.a.s, .string x.v], .agg #[.int .i64 b.r, .int .i64 b.s]] w (IsB (decide (Blt.ok x b)) w) := by
  have HR := Lib.hid (fun W => b20cright_any b W)
  have HC := Lib.hid (fun W => b20ccmp_any b x.p W)
  have HK := kn2 w 29 (voA x) 23 (blA b)
  unfold IsB at HR
  unfold IsIB at HC
  unfold IsB
  by_cases hok : Blt.ok x b
  · obtain ⟨h1, h2⟩ := b20cok_good hok
    rw [decide_eq_true hok]
    rw [decide_eq_true h1] at HR
    have h2 : 0 ≤ Blt.cm b x.p := by omega
    clear hok h1
    generalize Blt.cm b x.p = m at *
    go_enter Try.func21, Try.ntmps21
    go_wp2_with (first | refine wpList_exe (kb_b HK 1 _ (by rfl) (by rfl) (by rfl)) (by rfl) ?_)
    refine (HR.out _).mono ?_; rintro e w1 ⟨rfl, b1⟩
    replace HK := Lib.hid (HK.out.call b1); clear b1
    go_wp2_with (first | refine wpList_exe (kb_b HK 1 _ (by rfl) (by rfl) (by rfl)) (by rfl) ?_ | refine wpList_exe (kv_p HK 0 _ (by rfl) (by rfl) (by rfl)) (by rfl) ?_)
    refine (HC.out _).mono ?_; rintro e w1 ⟨rfl, b1⟩
    replace HK := Lib.hid (HK.out.call b1); clear b1
    go_wp2_with fail
    go_ret
    exact ⟨rfl, HK.out.b⟩
  · rw [decide_eq_false hok]
    rcases b20cok_bad hok with h1 | ⟨h1, h2⟩
    · rw [decide_eq_false h1] at HR
      clear hok h1 HC
      go_enter Try.func21, Try.ntmps21
      go_wp2_with (first | refine wpList_exe (kb_b HK 1 _ (by rfl) (by rfl) (by rfl)) (by rfl) ?_)
      refine (HR.out _).mono ?_; rintro e w1 ⟨rfl, b1⟩
      replace HK := Lib.hid (HK.out.call b1); clear b1
      go_wp2_with fail
      go_ret
      exact ⟨rfl, HK.out.b⟩
    · rw [decide_eq_true h1] at HR
      have h2 : ¬ 0 ≤ Blt.cm b x.p := by omega
      clear hok h1
      generalize Blt.cm b x.p = m at *
      go_enter Try.func21, Try.ntmps21
      go_wp2_with (first | refine wpList_exe (kb_b HK 1 _ (by rfl) (by rfl) (by rfl)) (by rfl) ?_)
      refine (HR.out _).mono ?_; rintro e w1 ⟨rfl, b1⟩
      replace HK := Lib.hid (HK.out.call b1); clear b1
      go_wp2_with (first | refine wpList_exe (kb_b HK 1 _ (by rfl) (by rfl) (by rfl)) (by rfl) ?_ | refine wpList_exe (kv_p HK 0 _ (by rfl) (by rfl) (by rfl)) (by rfl) ?_)
      refine (HC.out _).mono ?_; rintro e w1 ⟨rfl, b1⟩
      replace HK := Lib.hid (HK.out.call b1); clear b1
      go_wp2_with fail
      go_ret
      exact ⟨congrArg (fun b => Ending.returned (.bool b)) (decide_eq_false (by omega)), HK.out.b⟩
set_option maxRecDepth 100000 in
set_option maxHeartbeats 6400000 in
theorem b20cprep_any (x : Bvo) (b : Bal) (w : World) : Calls Try.prog 13 #[.agg #[.int .i64 x.p.r, .int .i64 x.p.s, .int .i64 x.a.r, .int .i64 x.a.s, .string x.v], .agg #[.int .i64 b.r, .int .i64 b.s]] w (IsVB (Blt.pr x b) (decide (Blt.ok x b)) w) := by
  have HH := Lib.hid (fun W => b20cheeds_any x b W)
  have HK := kn3 w 29 (voA x) 23 (blA b) 29 (voA zvo)
  unfold IsB at HH
  unfold IsVB
  by_cases hok : Blt.ok x b
  · rw [decide_eq_true hok] at HH ⊢
    rw [show Blt.pr x b = ⟨b, x.a, x.v⟩ from if_pos hok]
    clear hok
    go_enter Try.func13, Try.ntmps13
    go_wp2_with (first | refine wpList_exe (kb_b HK 1 _ (by rfl) (by rfl) (by rfl)) (by rfl) ?_ | refine wpList_exe (kv_v HK 0 _ (by rfl) (by rfl) (by rfl)) (by rfl) ?_)
    refine (HH.out _).mono ?_; rintro e w1 ⟨rfl, b1⟩
    replace HK := Lib.hid (HK.out.call b1); clear b1
    go_wp2_with (first | refine wpList_exe (kb_b HK 1 _ (by rfl) (by rfl) (by rfl)) (by rfl) ?_ | refine wpList_exe (kv_v HK 0 _ (by rfl) (by rfl) (by rfl)) (by rfl) ?_ | (refine wpList_svp (c := b) HK 0 rfl _ _ rfl rfl rfl rfl ?_; intro _ HK'; simp only [List.set] at HK'; replace HK := HK'; clear HK') | (refine wpList_svo (y := ⟨b, x.a, x.v⟩) HK 2 rfl _ _ rfl rfl rfl rfl ?_; intro _ HK'; simp only [List.set] at HK'; replace HK := HK'; clear HK'))
    exact ret_vb Try.results13 rfl rfl rfl (HK.out.blk 2 rfl) ⟨rfl, HK.out.b⟩
  · rw [decide_eq_false hok] at HH ⊢
    rw [show Blt.pr x b = x from if_neg hok]
    clear hok
    go_enter Try.func13, Try.ntmps13
    go_wp2_with (first | refine wpList_exe (kb_b HK 1 _ (by rfl) (by rfl) (by rfl)) (by rfl) ?_ | refine wpList_exe (kv_v HK 0 _ (by rfl) (by rfl) (by rfl)) (by rfl) ?_)
    refine (HH.out _).mono ?_; rintro e w1 ⟨rfl, b1⟩
    replace HK := Lib.hid (HK.out.call b1); clear b1
    go_wp2_with (first | refine wpList_exe (kv_v HK 0 _ (by rfl) (by rfl) (by rfl)) (by rfl) ?_ | (refine wpList_svo (y := x) HK 2 rfl _ _ rfl rfl rfl rfl ?_; intro _ HK'; simp only [List.set] at HK'; replace HK := HK'; clear HK'))
    exact ret_vb Try.results13 rfl rfl rfl (HK.out.blk 2 rfl) ⟨rfl, HK.out.b⟩
set_option maxRecDepth 100000 in
set_option maxHeartbeats 6400000 in
theorem b20cacc_any (x : Bvo) (b : Bal) (s : ByteArray) (w : World) : Calls Try.prog 15 #[.agg #[.int .i64 x.p.r, .int .i64 x.p.s, .int .i64 x.a.r, .int .i64 x.a.s, .string x.v], .agg #[.int .i64 b.r, .int .i64 b.s], .string s] w (IsVB (Blt.ac x b s) (decide (Blt.ok x b)) w) := by
  have HH := Lib.hid (fun W => b20cheeds_any x b W)
  have HK := kn3 w 29 (voA x) 23 (blA b) 29 (voA zvo)
  unfold IsB at HH
  unfold IsVB
  by_cases hok : Blt.ok x b
  · rw [decide_eq_true hok] at HH ⊢
    rw [show Blt.ac x b s = ⟨b, b, s⟩ from if_pos hok]
    clear hok
    go_enter Try.func15, Try.ntmps15
    go_wp2_with (first | refine wpList_exe (kb_b HK 1 _ (by rfl) (by rfl) (by rfl)) (by rfl) ?_ | refine wpList_exe (kv_v HK 0 _ (by rfl) (by rfl) (by rfl)) (by rfl) ?_)
    refine (HH.out _).mono ?_; rintro e w1 ⟨rfl, b1⟩
    replace HK := Lib.hid (HK.out.call b1); clear b1
    go_wp2_with (first | refine wpList_exe (kb_b HK 1 _ (by rfl) (by rfl) (by rfl)) (by rfl) ?_ | refine wpList_exe (kv_v HK 0 _ (by rfl) (by rfl) (by rfl)) (by rfl) ?_ | (refine wpList_svo (y := ⟨b, b, s⟩) HK 2 rfl _ _ rfl rfl rfl rfl ?_; intro _ HK'; simp only [List.set] at HK'; replace HK := HK'; clear HK'))
    exact ret_vb Try.results15 rfl rfl rfl (HK.out.blk 2 rfl) ⟨rfl, HK.out.b⟩
  · rw [decide_eq_false hok] at HH ⊢
    rw [show Blt.ac x b s = x from if_neg hok]
    clear hok
    go_enter Try.func15, Try.ntmps15
    go_wp2_with (first | refine wpList_exe (kb_b HK 1 _ (by rfl) (by rfl) (by rfl)) (by rfl) ?_ | refine wpList_exe (kv_v HK 0 _ (by rfl) (by rfl) (by rfl)) (by rfl) ?_)
    refine (HH.out _).mono ?_; rintro e w1 ⟨rfl, b1⟩
    replace HK := Lib.hid (HK.out.call b1); clear b1
    go_wp2_with (first | refine wpList_exe (kv_v HK 0 _ (by rfl) (by rfl) (by rfl)) (by rfl) ?_ | (refine wpList_svo (y := x) HK 2 rfl _ _ rfl rfl rfl rfl ?_; intro _ HK'; simp only [List.set] at HK'; replace HK := HK'; clear HK'))
    exact ret_vb Try.results15 rfl rfl rfl (HK.out.blk 2 rfl) ⟨rfl, HK.out.b⟩
end Go.Proofs.Ytfganmbjaglmiaa
