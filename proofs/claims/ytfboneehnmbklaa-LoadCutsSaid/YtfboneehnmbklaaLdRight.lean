/-
  Whether a piece may be, whether a load may be, whether they are of one snapshot: what the functions and the document's own return.
  No condition but a text's greatest size, and what the slices read as.
-/
import Derived.Test.YtfboneehnmbklaaLdLay
set_option linter.unusedSimpArgs false
set_option linter.unusedVariables false
namespace Go.Proofs.Ytfboneehnmbklaa
open Go.RowKit

set_option maxRecDepth 100000 in
set_option maxHeartbeats 6400000 in
theorem lright_any (p : Lpc) (w : World) (hd : p.d.size ≤ 140737488351232) :
    Calls Try.prog 13 #[.agg #[.int .i64 p.n, .int .i64 p.a, .int .i64 p.t, .int .u32 (p.s : Int), .string p.d]] w (IsB (decide (Ldm.PR p)) w) := by
  obtain ⟨n, a, t, s, d⟩ := p
  simp only at hd ⊢
  show Calls Try.prog 13 #[.agg (pcC n a t s d)] w _
  have HP : Hid (∀ b : Bool, (b = true ↔ (1 ≤ t ∧ t ≤ 256 ∧ 0 ≤ a ∧ a < t) ∧ (a < t - 1 → d.size = 64) ∧ (¬ a < t - 1 → d.size ≤ 64 ∧ (0 < d.size ∨ t = 1))) → b = decide (Ldm.PR ⟨n, a, t, s, d⟩)) := Lib.hid fun b hb => by
    rw [Bool.eq_iff_iff, hb, decide_eq_true_eq]; rfl
  generalize decide (Ldm.PR ⟨n, a, t, s, d⟩) = r at *
  have HK := kn1 w 24 (pcC n a t s d)
  have p1 : (pcC n a t s d)[1]? = some (.int .i64 a) := rfl
  have p2 : (pcC n a t s d)[2]? = some (.int .i64 t) := rfl
  have p4 : (pcC n a t s d)[4]? = some (.string d) := rfl
  generalize pcC n a t s d = pa at *
  have hc : t < 1 ∨ (1 ≤ t ∧ 256 < t) ∨ (1 ≤ t ∧ t ≤ 256 ∧ a < 0) ∨ (1 ≤ t ∧ t ≤ 256 ∧ 0 ≤ a ∧ t ≤ a) ∨ (1 ≤ t ∧ t ≤ 256 ∧ 0 ≤ a ∧ a < t ∧ t = 1) ∨ (1 ≤ t ∧ t ≤ 256 ∧ 0 ≤ a ∧ a < t ∧ ¬ t = 1 ∧ a = t - 1) ∨ (1 ≤ t ∧ t ≤ 256 ∧ 0 ≤ a ∧ a < t ∧ ¬ t = 1 ∧ ¬ a = t - 1) := by omega
  unfold IsB
  rcases hc with h1 | ⟨h1, h2⟩ | ⟨h1, h2, h3⟩ | ⟨h1, h2, h3, h4⟩ | ⟨h1, h2, h3, h4, h5⟩ | ⟨h1, h2, h3, h4, h5, h6⟩ | ⟨h1, h2, h3, h4, h5, h6⟩
  case inr.inr.inr.inr.inr.inl =>
    have hw : IntKind.i64.wrap (t - 1) = t - 1 := by rw [IntKind.wrap_i64]; omega
    have b1 : (t == 1) = false := beq_eq_false_iff_ne.2 h5
    have b2 : (a == t - 1) = true := beq_iff_eq.2 h6
    go_enter Try.func13, Try.ntmps13
    go_wp2_with fail
    all_goals
      go_ret
      refine ⟨congrArg (fun b => Ending.returned (.bool b)) (HP.out _ ?_), HK.out.b⟩
      clear HP HK p1 p2 p4 b1 b2
      simp only [Bool.and_eq_true, Bool.or_eq_true, decide_eq_true_eq, beq_iff_eq, Bool.false_eq_true, false_iff, true_iff]
      omega
  case inr.inr.inr.inr.inr.inr =>
    have hw : IntKind.i64.wrap (t - 1) = t - 1 := by rw [IntKind.wrap_i64]; omega
    have b1 : (t == 1) = false := beq_eq_false_iff_ne.2 h5
    have b2 : (a == t - 1) = false := beq_eq_false_iff_ne.2 h6
    go_enter Try.func13, Try.ntmps13
    go_wp2_with fail
    all_goals
      go_ret
      refine ⟨congrArg (fun b => Ending.returned (.bool b)) (HP.out _ ?_), HK.out.b⟩
      clear HP HK p1 p2 p4 b1 b2
      simp only [Bool.and_eq_true, Bool.or_eq_true, decide_eq_true_eq, beq_iff_eq, Bool.false_eq_true, false_iff, true_iff]
      omega
  all_goals
    go_enter Try.func13, Try.ntmps13
    go_wp2_with fail
    all_goals
      go_ret
      refine ⟨congrArg (fun b => Ending.returned (.bool b)) (HP.out _ ?_), HK.out.b⟩
      clear HP HK p1 p2 p4
      simp only [Bool.and_eq_true, Bool.or_eq_true, decide_eq_true_eq, beq_iff_eq, Bool.false_eq_true, false_iff, true_iff]
      omega
set_option maxRecDepth 100000 in
set_option maxHeartbeats 6400000 in
theorem lrright_any (p : Lpc) (w : World) (hd : p.d.size ≤ 140737488351232) :
    Calls Try.prog 19 #[.agg #[.int .i64 p.n, .int .i64 p.a, .int .i64 p.t, .int .u32 (p.s : Int), .string p.d]] w (IsB (decide (Ldm.PR p)) w) := by
  obtain ⟨n, a, t, s, d⟩ := p
  simp only at hd ⊢
  show Calls Try.prog 19 #[.agg (pcC n a t s d)] w _
  have HP : Hid (∀ b : Bool, (b = true ↔ (1 ≤ t ∧ t ≤ 256 ∧ 0 ≤ a ∧ a < t) ∧ (a < t - 1 → d.size = 64) ∧ (¬ a < t - 1 → d.size ≤ 64 ∧ (0 < d.size ∨ t = 1))) → b = decide (Ldm.PR ⟨n, a, t, s, d⟩)) := Lib.hid fun b hb => by
    rw [Bool.eq_iff_iff, hb, decide_eq_true_eq]; rfl
  generalize decide (Ldm.PR ⟨n, a, t, s, d⟩) = r at *
  have HK := kn1 w 24 (pcC n a t s d)
  have p1 : (pcC n a t s d)[1]? = some (.int .i64 a) := rfl
  have p2 : (pcC n a t s d)[2]? = some (.int .i64 t) := rfl
  have p4 : (pcC n a t s d)[4]? = some (.string d) := rfl
  generalize pcC n a t s d = pa at *
  have hc : t < 1 ∨ (1 ≤ t ∧ 256 < t) ∨ (1 ≤ t ∧ t ≤ 256 ∧ a < 0) ∨ (1 ≤ t ∧ t ≤ 256 ∧ 0 ≤ a ∧ t ≤ a) ∨ (1 ≤ t ∧ t ≤ 256 ∧ 0 ≤ a ∧ a < t ∧ a < t - 1) ∨ (1 ≤ t ∧ t ≤ 256 ∧ 0 ≤ a ∧ a < t ∧ ¬ a < t - 1) := by omega
  unfold IsB
  rcases hc with h1 | ⟨h1, h2⟩ | ⟨h1, h2, h3⟩ | ⟨h1, h2, h3, h4⟩ | ⟨h1, h2, h3, h4, h5⟩ | ⟨h1, h2, h3, h4, h5⟩
  case inr.inr.inr.inr.inl =>
    have hw : IntKind.i64.wrap (t - 1) = t - 1 := by rw [IntKind.wrap_i64]; omega
    go_enter Try.func19, Try.ntmps19
    go_wp2_with fail
    all_goals
      go_ret
      refine ⟨congrArg (fun b => Ending.returned (.bool b)) (HP.out _ ?_), HK.out.b⟩
      clear HP HK p1 p2 p4
      simp only [Bool.and_eq_true, Bool.or_eq_true, decide_eq_true_eq, beq_iff_eq, Bool.false_eq_true, false_iff, true_iff]
      omega
  case inr.inr.inr.inr.inr =>
    have hw : IntKind.i64.wrap (t - 1) = t - 1 := by rw [IntKind.wrap_i64]; omega
    have h10 : t - 1 < 9223372036854775807 := by omega
    rcases Bool.eq_false_or_eq_true (t == 1) with hb9 | hb9 <;> by_cases h6 : (d.size : Int) ≤ 64 <;> by_cases h7 : 0 < d.size <;> try (exfalso; omega)
    all_goals
      have h9 := hb9
      simp only [beq_iff_eq, beq_eq_false_iff_ne, ne_eq] at h9
      have HF := Lib.hid (And.intro h1 (And.intro h2 (And.intro h3 (And.intro h4 (And.intro h5 (And.intro h6 (And.intro h7 h9)))))))
      go_enter Try.func19, Try.ntmps19
      go_wp2_with fail
      all_goals
        go_ret
        refine ⟨congrArg (fun b => Ending.returned (.bool b)) (HP.out _ ?_), HK.out.b⟩
        have HF2 := HF.out
        clear HP HK p1 p2 p4 HF
        simp only [Bool.and_eq_true, Bool.or_eq_true, decide_eq_true_eq, beq_iff_eq, Bool.false_eq_true, false_iff, true_iff]
        omega
  all_goals
    go_enter Try.func19, Try.ntmps19
    go_wp2_with fail
    all_goals
      go_ret
      refine ⟨congrArg (fun b => Ending.returned (.bool b)) (HP.out _ ?_), HK.out.b⟩
      clear HP HK p1 p2 p4
      simp only [Bool.and_eq_true, Bool.or_eq_true, decide_eq_true_eq, beq_iff_eq, Bool.false_eq_true, false_iff, true_iff]
      omega
end Go.Proofs.Ytfboneehnmbklaa
