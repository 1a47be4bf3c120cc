/-
  Whether a load may be, whether a piece is of its snapshot: what the functions and the document's own return.
  No condition but what the slices read as.
-/
import Derived.Test.YtfboneehnmbklaaLdLay
set_option linter.unusedSimpArgs false
set_option linter.unusedVariables false
namespace Go.Proofs.Ytfboneehnmbklaa
open Go.RowKit

theorem LR_iff (l : Ldd) (n n2 : Nat) (h1 : l.h.length = n) (h2 : l.d.length = n2) (b : Bool) (h : b = true ↔ (0 ≤ l.t ∧ l.t ≤ 256 ∧ (n : Int) = l.t ∧ (n2 : Int) = l.t)) : b = decide (Ldm.LR l) := by
  subst h1 h2
  rw [Bool.eq_iff_iff, h, decide_eq_true_eq]; rfl
set_option maxRecDepth 100000 in
set_option maxHeartbeats 6400000 in
theorem lsound_any (l : Ldd) (A : Option Addr) (n c : Nat) (A2 : Option Addr) (n2 c2 : Nat) (w : World) (h1 : l.h.length = n) (h2 : l.d.length = n2) :
    Calls Try.prog 27 #[.agg #[.int .i64 l.n, .int .i64 l.t, .int .u32 (l.s : Int), .slice A n c, .slice A2 n2 c2]] w (IsB (decide (Ldm.LR l)) w) := by
  have HP := Lib.hid (LR_iff l n n2 h1 h2)
  show Calls Try.prog 27 #[.agg (ldC l.n l.t l.s (.slice A n c) (.slice A2 n2 c2))] w _
  generalize decide (Ldm.LR l) = r at *
  obtain ⟨m, t, s, lh, ld⟩ := l
  simp only at HP h1 h2 ⊢
  clear h1 h2
  have HK := kn1 w 35 (ldC m t s (.slice A n c) (.slice A2 n2 c2))
  have p1 : (ldC m t s (.slice A n c) (.slice A2 n2 c2))[1]? = some (.int .i64 t) := rfl
  have p3 : (ldC m t s (.slice A n c) (.slice A2 n2 c2))[3]? = some (.slice A n c) := rfl
  have p4 : (ldC m t s (.slice A n c) (.slice A2 n2 c2))[4]? = some (.slice A2 n2 c2) := rfl
  generalize ldC m t s (.slice A n c) (.slice A2 n2 c2) = pa at *
  have hc : t < 0 ∨ (0 ≤ t ∧ 256 < t) ∨ (0 ≤ t ∧ t ≤ 256 ∧ ¬ (n : Int) = t) ∨ (0 ≤ t ∧ t ≤ 256 ∧ (n : Int) = t) := by omega
  unfold IsB
  rcases hc with h1 | ⟨h1, h2⟩ | ⟨h1, h2, h3⟩ | ⟨h1, h2, h3⟩
  case inr.inr.inl =>
    have hb : ((n : Int) == t) = false := beq_eq_false_iff_ne.2 h3
    go_enter Try.func27, Try.ntmps27
    go_wp2_with fail
    all_goals
      go_ret
      refine ⟨congrArg (fun b => Ending.returned (.bool b)) (HP.out _ ?_), HK.out.b⟩
      clear HP HK p1 p3 p4
      simp only [Bool.and_eq_true, Bool.or_eq_true, decide_eq_true_eq, beq_iff_eq, Bool.false_eq_true, false_iff, true_iff]
      omega
  case inr.inr.inr =>
    have hb : ((n : Int) == t) = true := beq_iff_eq.2 h3
    go_enter Try.func27, Try.ntmps27
    go_wp2_with fail
    all_goals
      go_ret
      refine ⟨congrArg (fun b => Ending.returned (.bool b)) (HP.out _ ?_), HK.out.b⟩
      clear HP HK p1 p3 p4
      simp only [Bool.and_eq_true, Bool.or_eq_true, decide_eq_true_eq, beq_iff_eq, Bool.false_eq_true, false_iff, true_iff]
      omega
  all_goals
    go_enter Try.func27, Try.ntmps27
    go_wp2_with fail
    all_goals
      go_ret
      refine ⟨congrArg (fun b => Ending.returned (.bool b)) (HP.out _ ?_), HK.out.b⟩
      clear HP HK p1 p3 p4
      simp only [Bool.and_eq_true, Bool.or_eq_true, decide_eq_true_eq, beq_iff_eq, Bool.false_eq_true, false_iff, true_iff]
      omega
set_option maxRecDepth 100000 in
set_option maxHeartbeats 6400000 in
theorem lfits_any (l : Ldd) (A : Option Addr) (n c : Nat) (A2 : Option Addr) (n2 c2 : Nat) (w : World) (h1 : l.h.length = n) (h2 : l.d.length = n2) :
    Calls Try.prog 33 #[.agg #[.int .i64 l.n, .int .i64 l.t, .int .u32 (l.s : Int), .slice A n c, .slice A2 n2 c2]] w (IsB (decide (Ldm.LR l)) w) := by
  have HP := Lib.hid (LR_iff l n n2 h1 h2)
  show Calls Try.prog 33 #[.agg (ldC l.n l.t l.s (.slice A n c) (.slice A2 n2 c2))] w _
  generalize decide (Ldm.LR l) = r at *
  obtain ⟨m, t, s, lh, ld⟩ := l
  simp only at HP h1 h2 ⊢
  clear h1 h2
  have HK := kn1 w 35 (ldC m t s (.slice A n c) (.slice A2 n2 c2))
  have p1 : (ldC m t s (.slice A n c) (.slice A2 n2 c2))[1]? = some (.int .i64 t) := rfl
  have p3 : (ldC m t s (.slice A n c) (.slice A2 n2 c2))[3]? = some (.slice A n c) := rfl
  have p4 : (ldC m t s (.slice A n c) (.slice A2 n2 c2))[4]? = some (.slice A2 n2 c2) := rfl
  generalize ldC m t s (.slice A n c) (.slice A2 n2 c2) = pa at *
  have hc : t < 0 ∨ (0 ≤ t ∧ 256 < t) ∨ (0 ≤ t ∧ t ≤ 256 ∧ ¬ (n : Int) = t) ∨ (0 ≤ t ∧ t ≤ 256 ∧ (n : Int) = t) := by omega
  unfold IsB
  rcases hc with h1 | ⟨h1, h2⟩ | ⟨h1, h2, h3⟩ | ⟨h1, h2, h3⟩
  case inr.inr.inl =>
    have hb : ((n : Int) == t) = false := beq_eq_false_iff_ne.2 h3
    go_enter Try.func33, Try.ntmps33
    go_wp2_with fail
    all_goals
      go_ret
      refine ⟨congrArg (fun b => Ending.returned (.bool b)) (HP.out _ ?_), HK.out.b⟩
      clear HP HK p1 p3 p4
      simp only [Bool.and_eq_true, Bool.or_eq_true, decide_eq_true_eq, beq_iff_eq, Bool.false_eq_true, false_iff, true_iff]
      omega
  case inr.inr.inr =>
    have hb : ((n : Int) == t) = true := beq_iff_eq.2 h3
    go_enter Try.func33, Try.ntmps33
    go_wp2_with fail
    all_goals
      go_ret
      refine ⟨congrArg (fun b => Ending.returned (.bool b)) (HP.out _ ?_), HK.out.b⟩
      clear HP HK p1 p3 p4
      simp only [Bool.and_eq_true, Bool.or_eq_true, decide_eq_true_eq, beq_iff_eq, Bool.false_eq_true, false_iff, true_iff]
      omega
  all_goals
    go_enter Try.func33, Try.ntmps33
    go_wp2_with fail
    all_goals
      go_ret
      refine ⟨congrArg (fun b => Ending.returned (.bool b)) (HP.out _ ?_), HK.out.b⟩
      clear HP HK p1 p3 p4
      simp only [Bool.and_eq_true, Bool.or_eq_true, decide_eq_true_eq, beq_iff_eq, Bool.false_eq_true, false_iff, true_iff]
      omega
set_option maxRecDepth 100000 in
set_option maxHeartbeats 6400000 in
theorem lalike_any (l : Ldd) (p : Lpc) (A : Option Addr) (n c : Nat) (A2 : Option Addr) (n2 c2 : Nat) (w : World) :
    Calls Try.prog 29 #[.agg #[.int .i64 l.n, .int .i64 l.t, .int .u32 (l.s : Int), .slice A n c, .slice A2 n2 c2], .agg #[.int .i64 p.n, .int .i64 p.a, .int .i64 p.t, .int .u32 (p.s : Int), .string p.d]] w (IsB (decide (Ldm.AL l p)) w) := by
  have HP : Hid (∀ b : Bool, (b = true ↔ (l.n = p.n ∧ (l.t = 0 ∨ (l.t = p.t ∧ (l.s : Int) = (p.s : Int))))) → b = decide (Ldm.AL l p)) := Lib.hid fun b hb => by
    rw [Bool.eq_iff_iff, hb, decide_eq_true_eq, Int.natCast_inj]; rfl
  show Calls Try.prog 29 #[.agg (ldC l.n l.t l.s (.slice A n c) (.slice A2 n2 c2)), .agg (pcC p.n p.a p.t p.s p.d)] w _
  generalize decide (Ldm.AL l p) = r at *
  obtain ⟨m, t, s, lh, ld⟩ := l
  obtain ⟨pn, pa, pt, ps, pd⟩ := p
  simp only at HP ⊢
  have HK := kn2 w 35 (ldC m t s (.slice A n c) (.slice A2 n2 c2)) 24 (pcC pn pa pt ps pd)
  have p0 : (ldC m t s (.slice A n c) (.slice A2 n2 c2))[0]? = some (.int .i64 m) := rfl
  have p1 : (ldC m t s (.slice A n c) (.slice A2 n2 c2))[1]? = some (.int .i64 t) := rfl
  have p2 : (ldC m t s (.slice A n c) (.slice A2 n2 c2))[2]? = some (.int .u32 (s : Int)) := rfl
  have q0 : (pcC pn pa pt ps pd)[0]? = some (.int .i64 pn) := rfl
  have q2 : (pcC pn pa pt ps pd)[2]? = some (.int .i64 pt) := rfl
  have q3 : (pcC pn pa pt ps pd)[3]? = some (.int .u32 (ps : Int)) := rfl
  generalize ldC m t s (.slice A n c) (.slice A2 n2 c2) = la at *
  generalize pcC pn pa pt ps pd = pa' at *
  unfold IsB
  rcases Bool.eq_false_or_eq_true (t == 0) with h0 | h0
  · have h0' := beq_iff_eq.1 h0
    go_enter Try.func29, Try.ntmps29
    go_wp2_with fail
    all_goals
      go_ret
      refine ⟨congrArg (fun b => Ending.returned (.bool b)) (HP.out _ ?_), HK.out.b⟩
      clear HP HK p0 p1 p2 q0 q2 q3
      simp only [Bool.and_eq_true, Bool.or_eq_true, decide_eq_true_eq, beq_iff_eq, Bool.false_eq_true, false_iff, true_iff]
      omega
  · have h0' := beq_eq_false_iff_ne.1 h0
    rcases Bool.eq_false_or_eq_true (m == pn) with h1 | h1 <;> rcases Bool.eq_false_or_eq_true (t == pt) with h2 | h2
    all_goals
      have h1' := h1
      have h2' := h2
      simp only [beq_iff_eq, beq_eq_false_iff_ne, ne_eq] at h1' h2'
      have HF := Lib.hid (And.intro h0' (And.intro h1' h2'))
      clear h0' h1' h2'
      go_enter Try.func29, Try.ntmps29
      go_wp2_with fail
      all_goals
        go_ret
        refine ⟨congrArg (fun b => Ending.returned (.bool b)) (HP.out _ ?_), HK.out.b⟩
        obtain ⟨f0, f1, f2⟩ := HF.out
        clear HP HK p0 p1 p2 q0 q2 q3 HF
        simp only [Bool.and_eq_true, Bool.or_eq_true, decide_eq_true_eq, beq_iff_eq, Bool.false_eq_true, false_iff, true_iff]
        omega
end Go.Proofs.Ytfboneehnmbklaa
