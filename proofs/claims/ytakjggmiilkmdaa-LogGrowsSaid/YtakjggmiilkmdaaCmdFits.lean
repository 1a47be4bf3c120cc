/-
  What Right and Fits return, the program's and the document's.
  No condition but that floats' bits fit 64.
-/
import Derived.Test.YtakjggmiilkmdaaCmdCheck
import Derived.Test.YtakjggmiilkmdaaCmdRCheck
import Derived.Test.YtakjggmiilkmdaaJCmd
set_option linter.unusedSimpArgs false
set_option linter.unusedVariables false
namespace Go.Proofs.Ytakjggmiilkmdaa
open Go.RowKit

set_option maxHeartbeats 3200000 in
theorem cright_any (e : Cmd.E) (w : World) : Calls Try.prog 58 #[.agg #[.int .i64 e.c, .int .i64 e.e, .int .i64 e.r]] w fun en w' => en = .returned (.bool (decide (Cmd.right e))) ∧ Below w.heap.size w w' := by
  have HE : Hid (∀ q : Bool, (q = true ↔ (0 ≤ e.c ∧ e.c < 5 ∧ 1 ≤ e.e ∧ 0 ≤ e.r)) → q = decide (Cmd.right e)) := Lib.hid fun q hq => by
    rw [Bool.eq_iff_iff, hq, decide_eq_true_eq]
    exact Iff.rfl
  generalize decide (Cmd.right e) = r at *
  obtain ⟨c, ep, rq, cmd⟩ := e
  simp only at HE ⊢
  have HK := kn1 w 28 #[.int .i64 c, .int .i64 ep, .int .i64 rq]
  go_enter Try.func58, Try.ntmps58
  go_wp2_with fail
  all_goals
    go_ret
    refine ⟨congrArg (fun b => Ending.returned (.bool b)) (HE.out _ ?_), HK.out.b⟩
    clear HE HK
    simp_all <;> omega
theorem fits_split (e : Cmd.E) (q : Bool) (h : q = true ↔ (decide (Cmd.right e) = true ∧ Cmd.chk e.cmd = 0 ∧ (e.r = 0 ↔ (e.cmd.k = 1 ∨ e.cmd.k = 18)))) : q = decide (Cmd.fits e) := by
  rw [Bool.eq_iff_iff, h, decide_eq_true_eq, decide_eq_true_eq]
  exact Iff.rfl
set_option maxRecDepth 10000 in
set_option maxHeartbeats 12800000 in
theorem cfits_any (e : Cmd.E) (w : World) (hv : e.cmd.val.f < 18446744073709551616) (ho : e.cmd.old.f < 18446744073709551616) : Calls Try.prog 49 #[.agg (evA e)] w fun en w' => en = .returned (.bool (decide (Cmd.fits e))) ∧ Below w.heap.size w w' := by
  have HE := Lib.hid (fits_split e)
  have HR := Lib.hid (fun W => cright_any e W)
  have HC := Lib.hid (fun W => chk_any e.cmd W hv ho)
  clear hv ho
  generalize decide (Cmd.fits e) = d at *
  generalize decide (Cmd.right e) = dr at *
  generalize Cmd.chk e.cmd = z at *
  obtain ⟨c, ep, r, k, name, key, ⟨vk, vn, vf, vs⟩, ⟨ok, on, of, os⟩, n, m⟩ := e
  unfold evA cmA IsE at *
  simp only at HE HR HC ⊢
  have HK := kn1 w 35 (evC c ep r k name key vk vn vf vs ok on of os n m)
  have hk : k = 1 ∨ k = 18 ∨ (¬ k = 1 ∧ ¬ k = 18) := by omega
  have hz : (z = 0) ∨ (z == 0) = false := by
    by_cases h : z = 0
    · exact .inl h
    · exact .inr (by simpa using h)
  have hr : (r = 0) ∨ (¬ r = 0) := by omega
  obtain ⟨x0_, x1_, x2_, x3_, -⟩ := Kn.ev HK.out 0 rfl
  rcases hk with rfl | rfl | ⟨hk1, hk2⟩ <;> cases dr
  all_goals
    go_enter Try.func49, Try.ntmps49
    go_wp2_with (first | refine wpList_of_exec (by rfl) (kexec_eref HK 0 _ rfl rfl rfl) ?_)
    refine (HR.out _).mono ?_; rintro e w1 ⟨rfl, b1⟩
    replace HK := Lib.hid (HK.out.call b1)
    clear b1 x0_ x1_ x2_ x3_
    obtain ⟨x0_, x1_, x2_, x3_, -⟩ := Kn.ev HK.out 0 rfl
  all_goals first
    | (
      go_wp2_with fail
      go_ret
      refine ⟨congrArg (fun b => Ending.returned (.bool b)) (HE.out _ ?_), HK.out.b⟩
      simp; done)
    | (
      go_wp2_with (first | refine wpList_of_exec (by rfl) (kexec_ecm HK 0 _ rfl rfl rfl) ?_)
      refine (HC.out _).mono ?_; rintro e w2 ⟨rfl, b2⟩
      replace HK := Lib.hid (HK.out.call b2)
      clear b2 x0_ x1_ x2_ x3_
      obtain ⟨x0_, x1_, x2_, x3_, -⟩ := Kn.ev HK.out 0 rfl
      rcases hz with rfl | hz <;> rcases hr with rfl | hr
      all_goals
        go_wp2_with fail
        go_ret
        refine ⟨congrArg (fun b => Ending.returned (.bool b)) (HE.out _ ?_), HK.out.b⟩
        clear HK HC HR HE
        simp_all <;> (rw [beq_false_of_ne hr, beq_false_of_ne hk1, beq_false_of_ne hk2]; rfl))
set_option maxRecDepth 10000 in
set_option maxHeartbeats 12800000 in
theorem crfits_any (e : Cmd.E) (w : World) (hv : e.cmd.val.f < 18446744073709551616) (ho : e.cmd.old.f < 18446744073709551616) : Calls Try.prog 24 #[.agg (evA e)] w fun en w' => en = .returned (.bool (decide (Cmd.fits e))) ∧ Below w.heap.size w w' := by
  have HE := Lib.hid (fits_split e)
  have HR := Lib.hid (fun W => crright_any e W)
  have HC := Lib.hid (fun W => rchk_any e.cmd W hv ho)
  clear hv ho
  generalize decide (Cmd.fits e) = d at *
  generalize decide (Cmd.right e) = dr at *
  generalize Cmd.chk e.cmd = z at *
  obtain ⟨c, ep, r, k, name, key, ⟨vk, vn, vf, vs⟩, ⟨ok, on, of, os⟩, n, m⟩ := e
  unfold evA cmA IsE at *
  simp only at HE HR HC ⊢
  have HK := kn1 w 35 (evC c ep r k name key vk vn vf vs ok on of os n m)
  have hz : (z = 0) ∨ (z != 0) = true := by
    by_cases h : z = 0
    · exact .inl h
    · exact .inr (by simpa using h)
  cases dr
  all_goals
    go_enter Try.func24, Try.ntmps24
    go_wp2_with (first | refine wpList_of_exec (by rfl) (kexec_eref HK 0 _ rfl rfl rfl) ?_)
    refine (HR.out _).mono ?_; rintro e w1 ⟨rfl, b1⟩
    replace HK := Lib.hid (HK.out.call b1)
    clear b1
  · go_wp2_with fail
    go_ret
    exact ⟨congrArg (fun b => Ending.returned (.bool b)) (HE.out _ (by simp)), HK.out.b⟩
  · go_wp2_with (first | refine wpList_of_exec (by rfl) (kexec_ecm HK 0 _ rfl rfl rfl) ?_)
    refine (HC.out _).mono ?_; rintro e w2 ⟨rfl, b2⟩
    replace HK := Lib.hid (HK.out.call b2)
    clear b2
    obtain ⟨x0_, x1_, x2_, x3_, -⟩ := Kn.ev HK.out 0 rfl
    rcases hz with rfl | hz
    · have hk : k = 1 ∨ k = 18 ∨ (¬ k = 1 ∧ ¬ k = 18) := by omega
      have hr : (r = 0) ∨ (¬ r = 0) := by omega
      rcases hk with rfl | rfl | ⟨hk1, hk2⟩ <;> rcases hr with rfl | hr
      all_goals
        go_wp2_with fail
        go_ret
        refine ⟨congrArg (fun b => Ending.returned (.bool b)) (HE.out _ ?_), HK.out.b⟩
        clear HK HC HR HE
        simp_all <;> (rw [beq_false_of_ne hr, beq_false_of_ne hk1, beq_false_of_ne hk2]; rfl)
    · go_wp2_with fail
      go_ret
      refine ⟨congrArg (fun b => Ending.returned (.bool b)) (HE.out _ ?_), HK.out.b⟩
      clear HK HC HR HE
      simp_all
end Go.Proofs.Ytakjggmiilkmdaa
