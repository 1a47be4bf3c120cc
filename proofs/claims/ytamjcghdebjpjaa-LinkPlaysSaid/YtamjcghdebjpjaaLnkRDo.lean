/-
  What ref returns.
  No condition but that an end has no more payloads than the form's reach, and numbers of no more.
-/
import Derived.Test.YtamjcghdebjpjaaLnkTold
import Derived.Test.YtamjcghdebjpjaaLnkDo
namespace Go.Proofs.Ytamjcghdebjpjaa
open Go.RowKit

set_option maxRecDepth 10000 in
set_option maxHeartbeats 6400000 in
theorem rdo_any (A : Option Addr) (c : Nat) (l : Lnk.L) (k n : Int) (b : ByteArray) (p : Lnk.Pkt) (w : World) (hi : In w A l) (hcap : l.out.length ≤ c) (hb : 1 ≤ l.base ∧ l.base ≤ 1000000) (hg : 0 ≤ l.got ∧ l.got ≤ 1000000) (ha : 0 ≤ l.age ∧ l.age ≤ 1000) (h64 : -9223372036854775808 ≤ p.ack ∧ p.ack ≤ 9223372036854775807) (h65 : -9223372036854775808 ≤ p.seq ∧ p.seq ≤ 9223372036854775807) :
    Calls Try.prog 11 #[.agg (lA (.slice A l.out.length c) l), .agg (oC k n b p.fs p.fc p.ts p.tc p.seq p.ack p.body)] w (IsD A c l.out (doM l k n b p) w) := by
  have HS : Hid (∀ W, Below w.heap.size w W → Calls Try.prog 29 #[.agg (lA (.slice A l.out.length c) l), .string b, .int .i64 n] W (IsRS A c l.out (Lnk.send l b n) W)) := Lib.hid fun W hW => rsend_any A c l b n W (hi.later hW) hcap hb
  have HT : Hid (∀ W, Below w.heap.size w W → Calls Try.prog 30 #[.agg (lA (.slice A l.out.length c) l), .int .i64 n] W (IsRT A c l.out (Lnk.tick l n) W)) := Lib.hid fun W hW => rtick_any A c l n W (hi.later hW) hcap hb ha
  have HM : Hid (∀ W, Below w.heap.size w W → Calls Try.prog 31 #[.agg (lA (.slice A l.out.length c) l), .int .i64 n] W (fun e w1 => ∃ A' c', e = .returned (.agg (lA (.slice A' (Lnk.meet l n).out.length c') (Lnk.meet l n))) ∧ From W w1 A c l.out A' c' (Lnk.meet l n).out ∧ Below W.heap.size W w1)) := Lib.hid fun W _ => (rmeet_any A c l n W).mono fun e w1 ⟨A1, c1, h1, h2, h3⟩ => ⟨A1, c1, h1, by
    rcases h2 with h2 | ⟨rfl, rfl, h2⟩
    · exact .inr h2
    · rw [h2]; exact .inl (Lay.Own.none _ _), h3⟩
  have HTk : Hid (∀ W, Below w.heap.size w W → Calls Try.prog 32 #[.agg (lA (.slice A l.out.length c) l), .agg (pA p)] W (IsRTk A c l.out (Lnk.take l p) W)) := Lib.hid fun W hW => rtake_any A c l p W (hi.later hW) hcap hb hg h64 h65
  have HK := kn6 w 27 (lA (.slice A l.out.length c) l) 38 (oC k n b p.fs p.fc p.ts p.tc p.seq p.ack p.body) 27 (lC (.slice none 0 0) 0 0 0 0 0 0 0) 32 (tC (.slice none 0 0) ⟨#[]⟩ false 0) 32 (tC (.slice none 0 0) ⟨#[]⟩ false 0) 36 (pC 0 0 0 0 0 0 ⟨#[]⟩)
  clear hi hcap hb hg ha h64 h65
  unfold doM
  generalize Lnk.send l b n = rs at *
  generalize Lnk.tick l n = rt at *
  generalize Lnk.meet l n = rm at *
  generalize Lnk.take l p = rk at *
  obtain ⟨fs, fc, ts, tc, seq, ack, body⟩ := p
  unfold lA pA at *
  simp only at HS HT HM HTk HK ⊢
  generalize hlo : l.out = out at *
  have HLO := Lib.hid hlo
  clear hlo
  generalize hln : out.length = ln at *
  have HLN := Lib.hid hln
  clear hln
  have hk : k = 1 ∨ k = 2 ∨ k = 3 ∨ k = 4 ∨ (k ≠ 1 ∧ k ≠ 2 ∧ k ≠ 3 ∧ k ≠ 4) := by omega
  rcases hk with rfl | rfl | rfl | rfl | ⟨k1, k2, k3, k4⟩
  · simp only [if_true]
    go_enter Try.func11, Try.ntmps11
    go_wp2_with (first | refine wpList_kll HK 0 rfl _ rfl rfl rfl ?_ | refine wpList_kci HK 1 rfl _ rfl rfl rfl rfl ?_ | refine wpList_kcs HK 1 rfl _ rfl rfl rfl rfl ?_)
    refine (HS.out _ HK.out.b).mono ?_; rintro e w1 ⟨A1, c1, rfl, o1, b1⟩
    obtain ⟨R1, k1, HF⟩ := from_kn HK.out b1 o1
    replace HK := Lib.hid k1
    replace HF := Lib.hid HF
    clear b1 o1 k1 HS HT HM HTk
    obtain ⟨⟨qms, qmc, qps, qpc, qout, qbase, qgot, qage⟩, ⟨pfs, pfc, pts, ptc, pseq, pack, pbody⟩, er⟩ := rs
    unfold lA pA at *
    simp only at HF ⊢
    go_wp2_with (first | (refine wpList_ksl HK 0 rfl _ _ rfl rfl rfl rfl rfl ?_; intro _ HK' _; simp only [List.set] at HK'; replace HK := HK'; clear HK') | (refine wpList_ksp HK 5 rfl _ _ rfl rfl rfl rfl rfl ?_; intro _ HK' _; simp only [List.set] at HK'; replace HK := HK'; clear HK') | (refine wpList_t3 HK 4 rfl _ _ rfl rfl rfl rfl ?_; intro _ HK' _; simp only [List.set] at HK'; replace HK := HK'; clear HK') | refine wpList_klpx HK 5 rfl _ rfl rfl rfl ?_ | (refine wpList_t0 (Lib.hid (HK.out.literalP ⟨pfs, pfc, pts, ptc, pseq, pack, pbody⟩)) 4 rfl _ _ rfl rfl rfl rfl ?_; intro _ HK' _; simp only [List.set] at HK'; replace HK := HK'; clear HK'))
    replace HK := Lib.hid HK.out.drew
    refine wp_region_any (by kernel_rfl) ?_
    change wpAny _ _ _ _ _ _ _ (World.drew _)
    refine wpAny_ready (rs := [0, 1]) (by kernel_rfl) (by simp) ?_
    refine AllReady.cons (o := ⟨some 61, _, _, _, _, _⟩) rfl (fun K hK => ?_) (AllReady.cons (o := ⟨some 62, _, _, _, _, _⟩) rfl (fun K hK => ?_) AllReady.nil)
    replace hK := Lib.hid hK
    refine step_kll HK 0 (by rfl) _ (by rfl) (by rfl) (by rfl) ?_
    refine hK.out _ _ ?_
    clear hK K
    try simp only [Act.put, List.setIfInBounds_toArray, List.set_cons_zero, List.set_cons_succ]
    refine wpAny_ready (rs := [1, 2]) (by kernel_rfl) (by simp) ?_
    refine AllReady.cons (o := ⟨some 62, _, _, _, _, _⟩) rfl (fun K hK => ?_) (AllReady.cons (o := ⟨none, _, _, _, _, _⟩) rfl (fun K hK => ?_) AllReady.nil)
    replace hK := Lib.hid hK
    refine step_klt HK 4 (by rfl) _ (by rfl) (by rfl) (by rfl) ?_
    refine hK.out _ _ ?_
    clear hK K
    try simp only [Act.put, List.setIfInBounds_toArray, List.set_cons_zero, List.set_cons_succ]
    refine wpAny_ready (rs := [2]) (by kernel_rfl) (by simp) ?_
    refine AllReady.cons (o := ⟨none, _, _, _, _, _⟩) rfl (fun K hK => ?_) AllReady.nil
    replace hK := Lib.hid hK
    refine step_ksl HK 2 (by rfl) _ _ (by rfl) (by rfl) (by rfl) (by rfl) (by rfl) ?_; intro _ HK' _; simp only [List.set] at HK'; replace HK := HK'; clear HK'
    refine hK.out _ _ ?_
    clear hK K
    try simp only [Act.put]
    refine wpAny_ready (rs := [3]) (by kernel_rfl) (by simp) ?_
    refine AllReady.cons (o := ⟨none, _, _, _, _, _⟩) rfl (fun K hK => ?_) AllReady.nil
    replace hK := Lib.hid hK
    refine step_kst HK 3 (by rfl) _ _ (by rfl) (by rfl) (by rfl) (by rfl) (by rfl) ?_; intro _ HK' _; simp only [List.set] at HK'; replace HK := HK'; clear HK'
    refine hK.out _ _ ?_
    clear hK K
    try simp only [Act.put]
    refine wpAny_done (by kernel_rfl) ?_ _
    rotate_left
    replace hK := Lib.hid hK
    refine step_ksl HK 2 (by rfl) _ _ (by rfl) (by rfl) (by rfl) (by rfl) (by rfl) ?_; intro _ HK' _; simp only [List.set] at HK'; replace HK := HK'; clear HK'
    refine hK.out _ _ ?_
    clear hK K
    try simp only [Act.put]
    refine wpAny_ready (rs := [1]) (by kernel_rfl) (by simp) ?_
    refine AllReady.cons (o := ⟨some 62, _, _, _, _, _⟩) rfl (fun K hK => ?_) AllReady.nil
    replace hK := Lib.hid hK
    refine step_klt HK 4 (by rfl) _ (by rfl) (by rfl) (by rfl) ?_
    refine hK.out _ _ ?_
    clear hK K
    try simp only [Act.put, List.setIfInBounds_toArray, List.set_cons_zero, List.set_cons_succ]
    refine wpAny_ready (rs := [3]) (by kernel_rfl) (by simp) ?_
    refine AllReady.cons (o := ⟨none, _, _, _, _, _⟩) rfl (fun K hK => ?_) AllReady.nil
    replace hK := Lib.hid hK
    refine step_kst HK 3 (by rfl) _ _ (by rfl) (by rfl) (by rfl) (by rfl) (by rfl) ?_; intro _ HK' _; simp only [List.set] at HK'; replace HK := HK'; clear HK'
    refine hK.out _ _ ?_
    clear hK K
    try simp only [Act.put]
    refine wpAny_done (by kernel_rfl) ?_ _
    rotate_left
    replace hK := Lib.hid hK
    refine step_klt HK 4 (by rfl) _ (by rfl) (by rfl) (by rfl) ?_
    refine hK.out _ _ ?_
    clear hK K
    try simp only [Act.put, List.setIfInBounds_toArray, List.set_cons_zero, List.set_cons_succ]
    refine wpAny_ready (rs := [0]) (by kernel_rfl) (by simp) ?_
    refine AllReady.cons (o := ⟨some 61, _, _, _, _, _⟩) rfl (fun K hK => ?_) AllReady.nil
    replace hK := Lib.hid hK
    refine step_kll HK 0 (by rfl) _ (by rfl) (by rfl) (by rfl) ?_
    refine hK.out _ _ ?_
    clear hK K
    try simp only [Act.put, List.setIfInBounds_toArray, List.set_cons_zero, List.set_cons_succ]
    refine wpAny_ready (rs := [2]) (by kernel_rfl) (by simp) ?_
    refine AllReady.cons (o := ⟨none, _, _, _, _, _⟩) rfl (fun K hK => ?_) AllReady.nil
    replace hK := Lib.hid hK
    refine step_ksl HK 2 (by rfl) _ _ (by rfl) (by rfl) (by rfl) (by rfl) (by rfl) ?_; intro _ HK' _; simp only [List.set] at HK'; replace HK := HK'; clear HK'
    refine hK.out _ _ ?_
    clear hK K
    try simp only [Act.put]
    refine wpAny_ready (rs := [3]) (by kernel_rfl) (by simp) ?_
    refine AllReady.cons (o := ⟨none, _, _, _, _, _⟩) rfl (fun K hK => ?_) AllReady.nil
    replace hK := Lib.hid hK
    refine step_kst HK 3 (by rfl) _ _ (by rfl) (by rfl) (by rfl) (by rfl) (by rfl) ?_; intro _ HK' _; simp only [List.set] at HK'; replace HK := HK'; clear HK'
    refine hK.out _ _ ?_
    clear hK K
    try simp only [Act.put]
    refine wpAny_done (by kernel_rfl) ?_ _
    rotate_left
    all_goals
      go_wp2_with fail
      all_goals
        refine ret_lt Try.results11 rfl rfl rfl (HK.out.blk 2 rfl) (HK.out.blk 3 rfl) ⟨A1, c1, _, _, rfl, ?_, ?_, HK.out.b⟩
        · exact HF.out _ _ (by simpa using HK.out.takeR R1.length)
        · exact HK.out.own R1.length (by simp)
  · simp only [if_true, if_neg (show ¬ (2 : Int) = 1 by decide)]
    go_enter Try.func11, Try.ntmps11
    go_wp2_with (first | refine wpList_kll HK 0 rfl _ rfl rfl rfl ?_ | refine wpList_kci HK 1 rfl _ rfl rfl rfl rfl ?_)
    refine (HT.out _ HK.out.b).mono ?_; rintro e w1 ⟨A1, c1, A2, c2, rfl, o1, p1, b1⟩
    obtain ⟨R1, k1, HF⟩ := from_kn2 HK.out b1 o1 p1
    replace HK := Lib.hid k1
    replace HF := Lib.hid HF
    clear b1 o1 k1 p1 HS HT HM HTk
    obtain ⟨⟨qms, qmc, qps, qpc, qout, qbase, qgot, qage⟩, ps⟩ := rt
    unfold lA at *
    simp only at HF ⊢
    go_wp2_with (first | (refine wpList_ksl HK 0 rfl _ _ rfl rfl rfl rfl rfl ?_; intro _ HK' _; simp only [List.set] at HK'; replace HK := HK'; clear HK') | (refine wpList_t0 HK 4 rfl _ _ rfl rfl rfl rfl ?_; intro _ HK' _; simp only [List.set] at HK'; replace HK := HK'; clear HK'))
    replace HK := Lib.hid HK.out.drew
    refine wp_region_any (by kernel_rfl) ?_
    change wpAny _ _ _ _ _ _ _ (World.drew _)
    refine wpAny_ready (rs := [0, 1]) (by kernel_rfl) (by simp) ?_
    refine AllReady.cons (o := ⟨some 61, _, _, _, _, _⟩) rfl (fun K hK => ?_) (AllReady.cons (o := ⟨some 62, _, _, _, _, _⟩) rfl (fun K hK => ?_) AllReady.nil)
    replace hK := Lib.hid hK
    refine step_kll HK 0 (by rfl) _ (by rfl) (by rfl) (by rfl) ?_
    refine hK.out _ _ ?_
    clear hK K
    try simp only [Act.put, List.setIfInBounds_toArray, List.set_cons_zero, List.set_cons_succ]
    refine wpAny_ready (rs := [1, 2]) (by kernel_rfl) (by simp) ?_
    refine AllReady.cons (o := ⟨some 62, _, _, _, _, _⟩) rfl (fun K hK => ?_) (AllReady.cons (o := ⟨none, _, _, _, _, _⟩) rfl (fun K hK => ?_) AllReady.nil)
    replace hK := Lib.hid hK
    refine step_klt HK 4 (by rfl) _ (by rfl) (by rfl) (by rfl) ?_
    refine hK.out _ _ ?_
    clear hK K
    try simp only [Act.put, List.setIfInBounds_toArray, List.set_cons_zero, List.set_cons_succ]
    refine wpAny_ready (rs := [2]) (by kernel_rfl) (by simp) ?_
    refine AllReady.cons (o := ⟨none, _, _, _, _, _⟩) rfl (fun K hK => ?_) AllReady.nil
    replace hK := Lib.hid hK
    refine step_ksl HK 2 (by rfl) _ _ (by rfl) (by rfl) (by rfl) (by rfl) (by rfl) ?_; intro _ HK' _; simp only [List.set] at HK'; replace HK := HK'; clear HK'
    refine hK.out _ _ ?_
    clear hK K
    try simp only [Act.put]
    refine wpAny_ready (rs := [3]) (by kernel_rfl) (by simp) ?_
    refine AllReady.cons (o := ⟨none, _, _, _, _, _⟩) rfl (fun K hK => ?_) AllReady.nil
    replace hK := Lib.hid hK
    refine step_kst HK 3 (by rfl) _ _ (by rfl) (by rfl) (by rfl) (by rfl) (by rfl) ?_; intro _ HK' _; simp only [List.set] at HK'; replace HK := HK'; clear HK'
    refine hK.out _ _ ?_
    clear hK K
    try simp only [Act.put]
    refine wpAny_done (by kernel_rfl) ?_ _
    rotate_left
    replace hK := Lib.hid hK
    refine step_ksl HK 2 (by rfl) _ _ (by rfl) (by rfl) (by rfl) (by rfl) (by rfl) ?_; intro _ HK' _; simp only [List.set] at HK'; replace HK := HK'; clear HK'
    refine hK.out _ _ ?_
    clear hK K
    try simp only [Act.put]
    refine wpAny_ready (rs := [1]) (by kernel_rfl) (by simp) ?_
    refine AllReady.cons (o := ⟨some 62, _, _, _, _, _⟩) rfl (fun K hK => ?_) AllReady.nil
    replace hK := Lib.hid hK
    refine step_klt HK 4 (by rfl) _ (by rfl) (by rfl) (by rfl) ?_
    refine hK.out _ _ ?_
    clear hK K
    try simp only [Act.put, List.setIfInBounds_toArray, List.set_cons_zero, List.set_cons_succ]
    refine wpAny_ready (rs := [3]) (by kernel_rfl) (by simp) ?_
    refine AllReady.cons (o := ⟨none, _, _, _, _, _⟩) rfl (fun K hK => ?_) AllReady.nil
    replace hK := Lib.hid hK
    refine step_kst HK 3 (by rfl) _ _ (by rfl) (by rfl) (by rfl) (by rfl) (by rfl) ?_; intro _ HK' _; simp only [List.set] at HK'; replace HK := HK'; clear HK'
    refine hK.out _ _ ?_
    clear hK K
    try simp only [Act.put]
    refine wpAny_done (by kernel_rfl) ?_ _
    rotate_left
    replace hK := Lib.hid hK
    refine step_klt HK 4 (by rfl) _ (by rfl) (by rfl) (by rfl) ?_
    refine hK.out _ _ ?_
    clear hK K
    try simp only [Act.put, List.setIfInBounds_toArray, List.set_cons_zero, List.set_cons_succ]
    refine wpAny_ready (rs := [0]) (by kernel_rfl) (by simp) ?_
    refine AllReady.cons (o := ⟨some 61, _, _, _, _, _⟩) rfl (fun K hK => ?_) AllReady.nil
    replace hK := Lib.hid hK
    refine step_kll HK 0 (by rfl) _ (by rfl) (by rfl) (by rfl) ?_
    refine hK.out _ _ ?_
    clear hK K
    try simp only [Act.put, List.setIfInBounds_toArray, List.set_cons_zero, List.set_cons_succ]
    refine wpAny_ready (rs := [2]) (by kernel_rfl) (by simp) ?_
    refine AllReady.cons (o := ⟨none, _, _, _, _, _⟩) rfl (fun K hK => ?_) AllReady.nil
    replace hK := Lib.hid hK
    refine step_ksl HK 2 (by rfl) _ _ (by rfl) (by rfl) (by rfl) (by rfl) (by rfl) ?_; intro _ HK' _; simp only [List.set] at HK'; replace HK := HK'; clear HK'
    refine hK.out _ _ ?_
    clear hK K
    try simp only [Act.put]
    refine wpAny_ready (rs := [3]) (by kernel_rfl) (by simp) ?_
    refine AllReady.cons (o := ⟨none, _, _, _, _, _⟩) rfl (fun K hK => ?_) AllReady.nil
    replace hK := Lib.hid hK
    refine step_kst HK 3 (by rfl) _ _ (by rfl) (by rfl) (by rfl) (by rfl) (by rfl) ?_; intro _ HK' _; simp only [List.set] at HK'; replace HK := HK'; clear HK'
    refine hK.out _ _ ?_
    clear hK K
    try simp only [Act.put]
    refine wpAny_done (by kernel_rfl) ?_ _
    rotate_left
    all_goals
      go_wp2_with fail
      all_goals
        refine ret_lt Try.results11 rfl rfl rfl (HK.out.blk 2 rfl) (HK.out.blk 3 rfl) ⟨A1, c1, _, _, rfl, ?_, ?_, HK.out.b⟩
        · exact (HF.out _ _ HK.out).1
        · exact (HF.out _ _ HK.out).2
  · simp only [if_true, if_neg (show ¬ (3 : Int) = 1 by decide), if_neg (show ¬ (3 : Int) = 2 by decide)]
    go_enter Try.func11, Try.ntmps11
    go_wp2_with (first | refine wpList_kll HK 0 rfl _ rfl rfl rfl ?_ | refine wpList_kci HK 1 rfl _ rfl rfl rfl rfl ?_)
    refine (HM.out _ HK.out.b).mono ?_; rintro e w1 ⟨A1, c1, rfl, o1, b1⟩
    obtain ⟨R1, k1, HF⟩ := from_kn HK.out b1 o1
    replace HK := Lib.hid k1
    replace HF := Lib.hid HF
    clear b1 o1 k1 HS HT HM HTk
    obtain ⟨qms, qmc, qps, qpc, qout, qbase, qgot, qage⟩ := rm
    unfold lA at *
    simp only at HF ⊢
    go_wp2_with (first | (refine wpList_ksl HK 0 rfl _ _ rfl rfl rfl rfl rfl ?_; intro _ HK' _; simp only [List.set] at HK'; replace HK := HK'; clear HK'))
    replace HK := Lib.hid HK.out.drew
    refine wp_region_any (by kernel_rfl) ?_
    change wpAny _ _ _ _ _ _ _ (World.drew _)
    refine wpAny_ready (rs := [0, 1]) (by kernel_rfl) (by simp) ?_
    refine AllReady.cons (o := ⟨some 61, _, _, _, _, _⟩) rfl (fun K hK => ?_) (AllReady.cons (o := ⟨some 62, _, _, _, _, _⟩) rfl (fun K hK => ?_) AllReady.nil)
    replace hK := Lib.hid hK
    refine step_kll HK 0 (by rfl) _ (by rfl) (by rfl) (by rfl) ?_
    refine hK.out _ _ ?_
    clear hK K
    try simp only [Act.put, List.setIfInBounds_toArray, List.set_cons_zero, List.set_cons_succ]
    refine wpAny_ready (rs := [1, 2]) (by kernel_rfl) (by simp) ?_
    refine AllReady.cons (o := ⟨some 62, _, _, _, _, _⟩) rfl (fun K hK => ?_) (AllReady.cons (o := ⟨none, _, _, _, _, _⟩) rfl (fun K hK => ?_) AllReady.nil)
    replace hK := Lib.hid hK
    refine step_klt HK 4 (by rfl) _ (by rfl) (by rfl) (by rfl) ?_
    refine hK.out _ _ ?_
    clear hK K
    try simp only [Act.put, List.setIfInBounds_toArray, List.set_cons_zero, List.set_cons_succ]
    refine wpAny_ready (rs := [2]) (by kernel_rfl) (by simp) ?_
    refine AllReady.cons (o := ⟨none, _, _, _, _, _⟩) rfl (fun K hK => ?_) AllReady.nil
    replace hK := Lib.hid hK
    refine step_ksl HK 2 (by rfl) _ _ (by rfl) (by rfl) (by rfl) (by rfl) (by rfl) ?_; intro _ HK' _; simp only [List.set] at HK'; replace HK := HK'; clear HK'
    refine hK.out _ _ ?_
    clear hK K
    try simp only [Act.put]
    refine wpAny_ready (rs := [3]) (by kernel_rfl) (by simp) ?_
    refine AllReady.cons (o := ⟨none, _, _, _, _, _⟩) rfl (fun K hK => ?_) AllReady.nil
    replace hK := Lib.hid hK
    refine step_kst HK 3 (by rfl) _ _ (by rfl) (by rfl) (by rfl) (by rfl) (by rfl) ?_; intro _ HK' _; simp only [List.set] at HK'; replace HK := HK'; clear HK'
    refine hK.out _ _ ?_
    clear hK K
    try simp only [Act.put]
    refine wpAny_done (by kernel_rfl) ?_ _
    rotate_left
    replace hK := Lib.hid hK
    refine step_ksl HK 2 (by rfl) _ _ (by rfl) (by rfl) (by rfl) (by rfl) (by rfl) ?_; intro _ HK' _; simp only [List.set] at HK'; replace HK := HK'; clear HK'
    refine hK.out _ _ ?_
    clear hK K
    try simp only [Act.put]
    refine wpAny_ready (rs := [1]) (by kernel_rfl) (by simp) ?_
    refine AllReady.cons (o := ⟨some 62, _, _, _, _, _⟩) rfl (fun K hK => ?_) AllReady.nil
    replace hK := Lib.hid hK
    refine step_klt HK 4 (by rfl) _ (by rfl) (by rfl) (by rfl) ?_
    refine hK.out _ _ ?_
    clear hK K
    try simp only [Act.put, List.setIfInBounds_toArray, List.set_cons_zero, List.set_cons_succ]
    refine wpAny_ready (rs := [3]) (by kernel_rfl) (by simp) ?_
    refine AllReady.cons (o := ⟨none, _, _, _, _, _⟩) rfl (fun K hK => ?_) AllReady.nil
    replace hK := Lib.hid hK
    refine step_kst HK 3 (by rfl) _ _ (by rfl) (by rfl) (by rfl) (by rfl) (by rfl) ?_; intro _ HK' _; simp only [List.set] at HK'; replace HK := HK'; clear HK'
    refine hK.out _ _ ?_
    clear hK K
    try simp only [Act.put]
    refine wpAny_done (by kernel_rfl) ?_ _
    rotate_left
    replace hK := Lib.hid hK
    refine step_klt HK 4 (by rfl) _ (by rfl) (by rfl) (by rfl) ?_
    refine hK.out _ _ ?_
    clear hK K
    try simp only [Act.put, List.setIfInBounds_toArray, List.set_cons_zero, List.set_cons_succ]
    refine wpAny_ready (rs := [0]) (by kernel_rfl) (by simp) ?_
    refine AllReady.cons (o := ⟨some 61, _, _, _, _, _⟩) rfl (fun K hK => ?_) AllReady.nil
    replace hK := Lib.hid hK
    refine step_kll HK 0 (by rfl) _ (by rfl) (by rfl) (by rfl) ?_
    refine hK.out _ _ ?_
    clear hK K
    try simp only [Act.put, List.setIfInBounds_toArray, List.set_cons_zero, List.set_cons_succ]
    refine wpAny_ready (rs := [2]) (by kernel_rfl) (by simp) ?_
    refine AllReady.cons (o := ⟨none, _, _, _, _, _⟩) rfl (fun K hK => ?_) AllReady.nil
    replace hK := Lib.hid hK
    refine step_ksl HK 2 (by rfl) _ _ (by rfl) (by rfl) (by rfl) (by rfl) (by rfl) ?_; intro _ HK' _; simp only [List.set] at HK'; replace HK := HK'; clear HK'
    refine hK.out _ _ ?_
    clear hK K
    try simp only [Act.put]
    refine wpAny_ready (rs := [3]) (by kernel_rfl) (by simp) ?_
    refine AllReady.cons (o := ⟨none, _, _, _, _, _⟩) rfl (fun K hK => ?_) AllReady.nil
    replace hK := Lib.hid hK
    refine step_kst HK 3 (by rfl) _ _ (by rfl) (by rfl) (by rfl) (by rfl) (by rfl) ?_; intro _ HK' _; simp only [List.set] at HK'; replace HK := HK'; clear HK'
    refine hK.out _ _ ?_
    clear hK K
    try simp only [Act.put]
    refine wpAny_done (by kernel_rfl) ?_ _
    rotate_left
    all_goals
      go_wp2_with fail
      all_goals
        refine ret_lt Try.results11 rfl rfl rfl (HK.out.blk 2 rfl) (HK.out.blk 3 rfl) ⟨A1, c1, _, _, rfl, ?_, ?_, HK.out.b⟩
        · exact HF.out _ _ HK.out
        · exact Lay.Own.none _ _
  · simp only [if_true, if_neg (show ¬ (4 : Int) = 1 by decide), if_neg (show ¬ (4 : Int) = 2 by decide), if_neg (show ¬ (4 : Int) = 3 by decide)]
    obtain ⟨⟨qms, qmc, qps, qpc, qout, qbase, qgot, qage⟩, qb, qt, ⟨pfs, pfc, pts, ptc, pseq, pack, pbody⟩, qa⟩ := rk
    cases qa
    · simp only [Bool.false_eq_true, if_false]
      go_enter Try.func11, Try.ntmps11
      go_wp2_with (first | refine wpList_kll HK 0 rfl _ rfl rfl rfl ?_ | refine wpList_kci HK 1 rfl _ rfl rfl rfl rfl ?_ | refine wpList_kop HK 1 rfl _ rfl rfl rfl ?_)
      refine (HTk.out _ HK.out.b).mono ?_; rintro e w1 ⟨A1, c1, rfl, o1, b1⟩
      obtain ⟨R1, k1, HF⟩ := from_kn HK.out b1 o1
      replace HK := Lib.hid k1
      replace HF := Lib.hid HF
      clear b1 o1 k1 HS HT HM HTk
      unfold lA pA at *
      simp only at HF ⊢
      go_wp2_with (first | (refine wpList_ksl HK 0 rfl _ _ rfl rfl rfl rfl rfl ?_; intro _ HK' _; simp only [List.set] at HK'; replace HK := HK'; clear HK') | (refine wpList_t1 HK 4 rfl _ _ rfl rfl rfl rfl ?_; intro _ HK' _; simp only [List.set] at HK'; replace HK := HK'; clear HK') | (refine wpList_t2 HK 4 rfl _ _ rfl rfl rfl rfl ?_; intro _ HK' _; simp only [List.set] at HK'; replace HK := HK'; clear HK') | (refine wpList_ksp HK 5 rfl _ _ rfl rfl rfl rfl rfl ?_; intro _ HK' _; simp only [List.set] at HK'; replace HK := HK'; clear HK'))
      replace HK := Lib.hid HK.out.drew
      refine wp_region_any (by kernel_rfl) ?_
      change wpAny _ _ _ _ _ _ _ (World.drew _)
      refine wpAny_ready (rs := [0, 1]) (by kernel_rfl) (by simp) ?_
      refine AllReady.cons (o := ⟨some 61, _, _, _, _, _⟩) rfl (fun K hK => ?_) (AllReady.cons (o := ⟨some 62, _, _, _, _, _⟩) rfl (fun K hK => ?_) AllReady.nil)
      replace hK := Lib.hid hK
      refine step_kll HK 0 (by rfl) _ (by rfl) (by rfl) (by rfl) ?_
      refine hK.out _ _ ?_
      clear hK K
      try simp only [Act.put, List.setIfInBounds_toArray, List.set_cons_zero, List.set_cons_succ]
      refine wpAny_ready (rs := [1, 2]) (by kernel_rfl) (by simp) ?_
      refine AllReady.cons (o := ⟨some 62, _, _, _, _, _⟩) rfl (fun K hK => ?_) (AllReady.cons (o := ⟨none, _, _, _, _, _⟩) rfl (fun K hK => ?_) AllReady.nil)
      replace hK := Lib.hid hK
      refine step_klt HK 4 (by rfl) _ (by rfl) (by rfl) (by rfl) ?_
      refine hK.out _ _ ?_
      clear hK K
      try simp only [Act.put, List.setIfInBounds_toArray, List.set_cons_zero, List.set_cons_succ]
      refine wpAny_ready (rs := [2]) (by kernel_rfl) (by simp) ?_
      refine AllReady.cons (o := ⟨none, _, _, _, _, _⟩) rfl (fun K hK => ?_) AllReady.nil
      replace hK := Lib.hid hK
      refine step_ksl HK 2 (by rfl) _ _ (by rfl) (by rfl) (by rfl) (by rfl) (by rfl) ?_; intro _ HK' _; simp only [List.set] at HK'; replace HK := HK'; clear HK'
      refine hK.out _ _ ?_
      clear hK K
      try simp only [Act.put]
      refine wpAny_ready (rs := [3]) (by kernel_rfl) (by simp) ?_
      refine AllReady.cons (o := ⟨none, _, _, _, _, _⟩) rfl (fun K hK => ?_) AllReady.nil
      replace hK := Lib.hid hK
      refine step_kst HK 3 (by rfl) _ _ (by rfl) (by rfl) (by rfl) (by rfl) (by rfl) ?_; intro _ HK' _; simp only [List.set] at HK'; replace HK := HK'; clear HK'
      refine hK.out _ _ ?_
      clear hK K
      try simp only [Act.put]
      refine wpAny_done (by kernel_rfl) ?_ _
      rotate_left
      replace hK := Lib.hid hK
      refine step_ksl HK 2 (by rfl) _ _ (by rfl) (by rfl) (by rfl) (by rfl) (by rfl) ?_; intro _ HK' _; simp only [List.set] at HK'; replace HK := HK'; clear HK'
      refine hK.out _ _ ?_
      clear hK K
      try simp only [Act.put]
      refine wpAny_ready (rs := [1]) (by kernel_rfl) (by simp) ?_
      refine AllReady.cons (o := ⟨some 62, _, _, _, _, _⟩) rfl (fun K hK => ?_) AllReady.nil
      replace hK := Lib.hid hK
      refine step_klt HK 4 (by rfl) _ (by rfl) (by rfl) (by rfl) ?_
      refine hK.out _ _ ?_
      clear hK K
      try simp only [Act.put, List.setIfInBounds_toArray, List.set_cons_zero, List.set_cons_succ]
      refine wpAny_ready (rs := [3]) (by kernel_rfl) (by simp) ?_
      refine AllReady.cons (o := ⟨none, _, _, _, _, _⟩) rfl (fun K hK => ?_) AllReady.nil
      replace hK := Lib.hid hK
      refine step_kst HK 3 (by rfl) _ _ (by rfl) (by rfl) (by rfl) (by rfl) (by rfl) ?_; intro _ HK' _; simp only [List.set] at HK'; replace HK := HK'; clear HK'
      refine hK.out _ _ ?_
      clear hK K
      try simp only [Act.put]
      refine wpAny_done (by kernel_rfl) ?_ _
      rotate_left
      replace hK := Lib.hid hK
      refine step_klt HK 4 (by rfl) _ (by rfl) (by rfl) (by rfl) ?_
      refine hK.out _ _ ?_
      clear hK K
      try simp only [Act.put, List.setIfInBounds_toArray, List.set_cons_zero, List.set_cons_succ]
      refine wpAny_ready (rs := [0]) (by kernel_rfl) (by simp) ?_
      refine AllReady.cons (o := ⟨some 61, _, _, _, _, _⟩) rfl (fun K hK => ?_) AllReady.nil
      replace hK := Lib.hid hK
      refine step_kll HK 0 (by rfl) _ (by rfl) (by rfl) (by rfl) ?_
      refine hK.out _ _ ?_
      clear hK K
      try simp only [Act.put, List.setIfInBounds_toArray, List.set_cons_zero, List.set_cons_succ]
      refine wpAny_ready (rs := [2]) (by kernel_rfl) (by simp) ?_
      refine AllReady.cons (o := ⟨none, _, _, _, _, _⟩) rfl (fun K hK => ?_) AllReady.nil
      replace hK := Lib.hid hK
      refine step_ksl HK 2 (by rfl) _ _ (by rfl) (by rfl) (by rfl) (by rfl) (by rfl) ?_; intro _ HK' _; simp only [List.set] at HK'; replace HK := HK'; clear HK'
      refine hK.out _ _ ?_
      clear hK K
      try simp only [Act.put]
      refine wpAny_ready (rs := [3]) (by kernel_rfl) (by simp) ?_
      refine AllReady.cons (o := ⟨none, _, _, _, _, _⟩) rfl (fun K hK => ?_) AllReady.nil
      replace hK := Lib.hid hK
      refine step_kst HK 3 (by rfl) _ _ (by rfl) (by rfl) (by rfl) (by rfl) (by rfl) ?_; intro _ HK' _; simp only [List.set] at HK'; replace HK := HK'; clear HK'
      refine hK.out _ _ ?_
      clear hK K
      try simp only [Act.put]
      refine wpAny_done (by kernel_rfl) ?_ _
      rotate_left
      all_goals
        go_wp2_with fail
        all_goals
          refine ret_lt Try.results11 rfl rfl rfl (HK.out.blk 2 rfl) (HK.out.blk 3 rfl) ⟨A1, c1, _, _, rfl, ?_, ?_, HK.out.b⟩
          · exact HF.out _ _ HK.out
          · exact Lay.Own.none _ _
    · simp only [if_true]
      go_enter Try.func11, Try.ntmps11
      go_wp2_with (first | refine wpList_kll HK 0 rfl _ rfl rfl rfl ?_ | refine wpList_kci HK 1 rfl _ rfl rfl rfl rfl ?_ | refine wpList_kop HK 1 rfl _ rfl rfl rfl ?_)
      refine (HTk.out _ HK.out.b).mono ?_; rintro e w1 ⟨A1, c1, rfl, o1, b1⟩
      obtain ⟨R1, k1, HF⟩ := from_kn HK.out b1 o1
      replace HK := Lib.hid k1
      replace HF := Lib.hid HF
      clear b1 o1 k1 HS HT HM HTk
      unfold lA pA at *
      simp only at HF ⊢
      go_wp2_with (first | (refine wpList_ksl HK 0 rfl _ _ rfl rfl rfl rfl rfl ?_; intro _ HK' _; simp only [List.set] at HK'; replace HK := HK'; clear HK') | (refine wpList_t1 HK 4 rfl _ _ rfl rfl rfl rfl ?_; intro _ HK' _; simp only [List.set] at HK'; replace HK := HK'; clear HK') | (refine wpList_t2 HK 4 rfl _ _ rfl rfl rfl rfl ?_; intro _ HK' _; simp only [List.set] at HK'; replace HK := HK'; clear HK') | (refine wpList_ksp HK 5 rfl _ _ rfl rfl rfl rfl rfl ?_; intro _ HK' _; simp only [List.set] at HK'; replace HK := HK'; clear HK') | refine wpList_klpx HK 5 rfl _ rfl rfl rfl ?_ | (refine wpList_t0 (Lib.hid (HK.out.literalP ⟨pfs, pfc, pts, ptc, pseq, pack, pbody⟩)) 4 rfl _ _ rfl rfl rfl rfl ?_; intro _ HK' _; simp only [List.set] at HK'; replace HK := HK'; clear HK'))
      replace HK := Lib.hid HK.out.drew
      refine wp_region_any (by kernel_rfl) ?_
      change wpAny _ _ _ _ _ _ _ (World.drew _)
      refine wpAny_ready (rs := [0, 1]) (by kernel_rfl) (by simp) ?_
      refine AllReady.cons (o := ⟨some 61, _, _, _, _, _⟩) rfl (fun K hK => ?_) (AllReady.cons (o := ⟨some 62, _, _, _, _, _⟩) rfl (fun K hK => ?_) AllReady.nil)
      replace hK := Lib.hid hK
      refine step_kll HK 0 (by rfl) _ (by rfl) (by rfl) (by rfl) ?_
      refine hK.out _ _ ?_
      clear hK K
      try simp only [Act.put, List.setIfInBounds_toArray, List.set_cons_zero, List.set_cons_succ]
      refine wpAny_ready (rs := [1, 2]) (by kernel_rfl) (by simp) ?_
      refine AllReady.cons (o := ⟨some 62, _, _, _, _, _⟩) rfl (fun K hK => ?_) (AllReady.cons (o := ⟨none, _, _, _, _, _⟩) rfl (fun K hK => ?_) AllReady.nil)
      replace hK := Lib.hid hK
      refine step_klt HK 4 (by rfl) _ (by rfl) (by rfl) (by rfl) ?_
      refine hK.out _ _ ?_
      clear hK K
      try simp only [Act.put, List.setIfInBounds_toArray, List.set_cons_zero, List.set_cons_succ]
      refine wpAny_ready (rs := [2]) (by kernel_rfl) (by simp) ?_
      refine AllReady.cons (o := ⟨none, _, _, _, _, _⟩) rfl (fun K hK => ?_) AllReady.nil
      replace hK := Lib.hid hK
      refine step_ksl HK 2 (by rfl) _ _ (by rfl) (by rfl) (by rfl) (by rfl) (by rfl) ?_; intro _ HK' _; simp only [List.set] at HK'; replace HK := HK'; clear HK'
      refine hK.out _ _ ?_
      clear hK K
      try simp only [Act.put]
      refine wpAny_ready (rs := [3]) (by kernel_rfl) (by simp) ?_
      refine AllReady.cons (o := ⟨none, _, _, _, _, _⟩) rfl (fun K hK => ?_) AllReady.nil
      replace hK := Lib.hid hK
      refine step_kst HK 3 (by rfl) _ _ (by rfl) (by rfl) (by rfl) (by rfl) (by rfl) ?_; intro _ HK' _; simp only [List.set] at HK'; replace HK := HK'; clear HK'
      refine hK.out _ _ ?_
      clear hK K
      try simp only [Act.put]
      refine wpAny_done (by kernel_rfl) ?_ _
      rotate_left
      replace hK := Lib.hid hK
      refine step_ksl HK 2 (by rfl) _ _ (by rfl) (by rfl) (by rfl) (by rfl) (by rfl) ?_; intro _ HK' _; simp only [List.set] at HK'; replace HK := HK'; clear HK'
      refine hK.out _ _ ?_
      clear hK K
      try simp only [Act.put]
      refine wpAny_ready (rs := [1]) (by kernel_rfl) (by simp) ?_
      refine AllReady.cons (o := ⟨some 62, _, _, _, _, _⟩) rfl (fun K hK => ?_) AllReady.nil
      replace hK := Lib.hid hK
      refine step_klt HK 4 (by rfl) _ (by rfl) (by rfl) (by rfl) ?_
      refine hK.out _ _ ?_
      clear hK K
      try simp only [Act.put, List.setIfInBounds_toArray, List.set_cons_zero, List.set_cons_succ]
      refine wpAny_ready (rs := [3]) (by kernel_rfl) (by simp) ?_
      refine AllReady.cons (o := ⟨none, _, _, _, _, _⟩) rfl (fun K hK => ?_) AllReady.nil
      replace hK := Lib.hid hK
      refine step_kst HK 3 (by rfl) _ _ (by rfl) (by rfl) (by rfl) (by rfl) (by rfl) ?_; intro _ HK' _; simp only [List.set] at HK'; replace HK := HK'; clear HK'
      refine hK.out _ _ ?_
      clear hK K
      try simp only [Act.put]
      refine wpAny_done (by kernel_rfl) ?_ _
      rotate_left
      replace hK := Lib.hid hK
      refine step_klt HK 4 (by rfl) _ (by rfl) (by rfl) (by rfl) ?_
      refine hK.out _ _ ?_
      clear hK K
      try simp only [Act.put, List.setIfInBounds_toArray, List.set_cons_zero, List.set_cons_succ]
      refine wpAny_ready (rs := [0]) (by kernel_rfl) (by simp) ?_
      refine AllReady.cons (o := ⟨some 61, _, _, _, _, _⟩) rfl (fun K hK => ?_) AllReady.nil
      replace hK := Lib.hid hK
      refine step_kll HK 0 (by rfl) _ (by rfl) (by rfl) (by rfl) ?_
      refine hK.out _ _ ?_
      clear hK K
      try simp only [Act.put, List.setIfInBounds_toArray, List.set_cons_zero, List.set_cons_succ]
      refine wpAny_ready (rs := [2]) (by kernel_rfl) (by simp) ?_
      refine AllReady.cons (o := ⟨none, _, _, _, _, _⟩) rfl (fun K hK => ?_) AllReady.nil
      replace hK := Lib.hid hK
      refine step_ksl HK 2 (by rfl) _ _ (by rfl) (by rfl) (by rfl) (by rfl) (by rfl) ?_; intro _ HK' _; simp only [List.set] at HK'; replace HK := HK'; clear HK'
      refine hK.out _ _ ?_
      clear hK K
      try simp only [Act.put]
      refine wpAny_ready (rs := [3]) (by kernel_rfl) (by simp) ?_
      refine AllReady.cons (o := ⟨none, _, _, _, _, _⟩) rfl (fun K hK => ?_) AllReady.nil
      replace hK := Lib.hid hK
      refine step_kst HK 3 (by rfl) _ _ (by rfl) (by rfl) (by rfl) (by rfl) (by rfl) ?_; intro _ HK' _; simp only [List.set] at HK'; replace HK := HK'; clear HK'
      refine hK.out _ _ ?_
      clear hK K
      try simp only [Act.put]
      refine wpAny_done (by kernel_rfl) ?_ _
      rotate_left
      all_goals
        go_wp2_with fail
        all_goals
          refine ret_lt Try.results11 rfl rfl rfl (HK.out.blk 2 rfl) (HK.out.blk 3 rfl) ⟨A1, c1, _, _, rfl, ?_, ?_, HK.out.b⟩
          · exact HF.out _ _ (by simpa using HK.out.takeR R1.length)
          · exact HK.out.own R1.length (by simp)
  · simp only [if_neg k1, if_neg k2, if_neg k3, if_neg k4]
    have e1 : (k == 1) = false := by simpa using k1
    have e2 : (k == 2) = false := by simpa using k2
    have e3 : (k == 3) = false := by simpa using k3
    have e4 : (k == 4) = false := by simpa using k4
    clear k1 k2 k3 k4 HS HT HM HTk
    obtain ⟨ms, mc, ps, pc, out0, base, got, age⟩ := l
    simp only at HK HLO ⊢
    have HLO2 : Hid (out0 = out) := HLO
    go_enter Try.func11, Try.ntmps11
    go_wp2_with (first | refine wpList_kci HK 1 rfl _ rfl rfl rfl rfl ?_)
    replace HK := Lib.hid HK.out.drew
    refine wp_region_any (by kernel_rfl) ?_
    change wpAny _ _ _ _ _ _ _ (World.drew _)
    refine wpAny_ready (rs := [0, 1]) (by kernel_rfl) (by simp) ?_
    refine AllReady.cons (o := ⟨some 61, _, _, _, _, _⟩) rfl (fun K hK => ?_) (AllReady.cons (o := ⟨some 62, _, _, _, _, _⟩) rfl (fun K hK => ?_) AllReady.nil)
    replace hK := Lib.hid hK
    refine step_kll HK 0 (by rfl) _ (by rfl) (by rfl) (by rfl) ?_
    refine hK.out _ _ ?_
    clear hK K
    try simp only [Act.put, List.setIfInBounds_toArray, List.set_cons_zero, List.set_cons_succ]
    refine wpAny_ready (rs := [1, 2]) (by kernel_rfl) (by simp) ?_
    refine AllReady.cons (o := ⟨some 62, _, _, _, _, _⟩) rfl (fun K hK => ?_) (AllReady.cons (o := ⟨none, _, _, _, _, _⟩) rfl (fun K hK => ?_) AllReady.nil)
    replace hK := Lib.hid hK
    refine step_klt HK 4 (by rfl) _ (by rfl) (by rfl) (by rfl) ?_
    refine hK.out _ _ ?_
    clear hK K
    try simp only [Act.put, List.setIfInBounds_toArray, List.set_cons_zero, List.set_cons_succ]
    refine wpAny_ready (rs := [2]) (by kernel_rfl) (by simp) ?_
    refine AllReady.cons (o := ⟨none, _, _, _, _, _⟩) rfl (fun K hK => ?_) AllReady.nil
    replace hK := Lib.hid hK
    refine step_ksl HK 2 (by rfl) _ _ (by rfl) (by rfl) (by rfl) (by rfl) (by rfl) ?_; intro _ HK' _; simp only [List.set] at HK'; replace HK := HK'; clear HK'
    refine hK.out _ _ ?_
    clear hK K
    try simp only [Act.put]
    refine wpAny_ready (rs := [3]) (by kernel_rfl) (by simp) ?_
    refine AllReady.cons (o := ⟨none, _, _, _, _, _⟩) rfl (fun K hK => ?_) AllReady.nil
    replace hK := Lib.hid hK
    refine step_kst HK 3 (by rfl) _ _ (by rfl) (by rfl) (by rfl) (by rfl) (by rfl) ?_; intro _ HK' _; simp only [List.set] at HK'; replace HK := HK'; clear HK'
    refine hK.out _ _ ?_
    clear hK K
    try simp only [Act.put]
    refine wpAny_done (by kernel_rfl) ?_ _
    rotate_left
    replace hK := Lib.hid hK
    refine step_ksl HK 2 (by rfl) _ _ (by rfl) (by rfl) (by rfl) (by rfl) (by rfl) ?_; intro _ HK' _; simp only [List.set] at HK'; replace HK := HK'; clear HK'
    refine hK.out _ _ ?_
    clear hK K
    try simp only [Act.put]
    refine wpAny_ready (rs := [1]) (by kernel_rfl) (by simp) ?_
    refine AllReady.cons (o := ⟨some 62, _, _, _, _, _⟩) rfl (fun K hK => ?_) AllReady.nil
    replace hK := Lib.hid hK
    refine step_klt HK 4 (by rfl) _ (by rfl) (by rfl) (by rfl) ?_
    refine hK.out _ _ ?_
    clear hK K
    try simp only [Act.put, List.setIfInBounds_toArray, List.set_cons_zero, List.set_cons_succ]
    refine wpAny_ready (rs := [3]) (by kernel_rfl) (by simp) ?_
    refine AllReady.cons (o := ⟨none, _, _, _, _, _⟩) rfl (fun K hK => ?_) AllReady.nil
    replace hK := Lib.hid hK
    refine step_kst HK 3 (by rfl) _ _ (by rfl) (by rfl) (by rfl) (by rfl) (by rfl) ?_; intro _ HK' _; simp only [List.set] at HK'; replace HK := HK'; clear HK'
    refine hK.out _ _ ?_
    clear hK K
    try simp only [Act.put]
    refine wpAny_done (by kernel_rfl) ?_ _
    rotate_left
    replace hK := Lib.hid hK
    refine step_klt HK 4 (by rfl) _ (by rfl) (by rfl) (by rfl) ?_
    refine hK.out _ _ ?_
    clear hK K
    try simp only [Act.put, List.setIfInBounds_toArray, List.set_cons_zero, List.set_cons_succ]
    refine wpAny_ready (rs := [0]) (by kernel_rfl) (by simp) ?_
    refine AllReady.cons (o := ⟨some 61, _, _, _, _, _⟩) rfl (fun K hK => ?_) AllReady.nil
    replace hK := Lib.hid hK
    refine step_kll HK 0 (by rfl) _ (by rfl) (by rfl) (by rfl) ?_
    refine hK.out _ _ ?_
    clear hK K
    try simp only [Act.put, List.setIfInBounds_toArray, List.set_cons_zero, List.set_cons_succ]
    refine wpAny_ready (rs := [2]) (by kernel_rfl) (by simp) ?_
    refine AllReady.cons (o := ⟨none, _, _, _, _, _⟩) rfl (fun K hK => ?_) AllReady.nil
    replace hK := Lib.hid hK
    refine step_ksl HK 2 (by rfl) _ _ (by rfl) (by rfl) (by rfl) (by rfl) (by rfl) ?_; intro _ HK' _; simp only [List.set] at HK'; replace HK := HK'; clear HK'
    refine hK.out _ _ ?_
    clear hK K
    try simp only [Act.put]
    refine wpAny_ready (rs := [3]) (by kernel_rfl) (by simp) ?_
    refine AllReady.cons (o := ⟨none, _, _, _, _, _⟩) rfl (fun K hK => ?_) AllReady.nil
    replace hK := Lib.hid hK
    refine step_kst HK 3 (by rfl) _ _ (by rfl) (by rfl) (by rfl) (by rfl) (by rfl) ?_; intro _ HK' _; simp only [List.set] at HK'; replace HK := HK'; clear HK'
    refine hK.out _ _ ?_
    clear hK K
    try simp only [Act.put]
    refine wpAny_done (by kernel_rfl) ?_ _
    rotate_left
    all_goals
      go_wp2_with fail
      all_goals
        refine ret_lt Try.results11 rfl rfl rfl (HK.out.blk 2 rfl) (HK.out.blk 3 rfl) ⟨A, c, none, 0, by simp only [HLO2.out, HLN.out]; rfl, ?_, ?_, HK.out.b⟩
        · exact .inr ⟨rfl, rfl, HLO2.out⟩
        · exact Lay.Own.none _ _
end Go.Proofs.Ytamjcghdebjpjaa
