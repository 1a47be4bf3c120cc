/-
  What the law's own 'do' returns: a call of any kind.
  No condition but what the slices read as, that the log may be, and how many events come.
-/
import Derived.Test.YtakjggmiilkmdaaLogCAdd
import Derived.Test.YtakjggmiilkmdaaLogOp
import Derived.Test.YtakjggmiilkmdaaLogDoM
set_option linter.unusedSimpArgs false
set_option linter.unusedVariables false
namespace Go.Proofs.Ytakjggmiilkmdaa
open Go.RowKit

set_option maxRecDepth 100000 in
set_option maxHeartbeats 12800000 in
theorem lcdo_any (G : World → Prop) (l : Lg) (A : Option Addr) (n c : Nat) (k f m : Int) (A2 : Option Addr) (ne c2 : Nat) (es : List Cmd.E) (w : World) (hG : ∀ W, G W → Sls evLay lvF W A n c l.ev) (hs : Sls evLay lvF w A n c l.ev) (hr : Lgm.Right l) (hs2 : Sls evLay lvF w A2 ne c2 es) (hne : ne ≤ 100) (hfi : -9223372036854775808 ≤ f ∧ f ≤ 9223372036854775807) :
    Calls Try.prog 11 #[.agg #[.int .i64 l.b, .int .i64 l.c, .int .i64 l.d, .slice A n c], .agg #[.int .i64 k, .int .i64 f, .int .i64 m, .slice A2 ne c2]] w (IsDoT G (Lgm.doL l k f m es) w) := by
  have hn := hs.len
  have hb := hr.1
  have hb2 := hr.2.2.1
  have hn2 : n ≤ 140737488355328 := by have := hr.2.1; omega
  have HK := kn3 w 24 (lgC l.b l.c l.d (.slice A n c)) 26 (loC k f m (.slice A2 ne c2)) 24 (lgC 0 0 0 (.slice none 0 0))
  have HTs := Lib.hid (Tl.same hG)
  unfold IsDoT
  by_cases h1 : k = 1
  · as_aux_lemma =>
      have k1 : (k == 1) = true := by rw [beq_iff_eq]; exact h1
      have HC := Lib.hid (fun W (hW : Below w.heap.size w W) => lcadd_any G l A n c f A2 ne c2 es m W hfi (hs.later hW) hr (hs2.later hW) hne)
      unfold IsLgT at HC
      rw [show Lgm.doL l k f m es = (Lgm.add l f es m, 0, [], false) from by unfold Lgm.doL; simp [h1]]
      generalize Lgm.add l f es m = r at *
      clear hG hs hr hs2 hne hn hb hb2 hn2 hfi h1
      obtain ⟨b, cc, d, ev⟩ := l
      simp only at *
      go_enter Try.func11, Try.ntmps11
      go_wp2_with (first | refine wpList_exe (klo_k HK 1 _ (by rfl) (by rfl) (by rfl)) (by rfl) ?_ | refine wpList_exe (klg HK 0 _ (by rfl) (by rfl) (by rfl)) (by rfl) ?_ | refine wpList_exe (klo_n HK 1 _ (by rfl) (by rfl) (by rfl)) (by rfl) ?_ | refine wpList_exe (klo_e HK 1 _ (by rfl) (by rfl) (by rfl)) (by rfl) ?_ | refine wpList_exe (klo_m HK 1 _ (by rfl) (by rfl) (by rfl)) (by rfl) ?_)
      refine (HC.out _ HK.out.b).mono ?_; rintro e w1 ⟨A5, n5, c5, Rn, rfl, hkn, HTl⟩
      replace HK := Lib.hid (HK.out.join hkn)
      simp only [List.nil_append] at HK
      clear hkn HC
      go_wp2_with (first | (refine wpList_slg HK 2 rfl _ _ rfl rfl rfl rfl rfl ?_; intro _ HK'; simp only [List.set] at HK'; replace HK := HK'; clear HK'))
      exact ret_lg4 Try.results11 rfl rfl rfl rfl rfl (HK.out.blk 2 rfl) ⟨A5, n5, c5, none, 0, 0, Rn, rfl, HK.out.takeL 0, HTl, Lib.hid (Tl.none _)⟩
  by_cases h2 : k = 2
  · as_aux_lemma =>
      have k2 : (k == 2) = true := by rw [beq_iff_eq]; exact h2
      have k1 : (k == 1) = false := by rw [beq_eq_false_iff_ne]; omega
      have HC := Lib.hid (fun W (hW : Below w.heap.size w W) => lcstay_any G l A n c f W (hs.later hW) hr)
      unfold IsLgT at HC
      rw [show Lgm.doL l k f m es = (Lgm.stay l f, 0, [], false) from by unfold Lgm.doL; simp [h2]]
      generalize Lgm.stay l f = r at *
      clear hG hs hr hs2 hne hn hb hb2 hn2 hfi h1 h2
      obtain ⟨b, cc, d, ev⟩ := l
      simp only at *
      go_enter Try.func11, Try.ntmps11
      go_wp2_with (first | refine wpList_exe (klo_k HK 1 _ (by rfl) (by rfl) (by rfl)) (by rfl) ?_ | refine wpList_exe (klg HK 0 _ (by rfl) (by rfl) (by rfl)) (by rfl) ?_ | refine wpList_exe (klo_n HK 1 _ (by rfl) (by rfl) (by rfl)) (by rfl) ?_)
      refine (HC.out _ HK.out.b).mono ?_; rintro e w1 ⟨A5, n5, c5, Rn, rfl, hkn, HTl⟩
      replace HK := Lib.hid (HK.out.join hkn)
      simp only [List.nil_append] at HK
      clear hkn HC
      go_wp2_with (first | (refine wpList_slg HK 2 rfl _ _ rfl rfl rfl rfl rfl ?_; intro _ HK'; simp only [List.set] at HK'; replace HK := HK'; clear HK'))
      exact ret_lg4 Try.results11 rfl rfl rfl rfl rfl (HK.out.blk 2 rfl) ⟨A5, n5, c5, none, 0, 0, Rn, rfl, HK.out.takeL 0, HTl, Lib.hid (Tl.none _)⟩
  by_cases h3 : k = 3
  · as_aux_lemma =>
      have k3 : (k == 3) = true := by rw [beq_iff_eq]; exact h3
      have k1 : (k == 1) = false := by rw [beq_eq_false_iff_ne]; omega
      have k2 : (k == 2) = false := by rw [beq_eq_false_iff_ne]; omega
      have HC := Lib.hid (fun W (hW : Below w.heap.size w W) => lctake_any G l A n c W (hs.later hW) hr)
      unfold IsTkT at HC
      have hFx : lvF ((Lgm.tkE l).getD evZ) := by
        cases hq : Lgm.tkE l with
        | none => exact ⟨by show 0 < _; decide, by show 0 < _; decide⟩
        | some y =>
          unfold Lgm.tkE at hq
          split at hq
          · exact hs.fit.fs y (List.mem_of_getElem? hq)
          · cases hq
      have HFx : Hid (Fits evLay lvF [(Lgm.tkE l).getD evZ]) := Lib.hid ⟨(fun x hx => by rw [List.mem_singleton.1 hx]; exact hFx), by show 1 * 160 ≤ _; decide⟩
      clear hFx
      rw [show Lgm.doL l k f m es = (Lgm.tkL l, 0, [(Lgm.tkE l).getD evZ], (Lgm.tkE l).isSome) from by unfold Lgm.doL; simp [h3]]
      generalize Lgm.tkL l = r at *
      generalize (Lgm.tkE l).getD evZ = x at *
      generalize (Lgm.tkE l).isSome = ok at *
      clear hG hs hr hs2 hne hn hb hb2 hn2 hfi h1 h2 h3
      obtain ⟨b, cc, d, ev⟩ := l
      obtain ⟨rb, rc, rd, rev⟩ := r
      simp only at *
      go_enter Try.func11, Try.ntmps11
      go_wp2_with (first | refine wpList_exe (klo_k HK 1 _ (by rfl) (by rfl) (by rfl)) (by rfl) ?_ | refine wpList_exe (klg HK 0 _ (by rfl) (by rfl) (by rfl)) (by rfl) ?_)
      refine (HC.out _ HK.out.b).mono ?_; rintro e w1 ⟨A5, n5, c5, Rn, rfl, hkn, HTl⟩
      replace HK := Lib.hid (HK.out.join hkn)
      simp only [List.nil_append] at HK
      clear hkn HC
      go_wp2_with (first | (refine wpList_alg HK rfl rfl ?_; intro _ g8 HK'; simp only [List.cons_append, List.nil_append] at HK'; replace HK := HK'; clear HK') | (refine wpList_akev HK rfl rfl ?_; intro _ g9 HK'; simp only [List.cons_append, List.nil_append] at HK'; replace HK := HK'; clear HK') | (refine wpList_slg HK 3 rfl _ _ rfl rfl rfl rfl rfl ?_; intro _ HK'; simp only [List.set] at HK'; replace HK := HK'; clear HK') | (refine wpList_sev (e2 := x) HK 4 rfl _ _ rfl rfl rfl rfl ?_; intro _ HK' _; simp only [List.set] at HK'; replace HK := HK'; clear HK'))
      have HK0 := Lib.hid HK.out.drew
      clear HK
      refine wp_region_held_drew (S := (fun W => Hid (Kn w.heap.size w W [(g8, 24, lgC rb rc rd (.slice A5 n5 c5)), (g9, 35, evA x)] []))) (by kernel_rfl) ?_ (fun hHeld => ?_)
      · (try dsimp only); exact Lib.hid ((HK0.out.dropL 3).takeR 0)
      refine wpAnyH_take (i := 0) (oi := ⟨some 39, _, _, _, _, _⟩) (v := ?_) rfl (by kernel_rfl) (by kernel_rfl) (by kernel_rfl) (fun _ _ _ h => h) (Or.inl ⟨by rfl, ?_⟩) (by assumption) ?_
      rotate_left
      · (intro w hSw; refine Eq.trans (klg hSw 0 _ (by rfl) (by rfl) (by rfl)) ?_; with_reducible rfl)
      try simp only [Act.put, List.setIfInBounds_toArray, List.set_cons_zero, List.set_cons_succ]
      refine wpAnyH_take (i := 1) (oi := ⟨some 40, _, _, _, _, _⟩) (v := ?_) rfl (by kernel_rfl) (by kernel_rfl) (by kernel_rfl) (fun _ _ _ h => h) (Or.inl ⟨by rfl, ?_⟩) (by assumption) ?_
      rotate_left
      · (intro w hSw; refine Eq.trans (kevA hSw 1 _ (by rfl) (by rfl) (by rfl)) ?_; with_reducible rfl)
      try simp only [Act.put, List.setIfInBounds_toArray, List.set_cons_zero, List.set_cons_succ]
      refine wpAnyH_take (i := 3) (oi := ⟨some 42, _, _, _, _, _⟩) (v := ?_) rfl (by kernel_rfl) (by kernel_rfl) (by kernel_rfl) (fun _ _ _ h => h) (Or.inl ⟨by rfl, ?_⟩) (by assumption) ?_
      rotate_left
      · (intro w hSw; (try dsimp only at hSw); go_simp; try with_reducible rfl)
      try simp only [Act.put, List.setIfInBounds_toArray, List.set_cons_zero, List.set_cons_succ]
      refine wpAnyH_ready (rs := [2, 4]) (by kernel_rfl) (by simp) ?_
      refine AllReadyH.cons (o := ⟨some 41, _, _, _, _, _⟩) rfl (fun K hK => ?_) (AllReadyH.cons (o := ⟨none, _, _, _, _, _⟩) rfl (fun K hK => ?_) AllReadyH.nil)
      refine step_mk1 evLay (p := x) HK0 (by decide) (by rfl) _ (by rfl) (by rfl) (by rfl) ?_; clear HK0; intro wq g3 HK0 _; have hs := Lib.hid ((HK0.out.dropL 3).takeR 0)
      refine hK.out _ _ hs (fun hHeld => ?_)
      clear hK K
      try simp only [ap1, ap2, ap3, ap4, ap5]
      refine wpAnyH_ready (rs := [4]) (by kernel_rfl) (by simp) ?_
      refine AllReadyH.cons (o := ⟨none, _, _, _, _, _⟩) rfl (fun K hK => ?_) AllReadyH.nil
      refine step_slg HK0 2 (by rfl) _ _ (by rfl) (by rfl) (by rfl) (by rfl) (by rfl) ?_; clear HK0; intro wq HK0; simp only [List.set] at HK0; have hs := Lib.hid ((HK0.out.dropL 3).takeR 0)
      refine hK.out _ _ hs (fun hHeld => ?_)
      clear hK K
      try simp only [ap1, ap2, ap3, ap4, ap5]
      refine wpAnyH_take (i := 5) (oi := ⟨some 5, _, _, _, _, _⟩) (v := ?_) rfl (by kernel_rfl) (by kernel_rfl) (by kernel_rfl) (fun _ _ _ h => h) (Or.inl ⟨by rfl, ?_⟩) (by assumption) ?_
      rotate_left
      · (intro w hSw; (try dsimp only at hSw); go_simp; try with_reducible rfl)
      try simp only [Act.put, List.setIfInBounds_toArray, List.set_cons_zero, List.set_cons_succ]
      refine wpAnyH_take (i := 6) (oi := ⟨some 6, _, _, _, _, _⟩) (v := ?_) rfl (by kernel_rfl) (by kernel_rfl) (by kernel_rfl) (fun _ _ _ h => h) (Or.inl ⟨by rfl, ?_⟩) (by assumption) ?_
      rotate_left
      · (intro w hSw; (try dsimp only at hSw); go_simp; try with_reducible rfl)
      try simp only [Act.put, List.setIfInBounds_toArray, List.set_cons_zero, List.set_cons_succ]
      refine wpAnyH_take (i := 7) (oi := ⟨some 7, _, _, _, _, _⟩) (v := ?_) rfl (by kernel_rfl) (by kernel_rfl) (by kernel_rfl) (fun _ _ _ h => h) (Or.inl ⟨by rfl, ?_⟩) (by assumption) ?_
      rotate_left
      · (intro w hSw; (try dsimp only at hSw); go_simp; try with_reducible rfl)
      try simp only [Act.put, List.setIfInBounds_toArray, List.set_cons_zero, List.set_cons_succ]
      refine wpAnyH_done (by kernel_rfl) ?_ _
      rotate_left
      refine step_slg HK0 2 (by rfl) _ _ (by rfl) (by rfl) (by rfl) (by rfl) (by rfl) ?_; clear HK0; intro wq HK0; simp only [List.set] at HK0; have hs := Lib.hid ((HK0.out.dropL 3).takeR 0)
      refine hK.out _ _ hs (fun hHeld => ?_)
      clear hK K
      try simp only [ap1, ap2, ap3, ap4, ap5]
      refine wpAnyH_take (i := 5) (oi := ⟨some 5, _, _, _, _, _⟩) (v := ?_) rfl (by kernel_rfl) (by kernel_rfl) (by kernel_rfl) (fun _ _ _ h => h) (Or.inl ⟨by rfl, ?_⟩) (by assumption) ?_
      rotate_left
      · (intro w hSw; (try dsimp only at hSw); go_simp; try with_reducible rfl)
      try simp only [Act.put, List.setIfInBounds_toArray, List.set_cons_zero, List.set_cons_succ]
      refine wpAnyH_ready (rs := [2]) (by kernel_rfl) (by simp) ?_
      refine AllReadyH.cons (o := ⟨some 41, _, _, _, _, _⟩) rfl (fun K hK => ?_) AllReadyH.nil
      refine step_mk1 evLay (p := x) HK0 (by decide) (by rfl) _ (by rfl) (by rfl) (by rfl) ?_; clear HK0; intro wq g3 HK0 _; have hs := Lib.hid ((HK0.out.dropL 3).takeR 0)
      refine hK.out _ _ hs (fun hHeld => ?_)
      clear hK K
      try simp only [ap1, ap2, ap3, ap4, ap5]
      refine wpAnyH_take (i := 6) (oi := ⟨some 6, _, _, _, _, _⟩) (v := ?_) rfl (by kernel_rfl) (by kernel_rfl) (by kernel_rfl) (fun _ _ _ h => h) (Or.inl ⟨by rfl, ?_⟩) (by assumption) ?_
      rotate_left
      · (intro w hSw; (try dsimp only at hSw); go_simp; try with_reducible rfl)
      try simp only [Act.put, List.setIfInBounds_toArray, List.set_cons_zero, List.set_cons_succ]
      refine wpAnyH_take (i := 7) (oi := ⟨some 7, _, _, _, _, _⟩) (v := ?_) rfl (by kernel_rfl) (by kernel_rfl) (by kernel_rfl) (fun _ _ _ h => h) (Or.inl ⟨by rfl, ?_⟩) (by assumption) ?_
      rotate_left
      · (intro w hSw; (try dsimp only at hSw); go_simp; try with_reducible rfl)
      try simp only [Act.put, List.setIfInBounds_toArray, List.set_cons_zero, List.set_cons_succ]
      refine wpAnyH_done (by kernel_rfl) ?_ _
      rotate_left
      all_goals
        go_wp2_with fail
        exact ret_lg4 Try.results11 rfl rfl rfl rfl rfl (HK0.out.blk 2 rfl) ⟨A5, n5, c5, some ⟨g3, 0, none⟩, 1, 1, Rn ++ [row evLay (.slice (some ⟨g3, 0, none⟩) 1 1) [x]], rfl, HK0.out.takeL 0, Lib.hid (HTl.out.more (fun z hz => List.mem_append_left _ hz)), Lib.hid (Tl.own (List.mem_append_right _ (List.mem_singleton.2 rfl)) HFx.out)⟩
  by_cases h4 : k = 4
  · as_aux_lemma =>
      have k4 : (k == 4) = true := by rw [beq_iff_eq]; exact h4
      have k1 : (k == 1) = false := by rw [beq_eq_false_iff_ne]; omega
      have k2 : (k == 2) = false := by rw [beq_eq_false_iff_ne]; omega
      have k3 : (k == 3) = false := by rw [beq_eq_false_iff_ne]; omega
      have HC := Lib.hid (fun W (hW : Below w.heap.size w W) => lctrim_any G l A n c f W (hs.later hW) hr)
      unfold IsLgT at HC
      rw [show Lgm.doL l k f m es = (Lgm.trim l f, 0, [], false) from by unfold Lgm.doL; simp [h4]]
      generalize Lgm.trim l f = r at *
      clear hG hs hr hs2 hne hn hb hb2 hn2 hfi h1 h2 h3 h4
      obtain ⟨b, cc, d, ev⟩ := l
      simp only at *
      go_enter Try.func11, Try.ntmps11
      go_wp2_with (first | refine wpList_exe (klo_k HK 1 _ (by rfl) (by rfl) (by rfl)) (by rfl) ?_ | refine wpList_exe (klg HK 0 _ (by rfl) (by rfl) (by rfl)) (by rfl) ?_ | refine wpList_exe (klo_n HK 1 _ (by rfl) (by rfl) (by rfl)) (by rfl) ?_)
      refine (HC.out _ HK.out.b).mono ?_; rintro e w1 ⟨A5, n5, c5, Rn, rfl, hkn, HTl⟩
      replace HK := Lib.hid (HK.out.join hkn)
      simp only [List.nil_append] at HK
      clear hkn HC
      go_wp2_with (first | (refine wpList_slg HK 2 rfl _ _ rfl rfl rfl rfl rfl ?_; intro _ HK'; simp only [List.set] at HK'; replace HK := HK'; clear HK'))
      exact ret_lg4 Try.results11 rfl rfl rfl rfl rfl (HK.out.blk 2 rfl) ⟨A5, n5, c5, none, 0, 0, Rn, rfl, HK.out.takeL 0, HTl, Lib.hid (Tl.none _)⟩
  by_cases h5 : k = 5
  · as_aux_lemma =>
      have k5 : (k == 5) = true := by rw [beq_iff_eq]; exact h5
      have k1 : (k == 1) = false := by rw [beq_eq_false_iff_ne]; omega
      have k2 : (k == 2) = false := by rw [beq_eq_false_iff_ne]; omega
      have k3 : (k == 3) = false := by rw [beq_eq_false_iff_ne]; omega
      have k4 : (k == 4) = false := by rw [beq_eq_false_iff_ne]; omega
      have HC := Lib.hid (fun W (hW : Below w.heap.size w W) => lcpart_any G l A n c f m W (hs.later hW) hr)
      unfold IsPtT at HC
      rw [show Lgm.doL l k f m es = (l, Lgm.pf l f, Lgm.part l f m, false) from by unfold Lgm.doL; simp [h5]]
      generalize Lgm.pf l f = pf at *
      generalize Lgm.part l f m = pt at *
      clear hG hs hr hs2 hne hn hb hb2 hn2 hfi h1 h2 h3 h4 h5
      obtain ⟨b, cc, d, ev⟩ := l
      simp only at *
      go_enter Try.func11, Try.ntmps11
      go_wp2_with (first | refine wpList_exe (klo_k HK 1 _ (by rfl) (by rfl) (by rfl)) (by rfl) ?_ | refine wpList_exe (klg HK 0 _ (by rfl) (by rfl) (by rfl)) (by rfl) ?_ | refine wpList_exe (klo_n HK 1 _ (by rfl) (by rfl) (by rfl)) (by rfl) ?_ | refine wpList_exe (klo_m HK 1 _ (by rfl) (by rfl) (by rfl)) (by rfl) ?_)
      refine (HC.out _ HK.out.b).mono ?_; rintro e w1 ⟨A5, n5, c5, Rn, rfl, hkn, HTl⟩
      replace HK := Lib.hid (HK.out.join hkn)
      simp only [List.nil_append] at HK
      clear hkn HC
      go_wp2_with (first | refine wpList_exe (klg HK 0 _ (by rfl) (by rfl) (by rfl)) (by rfl) ?_ | (refine wpList_slg HK 2 rfl _ _ rfl rfl rfl rfl rfl ?_; intro _ HK'; simp only [List.set] at HK'; replace HK := HK'; clear HK'))
      exact ret_lg4 Try.results11 rfl rfl rfl rfl rfl (HK.out.blk 2 rfl) ⟨A, n, c, A5, n5, c5, Rn, rfl, HK.out.takeL 0, Lib.hid (HTs.out.more (fun z hz => by cases hz)), HTl⟩
  · as_aux_lemma =>
      have k1 : (k == 1) = false := by rw [beq_eq_false_iff_ne]; omega
      have k2 : (k == 2) = false := by rw [beq_eq_false_iff_ne]; omega
      have k3 : (k == 3) = false := by rw [beq_eq_false_iff_ne]; omega
      have k4 : (k == 4) = false := by rw [beq_eq_false_iff_ne]; omega
      have k5 : (k == 5) = false := by rw [beq_eq_false_iff_ne]; omega
      rw [show Lgm.doL l k f m es = (l, 0, [], false) from by unfold Lgm.doL; simp [h1, h2, h3, h4, h5]]
      clear hG hs hr hs2 hne hn hb hb2 hn2 hfi h1 h2 h3 h4 h5
      obtain ⟨b, cc, d, ev⟩ := l
      simp only at *
      go_enter Try.func11, Try.ntmps11
      go_wp2_with (first | refine wpList_exe (klo_k HK 1 _ (by rfl) (by rfl) (by rfl)) (by rfl) ?_ | refine wpList_exe (klg HK 0 _ (by rfl) (by rfl) (by rfl)) (by rfl) ?_ | (refine wpList_slg HK 2 rfl _ _ rfl rfl rfl rfl rfl ?_; intro _ HK'; simp only [List.set] at HK'; replace HK := HK'; clear HK'))
      exact ret_lg4 Try.results11 rfl rfl rfl rfl rfl (HK.out.blk 2 rfl) ⟨A, n, c, none, 0, 0, [], rfl, HK.out.takeL 0, HTs, Lib.hid (Tl.none _)⟩
end Go.Proofs.Ytakjggmiilkmdaa
