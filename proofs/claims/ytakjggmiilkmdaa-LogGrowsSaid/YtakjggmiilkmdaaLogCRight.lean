/-
  What log's Right returns.
  No condition but what the slice reads as.
-/
import Derived.Test.YtakjggmiilkmdaaLogFunc
import Derived.Test.YtakjggmiilkmdaaSortLib
import Derived.Test.YtakjggmiilkmdaaLIn
set_option linter.unusedSimpArgs false
set_option linter.unusedVariables false
namespace Go.Proofs.Ytakjggmiilkmdaa
open Go.RowKit

section
variable {b0 : Nat} {w0 w : World} {L : List (Nat × TypeId × Array Value)} {R : List RowE} {ops : Array Oper} {o : Oper} {a : Act} {Q : Exit → Act → World → Prop} {K : Act → World → Prop} {E : Prop} {x1 x2 x3 x4 : Int}
theorem step_in4 (HK : Hid (Kn b0 w0 w L R)) (hgd : o.guard = none) (p q r s : Operand) (ho : o.op = .buildSlice 46 4 #[(0, p), (1, q), (2, r), (3, s)]) (h1 : a.eval p = .int .i64 x1) (h2 : a.eval q = .int .i64 x2) (h3 : a.eval r = .int .i64 x3) (h4 : a.eval s = .int .i64 x4)
    (h : ∀ w' g, Hid (Kn b0 w0 w' L (R ++ [row inLay (.slice (some ⟨g, 0, none⟩) 4 4) [x1, x2, x3, x4]])) → Hid (Below w.heap.size w w') → K (a.put o.dst (.slice (some ⟨g, 0, none⟩) 4 4)) w') : if Region.wanted o (yielded ops a.tmps) = true then Oper.wp Try.prog o a w K Q else E := by
  rw [if_pos (by simp [Region.wanted, hgd])]
  exact kwp_mk inLay HK [x1, x2, x3, x4] 4 _ ho [.int .i64 x1, .int .i64 x2, .int .i64 x3, .int .i64 x4] (by simp [h1, h2, h3, h4]) (by simp [Value.cells]; exact ⟨rfl, rfl, rfl, rfl⟩) rfl (by show 4 * 1 ≤ 65536; decide) h
/-- Four numbers that rise. -/
theorem lcsorted_any (HK : Kn b0 w0 w L R) (i : Nat) {g : Nat} (hi : R[i]? = some (row inLay (.slice (some ⟨g, 0, none⟩) 4 4) [x1, x2, x3, x4])) :
    Calls Try.prog 29 #[.slice (some ⟨g, 0, none⟩) 4 4] w (IsB (decide (x1 ≤ x2 ∧ x2 ≤ x3 ∧ x3 ≤ x4)) w) := by
  have hS : Sls inLay inF w (some ⟨g, 0, none⟩) 4 4 [x1, x2, x3, x4] := Sls.own (HK.own i hi) ⟨fun _ _ => trivial, by show 4 * 8 ≤ _; decide⟩
  obtain ⟨b, o, e, hat⟩ := hS.iat (by decide)
  injection e with e
  injection e with e1 e2
  subst e1 e2
  have hat := hat w (Below.refl _ w)
  refine (slices_IsSorted_int g 0 4 #[x1, x2, x3, x4] w (fun j hj => ?_) (by show 4 < 4611686018427387904; decide)).mono ?_
  · have hj4 : j < 4 := hj
    match j, hj4 with
    | 0, _ => exact hat 0 x1 rfl
    | 1, _ => exact hat 1 x2 rfl
    | 2, _ => exact hat 2 x3 rfl
    | 3, _ => exact hat 3 x4 rfl
  · rintro e w' ⟨rfl, q, rfl⟩
    refine ⟨?_, ⟨rfl, rfl, rfl, Nat.le_refl _, fun _ _ => rfl⟩⟩
    have e : Lib.downOK (fun x y => decide (x < y)) #[x1, x2, x3, x4] 3 = decide (x1 ≤ x2 ∧ x2 ≤ x3 ∧ x3 ≤ x4) := by
      show (!decide (x4 < x3) && (!decide (x3 < x2) && (!decide (x2 < x1) && true))) = _
      by_cases k1 : x1 ≤ x2 <;> by_cases k2 : x2 ≤ x3 <;> by_cases k3 : x3 ≤ x4 <;> simp [k1, k2, k3] <;> omega
    exact congrArg (fun b => Ending.returned (.bool b)) e
end
set_option maxRecDepth 100000 in
set_option maxHeartbeats 12800000 in
theorem lcright_any (l : Lg) (A : Option Addr) (n c : Nat) (w : World) (hs : Sls evLay lvF w A n c l.ev) :
    Calls Try.prog 9 #[.agg #[.int .i64 l.b, .int .i64 l.c, .int .i64 l.d, .slice A n c]] w (IsB (decide (Lgm.Right l)) w) := by
  have hn := hs.len
  have hbig : n ≤ 140737488355328 := by have h : n * 160 ≤ 140737488355328 := hs.big; omega
  have HK := kn1 w 24 (lgC l.b l.c l.d (.slice A n c))
  have key : Lgm.Right l ↔ (0 ≤ l.b ∧ n ≤ 16 ∧ l.b ≤ 4611686018427387904 ∧ l.b ≤ l.d ∧ l.d ≤ l.c ∧ l.c ≤ Lgm.en l ∧ ∀ e ∈ l.ev, Cmd.fits e) := by unfold Lgm.Right; rw [hn]
  unfold IsB
  by_cases h1 : l.b < 0
  · as_aux_lemma =>
      have d1 := decide_eq_true h1
      rw [decide_eq_false (show ¬ Lgm.Right l from fun h => by have := (key.1 h).1; omega)]
      have f0 := HK.out.cell 0 rfl 0 (v := .int .i64 l.b) rfl
      clear key h1 hs hn hbig
      obtain ⟨b, cc, d, ev⟩ := l
      simp only at *
      go_enter Try.func9, Try.ntmps9
      go_wp2_with fail
      go_ret
      exact ⟨rfl, HK.out.b⟩
  have d1 := decide_eq_false h1
  by_cases h2 : 4611686018427387904 < l.b
  · as_aux_lemma =>
      have d2 := decide_eq_true h2
      rw [decide_eq_false (show ¬ Lgm.Right l from fun h => by have := (key.1 h).2.2.1; omega)]
      have f0 := HK.out.cell 0 rfl 0 (v := .int .i64 l.b) rfl
      clear key h1 h2 hs hn hbig
      obtain ⟨b, cc, d, ev⟩ := l
      simp only at *
      go_enter Try.func9, Try.ntmps9
      go_wp2_with fail
      go_ret
      exact ⟨rfl, HK.out.b⟩
  have d2 := decide_eq_false h2
  by_cases h3 : 16 < n
  · as_aux_lemma =>
      have d3 : decide ((16 : Int) < (n : Int)) = true := decide_eq_true (by omega)
      rw [decide_eq_false (show ¬ Lgm.Right l from fun h => by have := (key.1 h).2.1; omega)]
      have f0 := HK.out.cell 0 rfl 0 (v := .int .i64 l.b) rfl
      have f3 := HK.out.cell 0 rfl 3 (v := .slice A n c) rfl
      clear key h1 h2 h3 hs hn hbig
      obtain ⟨b, cc, d, ev⟩ := l
      simp only at *
      go_enter Try.func9, Try.ntmps9
      go_wp2_with fail
      go_ret
      exact ⟨rfl, HK.out.b⟩
  have d3 : decide ((16 : Int) < (n : Int)) = false := decide_eq_false (by omega)
  have HE := Lib.hid (fun W => lcend_any l A n c W hn (by omega) (by omega) hbig)
  unfold IsNm at HE
  obtain ⟨rs, hrs⟩ : ∃ rs, decide (l.b ≤ l.d ∧ l.d ≤ l.c ∧ l.c ≤ Lgm.en l) = rs := ⟨_, rfl⟩
  have HRs := Lib.hid hrs
  have f0 := HK.out.cell 0 rfl 0 (v := .int .i64 l.b) rfl
  have f3 := HK.out.cell 0 rfl 3 (v := .slice A n c) rfl
  cases rs
  case false =>
    as_aux_lemma =>
      rw [decide_eq_false (show ¬ Lgm.Right l from fun h => by have h4 := (key.1 h).2.2.2; exact of_decide_eq_false hrs ⟨h4.1, h4.2.1, h4.2.2.1⟩)]
      clear key h1 h2 h3 hs hn hbig hrs
      obtain ⟨b, cc, d, ev⟩ := l
      simp only at *
      generalize Lgm.en ⟨b, cc, d, ev⟩ = m at *
      go_enter Try.func9, Try.ntmps9
      go_upto_region 3 with fail
      clear f0 f3 d1 d2 d3
      go_wp2_with fail
      have HK0 := Lib.hid HK.out.drew
      clear HK
      refine wp_region_held_drew (S := (fun W => Hid (Kn w.heap.size w W [(w.heap.size, 24, lgC b cc d (.slice A n c))] []))) (by kernel_rfl) ?_ (fun hHeld => ?_)
      · (try dsimp only); exact HK0
      refine wpAnyH_take (i := 0) (oi := ⟨some 18, _, _, _, _, _⟩) (v := ?_) rfl (by kernel_rfl) (by kernel_rfl) (by kernel_rfl) (fun _ _ _ h => h) (Or.inl ⟨by rfl, ?_⟩) (by assumption) ?_
      rotate_left
      · (intro w hSw; (try dsimp only at hSw); go_simp; try with_reducible rfl)
      try simp only [Act.put, List.setIfInBounds_toArray, List.set_cons_zero, List.set_cons_succ]
      refine wpAnyH_take (i := 1) (oi := ⟨some 19, _, _, _, _, _⟩) (v := ?_) rfl (by kernel_rfl) (by kernel_rfl) (by kernel_rfl) (fun _ _ _ h => h) (Or.inl ⟨by rfl, ?_⟩) (by assumption) ?_
      rotate_left
      · (intro w hSw; refine Eq.trans (klg_b hSw 0 _ (by rfl) (by rfl) (by rfl)) ?_; with_reducible rfl)
      try simp only [Act.put, List.setIfInBounds_toArray, List.set_cons_zero, List.set_cons_succ]
      refine wpAnyH_take (i := 2) (oi := ⟨some 20, _, _, _, _, _⟩) (v := ?_) rfl (by kernel_rfl) (by kernel_rfl) (by kernel_rfl) (fun _ _ _ h => h) (Or.inl ⟨by rfl, ?_⟩) (by assumption) ?_
      rotate_left
      · (intro w hSw; (try dsimp only at hSw); go_simp; try with_reducible rfl)
      try simp only [Act.put, List.setIfInBounds_toArray, List.set_cons_zero, List.set_cons_succ]
      refine wpAnyH_take (i := 3) (oi := ⟨some 21, _, _, _, _, _⟩) (v := ?_) rfl (by kernel_rfl) (by kernel_rfl) (by kernel_rfl) (fun _ _ _ h => h) (Or.inl ⟨by rfl, ?_⟩) (by assumption) ?_
      rotate_left
      · (intro w hSw; refine Eq.trans (klg_d hSw 0 _ (by rfl) (by rfl) (by rfl)) ?_; with_reducible rfl)
      try simp only [Act.put, List.setIfInBounds_toArray, List.set_cons_zero, List.set_cons_succ]
      refine wpAnyH_take (i := 4) (oi := ⟨some 22, _, _, _, _, _⟩) (v := ?_) rfl (by kernel_rfl) (by kernel_rfl) (by kernel_rfl) (fun _ _ _ h => h) (Or.inl ⟨by rfl, ?_⟩) (by assumption) ?_
      rotate_left
      · (intro w hSw; (try dsimp only at hSw); go_simp; try with_reducible rfl)
      try simp only [Act.put, List.setIfInBounds_toArray, List.set_cons_zero, List.set_cons_succ]
      refine wpAnyH_take (i := 5) (oi := ⟨some 23, _, _, _, _, _⟩) (v := ?_) rfl (by kernel_rfl) (by kernel_rfl) (by kernel_rfl) (fun _ _ _ h => h) (Or.inl ⟨by rfl, ?_⟩) (by assumption) ?_
      rotate_left
      · (intro w hSw; refine Eq.trans (klg_c hSw 0 _ (by rfl) (by rfl) (by rfl)) ?_; with_reducible rfl)
      try simp only [Act.put, List.setIfInBounds_toArray, List.set_cons_zero, List.set_cons_succ]
      refine wpAnyH_take (i := 6) (oi := ⟨some 24, _, _, _, _, _⟩) (v := ?_) rfl (by kernel_rfl) (by kernel_rfl) (by kernel_rfl) (fun _ _ _ h => h) (Or.inl ⟨by rfl, ?_⟩) (by assumption) ?_
      rotate_left
      · (intro w hSw; refine Eq.trans (klg hSw 0 _ (by rfl) (by rfl) (by rfl)) ?_; with_reducible rfl)
      try simp only [Act.put, List.setIfInBounds_toArray, List.set_cons_zero, List.set_cons_succ]
      refine wpAnyH_ready (rs := [7]) (by kernel_rfl) (by simp) ?_
      refine AllReadyH.cons (o := ⟨some 25, _, _, _, _, _⟩) rfl (fun K hK => ?_) AllReadyH.nil
      go_simp
      go_at_call 15
      refine (HE.out _).mono ?_; rintro e w5 ⟨rfl, b5⟩; have hs := Lib.hid (hHeld.out.call b5); clear b5
      refine hK.out _ _ hs (fun hHeld => ?_)
      clear hK K
      try simp only [ap1, ap2, ap3, ap4, ap5]
      refine wpAnyH_ready (rs := [8]) (by kernel_rfl) (by simp) ?_
      refine AllReadyH.cons (o := ⟨some 26, _, _, _, _, _⟩) rfl (fun K hK => ?_) AllReadyH.nil
      refine step_in4 hHeld (by rfl) _ _ _ _ (by rfl) (by rfl) (by rfl) (by rfl) (by rfl) ?_; intro wq g3 HK1 _; simp only [List.nil_append] at HK1; have hs := Lib.hid (HK1.out.takeR 0)
      refine hK.out _ _ hs (fun hHeld => ?_)
      clear hK K
      try simp only [ap1, ap2, ap3, ap4, ap5]
      refine wpAnyH_ready (rs := [9]) (by kernel_rfl) (by simp) ?_
      refine AllReadyH.cons (o := ⟨some 27, _, _, _, _, _⟩) rfl (fun K hK => ?_) AllReadyH.nil
      go_simp
      go_at_call 29
      refine (lcsorted_any HK1.out 0 rfl).mono ?_; rw [HRs.out]; rintro e w5 ⟨rfl, b5⟩; have hs := Lib.hid (hHeld.out.call b5); clear b5
      refine hK.out _ _ hs (fun hHeld => ?_)
      clear hK K
      try simp only [ap1, ap2, ap3, ap4, ap5]
      refine wpAnyH_take (i := 10) (oi := ⟨some 3, _, _, _, _, _⟩) (v := ?_) rfl (by kernel_rfl) (by kernel_rfl) (by kernel_rfl) (fun _ _ _ h => h) (Or.inl ⟨by rfl, ?_⟩) (by assumption) ?_
      rotate_left
      · (intro w hSw; (try dsimp only at hSw); go_simp; try with_reducible rfl)
      try simp only [Act.put, List.setIfInBounds_toArray, List.set_cons_zero, List.set_cons_succ]
      refine wpAnyH_done (by kernel_rfl) ?_ _
      all_goals
        have HK := hHeld
        clear HK0 hHeld HE
        go_wp2_with fail
        go_ret
        exact ⟨rfl, HK.out.b⟩
  case true =>
    as_aux_lemma =>
      have eg : ∀ args w, (callFunc 31 args).run Try.prog w = .ok (.enter 31 args) w := enters_of Try.func31 (by kernel_rfl) rfl
      have HC := Lib.hid (fun W (hW : Below w.heap.size w W) => lccont_any 31 #[] (fun x => !decide (Cmd.fits x)) eg A n c l.ev W (fun W1 x hW1 hx => lcunfit_any x W1 hx) (hs.later hW))
      have HA : Hid (decide (Lgm.Right l) = !(l.ev.any (fun x => !decide (Cmd.fits x)))) := Lib.hid (by
        have h4 := of_decide_eq_true hrs
        have e : Lgm.Right l ↔ ∀ e ∈ l.ev, Cmd.fits e := by
          rw [key]
          exact ⟨fun h => h.2.2.2.2.2.2, fun h => ⟨by omega, by omega, by omega, h4.1, h4.2.1, h4.2.2, h⟩⟩
        by_cases hq : ∀ e ∈ l.ev, Cmd.fits e
        · rw [decide_eq_true (e.2 hq)]
          symm
          rw [Bool.not_eq_true', List.any_eq_false]
          intro x hx
          simp [hq x hx]
        · rw [decide_eq_false (fun h => hq (e.1 h))]
          symm
          rw [Bool.not_eq_false', List.any_eq_true]
          refine Classical.byContradiction fun hno => hq fun x hx => Classical.byContradiction fun hf => hno ⟨x, hx, by simp [hf]⟩)
      rw [HA.out]
      unfold IsB at HC
      generalize l.ev.any (fun x => !decide (Cmd.fits x)) = an at *
      clear key h1 h2 h3 hs hn hbig hrs HA eg
      obtain ⟨b, cc, d, ev⟩ := l
      simp only at *
      generalize Lgm.en ⟨b, cc, d, ev⟩ = m at *
      go_enter Try.func9, Try.ntmps9
      go_upto_region 3 with fail
      clear f0 f3 d1 d2 d3
      go_wp2_with fail
      have HK0 := Lib.hid HK.out.drew
      clear HK
      refine wp_region_held_drew (S := (fun W => Hid (Kn w.heap.size w W [(w.heap.size, 24, lgC b cc d (.slice A n c))] []))) (by kernel_rfl) ?_ (fun hHeld => ?_)
      · (try dsimp only); exact HK0
      refine wpAnyH_take (i := 0) (oi := ⟨some 18, _, _, _, _, _⟩) (v := ?_) rfl (by kernel_rfl) (by kernel_rfl) (by kernel_rfl) (fun _ _ _ h => h) (Or.inl ⟨by rfl, ?_⟩) (by assumption) ?_
      rotate_left
      · (intro w hSw; (try dsimp only at hSw); go_simp; try with_reducible rfl)
      try simp only [Act.put, List.setIfInBounds_toArray, List.set_cons_zero, List.set_cons_succ]
      refine wpAnyH_take (i := 1) (oi := ⟨some 19, _, _, _, _, _⟩) (v := ?_) rfl (by kernel_rfl) (by kernel_rfl) (by kernel_rfl) (fun _ _ _ h => h) (Or.inl ⟨by rfl, ?_⟩) (by assumption) ?_
      rotate_left
      · (intro w hSw; refine Eq.trans (klg_b hSw 0 _ (by rfl) (by rfl) (by rfl)) ?_; with_reducible rfl)
      try simp only [Act.put, List.setIfInBounds_toArray, List.set_cons_zero, List.set_cons_succ]
      refine wpAnyH_take (i := 2) (oi := ⟨some 20, _, _, _, _, _⟩) (v := ?_) rfl (by kernel_rfl) (by kernel_rfl) (by kernel_rfl) (fun _ _ _ h => h) (Or.inl ⟨by rfl, ?_⟩) (by assumption) ?_
      rotate_left
      · (intro w hSw; (try dsimp only at hSw); go_simp; try with_reducible rfl)
      try simp only [Act.put, List.setIfInBounds_toArray, List.set_cons_zero, List.set_cons_succ]
      refine wpAnyH_take (i := 3) (oi := ⟨some 21, _, _, _, _, _⟩) (v := ?_) rfl (by kernel_rfl) (by kernel_rfl) (by kernel_rfl) (fun _ _ _ h => h) (Or.inl ⟨by rfl, ?_⟩) (by assumption) ?_
      rotate_left
      · (intro w hSw; refine Eq.trans (klg_d hSw 0 _ (by rfl) (by rfl) (by rfl)) ?_; with_reducible rfl)
      try simp only [Act.put, List.setIfInBounds_toArray, List.set_cons_zero, List.set_cons_succ]
      refine wpAnyH_take (i := 4) (oi := ⟨some 22, _, _, _, _, _⟩) (v := ?_) rfl (by kernel_rfl) (by kernel_rfl) (by kernel_rfl) (fun _ _ _ h => h) (Or.inl ⟨by rfl, ?_⟩) (by assumption) ?_
      rotate_left
      · (intro w hSw; (try dsimp only at hSw); go_simp; try with_reducible rfl)
      try simp only [Act.put, List.setIfInBounds_toArray, List.set_cons_zero, List.set_cons_succ]
      refine wpAnyH_take (i := 5) (oi := ⟨some 23, _, _, _, _, _⟩) (v := ?_) rfl (by kernel_rfl) (by kernel_rfl) (by kernel_rfl) (fun _ _ _ h => h) (Or.inl ⟨by rfl, ?_⟩) (by assumption) ?_
      rotate_left
      · (intro w hSw; refine Eq.trans (klg_c hSw 0 _ (by rfl) (by rfl) (by rfl)) ?_; with_reducible rfl)
      try simp only [Act.put, List.setIfInBounds_toArray, List.set_cons_zero, List.set_cons_succ]
      refine wpAnyH_take (i := 6) (oi := ⟨some 24, _, _, _, _, _⟩) (v := ?_) rfl (by kernel_rfl) (by kernel_rfl) (by kernel_rfl) (fun _ _ _ h => h) (Or.inl ⟨by rfl, ?_⟩) (by assumption) ?_
      rotate_left
      · (intro w hSw; refine Eq.trans (klg hSw 0 _ (by rfl) (by rfl) (by rfl)) ?_; with_reducible rfl)
      try simp only [Act.put, List.setIfInBounds_toArray, List.set_cons_zero, List.set_cons_succ]
      refine wpAnyH_ready (rs := [7]) (by kernel_rfl) (by simp) ?_
      refine AllReadyH.cons (o := ⟨some 25, _, _, _, _, _⟩) rfl (fun K hK => ?_) AllReadyH.nil
      go_simp
      go_at_call 15
      refine (HE.out _).mono ?_; rintro e w5 ⟨rfl, b5⟩; have hs := Lib.hid (hHeld.out.call b5); clear b5
      refine hK.out _ _ hs (fun hHeld => ?_)
      clear hK K
      try simp only [ap1, ap2, ap3, ap4, ap5]
      refine wpAnyH_ready (rs := [8]) (by kernel_rfl) (by simp) ?_
      refine AllReadyH.cons (o := ⟨some 26, _, _, _, _, _⟩) rfl (fun K hK => ?_) AllReadyH.nil
      refine step_in4 hHeld (by rfl) _ _ _ _ (by rfl) (by rfl) (by rfl) (by rfl) (by rfl) ?_; intro wq g3 HK1 _; simp only [List.nil_append] at HK1; have hs := Lib.hid (HK1.out.takeR 0)
      refine hK.out _ _ hs (fun hHeld => ?_)
      clear hK K
      try simp only [ap1, ap2, ap3, ap4, ap5]
      refine wpAnyH_ready (rs := [9]) (by kernel_rfl) (by simp) ?_
      refine AllReadyH.cons (o := ⟨some 27, _, _, _, _, _⟩) rfl (fun K hK => ?_) AllReadyH.nil
      go_simp
      go_at_call 29
      refine (lcsorted_any HK1.out 0 rfl).mono ?_; rw [HRs.out]; rintro e w5 ⟨rfl, b5⟩; have hs := Lib.hid (hHeld.out.call b5); clear b5
      refine hK.out _ _ hs (fun hHeld => ?_)
      clear hK K
      try simp only [ap1, ap2, ap3, ap4, ap5]
      refine wpAnyH_take (i := 10) (oi := ⟨some 3, _, _, _, _, _⟩) (v := ?_) rfl (by kernel_rfl) (by kernel_rfl) (by kernel_rfl) (fun _ _ _ h => h) (Or.inl ⟨by rfl, ?_⟩) (by assumption) ?_
      rotate_left
      · (intro w hSw; (try dsimp only at hSw); go_simp; try with_reducible rfl)
      try simp only [Act.put, List.setIfInBounds_toArray, List.set_cons_zero, List.set_cons_succ]
      refine wpAnyH_done (by kernel_rfl) ?_ _
      all_goals
        have HK := hHeld
        clear HK0 hHeld HE
        have f3 := HK.out.cell 0 rfl 3 (v := .slice A n c) rfl
        go_wp2_with fail
        refine (HC.out _ HK.out.b).mono ?_; rintro e w1 ⟨rfl, b1⟩
        clear f3
        replace HK := Lib.hid (HK.out.call b1); clear b1
        go_wp2_with fail
        go_ret
        exact ⟨rfl, HK.out.b⟩
end Go.Proofs.Ytakjggmiilkmdaa
