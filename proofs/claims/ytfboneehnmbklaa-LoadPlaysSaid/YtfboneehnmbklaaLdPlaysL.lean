/-
  The law LoadPlays.
  No condition but what the slice reads as.
-/
import Derived.Test.YtfboneehnmbklaaLdAwake
import Derived.Test.YtfboneehnmbklaaLdSame
import Derived.Test.YtfboneehnmbklaaLdK
import Derived.Test.YtfboneehnmbklaaLLd
import Derived.Deep.DeepCutAuto
set_option linter.unusedSimpArgs false
set_option linter.unusedVariables false
namespace Go.Proofs.Ytfboneehnmbklaa
open Go.RowKit

/-- A load of pieces. -/
structure PG (y : Ldd) : Prop where
  h : y.h.length ≤ 256
  d : y.d.length ≤ 256
  s : ∀ x ∈ y.d, x.size ≤ 64
theorem PG.fb {y : Ldd} (g : PG y) : Fits bLay bF y.h := fits_b _ _ rfl (Nat.le_trans g.h (by decide))
theorem PG.fs {y : Ldd} (g : PG y) : Fits sLay sF y.d := fits_s _ _ rfl (Nat.le_trans g.d (by decide)) (fun x hx => Nat.le_trans (g.s x hx) (by decide))
theorem PG.cat {y : Ldd} (g : PG y) : (Ldm.cat y.d).length ≤ 140737488355328 := by
  have h1 := cat_bound y.d 64 g.s
  have h2 := g.d
  omega
theorem pr_size {p : Lpc} (hp : Ldm.PR p) : p.d.size ≤ 64 := by
  by_cases h : p.a < p.t - 1
  · rw [hp.2.1 h]; decide
  · exact (hp.2.2 h).1
theorem PG.pt {y : Ldd} {p : Lpc} (g : PG y) (hp : p.d.size ≤ 64) : PG (Ldm.pt y p) :=
  ⟨by show (y.h.set _ _).length ≤ _; rw [List.length_set]; exact g.h, by show (y.d.set _ _).length ≤ _; rw [List.length_set]; exact g.d, fun x hx => by
    rcases set_mem hx with h | h
    · exact g.s x h
    · rw [h]; exact hp⟩
theorem PG.bg {p : Lpc} (hp : Ldm.PR p) : PG (Ldm.bg p) := by
  have h1 := hp.1.2.1
  refine ⟨by simp [Ldm.bg]; omega, by simp [Ldm.bg]; omega, fun x hx => ?_⟩
  have : x = ⟨#[]⟩ := by simp [Ldm.bg] at hx; exact hx.2
  rw [this]; decide
theorem PG.tk {y : Ldd} {p : Lpc} (g : PG y) : PG (Ldm.tk y p) := by
  unfold Ldm.tk
  split
  · exact g
  · rename_i hq
    have hp : Ldm.PR p := (Classical.byContradiction hq).2
    split
    · exact g
    · split
      · exact (PG.bg hp).pt (pr_size hp)
      · split
        · exact g
        · exact g.pt (pr_size hp)
theorem Kn.rotA {b0 : Nat} {w0 w : World} {L : List (Nat × TypeId × Array Value)} {r0 r1 r2 r3 r4 r5 : RowE} (h : Kn b0 w0 w L [r0, r1, r2, r3, r4, r5]) : Kn b0 w0 w L [r4, r5, r2, r3] :=
  h.pick id (fun i => if i < 2 then i + 4 else i) (fun i j _ _ h => h) (fun i j hi hj h => by simp at hi hj; split <;> split <;> omega) (fun i x hx => hx) (fun i x hx => by
    match i, hx with
    | 0, hx => exact hx
    | 1, hx => exact hx
    | 2, hx => exact hx
    | 3, hx => exact hx)
set_option maxRecDepth 100000 in
set_option maxHeartbeats 25600000 in
theorem lplays_any (v : Int) (A : Option Addr) (n c : Nat) (l : List Lpc) (w : World) (hl : Sls pcLay pcF w A n c l) :
    Lift.Yes Try.prog 5 #[.int .i64 v, .slice A n c] w := by
  have HAw := Lib.hid lawake_any
  have HL := Lib.hid hl
  have hn : n * 48 ≤ 140737488355328 := hl.big
  have HN1 := Lib.hid (fun W => lnew_any v W)
  have HN2 := Lib.hid (fun W => lrnew_any v W)
  have HK := Lib.hid (Kn.start w)
  clear hl
  unfold IsB at HAw
  unfold Lift.Yes
  go_enter Try.func5, Try.ntmps5
  go_wp2_with fail
  refine (HN1.out _).mono ?_; rintro e w1 ⟨rfl, b1⟩
  replace HK := Lib.hid (HK.out.call b1); clear b1
  go_wp2_with fail
  refine (HN2.out _).mono ?_; rintro e w2 ⟨rfl, b1⟩
  replace HK := Lib.hid (HK.out.call b1); clear b1
  go_upto_region 3 with (first | (refine wpList_akl HK rfl rfl ?_; intro _ g5 HK'; simp only [List.cons_append, List.nil_append] at HK'; replace HK := HK'; clear HK'; refine wpList_akl HK rfl rfl ?_; intro _ g6 HK'; simp only [List.cons_append, List.nil_append] at HK'; replace HK := HK'; clear HK') | (refine wpList_sl HK 0 rfl _ _ rfl rfl rfl rfl rfl rfl ?_; intro _ HK'; simp only [List.set] at HK'; replace HK := HK'; clear HK') | (refine wpList_sl HK 1 rfl _ _ rfl rfl rfl rfl rfl rfl ?_; intro _ HK'; simp only [List.set] at HK'; replace HK := HK'; clear HK'))
  have HK1 := Lib.hid ((((HK.out.nilR bLay).nilR sLay).nilR bLay).nilR sLay)
  simp only [List.cons_append, List.nil_append] at HK1
  clear HK HN1 HN2
  have HK := HK1
  clear HK1
  go_loopw [7] (fun vi wr => ∃ (i : Nat) (y : Ldd) (A1 : Option Addr) (n1 c1 : Nat) (A2 : Option Addr) (n2 c2 : Nat) (B1 : Option Addr) (m1 d1 : Nat) (B2 : Option Addr) (m2 d2 : Nat), i ≤ n ∧ vi = .int .i64 i ∧ Hid (PG y) ∧ Hid (Kn w.heap.size w wr [(g5, 35, ldC y.n y.t y.s (.slice A1 n1 c1) (.slice A2 n2 c2)), (g6, 35, ldC y.n y.t y.s (.slice B1 m1 d1) (.slice B2 m2 d2))] [row bLay (.slice A1 n1 c1) y.h, row sLay (.slice A2 n2 c2) y.d, row bLay (.slice B1 m1 d1) y.h, row sLay (.slice B2 m2 d2) y.d])) (fun vi _ => n - (intOf vi).toNat)
  case atStart => exact ⟨0, ⟨v, 0, 0, [], []⟩, none, 0, 0, none, 0, 0, none, 0, 0, none, 0, 0, Nat.zero_le _, rfl, Lib.hid ⟨by simp, by simp, fun x hx => by cases hx⟩, HK⟩
  case round =>
    clear HK
    obtain ⟨i, y, A1, n1, c1, A2, n2, c2, B1, m1, d1, B2, m2, d2, hi, rfl, HG, HK⟩ := hrel
    have hi0 : (0 : Int) ≤ (i : Int) := by omega
    by_cases hlt : i < n
    case neg =>
      have hlt2 : ¬ (i : Int) < (n : Int) := by omega
      go_wp2_with fail
      refine (HAw.out _).mono ?_; rintro e w1 ⟨rfl, b1⟩
      replace HK := Lib.hid (HK.out.call b1); clear b1
      go_wp2_with fail
      go_ret
      exact ⟨rfl, HK.out.b⟩
    have hlt2 : (i : Int) < (n : Int) := by omega
    by_cases h200 : i < 200
    case neg =>
      have h2 : ¬ (i : Int) < 200 := by omega
      go_wp2_with fail
      refine (HAw.out _).mono ?_; rintro e w1 ⟨rfl, b1⟩
      replace HK := Lib.hid (HK.out.call b1); clear b1
      go_wp2_with fail
      go_ret
      exact ⟨rfl, HK.out.b⟩
    have h2 : (i : Int) < 200 := by omega
    have hi3 : i < 9223372036854775807 := by omega
    obtain ⟨p, hx, hpF⟩ := HL.out.get hlt
    obtain ⟨b, o, rfl, hat⟩ := HL.out.at (Nat.lt_of_le_of_lt (Nat.zero_le _) hlt)
    have HX := Lib.hid (fun W hW => hat W hW i p hx)
    clear hat hx
    have hpd : p.d.size ≤ 140737488351232 := hpF
    have HT := Lib.hid (fun A n c A2 n2 c2 W h1 h2 => ltake_any y p A n c A2 n2 c2 W h1 h2 hpd)
    have HU : Hid (∀ (b0 : Nat) (w0 : World) (L : List (Nat × TypeId × Array Value)) (R : List RowE) A n c A2 n2 c2 W, Kn b0 w0 W L (R ++ [row bLay (.slice A n c) y.h, row sLay (.slice A2 n2 c2) y.d]) → Calls Try.prog 16 #[.agg #[.int .i64 y.n, .int .i64 y.t, .int .u32 (y.s : Int), .slice A n c, .slice A2 n2 c2], .agg #[.int .i64 p.n, .int .i64 p.a, .int .i64 p.t, .int .u32 (p.s : Int), .string p.d]] W fun e W' =>
        ∃ A' n' c' A2' n2' c2', e = .returned (.tuple #[.agg #[.int .i64 (Ldm.tk y p).n, .int .i64 (Ldm.tk y p).t, .int .u32 ((Ldm.tk y p).s : Int), .slice A' n' c', .slice A2' n2' c2'], .int .i64 (Ldm.tkE y p)]) ∧
          Kn b0 w0 W' L (R ++ [row bLay (.slice A' n' c') (Ldm.tk y p).h, row sLay (.slice A2' n2' c2') (Ldm.tk y p).d])) := Lib.hid (fun b0 w0 L R A n c A2 n2 c2 W k => lrtakeK hpd HG.out.fb HG.out.fs R k)
    have HGz : Hid (PG (Ldm.tk y p)) := Lib.hid HG.out.tk
    have HW := Lib.hid (fun A n c A2 n2 c2 W h1 h2 => lwhole_any (Ldm.tk y p) A n c A2 n2 c2 W h1 h2 HGz.out.cat)
    have HXw := Lib.hid (fun A n c A2 n2 c2 W h1 h2 => lrwhole_any (Ldm.tk y p) A n c A2 n2 c2 W h1 h2 HGz.out.cat)
    have HM := Lib.hid (fun A n c A2 n2 c2 W h1 h2 => lmiss_any (Ldm.tk y p) A n c A2 n2 c2 W h1 h2)
    have HMr := Lib.hid (fun A n c A2 n2 c2 W h1 h2 => lrmiss_any (Ldm.tk y p) A n c A2 n2 c2 W h1 h2)
    have HE := Lib.hid (fun A n c A2 n2 c2 B m d B2 m2 d2 W h1 h2 h3 h4 => lsame_any (Ldm.tk y p) A n c A2 n2 c2 B m d B2 m2 d2 W h1 h2 h3 h4)
    unfold IsLE at HT
    unfold IsB at HE
    unfold IsSE at HW HXw
    unfold IsI at HM HMr
    generalize Ldm.tkE y p = E at *
    generalize Ldm.wh (Ldm.tk y p) = ws at *
    generalize Ldm.whE (Ldm.tk y p) = we at *
    generalize Ldm.ms (Ldm.tk y p) = ms at *
    generalize Ldm.tk y p = z at *
    go_wp2_with fail
    have HK0 := Lib.hid HK.out.drew
    clear HK hpF hpd HL
    refine wp_region_held_drew (S := (fun W => Hid (Kn w.heap.size w W [(g5, 35, ldC y.n y.t y.s (.slice A1 n1 c1) (.slice A2 n2 c2)), (g6, 35, ldC y.n y.t y.s (.slice B1 m1 d1) (.slice B2 m2 d2))] []))) (by kernel_rfl) ?_ (fun hHeld => ?_)
    · (try dsimp only); exact Lib.hid (HK0.out.takeR 0)
    refine wpAnyH_take (i := 0) (oi := ⟨some 31, _, _, _, _, _⟩) (v := ?_) rfl (by kernel_rfl) (by kernel_rfl) (by kernel_rfl) (fun _ _ _ h => h) (Or.inl ⟨by rfl, ?_⟩) (by assumption) ?_
    rotate_left
    · (intro w hSw; refine Eq.trans (kl_l hSw 0 _ (by rfl) (by rfl) (by rfl)) ?_; with_reducible rfl)
    try simp only [Act.put, List.setIfInBounds_toArray, List.set_cons_zero, List.set_cons_succ]
    refine wpAnyH_take (i := 1) (oi := ⟨some 32, _, _, _, _, _⟩) (v := ?_) rfl (by kernel_rfl) (by kernel_rfl) (by kernel_rfl) (fun _ _ _ h => h) (Or.inl ⟨by rfl, ?_⟩) (by assumption) ?_
    rotate_left
    · (intro w hSw; (try dsimp only at hSw); go_simp; try with_reducible rfl)
    try simp only [Act.put, List.setIfInBounds_toArray, List.set_cons_zero, List.set_cons_succ]
    refine wpAnyH_take (i := 2) (oi := ⟨some 33, _, _, _, _, _⟩) (v := ?_) rfl (by kernel_rfl) (by kernel_rfl) (by kernel_rfl) (fun _ _ _ h => h) (Or.inl ⟨by rfl, ?_⟩) (by assumption) ?_
    rotate_left
    · (intro w hSw; (try dsimp only at hSw); go_simp; try with_reducible rfl)
    try simp only [Act.put, List.setIfInBounds_toArray, List.set_cons_zero, List.set_cons_succ]
    refine wpAnyH_take (i := 3) (oi := ⟨some 34, _, _, _, _, _⟩) (v := ?_) rfl (by kernel_rfl) (by kernel_rfl) (by kernel_rfl) (fun _ _ _ h => h) (Or.inl ⟨by rfl, ?_⟩) (by assumption) ?_
    rotate_left
    · (intro w hSw; refine Eq.trans (exec_slx pcLay (i := i) _ _ (by rfl) (by rfl) (by rfl) hlt) ?_; with_reducible rfl)
    try simp only [Act.put, List.setIfInBounds_toArray, List.set_cons_zero, List.set_cons_succ]
    refine wpAnyH_take (i := 4) (oi := ⟨some 35, _, _, _, _, _⟩) (v := ?_) rfl (by kernel_rfl) (by kernel_rfl) (by kernel_rfl) (fun _ _ _ h => h) (Or.inl ⟨by rfl, ?_⟩) (by assumption) ?_
    rotate_left
    · (intro w hSw; refine Eq.trans (exec_slv pcLay (x := p) (off := o + i * 5) _ (by rfl) (by rfl) Try.underlying24 (HX.out _ hSw.out.b)) ?_; with_reducible rfl)
    try simp only [Act.put, List.setIfInBounds_toArray, List.set_cons_zero, List.set_cons_succ]
    refine wpAnyH_ready (rs := [5, 9]) (by kernel_rfl) (by simp) ?_
    refine AllReadyH.cons (o := ⟨some 36, _, _, _, _, _⟩) rfl (fun K hK => ?_) (AllReadyH.cons (o := ⟨some 8, _, _, _, _, _⟩) rfl (fun K hK => ?_) AllReadyH.nil)
    go_simp
    go_at_call 15
    refine (HT.out _ _ _ _ _ _ _ (Sls.own (HK0.out.own 0 rfl) HG.out.fb) (Sls.own (HK0.out.own 1 rfl) HG.out.fs)).mono ?_; rintro e w5 ⟨A5, n5, c5, A6, n6, c6, rfl, k3⟩; replace HK0 := Lib.hid (HK0.out.join k3); simp only [List.cons_append, List.nil_append] at HK0; clear k3; have hs := Lib.hid ((HK0.out.takeL 2).takeR 0)
    refine hK.out _ _ hs (fun hHeld => ?_)
    clear hK K
    try simp only [ap1, ap2, ap3, ap4, ap5]
    refine wpAnyH_take (i := 6) (oi := ⟨some 30, _, _, _, _, _⟩) (v := ?_) rfl (by kernel_rfl) (by kernel_rfl) (by kernel_rfl) (fun _ _ _ h => h) (Or.inl ⟨by rfl, ?_⟩) (by assumption) ?_
    rotate_left
    · (intro w hSw; (try dsimp only at hSw); go_simp; try with_reducible rfl)
    try simp only [Act.put, List.setIfInBounds_toArray, List.set_cons_zero, List.set_cons_succ]
    refine wpAnyH_take (i := 7) (oi := ⟨some 37, _, _, _, _, _⟩) (v := ?_) rfl (by kernel_rfl) (by kernel_rfl) (by kernel_rfl) (fun _ _ _ h => h) (Or.inl ⟨by rfl, ?_⟩) (by assumption) ?_
    rotate_left
    · (intro w hSw; (try dsimp only at hSw); go_simp; try with_reducible rfl)
    try simp only [Act.put, List.setIfInBounds_toArray, List.set_cons_zero, List.set_cons_succ]
    refine wpAnyH_take (i := 8) (oi := ⟨some 38, _, _, _, _, _⟩) (v := ?_) rfl (by kernel_rfl) (by kernel_rfl) (by kernel_rfl) (fun _ _ _ h => h) (Or.inl ⟨by rfl, ?_⟩) (by assumption) ?_
    rotate_left
    · (intro w hSw; (try dsimp only at hSw); go_simp; try with_reducible rfl)
    try simp only [Act.put, List.setIfInBounds_toArray, List.set_cons_zero, List.set_cons_succ]
    refine wpAnyH_ready (rs := [9]) (by kernel_rfl) (by simp) ?_
    refine AllReadyH.cons (o := ⟨some 8, _, _, _, _, _⟩) rfl (fun K hK => ?_) AllReadyH.nil
    refine step_akl HK0 (by rfl) (by rfl) ?_; intro w2 g8 HK' _; simp only [List.cons_append, List.nil_append] at HK'; replace HK0 := HK'; clear HK'; have hs := Lib.hid ((HK0.out.takeL 2).takeR 0)
    refine hK.out _ _ hs (fun hHeld => ?_)
    clear hK K
    try simp only [ap1, ap2, ap3, ap4, ap5]
    refine wpAnyH_ready (rs := [10]) (by kernel_rfl) (by simp) ?_
    refine AllReadyH.cons (o := ⟨none, _, _, _, _, _⟩) rfl (fun K hK => ?_) AllReadyH.nil
    refine step_sl HK0 2 (by rfl) _ _ (by rfl) (by rfl) (by rfl) (by rfl) (by rfl) (by rfl) ?_; intro _ HK'; simp only [List.set] at HK'; replace HK0 := HK'; clear HK'; have hs := Lib.hid ((HK0.out.takeL 2).takeR 0)
    refine hK.out _ _ hs (fun hHeld => ?_)
    clear hK K
    try simp only [ap1, ap2, ap3, ap4, ap5]
    refine wpAnyH_take (i := 11) (oi := ⟨some 9, _, _, _, _, _⟩) (v := ?_) rfl (by kernel_rfl) (by kernel_rfl) (by kernel_rfl) (fun _ _ _ h => h) (Or.inl ⟨by rfl, ?_⟩) (by assumption) ?_
    rotate_left
    · (intro w hSw; (try dsimp only at hSw); go_simp; try with_reducible rfl)
    try simp only [Act.put, List.setIfInBounds_toArray, List.set_cons_zero, List.set_cons_succ]
    refine wpAnyH_done (by kernel_rfl) ?_ _
    rotate_left
    refine step_akl HK0 (by rfl) (by rfl) ?_; intro w2 g8 HK' _; simp only [List.cons_append, List.nil_append] at HK'; replace HK0 := HK'; clear HK'; have hs := Lib.hid ((HK0.out.takeL 2).takeR 0)
    refine hK.out _ _ hs (fun hHeld => ?_)
    clear hK K
    try simp only [ap1, ap2, ap3, ap4, ap5]
    refine wpAnyH_ready (rs := [5]) (by kernel_rfl) (by simp) ?_
    refine AllReadyH.cons (o := ⟨some 36, _, _, _, _, _⟩) rfl (fun K hK => ?_) AllReadyH.nil
    go_simp
    go_at_call 15
    refine (HT.out _ _ _ _ _ _ _ (Sls.own (HK0.out.own 0 rfl) HG.out.fb) (Sls.own (HK0.out.own 1 rfl) HG.out.fs)).mono ?_; rintro e w5 ⟨A5, n5, c5, A6, n6, c6, rfl, k3⟩; replace HK0 := Lib.hid (HK0.out.join k3); simp only [List.cons_append, List.nil_append] at HK0; clear k3; have hs := Lib.hid ((HK0.out.takeL 2).takeR 0)
    refine hK.out _ _ hs (fun hHeld => ?_)
    clear hK K
    try simp only [ap1, ap2, ap3, ap4, ap5]
    refine wpAnyH_take (i := 6) (oi := ⟨some 30, _, _, _, _, _⟩) (v := ?_) rfl (by kernel_rfl) (by kernel_rfl) (by kernel_rfl) (fun _ _ _ h => h) (Or.inl ⟨by rfl, ?_⟩) (by assumption) ?_
    rotate_left
    · (intro w hSw; (try dsimp only at hSw); go_simp; try with_reducible rfl)
    try simp only [Act.put, List.setIfInBounds_toArray, List.set_cons_zero, List.set_cons_succ]
    refine wpAnyH_take (i := 7) (oi := ⟨some 37, _, _, _, _, _⟩) (v := ?_) rfl (by kernel_rfl) (by kernel_rfl) (by kernel_rfl) (fun _ _ _ h => h) (Or.inl ⟨by rfl, ?_⟩) (by assumption) ?_
    rotate_left
    · (intro w hSw; (try dsimp only at hSw); go_simp; try with_reducible rfl)
    try simp only [Act.put, List.setIfInBounds_toArray, List.set_cons_zero, List.set_cons_succ]
    refine wpAnyH_take (i := 8) (oi := ⟨some 38, _, _, _, _, _⟩) (v := ?_) rfl (by kernel_rfl) (by kernel_rfl) (by kernel_rfl) (fun _ _ _ h => h) (Or.inl ⟨by rfl, ?_⟩) (by assumption) ?_
    rotate_left
    · (intro w hSw; (try dsimp only at hSw); go_simp; try with_reducible rfl)
    try simp only [Act.put, List.setIfInBounds_toArray, List.set_cons_zero, List.set_cons_succ]
    refine wpAnyH_ready (rs := [10]) (by kernel_rfl) (by simp) ?_
    refine AllReadyH.cons (o := ⟨none, _, _, _, _, _⟩) rfl (fun K hK => ?_) AllReadyH.nil
    refine step_sl HK0 2 (by rfl) _ _ (by rfl) (by rfl) (by rfl) (by rfl) (by rfl) (by rfl) ?_; intro _ HK'; simp only [List.set] at HK'; replace HK0 := HK'; clear HK'; have hs := Lib.hid ((HK0.out.takeL 2).takeR 0)
    refine hK.out _ _ hs (fun hHeld => ?_)
    clear hK K
    try simp only [ap1, ap2, ap3, ap4, ap5]
    refine wpAnyH_take (i := 11) (oi := ⟨some 9, _, _, _, _, _⟩) (v := ?_) rfl (by kernel_rfl) (by kernel_rfl) (by kernel_rfl) (fun _ _ _ h => h) (Or.inl ⟨by rfl, ?_⟩) (by assumption) ?_
    rotate_left
    · (intro w hSw; (try dsimp only at hSw); go_simp; try with_reducible rfl)
    try simp only [Act.put, List.setIfInBounds_toArray, List.set_cons_zero, List.set_cons_succ]
    refine wpAnyH_done (by kernel_rfl) ?_ _
    rotate_left
    all_goals
      have HK1 := Lib.hid HK0.out.rotA
      clear HK0 hHeld HT
      go_wp2_with fail
      have HK0 := Lib.hid HK1.out.drew
      clear HK1
      refine wp_region_held_drew (S := (fun W => Hid (Kn w.heap.size w W [(g5, 35, ldC y.n y.t y.s (.slice A1 n1 c1) (.slice A2 n2 c2)), (g6, 35, ldC y.n y.t y.s (.slice B1 m1 d1) (.slice B2 m2 d2))] []))) (by kernel_rfl) ?_ (fun hHeld => ?_)
      · (try dsimp only); exact Lib.hid ((HK0.out.takeR 0).takeL 2)
      refine wpAnyH_take (i := 0) (oi := ⟨some 40, _, _, _, _, _⟩) (v := ?_) rfl (by kernel_rfl) (by kernel_rfl) (by kernel_rfl) (fun _ _ _ h => h) (Or.inl ⟨by rfl, ?_⟩) (by assumption) ?_
      rotate_left
      · (intro w hSw; refine Eq.trans (kl_l hSw 1 _ (by rfl) (by rfl) (by rfl)) ?_; with_reducible rfl)
      try simp only [Act.put, List.setIfInBounds_toArray, List.set_cons_zero, List.set_cons_succ]
      refine wpAnyH_take (i := 1) (oi := ⟨some 41, _, _, _, _, _⟩) (v := ?_) rfl (by kernel_rfl) (by kernel_rfl) (by kernel_rfl) (fun _ _ _ h => h) (Or.inl ⟨by rfl, ?_⟩) (by assumption) ?_
      rotate_left
      · (intro w hSw; (try dsimp only at hSw); go_simp; try with_reducible rfl)
      try simp only [Act.put, List.setIfInBounds_toArray, List.set_cons_zero, List.set_cons_succ]
      refine wpAnyH_take (i := 2) (oi := ⟨some 42, _, _, _, _, _⟩) (v := ?_) rfl (by kernel_rfl) (by kernel_rfl) (by kernel_rfl) (fun _ _ _ h => h) (Or.inl ⟨by rfl, ?_⟩) (by assumption) ?_
      rotate_left
      · (intro w hSw; (try dsimp only at hSw); go_simp; try with_reducible rfl)
      try simp only [Act.put, List.setIfInBounds_toArray, List.set_cons_zero, List.set_cons_succ]
      refine wpAnyH_take (i := 3) (oi := ⟨some 43, _, _, _, _, _⟩) (v := ?_) rfl (by kernel_rfl) (by kernel_rfl) (by kernel_rfl) (fun _ _ _ h => h) (Or.inl ⟨by rfl, ?_⟩) (by assumption) ?_
      rotate_left
      · (intro w hSw; refine Eq.trans (exec_slx pcLay (i := i) _ _ (by rfl) (by rfl) (by rfl) hlt) ?_; with_reducible rfl)
      try simp only [Act.put, List.setIfInBounds_toArray, List.set_cons_zero, List.set_cons_succ]
      refine wpAnyH_take (i := 4) (oi := ⟨some 44, _, _, _, _, _⟩) (v := ?_) rfl (by kernel_rfl) (by kernel_rfl) (by kernel_rfl) (fun _ _ _ h => h) (Or.inl ⟨by rfl, ?_⟩) (by assumption) ?_
      rotate_left
      · (intro w hSw; refine Eq.trans (exec_slv pcLay (x := p) (off := o + i * 5) _ (by rfl) (by rfl) Try.underlying24 (HX.out _ hSw.out.b)) ?_; with_reducible rfl)
      try simp only [Act.put, List.setIfInBounds_toArray, List.set_cons_zero, List.set_cons_succ]
      refine wpAnyH_ready (rs := [5, 9]) (by kernel_rfl) (by simp) ?_
      refine AllReadyH.cons (o := ⟨some 45, _, _, _, _, _⟩) rfl (fun K hK => ?_) (AllReadyH.cons (o := ⟨some 10, _, _, _, _, _⟩) rfl (fun K hK => ?_) AllReadyH.nil)
      go_simp
      go_at_call 16
      refine (HU.out _ _ _ [_, _] _ _ _ _ _ _ _ HK0.out).mono ?_; rintro e w6 ⟨A7, n7, c7, A8, n8, c8, rfl, k3⟩; replace HK0 := Lib.hid k3; simp only [List.cons_append, List.nil_append] at HK0; clear k3; have hs := Lib.hid ((HK0.out.takeL 2).takeR 0)
      refine hK.out _ _ hs (fun hHeld => ?_)
      clear hK K
      try simp only [ap1, ap2, ap3, ap4, ap5]
      refine wpAnyH_take (i := 6) (oi := ⟨some 39, _, _, _, _, _⟩) (v := ?_) rfl (by kernel_rfl) (by kernel_rfl) (by kernel_rfl) (fun _ _ _ h => h) (Or.inl ⟨by rfl, ?_⟩) (by assumption) ?_
      rotate_left
      · (intro w hSw; (try dsimp only at hSw); go_simp; try with_reducible rfl)
      try simp only [Act.put, List.setIfInBounds_toArray, List.set_cons_zero, List.set_cons_succ]
      refine wpAnyH_take (i := 7) (oi := ⟨some 46, _, _, _, _, _⟩) (v := ?_) rfl (by kernel_rfl) (by kernel_rfl) (by kernel_rfl) (fun _ _ _ h => h) (Or.inl ⟨by rfl, ?_⟩) (by assumption) ?_
      rotate_left
      · (intro w hSw; (try dsimp only at hSw); go_simp; try with_reducible rfl)
      try simp only [Act.put, List.setIfInBounds_toArray, List.set_cons_zero, List.set_cons_succ]
      refine wpAnyH_take (i := 8) (oi := ⟨some 47, _, _, _, _, _⟩) (v := ?_) rfl (by kernel_rfl) (by kernel_rfl) (by kernel_rfl) (fun _ _ _ h => h) (Or.inl ⟨by rfl, ?_⟩) (by assumption) ?_
      rotate_left
      · (intro w hSw; (try dsimp only at hSw); go_simp; try with_reducible rfl)
      try simp only [Act.put, List.setIfInBounds_toArray, List.set_cons_zero, List.set_cons_succ]
      refine wpAnyH_ready (rs := [9]) (by kernel_rfl) (by simp) ?_
      refine AllReadyH.cons (o := ⟨some 10, _, _, _, _, _⟩) rfl (fun K hK => ?_) AllReadyH.nil
      refine step_akl HK0 (by rfl) (by rfl) ?_; intro w2 g9 HK' _; simp only [List.cons_append, List.nil_append] at HK'; replace HK0 := HK'; clear HK'; have hs := Lib.hid ((HK0.out.takeL 2).takeR 0)
      refine hK.out _ _ hs (fun hHeld => ?_)
      clear hK K
      try simp only [ap1, ap2, ap3, ap4, ap5]
      refine wpAnyH_ready (rs := [10]) (by kernel_rfl) (by simp) ?_
      refine AllReadyH.cons (o := ⟨none, _, _, _, _, _⟩) rfl (fun K hK => ?_) AllReadyH.nil
      refine step_sl HK0 3 (by rfl) _ _ (by rfl) (by rfl) (by rfl) (by rfl) (by rfl) (by rfl) ?_; intro _ HK'; simp only [List.set] at HK'; replace HK0 := HK'; clear HK'; have hs := Lib.hid ((HK0.out.takeL 2).takeR 0)
      refine hK.out _ _ hs (fun hHeld => ?_)
      clear hK K
      try simp only [ap1, ap2, ap3, ap4, ap5]
      refine wpAnyH_take (i := 11) (oi := ⟨some 11, _, _, _, _, _⟩) (v := ?_) rfl (by kernel_rfl) (by kernel_rfl) (by kernel_rfl) (fun _ _ _ h => h) (Or.inl ⟨by rfl, ?_⟩) (by assumption) ?_
      rotate_left
      · (intro w hSw; (try dsimp only at hSw); go_simp; try with_reducible rfl)
      try simp only [Act.put, List.setIfInBounds_toArray, List.set_cons_zero, List.set_cons_succ]
      refine wpAnyH_done (by kernel_rfl) ?_ _
      rotate_left
      refine step_akl HK0 (by rfl) (by rfl) ?_; intro w2 g9 HK' _; simp only [List.cons_append, List.nil_append] at HK'; replace HK0 := HK'; clear HK'; have hs := Lib.hid ((HK0.out.takeL 2).takeR 0)
      refine hK.out _ _ hs (fun hHeld => ?_)
      clear hK K
      try simp only [ap1, ap2, ap3, ap4, ap5]
      refine wpAnyH_ready (rs := [5]) (by kernel_rfl) (by simp) ?_
      refine AllReadyH.cons (o := ⟨some 45, _, _, _, _, _⟩) rfl (fun K hK => ?_) AllReadyH.nil
      go_simp
      go_at_call 16
      refine (HU.out _ _ _ [_, _] _ _ _ _ _ _ _ HK0.out).mono ?_; rintro e w6 ⟨A7, n7, c7, A8, n8, c8, rfl, k3⟩; replace HK0 := Lib.hid k3; simp only [List.cons_append, List.nil_append] at HK0; clear k3; have hs := Lib.hid ((HK0.out.takeL 2).takeR 0)
      refine hK.out _ _ hs (fun hHeld => ?_)
      clear hK K
      try simp only [ap1, ap2, ap3, ap4, ap5]
      refine wpAnyH_take (i := 6) (oi := ⟨some 39, _, _, _, _, _⟩) (v := ?_) rfl (by kernel_rfl) (by kernel_rfl) (by kernel_rfl) (fun _ _ _ h => h) (Or.inl ⟨by rfl, ?_⟩) (by assumption) ?_
      rotate_left
      · (intro w hSw; (try dsimp only at hSw); go_simp; try with_reducible rfl)
      try simp only [Act.put, List.setIfInBounds_toArray, List.set_cons_zero, List.set_cons_succ]
      refine wpAnyH_take (i := 7) (oi := ⟨some 46, _, _, _, _, _⟩) (v := ?_) rfl (by kernel_rfl) (by kernel_rfl) (by kernel_rfl) (fun _ _ _ h => h) (Or.inl ⟨by rfl, ?_⟩) (by assumption) ?_
      rotate_left
      · (intro w hSw; (try dsimp only at hSw); go_simp; try with_reducible rfl)
      try simp only [Act.put, List.setIfInBounds_toArray, List.set_cons_zero, List.set_cons_succ]
      refine wpAnyH_take (i := 8) (oi := ⟨some 47, _, _, _, _, _⟩) (v := ?_) rfl (by kernel_rfl) (by kernel_rfl) (by kernel_rfl) (fun _ _ _ h => h) (Or.inl ⟨by rfl, ?_⟩) (by assumption) ?_
      rotate_left
      · (intro w hSw; (try dsimp only at hSw); go_simp; try with_reducible rfl)
      try simp only [Act.put, List.setIfInBounds_toArray, List.set_cons_zero, List.set_cons_succ]
      refine wpAnyH_ready (rs := [10]) (by kernel_rfl) (by simp) ?_
      refine AllReadyH.cons (o := ⟨none, _, _, _, _, _⟩) rfl (fun K hK => ?_) AllReadyH.nil
      refine step_sl HK0 3 (by rfl) _ _ (by rfl) (by rfl) (by rfl) (by rfl) (by rfl) (by rfl) ?_; intro _ HK'; simp only [List.set] at HK'; replace HK0 := HK'; clear HK'; have hs := Lib.hid ((HK0.out.takeL 2).takeR 0)
      refine hK.out _ _ hs (fun hHeld => ?_)
      clear hK K
      try simp only [ap1, ap2, ap3, ap4, ap5]
      refine wpAnyH_take (i := 11) (oi := ⟨some 11, _, _, _, _, _⟩) (v := ?_) rfl (by kernel_rfl) (by kernel_rfl) (by kernel_rfl) (fun _ _ _ h => h) (Or.inl ⟨by rfl, ?_⟩) (by assumption) ?_
      rotate_left
      · (intro w hSw; (try dsimp only at hSw); go_simp; try with_reducible rfl)
      try simp only [Act.put, List.setIfInBounds_toArray, List.set_cons_zero, List.set_cons_succ]
      refine wpAnyH_done (by kernel_rfl) ?_ _
      rotate_left
      all_goals
        have HK := HK0
        clear HK0 hHeld HU
        go_wp2_with (first | refine wpList_exe (kl_l HK 2 _ (by rfl) (by rfl) (by rfl)) (by rfl) ?_)
        refine (HW.out _ _ _ _ _ _ _ (Sls.own (HK.out.own 0 rfl) HGz.out.fb) (Sls.own (HK.out.own 1 rfl) HGz.out.fs)).mono ?_; rintro e w7 ⟨rfl, b1⟩
        replace HK := Lib.hid (HK.out.call b1); clear b1
        go_wp2_with (first | refine wpList_exe (kl_l HK 3 _ (by rfl) (by rfl) (by rfl)) (by rfl) ?_)
        refine (HXw.out _ _ _ _ _ _ _ (Sls.own (HK.out.own 2 rfl) HGz.out.fb) (Sls.own (HK.out.own 3 rfl) HGz.out.fs)).mono ?_; rintro e w8 ⟨rfl, b1⟩
        replace HK := Lib.hid (HK.out.call b1); clear b1
        clear HW HXw
        go_wp2_with fail
        replace HK := Lib.hid HK.out.drew
        refine wp_region_held_drew (S := (fun W => Hid (Kn w.heap.size w W [(g5, 35, ldC y.n y.t y.s (.slice A1 n1 c1) (.slice A2 n2 c2)), (g6, 35, ldC y.n y.t y.s (.slice B1 m1 d1) (.slice B2 m2 d2)), (g8, 35, ldC z.n z.t z.s (.slice A5 n5 c5) (.slice A6 n6 c6)), (g9, 35, ldC z.n z.t z.s (.slice A7 n7 c7) (.slice A8 n8 c8))] [row bLay (.slice A5 n5 c5) z.h, row sLay (.slice A6 n6 c6) z.d, row bLay (.slice A7 n7 c7) z.h, row sLay (.slice A8 n8 c8) z.d]))) (by kernel_rfl) ?_ (fun hHeld => ?_)
        · (try dsimp only); exact HK
        refine wpAnyH_take (i := 0) (oi := ⟨some 58, _, _, _, _, _⟩) (v := ?_) rfl (by kernel_rfl) (by kernel_rfl) (by kernel_rfl) (fun _ _ _ h => h) (Or.inl ⟨by rfl, ?_⟩) (by assumption) ?_
        rotate_left
        · (intro w hSw; (try dsimp only at hSw); go_simp; try with_reducible rfl)
        try simp only [Act.put, List.setIfInBounds_toArray, List.set_cons_zero, List.set_cons_succ]
        refine wpAnyH_take (i := 1) (oi := ⟨some 59, _, _, _, _, _⟩) (v := ?_) rfl (by kernel_rfl) (by kernel_rfl) (by kernel_rfl) (fun _ _ _ h => h) (Or.inl ⟨by rfl, ?_⟩) (by assumption) ?_
        rotate_left
        · (intro w hSw; (try dsimp only at hSw); go_simp; try with_reducible rfl)
        try simp only [Act.put, List.setIfInBounds_toArray, List.set_cons_zero, List.set_cons_succ]
        refine wpAnyH_take (i := 2) (oi := ⟨some 60, _, _, _, _, _⟩) (v := ?_) rfl (by kernel_rfl) (by kernel_rfl) (by kernel_rfl) (fun _ _ _ h => h) (Or.inl ⟨by rfl, ?_⟩) (by assumption) ?_
        rotate_left
        · (intro w hSw; (try dsimp only at hSw); go_simp; try with_reducible rfl)
        try simp only [Act.put, List.setIfInBounds_toArray, List.set_cons_zero, List.set_cons_succ]
        refine wpAnyH_take (i := 3) (oi := ⟨some 61, _, _, _, _, _⟩) (v := ?_) rfl (by kernel_rfl) (by kernel_rfl) (by kernel_rfl) (fun _ _ _ h => h) (Or.inl ⟨by rfl, ?_⟩) (by assumption) ?_
        rotate_left
        · (intro w hSw; (try dsimp only at hSw); go_simp; try with_reducible rfl)
        try simp only [Act.put, List.setIfInBounds_toArray, List.set_cons_zero, List.set_cons_succ]
        refine wpAnyH_take (i := 4) (oi := ⟨some 62, _, _, _, _, _⟩) (v := ?_) rfl (by kernel_rfl) (by kernel_rfl) (by kernel_rfl) (fun _ _ _ h => h) (Or.inl ⟨by rfl, ?_⟩) (by assumption) ?_
        rotate_left
        · (intro w hSw; refine Eq.trans (kl_l hSw 2 _ (by rfl) (by rfl) (by rfl)) ?_; with_reducible rfl)
        try simp only [Act.put, List.setIfInBounds_toArray, List.set_cons_zero, List.set_cons_succ]
        refine wpAnyH_take (i := 5) (oi := ⟨some 63, _, _, _, _, _⟩) (v := ?_) rfl (by kernel_rfl) (by kernel_rfl) (by kernel_rfl) (fun _ _ _ h => h) (Or.inl ⟨by rfl, ?_⟩) (by assumption) ?_
        rotate_left
        · (intro w hSw; refine Eq.trans (kl_l hSw 3 _ (by rfl) (by rfl) (by rfl)) ?_; with_reducible rfl)
        try simp only [Act.put, List.setIfInBounds_toArray, List.set_cons_zero, List.set_cons_succ]
        refine wpAnyH_ready (rs := [6]) (by kernel_rfl) (by simp) ?_
        refine AllReadyH.cons (o := ⟨some 64, _, _, _, _, _⟩) rfl (fun K hK => ?_) AllReadyH.nil
        go_simp
        go_at_call 20
        refine (HE.out _ _ _ _ _ _ _ _ _ _ _ _ _ (Sls.own (hHeld.out.own 0 rfl) HGz.out.fb) (Sls.own (hHeld.out.own 1 rfl) HGz.out.fs) (Sls.own (hHeld.out.own 2 rfl) HGz.out.fb) (Sls.own (hHeld.out.own 3 rfl) HGz.out.fs)).mono ?_; rintro e w9 ⟨rfl, b1⟩; have hs := Lib.hid (hHeld.out.call b1); clear b1
        refine hK.out _ _ hs (fun hHeld => ?_)
        clear hK K
        try simp only [ap1, ap2, ap3, ap4, ap5]
        refine wpAnyH_take (i := 7) (oi := ⟨some 65, _, _, _, _, _⟩) (v := ?_) rfl (by kernel_rfl) (by kernel_rfl) (by kernel_rfl) (fun _ _ _ h => h) (Or.inl ⟨by rfl, ?_⟩) (by assumption) ?_
        rotate_left
        · (intro w hSw; (try dsimp only at hSw); go_simp; try with_reducible rfl)
        try simp only [Act.put, List.setIfInBounds_toArray, List.set_cons_zero, List.set_cons_succ]
        refine wpAnyH_take (i := 8) (oi := ⟨some 66, _, _, _, _, _⟩) (v := ?_) rfl (by kernel_rfl) (by kernel_rfl) (by kernel_rfl) (fun _ _ _ h => h) (Or.inl ⟨by rfl, ?_⟩) (by assumption) ?_
        rotate_left
        · (intro w hSw; (try dsimp only at hSw); go_simp; try with_reducible rfl)
        try simp only [Act.put, List.setIfInBounds_toArray, List.set_cons_zero, List.set_cons_succ]
        refine wpAnyH_take (i := 9) (oi := ⟨some 67, _, _, _, _, _⟩) (v := ?_) rfl (by kernel_rfl) (by kernel_rfl) (by kernel_rfl) (fun _ _ _ h => h) (Or.inl ⟨by rfl, ?_⟩) (by assumption) ?_
        rotate_left
        · (intro w hSw; (try dsimp only at hSw); go_simp; try with_reducible rfl)
        try simp only [Act.put, List.setIfInBounds_toArray, List.set_cons_zero, List.set_cons_succ]
        refine wpAnyH_take (i := 10) (oi := ⟨some 68, _, _, _, _, _⟩) (v := ?_) rfl (by kernel_rfl) (by kernel_rfl) (by kernel_rfl) (fun _ _ _ h => h) (Or.inl ⟨by rfl, ?_⟩) (by assumption) ?_
        rotate_left
        · (intro w hSw; refine Eq.trans (kl_l hSw 2 _ (by rfl) (by rfl) (by rfl)) ?_; with_reducible rfl)
        try simp only [Act.put, List.setIfInBounds_toArray, List.set_cons_zero, List.set_cons_succ]
        refine wpAnyH_take (i := 12) (oi := ⟨some 70, _, _, _, _, _⟩) (v := ?_) rfl (by kernel_rfl) (by kernel_rfl) (by kernel_rfl) (fun _ _ _ h => h) (Or.inl ⟨by rfl, ?_⟩) (by assumption) ?_
        rotate_left
        · (intro w hSw; refine Eq.trans (kl_l hSw 3 _ (by rfl) (by rfl) (by rfl)) ?_; with_reducible rfl)
        try simp only [Act.put, List.setIfInBounds_toArray, List.set_cons_zero, List.set_cons_succ]
        refine wpAnyH_ready (rs := [11]) (by kernel_rfl) (by simp) ?_
        refine AllReadyH.cons (o := ⟨some 69, _, _, _, _, _⟩) rfl (fun K hK => ?_) AllReadyH.nil
        go_simp
        go_at_call 21
        refine (HM.out _ _ _ _ _ _ _ (Sls.own (hHeld.out.own 0 rfl) HGz.out.fb) (hHeld.out.own (La := sLay) 1 rfl).reads.1.symm).mono ?_; rintro e w9 ⟨rfl, b1⟩; have hs := Lib.hid (hHeld.out.call b1); clear b1
        refine hK.out _ _ hs (fun hHeld => ?_)
        clear hK K
        try simp only [ap1, ap2, ap3, ap4, ap5]
        refine wpAnyH_ready (rs := [13]) (by kernel_rfl) (by simp) ?_
        refine AllReadyH.cons (o := ⟨some 71, _, _, _, _, _⟩) rfl (fun K hK => ?_) AllReadyH.nil
        go_simp
        go_at_call 22
        refine (HMr.out _ _ _ _ _ _ _ (Sls.own (hHeld.out.own 2 rfl) HGz.out.fb) (hHeld.out.own (La := sLay) 3 rfl).reads.1.symm).mono ?_; rintro e w9 ⟨rfl, b1⟩; have hs := Lib.hid (hHeld.out.call b1); clear b1
        refine hK.out _ _ hs (fun hHeld => ?_)
        clear hK K
        try simp only [ap1, ap2, ap3, ap4, ap5]
        refine wpAnyH_take (i := 14) (oi := ⟨some 72, _, _, _, _, _⟩) (v := ?_) rfl (by kernel_rfl) (by kernel_rfl) (by kernel_rfl) (fun _ _ _ h => h) (Or.inl ⟨by rfl, ?_⟩) (by assumption) ?_
        rotate_left
        · (intro w hSw; (try dsimp only at hSw); go_simp; try with_reducible rfl)
        try simp only [Act.put, List.setIfInBounds_toArray, List.set_cons_zero, List.set_cons_succ]
        refine wpAnyH_take (i := 15) (oi := ⟨some 73, _, _, _, _, _⟩) (v := ?_) rfl (by kernel_rfl) (by kernel_rfl) (by kernel_rfl) (fun _ _ _ h => h) (Or.inl ⟨by rfl, ?_⟩) (by assumption) ?_
        rotate_left
        · (intro w hSw; (try dsimp only at hSw); go_simp; try with_reducible rfl)
        try simp only [Act.put, List.setIfInBounds_toArray, List.set_cons_zero, List.set_cons_succ]
        refine wpAnyH_take (i := 16) (oi := ⟨some 74, _, _, _, _, _⟩) (v := ?_) rfl (by kernel_rfl) (by kernel_rfl) (by kernel_rfl) (fun _ _ _ h => h) (Or.inl ⟨by rfl, ?_⟩) (by assumption) ?_
        rotate_left
        · (intro w hSw; (try dsimp only at hSw); go_simp; try with_reducible rfl)
        try simp only [Act.put, List.setIfInBounds_toArray, List.set_cons_zero, List.set_cons_succ]
        refine wpAnyH_take (i := 17) (oi := ⟨some 75, _, _, _, _, _⟩) (v := ?_) rfl (by kernel_rfl) (by kernel_rfl) (by kernel_rfl) (fun _ _ _ h => h) (Or.inl ⟨by rfl, ?_⟩) (by assumption) ?_
        rotate_left
        · (intro w hSw; (try dsimp only at hSw); go_simp; try with_reducible rfl)
        try simp only [Act.put, List.setIfInBounds_toArray, List.set_cons_zero, List.set_cons_succ]
        refine wpAnyH_take (i := 18) (oi := ⟨some 76, _, _, _, _, _⟩) (v := ?_) rfl (by kernel_rfl) (by kernel_rfl) (by kernel_rfl) (fun _ _ _ h => h) (Or.inl ⟨by rfl, ?_⟩) (by assumption) ?_
        rotate_left
        · (intro w hSw; (try dsimp only at hSw); go_simp; try with_reducible rfl)
        try simp only [Act.put, List.setIfInBounds_toArray, List.set_cons_zero, List.set_cons_succ]
        refine wpAnyH_take (i := 19) (oi := ⟨some 77, _, _, _, _, _⟩) (v := ?_) rfl (by kernel_rfl) (by kernel_rfl) (by kernel_rfl) (fun _ _ _ h => h) (Or.inl ⟨by rfl, ?_⟩) (by assumption) ?_
        rotate_left
        · (intro w hSw; (try dsimp only at hSw); go_simp; try with_reducible rfl)
        try simp only [Act.put, List.setIfInBounds_toArray, List.set_cons_zero, List.set_cons_succ]
        refine wpAnyH_take (i := 20) (oi := ⟨some 78, _, _, _, _, _⟩) (v := ?_) rfl (by kernel_rfl) (by kernel_rfl) (by kernel_rfl) (fun _ _ _ h => h) (Or.inl ⟨by rfl, ?_⟩) (by assumption) ?_
        rotate_left
        · (intro w hSw; (try dsimp only at hSw); go_simp; try with_reducible rfl)
        try simp only [Act.put, List.setIfInBounds_toArray, List.set_cons_zero, List.set_cons_succ]
        refine wpAnyH_take (i := 21) (oi := ⟨some 79, _, _, _, _, _⟩) (v := ?_) rfl (by kernel_rfl) (by kernel_rfl) (by kernel_rfl) (fun _ _ _ h => h) (Or.inl ⟨by rfl, ?_⟩) (by assumption) ?_
        rotate_left
        · (intro w hSw; (try dsimp only at hSw); go_simp; try with_reducible rfl)
        try simp only [Act.put, List.setIfInBounds_toArray, List.set_cons_zero, List.set_cons_succ]
        refine wpAnyH_take (i := 22) (oi := ⟨some 80, _, _, _, _, _⟩) (v := ?_) rfl (by kernel_rfl) (by kernel_rfl) (by kernel_rfl) (fun _ _ _ h => h) (Or.inl ⟨by rfl, ?_⟩) (by assumption) ?_
        rotate_left
        · (intro w hSw; (try dsimp only at hSw); go_simp; try with_reducible rfl)
        try simp only [Act.put, List.setIfInBounds_toArray, List.set_cons_zero, List.set_cons_succ]
        refine wpAnyH_take (i := 23) (oi := ⟨some 81, _, _, _, _, _⟩) (v := ?_) rfl (by kernel_rfl) (by kernel_rfl) (by kernel_rfl) (fun _ _ _ h => h) (Or.inl ⟨by rfl, ?_⟩) (by assumption) ?_
        rotate_left
        · (intro w hSw; (try dsimp only at hSw); go_simp; try with_reducible rfl)
        try simp only [Act.put, List.setIfInBounds_toArray, List.set_cons_zero, List.set_cons_succ]
        refine wpAnyH_take (i := 24) (oi := ⟨some 82, _, _, _, _, _⟩) (v := ?_) rfl (by kernel_rfl) (by kernel_rfl) (by kernel_rfl) (fun _ _ _ h => h) (Or.inl ⟨by rfl, ?_⟩) (by assumption) ?_
        rotate_left
        · (intro w hSw; (try dsimp only at hSw); go_simp; try with_reducible rfl)
        try simp only [Act.put, List.setIfInBounds_toArray, List.set_cons_zero, List.set_cons_succ]
        refine wpAnyH_take (i := 25) (oi := ⟨some 83, _, _, _, _, _⟩) (v := ?_) rfl (by kernel_rfl) (by kernel_rfl) (by kernel_rfl) (fun _ _ _ h => h) (Or.inl ⟨by rfl, ?_⟩) (by assumption) ?_
        rotate_left
        · (intro w hSw; (try dsimp only at hSw); go_simp; try with_reducible rfl)
        try simp only [Act.put, List.setIfInBounds_toArray, List.set_cons_zero, List.set_cons_succ]
        refine wpAnyH_done (by kernel_rfl) ?_ _
        have HK1 := hHeld
        clear HK hHeld HM HMr HE
        go_wp2_with fail
        have HK0 := Lib.hid HK1.out.drew
        clear HK1
        refine wp_region_held_drew (S := (fun W => Hid (Kn w.heap.size w W [(g8, 35, ldC z.n z.t z.s (.slice A5 n5 c5) (.slice A6 n6 c6)), (g9, 35, ldC z.n z.t z.s (.slice A7 n7 c7) (.slice A8 n8 c8))] []))) (by kernel_rfl) ?_ (fun hHeld => ?_)
        · (try dsimp only); exact Lib.hid ((HK0.out.dropL 2).takeR 0)
        refine wpAnyH_take (i := 0) (oi := ⟨some 84, _, _, _, _, _⟩) (v := ?_) rfl (by kernel_rfl) (by kernel_rfl) (by kernel_rfl) (fun _ _ _ h => h) (Or.inl ⟨by rfl, ?_⟩) (by assumption) ?_
        rotate_left
        · (intro w hSw; refine Eq.trans (kl_l hSw 0 _ (by rfl) (by rfl) (by rfl)) ?_; with_reducible rfl)
        try simp only [Act.put, List.setIfInBounds_toArray, List.set_cons_zero, List.set_cons_succ]
        refine wpAnyH_take (i := 1) (oi := ⟨some 85, _, _, _, _, _⟩) (v := ?_) rfl (by kernel_rfl) (by kernel_rfl) (by kernel_rfl) (fun _ _ _ h => h) (Or.inl ⟨by rfl, ?_⟩) (by assumption) ?_
        rotate_left
        · (intro w hSw; refine Eq.trans (kl_l hSw 1 _ (by rfl) (by rfl) (by rfl)) ?_; with_reducible rfl)
        try simp only [Act.put, List.setIfInBounds_toArray, List.set_cons_zero, List.set_cons_succ]
        refine wpAnyH_ready (rs := [2]) (by kernel_rfl) (by simp) ?_
        refine AllReadyH.cons (o := ⟨none, _, _, _, _, _⟩) rfl (fun K hK => ?_) AllReadyH.nil
        refine step_sl HK0 0 (by rfl) _ _ (by rfl) (by rfl) (by rfl) (by rfl) (by rfl) (by rfl) ?_; intro _ HK'; simp only [List.set] at HK'; replace HK0 := HK'; clear HK'; have hs := Lib.hid ((HK0.out.dropL 2).takeR 0)
        refine hK.out _ _ hs (fun hHeld => ?_)
        clear hK K
        try simp only [ap1, ap2, ap3, ap4, ap5]
        refine wpAnyH_ready (rs := [3]) (by kernel_rfl) (by simp) ?_
        refine AllReadyH.cons (o := ⟨none, _, _, _, _, _⟩) rfl (fun K hK => ?_) AllReadyH.nil
        refine step_sl HK0 1 (by rfl) _ _ (by rfl) (by rfl) (by rfl) (by rfl) (by rfl) (by rfl) ?_; intro _ HK'; simp only [List.set] at HK'; replace HK0 := HK'; clear HK'; have hs := Lib.hid ((HK0.out.dropL 2).takeR 0)
        refine hK.out _ _ hs (fun hHeld => ?_)
        clear hK K
        try simp only [ap1, ap2, ap3, ap4, ap5]
        refine wpAnyH_done (by kernel_rfl) ?_ _
        all_goals
          go_wp2_with (first | refine wpList_exe (exec_add1 (j := i) _ (by rfl) (by rfl) hi3) (by rfl) ?_)
          exact ⟨⟨i + 1, z, A5, n5, c5, A6, n6, c6, A7, n7, c7, A8, n8, c8, hlt, rfl, HGz, Lib.hid (HK0.out.takeL 2)⟩, by simp [intOf]; omega⟩
end Go.Proofs.Ytfboneehnmbklaa
