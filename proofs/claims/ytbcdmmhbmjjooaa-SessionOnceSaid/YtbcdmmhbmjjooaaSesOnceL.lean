/-
  The law over rows of calls: each request is fresh once at most.
  No condition but the form's own.
-/
import Derived.Test.YtbcdmmhbmjjooaaSesAwake
import Derived.Test.YtbcdmmhbmjjooaaSesEnd
import Derived.Test.YtbcdmmhbmjjooaaSesClose
import Derived.Test.YtbcdmmhbmjjooaaSesOps
set_option linter.unusedSimpArgs false
set_option linter.unusedVariables false
set_option maxRecDepth 100000
namespace Go.Proofs.Ytbcdmmhbmjjooaa
open Go.RowKit

theorem fits_few {l : List Rf} (h : l.length ≤ 1000) : Fits rfLay rF l := ⟨fun x hx => trivial, by show l.length * 24 ≤ _; omega⟩
set_option maxHeartbeats 25600000 in
theorem once_any (A : Option Addr) (c n : Nat) (ops : List SOp) (w : World) (hs : Sls sopLay sF w A n c ops) :
    Calls Try.prog 6 #[.slice A n c] w (IsB true w) := by
  have HA := Lib.hid (fun W => sawake_any W)
  have HS := Lib.hid hs
  have HK := Lib.hid (Kn.start w)
  have hn63 : n < 9223372036854775807 := by
    have h : n * 80 ≤ 140737488355328 := hs.big
    omega
  unfold IsB at *
  clear hs
  go_enter Try.func6, Try.ntmps6
  go_wp2_with (first | (refine wpList_atb HK rfl rfl ?_; intro _ g0 HK'; simp only [List.cons_append, List.nil_append] at HK'; replace HK := HK'; clear HK'))
  replace HK := Lib.hid (HK.out.nilR rfLay)
  simp only [List.nil_append] at HK
  rw [show tz = Ses.t0 from rfl] at HK
  go_loopw [4, 5] (fun v4 v5 wr => ∃ (k M : Nat) (t : Ses.T) (m : List Rf) (A1 : Option Addr) (c1 : Nat), k ≤ n ∧ k ≤ 120 ∧ M ≤ k ∧ v4 = .slice A1 M c1 ∧ v5 = .int .i64 k ∧ Hid (m.length = M) ∧ Hid (Ses.Fit t) ∧ Hid (Ses.Had t m) ∧ Hid (Kn w.heap.size w wr [(g0, 30, tbA t)] [row rfLay (.slice A1 M c1) m])) (fun _ v5 _ => n - (intOf v5).toNat)
  case atStart => exact ⟨0, 0, Ses.t0, [], none, 0, Nat.zero_le _, Nat.zero_le _, Nat.le_refl _, rfl, rfl, Lib.hid rfl, Lib.hid Ses.fit_0, Lib.hid (Ses.had_nil _), HK⟩
  case round =>
    clear HK
    obtain ⟨k, M, t, m, A1, c1, hk, hk120, hM, rfl, rfl, HLen, HFit, HHad, HK⟩ := hrel
    have hk1 : (0 : Int) ≤ (k : Int) := by omega
    by_cases hlt : k < n
    case neg =>
      obtain rfl : k = n := by omega
      have hk2 : ¬ (k : Int) < (k : Int) := by omega
      go_wp2_with fail
      refine (HA.out _).mono ?_; rintro e w1 ⟨rfl, b1⟩
      replace HK := Lib.hid (HK.out.call b1); clear b1
      go_wp2_with fail
      go_ret
      exact ⟨rfl, HK.out.b⟩
    case pos =>
    have hk2 : (k : Int) < (n : Int) := by omega
    have hk3 : k < 9223372036854775807 := by omega
    by_cases hl120 : k < 120
    case neg =>
      have hk4 : ¬ (k : Int) < (120 : Int) := by omega
      go_wp2_with fail
      refine (HA.out _).mono ?_; rintro e w1 ⟨rfl, b1⟩
      replace HK := Lib.hid (HK.out.call b1); clear b1
      go_wp2_with fail
      go_ret
      exact ⟨rfl, HK.out.b⟩
    case pos =>
    have hk4 : (k : Int) < (120 : Int) := by omega
    obtain ⟨x, hx, hfx⟩ := HS.out.get hlt
    obtain ⟨b, o, rfl, hat⟩ := HS.out.at (Nat.lt_of_le_of_lt (Nat.zero_le _) hlt)
    have HX := Lib.hid (fun W hW => hat W hW k x hx)
    have HLk := Lib.hid (fun W => slook_any t x.r W HFit.out hfx.1)
    have HOp := Lib.hid (fun W => sopen_any t x.r W HFit.out hfx.1)
    have HBe := Lib.hid (fun W => sbeg_any t x.r W HFit.out hfx.1)
    have HEn := Lib.hid (fun W => send_any t x.r x.p W HFit.out hfx.2 hfx.1)
    have HCl := Lib.hid (fun W => sclose_any t x.r.c W HFit.out)
    have HLo := Lib.hid (fun W => slook_any (Ses.openT t x.r) x.r W (Ses.fit_open HFit.out x.r) hfx.1)
    have HLb := Lib.hid (fun W => slook_any (Ses.begT t x.r) x.r W (Ses.fit_beg HFit.out x.r) hfx.1)
    have HFo := Lib.hid (Ses.fit_open HFit.out x.r)
    have HFb := Lib.hid (Ses.fit_beg HFit.out x.r)
    have HFe := Lib.hid (Ses.fit_end HFit.out x.r hfx.2)
    have HFc := Lib.hid (Ses.fit_close HFit.out x.r.c)
    unfold IsN at HLk HLo HLb
    unfold IsTP at HOp
    unfold IsT at HBe HEn HCl
    clear hat hx hfx
    cases hcl : x.c
    case true =>
      have HC := Lib.hid hcl
      clear hcl HLk HOp HBe HEn HLo HLb HFo HFb HFe
      have HHc := Lib.hid (Ses.had_close HHad.out x.r.c)
      generalize Ses.closeT t x.r.c = t2 at *
      go_wp2_with (first | refine wpList_exe (exec_ixp (i := k) _ _ (by rfl) (by rfl) (by rfl) hlt) (by rfl) ?_ | refine wpList_exe (exec_opr (x := x) (off := o + k * 10) _ (by rfl) (by rfl) (HX.out _ HK.out.b)) (by rfl) ?_ | (refine wpList_exe ((exec_opc (x := x) (off := o + k * 10) _ (by rfl) (by rfl) (HX.out _ HK.out.b)).trans (by rw [HC.out])) (by rfl) ?_) | (refine wpList_akr HK rfl rfl ?_; intro _ g1 HK'; simp only [List.cons_append, List.nil_append] at HK'; replace HK := HK'; clear HK') | (refine wpList_sr HK 1 rfl _ _ rfl rfl rfl rfl ?_; intro _ HK'; simp only [List.set] at HK'; replace HK := HK'; clear HK') | refine wpList_exe (ktb HK 0 _ (by rfl) (by rfl) (by rfl)) (by rfl) ?_ | refine wpList_exe (krf_c (x := x.r) HK 1 _ (by rfl) (by rfl) (by rfl)) (by rfl) ?_)
      refine (HCl.out _).mono ?_; rintro e w1 ⟨rfl, b1⟩
      replace HK := Lib.hid (HK.out.call b1); clear b1
      go_wp2_with (first | (refine wpList_stb (t2 := t2) HK 0 rfl _ _ rfl rfl rfl rfl ?_; intro _ HK'; simp only [List.set] at HK'; replace HK := HK'; clear HK') | refine wpList_exe (exec_add1 (j := k) _ (by rfl) (by rfl) hk3) (by rfl) ?_)
      exact ⟨⟨k + 1, M, t2, m, A1, c1, hlt, hl120, by omega, rfl, rfl, HLen, HFc, HHc, Lib.hid (HK.out.takeL 1)⟩, by simp [intOf]; omega⟩
    case false =>
    have HC := Lib.hid hcl
    clear hcl
    cases hen : x.e
    case true =>
      have HE := Lib.hid hen
      clear hen HLk HOp HBe HCl HLo HLb HFo HFb HFc
      have HHe := Lib.hid (Ses.had_end HHad.out x.r x.p)
      generalize Ses.endT t x.r x.p = t2 at *
      go_upto_region 10 with (first | refine wpList_exe (exec_ixp (i := k) _ _ (by rfl) (by rfl) (by rfl) hlt) (by rfl) ?_ | refine wpList_exe (exec_opr (x := x) (off := o + k * 10) _ (by rfl) (by rfl) (HX.out _ HK.out.b)) (by rfl) ?_ | (refine wpList_exe ((exec_opc (x := x) (off := o + k * 10) _ (by rfl) (by rfl) (HX.out _ HK.out.b)).trans (by rw [HC.out])) (by rfl) ?_) | (refine wpList_exe ((exec_ope (x := x) (off := o + k * 10) _ (by rfl) (by rfl) (HX.out _ HK.out.b)).trans (by rw [HE.out])) (by rfl) ?_) | (refine wpList_akr HK rfl rfl ?_; intro _ g1 HK'; simp only [List.cons_append, List.nil_append] at HK'; replace HK := HK'; clear HK') | (refine wpList_sr HK 1 rfl _ _ rfl rfl rfl rfl ?_; intro _ HK'; simp only [List.set] at HK'; replace HK := HK'; clear HK'))
      have HK0 := Lib.hid HK.out.drew
      clear HK
      refine wp_region_held_drew (S := (fun W => Hid (Kn w.heap.size w W [(g1, 32, #[.int .i64 x.r.c, .int .i64 x.r.e, .int .i64 x.r.r])] [row rfLay (.slice A1 M c1) m]))) (by kernel_rfl) ?_ (fun hHeld => ?_)
      · (try dsimp only); exact Lib.hid (HK0.out.dropL 1)
      refine wpAnyH_take (i := 1) (oi := ⟨some 40, _, _, _, _, _⟩) (v := ?_) rfl (by kernel_rfl) (by kernel_rfl) (by kernel_rfl) (fun _ _ _ h => h) (Or.inl ⟨by rfl, ?_⟩) (by assumption) ?_
      rotate_left
      · (intro w hSw; refine Eq.trans (kexec_lr hSw 0 _ (by rfl) (by rfl) (by rfl)) ?_; with_reducible rfl)
      try simp only [Act.put, List.setIfInBounds_toArray, List.set_cons_zero, List.set_cons_succ]
      refine wpAnyH_take (i := 2) (oi := ⟨some 41, _, _, _, _, _⟩) (v := ?_) rfl (by kernel_rfl) (by kernel_rfl) (by kernel_rfl) (fun _ _ _ h => h) (Or.inl ⟨by rfl, ?_⟩) (by assumption) ?_
      rotate_left
      · (intro w hSw; (try dsimp only at hSw); go_simp; try with_reducible rfl)
      try simp only [Act.put, List.setIfInBounds_toArray, List.set_cons_zero, List.set_cons_succ]
      refine wpAnyH_take (i := 3) (oi := ⟨some 42, _, _, _, _, _⟩) (v := ?_) rfl (by kernel_rfl) (by kernel_rfl) (by kernel_rfl) (fun _ _ _ h => h) (Or.inl ⟨by rfl, ?_⟩) (by assumption) ?_
      rotate_left
      · (intro w hSw; (try dsimp only at hSw); go_simp; try with_reducible rfl)
      try simp only [Act.put, List.setIfInBounds_toArray, List.set_cons_zero, List.set_cons_succ]
      refine wpAnyH_take (i := 4) (oi := ⟨some 43, _, _, _, _, _⟩) (v := ?_) rfl (by kernel_rfl) (by kernel_rfl) (by kernel_rfl) (fun _ _ _ h => h) (Or.inl ⟨by rfl, ?_⟩) (by assumption) ?_
      rotate_left
      · (intro w hSw; refine Eq.trans (exec_ixp (i := k) _ _ (by rfl) (by rfl) (by rfl) hlt) ?_; with_reducible rfl)
      try simp only [Act.put, List.setIfInBounds_toArray, List.set_cons_zero, List.set_cons_succ]
      refine wpAnyH_take (i := 5) (oi := ⟨some 44, _, _, _, _, _⟩) (v := ?_) rfl (by kernel_rfl) (by kernel_rfl) (by kernel_rfl) (fun _ _ _ h => h) (Or.inl ⟨by rfl, ?_⟩) (by assumption) ?_
      rotate_left
      · (intro w hSw; (try dsimp only at hSw); go_simp; try with_reducible rfl)
      try simp only [Act.put, List.setIfInBounds_toArray, List.set_cons_zero, List.set_cons_succ]
      refine wpAnyH_take (i := 6) (oi := ⟨some 45, _, _, _, _, _⟩) (v := ?_) rfl (by kernel_rfl) (by kernel_rfl) (by kernel_rfl) (fun _ _ _ h => h) (Or.inl ⟨by rfl, ?_⟩) (by assumption) ?_
      rotate_left
      · (intro w hSw; refine Eq.trans (exec_opp (x := x) (off := o + k * 10) _ (by rfl) (by rfl) (HX.out _ hSw.out.b)) ?_; with_reducible rfl)
      try simp only [Act.put, List.setIfInBounds_toArray, List.set_cons_zero, List.set_cons_succ]
      refine wpAnyH_ready (rs := [0]) (by kernel_rfl) (by simp) ?_
      refine AllReadyH.cons (o := ⟨some 39, _, _, _, _, _⟩) rfl (fun K hK => ?_) AllReadyH.nil
      refine step_of_exec (by rfl) (ktb HK0 0 _ (by rfl) (by rfl) (by rfl)) ?_; have hs := hHeld
      refine hK.out _ _ hs (fun hHeld => ?_)
      clear hK K
      try simp only [ap1, ap2, ap3, ap4, ap5]
      refine wpAnyH_ready (rs := [7]) (by kernel_rfl) (by simp) ?_
      refine AllReadyH.cons (o := ⟨some 46, _, _, _, _, _⟩) rfl (fun K hK => ?_) AllReadyH.nil
      go_simp
      go_at_call 17
      refine (HEn.out _).mono ?_; rintro e w5 ⟨rfl, b5⟩; have hs := Lib.hid (hHeld.out.call b5); replace HK0 := Lib.hid (HK0.out.call b5); clear b5
      refine hK.out _ _ hs (fun hHeld => ?_)
      clear hK K
      try simp only [ap1, ap2, ap3, ap4, ap5]
      refine wpAnyH_ready (rs := [8]) (by kernel_rfl) (by simp) ?_
      refine AllReadyH.cons (o := ⟨none, _, _, _, _, _⟩) rfl (fun K hK => ?_) AllReadyH.nil
      refine step_stb (t2 := t2) HK0 0 (by rfl) _ _ (by rfl) (by rfl) (by rfl) (by rfl) ?_; intro w6 HK'; simp only [List.set] at HK'; replace HK0 := HK'; clear HK'; have hs := Lib.hid (HK0.out.dropL 1)
      refine hK.out _ _ hs (fun hHeld => ?_)
      clear hK K
      try simp only [ap1, ap2, ap3, ap4, ap5]
      refine wpAnyH_done (by kernel_rfl) ?_ _
      have HK := HK0
      clear HK0 hHeld
      go_wp2_with (first | refine wpList_exe (exec_add1 (j := k) _ (by rfl) (by rfl) hk3) (by rfl) ?_)
      exact ⟨⟨k + 1, M, t2, m, A1, c1, hlt, hl120, by omega, rfl, rfl, HLen, HFe, HHe, Lib.hid (HK.out.takeL 1)⟩, by simp [intOf]; omega⟩
    case false =>
    have HE := Lib.hid hen
    clear hen HEn HCl HFe HFc
    by_cases hlook : Ses.look t x.r = 1
    case neg =>
      have HQ : Hid (decide (Ses.look t x.r = 1) = false) := Lib.hid (decide_eq_false hlook)
      clear hlook HOp HBe HLo HLb HFo HFb
      generalize Ses.look t x.r = q at *
      go_wp2_with (first | refine wpList_exe (exec_ixp (i := k) _ _ (by rfl) (by rfl) (by rfl) hlt) (by rfl) ?_ | refine wpList_exe (exec_opr (x := x) (off := o + k * 10) _ (by rfl) (by rfl) (HX.out _ HK.out.b)) (by rfl) ?_ | (refine wpList_exe ((exec_opc (x := x) (off := o + k * 10) _ (by rfl) (by rfl) (HX.out _ HK.out.b)).trans (by rw [HC.out])) (by rfl) ?_) | (refine wpList_exe ((exec_ope (x := x) (off := o + k * 10) _ (by rfl) (by rfl) (HX.out _ HK.out.b)).trans (by rw [HE.out])) (by rfl) ?_) | (refine wpList_akr HK rfl rfl ?_; intro _ g1 HK'; simp only [List.cons_append, List.nil_append] at HK'; replace HK := HK'; clear HK') | (refine wpList_sr HK 1 rfl _ _ rfl rfl rfl rfl ?_; intro _ HK'; simp only [List.set] at HK'; replace HK := HK'; clear HK') | refine wpList_exe (ktb HK 0 _ (by rfl) (by rfl) (by rfl)) (by rfl) ?_ | refine wpList_exe (kexec_lr HK 1 _ (by rfl) (by rfl) (by rfl)) (by rfl) ?_)
      refine (HLk.out _).mono ?_; rintro e w1 ⟨rfl, b1⟩
      replace HK := Lib.hid (HK.out.call b1); clear b1
      go_wp2_with (first | refine wpList_exe (exec_iE (m := q) (n := 1) _ _ (by rfl) (by rfl) (by rfl) HQ.out) (by rfl) ?_ | refine wpList_exe (exec_add1 (j := k) _ (by rfl) (by rfl) hk3) (by rfl) ?_)
      exact ⟨⟨k + 1, M, t, m, A1, c1, hlt, hl120, by omega, rfl, rfl, HLen, HFit, HHad, Lib.hid (HK.out.takeL 1)⟩, by simp [intOf]; omega⟩
    case pos =>
    have HNe := Lib.hid (fun (i : Nat) (q : Rf) (hq : m[i]? = some q) => Ses.had_ne HHad.out hlook hq)
    have HHo := Lib.hid (fun h0 => Ses.had_open HHad.out hlook h0)
    have HHb := Lib.hid (fun h0 => Ses.had_beg HHad.out hlook h0)
    have HNo := Lib.hid (fun h0 => Ses.open_not hlook h0)
    have HNb := Lib.hid (fun h0 => Ses.beg_not hlook h0)
    rw [hlook] at HLk
    clear hlook
    generalize Ses.look (Ses.openT t x.r) x.r = qo at *
    generalize Ses.look (Ses.begT t x.r) x.r = qb at *
    generalize Ses.openT t x.r = yo at *
    generalize Ses.openP t x.r = po at *
    generalize Ses.begT t x.r = yb at *
    go_wp2_with (first | refine wpList_exe (exec_ixp (i := k) _ _ (by rfl) (by rfl) (by rfl) hlt) (by rfl) ?_ | refine wpList_exe (exec_opr (x := x) (off := o + k * 10) _ (by rfl) (by rfl) (HX.out _ HK.out.b)) (by rfl) ?_ | (refine wpList_exe ((exec_opc (x := x) (off := o + k * 10) _ (by rfl) (by rfl) (HX.out _ HK.out.b)).trans (by rw [HC.out])) (by rfl) ?_) | (refine wpList_exe ((exec_ope (x := x) (off := o + k * 10) _ (by rfl) (by rfl) (HX.out _ HK.out.b)).trans (by rw [HE.out])) (by rfl) ?_) | (refine wpList_akr HK rfl rfl ?_; intro _ g1 HK'; simp only [List.cons_append, List.nil_append] at HK'; replace HK := HK'; clear HK') | (refine wpList_sr HK 1 rfl _ _ rfl rfl rfl rfl ?_; intro _ HK'; simp only [List.set] at HK'; replace HK := HK'; clear HK') | refine wpList_exe (ktb HK 0 _ (by rfl) (by rfl) (by rfl)) (by rfl) ?_ | refine wpList_exe (kexec_lr HK 1 _ (by rfl) (by rfl) (by rfl)) (by rfl) ?_)
    refine (HLk.out _).mono ?_; rintro e w1 ⟨rfl, b1⟩
    replace HK := Lib.hid (HK.out.call b1); clear b1
    go_wp2_with fail
    go_loopw [7] (fun v7 wi => ∃ j : Nat, j ≤ M ∧ v7 = .int .i64 j ∧ Hid (Kn w.heap.size w wi [(g0, 30, tbA t), (g1, 32, #[.int .i64 x.r.c, .int .i64 x.r.e, .int .i64 x.r.r])] [row rfLay (.slice A1 M c1) m])) (fun v7 _ => M - (intOf v7).toNat)
    case atStart => exact ⟨0, Nat.zero_le _, rfl, HK⟩
    case round =>
      clear HK
      obtain ⟨j, hj, rfl, HK⟩ := hrel
      have hj1 : (0 : Int) ≤ (j : Int) := by omega
      by_cases hjlt : j < M
      case pos =>
        have hj2 : (j : Int) < (M : Int) := by omega
        have hj3 : j < 9223372036854775807 := by omega
        have HFs : Hid (Fits rfLay rF m) := Lib.hid (fits_few (by rw [HLen.out]; omega))
        have hown := Sls.own (HK.out.own 0 rfl) HFs.out
        obtain ⟨z, hz, _⟩ := hown.get hjlt
        obtain ⟨b2, o2, rfl, _⟩ := hown.at (Nat.lt_of_le_of_lt (Nat.zero_le _) hjlt)
        have HZ := Lib.hid hz
        have HN := Lib.hid (HNe.out j z hz)
        clear hown hz
        go_wp2_with fail
        refine wp_region_held_drew (S := (fun W => Hid (Kn w.heap.size w W [(g0, 30, tbA t), (g1, 32, #[.int .i64 x.r.c, .int .i64 x.r.e, .int .i64 x.r.r])] [row rfLay (.slice (some ⟨b2, o2, none⟩) M c1) m]))) (by kernel_rfl) ?_ (fun hHeld => ?_)
        · (try dsimp only); exact Lib.hid HK.out.drew
        refine wpAnyH_take (i := 0) (oi := ⟨some 58, _, _, _, _, _⟩) (v := ?_) rfl (by kernel_rfl) (by kernel_rfl) (by kernel_rfl) (fun _ _ _ h => h) (Or.inl ⟨by rfl, ?_⟩) (by assumption) ?_
        rotate_left
        · (intro w hSw; (try dsimp only at hSw); go_simp; try with_reducible rfl)
        try simp only [Act.put, List.setIfInBounds_toArray, List.set_cons_zero, List.set_cons_succ]
        refine wpAnyH_take (i := 1) (oi := ⟨some 59, _, _, _, _, _⟩) (v := ?_) rfl (by kernel_rfl) (by kernel_rfl) (by kernel_rfl) (fun _ _ _ h => h) (Or.inl ⟨by rfl, ?_⟩) (by assumption) ?_
        rotate_left
        · (intro w hSw; (try dsimp only at hSw); go_simp; try with_reducible rfl)
        try simp only [Act.put, List.setIfInBounds_toArray, List.set_cons_zero, List.set_cons_succ]
        refine wpAnyH_take (i := 2) (oi := ⟨some 60, _, _, _, _, _⟩) (v := ?_) rfl (by kernel_rfl) (by kernel_rfl) (by kernel_rfl) (fun _ _ _ h => h) (Or.inl ⟨by rfl, ?_⟩) (by assumption) ?_
        rotate_left
        · (intro w hSw; refine Eq.trans (exec_ixr (i := j) _ _ (by rfl) (by rfl) (by rfl) hjlt) ?_; with_reducible rfl)
        try simp only [Act.put, List.setIfInBounds_toArray, List.set_cons_zero, List.set_cons_succ]
        refine wpAnyH_take (i := 3) (oi := ⟨some 61, _, _, _, _, _⟩) (v := ?_) rfl (by kernel_rfl) (by kernel_rfl) (by kernel_rfl) (fun _ _ _ h => h) (Or.inl ⟨by rfl, ?_⟩) (by assumption) ?_
        rotate_left
        · (intro w hSw; refine Eq.trans (exec_lr (x := z) (off := o2 + j * 3) _ (by rfl) (by rfl) ((Sls.own (hSw.out.own 0 rfl) HFs.out).cells HZ.out)) ?_; with_reducible rfl)
        try simp only [Act.put, List.setIfInBounds_toArray, List.set_cons_zero, List.set_cons_succ]
        refine wpAnyH_take (i := 4) (oi := ⟨some 62, _, _, _, _, _⟩) (v := ?_) rfl (by kernel_rfl) (by kernel_rfl) (by kernel_rfl) (fun _ _ _ h => h) (Or.inl ⟨by rfl, ?_⟩) (by assumption) ?_
        rotate_left
        · (intro w hSw; refine Eq.trans (kexec_lr hSw 1 _ (by rfl) (by rfl) (by rfl)) ?_; with_reducible rfl)
        try simp only [Act.put, List.setIfInBounds_toArray, List.set_cons_zero, List.set_cons_succ]
        refine wpAnyH_take (i := 5) (oi := ⟨some 63, _, _, _, _, _⟩) (v := ?_) rfl (by kernel_rfl) (by kernel_rfl) (by kernel_rfl) (fun _ _ _ h => h) (Or.inl ⟨by rfl, ?_⟩) (by assumption) ?_
        rotate_left
        · (intro w hSw; refine Eq.trans (exec_req (v := z) (u := x.r) _ _ (by rfl) (by rfl) (by rfl) HN.out) ?_; with_reducible rfl)
        try simp only [Act.put, List.setIfInBounds_toArray, List.set_cons_zero, List.set_cons_succ]
        refine wpAnyH_done (by kernel_rfl) ?_ _
        replace HK := hHeld
        clear hHeld
        go_wp2_with (first | refine wpList_exe (exec_add1 (j := j) _ (by rfl) (by rfl) hj3) (by rfl) ?_)
        exact ⟨⟨j + 1, hjlt, rfl, HK⟩, by simp [intOf]; omega⟩
      case neg =>
        obtain rfl : j = M := by omega
        have hj2 : ¬ (j : Int) < (j : Int) := by omega
        have HN2 : Hid ((m ++ [x.r]).length = j + 1) := Lib.hid (by rw [List.length_append, HLen.out]; rfl)
        have HL2 := grow_ok (La := rfLay) HN2 (by show (j + 1) * 24 ≤ _; omega) (by omega)
        by_cases h0 : x.r.r = 0
        case pos =>
          have HZ : Hid (decide (x.r.r = 0) = true) := Lib.hid (decide_eq_true h0)
          replace HHo := Lib.hid (HHo.out h0)
          replace HNo := Lib.hid (HNo.out h0)
          clear h0 HHb HNb HBe HLb HFb
          go_wp2_with (first | refine wpList_exe (kexec_lr HK 1 _ (by rfl) (by rfl) (by rfl)) (by rfl) ?_ | (refine wpList_mk1 rfLay (p := x.r) HK (by decide) rfl _ rfl rfl rfl ?_; intro _ g7 HK'; simp only [List.cons_append, List.nil_append] at HK'; have HR := Lib.hid (HK'.out.own 1 rfl).rd; replace HK := HK'; clear HK') | (at_builtin; refine wpList_kmore HK rfLay 0 rfl _ _ rfl rfl rfl [x.r] rfl rfl HR HL2 (N := j + 1) HN2 ?_; intro A2 c2 _ HK'; simp only [List.set] at HK'; replace HK := HK'; clear HK') | refine wpList_exe (krf_r (x := x.r) HK 1 _ (by rfl) (by rfl) (by rfl)) (by rfl) ?_ | refine wpList_exe (exec_iE (m := x.r.r) (n := 0) _ _ (by rfl) (by rfl) (by rfl) HZ.out) (by rfl) ?_ | refine wpList_exe (ktb HK 0 _ (by rfl) (by rfl) (by rfl)) (by rfl) ?_)
          refine (HOp.out _).mono ?_; rintro e w1 ⟨rfl, b1⟩
          replace HK := Lib.hid (HK.out.call b1); clear b1
          go_wp2_with (first | (refine wpList_stb (t2 := yo) HK 0 rfl _ _ rfl rfl rfl rfl ?_; intro _ HK'; simp only [List.set] at HK'; replace HK := HK'; clear HK') | refine wpList_exe (ktb HK 0 _ (by rfl) (by rfl) (by rfl)) (by rfl) ?_ | refine wpList_exe (kexec_lr HK 1 _ (by rfl) (by rfl) (by rfl)) (by rfl) ?_)
          refine (HLo.out _).mono ?_; rintro e w1 ⟨rfl, b1⟩
          replace HK := Lib.hid (HK.out.call b1); clear b1
          go_wp2_with (first | refine wpList_exe (exec_iE (m := qo) (n := 1) _ _ (by rfl) (by rfl) (by rfl) HNo.out) (by rfl) ?_ | refine wpList_exe (exec_add1 (j := k) _ (by rfl) (by rfl) hk3) (by rfl) ?_)
          exact ⟨⟨k + 1, j + 1, yo, m ++ [x.r], A2, c2, hlt, hl120, by omega, rfl, rfl, HN2, HFo, HHo, Lib.hid ((HK.out.takeL 1).takeR 1)⟩, by simp [intOf]; omega⟩
        case neg =>
          have HZ : Hid (decide (x.r.r = 0) = false) := Lib.hid (decide_eq_false h0)
          replace HHb := Lib.hid (HHb.out h0)
          replace HNb := Lib.hid (HNb.out h0)
          clear h0 HHo HNo HOp HLo HFo
          go_wp2_with (first | refine wpList_exe (kexec_lr HK 1 _ (by rfl) (by rfl) (by rfl)) (by rfl) ?_ | (refine wpList_mk1 rfLay (p := x.r) HK (by decide) rfl _ rfl rfl rfl ?_; intro _ g7 HK'; simp only [List.cons_append, List.nil_append] at HK'; have HR := Lib.hid (HK'.out.own 1 rfl).rd; replace HK := HK'; clear HK') | (at_builtin; refine wpList_kmore HK rfLay 0 rfl _ _ rfl rfl rfl [x.r] rfl rfl HR HL2 (N := j + 1) HN2 ?_; intro A2 c2 _ HK'; simp only [List.set] at HK'; replace HK := HK'; clear HK') | refine wpList_exe (krf_r (x := x.r) HK 1 _ (by rfl) (by rfl) (by rfl)) (by rfl) ?_ | refine wpList_exe (exec_iE (m := x.r.r) (n := 0) _ _ (by rfl) (by rfl) (by rfl) HZ.out) (by rfl) ?_ | refine wpList_exe (ktb HK 0 _ (by rfl) (by rfl) (by rfl)) (by rfl) ?_)
          refine (HBe.out _).mono ?_; rintro e w1 ⟨rfl, b1⟩
          replace HK := Lib.hid (HK.out.call b1); clear b1
          go_wp2_with (first | (refine wpList_stb (t2 := yb) HK 0 rfl _ _ rfl rfl rfl rfl ?_; intro _ HK'; simp only [List.set] at HK'; replace HK := HK'; clear HK') | refine wpList_exe (ktb HK 0 _ (by rfl) (by rfl) (by rfl)) (by rfl) ?_ | refine wpList_exe (kexec_lr HK 1 _ (by rfl) (by rfl) (by rfl)) (by rfl) ?_)
          refine (HLb.out _).mono ?_; rintro e w1 ⟨rfl, b1⟩
          replace HK := Lib.hid (HK.out.call b1); clear b1
          go_wp2_with (first | refine wpList_exe (exec_iE (m := qb) (n := 1) _ _ (by rfl) (by rfl) (by rfl) HNb.out) (by rfl) ?_ | refine wpList_exe (exec_add1 (j := k) _ (by rfl) (by rfl) hk3) (by rfl) ?_)
          exact ⟨⟨k + 1, j + 1, yb, m ++ [x.r], A2, c2, hlt, hl120, by omega, rfl, rfl, HN2, HFb, HHb, Lib.hid ((HK.out.takeL 1).takeR 1)⟩, by simp [intOf]; omega⟩
end Go.Proofs.Ytbcdmmhbmjjooaa
