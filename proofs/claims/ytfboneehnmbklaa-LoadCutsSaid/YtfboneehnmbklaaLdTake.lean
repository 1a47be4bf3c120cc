/-
  What Take returns.
  No condition but what the slices read as, and a piece's greatest size.
-/
import Derived.Test.YtfboneehnmbklaaLdPut
import Derived.Test.YtfboneehnmbklaaLdRight
import Derived.Test.YtfboneehnmbklaaLdSound
set_option linter.unusedSimpArgs false
set_option linter.unusedVariables false
namespace Go.Proofs.Ytfboneehnmbklaa
open Go.RowKit

theorem fits_b (l : List Bool) (n : Nat) (h : l.length = n) (hn : n ≤ 65536) : Fits bLay bF l := ⟨fun _ _ => trivial, by rw [h]; show n * 1 ≤ _; omega⟩
theorem fits_s (l : List ByteArray) (n : Nat) (h : l.length = n) (hn : n ≤ 65536) (hs : ∀ x ∈ l, x.size ≤ 140737488351232) : Fits sLay sF l := ⟨hs, by rw [h]; show n * 16 ≤ _; omega⟩
set_option maxRecDepth 100000 in
set_option maxHeartbeats 12800000 in
theorem ltake_any (l : Ldd) (p : Lpc) (A : Option Addr) (n c : Nat) (A2 : Option Addr) (n2 c2 : Nat) (w : World) (h1 : Sls bLay bF w A n c l.h) (h2 : Sls sLay sF w A2 n2 c2 l.d) (hd : p.d.size ≤ 140737488351232) :
    Calls Try.prog 15 #[.agg #[.int .i64 l.n, .int .i64 l.t, .int .u32 (l.s : Int), .slice A n c, .slice A2 n2 c2], .agg #[.int .i64 p.n, .int .i64 p.a, .int .i64 p.t, .int .u32 (p.s : Int), .string p.d]] w (IsLE (Ldm.tk l p) (Ldm.tkE l p) w) := by
  have HS := Lib.hid (fun W => lsound_any l A n c A2 n2 c2 W h1.len h2.len)
  have HR := Lib.hid (fun W => lright_any p W hd)
  have HA := Lib.hid (fun W => lalike_any l p A n c A2 n2 c2 W)
  have HO := Lib.hid (fun W (hW : Below w.heap.size w W) => lown_any l A n c A2 n2 c2 W (h1.later hW) (h2.later hW))
  have HK := kn3 w 35 (ldC l.n l.t l.s (.slice A n c) (.slice A2 n2 c2)) 24 (pcC p.n p.a p.t p.s p.d) 35 (ldC 0 0 0 (.slice none 0 0) (.slice none 0 0))
  unfold IsB at HS HR HA
  unfold IsLD at HO
  unfold IsLE
  by_cases hl : Ldm.LR l
  case neg =>
    have e1 : Ldm.tk l p = l := by unfold Ldm.tk; rw [if_pos (fun h => hl h.1)]
    have e2 : Ldm.tkE l p = 1 := by unfold Ldm.tkE; rw [if_pos (fun h => hl h.1)]
    rw [decide_eq_false hl] at HS
    rw [e1, e2]
    clear hl e1 e2 h1 h2 HR HA
    obtain ⟨m, t, s, lh, ld⟩ := l
    obtain ⟨pn, pa, pt, ps, pd⟩ := p
    simp only at *
    go_enter Try.func15, Try.ntmps15
    go_wp2_with (first | refine wpList_exe (kl_l HK 0 _ (by rfl) (by rfl) (by rfl)) (by rfl) ?_)
    refine (HS.out _).mono ?_; rintro e w1 ⟨rfl, b1⟩
    replace HK := Lib.hid (HK.out.call b1); clear b1
    go_wp2_with (first | refine wpList_exe (kl_l HK 0 _ (by rfl) (by rfl) (by rfl)) (by rfl) ?_)
    refine (HO.out _ HK.out.b).mono ?_; rintro e w3 ⟨A3, n3, c3, A4, n4, c4, rfl, k3⟩; replace HK := Lib.hid (HK.out.join k3); simp only [List.nil_append] at HK; clear k3
    go_wp2_with (first | (refine wpList_sl HK 2 rfl _ _ rfl rfl rfl rfl rfl rfl ?_; intro _ HK'; simp only [List.set] at HK'; replace HK := HK'; clear HK'))
    exact ret_le Try.results15 rfl rfl rfl (HK.out.blk 2 rfl) ⟨_, _, _, _, _, _, rfl, HK.out.takeL 0⟩
  rw [decide_eq_true hl] at HS
  by_cases hp : Ldm.PR p
  case neg =>
    have e1 : Ldm.tk l p = l := by unfold Ldm.tk; rw [if_pos (fun h => hp h.2)]
    have e2 : Ldm.tkE l p = 1 := by unfold Ldm.tkE; rw [if_pos (fun h => hp h.2)]
    rw [decide_eq_false hp] at HR
    rw [e1, e2]
    clear hl hp e1 e2 h1 h2 HA
    obtain ⟨m, t, s, lh, ld⟩ := l
    obtain ⟨pn, pa, pt, ps, pd⟩ := p
    simp only at *
    go_enter Try.func15, Try.ntmps15
    go_wp2_with (first | refine wpList_exe (kl_l HK 0 _ (by rfl) (by rfl) (by rfl)) (by rfl) ?_ | refine wpList_exe (kp_p HK 1 _ (by rfl) (by rfl) (by rfl)) (by rfl) ?_)
    refine (HS.out _).mono ?_; rintro e w1 ⟨rfl, b1⟩
    replace HK := Lib.hid (HK.out.call b1); clear b1
    go_wp2_with (first | refine wpList_exe (kl_l HK 0 _ (by rfl) (by rfl) (by rfl)) (by rfl) ?_ | refine wpList_exe (kp_p HK 1 _ (by rfl) (by rfl) (by rfl)) (by rfl) ?_)
    refine (HR.out _).mono ?_; rintro e w1 ⟨rfl, b1⟩
    replace HK := Lib.hid (HK.out.call b1); clear b1
    go_wp2_with (first | refine wpList_exe (kl_l HK 0 _ (by rfl) (by rfl) (by rfl)) (by rfl) ?_)
    refine (HO.out _ HK.out.b).mono ?_; rintro e w3 ⟨A3, n3, c3, A4, n4, c4, rfl, k3⟩; replace HK := Lib.hid (HK.out.join k3); simp only [List.nil_append] at HK; clear k3
    go_wp2_with (first | (refine wpList_sl HK 2 rfl _ _ rfl rfl rfl rfl rfl rfl ?_; intro _ HK'; simp only [List.set] at HK'; replace HK := HK'; clear HK'))
    exact ret_le Try.results15 rfl rfl rfl (HK.out.blk 2 rfl) ⟨_, _, _, _, _, _, rfl, HK.out.takeL 0⟩
  rw [decide_eq_true hp] at HR
  by_cases ha : Ldm.AL l p
  case neg =>
    have e1 : Ldm.tk l p = l := by unfold Ldm.tk; rw [if_neg (fun h => h ⟨hl, hp⟩), if_pos ha]
    have e2 : Ldm.tkE l p = 9 := by unfold Ldm.tkE; rw [if_neg (fun h => h ⟨hl, hp⟩), if_pos ha]
    rw [decide_eq_false ha] at HA
    rw [e1, e2]
    clear hl hp ha e1 e2 h1 h2
    obtain ⟨m, t, s, lh, ld⟩ := l
    obtain ⟨pn, pa, pt, ps, pd⟩ := p
    simp only at *
    go_enter Try.func15, Try.ntmps15
    go_wp2_with (first | refine wpList_exe (kl_l HK 0 _ (by rfl) (by rfl) (by rfl)) (by rfl) ?_ | refine wpList_exe (kp_p HK 1 _ (by rfl) (by rfl) (by rfl)) (by rfl) ?_)
    refine (HS.out _).mono ?_; rintro e w1 ⟨rfl, b1⟩
    replace HK := Lib.hid (HK.out.call b1); clear b1
    go_wp2_with (first | refine wpList_exe (kl_l HK 0 _ (by rfl) (by rfl) (by rfl)) (by rfl) ?_ | refine wpList_exe (kp_p HK 1 _ (by rfl) (by rfl) (by rfl)) (by rfl) ?_)
    refine (HR.out _).mono ?_; rintro e w1 ⟨rfl, b1⟩
    replace HK := Lib.hid (HK.out.call b1); clear b1
    go_wp2_with (first | refine wpList_exe (kl_l HK 0 _ (by rfl) (by rfl) (by rfl)) (by rfl) ?_ | refine wpList_exe (kp_p HK 1 _ (by rfl) (by rfl) (by rfl)) (by rfl) ?_)
    refine (HA.out _).mono ?_; rintro e w1 ⟨rfl, b1⟩
    replace HK := Lib.hid (HK.out.call b1); clear b1
    go_wp2_with (first | refine wpList_exe (kl_l HK 0 _ (by rfl) (by rfl) (by rfl)) (by rfl) ?_)
    refine (HO.out _ HK.out.b).mono ?_; rintro e w3 ⟨A3, n3, c3, A4, n4, c4, rfl, k3⟩; replace HK := Lib.hid (HK.out.join k3); simp only [List.nil_append] at HK; clear k3
    go_wp2_with (first | (refine wpList_sl HK 2 rfl _ _ rfl rfl rfl rfl rfl rfl ?_; intro _ HK'; simp only [List.set] at HK'; replace HK := HK'; clear HK'))
    exact ret_le Try.results15 rfl rfl rfl (HK.out.blk 2 rfl) ⟨_, _, _, _, _, _, rfl, HK.out.takeL 0⟩
  rw [decide_eq_true ha] at HA
  obtain ⟨k, hk⟩ : ∃ k : Nat, p.a = (k : Int) := ⟨p.a.toNat, by have := hp.1.2.2.1; omega⟩
  by_cases h0 : l.t = 0
  case pos =>
    have e1 : Ldm.tk l p = Ldm.pt (Ldm.bg p) p := by unfold Ldm.tk; rw [if_neg (fun h => h ⟨hl, hp⟩), if_neg (fun h => h ha), if_pos h0]
    have e2 : Ldm.tkE l p = 0 := by unfold Ldm.tkE; rw [if_neg (fun h => h ⟨hl, hp⟩), if_neg (fun h => h ha), if_pos h0]
    have HG := Lib.hid (lbegun_any p hp)
    obtain ⟨m, hm⟩ : ∃ m : Nat, p.t = (m : Int) := ⟨p.t.toNat, by have := hp.1.1; omega⟩
    have hkm : k < m := by have := hp.1.2.2.2; omega
    have hm6 : m ≤ 65536 := by have := hp.1.2.1; omega
    have HFb := Lib.hid (fits_b (List.replicate m false) m (by simp) hm6)
    have HLb : Hid ((List.replicate m false).length = m) := Lib.hid (by simp)
    have HLs : Hid ((List.replicate m (⟨#[]⟩ : ByteArray)).length = m) := Lib.hid (by simp)
    have HFs := Lib.hid (fits_s (List.replicate m ⟨#[]⟩) m (by simp) hm6 (fun x hx => by rw [List.eq_of_mem_replicate hx]; decide))
    have HE : Hid (Ldm.pt (Ldm.bg p) p = ⟨p.n, (m : Int), p.s, (List.replicate m false).set k true, (List.replicate m ⟨#[]⟩).set k p.d⟩) := Lib.hid (by simp [Ldm.pt, Ldm.bg, hk, hm])
    have hb0 : Ldm.bg p = ⟨p.n, (m : Int), p.s, List.replicate m false, List.replicate m ⟨#[]⟩⟩ := by simp [Ldm.bg, hm]
    unfold IsLD at HG
    rw [e1, e2, HE.out]
    rw [hb0] at HG
    simp only at HG ⊢
    generalize List.replicate m false = rb at *
    generalize List.replicate m (⟨#[]⟩ : ByteArray) = rs at *
    clear hl hp ha e1 e2 h1 h2 HO HE hb0
    obtain ⟨lm, t, s, lh, ld⟩ := l
    obtain ⟨pn, pa, pt, ps, pd⟩ := p
    simp only at *
    subst hk hm h0
    go_enter Try.func15, Try.ntmps15
    go_wp2_with (first | refine wpList_exe (kl_l HK 0 _ (by rfl) (by rfl) (by rfl)) (by rfl) ?_ | refine wpList_exe (kp_p HK 1 _ (by rfl) (by rfl) (by rfl)) (by rfl) ?_)
    refine (HS.out _).mono ?_; rintro e w1 ⟨rfl, b1⟩
    replace HK := Lib.hid (HK.out.call b1); clear b1
    go_wp2_with (first | refine wpList_exe (kl_l HK 0 _ (by rfl) (by rfl) (by rfl)) (by rfl) ?_ | refine wpList_exe (kp_p HK 1 _ (by rfl) (by rfl) (by rfl)) (by rfl) ?_)
    refine (HR.out _).mono ?_; rintro e w1 ⟨rfl, b1⟩
    replace HK := Lib.hid (HK.out.call b1); clear b1
    go_wp2_with (first | refine wpList_exe (kl_l HK 0 _ (by rfl) (by rfl) (by rfl)) (by rfl) ?_ | refine wpList_exe (kp_p HK 1 _ (by rfl) (by rfl) (by rfl)) (by rfl) ?_)
    refine (HA.out _).mono ?_; rintro e w1 ⟨rfl, b1⟩
    replace HK := Lib.hid (HK.out.call b1); clear b1
    go_wp2_with (first | refine wpList_exe (kl_t_ HK 0 _ (by rfl) (by rfl) (by rfl)) (by rfl) ?_ | refine wpList_exe (kp_p HK 1 _ (by rfl) (by rfl) (by rfl)) (by rfl) ?_)
    refine (HG.out _).mono ?_; rintro e w3 ⟨A3, n3, c3, A4, n4, c4, rfl, k3⟩
    obtain rfl : n3 = m := (k3.own (La := bLay) 0 rfl).reads.1.trans HLb.out
    obtain rfl : n4 = n3 := (k3.own (La := sLay) 1 rfl).reads.1.trans HLs.out
    replace HK := Lib.hid (HK.out.join k3); simp only [List.nil_append] at HK; clear k3
    go_wp2_with (first | (refine wpList_sl HK 0 rfl _ _ rfl rfl rfl rfl rfl rfl ?_; intro _ HK'; simp only [List.set] at HK'; replace HK := HK'; clear HK'))
    have HPb := Lib.hid (fun W hs => lputb_any A3 n4 c3 rb k true W hs hkm)
    have HPs := Lib.hid (fun W hs => lputs_any A4 n4 c4 rs k pd W hs hkm)
    have HK0 := Lib.hid HK.out.drew
    clear HK HG HS HR HA
    refine wp_region_held_drew (S := (fun W => Hid (Kn w.heap.size w W [(w.heap.size + 1, 24, pcC pn k n4 ps pd)] []))) (by kernel_rfl) ?_ (fun hHeld => ?_)
    · (try dsimp only); exact Lib.hid ((HK0.out.takeL 2).dropL 1 |>.takeR 0)
    refine wpAnyH_take (i := 0) (oi := ⟨some 39, _, _, _, _, _⟩) (v := ?_) rfl (by kernel_rfl) (by kernel_rfl) (by kernel_rfl) (fun _ _ _ h => h) (Or.inl ⟨by rfl, ?_⟩) (by assumption) ?_
    rotate_left
    · (intro w hSw; (try dsimp only at hSw); go_simp; try with_reducible rfl)
    try simp only [Act.put, List.setIfInBounds_toArray, List.set_cons_zero, List.set_cons_succ]
    refine wpAnyH_take (i := 2) (oi := ⟨some 41, _, _, _, _, _⟩) (v := ?_) rfl (by kernel_rfl) (by kernel_rfl) (by kernel_rfl) (fun _ _ _ h => h) (Or.inl ⟨by rfl, ?_⟩) (by assumption) ?_
    rotate_left
    · (intro w hSw; (try dsimp only at hSw); go_simp; try with_reducible rfl)
    try simp only [Act.put, List.setIfInBounds_toArray, List.set_cons_zero, List.set_cons_succ]
    refine wpAnyH_take (i := 3) (oi := ⟨some 42, _, _, _, _, _⟩) (v := ?_) rfl (by kernel_rfl) (by kernel_rfl) (by kernel_rfl) (fun _ _ _ h => h) (Or.inl ⟨by rfl, ?_⟩) (by assumption) ?_
    rotate_left
    · (intro w hSw; refine Eq.trans (kp_a_ hSw 0 _ (by rfl) (by rfl) (by rfl)) ?_; with_reducible rfl)
    try simp only [Act.put, List.setIfInBounds_toArray, List.set_cons_zero, List.set_cons_succ]
    refine wpAnyH_take (i := 5) (oi := ⟨some 44, _, _, _, _, _⟩) (v := ?_) rfl (by kernel_rfl) (by kernel_rfl) (by kernel_rfl) (fun _ _ _ h => h) (Or.inl ⟨by rfl, ?_⟩) (by assumption) ?_
    rotate_left
    · (intro w hSw; (try dsimp only at hSw); go_simp; try with_reducible rfl)
    try simp only [Act.put, List.setIfInBounds_toArray, List.set_cons_zero, List.set_cons_succ]
    refine wpAnyH_take (i := 7) (oi := ⟨some 46, _, _, _, _, _⟩) (v := ?_) rfl (by kernel_rfl) (by kernel_rfl) (by kernel_rfl) (fun _ _ _ h => h) (Or.inl ⟨by rfl, ?_⟩) (by assumption) ?_
    rotate_left
    · (intro w hSw; (try dsimp only at hSw); go_simp; try with_reducible rfl)
    try simp only [Act.put, List.setIfInBounds_toArray, List.set_cons_zero, List.set_cons_succ]
    refine wpAnyH_take (i := 8) (oi := ⟨some 47, _, _, _, _, _⟩) (v := ?_) rfl (by kernel_rfl) (by kernel_rfl) (by kernel_rfl) (fun _ _ _ h => h) (Or.inl ⟨by rfl, ?_⟩) (by assumption) ?_
    rotate_left
    · (intro w hSw; refine Eq.trans (kp_a_ hSw 0 _ (by rfl) (by rfl) (by rfl)) ?_; with_reducible rfl)
    try simp only [Act.put, List.setIfInBounds_toArray, List.set_cons_zero, List.set_cons_succ]
    refine wpAnyH_take (i := 9) (oi := ⟨some 48, _, _, _, _, _⟩) (v := ?_) rfl (by kernel_rfl) (by kernel_rfl) (by kernel_rfl) (fun _ _ _ h => h) (Or.inl ⟨by rfl, ?_⟩) (by assumption) ?_
    rotate_left
    · (intro w hSw; (try dsimp only at hSw); go_simp; try with_reducible rfl)
    try simp only [Act.put, List.setIfInBounds_toArray, List.set_cons_zero, List.set_cons_succ]
    refine wpAnyH_take (i := 10) (oi := ⟨some 49, _, _, _, _, _⟩) (v := ?_) rfl (by kernel_rfl) (by kernel_rfl) (by kernel_rfl) (fun _ _ _ h => h) (Or.inl ⟨by rfl, ?_⟩) (by assumption) ?_
    rotate_left
    · (intro w hSw; refine Eq.trans (kp_d_ hSw 0 _ (by rfl) (by rfl) (by rfl)) ?_; with_reducible rfl)
    try simp only [Act.put, List.setIfInBounds_toArray, List.set_cons_zero, List.set_cons_succ]
    refine wpAnyH_ready (rs := [1, 6]) (by kernel_rfl) (by simp) ?_
    refine AllReadyH.cons (o := ⟨some 40, _, _, _, _, _⟩) rfl (fun K hK => ?_) (AllReadyH.cons (o := ⟨some 45, _, _, _, _, _⟩) rfl (fun K hK => ?_) AllReadyH.nil)
    refine step_of_exec (by rfl) (kl_h_ HK0 0 _ (by rfl) (by rfl) (by rfl)) ?_; have hs := Lib.hid ((HK0.out.takeL 2).dropL 1 |>.takeR 0)
    refine hK.out _ _ hs (fun hHeld => ?_)
    clear hK K
    try simp only [ap1, ap2, ap3, ap4, ap5]
    refine wpAnyH_ready (rs := [4, 6]) (by kernel_rfl) (by simp) ?_
    refine AllReadyH.cons (o := ⟨some 43, _, _, _, _, _⟩) rfl (fun K hK => ?_) (AllReadyH.cons (o := ⟨some 45, _, _, _, _, _⟩) rfl (fun K hK => ?_) AllReadyH.nil)
    go_simp
    go_at_call 31
    refine (HPb.out _ (Sls.own (HK0.out.own 0 rfl) HFb.out)).mono ?_; rintro e w5 ⟨A5, c5, rfl, o5, b5⟩; replace HK0 := Lib.hid (HK0.out.called b5 o5); simp only [List.cons_append, List.nil_append] at HK0; clear o5 b5; have hs := Lib.hid ((HK0.out.takeL 2).dropL 1 |>.takeR 0)
    refine hK.out _ _ hs (fun hHeld => ?_)
    clear hK K
    try simp only [ap1, ap2, ap3, ap4, ap5]
    refine wpAnyH_ready (rs := [6]) (by kernel_rfl) (by simp) ?_
    refine AllReadyH.cons (o := ⟨some 45, _, _, _, _, _⟩) rfl (fun K hK => ?_) AllReadyH.nil
    refine step_of_exec (by rfl) (kl_d_ HK0 0 _ (by rfl) (by rfl) (by rfl)) ?_; have hs := Lib.hid ((HK0.out.takeL 2).dropL 1 |>.takeR 0)
    refine hK.out _ _ hs (fun hHeld => ?_)
    clear hK K
    try simp only [ap1, ap2, ap3, ap4, ap5]
    refine wpAnyH_take (i := 12) (oi := ⟨some 51, _, _, _, _, _⟩) (v := ?_) rfl (by kernel_rfl) (by kernel_rfl) (by kernel_rfl) (fun _ _ _ h => h) (Or.inl ⟨by rfl, ?_⟩) (by assumption) ?_
    rotate_left
    · (intro w hSw; (try dsimp only at hSw); go_simp; try with_reducible rfl)
    try simp only [Act.put, List.setIfInBounds_toArray, List.set_cons_zero, List.set_cons_succ]
    refine wpAnyH_ready (rs := [11]) (by kernel_rfl) (by simp) ?_
    refine AllReadyH.cons (o := ⟨some 50, _, _, _, _, _⟩) rfl (fun K hK => ?_) AllReadyH.nil
    go_simp
    go_at_call 32
    refine (HPs.out _ (Sls.own (HK0.out.own 1 rfl) HFs.out)).mono ?_; rintro e w5 ⟨A6, c6, rfl, o6, b6⟩; replace HK0 := Lib.hid (HK0.out.called b6 o6); simp only [List.cons_append, List.nil_append] at HK0; clear o6 b6; have hs := Lib.hid ((HK0.out.takeL 2).dropL 1 |>.takeR 0)
    refine hK.out _ _ hs (fun hHeld => ?_)
    clear hK K
    try simp only [ap1, ap2, ap3, ap4, ap5]
    refine wpAnyH_ready (rs := [13]) (by kernel_rfl) (by simp) ?_
    refine AllReadyH.cons (o := ⟨none, _, _, _, _, _⟩) rfl (fun K hK => ?_) AllReadyH.nil
    refine step_slh HK0 0 (by rfl) _ _ (by rfl) (by rfl) (by rfl) (by rfl) ?_; intro _ HK'; simp only [List.set] at HK'; replace HK0 := HK'; clear HK'; have hs := Lib.hid ((HK0.out.takeL 2).dropL 1 |>.takeR 0)
    refine hK.out _ _ hs (fun hHeld => ?_)
    clear hK K
    try simp only [ap1, ap2, ap3, ap4, ap5]
    refine wpAnyH_take (i := 14) (oi := ⟨some 52, _, _, _, _, _⟩) (v := ?_) rfl (by kernel_rfl) (by kernel_rfl) (by kernel_rfl) (fun _ _ _ h => h) (Or.inl ⟨by rfl, ?_⟩) (by assumption) ?_
    rotate_left
    · (intro w hSw; (try dsimp only at hSw); go_simp; try with_reducible rfl)
    try simp only [Act.put, List.setIfInBounds_toArray, List.set_cons_zero, List.set_cons_succ]
    refine wpAnyH_ready (rs := [15]) (by kernel_rfl) (by simp) ?_
    refine AllReadyH.cons (o := ⟨none, _, _, _, _, _⟩) rfl (fun K hK => ?_) AllReadyH.nil
    refine step_sld HK0 0 (by rfl) _ _ (by rfl) (by rfl) (by rfl) (by rfl) ?_; intro _ HK'; simp only [List.set] at HK'; replace HK0 := HK'; clear HK'; have hs := Lib.hid ((HK0.out.takeL 2).dropL 1 |>.takeR 0)
    refine hK.out _ _ hs (fun hHeld => ?_)
    clear hK K
    try simp only [ap1, ap2, ap3, ap4, ap5]
    refine wpAnyH_done (by kernel_rfl) ?_ _
    rotate_left
    refine step_of_exec (by rfl) (kl_d_ HK0 0 _ (by rfl) (by rfl) (by rfl)) ?_; have hs := Lib.hid ((HK0.out.takeL 2).dropL 1 |>.takeR 0)
    refine hK.out _ _ hs (fun hHeld => ?_)
    clear hK K
    try simp only [ap1, ap2, ap3, ap4, ap5]
    refine wpAnyH_ready (rs := [4]) (by kernel_rfl) (by simp) ?_
    refine AllReadyH.cons (o := ⟨some 43, _, _, _, _, _⟩) rfl (fun K hK => ?_) AllReadyH.nil
    go_simp
    go_at_call 31
    refine (HPb.out _ (Sls.own (HK0.out.own 0 rfl) HFb.out)).mono ?_; rintro e w5 ⟨A5, c5, rfl, o5, b5⟩; replace HK0 := Lib.hid (HK0.out.called b5 o5); simp only [List.cons_append, List.nil_append] at HK0; clear o5 b5; have hs := Lib.hid ((HK0.out.takeL 2).dropL 1 |>.takeR 0)
    refine hK.out _ _ hs (fun hHeld => ?_)
    clear hK K
    try simp only [ap1, ap2, ap3, ap4, ap5]
    refine wpAnyH_take (i := 12) (oi := ⟨some 51, _, _, _, _, _⟩) (v := ?_) rfl (by kernel_rfl) (by kernel_rfl) (by kernel_rfl) (fun _ _ _ h => h) (Or.inl ⟨by rfl, ?_⟩) (by assumption) ?_
    rotate_left
    · (intro w hSw; (try dsimp only at hSw); go_simp; try with_reducible rfl)
    try simp only [Act.put, List.setIfInBounds_toArray, List.set_cons_zero, List.set_cons_succ]
    refine wpAnyH_ready (rs := [11]) (by kernel_rfl) (by simp) ?_
    refine AllReadyH.cons (o := ⟨some 50, _, _, _, _, _⟩) rfl (fun K hK => ?_) AllReadyH.nil
    go_simp
    go_at_call 32
    refine (HPs.out _ (Sls.own (HK0.out.own 1 rfl) HFs.out)).mono ?_; rintro e w5 ⟨A6, c6, rfl, o6, b6⟩; replace HK0 := Lib.hid (HK0.out.called b6 o6); simp only [List.cons_append, List.nil_append] at HK0; clear o6 b6; have hs := Lib.hid ((HK0.out.takeL 2).dropL 1 |>.takeR 0)
    refine hK.out _ _ hs (fun hHeld => ?_)
    clear hK K
    try simp only [ap1, ap2, ap3, ap4, ap5]
    refine wpAnyH_ready (rs := [13]) (by kernel_rfl) (by simp) ?_
    refine AllReadyH.cons (o := ⟨none, _, _, _, _, _⟩) rfl (fun K hK => ?_) AllReadyH.nil
    refine step_slh HK0 0 (by rfl) _ _ (by rfl) (by rfl) (by rfl) (by rfl) ?_; intro _ HK'; simp only [List.set] at HK'; replace HK0 := HK'; clear HK'; have hs := Lib.hid ((HK0.out.takeL 2).dropL 1 |>.takeR 0)
    refine hK.out _ _ hs (fun hHeld => ?_)
    clear hK K
    try simp only [ap1, ap2, ap3, ap4, ap5]
    refine wpAnyH_take (i := 14) (oi := ⟨some 52, _, _, _, _, _⟩) (v := ?_) rfl (by kernel_rfl) (by kernel_rfl) (by kernel_rfl) (fun _ _ _ h => h) (Or.inl ⟨by rfl, ?_⟩) (by assumption) ?_
    rotate_left
    · (intro w hSw; (try dsimp only at hSw); go_simp; try with_reducible rfl)
    try simp only [Act.put, List.setIfInBounds_toArray, List.set_cons_zero, List.set_cons_succ]
    refine wpAnyH_ready (rs := [15]) (by kernel_rfl) (by simp) ?_
    refine AllReadyH.cons (o := ⟨none, _, _, _, _, _⟩) rfl (fun K hK => ?_) AllReadyH.nil
    refine step_sld HK0 0 (by rfl) _ _ (by rfl) (by rfl) (by rfl) (by rfl) ?_; intro _ HK'; simp only [List.set] at HK'; replace HK0 := HK'; clear HK'; have hs := Lib.hid ((HK0.out.takeL 2).dropL 1 |>.takeR 0)
    refine hK.out _ _ hs (fun hHeld => ?_)
    clear hK K
    try simp only [ap1, ap2, ap3, ap4, ap5]
    refine wpAnyH_done (by kernel_rfl) ?_ _
    rotate_left
    refine step_of_exec (by rfl) (kl_d_ HK0 0 _ (by rfl) (by rfl) (by rfl)) ?_; have hs := Lib.hid ((HK0.out.takeL 2).dropL 1 |>.takeR 0)
    refine hK.out _ _ hs (fun hHeld => ?_)
    clear hK K
    try simp only [ap1, ap2, ap3, ap4, ap5]
    refine wpAnyH_ready (rs := [1]) (by kernel_rfl) (by simp) ?_
    refine AllReadyH.cons (o := ⟨some 40, _, _, _, _, _⟩) rfl (fun K hK => ?_) AllReadyH.nil
    refine step_of_exec (by rfl) (kl_h_ HK0 0 _ (by rfl) (by rfl) (by rfl)) ?_; have hs := Lib.hid ((HK0.out.takeL 2).dropL 1 |>.takeR 0)
    refine hK.out _ _ hs (fun hHeld => ?_)
    clear hK K
    try simp only [ap1, ap2, ap3, ap4, ap5]
    refine wpAnyH_ready (rs := [4]) (by kernel_rfl) (by simp) ?_
    refine AllReadyH.cons (o := ⟨some 43, _, _, _, _, _⟩) rfl (fun K hK => ?_) AllReadyH.nil
    go_simp
    go_at_call 31
    refine (HPb.out _ (Sls.own (HK0.out.own 0 rfl) HFb.out)).mono ?_; rintro e w5 ⟨A5, c5, rfl, o5, b5⟩; replace HK0 := Lib.hid (HK0.out.called b5 o5); simp only [List.cons_append, List.nil_append] at HK0; clear o5 b5; have hs := Lib.hid ((HK0.out.takeL 2).dropL 1 |>.takeR 0)
    refine hK.out _ _ hs (fun hHeld => ?_)
    clear hK K
    try simp only [ap1, ap2, ap3, ap4, ap5]
    refine wpAnyH_take (i := 12) (oi := ⟨some 51, _, _, _, _, _⟩) (v := ?_) rfl (by kernel_rfl) (by kernel_rfl) (by kernel_rfl) (fun _ _ _ h => h) (Or.inl ⟨by rfl, ?_⟩) (by assumption) ?_
    rotate_left
    · (intro w hSw; (try dsimp only at hSw); go_simp; try with_reducible rfl)
    try simp only [Act.put, List.setIfInBounds_toArray, List.set_cons_zero, List.set_cons_succ]
    refine wpAnyH_ready (rs := [11]) (by kernel_rfl) (by simp) ?_
    refine AllReadyH.cons (o := ⟨some 50, _, _, _, _, _⟩) rfl (fun K hK => ?_) AllReadyH.nil
    go_simp
    go_at_call 32
    refine (HPs.out _ (Sls.own (HK0.out.own 1 rfl) HFs.out)).mono ?_; rintro e w5 ⟨A6, c6, rfl, o6, b6⟩; replace HK0 := Lib.hid (HK0.out.called b6 o6); simp only [List.cons_append, List.nil_append] at HK0; clear o6 b6; have hs := Lib.hid ((HK0.out.takeL 2).dropL 1 |>.takeR 0)
    refine hK.out _ _ hs (fun hHeld => ?_)
    clear hK K
    try simp only [ap1, ap2, ap3, ap4, ap5]
    refine wpAnyH_ready (rs := [13]) (by kernel_rfl) (by simp) ?_
    refine AllReadyH.cons (o := ⟨none, _, _, _, _, _⟩) rfl (fun K hK => ?_) AllReadyH.nil
    refine step_slh HK0 0 (by rfl) _ _ (by rfl) (by rfl) (by rfl) (by rfl) ?_; intro _ HK'; simp only [List.set] at HK'; replace HK0 := HK'; clear HK'; have hs := Lib.hid ((HK0.out.takeL 2).dropL 1 |>.takeR 0)
    refine hK.out _ _ hs (fun hHeld => ?_)
    clear hK K
    try simp only [ap1, ap2, ap3, ap4, ap5]
    refine wpAnyH_take (i := 14) (oi := ⟨some 52, _, _, _, _, _⟩) (v := ?_) rfl (by kernel_rfl) (by kernel_rfl) (by kernel_rfl) (fun _ _ _ h => h) (Or.inl ⟨by rfl, ?_⟩) (by assumption) ?_
    rotate_left
    · (intro w hSw; (try dsimp only at hSw); go_simp; try with_reducible rfl)
    try simp only [Act.put, List.setIfInBounds_toArray, List.set_cons_zero, List.set_cons_succ]
    refine wpAnyH_ready (rs := [15]) (by kernel_rfl) (by simp) ?_
    refine AllReadyH.cons (o := ⟨none, _, _, _, _, _⟩) rfl (fun K hK => ?_) AllReadyH.nil
    refine step_sld HK0 0 (by rfl) _ _ (by rfl) (by rfl) (by rfl) (by rfl) ?_; intro _ HK'; simp only [List.set] at HK'; replace HK0 := HK'; clear HK'; have hs := Lib.hid ((HK0.out.takeL 2).dropL 1 |>.takeR 0)
    refine hK.out _ _ hs (fun hHeld => ?_)
    clear hK K
    try simp only [ap1, ap2, ap3, ap4, ap5]
    refine wpAnyH_done (by kernel_rfl) ?_ _
    rotate_left
    all_goals
      have HK := HK0
      clear HK0 hHeld
      go_wp2_with (first | refine wpList_exe (kl_l HK 0 _ (by rfl) (by rfl) (by rfl)) (by rfl) ?_ | (refine wpList_sl HK 2 rfl _ _ rfl rfl rfl rfl rfl rfl ?_; intro _ HK'; simp only [List.set] at HK'; replace HK := HK'; clear HK'))
      exact ret_le Try.results15 rfl rfl rfl (HK.out.blk 2 rfl) ⟨_, _, _, _, _, _, rfl, (HK.out.takeL 0).dropR 2⟩
  have hlh : (n : Int) = l.t := by rw [← hl.2.2.1, h1.len]
  have hld : (n2 : Int) = l.t := by rw [← hl.2.2.2, h2.len]
  have hpt : l.t = p.t := by rcases ha.2 with h | ⟨h, _⟩; exact absurd h h0; exact h
  have hkn : k < n := by have := hp.1.2.2.2; omega
  have hkn2 : k < n2 := by omega
  have hz : (l.t == 0) = false := beq_eq_false_iff_ne.2 h0
  obtain ⟨b, o, rfl, hat⟩ := h1.bat (by omega)
  obtain ⟨x, hx, _⟩ := h1.get hkn
  have HX := Lib.hid (fun W hW => hat W hW k x hx)
  have HS1 := Lib.hid h1
  have HS2 := Lib.hid h2
  have hpa : p.a.toNat = k := by omega
  have e1 : Ldm.tk l p = if x = true then l else Ldm.pt l p := by unfold Ldm.tk; rw [if_neg (fun h => h ⟨hl, hp⟩), if_neg (fun h => h ha), if_neg h0, hpa, hx]; cases x <;> rfl
  have e2 : Ldm.tkE l p = if x = true then 8 else 0 := by unfold Ldm.tkE; rw [if_neg (fun h => h ⟨hl, hp⟩), if_neg (fun h => h ha), if_neg h0, hpa, hx]; cases x <;> rfl
  rw [e1, e2]
  clear hl hp ha h0 e1 e2 h1 h2 hat hx hlh hld hpt
  cases x
  case true =>
    simp only [if_true]
    obtain ⟨m, t, s, lh, ld⟩ := l
    obtain ⟨pn, pa, pt, ps, pd⟩ := p
    simp only at *
    subst hk
    clear hpa HS1 HS2
    go_enter Try.func15, Try.ntmps15
    go_wp2_with (first | refine wpList_exe (kl_l HK 0 _ (by rfl) (by rfl) (by rfl)) (by rfl) ?_ | refine wpList_exe (kp_p HK 1 _ (by rfl) (by rfl) (by rfl)) (by rfl) ?_)
    refine (HS.out _).mono ?_; rintro e w1 ⟨rfl, b1⟩
    replace HK := Lib.hid (HK.out.call b1); clear b1
    go_wp2_with (first | refine wpList_exe (kl_l HK 0 _ (by rfl) (by rfl) (by rfl)) (by rfl) ?_ | refine wpList_exe (kp_p HK 1 _ (by rfl) (by rfl) (by rfl)) (by rfl) ?_)
    refine (HR.out _).mono ?_; rintro e w1 ⟨rfl, b1⟩
    replace HK := Lib.hid (HK.out.call b1); clear b1
    go_wp2_with (first | refine wpList_exe (kl_l HK 0 _ (by rfl) (by rfl) (by rfl)) (by rfl) ?_ | refine wpList_exe (kp_p HK 1 _ (by rfl) (by rfl) (by rfl)) (by rfl) ?_)
    refine (HA.out _).mono ?_; rintro e w1 ⟨rfl, b1⟩
    replace HK := Lib.hid (HK.out.call b1); clear b1
    go_wp2_with (first | refine wpList_exe (kl_t_ HK 0 _ (by rfl) (by rfl) (by rfl)) (by rfl) ?_ | refine wpList_exe (kl_h_ HK 0 _ (by rfl) (by rfl) (by rfl)) (by rfl) ?_ | refine wpList_exe (kp_a_ HK 1 _ (by rfl) (by rfl) (by rfl)) (by rfl) ?_ | refine wpList_exe (kl_l HK 0 _ (by rfl) (by rfl) (by rfl)) (by rfl) ?_ | refine wpList_exe (exec_ixb (i := k) _ _ (by rfl) (by rfl) (by rfl) hkn) (by rfl) ?_ | refine wpList_exe (exec_lcb _ (by rfl) (by rfl) (HX.out _ HK.out.b)) (by rfl) ?_)
    refine (HO.out _ HK.out.b).mono ?_; rintro e w3 ⟨A3, n3, c3, A4, n4, c4, rfl, k3⟩; replace HK := Lib.hid (HK.out.join k3); simp only [List.nil_append] at HK; clear k3
    go_wp2_with (first | (refine wpList_sl HK 2 rfl _ _ rfl rfl rfl rfl rfl rfl ?_; intro _ HK'; simp only [List.set] at HK'; replace HK := HK'; clear HK'))
    exact ret_le Try.results15 rfl rfl rfl (HK.out.blk 2 rfl) ⟨_, _, _, _, _, _, rfl, HK.out.takeL 0⟩
  case false =>
    have HE : Hid (Ldm.pt l p = ⟨l.n, l.t, l.s, l.h.set k true, l.d.set k p.d⟩) := Lib.hid (by unfold Ldm.pt; rw [hpa])
    rw [if_neg (by decide), if_neg (by decide), HE.out]
    clear HE hpa HO
    obtain ⟨m, t, s, lh, ld⟩ := l
    obtain ⟨pn, pa, pt, ps, pd⟩ := p
    simp only at *
    subst hk
    go_enter Try.func15, Try.ntmps15
    go_wp2_with (first | refine wpList_exe (kl_l HK 0 _ (by rfl) (by rfl) (by rfl)) (by rfl) ?_ | refine wpList_exe (kp_p HK 1 _ (by rfl) (by rfl) (by rfl)) (by rfl) ?_)
    refine (HS.out _).mono ?_; rintro e w1 ⟨rfl, b1⟩
    replace HK := Lib.hid (HK.out.call b1); clear b1
    go_wp2_with (first | refine wpList_exe (kl_l HK 0 _ (by rfl) (by rfl) (by rfl)) (by rfl) ?_ | refine wpList_exe (kp_p HK 1 _ (by rfl) (by rfl) (by rfl)) (by rfl) ?_)
    refine (HR.out _).mono ?_; rintro e w1 ⟨rfl, b1⟩
    replace HK := Lib.hid (HK.out.call b1); clear b1
    go_wp2_with (first | refine wpList_exe (kl_l HK 0 _ (by rfl) (by rfl) (by rfl)) (by rfl) ?_ | refine wpList_exe (kp_p HK 1 _ (by rfl) (by rfl) (by rfl)) (by rfl) ?_)
    refine (HA.out _).mono ?_; rintro e w1 ⟨rfl, b1⟩
    replace HK := Lib.hid (HK.out.call b1); clear b1
    go_wp2_with (first | refine wpList_exe (kl_t_ HK 0 _ (by rfl) (by rfl) (by rfl)) (by rfl) ?_ | refine wpList_exe (kl_h_ HK 0 _ (by rfl) (by rfl) (by rfl)) (by rfl) ?_ | refine wpList_exe (kp_a_ HK 1 _ (by rfl) (by rfl) (by rfl)) (by rfl) ?_ | refine wpList_exe (kl_l HK 0 _ (by rfl) (by rfl) (by rfl)) (by rfl) ?_ | refine wpList_exe (exec_ixb (i := k) _ _ (by rfl) (by rfl) (by rfl) hkn) (by rfl) ?_ | refine wpList_exe (exec_lcb _ (by rfl) (by rfl) (HX.out _ HK.out.b)) (by rfl) ?_)
    have HPb := Lib.hid (fun W hs => lputb_any (some ⟨b, o, none⟩) n c lh k true W hs hkn)
    have HPs := Lib.hid (fun W hs => lputs_any A2 n2 c2 ld k pd W hs hkn2)
    have HK0 := Lib.hid HK.out.drew
    clear HK HS HR HA
    refine wp_region_held_drew (S := (fun W => Hid (Kn w.heap.size w W [(w.heap.size + 1, 24, pcC pn k pt ps pd)] []))) (by kernel_rfl) ?_ (fun hHeld => ?_)
    · (try dsimp only); exact Lib.hid ((HK0.out.takeL 2).dropL 1 |>.takeR 0)
    refine wpAnyH_take (i := 0) (oi := ⟨some 39, _, _, _, _, _⟩) (v := ?_) rfl (by kernel_rfl) (by kernel_rfl) (by kernel_rfl) (fun _ _ _ h => h) (Or.inl ⟨by rfl, ?_⟩) (by assumption) ?_
    rotate_left
    · (intro w hSw; (try dsimp only at hSw); go_simp; try with_reducible rfl)
    try simp only [Act.put, List.setIfInBounds_toArray, List.set_cons_zero, List.set_cons_succ]
    refine wpAnyH_take (i := 2) (oi := ⟨some 41, _, _, _, _, _⟩) (v := ?_) rfl (by kernel_rfl) (by kernel_rfl) (by kernel_rfl) (fun _ _ _ h => h) (Or.inl ⟨by rfl, ?_⟩) (by assumption) ?_
    rotate_left
    · (intro w hSw; (try dsimp only at hSw); go_simp; try with_reducible rfl)
    try simp only [Act.put, List.setIfInBounds_toArray, List.set_cons_zero, List.set_cons_succ]
    refine wpAnyH_take (i := 3) (oi := ⟨some 42, _, _, _, _, _⟩) (v := ?_) rfl (by kernel_rfl) (by kernel_rfl) (by kernel_rfl) (fun _ _ _ h => h) (Or.inl ⟨by rfl, ?_⟩) (by assumption) ?_
    rotate_left
    · (intro w hSw; refine Eq.trans (kp_a_ hSw 0 _ (by rfl) (by rfl) (by rfl)) ?_; with_reducible rfl)
    try simp only [Act.put, List.setIfInBounds_toArray, List.set_cons_zero, List.set_cons_succ]
    refine wpAnyH_take (i := 5) (oi := ⟨some 44, _, _, _, _, _⟩) (v := ?_) rfl (by kernel_rfl) (by kernel_rfl) (by kernel_rfl) (fun _ _ _ h => h) (Or.inl ⟨by rfl, ?_⟩) (by assumption) ?_
    rotate_left
    · (intro w hSw; (try dsimp only at hSw); go_simp; try with_reducible rfl)
    try simp only [Act.put, List.setIfInBounds_toArray, List.set_cons_zero, List.set_cons_succ]
    refine wpAnyH_take (i := 7) (oi := ⟨some 46, _, _, _, _, _⟩) (v := ?_) rfl (by kernel_rfl) (by kernel_rfl) (by kernel_rfl) (fun _ _ _ h => h) (Or.inl ⟨by rfl, ?_⟩) (by assumption) ?_
    rotate_left
    · (intro w hSw; (try dsimp only at hSw); go_simp; try with_reducible rfl)
    try simp only [Act.put, List.setIfInBounds_toArray, List.set_cons_zero, List.set_cons_succ]
    refine wpAnyH_take (i := 8) (oi := ⟨some 47, _, _, _, _, _⟩) (v := ?_) rfl (by kernel_rfl) (by kernel_rfl) (by kernel_rfl) (fun _ _ _ h => h) (Or.inl ⟨by rfl, ?_⟩) (by assumption) ?_
    rotate_left
    · (intro w hSw; refine Eq.trans (kp_a_ hSw 0 _ (by rfl) (by rfl) (by rfl)) ?_; with_reducible rfl)
    try simp only [Act.put, List.setIfInBounds_toArray, List.set_cons_zero, List.set_cons_succ]
    refine wpAnyH_take (i := 9) (oi := ⟨some 48, _, _, _, _, _⟩) (v := ?_) rfl (by kernel_rfl) (by kernel_rfl) (by kernel_rfl) (fun _ _ _ h => h) (Or.inl ⟨by rfl, ?_⟩) (by assumption) ?_
    rotate_left
    · (intro w hSw; (try dsimp only at hSw); go_simp; try with_reducible rfl)
    try simp only [Act.put, List.setIfInBounds_toArray, List.set_cons_zero, List.set_cons_succ]
    refine wpAnyH_take (i := 10) (oi := ⟨some 49, _, _, _, _, _⟩) (v := ?_) rfl (by kernel_rfl) (by kernel_rfl) (by kernel_rfl) (fun _ _ _ h => h) (Or.inl ⟨by rfl, ?_⟩) (by assumption) ?_
    rotate_left
    · (intro w hSw; refine Eq.trans (kp_d_ hSw 0 _ (by rfl) (by rfl) (by rfl)) ?_; with_reducible rfl)
    try simp only [Act.put, List.setIfInBounds_toArray, List.set_cons_zero, List.set_cons_succ]
    refine wpAnyH_ready (rs := [1, 6]) (by kernel_rfl) (by simp) ?_
    refine AllReadyH.cons (o := ⟨some 40, _, _, _, _, _⟩) rfl (fun K hK => ?_) (AllReadyH.cons (o := ⟨some 45, _, _, _, _, _⟩) rfl (fun K hK => ?_) AllReadyH.nil)
    refine step_of_exec (by rfl) (kl_h_ HK0 0 _ (by rfl) (by rfl) (by rfl)) ?_; have hs := Lib.hid ((HK0.out.takeL 2).dropL 1 |>.takeR 0)
    refine hK.out _ _ hs (fun hHeld => ?_)
    clear hK K
    try simp only [ap1, ap2, ap3, ap4, ap5]
    refine wpAnyH_ready (rs := [4, 6]) (by kernel_rfl) (by simp) ?_
    refine AllReadyH.cons (o := ⟨some 43, _, _, _, _, _⟩) rfl (fun K hK => ?_) (AllReadyH.cons (o := ⟨some 45, _, _, _, _, _⟩) rfl (fun K hK => ?_) AllReadyH.nil)
    go_simp
    go_at_call 31
    refine (HPb.out _ (HS1.out.later HK0.out.b)).mono ?_; rintro e w5 ⟨A5, c5, rfl, o5, b5⟩; replace HK0 := Lib.hid (HK0.out.called b5 o5); simp only [List.cons_append, List.nil_append] at HK0; clear o5 b5; have hs := Lib.hid ((HK0.out.takeL 2).dropL 1 |>.takeR 0)
    refine hK.out _ _ hs (fun hHeld => ?_)
    clear hK K
    try simp only [ap1, ap2, ap3, ap4, ap5]
    refine wpAnyH_ready (rs := [6]) (by kernel_rfl) (by simp) ?_
    refine AllReadyH.cons (o := ⟨some 45, _, _, _, _, _⟩) rfl (fun K hK => ?_) AllReadyH.nil
    refine step_of_exec (by rfl) (kl_d_ HK0 0 _ (by rfl) (by rfl) (by rfl)) ?_; have hs := Lib.hid ((HK0.out.takeL 2).dropL 1 |>.takeR 0)
    refine hK.out _ _ hs (fun hHeld => ?_)
    clear hK K
    try simp only [ap1, ap2, ap3, ap4, ap5]
    refine wpAnyH_take (i := 12) (oi := ⟨some 51, _, _, _, _, _⟩) (v := ?_) rfl (by kernel_rfl) (by kernel_rfl) (by kernel_rfl) (fun _ _ _ h => h) (Or.inl ⟨by rfl, ?_⟩) (by assumption) ?_
    rotate_left
    · (intro w hSw; (try dsimp only at hSw); go_simp; try with_reducible rfl)
    try simp only [Act.put, List.setIfInBounds_toArray, List.set_cons_zero, List.set_cons_succ]
    refine wpAnyH_ready (rs := [11]) (by kernel_rfl) (by simp) ?_
    refine AllReadyH.cons (o := ⟨some 50, _, _, _, _, _⟩) rfl (fun K hK => ?_) AllReadyH.nil
    go_simp
    go_at_call 32
    refine (HPs.out _ (HS2.out.later HK0.out.b)).mono ?_; rintro e w5 ⟨A6, c6, rfl, o6, b6⟩; replace HK0 := Lib.hid (HK0.out.called b6 o6); simp only [List.cons_append, List.nil_append] at HK0; clear o6 b6; have hs := Lib.hid ((HK0.out.takeL 2).dropL 1 |>.takeR 0)
    refine hK.out _ _ hs (fun hHeld => ?_)
    clear hK K
    try simp only [ap1, ap2, ap3, ap4, ap5]
    refine wpAnyH_ready (rs := [13]) (by kernel_rfl) (by simp) ?_
    refine AllReadyH.cons (o := ⟨none, _, _, _, _, _⟩) rfl (fun K hK => ?_) AllReadyH.nil
    refine step_slh HK0 0 (by rfl) _ _ (by rfl) (by rfl) (by rfl) (by rfl) ?_; intro _ HK'; simp only [List.set] at HK'; replace HK0 := HK'; clear HK'; have hs := Lib.hid ((HK0.out.takeL 2).dropL 1 |>.takeR 0)
    refine hK.out _ _ hs (fun hHeld => ?_)
    clear hK K
    try simp only [ap1, ap2, ap3, ap4, ap5]
    refine wpAnyH_take (i := 14) (oi := ⟨some 52, _, _, _, _, _⟩) (v := ?_) rfl (by kernel_rfl) (by kernel_rfl) (by kernel_rfl) (fun _ _ _ h => h) (Or.inl ⟨by rfl, ?_⟩) (by assumption) ?_
    rotate_left
    · (intro w hSw; (try dsimp only at hSw); go_simp; try with_reducible rfl)
    try simp only [Act.put, List.setIfInBounds_toArray, List.set_cons_zero, List.set_cons_succ]
    refine wpAnyH_ready (rs := [15]) (by kernel_rfl) (by simp) ?_
    refine AllReadyH.cons (o := ⟨none, _, _, _, _, _⟩) rfl (fun K hK => ?_) AllReadyH.nil
    refine step_sld HK0 0 (by rfl) _ _ (by rfl) (by rfl) (by rfl) (by rfl) ?_; intro _ HK'; simp only [List.set] at HK'; replace HK0 := HK'; clear HK'; have hs := Lib.hid ((HK0.out.takeL 2).dropL 1 |>.takeR 0)
    refine hK.out _ _ hs (fun hHeld => ?_)
    clear hK K
    try simp only [ap1, ap2, ap3, ap4, ap5]
    refine wpAnyH_done (by kernel_rfl) ?_ _
    rotate_left
    refine step_of_exec (by rfl) (kl_d_ HK0 0 _ (by rfl) (by rfl) (by rfl)) ?_; have hs := Lib.hid ((HK0.out.takeL 2).dropL 1 |>.takeR 0)
    refine hK.out _ _ hs (fun hHeld => ?_)
    clear hK K
    try simp only [ap1, ap2, ap3, ap4, ap5]
    refine wpAnyH_ready (rs := [4]) (by kernel_rfl) (by simp) ?_
    refine AllReadyH.cons (o := ⟨some 43, _, _, _, _, _⟩) rfl (fun K hK => ?_) AllReadyH.nil
    go_simp
    go_at_call 31
    refine (HPb.out _ (HS1.out.later HK0.out.b)).mono ?_; rintro e w5 ⟨A5, c5, rfl, o5, b5⟩; replace HK0 := Lib.hid (HK0.out.called b5 o5); simp only [List.cons_append, List.nil_append] at HK0; clear o5 b5; have hs := Lib.hid ((HK0.out.takeL 2).dropL 1 |>.takeR 0)
    refine hK.out _ _ hs (fun hHeld => ?_)
    clear hK K
    try simp only [ap1, ap2, ap3, ap4, ap5]
    refine wpAnyH_take (i := 12) (oi := ⟨some 51, _, _, _, _, _⟩) (v := ?_) rfl (by kernel_rfl) (by kernel_rfl) (by kernel_rfl) (fun _ _ _ h => h) (Or.inl ⟨by rfl, ?_⟩) (by assumption) ?_
    rotate_left
    · (intro w hSw; (try dsimp only at hSw); go_simp; try with_reducible rfl)
    try simp only [Act.put, List.setIfInBounds_toArray, List.set_cons_zero, List.set_cons_succ]
    refine wpAnyH_ready (rs := [11]) (by kernel_rfl) (by simp) ?_
    refine AllReadyH.cons (o := ⟨some 50, _, _, _, _, _⟩) rfl (fun K hK => ?_) AllReadyH.nil
    go_simp
    go_at_call 32
    refine (HPs.out _ (HS2.out.later HK0.out.b)).mono ?_; rintro e w5 ⟨A6, c6, rfl, o6, b6⟩; replace HK0 := Lib.hid (HK0.out.called b6 o6); simp only [List.cons_append, List.nil_append] at HK0; clear o6 b6; have hs := Lib.hid ((HK0.out.takeL 2).dropL 1 |>.takeR 0)
    refine hK.out _ _ hs (fun hHeld => ?_)
    clear hK K
    try simp only [ap1, ap2, ap3, ap4, ap5]
    refine wpAnyH_ready (rs := [13]) (by kernel_rfl) (by simp) ?_
    refine AllReadyH.cons (o := ⟨none, _, _, _, _, _⟩) rfl (fun K hK => ?_) AllReadyH.nil
    refine step_slh HK0 0 (by rfl) _ _ (by rfl) (by rfl) (by rfl) (by rfl) ?_; intro _ HK'; simp only [List.set] at HK'; replace HK0 := HK'; clear HK'; have hs := Lib.hid ((HK0.out.takeL 2).dropL 1 |>.takeR 0)
    refine hK.out _ _ hs (fun hHeld => ?_)
    clear hK K
    try simp only [ap1, ap2, ap3, ap4, ap5]
    refine wpAnyH_take (i := 14) (oi := ⟨some 52, _, _, _, _, _⟩) (v := ?_) rfl (by kernel_rfl) (by kernel_rfl) (by kernel_rfl) (fun _ _ _ h => h) (Or.inl ⟨by rfl, ?_⟩) (by assumption) ?_
    rotate_left
    · (intro w hSw; (try dsimp only at hSw); go_simp; try with_reducible rfl)
    try simp only [Act.put, List.setIfInBounds_toArray, List.set_cons_zero, List.set_cons_succ]
    refine wpAnyH_ready (rs := [15]) (by kernel_rfl) (by simp) ?_
    refine AllReadyH.cons (o := ⟨none, _, _, _, _, _⟩) rfl (fun K hK => ?_) AllReadyH.nil
    refine step_sld HK0 0 (by rfl) _ _ (by rfl) (by rfl) (by rfl) (by rfl) ?_; intro _ HK'; simp only [List.set] at HK'; replace HK0 := HK'; clear HK'; have hs := Lib.hid ((HK0.out.takeL 2).dropL 1 |>.takeR 0)
    refine hK.out _ _ hs (fun hHeld => ?_)
    clear hK K
    try simp only [ap1, ap2, ap3, ap4, ap5]
    refine wpAnyH_done (by kernel_rfl) ?_ _
    rotate_left
    refine step_of_exec (by rfl) (kl_d_ HK0 0 _ (by rfl) (by rfl) (by rfl)) ?_; have hs := Lib.hid ((HK0.out.takeL 2).dropL 1 |>.takeR 0)
    refine hK.out _ _ hs (fun hHeld => ?_)
    clear hK K
    try simp only [ap1, ap2, ap3, ap4, ap5]
    refine wpAnyH_ready (rs := [1]) (by kernel_rfl) (by simp) ?_
    refine AllReadyH.cons (o := ⟨some 40, _, _, _, _, _⟩) rfl (fun K hK => ?_) AllReadyH.nil
    refine step_of_exec (by rfl) (kl_h_ HK0 0 _ (by rfl) (by rfl) (by rfl)) ?_; have hs := Lib.hid ((HK0.out.takeL 2).dropL 1 |>.takeR 0)
    refine hK.out _ _ hs (fun hHeld => ?_)
    clear hK K
    try simp only [ap1, ap2, ap3, ap4, ap5]
    refine wpAnyH_ready (rs := [4]) (by kernel_rfl) (by simp) ?_
    refine AllReadyH.cons (o := ⟨some 43, _, _, _, _, _⟩) rfl (fun K hK => ?_) AllReadyH.nil
    go_simp
    go_at_call 31
    refine (HPb.out _ (HS1.out.later HK0.out.b)).mono ?_; rintro e w5 ⟨A5, c5, rfl, o5, b5⟩; replace HK0 := Lib.hid (HK0.out.called b5 o5); simp only [List.cons_append, List.nil_append] at HK0; clear o5 b5; have hs := Lib.hid ((HK0.out.takeL 2).dropL 1 |>.takeR 0)
    refine hK.out _ _ hs (fun hHeld => ?_)
    clear hK K
    try simp only [ap1, ap2, ap3, ap4, ap5]
    refine wpAnyH_take (i := 12) (oi := ⟨some 51, _, _, _, _, _⟩) (v := ?_) rfl (by kernel_rfl) (by kernel_rfl) (by kernel_rfl) (fun _ _ _ h => h) (Or.inl ⟨by rfl, ?_⟩) (by assumption) ?_
    rotate_left
    · (intro w hSw; (try dsimp only at hSw); go_simp; try with_reducible rfl)
    try simp only [Act.put, List.setIfInBounds_toArray, List.set_cons_zero, List.set_cons_succ]
    refine wpAnyH_ready (rs := [11]) (by kernel_rfl) (by simp) ?_
    refine AllReadyH.cons (o := ⟨some 50, _, _, _, _, _⟩) rfl (fun K hK => ?_) AllReadyH.nil
    go_simp
    go_at_call 32
    refine (HPs.out _ (HS2.out.later HK0.out.b)).mono ?_; rintro e w5 ⟨A6, c6, rfl, o6, b6⟩; replace HK0 := Lib.hid (HK0.out.called b6 o6); simp only [List.cons_append, List.nil_append] at HK0; clear o6 b6; have hs := Lib.hid ((HK0.out.takeL 2).dropL 1 |>.takeR 0)
    refine hK.out _ _ hs (fun hHeld => ?_)
    clear hK K
    try simp only [ap1, ap2, ap3, ap4, ap5]
    refine wpAnyH_ready (rs := [13]) (by kernel_rfl) (by simp) ?_
    refine AllReadyH.cons (o := ⟨none, _, _, _, _, _⟩) rfl (fun K hK => ?_) AllReadyH.nil
    refine step_slh HK0 0 (by rfl) _ _ (by rfl) (by rfl) (by rfl) (by rfl) ?_; intro _ HK'; simp only [List.set] at HK'; replace HK0 := HK'; clear HK'; have hs := Lib.hid ((HK0.out.takeL 2).dropL 1 |>.takeR 0)
    refine hK.out _ _ hs (fun hHeld => ?_)
    clear hK K
    try simp only [ap1, ap2, ap3, ap4, ap5]
    refine wpAnyH_take (i := 14) (oi := ⟨some 52, _, _, _, _, _⟩) (v := ?_) rfl (by kernel_rfl) (by kernel_rfl) (by kernel_rfl) (fun _ _ _ h => h) (Or.inl ⟨by rfl, ?_⟩) (by assumption) ?_
    rotate_left
    · (intro w hSw; (try dsimp only at hSw); go_simp; try with_reducible rfl)
    try simp only [Act.put, List.setIfInBounds_toArray, List.set_cons_zero, List.set_cons_succ]
    refine wpAnyH_ready (rs := [15]) (by kernel_rfl) (by simp) ?_
    refine AllReadyH.cons (o := ⟨none, _, _, _, _, _⟩) rfl (fun K hK => ?_) AllReadyH.nil
    refine step_sld HK0 0 (by rfl) _ _ (by rfl) (by rfl) (by rfl) (by rfl) ?_; intro _ HK'; simp only [List.set] at HK'; replace HK0 := HK'; clear HK'; have hs := Lib.hid ((HK0.out.takeL 2).dropL 1 |>.takeR 0)
    refine hK.out _ _ hs (fun hHeld => ?_)
    clear hK K
    try simp only [ap1, ap2, ap3, ap4, ap5]
    refine wpAnyH_done (by kernel_rfl) ?_ _
    rotate_left
    all_goals
      have HK := HK0
      clear HK0 hHeld
      go_wp2_with (first | refine wpList_exe (kl_l HK 0 _ (by rfl) (by rfl) (by rfl)) (by rfl) ?_ | (refine wpList_sl HK 2 rfl _ _ rfl rfl rfl rfl rfl rfl ?_; intro _ HK'; simp only [List.set] at HK'; replace HK := HK'; clear HK'))
      exact ret_le Try.results15 rfl rfl rfl (HK.out.blk 2 rfl) ⟨_, _, _, _, _, _, rfl, HK.out.takeL 0⟩
end Go.Proofs.Ytfboneehnmbklaa
