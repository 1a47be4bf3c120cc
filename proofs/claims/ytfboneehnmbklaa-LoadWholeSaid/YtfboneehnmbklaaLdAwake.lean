/-
  What the laws' own 'awake' returns.
  No condition.
-/
import Derived.Test.YtfboneehnmbklaaLdTake
import Derived.Test.YtfboneehnmbklaaLdCut
import Derived.Test.YtfboneehnmbklaaLdWhole
set_option linter.unusedSimpArgs false
set_option linter.unusedVariables false
namespace Go.Proofs.Ytfboneehnmbklaa
open Go.RowKit

/-- The document's example. -/
def awS : ByteArray := ⟨(List.append [48, 49, 50, 51, 52, 53, 54, 55, 56, 57, 48, 49, 50, 51, 52, 53, 54, 55, 56, 57, 48, 49, 50, 51, 52, 53, 54, 55, 56, 57, 48, 49, 50] [51, 52, 53, 54, 55, 56, 57, 48, 49, 50, 51, 52, 53, 54, 55, 56, 57, 48, 49, 50, 51, 52, 53, 54, 55, 56, 57, 48, 49, 50, 51, 97, 98]).toArray⟩
theorem awS_size : awS.size = 66 := by decide +kernel
theorem awS_ct : Ldm.ct 3 awS 1 = ⟨3, 1, 2, Crc.more 0 awS.data.toList, ⟨#[97, 98]⟩⟩ ∧ Ldm.ctE awS 1 = 0 := by
  have h := ct_ok (v := 3) (k := 1) (s := awS) (by rw [awS_size]; decide) (by rw [awS_size]; decide)
  have e1 : Ldm.cn awS.size = 2 := by rw [awS_size]; rfl
  have e2 : awS.extract (1 * 64) (if awS.size ≤ 1 * 64 + 64 then awS.size else 1 * 64 + 64) = ⟨#[97, 98]⟩ := by rw [awS_size]; decide +kernel
  rw [e1, e2] at h
  exact h
theorem aw_pr (C : Nat) : Ldm.PR ⟨3, 1, 2, C, ⟨#[97, 98]⟩⟩ := ⟨by simp, fun h => by simp at h, fun _ => ⟨by show 2 ≤ 64; decide, .inl (by show 0 < 2; decide)⟩⟩
theorem aw_tk (C : Nat) : Ldm.tk ⟨3, 0, 0, [], []⟩ ⟨3, 1, 2, C, ⟨#[97, 98]⟩⟩ = ⟨3, 2, C, [false, true], [⟨#[]⟩, ⟨#[97, 98]⟩]⟩ ∧ Ldm.tkE ⟨3, 0, 0, [], []⟩ ⟨3, 1, 2, C, ⟨#[97, 98]⟩⟩ = 0 := by
  have hl : Ldm.LR ⟨3, 0, 0, [], []⟩ := ⟨by simp, by simp, rfl, rfl⟩
  have ha : Ldm.AL ⟨3, 0, 0, [], []⟩ ⟨3, 1, 2, C, ⟨#[97, 98]⟩⟩ := ⟨rfl, .inl rfl⟩
  constructor
  · unfold Ldm.tk
    rw [if_neg (fun h => h ⟨hl, aw_pr C⟩), if_neg (fun h => h ha), if_pos rfl]
    rfl
  · unfold Ldm.tkE
    rw [if_neg (fun h => h ⟨hl, aw_pr C⟩), if_neg (fun h => h ha), if_pos rfl]
theorem aw_ms (C : Nat) : Ldm.ms ⟨3, 2, C, [false, true], [⟨#[]⟩, ⟨#[97, 98]⟩]⟩ = 0 := by
  unfold Ldm.ms
  rw [if_neg (fun h => h.elim (fun h => by simp at h) (fun h => h ⟨by simp, by simp, rfl, rfl⟩))]
  rfl
theorem aw_wh (C : Nat) : Ldm.wh ⟨3, 2, C, [false, true], [⟨#[]⟩, ⟨#[97, 98]⟩]⟩ = ⟨#[]⟩ ∧ Ldm.whE ⟨3, 2, C, [false, true], [⟨#[]⟩, ⟨#[97, 98]⟩]⟩ = 5 := by
  have h : Ldm.ms ⟨3, 2, C, [false, true], [⟨#[]⟩, ⟨#[97, 98]⟩]⟩ ≠ -1 := by rw [aw_ms]; decide
  exact ⟨by unfold Ldm.wh; rw [if_pos h], by unfold Ldm.whE; rw [if_pos h]⟩
set_option maxRecDepth 100000 in
set_option maxHeartbeats 12800000 in
theorem lawake_any (w : World) : Calls Try.prog 10 #[] w (IsB true w) := by
  have HN := Lib.hid (fun W => count_any awS W (by rw [awS_size]; decide))
  have HC := Lib.hid (fun W => lcut_any 3 awS 1 W (by rw [awS_size]; decide))
  rw [awS_ct.1, awS_ct.2] at HC
  have e1 : Ldm.cn awS.size = 2 := by rw [awS_size]; rfl
  rw [e1] at HN
  clear e1
  generalize Crc.more 0 awS.data.toList = C at *
  have HT := Lib.hid (fun W => ltake_any ⟨3, 0, 0, [], []⟩ ⟨3, 1, 2, C, ⟨#[97, 98]⟩⟩ none 0 0 none 0 0 W (Sls.none W) (Sls.none W) (by show 2 ≤ _; decide))
  rw [(aw_tk C).1, (aw_tk C).2] at HT
  have HNew := Lib.hid (fun W => lnew_any 3 W)
  have HFb := Lib.hid (fits_b [false, true] 2 rfl (by decide))
  have HFs := Lib.hid (fits_s [⟨#[]⟩, ⟨#[97, 98]⟩] 2 rfl (by decide) (fun x hx => by simp at hx; rcases hx with rfl | rfl <;> decide))
  have HW := Lib.hid (fun A n c A2 n2 c2 W h1 h2 => lwhole_any ⟨3, 2, C, [false, true], [⟨#[]⟩, ⟨#[97, 98]⟩]⟩ A n c A2 n2 c2 W h1 h2 (by show 2 ≤ _; decide))
  have HM := Lib.hid (fun A n c A2 n2 c2 W h1 h2 => lmiss_any ⟨3, 2, C, [false, true], [⟨#[]⟩, ⟨#[97, 98]⟩]⟩ A n c A2 n2 c2 W h1 h2)
  rw [(aw_wh C).1, (aw_wh C).2] at HW
  rw [aw_ms] at HM
  have HK := Lib.hid (Kn.start w)
  unfold IsPE at HC
  unfold IsLE at HT
  unfold IsSE at HW
  unfold IsI at HM
  unfold IsB
  simp only at *
  go_enter Try.func10, Try.ntmps10
  go_wp2_with fail
  refine (HC.out _).mono ?_; rintro e w1 ⟨rfl, b1⟩
  replace HK := Lib.hid (HK.out.call b1); clear b1
  go_wp2_with (first | (refine wpList_akp HK rfl rfl ?_; intro _ g2 HK'; simp only [List.cons_append, List.nil_append] at HK'; replace HK := HK'; clear HK') | (refine wpList_sp HK 0 rfl _ _ rfl rfl rfl rfl ?_; intro _ HK'; simp only [List.set] at HK'; replace HK := HK'; clear HK'))
  have HK0 := Lib.hid HK.out.drew
  clear HK HC
  refine wp_region_held_drew (S := (fun W => Hid (Kn w.heap.size w W [(g2, 24, pcC 3 1 2 C ⟨#[97, 98]⟩)] []))) (by kernel_rfl) ?_ (fun hHeld => ?_)
  · (try dsimp only); exact HK0
  refine wpAnyH_take (i := 1) (oi := ⟨some 15, _, _, _, _, _⟩) (v := ?_) rfl (by kernel_rfl) (by kernel_rfl) (by kernel_rfl) (fun _ _ _ h => h) (Or.inl ⟨by rfl, ?_⟩) (by assumption) ?_
  rotate_left
  · (intro w hSw; refine Eq.trans (kp_p hSw 0 _ (by rfl) (by rfl) (by rfl)) ?_; with_reducible rfl)
  try simp only [Act.put, List.setIfInBounds_toArray, List.set_cons_zero, List.set_cons_succ]
  refine wpAnyH_ready (rs := [0, 6]) (by kernel_rfl) (by simp) ?_
  refine AllReadyH.cons (o := ⟨some 14, _, _, _, _, _⟩) rfl (fun K hK => ?_) (AllReadyH.cons (o := ⟨some 4, _, _, _, _, _⟩) rfl (fun K hK => ?_) AllReadyH.nil)
  go_simp
  go_at_call 23
  refine (HNew.out _).mono ?_; rintro e w5 ⟨rfl, b5⟩; replace HK0 := Lib.hid (HK0.out.call b5); clear b5; have hs := Lib.hid ((HK0.out.takeL 1).takeR 0)
  refine hK.out _ _ hs (fun hHeld => ?_)
  clear hK K
  try simp only [ap1, ap2, ap3, ap4, ap5]
  refine wpAnyH_ready (rs := [2, 6]) (by kernel_rfl) (by simp) ?_
  refine AllReadyH.cons (o := ⟨some 16, _, _, _, _, _⟩) rfl (fun K hK => ?_) (AllReadyH.cons (o := ⟨some 4, _, _, _, _, _⟩) rfl (fun K hK => ?_) AllReadyH.nil)
  go_simp
  go_at_call 15
  refine (HT.out _).mono ?_; rintro e w3 ⟨A3, n3, c3, A4, n4, c4, rfl, k3⟩; replace HK0 := Lib.hid (HK0.out.join k3); simp only [List.nil_append] at HK0; clear k3; have hs := Lib.hid ((HK0.out.takeL 1).takeR 0)
  refine hK.out _ _ hs (fun hHeld => ?_)
  clear hK K
  try simp only [ap1, ap2, ap3, ap4, ap5]
  refine wpAnyH_take (i := 3) (oi := ⟨some 13, _, _, _, _, _⟩) (v := ?_) rfl (by kernel_rfl) (by kernel_rfl) (by kernel_rfl) (fun _ _ _ h => h) (Or.inl ⟨by rfl, ?_⟩) (by assumption) ?_
  rotate_left
  · (intro w hSw; (try dsimp only at hSw); go_simp; try with_reducible rfl)
  try simp only [Act.put, List.setIfInBounds_toArray, List.set_cons_zero, List.set_cons_succ]
  refine wpAnyH_take (i := 4) (oi := ⟨some 17, _, _, _, _, _⟩) (v := ?_) rfl (by kernel_rfl) (by kernel_rfl) (by kernel_rfl) (fun _ _ _ h => h) (Or.inl ⟨by rfl, ?_⟩) (by assumption) ?_
  rotate_left
  · (intro w hSw; (try dsimp only at hSw); go_simp; try with_reducible rfl)
  try simp only [Act.put, List.setIfInBounds_toArray, List.set_cons_zero, List.set_cons_succ]
  refine wpAnyH_take (i := 5) (oi := ⟨some 18, _, _, _, _, _⟩) (v := ?_) rfl (by kernel_rfl) (by kernel_rfl) (by kernel_rfl) (fun _ _ _ h => h) (Or.inl ⟨by rfl, ?_⟩) (by assumption) ?_
  rotate_left
  · (intro w hSw; (try dsimp only at hSw); go_simp; try with_reducible rfl)
  try simp only [Act.put, List.setIfInBounds_toArray, List.set_cons_zero, List.set_cons_succ]
  refine wpAnyH_ready (rs := [6]) (by kernel_rfl) (by simp) ?_
  refine AllReadyH.cons (o := ⟨some 4, _, _, _, _, _⟩) rfl (fun K hK => ?_) AllReadyH.nil
  refine step_akl HK0 (by rfl) (by rfl) ?_; intro w2 g4 HK' _; simp only [List.cons_append, List.nil_append] at HK'; replace HK0 := HK'; clear HK'; have hs := Lib.hid ((HK0.out.takeL 1).takeR 0)
  refine hK.out _ _ hs (fun hHeld => ?_)
  clear hK K
  try simp only [ap1, ap2, ap3, ap4, ap5]
  refine wpAnyH_ready (rs := [7]) (by kernel_rfl) (by simp) ?_
  refine AllReadyH.cons (o := ⟨none, _, _, _, _, _⟩) rfl (fun K hK => ?_) AllReadyH.nil
  refine step_sl HK0 1 (by rfl) _ _ (by rfl) (by rfl) (by rfl) (by rfl) (by rfl) (by rfl) ?_; intro _ HK'; simp only [List.set] at HK'; replace HK0 := HK'; clear HK'; have hs := Lib.hid ((HK0.out.takeL 1).takeR 0)
  refine hK.out _ _ hs (fun hHeld => ?_)
  clear hK K
  try simp only [ap1, ap2, ap3, ap4, ap5]
  refine wpAnyH_take (i := 8) (oi := ⟨some 5, _, _, _, _, _⟩) (v := ?_) rfl (by kernel_rfl) (by kernel_rfl) (by kernel_rfl) (fun _ _ _ h => h) (Or.inl ⟨by rfl, ?_⟩) (by assumption) ?_
  rotate_left
  · (intro w hSw; (try dsimp only at hSw); go_simp; try with_reducible rfl)
  try simp only [Act.put, List.setIfInBounds_toArray, List.set_cons_zero, List.set_cons_succ]
  refine wpAnyH_done (by kernel_rfl) ?_ _
  rotate_left
  refine step_akl HK0 (by rfl) (by rfl) ?_; intro w2 g4 HK' _; simp only [List.cons_append, List.nil_append] at HK'; replace HK0 := HK'; clear HK'; have hs := Lib.hid ((HK0.out.takeL 1).takeR 0)
  refine hK.out _ _ hs (fun hHeld => ?_)
  clear hK K
  try simp only [ap1, ap2, ap3, ap4, ap5]
  refine wpAnyH_ready (rs := [2]) (by kernel_rfl) (by simp) ?_
  refine AllReadyH.cons (o := ⟨some 16, _, _, _, _, _⟩) rfl (fun K hK => ?_) AllReadyH.nil
  go_simp
  go_at_call 15
  refine (HT.out _).mono ?_; rintro e w3 ⟨A3, n3, c3, A4, n4, c4, rfl, k3⟩; replace HK0 := Lib.hid (HK0.out.join k3); simp only [List.nil_append] at HK0; clear k3; have hs := Lib.hid ((HK0.out.takeL 1).takeR 0)
  refine hK.out _ _ hs (fun hHeld => ?_)
  clear hK K
  try simp only [ap1, ap2, ap3, ap4, ap5]
  refine wpAnyH_take (i := 3) (oi := ⟨some 13, _, _, _, _, _⟩) (v := ?_) rfl (by kernel_rfl) (by kernel_rfl) (by kernel_rfl) (fun _ _ _ h => h) (Or.inl ⟨by rfl, ?_⟩) (by assumption) ?_
  rotate_left
  · (intro w hSw; (try dsimp only at hSw); go_simp; try with_reducible rfl)
  try simp only [Act.put, List.setIfInBounds_toArray, List.set_cons_zero, List.set_cons_succ]
  refine wpAnyH_take (i := 4) (oi := ⟨some 17, _, _, _, _, _⟩) (v := ?_) rfl (by kernel_rfl) (by kernel_rfl) (by kernel_rfl) (fun _ _ _ h => h) (Or.inl ⟨by rfl, ?_⟩) (by assumption) ?_
  rotate_left
  · (intro w hSw; (try dsimp only at hSw); go_simp; try with_reducible rfl)
  try simp only [Act.put, List.setIfInBounds_toArray, List.set_cons_zero, List.set_cons_succ]
  refine wpAnyH_take (i := 5) (oi := ⟨some 18, _, _, _, _, _⟩) (v := ?_) rfl (by kernel_rfl) (by kernel_rfl) (by kernel_rfl) (fun _ _ _ h => h) (Or.inl ⟨by rfl, ?_⟩) (by assumption) ?_
  rotate_left
  · (intro w hSw; (try dsimp only at hSw); go_simp; try with_reducible rfl)
  try simp only [Act.put, List.setIfInBounds_toArray, List.set_cons_zero, List.set_cons_succ]
  refine wpAnyH_ready (rs := [7]) (by kernel_rfl) (by simp) ?_
  refine AllReadyH.cons (o := ⟨none, _, _, _, _, _⟩) rfl (fun K hK => ?_) AllReadyH.nil
  refine step_sl HK0 1 (by rfl) _ _ (by rfl) (by rfl) (by rfl) (by rfl) (by rfl) (by rfl) ?_; intro _ HK'; simp only [List.set] at HK'; replace HK0 := HK'; clear HK'; have hs := Lib.hid ((HK0.out.takeL 1).takeR 0)
  refine hK.out _ _ hs (fun hHeld => ?_)
  clear hK K
  try simp only [ap1, ap2, ap3, ap4, ap5]
  refine wpAnyH_take (i := 8) (oi := ⟨some 5, _, _, _, _, _⟩) (v := ?_) rfl (by kernel_rfl) (by kernel_rfl) (by kernel_rfl) (fun _ _ _ h => h) (Or.inl ⟨by rfl, ?_⟩) (by assumption) ?_
  rotate_left
  · (intro w hSw; (try dsimp only at hSw); go_simp; try with_reducible rfl)
  try simp only [Act.put, List.setIfInBounds_toArray, List.set_cons_zero, List.set_cons_succ]
  refine wpAnyH_done (by kernel_rfl) ?_ _
  rotate_left
  refine step_akl HK0 (by rfl) (by rfl) ?_; intro w2 g4 HK' _; simp only [List.cons_append, List.nil_append] at HK'; replace HK0 := HK'; clear HK'; have hs := Lib.hid ((HK0.out.takeL 1).takeR 0)
  refine hK.out _ _ hs (fun hHeld => ?_)
  clear hK K
  try simp only [ap1, ap2, ap3, ap4, ap5]
  refine wpAnyH_ready (rs := [0]) (by kernel_rfl) (by simp) ?_
  refine AllReadyH.cons (o := ⟨some 14, _, _, _, _, _⟩) rfl (fun K hK => ?_) AllReadyH.nil
  go_simp
  go_at_call 23
  refine (HNew.out _).mono ?_; rintro e w5 ⟨rfl, b5⟩; replace HK0 := Lib.hid (HK0.out.call b5); clear b5; have hs := Lib.hid ((HK0.out.takeL 1).takeR 0)
  refine hK.out _ _ hs (fun hHeld => ?_)
  clear hK K
  try simp only [ap1, ap2, ap3, ap4, ap5]
  refine wpAnyH_ready (rs := [2]) (by kernel_rfl) (by simp) ?_
  refine AllReadyH.cons (o := ⟨some 16, _, _, _, _, _⟩) rfl (fun K hK => ?_) AllReadyH.nil
  go_simp
  go_at_call 15
  refine (HT.out _).mono ?_; rintro e w3 ⟨A3, n3, c3, A4, n4, c4, rfl, k3⟩; replace HK0 := Lib.hid (HK0.out.join k3); simp only [List.nil_append] at HK0; clear k3; have hs := Lib.hid ((HK0.out.takeL 1).takeR 0)
  refine hK.out _ _ hs (fun hHeld => ?_)
  clear hK K
  try simp only [ap1, ap2, ap3, ap4, ap5]
  refine wpAnyH_take (i := 3) (oi := ⟨some 13, _, _, _, _, _⟩) (v := ?_) rfl (by kernel_rfl) (by kernel_rfl) (by kernel_rfl) (fun _ _ _ h => h) (Or.inl ⟨by rfl, ?_⟩) (by assumption) ?_
  rotate_left
  · (intro w hSw; (try dsimp only at hSw); go_simp; try with_reducible rfl)
  try simp only [Act.put, List.setIfInBounds_toArray, List.set_cons_zero, List.set_cons_succ]
  refine wpAnyH_take (i := 4) (oi := ⟨some 17, _, _, _, _, _⟩) (v := ?_) rfl (by kernel_rfl) (by kernel_rfl) (by kernel_rfl) (fun _ _ _ h => h) (Or.inl ⟨by rfl, ?_⟩) (by assumption) ?_
  rotate_left
  · (intro w hSw; (try dsimp only at hSw); go_simp; try with_reducible rfl)
  try simp only [Act.put, List.setIfInBounds_toArray, List.set_cons_zero, List.set_cons_succ]
  refine wpAnyH_take (i := 5) (oi := ⟨some 18, _, _, _, _, _⟩) (v := ?_) rfl (by kernel_rfl) (by kernel_rfl) (by kernel_rfl) (fun _ _ _ h => h) (Or.inl ⟨by rfl, ?_⟩) (by assumption) ?_
  rotate_left
  · (intro w hSw; (try dsimp only at hSw); go_simp; try with_reducible rfl)
  try simp only [Act.put, List.setIfInBounds_toArray, List.set_cons_zero, List.set_cons_succ]
  refine wpAnyH_ready (rs := [7]) (by kernel_rfl) (by simp) ?_
  refine AllReadyH.cons (o := ⟨none, _, _, _, _, _⟩) rfl (fun K hK => ?_) AllReadyH.nil
  refine step_sl HK0 1 (by rfl) _ _ (by rfl) (by rfl) (by rfl) (by rfl) (by rfl) (by rfl) ?_; intro _ HK'; simp only [List.set] at HK'; replace HK0 := HK'; clear HK'; have hs := Lib.hid ((HK0.out.takeL 1).takeR 0)
  refine hK.out _ _ hs (fun hHeld => ?_)
  clear hK K
  try simp only [ap1, ap2, ap3, ap4, ap5]
  refine wpAnyH_take (i := 8) (oi := ⟨some 5, _, _, _, _, _⟩) (v := ?_) rfl (by kernel_rfl) (by kernel_rfl) (by kernel_rfl) (fun _ _ _ h => h) (Or.inl ⟨by rfl, ?_⟩) (by assumption) ?_
  rotate_left
  · (intro w hSw; (try dsimp only at hSw); go_simp; try with_reducible rfl)
  try simp only [Act.put, List.setIfInBounds_toArray, List.set_cons_zero, List.set_cons_succ]
  refine wpAnyH_done (by kernel_rfl) ?_ _
  rotate_left
  all_goals
    have HK := HK0
    clear HK0 hHeld HT HNew
    obtain rfl : n3 = 2 := (HK.out.own (La := bLay) 0 rfl).reads.1
    obtain rfl : n4 = 2 := (HK.out.own (La := sLay) 1 rfl).reads.1
    go_wp2_with (first | refine wpList_exe (kl_l HK 1 _ (by rfl) (by rfl) (by rfl)) (by rfl) ?_)
    refine (HW.out _ _ _ _ _ _ _ (Sls.own (HK.out.own 0 rfl) HFb.out) (Sls.own (HK.out.own 1 rfl) HFs.out)).mono ?_; rintro e w5 ⟨rfl, b1⟩
    replace HK := Lib.hid (HK.out.call b1); clear b1
    go_wp2_with fail
    refine (HN.out _).mono ?_; rintro e w6 ⟨rfl, rfl⟩
    have f4 := HK.out.cell 0 rfl 4 (v := .string ⟨#[97, 98]⟩) rfl
    go_wp2_with (first | refine wpList_exe (kl_l HK 1 _ (by rfl) (by rfl) (by rfl)) (by rfl) ?_)
    refine (HM.out _ _ _ _ _ _ _ (Sls.own (HK.out.own 0 rfl) HFb.out) rfl).mono ?_; rintro e w7 ⟨rfl, b1⟩
    replace HK := Lib.hid (HK.out.call b1); clear b1
    go_wp2_with fail
    go_ret
    exact ⟨rfl, HK.out.b⟩
end Go.Proofs.Ytfboneehnmbklaa
