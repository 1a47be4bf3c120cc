/-
  What Swap returns.
  No condition but what the slice reads as, and that floats' bits fit 64.
-/
import Derived.Test.YtikfjimdkbmjhaaDictCut
set_option linter.unusedSimpArgs false
set_option linter.unusedVariables false
namespace Go.Proofs.Ytikfjimdkbmjhaa
open Go.RowKit

set_option maxRecDepth 100000 in
set_option maxHeartbeats 12800000 in
theorem swap_any (A : Option Addr) (c n : Nat) (l : List Dct.Pr) (key : ByteArray) (o v : Val.V) (w : World) (hs : Sl w A n c l) (hv : v.f < 18446744073709551616) :
    Calls Try.prog 18 #[.slice A n c, .string key, vv o, vv v] w (IsPVE (Dct.swL l key o v) (Dct.swV l key o) (Dct.swE l key o v) w) := by
  have HG := Lib.hid (fun W (hW : Below w.heap.size w W) => get_any A c n l key W (hs.later hW))
  have HS := Lib.hid hs
  by_cases hr : Dct.Right l
  case neg =>
    obtain ⟨e1, e2, e3⟩ := Dct.sw_bad hr key o v
    obtain ⟨g1, g2⟩ := Dct.gt_bad hr key
    rw [g1, g2] at HG
    rw [e1, e2, e3]
    clear e1 e2 e3 g1 g2 hr hs
    obtain ⟨ok, om, of, os⟩ := o
    obtain ⟨vk, vm, vf, vs⟩ := v
    unfold IsVE IsPVE vv Dct.emp at *
    simp only at HG ⊢
    have HK := kn2 w 25 (vC ok om of os) 25 (vC vk vm vf vs)
    unfold vC at HK
    go_enter Try.func18, Try.ntmps18
    go_wp2_with (first | (refine wpList_akv HK rfl rfl ?_; intro _ ga HK'; simp only [List.cons_append, List.nil_append] at HK'; replace HK := HK'; clear HK'))
    refine (HG.out _ HK.out.b).mono ?_; rintro e w1 ⟨rfl, b1⟩
    replace HK := Lib.hid (HK.out.call b1)
    clear b1
    go_wp2_with (first | (refine wpList_akv HK rfl rfl ?_; intro _ gb HK'; simp only [List.cons_append, List.nil_append] at HK'; replace HK := HK'; clear HK') | (refine wpList_sv (f2 := 0) HK 3 rfl _ _ rfl rfl rfl rfl ?_; intro _ HK'; simp only [List.set] at HK'; replace HK := HK'; clear HK') | (refine wpList_ms1 HK rfl _ rfl rfl ?_; intro w2 g3 HK' _; simp only [List.cons_append, List.nil_append] at HK'; replace HK := HK'; clear HK'))
    refine (join1_any HK 4 rfl (HS.out.later HK.out.b)).mono ?_; rintro e w3 ⟨A4, n4, c4, rfl, o4, b4⟩
    replace HK := Lib.hid (HK.out.called b4 o4)
    clear o4 b4
    go_wp2_with (first | (refine wpList_sv (f2 := 0) HK 2 rfl _ _ rfl rfl rfl rfl ?_; intro _ HK'; simp only [List.set] at HK'; replace HK := HK'; clear HK'))
    exact ret_pve Try.results18 rfl rfl rfl rfl (HK.out.blk 2 rfl) ⟨A4, n4, c4, rfl, HK.out.own 0 rfl, HK.out.b⟩
  case pos =>
  have hnb := Dct.gt_nb hr key
  by_cases ho : Dct.gtV l key = o
  case neg =>
    obtain ⟨e1, e2, e3⟩ := Dct.sw_unlike hr v ho
    rw [e1, e2, e3]
    clear e1 e2 e3 hr hs
    generalize Dct.gtV l key = t at *
    generalize Dct.gtE l key = X at *
    have hne := Lib.hid (show (!decide (t = o)) = true by rw [decide_eq_false ho]; rfl)
    clear ho
    have hx2 : (X == 1) = false := by simpa using hnb
    obtain ⟨ok, om, of, os⟩ := o
    obtain ⟨vk, vm, vf, vs⟩ := v
    obtain ⟨tk, tm, tf, ts⟩ := t
    unfold IsVE IsPVE vv at *
    simp only at HG ⊢
    have HK := kn2 w 25 (vC ok om of os) 25 (vC vk vm vf vs)
    unfold vC at HK
    go_enter Try.func18, Try.ntmps18
    go_wp2_with (first | (refine wpList_akv HK rfl rfl ?_; intro _ ga HK'; simp only [List.cons_append, List.nil_append] at HK'; replace HK := HK'; clear HK'))
    refine (HG.out _ HK.out.b).mono ?_; rintro e w1 ⟨rfl, b1⟩
    replace HK := Lib.hid (HK.out.call b1)
    clear b1
    go_wp2_with (first | (refine wpList_akv HK rfl rfl ?_; intro _ gb HK'; simp only [List.cons_append, List.nil_append] at HK'; replace HK := HK'; clear HK') | (refine wpList_sv (f2 := tf) HK 3 rfl _ _ rfl rfl rfl rfl ?_; intro _ HK'; simp only [List.set] at HK'; replace HK := HK'; clear HK') | refine wpList_of_exec (by rfl) (kexec_vv HK 3 _ (by rfl) (by rfl) (by rfl)) ?_ | refine wpList_of_exec (by rfl) (kexec_vv HK 0 _ (by rfl) (by rfl) (by rfl)) ?_ | refine wpList_of_exec (by rfl) (exec_vne (v := ⟨tk, tm, tf, ts⟩) (u := ⟨ok, om, of, os⟩) _ _ (by rfl) (by rfl) (by rfl) hne.out) ?_)
    have HK0 := Lib.hid HK.out.drew
    refine wp_region_held_drew (S := (fun W => Hid (Kn w.heap.size w W [(gb, 25, vC tk tm tf ts)] []))) (by kernel_rfl) ?_ (fun hHeld => ?_)
    · (try dsimp only); exact Lib.hid (HK.out.drew.dropL 3)
    refine wpAnyH_take (i := 0) (oi := ⟨some 32, _, _, _, _, _⟩) (v := ?_) rfl (by kernel_rfl) (by kernel_rfl) (by kernel_rfl) (fun _ _ _ h => h) (Or.inl ⟨by rfl, ?_⟩) (by assumption) ?_
    rotate_left
    · (intro w hSw; (try dsimp only at hSw); go_simp; try with_reducible rfl)
    try simp only [Act.put, List.setIfInBounds_toArray, List.set_cons_zero, List.set_cons_succ]
    refine wpAnyH_take (i := 3) (oi := ⟨some 35, _, _, _, _, _⟩) (v := ?_) rfl (by kernel_rfl) (by kernel_rfl) (by kernel_rfl) (fun _ _ _ h => h) (Or.inl ⟨by rfl, ?_⟩) (by assumption) ?_
    rotate_left
    · (intro w hSw; refine Eq.trans (kexec_vv hSw 0 _ (by rfl) (by rfl) (by rfl)) ?_; with_reducible rfl)
    try simp only [Act.put, List.setIfInBounds_toArray, List.set_cons_zero, List.set_cons_succ]
    refine wpAnyH_ready (rs := [1]) (by kernel_rfl) (by simp) ?_
    refine AllReadyH.cons (o := ⟨some 33, _, _, _, _, _⟩) rfl (fun K hK => ?_) AllReadyH.nil
    refine step_ms1 HK0 (by rfl) _ (by rfl) (by rfl) ?_; intro w2 g3 HK' bb; simp only [List.cons_append, List.nil_append] at HK'; have hs := Lib.hid (hHeld.out.call bb.out); replace HK0 := HK'; clear HK' bb
    refine hK.out _ _ hs (fun hHeld => ?_)
    clear hK K
    try simp only [Act.put, List.setIfInBounds_toArray, List.set_cons_zero, List.set_cons_succ]
    refine wpAnyH_ready (rs := [2]) (by kernel_rfl) (by simp) ?_
    refine AllReadyH.cons (o := ⟨some 34, _, _, _, _, _⟩) rfl (fun K hK => ?_) AllReadyH.nil
    go_simp
    go_at_call 25
    refine (join1_any HK0 4 rfl (HS.out.later HK0.out.b)).mono ?_; rintro e w5 ⟨A4, n4, c4, rfl, o4, b5⟩; have hs := Lib.hid (hHeld.out.call b5); replace HK0 := Lib.hid (HK0.out.called b5 o4); clear b5 o4
    refine hK.out _ _ hs (fun hHeld => ?_)
    clear hK K
    try simp only [Act.put, List.setIfInBounds_toArray, List.set_cons_zero, List.set_cons_succ]
    refine wpAnyH_take (i := 4) (oi := ⟨some 8, _, _, _, _, _⟩) (v := ?_) rfl (by kernel_rfl) (by kernel_rfl) (by kernel_rfl) (fun _ _ _ h => h) (Or.inl ⟨by rfl, ?_⟩) (by assumption) ?_
    rotate_left
    · (intro w hSw; (try dsimp only at hSw); go_simp; try with_reducible rfl)
    try simp only [Act.put, List.setIfInBounds_toArray, List.set_cons_zero, List.set_cons_succ]
    refine wpAnyH_ready (rs := [5]) (by kernel_rfl) (by simp) ?_
    refine AllReadyH.cons (o := ⟨none, _, _, _, _, _⟩) rfl (fun K hK => ?_) AllReadyH.nil
    refine step_sv (f2 := tf) HK0 2 (by rfl) _ _ (by rfl) (by rfl) (by rfl) (by rfl) ?_; intro wq HK'; simp only [List.set] at HK'; replace HK0 := HK'; clear HK'; have hs := Lib.hid (((HK0.out.dropL 3).takeL 1).takeR 0)
    refine hK.out _ _ hs (fun hHeld => ?_)
    clear hK K
    try simp only [Act.put, List.setIfInBounds_toArray, List.set_cons_zero, List.set_cons_succ]
    refine wpAnyH_take (i := 6) (oi := ⟨some 10, _, _, _, _, _⟩) (v := ?_) rfl (by kernel_rfl) (by kernel_rfl) (by kernel_rfl) (fun _ _ _ h => h) (Or.inl ⟨by rfl, ?_⟩) (by assumption) ?_
    rotate_left
    · (intro w hSw; (try dsimp only at hSw); go_simp; try with_reducible rfl)
    try simp only [Act.put, List.setIfInBounds_toArray, List.set_cons_zero, List.set_cons_succ]
    refine wpAnyH_done (by kernel_rfl) ?_ _
    all_goals
      go_wp2_with fail
      exact ret_pve Try.results18 rfl rfl rfl rfl (HK0.out.blk 2 rfl) ⟨A4, n4, c4, rfl, HK0.out.own 0 rfl, HK0.out.b⟩
  case pos =>
  by_cases hve : v = Dct.emp
  case pos =>
    obtain ⟨e1, e2, e3⟩ := Dct.sw_cut hr ho
    have HW := Lib.hid (fun W (hW : Below w.heap.size w W) => dwo_any A c n l key W (hs.later hW) hr.up)
    rw [hve, e1, e2, e3]
    rw [ho] at HG
    clear e1 e2 e3 hr hs ho
    generalize Dct.gtE l key = X at *
    generalize Dct.wo l key = r at *
    have hne := Lib.hid (show (!decide (o = o)) = false by simp)
    have hve2 := Lib.hid (show decide ((⟨0, 0, 0, ⟨#[]⟩⟩ : Val.V) = ⟨0, 0, 0, ⟨#[]⟩⟩) = true by simp)
    clear hve
    have hx2 : (X == 1) = false := by simpa using hnb
    obtain ⟨ok, om, of, os⟩ := o
    unfold IsVE IsPVE vv Dct.emp at *
    simp only at HG ⊢
    have HK := kn2 w 25 (vC ok om of os) 25 (vC 0 0 0 ⟨#[]⟩)
    unfold vC at HK
    go_enter Try.func18, Try.ntmps18
    go_wp2_with (first | (refine wpList_akv HK rfl rfl ?_; intro _ ga HK'; simp only [List.cons_append, List.nil_append] at HK'; replace HK := HK'; clear HK'))
    refine (HG.out _ HK.out.b).mono ?_; rintro e w1 ⟨rfl, b1⟩
    replace HK := Lib.hid (HK.out.call b1)
    clear b1
    go_wp2_with (first | (refine wpList_akv HK rfl rfl ?_; intro _ gb HK'; simp only [List.cons_append, List.nil_append] at HK'; replace HK := HK'; clear HK') | (refine wpList_sv (f2 := of) HK 3 rfl _ _ rfl rfl rfl rfl ?_; intro _ HK'; simp only [List.set] at HK'; replace HK := HK'; clear HK') | refine wpList_of_exec (by rfl) (kexec_vv HK 3 _ (by rfl) (by rfl) (by rfl)) ?_ | refine wpList_of_exec (by rfl) (kexec_vv HK 0 _ (by rfl) (by rfl) (by rfl)) ?_ | refine wpList_of_exec (by rfl) (kexec_vv HK 1 _ (by rfl) (by rfl) (by rfl)) ?_ | refine wpList_of_exec (by rfl) (exec_vne (v := ⟨ok, om, of, os⟩) (u := ⟨ok, om, of, os⟩) _ _ (by rfl) (by rfl) (by rfl) hne.out) ?_ | refine wpList_of_exec (by rfl) (exec_veq (v := ⟨0, 0, 0, ⟨#[]⟩⟩) (u := ⟨0, 0, 0, ⟨#[]⟩⟩) _ _ (by rfl) (by rfl) (by rfl) hve2.out) ?_)
    refine (HW.out _ HK.out.b).mono ?_; rintro e w3 ⟨A4, n4, c4, rfl, o4, b4⟩
    replace HK := Lib.hid (HK.out.called b4 o4)
    clear o4 b4
    go_wp2_with (first | (refine wpList_sv (f2 := 0) HK 2 rfl _ _ rfl rfl rfl rfl ?_; intro _ HK'; simp only [List.set] at HK'; replace HK := HK'; clear HK'))
    exact ret_pve Try.results18 rfl rfl rfl rfl (HK.out.blk 2 rfl) ⟨A4, n4, c4, rfl, HK.out.own 0 rfl, HK.out.b⟩
  case neg =>
    obtain ⟨e1, e2, e3⟩ := Dct.sw_put hr ho hve
    have HP := Lib.hid (fun W (hW : Below w.heap.size w W) => put_any A c n l key v W (hs.later hW) hv)
    rw [e1, e2, e3]
    rw [ho] at HG
    clear e1 e2 e3 hr hs ho hv
    generalize Dct.gtE l key = X at *
    generalize Dct.ptE l key v = y at *
    generalize Dct.ptL l key v = r at *
    have hne := Lib.hid (show (!decide (o = o)) = false by simp)
    have hve2 := Lib.hid (show decide (v = ⟨0, 0, 0, ⟨#[]⟩⟩) = false from decide_eq_false hve)
    clear hve
    have hx2 : (X == 1) = false := by simpa using hnb
    obtain ⟨ok, om, of, os⟩ := o
    obtain ⟨vk, vm, vf, vs⟩ := v
    unfold IsVE IsPVE IsPE vv Dct.emp at *
    simp only at HG HP ⊢
    have HK := kn2 w 25 (vC ok om of os) 25 (vC vk vm vf vs)
    unfold vC at HK
    go_enter Try.func18, Try.ntmps18
    go_wp2_with (first | (refine wpList_akv HK rfl rfl ?_; intro _ ga HK'; simp only [List.cons_append, List.nil_append] at HK'; replace HK := HK'; clear HK'))
    refine (HG.out _ HK.out.b).mono ?_; rintro e w1 ⟨rfl, b1⟩
    replace HK := Lib.hid (HK.out.call b1)
    clear b1
    go_wp2_with (first | (refine wpList_akv HK rfl rfl ?_; intro _ gb HK'; simp only [List.cons_append, List.nil_append] at HK'; replace HK := HK'; clear HK') | (refine wpList_sv (f2 := of) HK 3 rfl _ _ rfl rfl rfl rfl ?_; intro _ HK'; simp only [List.set] at HK'; replace HK := HK'; clear HK') | refine wpList_of_exec (by rfl) (kexec_vv HK 3 _ (by rfl) (by rfl) (by rfl)) ?_ | refine wpList_of_exec (by rfl) (kexec_vv HK 0 _ (by rfl) (by rfl) (by rfl)) ?_ | refine wpList_of_exec (by rfl) (kexec_vv HK 1 _ (by rfl) (by rfl) (by rfl)) ?_ | refine wpList_of_exec (by rfl) (exec_vne (v := ⟨ok, om, of, os⟩) (u := ⟨ok, om, of, os⟩) _ _ (by rfl) (by rfl) (by rfl) hne.out) ?_ | refine wpList_of_exec (by rfl) (exec_veq (v := ⟨vk, vm, vf, vs⟩) (u := ⟨0, 0, 0, ⟨#[]⟩⟩) _ _ (by rfl) (by rfl) (by rfl) hve2.out) ?_)
    refine (HP.out _ HK.out.b).mono ?_; rintro e w3 ⟨A4, n4, c4, rfl, o4, b4⟩
    replace HK := Lib.hid (HK.out.called b4 o4)
    clear o4 b4
    go_wp2_with (first | (refine wpList_sv (f2 := 0) HK 2 rfl _ _ rfl rfl rfl rfl ?_; intro _ HK'; simp only [List.set] at HK'; replace HK := HK'; clear HK'))
    exact ret_pve Try.results18 rfl rfl rfl rfl (HK.out.blk 2 rfl) ⟨A4, n4, c4, rfl, HK.out.own 0 rfl, HK.out.b⟩
end Go.Proofs.Ytikfjimdkbmjhaa
