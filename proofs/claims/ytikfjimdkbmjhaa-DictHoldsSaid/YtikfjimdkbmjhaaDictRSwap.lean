/-
  What the document's Cut, Swap and Same return.
  No condition but what the slices read as, and that floats' bits fit 64.
-/
import Derived.Test.YtikfjimdkbmjhaaDictRPut
set_option linter.unusedSimpArgs false
set_option linter.unusedVariables false
namespace Go.Proofs.Ytikfjimdkbmjhaa
open Go.RowKit

/-- A slice told, new or the one that was handed in, a value, and an error. -/
def IsPVEr (A : Option Addr) (n c : Nat) (l r : List Dct.Pr) (v : Val.V) (x : Int) (w : World) (e : Ending) (w' : World) : Prop := ∃ A' n' c', e = .returned (.tuple #[.slice A' n' c', vv v, .int .i64 x]) ∧ (prLay.Own w.heap.size w' (.slice A' n' c') r ∨ (A' = A ∧ n' = n ∧ c' = c ∧ r = l)) ∧ Below w.heap.size w w'
theorem pver_same {A : Option Addr} {n c : Nat} {l : List Dct.Pr} {k m : Int} {f : Nat} {s : ByteArray} {x : Int} {w w' : World} (hb : Below w.heap.size w w') : IsPVEr A n c l l ⟨k, m, f, s⟩ x w (.returned (.tuple #[.slice A n c, .agg #[.int .i64 k, .int .i64 m, .int .u64 (f : Int), .string s], .int .i64 x])) w' := ⟨A, n, c, rfl, .inr ⟨rfl, rfl, rfl, rfl⟩, hb⟩
theorem pver_own {A A' : Option Addr} {n c n' c' : Nat} {l r : List Dct.Pr} {k m : Int} {f : Nat} {s : ByteArray} {x : Int} {w w' : World} (ho : prLay.Own w.heap.size w' (.slice A' n' c') r) (hb : Below w.heap.size w w') : IsPVEr A n c l r ⟨k, m, f, s⟩ x w (.returned (.tuple #[.slice A' n' c', .agg #[.int .i64 k, .int .i64 m, .int .u64 (f : Int), .string s], .int .i64 x])) w' := ⟨A', n', c', rfl, .inl ho, hb⟩
set_option maxRecDepth 100000 in
set_option maxHeartbeats 12800000 in
theorem rcut_any (A : Option Addr) (c n : Nat) (l : List Dct.Pr) (key : ByteArray) (w : World) (hs : Sl w A n c l) :
    Calls Try.prog 13 #[.slice A n c, .string key] w (IsPVEr A n c l (Dct.ctL l key) (Dct.gtV l key) (Dct.gtE l key) w) := by
  have HG := Lib.hid (fun W (hW : Below w.heap.size w W) => rget_any A c n l key W (hs.later hW))
  have HW := Lib.hid (fun W (hW : Below w.heap.size w W) => rwo_any A c n l key W (hs.later hW))
  unfold Dct.ctL
  by_cases hz : Dct.gtE l key = 0
  · rw [if_pos hz]
    rw [hz] at HG ⊢
    clear hz hs
    generalize Dct.gtV l key = v at *
    generalize Dct.wo l key = r at *
    obtain ⟨k, m, f, s⟩ := v
    unfold IsVE vv at *
    simp only at HG
    have HK := Lib.hid (Kn.start w)
    go_enter Try.func13, Try.ntmps13
    go_wp2_with (first | (refine wpList_akv HK rfl rfl ?_; intro _ g1 HK'; simp only [List.cons_append, List.nil_append] at HK'; replace HK := HK'; clear HK'))
    refine (HG.out _ HK.out.b).mono ?_; rintro e w1 ⟨rfl, b1⟩
    replace HK := Lib.hid (HK.out.call b1)
    clear b1
    go_wp2_with (first | (refine wpList_akv HK rfl rfl ?_; intro _ g2 HK'; simp only [List.cons_append, List.nil_append] at HK'; replace HK := HK'; clear HK') | (refine wpList_sv (f2 := f) HK 1 rfl _ _ rfl rfl rfl rfl ?_; intro _ HK'; simp only [List.set] at HK'; replace HK := HK'; clear HK'))
    have HK0 := Lib.hid HK.out.drew
    clear HG
    refine wp_region_held_drew (S := (fun W => Hid (Kn w.heap.size w W [(g2, 25, vC k m f s)] []))) (by kernel_rfl) ?_ (fun hHeld => ?_)
    · (try dsimp only); exact Lib.hid (HK.out.drew.dropL 1)
    refine wpAnyH_take (i := 0) (oi := ⟨some 20, _, _, _, _, _⟩) (v := ?_) rfl (by kernel_rfl) (by kernel_rfl) (by kernel_rfl) (fun _ _ _ h => h) (Or.inl ⟨by rfl, ?_⟩) (by assumption) ?_
    rotate_left
    · (intro w hSw; (try dsimp only at hSw); go_simp; try with_reducible rfl)
    try simp only [Act.put, List.setIfInBounds_toArray, List.set_cons_zero, List.set_cons_succ]
    refine wpAnyH_take (i := 1) (oi := ⟨some 21, _, _, _, _, _⟩) (v := ?_) rfl (by kernel_rfl) (by kernel_rfl) (by kernel_rfl) (fun _ _ _ h => h) (Or.inl ⟨by rfl, ?_⟩) (by assumption) ?_
    rotate_left
    · (intro w hSw; (try dsimp only at hSw); go_simp; try with_reducible rfl)
    try simp only [Act.put, List.setIfInBounds_toArray, List.set_cons_zero, List.set_cons_succ]
    refine wpAnyH_take (i := 3) (oi := ⟨some 23, _, _, _, _, _⟩) (v := ?_) rfl (by kernel_rfl) (by kernel_rfl) (by kernel_rfl) (fun _ _ _ h => h) (Or.inl ⟨by rfl, ?_⟩) (by assumption) ?_
    rotate_left
    · (intro w hSw; refine Eq.trans (kexec_vv hSw 0 _ (by rfl) (by rfl) (by rfl)) ?_; with_reducible rfl)
    try simp only [Act.put, List.setIfInBounds_toArray, List.set_cons_zero, List.set_cons_succ]
    refine wpAnyH_ready (rs := [2]) (by kernel_rfl) (by simp) ?_
    refine AllReadyH.cons (o := ⟨some 22, _, _, _, _, _⟩) rfl (fun K hK => ?_) AllReadyH.nil
    go_simp
    go_at_call 26
    refine (HW.out _ hHeld.out.b).mono ?_; rintro e w5 ⟨A4, n4, c4, rfl, o4, b5⟩; have hs := Lib.hid (hHeld.out.call b5); replace HK0 := Lib.hid (HK0.out.called b5 o4); clear b5 o4
    refine hK.out _ _ hs (fun hHeld => ?_)
    clear hK K
    try simp only [Act.put, List.setIfInBounds_toArray, List.set_cons_zero, List.set_cons_succ]
    refine wpAnyH_take (i := 4) (oi := ⟨some 4, _, _, _, _, _⟩) (v := ?_) rfl (by kernel_rfl) (by kernel_rfl) (by kernel_rfl) (fun _ _ _ h => h) (Or.inl ⟨by rfl, ?_⟩) (by assumption) ?_
    rotate_left
    · (intro w hSw; (try dsimp only at hSw); go_simp; try with_reducible rfl)
    try simp only [Act.put, List.setIfInBounds_toArray, List.set_cons_zero, List.set_cons_succ]
    refine wpAnyH_ready (rs := [5]) (by kernel_rfl) (by simp) ?_
    refine AllReadyH.cons (o := ⟨none, _, _, _, _, _⟩) rfl (fun K hK => ?_) AllReadyH.nil
    refine step_sv (f2 := f) HK0 0 (by rfl) _ _ (by rfl) (by rfl) (by rfl) (by rfl) ?_; intro wq HK'; simp only [List.set] at HK'; replace HK0 := HK'; clear HK'; have hs := Lib.hid ((HK0.out.dropL 1).takeR 0)
    refine hK.out _ _ hs (fun hHeld => ?_)
    clear hK K
    try simp only [Act.put, List.setIfInBounds_toArray, List.set_cons_zero, List.set_cons_succ]
    refine wpAnyH_take (i := 6) (oi := ⟨some 6, _, _, _, _, _⟩) (v := ?_) rfl (by kernel_rfl) (by kernel_rfl) (by kernel_rfl) (fun _ _ _ h => h) (Or.inl ⟨by rfl, ?_⟩) (by assumption) ?_
    rotate_left
    · (intro w hSw; (try dsimp only at hSw); go_simp; try with_reducible rfl)
    try simp only [Act.put, List.setIfInBounds_toArray, List.set_cons_zero, List.set_cons_succ]
    refine wpAnyH_done (by kernel_rfl) ?_ _
    all_goals
      go_wp2_with fail
      exact ret_pve Try.results13 rfl rfl rfl rfl (HK0.out.blk 0 rfl) (pver_own (HK0.out.own 0 rfl) HK0.out.b)
  · rw [if_neg hz]
    have hv := Dct.gt_ne hz
    rw [hv] at HG ⊢
    generalize Dct.gtE l key = X at *
    have hz2 : (X != 0) = true := by simpa using hz
    clear hv hs HW
    unfold IsVE vv Dct.emp at *
    simp only at HG
    have HK := Lib.hid (Kn.start w)
    go_enter Try.func13, Try.ntmps13
    go_wp2_with (first | (refine wpList_akv HK rfl rfl ?_; intro _ g1 HK'; simp only [List.cons_append, List.nil_append] at HK'; replace HK := HK'; clear HK'))
    refine (HG.out _ HK.out.b).mono ?_; rintro e w1 ⟨rfl, b1⟩
    replace HK := Lib.hid (HK.out.call b1)
    clear b1
    go_wp2_with (first | (refine wpList_akv HK rfl rfl ?_; intro _ g2 HK'; simp only [List.cons_append, List.nil_append] at HK'; replace HK := HK'; clear HK') | (refine wpList_sv (f2 := 0) HK 1 rfl _ _ rfl rfl rfl rfl ?_; intro _ HK'; simp only [List.set] at HK'; replace HK := HK'; clear HK') | (refine wpList_sv (f2 := 0) HK 0 rfl _ _ rfl rfl rfl rfl ?_; intro _ HK'; simp only [List.set] at HK'; replace HK := HK'; clear HK'))
    exact ret_pve Try.results13 rfl rfl rfl rfl (HK.out.blk 0 rfl) (pver_same HK.out.b)
set_option maxRecDepth 100000 in
set_option maxHeartbeats 12800000 in
theorem rswap_any (A : Option Addr) (c n : Nat) (l : List Dct.Pr) (key : ByteArray) (o v : Val.V) (w : World) (hs : Sl w A n c l) (hv : v.f < 18446744073709551616) :
    Calls Try.prog 19 #[.slice A n c, .string key, vv o, vv v] w (IsPVEr A n c l (Dct.swL l key o v) (Dct.swV l key o) (Dct.swE l key o v) w) := by
  have HG := Lib.hid (fun W (hW : Below w.heap.size w W) => rget_any A c n l key W (hs.later hW))
  by_cases hr : Dct.Right l
  case neg =>
    obtain ⟨e1, e2, e3⟩ := Dct.sw_bad hr key o v
    obtain ⟨g1, g2⟩ := Dct.gt_bad hr key
    rw [g1, g2] at HG
    rw [e1, e2, e3]
    clear e1 e2 e3 g1 g2 hr hs
    obtain ⟨ok, om, of, os⟩ := o
    obtain ⟨vk, vm, vf, vs⟩ := v
    unfold IsVE vv Dct.emp at *
    simp only at HG
    have HK := kn2 w 25 (vC ok om of os) 25 (vC vk vm vf vs)
    unfold vC at HK
    go_enter Try.func19, Try.ntmps19
    go_wp2_with (first | (refine wpList_akv HK rfl rfl ?_; intro _ ga HK'; simp only [List.cons_append, List.nil_append] at HK'; replace HK := HK'; clear HK'))
    refine (HG.out _ HK.out.b).mono ?_; rintro e w1 ⟨rfl, b1⟩
    replace HK := Lib.hid (HK.out.call b1)
    clear b1
    go_wp2_with (first | (refine wpList_akv HK rfl rfl ?_; intro _ gb HK'; simp only [List.cons_append, List.nil_append] at HK'; replace HK := HK'; clear HK') | (refine wpList_sv (f2 := 0) HK 3 rfl _ _ rfl rfl rfl rfl ?_; intro _ HK'; simp only [List.set] at HK'; replace HK := HK'; clear HK') | (refine wpList_sv (f2 := 0) HK 2 rfl _ _ rfl rfl rfl rfl ?_; intro _ HK'; simp only [List.set] at HK'; replace HK := HK'; clear HK'))
    exact ret_pve Try.results19 rfl rfl rfl rfl (HK.out.blk 2 rfl) (pver_same HK.out.b)
  case pos =>
  have hnb := Dct.gt_nb hr key
  by_cases ho : Dct.gtV l key = o
  case neg =>
    obtain ⟨e1, e2, e3⟩ := Dct.sw_unlike hr v ho
    rw [e1, e2, e3]
    clear e1 e2 e3 hr hs
    generalize Dct.gtV l key = t at *
    generalize Dct.gtE l key = X at *
    have hne := Lib.hid (show (!decide (t = o)) = true by rw [decide_eq_false ho]; rfl)
    clear ho
    have hx2 : (X == 1) = false := by simpa using hnb
    obtain ⟨ok, om, of, os⟩ := o
    obtain ⟨vk, vm, vf, vs⟩ := v
    obtain ⟨tk, tm, tf, ts⟩ := t
    unfold IsVE vv at *
    simp only at HG
    have HK := kn2 w 25 (vC ok om of os) 25 (vC vk vm vf vs)
    unfold vC at HK
    go_enter Try.func19, Try.ntmps19
    go_wp2_with (first | (refine wpList_akv HK rfl rfl ?_; intro _ ga HK'; simp only [List.cons_append, List.nil_append] at HK'; replace HK := HK'; clear HK'))
    refine (HG.out _ HK.out.b).mono ?_; rintro e w1 ⟨rfl, b1⟩
    replace HK := Lib.hid (HK.out.call b1)
    clear b1
    go_wp2_with (first | (refine wpList_akv HK rfl rfl ?_; intro _ gb HK'; simp only [List.cons_append, List.nil_append] at HK'; replace HK := HK'; clear HK') | (refine wpList_sv (f2 := tf) HK 3 rfl _ _ rfl rfl rfl rfl ?_; intro _ HK'; simp only [List.set] at HK'; replace HK := HK'; clear HK') | refine wpList_of_exec (by rfl) (kexec_vv HK 3 _ (by rfl) (by rfl) (by rfl)) ?_ | refine wpList_of_exec (by rfl) (kexec_vv HK 0 _ (by rfl) (by rfl) (by rfl)) ?_ | refine wpList_of_exec (by rfl) (exec_vne (v := ⟨tk, tm, tf, ts⟩) (u := ⟨ok, om, of, os⟩) _ _ (by rfl) (by rfl) (by rfl) hne.out) ?_)
    have HK0 := Lib.hid HK.out.drew
    refine wp_region_held_drew (S := (fun W => Hid (Kn w.heap.size w W [(gb, 25, vC tk tm tf ts)] []))) (by kernel_rfl) ?_ (fun hHeld => ?_)
    · (try dsimp only); exact Lib.hid (HK.out.drew.dropL 3)
    refine wpAnyH_take (i := 0) (oi := ⟨some 27, _, _, _, _, _⟩) (v := ?_) rfl (by kernel_rfl) (by kernel_rfl) (by kernel_rfl) (fun _ _ _ h => h) (Or.inl ⟨by rfl, ?_⟩) (by assumption) ?_
    rotate_left
    · (intro w hSw; (try dsimp only at hSw); go_simp; try with_reducible rfl)
    try simp only [Act.put, List.setIfInBounds_toArray, List.set_cons_zero, List.set_cons_succ]
    refine wpAnyH_take (i := 1) (oi := ⟨some 28, _, _, _, _, _⟩) (v := ?_) rfl (by kernel_rfl) (by kernel_rfl) (by kernel_rfl) (fun _ _ _ h => h) (Or.inl ⟨by rfl, ?_⟩) (by assumption) ?_
    rotate_left
    · (intro w hSw; refine Eq.trans (kexec_vv hSw 0 _ (by rfl) (by rfl) (by rfl)) ?_; with_reducible rfl)
    try simp only [Act.put, List.setIfInBounds_toArray, List.set_cons_zero, List.set_cons_succ]
    refine wpAnyH_take (i := 2) (oi := ⟨some 8, _, _, _, _, _⟩) (v := ?_) rfl (by kernel_rfl) (by kernel_rfl) (by kernel_rfl) (fun _ _ _ h => h) (Or.inl ⟨by rfl, ?_⟩) (by assumption) ?_
    rotate_left
    · (intro w hSw; (try dsimp only at hSw); go_simp; try with_reducible rfl)
    try simp only [Act.put, List.setIfInBounds_toArray, List.set_cons_zero, List.set_cons_succ]
    refine wpAnyH_ready (rs := [3]) (by kernel_rfl) (by simp) ?_
    refine AllReadyH.cons (o := ⟨none, _, _, _, _, _⟩) rfl (fun K hK => ?_) AllReadyH.nil
    refine step_sv (f2 := tf) HK0 2 (by rfl) _ _ (by rfl) (by rfl) (by rfl) (by rfl) ?_; intro wq HK'; simp only [List.set] at HK'; replace HK0 := HK'; clear HK'; have hs := Lib.hid ((HK0.out.dropL 3).takeR 0)
    refine hK.out _ _ hs (fun hHeld => ?_)
    clear hK K
    try simp only [Act.put, List.setIfInBounds_toArray, List.set_cons_zero, List.set_cons_succ]
    refine wpAnyH_take (i := 4) (oi := ⟨some 10, _, _, _, _, _⟩) (v := ?_) rfl (by kernel_rfl) (by kernel_rfl) (by kernel_rfl) (fun _ _ _ h => h) (Or.inl ⟨by rfl, ?_⟩) (by assumption) ?_
    rotate_left
    · (intro w hSw; (try dsimp only at hSw); go_simp; try with_reducible rfl)
    try simp only [Act.put, List.setIfInBounds_toArray, List.set_cons_zero, List.set_cons_succ]
    refine wpAnyH_done (by kernel_rfl) ?_ _
    all_goals
      go_wp2_with fail
      exact ret_pve Try.results19 rfl rfl rfl rfl (HK0.out.blk 2 rfl) (pver_same HK0.out.b)
  case pos =>
  by_cases hve : v = Dct.emp
  case pos =>
    obtain ⟨e1, e2, e3⟩ := Dct.sw_cut hr ho
    have HW := Lib.hid (fun W (hW : Below w.heap.size w W) => rwo_any A c n l key W (hs.later hW))
    rw [hve, e1, e2, e3]
    rw [ho] at HG
    clear e1 e2 e3 hr hs ho
    generalize Dct.gtE l key = X at *
    generalize Dct.wo l key = r at *
    have hne := Lib.hid (show (!decide (o = o)) = false by simp)
    have hve2 := Lib.hid (show (!decide ((⟨0, 0, 0, ⟨#[]⟩⟩ : Val.V) = ⟨0, 0, 0, ⟨#[]⟩⟩)) = false by simp)
    clear hve
    have hx2 : (X == 1) = false := by simpa using hnb
    obtain ⟨ok, om, of, os⟩ := o
    unfold IsVE IsL vv Dct.emp at *
    simp only at HG
    have HK := kn2 w 25 (vC ok om of os) 25 (vC 0 0 0 ⟨#[]⟩)
    unfold vC at HK
    go_enter Try.func19, Try.ntmps19
    go_wp2_with (first | (refine wpList_akv HK rfl rfl ?_; intro _ ga HK'; simp only [List.cons_append, List.nil_append] at HK'; replace HK := HK'; clear HK'))
    refine (HG.out _ HK.out.b).mono ?_; rintro e w1 ⟨rfl, b1⟩
    replace HK := Lib.hid (HK.out.call b1)
    clear b1
    go_wp2_with (first | (refine wpList_akv HK rfl rfl ?_; intro _ gb HK'; simp only [List.cons_append, List.nil_append] at HK'; replace HK := HK'; clear HK') | (refine wpList_sv (f2 := of) HK 3 rfl _ _ rfl rfl rfl rfl ?_; intro _ HK'; simp only [List.set] at HK'; replace HK := HK'; clear HK') | refine wpList_of_exec (by rfl) (kexec_vv HK 3 _ (by rfl) (by rfl) (by rfl)) ?_ | refine wpList_of_exec (by rfl) (kexec_vv HK 0 _ (by rfl) (by rfl) (by rfl)) ?_ | refine wpList_of_exec (by rfl) (kexec_vv HK 1 _ (by rfl) (by rfl) (by rfl)) ?_ | refine wpList_of_exec (by rfl) (kexec_lc HK 3 _ (by rfl) 1 (by rfl) (by rfl) (v := .int .i64 0) (by rfl) Try.underlying3 rfl) ?_ | refine wpList_of_exec (by rfl) (exec_vne (v := ⟨ok, om, of, os⟩) (u := ⟨ok, om, of, os⟩) _ _ (by rfl) (by rfl) (by rfl) hne.out) ?_ | refine wpList_of_exec (by rfl) (exec_vne (v := ⟨0, 0, 0, ⟨#[]⟩⟩) (u := ⟨0, 0, 0, ⟨#[]⟩⟩) _ _ (by rfl) (by rfl) (by rfl) hve2.out) ?_)
    refine (HW.out _ HK.out.b).mono ?_; rintro e w3 ⟨A4, n4, c4, rfl, o4, b4⟩
    replace HK := Lib.hid (HK.out.called b4 o4)
    clear o4 b4
    go_wp2_with (first | (refine wpList_sv (f2 := 0) HK 2 rfl _ _ rfl rfl rfl rfl ?_; intro _ HK'; simp only [List.set] at HK'; replace HK := HK'; clear HK'))
    exact ret_pve Try.results19 rfl rfl rfl rfl (HK.out.blk 2 rfl) (pver_own (HK.out.own 0 rfl) HK.out.b)
  case neg =>
    obtain ⟨e1, e2, e3⟩ := Dct.sw_put hr ho hve
    by_cases hk0 : v.k = 0
    case pos =>
      have hpc : Dct.pchk key v = 1 := if_pos hk0
      obtain ⟨p1, p2⟩ := Dct.pt_chk hr (k := key) (v := v) (by rw [hpc]; decide)
      rw [e1, e2, e3, p1, p2, hpc]
      rw [ho] at HG
      clear e1 e2 e3 hr hs ho hv p1 p2 hpc
      generalize Dct.gtE l key = X at *
      have hne := Lib.hid (show (!decide (o = o)) = false by simp)
      have hve2 := Lib.hid (show (!decide (v = ⟨0, 0, 0, ⟨#[]⟩⟩)) = true by rw [show decide (v = ⟨0, 0, 0, ⟨#[]⟩⟩) = false from decide_eq_false hve]; rfl)
      clear hve
      have hx2 : (X == 1) = false := by simpa using hnb
      obtain ⟨ok, om, of, os⟩ := o
      obtain ⟨vk, vm, vf, vs⟩ := v
      unfold IsVE vv Dct.emp at *
      simp only at HG hk0
      subst hk0
      have HK := kn2 w 25 (vC ok om of os) 25 (vC 0 vm vf vs)
      unfold vC at HK
      go_enter Try.func19, Try.ntmps19
      go_wp2_with (first | (refine wpList_akv HK rfl rfl ?_; intro _ ga HK'; simp only [List.cons_append, List.nil_append] at HK'; replace HK := HK'; clear HK'))
      refine (HG.out _ HK.out.b).mono ?_; rintro e w1 ⟨rfl, b1⟩
      replace HK := Lib.hid (HK.out.call b1)
      clear b1
      go_wp2_with (first | (refine wpList_akv HK rfl rfl ?_; intro _ gb HK'; simp only [List.cons_append, List.nil_append] at HK'; replace HK := HK'; clear HK') | (refine wpList_sv (f2 := of) HK 3 rfl _ _ rfl rfl rfl rfl ?_; intro _ HK'; simp only [List.set] at HK'; replace HK := HK'; clear HK') | refine wpList_of_exec (by rfl) (kexec_vv HK 3 _ (by rfl) (by rfl) (by rfl)) ?_ | refine wpList_of_exec (by rfl) (kexec_vv HK 0 _ (by rfl) (by rfl) (by rfl)) ?_ | refine wpList_of_exec (by rfl) (kexec_vv HK 1 _ (by rfl) (by rfl) (by rfl)) ?_ | refine wpList_of_exec (by rfl) (kexec_lc HK 3 _ (by rfl) 1 (by rfl) (by rfl) (v := .int .i64 0) (by rfl) Try.underlying3 rfl) ?_ | (refine wpList_sv (f2 := 0) HK 2 rfl _ _ rfl rfl rfl rfl ?_; intro _ HK'; simp only [List.set] at HK'; replace HK := HK'; clear HK') | refine wpList_of_exec (by rfl) (exec_vne (v := ⟨ok, om, of, os⟩) (u := ⟨ok, om, of, os⟩) _ _ (by rfl) (by rfl) (by rfl) hne.out) ?_ | refine wpList_of_exec (by rfl) (exec_vne (v := ⟨0, vm, vf, vs⟩) (u := ⟨0, 0, 0, ⟨#[]⟩⟩) _ _ (by rfl) (by rfl) (by rfl) hve2.out) ?_)
      exact ret_pve Try.results19 rfl rfl rfl rfl (HK.out.blk 2 rfl) (pver_same HK.out.b)
    case neg =>
      have HP := Lib.hid (fun W (hW : Below w.heap.size w W) => rput_any A c n l key v W (hs.later hW) hv)
      rw [e1, e2, e3]
      rw [ho] at HG
      clear e1 e2 e3 hr hs ho hv
      generalize Dct.gtE l key = X at *
      generalize Dct.ptE l key v = y at *
      generalize Dct.ptL l key v = r at *
      have hne := Lib.hid (show (!decide (o = o)) = false by simp)
      clear hve
      have hx2 : (X == 1) = false := by simpa using hnb
      obtain ⟨ok, om, of, os⟩ := o
      obtain ⟨vk, vm, vf, vs⟩ := v
      unfold IsVE IsPEr vv Dct.emp at *
      simp only at HG HP hk0
      have hk02 : (vk == 0) = false := by simpa using hk0
      have HK := kn2 w 25 (vC ok om of os) 25 (vC vk vm vf vs)
      unfold vC at HK
      go_enter Try.func19, Try.ntmps19
      go_wp2_with (first | (refine wpList_akv HK rfl rfl ?_; intro _ ga HK'; simp only [List.cons_append, List.nil_append] at HK'; replace HK := HK'; clear HK'))
      refine (HG.out _ HK.out.b).mono ?_; rintro e w1 ⟨rfl, b1⟩
      replace HK := Lib.hid (HK.out.call b1)
      clear b1
      go_wp2_with (first | (refine wpList_akv HK rfl rfl ?_; intro _ gb HK'; simp only [List.cons_append, List.nil_append] at HK'; replace HK := HK'; clear HK') | (refine wpList_sv (f2 := of) HK 3 rfl _ _ rfl rfl rfl rfl ?_; intro _ HK'; simp only [List.set] at HK'; replace HK := HK'; clear HK') | refine wpList_of_exec (by rfl) (kexec_vv HK 3 _ (by rfl) (by rfl) (by rfl)) ?_ | refine wpList_of_exec (by rfl) (kexec_vv HK 0 _ (by rfl) (by rfl) (by rfl)) ?_ | refine wpList_of_exec (by rfl) (kexec_vv HK 1 _ (by rfl) (by rfl) (by rfl)) ?_ | refine wpList_of_exec (by rfl) (kexec_lc HK 3 _ (by rfl) 1 (by rfl) (by rfl) (v := .int .i64 vk) (by rfl) Try.underlying3 rfl) ?_ | refine wpList_of_exec (by rfl) (exec_vne (v := ⟨ok, om, of, os⟩) (u := ⟨ok, om, of, os⟩) _ _ (by rfl) (by rfl) (by rfl) hne.out) ?_)
      refine (HP.out _ HK.out.b).mono ?_; rintro e w3 ⟨A4, n4, c4, rfl, o4, b4⟩
      rcases o4 with o4 | ⟨rfl, rfl, rfl, rfl⟩
      · replace HK := Lib.hid (HK.out.called b4 o4)
        clear o4 b4
        go_wp2_with (first | (refine wpList_sv (f2 := 0) HK 2 rfl _ _ rfl rfl rfl rfl ?_; intro _ HK'; simp only [List.set] at HK'; replace HK := HK'; clear HK'))
        exact ret_pve Try.results19 rfl rfl rfl rfl (HK.out.blk 2 rfl) (pver_own (HK.out.own 0 rfl) HK.out.b)
      · replace HK := Lib.hid (HK.out.call b4)
        clear b4
        go_wp2_with (first | (refine wpList_sv (f2 := 0) HK 2 rfl _ _ rfl rfl rfl rfl ?_; intro _ HK'; simp only [List.set] at HK'; replace HK := HK'; clear HK'))
        exact ret_pve Try.results19 rfl rfl rfl rfl (HK.out.blk 2 rfl) (pver_same HK.out.b)
end Go.Proofs.Ytikfjimdkbmjhaa
