/- Whether two requests are of one session, the document. No condition but those named. -/
import Derived.Test.YtpkodjllljnleaaGreatTk
import Derived.Test.YtpkodjllljnleaaGreatMK
set_option linter.unusedSimpArgs false
set_option linter.unusedVariables false
namespace Go.Proofs.YtpkodjllljnleaaGreat
open Go.RowKit
set_option maxHeartbeats 3200000 in
theorem mine_any (x y : Rf) (w : World) : Calls Tryz.prog 87 #[.agg #[.int .i64 x.c, .int .i64 x.e, .int .i64 x.r], .agg #[.int .i64 y.c, .int .i64 y.e, .int .i64 y.r]] w (IsB (decide (Lck.mine x y)) w) := by
 have HE : Hid (∀ q : Bool, (q = true ↔ (x.c = y.c ∧ x.e = y.e)) → q = decide (Lck.mine x y)) := zH fun q hq => by
  rw [Bool.eq_iff_iff, hq, decide_eq_true_eq]
  exact Iff.rfl
 generalize decide (Lck.mine x y) = r at *
 obtain ⟨c, ep, rq⟩ := x
 obtain ⟨c2, ep2, rq2⟩ := y
 simp only at HE ⊢
 by_cases hc : c = c2
 ·subst hc
  have HK := kn2 w 24 #[.int .i64 c, .int .i64 ep, .int .i64 rq] 24 #[.int .i64 c, .int .i64 ep2, .int .i64 rq2]
  go_enter Tryz.func87, Tryz.ntmps87
  go_wp2_with fail
  go_ret
  refine ⟨congrArg (fun b => Ending.returned (.bool b)) (HE.out _ ?_), HK.out.b⟩
  clear HE HK
  simp_all
 ·have hc2 : (c == c2) = false := by simpa using hc
  have HK := kn2 w 24 #[.int .i64 c, .int .i64 ep, .int .i64 rq] 24 #[.int .i64 c2, .int .i64 ep2, .int .i64 rq2]
  go_enter Tryz.func87, Tryz.ntmps87
  go_wp2_with fail
  go_ret
  refine ⟨congrArg (fun b => Ending.returned (.bool b)) (HE.out _ ?_), HK.out.b⟩
  clear HE HK
  simp_all
end Go.Proofs.YtpkodjllljnleaaGreat
namespace Go.Proofs.YtpkodjllljnleaaGreat
open Go.RowKit
def IsDrr (A : Option Addr) (n c : Nat) (l r : List Rf) (y : Rf) (h : Bool) (w : World) (e : Ending) (w' : World) : Prop := ∃ A' n' c', e = .returned (.tuple #[.slice A' n' c', .agg #[.int .i64 y.c, .int .i64 y.e, .int .i64 y.r], .bool h]) ∧ OwnOr rfLay w.heap.size w' A n c l A' n' c' r ∧ Below w.heap.size w w'
set_option maxRecDepth 100000 in
set_option maxHeartbeats 25600000 in
theorem rldrop_any (A : Option Addr) (c n : Nat) (l : List Rf) (r : Rf) (w : World) (hs : Sls rfLay rF w A n c l) :
  Calls Tryz.prog 39 #[.slice A n c, .agg #[.int .i64 r.c, .int .i64 r.e, .int .i64 r.r]] w (IsDrr A n c l (Lck.drL l r) (Lck.drN l r) (Lck.drS l r) w) := by
 have HM := zH (fun W (hW : Below w.heap.size w W) => rlright_any A c n l W (hs.later hW))
 have HMi := zH (fun x W => mine_any x r W)
 have hlen := hs.len
 have HK := kn1 w 24 #[.int .i64 r.c, .int .i64 r.e, .int .i64 r.r]
 unfold IsB IsDrr at *
 by_cases hr : Lck.Right l
 case neg =>
  rw [decide_eq_false hr] at HM
  obtain ⟨e1, e2, e3⟩ := Lck.dr_bad (r := r) hr
  rw [e1, e2, e3]
  clear e1 e2 e3 hr hs hlen HMi
  go_enter Tryz.func39, Tryz.ntmps39
  go_wp2_with (first | (refine wpList_akr HK rfl rfl ?_; intro _ g1 HK'; simp only [lcA, lnA] at HK'; replace HK := HK'; clear HK'))
  refine (HM.out _ HK.out.b).mono ?_; rintro e w1 ⟨rfl, b1⟩
  replace HK := hkC HK b1; clear b1
  go_wp2_with (first | (refine wpList_sr HK 1 rfl _ _ rfl rfl rfl rfl ?_; intro _ HK'; simp only [List.set] at HK'; replace HK := HK'; clear HK'))
  exact ret_srb Tryz.results39 rfl rfl rfl rfl (HK.out.blk 1 rfl) ⟨A, n, c, rfl, .inr ⟨rfl, rfl, rfl, rfl⟩, HK.out.b⟩
 case pos =>
 rw [decide_eq_true hr] at HM
 have HS := zH hs
 have h5 := Lck.right_len hr
 rw [hlen] at h5
 have HTake : Hid (l.take n = l) := zH (by rw [← hlen]; exact List.take_length)
 have HTl : Hid (∀ k, k ≤ n → (Lck.wo (l.take k) r).length ≤ k) := zH fun k hk => Nat.le_trans (Lck.wo_le _ _) (by rw [List.length_take]; omega)
 have HNo : Hid ((Lck.wo l r).length = 0 → Lck.drL l r = Lck.wo l r ∧ Lck.drN l r = Lck.zero ∧ Lck.drS l r = false) := zH (Lck.dr_none hr)
 have HSm : Hid (∀ x y, (Lck.wo l r)[0]? = some x → l[0]? = some y → x = y → Lck.drL l r = Lck.wo l r ∧ Lck.drN l r = Lck.zero ∧ Lck.drS l r = false) := zH fun x y => Lck.dr_same hr
 have HNe : Hid (∀ x y, (Lck.wo l r)[0]? = some x → l[0]? = some y → ¬ x = y → Lck.drL l r = Lck.wo l r ∧ Lck.drN l r = x ∧ Lck.drS l r = true) := zH fun x y => Lck.dr_new hr
 have HFw : Hid (Fits rfLay rF (Lck.wo l r)) := zH (hs.fit.sub (fun x hx => (List.mem_filter.1 hx).1) (Lck.wo_le l r))
 clear hs hr hlen
 generalize Lck.drL l r = dl at *
 generalize Lck.drN l r = dn at *
 generalize Lck.drS l r = ds at *
 go_enter Tryz.func39, Tryz.ntmps39
 go_wp2_with (first | (refine wpList_akr HK rfl rfl ?_; intro _ g1 HK'; simp only [lcA, lnA] at HK'; replace HK := HK'; clear HK'))
 refine (HM.out _ HK.out.b).mono ?_; rintro e w1 ⟨rfl, b1⟩
 replace HK := hkC HK b1; clear b1
 replace HK := zH (HK.out.nilR rfLay)
 simp only [lnA] at HK
 go_wp2_with fail
 go_loopw [7, 8] (fun vs vi wr => ∃ (k : Nat) (A1 : Option Addr) (c1 N : Nat), k ≤ n ∧ vs = .slice A1 N c1 ∧ vi = .int .i64 k ∧ Hid ((Lck.wo (l.take k) r).length = N) ∧ Hid (Kn w.heap.size w wr [(w.heap.size, 24, #[.int .i64 r.c, .int .i64 r.e, .int .i64 r.r]), (g1, 24, #[.int .i64 0, .int .i64 0, .int .i64 0])] [row rfLay (.slice A1 N c1) (Lck.wo (l.take k) r)])) (fun _ vi _ => n - (intOf vi).toNat)
 case atStart => exact ⟨0, none, 0, 0, Nat.zero_le _, rfl, rfl, zH rfl, HK⟩
 case round =>
  clear HK
  obtain ⟨k, A1, c1, N, hk, rfl, rfl, hN, HK⟩ := hrel
  have hk1 : (0 : Int) ≤ (k : Int) := by omega
  by_cases hlt : k < n
  ·have hk2 : (k : Int) < (n : Int) := by omega
   have hk3 : k < 9223372036854775807 := by omega
   obtain ⟨x, hx, _⟩ := HS.out.get hlt
   obtain ⟨b, o, rfl, hat⟩ := HS.out.at (Nat.lt_of_le_of_lt (Nat.zero_le _) hlt)
   have HX := zH (fun W hW => hat W hW k x hx)
   have hNk : N ≤ k := by rw [← hN.out]; exact HTl.out k hk
   replace HMi := zH (fun W => HMi.out x W)
   by_cases hm : Lck.mine x r
   ·have HE := zH (Lck.wo_take_out hx hm)
    rw [decide_eq_true hm] at HMi
    clear hat hx hm HNo HSm HNe
    go_wp2_with fail
    refine wp_region_held_drew (S := (fun W => Hid (Kn w.heap.size w W [(w.heap.size, 24, #[.int .i64 r.c, .int .i64 r.e, .int .i64 r.r]), (g1, 24, #[.int .i64 0, .int .i64 0, .int .i64 0])] [row rfLay (.slice A1 N c1) (Lck.wo (l.take k) r)]))) (by kernel_rfl) ?_ (fun hHeld => ?_)
    ·(try dsimp only); exact zH HK.out.drew
    refine wpAnyH_take (i := 0) (oi := ⟨some 20, _, _, _, _, _⟩) (v := ?_) rfl (by kernel_rfl) (by kernel_rfl) (by kernel_rfl) (fun _ _ _ h => h) (Or.inl ⟨by rfl, ?_⟩) (by assumption) ?_
    rotate_left
    ·(intro w hSw; (try dsimp only at hSw); go_simp; try with_reducible rfl)
    try simp only [Act.put, List.setIfInBounds_toArray, List.set_cons_zero, List.set_cons_succ]
    refine wpAnyH_take (i := 1) (oi := ⟨some 21, _, _, _, _, _⟩) (v := ?_) rfl (by kernel_rfl) (by kernel_rfl) (by kernel_rfl) (fun _ _ _ h => h) (Or.inl ⟨by rfl, ?_⟩) (by assumption) ?_
    rotate_left
    ·(intro w hSw; (try dsimp only at hSw); go_simp; try with_reducible rfl)
    try simp only [Act.put, List.setIfInBounds_toArray, List.set_cons_zero, List.set_cons_succ]
    refine wpAnyH_take (i := 2) (oi := ⟨some 22, _, _, _, _, _⟩) (v := ?_) rfl (by kernel_rfl) (by kernel_rfl) (by kernel_rfl) (fun _ _ _ h => h) (Or.inl ⟨by rfl, ?_⟩) (by assumption) ?_
    rotate_left
    ·(intro w hSw; refine Eq.trans (exec_ixr (i := k) _ _ (by rfl) (by rfl) (by rfl) hlt) ?_; with_reducible rfl)
    try simp only [Act.put, List.setIfInBounds_toArray, List.set_cons_zero, List.set_cons_succ]
    refine wpAnyH_take (i := 3) (oi := ⟨some 23, _, _, _, _, _⟩) (v := ?_) rfl (by kernel_rfl) (by kernel_rfl) (by kernel_rfl) (fun _ _ _ h => h) (Or.inl ⟨by rfl, ?_⟩) (by assumption) ?_
    rotate_left
    ·(intro w hSw; refine Eq.trans (exec_lr (x := x) (off := o + k * 3) _ (by rfl) (by rfl) (HX.out _ hSw.out.b)) ?_; with_reducible rfl)
    try simp only [Act.put, List.setIfInBounds_toArray, List.set_cons_zero, List.set_cons_succ]
    refine wpAnyH_take (i := 4) (oi := ⟨some 24, _, _, _, _, _⟩) (v := ?_) rfl (by kernel_rfl) (by kernel_rfl) (by kernel_rfl) (fun _ _ _ h => h) (Or.inl ⟨by rfl, ?_⟩) (by assumption) ?_
    rotate_left
    ·(intro w hSw; refine Eq.trans (kexec_lr hSw 0 _ (by rfl) (by rfl) (by rfl)) ?_; with_reducible rfl)
    try simp only [Act.put, List.setIfInBounds_toArray, List.set_cons_zero, List.set_cons_succ]
    refine wpAnyH_ready (rs := [5]) (by kernel_rfl) (by simp) ?_
    refine AllReadyH.cons (o := ⟨some 25, _, _, _, _, _⟩) rfl (fun K hK => ?_) AllReadyH.nil
    go_simp
    go_at_call 87
    refine (HMi.out _).mono ?_; rintro e w5 ⟨rfl, b5⟩; have hs := zH (hHeld.out.call b5); clear b5
    refine hK.out _ _ hs (fun hHeld => ?_)
    clear hK K
    try simp only [ap1, ap2, ap3, ap4, ap5]
    refine wpAnyH_take (i := 6) (oi := ⟨some 26, _, _, _, _, _⟩) (v := ?_) rfl (by kernel_rfl) (by kernel_rfl) (by kernel_rfl) (fun _ _ _ h => h) (Or.inl ⟨by rfl, ?_⟩) (by assumption) ?_
    rotate_left
    ·(intro w hSw; (try dsimp only at hSw); go_simp; try with_reducible rfl)
    try simp only [Act.put, List.setIfInBounds_toArray, List.set_cons_zero, List.set_cons_succ]
    refine wpAnyH_done (by kernel_rfl) ?_ _
    replace HK := hHeld
    clear hHeld
    go_wp2_with (first | refine wpList_exe (exec_add1 (j := k) _ (by rfl) (by rfl) hk3) (by rfl) ?_)
    refine ⟨⟨k + 1, A1, c1, N, hlt, rfl, rfl, zH (by rw [HE.out, hN.out]), ?_⟩, by simp [intOf]; omega⟩
    rw [HE.out]
    exact HK
   ·have HE := zH (Lck.wo_take_in hx hm)
    rw [decide_eq_false hm] at HMi
    have HN2 : Hid ((Lck.wo (l.take k) r ++ [x]).length = N + 1) := zH (by rw [List.length_append, hN.out]; rfl)
    have HL2 := grow_ok (La := rfLay) HN2 (by show (N + 1) * 24 ≤ _; omega) (by omega)
    clear hat hx hm HNo HSm HNe
    go_wp2_with fail
    refine wp_region_held_drew (S := (fun W => Hid (Kn w.heap.size w W [(w.heap.size, 24, #[.int .i64 r.c, .int .i64 r.e, .int .i64 r.r]), (g1, 24, #[.int .i64 0, .int .i64 0, .int .i64 0])] [row rfLay (.slice A1 N c1) (Lck.wo (l.take k) r)]))) (by kernel_rfl) ?_ (fun hHeld => ?_)
    ·(try dsimp only); exact zH HK.out.drew
    refine wpAnyH_take (i := 0) (oi := ⟨some 20, _, _, _, _, _⟩) (v := ?_) rfl (by kernel_rfl) (by kernel_rfl) (by kernel_rfl) (fun _ _ _ h => h) (Or.inl ⟨by rfl, ?_⟩) (by assumption) ?_
    rotate_left
    ·(intro w hSw; (try dsimp only at hSw); go_simp; try with_reducible rfl)
    try simp only [Act.put, List.setIfInBounds_toArray, List.set_cons_zero, List.set_cons_succ]
    refine wpAnyH_take (i := 1) (oi := ⟨some 21, _, _, _, _, _⟩) (v := ?_) rfl (by kernel_rfl) (by kernel_rfl) (by kernel_rfl) (fun _ _ _ h => h) (Or.inl ⟨by rfl, ?_⟩) (by assumption) ?_
    rotate_left
    ·(intro w hSw; (try dsimp only at hSw); go_simp; try with_reducible rfl)
    try simp only [Act.put, List.setIfInBounds_toArray, List.set_cons_zero, List.set_cons_succ]
    refine wpAnyH_take (i := 2) (oi := ⟨some 22, _, _, _, _, _⟩) (v := ?_) rfl (by kernel_rfl) (by kernel_rfl) (by kernel_rfl) (fun _ _ _ h => h) (Or.inl ⟨by rfl, ?_⟩) (by assumption) ?_
    rotate_left
    ·(intro w hSw; refine Eq.trans (exec_ixr (i := k) _ _ (by rfl) (by rfl) (by rfl) hlt) ?_; with_reducible rfl)
    try simp only [Act.put, List.setIfInBounds_toArray, List.set_cons_zero, List.set_cons_succ]
    refine wpAnyH_take (i := 3) (oi := ⟨some 23, _, _, _, _, _⟩) (v := ?_) rfl (by kernel_rfl) (by kernel_rfl) (by kernel_rfl) (fun _ _ _ h => h) (Or.inl ⟨by rfl, ?_⟩) (by assumption) ?_
    rotate_left
    ·(intro w hSw; refine Eq.trans (exec_lr (x := x) (off := o + k * 3) _ (by rfl) (by rfl) (HX.out _ hSw.out.b)) ?_; with_reducible rfl)
    try simp only [Act.put, List.setIfInBounds_toArray, List.set_cons_zero, List.set_cons_succ]
    refine wpAnyH_take (i := 4) (oi := ⟨some 24, _, _, _, _, _⟩) (v := ?_) rfl (by kernel_rfl) (by kernel_rfl) (by kernel_rfl) (fun _ _ _ h => h) (Or.inl ⟨by rfl, ?_⟩) (by assumption) ?_
    rotate_left
    ·(intro w hSw; refine Eq.trans (kexec_lr hSw 0 _ (by rfl) (by rfl) (by rfl)) ?_; with_reducible rfl)
    try simp only [Act.put, List.setIfInBounds_toArray, List.set_cons_zero, List.set_cons_succ]
    refine wpAnyH_ready (rs := [5]) (by kernel_rfl) (by simp) ?_
    refine AllReadyH.cons (o := ⟨some 25, _, _, _, _, _⟩) rfl (fun K hK => ?_) AllReadyH.nil
    go_simp
    go_at_call 87
    refine (HMi.out _).mono ?_; rintro e w5 ⟨rfl, b5⟩; have hs := zH (hHeld.out.call b5); clear b5
    refine hK.out _ _ hs (fun hHeld => ?_)
    clear hK K
    try simp only [ap1, ap2, ap3, ap4, ap5]
    refine wpAnyH_take (i := 6) (oi := ⟨some 26, _, _, _, _, _⟩) (v := ?_) rfl (by kernel_rfl) (by kernel_rfl) (by kernel_rfl) (fun _ _ _ h => h) (Or.inl ⟨by rfl, ?_⟩) (by assumption) ?_
    rotate_left
    ·(intro w hSw; (try dsimp only at hSw); go_simp; try with_reducible rfl)
    try simp only [Act.put, List.setIfInBounds_toArray, List.set_cons_zero, List.set_cons_succ]
    refine wpAnyH_done (by kernel_rfl) ?_ _
    replace HK := hHeld
    clear hHeld
    go_wp2_with (first | refine wpList_exe (exec_lr (x := x) (off := o + k * 3) _ (by rfl) (by rfl) (HX.out _ HK.out.b)) (by rfl) ?_ | (refine wpList_mk1 rfLay (p := x) HK (by decide) rfl _ rfl rfl rfl ?_; intro _ g5 HK'; simp only [lcA, lnA] at HK'; have HR := zH (HK'.out.own 1 rfl).rd; replace HK := HK'; clear HK') | (at_builtin; refine wpList_kmore HK rfLay 0 rfl _ _ rfl rfl rfl [x] rfl rfl HR HL2 (N := N + 1) HN2 ?_; intro A4 c4 _ HK'; simp only [List.set] at HK'; replace HK := HK'; clear HK') | refine wpList_exe (exec_add1 (j := k) _ (by rfl) (by rfl) hk3) (by rfl) ?_)
    refine ⟨⟨k + 1, A4, c4, N + 1, hlt, rfl, rfl, zH (by rw [HE.out, HN2.out]), ?_⟩, by simp [intOf]; omega⟩
    rw [HE.out]
    exact zH (HK.out.takeR 1)
  ·obtain rfl : k = n := by omega
   rw [HTake.out] at HK hN
   clear HMi HM HTl
   by_cases h0 : N = 0
   ·subst h0
    obtain ⟨rfl, rfl, rfl⟩ := HNo.out hN.out
    clear HNo HSm HNe
    go_wp2_with fail
    refine wp_region_held_drew (S := (fun W => Hid (Kn w.heap.size w W [(w.heap.size, 24, #[.int .i64 r.c, .int .i64 r.e, .int .i64 r.r]), (g1, 24, #[.int .i64 0, .int .i64 0, .int .i64 0])] [row rfLay (.slice A1 0 c1) (Lck.wo l r)]))) (by kernel_rfl) ?_ (fun hHeld => ?_)
    ·(try dsimp only); exact zH HK.out.drew
    refine wpAnyH_take (i := 0) (oi := ⟨some 34, _, _, _, _, _⟩) (v := ?_) rfl (by kernel_rfl) (by kernel_rfl) (by kernel_rfl) (fun _ _ _ h => h) (Or.inl ⟨by rfl, ?_⟩) (by assumption) ?_
    rotate_left
    ·(intro w hSw; (try dsimp only at hSw); go_simp; try with_reducible rfl)
    try simp only [Act.put, List.setIfInBounds_toArray, List.set_cons_zero, List.set_cons_succ]
    refine wpAnyH_take (i := 1) (oi := ⟨some 35, _, _, _, _, _⟩) (v := ?_) rfl (by kernel_rfl) (by kernel_rfl) (by kernel_rfl) (fun _ _ _ h => h) (Or.inl ⟨by rfl, ?_⟩) (by assumption) ?_
    rotate_left
    ·(intro w hSw; (try dsimp only at hSw); go_simp; try with_reducible rfl)
    try simp only [Act.put, List.setIfInBounds_toArray, List.set_cons_zero, List.set_cons_succ]
    refine wpAnyH_take (i := 2) (oi := ⟨some 36, _, _, _, _, _⟩) (v := ?_) rfl (by kernel_rfl) (by kernel_rfl) (by kernel_rfl) (fun _ _ _ h => h) (Or.inl ⟨by rfl, ?_⟩) (by assumption) ?_
    rotate_left
    ·(intro w hSw; (try dsimp only at hSw); go_simp; try with_reducible rfl)
    try simp only [Act.put, List.setIfInBounds_toArray, List.set_cons_zero, List.set_cons_succ]
    refine wpAnyH_take (i := 3) (oi := ⟨some 37, _, _, _, _, _⟩) (v := ?_) rfl (by kernel_rfl) (by kernel_rfl) (by kernel_rfl) (fun _ _ _ h => h) (Or.inl ⟨by rfl, ?_⟩) (by assumption) ?_
    rotate_left
    ·(intro w hSw; (try dsimp only at hSw); go_simp; try with_reducible rfl)
    try simp only [Act.put, List.setIfInBounds_toArray, List.set_cons_zero, List.set_cons_succ]
    refine wpAnyH_take (i := 4) (oi := ⟨some 38, _, _, _, _, _⟩) (v := undef) rfl (by kernel_rfl) (by kernel_rfl) (by kernel_rfl) (fun _ _ _ h => h) (Or.inr ⟨by rfl, rfl⟩) (by assumption) ?_
    try simp only [Act.put, List.setIfInBounds_toArray, List.set_cons_zero, List.set_cons_succ]
    refine wpAnyH_take (i := 5) (oi := ⟨some 39, _, _, _, _, _⟩) (v := undef) rfl (by kernel_rfl) (by kernel_rfl) (by kernel_rfl) (fun _ _ _ h => h) (Or.inr ⟨by rfl, rfl⟩) (by assumption) ?_
    try simp only [Act.put, List.setIfInBounds_toArray, List.set_cons_zero, List.set_cons_succ]
    refine wpAnyH_take (i := 6) (oi := ⟨some 40, _, _, _, _, _⟩) (v := undef) rfl (by kernel_rfl) (by kernel_rfl) (by kernel_rfl) (fun _ _ _ h => h) (Or.inr ⟨by rfl, rfl⟩) (by assumption) ?_
    try simp only [Act.put, List.setIfInBounds_toArray, List.set_cons_zero, List.set_cons_succ]
    refine wpAnyH_take (i := 7) (oi := ⟨some 41, _, _, _, _, _⟩) (v := undef) rfl (by kernel_rfl) (by kernel_rfl) (by kernel_rfl) (fun _ _ _ h => h) (Or.inr ⟨by rfl, rfl⟩) (by assumption) ?_
    try simp only [Act.put, List.setIfInBounds_toArray, List.set_cons_zero, List.set_cons_succ]
    refine wpAnyH_take (i := 8) (oi := ⟨some 42, _, _, _, _, _⟩) (v := undef) rfl (by kernel_rfl) (by kernel_rfl) (by kernel_rfl) (fun _ _ _ h => h) (Or.inr ⟨by rfl, rfl⟩) (by assumption) ?_
    try simp only [Act.put, List.setIfInBounds_toArray, List.set_cons_zero, List.set_cons_succ]
    refine wpAnyH_take (i := 9) (oi := ⟨some 43, _, _, _, _, _⟩) (v := undef) rfl (by kernel_rfl) (by kernel_rfl) (by kernel_rfl) (fun _ _ _ h => h) (Or.inr ⟨by rfl, rfl⟩) (by assumption) ?_
    try simp only [Act.put, List.setIfInBounds_toArray, List.set_cons_zero, List.set_cons_succ]
    refine wpAnyH_take (i := 10) (oi := ⟨some 44, _, _, _, _, _⟩) (v := undef) rfl (by kernel_rfl) (by kernel_rfl) (by kernel_rfl) (fun _ _ _ h => h) (Or.inr ⟨by rfl, rfl⟩) (by assumption) ?_
    try simp only [Act.put, List.setIfInBounds_toArray, List.set_cons_zero, List.set_cons_succ]
    refine wpAnyH_take (i := 11) (oi := ⟨some 45, _, _, _, _, _⟩) (v := ?_) rfl (by kernel_rfl) (by kernel_rfl) (by kernel_rfl) (fun _ _ _ h => h) (Or.inl ⟨by rfl, ?_⟩) (by assumption) ?_
    rotate_left
    ·(intro w hSw; (try dsimp only at hSw); go_simp; try with_reducible rfl)
    try simp only [Act.put, List.setIfInBounds_toArray, List.set_cons_zero, List.set_cons_succ]
    refine wpAnyH_done (by kernel_rfl) ?_ _
    replace HK := hHeld
    clear hHeld
    go_wp2_with (first | (refine wpList_sr HK 1 rfl _ _ rfl rfl rfl rfl ?_; intro _ HK'; simp only [List.set] at HK'; replace HK := HK'; clear HK'))
    exact ret_srb Tryz.results39 rfl rfl rfl rfl (HK.out.blk 1 rfl) ⟨A1, 0, c1, rfl, .inl (HK.out.own 0 rfl), HK.out.b⟩
   ·have hN0 : 0 < N := by omega
    have hz : ((N : Int) == 0) = false := by simpa using h0
    obtain ⟨x, hx⟩ := Lay.get_of (l := Lck.wo l r) (k := 0) (by rw [hN.out]; exact hN0)
    obtain ⟨y, hy⟩ := Lck.wo_first hx
    have hn0 : 0 < k := by
     have h1 := (List.getElem?_eq_some_iff.1 hy).1
     have h2 := HS.out.len
     omega
    obtain ⟨b, o, rfl, hat⟩ := HS.out.at hn0
    have HY := zH (fun W hW => hat W hW 0 y hy)
    obtain ⟨b2, o2, rfl, _⟩ := (Sls.own (HK.out.own 0 rfl) HFw.out).at hN0
    have HXx := zH hx
    by_cases he : x = y
    ·obtain ⟨rfl, rfl, rfl⟩ := HSm.out x y hx hy he
     have HEq := zH (show decide (x = y) = true from decide_eq_true he)
     clear HNo HSm HNe hat hx hy he h0
     go_wp2_with fail
     refine wp_region_held_drew (S := (fun W => Hid (Kn w.heap.size w W [(w.heap.size, 24, #[.int .i64 r.c, .int .i64 r.e, .int .i64 r.r]), (g1, 24, #[.int .i64 0, .int .i64 0, .int .i64 0])] [row rfLay (.slice (some ⟨b2, o2, none⟩) N c1) (Lck.wo l r)]))) (by kernel_rfl) ?_ (fun hHeld => ?_)
     ·(try dsimp only); exact zH HK.out.drew
     refine wpAnyH_take (i := 0) (oi := ⟨some 34, _, _, _, _, _⟩) (v := ?_) rfl (by kernel_rfl) (by kernel_rfl) (by kernel_rfl) (fun _ _ _ h => h) (Or.inl ⟨by rfl, ?_⟩) (by assumption) ?_
     rotate_left
     ·(intro w hSw; (try dsimp only at hSw); go_simp; try with_reducible rfl)
     try simp only [Act.put, List.setIfInBounds_toArray, List.set_cons_zero, List.set_cons_succ]
     refine wpAnyH_take (i := 1) (oi := ⟨some 35, _, _, _, _, _⟩) (v := ?_) rfl (by kernel_rfl) (by kernel_rfl) (by kernel_rfl) (fun _ _ _ h => h) (Or.inl ⟨by rfl, ?_⟩) (by assumption) ?_
     rotate_left
     ·(intro w hSw; (try dsimp only at hSw); go_simp; try with_reducible rfl)
     try simp only [Act.put, List.setIfInBounds_toArray, List.set_cons_zero, List.set_cons_succ]
     refine wpAnyH_take (i := 2) (oi := ⟨some 36, _, _, _, _, _⟩) (v := ?_) rfl (by kernel_rfl) (by kernel_rfl) (by kernel_rfl) (fun _ _ _ h => h) (Or.inl ⟨by rfl, ?_⟩) (by assumption) ?_
     rotate_left
     ·(intro w hSw; (try dsimp only at hSw); go_simp; try with_reducible rfl)
     try simp only [Act.put, List.setIfInBounds_toArray, List.set_cons_zero, List.set_cons_succ]
     refine wpAnyH_take (i := 3) (oi := ⟨some 37, _, _, _, _, _⟩) (v := ?_) rfl (by kernel_rfl) (by kernel_rfl) (by kernel_rfl) (fun _ _ _ h => h) (Or.inl ⟨by rfl, ?_⟩) (by assumption) ?_
     rotate_left
     ·(intro w hSw; (try dsimp only at hSw); go_simp; try with_reducible rfl)
     try simp only [Act.put, List.setIfInBounds_toArray, List.set_cons_zero, List.set_cons_succ]
     refine wpAnyH_take (i := 4) (oi := ⟨some 38, _, _, _, _, _⟩) (v := ?_) rfl (by kernel_rfl) (by kernel_rfl) (by kernel_rfl) (fun _ _ _ h => h) (Or.inl ⟨by rfl, ?_⟩) (by assumption) ?_
     rotate_left
     ·(intro w hSw; (try dsimp only at hSw); go_simp; try with_reducible rfl)
     try simp only [Act.put, List.setIfInBounds_toArray, List.set_cons_zero, List.set_cons_succ]
     refine wpAnyH_take (i := 5) (oi := ⟨some 39, _, _, _, _, _⟩) (v := ?_) rfl (by kernel_rfl) (by kernel_rfl) (by kernel_rfl) (fun _ _ _ h => h) (Or.inl ⟨by rfl, ?_⟩) (by assumption) ?_
     rotate_left
     ·(intro w hSw; refine Eq.trans (exec_ixr (i := 0) _ _ (by rfl) (by rfl) (by rfl) hN0) ?_; with_reducible rfl)
     try simp only [Act.put, List.setIfInBounds_toArray, List.set_cons_zero, List.set_cons_succ]
     refine wpAnyH_take (i := 6) (oi := ⟨some 40, _, _, _, _, _⟩) (v := ?_) rfl (by kernel_rfl) (by kernel_rfl) (by kernel_rfl) (fun _ _ _ h => h) (Or.inl ⟨by rfl, ?_⟩) (by assumption) ?_
     rotate_left
     ·(intro w hSw; refine Eq.trans (exec_lr (x := x) (off := o2 + 0 * 3) _ (by rfl) (by rfl) ((Sls.own (hSw.out.own 0 rfl) HFw.out).cells HXx.out)) ?_; with_reducible rfl)
     try simp only [Act.put, List.setIfInBounds_toArray, List.set_cons_zero, List.set_cons_succ]
     refine wpAnyH_take (i := 7) (oi := ⟨some 41, _, _, _, _, _⟩) (v := ?_) rfl (by kernel_rfl) (by kernel_rfl) (by kernel_rfl) (fun _ _ _ h => h) (Or.inl ⟨by rfl, ?_⟩) (by assumption) ?_
     rotate_left
     ·(intro w hSw; (try dsimp only at hSw); go_simp; try with_reducible rfl)
     try simp only [Act.put, List.setIfInBounds_toArray, List.set_cons_zero, List.set_cons_succ]
     refine wpAnyH_take (i := 8) (oi := ⟨some 42, _, _, _, _, _⟩) (v := ?_) rfl (by kernel_rfl) (by kernel_rfl) (by kernel_rfl) (fun _ _ _ h => h) (Or.inl ⟨by rfl, ?_⟩) (by assumption) ?_
     rotate_left
     ·(intro w hSw; refine Eq.trans (exec_ixr (i := 0) _ _ (by rfl) (by rfl) (by rfl) hn0) ?_; with_reducible rfl)
     try simp only [Act.put, List.setIfInBounds_toArray, List.set_cons_zero, List.set_cons_succ]
     refine wpAnyH_take (i := 9) (oi := ⟨some 43, _, _, _, _, _⟩) (v := ?_) rfl (by kernel_rfl) (by kernel_rfl) (by kernel_rfl) (fun _ _ _ h => h) (Or.inl ⟨by rfl, ?_⟩) (by assumption) ?_
     rotate_left
     ·(intro w hSw; refine Eq.trans (exec_lr (x := y) (off := o + 0 * 3) _ (by rfl) (by rfl) (HY.out _ hSw.out.b)) ?_; with_reducible rfl)
     try simp only [Act.put, List.setIfInBounds_toArray, List.set_cons_zero, List.set_cons_succ]
     refine wpAnyH_take (i := 10) (oi := ⟨some 44, _, _, _, _, _⟩) (v := ?_) rfl (by kernel_rfl) (by kernel_rfl) (by kernel_rfl) (fun _ _ _ h => h) (Or.inl ⟨by rfl, ?_⟩) (by assumption) ?_
     rotate_left
     ·(intro w hSw; refine Eq.trans (exec_req (v := x) (u := y) _ _ (by rfl) (by rfl) (by rfl) HEq.out) ?_; with_reducible rfl)
     try simp only [Act.put, List.setIfInBounds_toArray, List.set_cons_zero, List.set_cons_succ]
     refine wpAnyH_take (i := 11) (oi := ⟨some 45, _, _, _, _, _⟩) (v := ?_) rfl (by kernel_rfl) (by kernel_rfl) (by kernel_rfl) (fun _ _ _ h => h) (Or.inl ⟨by rfl, ?_⟩) (by assumption) ?_
     rotate_left
     ·(intro w hSw; (try dsimp only at hSw); go_simp; try with_reducible rfl)
     try simp only [Act.put, List.setIfInBounds_toArray, List.set_cons_zero, List.set_cons_succ]
     refine wpAnyH_done (by kernel_rfl) ?_ _
     replace HK := hHeld
     clear hHeld
     go_wp2_with (first | (refine wpList_sr HK 1 rfl _ _ rfl rfl rfl rfl ?_; intro _ HK'; simp only [List.set] at HK'; replace HK := HK'; clear HK'))
     exact ret_srb Tryz.results39 rfl rfl rfl rfl (HK.out.blk 1 rfl) ⟨_, _, c1, rfl, .inl (HK.out.own 0 rfl), HK.out.b⟩
    ·obtain ⟨rfl, d2, rfl⟩ := HNe.out x y hx hy he
     replace d2 := d2.symm
     subst d2
     have HEq := zH (show decide (x = y) = false from decide_eq_false he)
     clear HNo HSm HNe hat hx hy he h0
     go_wp2_with fail
     refine wp_region_held_drew (S := (fun W => Hid (Kn w.heap.size w W [(w.heap.size, 24, #[.int .i64 r.c, .int .i64 r.e, .int .i64 r.r]), (g1, 24, #[.int .i64 0, .int .i64 0, .int .i64 0])] [row rfLay (.slice (some ⟨b2, o2, none⟩) N c1) (Lck.wo l r)]))) (by kernel_rfl) ?_ (fun hHeld => ?_)
     ·(try dsimp only); exact zH HK.out.drew
     refine wpAnyH_take (i := 0) (oi := ⟨some 34, _, _, _, _, _⟩) (v := ?_) rfl (by kernel_rfl) (by kernel_rfl) (by kernel_rfl) (fun _ _ _ h => h) (Or.inl ⟨by rfl, ?_⟩) (by assumption) ?_
     rotate_left
     ·(intro w hSw; (try dsimp only at hSw); go_simp; try with_reducible rfl)
     try simp only [Act.put, List.setIfInBounds_toArray, List.set_cons_zero, List.set_cons_succ]
     refine wpAnyH_take (i := 1) (oi := ⟨some 35, _, _, _, _, _⟩) (v := ?_) rfl (by kernel_rfl) (by kernel_rfl) (by kernel_rfl) (fun _ _ _ h => h) (Or.inl ⟨by rfl, ?_⟩) (by assumption) ?_
     rotate_left
     ·(intro w hSw; (try dsimp only at hSw); go_simp; try with_reducible rfl)
     try simp only [Act.put, List.setIfInBounds_toArray, List.set_cons_zero, List.set_cons_succ]
     refine wpAnyH_take (i := 2) (oi := ⟨some 36, _, _, _, _, _⟩) (v := ?_) rfl (by kernel_rfl) (by kernel_rfl) (by kernel_rfl) (fun _ _ _ h => h) (Or.inl ⟨by rfl, ?_⟩) (by assumption) ?_
     rotate_left
     ·(intro w hSw; (try dsimp only at hSw); go_simp; try with_reducible rfl)
     try simp only [Act.put, List.setIfInBounds_toArray, List.set_cons_zero, List.set_cons_succ]
     refine wpAnyH_take (i := 3) (oi := ⟨some 37, _, _, _, _, _⟩) (v := ?_) rfl (by kernel_rfl) (by kernel_rfl) (by kernel_rfl) (fun _ _ _ h => h) (Or.inl ⟨by rfl, ?_⟩) (by assumption) ?_
     rotate_left
     ·(intro w hSw; (try dsimp only at hSw); go_simp; try with_reducible rfl)
     try simp only [Act.put, List.setIfInBounds_toArray, List.set_cons_zero, List.set_cons_succ]
     refine wpAnyH_take (i := 4) (oi := ⟨some 38, _, _, _, _, _⟩) (v := ?_) rfl (by kernel_rfl) (by kernel_rfl) (by kernel_rfl) (fun _ _ _ h => h) (Or.inl ⟨by rfl, ?_⟩) (by assumption) ?_
     rotate_left
     ·(intro w hSw; (try dsimp only at hSw); go_simp; try with_reducible rfl)
     try simp only [Act.put, List.setIfInBounds_toArray, List.set_cons_zero, List.set_cons_succ]
     refine wpAnyH_take (i := 5) (oi := ⟨some 39, _, _, _, _, _⟩) (v := ?_) rfl (by kernel_rfl) (by kernel_rfl) (by kernel_rfl) (fun _ _ _ h => h) (Or.inl ⟨by rfl, ?_⟩) (by assumption) ?_
     rotate_left
     ·(intro w hSw; refine Eq.trans (exec_ixr (i := 0) _ _ (by rfl) (by rfl) (by rfl) hN0) ?_; with_reducible rfl)
     try simp only [Act.put, List.setIfInBounds_toArray, List.set_cons_zero, List.set_cons_succ]
     refine wpAnyH_take (i := 6) (oi := ⟨some 40, _, _, _, _, _⟩) (v := ?_) rfl (by kernel_rfl) (by kernel_rfl) (by kernel_rfl) (fun _ _ _ h => h) (Or.inl ⟨by rfl, ?_⟩) (by assumption) ?_
     rotate_left
     ·(intro w hSw; refine Eq.trans (exec_lr (x := x) (off := o2 + 0 * 3) _ (by rfl) (by rfl) ((Sls.own (hSw.out.own 0 rfl) HFw.out).cells HXx.out)) ?_; with_reducible rfl)
     try simp only [Act.put, List.setIfInBounds_toArray, List.set_cons_zero, List.set_cons_succ]
     refine wpAnyH_take (i := 7) (oi := ⟨some 41, _, _, _, _, _⟩) (v := ?_) rfl (by kernel_rfl) (by kernel_rfl) (by kernel_rfl) (fun _ _ _ h => h) (Or.inl ⟨by rfl, ?_⟩) (by assumption) ?_
     rotate_left
     ·(intro w hSw; (try dsimp only at hSw); go_simp; try with_reducible rfl)
     try simp only [Act.put, List.setIfInBounds_toArray, List.set_cons_zero, List.set_cons_succ]
     refine wpAnyH_take (i := 8) (oi := ⟨some 42, _, _, _, _, _⟩) (v := ?_) rfl (by kernel_rfl) (by kernel_rfl) (by kernel_rfl) (fun _ _ _ h => h) (Or.inl ⟨by rfl, ?_⟩) (by assumption) ?_
     rotate_left
     ·(intro w hSw; refine Eq.trans (exec_ixr (i := 0) _ _ (by rfl) (by rfl) (by rfl) hn0) ?_; with_reducible rfl)
     try simp only [Act.put, List.setIfInBounds_toArray, List.set_cons_zero, List.set_cons_succ]
     refine wpAnyH_take (i := 9) (oi := ⟨some 43, _, _, _, _, _⟩) (v := ?_) rfl (by kernel_rfl) (by kernel_rfl) (by kernel_rfl) (fun _ _ _ h => h) (Or.inl ⟨by rfl, ?_⟩) (by assumption) ?_
     rotate_left
     ·(intro w hSw; refine Eq.trans (exec_lr (x := y) (off := o + 0 * 3) _ (by rfl) (by rfl) (HY.out _ hSw.out.b)) ?_; with_reducible rfl)
     try simp only [Act.put, List.setIfInBounds_toArray, List.set_cons_zero, List.set_cons_succ]
     refine wpAnyH_take (i := 10) (oi := ⟨some 44, _, _, _, _, _⟩) (v := ?_) rfl (by kernel_rfl) (by kernel_rfl) (by kernel_rfl) (fun _ _ _ h => h) (Or.inl ⟨by rfl, ?_⟩) (by assumption) ?_
     rotate_left
     ·(intro w hSw; refine Eq.trans (exec_req (v := x) (u := y) _ _ (by rfl) (by rfl) (by rfl) HEq.out) ?_; with_reducible rfl)
     try simp only [Act.put, List.setIfInBounds_toArray, List.set_cons_zero, List.set_cons_succ]
     refine wpAnyH_take (i := 11) (oi := ⟨some 45, _, _, _, _, _⟩) (v := ?_) rfl (by kernel_rfl) (by kernel_rfl) (by kernel_rfl) (fun _ _ _ h => h) (Or.inl ⟨by rfl, ?_⟩) (by assumption) ?_
     rotate_left
     ·(intro w hSw; (try dsimp only at hSw); go_simp; try with_reducible rfl)
     try simp only [Act.put, List.setIfInBounds_toArray, List.set_cons_zero, List.set_cons_succ]
     refine wpAnyH_done (by kernel_rfl) ?_ _
     replace HK := hHeld
     clear hHeld
     go_wp2_with fail
     have HK0 := zH HK.out.drew
     refine wp_region_held_drew (S := (fun W => Hid (Kn w.heap.size w W [] [row rfLay (.slice (some ⟨b2, o2, none⟩) N c1) (Lck.wo l r)]))) (by kernel_rfl) ?_ (fun hHeld => ?_)
     ·(try dsimp only); exact zH (HK0.out.takeL 0)
     refine wpAnyH_take (i := 0) (oi := ⟨some 48, _, _, _, _, _⟩) (v := ?_) rfl (by kernel_rfl) (by kernel_rfl) (by kernel_rfl) (fun _ _ _ h => h) (Or.inl ⟨by rfl, ?_⟩) (by assumption) ?_
     rotate_left
     ·(intro w hSw; (try dsimp only at hSw); go_simp; try with_reducible rfl)
     try simp only [Act.put, List.setIfInBounds_toArray, List.set_cons_zero, List.set_cons_succ]
     refine wpAnyH_take (i := 1) (oi := ⟨some 49, _, _, _, _, _⟩) (v := ?_) rfl (by kernel_rfl) (by kernel_rfl) (by kernel_rfl) (fun _ _ _ h => h) (Or.inl ⟨by rfl, ?_⟩) (by assumption) ?_
     rotate_left
     ·(intro w hSw; (try dsimp only at hSw); go_simp; try with_reducible rfl)
     try simp only [Act.put, List.setIfInBounds_toArray, List.set_cons_zero, List.set_cons_succ]
     refine wpAnyH_take (i := 2) (oi := ⟨some 50, _, _, _, _, _⟩) (v := ?_) rfl (by kernel_rfl) (by kernel_rfl) (by kernel_rfl) (fun _ _ _ h => h) (Or.inl ⟨by rfl, ?_⟩) (by assumption) ?_
     rotate_left
     ·(intro w hSw; refine Eq.trans (exec_ixr (i := 0) _ _ (by rfl) (by rfl) (by rfl) hN0) ?_; with_reducible rfl)
     try simp only [Act.put, List.setIfInBounds_toArray, List.set_cons_zero, List.set_cons_succ]
     refine wpAnyH_take (i := 3) (oi := ⟨some 51, _, _, _, _, _⟩) (v := ?_) rfl (by kernel_rfl) (by kernel_rfl) (by kernel_rfl) (fun _ _ _ h => h) (Or.inl ⟨by rfl, ?_⟩) (by assumption) ?_
     rotate_left
     ·(intro w hSw; refine Eq.trans (exec_lr (x := x) (off := o2 + 0 * 3) _ (by rfl) (by rfl) ((Sls.own (hSw.out.own 0 rfl) HFw.out).cells HXx.out)) ?_; with_reducible rfl)
     try simp only [Act.put, List.setIfInBounds_toArray, List.set_cons_zero, List.set_cons_succ]
     refine wpAnyH_take (i := 4) (oi := ⟨some 4, _, _, _, _, _⟩) (v := ?_) rfl (by kernel_rfl) (by kernel_rfl) (by kernel_rfl) (fun _ _ _ h => h) (Or.inl ⟨by rfl, ?_⟩) (by assumption) ?_
     rotate_left
     ·(intro w hSw; (try dsimp only at hSw); go_simp; try with_reducible rfl)
     try simp only [Act.put, List.setIfInBounds_toArray, List.set_cons_zero, List.set_cons_succ]
     refine wpAnyH_ready (rs := [5]) (by kernel_rfl) (by simp) ?_
     refine AllReadyH.cons (o := ⟨none, _, _, _, _, _⟩) rfl (fun K hK => ?_) AllReadyH.nil
     refine step_sr HK0 1 (by rfl) _ _ (by rfl) (by rfl) (by rfl) (by rfl) ?_; intro wq HK'; simp only [List.set] at HK'; replace HK0 := HK'; clear HK'; have hs := zH (HK0.out.takeL 0)
     refine hK.out _ _ hs (fun hHeld => ?_)
     clear hK K
     try simp only [ap1, ap2, ap3, ap4, ap5]
     refine wpAnyH_take (i := 6) (oi := ⟨some 6, _, _, _, _, _⟩) (v := ?_) rfl (by kernel_rfl) (by kernel_rfl) (by kernel_rfl) (fun _ _ _ h => h) (Or.inl ⟨by rfl, ?_⟩) (by assumption) ?_
     rotate_left
     ·(intro w hSw; (try dsimp only at hSw); go_simp; try with_reducible rfl)
     try simp only [Act.put, List.setIfInBounds_toArray, List.set_cons_zero, List.set_cons_succ]
     refine wpAnyH_done (by kernel_rfl) ?_ _
     all_goals
      go_wp2_with fail
      exact ret_srb Tryz.results39 rfl rfl rfl rfl (HK0.out.blk 1 rfl) ⟨_, _, c1, rfl, .inl (HK0.out.own 0 rfl), HK0.out.b⟩
end Go.Proofs.YtpkodjllljnleaaGreat
namespace Go.Proofs.YtpkodjllljnleaaGreat
open Go.RowKit
set_option maxRecDepth 100000 in
set_option maxHeartbeats 6400000 in
theorem without_any (A : Option Addr) (c n : Nat) (l : List Rf) (r : Rf) (w : World) (hs : Sls rfLay rF w A n c l) :
  Calls Tryz.prog 82 #[.slice A n c, .agg #[.int .i64 r.c, .int .i64 r.e, .int .i64 r.r]] w (IsLg rfLay (Lck.wo l r) w) := by
 have HS := zH hs
 have HSe := zH (fun x W => session_any x W)
 have HK := kn1 w 24 #[.int .i64 r.c, .int .i64 r.e, .int .i64 r.r]
 have hbig : n * 24 ≤ 140737488355328 := hs.big
 have hn63 : n < 9223372036854775807 := by omega
 have HTake : Hid (l.take n = l) := zH (by rw [← hs.len]; exact List.take_length)
 have HTl : Hid (∀ k, k ≤ n → (Lck.wo (l.take k) r).length ≤ k) := zH fun k hk => Nat.le_trans (Lck.wo_le _ _) (by rw [List.length_take]; omega)
 clear hs
 go_enter Tryz.func82, Tryz.ntmps82
 go_wp2_with (first | (refine wpList_mk0 rfLay HK rfl rfl ?_; intro _ g2 HK'; simp only [lnA] at HK'; replace HK := HK'; clear HK'))
 go_loopw [5, 11] (fun vs vi wr => ∃ (k : Nat) (A1 : Option Addr) (c1 N : Nat), k ≤ n ∧ vs = .slice A1 N c1 ∧ vi = .int .i64 k ∧ Hid ((Lck.wo (l.take k) r).length = N) ∧ Hid (Kn w.heap.size w wr [(w.heap.size, 24, #[.int .i64 r.c, .int .i64 r.e, .int .i64 r.r])] [row rfLay (.slice A1 N c1) (Lck.wo (l.take k) r)])) (fun _ vi _ => n - (intOf vi).toNat)
 case atStart => exact ⟨0, _, _, 0, Nat.zero_le _, rfl, rfl, zH rfl, HK⟩
 case round =>
  clear HK
  obtain ⟨k, A1, c1, N, hk, rfl, rfl, hN, HK⟩ := hrel
  have hk1 : (0 : Int) ≤ (k : Int) := by omega
  by_cases hlt : k < n
  ·have hk2 : (k : Int) < (n : Int) := by omega
   have hk3 : k < 9223372036854775807 := by omega
   obtain ⟨x, hx, _⟩ := HS.out.get hlt
   obtain ⟨b, o, rfl, hat⟩ := HS.out.at (Nat.lt_of_le_of_lt (Nat.zero_le _) hlt)
   have HX := zH (fun W hW => hat W hW k x hx)
   have hNk : N ≤ k := by rw [← hN.out]; exact HTl.out k hk
   have HM := mine_ne x r
   by_cases hm : Lck.mine x r
   ·have HE := zH (Lck.wo_take_out hx hm)
    rw [decide_eq_true hm] at HM
    replace HM := zH HM
    clear hat hx hm
    go_wp2_with (first | refine wpList_exe (exec_lr (x := x) (off := o + k * 3) _ (by rfl) (by rfl) (HX.out _ HK.out.b)) (by rfl) ?_ | (refine wpList_akr HK rfl rfl ?_; intro _ g2 HK'; simp only [lcA, lnA] at HK'; replace HK := HK'; clear HK') | (refine wpList_sr HK 1 rfl _ _ rfl rfl rfl rfl ?_; intro _ HK'; simp only [List.set] at HK'; replace HK := HK'; clear HK'))
    refine wp_region_held_drew (S := (fun W => Hid (Kn w.heap.size w W [(w.heap.size, 24, #[.int .i64 r.c, .int .i64 r.e, .int .i64 r.r]), (g2, 24, #[.int .i64 x.c, .int .i64 x.e, .int .i64 x.r])] [row rfLay (.slice A1 N c1) (Lck.wo (l.take k) r)]))) (by kernel_rfl) ?_ (fun hHeld => ?_)
    ·(try dsimp only); exact zH HK.out.drew
    refine wpAnyH_take (i := 0) (oi := ⟨some 15, _, _, _, _, _⟩) (v := ?_) rfl (by kernel_rfl) (by kernel_rfl) (by kernel_rfl) (fun _ _ _ h => h) (Or.inl ⟨by rfl, ?_⟩) (by assumption) ?_
    rotate_left
    ·(intro w hSw; refine Eq.trans (kexec_lr hSw 1 _ (by rfl) (by rfl) (by rfl)) ?_; with_reducible rfl)
    try simp only [Act.put, List.setIfInBounds_toArray, List.set_cons_zero, List.set_cons_succ]
    refine wpAnyH_take (i := 2) (oi := ⟨some 17, _, _, _, _, _⟩) (v := ?_) rfl (by kernel_rfl) (by kernel_rfl) (by kernel_rfl) (fun _ _ _ h => h) (Or.inl ⟨by rfl, ?_⟩) (by assumption) ?_
    rotate_left
    ·(intro w hSw; refine Eq.trans (kexec_lr hSw 0 _ (by rfl) (by rfl) (by rfl)) ?_; with_reducible rfl)
    try simp only [Act.put, List.setIfInBounds_toArray, List.set_cons_zero, List.set_cons_succ]
    refine wpAnyH_ready (rs := [1]) (by kernel_rfl) (by simp) ?_
    refine AllReadyH.cons (o := ⟨some 16, _, _, _, _, _⟩) rfl (fun K hK => ?_) AllReadyH.nil
    go_simp
    go_at_call 131
    refine (HSe.out x _).mono ?_; rintro e w5 ⟨rfl, b5⟩; have hs := zH (hHeld.out.call b5); clear b5
    refine hK.out _ _ hs (fun hHeld => ?_)
    clear hK K
    try simp only [ap1, ap2, ap3, ap4, ap5]
    refine wpAnyH_ready (rs := [3]) (by kernel_rfl) (by simp) ?_
    refine AllReadyH.cons (o := ⟨some 18, _, _, _, _, _⟩) rfl (fun K hK => ?_) AllReadyH.nil
    go_simp
    go_at_call 131
    refine (HSe.out r _).mono ?_; rintro e w5 ⟨rfl, b5⟩; have hs := zH (hHeld.out.call b5); clear b5
    refine hK.out _ _ hs (fun hHeld => ?_)
    clear hK K
    try simp only [ap1, ap2, ap3, ap4, ap5]
    refine wpAnyH_take (i := 4) (oi := ⟨some 19, _, _, _, _, _⟩) (v := ?_) rfl (by kernel_rfl) (by kernel_rfl) (by kernel_rfl) (fun _ _ _ h => h) (Or.inl ⟨by rfl, ?_⟩) (by assumption) ?_
    rotate_left
    ·(intro w hSw; refine Eq.trans (exec_rne (v := ⟨x.c, x.e, 0⟩) (u := ⟨r.c, r.e, 0⟩) _ _ (by rfl) (by rfl) (by rfl) HM.out) ?_; with_reducible rfl)
    try simp only [Act.put, List.setIfInBounds_toArray, List.set_cons_zero, List.set_cons_succ]
    refine wpAnyH_done (by kernel_rfl) ?_ _
    replace HK := hHeld
    clear hHeld
    go_wp2_with (first | refine wpList_exe (exec_add1 (j := k) _ (by rfl) (by rfl) hk3) (by rfl) ?_)
    refine ⟨⟨k + 1, A1, c1, N, hlt, rfl, rfl, zH (by rw [HE.out, hN.out]), ?_⟩, by simp [intOf]; omega⟩
    rw [HE.out]
    exact zH (HK.out.takeL 1)
   ·have HE := zH (Lck.wo_take_in hx hm)
    rw [decide_eq_false hm] at HM
    replace HM := zH HM
    have HN2 : Hid ((Lck.wo (l.take k) r ++ [x]).length = N + 1) := zH (by rw [List.length_append, hN.out]; rfl)
    have HL2 := grow_ok (La := rfLay) HN2 (by show (N + 1) * 24 ≤ _; omega) (by omega)
    clear hat hx hm
    go_wp2_with (first | refine wpList_exe (exec_lr (x := x) (off := o + k * 3) _ (by rfl) (by rfl) (HX.out _ HK.out.b)) (by rfl) ?_ | (refine wpList_akr HK rfl rfl ?_; intro _ g2 HK'; simp only [lcA, lnA] at HK'; replace HK := HK'; clear HK') | (refine wpList_sr HK 1 rfl _ _ rfl rfl rfl rfl ?_; intro _ HK'; simp only [List.set] at HK'; replace HK := HK'; clear HK'))
    refine wp_region_held_drew (S := (fun W => Hid (Kn w.heap.size w W [(w.heap.size, 24, #[.int .i64 r.c, .int .i64 r.e, .int .i64 r.r]), (g2, 24, #[.int .i64 x.c, .int .i64 x.e, .int .i64 x.r])] [row rfLay (.slice A1 N c1) (Lck.wo (l.take k) r)]))) (by kernel_rfl) ?_ (fun hHeld => ?_)
    ·(try dsimp only); exact zH HK.out.drew
    refine wpAnyH_take (i := 0) (oi := ⟨some 15, _, _, _, _, _⟩) (v := ?_) rfl (by kernel_rfl) (by kernel_rfl) (by kernel_rfl) (fun _ _ _ h => h) (Or.inl ⟨by rfl, ?_⟩) (by assumption) ?_
    rotate_left
    ·(intro w hSw; refine Eq.trans (kexec_lr hSw 1 _ (by rfl) (by rfl) (by rfl)) ?_; with_reducible rfl)
    try simp only [Act.put, List.setIfInBounds_toArray, List.set_cons_zero, List.set_cons_succ]
    refine wpAnyH_take (i := 2) (oi := ⟨some 17, _, _, _, _, _⟩) (v := ?_) rfl (by kernel_rfl) (by kernel_rfl) (by kernel_rfl) (fun _ _ _ h => h) (Or.inl ⟨by rfl, ?_⟩) (by assumption) ?_
    rotate_left
    ·(intro w hSw; refine Eq.trans (kexec_lr hSw 0 _ (by rfl) (by rfl) (by rfl)) ?_; with_reducible rfl)
    try simp only [Act.put, List.setIfInBounds_toArray, List.set_cons_zero, List.set_cons_succ]
    refine wpAnyH_ready (rs := [1]) (by kernel_rfl) (by simp) ?_
    refine AllReadyH.cons (o := ⟨some 16, _, _, _, _, _⟩) rfl (fun K hK => ?_) AllReadyH.nil
    go_simp
    go_at_call 131
    refine (HSe.out x _).mono ?_; rintro e w5 ⟨rfl, b5⟩; have hs := zH (hHeld.out.call b5); clear b5
    refine hK.out _ _ hs (fun hHeld => ?_)
    clear hK K
    try simp only [ap1, ap2, ap3, ap4, ap5]
    refine wpAnyH_ready (rs := [3]) (by kernel_rfl) (by simp) ?_
    refine AllReadyH.cons (o := ⟨some 18, _, _, _, _, _⟩) rfl (fun K hK => ?_) AllReadyH.nil
    go_simp
    go_at_call 131
    refine (HSe.out r _).mono ?_; rintro e w5 ⟨rfl, b5⟩; have hs := zH (hHeld.out.call b5); clear b5
    refine hK.out _ _ hs (fun hHeld => ?_)
    clear hK K
    try simp only [ap1, ap2, ap3, ap4, ap5]
    refine wpAnyH_take (i := 4) (oi := ⟨some 19, _, _, _, _, _⟩) (v := ?_) rfl (by kernel_rfl) (by kernel_rfl) (by kernel_rfl) (fun _ _ _ h => h) (Or.inl ⟨by rfl, ?_⟩) (by assumption) ?_
    rotate_left
    ·(intro w hSw; refine Eq.trans (exec_rne (v := ⟨x.c, x.e, 0⟩) (u := ⟨r.c, r.e, 0⟩) _ _ (by rfl) (by rfl) (by rfl) HM.out) ?_; with_reducible rfl)
    try simp only [Act.put, List.setIfInBounds_toArray, List.set_cons_zero, List.set_cons_succ]
    refine wpAnyH_done (by kernel_rfl) ?_ _
    replace HK := hHeld
    clear hHeld
    go_wp2_with (first | refine wpList_exe (kexec_lr HK 1 _ (by rfl) (by rfl) (by rfl)) (by rfl) ?_ | (refine wpList_mk1 rfLay (p := x) HK (by decide) rfl _ rfl rfl rfl ?_; intro _ g5 HK'; simp only [lcA, lnA] at HK'; have HR := zH (HK'.out.own 1 rfl).rd; replace HK := HK'; clear HK') | (at_builtin; refine wpList_kmore HK rfLay 0 rfl _ _ rfl rfl rfl [x] rfl rfl HR HL2 (N := N + 1) HN2 ?_; intro A4 c4 _ HK'; simp only [List.set] at HK'; replace HK := HK'; clear HK') | refine wpList_exe (exec_add1 (j := k) _ (by rfl) (by rfl) hk3) (by rfl) ?_)
    refine ⟨⟨k + 1, A4, c4, N + 1, hlt, rfl, rfl, zH (by rw [HE.out, HN2.out]), ?_⟩, by simp [intOf]; omega⟩
    rw [HE.out]
    exact zH ((HK.out.takeL 1).takeR 1)
  ·obtain rfl : k = n := by omega
   rw [HTake.out] at HK
   go_wp2_with fail
   go_ret
   exact ⟨A1, _, c1, rfl, HK.out.own 0 rfl, HK.out.b⟩
end Go.Proofs.YtpkodjllljnleaaGreat
namespace Go.Proofs.YtpkodjllljnleaaGreat
open Go.RowKit
def IsDr (r : List Rf) (y : Rf) (h : Bool) (w : World) (e : Ending) (w' : World) : Prop := ∃ A n c, e = .returned (.tuple #[.slice A n c, .agg #[.int .i64 y.c, .int .i64 y.e, .int .i64 y.r], .bool h]) ∧ rfLay.Own w.heap.size w' (.slice A n c) r ∧ Below w.heap.size w w'
set_option maxRecDepth 100000 in
set_option maxHeartbeats 12800000 in
theorem ldrop_any (A : Option Addr) (c n : Nat) (l : List Rf) (r : Rf) (w : World) (hs : Sls rfLay rF w A n c l) :
  Calls Tryz.prog 35 #[.slice A n c, .agg #[.int .i64 r.c, .int .i64 r.e, .int .i64 r.r]] w (IsDr (Lck.drL l r) (Lck.drN l r) (Lck.drS l r) w) := by
 have HM := zH (fun W (hW : Below w.heap.size w W) => lright_any A c n l W (hs.later hW))
 have HWo := zH (fun W (hW : Below w.heap.size w W) => without_any A c n l r W (hs.later hW))
 have HHl := zH (fun W (hW : Below w.heap.size w W) => holder_any A c n l W (hs.later hW))
 have HS := zH hs
 have HJ := zH rconcat_any
 have hlen := hs.len
 have HFw : Hid (Fits rfLay rF (Lck.wo l r)) := zH (hs.fit.sub (fun x hx => (List.mem_filter.1 hx).1) (Lck.wo_le l r))
 have HK := kn1 w 24 #[.int .i64 r.c, .int .i64 r.e, .int .i64 r.r]
 unfold IsB IsDr at *
 by_cases hr : Lck.Right l
 case neg =>
  rw [decide_eq_false hr] at HM
  obtain ⟨e1, e2, e3⟩ := Lck.dr_bad (r := r) hr
  rw [e1, e2, e3]
  clear e1 e2 e3 hr hs hlen HWo HHl HFw
  go_enter Tryz.func35, Tryz.ntmps35
  go_wp2_with (first | (refine wpList_akr HK rfl rfl ?_; intro _ g1 HK'; simp only [lcA, lnA] at HK'; replace HK := HK'; clear HK'))
  refine (HM.out _ HK.out.b).mono ?_; rintro e w1 ⟨rfl, b1⟩
  replace HK := hkC HK b1; clear b1
  go_wp2_with (first | (refine wpList_mks1 rfLay rfNest HK rfl _ rfl rfl ?_; intro w2 g7 HK' _; simp only [lcA, lnA] at HK'; replace HK := HK'; clear HK'))
  refine (HJ.out.one HK 2 rfl (HS.out.later HK.out.b)).mono ?_; rintro e w3 ⟨A4, n4, c4, rfl, o4, b4⟩; replace HK := zH (HK.out.called b4 o4); simp only [lnA] at HK; clear o4 b4
  go_wp2_with (first | (refine wpList_sr HK 1 rfl _ _ rfl rfl rfl rfl ?_; intro _ HK'; simp only [List.set] at HK'; replace HK := HK'; clear HK'))
  exact ret_srb Tryz.results35 rfl rfl rfl rfl (HK.out.blk 1 rfl) ⟨A4, n4, c4, rfl, HK.out.own 0 rfl, HK.out.b⟩
 case pos =>
 rw [decide_eq_true hr] at HM
 have HHw := zH (fun W A c n (h : Sls rfLay rF W A n c (Lck.wo l r)) => holder_any A c n (Lck.wo l r) W h)
 have HNo : Hid ((Lck.wo l r).length = 0 → Lck.drL l r = Lck.wo l r ∧ Lck.drN l r = Lck.zero ∧ Lck.drS l r = false) := zH (Lck.dr_none hr)
 have HSm : Hid (0 < (Lck.wo l r).length → (Lck.wo l r).headD Lck.zero = l.headD Lck.zero → Lck.drL l r = Lck.wo l r ∧ Lck.drN l r = Lck.zero ∧ Lck.drS l r = false) := zH fun h1 h2 => by
  obtain ⟨x, hx⟩ := Lay.get_of h1
  obtain ⟨y, hy⟩ := Lck.wo_first hx
  rw [Lck.head_of hx, Lck.head_of hy] at h2
  exact Lck.dr_same hr hx hy h2
 have HNe : Hid (0 < (Lck.wo l r).length → ¬ (Lck.wo l r).headD Lck.zero = l.headD Lck.zero → Lck.drL l r = Lck.wo l r ∧ Lck.drN l r = (Lck.wo l r).headD Lck.zero ∧ Lck.drS l r = true) := zH fun h1 h2 => by
  obtain ⟨x, hx⟩ := Lay.get_of h1
  obtain ⟨y, hy⟩ := Lck.wo_first hx
  rw [Lck.head_of hx, Lck.head_of hy] at h2
  rw [Lck.head_of hx]
  exact Lck.dr_new hr hx hy h2
 clear hr hs hlen HJ HS
 unfold IsLg at *
 generalize Lck.drL l r = dl at *
 generalize Lck.drN l r = dn at *
 generalize Lck.drS l r = ds at *
 generalize (Lck.wo l r).headD Lck.zero = y at *
 generalize Lck.wo l r = m at *
 generalize l.headD Lck.zero = x at *
 have hcase : m.length = 0 ∨ (0 < m.length ∧ y = x) ∨ (0 < m.length ∧ ¬ y = x) := by
  by_cases h1 : m.length = 0
  ·exact .inl h1
  ·by_cases h2 : y = x
   ·exact .inr (.inl ⟨by omega, h2⟩)
   ·exact .inr (.inr ⟨by omega, h2⟩)
 rcases hcase with h0 | ⟨h0, he⟩ | ⟨h0, he⟩
 ·obtain ⟨rfl, rfl, rfl⟩ := HNo.out h0
  have h0' : ¬ 0 < dl.length := by omega
  clear HNo HSm HNe h0
  go_enter Tryz.func35, Tryz.ntmps35
  go_wp2_with (first | (refine wpList_akr HK rfl rfl ?_; intro _ g1 HK'; simp only [lcA, lnA] at HK'; replace HK := HK'; clear HK'))
  refine (HM.out _ HK.out.b).mono ?_; rintro e w1 ⟨rfl, b1⟩
  replace HK := hkC HK b1; clear b1
  go_wp2_with (first | refine wpList_exe (kexec_lr HK 0 _ (by rfl) (by rfl) (by rfl)) (by rfl) ?_)
  refine (HWo.out _ HK.out.b).mono ?_; rintro e w3 ⟨A4, n4, c4, rfl, o4, b4⟩
  obtain rfl := (Lay.Own.reads o4).1
  replace HK := zH (HK.out.called b4 o4)
  simp only [lnA] at HK
  clear o4 b4
  go_wp2_with fail
  refine (HHl.out _ HK.out.b).mono ?_; rintro e w1 ⟨rfl, b1⟩
  replace HK := hkC HK b1; clear b1
  go_wp2_with (first | (refine wpList_akr HK rfl rfl ?_; intro _ g8 HK'; simp only [lcA, lnA] at HK'; replace HK := HK'; clear HK') | (refine wpList_sr HK 2 rfl _ _ rfl rfl rfl rfl ?_; intro _ HK'; simp only [List.set] at HK'; replace HK := HK'; clear HK'))
  refine (HHw.out _ _ _ _ (Sls.own (HK.out.own 0 rfl) HFw.out)).mono ?_; rintro e w1 ⟨rfl, b1⟩
  replace HK := hkC HK b1; clear b1
  rw [decide_eq_false h0']
  go_wp2_with (first | (refine wpList_akr HK rfl rfl ?_; intro _ g9 HK'; simp only [lcA, lnA] at HK'; replace HK := HK'; clear HK') | (refine wpList_sr HK 3 rfl _ _ rfl rfl rfl rfl ?_; intro _ HK'; simp only [List.set] at HK'; replace HK := HK'; clear HK') | (refine wpList_sr HK 1 rfl _ _ rfl rfl rfl rfl ?_; intro _ HK'; simp only [List.set] at HK'; replace HK := HK'; clear HK'))
  exact ret_srb Tryz.results35 rfl rfl rfl rfl (HK.out.blk 1 rfl) ⟨A4, _, c4, rfl, HK.out.own 0 rfl, HK.out.b⟩
 ·obtain ⟨rfl, rfl, rfl⟩ := HSm.out h0 he
  subst he
  have HE := zH (req_self y)
  clear HNo HSm HNe
  go_enter Tryz.func35, Tryz.ntmps35
  go_wp2_with (first | (refine wpList_akr HK rfl rfl ?_; intro _ g1 HK'; simp only [lcA, lnA] at HK'; replace HK := HK'; clear HK'))
  refine (HM.out _ HK.out.b).mono ?_; rintro e w1 ⟨rfl, b1⟩
  replace HK := hkC HK b1; clear b1
  go_wp2_with (first | refine wpList_exe (kexec_lr HK 0 _ (by rfl) (by rfl) (by rfl)) (by rfl) ?_)
  refine (HWo.out _ HK.out.b).mono ?_; rintro e w3 ⟨A4, n4, c4, rfl, o4, b4⟩
  obtain rfl := (Lay.Own.reads o4).1
  replace HK := zH (HK.out.called b4 o4)
  simp only [lnA] at HK
  clear o4 b4
  go_wp2_with fail
  refine (HHl.out _ HK.out.b).mono ?_; rintro e w1 ⟨rfl, b1⟩
  replace HK := hkC HK b1; clear b1
  go_wp2_with (first | (refine wpList_akr HK rfl rfl ?_; intro _ g8 HK'; simp only [lcA, lnA] at HK'; replace HK := HK'; clear HK') | (refine wpList_sr HK 2 rfl _ _ rfl rfl rfl rfl ?_; intro _ HK'; simp only [List.set] at HK'; replace HK := HK'; clear HK'))
  refine (HHw.out _ _ _ _ (Sls.own (HK.out.own 0 rfl) HFw.out)).mono ?_; rintro e w1 ⟨rfl, b1⟩
  replace HK := hkC HK b1; clear b1
  rw [decide_eq_true h0]
  go_wp2_with (first | (refine wpList_akr HK rfl rfl ?_; intro _ g9 HK'; simp only [lcA, lnA] at HK'; replace HK := HK'; clear HK') | (refine wpList_sr HK 3 rfl _ _ rfl rfl rfl rfl ?_; intro _ HK'; simp only [List.set] at HK'; replace HK := HK'; clear HK') | refine wpList_exe (kexec_lr HK 3 _ (by rfl) (by rfl) (by rfl)) (by rfl) ?_ | refine wpList_exe (kexec_lr HK 2 _ (by rfl) (by rfl) (by rfl)) (by rfl) ?_ | refine wpList_exe (exec_req (v := y) (u := y) _ _ (by rfl) (by rfl) (by rfl) HE.out) (by rfl) ?_ | (refine wpList_sr HK 1 rfl _ _ rfl rfl rfl rfl ?_; intro _ HK'; simp only [List.set] at HK'; replace HK := HK'; clear HK'))
  exact ret_srb Tryz.results35 rfl rfl rfl rfl (HK.out.blk 1 rfl) ⟨A4, _, c4, rfl, HK.out.own 0 rfl, HK.out.b⟩
 ·obtain ⟨rfl, rfl, rfl⟩ := HNe.out h0 he
  have HE := zH (show decide (dn = x) = false from decide_eq_false he)
  clear HNo HSm HNe he
  go_enter Tryz.func35, Tryz.ntmps35
  go_wp2_with (first | (refine wpList_akr HK rfl rfl ?_; intro _ g1 HK'; simp only [lcA, lnA] at HK'; replace HK := HK'; clear HK'))
  refine (HM.out _ HK.out.b).mono ?_; rintro e w1 ⟨rfl, b1⟩
  replace HK := hkC HK b1; clear b1
  go_wp2_with (first | refine wpList_exe (kexec_lr HK 0 _ (by rfl) (by rfl) (by rfl)) (by rfl) ?_)
  refine (HWo.out _ HK.out.b).mono ?_; rintro e w3 ⟨A4, n4, c4, rfl, o4, b4⟩
  obtain rfl := (Lay.Own.reads o4).1
  replace HK := zH (HK.out.called b4 o4)
  simp only [lnA] at HK
  clear o4 b4
  go_wp2_with fail
  refine (HHl.out _ HK.out.b).mono ?_; rintro e w1 ⟨rfl, b1⟩
  replace HK := hkC HK b1; clear b1
  go_wp2_with (first | (refine wpList_akr HK rfl rfl ?_; intro _ g8 HK'; simp only [lcA, lnA] at HK'; replace HK := HK'; clear HK') | (refine wpList_sr HK 2 rfl _ _ rfl rfl rfl rfl ?_; intro _ HK'; simp only [List.set] at HK'; replace HK := HK'; clear HK'))
  refine (HHw.out _ _ _ _ (Sls.own (HK.out.own 0 rfl) HFw.out)).mono ?_; rintro e w1 ⟨rfl, b1⟩
  replace HK := hkC HK b1; clear b1
  rw [decide_eq_true h0]
  go_wp2_with (first | (refine wpList_akr HK rfl rfl ?_; intro _ g9 HK'; simp only [lcA, lnA] at HK'; replace HK := HK'; clear HK') | (refine wpList_sr HK 3 rfl _ _ rfl rfl rfl rfl ?_; intro _ HK'; simp only [List.set] at HK'; replace HK := HK'; clear HK') | refine wpList_exe (kexec_lr HK 3 _ (by rfl) (by rfl) (by rfl)) (by rfl) ?_ | refine wpList_exe (kexec_lr HK 2 _ (by rfl) (by rfl) (by rfl)) (by rfl) ?_ | refine wpList_exe (exec_req (v := dn) (u := x) _ _ (by rfl) (by rfl) (by rfl) HE.out) (by rfl) ?_)
  have HK0 := zH HK.out.drew
  refine wp_region_held_drew (S := (fun W => Hid (Kn w.heap.size w W [(g9, 24, #[.int .i64 dn.c, .int .i64 dn.e, .int .i64 dn.r])] []))) (by kernel_rfl) ?_ (fun hHeld => ?_)
  ·(try dsimp only); exact zH ((HK0.out.dropL 3).takeR 0)
  refine wpAnyH_take (i := 0) (oi := ⟨some 41, _, _, _, _, _⟩) (v := ?_) rfl (by kernel_rfl) (by kernel_rfl) (by kernel_rfl) (fun _ _ _ h => h) (Or.inl ⟨by rfl, ?_⟩) (by assumption) ?_
  rotate_left
  ·(intro w hSw; (try dsimp only at hSw); go_simp; try with_reducible rfl)
  try simp only [Act.put, List.setIfInBounds_toArray, List.set_cons_zero, List.set_cons_succ]
  refine wpAnyH_take (i := 1) (oi := ⟨some 42, _, _, _, _, _⟩) (v := ?_) rfl (by kernel_rfl) (by kernel_rfl) (by kernel_rfl) (fun _ _ _ h => h) (Or.inl ⟨by rfl, ?_⟩) (by assumption) ?_
  rotate_left
  ·(intro w hSw; refine Eq.trans (kexec_lr hSw 0 _ (by rfl) (by rfl) (by rfl)) ?_; with_reducible rfl)
  try simp only [Act.put, List.setIfInBounds_toArray, List.set_cons_zero, List.set_cons_succ]
  refine wpAnyH_take (i := 2) (oi := ⟨some 4, _, _, _, _, _⟩) (v := ?_) rfl (by kernel_rfl) (by kernel_rfl) (by kernel_rfl) (fun _ _ _ h => h) (Or.inl ⟨by rfl, ?_⟩) (by assumption) ?_
  rotate_left
  ·(intro w hSw; (try dsimp only at hSw); go_simp; try with_reducible rfl)
  try simp only [Act.put, List.setIfInBounds_toArray, List.set_cons_zero, List.set_cons_succ]
  refine wpAnyH_ready (rs := [3]) (by kernel_rfl) (by simp) ?_
  refine AllReadyH.cons (o := ⟨none, _, _, _, _, _⟩) rfl (fun K hK => ?_) AllReadyH.nil
  refine step_sr HK0 1 (by rfl) _ _ (by rfl) (by rfl) (by rfl) (by rfl) ?_; intro wq HK'; simp only [List.set] at HK'; replace HK0 := HK'; clear HK'; have hs := zH ((HK0.out.dropL 3).takeR 0)
  refine hK.out _ _ hs (fun hHeld => ?_)
  clear hK K
  try simp only [ap1, ap2, ap3, ap4, ap5]
  refine wpAnyH_take (i := 4) (oi := ⟨some 6, _, _, _, _, _⟩) (v := ?_) rfl (by kernel_rfl) (by kernel_rfl) (by kernel_rfl) (fun _ _ _ h => h) (Or.inl ⟨by rfl, ?_⟩) (by assumption) ?_
  rotate_left
  ·(intro w hSw; (try dsimp only at hSw); go_simp; try with_reducible rfl)
  try simp only [Act.put, List.setIfInBounds_toArray, List.set_cons_zero, List.set_cons_succ]
  refine wpAnyH_done (by kernel_rfl) ?_ _
  all_goals
   go_wp2_with fail
   exact ret_srb Tryz.results35 rfl rfl rfl rfl (HK0.out.blk 1 rfl) ⟨A4, _, c4, rfl, HK0.out.own 0 rfl, HK0.out.b⟩
end Go.Proofs.YtpkodjllljnleaaGreat
namespace Go.Proofs.YtpkodjllljnleaaGreat
open Go.RowKit
def IsLgr (A : Option Addr) (n c : Nat) (l r : List Rf) (w : World) (e : Ending) (w' : World) : Prop := ∃ A' n' c', e = .returned (.slice A' n' c') ∧ OwnOr rfLay w.heap.size w' A n c l A' n' c' r ∧ Below w.heap.size w w'
set_option maxRecDepth 100000 in
set_option maxHeartbeats 25600000 in
theorem rgdrop_any (m : Int) (A : Option Addr) (c n : Nat) (l : List Rf) (r : Rf) (w : World) (hs : Sls rfLay rF w A n c l) :
  Calls Tryz.prog 38 #[.int .i64 m, .slice A n c, .agg #[.int .i64 r.c, .int .i64 r.e, .int .i64 r.r]] w (IsLgr A n c l (Gt.drL m l r) w) := by
 have HM := zH (fun W (hW : Below w.heap.size w W) => rgright_any m A c n l W (hs.later hW))
 have HMi := zH (fun x W => mine_any x r W)
 have hlen := hs.len
 have HK := kn1 w 24 #[.int .i64 r.c, .int .i64 r.e, .int .i64 r.r]
 unfold IsB IsLgr at *
 by_cases hr : Gt.Right m l
 case neg =>
  rw [decide_eq_false hr] at HM
  rw [Gt.dr_no hr]
  clear hr hs hlen HMi
  go_enter Tryz.func38, Tryz.ntmps38
  go_wp2_with fail
  refine (HM.out _ HK.out.b).mono ?_; rintro e w1 ⟨rfl, b1⟩
  replace HK := hkC HK b1; clear b1
  go_wp2_with fail
  go_ret
  exact ⟨A, n, c, rfl, .inr ⟨rfl, rfl, rfl, rfl⟩, HK.out.b⟩
 case pos =>
 rw [decide_eq_true hr] at HM
 rw [Gt.dr_yes hr]
 have HS := zH hs
 have h5 := Lck.right_len hr.2.2.2
 rw [hlen] at h5
 have HTake : Hid (l.take n = l) := zH (by rw [← hlen]; exact List.take_length)
 have HTl : Hid (∀ k, k ≤ n → (Lck.wo (l.take k) r).length ≤ k) := zH fun k hk => Nat.le_trans (Lck.wo_le _ _) (by rw [List.length_take]; omega)
 clear hs hr hlen
 go_enter Tryz.func38, Tryz.ntmps38
 go_wp2_with fail
 refine (HM.out _ HK.out.b).mono ?_; rintro e w1 ⟨rfl, b1⟩
 replace HK := hkC HK b1; clear b1
 clear HM
 replace HK := zH (HK.out.nilR rfLay)
 simp only [lnA] at HK
 go_wp2_with fail
 go_loopw [7, 8] (fun vs vi wr => ∃ (k : Nat) (A1 : Option Addr) (c1 N : Nat), k ≤ n ∧ vs = .slice A1 N c1 ∧ vi = .int .i64 k ∧ Hid ((Lck.wo (l.take k) r).length = N) ∧ Hid (Kn w.heap.size w wr [(w.heap.size, 24, #[.int .i64 r.c, .int .i64 r.e, .int .i64 r.r])] [row rfLay (.slice A1 N c1) (Lck.wo (l.take k) r)])) (fun _ vi _ => n - (intOf vi).toNat)
 case atStart => exact ⟨0, none, 0, 0, Nat.zero_le _, rfl, rfl, zH rfl, HK⟩
 case round =>
  clear HK
  obtain ⟨k, A1, c1, N, hk, rfl, rfl, hN, HK⟩ := hrel
  have hk1 : (0 : Int) ≤ (k : Int) := by omega
  by_cases hlt : k < n
  ·have hk2 : (k : Int) < (n : Int) := by omega
   have hk3 : k < 9223372036854775807 := by omega
   obtain ⟨x, hx, _⟩ := HS.out.get hlt
   obtain ⟨b, o, rfl, hat⟩ := HS.out.at (Nat.lt_of_le_of_lt (Nat.zero_le _) hlt)
   have HX := zH (fun W hW => hat W hW k x hx)
   have hNk : N ≤ k := by rw [← hN.out]; exact HTl.out k hk
   replace HMi := zH (fun W => HMi.out x W)
   by_cases hm : Lck.mine x r
   ·have HE := zH (Lck.wo_take_out hx hm)
    rw [decide_eq_true hm] at HMi
    clear hat hx hm
    go_wp2_with fail
    refine wp_region_held_drew (S := (fun W => Hid (Kn w.heap.size w W [(w.heap.size, 24, #[.int .i64 r.c, .int .i64 r.e, .int .i64 r.r])] [row rfLay (.slice A1 N c1) (Lck.wo (l.take k) r)]))) (by kernel_rfl) ?_ (fun hHeld => ?_)
    ·(try dsimp only); exact zH HK.out.drew
    refine wpAnyH_take (i := 0) (oi := ⟨some 20, _, _, _, _, _⟩) (v := ?_) rfl (by kernel_rfl) (by kernel_rfl) (by kernel_rfl) (fun _ _ _ h => h) (Or.inl ⟨by rfl, ?_⟩) (by assumption) ?_
    rotate_left
    ·(intro w hSw; (try dsimp only at hSw); go_simp; try with_reducible rfl)
    try simp only [Act.put, List.setIfInBounds_toArray, List.set_cons_zero, List.set_cons_succ]
    refine wpAnyH_take (i := 1) (oi := ⟨some 21, _, _, _, _, _⟩) (v := ?_) rfl (by kernel_rfl) (by kernel_rfl) (by kernel_rfl) (fun _ _ _ h => h) (Or.inl ⟨by rfl, ?_⟩) (by assumption) ?_
    rotate_left
    ·(intro w hSw; (try dsimp only at hSw); go_simp; try with_reducible rfl)
    try simp only [Act.put, List.setIfInBounds_toArray, List.set_cons_zero, List.set_cons_succ]
    refine wpAnyH_take (i := 2) (oi := ⟨some 22, _, _, _, _, _⟩) (v := ?_) rfl (by kernel_rfl) (by kernel_rfl) (by kernel_rfl) (fun _ _ _ h => h) (Or.inl ⟨by rfl, ?_⟩) (by assumption) ?_
    rotate_left
    ·(intro w hSw; refine Eq.trans (exec_ixr (i := k) _ _ (by rfl) (by rfl) (by rfl) hlt) ?_; with_reducible rfl)
    try simp only [Act.put, List.setIfInBounds_toArray, List.set_cons_zero, List.set_cons_succ]
    refine wpAnyH_take (i := 3) (oi := ⟨some 23, _, _, _, _, _⟩) (v := ?_) rfl (by kernel_rfl) (by kernel_rfl) (by kernel_rfl) (fun _ _ _ h => h) (Or.inl ⟨by rfl, ?_⟩) (by assumption) ?_
    rotate_left
    ·(intro w hSw; refine Eq.trans (exec_lr (x := x) (off := o + k * 3) _ (by rfl) (by rfl) (HX.out _ hSw.out.b)) ?_; with_reducible rfl)
    try simp only [Act.put, List.setIfInBounds_toArray, List.set_cons_zero, List.set_cons_succ]
    refine wpAnyH_take (i := 4) (oi := ⟨some 24, _, _, _, _, _⟩) (v := ?_) rfl (by kernel_rfl) (by kernel_rfl) (by kernel_rfl) (fun _ _ _ h => h) (Or.inl ⟨by rfl, ?_⟩) (by assumption) ?_
    rotate_left
    ·(intro w hSw; refine Eq.trans (kexec_lr hSw 0 _ (by rfl) (by rfl) (by rfl)) ?_; with_reducible rfl)
    try simp only [Act.put, List.setIfInBounds_toArray, List.set_cons_zero, List.set_cons_succ]
    refine wpAnyH_ready (rs := [5]) (by kernel_rfl) (by simp) ?_
    refine AllReadyH.cons (o := ⟨some 25, _, _, _, _, _⟩) rfl (fun K hK => ?_) AllReadyH.nil
    go_simp
    go_at_call 87
    refine (HMi.out _).mono ?_; rintro e w5 ⟨rfl, b5⟩; have hs := zH (hHeld.out.call b5); clear b5
    refine hK.out _ _ hs (fun hHeld => ?_)
    clear hK K
    try simp only [ap1, ap2, ap3, ap4, ap5]
    refine wpAnyH_take (i := 6) (oi := ⟨some 26, _, _, _, _, _⟩) (v := ?_) rfl (by kernel_rfl) (by kernel_rfl) (by kernel_rfl) (fun _ _ _ h => h) (Or.inl ⟨by rfl, ?_⟩) (by assumption) ?_
    rotate_left
    ·(intro w hSw; (try dsimp only at hSw); go_simp; try with_reducible rfl)
    try simp only [Act.put, List.setIfInBounds_toArray, List.set_cons_zero, List.set_cons_succ]
    refine wpAnyH_done (by kernel_rfl) ?_ _
    replace HK := hHeld
    clear hHeld
    go_wp2_with (first | refine wpList_exe (exec_add1 (j := k) _ (by rfl) (by rfl) hk3) (by rfl) ?_)
    refine ⟨⟨k + 1, A1, c1, N, hlt, rfl, rfl, zH (by rw [HE.out, hN.out]), ?_⟩, by simp [intOf]; omega⟩
    rw [HE.out]
    exact HK
   ·have HE := zH (Lck.wo_take_in hx hm)
    rw [decide_eq_false hm] at HMi
    have HN2 : Hid ((Lck.wo (l.take k) r ++ [x]).length = N + 1) := zH (by rw [List.length_append, hN.out]; rfl)
    have HL2 := grow_ok (La := rfLay) HN2 (by show (N + 1) * 24 ≤ _; omega) (by omega)
    clear hat hx hm
    go_wp2_with fail
    refine wp_region_held_drew (S := (fun W => Hid (Kn w.heap.size w W [(w.heap.size, 24, #[.int .i64 r.c, .int .i64 r.e, .int .i64 r.r])] [row rfLay (.slice A1 N c1) (Lck.wo (l.take k) r)]))) (by kernel_rfl) ?_ (fun hHeld => ?_)
    ·(try dsimp only); exact zH HK.out.drew
    refine wpAnyH_take (i := 0) (oi := ⟨some 20, _, _, _, _, _⟩) (v := ?_) rfl (by kernel_rfl) (by kernel_rfl) (by kernel_rfl) (fun _ _ _ h => h) (Or.inl ⟨by rfl, ?_⟩) (by assumption) ?_
    rotate_left
    ·(intro w hSw; (try dsimp only at hSw); go_simp; try with_reducible rfl)
    try simp only [Act.put, List.setIfInBounds_toArray, List.set_cons_zero, List.set_cons_succ]
    refine wpAnyH_take (i := 1) (oi := ⟨some 21, _, _, _, _, _⟩) (v := ?_) rfl (by kernel_rfl) (by kernel_rfl) (by kernel_rfl) (fun _ _ _ h => h) (Or.inl ⟨by rfl, ?_⟩) (by assumption) ?_
    rotate_left
    ·(intro w hSw; (try dsimp only at hSw); go_simp; try with_reducible rfl)
    try simp only [Act.put, List.setIfInBounds_toArray, List.set_cons_zero, List.set_cons_succ]
    refine wpAnyH_take (i := 2) (oi := ⟨some 22, _, _, _, _, _⟩) (v := ?_) rfl (by kernel_rfl) (by kernel_rfl) (by kernel_rfl) (fun _ _ _ h => h) (Or.inl ⟨by rfl, ?_⟩) (by assumption) ?_
    rotate_left
    ·(intro w hSw; refine Eq.trans (exec_ixr (i := k) _ _ (by rfl) (by rfl) (by rfl) hlt) ?_; with_reducible rfl)
    try simp only [Act.put, List.setIfInBounds_toArray, List.set_cons_zero, List.set_cons_succ]
    refine wpAnyH_take (i := 3) (oi := ⟨some 23, _, _, _, _, _⟩) (v := ?_) rfl (by kernel_rfl) (by kernel_rfl) (by kernel_rfl) (fun _ _ _ h => h) (Or.inl ⟨by rfl, ?_⟩) (by assumption) ?_
    rotate_left
    ·(intro w hSw; refine Eq.trans (exec_lr (x := x) (off := o + k * 3) _ (by rfl) (by rfl) (HX.out _ hSw.out.b)) ?_; with_reducible rfl)
    try simp only [Act.put, List.setIfInBounds_toArray, List.set_cons_zero, List.set_cons_succ]
    refine wpAnyH_take (i := 4) (oi := ⟨some 24, _, _, _, _, _⟩) (v := ?_) rfl (by kernel_rfl) (by kernel_rfl) (by kernel_rfl) (fun _ _ _ h => h) (Or.inl ⟨by rfl, ?_⟩) (by assumption) ?_
    rotate_left
    ·(intro w hSw; refine Eq.trans (kexec_lr hSw 0 _ (by rfl) (by rfl) (by rfl)) ?_; with_reducible rfl)
    try simp only [Act.put, List.setIfInBounds_toArray, List.set_cons_zero, List.set_cons_succ]
    refine wpAnyH_ready (rs := [5]) (by kernel_rfl) (by simp) ?_
    refine AllReadyH.cons (o := ⟨some 25, _, _, _, _, _⟩) rfl (fun K hK => ?_) AllReadyH.nil
    go_simp
    go_at_call 87
    refine (HMi.out _).mono ?_; rintro e w5 ⟨rfl, b5⟩; have hs := zH (hHeld.out.call b5); clear b5
    refine hK.out _ _ hs (fun hHeld => ?_)
    clear hK K
    try simp only [ap1, ap2, ap3, ap4, ap5]
    refine wpAnyH_take (i := 6) (oi := ⟨some 26, _, _, _, _, _⟩) (v := ?_) rfl (by kernel_rfl) (by kernel_rfl) (by kernel_rfl) (fun _ _ _ h => h) (Or.inl ⟨by rfl, ?_⟩) (by assumption) ?_
    rotate_left
    ·(intro w hSw; (try dsimp only at hSw); go_simp; try with_reducible rfl)
    try simp only [Act.put, List.setIfInBounds_toArray, List.set_cons_zero, List.set_cons_succ]
    refine wpAnyH_done (by kernel_rfl) ?_ _
    replace HK := hHeld
    clear hHeld
    go_wp2_with (first | refine wpList_exe (exec_lr (x := x) (off := o + k * 3) _ (by rfl) (by rfl) (HX.out _ HK.out.b)) (by rfl) ?_ | (refine wpList_mk1 rfLay (p := x) HK (by decide) rfl _ rfl rfl rfl ?_; intro _ g5 HK'; simp only [lcA, lnA] at HK'; have HR := zH (HK'.out.own 1 rfl).rd; replace HK := HK'; clear HK') | (at_builtin; refine wpList_kmore HK rfLay 0 rfl _ _ rfl rfl rfl [x] rfl rfl HR HL2 (N := N + 1) HN2 ?_; intro A4 c4 _ HK'; simp only [List.set] at HK'; replace HK := HK'; clear HK') | refine wpList_exe (exec_add1 (j := k) _ (by rfl) (by rfl) hk3) (by rfl) ?_)
    refine ⟨⟨k + 1, A4, c4, N + 1, hlt, rfl, rfl, zH (by rw [HE.out, HN2.out]), ?_⟩, by simp [intOf]; omega⟩
    rw [HE.out]
    exact zH (HK.out.takeR 1)
  ·obtain rfl : k = n := by omega
   rw [HTake.out] at HK
   go_wp2_with fail
   go_ret
   exact ⟨A1, _, c1, rfl, .inl (HK.out.own 0 rfl), HK.out.b⟩
end Go.Proofs.YtpkodjllljnleaaGreat
namespace Go.Proofs.YtpkodjllljnleaaGreat
open Go.RowKit
set_option maxHeartbeats 3200000 in
theorem gsession_any (x : Rf) (w : World) : Calls Tryz.prog 85 #[.agg #[.int .i64 x.c, .int .i64 x.e, .int .i64 x.r]] w (fun e w' => e = .returned (.agg #[.int .i64 x.c, .int .i64 x.e, .int .i64 0]) ∧ Below w.heap.size w w') := by
 have HK := zH (kn1 w 24 #[.int .i64 x.c, .int .i64 x.e, .int .i64 x.r]).out
 go_enter Tryz.func85, Tryz.ntmps85
 go_wp2_with (first | (refine wpList_akr HK rfl rfl ?_; intro _ g1 HK'; simp only [lcA, lnA] at HK'; replace HK := HK'; clear HK') | refine wpList_exe (kexec_lc0 HK 0 _ (by rfl) (by rfl) (by rfl)) (by rfl) ?_ | refine wpList_exe (kexec_lc1 HK 0 _ (by rfl) (by rfl) (by rfl)) (by rfl) ?_ | (refine wpList_sr HK 1 rfl _ _ rfl rfl rfl rfl ?_; intro _ HK'; simp only [List.set] at HK'; replace HK := HK'; clear HK'))
 exact ret_r Tryz.results85 rfl rfl (HK.out.blk 1 rfl) ⟨rfl, HK.out.b⟩
end Go.Proofs.YtpkodjllljnleaaGreat
namespace Go.Proofs.YtpkodjllljnleaaGreat
open Go.RowKit
set_option maxRecDepth 100000 in
set_option maxHeartbeats 12800000 in
theorem gdrop_any (m : Int) (A : Option Addr) (c n : Nat) (l : List Rf) (r : Rf) (w : World) (hs : Sls rfLay rF w A n c l) :
  Calls Tryz.prog 37 #[.int .i64 m, .slice A n c, .agg #[.int .i64 r.c, .int .i64 r.e, .int .i64 r.r]] w (IsLg rfLay (Gt.drL m l r) w) := by
 have HM := zH (fun W (hW : Below w.heap.size w W) => gright_any m A c n l W (hs.later hW))
 have HS := zH hs
 have HJ := zH rconcat_any
 have HSe := zH (fun x W => gsession_any x W)
 have HK := kn1 w 24 #[.int .i64 r.c, .int .i64 r.e, .int .i64 r.r]
 unfold IsB IsLg at *
 by_cases hr : Gt.Right m l
 case neg =>
  rw [decide_eq_false hr] at HM
  rw [Gt.dr_no hr]
  clear hr hs HSe
  go_enter Tryz.func37, Tryz.ntmps37
  go_wp2_with fail
  refine (HM.out _ HK.out.b).mono ?_; rintro e w1 ⟨rfl, b1⟩
  replace HK := hkC HK b1; clear b1
  go_wp2_with (first | (refine wpList_mks1 rfLay rfNest HK rfl _ rfl rfl ?_; intro w2 g7 HK' _; simp only [lcA, lnA] at HK'; replace HK := HK'; clear HK'))
  refine (HJ.out.one HK 1 rfl (HS.out.later HK.out.b)).mono ?_; rintro e w3 ⟨A4, n4, c4, rfl, o4, b4⟩; replace HK := zH (HK.out.called b4 o4); simp only [lnA] at HK; clear o4 b4
  go_wp2_with fail
  go_ret
  exact ⟨A4, n4, c4, rfl, HK.out.own 0 rfl, HK.out.b⟩
 case pos =>
 rw [decide_eq_true hr] at HM
 rw [Gt.dr_yes hr]
 have hbig : n * 24 ≤ 140737488355328 := hs.big
 have hn63 : n < 9223372036854775807 := by omega
 have HTake : Hid (l.take n = l) := zH (by rw [← hs.len]; exact List.take_length)
 have HTl : Hid (∀ k, k ≤ n → (Lck.wo (l.take k) r).length ≤ k) := zH fun k hk => Nat.le_trans (Lck.wo_le _ _) (by rw [List.length_take]; omega)
 clear hs hr HJ
 go_enter Tryz.func37, Tryz.ntmps37
 go_wp2_with fail
 refine (HM.out _ HK.out.b).mono ?_; rintro e w1 ⟨rfl, b1⟩
 replace HK := hkC HK b1; clear b1
 clear HM
 go_wp2_with (first | (refine wpList_mk0 rfLay HK rfl rfl ?_; intro _ g2 HK'; simp only [lnA] at HK'; replace HK := HK'; clear HK'))
 go_loopw [7, 20] (fun vs vi wr => ∃ (k : Nat) (A1 : Option Addr) (c1 N : Nat), k ≤ n ∧ vs = .slice A1 N c1 ∧ vi = .int .i64 k ∧ Hid ((Lck.wo (l.take k) r).length = N) ∧ Hid (Kn w.heap.size w wr [(w.heap.size, 24, #[.int .i64 r.c, .int .i64 r.e, .int .i64 r.r])] [row rfLay (.slice A1 N c1) (Lck.wo (l.take k) r)])) (fun _ vi _ => n - (intOf vi).toNat)
 case atStart => exact ⟨0, _, _, 0, Nat.zero_le _, rfl, rfl, zH rfl, HK⟩
 case round =>
  clear HK
  obtain ⟨k, A1, c1, N, hk, rfl, rfl, hN, HK⟩ := hrel
  have hk1 : (0 : Int) ≤ (k : Int) := by omega
  by_cases hlt : k < n
  ·have hk2 : (k : Int) < (n : Int) := by omega
   have hk3 : k < 9223372036854775807 := by omega
   obtain ⟨x, hx, _⟩ := HS.out.get hlt
   obtain ⟨b, o, rfl, hat⟩ := HS.out.at (Nat.lt_of_le_of_lt (Nat.zero_le _) hlt)
   have HX := zH (fun W hW => hat W hW k x hx)
   have hNk : N ≤ k := by rw [← hN.out]; exact HTl.out k hk
   have HMi := mine_ne x r
   by_cases hm : Lck.mine x r
   ·have HE := zH (Lck.wo_take_out hx hm)
    rw [decide_eq_true hm] at HMi
    replace HMi := zH HMi
    clear hat hx hm
    go_wp2_with (first | refine wpList_exe (exec_lr (x := x) (off := o + k * 3) _ (by rfl) (by rfl) (HX.out _ HK.out.b)) (by rfl) ?_ | (refine wpList_akr HK rfl rfl ?_; intro _ g2 HK'; simp only [lcA, lnA] at HK'; replace HK := HK'; clear HK') | (refine wpList_sr HK 1 rfl _ _ rfl rfl rfl rfl ?_; intro _ HK'; simp only [List.set] at HK'; replace HK := HK'; clear HK'))
    refine wp_region_held_drew (S := (fun W => Hid (Kn w.heap.size w W [(w.heap.size, 24, #[.int .i64 r.c, .int .i64 r.e, .int .i64 r.r]), (g2, 24, #[.int .i64 x.c, .int .i64 x.e, .int .i64 x.r])] [row rfLay (.slice A1 N c1) (Lck.wo (l.take k) r)]))) (by kernel_rfl) ?_ (fun hHeld => ?_)
    ·(try dsimp only); exact zH HK.out.drew
    refine wpAnyH_take (i := 0) (oi := ⟨some 24, _, _, _, _, _⟩) (v := ?_) rfl (by kernel_rfl) (by kernel_rfl) (by kernel_rfl) (fun _ _ _ h => h) (Or.inl ⟨by rfl, ?_⟩) (by assumption) ?_
    rotate_left
    ·(intro w hSw; refine Eq.trans (kexec_lr hSw 1 _ (by rfl) (by rfl) (by rfl)) ?_; with_reducible rfl)
    try simp only [Act.put, List.setIfInBounds_toArray, List.set_cons_zero, List.set_cons_succ]
    refine wpAnyH_take (i := 2) (oi := ⟨some 26, _, _, _, _, _⟩) (v := ?_) rfl (by kernel_rfl) (by kernel_rfl) (by kernel_rfl) (fun _ _ _ h => h) (Or.inl ⟨by rfl, ?_⟩) (by assumption) ?_
    rotate_left
    ·(intro w hSw; refine Eq.trans (kexec_lr hSw 0 _ (by rfl) (by rfl) (by rfl)) ?_; with_reducible rfl)
    try simp only [Act.put, List.setIfInBounds_toArray, List.set_cons_zero, List.set_cons_succ]
    refine wpAnyH_ready (rs := [1]) (by kernel_rfl) (by simp) ?_
    refine AllReadyH.cons (o := ⟨some 25, _, _, _, _, _⟩) rfl (fun K hK => ?_) AllReadyH.nil
    go_simp
    go_at_call 85
    refine (HSe.out x _).mono ?_; rintro e w5 ⟨rfl, b5⟩; have hs := zH (hHeld.out.call b5); clear b5
    refine hK.out _ _ hs (fun hHeld => ?_)
    clear hK K
    try simp only [ap1, ap2, ap3, ap4, ap5]
    refine wpAnyH_ready (rs := [3]) (by kernel_rfl) (by simp) ?_
    refine AllReadyH.cons (o := ⟨some 27, _, _, _, _, _⟩) rfl (fun K hK => ?_) AllReadyH.nil
    go_simp
    go_at_call 85
    refine (HSe.out r _).mono ?_; rintro e w5 ⟨rfl, b5⟩; have hs := zH (hHeld.out.call b5); clear b5
    refine hK.out _ _ hs (fun hHeld => ?_)
    clear hK K
    try simp only [ap1, ap2, ap3, ap4, ap5]
    refine wpAnyH_take (i := 4) (oi := ⟨some 28, _, _, _, _, _⟩) (v := ?_) rfl (by kernel_rfl) (by kernel_rfl) (by kernel_rfl) (fun _ _ _ h => h) (Or.inl ⟨by rfl, ?_⟩) (by assumption) ?_
    rotate_left
    ·(intro w hSw; refine Eq.trans (exec_rne (v := ⟨x.c, x.e, 0⟩) (u := ⟨r.c, r.e, 0⟩) _ _ (by rfl) (by rfl) (by rfl) HMi.out) ?_; with_reducible rfl)
    try simp only [Act.put, List.setIfInBounds_toArray, List.set_cons_zero, List.set_cons_succ]
    refine wpAnyH_done (by kernel_rfl) ?_ _
    replace HK := hHeld
    clear hHeld
    go_wp2_with (first | refine wpList_exe (exec_add1 (j := k) _ (by rfl) (by rfl) hk3) (by rfl) ?_)
    refine ⟨⟨k + 1, A1, c1, N, hlt, rfl, rfl, zH (by rw [HE.out, hN.out]), ?_⟩, by simp [intOf]; omega⟩
    rw [HE.out]
    exact zH (HK.out.takeL 1)
   ·have HE := zH (Lck.wo_take_in hx hm)
    rw [decide_eq_false hm] at HMi
    replace HMi := zH HMi
    have HN2 : Hid ((Lck.wo (l.take k) r ++ [x]).length = N + 1) := zH (by rw [List.length_append, hN.out]; rfl)
    have HL2 := grow_ok (La := rfLay) HN2 (by show (N + 1) * 24 ≤ _; omega) (by omega)
    clear hat hx hm
    go_wp2_with (first | refine wpList_exe (exec_lr (x := x) (off := o + k * 3) _ (by rfl) (by rfl) (HX.out _ HK.out.b)) (by rfl) ?_ | (refine wpList_akr HK rfl rfl ?_; intro _ g2 HK'; simp only [lcA, lnA] at HK'; replace HK := HK'; clear HK') | (refine wpList_sr HK 1 rfl _ _ rfl rfl rfl rfl ?_; intro _ HK'; simp only [List.set] at HK'; replace HK := HK'; clear HK'))
    refine wp_region_held_drew (S := (fun W => Hid (Kn w.heap.size w W [(w.heap.size, 24, #[.int .i64 r.c, .int .i64 r.e, .int .i64 r.r]), (g2, 24, #[.int .i64 x.c, .int .i64 x.e, .int .i64 x.r])] [row rfLay (.slice A1 N c1) (Lck.wo (l.take k) r)]))) (by kernel_rfl) ?_ (fun hHeld => ?_)
    ·(try dsimp only); exact zH HK.out.drew
    refine wpAnyH_take (i := 0) (oi := ⟨some 24, _, _, _, _, _⟩) (v := ?_) rfl (by kernel_rfl) (by kernel_rfl) (by kernel_rfl) (fun _ _ _ h => h) (Or.inl ⟨by rfl, ?_⟩) (by assumption) ?_
    rotate_left
    ·(intro w hSw; refine Eq.trans (kexec_lr hSw 1 _ (by rfl) (by rfl) (by rfl)) ?_; with_reducible rfl)
    try simp only [Act.put, List.setIfInBounds_toArray, List.set_cons_zero, List.set_cons_succ]
    refine wpAnyH_take (i := 2) (oi := ⟨some 26, _, _, _, _, _⟩) (v := ?_) rfl (by kernel_rfl) (by kernel_rfl) (by kernel_rfl) (fun _ _ _ h => h) (Or.inl ⟨by rfl, ?_⟩) (by assumption) ?_
    rotate_left
    ·(intro w hSw; refine Eq.trans (kexec_lr hSw 0 _ (by rfl) (by rfl) (by rfl)) ?_; with_reducible rfl)
    try simp only [Act.put, List.setIfInBounds_toArray, List.set_cons_zero, List.set_cons_succ]
    refine wpAnyH_ready (rs := [1]) (by kernel_rfl) (by simp) ?_
    refine AllReadyH.cons (o := ⟨some 25, _, _, _, _, _⟩) rfl (fun K hK => ?_) AllReadyH.nil
    go_simp
    go_at_call 85
    refine (HSe.out x _).mono ?_; rintro e w5 ⟨rfl, b5⟩; have hs := zH (hHeld.out.call b5); clear b5
    refine hK.out _ _ hs (fun hHeld => ?_)
    clear hK K
    try simp only [ap1, ap2, ap3, ap4, ap5]
    refine wpAnyH_ready (rs := [3]) (by kernel_rfl) (by simp) ?_
    refine AllReadyH.cons (o := ⟨some 27, _, _, _, _, _⟩) rfl (fun K hK => ?_) AllReadyH.nil
    go_simp
    go_at_call 85
    refine (HSe.out r _).mono ?_; rintro e w5 ⟨rfl, b5⟩; have hs := zH (hHeld.out.call b5); clear b5
    refine hK.out _ _ hs (fun hHeld => ?_)
    clear hK K
    try simp only [ap1, ap2, ap3, ap4, ap5]
    refine wpAnyH_take (i := 4) (oi := ⟨some 28, _, _, _, _, _⟩) (v := ?_) rfl (by kernel_rfl) (by kernel_rfl) (by kernel_rfl) (fun _ _ _ h => h) (Or.inl ⟨by rfl, ?_⟩) (by assumption) ?_
    rotate_left
    ·(intro w hSw; refine Eq.trans (exec_rne (v := ⟨x.c, x.e, 0⟩) (u := ⟨r.c, r.e, 0⟩) _ _ (by rfl) (by rfl) (by rfl) HMi.out) ?_; with_reducible rfl)
    try simp only [Act.put, List.setIfInBounds_toArray, List.set_cons_zero, List.set_cons_succ]
    refine wpAnyH_done (by kernel_rfl) ?_ _
    replace HK := hHeld
    clear hHeld
    go_wp2_with (first | refine wpList_exe (kexec_lr HK 1 _ (by rfl) (by rfl) (by rfl)) (by rfl) ?_ | (refine wpList_mk1 rfLay (p := x) HK (by decide) rfl _ rfl rfl rfl ?_; intro _ g5 HK'; simp only [lcA, lnA] at HK'; have HR := zH (HK'.out.own 1 rfl).rd; replace HK := HK'; clear HK') | (at_builtin; refine wpList_kmore HK rfLay 0 rfl _ _ rfl rfl rfl [x] rfl rfl HR HL2 (N := N + 1) HN2 ?_; intro A4 c4 _ HK'; simp only [List.set] at HK'; replace HK := HK'; clear HK') | refine wpList_exe (exec_add1 (j := k) _ (by rfl) (by rfl) hk3) (by rfl) ?_)
    refine ⟨⟨k + 1, A4, c4, N + 1, hlt, rfl, rfl, zH (by rw [HE.out, HN2.out]), ?_⟩, by simp [intOf]; omega⟩
    rw [HE.out]
    exact zH ((HK.out.takeL 1).takeR 1)
  ·obtain rfl : k = n := by omega
   rw [HTake.out] at HK
   go_wp2_with fail
   go_ret
   exact ⟨A1, _, c1, rfl, HK.out.own 0 rfl, HK.out.b⟩
end Go.Proofs.YtpkodjllljnleaaGreat
