/- What cmd.Right, the document's Right and Mine, and lock.asked return. No condition but those named. -/
import Derived.Test.YtpkodjllljnleaaGreatTk
import Derived.Test.YtpkodjllljnleaaGreatMF
import Derived.Test.YtpkodjllljnleaaGreatMA
import Derived.Lib.AppendZeros
set_option linter.unusedSimpArgs false
set_option linter.unusedVariables false
namespace Go.Proofs.YtpkodjllljnleaaGreat
open Go.RowKit
set_option maxHeartbeats 3200000 in
theorem cmr_any (x : Rf) (w : World) : Calls Tryz.prog 43 #[.agg #[.int .i64 x.c, .int .i64 x.e, .int .i64 x.r]] w (IsB (decide (Lck.ok x)) w) := by
 have HE : Hid (∀ q : Bool, (q = true ↔ (0 ≤ x.c ∧ x.c < 5 ∧ 1 ≤ x.e ∧ 0 ≤ x.r)) → q = decide (Lck.ok x)) := zH fun q hq => by
  rw [Bool.eq_iff_iff, hq, decide_eq_true_eq]
  exact Iff.rfl
 generalize decide (Lck.ok x) = r at *
 obtain ⟨c, ep, rq⟩ := x
 simp only at HE ⊢
 have HK := kn1 w 24 #[.int .i64 c, .int .i64 ep, .int .i64 rq]
 go_enter Tryz.func43, Tryz.ntmps43
 go_wp2_with fail
 all_goals
  go_ret
  refine ⟨congrArg (fun b => Ending.returned (.bool b)) (HE.out _ ?_), HK.out.b⟩
  clear HE HK
  simp_all <;> omega
set_option maxHeartbeats 3200000 in
theorem rmr_any (x : Rf) (w : World) : Calls Tryz.prog 20 #[.agg #[.int .i64 x.c, .int .i64 x.e, .int .i64 x.r]] w (IsB (decide (Lck.ok x)) w) := by
 have HE : Hid (∀ q : Bool, (q = true ↔ (0 ≤ x.c ∧ x.c < 5 ∧ 1 ≤ x.e ∧ 0 ≤ x.r)) → q = decide (Lck.ok x)) := zH fun q hq => by
  rw [Bool.eq_iff_iff, hq, decide_eq_true_eq]
  exact Iff.rfl
 generalize decide (Lck.ok x) = r at *
 obtain ⟨c, ep, rq⟩ := x
 simp only at HE ⊢
 have HK := kn1 w 24 #[.int .i64 c, .int .i64 ep, .int .i64 rq]
 go_enter Tryz.func20, Tryz.ntmps20
 go_wp2_with fail
 all_goals
  go_ret
  refine ⟨congrArg (fun b => Ending.returned (.bool b)) (HE.out _ ?_), HK.out.b⟩
  clear HE HK
  simp_all <;> omega
set_option maxRecDepth 100000 in
set_option maxHeartbeats 6400000 in
theorem asked_any (A : Option Addr) (c n : Nat) (l : List Rf) (q : Int) (w : World) (hs : Sls rfLay rF w A n c l) :
  Calls Tryz.prog 130 #[.slice A n c, .int .i64 q] w (IsB (Lck.asked l q) w) := by
 obtain ⟨hyes, hno⟩ := Lck.asked_told hs.len q
 have HYes := zH hyes
 have HNo := zH hno
 have HS := zH hs
 have HK := zH (Kn.start w)
 have hn63 : n < 9223372036854775807 := by
  have h : n * 24 ≤ 140737488355328 := hs.big
  omega
 clear hs hyes hno
 generalize Lck.asked l q = r at *
 go_enter Tryz.func130, Tryz.ntmps130
 go_wp2_with fail
 go_loopw [9] (fun vi wr => ∃ k : Nat, k ≤ n ∧ vi = .int .i64 k ∧ Hid (∀ (i : Nat) x, i < k → l[i]? = some x → ¬ x.c = q) ∧ Hid (Kn w.heap.size w wr [] [])) (fun vi _ => n - (intOf vi).toNat)
 case atStart => exact ⟨0, Nat.zero_le _, rfl, zH (fun i v hi => by omega), HK⟩
 case round =>
  clear HK
  obtain ⟨k, hk, rfl, HGo, HK⟩ := hrel
  have hk1 : (0 : Int) ≤ (k : Int) := by omega
  by_cases hlt : k < n
  ·have hk2 : (k : Int) < (n : Int) := by omega
   have hk3 : k < 9223372036854775807 := by omega
   obtain ⟨x, hx, _⟩ := HS.out.get hlt
   obtain ⟨b, o, rfl, hat⟩ := HS.out.at (Nat.lt_of_le_of_lt (Nat.zero_le _) hlt)
   have HX := zH (fun W hW => hat W hW k x hx)
   have HY := zH (HYes.out k x hx)
   have HGk : Hid (¬ x.c = q → ∀ (i : Nat) v, i < k + 1 → l[i]? = some v → ¬ v.c = q) := zH fun h i v hi hv => by
    by_cases hik : i = k
    ·subst hik; rw [hx] at hv; injection hv with hv; subst hv; exact h
    ·exact HGo.out i v (by omega) hv
   clear hat hx
   by_cases he : x.c = q
   ·have HR := zH (HY.out he)
    have he2 : (x.c == q) = true := by simpa using he
    clear he HGk HY
    go_wp2_with (first | refine wpList_exe (exec_lr (x := x) (off := o + k * 3) _ (by rfl) (by rfl) (HX.out _ HK.out.b)) (by rfl) ?_ | (refine wpList_akr HK rfl rfl ?_; intro _ g2 HK'; simp only [lcA, lnA] at HK'; replace HK := HK'; clear HK') | (refine wpList_sr HK 0 rfl _ _ rfl rfl rfl rfl ?_; intro _ HK'; simp only [List.set] at HK'; replace HK := HK'; clear HK') | refine wpList_exe (kexec_lc0 HK 0 _ (by rfl) (by rfl) (by rfl)) (by rfl) ?_)
    go_ret
    exact ⟨by rw [HR.out] <;> rfl, HK.out.b⟩
   ·have he2 : (x.c == q) = false := by simpa using he
    replace HGk := zH (HGk.out he)
    clear he HY
    go_wp2_with (first | refine wpList_exe (exec_lr (x := x) (off := o + k * 3) _ (by rfl) (by rfl) (HX.out _ HK.out.b)) (by rfl) ?_ | (refine wpList_akr HK rfl rfl ?_; intro _ g2 HK'; simp only [lcA, lnA] at HK'; replace HK := HK'; clear HK') | (refine wpList_sr HK 0 rfl _ _ rfl rfl rfl rfl ?_; intro _ HK'; simp only [List.set] at HK'; replace HK := HK'; clear HK') | refine wpList_exe (kexec_lc0 HK 0 _ (by rfl) (by rfl) (by rfl)) (by rfl) ?_ | refine wpList_exe (exec_add1 (j := k) _ (by rfl) (by rfl) hk3) (by rfl) ?_)
    exact ⟨⟨k + 1, hlt, rfl, HGk, zH (HK.out.takeL 0)⟩, by simp [intOf]; omega⟩
  ·obtain rfl : k = n := by omega
   have HR := zH (HNo.out HGo.out)
   go_wp2_with fail
   go_ret
   exact ⟨by rw [HR.out] <;> rfl, HK.out.b⟩
theorem mine_ne (x r : Rf) : (!decide ((⟨x.c, x.e, 0⟩ : Rf) = ⟨r.c, r.e, 0⟩)) = !decide (Lck.mine x r) := by
 by_cases h : Lck.mine x r
 ·rw [decide_eq_true h, decide_eq_true (by rw [h.1, h.2])]
 ·rw [decide_eq_false h, decide_eq_false (fun e => h (by injection e with e1 e2; exact ⟨e1, e2⟩))]
theorem fits_one (r : Rf) : Fits rfLay rF [r] := ⟨fun x hx => trivial, by show 1 * 24 ≤ _; decide⟩
end Go.Proofs.YtpkodjllljnleaaGreat
namespace Go.Proofs.YtpkodjllljnleaaGreat
open Go.RowKit
set_option maxRecDepth 100000 in
set_option maxHeartbeats 12800000 in
theorem lright_any (A : Option Addr) (c n : Nat) (l : List Rf) (w : World) (hs : Sls rfLay rF w A n c l) :
  Calls Tryz.prog 81 #[.slice A n c] w (IsB (decide (Lck.Right l)) w) := by
 obtain ⟨hno, hyes⟩ := Lck.right_told hs.len
 have HNo := zH hno
 have HYes := zH hyes
 have HS := zH hs
 have HC := zH (fun x W => cmr_any x W)
 have HAs := zH (fun W A c n l q (h : Sls rfLay rF W A n c l) => asked_any A c n l q W h)
 have HK := zH (Kn.start w)
 have hn63 : n < 9223372036854775807 := by
  have h : n * 24 ≤ 140737488355328 := hs.big
  omega
 have hnc : n ≤ c := hs.cap
 clear hs hyes hno
 unfold IsB at *
 generalize decide (Lck.Right l) = r at *
 go_enter Tryz.func81, Tryz.ntmps81
 go_wp2_with fail
 go_loopw [7] (fun vi wr => ∃ k : Nat, k ≤ n ∧ vi = .int .i64 k ∧ Hid (∀ (i : Nat) x, i < k → l[i]? = some x → Lck.ok x ∧ Lck.asked (l.take i) x.c = false) ∧ Hid (Kn w.heap.size w wr [] [])) (fun vi _ => n - (intOf vi).toNat)
 case atStart => exact ⟨0, Nat.zero_le _, rfl, zH (fun i v hi => by omega), HK⟩
 case round =>
  clear HK
  obtain ⟨k, hk, rfl, HGo, HK⟩ := hrel
  have hk1 : (0 : Int) ≤ (k : Int) := by omega
  by_cases hlt : k < n
  ·have hk2 : (k : Int) < (n : Int) := by omega
   have hk3 : k < 9223372036854775807 := by omega
   have hkc : k ≤ c := by omega
   obtain ⟨x, hx, _⟩ := HS.out.get hlt
   have HP := zH (fun W (hW : Below w.heap.size w W) => HAs.out W A c k (l.take k) x.c ((HS.out.later hW).take hk))
   obtain ⟨b, o, rfl, hat⟩ := HS.out.at (Nat.lt_of_le_of_lt (Nat.zero_le _) hlt)
   have HX := zH (fun W hW => hat W hW k x hx)
   have HN := zH (HNo.out k x hlt hx)
   have HGk : Hid (Lck.ok x ∧ Lck.asked (l.take k) x.c = false → ∀ (i : Nat) v, i < k + 1 → l[i]? = some v → Lck.ok v ∧ Lck.asked (l.take i) v.c = false) := zH fun h i v hi hv => by
    by_cases hik : i = k
    ·subst hik; rw [hx] at hv; injection hv with hv; subst hv; exact h
    ·exact HGo.out i v (by omega) hv
   clear hat hx HNo HAs
   have HCx := zH (fun W => HC.out x W)
   clear HC
   by_cases hok : Lck.ok x
   case neg =>
    have HR := zH (HN.out (fun h => hok h.1))
    rw [decide_eq_false hok] at HCx
    clear hok HN HGk HP
    go_wp2_with (first | refine wpList_exe (exec_lr (x := x) (off := o + k * 3) _ (by rfl) (by rfl) (HX.out _ HK.out.b)) (by rfl) ?_ | (refine wpList_akr HK rfl rfl ?_; intro _ g2 HK'; simp only [lcA, lnA] at HK'; replace HK := HK'; clear HK') | (refine wpList_sr HK 0 rfl _ _ rfl rfl rfl rfl ?_; intro _ HK'; simp only [List.set] at HK'; replace HK := HK'; clear HK'))
    refine wp_region_held_drew (S := (fun W => Hid (Kn w.heap.size w W [(g2, 24, #[.int .i64 x.c, .int .i64 x.e, .int .i64 x.r])] []))) (by kernel_rfl) ?_ (fun hHeld => ?_)
    ·(try dsimp only); exact zH HK.out.drew
    refine wpAnyH_take (i := 0) (oi := ⟨some 12, _, _, _, _, _⟩) (v := ?_) rfl (by kernel_rfl) (by kernel_rfl) (by kernel_rfl) (fun _ _ _ h => h) (Or.inl ⟨by rfl, ?_⟩) (by assumption) ?_
    rotate_left
    ·(intro w hSw; refine Eq.trans (kexec_lr hSw 0 _ (by rfl) (by rfl) (by rfl)) ?_; with_reducible rfl)
    try simp only [Act.put, List.setIfInBounds_toArray, List.set_cons_zero, List.set_cons_succ]
    refine wpAnyH_ready (rs := [1]) (by kernel_rfl) (by simp) ?_
    refine AllReadyH.cons (o := ⟨some 13, _, _, _, _, _⟩) rfl (fun K hK => ?_) AllReadyH.nil
    go_simp
    go_at_call 43
    refine (HCx.out _).mono ?_; rintro e w5 ⟨rfl, b5⟩; have hs := zH (hHeld.out.call b5); clear b5
    refine hK.out _ _ hs (fun hHeld => ?_)
    clear hK K
    try simp only [ap1, ap2, ap3, ap4, ap5]
    refine wpAnyH_take (i := 2) (oi := ⟨some 14, _, _, _, _, _⟩) (v := ?_) rfl (by kernel_rfl) (by kernel_rfl) (by kernel_rfl) (fun _ _ _ h => h) (Or.inl ⟨by rfl, ?_⟩) (by assumption) ?_
    rotate_left
    ·(intro w hSw; (try dsimp only at hSw); go_simp; try with_reducible rfl)
    try simp only [Act.put, List.setIfInBounds_toArray, List.set_cons_zero, List.set_cons_succ]
    refine wpAnyH_take (i := 3) (oi := ⟨some 15, _, _, _, _, _⟩) (v := ?_) rfl (by kernel_rfl) (by kernel_rfl) (by kernel_rfl) (fun _ _ _ h => h) (Or.inl ⟨by rfl, ?_⟩) (by assumption) ?_
    rotate_left
    ·(intro w hSw; (try dsimp only at hSw); go_simp; try with_reducible rfl)
    try simp only [Act.put, List.setIfInBounds_toArray, List.set_cons_zero, List.set_cons_succ]
    refine wpAnyH_take (i := 4) (oi := ⟨some 16, _, _, _, _, _⟩) (v := undef) rfl (by kernel_rfl) (by kernel_rfl) (by kernel_rfl) (fun _ _ _ h => h) (Or.inr ⟨by rfl, rfl⟩) (by assumption) ?_
    try simp only [Act.put, List.setIfInBounds_toArray, List.set_cons_zero, List.set_cons_succ]
    refine wpAnyH_take (i := 5) (oi := ⟨some 17, _, _, _, _, _⟩) (v := undef) rfl (by kernel_rfl) (by kernel_rfl) (by kernel_rfl) (fun _ _ _ h => h) (Or.inr ⟨by rfl, rfl⟩) (by assumption) ?_
    try simp only [Act.put, List.setIfInBounds_toArray, List.set_cons_zero, List.set_cons_succ]
    refine wpAnyH_take (i := 6) (oi := ⟨some 18, _, _, _, _, _⟩) (v := undef) rfl (by kernel_rfl) (by kernel_rfl) (by kernel_rfl) (fun _ _ _ h => h) (Or.inr ⟨by rfl, rfl⟩) (by assumption) ?_
    try simp only [Act.put, List.setIfInBounds_toArray, List.set_cons_zero, List.set_cons_succ]
    refine wpAnyH_take (i := 7) (oi := ⟨some 19, _, _, _, _, _⟩) (v := undef) rfl (by kernel_rfl) (by kernel_rfl) (by kernel_rfl) (fun _ _ _ h => h) (Or.inr ⟨by rfl, rfl⟩) (by assumption) ?_
    try simp only [Act.put, List.setIfInBounds_toArray, List.set_cons_zero, List.set_cons_succ]
    refine wpAnyH_take (i := 8) (oi := ⟨some 20, _, _, _, _, _⟩) (v := undef) rfl (by kernel_rfl) (by kernel_rfl) (by kernel_rfl) (fun _ _ _ h => h) (Or.inr ⟨by rfl, rfl⟩) (by assumption) ?_
    try simp only [Act.put, List.setIfInBounds_toArray, List.set_cons_zero, List.set_cons_succ]
    refine wpAnyH_take (i := 9) (oi := ⟨some 21, _, _, _, _, _⟩) (v := undef) rfl (by kernel_rfl) (by kernel_rfl) (by kernel_rfl) (fun _ _ _ h => h) (Or.inr ⟨by rfl, rfl⟩) (by assumption) ?_
    try simp only [Act.put, List.setIfInBounds_toArray, List.set_cons_zero, List.set_cons_succ]
    refine wpAnyH_take (i := 10) (oi := ⟨some 22, _, _, _, _, _⟩) (v := ?_) rfl (by kernel_rfl) (by kernel_rfl) (by kernel_rfl) (fun _ _ _ h => h) (Or.inl ⟨by rfl, ?_⟩) (by assumption) ?_
    rotate_left
    ·(intro w hSw; (try dsimp only at hSw); go_simp; try with_reducible rfl)
    try simp only [Act.put, List.setIfInBounds_toArray, List.set_cons_zero, List.set_cons_succ]
    refine wpAnyH_done (by kernel_rfl) ?_ _
    go_wp2_with fail
    go_ret
    exact ⟨by rw [HR.out] <;> rfl, hHeld.out.b⟩
   case pos =>
   rw [decide_eq_true hok] at HCx
   by_cases has : Lck.asked (l.take k) x.c = true
   ·have HR := zH (HN.out (fun h => by rw [has] at h; cases h.2))
    rw [has] at HP
    clear hok HN HGk has
    go_wp2_with (first | refine wpList_exe (exec_lr (x := x) (off := o + k * 3) _ (by rfl) (by rfl) (HX.out _ HK.out.b)) (by rfl) ?_ | (refine wpList_akr HK rfl rfl ?_; intro _ g2 HK'; simp only [lcA, lnA] at HK'; replace HK := HK'; clear HK') | (refine wpList_sr HK 0 rfl _ _ rfl rfl rfl rfl ?_; intro _ HK'; simp only [List.set] at HK'; replace HK := HK'; clear HK'))
    refine wp_region_held_drew (S := (fun W => Hid (Kn w.heap.size w W [(g2, 24, #[.int .i64 x.c, .int .i64 x.e, .int .i64 x.r])] []))) (by kernel_rfl) ?_ (fun hHeld => ?_)
    ·(try dsimp only); exact zH HK.out.drew
    refine wpAnyH_take (i := 0) (oi := ⟨some 12, _, _, _, _, _⟩) (v := ?_) rfl (by kernel_rfl) (by kernel_rfl) (by kernel_rfl) (fun _ _ _ h => h) (Or.inl ⟨by rfl, ?_⟩) (by assumption) ?_
    rotate_left
    ·(intro w hSw; refine Eq.trans (kexec_lr hSw 0 _ (by rfl) (by rfl) (by rfl)) ?_; with_reducible rfl)
    try simp only [Act.put, List.setIfInBounds_toArray, List.set_cons_zero, List.set_cons_succ]
    refine wpAnyH_ready (rs := [1]) (by kernel_rfl) (by simp) ?_
    refine AllReadyH.cons (o := ⟨some 13, _, _, _, _, _⟩) rfl (fun K hK => ?_) AllReadyH.nil
    go_simp
    go_at_call 43
    refine (HCx.out _).mono ?_; rintro e w5 ⟨rfl, b5⟩; have hs := zH (hHeld.out.call b5); clear b5
    refine hK.out _ _ hs (fun hHeld => ?_)
    clear hK K
    try simp only [ap1, ap2, ap3, ap4, ap5]
    refine wpAnyH_take (i := 2) (oi := ⟨some 14, _, _, _, _, _⟩) (v := ?_) rfl (by kernel_rfl) (by kernel_rfl) (by kernel_rfl) (fun _ _ _ h => h) (Or.inl ⟨by rfl, ?_⟩) (by assumption) ?_
    rotate_left
    ·(intro w hSw; (try dsimp only at hSw); go_simp; try with_reducible rfl)
    try simp only [Act.put, List.setIfInBounds_toArray, List.set_cons_zero, List.set_cons_succ]
    refine wpAnyH_take (i := 3) (oi := ⟨some 15, _, _, _, _, _⟩) (v := ?_) rfl (by kernel_rfl) (by kernel_rfl) (by kernel_rfl) (fun _ _ _ h => h) (Or.inl ⟨by rfl, ?_⟩) (by assumption) ?_
    rotate_left
    ·(intro w hSw; (try dsimp only at hSw); go_simp; try with_reducible rfl)
    try simp only [Act.put, List.setIfInBounds_toArray, List.set_cons_zero, List.set_cons_succ]
    refine wpAnyH_take (i := 4) (oi := ⟨some 16, _, _, _, _, _⟩) (v := ?_) rfl (by kernel_rfl) (by kernel_rfl) (by kernel_rfl) (fun _ _ _ h => h) (Or.inl ⟨by rfl, ?_⟩) (by assumption) ?_
    rotate_left
    ·(intro w hSw; (try dsimp only at hSw); go_simp; try with_reducible rfl)
    try simp only [Act.put, List.setIfInBounds_toArray, List.set_cons_zero, List.set_cons_succ]
    refine wpAnyH_take (i := 5) (oi := ⟨some 17, _, _, _, _, _⟩) (v := ?_) rfl (by kernel_rfl) (by kernel_rfl) (by kernel_rfl) (fun _ _ _ h => h) (Or.inl ⟨by rfl, ?_⟩) (by assumption) ?_
    rotate_left
    ·(intro w hSw; (try dsimp only at hSw); go_simp; try with_reducible rfl)
    try simp only [Act.put, List.setIfInBounds_toArray, List.set_cons_zero, List.set_cons_succ]
    refine wpAnyH_take (i := 6) (oi := ⟨some 18, _, _, _, _, _⟩) (v := ?_) rfl (by kernel_rfl) (by kernel_rfl) (by kernel_rfl) (fun _ _ _ h => h) (Or.inl ⟨by rfl, ?_⟩) (by assumption) ?_
    rotate_left
    ·(intro w hSw; refine Eq.trans (exec_srh (hi := k) _ _ (by rfl) (by rfl) (by rfl) hkc) ?_; with_reducible rfl)
    try simp only [Act.put, List.setIfInBounds_toArray, List.set_cons_zero, List.set_cons_succ]
    refine wpAnyH_take (i := 7) (oi := ⟨some 19, _, _, _, _, _⟩) (v := ?_) rfl (by kernel_rfl) (by kernel_rfl) (by kernel_rfl) (fun _ _ _ h => h) (Or.inl ⟨by rfl, ?_⟩) (by assumption) ?_
    rotate_left
    ·(intro w hSw; (try dsimp only at hSw); go_simp; try with_reducible rfl)
    try simp only [Act.put, List.setIfInBounds_toArray, List.set_cons_zero, List.set_cons_succ]
    refine wpAnyH_take (i := 8) (oi := ⟨some 20, _, _, _, _, _⟩) (v := ?_) rfl (by kernel_rfl) (by kernel_rfl) (by kernel_rfl) (fun _ _ _ h => h) (Or.inl ⟨by rfl, ?_⟩) (by assumption) ?_
    rotate_left
    ·(intro w hSw; refine Eq.trans (kexec_lc0 hSw 0 _ (by rfl) (by rfl) (by rfl)) ?_; with_reducible rfl)
    try simp only [Act.put, List.setIfInBounds_toArray, List.set_cons_zero, List.set_cons_succ]
    refine wpAnyH_ready (rs := [9]) (by kernel_rfl) (by simp) ?_
    refine AllReadyH.cons (o := ⟨some 21, _, _, _, _, _⟩) rfl (fun K hK => ?_) AllReadyH.nil
    go_simp
    go_at_call 130
    refine (HP.out _ hHeld.out.b).mono ?_; rintro e w5 ⟨rfl, b5⟩; have hs := zH (hHeld.out.call b5); clear b5
    refine hK.out _ _ hs (fun hHeld => ?_)
    clear hK K
    try simp only [ap1, ap2, ap3, ap4, ap5]
    refine wpAnyH_take (i := 10) (oi := ⟨some 22, _, _, _, _, _⟩) (v := ?_) rfl (by kernel_rfl) (by kernel_rfl) (by kernel_rfl) (fun _ _ _ h => h) (Or.inl ⟨by rfl, ?_⟩) (by assumption) ?_
    rotate_left
    ·(intro w hSw; (try dsimp only at hSw); go_simp; try with_reducible rfl)
    try simp only [Act.put, List.setIfInBounds_toArray, List.set_cons_zero, List.set_cons_succ]
    refine wpAnyH_done (by kernel_rfl) ?_ _
    go_wp2_with fail
    go_ret
    exact ⟨by rw [HR.out] <;> rfl, hHeld.out.b⟩
   ·have has2 : Lck.asked (l.take k) x.c = false := Bool.eq_false_iff.2 has
    replace HGk := zH (HGk.out ⟨hok, has2⟩)
    rw [has2] at HP
    clear hok HN has has2
    go_wp2_with (first | refine wpList_exe (exec_lr (x := x) (off := o + k * 3) _ (by rfl) (by rfl) (HX.out _ HK.out.b)) (by rfl) ?_ | (refine wpList_akr HK rfl rfl ?_; intro _ g2 HK'; simp only [lcA, lnA] at HK'; replace HK := HK'; clear HK') | (refine wpList_sr HK 0 rfl _ _ rfl rfl rfl rfl ?_; intro _ HK'; simp only [List.set] at HK'; replace HK := HK'; clear HK'))
    refine wp_region_held_drew (S := (fun W => Hid (Kn w.heap.size w W [(g2, 24, #[.int .i64 x.c, .int .i64 x.e, .int .i64 x.r])] []))) (by kernel_rfl) ?_ (fun hHeld => ?_)
    ·(try dsimp only); exact zH HK.out.drew
    refine wpAnyH_take (i := 0) (oi := ⟨some 12, _, _, _, _, _⟩) (v := ?_) rfl (by kernel_rfl) (by kernel_rfl) (by kernel_rfl) (fun _ _ _ h => h) (Or.inl ⟨by rfl, ?_⟩) (by assumption) ?_
    rotate_left
    ·(intro w hSw; refine Eq.trans (kexec_lr hSw 0 _ (by rfl) (by rfl) (by rfl)) ?_; with_reducible rfl)
    try simp only [Act.put, List.setIfInBounds_toArray, List.set_cons_zero, List.set_cons_succ]
    refine wpAnyH_ready (rs := [1]) (by kernel_rfl) (by simp) ?_
    refine AllReadyH.cons (o := ⟨some 13, _, _, _, _, _⟩) rfl (fun K hK => ?_) AllReadyH.nil
    go_simp
    go_at_call 43
    refine (HCx.out _).mono ?_; rintro e w5 ⟨rfl, b5⟩; have hs := zH (hHeld.out.call b5); clear b5
    refine hK.out _ _ hs (fun hHeld => ?_)
    clear hK K
    try simp only [ap1, ap2, ap3, ap4, ap5]
    refine wpAnyH_take (i := 2) (oi := ⟨some 14, _, _, _, _, _⟩) (v := ?_) rfl (by kernel_rfl) (by kernel_rfl) (by kernel_rfl) (fun _ _ _ h => h) (Or.inl ⟨by rfl, ?_⟩) (by assumption) ?_
    rotate_left
    ·(intro w hSw; (try dsimp only at hSw); go_simp; try with_reducible rfl)
    try simp only [Act.put, List.setIfInBounds_toArray, List.set_cons_zero, List.set_cons_succ]
    refine wpAnyH_take (i := 3) (oi := ⟨some 15, _, _, _, _, _⟩) (v := ?_) rfl (by kernel_rfl) (by kernel_rfl) (by kernel_rfl) (fun _ _ _ h => h) (Or.inl ⟨by rfl, ?_⟩) (by assumption) ?_
    rotate_left
    ·(intro w hSw; (try dsimp only at hSw); go_simp; try with_reducible rfl)
    try simp only [Act.put, List.setIfInBounds_toArray, List.set_cons_zero, List.set_cons_succ]
    refine wpAnyH_take (i := 4) (oi := ⟨some 16, _, _, _, _, _⟩) (v := ?_) rfl (by kernel_rfl) (by kernel_rfl) (by kernel_rfl) (fun _ _ _ h => h) (Or.inl ⟨by rfl, ?_⟩) (by assumption) ?_
    rotate_left
    ·(intro w hSw; (try dsimp only at hSw); go_simp; try with_reducible rfl)
    try simp only [Act.put, List.setIfInBounds_toArray, List.set_cons_zero, List.set_cons_succ]
    refine wpAnyH_take (i := 5) (oi := ⟨some 17, _, _, _, _, _⟩) (v := ?_) rfl (by kernel_rfl) (by kernel_rfl) (by kernel_rfl) (fun _ _ _ h => h) (Or.inl ⟨by rfl, ?_⟩) (by assumption) ?_
    rotate_left
    ·(intro w hSw; (try dsimp only at hSw); go_simp; try with_reducible rfl)
    try simp only [Act.put, List.setIfInBounds_toArray, List.set_cons_zero, List.set_cons_succ]
    refine wpAnyH_take (i := 6) (oi := ⟨some 18, _, _, _, _, _⟩) (v := ?_) rfl (by kernel_rfl) (by kernel_rfl) (by kernel_rfl) (fun _ _ _ h => h) (Or.inl ⟨by rfl, ?_⟩) (by assumption) ?_
    rotate_left
    ·(intro w hSw; refine Eq.trans (exec_srh (hi := k) _ _ (by rfl) (by rfl) (by rfl) hkc) ?_; with_reducible rfl)
    try simp only [Act.put, List.setIfInBounds_toArray, List.set_cons_zero, List.set_cons_succ]
    refine wpAnyH_take (i := 7) (oi := ⟨some 19, _, _, _, _, _⟩) (v := ?_) rfl (by kernel_rfl) (by kernel_rfl) (by kernel_rfl) (fun _ _ _ h => h) (Or.inl ⟨by rfl, ?_⟩) (by assumption) ?_
    rotate_left
    ·(intro w hSw; (try dsimp only at hSw); go_simp; try with_reducible rfl)
    try simp only [Act.put, List.setIfInBounds_toArray, List.set_cons_zero, List.set_cons_succ]
    refine wpAnyH_take (i := 8) (oi := ⟨some 20, _, _, _, _, _⟩) (v := ?_) rfl (by kernel_rfl) (by kernel_rfl) (by kernel_rfl) (fun _ _ _ h => h) (Or.inl ⟨by rfl, ?_⟩) (by assumption) ?_
    rotate_left
    ·(intro w hSw; refine Eq.trans (kexec_lc0 hSw 0 _ (by rfl) (by rfl) (by rfl)) ?_; with_reducible rfl)
    try simp only [Act.put, List.setIfInBounds_toArray, List.set_cons_zero, List.set_cons_succ]
    refine wpAnyH_ready (rs := [9]) (by kernel_rfl) (by simp) ?_
    refine AllReadyH.cons (o := ⟨some 21, _, _, _, _, _⟩) rfl (fun K hK => ?_) AllReadyH.nil
    go_simp
    go_at_call 130
    refine (HP.out _ hHeld.out.b).mono ?_; rintro e w5 ⟨rfl, b5⟩; have hs := zH (hHeld.out.call b5); clear b5
    refine hK.out _ _ hs (fun hHeld => ?_)
    clear hK K
    try simp only [ap1, ap2, ap3, ap4, ap5]
    refine wpAnyH_take (i := 10) (oi := ⟨some 22, _, _, _, _, _⟩) (v := ?_) rfl (by kernel_rfl) (by kernel_rfl) (by kernel_rfl) (fun _ _ _ h => h) (Or.inl ⟨by rfl, ?_⟩) (by assumption) ?_
    rotate_left
    ·(intro w hSw; (try dsimp only at hSw); go_simp; try with_reducible rfl)
    try simp only [Act.put, List.setIfInBounds_toArray, List.set_cons_zero, List.set_cons_succ]
    refine wpAnyH_done (by kernel_rfl) ?_ _
    replace HK := hHeld
    clear hHeld
    go_wp2_with (first | refine wpList_exe (exec_add1 (j := k) _ (by rfl) (by rfl) hk3) (by rfl) ?_)
    exact ⟨⟨k + 1, hlt, rfl, HGk, zH (HK.out.takeL 0)⟩, by simp [intOf]; omega⟩
  ·obtain rfl : k = n := by omega
   have HR := zH (HYes.out HGo.out)
   go_wp2_with fail
   go_ret
   exact ⟨by rw [HR.out] <;> rfl, HK.out.b⟩
set_option maxRecDepth 100000 in
set_option maxHeartbeats 12800000 in
theorem rlright_any (A : Option Addr) (c n : Nat) (l : List Rf) (w : World) (hs : Sls rfLay rF w A n c l) :
  Calls Tryz.prog 88 #[.slice A n c] w (IsB (decide (Lck.Right l)) w) := by
 obtain ⟨hno, hyes⟩ := Lck.right_told hs.len
 have HNo := zH hno
 have HYes := zH hyes
 have HS := zH hs
 have HC := zH (fun x W => rmr_any x W)
 have HK := zH (Kn.start w)
 have hn63 : n < 9223372036854775807 := by
  have h : n * 24 ≤ 140737488355328 := hs.big
  omega
 have HLen := zH hs.len
 clear hs hyes hno
 unfold IsB at *
 generalize decide (Lck.Right l) = r at *
 go_enter Tryz.func88, Tryz.ntmps88
 go_wp2_with fail
 go_loopw [3] (fun vi wr => ∃ k : Nat, k ≤ n ∧ vi = .int .i64 k ∧ Hid (∀ (i : Nat) x, i < k → l[i]? = some x → Lck.ok x ∧ Lck.asked (l.take i) x.c = false) ∧ Hid (Kn w.heap.size w wr [] [])) (fun vi _ => n - (intOf vi).toNat)
 case atStart => exact ⟨0, Nat.zero_le _, rfl, zH (fun i v hi => by omega), HK⟩
 case round =>
  clear HK
  obtain ⟨k, hk, rfl, HGo, HK⟩ := hrel
  have hk1 : (0 : Int) ≤ (k : Int) := by omega
  by_cases hlt : k < n
  ·have hk2 : (k : Int) < (n : Int) := by omega
   have hk3 : k < 9223372036854775807 := by omega
   obtain ⟨x, hx, _⟩ := HS.out.get hlt
   obtain ⟨b, o, rfl, hat⟩ := HS.out.at (Nat.lt_of_le_of_lt (Nat.zero_le _) hlt)
   have HX := zH (fun W hW => hat W hW k x hx)
   have HN := zH (HNo.out k x hlt hx)
   have HGk : Hid (Lck.ok x ∧ Lck.asked (l.take k) x.c = false → ∀ (i : Nat) v, i < k + 1 → l[i]? = some v → Lck.ok v ∧ Lck.asked (l.take i) v.c = false) := zH fun h i v hi hv => by
    by_cases hik : i = k
    ·subst hik; rw [hx] at hv; injection hv with hv; subst hv; exact h
    ·exact HGo.out i v (by omega) hv
   have HCx := zH (fun W => HC.out x W)
   have HY : Hid (∀ j, j < k → ∃ y, l[j]? = some y ∧ (∀ W, Below w.heap.size w W → ∀ (i : Nat) v, (rfL y)[i]? = some v → W.cell? ⟨b, o + j * 3 + i, none⟩ = some v)) := zH fun j hj => by
    obtain ⟨y, hy⟩ := Lay.get_of (l := l) (k := j) (by rw [HLen.out]; omega)
    exact ⟨y, hy, fun W hW => hat W hW j y hy⟩
   have HTd := zH (Lck.asked_told (l := l.take k) (n := k) (by rw [List.length_take, HLen.out]; omega) x.c)
   clear hat hx HNo HC
   by_cases hok : Lck.ok x
   case neg =>
    have HR := zH (HN.out (fun h => hok h.1))
    rw [decide_eq_false hok] at HCx
    clear hok HN HGk HTd
    go_wp2_with (first | refine wpList_exe (exec_lr (x := x) (off := o + k * 3) _ (by rfl) (by rfl) (HX.out _ HK.out.b)) (by rfl) ?_)
    refine (HCx.out _).mono ?_; rintro e w1 ⟨rfl, b1⟩
    replace HK := hkC HK b1; clear b1
    go_wp2_with fail
    go_ret
    exact ⟨by rw [HR.out] <;> rfl, HK.out.b⟩
   case pos =>
   rw [decide_eq_true hok] at HCx
   have HOk := zH hok
   clear hok
   go_wp2_with (first | refine wpList_exe (exec_lr (x := x) (off := o + k * 3) _ (by rfl) (by rfl) (HX.out _ HK.out.b)) (by rfl) ?_)
   refine (HCx.out _).mono ?_; rintro e w1 ⟨rfl, b1⟩
   replace HK := hkC HK b1; clear b1
   go_wp2_with fail
   go_loopw [4] (fun vj wr => ∃ j : Nat, j ≤ k ∧ vj = .int .i64 j ∧ Hid (∀ (i : Nat) y, i < j → (l.take k)[i]? = some y → ¬ y.c = x.c) ∧ Hid (Kn w.heap.size w wr [] [])) (fun vj _ => k - (intOf vj).toNat)
   case atStart => exact ⟨0, Nat.zero_le _, rfl, zH (fun i v hi => by omega), HK⟩
   case round =>
    clear HK
    obtain ⟨j, hj, rfl, HAl, HK⟩ := hrel
    have hj1 : (0 : Int) ≤ (j : Int) := by omega
    by_cases hjk : j < k
    ·have hj2 : (j : Int) < (k : Int) := by omega
     have hj3 : j < 9223372036854775807 := by omega
     have hjn : j < n := by omega
     obtain ⟨y, hy, hyc⟩ := HY.out j hjk
     have HYc := zH hyc
     have hyt : (l.take k)[j]? = some y := by rw [List.getElem?_take, if_pos hjk, hy]
     have HAk : Hid (¬ y.c = x.c → ∀ (i : Nat) v, i < j + 1 → (l.take k)[i]? = some v → ¬ v.c = x.c) := zH fun h i v hi hv => by
      by_cases hij : i = j
      ·subst hij; rw [hyt] at hv; injection hv with hv; subst hv; exact h
      ·exact HAl.out i v (by omega) hv
     have HHd := zH (HTd.out.1 j y hyt)
     clear hy hyc hyt
     go_wp2_with fail
     by_cases he : y.c = x.c
     ·have hb : (y.c == x.c) = true := by simpa using he
      have HR := zH (HN.out (fun h => by rw [HHd.out he] at h; cases h.2))
      clear he HAk HHd HTd HN
      refine wp_region_held_drew (S := (fun W => Hid (Kn w.heap.size w W [] []))) (by kernel_rfl) ?_ (fun hHeld => ?_)
      ·(try dsimp only); exact zH HK.out.drew
      refine wpAnyH_take (i := 0) (oi := ⟨some 22, _, _, _, _, _⟩) (v := ?_) rfl (by kernel_rfl) (by kernel_rfl) (by kernel_rfl) (fun _ _ _ h => h) (Or.inl ⟨by rfl, ?_⟩) (by assumption) ?_
      rotate_left
      ·(intro w hSw; (try dsimp only at hSw); go_simp; try with_reducible rfl)
      try simp only [Act.put, List.setIfInBounds_toArray, List.set_cons_zero, List.set_cons_succ]
      refine wpAnyH_take (i := 1) (oi := ⟨some 23, _, _, _, _, _⟩) (v := ?_) rfl (by kernel_rfl) (by kernel_rfl) (by kernel_rfl) (fun _ _ _ h => h) (Or.inl ⟨by rfl, ?_⟩) (by assumption) ?_
      rotate_left
      ·(intro w hSw; (try dsimp only at hSw); go_simp; try with_reducible rfl)
      try simp only [Act.put, List.setIfInBounds_toArray, List.set_cons_zero, List.set_cons_succ]
      refine wpAnyH_take (i := 2) (oi := ⟨some 24, _, _, _, _, _⟩) (v := ?_) rfl (by kernel_rfl) (by kernel_rfl) (by kernel_rfl) (fun _ _ _ h => h) (Or.inl ⟨by rfl, ?_⟩) (by assumption) ?_
      rotate_left
      ·(intro w hSw; refine Eq.trans (exec_ixr (i := j) _ _ (by rfl) (by rfl) (by rfl) hjn) ?_; with_reducible rfl)
      try simp only [Act.put, List.setIfInBounds_toArray, List.set_cons_zero, List.set_cons_succ]
      refine wpAnyH_take (i := 3) (oi := ⟨some 25, _, _, _, _, _⟩) (v := ?_) rfl (by kernel_rfl) (by kernel_rfl) (by kernel_rfl) (fun _ _ _ h => h) (Or.inl ⟨by rfl, ?_⟩) (by assumption) ?_
      rotate_left
      ·(intro w hSw; (try dsimp only at hSw); go_simp; try with_reducible rfl)
      try simp only [Act.put, List.setIfInBounds_toArray, List.set_cons_zero, List.set_cons_succ]
      refine wpAnyH_take (i := 4) (oi := ⟨some 26, _, _, _, _, _⟩) (v := ?_) rfl (by kernel_rfl) (by kernel_rfl) (by kernel_rfl) (fun _ _ _ h => h) (Or.inl ⟨by rfl, ?_⟩) (by assumption) ?_
      rotate_left
      ·(intro w hSw; refine Eq.trans (exec_lrc (x := y) (off := o + j * 3) _ (by rfl) (by rfl) (HYc.out _ hSw.out.b)) ?_; with_reducible rfl)
      try simp only [Act.put, List.setIfInBounds_toArray, List.set_cons_zero, List.set_cons_succ]
      refine wpAnyH_take (i := 5) (oi := ⟨some 27, _, _, _, _, _⟩) (v := ?_) rfl (by kernel_rfl) (by kernel_rfl) (by kernel_rfl) (fun _ _ _ h => h) (Or.inl ⟨by rfl, ?_⟩) (by assumption) ?_
      rotate_left
      ·(intro w hSw; (try dsimp only at hSw); go_simp; try with_reducible rfl)
      try simp only [Act.put, List.setIfInBounds_toArray, List.set_cons_zero, List.set_cons_succ]
      refine wpAnyH_take (i := 6) (oi := ⟨some 28, _, _, _, _, _⟩) (v := ?_) rfl (by kernel_rfl) (by kernel_rfl) (by kernel_rfl) (fun _ _ _ h => h) (Or.inl ⟨by rfl, ?_⟩) (by assumption) ?_
      rotate_left
      ·(intro w hSw; (try dsimp only at hSw); go_simp; try with_reducible rfl)
      try simp only [Act.put, List.setIfInBounds_toArray, List.set_cons_zero, List.set_cons_succ]
      refine wpAnyH_take (i := 7) (oi := ⟨some 29, _, _, _, _, _⟩) (v := ?_) rfl (by kernel_rfl) (by kernel_rfl) (by kernel_rfl) (fun _ _ _ h => h) (Or.inl ⟨by rfl, ?_⟩) (by assumption) ?_
      rotate_left
      ·(intro w hSw; refine Eq.trans (exec_ixr (i := k) _ _ (by rfl) (by rfl) (by rfl) hlt) ?_; with_reducible rfl)
      try simp only [Act.put, List.setIfInBounds_toArray, List.set_cons_zero, List.set_cons_succ]
      refine wpAnyH_take (i := 8) (oi := ⟨some 30, _, _, _, _, _⟩) (v := ?_) rfl (by kernel_rfl) (by kernel_rfl) (by kernel_rfl) (fun _ _ _ h => h) (Or.inl ⟨by rfl, ?_⟩) (by assumption) ?_
      rotate_left
      ·(intro w hSw; (try dsimp only at hSw); go_simp; try with_reducible rfl)
      try simp only [Act.put, List.setIfInBounds_toArray, List.set_cons_zero, List.set_cons_succ]
      refine wpAnyH_take (i := 9) (oi := ⟨some 31, _, _, _, _, _⟩) (v := ?_) rfl (by kernel_rfl) (by kernel_rfl) (by kernel_rfl) (fun _ _ _ h => h) (Or.inl ⟨by rfl, ?_⟩) (by assumption) ?_
      rotate_left
      ·(intro w hSw; refine Eq.trans (exec_lrc (x := x) (off := o + k * 3) _ (by rfl) (by rfl) (HX.out _ hSw.out.b)) ?_; with_reducible rfl)
      try simp only [Act.put, List.setIfInBounds_toArray, List.set_cons_zero, List.set_cons_succ]
      refine wpAnyH_take (i := 10) (oi := ⟨some 32, _, _, _, _, _⟩) (v := ?_) rfl (by kernel_rfl) (by kernel_rfl) (by kernel_rfl) (fun _ _ _ h => h) (Or.inl ⟨by rfl, ?_⟩) (by assumption) ?_
      rotate_left
      ·(intro w hSw; (try dsimp only at hSw); go_simp; try with_reducible rfl)
      try simp only [Act.put, List.setIfInBounds_toArray, List.set_cons_zero, List.set_cons_succ]
      refine wpAnyH_done (by kernel_rfl) ?_ _
      go_wp2_with fail
      go_ret
      exact ⟨by rw [HR.out] <;> rfl, hHeld.out.b⟩
     ·have hb : (y.c == x.c) = false := by simpa using he
      replace HAk := zH (HAk.out he)
      clear he HHd HTd HN
      refine wp_region_held_drew (S := (fun W => Hid (Kn w.heap.size w W [] []))) (by kernel_rfl) ?_ (fun hHeld => ?_)
      ·(try dsimp only); exact zH HK.out.drew
      refine wpAnyH_take (i := 0) (oi := ⟨some 22, _, _, _, _, _⟩) (v := ?_) rfl (by kernel_rfl) (by kernel_rfl) (by kernel_rfl) (fun _ _ _ h => h) (Or.inl ⟨by rfl, ?_⟩) (by assumption) ?_
      rotate_left
      ·(intro w hSw; (try dsimp only at hSw); go_simp; try with_reducible rfl)
      try simp only [Act.put, List.setIfInBounds_toArray, List.set_cons_zero, List.set_cons_succ]
      refine wpAnyH_take (i := 1) (oi := ⟨some 23, _, _, _, _, _⟩) (v := ?_) rfl (by kernel_rfl) (by kernel_rfl) (by kernel_rfl) (fun _ _ _ h => h) (Or.inl ⟨by rfl, ?_⟩) (by assumption) ?_
      rotate_left
      ·(intro w hSw; (try dsimp only at hSw); go_simp; try with_reducible rfl)
      try simp only [Act.put, List.setIfInBounds_toArray, List.set_cons_zero, List.set_cons_succ]
      refine wpAnyH_take (i := 2) (oi := ⟨some 24, _, _, _, _, _⟩) (v := ?_) rfl (by kernel_rfl) (by kernel_rfl) (by kernel_rfl) (fun _ _ _ h => h) (Or.inl ⟨by rfl, ?_⟩) (by assumption) ?_
      rotate_left
      ·(intro w hSw; refine Eq.trans (exec_ixr (i := j) _ _ (by rfl) (by rfl) (by rfl) hjn) ?_; with_reducible rfl)
      try simp only [Act.put, List.setIfInBounds_toArray, List.set_cons_zero, List.set_cons_succ]
      refine wpAnyH_take (i := 3) (oi := ⟨some 25, _, _, _, _, _⟩) (v := ?_) rfl (by kernel_rfl) (by kernel_rfl) (by kernel_rfl) (fun _ _ _ h => h) (Or.inl ⟨by rfl, ?_⟩) (by assumption) ?_
      rotate_left
      ·(intro w hSw; (try dsimp only at hSw); go_simp; try with_reducible rfl)
      try simp only [Act.put, List.setIfInBounds_toArray, List.set_cons_zero, List.set_cons_succ]
      refine wpAnyH_take (i := 4) (oi := ⟨some 26, _, _, _, _, _⟩) (v := ?_) rfl (by kernel_rfl) (by kernel_rfl) (by kernel_rfl) (fun _ _ _ h => h) (Or.inl ⟨by rfl, ?_⟩) (by assumption) ?_
      rotate_left
      ·(intro w hSw; refine Eq.trans (exec_lrc (x := y) (off := o + j * 3) _ (by rfl) (by rfl) (HYc.out _ hSw.out.b)) ?_; with_reducible rfl)
      try simp only [Act.put, List.setIfInBounds_toArray, List.set_cons_zero, List.set_cons_succ]
      refine wpAnyH_take (i := 5) (oi := ⟨some 27, _, _, _, _, _⟩) (v := ?_) rfl (by kernel_rfl) (by kernel_rfl) (by kernel_rfl) (fun _ _ _ h => h) (Or.inl ⟨by rfl, ?_⟩) (by assumption) ?_
      rotate_left
      ·(intro w hSw; (try dsimp only at hSw); go_simp; try with_reducible rfl)
      try simp only [Act.put, List.setIfInBounds_toArray, List.set_cons_zero, List.set_cons_succ]
      refine wpAnyH_take (i := 6) (oi := ⟨some 28, _, _, _, _, _⟩) (v := ?_) rfl (by kernel_rfl) (by kernel_rfl) (by kernel_rfl) (fun _ _ _ h => h) (Or.inl ⟨by rfl, ?_⟩) (by assumption) ?_
      rotate_left
      ·(intro w hSw; (try dsimp only at hSw); go_simp; try with_reducible rfl)
      try simp only [Act.put, List.setIfInBounds_toArray, List.set_cons_zero, List.set_cons_succ]
      refine wpAnyH_take (i := 7) (oi := ⟨some 29, _, _, _, _, _⟩) (v := ?_) rfl (by kernel_rfl) (by kernel_rfl) (by kernel_rfl) (fun _ _ _ h => h) (Or.inl ⟨by rfl, ?_⟩) (by assumption) ?_
      rotate_left
      ·(intro w hSw; refine Eq.trans (exec_ixr (i := k) _ _ (by rfl) (by rfl) (by rfl) hlt) ?_; with_reducible rfl)
      try simp only [Act.put, List.setIfInBounds_toArray, List.set_cons_zero, List.set_cons_succ]
      refine wpAnyH_take (i := 8) (oi := ⟨some 30, _, _, _, _, _⟩) (v := ?_) rfl (by kernel_rfl) (by kernel_rfl) (by kernel_rfl) (fun _ _ _ h => h) (Or.inl ⟨by rfl, ?_⟩) (by assumption) ?_
      rotate_left
      ·(intro w hSw; (try dsimp only at hSw); go_simp; try with_reducible rfl)
      try simp only [Act.put, List.setIfInBounds_toArray, List.set_cons_zero, List.set_cons_succ]
      refine wpAnyH_take (i := 9) (oi := ⟨some 31, _, _, _, _, _⟩) (v := ?_) rfl (by kernel_rfl) (by kernel_rfl) (by kernel_rfl) (fun _ _ _ h => h) (Or.inl ⟨by rfl, ?_⟩) (by assumption) ?_
      rotate_left
      ·(intro w hSw; refine Eq.trans (exec_lrc (x := x) (off := o + k * 3) _ (by rfl) (by rfl) (HX.out _ hSw.out.b)) ?_; with_reducible rfl)
      try simp only [Act.put, List.setIfInBounds_toArray, List.set_cons_zero, List.set_cons_succ]
      refine wpAnyH_take (i := 10) (oi := ⟨some 32, _, _, _, _, _⟩) (v := ?_) rfl (by kernel_rfl) (by kernel_rfl) (by kernel_rfl) (fun _ _ _ h => h) (Or.inl ⟨by rfl, ?_⟩) (by assumption) ?_
      rotate_left
      ·(intro w hSw; (try dsimp only at hSw); go_simp; try with_reducible rfl)
      try simp only [Act.put, List.setIfInBounds_toArray, List.set_cons_zero, List.set_cons_succ]
      refine wpAnyH_done (by kernel_rfl) ?_ _
      go_wp2_with (first | refine wpList_exe (exec_add1 (j := j) _ (by rfl) (by rfl) hj3) (by rfl) ?_)
      exact ⟨⟨j + 1, hjk, rfl, HAk, hHeld⟩, by simp [intOf]; omega⟩
    ·obtain rfl : j = k := by omega
     replace HGk := zH (HGk.out ⟨HOk.out, HTd.out.2 HAl.out⟩)
     clear HTd HAl HN
     go_wp2_with (first | refine wpList_exe (exec_add1 (j := j) _ (by rfl) (by rfl) hk3) (by rfl) ?_)
     exact ⟨⟨j + 1, hlt, rfl, HGk, HK⟩, by simp [intOf]; omega⟩
  ·obtain rfl : k = n := by omega
   have HR := zH (HYes.out HGo.out)
   go_wp2_with fail
   go_ret
   exact ⟨by rw [HR.out] <;> rfl, HK.out.b⟩
end Go.Proofs.YtpkodjllljnleaaGreat
namespace Go.Proofs.YtpkodjllljnleaaGreat
open Go.RowKit
set_option maxRecDepth 100000 in
set_option maxHeartbeats 6400000 in
theorem waits_any (A : Option Addr) (c n : Nat) (l : List Rf) (q : Int) (w : World) (hs : Sls rfLay rF w A n c l) :
  Calls Tryz.prog 138 #[.slice A n c, .int .i64 q] w (IsB (Lck.asked l q) w) := by
 obtain ⟨hyes, hno⟩ := Lck.asked_told hs.len q
 have HYes := zH hyes
 have HNo := zH hno
 have HS := zH hs
 have HK := zH (Kn.start w)
 have hn63 : n < 9223372036854775807 := by
  have h : n * 24 ≤ 140737488355328 := hs.big
  omega
 clear hs hyes hno
 generalize Lck.asked l q = r at *
 go_enter Tryz.func138, Tryz.ntmps138
 go_wp2_with fail
 go_loopw [9] (fun vi wr => ∃ k : Nat, k ≤ n ∧ vi = .int .i64 k ∧ Hid (∀ (i : Nat) x, i < k → l[i]? = some x → ¬ x.c = q) ∧ Hid (Kn w.heap.size w wr [] [])) (fun vi _ => n - (intOf vi).toNat)
 case atStart => exact ⟨0, Nat.zero_le _, rfl, zH (fun i v hi => by omega), HK⟩
 case round =>
  clear HK
  obtain ⟨k, hk, rfl, HGo, HK⟩ := hrel
  have hk1 : (0 : Int) ≤ (k : Int) := by omega
  by_cases hlt : k < n
  ·have hk2 : (k : Int) < (n : Int) := by omega
   have hk3 : k < 9223372036854775807 := by omega
   obtain ⟨x, hx, _⟩ := HS.out.get hlt
   obtain ⟨b, o, rfl, hat⟩ := HS.out.at (Nat.lt_of_le_of_lt (Nat.zero_le _) hlt)
   have HX := zH (fun W hW => hat W hW k x hx)
   have HY := zH (HYes.out k x hx)
   have HGk : Hid (¬ x.c = q → ∀ (i : Nat) v, i < k + 1 → l[i]? = some v → ¬ v.c = q) := zH fun h i v hi hv => by
    by_cases hik : i = k
    ·subst hik; rw [hx] at hv; injection hv with hv; subst hv; exact h
    ·exact HGo.out i v (by omega) hv
   clear hat hx
   by_cases he : x.c = q
   ·have HR := zH (HY.out he)
    have he2 : (x.c == q) = true := by simpa using he
    clear he HGk HY
    go_wp2_with (first | refine wpList_exe (exec_lr (x := x) (off := o + k * 3) _ (by rfl) (by rfl) (HX.out _ HK.out.b)) (by rfl) ?_ | (refine wpList_akr HK rfl rfl ?_; intro _ g2 HK'; simp only [lcA, lnA] at HK'; replace HK := HK'; clear HK') | (refine wpList_sr HK 0 rfl _ _ rfl rfl rfl rfl ?_; intro _ HK'; simp only [List.set] at HK'; replace HK := HK'; clear HK') | refine wpList_exe (kexec_lc0 HK 0 _ (by rfl) (by rfl) (by rfl)) (by rfl) ?_)
    go_ret
    exact ⟨by rw [HR.out] <;> rfl, HK.out.b⟩
   ·have he2 : (x.c == q) = false := by simpa using he
    replace HGk := zH (HGk.out he)
    clear he HY
    go_wp2_with (first | refine wpList_exe (exec_lr (x := x) (off := o + k * 3) _ (by rfl) (by rfl) (HX.out _ HK.out.b)) (by rfl) ?_ | (refine wpList_akr HK rfl rfl ?_; intro _ g2 HK'; simp only [lcA, lnA] at HK'; replace HK := HK'; clear HK') | (refine wpList_sr HK 0 rfl _ _ rfl rfl rfl rfl ?_; intro _ HK'; simp only [List.set] at HK'; replace HK := HK'; clear HK') | refine wpList_exe (kexec_lc0 HK 0 _ (by rfl) (by rfl) (by rfl)) (by rfl) ?_ | refine wpList_exe (exec_add1 (j := k) _ (by rfl) (by rfl) hk3) (by rfl) ?_)
    exact ⟨⟨k + 1, hlt, rfl, HGk, zH (HK.out.takeL 0)⟩, by simp [intOf]; omega⟩
  ·obtain rfl : k = n := by omega
   have HR := zH (HNo.out HGo.out)
   go_wp2_with fail
   go_ret
   exact ⟨by rw [HR.out] <;> rfl, HK.out.b⟩
set_option maxHeartbeats 3200000 in
theorem gright_any (m : Int) (A : Option Addr) (c n : Nat) (l : List Rf) (w : World) (hs : Sls rfLay rF w A n c l) :
  Calls Tryz.prog 84 #[.int .i64 m, .slice A n c] w (IsB (decide (Gt.Right m l)) w) := by
 have HM := zH (fun W (hW : Below w.heap.size w W) => lright_any A c n l W (hs.later hW))
 have HK := zH (Kn.start w)
 have hlen := hs.len
 unfold IsB at *
 by_cases h1 : 1 ≤ m
 case neg =>
  rw [decide_eq_false (fun h => h1 h.1)]
  clear hs hlen HM
  go_enter Tryz.func84, Tryz.ntmps84
  go_wp2_with fail
  go_ret
  exact ⟨rfl, HK.out.b⟩
 by_cases h2 : m ≤ 5
 case neg =>
  rw [decide_eq_false (fun h => h2 h.2.1)]
  clear hs hlen HM
  go_enter Tryz.func84, Tryz.ntmps84
  go_wp2_with fail
  go_ret
  exact ⟨rfl, HK.out.b⟩
 by_cases h3 : (n : Int) < m
 case neg =>
  rw [decide_eq_false (fun h => h3 (by rw [← hlen]; exact h.2.2.1))]
  clear hs hlen HM
  go_enter Tryz.func84, Tryz.ntmps84
  go_wp2_with fail
  go_ret
  exact ⟨rfl, HK.out.b⟩
 have he : decide (Gt.Right m l) = decide (Lck.Right l) := decide_eq_decide.2 ⟨fun h => h.2.2.2, fun h => ⟨h1, h2, by rw [hlen]; exact h3, h⟩⟩
 rw [he]
 clear hs hlen he
 generalize decide (Lck.Right l) = b at *
 go_enter Tryz.func84, Tryz.ntmps84
 go_wp2_with fail
 refine (HM.out _ HK.out.b).mono ?_; rintro e w1 ⟨rfl, b1⟩
 replace HK := hkC HK b1; clear b1
 go_wp2_with fail
 go_ret
 exact ⟨by cases b <;> rfl, HK.out.b⟩
set_option maxHeartbeats 3200000 in
theorem rgright_any (m : Int) (A : Option Addr) (c n : Nat) (l : List Rf) (w : World) (hs : Sls rfLay rF w A n c l) :
  Calls Tryz.prog 86 #[.int .i64 m, .slice A n c] w (IsB (decide (Gt.Right m l)) w) := by
 have HM := zH (fun W (hW : Below w.heap.size w W) => rlright_any A c n l W (hs.later hW))
 have HK := zH (Kn.start w)
 have hlen := hs.len
 unfold IsB at *
 by_cases h1 : 1 ≤ m
 case neg =>
  rw [decide_eq_false (fun h => h1 h.1)]
  clear hs hlen HM
  go_enter Tryz.func86, Tryz.ntmps86
  go_wp2_with fail
  go_ret
  exact ⟨rfl, HK.out.b⟩
 by_cases h2 : m ≤ 5
 case neg =>
  rw [decide_eq_false (fun h => h2 h.2.1)]
  clear hs hlen HM
  go_enter Tryz.func86, Tryz.ntmps86
  go_wp2_with fail
  go_ret
  exact ⟨rfl, HK.out.b⟩
 by_cases h3 : (n : Int) < m
 case neg =>
  rw [decide_eq_false (fun h => h3 (by rw [← hlen]; exact h.2.2.1))]
  clear hs hlen HM
  go_enter Tryz.func86, Tryz.ntmps86
  go_wp2_with fail
  go_ret
  exact ⟨rfl, HK.out.b⟩
 have he : decide (Gt.Right m l) = decide (Lck.Right l) := decide_eq_decide.2 ⟨fun h => h.2.2.2, fun h => ⟨h1, h2, by rw [hlen]; exact h3, h⟩⟩
 rw [he]
 clear hs hlen he
 generalize decide (Lck.Right l) = b at *
 go_enter Tryz.func86, Tryz.ntmps86
 go_wp2_with fail
 refine (HM.out _ HK.out.b).mono ?_; rintro e w1 ⟨rfl, b1⟩
 replace HK := hkC HK b1; clear b1
 go_wp2_with fail
 go_ret
 exact ⟨by cases b <;> rfl, HK.out.b⟩
end Go.Proofs.YtpkodjllljnleaaGreat
namespace Go.Proofs.YtpkodjllljnleaaGreat
open Go.RowKit
set_option maxHeartbeats 3200000 in
theorem session_any (x : Rf) (w : World) : Calls Tryz.prog 131 #[.agg #[.int .i64 x.c, .int .i64 x.e, .int .i64 x.r]] w (fun e w' => e = .returned (.agg #[.int .i64 x.c, .int .i64 x.e, .int .i64 0]) ∧ Below w.heap.size w w') := by
 have HK := zH (kn1 w 24 #[.int .i64 x.c, .int .i64 x.e, .int .i64 x.r]).out
 go_enter Tryz.func131, Tryz.ntmps131
 go_wp2_with (first | (refine wpList_akr HK rfl rfl ?_; intro _ g1 HK'; simp only [lcA, lnA] at HK'; replace HK := HK'; clear HK') | refine wpList_exe (kexec_lc0 HK 0 _ (by rfl) (by rfl) (by rfl)) (by rfl) ?_ | refine wpList_exe (kexec_lc1 HK 0 _ (by rfl) (by rfl) (by rfl)) (by rfl) ?_ | (refine wpList_sr HK 1 rfl _ _ rfl rfl rfl rfl ?_; intro _ HK'; simp only [List.set] at HK'; replace HK := HK'; clear HK'))
 exact ret_r Tryz.results131 rfl rfl (HK.out.blk 1 rfl) ⟨rfl, HK.out.b⟩
set_option maxHeartbeats 3200000 in
theorem holder_any (A : Option Addr) (c n : Nat) (l : List Rf) (w : World) (hs : Sls rfLay rF w A n c l) :
  Calls Tryz.prog 83 #[.slice A n c] w (fun e w' => e = .returned (.tuple #[.agg #[.int .i64 (l.headD Lck.zero).c, .int .i64 (l.headD Lck.zero).e, .int .i64 (l.headD Lck.zero).r], .bool (decide (0 < n))]) ∧ Below w.heap.size w w') := by
 have HK := zH (Kn.start w)
 by_cases h0 : n = 0
 ·subst h0
  obtain rfl := List.length_eq_zero_iff.1 hs.len
  clear hs
  go_enter Tryz.func83, Tryz.ntmps83
  go_wp2_with (first | (refine wpList_akr HK rfl rfl ?_; intro _ g1 HK'; simp only [lcA, lnA] at HK'; replace HK := HK'; clear HK') | (refine wpList_sr HK 0 rfl _ _ rfl rfl rfl rfl ?_; intro _ HK'; simp only [List.set] at HK'; replace HK := HK'; clear HK'))
  exact ret_rb Tryz.results83 rfl rfl rfl (HK.out.blk 0 rfl) ⟨rfl, HK.out.b⟩
 ·have hpos : 0 < n := by omega
  obtain ⟨x, hx, _⟩ := hs.get hpos
  obtain ⟨b, o, rfl, hat⟩ := hs.at hpos
  have HX := zH (fun W hW => hat W hW 0 x hx)
  rw [Lck.head_of hx, decide_eq_true hpos]
  have hz : ((n : Int) == 0) = false := by simp; omega
  have hn1 : (0 : Int) < (n : Int) := by omega
  clear hs hat hx h0 hpos
  go_enter Tryz.func83, Tryz.ntmps83
  go_wp2_with (first | (refine wpList_akr HK rfl rfl ?_; intro _ g1 HK'; simp only [lcA, lnA] at HK'; replace HK := HK'; clear HK') | refine wpList_exe (exec_lr (x := x) (off := o + 0 * 3) _ (by rfl) (by rfl) (HX.out _ HK.out.b)) (by rfl) ?_ | (refine wpList_sr HK 0 rfl _ _ rfl rfl rfl rfl ?_; intro _ HK'; simp only [List.set] at HK'; replace HK := HK'; clear HK'))
  exact ret_rb Tryz.results83 rfl rfl rfl (HK.out.blk 0 rfl) ⟨rfl, HK.out.b⟩
end Go.Proofs.YtpkodjllljnleaaGreat
namespace Go.Proofs.YtpkodjllljnleaaGreat
open Go.RowKit
set_option maxRecDepth 100000 in
set_option maxHeartbeats 3200000 in
theorem rgrow_any (n : Nat) (w : World) (h24 : n * 24 ≤ 140737488355328) : Calls Tryz.prog 104 #[.slice none 0 0, .int .i64 n] w fun e w' => ∃ A c, e = .returned (.slice A 0 c) ∧ rfLay.Own w.heap.size w' (.slice A 0 c) [] ∧ Below w.heap.size w w' := by
 by_cases h0 : n = 0
 ·subst h0
  have HK := zH (Kn.start w)
  clear h24
  go_enter Tryz.func104, Tryz.ntmps104
  go_wp2_with fail
  go_ret
  exact ⟨_, _, rfl, Lay.Own.none _ _, HK.out.b⟩
 obtain ⟨i0, hi, hz0, hz1, hz2⟩ := info_parts rfLay.info
 have hc1 := grownCap_ge w n 0 24
 have hr := Lib.run_append_nil_zeros (P := Tryz.prog) w 51 3 51 24 i0 rfLay.z .i64 .i64 rfLay.und Tryz.underlying3 hi hz0 n (by omega) (by rw [hz1]; decide) (by omega) (by rw [hz2]; show n * 24 ≤ _; omega)
 have HR := zH hr
 have hc2 := grownCap_le_maxLen w n 0 24 (by unfold maxLen; omega)
 generalize grownCap w n 0 24 = G at *
 have HO : Hid (rfLay.Own w.heap.size (w.drew.alloc (.cells (Builtin.zeroCells rfLay.z.cells n ++ Builtin.zeroCells rfLay.z.cells (G - n)) 24)) (.slice (some ⟨w.heap.size, 0, none⟩) 0 G) []) := by
  have := World.ownsRow_made (base := w.heap.size) (e := 24) (size := 3) w.drew (Builtin.zeroCells rfLay.z.cells n ++ Builtin.zeroCells rfLay.z.cells (G - n)) G (Nat.le_refl _) hc2 (by
   rw [Array.size_append, size_zeroCells, size_zeroCells]
   have : rfLay.z.cells.size = 3 := rfl
   rw [this]; omega)
  exact zH this
 have HB : Hid (Below w.heap.size w (w.drew.alloc (.cells (Builtin.zeroCells rfLay.z.cells n ++ Builtin.zeroCells rfLay.z.cells (G - n)) 24))) := zH ((Below.refl _ w).drew.alloc (Nat.le_refl _) _)
 generalize w.drew.alloc (.cells (Builtin.zeroCells rfLay.z.cells n ++ Builtin.zeroCells rfLay.z.cells (G - n)) 24) = wz at *
 clear hr hi hz0 hz1 hz2 hc1 hc2
 have h1 : ¬ ((n : Int) < 0) := by omega
 have h2 : (0 : Int) < (n : Int) := by omega
 have h3 : wrap64 (n : Int) = (n : Int) := by unfold wrap64; omega
 go_enter Tryz.func104, Tryz.ntmps104
 go_wp2_with (first | (at_builtin; refine Lib.wpList_append_run _ rfl _ _ _ _ rfl _ _ rfl rfl _ _ HR.out ?_))
 go_ret
 exact ⟨_, _, rfl, HO.out, HB.out⟩
set_option maxRecDepth 100000 in
set_option maxHeartbeats 6400000 in
theorem rconcat_any : Joins Tryz.prog 50 rfLay rF := by
 intro g m ps w hm hb hg hc hs ht
 replace ht : (catP ps).length * 24 ≤ 140737488355328 := ht
 have HGo : Hid (∀ k, k < m → ∃ p, ps[k]? = some p ∧ Sls rfLay rF w p.A p.n p.c p.l ∧ ∀ W, Below w.heap.size w W → W.cell? ⟨g, k, none⟩ = some (.slice p.A p.n p.c)) := zH fun k hk => by
  obtain ⟨p, hp⟩ := Lay.get_of (l := ps) (k := k) (by rw [hm]; exact hk)
  exact ⟨p, hp, hs p (List.mem_of_getElem? hp), fun W hW => (hW.cell (p := ⟨g, k, none⟩) hg).trans (hc k p hp)⟩
 have HLen : Hid (∀ k, (catP (ps.take k)).length * 24 ≤ 140737488355328) := zH fun k => Nat.le_trans (Nat.mul_le_mul_right _ (catP_le ps k)) ht
 have HTake : Hid (ps.take m = ps) := zH (by rw [← hm]; exact List.take_length)
 have HG := zH (fun W => rgrow_any (catP ps).length W ht)
 clear hc hs ht hm hg
 go_enter Tryz.func50, Tryz.ntmps50
 go_wp2_with fail
 go_loopw [3, 11] (fun vs vi wr => ∃ k : Nat, k ≤ m ∧ vs = .int .i64 ((catP (ps.take k)).length : Nat) ∧ vi = .int .i64 k ∧ w = wr) (fun _ vi _ => m - (intOf vi).toNat)
 case atStart => exact ⟨0, Nat.zero_le _, rfl, rfl, rfl⟩
 case round =>
  obtain ⟨k, hk, rfl, rfl, rfl⟩ := hrel
  by_cases hlt : k < m
  ·obtain ⟨p, hp, hsl, hcl⟩ := HGo.out k hlt
   have hcell := hcl _ (Below.refl _ _)
   have ht := HLen.out (k + 1)
   have he := catP_more hp
   have hpn := hsl.len
   rw [he, List.length_append] at ht
   have HE : Hid ((catP (ps.take (k + 1))).length = (catP (ps.take k)).length + p.n) := zH (by rw [he, List.length_append, hpn])
   rw [hpn] at ht
   clear he hp hsl hcl hpn
   obtain ⟨A, n, c, l⟩ := p
   simp only at hcell ht HE
   generalize (catP (ps.take k)).length = q at *
   have h1 : wrap64 ((q : Int) + (n : Int)) = ((q + n : Nat) : Int) := by unfold wrap64; omega
   have h2 : ¬ (((q + n : Nat) : Int) < 0) := by omega
   have h3 : ¬ ((q : Int) + (n : Int) < 0) := by omega
   go_wp2_with fail
   exact ⟨⟨k + 1, by omega, by rw [HE.out]; go_num, by go_num, by simp⟩, by simp [intOf]; omega⟩
  ·obtain rfl : k = m := by omega
   rw [HTake.out]
   go_wp2_with fail
   refine (HG.out _).mono ?_; rintro e w1 ⟨A0, c0, rfl, o1, b1⟩
   have HK := zH ((Kn.start _).called b1 o1)
   simp only [lnA] at HK
   clear b1 o1
   go_wp2_with fail
   go_loopw [6, 27] (fun vs vi wr => ∃ (q : Nat) (A : Option Addr) (c N : Nat), q ≤ k ∧ Hid ((catP (ps.take q)).length = N) ∧ vs = .slice A N c ∧ vi = .int .i64 q ∧ Hid (Kn w.heap.size w wr [] [row rfLay (.slice A N c) (catP (ps.take q))])) (fun _ vi _ => k - (intOf vi).toNat)
   case atStart => exact ⟨0, A0, c0, 0, Nat.zero_le _, zH rfl, rfl, rfl, HK⟩
   case round =>
    clear HK
    obtain ⟨q, A, c, N, hq, hN, rfl, rfl, HK⟩ := hrel
    by_cases hlt : q < k
    ·obtain ⟨p, hp, hsl, hcl⟩ := HGo.out q hlt
     have hcell := hcl _ HK.out.b
     have HR := zH (let h := hsl.later HK.out.b; And.intro h.rd h.nl)
     have hlen := HLen.out (q + 1)
     have he := catP_more hp
     rw [he, List.length_append, hN.out] at hlen
     have HE := zH he
     have HPl : Hid (p.n = p.l.length) := zH hsl.len.symm
     have HL : Hid ((catP (ps.take q)).length + p.l.length ≤ 9223372036854775807 ∧ ((catP (ps.take q)).length + p.l.length) * rfLay.bytes ≤ 211106232532992) := zH ⟨by rw [hN.out]; omega, by show _ * 24 ≤ _; rw [hN.out]; omega⟩
     have HN2 : Hid ((catP (ps.take q) ++ p.l).length = N + p.l.length) := zH (by rw [List.length_append, hN.out])
     clear he hp hlen hsl hcl
     obtain ⟨Ap, np, cp, lp⟩ := p
     simp only at hcell HR HPl HL HN2 HE
     go_wp2_with (first | (at_builtin; refine wpList_kmore HK rfLay 0 rfl _ _ rfl rfl rfl lp rfl HPl.out HR HL (N := N + lp.length) HN2 ?_; intro A4 c4 _ HK'; simp only [List.set] at HK'; replace HK := HK'; clear HK'))
     refine ⟨⟨q + 1, A4, c4, N + lp.length, by omega, zH (by rw [HE.out, HN2.out]), rfl, by go_num, ?_⟩, by simp [intOf]; omega⟩
     rw [HE.out]
     exact HK
    ·obtain rfl : q = k := by omega
     rw [HTake.out] at HK hN
     obtain rfl := hN.out
     go_wp2_with fail
     go_ret
     exact ⟨A, _, c, rfl, HK.out.own 0 rfl, HK.out.b⟩
end Go.Proofs.YtpkodjllljnleaaGreat
namespace Go.Proofs.YtpkodjllljnleaaGreat
open Go.RowKit
def IsTk (r : List Rf) (h : Bool) (x : Int) (w : World) (e : Ending) (w' : World) : Prop := ∃ A n c, e = .returned (.tuple #[.slice A n c, .bool h, .int .i64 x]) ∧ rfLay.Own w.heap.size w' (.slice A n c) r ∧ Below w.heap.size w w'
def IsFr (r : List Rf) (y : Rf) (h : Bool) (x : Int) (w : World) (e : Ending) (w' : World) : Prop := ∃ A n c, e = .returned (.tuple #[.slice A n c, .agg #[.int .i64 y.c, .int .i64 y.e, .int .i64 y.r], .bool h, .int .i64 x]) ∧ rfLay.Own w.heap.size w' (.slice A n c) r ∧ Below w.heap.size w w'
set_option maxRecDepth 100000 in
set_option maxHeartbeats 12800000 in
theorem ltake_any (A : Option Addr) (c n : Nat) (l : List Rf) (r : Rf) (w : World) (hs : Sls rfLay rF w A n c l) :
  Calls Tryz.prog 105 #[.slice A n c, .agg #[.int .i64 r.c, .int .i64 r.e, .int .i64 r.r]] w (IsTk (Lck.tkL l r) (Lck.tkH l r) (Lck.tkE l r) w) := by
 have HM := zH (fun W (hW : Below w.heap.size w W) => lright_any A c n l W (hs.later hW))
 have HC := zH (fun W => cmr_any r W)
 have HAs := zH (fun W (hW : Below w.heap.size w W) => asked_any A c n l r.c W (hs.later hW))
 have HS := zH hs
 have HJ := zH rconcat_any
 have hlen := hs.len
 have HK := kn1 w 24 #[.int .i64 r.c, .int .i64 r.e, .int .i64 r.r]
 unfold IsB IsTk at *
 by_cases hr : Lck.Right l
 case neg =>
  rw [decide_eq_false hr] at HM
  obtain ⟨e1, e2, e3⟩ := Lck.tk_bad (r := r) (fun h => hr h.1)
  rw [e1, e2, e3]
  clear e1 e2 e3 hr hs hlen HC HAs
  go_enter Tryz.func105, Tryz.ntmps105
  go_wp2_with fail
  refine (HM.out _ HK.out.b).mono ?_; rintro e w1 ⟨rfl, b1⟩
  replace HK := hkC HK b1; clear b1
  go_wp2_with (first | (refine wpList_mks1 rfLay rfNest HK rfl _ rfl rfl ?_; intro w2 g7 HK' _; simp only [lcA, lnA] at HK'; replace HK := HK'; clear HK'))
  refine (HJ.out.one HK 1 rfl (HS.out.later HK.out.b)).mono ?_; rintro e w3 ⟨A4, n4, c4, rfl, o4, b4⟩; replace HK := zH (HK.out.called b4 o4); simp only [lnA] at HK; clear o4 b4
  go_wp2_with fail
  exact ret_t3 Tryz.results105 rfl rfl rfl rfl ⟨A4, n4, c4, rfl, HK.out.own 0 rfl, HK.out.b⟩
 case pos =>
 rw [decide_eq_true hr] at HM
 by_cases hok : Lck.ok r
 case neg =>
  rw [decide_eq_false hok] at HC
  obtain ⟨e1, e2, e3⟩ := Lck.tk_bad (l := l) (r := r) (fun h => hok h.2)
  rw [e1, e2, e3]
  clear e1 e2 e3 hr hok hs hlen HAs
  go_enter Tryz.func105, Tryz.ntmps105
  go_wp2_with fail
  refine (HM.out _ HK.out.b).mono ?_; rintro e w1 ⟨rfl, b1⟩
  replace HK := hkC HK b1; clear b1
  go_wp2_with (first | refine wpList_exe (kexec_lr HK 0 _ (by rfl) (by rfl) (by rfl)) (by rfl) ?_)
  refine (HC.out _).mono ?_; rintro e w1 ⟨rfl, b1⟩
  replace HK := hkC HK b1; clear b1
  go_wp2_with (first | (refine wpList_mks1 rfLay rfNest HK rfl _ rfl rfl ?_; intro w2 g7 HK' _; simp only [lcA, lnA] at HK'; replace HK := HK'; clear HK'))
  refine (HJ.out.one HK 1 rfl (HS.out.later HK.out.b)).mono ?_; rintro e w3 ⟨A4, n4, c4, rfl, o4, b4⟩; replace HK := zH (HK.out.called b4 o4); simp only [lnA] at HK; clear o4 b4
  go_wp2_with fail
  exact ret_t3 Tryz.results105 rfl rfl rfl rfl ⟨A4, n4, c4, rfl, HK.out.own 0 rfl, HK.out.b⟩
 case pos =>
 rw [decide_eq_true hok] at HC
 by_cases ha : Lck.asked l r.c = true
 ·rw [ha] at HAs
  obtain ⟨e1, e2, e3⟩ := Lck.tk_held hr hok ha
  rw [e1, e2, e3]
  clear e1 e2 e3 hr hok hs hlen ha
  go_enter Tryz.func105, Tryz.ntmps105
  go_wp2_with fail
  refine (HM.out _ HK.out.b).mono ?_; rintro e w1 ⟨rfl, b1⟩
  replace HK := hkC HK b1; clear b1
  go_wp2_with (first | refine wpList_exe (kexec_lr HK 0 _ (by rfl) (by rfl) (by rfl)) (by rfl) ?_)
  refine (HC.out _).mono ?_; rintro e w1 ⟨rfl, b1⟩
  replace HK := hkC HK b1; clear b1
  go_wp2_with (first | refine wpList_exe (kexec_lc0 HK 0 _ (by rfl) (by rfl) (by rfl)) (by rfl) ?_)
  refine (HAs.out _ HK.out.b).mono ?_; rintro e w1 ⟨rfl, b1⟩
  replace HK := hkC HK b1; clear b1
  go_wp2_with (first | (refine wpList_mks1 rfLay rfNest HK rfl _ rfl rfl ?_; intro w2 g7 HK' _; simp only [lcA, lnA] at HK'; replace HK := HK'; clear HK'))
  refine (HJ.out.one HK 1 rfl (HS.out.later HK.out.b)).mono ?_; rintro e w3 ⟨A4, n4, c4, rfl, o4, b4⟩; replace HK := zH (HK.out.called b4 o4); simp only [lnA] at HK; clear o4 b4
  go_wp2_with fail
  exact ret_t3 Tryz.results105 rfl rfl rfl rfl ⟨A4, n4, c4, rfl, HK.out.own 0 rfl, HK.out.b⟩
 ·have ha2 : Lck.asked l r.c = false := Bool.eq_false_iff.2 ha
  rw [ha2] at HAs
  obtain ⟨e1, e2, e3⟩ := Lck.tk_ok hr hok ha2
  have h5 := Lck.right_len hr
  rw [hlen] at h5 e3
  rw [e1, e2, e3]
  have HF := zH (fits_one r)
  have hcase : n = 0 ∨ ¬ n = 0 := by omega
  clear e1 e2 e3 hr hok hs hlen ha ha2
  rcases hcase with h0 | h0
  ·have hz : ((n : Int) == 0) = true := by simpa using h0
   rw [decide_eq_true h0]
   clear h0
   go_enter Tryz.func105, Tryz.ntmps105
   go_wp2_with fail
   refine (HM.out _ HK.out.b).mono ?_; rintro e w1 ⟨rfl, b1⟩
   replace HK := hkC HK b1; clear b1
   go_wp2_with (first | refine wpList_exe (kexec_lr HK 0 _ (by rfl) (by rfl) (by rfl)) (by rfl) ?_)
   refine (HC.out _).mono ?_; rintro e w1 ⟨rfl, b1⟩
   replace HK := hkC HK b1; clear b1
   go_wp2_with (first | refine wpList_exe (kexec_lc0 HK 0 _ (by rfl) (by rfl) (by rfl)) (by rfl) ?_)
   refine (HAs.out _ HK.out.b).mono ?_; rintro e w1 ⟨rfl, b1⟩
   replace HK := hkC HK b1; clear b1
   go_wp2_with (first | refine wpList_exe (kexec_lr HK 0 _ (by rfl) (by rfl) (by rfl)) (by rfl) ?_ | (refine wpList_mk1 rfLay (p := r) HK (by decide) rfl _ rfl rfl rfl ?_; intro _ g5 HK'; simp only [lcA, lnA] at HK'; have HR := zH (HK'.out.own 0 rfl).rd; replace HK := HK'; clear HK') | (refine wpList_mks2 rfLay rfNest HK rfl _ _ rfl rfl rfl ?_; intro w2 g7 HK' _; simp only [lcA, lnA] at HK'; replace HK := HK'; clear HK'))
   refine (HJ.out.two HK 1 rfl (HS.out.later HK.out.b) (Sls.own (HK.out.own 0 rfl) HF.out) (by show (n + 1) * 24 ≤ _; omega)).mono ?_; rintro e w3 ⟨A4, n4, c4, rfl, o4, b4⟩
   replace HK := zH (HK.out.called b4 o4)
   clear o4 b4
   go_wp2_with fail
   exact ret_t3 Tryz.results105 rfl rfl rfl rfl ⟨A4, n4, c4, rfl, HK.out.own 1 rfl, HK.out.b⟩
  ·have hz : ((n : Int) == 0) = false := by simpa using h0
   rw [decide_eq_false h0]
   clear h0
   go_enter Tryz.func105, Tryz.ntmps105
   go_wp2_with fail
   refine (HM.out _ HK.out.b).mono ?_; rintro e w1 ⟨rfl, b1⟩
   replace HK := hkC HK b1; clear b1
   go_wp2_with (first | refine wpList_exe (kexec_lr HK 0 _ (by rfl) (by rfl) (by rfl)) (by rfl) ?_)
   refine (HC.out _).mono ?_; rintro e w1 ⟨rfl, b1⟩
   replace HK := hkC HK b1; clear b1
   go_wp2_with (first | refine wpList_exe (kexec_lc0 HK 0 _ (by rfl) (by rfl) (by rfl)) (by rfl) ?_)
   refine (HAs.out _ HK.out.b).mono ?_; rintro e w1 ⟨rfl, b1⟩
   replace HK := hkC HK b1; clear b1
   go_wp2_with (first | refine wpList_exe (kexec_lr HK 0 _ (by rfl) (by rfl) (by rfl)) (by rfl) ?_ | (refine wpList_mk1 rfLay (p := r) HK (by decide) rfl _ rfl rfl rfl ?_; intro _ g5 HK'; simp only [lcA, lnA] at HK'; have HR := zH (HK'.out.own 0 rfl).rd; replace HK := HK'; clear HK') | (refine wpList_mks2 rfLay rfNest HK rfl _ _ rfl rfl rfl ?_; intro w2 g7 HK' _; simp only [lcA, lnA] at HK'; replace HK := HK'; clear HK'))
   refine (HJ.out.two HK 1 rfl (HS.out.later HK.out.b) (Sls.own (HK.out.own 0 rfl) HF.out) (by show (n + 1) * 24 ≤ _; omega)).mono ?_; rintro e w3 ⟨A4, n4, c4, rfl, o4, b4⟩
   replace HK := zH (HK.out.called b4 o4)
   clear o4 b4
   go_wp2_with fail
   exact ret_t3 Tryz.results105 rfl rfl rfl rfl ⟨A4, n4, c4, rfl, HK.out.own 1 rfl, HK.out.b⟩
set_option maxRecDepth 100000 in
set_option maxHeartbeats 12800000 in
theorem lfree_any (A : Option Addr) (c n : Nat) (l : List Rf) (r : Rf) (w : World) (hs : Sls rfLay rF w A n c l) :
  Calls Tryz.prog 106 #[.slice A n c, .agg #[.int .i64 r.c, .int .i64 r.e, .int .i64 r.r]] w (IsFr (Lck.frL l r) (Lck.frN l r) (Lck.frS l r) (Lck.frE l r) w) := by
 have HM := zH (fun W (hW : Below w.heap.size w W) => lright_any A c n l W (hs.later hW))
 have HSe := zH (fun x W => session_any x W)
 have HS := zH hs
 have HJ := zH rconcat_any
 have hlen := hs.len
 have HK := kn1 w 24 #[.int .i64 r.c, .int .i64 r.e, .int .i64 r.r]
 unfold IsB IsFr at *
 by_cases hr : Lck.Right l
 case neg =>
  rw [decide_eq_false hr] at HM
  obtain ⟨e1, e2, e3, e4⟩ := Lck.fr_bad (r := r) hr
  rw [e1, e2, e3, e4]
  clear e1 e2 e3 e4 hr hs hlen HSe
  go_enter Tryz.func106, Tryz.ntmps106
  go_wp2_with (first | (refine wpList_akr HK rfl rfl ?_; intro _ g1 HK'; simp only [lcA, lnA] at HK'; replace HK := HK'; clear HK'))
  refine (HM.out _ HK.out.b).mono ?_; rintro e w1 ⟨rfl, b1⟩
  replace HK := hkC HK b1; clear b1
  go_wp2_with (first | (refine wpList_mks1 rfLay rfNest HK rfl _ rfl rfl ?_; intro w2 g7 HK' _; simp only [lcA, lnA] at HK'; replace HK := HK'; clear HK'))
  refine (HJ.out.one HK 2 rfl (HS.out.later HK.out.b)).mono ?_; rintro e w3 ⟨A4, n4, c4, rfl, o4, b4⟩; replace HK := zH (HK.out.called b4 o4); simp only [lnA] at HK; clear o4 b4
  go_wp2_with (first | (refine wpList_sr HK 1 rfl _ _ rfl rfl rfl rfl ?_; intro _ HK'; simp only [List.set] at HK'; replace HK := HK'; clear HK'))
  exact ret_srbe Tryz.results106 rfl rfl rfl rfl rfl (HK.out.blk 1 rfl) ⟨A4, n4, c4, rfl, HK.out.own 0 rfl, HK.out.b⟩
 case pos =>
 rw [decide_eq_true hr] at HM
 by_cases h0 : n = 0
 ·subst h0
  obtain ⟨e1, e2, e3, e4⟩ := Lck.fr_none (r := r) hr hlen
  rw [e1, e2, e3, e4]
  clear e1 e2 e3 e4 hr hs hlen HSe
  go_enter Tryz.func106, Tryz.ntmps106
  go_wp2_with (first | (refine wpList_akr HK rfl rfl ?_; intro _ g1 HK'; simp only [lcA, lnA] at HK'; replace HK := HK'; clear HK'))
  refine (HM.out _ HK.out.b).mono ?_; rintro e w1 ⟨rfl, b1⟩
  replace HK := hkC HK b1; clear b1
  go_wp2_with fail
  refine wp_region_held_drew (S := (fun W => Hid (Kn w.heap.size w W [(w.heap.size, 24, #[.int .i64 r.c, .int .i64 r.e, .int .i64 r.r]), (g1, 24, #[.int .i64 0, .int .i64 0, .int .i64 0])] []))) (by kernel_rfl) ?_ (fun hHeld => ?_)
  ·(try dsimp only); exact zH HK.out.drew
  refine wpAnyH_take (i := 0) (oi := ⟨some 20, _, _, _, _, _⟩) (v := ?_) rfl (by kernel_rfl) (by kernel_rfl) (by kernel_rfl) (fun _ _ _ h => h) (Or.inl ⟨by rfl, ?_⟩) (by assumption) ?_
  rotate_left
  ·(intro w hSw; (try dsimp only at hSw); go_simp; try with_reducible rfl)
  try simp only [Act.put, List.setIfInBounds_toArray, List.set_cons_zero, List.set_cons_succ]
  refine wpAnyH_take (i := 1) (oi := ⟨some 21, _, _, _, _, _⟩) (v := ?_) rfl (by kernel_rfl) (by kernel_rfl) (by kernel_rfl) (fun _ _ _ h => h) (Or.inl ⟨by rfl, ?_⟩) (by assumption) ?_
  rotate_left
  ·(intro w hSw; (try dsimp only at hSw); go_simp; try with_reducible rfl)
  try simp only [Act.put, List.setIfInBounds_toArray, List.set_cons_zero, List.set_cons_succ]
  refine wpAnyH_take (i := 2) (oi := ⟨some 22, _, _, _, _, _⟩) (v := ?_) rfl (by kernel_rfl) (by kernel_rfl) (by kernel_rfl) (fun _ _ _ h => h) (Or.inl ⟨by rfl, ?_⟩) (by assumption) ?_
  rotate_left
  ·(intro w hSw; (try dsimp only at hSw); go_simp; try with_reducible rfl)
  try simp only [Act.put, List.setIfInBounds_toArray, List.set_cons_zero, List.set_cons_succ]
  refine wpAnyH_take (i := 3) (oi := ⟨some 23, _, _, _, _, _⟩) (v := ?_) rfl (by kernel_rfl) (by kernel_rfl) (by kernel_rfl) (fun _ _ _ h => h) (Or.inl ⟨by rfl, ?_⟩) (by assumption) ?_
  rotate_left
  ·(intro w hSw; (try dsimp only at hSw); go_simp; try with_reducible rfl)
  try simp only [Act.put, List.setIfInBounds_toArray, List.set_cons_zero, List.set_cons_succ]
  refine wpAnyH_take (i := 4) (oi := ⟨some 24, _, _, _, _, _⟩) (v := undef) rfl (by kernel_rfl) (by kernel_rfl) (by kernel_rfl) (fun _ _ _ h => h) (Or.inr ⟨by rfl, rfl⟩) (by assumption) ?_
  try simp only [Act.put, List.setIfInBounds_toArray, List.set_cons_zero, List.set_cons_succ]
  refine wpAnyH_take (i := 5) (oi := ⟨some 25, _, _, _, _, _⟩) (v := undef) rfl (by kernel_rfl) (by kernel_rfl) (by kernel_rfl) (fun _ _ _ h => h) (Or.inr ⟨by rfl, rfl⟩) (by assumption) ?_
  try simp only [Act.put, List.setIfInBounds_toArray, List.set_cons_zero, List.set_cons_succ]
  refine wpAnyH_take (i := 6) (oi := ⟨some 26, _, _, _, _, _⟩) (v := undef) rfl (by kernel_rfl) (by kernel_rfl) (by kernel_rfl) (fun _ _ _ h => h) (Or.inr ⟨by rfl, rfl⟩) (by assumption) ?_
  try simp only [Act.put, List.setIfInBounds_toArray, List.set_cons_zero, List.set_cons_succ]
  refine wpAnyH_take (i := 7) (oi := ⟨some 27, _, _, _, _, _⟩) (v := undef) rfl (by kernel_rfl) (by kernel_rfl) (by kernel_rfl) (fun _ _ _ h => h) (Or.inr ⟨by rfl, rfl⟩) (by assumption) ?_
  try simp only [Act.put, List.setIfInBounds_toArray, List.set_cons_zero, List.set_cons_succ]
  refine wpAnyH_take (i := 8) (oi := ⟨some 28, _, _, _, _, _⟩) (v := undef) rfl (by kernel_rfl) (by kernel_rfl) (by kernel_rfl) (fun _ _ _ h => h) (Or.inr ⟨by rfl, rfl⟩) (by assumption) ?_
  try simp only [Act.put, List.setIfInBounds_toArray, List.set_cons_zero, List.set_cons_succ]
  refine wpAnyH_take (i := 9) (oi := ⟨some 29, _, _, _, _, _⟩) (v := undef) rfl (by kernel_rfl) (by kernel_rfl) (by kernel_rfl) (fun _ _ _ h => h) (Or.inr ⟨by rfl, rfl⟩) (by assumption) ?_
  try simp only [Act.put, List.setIfInBounds_toArray, List.set_cons_zero, List.set_cons_succ]
  refine wpAnyH_take (i := 10) (oi := ⟨some 30, _, _, _, _, _⟩) (v := undef) rfl (by kernel_rfl) (by kernel_rfl) (by kernel_rfl) (fun _ _ _ h => h) (Or.inr ⟨by rfl, rfl⟩) (by assumption) ?_
  try simp only [Act.put, List.setIfInBounds_toArray, List.set_cons_zero, List.set_cons_succ]
  refine wpAnyH_take (i := 11) (oi := ⟨some 31, _, _, _, _, _⟩) (v := ?_) rfl (by kernel_rfl) (by kernel_rfl) (by kernel_rfl) (fun _ _ _ h => h) (Or.inl ⟨by rfl, ?_⟩) (by assumption) ?_
  rotate_left
  ·(intro w hSw; (try dsimp only at hSw); go_simp; try with_reducible rfl)
  try simp only [Act.put, List.setIfInBounds_toArray, List.set_cons_zero, List.set_cons_succ]
  refine wpAnyH_take (i := 12) (oi := ⟨some 19, _, _, _, _, _⟩) (v := ?_) rfl (by kernel_rfl) (by kernel_rfl) (by kernel_rfl) (fun _ _ _ h => h) (Or.inl ⟨by rfl, ?_⟩) (by assumption) ?_
  rotate_left
  ·(intro w hSw; (try dsimp only at hSw); go_simp; try with_reducible rfl)
  try simp only [Act.put, List.setIfInBounds_toArray, List.set_cons_zero, List.set_cons_succ]
  refine wpAnyH_done (by kernel_rfl) ?_ _
  replace HK := hHeld
  clear hHeld
  go_wp2_with (first | (refine wpList_mks1 rfLay rfNest HK rfl _ rfl rfl ?_; intro w2 g7 HK' _; simp only [lcA, lnA] at HK'; replace HK := HK'; clear HK'))
  refine (HJ.out.one HK 2 rfl (HS.out.later HK.out.b)).mono ?_; rintro e w3 ⟨A4, n4, c4, rfl, o4, b4⟩; replace HK := zH (HK.out.called b4 o4); simp only [lnA] at HK; clear o4 b4
  go_wp2_with (first | (refine wpList_sr HK 1 rfl _ _ rfl rfl rfl rfl ?_; intro _ HK'; simp only [List.set] at HK'; replace HK := HK'; clear HK'))
  exact ret_srbe Tryz.results106 rfl rfl rfl rfl rfl (HK.out.blk 1 rfl) ⟨A4, n4, c4, rfl, HK.out.own 0 rfl, HK.out.b⟩
 ·have hpos : 0 < n := by omega
  have hz : ((n : Int) == 0) = false := by simpa using h0
  obtain ⟨x, hx, _⟩ := hs.get hpos
  have HD := zH (hs.drop (lo := 1) hpos)
  have hlx := List.length_drop (i := 1) (l := l)
  obtain ⟨b, o, rfl, hat⟩ := hs.at hpos
  have HX := zH (fun W hW => hat W hW 0 x hx)
  have HMi := mine_ne x r
  by_cases hm : Lck.mine x r
  case neg =>
   obtain ⟨e1, e2, e3, e4⟩ := Lck.fr_other hr hx hm
   rw [e1, e2, e3, e4]
   rw [decide_eq_false hm] at HMi
   replace HMi := zH HMi
   clear e1 e2 e3 e4 hr hs hlen h0 hat hx hm hlx HD
   go_enter Tryz.func106, Tryz.ntmps106
   go_wp2_with (first | (refine wpList_akr HK rfl rfl ?_; intro _ g1 HK'; simp only [lcA, lnA] at HK'; replace HK := HK'; clear HK'))
   refine (HM.out _ HK.out.b).mono ?_; rintro e w1 ⟨rfl, b1⟩
   replace HK := hkC HK b1; clear b1
   go_wp2_with fail
   refine wp_region_held_drew (S := (fun W => Hid (Kn w.heap.size w W [(w.heap.size, 24, #[.int .i64 r.c, .int .i64 r.e, .int .i64 r.r]), (g1, 24, #[.int .i64 0, .int .i64 0, .int .i64 0])] []))) (by kernel_rfl) ?_ (fun hHeld => ?_)
   ·(try dsimp only); exact zH HK.out.drew
   refine wpAnyH_take (i := 0) (oi := ⟨some 20, _, _, _, _, _⟩) (v := ?_) rfl (by kernel_rfl) (by kernel_rfl) (by kernel_rfl) (fun _ _ _ h => h) (Or.inl ⟨by rfl, ?_⟩) (by assumption) ?_
   rotate_left
   ·(intro w hSw; (try dsimp only at hSw); go_simp; try with_reducible rfl)
   try simp only [Act.put, List.setIfInBounds_toArray, List.set_cons_zero, List.set_cons_succ]
   refine wpAnyH_take (i := 1) (oi := ⟨some 21, _, _, _, _, _⟩) (v := ?_) rfl (by kernel_rfl) (by kernel_rfl) (by kernel_rfl) (fun _ _ _ h => h) (Or.inl ⟨by rfl, ?_⟩) (by assumption) ?_
   rotate_left
   ·(intro w hSw; (try dsimp only at hSw); go_simp; try with_reducible rfl)
   try simp only [Act.put, List.setIfInBounds_toArray, List.set_cons_zero, List.set_cons_succ]
   refine wpAnyH_take (i := 2) (oi := ⟨some 22, _, _, _, _, _⟩) (v := ?_) rfl (by kernel_rfl) (by kernel_rfl) (by kernel_rfl) (fun _ _ _ h => h) (Or.inl ⟨by rfl, ?_⟩) (by assumption) ?_
   rotate_left
   ·(intro w hSw; (try dsimp only at hSw); go_simp; try with_reducible rfl)
   try simp only [Act.put, List.setIfInBounds_toArray, List.set_cons_zero, List.set_cons_succ]
   refine wpAnyH_take (i := 3) (oi := ⟨some 23, _, _, _, _, _⟩) (v := ?_) rfl (by kernel_rfl) (by kernel_rfl) (by kernel_rfl) (fun _ _ _ h => h) (Or.inl ⟨by rfl, ?_⟩) (by assumption) ?_
   rotate_left
   ·(intro w hSw; (try dsimp only at hSw); go_simp; try with_reducible rfl)
   try simp only [Act.put, List.setIfInBounds_toArray, List.set_cons_zero, List.set_cons_succ]
   refine wpAnyH_take (i := 4) (oi := ⟨some 24, _, _, _, _, _⟩) (v := ?_) rfl (by kernel_rfl) (by kernel_rfl) (by kernel_rfl) (fun _ _ _ h => h) (Or.inl ⟨by rfl, ?_⟩) (by assumption) ?_
   rotate_left
   ·(intro w hSw; (try dsimp only at hSw); go_simp; try with_reducible rfl)
   try simp only [Act.put, List.setIfInBounds_toArray, List.set_cons_zero, List.set_cons_succ]
   refine wpAnyH_take (i := 5) (oi := ⟨some 25, _, _, _, _, _⟩) (v := ?_) rfl (by kernel_rfl) (by kernel_rfl) (by kernel_rfl) (fun _ _ _ h => h) (Or.inl ⟨by rfl, ?_⟩) (by assumption) ?_
   rotate_left
   ·(intro w hSw; refine Eq.trans (exec_ixr (i := 0) _ _ (by rfl) (by rfl) (by rfl) hpos) ?_; with_reducible rfl)
   try simp only [Act.put, List.setIfInBounds_toArray, List.set_cons_zero, List.set_cons_succ]
   refine wpAnyH_take (i := 6) (oi := ⟨some 26, _, _, _, _, _⟩) (v := ?_) rfl (by kernel_rfl) (by kernel_rfl) (by kernel_rfl) (fun _ _ _ h => h) (Or.inl ⟨by rfl, ?_⟩) (by assumption) ?_
   rotate_left
   ·(intro w hSw; refine Eq.trans (exec_lr (x := x) (off := o + 0 * 3) _ (by rfl) (by rfl) (HX.out _ hSw.out.b)) ?_; with_reducible rfl)
   try simp only [Act.put, List.setIfInBounds_toArray, List.set_cons_zero, List.set_cons_succ]
   refine wpAnyH_take (i := 8) (oi := ⟨some 28, _, _, _, _, _⟩) (v := ?_) rfl (by kernel_rfl) (by kernel_rfl) (by kernel_rfl) (fun _ _ _ h => h) (Or.inl ⟨by rfl, ?_⟩) (by assumption) ?_
   rotate_left
   ·(intro w hSw; refine Eq.trans (kexec_lr hSw 0 _ (by rfl) (by rfl) (by rfl)) ?_; with_reducible rfl)
   try simp only [Act.put, List.setIfInBounds_toArray, List.set_cons_zero, List.set_cons_succ]
   refine wpAnyH_ready (rs := [7]) (by kernel_rfl) (by simp) ?_
   refine AllReadyH.cons (o := ⟨some 27, _, _, _, _, _⟩) rfl (fun K hK => ?_) AllReadyH.nil
   go_simp
   go_at_call 131
   refine (HSe.out x _).mono ?_; rintro e w5 ⟨rfl, b5⟩; have hs := zH (hHeld.out.call b5); clear b5
   refine hK.out _ _ hs (fun hHeld => ?_)
   clear hK K
   try simp only [ap1, ap2, ap3, ap4, ap5]
   refine wpAnyH_ready (rs := [9]) (by kernel_rfl) (by simp) ?_
   refine AllReadyH.cons (o := ⟨some 29, _, _, _, _, _⟩) rfl (fun K hK => ?_) AllReadyH.nil
   go_simp
   go_at_call 131
   refine (HSe.out r _).mono ?_; rintro e w5 ⟨rfl, b5⟩; have hs := zH (hHeld.out.call b5); clear b5
   refine hK.out _ _ hs (fun hHeld => ?_)
   clear hK K
   try simp only [ap1, ap2, ap3, ap4, ap5]
   refine wpAnyH_take (i := 10) (oi := ⟨some 30, _, _, _, _, _⟩) (v := ?_) rfl (by kernel_rfl) (by kernel_rfl) (by kernel_rfl) (fun _ _ _ h => h) (Or.inl ⟨by rfl, ?_⟩) (by assumption) ?_
   rotate_left
   ·(intro w hSw; refine Eq.trans (exec_rne (v := ⟨x.c, x.e, 0⟩) (u := ⟨r.c, r.e, 0⟩) _ _ (by rfl) (by rfl) (by rfl) HMi.out) ?_; with_reducible rfl)
   try simp only [Act.put, List.setIfInBounds_toArray, List.set_cons_zero, List.set_cons_succ]
   refine wpAnyH_take (i := 11) (oi := ⟨some 31, _, _, _, _, _⟩) (v := ?_) rfl (by kernel_rfl) (by kernel_rfl) (by kernel_rfl) (fun _ _ _ h => h) (Or.inl ⟨by rfl, ?_⟩) (by assumption) ?_
   rotate_left
   ·(intro w hSw; (try dsimp only at hSw); go_simp; try with_reducible rfl)
   try simp only [Act.put, List.setIfInBounds_toArray, List.set_cons_zero, List.set_cons_succ]
   refine wpAnyH_take (i := 12) (oi := ⟨some 19, _, _, _, _, _⟩) (v := ?_) rfl (by kernel_rfl) (by kernel_rfl) (by kernel_rfl) (fun _ _ _ h => h) (Or.inl ⟨by rfl, ?_⟩) (by assumption) ?_
   rotate_left
   ·(intro w hSw; (try dsimp only at hSw); go_simp; try with_reducible rfl)
   try simp only [Act.put, List.setIfInBounds_toArray, List.set_cons_zero, List.set_cons_succ]
   refine wpAnyH_done (by kernel_rfl) ?_ _
   replace HK := hHeld
   clear hHeld
   go_wp2_with (first | (refine wpList_mks1 rfLay rfNest HK rfl _ rfl rfl ?_; intro w2 g7 HK' _; simp only [lcA, lnA] at HK'; replace HK := HK'; clear HK'))
   refine (HJ.out.one HK 2 rfl (HS.out.later HK.out.b)).mono ?_; rintro e w3 ⟨A4, n4, c4, rfl, o4, b4⟩; replace HK := zH (HK.out.called b4 o4); simp only [lnA] at HK; clear o4 b4
   go_wp2_with (first | (refine wpList_sr HK 1 rfl _ _ rfl rfl rfl rfl ?_; intro _ HK'; simp only [List.set] at HK'; replace HK := HK'; clear HK'))
   exact ret_srbe Tryz.results106 rfl rfl rfl rfl rfl (HK.out.blk 1 rfl) ⟨A4, n4, c4, rfl, HK.out.own 0 rfl, HK.out.b⟩
  case pos =>
  obtain ⟨e1, e2, e3, e4⟩ := Lck.fr_take hr hx hm
  rw [e1, e2, e3, e4]
  rw [decide_eq_true hm] at HMi
  replace HMi := zH HMi
  have HFd := zH HD.out.fit
  have HH := zH (fun W A c n (h : Sls rfLay rF W A n c (l.drop 1)) => holder_any A c n (l.drop 1) W h)
  clear e1 e2 e3 e4 hr hs hlen h0 hat hx hm hlx
  generalize (l.drop 1).headD Lck.zero = y at *
  generalize l.drop 1 = m at *
  go_enter Tryz.func106, Tryz.ntmps106
  go_wp2_with (first | (refine wpList_akr HK rfl rfl ?_; intro _ g1 HK'; simp only [lcA, lnA] at HK'; replace HK := HK'; clear HK'))
  refine (HM.out _ HK.out.b).mono ?_; rintro e w1 ⟨rfl, b1⟩
  replace HK := hkC HK b1; clear b1
  go_wp2_with fail
  refine wp_region_held_drew (S := (fun W => Hid (Kn w.heap.size w W [(w.heap.size, 24, #[.int .i64 r.c, .int .i64 r.e, .int .i64 r.r]), (g1, 24, #[.int .i64 0, .int .i64 0, .int .i64 0])] []))) (by kernel_rfl) ?_ (fun hHeld => ?_)
  ·(try dsimp only); exact zH HK.out.drew
  refine wpAnyH_take (i := 0) (oi := ⟨some 20, _, _, _, _, _⟩) (v := ?_) rfl (by kernel_rfl) (by kernel_rfl) (by kernel_rfl) (fun _ _ _ h => h) (Or.inl ⟨by rfl, ?_⟩) (by assumption) ?_
  rotate_left
  ·(intro w hSw; (try dsimp only at hSw); go_simp; try with_reducible rfl)
  try simp only [Act.put, List.setIfInBounds_toArray, List.set_cons_zero, List.set_cons_succ]
  refine wpAnyH_take (i := 1) (oi := ⟨some 21, _, _, _, _, _⟩) (v := ?_) rfl (by kernel_rfl) (by kernel_rfl) (by kernel_rfl) (fun _ _ _ h => h) (Or.inl ⟨by rfl, ?_⟩) (by assumption) ?_
  rotate_left
  ·(intro w hSw; (try dsimp only at hSw); go_simp; try with_reducible rfl)
  try simp only [Act.put, List.setIfInBounds_toArray, List.set_cons_zero, List.set_cons_succ]
  refine wpAnyH_take (i := 2) (oi := ⟨some 22, _, _, _, _, _⟩) (v := ?_) rfl (by kernel_rfl) (by kernel_rfl) (by kernel_rfl) (fun _ _ _ h => h) (Or.inl ⟨by rfl, ?_⟩) (by assumption) ?_
  rotate_left
  ·(intro w hSw; (try dsimp only at hSw); go_simp; try with_reducible rfl)
  try simp only [Act.put, List.setIfInBounds_toArray, List.set_cons_zero, List.set_cons_succ]
  refine wpAnyH_take (i := 3) (oi := ⟨some 23, _, _, _, _, _⟩) (v := ?_) rfl (by kernel_rfl) (by kernel_rfl) (by kernel_rfl) (fun _ _ _ h => h) (Or.inl ⟨by rfl, ?_⟩) (by assumption) ?_
  rotate_left
  ·(intro w hSw; (try dsimp only at hSw); go_simp; try with_reducible rfl)
  try simp only [Act.put, List.setIfInBounds_toArray, List.set_cons_zero, List.set_cons_succ]
  refine wpAnyH_take (i := 4) (oi := ⟨some 24, _, _, _, _, _⟩) (v := ?_) rfl (by kernel_rfl) (by kernel_rfl) (by kernel_rfl) (fun _ _ _ h => h) (Or.inl ⟨by rfl, ?_⟩) (by assumption) ?_
  rotate_left
  ·(intro w hSw; (try dsimp only at hSw); go_simp; try with_reducible rfl)
  try simp only [Act.put, List.setIfInBounds_toArray, List.set_cons_zero, List.set_cons_succ]
  refine wpAnyH_take (i := 5) (oi := ⟨some 25, _, _, _, _, _⟩) (v := ?_) rfl (by kernel_rfl) (by kernel_rfl) (by kernel_rfl) (fun _ _ _ h => h) (Or.inl ⟨by rfl, ?_⟩) (by assumption) ?_
  rotate_left
  ·(intro w hSw; refine Eq.trans (exec_ixr (i := 0) _ _ (by rfl) (by rfl) (by rfl) hpos) ?_; with_reducible rfl)
  try simp only [Act.put, List.setIfInBounds_toArray, List.set_cons_zero, List.set_cons_succ]
  refine wpAnyH_take (i := 6) (oi := ⟨some 26, _, _, _, _, _⟩) (v := ?_) rfl (by kernel_rfl) (by kernel_rfl) (by kernel_rfl) (fun _ _ _ h => h) (Or.inl ⟨by rfl, ?_⟩) (by assumption) ?_
  rotate_left
  ·(intro w hSw; refine Eq.trans (exec_lr (x := x) (off := o + 0 * 3) _ (by rfl) (by rfl) (HX.out _ hSw.out.b)) ?_; with_reducible rfl)
  try simp only [Act.put, List.setIfInBounds_toArray, List.set_cons_zero, List.set_cons_succ]
  refine wpAnyH_take (i := 8) (oi := ⟨some 28, _, _, _, _, _⟩) (v := ?_) rfl (by kernel_rfl) (by kernel_rfl) (by kernel_rfl) (fun _ _ _ h => h) (Or.inl ⟨by rfl, ?_⟩) (by assumption) ?_
  rotate_left
  ·(intro w hSw; refine Eq.trans (kexec_lr hSw 0 _ (by rfl) (by rfl) (by rfl)) ?_; with_reducible rfl)
  try simp only [Act.put, List.setIfInBounds_toArray, List.set_cons_zero, List.set_cons_succ]
  refine wpAnyH_ready (rs := [7]) (by kernel_rfl) (by simp) ?_
  refine AllReadyH.cons (o := ⟨some 27, _, _, _, _, _⟩) rfl (fun K hK => ?_) AllReadyH.nil
  go_simp
  go_at_call 131
  refine (HSe.out x _).mono ?_; rintro e w5 ⟨rfl, b5⟩; have hs := zH (hHeld.out.call b5); clear b5
  refine hK.out _ _ hs (fun hHeld => ?_)
  clear hK K
  try simp only [ap1, ap2, ap3, ap4, ap5]
  refine wpAnyH_ready (rs := [9]) (by kernel_rfl) (by simp) ?_
  refine AllReadyH.cons (o := ⟨some 29, _, _, _, _, _⟩) rfl (fun K hK => ?_) AllReadyH.nil
  go_simp
  go_at_call 131
  refine (HSe.out r _).mono ?_; rintro e w5 ⟨rfl, b5⟩; have hs := zH (hHeld.out.call b5); clear b5
  refine hK.out _ _ hs (fun hHeld => ?_)
  clear hK K
  try simp only [ap1, ap2, ap3, ap4, ap5]
  refine wpAnyH_take (i := 10) (oi := ⟨some 30, _, _, _, _, _⟩) (v := ?_) rfl (by kernel_rfl) (by kernel_rfl) (by kernel_rfl) (fun _ _ _ h => h) (Or.inl ⟨by rfl, ?_⟩) (by assumption) ?_
  rotate_left
  ·(intro w hSw; refine Eq.trans (exec_rne (v := ⟨x.c, x.e, 0⟩) (u := ⟨r.c, r.e, 0⟩) _ _ (by rfl) (by rfl) (by rfl) HMi.out) ?_; with_reducible rfl)
  try simp only [Act.put, List.setIfInBounds_toArray, List.set_cons_zero, List.set_cons_succ]
  refine wpAnyH_take (i := 11) (oi := ⟨some 31, _, _, _, _, _⟩) (v := ?_) rfl (by kernel_rfl) (by kernel_rfl) (by kernel_rfl) (fun _ _ _ h => h) (Or.inl ⟨by rfl, ?_⟩) (by assumption) ?_
  rotate_left
  ·(intro w hSw; (try dsimp only at hSw); go_simp; try with_reducible rfl)
  try simp only [Act.put, List.setIfInBounds_toArray, List.set_cons_zero, List.set_cons_succ]
  refine wpAnyH_take (i := 12) (oi := ⟨some 19, _, _, _, _, _⟩) (v := ?_) rfl (by kernel_rfl) (by kernel_rfl) (by kernel_rfl) (fun _ _ _ h => h) (Or.inl ⟨by rfl, ?_⟩) (by assumption) ?_
  rotate_left
  ·(intro w hSw; (try dsimp only at hSw); go_simp; try with_reducible rfl)
  try simp only [Act.put, List.setIfInBounds_toArray, List.set_cons_zero, List.set_cons_succ]
  refine wpAnyH_done (by kernel_rfl) ?_ _
  replace HK := hHeld
  clear hHeld
  go_wp2_with (first | refine wpList_exe (exec_srl (lo := 1) _ _ (by rfl) (by rfl) (by rfl) hpos) (by rfl) ?_ | (refine wpList_mks1 rfLay rfNest HK rfl _ rfl rfl ?_; intro w2 g7 HK' _; simp only [lcA, lnA] at HK'; replace HK := HK'; clear HK'))
  refine (HJ.out.one HK 2 rfl (HD.out.later HK.out.b)).mono ?_; rintro e w3 ⟨A4, n4, c4, rfl, o4, b4⟩
  obtain rfl := (Lay.Own.reads o4).1
  replace HK := zH (HK.out.called b4 o4)
  simp only [lnA] at HK
  clear o4 b4
  go_wp2_with fail
  refine (HH.out _ _ _ _ (Sls.own (HK.out.own 0 rfl) HFd.out)).mono ?_; rintro e w1 ⟨rfl, b1⟩
  replace HK := hkC HK b1; clear b1
  go_wp2_with (first | (refine wpList_akr HK rfl rfl ?_; intro _ g9 HK'; simp only [lcA, lnA] at HK'; replace HK := HK'; clear HK') | (refine wpList_sr HK 3 rfl _ _ rfl rfl rfl rfl ?_; intro _ HK'; simp only [List.set] at HK'; replace HK := HK'; clear HK'))
  have HK0 := zH HK.out.drew
  refine wp_region_held_drew (S := (fun W => Hid (Kn w.heap.size w W [(g9, 24, #[.int .i64 y.c, .int .i64 y.e, .int .i64 y.r])] []))) (by kernel_rfl) ?_ (fun hHeld => ?_)
  ·(try dsimp only); exact zH ((HK0.out.dropL 3).takeR 0)
  refine wpAnyH_take (i := 0) (oi := ⟨some 45, _, _, _, _, _⟩) (v := ?_) rfl (by kernel_rfl) (by kernel_rfl) (by kernel_rfl) (fun _ _ _ h => h) (Or.inl ⟨by rfl, ?_⟩) (by assumption) ?_
  rotate_left
  ·(intro w hSw; (try dsimp only at hSw); go_simp; try with_reducible rfl)
  try simp only [Act.put, List.setIfInBounds_toArray, List.set_cons_zero, List.set_cons_succ]
  refine wpAnyH_take (i := 1) (oi := ⟨some 46, _, _, _, _, _⟩) (v := ?_) rfl (by kernel_rfl) (by kernel_rfl) (by kernel_rfl) (fun _ _ _ h => h) (Or.inl ⟨by rfl, ?_⟩) (by assumption) ?_
  rotate_left
  ·(intro w hSw; refine Eq.trans (kexec_lr hSw 0 _ (by rfl) (by rfl) (by rfl)) ?_; with_reducible rfl)
  try simp only [Act.put, List.setIfInBounds_toArray, List.set_cons_zero, List.set_cons_succ]
  refine wpAnyH_take (i := 2) (oi := ⟨some 47, _, _, _, _, _⟩) (v := ?_) rfl (by kernel_rfl) (by kernel_rfl) (by kernel_rfl) (fun _ _ _ h => h) (Or.inl ⟨by rfl, ?_⟩) (by assumption) ?_
  rotate_left
  ·(intro w hSw; (try dsimp only at hSw); go_simp; try with_reducible rfl)
  try simp only [Act.put, List.setIfInBounds_toArray, List.set_cons_zero, List.set_cons_succ]
  refine wpAnyH_take (i := 3) (oi := ⟨some 4, _, _, _, _, _⟩) (v := ?_) rfl (by kernel_rfl) (by kernel_rfl) (by kernel_rfl) (fun _ _ _ h => h) (Or.inl ⟨by rfl, ?_⟩) (by assumption) ?_
  rotate_left
  ·(intro w hSw; (try dsimp only at hSw); go_simp; try with_reducible rfl)
  try simp only [Act.put, List.setIfInBounds_toArray, List.set_cons_zero, List.set_cons_succ]
  refine wpAnyH_ready (rs := [4]) (by kernel_rfl) (by simp) ?_
  refine AllReadyH.cons (o := ⟨none, _, _, _, _, _⟩) rfl (fun K hK => ?_) AllReadyH.nil
  refine step_sr HK0 1 (by rfl) _ _ (by rfl) (by rfl) (by rfl) (by rfl) ?_; intro wq HK'; simp only [List.set] at HK'; replace HK0 := HK'; clear HK'; have hs := zH ((HK0.out.dropL 3).takeR 0)
  refine hK.out _ _ hs (fun hHeld => ?_)
  clear hK K
  try simp only [ap1, ap2, ap3, ap4, ap5]
  refine wpAnyH_take (i := 5) (oi := ⟨some 6, _, _, _, _, _⟩) (v := ?_) rfl (by kernel_rfl) (by kernel_rfl) (by kernel_rfl) (fun _ _ _ h => h) (Or.inl ⟨by rfl, ?_⟩) (by assumption) ?_
  rotate_left
  ·(intro w hSw; (try dsimp only at hSw); go_simp; try with_reducible rfl)
  try simp only [Act.put, List.setIfInBounds_toArray, List.set_cons_zero, List.set_cons_succ]
  refine wpAnyH_take (i := 6) (oi := ⟨some 7, _, _, _, _, _⟩) (v := ?_) rfl (by kernel_rfl) (by kernel_rfl) (by kernel_rfl) (fun _ _ _ h => h) (Or.inl ⟨by rfl, ?_⟩) (by assumption) ?_
  rotate_left
  ·(intro w hSw; (try dsimp only at hSw); go_simp; try with_reducible rfl)
  try simp only [Act.put, List.setIfInBounds_toArray, List.set_cons_zero, List.set_cons_succ]
  refine wpAnyH_done (by kernel_rfl) ?_ _
  all_goals
   go_wp2_with fail
   exact ret_srbe Tryz.results106 rfl rfl rfl rfl rfl (HK0.out.blk 1 rfl) ⟨A4, _, c4, rfl, HK0.out.own 0 rfl, HK0.out.b⟩
end Go.Proofs.YtpkodjllljnleaaGreat
namespace Go.Proofs.YtpkodjllljnleaaGreat
open Go.RowKit
def IsWt (r s : List Rf) (x : Int) (w : World) (e : Ending) (w' : World) : Prop := ∃ A n c B k d, e = .returned (.tuple #[.slice A n c, .slice B k d, .int .i64 x]) ∧ (∀ (b0 : Nat) (w0 : World) L R, Kn b0 w0 w L R → Kn b0 w0 w' L (R ++ [row rfLay (.slice A n c) r, row rfLay (.slice B k d) s])) ∧ Below w.heap.size w w'
theorem two_left {w w' : World} {A : Option Addr} {n c : Nat} {r : List Rf} (ho : rfLay.Own w.heap.size w' (.slice A n c) r) (hb : Below w.heap.size w w') : ∀ (b0 : Nat) (w0 : World) L R, Kn b0 w0 w L R → Kn b0 w0 w' L (R ++ [row rfLay (.slice A n c) r, row rfLay (.slice none 0 0) []]) := fun b0 w0 L R h => by
 have h2 := (h.called hb ho).nilR rfLay
 rw [List.append_assoc] at h2
 exact h2
theorem two_right {w w' : World} {A : Option Addr} {n c : Nat} {r : List Rf} (ho : rfLay.Own w.heap.size w' (.slice A n c) r) (hb : Below w.heap.size w w') : ∀ (b0 : Nat) (w0 : World) L R, Kn b0 w0 w L R → Kn b0 w0 w' L (R ++ [row rfLay (.slice none 0 0) [], row rfLay (.slice A n c) r]) := fun b0 w0 L R h => by
 have h2 := (h.nilR rfLay).called hb ho
 rw [List.append_assoc] at h2
 exact h2
set_option maxRecDepth 100000 in
set_option maxHeartbeats 12800000 in
theorem gwait_any (m : Int) (A : Option Addr) (c n : Nat) (l : List Rf) (r : Rf) (w : World) (hs : Sls rfLay rF w A n c l) :
  Calls Tryz.prog 107 #[.int .i64 m, .slice A n c, .agg #[.int .i64 r.c, .int .i64 r.e, .int .i64 r.r]] w (IsWt (Gt.wtL m l r) (Gt.wtA m l r) (Gt.wtE m l r) w) := by
 have HM := zH (fun W (hW : Below w.heap.size w W) => gright_any m A c n l W (hs.later hW))
 have HC := zH (fun W => cmr_any r W)
 have HAs := zH (fun W (hW : Below w.heap.size w W) => waits_any A c n l r.c W (hs.later hW))
 have HS := zH hs
 have HJ := zH rconcat_any
 have hlen := hs.len
 have HK := kn1 w 24 #[.int .i64 r.c, .int .i64 r.e, .int .i64 r.r]
 unfold IsB IsWt at *
 by_cases hr : Gt.Right m l
 case neg =>
  rw [decide_eq_false hr] at HM
  obtain ⟨e1, e2, e3⟩ := Gt.wt_bad (r := r) (fun h => hr h.1)
  rw [e1, e2, e3]
  clear e1 e2 e3 hr hs hlen HC HAs
  go_enter Tryz.func107, Tryz.ntmps107
  go_wp2_with fail
  refine (HM.out _ HK.out.b).mono ?_; rintro e w1 ⟨rfl, b1⟩
  replace HK := hkC HK b1; clear b1
  go_wp2_with (first | (refine wpList_mks1 rfLay rfNest HK rfl _ rfl rfl ?_; intro w2 g7 HK' _; simp only [lcA, lnA] at HK'; replace HK := HK'; clear HK'))
  refine (HJ.out.one HK 1 rfl (HS.out.later HK.out.b)).mono ?_; rintro e w3 ⟨A4, n4, c4, rfl, o4, b4⟩; replace HK := zH (HK.out.called b4 o4); simp only [lnA] at HK; clear o4 b4
  go_wp2_with fail
  exact ret_t3 Tryz.results107 rfl rfl rfl rfl ⟨A4, n4, c4, none, 0, 0, rfl, two_left (HK.out.own 0 rfl) HK.out.b, HK.out.b⟩
 case pos =>
 rw [decide_eq_true hr] at HM
 by_cases hok : Lck.ok r
 case neg =>
  rw [decide_eq_false hok] at HC
  obtain ⟨e1, e2, e3⟩ := Gt.wt_bad (m := m) (l := l) (r := r) (fun h => hok h.2)
  rw [e1, e2, e3]
  clear e1 e2 e3 hr hok hs hlen HAs
  go_enter Tryz.func107, Tryz.ntmps107
  go_wp2_with fail
  refine (HM.out _ HK.out.b).mono ?_; rintro e w1 ⟨rfl, b1⟩
  replace HK := hkC HK b1; clear b1
  go_wp2_with (first | refine wpList_exe (kexec_lr HK 0 _ (by rfl) (by rfl) (by rfl)) (by rfl) ?_)
  refine (HC.out _).mono ?_; rintro e w1 ⟨rfl, b1⟩
  replace HK := hkC HK b1; clear b1
  go_wp2_with (first | (refine wpList_mks1 rfLay rfNest HK rfl _ rfl rfl ?_; intro w2 g7 HK' _; simp only [lcA, lnA] at HK'; replace HK := HK'; clear HK'))
  refine (HJ.out.one HK 1 rfl (HS.out.later HK.out.b)).mono ?_; rintro e w3 ⟨A4, n4, c4, rfl, o4, b4⟩; replace HK := zH (HK.out.called b4 o4); simp only [lnA] at HK; clear o4 b4
  go_wp2_with fail
  exact ret_t3 Tryz.results107 rfl rfl rfl rfl ⟨A4, n4, c4, none, 0, 0, rfl, two_left (HK.out.own 0 rfl) HK.out.b, HK.out.b⟩
 case pos =>
 rw [decide_eq_true hok] at HC
 by_cases ha : Lck.asked l r.c = true
 ·rw [ha] at HAs
  obtain ⟨e1, e2, e3⟩ := Gt.wt_held hr hok ha
  rw [e1, e2, e3]
  clear e1 e2 e3 hr hok hs hlen ha
  go_enter Tryz.func107, Tryz.ntmps107
  go_wp2_with fail
  refine (HM.out _ HK.out.b).mono ?_; rintro e w1 ⟨rfl, b1⟩
  replace HK := hkC HK b1; clear b1
  go_wp2_with (first | refine wpList_exe (kexec_lr HK 0 _ (by rfl) (by rfl) (by rfl)) (by rfl) ?_)
  refine (HC.out _).mono ?_; rintro e w1 ⟨rfl, b1⟩
  replace HK := hkC HK b1; clear b1
  go_wp2_with (first | refine wpList_exe (kexec_lc0 HK 0 _ (by rfl) (by rfl) (by rfl)) (by rfl) ?_)
  refine (HAs.out _ HK.out.b).mono ?_; rintro e w1 ⟨rfl, b1⟩
  replace HK := hkC HK b1; clear b1
  go_wp2_with (first | (refine wpList_mks1 rfLay rfNest HK rfl _ rfl rfl ?_; intro w2 g7 HK' _; simp only [lcA, lnA] at HK'; replace HK := HK'; clear HK'))
  refine (HJ.out.one HK 1 rfl (HS.out.later HK.out.b)).mono ?_; rintro e w3 ⟨A4, n4, c4, rfl, o4, b4⟩; replace HK := zH (HK.out.called b4 o4); simp only [lnA] at HK; clear o4 b4
  go_wp2_with fail
  exact ret_t3 Tryz.results107 rfl rfl rfl rfl ⟨A4, n4, c4, none, 0, 0, rfl, two_left (HK.out.own 0 rfl) HK.out.b, HK.out.b⟩
 ·have ha2 : Lck.asked l r.c = false := Bool.eq_false_iff.2 ha
  rw [ha2] at HAs
  have h5 := Lck.right_len hr.2.2.2
  have HF := zH (fits_one r)
  have HLn : Hid ((l ++ [r]).length = n + 1) := zH (by rw [List.length_append, hlen]; rfl)
  rw [hlen] at h5
  by_cases hfull : (l.length : Int) + 1 = m
  ·obtain ⟨e1, e2, e3⟩ := Gt.wt_full hr hok ha2 hfull
   rw [e1, e2, e3]
   have HM4 : Hid (∀ n4 : Nat, n4 = (l ++ [r]).length → ((n4 : Int) == m) = true) := zH fun n4 h => by
    rw [h, HLn.out, beq_iff_eq, ← hfull, hlen]; omega
   clear e1 e2 e3 hr hok hs hlen ha ha2 hfull HLn
   go_enter Tryz.func107, Tryz.ntmps107
   go_wp2_with fail
   refine (HM.out _ HK.out.b).mono ?_; rintro e w1 ⟨rfl, b1⟩
   replace HK := hkC HK b1; clear b1
   go_wp2_with (first | refine wpList_exe (kexec_lr HK 0 _ (by rfl) (by rfl) (by rfl)) (by rfl) ?_)
   refine (HC.out _).mono ?_; rintro e w1 ⟨rfl, b1⟩
   replace HK := hkC HK b1; clear b1
   go_wp2_with (first | refine wpList_exe (kexec_lc0 HK 0 _ (by rfl) (by rfl) (by rfl)) (by rfl) ?_)
   refine (HAs.out _ HK.out.b).mono ?_; rintro e w1 ⟨rfl, b1⟩
   replace HK := hkC HK b1; clear b1
   go_wp2_with (first | refine wpList_exe (kexec_lr HK 0 _ (by rfl) (by rfl) (by rfl)) (by rfl) ?_ | (refine wpList_mk1 rfLay (p := r) HK (by decide) rfl _ rfl rfl rfl ?_; intro _ g5 HK'; simp only [lcA, lnA] at HK'; have HR := zH (HK'.out.own 0 rfl).rd; replace HK := HK'; clear HK') | (refine wpList_mks2 rfLay rfNest HK rfl _ _ rfl rfl rfl ?_; intro w2 g7 HK' _; simp only [lcA, lnA] at HK'; replace HK := HK'; clear HK'))
   refine (HJ.out.two HK 1 rfl (HS.out.later HK.out.b) (Sls.own (HK.out.own 0 rfl) HF.out) (by show (n + 1) * 24 ≤ _; omega)).mono ?_; rintro e w3 ⟨A4, n4, c4, rfl, o4, b4⟩
   have hz := HM4.out n4 (Lay.Own.reads o4).1
   replace HK := zH (HK.out.called b4 o4)
   clear o4 b4
   go_wp2_with fail
   exact ret_t3 Tryz.results107 rfl rfl rfl rfl ⟨none, 0, 0, A4, n4, c4, rfl, two_right (HK.out.own 1 rfl) HK.out.b, HK.out.b⟩
  ·obtain ⟨e1, e2, e3⟩ := Gt.wt_more hr hok ha2 hfull
   rw [e1, e2, e3]
   have HM4 : Hid (∀ n4 : Nat, n4 = (l ++ [r]).length → ((n4 : Int) == m) = false) := zH fun n4 h => by
    rw [h, HLn.out, beq_eq_false_iff_ne]
    intro he
    apply hfull
    rw [← he, hlen]; omega
   clear e1 e2 e3 hr hok hs hlen ha ha2 hfull HLn
   go_enter Tryz.func107, Tryz.ntmps107
   go_wp2_with fail
   refine (HM.out _ HK.out.b).mono ?_; rintro e w1 ⟨rfl, b1⟩
   replace HK := hkC HK b1; clear b1
   go_wp2_with (first | refine wpList_exe (kexec_lr HK 0 _ (by rfl) (by rfl) (by rfl)) (by rfl) ?_)
   refine (HC.out _).mono ?_; rintro e w1 ⟨rfl, b1⟩
   replace HK := hkC HK b1; clear b1
   go_wp2_with (first | refine wpList_exe (kexec_lc0 HK 0 _ (by rfl) (by rfl) (by rfl)) (by rfl) ?_)
   refine (HAs.out _ HK.out.b).mono ?_; rintro e w1 ⟨rfl, b1⟩
   replace HK := hkC HK b1; clear b1
   go_wp2_with (first | refine wpList_exe (kexec_lr HK 0 _ (by rfl) (by rfl) (by rfl)) (by rfl) ?_ | (refine wpList_mk1 rfLay (p := r) HK (by decide) rfl _ rfl rfl rfl ?_; intro _ g5 HK'; simp only [lcA, lnA] at HK'; have HR := zH (HK'.out.own 0 rfl).rd; replace HK := HK'; clear HK') | (refine wpList_mks2 rfLay rfNest HK rfl _ _ rfl rfl rfl ?_; intro w2 g7 HK' _; simp only [lcA, lnA] at HK'; replace HK := HK'; clear HK'))
   refine (HJ.out.two HK 1 rfl (HS.out.later HK.out.b) (Sls.own (HK.out.own 0 rfl) HF.out) (by show (n + 1) * 24 ≤ _; omega)).mono ?_; rintro e w3 ⟨A4, n4, c4, rfl, o4, b4⟩
   have hz := HM4.out n4 (Lay.Own.reads o4).1
   replace HK := zH (HK.out.called b4 o4)
   clear o4 b4
   go_wp2_with fail
   exact ret_t3 Tryz.results107 rfl rfl rfl rfl ⟨A4, n4, c4, none, 0, 0, rfl, two_left (HK.out.own 1 rfl) HK.out.b, HK.out.b⟩
end Go.Proofs.YtpkodjllljnleaaGreat
