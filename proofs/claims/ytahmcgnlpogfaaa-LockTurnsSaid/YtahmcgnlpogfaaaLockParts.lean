/-
  What cmd.Right, the document's Right and Mine, and the program's asked, session, holder, without return.
  No condition but what the slices read as.
-/
import Derived.Test.YtahmcgnlpogfaaaRfLay
set_option linter.unusedSimpArgs false
set_option linter.unusedVariables false
namespace Go.Proofs.Ytahmcgnlpogfaaa
open Go.RowKit

set_option maxHeartbeats 3200000 in
theorem cmr_any (x : Rf) (w : World) : Calls Try.prog 18 #[.agg #[.int .i64 x.c, .int .i64 x.e, .int .i64 x.r]] w (IsB (decide (Lck.ok x)) w) := by
  have HE : Hid (∀ q : Bool, (q = true ↔ (0 ≤ x.c ∧ x.c < 5 ∧ 1 ≤ x.e ∧ 0 ≤ x.r)) → q = decide (Lck.ok x)) := Lib.hid fun q hq => by
    rw [Bool.eq_iff_iff, hq, decide_eq_true_eq]
    exact Iff.rfl
  generalize decide (Lck.ok x) = r at *
  obtain ⟨c, ep, rq⟩ := x
  simp only at HE ⊢
  have HK := kn1 w 24 #[.int .i64 c, .int .i64 ep, .int .i64 rq]
  go_enter Try.func18, Try.ntmps18
  go_wp2_with fail
  all_goals
    go_ret
    refine ⟨congrArg (fun b => Ending.returned (.bool b)) (HE.out _ ?_), HK.out.b⟩
    clear HE HK
    simp_all <;> omega
set_option maxHeartbeats 3200000 in
theorem rmr_any (x : Rf) (w : World) : Calls Try.prog 17 #[.agg #[.int .i64 x.c, .int .i64 x.e, .int .i64 x.r]] w (IsB (decide (Lck.ok x)) w) := by
  have HE : Hid (∀ q : Bool, (q = true ↔ (0 ≤ x.c ∧ x.c < 5 ∧ 1 ≤ x.e ∧ 0 ≤ x.r)) → q = decide (Lck.ok x)) := Lib.hid fun q hq => by
    rw [Bool.eq_iff_iff, hq, decide_eq_true_eq]
    exact Iff.rfl
  generalize decide (Lck.ok x) = r at *
  obtain ⟨c, ep, rq⟩ := x
  simp only at HE ⊢
  have HK := kn1 w 24 #[.int .i64 c, .int .i64 ep, .int .i64 rq]
  go_enter Try.func17, Try.ntmps17
  go_wp2_with fail
  all_goals
    go_ret
    refine ⟨congrArg (fun b => Ending.returned (.bool b)) (HE.out _ ?_), HK.out.b⟩
    clear HE HK
    simp_all <;> omega
set_option maxHeartbeats 3200000 in
theorem mine_any (x y : Rf) (w : World) : Calls Try.prog 23 #[.agg #[.int .i64 x.c, .int .i64 x.e, .int .i64 x.r], .agg #[.int .i64 y.c, .int .i64 y.e, .int .i64 y.r]] w (IsB (decide (Lck.mine x y)) w) := by
  have HE : Hid (∀ q : Bool, (q = true ↔ (x.c = y.c ∧ x.e = y.e)) → q = decide (Lck.mine x y)) := Lib.hid fun q hq => by
    rw [Bool.eq_iff_iff, hq, decide_eq_true_eq]
    exact Iff.rfl
  generalize decide (Lck.mine x y) = r at *
  obtain ⟨c, ep, rq⟩ := x
  obtain ⟨c2, ep2, rq2⟩ := y
  simp only at HE ⊢
  by_cases hc : c = c2
  · subst hc
    have HK := kn2 w 24 #[.int .i64 c, .int .i64 ep, .int .i64 rq] 24 #[.int .i64 c, .int .i64 ep2, .int .i64 rq2]
    go_enter Try.func23, Try.ntmps23
    go_wp2_with fail
    go_ret
    refine ⟨congrArg (fun b => Ending.returned (.bool b)) (HE.out _ ?_), HK.out.b⟩
    clear HE HK
    simp_all
  · have hc2 : (c == c2) = false := by simpa using hc
    have HK := kn2 w 24 #[.int .i64 c, .int .i64 ep, .int .i64 rq] 24 #[.int .i64 c2, .int .i64 ep2, .int .i64 rq2]
    go_enter Try.func23, Try.ntmps23
    go_wp2_with fail
    go_ret
    refine ⟨congrArg (fun b => Ending.returned (.bool b)) (HE.out _ ?_), HK.out.b⟩
    clear HE HK
    simp_all
set_option maxHeartbeats 3200000 in
theorem session_any (x : Rf) (w : World) : Calls Try.prog 21 #[.agg #[.int .i64 x.c, .int .i64 x.e, .int .i64 x.r]] w (fun e w' => e = .returned (.agg #[.int .i64 x.c, .int .i64 x.e, .int .i64 0]) ∧ Below w.heap.size w w') := by
  have HK := Lib.hid (kn1 w 24 #[.int .i64 x.c, .int .i64 x.e, .int .i64 x.r]).out
  go_enter Try.func21, Try.ntmps21
  go_wp2_with (first | (refine wpList_akr HK rfl rfl ?_; intro _ g1 HK'; simp only [List.cons_append, List.nil_append] at HK'; replace HK := HK'; clear HK') | refine wpList_exe (kexec_lc0 HK 0 _ (by rfl) (by rfl) (by rfl)) (by rfl) ?_ | refine wpList_exe (kexec_lc1 HK 0 _ (by rfl) (by rfl) (by rfl)) (by rfl) ?_ | (refine wpList_sr HK 1 rfl _ _ rfl rfl rfl rfl ?_; intro _ HK'; simp only [List.set] at HK'; replace HK := HK'; clear HK'))
  exact ret_r Try.results21 rfl rfl (HK.out.blk 1 rfl) ⟨rfl, HK.out.b⟩
set_option maxHeartbeats 3200000 in
theorem holder_any (A : Option Addr) (c n : Nat) (l : List Rf) (w : World) (hs : Sls rfLay rF w A n c l) :
    Calls Try.prog 22 #[.slice A n c] w (fun e w' => e = .returned (.tuple #[.agg #[.int .i64 (l.headD Lck.zero).c, .int .i64 (l.headD Lck.zero).e, .int .i64 (l.headD Lck.zero).r], .bool (decide (0 < n))]) ∧ Below w.heap.size w w') := by
  have HK := Lib.hid (Kn.start w)
  by_cases h0 : n = 0
  · subst h0
    obtain rfl := List.length_eq_zero_iff.1 hs.len
    clear hs
    go_enter Try.func22, Try.ntmps22
    go_wp2_with (first | (refine wpList_akr HK rfl rfl ?_; intro _ g1 HK'; simp only [List.cons_append, List.nil_append] at HK'; replace HK := HK'; clear HK') | (refine wpList_sr HK 0 rfl _ _ rfl rfl rfl rfl ?_; intro _ HK'; simp only [List.set] at HK'; replace HK := HK'; clear HK'))
    exact ret_rb Try.results22 rfl rfl rfl (HK.out.blk 0 rfl) ⟨rfl, HK.out.b⟩
  · have hpos : 0 < n := by omega
    obtain ⟨x, hx, _⟩ := hs.get hpos
    obtain ⟨b, o, rfl, hat⟩ := hs.at hpos
    have HX := Lib.hid (fun W hW => hat W hW 0 x hx)
    rw [Lck.head_of hx, decide_eq_true hpos]
    have hz : ((n : Int) == 0) = false := by simp; omega
    have hn1 : (0 : Int) < (n : Int) := by omega
    clear hs hat hx h0 hpos
    go_enter Try.func22, Try.ntmps22
    go_wp2_with (first | (refine wpList_akr HK rfl rfl ?_; intro _ g1 HK'; simp only [List.cons_append, List.nil_append] at HK'; replace HK := HK'; clear HK') | refine wpList_exe (exec_lr (x := x) (off := o + 0 * 3) _ (by rfl) (by rfl) (HX.out _ HK.out.b)) (by rfl) ?_ | (refine wpList_sr HK 0 rfl _ _ rfl rfl rfl rfl ?_; intro _ HK'; simp only [List.set] at HK'; replace HK := HK'; clear HK'))
    exact ret_rb Try.results22 rfl rfl rfl (HK.out.blk 0 rfl) ⟨rfl, HK.out.b⟩
set_option maxRecDepth 100000 in
set_option maxHeartbeats 6400000 in
theorem asked_any (A : Option Addr) (c n : Nat) (l : List Rf) (q : Int) (w : World) (hs : Sls rfLay rF w A n c l) :
    Calls Try.prog 20 #[.slice A n c, .int .i64 q] w (IsB (Lck.asked l q) w) := by
  obtain ⟨hyes, hno⟩ := Lck.asked_told hs.len q
  have HYes := Lib.hid hyes
  have HNo := Lib.hid hno
  have HS := Lib.hid hs
  have HK := Lib.hid (Kn.start w)
  have hn63 : n < 9223372036854775807 := by
    have h : n * 24 ≤ 140737488355328 := hs.big
    omega
  clear hs hyes hno
  generalize Lck.asked l q = r at *
  go_enter Try.func20, Try.ntmps20
  go_wp2_with fail
  go_loopw [9] (fun vi wr => ∃ k : Nat, k ≤ n ∧ vi = .int .i64 k ∧ Hid (∀ (i : Nat) x, i < k → l[i]? = some x → ¬ x.c = q) ∧ Hid (Kn w.heap.size w wr [] [])) (fun vi _ => n - (intOf vi).toNat)
  case atStart => exact ⟨0, Nat.zero_le _, rfl, Lib.hid (fun i v hi => by omega), HK⟩
  case round =>
    clear HK
    obtain ⟨k, hk, rfl, HGo, HK⟩ := hrel
    have hk1 : (0 : Int) ≤ (k : Int) := by omega
    by_cases hlt : k < n
    · have hk2 : (k : Int) < (n : Int) := by omega
      have hk3 : k < 9223372036854775807 := by omega
      obtain ⟨x, hx, _⟩ := HS.out.get hlt
      obtain ⟨b, o, rfl, hat⟩ := HS.out.at (Nat.lt_of_le_of_lt (Nat.zero_le _) hlt)
      have HX := Lib.hid (fun W hW => hat W hW k x hx)
      have HY := Lib.hid (HYes.out k x hx)
      have HGk : Hid (¬ x.c = q → ∀ (i : Nat) v, i < k + 1 → l[i]? = some v → ¬ v.c = q) := Lib.hid fun h i v hi hv => by
        by_cases hik : i = k
        · subst hik; rw [hx] at hv; injection hv with hv; subst hv; exact h
        · exact HGo.out i v (by omega) hv
      clear hat hx
      by_cases he : x.c = q
      · have HR := Lib.hid (HY.out he)
        have he2 : (x.c == q) = true := by simpa using he
        clear he HGk HY
        go_wp2_with (first | refine wpList_exe (exec_lr (x := x) (off := o + k * 3) _ (by rfl) (by rfl) (HX.out _ HK.out.b)) (by rfl) ?_ | (refine wpList_akr HK rfl rfl ?_; intro _ g2 HK'; simp only [List.cons_append, List.nil_append] at HK'; replace HK := HK'; clear HK') | (refine wpList_sr HK 0 rfl _ _ rfl rfl rfl rfl ?_; intro _ HK'; simp only [List.set] at HK'; replace HK := HK'; clear HK') | refine wpList_exe (kexec_lc0 HK 0 _ (by rfl) (by rfl) (by rfl)) (by rfl) ?_)
        go_ret
        exact ⟨by rw [HR.out] <;> rfl, HK.out.b⟩
      · have he2 : (x.c == q) = false := by simpa using he
        replace HGk := Lib.hid (HGk.out he)
        clear he HY
        go_wp2_with (first | refine wpList_exe (exec_lr (x := x) (off := o + k * 3) _ (by rfl) (by rfl) (HX.out _ HK.out.b)) (by rfl) ?_ | (refine wpList_akr HK rfl rfl ?_; intro _ g2 HK'; simp only [List.cons_append, List.nil_append] at HK'; replace HK := HK'; clear HK') | (refine wpList_sr HK 0 rfl _ _ rfl rfl rfl rfl ?_; intro _ HK'; simp only [List.set] at HK'; replace HK := HK'; clear HK') | refine wpList_exe (kexec_lc0 HK 0 _ (by rfl) (by rfl) (by rfl)) (by rfl) ?_ | refine wpList_exe (exec_add1 (j := k) _ (by rfl) (by rfl) hk3) (by rfl) ?_)
        exact ⟨⟨k + 1, hlt, rfl, HGk, Lib.hid (HK.out.takeL 0)⟩, by simp [intOf]; omega⟩
    · obtain rfl : k = n := by omega
      have HR := Lib.hid (HNo.out HGo.out)
      go_wp2_with fail
      go_ret
      exact ⟨by rw [HR.out] <;> rfl, HK.out.b⟩
theorem mine_ne (x r : Rf) : (!decide ((⟨x.c, x.e, 0⟩ : Rf) = ⟨r.c, r.e, 0⟩)) = !decide (Lck.mine x r) := by
  by_cases h : Lck.mine x r
  · rw [decide_eq_true h, decide_eq_true (by rw [h.1, h.2])]
  · rw [decide_eq_false h, decide_eq_false (fun e => h (by injection e with e1 e2; exact ⟨e1, e2⟩))]
set_option maxRecDepth 100000 in
set_option maxHeartbeats 6400000 in
theorem without_any (A : Option Addr) (c n : Nat) (l : List Rf) (r : Rf) (w : World) (hs : Sls rfLay rF w A n c l) :
    Calls Try.prog 24 #[.slice A n c, .agg #[.int .i64 r.c, .int .i64 r.e, .int .i64 r.r]] w (IsLg rfLay (Lck.wo l r) w) := by
  have HS := Lib.hid hs
  have HSe := Lib.hid (fun x W => session_any x W)
  have HK := kn1 w 24 #[.int .i64 r.c, .int .i64 r.e, .int .i64 r.r]
  have hbig : n * 24 ≤ 140737488355328 := hs.big
  have hn63 : n < 9223372036854775807 := by omega
  have HTake : Hid (l.take n = l) := Lib.hid (by rw [← hs.len]; exact List.take_length)
  have HTl : Hid (∀ k, k ≤ n → (Lck.wo (l.take k) r).length ≤ k) := Lib.hid fun k hk => Nat.le_trans (Lck.wo_le _ _) (by rw [List.length_take]; omega)
  clear hs
  go_enter Try.func24, Try.ntmps24
  go_wp2_with (first | (refine wpList_mk0 rfLay HK rfl rfl ?_; intro _ g2 HK'; simp only [List.nil_append] at HK'; replace HK := HK'; clear HK'))
  go_loopw [5, 11] (fun vs vi wr => ∃ (k : Nat) (A1 : Option Addr) (c1 N : Nat), k ≤ n ∧ vs = .slice A1 N c1 ∧ vi = .int .i64 k ∧ Hid ((Lck.wo (l.take k) r).length = N) ∧ Hid (Kn w.heap.size w wr [(w.heap.size, 24, #[.int .i64 r.c, .int .i64 r.e, .int .i64 r.r])] [row rfLay (.slice A1 N c1) (Lck.wo (l.take k) r)])) (fun _ vi _ => n - (intOf vi).toNat)
  case atStart => exact ⟨0, _, _, 0, Nat.zero_le _, rfl, rfl, Lib.hid rfl, HK⟩
  case round =>
    clear HK
    obtain ⟨k, A1, c1, N, hk, rfl, rfl, hN, HK⟩ := hrel
    have hk1 : (0 : Int) ≤ (k : Int) := by omega
    by_cases hlt : k < n
    · have hk2 : (k : Int) < (n : Int) := by omega
      have hk3 : k < 9223372036854775807 := by omega
      obtain ⟨x, hx, _⟩ := HS.out.get hlt
      obtain ⟨b, o, rfl, hat⟩ := HS.out.at (Nat.lt_of_le_of_lt (Nat.zero_le _) hlt)
      have HX := Lib.hid (fun W hW => hat W hW k x hx)
      have hNk : N ≤ k := by rw [← hN.out]; exact HTl.out k hk
      have HM := mine_ne x r
      by_cases hm : Lck.mine x r
      · have HE := Lib.hid (Lck.wo_take_out hx hm)
        rw [decide_eq_true hm] at HM
        replace HM := Lib.hid HM
        clear hat hx hm
        go_wp2_with (first | refine wpList_exe (exec_lr (x := x) (off := o + k * 3) _ (by rfl) (by rfl) (HX.out _ HK.out.b)) (by rfl) ?_ | (refine wpList_akr HK rfl rfl ?_; intro _ g2 HK'; simp only [List.cons_append, List.nil_append] at HK'; replace HK := HK'; clear HK') | (refine wpList_sr HK 1 rfl _ _ rfl rfl rfl rfl ?_; intro _ HK'; simp only [List.set] at HK'; replace HK := HK'; clear HK'))
        refine wp_region_held_drew (S := (fun W => Hid (Kn w.heap.size w W [(w.heap.size, 24, #[.int .i64 r.c, .int .i64 r.e, .int .i64 r.r]), (g2, 24, #[.int .i64 x.c, .int .i64 x.e, .int .i64 x.r])] [row rfLay (.slice A1 N c1) (Lck.wo (l.take k) r)]))) (by kernel_rfl) ?_ (fun hHeld => ?_)
        · (try dsimp only); exact Lib.hid HK.out.drew
        refine wpAnyH_take (i := 0) (oi := ⟨some 15, _, _, _, _, _⟩) (v := ?_) rfl (by kernel_rfl) (by kernel_rfl) (by kernel_rfl) (fun _ _ _ h => h) (Or.inl ⟨by rfl, ?_⟩) (by assumption) ?_
        rotate_left
        · (intro w hSw; refine Eq.trans (kexec_lr hSw 1 _ (by rfl) (by rfl) (by rfl)) ?_; with_reducible rfl)
        try simp only [Act.put, List.setIfInBounds_toArray, List.set_cons_zero, List.set_cons_succ]
        refine wpAnyH_take (i := 2) (oi := ⟨some 17, _, _, _, _, _⟩) (v := ?_) rfl (by kernel_rfl) (by kernel_rfl) (by kernel_rfl) (fun _ _ _ h => h) (Or.inl ⟨by rfl, ?_⟩) (by assumption) ?_
        rotate_left
        · (intro w hSw; refine Eq.trans (kexec_lr hSw 0 _ (by rfl) (by rfl) (by rfl)) ?_; with_reducible rfl)
        try simp only [Act.put, List.setIfInBounds_toArray, List.set_cons_zero, List.set_cons_succ]
        refine wpAnyH_ready (rs := [1]) (by kernel_rfl) (by simp) ?_
        refine AllReadyH.cons (o := ⟨some 16, _, _, _, _, _⟩) rfl (fun K hK => ?_) AllReadyH.nil
        go_simp
        go_at_call 21
        refine (HSe.out x _).mono ?_; rintro e w5 ⟨rfl, b5⟩; have hs := Lib.hid (hHeld.out.call b5); clear b5
        refine hK.out _ _ hs (fun hHeld => ?_)
        clear hK K
        try simp only [Act.put, List.setIfInBounds_toArray, List.set_cons_zero, List.set_cons_succ]
        refine wpAnyH_ready (rs := [3]) (by kernel_rfl) (by simp) ?_
        refine AllReadyH.cons (o := ⟨some 18, _, _, _, _, _⟩) rfl (fun K hK => ?_) AllReadyH.nil
        go_simp
        go_at_call 21
        refine (HSe.out r _).mono ?_; rintro e w5 ⟨rfl, b5⟩; have hs := Lib.hid (hHeld.out.call b5); clear b5
        refine hK.out _ _ hs (fun hHeld => ?_)
        clear hK K
        try simp only [Act.put, List.setIfInBounds_toArray, List.set_cons_zero, List.set_cons_succ]
        refine wpAnyH_take (i := 4) (oi := ⟨some 19, _, _, _, _, _⟩) (v := ?_) rfl (by kernel_rfl) (by kernel_rfl) (by kernel_rfl) (fun _ _ _ h => h) (Or.inl ⟨by rfl, ?_⟩) (by assumption) ?_
        rotate_left
        · (intro w hSw; refine Eq.trans (exec_rne (v := ⟨x.c, x.e, 0⟩) (u := ⟨r.c, r.e, 0⟩) _ _ (by rfl) (by rfl) (by rfl) HM.out) ?_; with_reducible rfl)
        try simp only [Act.put, List.setIfInBounds_toArray, List.set_cons_zero, List.set_cons_succ]
        refine wpAnyH_done (by kernel_rfl) ?_ _
        replace HK := hHeld
        clear hHeld
        go_wp2_with (first | refine wpList_exe (exec_add1 (j := k) _ (by rfl) (by rfl) hk3) (by rfl) ?_)
        refine ⟨⟨k + 1, A1, c1, N, hlt, rfl, rfl, Lib.hid (by rw [HE.out, hN.out]), ?_⟩, by simp [intOf]; omega⟩
        rw [HE.out]
        exact Lib.hid (HK.out.takeL 1)
      · have HE := Lib.hid (Lck.wo_take_in hx hm)
        rw [decide_eq_false hm] at HM
        replace HM := Lib.hid HM
        have HN2 : Hid ((Lck.wo (l.take k) r ++ [x]).length = N + 1) := Lib.hid (by rw [List.length_append, hN.out]; rfl)
        have HL2 := grow_ok (La := rfLay) HN2 (by show (N + 1) * 24 ≤ _; omega) (by omega)
        clear hat hx hm
        go_wp2_with (first | refine wpList_exe (exec_lr (x := x) (off := o + k * 3) _ (by rfl) (by rfl) (HX.out _ HK.out.b)) (by rfl) ?_ | (refine wpList_akr HK rfl rfl ?_; intro _ g2 HK'; simp only [List.cons_append, List.nil_append] at HK'; replace HK := HK'; clear HK') | (refine wpList_sr HK 1 rfl _ _ rfl rfl rfl rfl ?_; intro _ HK'; simp only [List.set] at HK'; replace HK := HK'; clear HK'))
        refine wp_region_held_drew (S := (fun W => Hid (Kn w.heap.size w W [(w.heap.size, 24, #[.int .i64 r.c, .int .i64 r.e, .int .i64 r.r]), (g2, 24, #[.int .i64 x.c, .int .i64 x.e, .int .i64 x.r])] [row rfLay (.slice A1 N c1) (Lck.wo (l.take k) r)]))) (by kernel_rfl) ?_ (fun hHeld => ?_)
        · (try dsimp only); exact Lib.hid HK.out.drew
        refine wpAnyH_take (i := 0) (oi := ⟨some 15, _, _, _, _, _⟩) (v := ?_) rfl (by kernel_rfl) (by kernel_rfl) (by kernel_rfl) (fun _ _ _ h => h) (Or.inl ⟨by rfl, ?_⟩) (by assumption) ?_
        rotate_left
        · (intro w hSw; refine Eq.trans (kexec_lr hSw 1 _ (by rfl) (by rfl) (by rfl)) ?_; with_reducible rfl)
        try simp only [Act.put, List.setIfInBounds_toArray, List.set_cons_zero, List.set_cons_succ]
        refine wpAnyH_take (i := 2) (oi := ⟨some 17, _, _, _, _, _⟩) (v := ?_) rfl (by kernel_rfl) (by kernel_rfl) (by kernel_rfl) (fun _ _ _ h => h) (Or.inl ⟨by rfl, ?_⟩) (by assumption) ?_
        rotate_left
        · (intro w hSw; refine Eq.trans (kexec_lr hSw 0 _ (by rfl) (by rfl) (by rfl)) ?_; with_reducible rfl)
        try simp only [Act.put, List.setIfInBounds_toArray, List.set_cons_zero, List.set_cons_succ]
        refine wpAnyH_ready (rs := [1]) (by kernel_rfl) (by simp) ?_
        refine AllReadyH.cons (o := ⟨some 16, _, _, _, _, _⟩) rfl (fun K hK => ?_) AllReadyH.nil
        go_simp
        go_at_call 21
        refine (HSe.out x _).mono ?_; rintro e w5 ⟨rfl, b5⟩; have hs := Lib.hid (hHeld.out.call b5); clear b5
        refine hK.out _ _ hs (fun hHeld => ?_)
        clear hK K
        try simp only [Act.put, List.setIfInBounds_toArray, List.set_cons_zero, List.set_cons_succ]
        refine wpAnyH_ready (rs := [3]) (by kernel_rfl) (by simp) ?_
        refine AllReadyH.cons (o := ⟨some 18, _, _, _, _, _⟩) rfl (fun K hK => ?_) AllReadyH.nil
        go_simp
        go_at_call 21
        refine (HSe.out r _).mono ?_; rintro e w5 ⟨rfl, b5⟩; have hs := Lib.hid (hHeld.out.call b5); clear b5
        refine hK.out _ _ hs (fun hHeld => ?_)
        clear hK K
        try simp only [Act.put, List.setIfInBounds_toArray, List.set_cons_zero, List.set_cons_succ]
        refine wpAnyH_take (i := 4) (oi := ⟨some 19, _, _, _, _, _⟩) (v := ?_) rfl (by kernel_rfl) (by kernel_rfl) (by kernel_rfl) (fun _ _ _ h => h) (Or.inl ⟨by rfl, ?_⟩) (by assumption) ?_
        rotate_left
        · (intro w hSw; refine Eq.trans (exec_rne (v := ⟨x.c, x.e, 0⟩) (u := ⟨r.c, r.e, 0⟩) _ _ (by rfl) (by rfl) (by rfl) HM.out) ?_; with_reducible rfl)
        try simp only [Act.put, List.setIfInBounds_toArray, List.set_cons_zero, List.set_cons_succ]
        refine wpAnyH_done (by kernel_rfl) ?_ _
        replace HK := hHeld
        clear hHeld
        go_wp2_with (first | refine wpList_exe (kexec_lr HK 1 _ (by rfl) (by rfl) (by rfl)) (by rfl) ?_ | (refine wpList_mk1 rfLay (p := x) HK (by decide) rfl _ rfl rfl rfl ?_; intro _ g5 HK'; simp only [List.cons_append, List.nil_append] at HK'; have HR := Lib.hid (HK'.out.own 1 rfl).rd; replace HK := HK'; clear HK') | (at_builtin; refine wpList_kmore HK rfLay 0 rfl _ _ rfl rfl rfl [x] rfl rfl HR HL2 (N := N + 1) HN2 ?_; intro A4 c4 _ HK'; simp only [List.set] at HK'; replace HK := HK'; clear HK') | refine wpList_exe (exec_add1 (j := k) _ (by rfl) (by rfl) hk3) (by rfl) ?_)
        refine ⟨⟨k + 1, A4, c4, N + 1, hlt, rfl, rfl, Lib.hid (by rw [HE.out, HN2.out]), ?_⟩, by simp [intOf]; omega⟩
        rw [HE.out]
        exact Lib.hid ((HK.out.takeL 1).takeR 1)
    · obtain rfl : k = n := by omega
      rw [HTake.out] at HK
      go_wp2_with fail
      go_ret
      exact ⟨A1, _, c1, rfl, HK.out.own 0 rfl, HK.out.b⟩
end Go.Proofs.Ytahmcgnlpogfaaa
