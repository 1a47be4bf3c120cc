/-
  What the program's Wait and Drop return.
  No condition but what the slice reads as.
-/
import Derived.Test.YtbdfmfegmfmghaaGateParts
import Derived.Test.YtbdfmfegmfmghaaRfConcat
set_option linter.unusedSimpArgs false
set_option linter.unusedVariables false
namespace Go.Proofs.Ytbdfmfegmfmghaa
open Go.RowKit

/-- Who waits then, and who goes through, each new and apart; an error. -/
def IsWt (r s : List Rf) (x : Int) (w : World) (e : Ending) (w' : World) : Prop := ∃ A n c B k d, e = .returned (.tuple #[.slice A n c, .slice B k d, .int .i64 x]) ∧ (∀ (b0 : Nat) (w0 : World) L R, Kn b0 w0 w L R → Kn b0 w0 w' L (R ++ [row rfLay (.slice A n c) r, row rfLay (.slice B k d) s])) ∧ Below w.heap.size w w'
theorem two_left {w w' : World} {A : Option Addr} {n c : Nat} {r : List Rf} (ho : rfLay.Own w.heap.size w' (.slice A n c) r) (hb : Below w.heap.size w w') : ∀ (b0 : Nat) (w0 : World) L R, Kn b0 w0 w L R → Kn b0 w0 w' L (R ++ [row rfLay (.slice A n c) r, row rfLay (.slice none 0 0) []]) := fun b0 w0 L R h => by
  have h2 := (h.called hb ho).nilR rfLay
  rw [List.append_assoc] at h2
  exact h2
theorem two_right {w w' : World} {A : Option Addr} {n c : Nat} {r : List Rf} (ho : rfLay.Own w.heap.size w' (.slice A n c) r) (hb : Below w.heap.size w w') : ∀ (b0 : Nat) (w0 : World) L R, Kn b0 w0 w L R → Kn b0 w0 w' L (R ++ [row rfLay (.slice none 0 0) [], row rfLay (.slice A n c) r]) := fun b0 w0 L R h => by
  have h2 := (h.nilR rfLay).called hb ho
  rw [List.append_assoc] at h2
  exact h2
set_option maxRecDepth 100000 in
set_option maxHeartbeats 12800000 in
theorem gwait_any (m : Int) (A : Option Addr) (c n : Nat) (l : List Rf) (r : Rf) (w : World) (hs : Sls rfLay rF w A n c l) :
    Calls Try.prog 6 #[.int .i64 m, .slice A n c, .agg #[.int .i64 r.c, .int .i64 r.e, .int .i64 r.r]] w (IsWt (Gt.wtL m l r) (Gt.wtA m l r) (Gt.wtE m l r) w) := by
  have HM := Lib.hid (fun W (hW : Below w.heap.size w W) => gright_any m A c n l W (hs.later hW))
  have HC := Lib.hid (fun W => cmr_any r W)
  have HAs := Lib.hid (fun W (hW : Below w.heap.size w W) => waits_any A c n l r.c W (hs.later hW))
  have HS := Lib.hid hs
  have HJ := Lib.hid rconcat_any
  have hlen := hs.len
  have HK := kn1 w 24 #[.int .i64 r.c, .int .i64 r.e, .int .i64 r.r]
  unfold IsB IsWt at *
  by_cases hr : Gt.Right m l
  case neg =>
    rw [decide_eq_false hr] at HM
    obtain ⟨e1, e2, e3⟩ := Gt.wt_bad (r := r) (fun h => hr h.1)
    rw [e1, e2, e3]
    clear e1 e2 e3 hr hs hlen HC HAs
    go_enter Try.func6, Try.ntmps6
    go_wp2_with fail
    refine (HM.out _ HK.out.b).mono ?_; rintro e w1 ⟨rfl, b1⟩
    replace HK := Lib.hid (HK.out.call b1); clear b1
    go_wp2_with (first | (refine wpList_mks1 rfLay rfNest HK rfl _ rfl rfl ?_; intro w2 g7 HK' _; simp only [List.cons_append, List.nil_append] at HK'; replace HK := HK'; clear HK'))
    refine (HJ.out.one HK 1 rfl (HS.out.later HK.out.b)).mono ?_; rintro e w3 ⟨A4, n4, c4, rfl, o4, b4⟩; replace HK := Lib.hid (HK.out.called b4 o4); simp only [List.nil_append] at HK; clear o4 b4
    go_wp2_with fail
    exact ret_t3 Try.results6 rfl rfl rfl rfl ⟨A4, n4, c4, none, 0, 0, rfl, two_left (HK.out.own 0 rfl) HK.out.b, HK.out.b⟩
  case pos =>
  rw [decide_eq_true hr] at HM
  by_cases hok : Lck.ok r
  case neg =>
    rw [decide_eq_false hok] at HC
    obtain ⟨e1, e2, e3⟩ := Gt.wt_bad (m := m) (l := l) (r := r) (fun h => hok h.2)
    rw [e1, e2, e3]
    clear e1 e2 e3 hr hok hs hlen HAs
    go_enter Try.func6, Try.ntmps6
    go_wp2_with fail
    refine (HM.out _ HK.out.b).mono ?_; rintro e w1 ⟨rfl, b1⟩
    replace HK := Lib.hid (HK.out.call b1); clear b1
    go_wp2_with (first | refine wpList_exe (kexec_lr HK 0 _ (by rfl) (by rfl) (by rfl)) (by rfl) ?_)
    refine (HC.out _).mono ?_; rintro e w1 ⟨rfl, b1⟩
    replace HK := Lib.hid (HK.out.call b1); clear b1
    go_wp2_with (first | (refine wpList_mks1 rfLay rfNest HK rfl _ rfl rfl ?_; intro w2 g7 HK' _; simp only [List.cons_append, List.nil_append] at HK'; replace HK := HK'; clear HK'))
    refine (HJ.out.one HK 1 rfl (HS.out.later HK.out.b)).mono ?_; rintro e w3 ⟨A4, n4, c4, rfl, o4, b4⟩; replace HK := Lib.hid (HK.out.called b4 o4); simp only [List.nil_append] at HK; clear o4 b4
    go_wp2_with fail
    exact ret_t3 Try.results6 rfl rfl rfl rfl ⟨A4, n4, c4, none, 0, 0, rfl, two_left (HK.out.own 0 rfl) HK.out.b, HK.out.b⟩
  case pos =>
  rw [decide_eq_true hok] at HC
  by_cases ha : Lck.asked l r.c = true
  · rw [ha] at HAs
    obtain ⟨e1, e2, e3⟩ := Gt.wt_held hr hok ha
    rw [e1, e2, e3]
    clear e1 e2 e3 hr hok hs hlen ha
    go_enter Try.func6, Try.ntmps6
    go_wp2_with fail
    refine (HM.out _ HK.out.b).mono ?_; rintro e w1 ⟨rfl, b1⟩
    replace HK := Lib.hid (HK.out.call b1); clear b1
    go_wp2_with (first | refine wpList_exe (kexec_lr HK 0 _ (by rfl) (by rfl) (by rfl)) (by rfl) ?_)
    refine (HC.out _).mono ?_; rintro e w1 ⟨rfl, b1⟩
    replace HK := Lib.hid (HK.out.call b1); clear b1
    go_wp2_with (first | refine wpList_exe (kexec_lc0 HK 0 _ (by rfl) (by rfl) (by rfl)) (by rfl) ?_)
    refine (HAs.out _ HK.out.b).mono ?_; rintro e w1 ⟨rfl, b1⟩
    replace HK := Lib.hid (HK.out.call b1); clear b1
    go_wp2_with (first | (refine wpList_mks1 rfLay rfNest HK rfl _ rfl rfl ?_; intro w2 g7 HK' _; simp only [List.cons_append, List.nil_append] at HK'; replace HK := HK'; clear HK'))
    refine (HJ.out.one HK 1 rfl (HS.out.later HK.out.b)).mono ?_; rintro e w3 ⟨A4, n4, c4, rfl, o4, b4⟩; replace HK := Lib.hid (HK.out.called b4 o4); simp only [List.nil_append] at HK; clear o4 b4
    go_wp2_with fail
    exact ret_t3 Try.results6 rfl rfl rfl rfl ⟨A4, n4, c4, none, 0, 0, rfl, two_left (HK.out.own 0 rfl) HK.out.b, HK.out.b⟩
  · have ha2 : Lck.asked l r.c = false := Bool.eq_false_iff.2 ha
    rw [ha2] at HAs
    have h5 := Lck.right_len hr.2.2.2
    have HF := Lib.hid (fits_one r)
    have HLn : Hid ((l ++ [r]).length = n + 1) := Lib.hid (by rw [List.length_append, hlen]; rfl)
    rw [hlen] at h5
    by_cases hfull : (l.length : Int) + 1 = m
    · obtain ⟨e1, e2, e3⟩ := Gt.wt_full hr hok ha2 hfull
      rw [e1, e2, e3]
      have HM4 : Hid (∀ n4 : Nat, n4 = (l ++ [r]).length → ((n4 : Int) == m) = true) := Lib.hid fun n4 h => by
        rw [h, HLn.out, beq_iff_eq, ← hfull, hlen]; omega
      clear e1 e2 e3 hr hok hs hlen ha ha2 hfull HLn
      go_enter Try.func6, Try.ntmps6
      go_wp2_with fail
      refine (HM.out _ HK.out.b).mono ?_; rintro e w1 ⟨rfl, b1⟩
      replace HK := Lib.hid (HK.out.call b1); clear b1
      go_wp2_with (first | refine wpList_exe (kexec_lr HK 0 _ (by rfl) (by rfl) (by rfl)) (by rfl) ?_)
      refine (HC.out _).mono ?_; rintro e w1 ⟨rfl, b1⟩
      replace HK := Lib.hid (HK.out.call b1); clear b1
      go_wp2_with (first | refine wpList_exe (kexec_lc0 HK 0 _ (by rfl) (by rfl) (by rfl)) (by rfl) ?_)
      refine (HAs.out _ HK.out.b).mono ?_; rintro e w1 ⟨rfl, b1⟩
      replace HK := Lib.hid (HK.out.call b1); clear b1
      go_wp2_with (first | refine wpList_exe (kexec_lr HK 0 _ (by rfl) (by rfl) (by rfl)) (by rfl) ?_ | (refine wpList_mk1 rfLay (p := r) HK (by decide) rfl _ rfl rfl rfl ?_; intro _ g5 HK'; simp only [List.cons_append, List.nil_append] at HK'; have HR := Lib.hid (HK'.out.own 0 rfl).rd; replace HK := HK'; clear HK') | (refine wpList_mks2 rfLay rfNest HK rfl _ _ rfl rfl rfl ?_; intro w2 g7 HK' _; simp only [List.cons_append, List.nil_append] at HK'; replace HK := HK'; clear HK'))
      refine (HJ.out.two HK 1 rfl (HS.out.later HK.out.b) (Sls.own (HK.out.own 0 rfl) HF.out) (by show (n + 1) * 24 ≤ _; omega)).mono ?_; rintro e w3 ⟨A4, n4, c4, rfl, o4, b4⟩
      have hz := HM4.out n4 (Lay.Own.reads o4).1
      replace HK := Lib.hid (HK.out.called b4 o4)
      clear o4 b4
      go_wp2_with fail
      exact ret_t3 Try.results6 rfl rfl rfl rfl ⟨none, 0, 0, A4, n4, c4, rfl, two_right (HK.out.own 1 rfl) HK.out.b, HK.out.b⟩
    · obtain ⟨e1, e2, e3⟩ := Gt.wt_more hr hok ha2 hfull
      rw [e1, e2, e3]
      have HM4 : Hid (∀ n4 : Nat, n4 = (l ++ [r]).length → ((n4 : Int) == m) = false) := Lib.hid fun n4 h => by
        rw [h, HLn.out, beq_eq_false_iff_ne]
        intro he
        apply hfull
        rw [← he, hlen]; omega
      clear e1 e2 e3 hr hok hs hlen ha ha2 hfull HLn
      go_enter Try.func6, Try.ntmps6
      go_wp2_with fail
      refine (HM.out _ HK.out.b).mono ?_; rintro e w1 ⟨rfl, b1⟩
      replace HK := Lib.hid (HK.out.call b1); clear b1
      go_wp2_with (first | refine wpList_exe (kexec_lr HK 0 _ (by rfl) (by rfl) (by rfl)) (by rfl) ?_)
      refine (HC.out _).mono ?_; rintro e w1 ⟨rfl, b1⟩
      replace HK := Lib.hid (HK.out.call b1); clear b1
      go_wp2_with (first | refine wpList_exe (kexec_lc0 HK 0 _ (by rfl) (by rfl) (by rfl)) (by rfl) ?_)
      refine (HAs.out _ HK.out.b).mono ?_; rintro e w1 ⟨rfl, b1⟩
      replace HK := Lib.hid (HK.out.call b1); clear b1
      go_wp2_with (first | refine wpList_exe (kexec_lr HK 0 _ (by rfl) (by rfl) (by rfl)) (by rfl) ?_ | (refine wpList_mk1 rfLay (p := r) HK (by decide) rfl _ rfl rfl rfl ?_; intro _ g5 HK'; simp only [List.cons_append, List.nil_append] at HK'; have HR := Lib.hid (HK'.out.own 0 rfl).rd; replace HK := HK'; clear HK') | (refine wpList_mks2 rfLay rfNest HK rfl _ _ rfl rfl rfl ?_; intro w2 g7 HK' _; simp only [List.cons_append, List.nil_append] at HK'; replace HK := HK'; clear HK'))
      refine (HJ.out.two HK 1 rfl (HS.out.later HK.out.b) (Sls.own (HK.out.own 0 rfl) HF.out) (by show (n + 1) * 24 ≤ _; omega)).mono ?_; rintro e w3 ⟨A4, n4, c4, rfl, o4, b4⟩
      have hz := HM4.out n4 (Lay.Own.reads o4).1
      replace HK := Lib.hid (HK.out.called b4 o4)
      clear o4 b4
      go_wp2_with fail
      exact ret_t3 Try.results6 rfl rfl rfl rfl ⟨A4, n4, c4, none, 0, 0, rfl, two_left (HK.out.own 1 rfl) HK.out.b, HK.out.b⟩
set_option maxRecDepth 100000 in
set_option maxHeartbeats 12800000 in
theorem gdrop_any (m : Int) (A : Option Addr) (c n : Nat) (l : List Rf) (r : Rf) (w : World) (hs : Sls rfLay rF w A n c l) :
    Calls Try.prog 8 #[.int .i64 m, .slice A n c, .agg #[.int .i64 r.c, .int .i64 r.e, .int .i64 r.r]] w (IsLg rfLay (Gt.drL m l r) w) := by
  have HM := Lib.hid (fun W (hW : Below w.heap.size w W) => gright_any m A c n l W (hs.later hW))
  have HS := Lib.hid hs
  have HJ := Lib.hid rconcat_any
  have HSe := Lib.hid (fun x W => gsession_any x W)
  have HK := kn1 w 24 #[.int .i64 r.c, .int .i64 r.e, .int .i64 r.r]
  unfold IsB IsLg at *
  by_cases hr : Gt.Right m l
  case neg =>
    rw [decide_eq_false hr] at HM
    rw [Gt.dr_no hr]
    clear hr hs HSe
    go_enter Try.func8, Try.ntmps8
    go_wp2_with fail
    refine (HM.out _ HK.out.b).mono ?_; rintro e w1 ⟨rfl, b1⟩
    replace HK := Lib.hid (HK.out.call b1); clear b1
    go_wp2_with (first | (refine wpList_mks1 rfLay rfNest HK rfl _ rfl rfl ?_; intro w2 g7 HK' _; simp only [List.cons_append, List.nil_append] at HK'; replace HK := HK'; clear HK'))
    refine (HJ.out.one HK 1 rfl (HS.out.later HK.out.b)).mono ?_; rintro e w3 ⟨A4, n4, c4, rfl, o4, b4⟩; replace HK := Lib.hid (HK.out.called b4 o4); simp only [List.nil_append] at HK; clear o4 b4
    go_wp2_with fail
    go_ret
    exact ⟨A4, n4, c4, rfl, HK.out.own 0 rfl, HK.out.b⟩
  case pos =>
  rw [decide_eq_true hr] at HM
  rw [Gt.dr_yes hr]
  have hbig : n * 24 ≤ 140737488355328 := hs.big
  have hn63 : n < 9223372036854775807 := by omega
  have HTake : Hid (l.take n = l) := Lib.hid (by rw [← hs.len]; exact List.take_length)
  have HTl : Hid (∀ k, k ≤ n → (Lck.wo (l.take k) r).length ≤ k) := Lib.hid fun k hk => Nat.le_trans (Lck.wo_le _ _) (by rw [List.length_take]; omega)
  clear hs hr HJ
  go_enter Try.func8, Try.ntmps8
  go_wp2_with fail
  refine (HM.out _ HK.out.b).mono ?_; rintro e w1 ⟨rfl, b1⟩
  replace HK := Lib.hid (HK.out.call b1); clear b1
  clear HM
  go_wp2_with (first | (refine wpList_mk0 rfLay HK rfl rfl ?_; intro _ g2 HK'; simp only [List.nil_append] at HK'; replace HK := HK'; clear HK'))
  go_loopw [7, 20] (fun vs vi wr => ∃ (k : Nat) (A1 : Option Addr) (c1 N : Nat), k ≤ n ∧ vs = .slice A1 N c1 ∧ vi = .int .i64 k ∧ Hid ((Lck.wo (l.take k) r).length = N) ∧ Hid (Kn w.heap.size w wr [(w.heap.size, 24, #[.int .i64 r.c, .int .i64 r.e, .int .i64 r.r])] [row rfLay (.slice A1 N c1) (Lck.wo (l.take k) r)])) (fun _ vi _ => n - (intOf vi).toNat)
  case atStart => exact ⟨0, _, _, 0, Nat.zero_le _, rfl, rfl, Lib.hid rfl, HK⟩
  case round =>
    clear HK
    obtain ⟨k, A1, c1, N, hk, rfl, rfl, hN, HK⟩ := hrel
    have hk1 : (0 : Int) ≤ (k : Int) := by omega
    by_cases hlt : k < n
    · have hk2 : (k : Int) < (n : Int) := by omega
      have hk3 : k < 9223372036854775807 := by omega
      obtain ⟨x, hx, _⟩ := HS.out.get hlt
      obtain ⟨b, o, rfl, hat⟩ := HS.out.at (Nat.lt_of_le_of_lt (Nat.zero_le _) hlt)
      have HX := Lib.hid (fun W hW => hat W hW k x hx)
      have hNk : N ≤ k := by rw [← hN.out]; exact HTl.out k hk
      have HMi := mine_ne x r
      by_cases hm : Lck.mine x r
      · have HE := Lib.hid (Lck.wo_take_out hx hm)
        rw [decide_eq_true hm] at HMi
        replace HMi := Lib.hid HMi
        clear hat hx hm
        go_wp2_with (first | refine wpList_exe (exec_lr (x := x) (off := o + k * 3) _ (by rfl) (by rfl) (HX.out _ HK.out.b)) (by rfl) ?_ | (refine wpList_akr HK rfl rfl ?_; intro _ g2 HK'; simp only [List.cons_append, List.nil_append] at HK'; replace HK := HK'; clear HK') | (refine wpList_sr HK 1 rfl _ _ rfl rfl rfl rfl ?_; intro _ HK'; simp only [List.set] at HK'; replace HK := HK'; clear HK'))
        refine wp_region_held_drew (S := (fun W => Hid (Kn w.heap.size w W [(w.heap.size, 24, #[.int .i64 r.c, .int .i64 r.e, .int .i64 r.r]), (g2, 24, #[.int .i64 x.c, .int .i64 x.e, .int .i64 x.r])] [row rfLay (.slice A1 N c1) (Lck.wo (l.take k) r)]))) (by kernel_rfl) ?_ (fun hHeld => ?_)
        · (try dsimp only); exact Lib.hid HK.out.drew
        refine wpAnyH_take (i := 0) (oi := ⟨some 24, _, _, _, _, _⟩) (v := ?_) rfl (by kernel_rfl) (by kernel_rfl) (by kernel_rfl) (fun _ _ _ h => h) (Or.inl ⟨by rfl, ?_⟩) (by assumption) ?_
        rotate_left
        · (intro w hSw; refine Eq.trans (kexec_lr hSw 1 _ (by rfl) (by rfl) (by rfl)) ?_; with_reducible rfl)
        try simp only [Act.put, List.setIfInBounds_toArray, List.set_cons_zero, List.set_cons_succ]
        refine wpAnyH_take (i := 2) (oi := ⟨some 26, _, _, _, _, _⟩) (v := ?_) rfl (by kernel_rfl) (by kernel_rfl) (by kernel_rfl) (fun _ _ _ h => h) (Or.inl ⟨by rfl, ?_⟩) (by assumption) ?_
        rotate_left
        · (intro w hSw; refine Eq.trans (kexec_lr hSw 0 _ (by rfl) (by rfl) (by rfl)) ?_; with_reducible rfl)
        try simp only [Act.put, List.setIfInBounds_toArray, List.set_cons_zero, List.set_cons_succ]
        refine wpAnyH_ready (rs := [1]) (by kernel_rfl) (by simp) ?_
        refine AllReadyH.cons (o := ⟨some 25, _, _, _, _, _⟩) rfl (fun K hK => ?_) AllReadyH.nil
        go_simp
        go_at_call 18
        refine (HSe.out x _).mono ?_; rintro e w5 ⟨rfl, b5⟩; have hs := Lib.hid (hHeld.out.call b5); clear b5
        refine hK.out _ _ hs (fun hHeld => ?_)
        clear hK K
        try simp only [Act.put, List.setIfInBounds_toArray, List.set_cons_zero, List.set_cons_succ]
        refine wpAnyH_ready (rs := [3]) (by kernel_rfl) (by simp) ?_
        refine AllReadyH.cons (o := ⟨some 27, _, _, _, _, _⟩) rfl (fun K hK => ?_) AllReadyH.nil
        go_simp
        go_at_call 18
        refine (HSe.out r _).mono ?_; rintro e w5 ⟨rfl, b5⟩; have hs := Lib.hid (hHeld.out.call b5); clear b5
        refine hK.out _ _ hs (fun hHeld => ?_)
        clear hK K
        try simp only [Act.put, List.setIfInBounds_toArray, List.set_cons_zero, List.set_cons_succ]
        refine wpAnyH_take (i := 4) (oi := ⟨some 28, _, _, _, _, _⟩) (v := ?_) rfl (by kernel_rfl) (by kernel_rfl) (by kernel_rfl) (fun _ _ _ h => h) (Or.inl ⟨by rfl, ?_⟩) (by assumption) ?_
        rotate_left
        · (intro w hSw; refine Eq.trans (exec_rne (v := ⟨x.c, x.e, 0⟩) (u := ⟨r.c, r.e, 0⟩) _ _ (by rfl) (by rfl) (by rfl) HMi.out) ?_; with_reducible rfl)
        try simp only [Act.put, List.setIfInBounds_toArray, List.set_cons_zero, List.set_cons_succ]
        refine wpAnyH_done (by kernel_rfl) ?_ _
        replace HK := hHeld
        clear hHeld
        go_wp2_with (first | refine wpList_exe (exec_add1 (j := k) _ (by rfl) (by rfl) hk3) (by rfl) ?_)
        refine ⟨⟨k + 1, A1, c1, N, hlt, rfl, rfl, Lib.hid (by rw [HE.out, hN.out]), ?_⟩, by simp [intOf]; omega⟩
        rw [HE.out]
        exact Lib.hid (HK.out.takeL 1)
      · have HE := Lib.hid (Lck.wo_take_in hx hm)
        rw [decide_eq_false hm] at HMi
        replace HMi := Lib.hid HMi
        have HN2 : Hid ((Lck.wo (l.take k) r ++ [x]).length = N + 1) := Lib.hid (by rw [List.length_append, hN.out]; rfl)
        have HL2 := grow_ok (La := rfLay) HN2 (by show (N + 1) * 24 ≤ _; omega) (by omega)
        clear hat hx hm
        go_wp2_with (first | refine wpList_exe (exec_lr (x := x) (off := o + k * 3) _ (by rfl) (by rfl) (HX.out _ HK.out.b)) (by rfl) ?_ | (refine wpList_akr HK rfl rfl ?_; intro _ g2 HK'; simp only [List.cons_append, List.nil_append] at HK'; replace HK := HK'; clear HK') | (refine wpList_sr HK 1 rfl _ _ rfl rfl rfl rfl ?_; intro _ HK'; simp only [List.set] at HK'; replace HK := HK'; clear HK'))
        refine wp_region_held_drew (S := (fun W => Hid (Kn w.heap.size w W [(w.heap.size, 24, #[.int .i64 r.c, .int .i64 r.e, .int .i64 r.r]), (g2, 24, #[.int .i64 x.c, .int .i64 x.e, .int .i64 x.r])] [row rfLay (.slice A1 N c1) (Lck.wo (l.take k) r)]))) (by kernel_rfl) ?_ (fun hHeld => ?_)
        · (try dsimp only); exact Lib.hid HK.out.drew
        refine wpAnyH_take (i := 0) (oi := ⟨some 24, _, _, _, _, _⟩) (v := ?_) rfl (by kernel_rfl) (by kernel_rfl) (by kernel_rfl) (fun _ _ _ h => h) (Or.inl ⟨by rfl, ?_⟩) (by assumption) ?_
        rotate_left
        · (intro w hSw; refine Eq.trans (kexec_lr hSw 1 _ (by rfl) (by rfl) (by rfl)) ?_; with_reducible rfl)
        try simp only [Act.put, List.setIfInBounds_toArray, List.set_cons_zero, List.set_cons_succ]
        refine wpAnyH_take (i := 2) (oi := ⟨some 26, _, _, _, _, _⟩) (v := ?_) rfl (by kernel_rfl) (by kernel_rfl) (by kernel_rfl) (fun _ _ _ h => h) (Or.inl ⟨by rfl, ?_⟩) (by assumption) ?_
        rotate_left
        · (intro w hSw; refine Eq.trans (kexec_lr hSw 0 _ (by rfl) (by rfl) (by rfl)) ?_; with_reducible rfl)
        try simp only [Act.put, List.setIfInBounds_toArray, List.set_cons_zero, List.set_cons_succ]
        refine wpAnyH_ready (rs := [1]) (by kernel_rfl) (by simp) ?_
        refine AllReadyH.cons (o := ⟨some 25, _, _, _, _, _⟩) rfl (fun K hK => ?_) AllReadyH.nil
        go_simp
        go_at_call 18
        refine (HSe.out x _).mono ?_; rintro e w5 ⟨rfl, b5⟩; have hs := Lib.hid (hHeld.out.call b5); clear b5
        refine hK.out _ _ hs (fun hHeld => ?_)
        clear hK K
        try simp only [Act.put, List.setIfInBounds_toArray, List.set_cons_zero, List.set_cons_succ]
        refine wpAnyH_ready (rs := [3]) (by kernel_rfl) (by simp) ?_
        refine AllReadyH.cons (o := ⟨some 27, _, _, _, _, _⟩) rfl (fun K hK => ?_) AllReadyH.nil
        go_simp
        go_at_call 18
        refine (HSe.out r _).mono ?_; rintro e w5 ⟨rfl, b5⟩; have hs := Lib.hid (hHeld.out.call b5); clear b5
        refine hK.out _ _ hs (fun hHeld => ?_)
        clear hK K
        try simp only [Act.put, List.setIfInBounds_toArray, List.set_cons_zero, List.set_cons_succ]
        refine wpAnyH_take (i := 4) (oi := ⟨some 28, _, _, _, _, _⟩) (v := ?_) rfl (by kernel_rfl) (by kernel_rfl) (by kernel_rfl) (fun _ _ _ h => h) (Or.inl ⟨by rfl, ?_⟩) (by assumption) ?_
        rotate_left
        · (intro w hSw; refine Eq.trans (exec_rne (v := ⟨x.c, x.e, 0⟩) (u := ⟨r.c, r.e, 0⟩) _ _ (by rfl) (by rfl) (by rfl) HMi.out) ?_; with_reducible rfl)
        try simp only [Act.put, List.setIfInBounds_toArray, List.set_cons_zero, List.set_cons_succ]
        refine wpAnyH_done (by kernel_rfl) ?_ _
        replace HK := hHeld
        clear hHeld
        go_wp2_with (first | refine wpList_exe (kexec_lr HK 1 _ (by rfl) (by rfl) (by rfl)) (by rfl) ?_ | (refine wpList_mk1 rfLay (p := x) HK (by decide) rfl _ rfl rfl rfl ?_; intro _ g5 HK'; simp only [List.cons_append, List.nil_append] at HK'; have HR := Lib.hid (HK'.out.own 1 rfl).rd; replace HK := HK'; clear HK') | (at_builtin; refine wpList_kmore HK rfLay 0 rfl _ _ rfl rfl rfl [x] rfl rfl HR HL2 (N := N + 1) HN2 ?_; intro A4 c4 _ HK'; simp only [List.set] at HK'; replace HK := HK'; clear HK') | refine wpList_exe (exec_add1 (j := k) _ (by rfl) (by rfl) hk3) (by rfl) ?_)
        refine ⟨⟨k + 1, A4, c4, N + 1, hlt, rfl, rfl, Lib.hid (by rw [HE.out, HN2.out]), ?_⟩, by simp [intOf]; omega⟩
        rw [HE.out]
        exact Lib.hid ((HK.out.takeL 1).takeR 1)
    · obtain rfl : k = n := by omega
      rw [HTake.out] at HK
      go_wp2_with fail
      go_ret
      exact ⟨A1, _, c1, rfl, HK.out.own 0 rfl, HK.out.b⟩
end Go.Proofs.Ytbdfmfegmfmghaa
