/-
  What the program's Take, Free and Drop return.
  No condition but what the slice reads as.
-/
import Derived.Test.YtahmcgnlpogfaaaLockRight
import Derived.Test.YtahmcgnlpogfaaaRfConcat
set_option linter.unusedSimpArgs false
set_option linter.unusedVariables false
namespace Go.Proofs.Ytahmcgnlpogfaaa
open Go.RowKit

/-- A new lock told, whether it is had, and an error. -/
def IsTk (r : List Rf) (h : Bool) (x : Int) (w : World) (e : Ending) (w' : World) : Prop := ∃ A n c, e = .returned (.tuple #[.slice A n c, .bool h, .int .i64 x]) ∧ rfLay.Own w.heap.size w' (.slice A n c) r ∧ Below w.heap.size w w'
/-- A new lock told, who holds it, whether somebody does, and an error; the same without the error. -/
def IsFr (r : List Rf) (y : Rf) (h : Bool) (x : Int) (w : World) (e : Ending) (w' : World) : Prop := ∃ A n c, e = .returned (.tuple #[.slice A n c, .agg #[.int .i64 y.c, .int .i64 y.e, .int .i64 y.r], .bool h, .int .i64 x]) ∧ rfLay.Own w.heap.size w' (.slice A n c) r ∧ Below w.heap.size w w'
def IsDr (r : List Rf) (y : Rf) (h : Bool) (w : World) (e : Ending) (w' : World) : Prop := ∃ A n c, e = .returned (.tuple #[.slice A n c, .agg #[.int .i64 y.c, .int .i64 y.e, .int .i64 y.r], .bool h]) ∧ rfLay.Own w.heap.size w' (.slice A n c) r ∧ Below w.heap.size w w'
theorem fits_one (r : Rf) : Fits rfLay rF [r] := ⟨fun x hx => trivial, by show 1 * 24 ≤ _; decide⟩
set_option maxRecDepth 100000 in
set_option maxHeartbeats 12800000 in
theorem ltake_any (A : Option Addr) (c n : Nat) (l : List Rf) (r : Rf) (w : World) (hs : Sls rfLay rF w A n c l) :
    Calls Try.prog 7 #[.slice A n c, .agg #[.int .i64 r.c, .int .i64 r.e, .int .i64 r.r]] w (IsTk (Lck.tkL l r) (Lck.tkH l r) (Lck.tkE l r) w) := by
  have HM := Lib.hid (fun W (hW : Below w.heap.size w W) => lright_any A c n l W (hs.later hW))
  have HC := Lib.hid (fun W => cmr_any r W)
  have HAs := Lib.hid (fun W (hW : Below w.heap.size w W) => asked_any A c n l r.c W (hs.later hW))
  have HS := Lib.hid hs
  have HJ := Lib.hid rconcat_any
  have hlen := hs.len
  have HK := kn1 w 24 #[.int .i64 r.c, .int .i64 r.e, .int .i64 r.r]
  unfold IsB IsTk at *
  by_cases hr : Lck.Right l
  case neg =>
    rw [decide_eq_false hr] at HM
    obtain ⟨e1, e2, e3⟩ := Lck.tk_bad (r := r) (fun h => hr h.1)
    rw [e1, e2, e3]
    clear e1 e2 e3 hr hs hlen HC HAs
    go_enter Try.func7, Try.ntmps7
    go_wp2_with fail
    refine (HM.out _ HK.out.b).mono ?_; rintro e w1 ⟨rfl, b1⟩
    replace HK := Lib.hid (HK.out.call b1); clear b1
    go_wp2_with (first | (refine wpList_mks1 rfLay rfNest HK rfl _ rfl rfl ?_; intro w2 g7 HK' _; simp only [List.cons_append, List.nil_append] at HK'; replace HK := HK'; clear HK'))
    refine (HJ.out.one HK 1 rfl (HS.out.later HK.out.b)).mono ?_; rintro e w3 ⟨A4, n4, c4, rfl, o4, b4⟩; replace HK := Lib.hid (HK.out.called b4 o4); simp only [List.nil_append] at HK; clear o4 b4
    go_wp2_with fail
    exact ret_t3 Try.results7 rfl rfl rfl rfl ⟨A4, n4, c4, rfl, HK.out.own 0 rfl, HK.out.b⟩
  case pos =>
  rw [decide_eq_true hr] at HM
  by_cases hok : Lck.ok r
  case neg =>
    rw [decide_eq_false hok] at HC
    obtain ⟨e1, e2, e3⟩ := Lck.tk_bad (l := l) (r := r) (fun h => hok h.2)
    rw [e1, e2, e3]
    clear e1 e2 e3 hr hok hs hlen HAs
    go_enter Try.func7, Try.ntmps7
    go_wp2_with fail
    refine (HM.out _ HK.out.b).mono ?_; rintro e w1 ⟨rfl, b1⟩
    replace HK := Lib.hid (HK.out.call b1); clear b1
    go_wp2_with (first | refine wpList_exe (kexec_lr HK 0 _ (by rfl) (by rfl) (by rfl)) (by rfl) ?_)
    refine (HC.out _).mono ?_; rintro e w1 ⟨rfl, b1⟩
    replace HK := Lib.hid (HK.out.call b1); clear b1
    go_wp2_with (first | (refine wpList_mks1 rfLay rfNest HK rfl _ rfl rfl ?_; intro w2 g7 HK' _; simp only [List.cons_append, List.nil_append] at HK'; replace HK := HK'; clear HK'))
    refine (HJ.out.one HK 1 rfl (HS.out.later HK.out.b)).mono ?_; rintro e w3 ⟨A4, n4, c4, rfl, o4, b4⟩; replace HK := Lib.hid (HK.out.called b4 o4); simp only [List.nil_append] at HK; clear o4 b4
    go_wp2_with fail
    exact ret_t3 Try.results7 rfl rfl rfl rfl ⟨A4, n4, c4, rfl, HK.out.own 0 rfl, HK.out.b⟩
  case pos =>
  rw [decide_eq_true hok] at HC
  by_cases ha : Lck.asked l r.c = true
  · rw [ha] at HAs
    obtain ⟨e1, e2, e3⟩ := Lck.tk_held hr hok ha
    rw [e1, e2, e3]
    clear e1 e2 e3 hr hok hs hlen ha
    go_enter Try.func7, Try.ntmps7
    go_wp2_with fail
    refine (HM.out _ HK.out.b).mono ?_; rintro e w1 ⟨rfl, b1⟩
    replace HK := Lib.hid (HK.out.call b1); clear b1
    go_wp2_with (first | refine wpList_exe (kexec_lr HK 0 _ (by rfl) (by rfl) (by rfl)) (by rfl) ?_)
    refine (HC.out _).mono ?_; rintro e w1 ⟨rfl, b1⟩
    replace HK := Lib.hid (HK.out.call b1); clear b1
    go_wp2_with (first | refine wpList_exe (kexec_lc0 HK 0 _ (by rfl) (by rfl) (by rfl)) (by rfl) ?_)
    refine (HAs.out _ HK.out.b).mono ?_; rintro e w1 ⟨rfl, b1⟩
    replace HK := Lib.hid (HK.out.call b1); clear b1
    go_wp2_with (first | (refine wpList_mks1 rfLay rfNest HK rfl _ rfl rfl ?_; intro w2 g7 HK' _; simp only [List.cons_append, List.nil_append] at HK'; replace HK := HK'; clear HK'))
    refine (HJ.out.one HK 1 rfl (HS.out.later HK.out.b)).mono ?_; rintro e w3 ⟨A4, n4, c4, rfl, o4, b4⟩; replace HK := Lib.hid (HK.out.called b4 o4); simp only [List.nil_append] at HK; clear o4 b4
    go_wp2_with fail
    exact ret_t3 Try.results7 rfl rfl rfl rfl ⟨A4, n4, c4, rfl, HK.out.own 0 rfl, HK.out.b⟩
  · have ha2 : Lck.asked l r.c = false := Bool.eq_false_iff.2 ha
    rw [ha2] at HAs
    obtain ⟨e1, e2, e3⟩ := Lck.tk_ok hr hok ha2
    have h5 := Lck.right_len hr
    rw [hlen] at h5 e3
    rw [e1, e2, e3]
    have HF := Lib.hid (fits_one r)
    have hcase : n = 0 ∨ ¬ n = 0 := by omega
    clear e1 e2 e3 hr hok hs hlen ha ha2
    rcases hcase with h0 | h0
    · have hz : ((n : Int) == 0) = true := by simpa using h0
      rw [decide_eq_true h0]
      clear h0
      go_enter Try.func7, Try.ntmps7
      go_wp2_with fail
      refine (HM.out _ HK.out.b).mono ?_; rintro e w1 ⟨rfl, b1⟩
      replace HK := Lib.hid (HK.out.call b1); clear b1
      go_wp2_with (first | refine wpList_exe (kexec_lr HK 0 _ (by rfl) (by rfl) (by rfl)) (by rfl) ?_)
      refine (HC.out _).mono ?_; rintro e w1 ⟨rfl, b1⟩
      replace HK := Lib.hid (HK.out.call b1); clear b1
      go_wp2_with (first | refine wpList_exe (kexec_lc0 HK 0 _ (by rfl) (by rfl) (by rfl)) (by rfl) ?_)
      refine (HAs.out _ HK.out.b).mono ?_; rintro e w1 ⟨rfl, b1⟩
      replace HK := Lib.hid (HK.out.call b1); clear b1
      go_wp2_with (first | refine wpList_exe (kexec_lr HK 0 _ (by rfl) (by rfl) (by rfl)) (by rfl) ?_ | (refine wpList_mk1 rfLay (p := r) HK (by decide) rfl _ rfl rfl rfl ?_; intro _ g5 HK'; simp only [List.cons_append, List.nil_append] at HK'; have HR := Lib.hid (HK'.out.own 0 rfl).rd; replace HK := HK'; clear HK') | (refine wpList_mks2 rfLay rfNest HK rfl _ _ rfl rfl rfl ?_; intro w2 g7 HK' _; simp only [List.cons_append, List.nil_append] at HK'; replace HK := HK'; clear HK'))
      refine (HJ.out.two HK 1 rfl (HS.out.later HK.out.b) (Sls.own (HK.out.own 0 rfl) HF.out) (by show (n + 1) * 24 ≤ _; omega)).mono ?_; rintro e w3 ⟨A4, n4, c4, rfl, o4, b4⟩
      replace HK := Lib.hid (HK.out.called b4 o4)
      clear o4 b4
      go_wp2_with fail
      exact ret_t3 Try.results7 rfl rfl rfl rfl ⟨A4, n4, c4, rfl, HK.out.own 1 rfl, HK.out.b⟩
    · have hz : ((n : Int) == 0) = false := by simpa using h0
      rw [decide_eq_false h0]
      clear h0
      go_enter Try.func7, Try.ntmps7
      go_wp2_with fail
      refine (HM.out _ HK.out.b).mono ?_; rintro e w1 ⟨rfl, b1⟩
      replace HK := Lib.hid (HK.out.call b1); clear b1
      go_wp2_with (first | refine wpList_exe (kexec_lr HK 0 _ (by rfl) (by rfl) (by rfl)) (by rfl) ?_)
      refine (HC.out _).mono ?_; rintro e w1 ⟨rfl, b1⟩
      replace HK := Lib.hid (HK.out.call b1); clear b1
      go_wp2_with (first | refine wpList_exe (kexec_lc0 HK 0 _ (by rfl) (by rfl) (by rfl)) (by rfl) ?_)
      refine (HAs.out _ HK.out.b).mono ?_; rintro e w1 ⟨rfl, b1⟩
      replace HK := Lib.hid (HK.out.call b1); clear b1
      go_wp2_with (first | refine wpList_exe (kexec_lr HK 0 _ (by rfl) (by rfl) (by rfl)) (by rfl) ?_ | (refine wpList_mk1 rfLay (p := r) HK (by decide) rfl _ rfl rfl rfl ?_; intro _ g5 HK'; simp only [List.cons_append, List.nil_append] at HK'; have HR := Lib.hid (HK'.out.own 0 rfl).rd; replace HK := HK'; clear HK') | (refine wpList_mks2 rfLay rfNest HK rfl _ _ rfl rfl rfl ?_; intro w2 g7 HK' _; simp only [List.cons_append, List.nil_append] at HK'; replace HK := HK'; clear HK'))
      refine (HJ.out.two HK 1 rfl (HS.out.later HK.out.b) (Sls.own (HK.out.own 0 rfl) HF.out) (by show (n + 1) * 24 ≤ _; omega)).mono ?_; rintro e w3 ⟨A4, n4, c4, rfl, o4, b4⟩
      replace HK := Lib.hid (HK.out.called b4 o4)
      clear o4 b4
      go_wp2_with fail
      exact ret_t3 Try.results7 rfl rfl rfl rfl ⟨A4, n4, c4, rfl, HK.out.own 1 rfl, HK.out.b⟩
set_option maxRecDepth 100000 in
set_option maxHeartbeats 12800000 in
theorem lfree_any (A : Option Addr) (c n : Nat) (l : List Rf) (r : Rf) (w : World) (hs : Sls rfLay rF w A n c l) :
    Calls Try.prog 9 #[.slice A n c, .agg #[.int .i64 r.c, .int .i64 r.e, .int .i64 r.r]] w (IsFr (Lck.frL l r) (Lck.frN l r) (Lck.frS l r) (Lck.frE l r) w) := by
  have HM := Lib.hid (fun W (hW : Below w.heap.size w W) => lright_any A c n l W (hs.later hW))
  have HSe := Lib.hid (fun x W => session_any x W)
  have HS := Lib.hid hs
  have HJ := Lib.hid rconcat_any
  have hlen := hs.len
  have HK := kn1 w 24 #[.int .i64 r.c, .int .i64 r.e, .int .i64 r.r]
  unfold IsB IsFr at *
  by_cases hr : Lck.Right l
  case neg =>
    rw [decide_eq_false hr] at HM
    obtain ⟨e1, e2, e3, e4⟩ := Lck.fr_bad (r := r) hr
    rw [e1, e2, e3, e4]
    clear e1 e2 e3 e4 hr hs hlen HSe
    go_enter Try.func9, Try.ntmps9
    go_wp2_with (first | (refine wpList_akr HK rfl rfl ?_; intro _ g1 HK'; simp only [List.cons_append, List.nil_append] at HK'; replace HK := HK'; clear HK'))
    refine (HM.out _ HK.out.b).mono ?_; rintro e w1 ⟨rfl, b1⟩
    replace HK := Lib.hid (HK.out.call b1); clear b1
    go_wp2_with (first | (refine wpList_mks1 rfLay rfNest HK rfl _ rfl rfl ?_; intro w2 g7 HK' _; simp only [List.cons_append, List.nil_append] at HK'; replace HK := HK'; clear HK'))
    refine (HJ.out.one HK 2 rfl (HS.out.later HK.out.b)).mono ?_; rintro e w3 ⟨A4, n4, c4, rfl, o4, b4⟩; replace HK := Lib.hid (HK.out.called b4 o4); simp only [List.nil_append] at HK; clear o4 b4
    go_wp2_with (first | (refine wpList_sr HK 1 rfl _ _ rfl rfl rfl rfl ?_; intro _ HK'; simp only [List.set] at HK'; replace HK := HK'; clear HK'))
    exact ret_srbe Try.results9 rfl rfl rfl rfl rfl (HK.out.blk 1 rfl) ⟨A4, n4, c4, rfl, HK.out.own 0 rfl, HK.out.b⟩
  case pos =>
  rw [decide_eq_true hr] at HM
  by_cases h0 : n = 0
  · subst h0
    obtain ⟨e1, e2, e3, e4⟩ := Lck.fr_none (r := r) hr hlen
    rw [e1, e2, e3, e4]
    clear e1 e2 e3 e4 hr hs hlen HSe
    go_enter Try.func9, Try.ntmps9
    go_wp2_with (first | (refine wpList_akr HK rfl rfl ?_; intro _ g1 HK'; simp only [List.cons_append, List.nil_append] at HK'; replace HK := HK'; clear HK'))
    refine (HM.out _ HK.out.b).mono ?_; rintro e w1 ⟨rfl, b1⟩
    replace HK := Lib.hid (HK.out.call b1); clear b1
    go_wp2_with fail
    refine wp_region_held_drew (S := (fun W => Hid (Kn w.heap.size w W [(w.heap.size, 24, #[.int .i64 r.c, .int .i64 r.e, .int .i64 r.r]), (g1, 24, #[.int .i64 0, .int .i64 0, .int .i64 0])] []))) (by kernel_rfl) ?_ (fun hHeld => ?_)
    · (try dsimp only); exact Lib.hid HK.out.drew
    refine wpAnyH_take (i := 0) (oi := ⟨some 20, _, _, _, _, _⟩) (v := ?_) rfl (by kernel_rfl) (by kernel_rfl) (by kernel_rfl) (fun _ _ _ h => h) (Or.inl ⟨by rfl, ?_⟩) (by assumption) ?_
    rotate_left
    · (intro w hSw; (try dsimp only at hSw); go_simp; try with_reducible rfl)
    try simp only [Act.put, List.setIfInBounds_toArray, List.set_cons_zero, List.set_cons_succ]
    refine wpAnyH_take (i := 1) (oi := ⟨some 21, _, _, _, _, _⟩) (v := ?_) rfl (by kernel_rfl) (by kernel_rfl) (by kernel_rfl) (fun _ _ _ h => h) (Or.inl ⟨by rfl, ?_⟩) (by assumption) ?_
    rotate_left
    · (intro w hSw; (try dsimp only at hSw); go_simp; try with_reducible rfl)
    try simp only [Act.put, List.setIfInBounds_toArray, List.set_cons_zero, List.set_cons_succ]
    refine wpAnyH_take (i := 2) (oi := ⟨some 22, _, _, _, _, _⟩) (v := ?_) rfl (by kernel_rfl) (by kernel_rfl) (by kernel_rfl) (fun _ _ _ h => h) (Or.inl ⟨by rfl, ?_⟩) (by assumption) ?_
    rotate_left
    · (intro w hSw; (try dsimp only at hSw); go_simp; try with_reducible rfl)
    try simp only [Act.put, List.setIfInBounds_toArray, List.set_cons_zero, List.set_cons_succ]
    refine wpAnyH_take (i := 3) (oi := ⟨some 23, _, _, _, _, _⟩) (v := ?_) rfl (by kernel_rfl) (by kernel_rfl) (by kernel_rfl) (fun _ _ _ h => h) (Or.inl ⟨by rfl, ?_⟩) (by assumption) ?_
    rotate_left
    · (intro w hSw; (try dsimp only at hSw); go_simp; try with_reducible rfl)
    try simp only [Act.put, List.setIfInBounds_toArray, List.set_cons_zero, List.set_cons_succ]
    refine wpAnyH_take (i := 4) (oi := ⟨some 24, _, _, _, _, _⟩) (v := undef) rfl (by kernel_rfl) (by kernel_rfl) (by kernel_rfl) (fun _ _ _ h => h) (Or.inr ⟨by rfl, rfl⟩) (by assumption) ?_
    try simp only [Act.put, List.setIfInBounds_toArray, List.set_cons_zero, List.set_cons_succ]
    refine wpAnyH_take (i := 5) (oi := ⟨some 25, _, _, _, _, _⟩) (v := undef) rfl (by kernel_rfl) (by kernel_rfl) (by kernel_rfl) (fun _ _ _ h => h) (Or.inr ⟨by rfl, rfl⟩) (by assumption) ?_
    try simp only [Act.put, List.setIfInBounds_toArray, List.set_cons_zero, List.set_cons_succ]
    refine wpAnyH_take (i := 6) (oi := ⟨some 26, _, _, _, _, _⟩) (v := undef) rfl (by kernel_rfl) (by kernel_rfl) (by kernel_rfl) (fun _ _ _ h => h) (Or.inr ⟨by rfl, rfl⟩) (by assumption) ?_
    try simp only [Act.put, List.setIfInBounds_toArray, List.set_cons_zero, List.set_cons_succ]
    refine wpAnyH_take (i := 7) (oi := ⟨some 27, _, _, _, _, _⟩) (v := undef) rfl (by kernel_rfl) (by kernel_rfl) (by kernel_rfl) (fun _ _ _ h => h) (Or.inr ⟨by rfl, rfl⟩) (by assumption) ?_
    try simp only [Act.put, List.setIfInBounds_toArray, List.set_cons_zero, List.set_cons_succ]
    refine wpAnyH_take (i := 8) (oi := ⟨some 28, _, _, _, _, _⟩) (v := undef) rfl (by kernel_rfl) (by kernel_rfl) (by kernel_rfl) (fun _ _ _ h => h) (Or.inr ⟨by rfl, rfl⟩) (by assumption) ?_
    try simp only [Act.put, List.setIfInBounds_toArray, List.set_cons_zero, List.set_cons_succ]
    refine wpAnyH_take (i := 9) (oi := ⟨some 29, _, _, _, _, _⟩) (v := undef) rfl (by kernel_rfl) (by kernel_rfl) (by kernel_rfl) (fun _ _ _ h => h) (Or.inr ⟨by rfl, rfl⟩) (by assumption) ?_
    try simp only [Act.put, List.setIfInBounds_toArray, List.set_cons_zero, List.set_cons_succ]
    refine wpAnyH_take (i := 10) (oi := ⟨some 30, _, _, _, _, _⟩) (v := undef) rfl (by kernel_rfl) (by kernel_rfl) (by kernel_rfl) (fun _ _ _ h => h) (Or.inr ⟨by rfl, rfl⟩) (by assumption) ?_
    try simp only [Act.put, List.setIfInBounds_toArray, List.set_cons_zero, List.set_cons_succ]
    refine wpAnyH_take (i := 11) (oi := ⟨some 31, _, _, _, _, _⟩) (v := ?_) rfl (by kernel_rfl) (by kernel_rfl) (by kernel_rfl) (fun _ _ _ h => h) (Or.inl ⟨by rfl, ?_⟩) (by assumption) ?_
    rotate_left
    · (intro w hSw; (try dsimp only at hSw); go_simp; try with_reducible rfl)
    try simp only [Act.put, List.setIfInBounds_toArray, List.set_cons_zero, List.set_cons_succ]
    refine wpAnyH_take (i := 12) (oi := ⟨some 19, _, _, _, _, _⟩) (v := ?_) rfl (by kernel_rfl) (by kernel_rfl) (by kernel_rfl) (fun _ _ _ h => h) (Or.inl ⟨by rfl, ?_⟩) (by assumption) ?_
    rotate_left
    · (intro w hSw; (try dsimp only at hSw); go_simp; try with_reducible rfl)
    try simp only [Act.put, List.setIfInBounds_toArray, List.set_cons_zero, List.set_cons_succ]
    refine wpAnyH_done (by kernel_rfl) ?_ _
    replace HK := hHeld
    clear hHeld
    go_wp2_with (first | (refine wpList_mks1 rfLay rfNest HK rfl _ rfl rfl ?_; intro w2 g7 HK' _; simp only [List.cons_append, List.nil_append] at HK'; replace HK := HK'; clear HK'))
    refine (HJ.out.one HK 2 rfl (HS.out.later HK.out.b)).mono ?_; rintro e w3 ⟨A4, n4, c4, rfl, o4, b4⟩; replace HK := Lib.hid (HK.out.called b4 o4); simp only [List.nil_append] at HK; clear o4 b4
    go_wp2_with (first | (refine wpList_sr HK 1 rfl _ _ rfl rfl rfl rfl ?_; intro _ HK'; simp only [List.set] at HK'; replace HK := HK'; clear HK'))
    exact ret_srbe Try.results9 rfl rfl rfl rfl rfl (HK.out.blk 1 rfl) ⟨A4, n4, c4, rfl, HK.out.own 0 rfl, HK.out.b⟩
  · have hpos : 0 < n := by omega
    have hz : ((n : Int) == 0) = false := by simpa using h0
    obtain ⟨x, hx, _⟩ := hs.get hpos
    have HD := Lib.hid (hs.drop (lo := 1) hpos)
    have hlx := List.length_drop (i := 1) (l := l)
    obtain ⟨b, o, rfl, hat⟩ := hs.at hpos
    have HX := Lib.hid (fun W hW => hat W hW 0 x hx)
    have HMi := mine_ne x r
    by_cases hm : Lck.mine x r
    case neg =>
      obtain ⟨e1, e2, e3, e4⟩ := Lck.fr_other hr hx hm
      rw [e1, e2, e3, e4]
      rw [decide_eq_false hm] at HMi
      replace HMi := Lib.hid HMi
      clear e1 e2 e3 e4 hr hs hlen h0 hat hx hm hlx HD
      go_enter Try.func9, Try.ntmps9
      go_wp2_with (first | (refine wpList_akr HK rfl rfl ?_; intro _ g1 HK'; simp only [List.cons_append, List.nil_append] at HK'; replace HK := HK'; clear HK'))
      refine (HM.out _ HK.out.b).mono ?_; rintro e w1 ⟨rfl, b1⟩
      replace HK := Lib.hid (HK.out.call b1); clear b1
      go_wp2_with fail
      refine wp_region_held_drew (S := (fun W => Hid (Kn w.heap.size w W [(w.heap.size, 24, #[.int .i64 r.c, .int .i64 r.e, .int .i64 r.r]), (g1, 24, #[.int .i64 0, .int .i64 0, .int .i64 0])] []))) (by kernel_rfl) ?_ (fun hHeld => ?_)
      · (try dsimp only); exact Lib.hid HK.out.drew
      refine wpAnyH_take (i := 0) (oi := ⟨some 20, _, _, _, _, _⟩) (v := ?_) rfl (by kernel_rfl) (by kernel_rfl) (by kernel_rfl) (fun _ _ _ h => h) (Or.inl ⟨by rfl, ?_⟩) (by assumption) ?_
      rotate_left
      · (intro w hSw; (try dsimp only at hSw); go_simp; try with_reducible rfl)
      try simp only [Act.put, List.setIfInBounds_toArray, List.set_cons_zero, List.set_cons_succ]
      refine wpAnyH_take (i := 1) (oi := ⟨some 21, _, _, _, _, _⟩) (v := ?_) rfl (by kernel_rfl) (by kernel_rfl) (by kernel_rfl) (fun _ _ _ h => h) (Or.inl ⟨by rfl, ?_⟩) (by assumption) ?_
      rotate_left
      · (intro w hSw; (try dsimp only at hSw); go_simp; try with_reducible rfl)
      try simp only [Act.put, List.setIfInBounds_toArray, List.set_cons_zero, List.set_cons_succ]
      refine wpAnyH_take (i := 2) (oi := ⟨some 22, _, _, _, _, _⟩) (v := ?_) rfl (by kernel_rfl) (by kernel_rfl) (by kernel_rfl) (fun _ _ _ h => h) (Or.inl ⟨by rfl, ?_⟩) (by assumption) ?_
      rotate_left
      · (intro w hSw; (try dsimp only at hSw); go_simp; try with_reducible rfl)
      try simp only [Act.put, List.setIfInBounds_toArray, List.set_cons_zero, List.set_cons_succ]
      refine wpAnyH_take (i := 3) (oi := ⟨some 23, _, _, _, _, _⟩) (v := ?_) rfl (by kernel_rfl) (by kernel_rfl) (by kernel_rfl) (fun _ _ _ h => h) (Or.inl ⟨by rfl, ?_⟩) (by assumption) ?_
      rotate_left
      · (intro w hSw; (try dsimp only at hSw); go_simp; try with_reducible rfl)
      try simp only [Act.put, List.setIfInBounds_toArray, List.set_cons_zero, List.set_cons_succ]
      refine wpAnyH_take (i := 4) (oi := ⟨some 24, _, _, _, _, _⟩) (v := ?_) rfl (by kernel_rfl) (by kernel_rfl) (by kernel_rfl) (fun _ _ _ h => h) (Or.inl ⟨by rfl, ?_⟩) (by assumption) ?_
      rotate_left
      · (intro w hSw; (try dsimp only at hSw); go_simp; try with_reducible rfl)
      try simp only [Act.put, List.setIfInBounds_toArray, List.set_cons_zero, List.set_cons_succ]
      refine wpAnyH_take (i := 5) (oi := ⟨some 25, _, _, _, _, _⟩) (v := ?_) rfl (by kernel_rfl) (by kernel_rfl) (by kernel_rfl) (fun _ _ _ h => h) (Or.inl ⟨by rfl, ?_⟩) (by assumption) ?_
      rotate_left
      · (intro w hSw; refine Eq.trans (exec_ixr (i := 0) _ _ (by rfl) (by rfl) (by rfl) hpos) ?_; with_reducible rfl)
      try simp only [Act.put, List.setIfInBounds_toArray, List.set_cons_zero, List.set_cons_succ]
      refine wpAnyH_take (i := 6) (oi := ⟨some 26, _, _, _, _, _⟩) (v := ?_) rfl (by kernel_rfl) (by kernel_rfl) (by kernel_rfl) (fun _ _ _ h => h) (Or.inl ⟨by rfl, ?_⟩) (by assumption) ?_
      rotate_left
      · (intro w hSw; refine Eq.trans (exec_lr (x := x) (off := o + 0 * 3) _ (by rfl) (by rfl) (HX.out _ hSw.out.b)) ?_; with_reducible rfl)
      try simp only [Act.put, List.setIfInBounds_toArray, List.set_cons_zero, List.set_cons_succ]
      refine wpAnyH_take (i := 8) (oi := ⟨some 28, _, _, _, _, _⟩) (v := ?_) rfl (by kernel_rfl) (by kernel_rfl) (by kernel_rfl) (fun _ _ _ h => h) (Or.inl ⟨by rfl, ?_⟩) (by assumption) ?_
      rotate_left
      · (intro w hSw; refine Eq.trans (kexec_lr hSw 0 _ (by rfl) (by rfl) (by rfl)) ?_; with_reducible rfl)
      try simp only [Act.put, List.setIfInBounds_toArray, List.set_cons_zero, List.set_cons_succ]
      refine wpAnyH_ready (rs := [7]) (by kernel_rfl) (by simp) ?_
      refine AllReadyH.cons (o := ⟨some 27, _, _, _, _, _⟩) rfl (fun K hK => ?_) AllReadyH.nil
      go_simp
      go_at_call 21
      refine (HSe.out x _).mono ?_; rintro e w5 ⟨rfl, b5⟩; have hs := Lib.hid (hHeld.out.call b5); clear b5
      refine hK.out _ _ hs (fun hHeld => ?_)
      clear hK K
      try simp only [Act.put, List.setIfInBounds_toArray, List.set_cons_zero, List.set_cons_succ]
      refine wpAnyH_ready (rs := [9]) (by kernel_rfl) (by simp) ?_
      refine AllReadyH.cons (o := ⟨some 29, _, _, _, _, _⟩) rfl (fun K hK => ?_) AllReadyH.nil
      go_simp
      go_at_call 21
      refine (HSe.out r _).mono ?_; rintro e w5 ⟨rfl, b5⟩; have hs := Lib.hid (hHeld.out.call b5); clear b5
      refine hK.out _ _ hs (fun hHeld => ?_)
      clear hK K
      try simp only [Act.put, List.setIfInBounds_toArray, List.set_cons_zero, List.set_cons_succ]
      refine wpAnyH_take (i := 10) (oi := ⟨some 30, _, _, _, _, _⟩) (v := ?_) rfl (by kernel_rfl) (by kernel_rfl) (by kernel_rfl) (fun _ _ _ h => h) (Or.inl ⟨by rfl, ?_⟩) (by assumption) ?_
      rotate_left
      · (intro w hSw; refine Eq.trans (exec_rne (v := ⟨x.c, x.e, 0⟩) (u := ⟨r.c, r.e, 0⟩) _ _ (by rfl) (by rfl) (by rfl) HMi.out) ?_; with_reducible rfl)
      try simp only [Act.put, List.setIfInBounds_toArray, List.set_cons_zero, List.set_cons_succ]
      refine wpAnyH_take (i := 11) (oi := ⟨some 31, _, _, _, _, _⟩) (v := ?_) rfl (by kernel_rfl) (by kernel_rfl) (by kernel_rfl) (fun _ _ _ h => h) (Or.inl ⟨by rfl, ?_⟩) (by assumption) ?_
      rotate_left
      · (intro w hSw; (try dsimp only at hSw); go_simp; try with_reducible rfl)
      try simp only [Act.put, List.setIfInBounds_toArray, List.set_cons_zero, List.set_cons_succ]
      refine wpAnyH_take (i := 12) (oi := ⟨some 19, _, _, _, _, _⟩) (v := ?_) rfl (by kernel_rfl) (by kernel_rfl) (by kernel_rfl) (fun _ _ _ h => h) (Or.inl ⟨by rfl, ?_⟩) (by assumption) ?_
      rotate_left
      · (intro w hSw; (try dsimp only at hSw); go_simp; try with_reducible rfl)
      try simp only [Act.put, List.setIfInBounds_toArray, List.set_cons_zero, List.set_cons_succ]
      refine wpAnyH_done (by kernel_rfl) ?_ _
      replace HK := hHeld
      clear hHeld
      go_wp2_with (first | (refine wpList_mks1 rfLay rfNest HK rfl _ rfl rfl ?_; intro w2 g7 HK' _; simp only [List.cons_append, List.nil_append] at HK'; replace HK := HK'; clear HK'))
      refine (HJ.out.one HK 2 rfl (HS.out.later HK.out.b)).mono ?_; rintro e w3 ⟨A4, n4, c4, rfl, o4, b4⟩; replace HK := Lib.hid (HK.out.called b4 o4); simp only [List.nil_append] at HK; clear o4 b4
      go_wp2_with (first | (refine wpList_sr HK 1 rfl _ _ rfl rfl rfl rfl ?_; intro _ HK'; simp only [List.set] at HK'; replace HK := HK'; clear HK'))
      exact ret_srbe Try.results9 rfl rfl rfl rfl rfl (HK.out.blk 1 rfl) ⟨A4, n4, c4, rfl, HK.out.own 0 rfl, HK.out.b⟩
    case pos =>
    obtain ⟨e1, e2, e3, e4⟩ := Lck.fr_take hr hx hm
    rw [e1, e2, e3, e4]
    rw [decide_eq_true hm] at HMi
    replace HMi := Lib.hid HMi
    have HFd := Lib.hid HD.out.fit
    have HH := Lib.hid (fun W A c n (h : Sls rfLay rF W A n c (l.drop 1)) => holder_any A c n (l.drop 1) W h)
    clear e1 e2 e3 e4 hr hs hlen h0 hat hx hm hlx
    generalize (l.drop 1).headD Lck.zero = y at *
    generalize l.drop 1 = m at *
    go_enter Try.func9, Try.ntmps9
    go_wp2_with (first | (refine wpList_akr HK rfl rfl ?_; intro _ g1 HK'; simp only [List.cons_append, List.nil_append] at HK'; replace HK := HK'; clear HK'))
    refine (HM.out _ HK.out.b).mono ?_; rintro e w1 ⟨rfl, b1⟩
    replace HK := Lib.hid (HK.out.call b1); clear b1
    go_wp2_with fail
    refine wp_region_held_drew (S := (fun W => Hid (Kn w.heap.size w W [(w.heap.size, 24, #[.int .i64 r.c, .int .i64 r.e, .int .i64 r.r]), (g1, 24, #[.int .i64 0, .int .i64 0, .int .i64 0])] []))) (by kernel_rfl) ?_ (fun hHeld => ?_)
    · (try dsimp only); exact Lib.hid HK.out.drew
    refine wpAnyH_take (i := 0) (oi := ⟨some 20, _, _, _, _, _⟩) (v := ?_) rfl (by kernel_rfl) (by kernel_rfl) (by kernel_rfl) (fun _ _ _ h => h) (Or.inl ⟨by rfl, ?_⟩) (by assumption) ?_
    rotate_left
    · (intro w hSw; (try dsimp only at hSw); go_simp; try with_reducible rfl)
    try simp only [Act.put, List.setIfInBounds_toArray, List.set_cons_zero, List.set_cons_succ]
    refine wpAnyH_take (i := 1) (oi := ⟨some 21, _, _, _, _, _⟩) (v := ?_) rfl (by kernel_rfl) (by kernel_rfl) (by kernel_rfl) (fun _ _ _ h => h) (Or.inl ⟨by rfl, ?_⟩) (by assumption) ?_
    rotate_left
    · (intro w hSw; (try dsimp only at hSw); go_simp; try with_reducible rfl)
    try simp only [Act.put, List.setIfInBounds_toArray, List.set_cons_zero, List.set_cons_succ]
    refine wpAnyH_take (i := 2) (oi := ⟨some 22, _, _, _, _, _⟩) (v := ?_) rfl (by kernel_rfl) (by kernel_rfl) (by kernel_rfl) (fun _ _ _ h => h) (Or.inl ⟨by rfl, ?_⟩) (by assumption) ?_
    rotate_left
    · (intro w hSw; (try dsimp only at hSw); go_simp; try with_reducible rfl)
    try simp only [Act.put, List.setIfInBounds_toArray, List.set_cons_zero, List.set_cons_succ]
    refine wpAnyH_take (i := 3) (oi := ⟨some 23, _, _, _, _, _⟩) (v := ?_) rfl (by kernel_rfl) (by kernel_rfl) (by kernel_rfl) (fun _ _ _ h => h) (Or.inl ⟨by rfl, ?_⟩) (by assumption) ?_
    rotate_left
    · (intro w hSw; (try dsimp only at hSw); go_simp; try with_reducible rfl)
    try simp only [Act.put, List.setIfInBounds_toArray, List.set_cons_zero, List.set_cons_succ]
    refine wpAnyH_take (i := 4) (oi := ⟨some 24, _, _, _, _, _⟩) (v := ?_) rfl (by kernel_rfl) (by kernel_rfl) (by kernel_rfl) (fun _ _ _ h => h) (Or.inl ⟨by rfl, ?_⟩) (by assumption) ?_
    rotate_left
    · (intro w hSw; (try dsimp only at hSw); go_simp; try with_reducible rfl)
    try simp only [Act.put, List.setIfInBounds_toArray, List.set_cons_zero, List.set_cons_succ]
    refine wpAnyH_take (i := 5) (oi := ⟨some 25, _, _, _, _, _⟩) (v := ?_) rfl (by kernel_rfl) (by kernel_rfl) (by kernel_rfl) (fun _ _ _ h => h) (Or.inl ⟨by rfl, ?_⟩) (by assumption) ?_
    rotate_left
    · (intro w hSw; refine Eq.trans (exec_ixr (i := 0) _ _ (by rfl) (by rfl) (by rfl) hpos) ?_; with_reducible rfl)
    try simp only [Act.put, List.setIfInBounds_toArray, List.set_cons_zero, List.set_cons_succ]
    refine wpAnyH_take (i := 6) (oi := ⟨some 26, _, _, _, _, _⟩) (v := ?_) rfl (by kernel_rfl) (by kernel_rfl) (by kernel_rfl) (fun _ _ _ h => h) (Or.inl ⟨by rfl, ?_⟩) (by assumption) ?_
    rotate_left
    · (intro w hSw; refine Eq.trans (exec_lr (x := x) (off := o + 0 * 3) _ (by rfl) (by rfl) (HX.out _ hSw.out.b)) ?_; with_reducible rfl)
    try simp only [Act.put, List.setIfInBounds_toArray, List.set_cons_zero, List.set_cons_succ]
    refine wpAnyH_take (i := 8) (oi := ⟨some 28, _, _, _, _, _⟩) (v := ?_) rfl (by kernel_rfl) (by kernel_rfl) (by kernel_rfl) (fun _ _ _ h => h) (Or.inl ⟨by rfl, ?_⟩) (by assumption) ?_
    rotate_left
    · (intro w hSw; refine Eq.trans (kexec_lr hSw 0 _ (by rfl) (by rfl) (by rfl)) ?_; with_reducible rfl)
    try simp only [Act.put, List.setIfInBounds_toArray, List.set_cons_zero, List.set_cons_succ]
    refine wpAnyH_ready (rs := [7]) (by kernel_rfl) (by simp) ?_
    refine AllReadyH.cons (o := ⟨some 27, _, _, _, _, _⟩) rfl (fun K hK => ?_) AllReadyH.nil
    go_simp
    go_at_call 21
    refine (HSe.out x _).mono ?_; rintro e w5 ⟨rfl, b5⟩; have hs := Lib.hid (hHeld.out.call b5); clear b5
    refine hK.out _ _ hs (fun hHeld => ?_)
    clear hK K
    try simp only [Act.put, List.setIfInBounds_toArray, List.set_cons_zero, List.set_cons_succ]
    refine wpAnyH_ready (rs := [9]) (by kernel_rfl) (by simp) ?_
    refine AllReadyH.cons (o := ⟨some 29, _, _, _, _, _⟩) rfl (fun K hK => ?_) AllReadyH.nil
    go_simp
    go_at_call 21
    refine (HSe.out r _).mono ?_; rintro e w5 ⟨rfl, b5⟩; have hs := Lib.hid (hHeld.out.call b5); clear b5
    refine hK.out _ _ hs (fun hHeld => ?_)
    clear hK K
    try simp only [Act.put, List.setIfInBounds_toArray, List.set_cons_zero, List.set_cons_succ]
    refine wpAnyH_take (i := 10) (oi := ⟨some 30, _, _, _, _, _⟩) (v := ?_) rfl (by kernel_rfl) (by kernel_rfl) (by kernel_rfl) (fun _ _ _ h => h) (Or.inl ⟨by rfl, ?_⟩) (by assumption) ?_
    rotate_left
    · (intro w hSw; refine Eq.trans (exec_rne (v := ⟨x.c, x.e, 0⟩) (u := ⟨r.c, r.e, 0⟩) _ _ (by rfl) (by rfl) (by rfl) HMi.out) ?_; with_reducible rfl)
    try simp only [Act.put, List.setIfInBounds_toArray, List.set_cons_zero, List.set_cons_succ]
    refine wpAnyH_take (i := 11) (oi := ⟨some 31, _, _, _, _, _⟩) (v := ?_) rfl (by kernel_rfl) (by kernel_rfl) (by kernel_rfl) (fun _ _ _ h => h) (Or.inl ⟨by rfl, ?_⟩) (by assumption) ?_
    rotate_left
    · (intro w hSw; (try dsimp only at hSw); go_simp; try with_reducible rfl)
    try simp only [Act.put, List.setIfInBounds_toArray, List.set_cons_zero, List.set_cons_succ]
    refine wpAnyH_take (i := 12) (oi := ⟨some 19, _, _, _, _, _⟩) (v := ?_) rfl (by kernel_rfl) (by kernel_rfl) (by kernel_rfl) (fun _ _ _ h => h) (Or.inl ⟨by rfl, ?_⟩) (by assumption) ?_
    rotate_left
    · (intro w hSw; (try dsimp only at hSw); go_simp; try with_reducible rfl)
    try simp only [Act.put, List.setIfInBounds_toArray, List.set_cons_zero, List.set_cons_succ]
    refine wpAnyH_done (by kernel_rfl) ?_ _
    replace HK := hHeld
    clear hHeld
    go_wp2_with (first | refine wpList_exe (exec_srl (lo := 1) _ _ (by rfl) (by rfl) (by rfl) hpos) (by rfl) ?_ | (refine wpList_mks1 rfLay rfNest HK rfl _ rfl rfl ?_; intro w2 g7 HK' _; simp only [List.cons_append, List.nil_append] at HK'; replace HK := HK'; clear HK'))
    refine (HJ.out.one HK 2 rfl (HD.out.later HK.out.b)).mono ?_; rintro e w3 ⟨A4, n4, c4, rfl, o4, b4⟩
    obtain rfl := (Lay.Own.reads o4).1
    replace HK := Lib.hid (HK.out.called b4 o4)
    simp only [List.nil_append] at HK
    clear o4 b4
    go_wp2_with fail
    refine (HH.out _ _ _ _ (Sls.own (HK.out.own 0 rfl) HFd.out)).mono ?_; rintro e w1 ⟨rfl, b1⟩
    replace HK := Lib.hid (HK.out.call b1); clear b1
    go_wp2_with (first | (refine wpList_akr HK rfl rfl ?_; intro _ g9 HK'; simp only [List.cons_append, List.nil_append] at HK'; replace HK := HK'; clear HK') | (refine wpList_sr HK 3 rfl _ _ rfl rfl rfl rfl ?_; intro _ HK'; simp only [List.set] at HK'; replace HK := HK'; clear HK'))
    have HK0 := Lib.hid HK.out.drew
    refine wp_region_held_drew (S := (fun W => Hid (Kn w.heap.size w W [(g9, 24, #[.int .i64 y.c, .int .i64 y.e, .int .i64 y.r])] []))) (by kernel_rfl) ?_ (fun hHeld => ?_)
    · (try dsimp only); exact Lib.hid ((HK0.out.dropL 3).takeR 0)
    refine wpAnyH_take (i := 0) (oi := ⟨some 45, _, _, _, _, _⟩) (v := ?_) rfl (by kernel_rfl) (by kernel_rfl) (by kernel_rfl) (fun _ _ _ h => h) (Or.inl ⟨by rfl, ?_⟩) (by assumption) ?_
    rotate_left
    · (intro w hSw; (try dsimp only at hSw); go_simp; try with_reducible rfl)
    try simp only [Act.put, List.setIfInBounds_toArray, List.set_cons_zero, List.set_cons_succ]
    refine wpAnyH_take (i := 1) (oi := ⟨some 46, _, _, _, _, _⟩) (v := ?_) rfl (by kernel_rfl) (by kernel_rfl) (by kernel_rfl) (fun _ _ _ h => h) (Or.inl ⟨by rfl, ?_⟩) (by assumption) ?_
    rotate_left
    · (intro w hSw; refine Eq.trans (kexec_lr hSw 0 _ (by rfl) (by rfl) (by rfl)) ?_; with_reducible rfl)
    try simp only [Act.put, List.setIfInBounds_toArray, List.set_cons_zero, List.set_cons_succ]
    refine wpAnyH_take (i := 2) (oi := ⟨some 47, _, _, _, _, _⟩) (v := ?_) rfl (by kernel_rfl) (by kernel_rfl) (by kernel_rfl) (fun _ _ _ h => h) (Or.inl ⟨by rfl, ?_⟩) (by assumption) ?_
    rotate_left
    · (intro w hSw; (try dsimp only at hSw); go_simp; try with_reducible rfl)
    try simp only [Act.put, List.setIfInBounds_toArray, List.set_cons_zero, List.set_cons_succ]
    refine wpAnyH_take (i := 3) (oi := ⟨some 4, _, _, _, _, _⟩) (v := ?_) rfl (by kernel_rfl) (by kernel_rfl) (by kernel_rfl) (fun _ _ _ h => h) (Or.inl ⟨by rfl, ?_⟩) (by assumption) ?_
    rotate_left
    · (intro w hSw; (try dsimp only at hSw); go_simp; try with_reducible rfl)
    try simp only [Act.put, List.setIfInBounds_toArray, List.set_cons_zero, List.set_cons_succ]
    refine wpAnyH_ready (rs := [4]) (by kernel_rfl) (by simp) ?_
    refine AllReadyH.cons (o := ⟨none, _, _, _, _, _⟩) rfl (fun K hK => ?_) AllReadyH.nil
    refine step_sr HK0 1 (by rfl) _ _ (by rfl) (by rfl) (by rfl) (by rfl) ?_; intro wq HK'; simp only [List.set] at HK'; replace HK0 := HK'; clear HK'; have hs := Lib.hid ((HK0.out.dropL 3).takeR 0)
    refine hK.out _ _ hs (fun hHeld => ?_)
    clear hK K
    try simp only [Act.put, List.setIfInBounds_toArray, List.set_cons_zero, List.set_cons_succ]
    refine wpAnyH_take (i := 5) (oi := ⟨some 6, _, _, _, _, _⟩) (v := ?_) rfl (by kernel_rfl) (by kernel_rfl) (by kernel_rfl) (fun _ _ _ h => h) (Or.inl ⟨by rfl, ?_⟩) (by assumption) ?_
    rotate_left
    · (intro w hSw; (try dsimp only at hSw); go_simp; try with_reducible rfl)
    try simp only [Act.put, List.setIfInBounds_toArray, List.set_cons_zero, List.set_cons_succ]
    refine wpAnyH_take (i := 6) (oi := ⟨some 7, _, _, _, _, _⟩) (v := ?_) rfl (by kernel_rfl) (by kernel_rfl) (by kernel_rfl) (fun _ _ _ h => h) (Or.inl ⟨by rfl, ?_⟩) (by assumption) ?_
    rotate_left
    · (intro w hSw; (try dsimp only at hSw); go_simp; try with_reducible rfl)
    try simp only [Act.put, List.setIfInBounds_toArray, List.set_cons_zero, List.set_cons_succ]
    refine wpAnyH_done (by kernel_rfl) ?_ _
    all_goals
      go_wp2_with fail
      exact ret_srbe Try.results9 rfl rfl rfl rfl rfl (HK0.out.blk 1 rfl) ⟨A4, _, c4, rfl, HK0.out.own 0 rfl, HK0.out.b⟩
set_option maxRecDepth 100000 in
set_option maxHeartbeats 12800000 in
theorem ldrop_any (A : Option Addr) (c n : Nat) (l : List Rf) (r : Rf) (w : World) (hs : Sls rfLay rF w A n c l) :
    Calls Try.prog 11 #[.slice A n c, .agg #[.int .i64 r.c, .int .i64 r.e, .int .i64 r.r]] w (IsDr (Lck.drL l r) (Lck.drN l r) (Lck.drS l r) w) := by
  have HM := Lib.hid (fun W (hW : Below w.heap.size w W) => lright_any A c n l W (hs.later hW))
  have HWo := Lib.hid (fun W (hW : Below w.heap.size w W) => without_any A c n l r W (hs.later hW))
  have HHl := Lib.hid (fun W (hW : Below w.heap.size w W) => holder_any A c n l W (hs.later hW))
  have HS := Lib.hid hs
  have HJ := Lib.hid rconcat_any
  have hlen := hs.len
  have HFw : Hid (Fits rfLay rF (Lck.wo l r)) := Lib.hid (hs.fit.sub (fun x hx => (List.mem_filter.1 hx).1) (Lck.wo_le l r))
  have HK := kn1 w 24 #[.int .i64 r.c, .int .i64 r.e, .int .i64 r.r]
  unfold IsB IsDr at *
  by_cases hr : Lck.Right l
  case neg =>
    rw [decide_eq_false hr] at HM
    obtain ⟨e1, e2, e3⟩ := Lck.dr_bad (r := r) hr
    rw [e1, e2, e3]
    clear e1 e2 e3 hr hs hlen HWo HHl HFw
    go_enter Try.func11, Try.ntmps11
    go_wp2_with (first | (refine wpList_akr HK rfl rfl ?_; intro _ g1 HK'; simp only [List.cons_append, List.nil_append] at HK'; replace HK := HK'; clear HK'))
    refine (HM.out _ HK.out.b).mono ?_; rintro e w1 ⟨rfl, b1⟩
    replace HK := Lib.hid (HK.out.call b1); clear b1
    go_wp2_with (first | (refine wpList_mks1 rfLay rfNest HK rfl _ rfl rfl ?_; intro w2 g7 HK' _; simp only [List.cons_append, List.nil_append] at HK'; replace HK := HK'; clear HK'))
    refine (HJ.out.one HK 2 rfl (HS.out.later HK.out.b)).mono ?_; rintro e w3 ⟨A4, n4, c4, rfl, o4, b4⟩; replace HK := Lib.hid (HK.out.called b4 o4); simp only [List.nil_append] at HK; clear o4 b4
    go_wp2_with (first | (refine wpList_sr HK 1 rfl _ _ rfl rfl rfl rfl ?_; intro _ HK'; simp only [List.set] at HK'; replace HK := HK'; clear HK'))
    exact ret_srb Try.results11 rfl rfl rfl rfl (HK.out.blk 1 rfl) ⟨A4, n4, c4, rfl, HK.out.own 0 rfl, HK.out.b⟩
  case pos =>
  rw [decide_eq_true hr] at HM
  have HHw := Lib.hid (fun W A c n (h : Sls rfLay rF W A n c (Lck.wo l r)) => holder_any A c n (Lck.wo l r) W h)
  have HNo : Hid ((Lck.wo l r).length = 0 → Lck.drL l r = Lck.wo l r ∧ Lck.drN l r = Lck.zero ∧ Lck.drS l r = false) := Lib.hid (Lck.dr_none hr)
  have HSm : Hid (0 < (Lck.wo l r).length → (Lck.wo l r).headD Lck.zero = l.headD Lck.zero → Lck.drL l r = Lck.wo l r ∧ Lck.drN l r = Lck.zero ∧ Lck.drS l r = false) := Lib.hid fun h1 h2 => by
    obtain ⟨x, hx⟩ := Lay.get_of h1
    obtain ⟨y, hy⟩ := Lck.wo_first hx
    rw [Lck.head_of hx, Lck.head_of hy] at h2
    exact Lck.dr_same hr hx hy h2
  have HNe : Hid (0 < (Lck.wo l r).length → ¬ (Lck.wo l r).headD Lck.zero = l.headD Lck.zero → Lck.drL l r = Lck.wo l r ∧ Lck.drN l r = (Lck.wo l r).headD Lck.zero ∧ Lck.drS l r = true) := Lib.hid fun h1 h2 => by
    obtain ⟨x, hx⟩ := Lay.get_of h1
    obtain ⟨y, hy⟩ := Lck.wo_first hx
    rw [Lck.head_of hx, Lck.head_of hy] at h2
    rw [Lck.head_of hx]
    exact Lck.dr_new hr hx hy h2
  clear hr hs hlen HJ HS
  unfold IsLg at *
  generalize Lck.drL l r = dl at *
  generalize Lck.drN l r = dn at *
  generalize Lck.drS l r = ds at *
  generalize (Lck.wo l r).headD Lck.zero = y at *
  generalize Lck.wo l r = m at *
  generalize l.headD Lck.zero = x at *
  have hcase : m.length = 0 ∨ (0 < m.length ∧ y = x) ∨ (0 < m.length ∧ ¬ y = x) := by
    by_cases h1 : m.length = 0
    · exact .inl h1
    · by_cases h2 : y = x
      · exact .inr (.inl ⟨by omega, h2⟩)
      · exact .inr (.inr ⟨by omega, h2⟩)
  rcases hcase with h0 | ⟨h0, he⟩ | ⟨h0, he⟩
  · obtain ⟨rfl, rfl, rfl⟩ := HNo.out h0
    have h0' : ¬ 0 < dl.length := by omega
    clear HNo HSm HNe h0
    go_enter Try.func11, Try.ntmps11
    go_wp2_with (first | (refine wpList_akr HK rfl rfl ?_; intro _ g1 HK'; simp only [List.cons_append, List.nil_append] at HK'; replace HK := HK'; clear HK'))
    refine (HM.out _ HK.out.b).mono ?_; rintro e w1 ⟨rfl, b1⟩
    replace HK := Lib.hid (HK.out.call b1); clear b1
    go_wp2_with (first | refine wpList_exe (kexec_lr HK 0 _ (by rfl) (by rfl) (by rfl)) (by rfl) ?_)
    refine (HWo.out _ HK.out.b).mono ?_; rintro e w3 ⟨A4, n4, c4, rfl, o4, b4⟩
    obtain rfl := (Lay.Own.reads o4).1
    replace HK := Lib.hid (HK.out.called b4 o4)
    simp only [List.nil_append] at HK
    clear o4 b4
    go_wp2_with fail
    refine (HHl.out _ HK.out.b).mono ?_; rintro e w1 ⟨rfl, b1⟩
    replace HK := Lib.hid (HK.out.call b1); clear b1
    go_wp2_with (first | (refine wpList_akr HK rfl rfl ?_; intro _ g8 HK'; simp only [List.cons_append, List.nil_append] at HK'; replace HK := HK'; clear HK') | (refine wpList_sr HK 2 rfl _ _ rfl rfl rfl rfl ?_; intro _ HK'; simp only [List.set] at HK'; replace HK := HK'; clear HK'))
    refine (HHw.out _ _ _ _ (Sls.own (HK.out.own 0 rfl) HFw.out)).mono ?_; rintro e w1 ⟨rfl, b1⟩
    replace HK := Lib.hid (HK.out.call b1); clear b1
    rw [decide_eq_false h0']
    go_wp2_with (first | (refine wpList_akr HK rfl rfl ?_; intro _ g9 HK'; simp only [List.cons_append, List.nil_append] at HK'; replace HK := HK'; clear HK') | (refine wpList_sr HK 3 rfl _ _ rfl rfl rfl rfl ?_; intro _ HK'; simp only [List.set] at HK'; replace HK := HK'; clear HK') | (refine wpList_sr HK 1 rfl _ _ rfl rfl rfl rfl ?_; intro _ HK'; simp only [List.set] at HK'; replace HK := HK'; clear HK'))
    exact ret_srb Try.results11 rfl rfl rfl rfl (HK.out.blk 1 rfl) ⟨A4, _, c4, rfl, HK.out.own 0 rfl, HK.out.b⟩
  · obtain ⟨rfl, rfl, rfl⟩ := HSm.out h0 he
    subst he
    have HE := Lib.hid (req_self y)
    clear HNo HSm HNe
    go_enter Try.func11, Try.ntmps11
    go_wp2_with (first | (refine wpList_akr HK rfl rfl ?_; intro _ g1 HK'; simp only [List.cons_append, List.nil_append] at HK'; replace HK := HK'; clear HK'))
    refine (HM.out _ HK.out.b).mono ?_; rintro e w1 ⟨rfl, b1⟩
    replace HK := Lib.hid (HK.out.call b1); clear b1
    go_wp2_with (first | refine wpList_exe (kexec_lr HK 0 _ (by rfl) (by rfl) (by rfl)) (by rfl) ?_)
    refine (HWo.out _ HK.out.b).mono ?_; rintro e w3 ⟨A4, n4, c4, rfl, o4, b4⟩
    obtain rfl := (Lay.Own.reads o4).1
    replace HK := Lib.hid (HK.out.called b4 o4)
    simp only [List.nil_append] at HK
    clear o4 b4
    go_wp2_with fail
    refine (HHl.out _ HK.out.b).mono ?_; rintro e w1 ⟨rfl, b1⟩
    replace HK := Lib.hid (HK.out.call b1); clear b1
    go_wp2_with (first | (refine wpList_akr HK rfl rfl ?_; intro _ g8 HK'; simp only [List.cons_append, List.nil_append] at HK'; replace HK := HK'; clear HK') | (refine wpList_sr HK 2 rfl _ _ rfl rfl rfl rfl ?_; intro _ HK'; simp only [List.set] at HK'; replace HK := HK'; clear HK'))
    refine (HHw.out _ _ _ _ (Sls.own (HK.out.own 0 rfl) HFw.out)).mono ?_; rintro e w1 ⟨rfl, b1⟩
    replace HK := Lib.hid (HK.out.call b1); clear b1
    rw [decide_eq_true h0]
    go_wp2_with (first | (refine wpList_akr HK rfl rfl ?_; intro _ g9 HK'; simp only [List.cons_append, List.nil_append] at HK'; replace HK := HK'; clear HK') | (refine wpList_sr HK 3 rfl _ _ rfl rfl rfl rfl ?_; intro _ HK'; simp only [List.set] at HK'; replace HK := HK'; clear HK') | refine wpList_exe (kexec_lr HK 3 _ (by rfl) (by rfl) (by rfl)) (by rfl) ?_ | refine wpList_exe (kexec_lr HK 2 _ (by rfl) (by rfl) (by rfl)) (by rfl) ?_ | refine wpList_exe (exec_req (v := y) (u := y) _ _ (by rfl) (by rfl) (by rfl) HE.out) (by rfl) ?_ | (refine wpList_sr HK 1 rfl _ _ rfl rfl rfl rfl ?_; intro _ HK'; simp only [List.set] at HK'; replace HK := HK'; clear HK'))
    exact ret_srb Try.results11 rfl rfl rfl rfl (HK.out.blk 1 rfl) ⟨A4, _, c4, rfl, HK.out.own 0 rfl, HK.out.b⟩
  · obtain ⟨rfl, rfl, rfl⟩ := HNe.out h0 he
    have HE := Lib.hid (show decide (dn = x) = false from decide_eq_false he)
    clear HNo HSm HNe he
    go_enter Try.func11, Try.ntmps11
    go_wp2_with (first | (refine wpList_akr HK rfl rfl ?_; intro _ g1 HK'; simp only [List.cons_append, List.nil_append] at HK'; replace HK := HK'; clear HK'))
    refine (HM.out _ HK.out.b).mono ?_; rintro e w1 ⟨rfl, b1⟩
    replace HK := Lib.hid (HK.out.call b1); clear b1
    go_wp2_with (first | refine wpList_exe (kexec_lr HK 0 _ (by rfl) (by rfl) (by rfl)) (by rfl) ?_)
    refine (HWo.out _ HK.out.b).mono ?_; rintro e w3 ⟨A4, n4, c4, rfl, o4, b4⟩
    obtain rfl := (Lay.Own.reads o4).1
    replace HK := Lib.hid (HK.out.called b4 o4)
    simp only [List.nil_append] at HK
    clear o4 b4
    go_wp2_with fail
    refine (HHl.out _ HK.out.b).mono ?_; rintro e w1 ⟨rfl, b1⟩
    replace HK := Lib.hid (HK.out.call b1); clear b1
    go_wp2_with (first | (refine wpList_akr HK rfl rfl ?_; intro _ g8 HK'; simp only [List.cons_append, List.nil_append] at HK'; replace HK := HK'; clear HK') | (refine wpList_sr HK 2 rfl _ _ rfl rfl rfl rfl ?_; intro _ HK'; simp only [List.set] at HK'; replace HK := HK'; clear HK'))
    refine (HHw.out _ _ _ _ (Sls.own (HK.out.own 0 rfl) HFw.out)).mono ?_; rintro e w1 ⟨rfl, b1⟩
    replace HK := Lib.hid (HK.out.call b1); clear b1
    rw [decide_eq_true h0]
    go_wp2_with (first | (refine wpList_akr HK rfl rfl ?_; intro _ g9 HK'; simp only [List.cons_append, List.nil_append] at HK'; replace HK := HK'; clear HK') | (refine wpList_sr HK 3 rfl _ _ rfl rfl rfl rfl ?_; intro _ HK'; simp only [List.set] at HK'; replace HK := HK'; clear HK') | refine wpList_exe (kexec_lr HK 3 _ (by rfl) (by rfl) (by rfl)) (by rfl) ?_ | refine wpList_exe (kexec_lr HK 2 _ (by rfl) (by rfl) (by rfl)) (by rfl) ?_ | refine wpList_exe (exec_req (v := dn) (u := x) _ _ (by rfl) (by rfl) (by rfl) HE.out) (by rfl) ?_)
    have HK0 := Lib.hid HK.out.drew
    refine wp_region_held_drew (S := (fun W => Hid (Kn w.heap.size w W [(g9, 24, #[.int .i64 dn.c, .int .i64 dn.e, .int .i64 dn.r])] []))) (by kernel_rfl) ?_ (fun hHeld => ?_)
    · (try dsimp only); exact Lib.hid ((HK0.out.dropL 3).takeR 0)
    refine wpAnyH_take (i := 0) (oi := ⟨some 41, _, _, _, _, _⟩) (v := ?_) rfl (by kernel_rfl) (by kernel_rfl) (by kernel_rfl) (fun _ _ _ h => h) (Or.inl ⟨by rfl, ?_⟩) (by assumption) ?_
    rotate_left
    · (intro w hSw; (try dsimp only at hSw); go_simp; try with_reducible rfl)
    try simp only [Act.put, List.setIfInBounds_toArray, List.set_cons_zero, List.set_cons_succ]
    refine wpAnyH_take (i := 1) (oi := ⟨some 42, _, _, _, _, _⟩) (v := ?_) rfl (by kernel_rfl) (by kernel_rfl) (by kernel_rfl) (fun _ _ _ h => h) (Or.inl ⟨by rfl, ?_⟩) (by assumption) ?_
    rotate_left
    · (intro w hSw; refine Eq.trans (kexec_lr hSw 0 _ (by rfl) (by rfl) (by rfl)) ?_; with_reducible rfl)
    try simp only [Act.put, List.setIfInBounds_toArray, List.set_cons_zero, List.set_cons_succ]
    refine wpAnyH_take (i := 2) (oi := ⟨some 4, _, _, _, _, _⟩) (v := ?_) rfl (by kernel_rfl) (by kernel_rfl) (by kernel_rfl) (fun _ _ _ h => h) (Or.inl ⟨by rfl, ?_⟩) (by assumption) ?_
    rotate_left
    · (intro w hSw; (try dsimp only at hSw); go_simp; try with_reducible rfl)
    try simp only [Act.put, List.setIfInBounds_toArray, List.set_cons_zero, List.set_cons_succ]
    refine wpAnyH_ready (rs := [3]) (by kernel_rfl) (by simp) ?_
    refine AllReadyH.cons (o := ⟨none, _, _, _, _, _⟩) rfl (fun K hK => ?_) AllReadyH.nil
    refine step_sr HK0 1 (by rfl) _ _ (by rfl) (by rfl) (by rfl) (by rfl) ?_; intro wq HK'; simp only [List.set] at HK'; replace HK0 := HK'; clear HK'; have hs := Lib.hid ((HK0.out.dropL 3).takeR 0)
    refine hK.out _ _ hs (fun hHeld => ?_)
    clear hK K
    try simp only [Act.put, List.setIfInBounds_toArray, List.set_cons_zero, List.set_cons_succ]
    refine wpAnyH_take (i := 4) (oi := ⟨some 6, _, _, _, _, _⟩) (v := ?_) rfl (by kernel_rfl) (by kernel_rfl) (by kernel_rfl) (fun _ _ _ h => h) (Or.inl ⟨by rfl, ?_⟩) (by assumption) ?_
    rotate_left
    · (intro w hSw; (try dsimp only at hSw); go_simp; try with_reducible rfl)
    try simp only [Act.put, List.setIfInBounds_toArray, List.set_cons_zero, List.set_cons_succ]
    refine wpAnyH_done (by kernel_rfl) ?_ _
    all_goals
      go_wp2_with fail
      exact ret_srb Try.results11 rfl rfl rfl rfl (HK0.out.blk 1 rfl) ⟨A4, _, c4, rfl, HK0.out.own 0 rfl, HK0.out.b⟩
end Go.Proofs.Ytahmcgnlpogfaaa
