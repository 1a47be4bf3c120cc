/-
  What the document's Wait and Drop return.
  No condition but what the slice reads as.
-/
import Derived.Test.YtbdfmfegmfmghaaGateParts
set_option linter.unusedSimpArgs false
set_option linter.unusedVariables false
namespace Go.Proofs.Ytbdfmfegmfmghaa
open Go.RowKit

/-- Who waits then, new or the slice that was handed in, and nobody goes through; or nobody waits, and who goes through is new. -/
def WtOr (b : Nat) (w : World) (A : Option Addr) (n c : Nat) (l : List Rf) (A' : Option Addr) (n' c' : Nat) (B : Option Addr) (k d : Nat) (r s : List Rf) : Prop :=
  ((B = none ∧ k = 0 ∧ d = 0 ∧ s = []) ∧ OwnOr rfLay b w A n c l A' n' c' r) ∨ ((A' = none ∧ n' = 0 ∧ c' = 0 ∧ r = []) ∧ rfLay.Own b w (.slice B k d) s)
theorem WtOr.stay {b : Nat} {w : World} {A : Option Addr} {n c : Nat} {l : List Rf} {A' : Option Addr} {n' c' : Nat} {r : List Rf} (h : OwnOr rfLay b w A n c l A' n' c' r) : WtOr b w A n c l A' n' c' none 0 0 r [] := .inl ⟨⟨rfl, rfl, rfl, rfl⟩, h⟩
theorem WtOr.go {b : Nat} {w : World} {A : Option Addr} {n c : Nat} {l : List Rf} {B : Option Addr} {k d : Nat} {s : List Rf} (h : rfLay.Own b w (.slice B k d) s) : WtOr b w A n c l none 0 0 B k d [] s := .inr ⟨⟨rfl, rfl, rfl, rfl⟩, h⟩
def IsWtr (A : Option Addr) (n c : Nat) (l r s : List Rf) (x : Int) (w : World) (e : Ending) (w' : World) : Prop := ∃ A' n' c' B k d, e = .returned (.tuple #[.slice A' n' c', .slice B k d, .int .i64 x]) ∧ WtOr w.heap.size w' A n c l A' n' c' B k d r s ∧ Below w.heap.size w w'
def IsLgr (A : Option Addr) (n c : Nat) (l r : List Rf) (w : World) (e : Ending) (w' : World) : Prop := ∃ A' n' c', e = .returned (.slice A' n' c') ∧ OwnOr rfLay w.heap.size w' A n c l A' n' c' r ∧ Below w.heap.size w w'
set_option maxRecDepth 100000 in
set_option maxHeartbeats 12800000 in
theorem rgwait_any (m : Int) (A : Option Addr) (c n : Nat) (l : List Rf) (r : Rf) (w : World) (hs : Sls rfLay rF w A n c l) :
    Calls Try.prog 7 #[.int .i64 m, .slice A n c, .agg #[.int .i64 r.c, .int .i64 r.e, .int .i64 r.r]] w (IsWtr A n c l (Gt.wtL m l r) (Gt.wtA m l r) (Gt.wtE m l r) w) := by
  have HM := Lib.hid (fun W (hW : Below w.heap.size w W) => rgright_any m A c n l W (hs.later hW))
  have HC := Lib.hid (fun W => rmr_any r W)
  have HS := Lib.hid hs
  have hlen := hs.len
  have HK := kn1 w 24 #[.int .i64 r.c, .int .i64 r.e, .int .i64 r.r]
  unfold IsB IsWtr at *
  by_cases hr : Gt.Right m l
  case neg =>
    rw [decide_eq_false hr] at HM
    obtain ⟨e1, e2, e3⟩ := Gt.wt_bad (r := r) (fun h => hr h.1)
    rw [e1, e2, e3]
    clear e1 e2 e3 hr hs hlen HC
    go_enter Try.func7, Try.ntmps7
    go_wp2_with fail
    refine (HM.out _ HK.out.b).mono ?_; rintro e w1 ⟨rfl, b1⟩
    replace HK := Lib.hid (HK.out.call b1); clear b1
    go_wp2_with fail
    exact ret_t3 Try.results7 rfl rfl rfl rfl ⟨A, n, c, none, 0, 0, rfl, .stay (.inr ⟨rfl, rfl, rfl, rfl⟩), HK.out.b⟩
  case pos =>
  rw [decide_eq_true hr] at HM
  by_cases hok : Lck.ok r
  case neg =>
    rw [decide_eq_false hok] at HC
    obtain ⟨e1, e2, e3⟩ := Gt.wt_bad (m := m) (l := l) (r := r) (fun h => hok h.2)
    rw [e1, e2, e3]
    clear e1 e2 e3 hr hok hs hlen
    go_enter Try.func7, Try.ntmps7
    go_wp2_with fail
    refine (HM.out _ HK.out.b).mono ?_; rintro e w1 ⟨rfl, b1⟩
    replace HK := Lib.hid (HK.out.call b1); clear b1
    go_wp2_with (first | refine wpList_exe (kexec_lr HK 0 _ (by rfl) (by rfl) (by rfl)) (by rfl) ?_)
    refine (HC.out _).mono ?_; rintro e w1 ⟨rfl, b1⟩
    replace HK := Lib.hid (HK.out.call b1); clear b1
    go_wp2_with fail
    exact ret_t3 Try.results7 rfl rfl rfl rfl ⟨A, n, c, none, 0, 0, rfl, .stay (.inr ⟨rfl, rfl, rfl, rfl⟩), HK.out.b⟩
  case pos =>
  rw [decide_eq_true hok] at HC
  obtain ⟨hyes, hno⟩ := Lck.asked_told hs.len r.c
  have HHd : Hid (∀ (i : Nat) x, l[i]? = some x → x.c = r.c → Gt.wtE m l r = 11 ∧ Gt.wtL m l r = l ∧ Gt.wtA m l r = []) := Lib.hid fun i x hx h => Gt.wt_held hr hok (hyes i x hx h)
  have HOk : Hid ((∀ (i : Nat) x, i < n → l[i]? = some x → ¬ x.c = r.c) → (((n + 1 : Nat) : Int) == m) = true → Gt.wtE m l r = 0 ∧ Gt.wtL m l r = [] ∧ Gt.wtA m l r = l ++ [r]) := Lib.hid fun h h2 => by
    refine Gt.wt_full hr hok (hno h) ?_
    rw [beq_iff_eq] at h2
    rw [hlen]; omega
  have HMo : Hid ((∀ (i : Nat) x, i < n → l[i]? = some x → ¬ x.c = r.c) → (((n + 1 : Nat) : Int) == m) = false → Gt.wtE m l r = 0 ∧ Gt.wtL m l r = l ++ [r] ∧ Gt.wtA m l r = []) := Lib.hid fun h h2 => by
    refine Gt.wt_more hr hok (hno h) ?_
    rw [beq_eq_false_iff_ne] at h2
    rw [hlen]; omega
  have h5 := Lck.right_len hr.2.2.2
  rw [hlen] at h5
  have HLn := Lib.hid hlen.symm
  have HN1 : Hid ((([] : List Rf) ++ l).length = n) := Lib.hid (by rw [List.nil_append]; exact hlen)
  have HN2 : Hid ((l ++ [r]).length = n + 1) := Lib.hid (by rw [List.length_append, hlen]; rfl)
  have HG1 := grow_ok (La := rfLay) HN1 (by show n * 24 ≤ _; omega) (by omega)
  have HG2 := grow_ok (La := rfLay) HN2 (by show (n + 1) * 24 ≤ _; omega) (by omega)
  obtain ⟨N1, hN1⟩ : ∃ N1, N1 = n + 1 := ⟨_, rfl⟩
  rw [← hN1] at HOk HMo HN2
  have HNe := Lib.hid hN1
  clear hyes hno hr hok hs hlen hN1
  generalize Gt.wtE m l r = X at *
  generalize Gt.wtL m l r = res at *
  generalize Gt.wtA m l r = al at *
  go_enter Try.func7, Try.ntmps7
  go_wp2_with fail
  refine (HM.out _ HK.out.b).mono ?_; rintro e w1 ⟨rfl, b1⟩
  replace HK := Lib.hid (HK.out.call b1); clear b1
  go_wp2_with (first | refine wpList_exe (kexec_lr HK 0 _ (by rfl) (by rfl) (by rfl)) (by rfl) ?_)
  refine (HC.out _).mono ?_; rintro e w1 ⟨rfl, b1⟩
  replace HK := Lib.hid (HK.out.call b1); clear b1
  clear HM HC
  go_wp2_with fail
  go_loopw [9] (fun vi wr => ∃ k : Nat, k ≤ n ∧ vi = .int .i64 k ∧ Hid (∀ (i : Nat) x, i < k → l[i]? = some x → ¬ x.c = r.c) ∧ Hid (Kn w.heap.size w wr [(w.heap.size, 24, #[.int .i64 r.c, .int .i64 r.e, .int .i64 r.r])] [])) (fun vi _ => n - (intOf vi).toNat)
  case atStart => exact ⟨0, Nat.zero_le _, rfl, Lib.hid (fun i v hi => by omega), HK⟩
  case round =>
    clear HK
    obtain ⟨k, hk, rfl, HGo, HK⟩ := hrel
    have hk1 : (0 : Int) ≤ (k : Int) := by omega
    by_cases hlt : k < n
    · have hk2 : (k : Int) < (n : Int) := by omega
      have hk3 : k < 9223372036854775807 := by omega
      obtain ⟨x, hx, _⟩ := HS.out.get hlt
      obtain ⟨b, o, rfl, hat⟩ := HS.out.at (Nat.lt_of_le_of_lt (Nat.zero_le _) hlt)
      have HX := Lib.hid (fun W hW => hat W hW k x hx)
      have HH := Lib.hid (HHd.out k x hx)
      have HGk : Hid (¬ x.c = r.c → ∀ (i : Nat) v, i < k + 1 → l[i]? = some v → ¬ v.c = r.c) := Lib.hid fun h i v hi hv => by
        by_cases hik : i = k
        · subst hik; rw [hx] at hv; injection hv with hv; subst hv; exact h
        · exact HGo.out i v (by omega) hv
      clear hat hx HHd
      go_wp2_with fail
      by_cases he : x.c = r.c
      · obtain ⟨rfl, rfl, rfl⟩ := HH.out he
        have hb : (x.c == r.c) = true := by simpa using he
        clear he HH HGk HOk HMo
        refine wp_region_held_drew (S := (fun W => Hid (Kn w.heap.size w W [(w.heap.size, 24, #[.int .i64 r.c, .int .i64 r.e, .int .i64 r.r])] []))) (by kernel_rfl) ?_ (fun hHeld => ?_)
        · (try dsimp only); exact Lib.hid HK.out.drew
        refine wpAnyH_take (i := 0) (oi := ⟨some 27, _, _, _, _, _⟩) (v := ?_) rfl (by kernel_rfl) (by kernel_rfl) (by kernel_rfl) (fun _ _ _ h => h) (Or.inl ⟨by rfl, ?_⟩) (by assumption) ?_
        rotate_left
        · (intro w hSw; (try dsimp only at hSw); go_simp; try with_reducible rfl)
        try simp only [Act.put, List.setIfInBounds_toArray, List.set_cons_zero, List.set_cons_succ]
        refine wpAnyH_take (i := 1) (oi := ⟨some 28, _, _, _, _, _⟩) (v := ?_) rfl (by kernel_rfl) (by kernel_rfl) (by kernel_rfl) (fun _ _ _ h => h) (Or.inl ⟨by rfl, ?_⟩) (by assumption) ?_
        rotate_left
        · (intro w hSw; (try dsimp only at hSw); go_simp; try with_reducible rfl)
        try simp only [Act.put, List.setIfInBounds_toArray, List.set_cons_zero, List.set_cons_succ]
        refine wpAnyH_take (i := 2) (oi := ⟨some 29, _, _, _, _, _⟩) (v := ?_) rfl (by kernel_rfl) (by kernel_rfl) (by kernel_rfl) (fun _ _ _ h => h) (Or.inl ⟨by rfl, ?_⟩) (by assumption) ?_
        rotate_left
        · (intro w hSw; refine Eq.trans (exec_ixr (i := k) _ _ (by rfl) (by rfl) (by rfl) hlt) ?_; with_reducible rfl)
        try simp only [Act.put, List.setIfInBounds_toArray, List.set_cons_zero, List.set_cons_succ]
        refine wpAnyH_take (i := 3) (oi := ⟨some 30, _, _, _, _, _⟩) (v := ?_) rfl (by kernel_rfl) (by kernel_rfl) (by kernel_rfl) (fun _ _ _ h => h) (Or.inl ⟨by rfl, ?_⟩) (by assumption) ?_
        rotate_left
        · (intro w hSw; (try dsimp only at hSw); go_simp; try with_reducible rfl)
        try simp only [Act.put, List.setIfInBounds_toArray, List.set_cons_zero, List.set_cons_succ]
        refine wpAnyH_take (i := 4) (oi := ⟨some 31, _, _, _, _, _⟩) (v := ?_) rfl (by kernel_rfl) (by kernel_rfl) (by kernel_rfl) (fun _ _ _ h => h) (Or.inl ⟨by rfl, ?_⟩) (by assumption) ?_
        rotate_left
        · (intro w hSw; refine Eq.trans (exec_lrc (x := x) (off := o + k * 3) _ (by rfl) (by rfl) (HX.out _ hSw.out.b)) ?_; with_reducible rfl)
        try simp only [Act.put, List.setIfInBounds_toArray, List.set_cons_zero, List.set_cons_succ]
        refine wpAnyH_take (i := 5) (oi := ⟨some 32, _, _, _, _, _⟩) (v := ?_) rfl (by kernel_rfl) (by kernel_rfl) (by kernel_rfl) (fun _ _ _ h => h) (Or.inl ⟨by rfl, ?_⟩) (by assumption) ?_
        rotate_left
        · (intro w hSw; (try dsimp only at hSw); go_simp; try with_reducible rfl)
        try simp only [Act.put, List.setIfInBounds_toArray, List.set_cons_zero, List.set_cons_succ]
        refine wpAnyH_take (i := 6) (oi := ⟨some 33, _, _, _, _, _⟩) (v := ?_) rfl (by kernel_rfl) (by kernel_rfl) (by kernel_rfl) (fun _ _ _ h => h) (Or.inl ⟨by rfl, ?_⟩) (by assumption) ?_
        rotate_left
        · (intro w hSw; refine Eq.trans (kexec_lc0 hSw 0 _ (by rfl) (by rfl) (by rfl)) ?_; with_reducible rfl)
        try simp only [Act.put, List.setIfInBounds_toArray, List.set_cons_zero, List.set_cons_succ]
        refine wpAnyH_take (i := 7) (oi := ⟨some 34, _, _, _, _, _⟩) (v := ?_) rfl (by kernel_rfl) (by kernel_rfl) (by kernel_rfl) (fun _ _ _ h => h) (Or.inl ⟨by rfl, ?_⟩) (by assumption) ?_
        rotate_left
        · (intro w hSw; (try dsimp only at hSw); go_simp; try with_reducible rfl)
        try simp only [Act.put, List.setIfInBounds_toArray, List.set_cons_zero, List.set_cons_succ]
        refine wpAnyH_done (by kernel_rfl) ?_ _
        go_wp2_with fail
        exact ret_t3 Try.results7 rfl rfl rfl rfl ⟨_, n, c, none, 0, 0, rfl, .stay (.inr ⟨rfl, rfl, rfl, rfl⟩), hHeld.out.b⟩
      · have hb : (x.c == r.c) = false := by simpa using he
        replace HGk := Lib.hid (HGk.out he)
        clear he HH
        refine wp_region_held_drew (S := (fun W => Hid (Kn w.heap.size w W [(w.heap.size, 24, #[.int .i64 r.c, .int .i64 r.e, .int .i64 r.r])] []))) (by kernel_rfl) ?_ (fun hHeld => ?_)
        · (try dsimp only); exact Lib.hid HK.out.drew
        refine wpAnyH_take (i := 0) (oi := ⟨some 27, _, _, _, _, _⟩) (v := ?_) rfl (by kernel_rfl) (by kernel_rfl) (by kernel_rfl) (fun _ _ _ h => h) (Or.inl ⟨by rfl, ?_⟩) (by assumption) ?_
        rotate_left
        · (intro w hSw; (try dsimp only at hSw); go_simp; try with_reducible rfl)
        try simp only [Act.put, List.setIfInBounds_toArray, List.set_cons_zero, List.set_cons_succ]
        refine wpAnyH_take (i := 1) (oi := ⟨some 28, _, _, _, _, _⟩) (v := ?_) rfl (by kernel_rfl) (by kernel_rfl) (by kernel_rfl) (fun _ _ _ h => h) (Or.inl ⟨by rfl, ?_⟩) (by assumption) ?_
        rotate_left
        · (intro w hSw; (try dsimp only at hSw); go_simp; try with_reducible rfl)
        try simp only [Act.put, List.setIfInBounds_toArray, List.set_cons_zero, List.set_cons_succ]
        refine wpAnyH_take (i := 2) (oi := ⟨some 29, _, _, _, _, _⟩) (v := ?_) rfl (by kernel_rfl) (by kernel_rfl) (by kernel_rfl) (fun _ _ _ h => h) (Or.inl ⟨by rfl, ?_⟩) (by assumption) ?_
        rotate_left
        · (intro w hSw; refine Eq.trans (exec_ixr (i := k) _ _ (by rfl) (by rfl) (by rfl) hlt) ?_; with_reducible rfl)
        try simp only [Act.put, List.setIfInBounds_toArray, List.set_cons_zero, List.set_cons_succ]
        refine wpAnyH_take (i := 3) (oi := ⟨some 30, _, _, _, _, _⟩) (v := ?_) rfl (by kernel_rfl) (by kernel_rfl) (by kernel_rfl) (fun _ _ _ h => h) (Or.inl ⟨by rfl, ?_⟩) (by assumption) ?_
        rotate_left
        · (intro w hSw; (try dsimp only at hSw); go_simp; try with_reducible rfl)
        try simp only [Act.put, List.setIfInBounds_toArray, List.set_cons_zero, List.set_cons_succ]
        refine wpAnyH_take (i := 4) (oi := ⟨some 31, _, _, _, _, _⟩) (v := ?_) rfl (by kernel_rfl) (by kernel_rfl) (by kernel_rfl) (fun _ _ _ h => h) (Or.inl ⟨by rfl, ?_⟩) (by assumption) ?_
        rotate_left
        · (intro w hSw; refine Eq.trans (exec_lrc (x := x) (off := o + k * 3) _ (by rfl) (by rfl) (HX.out _ hSw.out.b)) ?_; with_reducible rfl)
        try simp only [Act.put, List.setIfInBounds_toArray, List.set_cons_zero, List.set_cons_succ]
        refine wpAnyH_take (i := 5) (oi := ⟨some 32, _, _, _, _, _⟩) (v := ?_) rfl (by kernel_rfl) (by kernel_rfl) (by kernel_rfl) (fun _ _ _ h => h) (Or.inl ⟨by rfl, ?_⟩) (by assumption) ?_
        rotate_left
        · (intro w hSw; (try dsimp only at hSw); go_simp; try with_reducible rfl)
        try simp only [Act.put, List.setIfInBounds_toArray, List.set_cons_zero, List.set_cons_succ]
        refine wpAnyH_take (i := 6) (oi := ⟨some 33, _, _, _, _, _⟩) (v := ?_) rfl (by kernel_rfl) (by kernel_rfl) (by kernel_rfl) (fun _ _ _ h => h) (Or.inl ⟨by rfl, ?_⟩) (by assumption) ?_
        rotate_left
        · (intro w hSw; refine Eq.trans (kexec_lc0 hSw 0 _ (by rfl) (by rfl) (by rfl)) ?_; with_reducible rfl)
        try simp only [Act.put, List.setIfInBounds_toArray, List.set_cons_zero, List.set_cons_succ]
        refine wpAnyH_take (i := 7) (oi := ⟨some 34, _, _, _, _, _⟩) (v := ?_) rfl (by kernel_rfl) (by kernel_rfl) (by kernel_rfl) (fun _ _ _ h => h) (Or.inl ⟨by rfl, ?_⟩) (by assumption) ?_
        rotate_left
        · (intro w hSw; (try dsimp only at hSw); go_simp; try with_reducible rfl)
        try simp only [Act.put, List.setIfInBounds_toArray, List.set_cons_zero, List.set_cons_succ]
        refine wpAnyH_done (by kernel_rfl) ?_ _
        go_wp2_with (first | refine wpList_exe (exec_add1 (j := k) _ (by rfl) (by rfl) hk3) (by rfl) ?_)
        exact ⟨⟨k + 1, hlt, rfl, HGk, hHeld⟩, by simp [intOf]; omega⟩
    · obtain rfl : k = n := by omega
      have HOk2 := Lib.hid (HOk.out HGo.out)
      have HMo2 := Lib.hid (HMo.out HGo.out)
      clear HOk HMo HHd
      go_wp2_with fail
      have HK0 := Lib.hid HK.out.drew
      refine wp_region_held_drew (S := (fun W => Hid (Kn w.heap.size w W [(w.heap.size, 24, #[.int .i64 r.c, .int .i64 r.e, .int .i64 r.r])] []))) (by kernel_rfl) ?_ (fun hHeld => ?_)
      · (try dsimp only); exact Lib.hid HK.out.drew
      refine wpAnyH_take (i := 1) (oi := ⟨some 37, _, _, _, _, _⟩) (v := ?_) rfl (by kernel_rfl) (by kernel_rfl) (by kernel_rfl) (fun _ _ _ h => h) (Or.inl ⟨by rfl, ?_⟩) (by assumption) ?_
      rotate_left
      · (intro w hSw; (try dsimp only at hSw); go_simp; try with_reducible rfl)
      try simp only [Act.put, List.setIfInBounds_toArray, List.set_cons_zero, List.set_cons_succ]
      refine wpAnyH_take (i := 3) (oi := ⟨some 39, _, _, _, _, _⟩) (v := ?_) rfl (by kernel_rfl) (by kernel_rfl) (by kernel_rfl) (fun _ _ _ h => h) (Or.inl ⟨by rfl, ?_⟩) (by assumption) ?_
      rotate_left
      · (intro w hSw; refine Eq.trans (kexec_lr hSw 0 _ (by rfl) (by rfl) (by rfl)) ?_; with_reducible rfl)
      try simp only [Act.put, List.setIfInBounds_toArray, List.set_cons_zero, List.set_cons_succ]
      refine wpAnyH_ready (rs := [0, 4]) (by kernel_rfl) (by simp) ?_
      refine AllReadyH.cons (o := ⟨some 36, _, _, _, _, _⟩) rfl (fun K hK => ?_) (AllReadyH.cons (o := ⟨some 40, _, _, _, _, _⟩) rfl (fun K hK => ?_) AllReadyH.nil)
      refine step_mk0 rfLay HK0 (by rfl) (by rfl) ?_; intro w2 g2 HK' _; simp only [List.cons_append, List.nil_append] at HK'; replace HK0 := HK'; clear HK'; have hs := Lib.hid (HK0.out.takeR 0)
      refine hK.out _ _ hs (fun hHeld => ?_)
      clear hK K
      try simp only [Act.put, List.setIfInBounds_toArray, List.set_cons_zero, List.set_cons_succ]
      refine wpAnyH_ready (rs := [2, 4]) (by kernel_rfl) (by simp) ?_
      refine AllReadyH.cons (o := ⟨some 38, _, _, _, _, _⟩) rfl (fun K hK => ?_) (AllReadyH.cons (o := ⟨some 40, _, _, _, _, _⟩) rfl (fun K hK => ?_) AllReadyH.nil)
      (first | refine step_more2 rfLay HK0 0 (by rfl) _ _ (by rfl) (by rfl) (by rfl) l (by rfl) HLn.out (Lib.hid (let h := HS.out.later HK0.out.b; And.intro h.rd h.nl)) HG1 (N := k) HN1 ?_ | refine step_more2 rfLay HK0 1 (by rfl) _ _ (by rfl) (by rfl) (by rfl) l (by rfl) HLn.out (Lib.hid (let h := HS.out.later HK0.out.b; And.intro h.rd h.nl)) HG1 (N := k) HN1 ?_); intro A4 c4 w4 HK'; simp only [List.set, List.nil_append] at HK'; replace HK0 := HK'; clear HK'; have hs := Lib.hid (HK0.out.takeR 0)
      refine hK.out _ _ hs (fun hHeld => ?_)
      clear hK K
      try simp only [Act.put, List.setIfInBounds_toArray, List.set_cons_zero, List.set_cons_succ]
      refine wpAnyH_ready (rs := [4]) (by kernel_rfl) (by simp) ?_
      refine AllReadyH.cons (o := ⟨some 40, _, _, _, _, _⟩) rfl (fun K hK => ?_) AllReadyH.nil
      refine step_mk1 rfLay (p := r) HK0 (by decide) (by rfl) _ (by rfl) (by rfl) (by rfl) ?_; intro w5 g5 HK' _; simp only [List.cons_append, List.nil_append] at HK'; replace HK0 := HK'; clear HK'; have hs := Lib.hid (HK0.out.takeR 0)
      refine hK.out _ _ hs (fun hHeld => ?_)
      clear hK K
      try simp only [Act.put, List.setIfInBounds_toArray, List.set_cons_zero, List.set_cons_succ]
      refine wpAnyH_ready (rs := [5]) (by kernel_rfl) (by simp) ?_
      refine AllReadyH.cons (o := ⟨some 41, _, _, _, _, _⟩) rfl (fun K hK => ?_) AllReadyH.nil
      (first | refine step_more2 rfLay HK0 0 (by rfl) _ _ (by rfl) (by rfl) (by rfl) [r] (by rfl) (by rfl) (Lib.hid (HK0.out.own 1 rfl).rd) HG2 (N := N1) HN2 ?_ | refine step_more2 rfLay HK0 1 (by rfl) _ _ (by rfl) (by rfl) (by rfl) [r] (by rfl) (by rfl) (Lib.hid (HK0.out.own 0 rfl).rd) HG2 (N := N1) HN2 ?_); intro A6 c6 w6 HK'; simp only [List.set] at HK'; replace HK0 := HK'; clear HK'; have hs := Lib.hid (HK0.out.takeR 0)
      refine hK.out _ _ hs (fun hHeld => ?_)
      clear hK K
      try simp only [Act.put, List.setIfInBounds_toArray, List.set_cons_zero, List.set_cons_succ]
      refine wpAnyH_take (i := 6) (oi := ⟨some 10, _, _, _, _, _⟩) (v := ?_) rfl (by kernel_rfl) (by kernel_rfl) (by kernel_rfl) (fun _ _ _ h => h) (Or.inl ⟨by rfl, ?_⟩) (by assumption) ?_
      rotate_left
      · (intro w hSw; (try dsimp only at hSw); go_simp; try with_reducible rfl)
      try simp only [Act.put, List.setIfInBounds_toArray, List.set_cons_zero, List.set_cons_succ]
      refine wpAnyH_done (by kernel_rfl) ?_ _
      rotate_left
      refine step_mk1 rfLay (p := r) HK0 (by decide) (by rfl) _ (by rfl) (by rfl) (by rfl) ?_; intro w5 g5 HK' _; simp only [List.cons_append, List.nil_append] at HK'; replace HK0 := HK'; clear HK'; have hs := Lib.hid (HK0.out.takeR 0)
      refine hK.out _ _ hs (fun hHeld => ?_)
      clear hK K
      try simp only [Act.put, List.setIfInBounds_toArray, List.set_cons_zero, List.set_cons_succ]
      refine wpAnyH_ready (rs := [2]) (by kernel_rfl) (by simp) ?_
      refine AllReadyH.cons (o := ⟨some 38, _, _, _, _, _⟩) rfl (fun K hK => ?_) AllReadyH.nil
      (first | refine step_more2 rfLay HK0 0 (by rfl) _ _ (by rfl) (by rfl) (by rfl) l (by rfl) HLn.out (Lib.hid (let h := HS.out.later HK0.out.b; And.intro h.rd h.nl)) HG1 (N := k) HN1 ?_ | refine step_more2 rfLay HK0 1 (by rfl) _ _ (by rfl) (by rfl) (by rfl) l (by rfl) HLn.out (Lib.hid (let h := HS.out.later HK0.out.b; And.intro h.rd h.nl)) HG1 (N := k) HN1 ?_); intro A4 c4 w4 HK'; simp only [List.set, List.nil_append] at HK'; replace HK0 := HK'; clear HK'; have hs := Lib.hid (HK0.out.takeR 0)
      refine hK.out _ _ hs (fun hHeld => ?_)
      clear hK K
      try simp only [Act.put, List.setIfInBounds_toArray, List.set_cons_zero, List.set_cons_succ]
      refine wpAnyH_ready (rs := [5]) (by kernel_rfl) (by simp) ?_
      refine AllReadyH.cons (o := ⟨some 41, _, _, _, _, _⟩) rfl (fun K hK => ?_) AllReadyH.nil
      (first | refine step_more2 rfLay HK0 0 (by rfl) _ _ (by rfl) (by rfl) (by rfl) [r] (by rfl) (by rfl) (Lib.hid (HK0.out.own 1 rfl).rd) HG2 (N := N1) HN2 ?_ | refine step_more2 rfLay HK0 1 (by rfl) _ _ (by rfl) (by rfl) (by rfl) [r] (by rfl) (by rfl) (Lib.hid (HK0.out.own 0 rfl).rd) HG2 (N := N1) HN2 ?_); intro A6 c6 w6 HK'; simp only [List.set] at HK'; replace HK0 := HK'; clear HK'; have hs := Lib.hid (HK0.out.takeR 0)
      refine hK.out _ _ hs (fun hHeld => ?_)
      clear hK K
      try simp only [Act.put, List.setIfInBounds_toArray, List.set_cons_zero, List.set_cons_succ]
      refine wpAnyH_take (i := 6) (oi := ⟨some 10, _, _, _, _, _⟩) (v := ?_) rfl (by kernel_rfl) (by kernel_rfl) (by kernel_rfl) (fun _ _ _ h => h) (Or.inl ⟨by rfl, ?_⟩) (by assumption) ?_
      rotate_left
      · (intro w hSw; (try dsimp only at hSw); go_simp; try with_reducible rfl)
      try simp only [Act.put, List.setIfInBounds_toArray, List.set_cons_zero, List.set_cons_succ]
      refine wpAnyH_done (by kernel_rfl) ?_ _
      rotate_left
      refine step_mk1 rfLay (p := r) HK0 (by decide) (by rfl) _ (by rfl) (by rfl) (by rfl) ?_; intro w5 g5 HK' _; simp only [List.cons_append, List.nil_append] at HK'; replace HK0 := HK'; clear HK'; have hs := Lib.hid (HK0.out.takeR 0)
      refine hK.out _ _ hs (fun hHeld => ?_)
      clear hK K
      try simp only [Act.put, List.setIfInBounds_toArray, List.set_cons_zero, List.set_cons_succ]
      refine wpAnyH_ready (rs := [0]) (by kernel_rfl) (by simp) ?_
      refine AllReadyH.cons (o := ⟨some 36, _, _, _, _, _⟩) rfl (fun K hK => ?_) AllReadyH.nil
      refine step_mk0 rfLay HK0 (by rfl) (by rfl) ?_; intro w2 g2 HK' _; simp only [List.cons_append, List.nil_append] at HK'; replace HK0 := HK'; clear HK'; have hs := Lib.hid (HK0.out.takeR 0)
      refine hK.out _ _ hs (fun hHeld => ?_)
      clear hK K
      try simp only [Act.put, List.setIfInBounds_toArray, List.set_cons_zero, List.set_cons_succ]
      refine wpAnyH_ready (rs := [2]) (by kernel_rfl) (by simp) ?_
      refine AllReadyH.cons (o := ⟨some 38, _, _, _, _, _⟩) rfl (fun K hK => ?_) AllReadyH.nil
      (first | refine step_more2 rfLay HK0 0 (by rfl) _ _ (by rfl) (by rfl) (by rfl) l (by rfl) HLn.out (Lib.hid (let h := HS.out.later HK0.out.b; And.intro h.rd h.nl)) HG1 (N := k) HN1 ?_ | refine step_more2 rfLay HK0 1 (by rfl) _ _ (by rfl) (by rfl) (by rfl) l (by rfl) HLn.out (Lib.hid (let h := HS.out.later HK0.out.b; And.intro h.rd h.nl)) HG1 (N := k) HN1 ?_); intro A4 c4 w4 HK'; simp only [List.set, List.nil_append] at HK'; replace HK0 := HK'; clear HK'; have hs := Lib.hid (HK0.out.takeR 0)
      refine hK.out _ _ hs (fun hHeld => ?_)
      clear hK K
      try simp only [Act.put, List.setIfInBounds_toArray, List.set_cons_zero, List.set_cons_succ]
      refine wpAnyH_ready (rs := [5]) (by kernel_rfl) (by simp) ?_
      refine AllReadyH.cons (o := ⟨some 41, _, _, _, _, _⟩) rfl (fun K hK => ?_) AllReadyH.nil
      (first | refine step_more2 rfLay HK0 0 (by rfl) _ _ (by rfl) (by rfl) (by rfl) [r] (by rfl) (by rfl) (Lib.hid (HK0.out.own 1 rfl).rd) HG2 (N := N1) HN2 ?_ | refine step_more2 rfLay HK0 1 (by rfl) _ _ (by rfl) (by rfl) (by rfl) [r] (by rfl) (by rfl) (Lib.hid (HK0.out.own 0 rfl).rd) HG2 (N := N1) HN2 ?_); intro A6 c6 w6 HK'; simp only [List.set] at HK'; replace HK0 := HK'; clear HK'; have hs := Lib.hid (HK0.out.takeR 0)
      refine hK.out _ _ hs (fun hHeld => ?_)
      clear hK K
      try simp only [Act.put, List.setIfInBounds_toArray, List.set_cons_zero, List.set_cons_succ]
      refine wpAnyH_take (i := 6) (oi := ⟨some 10, _, _, _, _, _⟩) (v := ?_) rfl (by kernel_rfl) (by kernel_rfl) (by kernel_rfl) (fun _ _ _ h => h) (Or.inl ⟨by rfl, ?_⟩) (by assumption) ?_
      rotate_left
      · (intro w hSw; (try dsimp only at hSw); go_simp; try with_reducible rfl)
      try simp only [Act.put, List.setIfInBounds_toArray, List.set_cons_zero, List.set_cons_succ]
      refine wpAnyH_done (by kernel_rfl) ?_ _
      rotate_left
      all_goals
        by_cases hz0 : ((N1 : Int) == m) = true
        case pos =>
          obtain ⟨rfl, rfl, rfl⟩ := HOk2.out hz0
          have hz := hz0
          clear hz0 HOk2 HMo2
          go_wp2_with fail
          first
            | exact ret_t3 Try.results7 rfl rfl rfl rfl ⟨none, 0, 0, A6, _, c6, rfl, .go (HK0.out.own 0 rfl), HK0.out.b⟩
            | exact ret_t3 Try.results7 rfl rfl rfl rfl ⟨none, 0, 0, A6, _, c6, rfl, .go (HK0.out.own 1 rfl), HK0.out.b⟩
        case neg =>
          have hz : ((N1 : Int) == m) = false := Bool.eq_false_iff.2 hz0
          obtain ⟨rfl, rfl, rfl⟩ := HMo2.out hz
          clear hz0 HOk2 HMo2
          go_wp2_with fail
          first
            | exact ret_t3 Try.results7 rfl rfl rfl rfl ⟨A6, _, c6, none, 0, 0, rfl, .stay (.inl (HK0.out.own 0 rfl)), HK0.out.b⟩
            | exact ret_t3 Try.results7 rfl rfl rfl rfl ⟨A6, _, c6, none, 0, 0, rfl, .stay (.inl (HK0.out.own 1 rfl)), HK0.out.b⟩
set_option maxRecDepth 100000 in
set_option maxHeartbeats 25600000 in
theorem rgdrop_any (m : Int) (A : Option Addr) (c n : Nat) (l : List Rf) (r : Rf) (w : World) (hs : Sls rfLay rF w A n c l) :
    Calls Try.prog 9 #[.int .i64 m, .slice A n c, .agg #[.int .i64 r.c, .int .i64 r.e, .int .i64 r.r]] w (IsLgr A n c l (Gt.drL m l r) w) := by
  have HM := Lib.hid (fun W (hW : Below w.heap.size w W) => rgright_any m A c n l W (hs.later hW))
  have HMi := Lib.hid (fun x W => mine_any x r W)
  have hlen := hs.len
  have HK := kn1 w 24 #[.int .i64 r.c, .int .i64 r.e, .int .i64 r.r]
  unfold IsB IsLgr at *
  by_cases hr : Gt.Right m l
  case neg =>
    rw [decide_eq_false hr] at HM
    rw [Gt.dr_no hr]
    clear hr hs hlen HMi
    go_enter Try.func9, Try.ntmps9
    go_wp2_with fail
    refine (HM.out _ HK.out.b).mono ?_; rintro e w1 ⟨rfl, b1⟩
    replace HK := Lib.hid (HK.out.call b1); clear b1
    go_wp2_with fail
    go_ret
    exact ⟨A, n, c, rfl, .inr ⟨rfl, rfl, rfl, rfl⟩, HK.out.b⟩
  case pos =>
  rw [decide_eq_true hr] at HM
  rw [Gt.dr_yes hr]
  have HS := Lib.hid hs
  have h5 := Lck.right_len hr.2.2.2
  rw [hlen] at h5
  have HTake : Hid (l.take n = l) := Lib.hid (by rw [← hlen]; exact List.take_length)
  have HTl : Hid (∀ k, k ≤ n → (Lck.wo (l.take k) r).length ≤ k) := Lib.hid fun k hk => Nat.le_trans (Lck.wo_le _ _) (by rw [List.length_take]; omega)
  clear hs hr hlen
  go_enter Try.func9, Try.ntmps9
  go_wp2_with fail
  refine (HM.out _ HK.out.b).mono ?_; rintro e w1 ⟨rfl, b1⟩
  replace HK := Lib.hid (HK.out.call b1); clear b1
  clear HM
  replace HK := Lib.hid (HK.out.nilR rfLay)
  simp only [List.nil_append] at HK
  go_wp2_with fail
  go_loopw [7, 8] (fun vs vi wr => ∃ (k : Nat) (A1 : Option Addr) (c1 N : Nat), k ≤ n ∧ vs = .slice A1 N c1 ∧ vi = .int .i64 k ∧ Hid ((Lck.wo (l.take k) r).length = N) ∧ Hid (Kn w.heap.size w wr [(w.heap.size, 24, #[.int .i64 r.c, .int .i64 r.e, .int .i64 r.r])] [row rfLay (.slice A1 N c1) (Lck.wo (l.take k) r)])) (fun _ vi _ => n - (intOf vi).toNat)
  case atStart => exact ⟨0, none, 0, 0, Nat.zero_le _, rfl, rfl, Lib.hid rfl, HK⟩
  case round =>
    clear HK
    obtain ⟨k, A1, c1, N, hk, rfl, rfl, hN, HK⟩ := hrel
    have hk1 : (0 : Int) ≤ (k : Int) := by omega
    by_cases hlt : k < n
    · have hk2 : (k : Int) < (n : Int) := by omega
      have hk3 : k < 9223372036854775807 := by omega
      obtain ⟨x, hx, _⟩ := HS.out.get hlt
      obtain ⟨b, o, rfl, hat⟩ := HS.out.at (Nat.lt_of_le_of_lt (Nat.zero_le _) hlt)
      have HX := Lib.hid (fun W hW => hat W hW k x hx)
      have hNk : N ≤ k := by rw [← hN.out]; exact HTl.out k hk
      replace HMi := Lib.hid (fun W => HMi.out x W)
      by_cases hm : Lck.mine x r
      · have HE := Lib.hid (Lck.wo_take_out hx hm)
        rw [decide_eq_true hm] at HMi
        clear hat hx hm
        go_wp2_with fail
        refine wp_region_held_drew (S := (fun W => Hid (Kn w.heap.size w W [(w.heap.size, 24, #[.int .i64 r.c, .int .i64 r.e, .int .i64 r.r])] [row rfLay (.slice A1 N c1) (Lck.wo (l.take k) r)]))) (by kernel_rfl) ?_ (fun hHeld => ?_)
        · (try dsimp only); exact Lib.hid HK.out.drew
        refine wpAnyH_take (i := 0) (oi := ⟨some 20, _, _, _, _, _⟩) (v := ?_) rfl (by kernel_rfl) (by kernel_rfl) (by kernel_rfl) (fun _ _ _ h => h) (Or.inl ⟨by rfl, ?_⟩) (by assumption) ?_
        rotate_left
        · (intro w hSw; (try dsimp only at hSw); go_simp; try with_reducible rfl)
        try simp only [Act.put, List.setIfInBounds_toArray, List.set_cons_zero, List.set_cons_succ]
        refine wpAnyH_take (i := 1) (oi := ⟨some 21, _, _, _, _, _⟩) (v := ?_) rfl (by kernel_rfl) (by kernel_rfl) (by kernel_rfl) (fun _ _ _ h => h) (Or.inl ⟨by rfl, ?_⟩) (by assumption) ?_
        rotate_left
        · (intro w hSw; (try dsimp only at hSw); go_simp; try with_reducible rfl)
        try simp only [Act.put, List.setIfInBounds_toArray, List.set_cons_zero, List.set_cons_succ]
        refine wpAnyH_take (i := 2) (oi := ⟨some 22, _, _, _, _, _⟩) (v := ?_) rfl (by kernel_rfl) (by kernel_rfl) (by kernel_rfl) (fun _ _ _ h => h) (Or.inl ⟨by rfl, ?_⟩) (by assumption) ?_
        rotate_left
        · (intro w hSw; refine Eq.trans (exec_ixr (i := k) _ _ (by rfl) (by rfl) (by rfl) hlt) ?_; with_reducible rfl)
        try simp only [Act.put, List.setIfInBounds_toArray, List.set_cons_zero, List.set_cons_succ]
        refine wpAnyH_take (i := 3) (oi := ⟨some 23, _, _, _, _, _⟩) (v := ?_) rfl (by kernel_rfl) (by kernel_rfl) (by kernel_rfl) (fun _ _ _ h => h) (Or.inl ⟨by rfl, ?_⟩) (by assumption) ?_
        rotate_left
        · (intro w hSw; refine Eq.trans (exec_lr (x := x) (off := o + k * 3) _ (by rfl) (by rfl) (HX.out _ hSw.out.b)) ?_; with_reducible rfl)
        try simp only [Act.put, List.setIfInBounds_toArray, List.set_cons_zero, List.set_cons_succ]
        refine wpAnyH_take (i := 4) (oi := ⟨some 24, _, _, _, _, _⟩) (v := ?_) rfl (by kernel_rfl) (by kernel_rfl) (by kernel_rfl) (fun _ _ _ h => h) (Or.inl ⟨by rfl, ?_⟩) (by assumption) ?_
        rotate_left
        · (intro w hSw; refine Eq.trans (kexec_lr hSw 0 _ (by rfl) (by rfl) (by rfl)) ?_; with_reducible rfl)
        try simp only [Act.put, List.setIfInBounds_toArray, List.set_cons_zero, List.set_cons_succ]
        refine wpAnyH_ready (rs := [5]) (by kernel_rfl) (by simp) ?_
        refine AllReadyH.cons (o := ⟨some 25, _, _, _, _, _⟩) rfl (fun K hK => ?_) AllReadyH.nil
        go_simp
        go_at_call 19
        refine (HMi.out _).mono ?_; rintro e w5 ⟨rfl, b5⟩; have hs := Lib.hid (hHeld.out.call b5); clear b5
        refine hK.out _ _ hs (fun hHeld => ?_)
        clear hK K
        try simp only [Act.put, List.setIfInBounds_toArray, List.set_cons_zero, List.set_cons_succ]
        refine wpAnyH_take (i := 6) (oi := ⟨some 26, _, _, _, _, _⟩) (v := ?_) rfl (by kernel_rfl) (by kernel_rfl) (by kernel_rfl) (fun _ _ _ h => h) (Or.inl ⟨by rfl, ?_⟩) (by assumption) ?_
        rotate_left
        · (intro w hSw; (try dsimp only at hSw); go_simp; try with_reducible rfl)
        try simp only [Act.put, List.setIfInBounds_toArray, List.set_cons_zero, List.set_cons_succ]
        refine wpAnyH_done (by kernel_rfl) ?_ _
        replace HK := hHeld
        clear hHeld
        go_wp2_with (first | refine wpList_exe (exec_add1 (j := k) _ (by rfl) (by rfl) hk3) (by rfl) ?_)
        refine ⟨⟨k + 1, A1, c1, N, hlt, rfl, rfl, Lib.hid (by rw [HE.out, hN.out]), ?_⟩, by simp [intOf]; omega⟩
        rw [HE.out]
        exact HK
      · have HE := Lib.hid (Lck.wo_take_in hx hm)
        rw [decide_eq_false hm] at HMi
        have HN2 : Hid ((Lck.wo (l.take k) r ++ [x]).length = N + 1) := Lib.hid (by rw [List.length_append, hN.out]; rfl)
        have HL2 := grow_ok (La := rfLay) HN2 (by show (N + 1) * 24 ≤ _; omega) (by omega)
        clear hat hx hm
        go_wp2_with fail
        refine wp_region_held_drew (S := (fun W => Hid (Kn w.heap.size w W [(w.heap.size, 24, #[.int .i64 r.c, .int .i64 r.e, .int .i64 r.r])] [row rfLay (.slice A1 N c1) (Lck.wo (l.take k) r)]))) (by kernel_rfl) ?_ (fun hHeld => ?_)
        · (try dsimp only); exact Lib.hid HK.out.drew
        refine wpAnyH_take (i := 0) (oi := ⟨some 20, _, _, _, _, _⟩) (v := ?_) rfl (by kernel_rfl) (by kernel_rfl) (by kernel_rfl) (fun _ _ _ h => h) (Or.inl ⟨by rfl, ?_⟩) (by assumption) ?_
        rotate_left
        · (intro w hSw; (try dsimp only at hSw); go_simp; try with_reducible rfl)
        try simp only [Act.put, List.setIfInBounds_toArray, List.set_cons_zero, List.set_cons_succ]
        refine wpAnyH_take (i := 1) (oi := ⟨some 21, _, _, _, _, _⟩) (v := ?_) rfl (by kernel_rfl) (by kernel_rfl) (by kernel_rfl) (fun _ _ _ h => h) (Or.inl ⟨by rfl, ?_⟩) (by assumption) ?_
        rotate_left
        · (intro w hSw; (try dsimp only at hSw); go_simp; try with_reducible rfl)
        try simp only [Act.put, List.setIfInBounds_toArray, List.set_cons_zero, List.set_cons_succ]
        refine wpAnyH_take (i := 2) (oi := ⟨some 22, _, _, _, _, _⟩) (v := ?_) rfl (by kernel_rfl) (by kernel_rfl) (by kernel_rfl) (fun _ _ _ h => h) (Or.inl ⟨by rfl, ?_⟩) (by assumption) ?_
        rotate_left
        · (intro w hSw; refine Eq.trans (exec_ixr (i := k) _ _ (by rfl) (by rfl) (by rfl) hlt) ?_; with_reducible rfl)
        try simp only [Act.put, List.setIfInBounds_toArray, List.set_cons_zero, List.set_cons_succ]
        refine wpAnyH_take (i := 3) (oi := ⟨some 23, _, _, _, _, _⟩) (v := ?_) rfl (by kernel_rfl) (by kernel_rfl) (by kernel_rfl) (fun _ _ _ h => h) (Or.inl ⟨by rfl, ?_⟩) (by assumption) ?_
        rotate_left
        · (intro w hSw; refine Eq.trans (exec_lr (x := x) (off := o + k * 3) _ (by rfl) (by rfl) (HX.out _ hSw.out.b)) ?_; with_reducible rfl)
        try simp only [Act.put, List.setIfInBounds_toArray, List.set_cons_zero, List.set_cons_succ]
        refine wpAnyH_take (i := 4) (oi := ⟨some 24, _, _, _, _, _⟩) (v := ?_) rfl (by kernel_rfl) (by kernel_rfl) (by kernel_rfl) (fun _ _ _ h => h) (Or.inl ⟨by rfl, ?_⟩) (by assumption) ?_
        rotate_left
        · (intro w hSw; refine Eq.trans (kexec_lr hSw 0 _ (by rfl) (by rfl) (by rfl)) ?_; with_reducible rfl)
        try simp only [Act.put, List.setIfInBounds_toArray, List.set_cons_zero, List.set_cons_succ]
        refine wpAnyH_ready (rs := [5]) (by kernel_rfl) (by simp) ?_
        refine AllReadyH.cons (o := ⟨some 25, _, _, _, _, _⟩) rfl (fun K hK => ?_) AllReadyH.nil
        go_simp
        go_at_call 19
        refine (HMi.out _).mono ?_; rintro e w5 ⟨rfl, b5⟩; have hs := Lib.hid (hHeld.out.call b5); clear b5
        refine hK.out _ _ hs (fun hHeld => ?_)
        clear hK K
        try simp only [Act.put, List.setIfInBounds_toArray, List.set_cons_zero, List.set_cons_succ]
        refine wpAnyH_take (i := 6) (oi := ⟨some 26, _, _, _, _, _⟩) (v := ?_) rfl (by kernel_rfl) (by kernel_rfl) (by kernel_rfl) (fun _ _ _ h => h) (Or.inl ⟨by rfl, ?_⟩) (by assumption) ?_
        rotate_left
        · (intro w hSw; (try dsimp only at hSw); go_simp; try with_reducible rfl)
        try simp only [Act.put, List.setIfInBounds_toArray, List.set_cons_zero, List.set_cons_succ]
        refine wpAnyH_done (by kernel_rfl) ?_ _
        replace HK := hHeld
        clear hHeld
        go_wp2_with (first | refine wpList_exe (exec_lr (x := x) (off := o + k * 3) _ (by rfl) (by rfl) (HX.out _ HK.out.b)) (by rfl) ?_ | (refine wpList_mk1 rfLay (p := x) HK (by decide) rfl _ rfl rfl rfl ?_; intro _ g5 HK'; simp only [List.cons_append, List.nil_append] at HK'; have HR := Lib.hid (HK'.out.own 1 rfl).rd; replace HK := HK'; clear HK') | (at_builtin; refine wpList_kmore HK rfLay 0 rfl _ _ rfl rfl rfl [x] rfl rfl HR HL2 (N := N + 1) HN2 ?_; intro A4 c4 _ HK'; simp only [List.set] at HK'; replace HK := HK'; clear HK') | refine wpList_exe (exec_add1 (j := k) _ (by rfl) (by rfl) hk3) (by rfl) ?_)
        refine ⟨⟨k + 1, A4, c4, N + 1, hlt, rfl, rfl, Lib.hid (by rw [HE.out, HN2.out]), ?_⟩, by simp [intOf]; omega⟩
        rw [HE.out]
        exact Lib.hid (HK.out.takeR 1)
    · obtain rfl : k = n := by omega
      rw [HTake.out] at HK
      go_wp2_with fail
      go_ret
      exact ⟨A1, _, c1, rfl, .inl (HK.out.own 0 rfl), HK.out.b⟩
end Go.Proofs.Ytbdfmfegmfmghaa
