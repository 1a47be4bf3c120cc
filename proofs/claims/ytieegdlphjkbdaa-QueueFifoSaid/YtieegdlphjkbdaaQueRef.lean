/-
  What the document's Right, Push and Pop return.
  No condition but what the slice reads as, and that floats' bits fit 64.
-/
import Derived.Test.YtieegdlphjkbdaaQuePush
set_option linter.unusedSimpArgs false
set_option linter.unusedVariables false
namespace Go.Proofs.Ytieegdlphjkbdaa
open Go.RowKit

set_option maxRecDepth 100000 in
set_option maxHeartbeats 6400000 in
theorem rqright_any (N : Int) (A : Option Addr) (c n : Nat) (l : List Val.V) (w : World) (hs : Sls vaLay vF w A n c l) :
    Calls Try.prog 13 #[.int .i64 N, .slice A n c] w (IsB (decide (Que.Right N l)) w) := by
  have HK := Lib.hid (Kn.start w)
  by_cases h1 : N < 1
  · have hd : decide (Que.Right N l) = false := decide_eq_false fun h => by have := h.lo; omega
    rw [hd]
    clear hs hd
    go_enter Try.func13, Try.ntmps13
    go_wp2_with fail
    go_ret
    exact ⟨rfl, HK.out.b⟩
  by_cases h2 : 8 < N
  · have hd : decide (Que.Right N l) = false := decide_eq_false fun h => by have := h.hi; omega
    rw [hd]
    clear hs hd
    go_enter Try.func13, Try.ntmps13
    go_wp2_with fail
    go_ret
    exact ⟨rfl, HK.out.b⟩
  by_cases h3 : N < (n : Int)
  · have hd : decide (Que.Right N l) = false := decide_eq_false fun h => by have := h.len; rw [hs.len] at this; omega
    rw [hd]
    clear hs hd
    go_enter Try.func13, Try.ntmps13
    go_wp2_with fail
    go_ret
    exact ⟨rfl, HK.out.b⟩
  obtain ⟨hno, hyes⟩ := Que.right_told (n := N) (l := l) hs.len (by omega) (by omega) (by omega)
  have HNo := Lib.hid hno
  have HYes := Lib.hid hyes
  have HS := Lib.hid hs
  have hn9 : n < 9 := by omega
  clear hs hno hyes
  generalize decide (Que.Right N l) = r at *
  go_enter Try.func13, Try.ntmps13
  go_wp2_with fail
  go_loopw [5] (fun vi wr => ∃ k : Nat, k ≤ n ∧ vi = .int .i64 k ∧ Hid (∀ (i : Nat) v, i < k → l[i]? = some v → Que.vchk v = 0) ∧ Hid (Kn w.heap.size w wr [] [])) (fun vi _ => n - (intOf vi).toNat)
  case atStart => exact ⟨0, Nat.zero_le _, rfl, Lib.hid (fun i v hi => by omega), HK⟩
  case round =>
    clear HK
    obtain ⟨k, hk, rfl, HGo, HK⟩ := hrel
    have hk1 : (0 : Int) ≤ (k : Int) := by omega
    by_cases hlt : k < n
    · have hk2 : (k : Int) < (n : Int) := by omega
      have hk3 : k < 9223372036854775807 := by omega
      obtain ⟨x, hx, hf⟩ := HS.out.get hlt
      obtain ⟨b, o, rfl, hat⟩ := HS.out.at (Nat.lt_of_le_of_lt (Nat.zero_le _) hlt)
      have HX := Lib.hid (fun W hW => hat W hW k x hx)
      have HV := Lib.hid (fun W => rcheck_any x W hf)
      have HN := Lib.hid (HNo.out k x hx)
      have HGk : Hid (Que.vchk x = 0 → ∀ (i : Nat) v, i < k + 1 → l[i]? = some v → Que.vchk v = 0) := Lib.hid fun h i v hi hv => by
        by_cases hik : i = k
        · subst hik; rw [hx] at hv; injection hv with hv; subst hv; exact h
        · exact HGo.out i v (by omega) hv
      clear hat hx hf
      by_cases hkind : x.k = 0
      · have hz : ¬ Que.vchk x = 0 := by rw [Que.vchk_none hkind]; decide
        have HR := Lib.hid (HN.out hz)
        obtain ⟨vk, vn, vf, vs⟩ := x
        obtain rfl : vk = 0 := hkind
        clear HV HN HGk hz
        go_wp2_with (first | refine wpList_of_exec (by rfl) (exec_lvk (off := o + k * 4) _ (by rfl) (by rfl) (HX.out _ HK.out.b)) ?_)
        go_ret
        exact ⟨by rw [HR.out] <;> rfl, HK.out.b⟩
      · rw [Que.vchk_some hkind] at HN HGk
        obtain ⟨vk, vn, vf, vs⟩ := x
        have hkind2 : (vk == 0) = false := by simpa using hkind
        unfold vv IsE at HV
        simp only at HV
        generalize Val.chk ⟨vk, vn, vf, vs⟩ = z at *
        clear hkind
        go_wp2_with (first | refine wpList_of_exec (by rfl) (exec_lvk (off := o + k * 4) _ (by rfl) (by rfl) (HX.out _ HK.out.b)) ?_ | refine wpList_of_exec (by rfl) (exec_lva (off := o + k * 4) _ (by rfl) (by rfl) (HX.out _ HK.out.b)) ?_)
        refine (HV.out _).mono ?_; rintro e w1 ⟨rfl, b1⟩
        replace HK := Lib.hid (HK.out.call b1); clear b1
        by_cases hz : z = 0
        · subst hz
          replace HGk := Lib.hid (HGk.out rfl)
          go_wp2_with (first | refine wpList_of_exec (by rfl) (exec_add1 (j := k) _ (by rfl) (by rfl) hk3) ?_)
          exact ⟨⟨k + 1, hlt, rfl, HGk, HK⟩, by simp [intOf]; omega⟩
        · have hz2 : (z != 0) = true := by simpa using hz
          have HR := Lib.hid (HN.out hz)
          go_wp2_with fail
          go_ret
          exact ⟨by rw [HR.out] <;> rfl, HK.out.b⟩
    · obtain rfl : k = n := by omega
      have HR : Hid (r = true) := Lib.hid (HYes.out HGo.out)
      go_wp2_with fail
      go_ret
      exact ⟨by rw [HR.out] <;> rfl, HK.out.b⟩
/-- A slice told, new or the one that was handed in, and an error; a value between. -/
def IsQPr (A : Option Addr) (n c : Nat) (l r : List Val.V) (x : Int) (w : World) (e : Ending) (w' : World) : Prop := ∃ A' n' c', e = .returned (.tuple #[.slice A' n' c', .int .i64 x]) ∧ OwnOr vaLay w.heap.size w' A n c l A' n' c' r ∧ Below w.heap.size w w'
def IsQVr (A : Option Addr) (n c : Nat) (l r : List Val.V) (v : Val.V) (x : Int) (w : World) (e : Ending) (w' : World) : Prop := ∃ A' n' c', e = .returned (.tuple #[.slice A' n' c', vv v, .int .i64 x]) ∧ OwnOr vaLay w.heap.size w' A n c l A' n' c' r ∧ Below w.heap.size w w'
theorem qpr_same {A : Option Addr} {n c : Nat} {l : List Val.V} {x : Int} {w w' : World} (hb : Below w.heap.size w w') : IsQPr A n c l l x w (.returned (.tuple #[.slice A n c, .int .i64 x])) w' := ⟨A, n, c, rfl, .inr ⟨rfl, rfl, rfl, rfl⟩, hb⟩
set_option maxRecDepth 100000 in
set_option maxHeartbeats 12800000 in
theorem rpush_any (N : Int) (A : Option Addr) (c n : Nat) (l : List Val.V) (v : Val.V) (w : World) (hs : Sls vaLay vF w A n c l) (hv : vF v) :
    Calls Try.prog 8 #[.int .i64 N, .slice A n c, vv v] w (IsQPr A n c l (Que.psL N l v) (Que.psE N l v) w) := by
  have HM := Lib.hid (fun W (hW : Below w.heap.size w W) => rqright_any N A c n l W (hs.later hW))
  have HC := Lib.hid (fun W => rcheck_any v W hv)
  have HS := Lib.hid hs
  have hlen := hs.len
  by_cases hr : Que.Right N l
  case neg =>
    rw [decide_eq_false hr] at HM
    obtain ⟨e1, e2⟩ := Que.ps_bad hr v
    rw [e1, e2]
    clear e1 e2 hr hs hv HC hlen
    obtain ⟨k, m, f, s⟩ := v
    unfold vv IsB at *
    simp only
    have HK := kn1 w 25 (vC k m f s)
    unfold vC at HK
    go_enter Try.func8, Try.ntmps8
    go_wp2_with fail
    refine (HM.out _ HK.out.b).mono ?_; rintro e w1 ⟨rfl, b1⟩
    replace HK := Lib.hid (HK.out.call b1); clear b1
    go_wp2_with fail
    exact ret_t2 Try.results8 rfl rfl rfl (qpr_same HK.out.b)
  case pos =>
  rw [decide_eq_true hr] at HM
  have h9 : n < 9 := by have h1 := hr.len; have h2 := hr.hi; omega
  by_cases hkind : v.k = 0
  · have hz : ¬ Que.vchk v = 0 := by rw [Que.vchk_none hkind]; decide
    obtain ⟨e1, e2⟩ := Que.ps_chk hr hz
    rw [e1, e2, Que.vchk_none hkind]
    clear e1 e2 hr hs hv HC hlen hz
    obtain ⟨k, m, f, s⟩ := v
    obtain rfl : k = 0 := hkind
    unfold vv IsB at *
    simp only
    have HK := kn1 w 25 (vC 0 m f s)
    unfold vC at HK
    go_enter Try.func8, Try.ntmps8
    go_wp2_with fail
    refine (HM.out _ HK.out.b).mono ?_; rintro e w1 ⟨rfl, b1⟩
    replace HK := Lib.hid (HK.out.call b1); clear b1
    go_wp2_with (first | refine wpList_of_exec (by rfl) (kexec_lc HK 3 _ (by rfl) 0 (by rfl) (by rfl) (v := .int .i64 0) (by rfl) Try.underlying3 rfl) ?_)
    exact ret_t2 Try.results8 rfl rfl rfl (qpr_same HK.out.b)
  have hvc := Que.vchk_some hkind
  have HBad : Hid (¬ Val.chk v = 0 → Que.psE N l v = Val.chk v ∧ Que.psL N l v = l) := Lib.hid fun h => by
    rw [← hvc] at h ⊢
    exact Que.ps_chk hr h
  have HFull : Hid (Val.chk v = 0 → (n : Int) = N → Que.psE N l v = 6 ∧ Que.psL N l v = l) := Lib.hid fun h h8 => Que.ps_full hr (hvc.trans h) (by rw [hlen]; exact h8)
  have HOk : Hid (Val.chk v = 0 → ¬ (n : Int) = N → Que.psE N l v = 0 ∧ Que.psL N l v = l ++ [v]) := Lib.hid fun h h8 => Que.ps_ok hr (hvc.trans h) (by rw [hlen]; exact h8)
  have HLn := Lib.hid hlen.symm
  have HN1 : Hid ((([] : List Val.V) ++ l).length = n) := Lib.hid (by rw [List.nil_append]; exact hlen)
  have HN2 : Hid ((l ++ [v]).length = n + 1) := Lib.hid (by rw [List.length_append, hlen]; rfl)
  have HG1 := grow_ok (La := vaLay) HN1 (by show n * 40 ≤ _; omega) (by omega)
  have HG2 := grow_ok (La := vaLay) HN2 (by show (n + 1) * 40 ≤ _; omega) (by omega)
  clear hs hv hlen hvc hr
  generalize Que.psE N l v = X at *
  generalize Que.psL N l v = r at *
  generalize Val.chk v = z at *
  obtain ⟨k, m, f, s⟩ := v
  have hkind2 : (k == 0) = false := by simpa using hkind
  unfold vv IsE IsB at *
  simp only at HC ⊢
  clear hkind
  have HK := kn1 w 25 (vC k m f s)
  unfold vC at HK
  go_enter Try.func8, Try.ntmps8
  go_wp2_with fail
  refine (HM.out _ HK.out.b).mono ?_; rintro e w1 ⟨rfl, b1⟩
  replace HK := Lib.hid (HK.out.call b1); clear b1
  go_wp2_with (first | refine wpList_of_exec (by rfl) (kexec_lc HK 3 _ (by rfl) 0 (by rfl) (by rfl) (v := .int .i64 k) (by rfl) Try.underlying3 rfl) ?_ | refine wpList_of_exec (by rfl) (kexec_vv HK 0 _ (by rfl) (by rfl) (by rfl)) ?_)
  refine (HC.out _).mono ?_; rintro e w1 ⟨rfl, b1⟩
  replace HK := Lib.hid (HK.out.call b1); clear b1
  by_cases hz : z = 0
  case neg =>
    obtain ⟨rfl, rfl⟩ := HBad.out hz
    have hz2 : (X != 0) = true := by simpa using hz
    clear HBad HFull HOk
    go_wp2_with fail
    exact ret_t2 Try.results8 rfl rfl rfl (qpr_same HK.out.b)
  case pos =>
  subst hz
  replace HFull := Lib.hid (HFull.out rfl)
  replace HOk := Lib.hid (HOk.out rfl)
  clear HBad
  by_cases h8 : (n : Int) = N
  · have h82 : ((n : Int) == N) = true := by simpa using h8
    obtain ⟨rfl, rfl⟩ := HFull.out h8
    clear h8 HFull HOk
    go_wp2_with fail
    exact ret_t2 Try.results8 rfl rfl rfl (qpr_same HK.out.b)
  · have h82 : ((n : Int) == N) = false := by simpa using h8
    obtain ⟨rfl, rfl⟩ := HOk.out h8
    clear h8 HFull HOk HM HC
    go_wp2_with fail
    have HK0 := Lib.hid HK.out.drew
    refine wp_region_held_drew (S := (fun W => Hid (Kn w.heap.size w W [(w.heap.size, 25, vC k m f s)] []))) (by kernel_rfl) ?_ (fun hHeld => ?_)
    · (try dsimp only); exact Lib.hid HK.out.drew
    refine wpAnyH_take (i := 1) (oi := ⟨some 31, _, _, _, _, _⟩) (v := ?_) rfl (by kernel_rfl) (by kernel_rfl) (by kernel_rfl) (fun _ _ _ h => h) (Or.inl ⟨by rfl, ?_⟩) (by assumption) ?_
    rotate_left
    · (intro w hSw; (try dsimp only at hSw); go_simp; try with_reducible rfl)
    try simp only [Act.put, List.setIfInBounds_toArray, List.set_cons_zero, List.set_cons_succ]
    refine wpAnyH_take (i := 3) (oi := ⟨some 33, _, _, _, _, _⟩) (v := ?_) rfl (by kernel_rfl) (by kernel_rfl) (by kernel_rfl) (fun _ _ _ h => h) (Or.inl ⟨by rfl, ?_⟩) (by assumption) ?_
    rotate_left
    · (intro w hSw; refine Eq.trans (kexec_vv hSw 0 _ (by rfl) (by rfl) (by rfl)) ?_; with_reducible rfl)
    try simp only [Act.put, List.setIfInBounds_toArray, List.set_cons_zero, List.set_cons_succ]
    refine wpAnyH_ready (rs := [0, 4]) (by kernel_rfl) (by simp) ?_
    refine AllReadyH.cons (o := ⟨some 30, _, _, _, _, _⟩) rfl (fun K hK => ?_) (AllReadyH.cons (o := ⟨some 34, _, _, _, _, _⟩) rfl (fun K hK => ?_) AllReadyH.nil)
    refine step_mk0 vaLay HK0 (by rfl) (by rfl) ?_; intro w2 g2 HK' _; simp only [List.cons_append, List.nil_append] at HK'; replace HK0 := HK'; clear HK'; have hs := Lib.hid (HK0.out.takeR 0)
    refine hK.out _ _ hs (fun hHeld => ?_)
    clear hK K
    try simp only [Act.put, List.setIfInBounds_toArray, List.set_cons_zero, List.set_cons_succ]
    refine wpAnyH_ready (rs := [2, 4]) (by kernel_rfl) (by simp) ?_
    refine AllReadyH.cons (o := ⟨some 32, _, _, _, _, _⟩) rfl (fun K hK => ?_) (AllReadyH.cons (o := ⟨some 34, _, _, _, _, _⟩) rfl (fun K hK => ?_) AllReadyH.nil)
    (first | refine step_more2 vaLay HK0 0 (by rfl) _ _ (by rfl) (by rfl) (by rfl) l (by rfl) HLn.out (Lib.hid (let h := HS.out.later HK0.out.b; And.intro h.rd h.nl)) HG1 (N := n) HN1 ?_ | refine step_more2 vaLay HK0 1 (by rfl) _ _ (by rfl) (by rfl) (by rfl) l (by rfl) HLn.out (Lib.hid (let h := HS.out.later HK0.out.b; And.intro h.rd h.nl)) HG1 (N := n) HN1 ?_); intro A4 c4 w4 HK'; simp only [List.set, List.nil_append] at HK'; replace HK0 := HK'; clear HK'; have hs := Lib.hid (HK0.out.takeR 0)
    refine hK.out _ _ hs (fun hHeld => ?_)
    clear hK K
    try simp only [Act.put, List.setIfInBounds_toArray, List.set_cons_zero, List.set_cons_succ]
    refine wpAnyH_ready (rs := [4]) (by kernel_rfl) (by simp) ?_
    refine AllReadyH.cons (o := ⟨some 34, _, _, _, _, _⟩) rfl (fun K hK => ?_) AllReadyH.nil
    refine step_mk1 vaLay (p := ⟨k, m, f, s⟩) HK0 (by decide) (by rfl) _ (by rfl) (by rfl) (by rfl) ?_; intro w5 g5 HK' _; simp only [List.cons_append, List.nil_append] at HK'; replace HK0 := HK'; clear HK'; have hs := Lib.hid (HK0.out.takeR 0)
    refine hK.out _ _ hs (fun hHeld => ?_)
    clear hK K
    try simp only [Act.put, List.setIfInBounds_toArray, List.set_cons_zero, List.set_cons_succ]
    refine wpAnyH_ready (rs := [5]) (by kernel_rfl) (by simp) ?_
    refine AllReadyH.cons (o := ⟨some 35, _, _, _, _, _⟩) rfl (fun K hK => ?_) AllReadyH.nil
    (first | refine step_more2 vaLay HK0 0 (by rfl) _ _ (by rfl) (by rfl) (by rfl) [⟨k, m, f, s⟩] (by rfl) (by rfl) (Lib.hid (HK0.out.own 1 rfl).rd) HG2 (N := n + 1) HN2 ?_ | refine step_more2 vaLay HK0 1 (by rfl) _ _ (by rfl) (by rfl) (by rfl) [⟨k, m, f, s⟩] (by rfl) (by rfl) (Lib.hid (HK0.out.own 0 rfl).rd) HG2 (N := n + 1) HN2 ?_); intro A6 c6 w6 HK'; simp only [List.set] at HK'; replace HK0 := HK'; clear HK'; have hs := Lib.hid (HK0.out.takeR 0)
    refine hK.out _ _ hs (fun hHeld => ?_)
    clear hK K
    try simp only [Act.put, List.setIfInBounds_toArray, List.set_cons_zero, List.set_cons_succ]
    refine wpAnyH_take (i := 6) (oi := ⟨some 6, _, _, _, _, _⟩) (v := ?_) rfl (by kernel_rfl) (by kernel_rfl) (by kernel_rfl) (fun _ _ _ h => h) (Or.inl ⟨by rfl, ?_⟩) (by assumption) ?_
    rotate_left
    · (intro w hSw; (try dsimp only at hSw); go_simp; try with_reducible rfl)
    try simp only [Act.put, List.setIfInBounds_toArray, List.set_cons_zero, List.set_cons_succ]
    refine wpAnyH_take (i := 7) (oi := ⟨some 7, _, _, _, _, _⟩) (v := ?_) rfl (by kernel_rfl) (by kernel_rfl) (by kernel_rfl) (fun _ _ _ h => h) (Or.inl ⟨by rfl, ?_⟩) (by assumption) ?_
    rotate_left
    · (intro w hSw; (try dsimp only at hSw); go_simp; try with_reducible rfl)
    try simp only [Act.put, List.setIfInBounds_toArray, List.set_cons_zero, List.set_cons_succ]
    refine wpAnyH_done (by kernel_rfl) ?_ _
    rotate_left
    refine step_mk1 vaLay (p := ⟨k, m, f, s⟩) HK0 (by decide) (by rfl) _ (by rfl) (by rfl) (by rfl) ?_; intro w5 g5 HK' _; simp only [List.cons_append, List.nil_append] at HK'; replace HK0 := HK'; clear HK'; have hs := Lib.hid (HK0.out.takeR 0)
    refine hK.out _ _ hs (fun hHeld => ?_)
    clear hK K
    try simp only [Act.put, List.setIfInBounds_toArray, List.set_cons_zero, List.set_cons_succ]
    refine wpAnyH_ready (rs := [2]) (by kernel_rfl) (by simp) ?_
    refine AllReadyH.cons (o := ⟨some 32, _, _, _, _, _⟩) rfl (fun K hK => ?_) AllReadyH.nil
    (first | refine step_more2 vaLay HK0 0 (by rfl) _ _ (by rfl) (by rfl) (by rfl) l (by rfl) HLn.out (Lib.hid (let h := HS.out.later HK0.out.b; And.intro h.rd h.nl)) HG1 (N := n) HN1 ?_ | refine step_more2 vaLay HK0 1 (by rfl) _ _ (by rfl) (by rfl) (by rfl) l (by rfl) HLn.out (Lib.hid (let h := HS.out.later HK0.out.b; And.intro h.rd h.nl)) HG1 (N := n) HN1 ?_); intro A4 c4 w4 HK'; simp only [List.set, List.nil_append] at HK'; replace HK0 := HK'; clear HK'; have hs := Lib.hid (HK0.out.takeR 0)
    refine hK.out _ _ hs (fun hHeld => ?_)
    clear hK K
    try simp only [Act.put, List.setIfInBounds_toArray, List.set_cons_zero, List.set_cons_succ]
    refine wpAnyH_ready (rs := [5]) (by kernel_rfl) (by simp) ?_
    refine AllReadyH.cons (o := ⟨some 35, _, _, _, _, _⟩) rfl (fun K hK => ?_) AllReadyH.nil
    (first | refine step_more2 vaLay HK0 0 (by rfl) _ _ (by rfl) (by rfl) (by rfl) [⟨k, m, f, s⟩] (by rfl) (by rfl) (Lib.hid (HK0.out.own 1 rfl).rd) HG2 (N := n + 1) HN2 ?_ | refine step_more2 vaLay HK0 1 (by rfl) _ _ (by rfl) (by rfl) (by rfl) [⟨k, m, f, s⟩] (by rfl) (by rfl) (Lib.hid (HK0.out.own 0 rfl).rd) HG2 (N := n + 1) HN2 ?_); intro A6 c6 w6 HK'; simp only [List.set] at HK'; replace HK0 := HK'; clear HK'; have hs := Lib.hid (HK0.out.takeR 0)
    refine hK.out _ _ hs (fun hHeld => ?_)
    clear hK K
    try simp only [Act.put, List.setIfInBounds_toArray, List.set_cons_zero, List.set_cons_succ]
    refine wpAnyH_take (i := 6) (oi := ⟨some 6, _, _, _, _, _⟩) (v := ?_) rfl (by kernel_rfl) (by kernel_rfl) (by kernel_rfl) (fun _ _ _ h => h) (Or.inl ⟨by rfl, ?_⟩) (by assumption) ?_
    rotate_left
    · (intro w hSw; (try dsimp only at hSw); go_simp; try with_reducible rfl)
    try simp only [Act.put, List.setIfInBounds_toArray, List.set_cons_zero, List.set_cons_succ]
    refine wpAnyH_take (i := 7) (oi := ⟨some 7, _, _, _, _, _⟩) (v := ?_) rfl (by kernel_rfl) (by kernel_rfl) (by kernel_rfl) (fun _ _ _ h => h) (Or.inl ⟨by rfl, ?_⟩) (by assumption) ?_
    rotate_left
    · (intro w hSw; (try dsimp only at hSw); go_simp; try with_reducible rfl)
    try simp only [Act.put, List.setIfInBounds_toArray, List.set_cons_zero, List.set_cons_succ]
    refine wpAnyH_done (by kernel_rfl) ?_ _
    rotate_left
    refine step_mk1 vaLay (p := ⟨k, m, f, s⟩) HK0 (by decide) (by rfl) _ (by rfl) (by rfl) (by rfl) ?_; intro w5 g5 HK' _; simp only [List.cons_append, List.nil_append] at HK'; replace HK0 := HK'; clear HK'; have hs := Lib.hid (HK0.out.takeR 0)
    refine hK.out _ _ hs (fun hHeld => ?_)
    clear hK K
    try simp only [Act.put, List.setIfInBounds_toArray, List.set_cons_zero, List.set_cons_succ]
    refine wpAnyH_ready (rs := [0]) (by kernel_rfl) (by simp) ?_
    refine AllReadyH.cons (o := ⟨some 30, _, _, _, _, _⟩) rfl (fun K hK => ?_) AllReadyH.nil
    refine step_mk0 vaLay HK0 (by rfl) (by rfl) ?_; intro w2 g2 HK' _; simp only [List.cons_append, List.nil_append] at HK'; replace HK0 := HK'; clear HK'; have hs := Lib.hid (HK0.out.takeR 0)
    refine hK.out _ _ hs (fun hHeld => ?_)
    clear hK K
    try simp only [Act.put, List.setIfInBounds_toArray, List.set_cons_zero, List.set_cons_succ]
    refine wpAnyH_ready (rs := [2]) (by kernel_rfl) (by simp) ?_
    refine AllReadyH.cons (o := ⟨some 32, _, _, _, _, _⟩) rfl (fun K hK => ?_) AllReadyH.nil
    (first | refine step_more2 vaLay HK0 0 (by rfl) _ _ (by rfl) (by rfl) (by rfl) l (by rfl) HLn.out (Lib.hid (let h := HS.out.later HK0.out.b; And.intro h.rd h.nl)) HG1 (N := n) HN1 ?_ | refine step_more2 vaLay HK0 1 (by rfl) _ _ (by rfl) (by rfl) (by rfl) l (by rfl) HLn.out (Lib.hid (let h := HS.out.later HK0.out.b; And.intro h.rd h.nl)) HG1 (N := n) HN1 ?_); intro A4 c4 w4 HK'; simp only [List.set, List.nil_append] at HK'; replace HK0 := HK'; clear HK'; have hs := Lib.hid (HK0.out.takeR 0)
    refine hK.out _ _ hs (fun hHeld => ?_)
    clear hK K
    try simp only [Act.put, List.setIfInBounds_toArray, List.set_cons_zero, List.set_cons_succ]
    refine wpAnyH_ready (rs := [5]) (by kernel_rfl) (by simp) ?_
    refine AllReadyH.cons (o := ⟨some 35, _, _, _, _, _⟩) rfl (fun K hK => ?_) AllReadyH.nil
    (first | refine step_more2 vaLay HK0 0 (by rfl) _ _ (by rfl) (by rfl) (by rfl) [⟨k, m, f, s⟩] (by rfl) (by rfl) (Lib.hid (HK0.out.own 1 rfl).rd) HG2 (N := n + 1) HN2 ?_ | refine step_more2 vaLay HK0 1 (by rfl) _ _ (by rfl) (by rfl) (by rfl) [⟨k, m, f, s⟩] (by rfl) (by rfl) (Lib.hid (HK0.out.own 0 rfl).rd) HG2 (N := n + 1) HN2 ?_); intro A6 c6 w6 HK'; simp only [List.set] at HK'; replace HK0 := HK'; clear HK'; have hs := Lib.hid (HK0.out.takeR 0)
    refine hK.out _ _ hs (fun hHeld => ?_)
    clear hK K
    try simp only [Act.put, List.setIfInBounds_toArray, List.set_cons_zero, List.set_cons_succ]
    refine wpAnyH_take (i := 6) (oi := ⟨some 6, _, _, _, _, _⟩) (v := ?_) rfl (by kernel_rfl) (by kernel_rfl) (by kernel_rfl) (fun _ _ _ h => h) (Or.inl ⟨by rfl, ?_⟩) (by assumption) ?_
    rotate_left
    · (intro w hSw; (try dsimp only at hSw); go_simp; try with_reducible rfl)
    try simp only [Act.put, List.setIfInBounds_toArray, List.set_cons_zero, List.set_cons_succ]
    refine wpAnyH_take (i := 7) (oi := ⟨some 7, _, _, _, _, _⟩) (v := ?_) rfl (by kernel_rfl) (by kernel_rfl) (by kernel_rfl) (fun _ _ _ h => h) (Or.inl ⟨by rfl, ?_⟩) (by assumption) ?_
    rotate_left
    · (intro w hSw; (try dsimp only at hSw); go_simp; try with_reducible rfl)
    try simp only [Act.put, List.setIfInBounds_toArray, List.set_cons_zero, List.set_cons_succ]
    refine wpAnyH_done (by kernel_rfl) ?_ _
    rotate_left
    all_goals
      go_wp2_with fail
      first
        | exact ret_t2 Try.results8 rfl rfl rfl ⟨A6, _, c6, rfl, .inl (HK0.out.own 0 rfl), HK0.out.b⟩
        | exact ret_t2 Try.results8 rfl rfl rfl ⟨A6, _, c6, rfl, .inl (HK0.out.own 1 rfl), HK0.out.b⟩
set_option maxRecDepth 100000 in
set_option maxHeartbeats 12800000 in
theorem rpop_any (N : Int) (A : Option Addr) (c n : Nat) (l : List Val.V) (w : World) (hs : Sls vaLay vF w A n c l) :
    Calls Try.prog 10 #[.int .i64 N, .slice A n c] w (IsQVr A n c l (Que.ppL N l) (Que.ppV N l) (Que.ppE N l) w) := by
  have HM := Lib.hid (fun W (hW : Below w.heap.size w W) => rqright_any N A c n l W (hs.later hW))
  have hlen := hs.len
  have HK := Lib.hid (Kn.start w)
  by_cases hr : Que.Right N l
  case neg =>
    rw [decide_eq_false hr] at HM
    obtain ⟨e1, e2, e3⟩ := Que.pp_bad hr
    rw [e1, e2, e3]
    clear e1 e2 e3 hr hs hlen
    unfold Que.emp IsQVr IsB vv at *
    simp only
    go_enter Try.func10, Try.ntmps10
    go_wp2_with (first | (refine wpList_akv HK rfl rfl ?_; intro _ g1 HK'; simp only [List.cons_append, List.nil_append] at HK'; replace HK := HK'; clear HK'))
    refine (HM.out _ HK.out.b).mono ?_; rintro e w1 ⟨rfl, b1⟩
    replace HK := Lib.hid (HK.out.call b1); clear b1
    go_wp2_with (first | (refine wpList_sv (f2 := 0) HK 0 rfl _ _ rfl rfl rfl rfl ?_; intro _ HK'; simp only [List.set] at HK'; replace HK := HK'; clear HK'))
    exact ret_pve Try.results10 rfl rfl rfl rfl (HK.out.blk 0 rfl) ⟨A, n, c, rfl, .inr ⟨rfl, rfl, rfl, rfl⟩, HK.out.b⟩
  case pos =>
  rw [decide_eq_true hr] at HM
  have h9 : n < 9 := by have h1 := hr.len; have h2 := hr.hi; omega
  by_cases h0 : n = 0
  · subst h0
    obtain ⟨e1, e2, e3⟩ := Que.pp_none hr hlen
    have hl0 : l = [] := List.length_eq_zero_iff.1 hlen
    rw [e1, e2, e3]
    subst hl0
    clear e1 e2 e3 hr hs hlen h9
    unfold Que.emp IsQVr IsB vv at *
    simp only
    go_enter Try.func10, Try.ntmps10
    go_wp2_with (first | (refine wpList_akv HK rfl rfl ?_; intro _ g1 HK'; simp only [List.cons_append, List.nil_append] at HK'; replace HK := HK'; clear HK'))
    refine (HM.out _ HK.out.b).mono ?_; rintro e w1 ⟨rfl, b1⟩
    replace HK := Lib.hid (HK.out.call b1); clear b1
    go_wp2_with (first | (refine wpList_sv (f2 := 0) HK 0 rfl _ _ rfl rfl rfl rfl ?_; intro _ HK'; simp only [List.set] at HK'; replace HK := HK'; clear HK'))
    exact ret_pve Try.results10 rfl rfl rfl rfl (HK.out.blk 0 rfl) ⟨A, 0, c, rfl, .inr ⟨rfl, rfl, rfl, rfl⟩, HK.out.b⟩
  · have hpos : 0 < n := by omega
    obtain ⟨x, hx, hf⟩ := hs.get hpos
    obtain ⟨b, o, rfl, hat⟩ := hs.at hpos
    obtain ⟨e1, e2, e3⟩ := Que.pp_ok hr hx
    rw [e1, e2, e3]
    have HX := Lib.hid (fun W hW => hat W hW 0 x hx)
    have HD := Lib.hid (hs.drop (lo := 1) hpos)
    have HLn := Lib.hid HD.out.len.symm
    have HN1 : Hid ((([] : List Val.V) ++ l.drop 1).length = n - 1) := Lib.hid (by rw [List.nil_append]; exact HD.out.len)
    have HG1 := grow_ok (La := vaLay) HN1 (by show (n - 1) * 40 ≤ _; omega) (by omega)
    have hz : ((n : Int) == 0) = false := by simp; omega
    clear e1 e2 e3 hr hs hlen h9 h0 hat hx hf
    obtain ⟨k, m, f, s⟩ := x
    unfold IsQVr IsB vv at *
    simp only
    go_enter Try.func10, Try.ntmps10
    go_wp2_with (first | (refine wpList_akv HK rfl rfl ?_; intro _ g1 HK'; simp only [List.cons_append, List.nil_append] at HK'; replace HK := HK'; clear HK'))
    refine (HM.out _ HK.out.b).mono ?_; rintro e w1 ⟨rfl, b1⟩
    replace HK := Lib.hid (HK.out.call b1); clear b1
    go_wp2_with fail
    have HK0 := Lib.hid HK.out.drew
    clear HM
    refine wp_region_held_drew (S := (fun W => Hid (Below w.heap.size w W))) (by kernel_rfl) ?_ (fun hHeld => ?_)
    · (try dsimp only); exact Lib.hid HK0.out.b
    refine wpAnyH_take (i := 1) (oi := ⟨some 19, _, _, _, _, _⟩) (v := ?_) rfl (by kernel_rfl) (by kernel_rfl) (by kernel_rfl) (fun _ _ _ h => h) (Or.inl ⟨by rfl, ?_⟩) (by assumption) ?_
    rotate_left
    · (intro w hSw; (try dsimp only at hSw); go_simp; try with_reducible rfl)
    try simp only [Act.put, List.setIfInBounds_toArray, List.set_cons_zero, List.set_cons_succ]
    refine wpAnyH_take (i := 2) (oi := ⟨some 20, _, _, _, _, _⟩) (v := ?_) rfl (by kernel_rfl) (by kernel_rfl) (by kernel_rfl) (fun _ _ _ h => h) (Or.inl ⟨by rfl, ?_⟩) (by assumption) ?_
    rotate_left
    · (intro w hSw; refine Eq.trans (exec_svl (lo := 1) _ _ (by rfl) (by rfl) (by rfl) hpos) ?_; with_reducible rfl)
    try simp only [Act.put, List.setIfInBounds_toArray, List.set_cons_zero, List.set_cons_succ]
    refine wpAnyH_take (i := 4) (oi := ⟨some 22, _, _, _, _, _⟩) (v := ?_) rfl (by kernel_rfl) (by kernel_rfl) (by kernel_rfl) (fun _ _ _ h => h) (Or.inl ⟨by rfl, ?_⟩) (by assumption) ?_
    rotate_left
    · (intro w hSw; (try dsimp only at hSw); go_simp; try with_reducible rfl)
    try simp only [Act.put, List.setIfInBounds_toArray, List.set_cons_zero, List.set_cons_succ]
    refine wpAnyH_take (i := 5) (oi := ⟨some 23, _, _, _, _, _⟩) (v := ?_) rfl (by kernel_rfl) (by kernel_rfl) (by kernel_rfl) (fun _ _ _ h => h) (Or.inl ⟨by rfl, ?_⟩) (by assumption) ?_
    rotate_left
    · (intro w hSw; refine Eq.trans (exec_ixv (i := 0) _ _ (by rfl) (by rfl) (by rfl) hpos) ?_; with_reducible rfl)
    try simp only [Act.put, List.setIfInBounds_toArray, List.set_cons_zero, List.set_cons_succ]
    refine wpAnyH_take (i := 6) (oi := ⟨some 24, _, _, _, _, _⟩) (v := ?_) rfl (by kernel_rfl) (by kernel_rfl) (by kernel_rfl) (fun _ _ _ h => h) (Or.inl ⟨by rfl, ?_⟩) (by assumption) ?_
    rotate_left
    · (intro w hSw; refine Eq.trans (exec_lva (off := o + 0 * 4) _ (by rfl) (by rfl) (HX.out _ hSw.out)) ?_; with_reducible rfl)
    try simp only [Act.put, List.setIfInBounds_toArray, List.set_cons_zero, List.set_cons_succ]
    refine wpAnyH_ready (rs := [0]) (by kernel_rfl) (by simp) ?_
    refine AllReadyH.cons (o := ⟨some 18, _, _, _, _, _⟩) rfl (fun K hK => ?_) AllReadyH.nil
    refine step_mk0 vaLay HK0 (by rfl) (by rfl) ?_; intro w2 g2 HK' _; simp only [List.cons_append, List.nil_append] at HK'; replace HK0 := HK'; clear HK'; have hs := Lib.hid HK0.out.b
    refine hK.out _ _ hs (fun hHeld => ?_)
    clear hK K
    try simp only [Act.put, List.setIfInBounds_toArray, List.set_cons_zero, List.set_cons_succ]
    refine wpAnyH_ready (rs := [3]) (by kernel_rfl) (by simp) ?_
    refine AllReadyH.cons (o := ⟨some 21, _, _, _, _, _⟩) rfl (fun K hK => ?_) AllReadyH.nil
    refine step_more2 vaLay HK0 0 (by rfl) _ _ (by rfl) (by rfl) (by rfl) (l.drop 1) (by rfl) HLn.out (Lib.hid (let h := HD.out.later HK0.out.b; And.intro h.rd h.nl)) HG1 (N := n - 1) HN1 ?_; intro A4 c4 w4 HK'; simp only [List.set, List.nil_append] at HK'; replace HK0 := HK'; clear HK'; have hs := Lib.hid HK0.out.b
    refine hK.out _ _ hs (fun hHeld => ?_)
    clear hK K
    try simp only [Act.put, List.setIfInBounds_toArray, List.set_cons_zero, List.set_cons_succ]
    refine wpAnyH_take (i := 7) (oi := ⟨some 4, _, _, _, _, _⟩) (v := ?_) rfl (by kernel_rfl) (by kernel_rfl) (by kernel_rfl) (fun _ _ _ h => h) (Or.inl ⟨by rfl, ?_⟩) (by assumption) ?_
    rotate_left
    · (intro w hSw; (try dsimp only at hSw); go_simp; try with_reducible rfl)
    try simp only [Act.put, List.setIfInBounds_toArray, List.set_cons_zero, List.set_cons_succ]
    refine wpAnyH_ready (rs := [8]) (by kernel_rfl) (by simp) ?_
    refine AllReadyH.cons (o := ⟨none, _, _, _, _, _⟩) rfl (fun K hK => ?_) AllReadyH.nil
    refine step_sv (f2 := f) HK0 0 (by rfl) _ _ (by rfl) (by rfl) (by rfl) (by rfl) ?_; intro wq HK'; simp only [List.set] at HK'; replace HK0 := HK'; clear HK'; have hs := Lib.hid HK0.out.b
    refine hK.out _ _ hs (fun hHeld => ?_)
    clear hK K
    try simp only [Act.put, List.setIfInBounds_toArray, List.set_cons_zero, List.set_cons_succ]
    refine wpAnyH_take (i := 9) (oi := ⟨some 6, _, _, _, _, _⟩) (v := ?_) rfl (by kernel_rfl) (by kernel_rfl) (by kernel_rfl) (fun _ _ _ h => h) (Or.inl ⟨by rfl, ?_⟩) (by assumption) ?_
    rotate_left
    · (intro w hSw; (try dsimp only at hSw); go_simp; try with_reducible rfl)
    try simp only [Act.put, List.setIfInBounds_toArray, List.set_cons_zero, List.set_cons_succ]
    refine wpAnyH_done (by kernel_rfl) ?_ _
    all_goals
      go_wp2_with fail
      exact ret_pve Try.results10 rfl rfl rfl rfl (HK0.out.blk 0 rfl) ⟨A4, _, c4, rfl, .inl (HK0.out.own 0 rfl), HK0.out.b⟩
end Go.Proofs.Ytieegdlphjkbdaa
