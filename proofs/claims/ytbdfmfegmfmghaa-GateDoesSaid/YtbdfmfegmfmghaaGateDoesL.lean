/-
  The law GateDoes: it returns true, and leaves what came in as it was.
  No condition but what the slice reads as.
-/
import Derived.Test.YtbdfmfegmfmghaaGateAwake
import Derived.Test.YtbdfmfegmfmghaaGateRef
import Derived.Test.YtbdfmfegmfmghaaGateTwin
set_option linter.unusedSimpArgs false
set_option linter.unusedVariables false
namespace Go.Proofs.Ytbdfmfegmfmghaa
open Go.RowKit

theorem fits_five {l : List Rf} (h : l.length ≤ 6) : Fits rfLay rF l := ⟨fun x hx => trivial, by show l.length * 24 ≤ _; omega⟩
theorem fits_wt {m : Int} {l : List Rf} {r : Rf} (h : Fits rfLay rF l) : Fits rfLay rF (Gt.wtL m l r) ∧ Fits rfLay rF (Gt.wtA m l r) := by
  by_cases he : Gt.wtE m l r = 0
  · obtain ⟨h1, h2, h3⟩ := Gt.wt_is he
    have h5 := Lck.right_len h1.2.2.2
    have h6 : (l ++ [r]).length ≤ 6 := by rw [List.length_append]; show l.length + 1 ≤ 6; omega
    by_cases hf : (l.length : Int) + 1 = m
    · obtain ⟨_, e2, e3⟩ := Gt.wt_full h1 h2 h3 hf
      rw [e2, e3]
      exact ⟨fits_five (Nat.zero_le _), fits_five h6⟩
    · obtain ⟨_, e2, e3⟩ := Gt.wt_more h1 h2 h3 hf
      rw [e2, e3]
      exact ⟨fits_five h6, fits_five (Nat.zero_le _)⟩
  · obtain ⟨_, e2, e3⟩ := Gt.wt_no (z := Gt.wtE m l r) rfl he
    rw [e2, e3]
    exact ⟨h, fits_five (Nat.zero_le _)⟩
theorem fits_gdr {m : Int} {l : List Rf} {r : Rf} (h : Fits rfLay rF l) : Fits rfLay rF (Gt.drL m l r) := by
  unfold Gt.drL
  split
  · exact h.sub (fun x hx => (List.mem_filter.1 hx).1) (Lck.wo_le l r)
  · exact h
section
variable {b0 : Nat} {w0 w w' : World} {L : List (Nat × TypeId × Array Value)} {R : List RowE} {A A' B : Option Addr} {n c n' c' k d : Nat} {l r s : List Rf}
theorem Kn.toldW (h : Kn b0 w0 w L R) (hb : Below w.heap.size w w') {i : Nat} (hi : R[i]? = some (row rfLay (.slice A n c) l)) (ho : WtOr w.heap.size w' A n c l A' n' c' B k d r s) :
    ∃ R' : List RowE, Hid (Kn b0 w0 w' L R') ∧ (∀ (j : Nat) (y : RowE), R[j]? = some y → R'[j]? = some y) ∧ (∃ j : Nat, R'[j]? = some (row rfLay (.slice A' n' c') r)) ∧ ∃ j : Nat, R'[j]? = some (row rfLay (.slice B k d) s) := by
  rcases ho with ⟨⟨rfl, rfl, rfl, rfl⟩, ho⟩ | ⟨⟨rfl, rfl, rfl, rfl⟩, ho⟩
  · obtain ⟨R1, hk, hkeep, j, hj⟩ := h.toldR hb hi ho
    exact ⟨_, Lib.hid (hk.out.nilR rfLay), fun j y hj => get_put (hkeep j y hj), ⟨j, get_put hj⟩, R1.length, get_last _ _⟩
  · exact ⟨_, Lib.hid ((h.nilR rfLay).called hb ho), fun j y hj => get_put (get_put hj), ⟨R.length, get_put (get_last _ _)⟩, _, get_last _ _⟩
theorem Kn.toldN (h : Kn b0 w0 w L R) (hb : Below w.heap.size w w') (ho : rfLay.Own w.heap.size w' (.slice A n c) l) :
    ∃ R' : List RowE, Hid (Kn b0 w0 w' L R') ∧ (∀ (j : Nat) (y : RowE), R[j]? = some y → R'[j]? = some y) ∧ ∃ j : Nat, R'[j]? = some (row rfLay (.slice A n c) l) :=
  ⟨_, Lib.hid (h.called hb ho), fun j y hj => get_put hj, R.length, get_last _ _⟩
end
set_option maxRecDepth 100000 in
set_option maxHeartbeats 25600000 in
theorem does_yes (m : Int) (A : Option Addr) (c n : Nat) (l : List Rf) (r : Rf) (w : World) (hs : Sls rfLay rF w A n c l) :
    Calls Try.prog 3 #[.int .i64 m, .slice A n c, .agg #[.int .i64 r.c, .int .i64 r.e, .int .i64 r.r]] w (fun e w' => e = .returned (.bool true) ∧ Below w.heap.size w w') := by
  have HS := Lib.hid hs
  have HFl := Lib.hid hs.fit
  have HFt := Lib.hid (fits_wt (m := m) (r := r) hs.fit).1
  have HFa := Lib.hid (fits_wt (m := m) (r := r) hs.fit).2
  have HFd := Lib.hid (fits_gdr (m := m) (r := r) hs.fit)
  have HTw := Lib.hid (fun W (hW : Below w.heap.size w W) => gtwin_any A c n l W (hs.later hW))
  have HT := Lib.hid (fun W (hW : Below w.heap.size w W) => gwait_any m A c n l r W (hs.later hW))
  have HRT := Lib.hid (fun W A c n (h : Sls rfLay rF W A n c l) => rgwait_any m A c n l r W h)
  have HD := Lib.hid (fun W (hW : Below w.heap.size w W) => gdrop_any m A c n l r W (hs.later hW))
  have HRD := Lib.hid (fun W A c n (h : Sls rfLay rF W A n c l) => rgdrop_any m A c n l r W h)
  have HR := Lib.hid (fun W (hW : Below w.heap.size w W) => gright_any m A c n l W (hs.later hW))
  have HRR := Lib.hid (fun W A c n (h : Sls rfLay rF W A n c l) => rgright_any m A c n l W h)
  have HAw := Lib.hid (fun W => awake_any W)
  clear hs
  generalize Gt.wtL m l r = tl at *
  generalize Gt.wtA m l r = ta at *
  generalize Gt.wtE m l r = te at *
  generalize Gt.drL m l r = dl at *
  generalize decide (Gt.Right m l) = rr at *
  unfold IsWt IsWtr IsLgr IsB IsLg at *
  have HK := kn1 w 24 #[.int .i64 r.c, .int .i64 r.e, .int .i64 r.r]
  go_enter Try.func3, Try.ntmps3
  go_wp2_with fail
  refine (HTw.out _ HK.out.b).mono ?_; rintro e w1 ⟨A0, n0, c0, rfl, o1, b1⟩
  replace HK := Lib.hid (HK.out.called b1 o1)
  simp only [List.nil_append] at HK
  clear b1 o1 HTw
  go_wp2_with (first | refine wpList_exe (kexec_lr HK 0 _ (by rfl) (by rfl) (by rfl)) (by rfl) ?_)
  refine (HT.out _ HK.out.b).mono ?_; rintro e w1 ⟨A1, n1, c1, A2, n2, c2, rfl, hT, b1⟩
  replace HK := Lib.hid (hT _ _ _ _ HK.out)
  simp only [List.cons_append, List.nil_append] at HK
  clear b1 hT HT
  go_wp2_with (first | refine wpList_exe (kexec_lr HK 0 _ (by rfl) (by rfl) (by rfl)) (by rfl) ?_)
  refine (HRT.out _ _ _ _ (Sls.own (HK.out.own 0 rfl) HFl.out)).mono ?_; rintro e w1 ⟨A3, n3, c3, A4, n4, c4, rfl, o1, b1⟩
  obtain ⟨R1, HK1, hkeep, ⟨i3, hi3⟩, i4, hi4⟩ := HK.out.toldW b1 (i := 0) rfl o1
  replace HK := HK1
  have hi0 := Lib.hid (hkeep 0 _ rfl)
  have hi1 := Lib.hid (hkeep 1 _ rfl)
  have hi2 := Lib.hid (hkeep 2 _ rfl)
  replace hi3 := Lib.hid hi3
  replace hi4 := Lib.hid hi4
  clear b1 o1 HK1 hkeep HRT
  go_wp2_with fail
  have HK0 := Lib.hid HK.out.drew
  clear HK
  refine wp_region_held_drew (S := (fun W => Hid (Kn w.heap.size w W [(w.heap.size, 24, #[.int .i64 r.c, .int .i64 r.e, .int .i64 r.r])] []))) (by kernel_rfl) ?_ (fun hHeld => ?_)
  · (try dsimp only); exact Lib.hid (HK0.out.takeR 0)
  refine wpAnyH_take (i := 0) (oi := ⟨some 34, _, _, _, _, _⟩) (v := ?_) rfl (by kernel_rfl) (by kernel_rfl) (by kernel_rfl) (fun _ _ _ h => h) (Or.inl ⟨by rfl, ?_⟩) (by assumption) ?_
  rotate_left
  · (intro w hSw; (try dsimp only at hSw); go_simp; try with_reducible rfl)
  try simp only [Act.put, List.setIfInBounds_toArray, List.set_cons_zero, List.set_cons_succ]
  refine wpAnyH_take (i := 1) (oi := ⟨some 35, _, _, _, _, _⟩) (v := ?_) rfl (by kernel_rfl) (by kernel_rfl) (by kernel_rfl) (fun _ _ _ h => h) (Or.inl ⟨by rfl, ?_⟩) (by assumption) ?_
  rotate_left
  · (intro w hSw; (try dsimp only at hSw); go_simp; try with_reducible rfl)
  try simp only [Act.put, List.setIfInBounds_toArray, List.set_cons_zero, List.set_cons_succ]
  refine wpAnyH_take (i := 2) (oi := ⟨some 36, _, _, _, _, _⟩) (v := ?_) rfl (by kernel_rfl) (by kernel_rfl) (by kernel_rfl) (fun _ _ _ h => h) (Or.inl ⟨by rfl, ?_⟩) (by assumption) ?_
  rotate_left
  · (intro w hSw; refine Eq.trans (kexec_lr hSw 0 _ (by rfl) (by rfl) (by rfl)) ?_; with_reducible rfl)
  try simp only [Act.put, List.setIfInBounds_toArray, List.set_cons_zero, List.set_cons_succ]
  refine wpAnyH_take (i := 4) (oi := ⟨some 38, _, _, _, _, _⟩) (v := ?_) rfl (by kernel_rfl) (by kernel_rfl) (by kernel_rfl) (fun _ _ _ h => h) (Or.inl ⟨by rfl, ?_⟩) (by assumption) ?_
  rotate_left
  · (intro w hSw; (try dsimp only at hSw); go_simp; try with_reducible rfl)
  try simp only [Act.put, List.setIfInBounds_toArray, List.set_cons_zero, List.set_cons_succ]
  refine wpAnyH_take (i := 5) (oi := ⟨some 39, _, _, _, _, _⟩) (v := ?_) rfl (by kernel_rfl) (by kernel_rfl) (by kernel_rfl) (fun _ _ _ h => h) (Or.inl ⟨by rfl, ?_⟩) (by assumption) ?_
  rotate_left
  · (intro w hSw; (try dsimp only at hSw); go_simp; try with_reducible rfl)
  try simp only [Act.put, List.setIfInBounds_toArray, List.set_cons_zero, List.set_cons_succ]
  refine wpAnyH_take (i := 6) (oi := ⟨some 40, _, _, _, _, _⟩) (v := ?_) rfl (by kernel_rfl) (by kernel_rfl) (by kernel_rfl) (fun _ _ _ h => h) (Or.inl ⟨by rfl, ?_⟩) (by assumption) ?_
  rotate_left
  · (intro w hSw; refine Eq.trans (kexec_lr hSw 0 _ (by rfl) (by rfl) (by rfl)) ?_; with_reducible rfl)
  try simp only [Act.put, List.setIfInBounds_toArray, List.set_cons_zero, List.set_cons_succ]
  refine wpAnyH_ready (rs := [3]) (by kernel_rfl) (by simp) ?_
  refine AllReadyH.cons (o := ⟨some 37, _, _, _, _, _⟩) rfl (fun K hK => ?_) AllReadyH.nil
  go_simp
  go_at_call 8
  refine (HD.out _ HK0.out.b).mono ?_; rintro e w5 ⟨A5, n5, c5, rfl, o5, b5⟩; have hs := Lib.hid (hHeld.out.call b5); obtain ⟨R5, HK1, hkeep, i5, hi5⟩ := HK0.out.toldN b5 o5; replace HK0 := HK1; replace hi0 := Lib.hid (hkeep 0 _ hi0.out); replace hi1 := Lib.hid (hkeep 1 _ hi1.out); replace hi2 := Lib.hid (hkeep 2 _ hi2.out); replace hi3 := Lib.hid (hkeep i3 _ hi3.out); replace hi4 := Lib.hid (hkeep i4 _ hi4.out); (try replace hi6 := Lib.hid (hkeep i6 _ hi6.out)); replace hi5 := Lib.hid hi5; clear b5 o5 HK1 hkeep
  refine hK.out _ _ hs (fun hHeld => ?_)
  clear hK K
  try simp only [Act.put, List.setIfInBounds_toArray, List.set_cons_zero, List.set_cons_succ]
  refine wpAnyH_ready (rs := [7]) (by kernel_rfl) (by simp) ?_
  refine AllReadyH.cons (o := ⟨some 41, _, _, _, _, _⟩) rfl (fun K hK => ?_) AllReadyH.nil
  go_simp
  go_at_call 9
  refine (HRD.out _ _ _ _ (Sls.own (HK0.out.own 0 hi0.out) HFl.out)).mono ?_; rintro e w6 ⟨A6, n6, c6, rfl, o6, b6⟩; have hs := Lib.hid (hHeld.out.call b6); obtain ⟨R6, HK1, hkeep, i6, hi6⟩ := HK0.out.toldR b6 (i := 0) hi0.out o6; replace HK0 := HK1; replace hi0 := Lib.hid (hkeep 0 _ hi0.out); replace hi1 := Lib.hid (hkeep 1 _ hi1.out); replace hi2 := Lib.hid (hkeep 2 _ hi2.out); replace hi3 := Lib.hid (hkeep i3 _ hi3.out); replace hi4 := Lib.hid (hkeep i4 _ hi4.out); (try replace hi5 := Lib.hid (hkeep i5 _ hi5.out)); replace hi6 := Lib.hid hi6; clear b6 o6 HK1 hkeep
  refine hK.out _ _ hs (fun hHeld => ?_)
  clear hK K
  try simp only [Act.put, List.setIfInBounds_toArray, List.set_cons_zero, List.set_cons_succ]
  refine wpAnyH_take (i := 8) (oi := ⟨some 14, _, _, _, _, _⟩) (v := ?_) rfl (by kernel_rfl) (by kernel_rfl) (by kernel_rfl) (fun _ _ _ h => h) (Or.inl ⟨by rfl, ?_⟩) (by assumption) ?_
  rotate_left
  · (intro w hSw; (try dsimp only at hSw); go_simp; try with_reducible rfl)
  try simp only [Act.put, List.setIfInBounds_toArray, List.set_cons_zero, List.set_cons_succ]
  refine wpAnyH_take (i := 9) (oi := ⟨some 15, _, _, _, _, _⟩) (v := ?_) rfl (by kernel_rfl) (by kernel_rfl) (by kernel_rfl) (fun _ _ _ h => h) (Or.inl ⟨by rfl, ?_⟩) (by assumption) ?_
  rotate_left
  · (intro w hSw; (try dsimp only at hSw); go_simp; try with_reducible rfl)
  try simp only [Act.put, List.setIfInBounds_toArray, List.set_cons_zero, List.set_cons_succ]
  refine wpAnyH_done (by kernel_rfl) ?_ _
  all_goals
    have HK := HK0
    clear HK0 hHeld
    go_wp2_with fail
    refine (HAw.out _).mono ?_; rintro e w1 ⟨rfl, b1⟩
    replace HK := Lib.hid (HK.out.call b1); clear b1
    go_wp2_with fail
    refine (HR.out _ HK.out.b).mono ?_; rintro e w1 ⟨rfl, b1⟩
    replace HK := Lib.hid (HK.out.call b1); clear b1
    go_wp2_with fail
    refine (HRR.out _ _ _ _ (Sls.own (HK.out.own 0 hi0.out) HFl.out)).mono ?_; rintro e w1 ⟨rfl, b1⟩
    replace HK := Lib.hid (HK.out.call b1); clear b1
    go_wp2_with fail
    refine (lsame_self _ _ _ _ _ _ tl _ (Sls.own (HK.out.own 1 hi1.out) HFt.out) (Sls.own (HK.out.own i3 hi3.out) HFt.out)).mono ?_; rintro e w1 ⟨rfl, b1⟩
    replace HK := Lib.hid (HK.out.call b1); clear b1
    go_wp2_with fail
    refine (lsame_self _ _ _ _ _ _ ta _ (Sls.own (HK.out.own 2 hi2.out) HFa.out) (Sls.own (HK.out.own i4 hi4.out) HFa.out)).mono ?_; rintro e w1 ⟨rfl, b1⟩
    replace HK := Lib.hid (HK.out.call b1); clear b1
    go_wp2_with fail
    refine (lsame_self _ _ _ _ _ _ dl _ (Sls.own (HK.out.own i5 hi5.out) HFd.out) (Sls.own (HK.out.own i6 hi6.out) HFd.out)).mono ?_; rintro e w1 ⟨rfl, b1⟩
    replace HK := Lib.hid (HK.out.call b1); clear b1
    go_wp2_with fail
    refine (lsame_self _ _ _ _ _ _ l _ (HS.out.later HK.out.b) (Sls.own (HK.out.own 0 hi0.out) HFl.out)).mono ?_; rintro e w1 ⟨rfl, b1⟩
    replace HK := Lib.hid (HK.out.call b1); clear b1
    go_wp2_with fail
    go_ret
    exact ⟨rfl, HK.out.b⟩
end Go.Proofs.Ytbdfmfegmfmghaa
