/-
  The law GateOpens: it returns true, and leaves what came in as it was.
  No condition but what the slice reads as.
-/
import Derived.Test.YtbdfmfegmfmghaaGateAwake
import Derived.Test.YtbdfmfegmfmghaaGtOps
import Derived.Deep.CutBlock
import Derived.Deep.DeepCutAuto
set_option linter.unusedSimpArgs false
set_option linter.unusedVariables false
namespace Go.Proofs.Ytbdfmfegmfmghaa
open Go.RowKit

theorem Kn.pickTwo {b0 : Nat} {w0 w : World} {L : List (Nat × TypeId × Array Value)} {R : List RowE} (h : Kn b0 w0 w L R) (i j : Nat) {x y : RowE} (hi : R[i]? = some x) (hj : R[j]? = some y) (h1 : i ≠ j) : Kn b0 w0 w L [x, y] :=
  h.pick id (fun q => if q = 0 then i else j) (fun _ _ _ _ h => h) (fun a b ha hb hab => by
    have ha : a < 2 := ha
    have hb : b < 2 := hb
    split <;> split <;> omega) (fun _ _ h => h) (fun q v hq => by
    match q, hq with
    | 0, hq => simp at hq; subst hq; exact hi
    | 1, hq => simp at hq; subst hq; exact hj)
theorem fits_rt {m : Int} {s : List Rf} (h : Gt.Right m s) : Fits rfLay rF s := ⟨fun x hx => trivial, by
  have := Lck.right_len h.2.2.2
  show s.length * 24 ≤ _
  omega⟩
theorem fits_six {l : List Rf} (h : l.length ≤ 6) : Fits rfLay rF l := ⟨fun x hx => trivial, by show l.length * 24 ≤ _; omega⟩
set_option maxRecDepth 100000 in
set_option maxHeartbeats 51200000 in
theorem opens_yes (m : Int) (A : Option Addr) (c n : Nat) (ops : List GOp) (w : World) (hs : Sls gopLay (fun _ => True) w A n c ops) :
    Calls Try.prog 4 #[.int .i64 m, .slice A n c] w (fun e w' => e = .returned (.bool true) ∧ Below w.heap.size w w') := by
  have HAw := Lib.hid (fun W => awake_any W)
  have HR0 := Lib.hid (fun W => gright_any m none 0 0 [] W (Sls.none W))
  unfold IsB at *
  by_cases hm : 1 ≤ m ∧ m ≤ 5
  case neg =>
    have hnr : ¬ Gt.Right m [] := fun h => hm ⟨h.1, h.2.1⟩
    rw [decide_eq_false hnr] at HR0
    have HW0 : Hid (∀ W, Calls Try.prog 6 #[.int .i64 m, .slice none 0 0, .agg #[.int .i64 0, .int .i64 1, .int .i64 0]] W (IsWt [] [] 1 W)) := Lib.hid fun W => by
      have h := gwait_any m none 0 0 [] ⟨0, 1, 0⟩ W (Sls.none W)
      obtain ⟨e1, e2, e3⟩ := Gt.wt_bad (m := m) (l := []) (r := ⟨0, 1, 0⟩) (fun h => hnr h.1)
      rw [e1, e2, e3] at h
      exact h
    unfold IsWt at HW0
    have HK := Lib.hid (Kn.start w)
    clear hs hm hnr
    go_enter Try.func4, Try.ntmps4
    go_wp2_with fail
    refine (HR0.out _).mono ?_; rintro e w1 ⟨rfl, b1⟩
    replace HK := Lib.hid (HK.out.call b1); clear b1
    go_wp2_with fail
    refine (HW0.out _).mono ?_; rintro e w1 ⟨A1, n1, c1, A2, n2, c2, rfl, hT, b1⟩
    clear hT
    replace HK := Lib.hid (HK.out.call b1); clear b1
    go_wp2_with fail
    refine (HAw.out _).mono ?_; rintro e w1 ⟨rfl, b1⟩
    replace HK := Lib.hid (HK.out.call b1); clear b1
    go_wp2_with fail
    go_ret
    exact ⟨rfl, HK.out.b⟩
  case pos =>
  have HRn : Hid (Gt.Right m []) := Lib.hid (Gt.right_of hm.1 hm.2)
  rw [decide_eq_true HRn.out] at HR0
  have HS := Lib.hid hs
  have hn63 : n < 9223372036854775807 := by
    have h : n * 32 ≤ 140737488355328 := hs.big
    omega
  clear hs hm
  have HK := Lib.hid (Kn.start w)
  go_enter Try.func4, Try.ntmps4
  go_wp2_with fail
  refine (HR0.out _).mono ?_; rintro e w1 ⟨rfl, b1⟩
  replace HK := Lib.hid (HK.out.call b1); clear b1
  clear HR0
  replace HK := Lib.hid ((HK.out.nilR rfLay).nilR rfLay)
  simp only [List.cons_append, List.nil_append] at HK
  go_wp2_with fail
  go_loopw [8, 9, 10] (fun v8 v9 v10 wr => ∃ (k N c1 c2 : Nat) (A1 A2 : Option Addr) (s : List Rf), k ≤ n ∧ v8 = .slice A1 N c1 ∧ v9 = .slice A2 N c2 ∧ v10 = .int .i64 k ∧ k ≤ 100 ∧ Hid (s.length = N) ∧ Hid (Gt.Right m s) ∧ Hid (Kn w.heap.size w wr [] [row rfLay (.slice A1 N c1) s, row rfLay (.slice A2 N c2) s])) (fun _ _ v10 _ => n - (intOf v10).toNat)
  case atStart => exact ⟨0, 0, 0, 0, none, none, [], Nat.zero_le _, rfl, rfl, rfl, by decide, Lib.hid rfl, HRn, HK⟩
  case round =>
    clear HK
    obtain ⟨k, N, c1, c2, A1, A2, s, hkn, rfl, rfl, rfl, hk100, hN, HRs, HK⟩ := hrel
    have hk1 : (0 : Int) ≤ (k : Int) := by omega
    have hk3 : k < 9223372036854775807 := by omega
    by_cases hgo : k < n ∧ k < 100
    case neg =>
      as_aux_lemma =>
        have hout : k = n ∨ (k < n ∧ 100 ≤ k) := by omega
        clear hgo HS hN HRs
        rcases hout with rfl | ⟨hlt, h100⟩
        · go_wp2_with fail
          refine (HAw.out _).mono ?_; rintro e w1 ⟨rfl, b1⟩
          replace HK := Lib.hid (HK.out.call b1); clear b1
          go_wp2_with fail
          go_ret
          exact ⟨rfl, HK.out.b⟩
        · have hk2 : (k : Int) < (n : Int) := by omega
          have hk62 : ¬ (k : Int) < 100 := by omega
          go_wp2_with fail
          refine (HAw.out _).mono ?_; rintro e w1 ⟨rfl, b1⟩
          replace HK := Lib.hid (HK.out.call b1); clear b1
          go_wp2_with fail
          go_ret
          exact ⟨rfl, HK.out.b⟩
    case pos =>
    obtain ⟨hlt, hlt100⟩ := hgo
    have hk2 : (k : Int) < (n : Int) := by omega
    have hk62 : (k : Int) < 100 := by omega
    obtain ⟨⟨kd, x⟩, hx, _⟩ := HS.out.get hlt
    obtain ⟨b, o, rfl, hat⟩ := HS.out.at (Nat.lt_of_le_of_lt (Nat.zero_le _) hlt)
    have HX := Lib.hid (fun W hW => hat W hW k ⟨kd, x⟩ hx)
    have HFs := Lib.hid (fits_rt HRs.out)
    have hN5 : N ≤ 5 := by rw [← hN.out]; exact Lck.right_len HRs.out.2.2.2
    clear hat hx HAw HS
    cases kd with
    | true =>
      as_aux_lemma =>
        have HT := Lib.hid (fun W (h : Sls rfLay rF W A1 N c1 s) => gdrop_any m A1 c1 N s x W h)
        unfold IsLg at HT
        rw [Gt.dr_yes HRs.out] at HT
        have HRt := Lib.hid (Gt.right_wo HRs.out x)
        have HG : Hid (∀ j, j < N → ∃ z, s[j]? = some z) := Lib.hid fun j hj => Lay.get_of (l := s) (k := j) (by rw [hN.out]; exact hj)
        have HTake : Hid (s.take N = s) := Lib.hid (by rw [← hN.out]; exact List.take_length)
        have HTl : Hid (∀ j, j ≤ N → (Lck.wo (s.take j) x).length ≤ j) := Lib.hid fun j hj => Nat.le_trans (Lck.wo_le _ _) (by rw [List.length_take]; omega)
        go_wp2_with (first | refine wpList_exe (exec_lor (d := true) (x := x) (off := o + k * 4) _ (by rfl) (by rfl) (HX.out _ HK.out.b)) (by rfl) ?_ | (refine wpList_akr HK rfl rfl ?_; intro _ g1 HK'; simp only [List.cons_append, List.nil_append] at HK'; replace HK := HK'; clear HK') | (refine wpList_sr HK 0 rfl _ _ rfl rfl rfl rfl ?_; intro _ HK'; simp only [List.set] at HK'; replace HK := HK'; clear HK') | refine wpList_exe (exec_lod (d := true) (x := x) (off := o + k * 4) _ (by rfl) (by rfl) (HX.out _ HK.out.b)) (by rfl) ?_ | refine wpList_exe (kexec_lr HK 0 _ (by rfl) (by rfl) (by rfl)) (by rfl) ?_)
        refine (HT.out _ (Sls.own (HK.out.own 0 rfl) HFs.out)).mono ?_; rintro e w1 ⟨A4, n4, c4, rfl, o4, b4⟩
        obtain rfl := (Lay.Own.reads o4).1
        replace HK := Lib.hid ((HK.out.called b4 o4).nilR rfLay)
        simp only [List.cons_append, List.nil_append] at HK
        clear o4 b4 HT HX
        go_wp2_with fail
        go_loopw [12, 13] (fun v12 v13 wi => ∃ (j M c5 : Nat) (A5 : Option Addr), j ≤ N ∧ v12 = .slice A5 M c5 ∧ v13 = .int .i64 j ∧ Hid ((Lck.wo (s.take j) x).length = M) ∧ Hid (Kn w.heap.size w wi [(g1, 24, #[.int .i64 x.c, .int .i64 x.e, .int .i64 x.r])] [row rfLay (.slice A1 N c1) s, row rfLay (.slice A2 N c2) s, row rfLay (.slice A4 (Lck.wo s x).length c4) (Lck.wo s x), row rfLay (.slice A5 M c5) (Lck.wo (s.take j) x)])) (fun _ v13 _ => N - (intOf v13).toNat)
        case atStart => exact ⟨0, 0, 0, none, Nat.zero_le _, rfl, rfl, Lib.hid rfl, HK⟩
        case round =>
          clear HK
          obtain ⟨j, M, c5, A5, hjN, rfl, rfl, hM, HK⟩ := hrel
          have hj1 : (0 : Int) ≤ (j : Int) := by omega
          by_cases hjlt : j < N
          case pos =>
            have hj2 : (j : Int) < (N : Int) := by omega
            have hj3 : j < 9223372036854775807 := by omega
            obtain ⟨z, hz⟩ := HG.out j hjlt
            obtain ⟨b2, o2, rfl, _⟩ := (Sls.own (HK.out.own 1 rfl) HFs.out).at (Nat.lt_of_le_of_lt (Nat.zero_le _) hjlt)
            have HZ := Lib.hid hz
            have hMj : M ≤ j := by rw [← hM.out]; exact HTl.out j hjN
            by_cases hm : Lck.mine z x
            case pos =>
              have HE := Lib.hid (Lck.wo_take_out hz hm)
              have hb3 : (z.c != x.c) = false := by simpa using hm.1
              have hb4 : (z.e != x.e) = false := by simpa using hm.2
              clear hz hm
              go_wp2_with fail
              refine wp_region_held_drew (S := (fun W => Hid (Kn w.heap.size w W [(g1, 24, #[.int .i64 x.c, .int .i64 x.e, .int .i64 x.r])] [row rfLay (.slice A1 N c1) s, row rfLay (.slice (some ⟨b2, o2, none⟩) N c2) s, row rfLay (.slice A4 (Lck.wo s x).length c4) (Lck.wo s x), row rfLay (.slice A5 M c5) (Lck.wo (s.take j) x)]))) (by kernel_rfl) ?_ (fun hHeld => ?_)
              · (try dsimp only); exact Lib.hid HK.out.drew
              refine wpAnyH_take (i := 0) (oi := ⟨some 62, _, _, _, _, _⟩) (v := ?_) rfl (by kernel_rfl) (by kernel_rfl) (by kernel_rfl) (fun _ _ _ h => h) (Or.inl ⟨by rfl, ?_⟩) (by assumption) ?_
              rotate_left
              · (intro w hSw; (try dsimp only at hSw); go_simp; try with_reducible rfl)
              try simp only [Act.put, List.setIfInBounds_toArray, List.set_cons_zero, List.set_cons_succ]
              refine wpAnyH_take (i := 1) (oi := ⟨some 63, _, _, _, _, _⟩) (v := ?_) rfl (by kernel_rfl) (by kernel_rfl) (by kernel_rfl) (fun _ _ _ h => h) (Or.inl ⟨by rfl, ?_⟩) (by assumption) ?_
              rotate_left
              · (intro w hSw; (try dsimp only at hSw); go_simp; try with_reducible rfl)
              try simp only [Act.put, List.setIfInBounds_toArray, List.set_cons_zero, List.set_cons_succ]
              refine wpAnyH_take (i := 2) (oi := ⟨some 64, _, _, _, _, _⟩) (v := ?_) rfl (by kernel_rfl) (by kernel_rfl) (by kernel_rfl) (fun _ _ _ h => h) (Or.inl ⟨by rfl, ?_⟩) (by assumption) ?_
              rotate_left
              · (intro w hSw; refine Eq.trans (exec_ixr (i := j) _ _ (by rfl) (by rfl) (by rfl) hjlt) ?_; with_reducible rfl)
              try simp only [Act.put, List.setIfInBounds_toArray, List.set_cons_zero, List.set_cons_succ]
              refine wpAnyH_take (i := 3) (oi := ⟨some 65, _, _, _, _, _⟩) (v := ?_) rfl (by kernel_rfl) (by kernel_rfl) (by kernel_rfl) (fun _ _ _ h => h) (Or.inl ⟨by rfl, ?_⟩) (by assumption) ?_
              rotate_left
              · (intro w hSw; (try dsimp only at hSw); go_simp; try with_reducible rfl)
              try simp only [Act.put, List.setIfInBounds_toArray, List.set_cons_zero, List.set_cons_succ]
              refine wpAnyH_take (i := 4) (oi := ⟨some 66, _, _, _, _, _⟩) (v := ?_) rfl (by kernel_rfl) (by kernel_rfl) (by kernel_rfl) (fun _ _ _ h => h) (Or.inl ⟨by rfl, ?_⟩) (by assumption) ?_
              rotate_left
              · (intro w hSw; refine Eq.trans (exec_lrc (x := z) (off := o2 + j * 3) _ (by rfl) (by rfl) ((Sls.own (hSw.out.own 1 rfl) HFs.out).cells HZ.out)) ?_; with_reducible rfl)
              try simp only [Act.put, List.setIfInBounds_toArray, List.set_cons_zero, List.set_cons_succ]
              refine wpAnyH_take (i := 5) (oi := ⟨some 67, _, _, _, _, _⟩) (v := ?_) rfl (by kernel_rfl) (by kernel_rfl) (by kernel_rfl) (fun _ _ _ h => h) (Or.inl ⟨by rfl, ?_⟩) (by assumption) ?_
              rotate_left
              · (intro w hSw; (try dsimp only at hSw); go_simp; try with_reducible rfl)
              try simp only [Act.put, List.setIfInBounds_toArray, List.set_cons_zero, List.set_cons_succ]
              refine wpAnyH_take (i := 6) (oi := ⟨some 68, _, _, _, _, _⟩) (v := ?_) rfl (by kernel_rfl) (by kernel_rfl) (by kernel_rfl) (fun _ _ _ h => h) (Or.inl ⟨by rfl, ?_⟩) (by assumption) ?_
              rotate_left
              · (intro w hSw; refine Eq.trans (kexec_lc0 hSw 0 _ (by rfl) (by rfl) (by rfl)) ?_; with_reducible rfl)
              try simp only [Act.put, List.setIfInBounds_toArray, List.set_cons_zero, List.set_cons_succ]
              refine wpAnyH_take (i := 7) (oi := ⟨some 69, _, _, _, _, _⟩) (v := ?_) rfl (by kernel_rfl) (by kernel_rfl) (by kernel_rfl) (fun _ _ _ h => h) (Or.inl ⟨by rfl, ?_⟩) (by assumption) ?_
              rotate_left
              · (intro w hSw; (try dsimp only at hSw); go_simp; try with_reducible rfl)
              try simp only [Act.put, List.setIfInBounds_toArray, List.set_cons_zero, List.set_cons_succ]
              refine wpAnyH_take (i := 8) (oi := ⟨some 70, _, _, _, _, _⟩) (v := ?_) rfl (by kernel_rfl) (by kernel_rfl) (by kernel_rfl) (fun _ _ _ h => h) (Or.inl ⟨by rfl, ?_⟩) (by assumption) ?_
              rotate_left
              · (intro w hSw; (try dsimp only at hSw); go_simp; try with_reducible rfl)
              try simp only [Act.put, List.setIfInBounds_toArray, List.set_cons_zero, List.set_cons_succ]
              refine wpAnyH_take (i := 9) (oi := ⟨some 71, _, _, _, _, _⟩) (v := ?_) rfl (by kernel_rfl) (by kernel_rfl) (by kernel_rfl) (fun _ _ _ h => h) (Or.inl ⟨by rfl, ?_⟩) (by assumption) ?_
              rotate_left
              · (intro w hSw; (try dsimp only at hSw); go_simp; try with_reducible rfl)
              try simp only [Act.put, List.setIfInBounds_toArray, List.set_cons_zero, List.set_cons_succ]
              refine wpAnyH_take (i := 10) (oi := ⟨some 72, _, _, _, _, _⟩) (v := ?_) rfl (by kernel_rfl) (by kernel_rfl) (by kernel_rfl) (fun _ _ _ h => h) (Or.inl ⟨by rfl, ?_⟩) (by assumption) ?_
              rotate_left
              · (intro w hSw; (try dsimp only at hSw); go_simp; try with_reducible rfl)
              try simp only [Act.put, List.setIfInBounds_toArray, List.set_cons_zero, List.set_cons_succ]
              refine wpAnyH_take (i := 11) (oi := ⟨some 73, _, _, _, _, _⟩) (v := ?_) rfl (by kernel_rfl) (by kernel_rfl) (by kernel_rfl) (fun _ _ _ h => h) (Or.inl ⟨by rfl, ?_⟩) (by assumption) ?_
              rotate_left
              · (intro w hSw; refine Eq.trans (exec_ixr (i := j) _ _ (by rfl) (by rfl) (by rfl) hjlt) ?_; with_reducible rfl)
              try simp only [Act.put, List.setIfInBounds_toArray, List.set_cons_zero, List.set_cons_succ]
              refine wpAnyH_take (i := 12) (oi := ⟨some 74, _, _, _, _, _⟩) (v := ?_) rfl (by kernel_rfl) (by kernel_rfl) (by kernel_rfl) (fun _ _ _ h => h) (Or.inl ⟨by rfl, ?_⟩) (by assumption) ?_
              rotate_left
              · (intro w hSw; (try dsimp only at hSw); go_simp; try with_reducible rfl)
              try simp only [Act.put, List.setIfInBounds_toArray, List.set_cons_zero, List.set_cons_succ]
              refine wpAnyH_take (i := 13) (oi := ⟨some 75, _, _, _, _, _⟩) (v := ?_) rfl (by kernel_rfl) (by kernel_rfl) (by kernel_rfl) (fun _ _ _ h => h) (Or.inl ⟨by rfl, ?_⟩) (by assumption) ?_
              rotate_left
              · (intro w hSw; refine Eq.trans (exec_lre (x := z) (off := o2 + j * 3) _ (by rfl) (by rfl) ((Sls.own (hSw.out.own 1 rfl) HFs.out).cells HZ.out)) ?_; with_reducible rfl)
              try simp only [Act.put, List.setIfInBounds_toArray, List.set_cons_zero, List.set_cons_succ]
              refine wpAnyH_take (i := 14) (oi := ⟨some 76, _, _, _, _, _⟩) (v := ?_) rfl (by kernel_rfl) (by kernel_rfl) (by kernel_rfl) (fun _ _ _ h => h) (Or.inl ⟨by rfl, ?_⟩) (by assumption) ?_
              rotate_left
              · (intro w hSw; (try dsimp only at hSw); go_simp; try with_reducible rfl)
              try simp only [Act.put, List.setIfInBounds_toArray, List.set_cons_zero, List.set_cons_succ]
              refine wpAnyH_take (i := 15) (oi := ⟨some 77, _, _, _, _, _⟩) (v := ?_) rfl (by kernel_rfl) (by kernel_rfl) (by kernel_rfl) (fun _ _ _ h => h) (Or.inl ⟨by rfl, ?_⟩) (by assumption) ?_
              rotate_left
              · (intro w hSw; refine Eq.trans (kexec_lc1 hSw 0 _ (by rfl) (by rfl) (by rfl)) ?_; with_reducible rfl)
              try simp only [Act.put, List.setIfInBounds_toArray, List.set_cons_zero, List.set_cons_succ]
              refine wpAnyH_take (i := 16) (oi := ⟨some 78, _, _, _, _, _⟩) (v := ?_) rfl (by kernel_rfl) (by kernel_rfl) (by kernel_rfl) (fun _ _ _ h => h) (Or.inl ⟨by rfl, ?_⟩) (by assumption) ?_
              rotate_left
              · (intro w hSw; (try dsimp only at hSw); go_simp; try with_reducible rfl)
              try simp only [Act.put, List.setIfInBounds_toArray, List.set_cons_zero, List.set_cons_succ]
              refine wpAnyH_take (i := 17) (oi := ⟨some 79, _, _, _, _, _⟩) (v := ?_) rfl (by kernel_rfl) (by kernel_rfl) (by kernel_rfl) (fun _ _ _ h => h) (Or.inl ⟨by rfl, ?_⟩) (by assumption) ?_
              rotate_left
              · (intro w hSw; (try dsimp only at hSw); go_simp; try with_reducible rfl)
              try simp only [Act.put, List.setIfInBounds_toArray, List.set_cons_zero, List.set_cons_succ]
              refine wpAnyH_done (by kernel_rfl) ?_ _
              replace HK := hHeld
              clear hHeld
              go_wp2_with (first | refine wpList_exe (exec_add1 (j := j) _ (by rfl) (by rfl) hj3) (by rfl) ?_)
              refine ⟨⟨j + 1, M, c5, A5, hjlt, rfl, rfl, Lib.hid (by rw [HE.out, hM.out]), ?_⟩, by simp [intOf]; omega⟩
              rw [HE.out]
              exact HK
            case neg =>
              have HE := Lib.hid (Lck.wo_take_in hz hm)
              have HN2 : Hid ((Lck.wo (s.take j) x ++ [z]).length = M + 1) := Lib.hid (by rw [List.length_append, hM.out]; rfl)
              have HL2 := grow_ok (La := rfLay) HN2 (by show (M + 1) * 24 ≤ _; omega) (by omega)
              by_cases hc : z.c = x.c
              case pos =>
                have he : ¬ z.e = x.e := fun h => hm ⟨hc, h⟩
                have hb3 : (z.c != x.c) = false := by simpa using hc
                have hb4 : (z.e != x.e) = true := by simpa using he
                clear hz hm hc he
                go_wp2_with fail
                refine wp_region_held_drew (S := (fun W => Hid (Kn w.heap.size w W [(g1, 24, #[.int .i64 x.c, .int .i64 x.e, .int .i64 x.r])] [row rfLay (.slice A1 N c1) s, row rfLay (.slice (some ⟨b2, o2, none⟩) N c2) s, row rfLay (.slice A4 (Lck.wo s x).length c4) (Lck.wo s x), row rfLay (.slice A5 M c5) (Lck.wo (s.take j) x)]))) (by kernel_rfl) ?_ (fun hHeld => ?_)
                · (try dsimp only); exact Lib.hid HK.out.drew
                refine wpAnyH_take (i := 0) (oi := ⟨some 62, _, _, _, _, _⟩) (v := ?_) rfl (by kernel_rfl) (by kernel_rfl) (by kernel_rfl) (fun _ _ _ h => h) (Or.inl ⟨by rfl, ?_⟩) (by assumption) ?_
                rotate_left
                · (intro w hSw; (try dsimp only at hSw); go_simp; try with_reducible rfl)
                try simp only [Act.put, List.setIfInBounds_toArray, List.set_cons_zero, List.set_cons_succ]
                refine wpAnyH_take (i := 1) (oi := ⟨some 63, _, _, _, _, _⟩) (v := ?_) rfl (by kernel_rfl) (by kernel_rfl) (by kernel_rfl) (fun _ _ _ h => h) (Or.inl ⟨by rfl, ?_⟩) (by assumption) ?_
                rotate_left
                · (intro w hSw; (try dsimp only at hSw); go_simp; try with_reducible rfl)
                try simp only [Act.put, List.setIfInBounds_toArray, List.set_cons_zero, List.set_cons_succ]
                refine wpAnyH_take (i := 2) (oi := ⟨some 64, _, _, _, _, _⟩) (v := ?_) rfl (by kernel_rfl) (by kernel_rfl) (by kernel_rfl) (fun _ _ _ h => h) (Or.inl ⟨by rfl, ?_⟩) (by assumption) ?_
                rotate_left
                · (intro w hSw; refine Eq.trans (exec_ixr (i := j) _ _ (by rfl) (by rfl) (by rfl) hjlt) ?_; with_reducible rfl)
                try simp only [Act.put, List.setIfInBounds_toArray, List.set_cons_zero, List.set_cons_succ]
                refine wpAnyH_take (i := 3) (oi := ⟨some 65, _, _, _, _, _⟩) (v := ?_) rfl (by kernel_rfl) (by kernel_rfl) (by kernel_rfl) (fun _ _ _ h => h) (Or.inl ⟨by rfl, ?_⟩) (by assumption) ?_
                rotate_left
                · (intro w hSw; (try dsimp only at hSw); go_simp; try with_reducible rfl)
                try simp only [Act.put, List.setIfInBounds_toArray, List.set_cons_zero, List.set_cons_succ]
                refine wpAnyH_take (i := 4) (oi := ⟨some 66, _, _, _, _, _⟩) (v := ?_) rfl (by kernel_rfl) (by kernel_rfl) (by kernel_rfl) (fun _ _ _ h => h) (Or.inl ⟨by rfl, ?_⟩) (by assumption) ?_
                rotate_left
                · (intro w hSw; refine Eq.trans (exec_lrc (x := z) (off := o2 + j * 3) _ (by rfl) (by rfl) ((Sls.own (hSw.out.own 1 rfl) HFs.out).cells HZ.out)) ?_; with_reducible rfl)
                try simp only [Act.put, List.setIfInBounds_toArray, List.set_cons_zero, List.set_cons_succ]
                refine wpAnyH_take (i := 5) (oi := ⟨some 67, _, _, _, _, _⟩) (v := ?_) rfl (by kernel_rfl) (by kernel_rfl) (by kernel_rfl) (fun _ _ _ h => h) (Or.inl ⟨by rfl, ?_⟩) (by assumption) ?_
                rotate_left
                · (intro w hSw; (try dsimp only at hSw); go_simp; try with_reducible rfl)
                try simp only [Act.put, List.setIfInBounds_toArray, List.set_cons_zero, List.set_cons_succ]
                refine wpAnyH_take (i := 6) (oi := ⟨some 68, _, _, _, _, _⟩) (v := ?_) rfl (by kernel_rfl) (by kernel_rfl) (by kernel_rfl) (fun _ _ _ h => h) (Or.inl ⟨by rfl, ?_⟩) (by assumption) ?_
                rotate_left
                · (intro w hSw; refine Eq.trans (kexec_lc0 hSw 0 _ (by rfl) (by rfl) (by rfl)) ?_; with_reducible rfl)
                try simp only [Act.put, List.setIfInBounds_toArray, List.set_cons_zero, List.set_cons_succ]
                refine wpAnyH_take (i := 7) (oi := ⟨some 69, _, _, _, _, _⟩) (v := ?_) rfl (by kernel_rfl) (by kernel_rfl) (by kernel_rfl) (fun _ _ _ h => h) (Or.inl ⟨by rfl, ?_⟩) (by assumption) ?_
                rotate_left
                · (intro w hSw; (try dsimp only at hSw); go_simp; try with_reducible rfl)
                try simp only [Act.put, List.setIfInBounds_toArray, List.set_cons_zero, List.set_cons_succ]
                refine wpAnyH_take (i := 8) (oi := ⟨some 70, _, _, _, _, _⟩) (v := ?_) rfl (by kernel_rfl) (by kernel_rfl) (by kernel_rfl) (fun _ _ _ h => h) (Or.inl ⟨by rfl, ?_⟩) (by assumption) ?_
                rotate_left
                · (intro w hSw; (try dsimp only at hSw); go_simp; try with_reducible rfl)
                try simp only [Act.put, List.setIfInBounds_toArray, List.set_cons_zero, List.set_cons_succ]
                refine wpAnyH_take (i := 9) (oi := ⟨some 71, _, _, _, _, _⟩) (v := ?_) rfl (by kernel_rfl) (by kernel_rfl) (by kernel_rfl) (fun _ _ _ h => h) (Or.inl ⟨by rfl, ?_⟩) (by assumption) ?_
                rotate_left
                · (intro w hSw; (try dsimp only at hSw); go_simp; try with_reducible rfl)
                try simp only [Act.put, List.setIfInBounds_toArray, List.set_cons_zero, List.set_cons_succ]
                refine wpAnyH_take (i := 10) (oi := ⟨some 72, _, _, _, _, _⟩) (v := ?_) rfl (by kernel_rfl) (by kernel_rfl) (by kernel_rfl) (fun _ _ _ h => h) (Or.inl ⟨by rfl, ?_⟩) (by assumption) ?_
                rotate_left
                · (intro w hSw; (try dsimp only at hSw); go_simp; try with_reducible rfl)
                try simp only [Act.put, List.setIfInBounds_toArray, List.set_cons_zero, List.set_cons_succ]
                refine wpAnyH_take (i := 11) (oi := ⟨some 73, _, _, _, _, _⟩) (v := ?_) rfl (by kernel_rfl) (by kernel_rfl) (by kernel_rfl) (fun _ _ _ h => h) (Or.inl ⟨by rfl, ?_⟩) (by assumption) ?_
                rotate_left
                · (intro w hSw; refine Eq.trans (exec_ixr (i := j) _ _ (by rfl) (by rfl) (by rfl) hjlt) ?_; with_reducible rfl)
                try simp only [Act.put, List.setIfInBounds_toArray, List.set_cons_zero, List.set_cons_succ]
                refine wpAnyH_take (i := 12) (oi := ⟨some 74, _, _, _, _, _⟩) (v := ?_) rfl (by kernel_rfl) (by kernel_rfl) (by kernel_rfl) (fun _ _ _ h => h) (Or.inl ⟨by rfl, ?_⟩) (by assumption) ?_
                rotate_left
                · (intro w hSw; (try dsimp only at hSw); go_simp; try with_reducible rfl)
                try simp only [Act.put, List.setIfInBounds_toArray, List.set_cons_zero, List.set_cons_succ]
                refine wpAnyH_take (i := 13) (oi := ⟨some 75, _, _, _, _, _⟩) (v := ?_) rfl (by kernel_rfl) (by kernel_rfl) (by kernel_rfl) (fun _ _ _ h => h) (Or.inl ⟨by rfl, ?_⟩) (by assumption) ?_
                rotate_left
                · (intro w hSw; refine Eq.trans (exec_lre (x := z) (off := o2 + j * 3) _ (by rfl) (by rfl) ((Sls.own (hSw.out.own 1 rfl) HFs.out).cells HZ.out)) ?_; with_reducible rfl)
                try simp only [Act.put, List.setIfInBounds_toArray, List.set_cons_zero, List.set_cons_succ]
                refine wpAnyH_take (i := 14) (oi := ⟨some 76, _, _, _, _, _⟩) (v := ?_) rfl (by kernel_rfl) (by kernel_rfl) (by kernel_rfl) (fun _ _ _ h => h) (Or.inl ⟨by rfl, ?_⟩) (by assumption) ?_
                rotate_left
                · (intro w hSw; (try dsimp only at hSw); go_simp; try with_reducible rfl)
                try simp only [Act.put, List.setIfInBounds_toArray, List.set_cons_zero, List.set_cons_succ]
                refine wpAnyH_take (i := 15) (oi := ⟨some 77, _, _, _, _, _⟩) (v := ?_) rfl (by kernel_rfl) (by kernel_rfl) (by kernel_rfl) (fun _ _ _ h => h) (Or.inl ⟨by rfl, ?_⟩) (by assumption) ?_
                rotate_left
                · (intro w hSw; refine Eq.trans (kexec_lc1 hSw 0 _ (by rfl) (by rfl) (by rfl)) ?_; with_reducible rfl)
                try simp only [Act.put, List.setIfInBounds_toArray, List.set_cons_zero, List.set_cons_succ]
                refine wpAnyH_take (i := 16) (oi := ⟨some 78, _, _, _, _, _⟩) (v := ?_) rfl (by kernel_rfl) (by kernel_rfl) (by kernel_rfl) (fun _ _ _ h => h) (Or.inl ⟨by rfl, ?_⟩) (by assumption) ?_
                rotate_left
                · (intro w hSw; (try dsimp only at hSw); go_simp; try with_reducible rfl)
                try simp only [Act.put, List.setIfInBounds_toArray, List.set_cons_zero, List.set_cons_succ]
                refine wpAnyH_take (i := 17) (oi := ⟨some 79, _, _, _, _, _⟩) (v := ?_) rfl (by kernel_rfl) (by kernel_rfl) (by kernel_rfl) (fun _ _ _ h => h) (Or.inl ⟨by rfl, ?_⟩) (by assumption) ?_
                rotate_left
                · (intro w hSw; (try dsimp only at hSw); go_simp; try with_reducible rfl)
                try simp only [Act.put, List.setIfInBounds_toArray, List.set_cons_zero, List.set_cons_succ]
                refine wpAnyH_done (by kernel_rfl) ?_ _
                replace HK := hHeld
                clear hHeld
                go_wp2_with (first | refine wpList_exe (exec_lr (x := z) (off := o2 + j * 3) _ (by rfl) (by rfl) ((Sls.own (HK.out.own 1 rfl) HFs.out).cells HZ.out)) (by rfl) ?_ | (refine wpList_mk1 rfLay (p := z) HK (by decide) rfl _ rfl rfl rfl ?_; intro _ g7 HK'; simp only [List.cons_append, List.nil_append] at HK'; have HR := Lib.hid (HK'.out.own 4 rfl).rd; replace HK := HK'; clear HK') | (at_builtin; refine wpList_kmore HK rfLay 3 rfl _ _ rfl rfl rfl [z] rfl rfl HR HL2 (N := M + 1) HN2 ?_; intro A7 c7 _ HK'; simp only [List.set] at HK'; replace HK := HK'; clear HK') | refine wpList_exe (exec_add1 (j := j) _ (by rfl) (by rfl) hj3) (by rfl) ?_)
                refine ⟨⟨j + 1, M + 1, c7, A7, hjlt, rfl, rfl, Lib.hid (by rw [HE.out, HN2.out]), ?_⟩, by simp [intOf]; omega⟩
                rw [HE.out]
                exact Lib.hid (HK.out.takeR 4)
              case neg =>
                have hb3 : (z.c != x.c) = true := by simpa using hc
                clear hz hm hc
                go_wp2_with fail
                refine wp_region_held_drew (S := (fun W => Hid (Kn w.heap.size w W [(g1, 24, #[.int .i64 x.c, .int .i64 x.e, .int .i64 x.r])] [row rfLay (.slice A1 N c1) s, row rfLay (.slice (some ⟨b2, o2, none⟩) N c2) s, row rfLay (.slice A4 (Lck.wo s x).length c4) (Lck.wo s x), row rfLay (.slice A5 M c5) (Lck.wo (s.take j) x)]))) (by kernel_rfl) ?_ (fun hHeld => ?_)
                · (try dsimp only); exact Lib.hid HK.out.drew
                refine wpAnyH_take (i := 0) (oi := ⟨some 62, _, _, _, _, _⟩) (v := ?_) rfl (by kernel_rfl) (by kernel_rfl) (by kernel_rfl) (fun _ _ _ h => h) (Or.inl ⟨by rfl, ?_⟩) (by assumption) ?_
                rotate_left
                · (intro w hSw; (try dsimp only at hSw); go_simp; try with_reducible rfl)
                try simp only [Act.put, List.setIfInBounds_toArray, List.set_cons_zero, List.set_cons_succ]
                refine wpAnyH_take (i := 1) (oi := ⟨some 63, _, _, _, _, _⟩) (v := ?_) rfl (by kernel_rfl) (by kernel_rfl) (by kernel_rfl) (fun _ _ _ h => h) (Or.inl ⟨by rfl, ?_⟩) (by assumption) ?_
                rotate_left
                · (intro w hSw; (try dsimp only at hSw); go_simp; try with_reducible rfl)
                try simp only [Act.put, List.setIfInBounds_toArray, List.set_cons_zero, List.set_cons_succ]
                refine wpAnyH_take (i := 2) (oi := ⟨some 64, _, _, _, _, _⟩) (v := ?_) rfl (by kernel_rfl) (by kernel_rfl) (by kernel_rfl) (fun _ _ _ h => h) (Or.inl ⟨by rfl, ?_⟩) (by assumption) ?_
                rotate_left
                · (intro w hSw; refine Eq.trans (exec_ixr (i := j) _ _ (by rfl) (by rfl) (by rfl) hjlt) ?_; with_reducible rfl)
                try simp only [Act.put, List.setIfInBounds_toArray, List.set_cons_zero, List.set_cons_succ]
                refine wpAnyH_take (i := 3) (oi := ⟨some 65, _, _, _, _, _⟩) (v := ?_) rfl (by kernel_rfl) (by kernel_rfl) (by kernel_rfl) (fun _ _ _ h => h) (Or.inl ⟨by rfl, ?_⟩) (by assumption) ?_
                rotate_left
                · (intro w hSw; (try dsimp only at hSw); go_simp; try with_reducible rfl)
                try simp only [Act.put, List.setIfInBounds_toArray, List.set_cons_zero, List.set_cons_succ]
                refine wpAnyH_take (i := 4) (oi := ⟨some 66, _, _, _, _, _⟩) (v := ?_) rfl (by kernel_rfl) (by kernel_rfl) (by kernel_rfl) (fun _ _ _ h => h) (Or.inl ⟨by rfl, ?_⟩) (by assumption) ?_
                rotate_left
                · (intro w hSw; refine Eq.trans (exec_lrc (x := z) (off := o2 + j * 3) _ (by rfl) (by rfl) ((Sls.own (hSw.out.own 1 rfl) HFs.out).cells HZ.out)) ?_; with_reducible rfl)
                try simp only [Act.put, List.setIfInBounds_toArray, List.set_cons_zero, List.set_cons_succ]
                refine wpAnyH_take (i := 5) (oi := ⟨some 67, _, _, _, _, _⟩) (v := ?_) rfl (by kernel_rfl) (by kernel_rfl) (by kernel_rfl) (fun _ _ _ h => h) (Or.inl ⟨by rfl, ?_⟩) (by assumption) ?_
                rotate_left
                · (intro w hSw; (try dsimp only at hSw); go_simp; try with_reducible rfl)
                try simp only [Act.put, List.setIfInBounds_toArray, List.set_cons_zero, List.set_cons_succ]
                refine wpAnyH_take (i := 6) (oi := ⟨some 68, _, _, _, _, _⟩) (v := ?_) rfl (by kernel_rfl) (by kernel_rfl) (by kernel_rfl) (fun _ _ _ h => h) (Or.inl ⟨by rfl, ?_⟩) (by assumption) ?_
                rotate_left
                · (intro w hSw; refine Eq.trans (kexec_lc0 hSw 0 _ (by rfl) (by rfl) (by rfl)) ?_; with_reducible rfl)
                try simp only [Act.put, List.setIfInBounds_toArray, List.set_cons_zero, List.set_cons_succ]
                refine wpAnyH_take (i := 7) (oi := ⟨some 69, _, _, _, _, _⟩) (v := ?_) rfl (by kernel_rfl) (by kernel_rfl) (by kernel_rfl) (fun _ _ _ h => h) (Or.inl ⟨by rfl, ?_⟩) (by assumption) ?_
                rotate_left
                · (intro w hSw; (try dsimp only at hSw); go_simp; try with_reducible rfl)
                try simp only [Act.put, List.setIfInBounds_toArray, List.set_cons_zero, List.set_cons_succ]
                refine wpAnyH_take (i := 8) (oi := ⟨some 70, _, _, _, _, _⟩) (v := ?_) rfl (by kernel_rfl) (by kernel_rfl) (by kernel_rfl) (fun _ _ _ h => h) (Or.inl ⟨by rfl, ?_⟩) (by assumption) ?_
                rotate_left
                · (intro w hSw; (try dsimp only at hSw); go_simp; try with_reducible rfl)
                try simp only [Act.put, List.setIfInBounds_toArray, List.set_cons_zero, List.set_cons_succ]
                refine wpAnyH_take (i := 9) (oi := ⟨some 71, _, _, _, _, _⟩) (v := undef) rfl (by kernel_rfl) (by kernel_rfl) (by kernel_rfl) (fun _ _ _ h => h) (Or.inr ⟨by rfl, rfl⟩) (by assumption) ?_
                try simp only [Act.put, List.setIfInBounds_toArray, List.set_cons_zero, List.set_cons_succ]
                refine wpAnyH_take (i := 10) (oi := ⟨some 72, _, _, _, _, _⟩) (v := undef) rfl (by kernel_rfl) (by kernel_rfl) (by kernel_rfl) (fun _ _ _ h => h) (Or.inr ⟨by rfl, rfl⟩) (by assumption) ?_
                try simp only [Act.put, List.setIfInBounds_toArray, List.set_cons_zero, List.set_cons_succ]
                refine wpAnyH_take (i := 11) (oi := ⟨some 73, _, _, _, _, _⟩) (v := undef) rfl (by kernel_rfl) (by kernel_rfl) (by kernel_rfl) (fun _ _ _ h => h) (Or.inr ⟨by rfl, rfl⟩) (by assumption) ?_
                try simp only [Act.put, List.setIfInBounds_toArray, List.set_cons_zero, List.set_cons_succ]
                refine wpAnyH_take (i := 12) (oi := ⟨some 74, _, _, _, _, _⟩) (v := undef) rfl (by kernel_rfl) (by kernel_rfl) (by kernel_rfl) (fun _ _ _ h => h) (Or.inr ⟨by rfl, rfl⟩) (by assumption) ?_
                try simp only [Act.put, List.setIfInBounds_toArray, List.set_cons_zero, List.set_cons_succ]
                refine wpAnyH_take (i := 13) (oi := ⟨some 75, _, _, _, _, _⟩) (v := undef) rfl (by kernel_rfl) (by kernel_rfl) (by kernel_rfl) (fun _ _ _ h => h) (Or.inr ⟨by rfl, rfl⟩) (by assumption) ?_
                try simp only [Act.put, List.setIfInBounds_toArray, List.set_cons_zero, List.set_cons_succ]
                refine wpAnyH_take (i := 14) (oi := ⟨some 76, _, _, _, _, _⟩) (v := undef) rfl (by kernel_rfl) (by kernel_rfl) (by kernel_rfl) (fun _ _ _ h => h) (Or.inr ⟨by rfl, rfl⟩) (by assumption) ?_
                try simp only [Act.put, List.setIfInBounds_toArray, List.set_cons_zero, List.set_cons_succ]
                refine wpAnyH_take (i := 15) (oi := ⟨some 77, _, _, _, _, _⟩) (v := undef) rfl (by kernel_rfl) (by kernel_rfl) (by kernel_rfl) (fun _ _ _ h => h) (Or.inr ⟨by rfl, rfl⟩) (by assumption) ?_
                try simp only [Act.put, List.setIfInBounds_toArray, List.set_cons_zero, List.set_cons_succ]
                refine wpAnyH_take (i := 16) (oi := ⟨some 78, _, _, _, _, _⟩) (v := undef) rfl (by kernel_rfl) (by kernel_rfl) (by kernel_rfl) (fun _ _ _ h => h) (Or.inr ⟨by rfl, rfl⟩) (by assumption) ?_
                try simp only [Act.put, List.setIfInBounds_toArray, List.set_cons_zero, List.set_cons_succ]
                refine wpAnyH_take (i := 17) (oi := ⟨some 79, _, _, _, _, _⟩) (v := ?_) rfl (by kernel_rfl) (by kernel_rfl) (by kernel_rfl) (fun _ _ _ h => h) (Or.inl ⟨by rfl, ?_⟩) (by assumption) ?_
                rotate_left
                · (intro w hSw; (try dsimp only at hSw); go_simp; try with_reducible rfl)
                try simp only [Act.put, List.setIfInBounds_toArray, List.set_cons_zero, List.set_cons_succ]
                refine wpAnyH_done (by kernel_rfl) ?_ _
                replace HK := hHeld
                clear hHeld
                go_wp2_with (first | refine wpList_exe (exec_lr (x := z) (off := o2 + j * 3) _ (by rfl) (by rfl) ((Sls.own (HK.out.own 1 rfl) HFs.out).cells HZ.out)) (by rfl) ?_ | (refine wpList_mk1 rfLay (p := z) HK (by decide) rfl _ rfl rfl rfl ?_; intro _ g7 HK'; simp only [List.cons_append, List.nil_append] at HK'; have HR := Lib.hid (HK'.out.own 4 rfl).rd; replace HK := HK'; clear HK') | (at_builtin; refine wpList_kmore HK rfLay 3 rfl _ _ rfl rfl rfl [z] rfl rfl HR HL2 (N := M + 1) HN2 ?_; intro A7 c7 _ HK'; simp only [List.set] at HK'; replace HK := HK'; clear HK') | refine wpList_exe (exec_add1 (j := j) _ (by rfl) (by rfl) hj3) (by rfl) ?_)
                refine ⟨⟨j + 1, M + 1, c7, A7, hjlt, rfl, rfl, Lib.hid (by rw [HE.out, HN2.out]), ?_⟩, by simp [intOf]; omega⟩
                rw [HE.out]
                exact Lib.hid (HK.out.takeR 4)
          case neg =>
            obtain rfl : j = N := by omega
            rw [HTake.out] at HK hM
            obtain rfl := hM.out
            have HFw := Lib.hid (fits_rt HRt.out)
            go_wp2_with fail
            refine (lsame_self _ _ _ _ _ _ (Lck.wo s x) _ (Sls.own (HK.out.own 2 rfl) HFw.out) (Sls.own (HK.out.own 3 rfl) HFw.out)).mono ?_; rintro e w1 ⟨rfl, b1⟩
            replace HK := Lib.hid (HK.out.call b1); clear b1
            go_wp2_with (first | refine wpList_exe (exec_add1 (j := k) _ (by rfl) (by rfl) hk3) (by rfl) ?_)
            exact ⟨⟨k + 1, _, c4, c5, A4, A5, Lck.wo s x, hlt, rfl, rfl, rfl, by omega, Lib.hid rfl, HRt, Lib.hid ((HK.out.takeL 0).pickTwo 2 3 rfl rfl (by decide))⟩, by simp [intOf]; omega⟩
    | false =>
    have HT := Lib.hid (fun W (h : Sls rfLay rF W A1 N c1 s) => gwait_any m A1 c1 N s x W h)
    unfold IsWt at HT
    by_cases he : Gt.wtE m s x = 0
    case neg =>
      as_aux_lemma =>
        obtain ⟨_, e2, e3⟩ := Gt.wt_no (z := Gt.wtE m s x) rfl he
        rw [e2, e3] at HT
        have hz : (Gt.wtE m s x == 0) = false := by simpa using he
        clear e2 e3 he
        generalize Gt.wtE m s x = X at *
        go_wp2_with (first | refine wpList_exe (exec_lor (d := false) (x := x) (off := o + k * 4) _ (by rfl) (by rfl) (HX.out _ HK.out.b)) (by rfl) ?_ | (refine wpList_akr HK rfl rfl ?_; intro _ g1 HK'; simp only [List.cons_append, List.nil_append] at HK'; replace HK := HK'; clear HK') | (refine wpList_sr HK 0 rfl _ _ rfl rfl rfl rfl ?_; intro _ HK'; simp only [List.set] at HK'; replace HK := HK'; clear HK') | refine wpList_exe (exec_lod (d := false) (x := x) (off := o + k * 4) _ (by rfl) (by rfl) (HX.out _ HK.out.b)) (by rfl) ?_ | refine wpList_exe (kexec_lr HK 0 _ (by rfl) (by rfl) (by rfl)) (by rfl) ?_)
        refine (HT.out _ (Sls.own (HK.out.own 0 rfl) HFs.out)).mono ?_; rintro e w1 ⟨A4, n4, c4, A5, n5, c5, rfl, hT, b4⟩
        replace HK := Lib.hid (hT _ _ _ _ HK.out)
        simp only [List.cons_append, List.nil_append] at HK
        clear hT b4 HT
        obtain rfl : N = n4 := ((Lay.Own.reads (HK.out.own 2 rfl)).1.trans hN.out).symm
        obtain rfl : n5 = 0 := (Lay.Own.reads (HK.out.own 3 rfl)).1
        go_wp2_with fail
        refine (lsame_self _ _ _ _ _ _ s _ (Sls.own (HK.out.own 2 rfl) HFs.out) (Sls.own (HK.out.own 1 rfl) HFs.out)).mono ?_; rintro e w1 ⟨rfl, b1⟩
        replace HK := Lib.hid (HK.out.call b1); clear b1
        go_wp2_with (first | refine wpList_exe (exec_add1 (j := k) _ (by rfl) (by rfl) hk3) (by rfl) ?_)
        exact ⟨⟨k + 1, N, c4, c2, A4, A2, s, hlt, rfl, rfl, rfl, by omega, hN, HRs, Lib.hid ((HK.out.takeL 0).pickTwo 2 1 rfl rfl (by decide))⟩, by simp [intOf]; omega⟩
    case pos =>
    obtain ⟨hr, hok, ha⟩ := Gt.wt_is he
    obtain ⟨N1, hN1⟩ : ∃ N1, N1 = N + 1 := ⟨_, rfl⟩
    have HN2 : Hid ((s ++ [x]).length = N1) := Lib.hid (by rw [List.length_append, hN.out, hN1]; rfl)
    have HL2 := grow_ok (La := rfLay) HN2 (by show N1 * 24 ≤ _; omega) (by omega)
    have HF2 : Hid (Fits rfLay rF (s ++ [x])) := Lib.hid (fits_six (by rw [HN2.out]; omega))
    by_cases hf : (s.length : Int) + 1 = m
    case pos =>
      as_aux_lemma =>
        obtain ⟨e1, e2, e3⟩ := Gt.wt_full hr hok ha hf
        rw [e1, e2, e3] at HT
        have hz : ((N1 : Int) == m) = true := by rw [beq_iff_eq, ← hf, hN.out, hN1]; omega
        clear e1 e2 e3 he hr hok ha hf hN1
        go_wp2_with (first | refine wpList_exe (exec_lor (d := false) (x := x) (off := o + k * 4) _ (by rfl) (by rfl) (HX.out _ HK.out.b)) (by rfl) ?_ | (refine wpList_akr HK rfl rfl ?_; intro _ g1 HK'; simp only [List.cons_append, List.nil_append] at HK'; replace HK := HK'; clear HK') | (refine wpList_sr HK 0 rfl _ _ rfl rfl rfl rfl ?_; intro _ HK'; simp only [List.set] at HK'; replace HK := HK'; clear HK') | refine wpList_exe (exec_lod (d := false) (x := x) (off := o + k * 4) _ (by rfl) (by rfl) (HX.out _ HK.out.b)) (by rfl) ?_ | refine wpList_exe (kexec_lr HK 0 _ (by rfl) (by rfl) (by rfl)) (by rfl) ?_)
        refine (HT.out _ (Sls.own (HK.out.own 0 rfl) HFs.out)).mono ?_; rintro e w1 ⟨A4, n4, c4, A5, n5, c5, rfl, hT, b4⟩
        replace HK := Lib.hid (hT _ _ _ _ HK.out)
        simp only [List.cons_append, List.nil_append] at HK
        clear hT b4 HT
        obtain rfl : n4 = 0 := (Lay.Own.reads (HK.out.own 2 rfl)).1
        obtain rfl : N1 = n5 := ((Lay.Own.reads (HK.out.own 3 rfl)).1.trans HN2.out).symm
        go_wp2_with (first | refine wpList_exe (kexec_lr HK 0 _ (by rfl) (by rfl) (by rfl)) (by rfl) ?_ | (refine wpList_mk1 rfLay (p := x) HK (by decide) rfl _ rfl rfl rfl ?_; intro _ g5 HK'; simp only [List.cons_append, List.nil_append] at HK'; have HR := Lib.hid (HK'.out.own 4 rfl).rd; replace HK := HK'; clear HK') | (at_builtin; refine wpList_kmore HK rfLay 1 rfl _ _ rfl rfl rfl [x] rfl rfl HR HL2 (N := N1) HN2 ?_; intro A7 c7 _ HK'; simp only [List.set] at HK'; replace HK := HK'; clear HK'))
        refine (lsame_self _ _ _ _ _ _ (s ++ [x]) _ (Sls.own (HK.out.own 3 rfl) HF2.out) (Sls.own (HK.out.own 1 rfl) HF2.out)).mono ?_; rintro e w1 ⟨rfl, b1⟩
        replace HK := Lib.hid (HK.out.call b1); clear b1
        go_wp2_with fail
        refine (lsame_self _ _ _ _ _ _ [] _ (Sls.own (HK.out.own 2 rfl) (fits_six (Nat.zero_le _))) (Sls.none _)).mono ?_; rintro e w1 ⟨rfl, b1⟩
        replace HK := Lib.hid (HK.out.call b1); clear b1
        go_wp2_with (first | refine wpList_exe (exec_add1 (j := k) _ (by rfl) (by rfl) hk3) (by rfl) ?_)
        exact ⟨⟨k + 1, 0, c4, 0, A4, none, [], hlt, rfl, rfl, rfl, by omega, Lib.hid rfl, HRn, Lib.hid (((HK.out.takeL 0).nilR rfLay).pickTwo 2 5 rfl rfl (by decide))⟩, by simp [intOf]; omega⟩
    case neg =>
      as_aux_lemma =>
        obtain ⟨e1, e2, e3⟩ := Gt.wt_more hr hok ha hf
        rw [e1, e2, e3] at HT
        have HRt := Lib.hid (Gt.right_ap hr hok ha hf)
        have hz : ((N1 : Int) == m) = false := by
          rw [beq_eq_false_iff_ne]
          intro h
          apply hf
          rw [← h, hN.out, hN1]; omega
        clear e1 e2 e3 he hr hok ha hf hN1
        go_wp2_with (first | refine wpList_exe (exec_lor (d := false) (x := x) (off := o + k * 4) _ (by rfl) (by rfl) (HX.out _ HK.out.b)) (by rfl) ?_ | (refine wpList_akr HK rfl rfl ?_; intro _ g1 HK'; simp only [List.cons_append, List.nil_append] at HK'; replace HK := HK'; clear HK') | (refine wpList_sr HK 0 rfl _ _ rfl rfl rfl rfl ?_; intro _ HK'; simp only [List.set] at HK'; replace HK := HK'; clear HK') | refine wpList_exe (exec_lod (d := false) (x := x) (off := o + k * 4) _ (by rfl) (by rfl) (HX.out _ HK.out.b)) (by rfl) ?_ | refine wpList_exe (kexec_lr HK 0 _ (by rfl) (by rfl) (by rfl)) (by rfl) ?_)
        refine (HT.out _ (Sls.own (HK.out.own 0 rfl) HFs.out)).mono ?_; rintro e w1 ⟨A4, n4, c4, A5, n5, c5, rfl, hT, b4⟩
        replace HK := Lib.hid (hT _ _ _ _ HK.out)
        simp only [List.cons_append, List.nil_append] at HK
        clear hT b4 HT
        obtain rfl : N1 = n4 := ((Lay.Own.reads (HK.out.own 2 rfl)).1.trans HN2.out).symm
        obtain rfl : n5 = 0 := (Lay.Own.reads (HK.out.own 3 rfl)).1
        go_wp2_with (first | refine wpList_exe (kexec_lr HK 0 _ (by rfl) (by rfl) (by rfl)) (by rfl) ?_ | (refine wpList_mk1 rfLay (p := x) HK (by decide) rfl _ rfl rfl rfl ?_; intro _ g5 HK'; simp only [List.cons_append, List.nil_append] at HK'; have HR := Lib.hid (HK'.out.own 4 rfl).rd; replace HK := HK'; clear HK') | (at_builtin; refine wpList_kmore HK rfLay 1 rfl _ _ rfl rfl rfl [x] rfl rfl HR HL2 (N := N1) HN2 ?_; intro A7 c7 _ HK'; simp only [List.set] at HK'; replace HK := HK'; clear HK'))
        refine (lsame_self _ _ _ _ _ _ (s ++ [x]) _ (Sls.own (HK.out.own 2 rfl) HF2.out) (Sls.own (HK.out.own 1 rfl) HF2.out)).mono ?_; rintro e w1 ⟨rfl, b1⟩
        replace HK := Lib.hid (HK.out.call b1); clear b1
        go_wp2_with (first | refine wpList_exe (exec_add1 (j := k) _ (by rfl) (by rfl) hk3) (by rfl) ?_)
        exact ⟨⟨k + 1, N1, c4, c7, A4, A7, s ++ [x], hlt, rfl, rfl, rfl, by omega, HN2, HRt, Lib.hid ((HK.out.takeL 0).pickTwo 2 1 rfl rfl (by decide))⟩, by simp [intOf]; omega⟩
end Go.Proofs.Ytbdfmfegmfmghaa
