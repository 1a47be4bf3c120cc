/-
  The law LockTurns: it returns true, and leaves what came in as it was.
  No condition but what the slice reads as.
-/
import Derived.Test.YtahmcgnlpogfaaaLockAwake
import Derived.Test.YtahmcgnlpogfaaaLockTurnsM
import Derived.Test.YtahmcgnlpogfaaaRfOps
import Derived.Deep.CutBlock
import Derived.Deep.DeepCutAuto
set_option linter.unusedSimpArgs false
set_option linter.unusedVariables false
namespace Go.Proofs.Ytahmcgnlpogfaaa
open Go.RowKit

theorem Kn.pick4 {b0 : Nat} {w0 w : World} {L : List (Nat × TypeId × Array Value)} {R : List RowE} (h : Kn b0 w0 w L R) (i j k m : Nat) {x y z u : RowE} (hi : R[i]? = some x) (hj : R[j]? = some y) (hk : R[k]? = some z) (hm : R[m]? = some u) (h1 : i ≠ j) (h2 : i ≠ k) (h3 : j ≠ k) (h4 : i ≠ m) (h5 : j ≠ m) (h6 : k ≠ m) : Kn b0 w0 w L [x, y, z, u] :=
  h.pick id (fun q => if q = 0 then i else if q = 1 then j else if q = 2 then k else m) (fun _ _ _ _ h => h) (fun a b ha hb hab => by
    have ha : a < 4 := ha
    have hb : b < 4 := hb
    split <;> split <;> (try split) <;> (try split) <;> (try split) <;> (try split) <;> omega) (fun _ _ h => h) (fun q v hq => by
    match q, hq with
    | 0, hq => simp at hq; subst hq; exact hi
    | 1, hq => simp at hq; subst hq; exact hj
    | 2, hq => simp at hq; subst hq; exact hk
    | 3, hq => simp at hq; subst hq; exact hm)
theorem fits_rt {s : List Rf} (h : Lck.Right s) : Fits rfLay rF s := ⟨fun x hx => trivial, by
  have := Lck.right_len h
  show s.length * 24 ≤ _
  omega⟩
set_option maxRecDepth 100000 in
set_option maxHeartbeats 51200000 in
theorem turns_yes (A : Option Addr) (c n : Nat) (ops : List ROp) (w : World) (hs : Sls ropLay (fun _ => True) w A n c ops) :
    Calls Try.prog 4 #[.slice A n c] w (fun e w' => e = .returned (.bool true) ∧ Below w.heap.size w w') := by
  have HS := Lib.hid hs
  have HAw := Lib.hid (fun W => awake_any W)
  have hn63 : n < 9223372036854775807 := by
    have h : n * 32 ≤ 140737488355328 := hs.big
    omega
  unfold IsB at *
  clear hs
  have HK := Lib.hid (((Kn.start w).nilR rfLay).nilR rfLay)
  simp only [List.cons_append, List.nil_append] at HK
  go_enter Try.func4, Try.ntmps4
  go_wp2_with fail
  go_loopw [3, 4, 5] (fun v3 v4 v5 wr => ∃ (k N c1 c2 : Nat) (A1 A2 : Option Addr) (s : List Rf), k ≤ n ∧ v3 = .slice A1 N c1 ∧ v4 = .slice A2 N c2 ∧ v5 = .int .i64 k ∧ k ≤ 100 ∧ Hid (s.length = N) ∧ Hid (Lck.Right s) ∧ Hid (Kn w.heap.size w wr [] [row rfLay (.slice A1 N c1) s, row rfLay (.slice A2 N c2) s])) (fun _ _ v5 _ => n - (intOf v5).toNat)
  case atStart => exact ⟨0, 0, 0, 0, none, none, [], Nat.zero_le _, rfl, rfl, rfl, by decide, Lib.hid rfl, Lib.hid Lck.right_nil, HK⟩
  case round =>
    clear HK
    obtain ⟨k, N, c1, c2, A1, A2, s, hkn, rfl, rfl, rfl, hk100, hN, HRs, HK⟩ := hrel
    have hk1 : (0 : Int) ≤ (k : Int) := by omega
    have hk3 : k < 9223372036854775807 := by omega
    by_cases hgo : k < n ∧ k < 100
    case neg =>
      as_aux_lemma =>
        have hout : k = n ∨ (k < n ∧ 100 ≤ k) := by omega
        clear hgo HS hN HRs
        rcases hout with rfl | ⟨hlt, h100⟩
        · go_wp2_with fail
          refine (HAw.out _).mono ?_; rintro e w1 ⟨rfl, b1⟩
          replace HK := Lib.hid (HK.out.call b1); clear b1
          go_wp2_with fail
          go_ret
          exact ⟨rfl, HK.out.b⟩
        · have hk2 : (k : Int) < (n : Int) := by omega
          have hk62 : ¬ (k : Int) < 100 := by omega
          go_wp2_with fail
          refine (HAw.out _).mono ?_; rintro e w1 ⟨rfl, b1⟩
          replace HK := Lib.hid (HK.out.call b1); clear b1
          go_wp2_with fail
          go_ret
          exact ⟨rfl, HK.out.b⟩
    case pos =>
    obtain ⟨hlt, hlt100⟩ := hgo
    have hk2 : (k : Int) < (n : Int) := by omega
    have hk62 : (k : Int) < 100 := by omega
    obtain ⟨⟨kd, x⟩, hx, _⟩ := HS.out.get hlt
    obtain ⟨b, o, rfl, hat⟩ := HS.out.at (Nat.lt_of_le_of_lt (Nat.zero_le _) hlt)
    have HX := Lib.hid (fun W hW => hat W hW k ⟨kd, x⟩ hx)
    have HFs := Lib.hid (fits_rt HRs.out)
    have hN5 : N ≤ 5 := by rw [← hN.out]; exact Lck.right_len HRs.out
    have HTw := Lib.hid (fun W A c n l (h : Sls rfLay rF W A n c l) => ltwin_any A c n l W h)
    unfold IsLg at HTw
    clear hat hx HAw HS
    go_wp2_with fail
    refine (HTw.out _ A1 c1 N s (Sls.own (HK.out.own 0 rfl) HFs.out)).mono ?_; rintro e w1 ⟨A3, n3, c3, rfl, o3, b3⟩
    obtain rfl : N = n3 := ((Lay.Own.reads o3).1.trans hN.out).symm
    replace HK := Lib.hid ((HK.out.called b3 o3).nilR rfLay)
    simp only [List.cons_append, List.nil_append] at HK
    clear o3 b3 HTw
    go_upto_block 2 with (first | refine wpList_exe (exec_lor (k := kd) (x := x) (off := o + k * 4) _ (by rfl) (by rfl) (HX.out _ HK.out.b)) (by rfl) ?_ | (refine wpList_akr HK rfl rfl ?_; intro _ g1 HK'; simp only [List.cons_append, List.nil_append] at HK'; replace HK := HK'; clear HK') | (refine wpList_sr HK 0 rfl _ _ rfl rfl rfl rfl ?_; intro _ HK'; simp only [List.set] at HK'; replace HK := HK'; clear HK') | refine wpList_exe (exec_lok (k := kd) (x := x) (off := o + k * 4) _ (by rfl) (by rfl) (HX.out _ HK.out.b)) (by rfl) ?_)
    try simp only [Act.put, List.setIfInBounds_toArray, List.set_cons_zero, List.set_cons_succ]
    go_cut [3, 4, 8, 9, 10, 11, 12, 13, 14, 15, 16, 17, 18, 19, 20] (fun s3 s4 s8 s9 s10 s11 s12 s13 s14 s15 s16 s17 s18 s19 s20 wx => ∃ (N2 nt c4 c5 c6 : Nat) (A4 A5 A6 : Option Addr) (s2 t : List Rf), s3 = .slice A4 N2 c4 ∧ s4 = .slice A5 N2 c5 ∧ s8 = .slice A6 nt c6 ∧ Hid (s2.length = N2 ∧ t.length = nt) ∧ Hid (Lck.Right s2) ∧ Hid (Lck.Told s s2 t) ∧ Hid (Kn w.heap.size w wx [] [row rfLay (.slice A4 N2 c4) s2, row rfLay (.slice A5 N2 c5) s2, row rfLay (.slice A3 N c3) s, row rfLay (.slice A6 nt c6) t]))
    case first =>
      have HNt : Hid (∀ y : Rf, (([] : List Rf) ++ [y]).length = 1) := Lib.hid fun y => rfl
      clear HX
      by_cases h1 : kd = 1
      case pos =>
        as_aux_lemma =>
          have h1b : (kd == 1) = true := by simpa using h1
          have HT := Lib.hid (fun W (h : Sls rfLay rF W A1 N c1 s) => ltake_any A1 c1 N s x W h)
          have HTd := Lib.hid (Lck.told_tk (s := s) x)
          have HRt := Lib.hid (Lck.tk_right HRs.out x)
          unfold IsTk at HT
          clear h1
          by_cases he : Lck.tkE s x = 0
          · have hl := Lck.tk_more he
            rw [hl] at HTd HRt HT
            rw [he] at HT
            clear hl he
            generalize Lck.tkH s x = H at *
            have HN2 : Hid ((s ++ [x]).length = N + 1) := Lib.hid (by rw [List.length_append, hN.out]; rfl)
            have HL2 := grow_ok (La := rfLay) HN2 (by show (N + 1) * 24 ≤ _; omega) (by omega)
            have HLt := grow_ok (La := rfLay) (l := []) (m := [x]) (Lib.hid (HNt.out x)) (by show 1 * 24 ≤ _; decide) (by omega)
            cases H with
            | true =>
              go_wp2_with (first | refine wpList_exe (kexec_lr HK 0 _ (by rfl) (by rfl) (by rfl)) (by rfl) ?_)
              refine (HT.out _ (Sls.own (HK.out.own 0 rfl) HFs.out)).mono ?_; rintro e w1 ⟨A4, n4, c4, rfl, o4, b4⟩
              obtain rfl : N + 1 = n4 := ((Lay.Own.reads o4).1.trans HN2.out).symm
              replace HK := Lib.hid (HK.out.called b4 o4)
              simp only [List.cons_append, List.nil_append] at HK
              clear o4 b4 HT
              go_wp2_with (first | refine wpList_exe (kexec_lr HK 0 _ (by rfl) (by rfl) (by rfl)) (by rfl) ?_ | (refine wpList_mk1 rfLay (p := x) HK (by decide) rfl _ rfl rfl rfl ?_; intro _ g5 HK'; simp only [List.cons_append, List.nil_append] at HK'; (first | have HR := Lib.hid (HK'.out.own 6 rfl).rd | have HR := Lib.hid (HK'.out.own 5 rfl).rd); replace HK := HK'; clear HK') | (at_builtin; refine wpList_kmore HK rfLay 1 rfl _ _ rfl rfl rfl [x] rfl rfl HR HL2 (N := N + 1) HN2 ?_; intro A5 c5 _ HK'; simp only [List.set] at HK'; replace HK := HK'; clear HK') | (at_builtin; refine wpList_kmore HK rfLay 3 rfl _ _ rfl rfl rfl [x] rfl rfl HR HLt (N := 1) (Lib.hid (HNt.out x)) ?_; intro A6 c6 _ HK'; simp only [List.set] at HK'; replace HK := HK'; clear HK'))
              go_meet
              exact ⟨N + 1, 1, c4, c5, c6, A4, A5, A6, s ++ [x], [x], rfl, rfl, rfl, Lib.hid ⟨HN2.out, rfl⟩, HRt, HTd, Lib.hid ((HK.out.takeL 0).pick4 4 1 2 3 rfl rfl rfl rfl (by decide) (by decide) (by decide) (by decide) (by decide) (by decide))⟩
            | false =>
              go_wp2_with (first | refine wpList_exe (kexec_lr HK 0 _ (by rfl) (by rfl) (by rfl)) (by rfl) ?_)
              refine (HT.out _ (Sls.own (HK.out.own 0 rfl) HFs.out)).mono ?_; rintro e w1 ⟨A4, n4, c4, rfl, o4, b4⟩
              obtain rfl : N + 1 = n4 := ((Lay.Own.reads o4).1.trans HN2.out).symm
              replace HK := Lib.hid (HK.out.called b4 o4)
              simp only [List.cons_append, List.nil_append] at HK
              clear o4 b4 HT
              go_wp2_with (first | refine wpList_exe (kexec_lr HK 0 _ (by rfl) (by rfl) (by rfl)) (by rfl) ?_ | (refine wpList_mk1 rfLay (p := x) HK (by decide) rfl _ rfl rfl rfl ?_; intro _ g5 HK'; simp only [List.cons_append, List.nil_append] at HK'; have HR := Lib.hid (HK'.out.own 5 rfl).rd; replace HK := HK'; clear HK') | (at_builtin; refine wpList_kmore HK rfLay 1 rfl _ _ rfl rfl rfl [x] rfl rfl HR HL2 (N := N + 1) HN2 ?_; intro A5 c5 _ HK'; simp only [List.set] at HK'; replace HK := HK'; clear HK'))
              go_meet
              exact ⟨N + 1, 0, c4, c5, 0, A4, A5, none, s ++ [x], [], rfl, rfl, rfl, Lib.hid ⟨HN2.out, rfl⟩, HRt, HTd, Lib.hid ((HK.out.takeL 0).pick4 4 1 2 3 rfl rfl rfl rfl (by decide) (by decide) (by decide) (by decide) (by decide) (by decide))⟩
          · have hl : Lck.tkL s x = s := if_neg he
            rw [hl] at HT
            have hz : (Lck.tkE s x == 0) = false := by simpa using he
            clear hl he HTd HRt
            generalize Lck.tkE s x = X at *
            generalize Lck.tkH s x = H at *
            go_wp2_with (first | refine wpList_exe (kexec_lr HK 0 _ (by rfl) (by rfl) (by rfl)) (by rfl) ?_)
            refine (HT.out _ (Sls.own (HK.out.own 0 rfl) HFs.out)).mono ?_; rintro e w1 ⟨A4, n4, c4, rfl, o4, b4⟩
            obtain rfl : N = n4 := ((Lay.Own.reads o4).1.trans hN.out).symm
            replace HK := Lib.hid (HK.out.called b4 o4)
            simp only [List.cons_append, List.nil_append] at HK
            clear o4 b4 HT
            go_wp2_with fail
            go_meet
            exact ⟨N, 0, c4, c2, 0, A4, A2, none, s, [], rfl, rfl, rfl, Lib.hid ⟨hN.out, rfl⟩, HRs, Lib.hid (Lck.told_same s), Lib.hid ((HK.out.takeL 0).pick4 4 1 2 3 rfl rfl rfl rfl (by decide) (by decide) (by decide) (by decide) (by decide) (by decide))⟩
      case neg =>
      have h1b : (kd == 1) = false := by simpa using h1
      clear h1
      by_cases h2 : kd = 2
      case pos =>
        as_aux_lemma =>
          have h2b : (kd == 2) = true := by simpa using h2
          have HT := Lib.hid (fun W (h : Sls rfLay rF W A1 N c1 s) => lfree_any A1 c1 N s x W h)
          have HTd := Lib.hid (Lck.told_fr HRs.out x)
          have HRt := Lib.hid (Lck.fr_right HRs.out x)
          unfold IsFr at HT
          clear h2
          by_cases he : Lck.frE s x = 0
          · obtain ⟨hl, hpos⟩ := Lck.fr_drop he
            rw [hN.out] at hpos
            rw [hl] at HTd HRt HT
            rw [he] at HT
            clear hl he
            have hz : ((N : Int) == 0) = false := by simp; omega
            have hlen : (s.drop 1).length = N - 1 := by rw [List.length_drop, hN.out]
            have HLn := Lib.hid hlen
            have HLm := Lib.hid hlen.symm
            have HN1 : Hid ((([] : List Rf) ++ s.drop 1).length = N - 1) := Lib.hid (by rw [List.nil_append]; exact hlen)
            have HG1 := grow_ok (La := rfLay) HN1 (by show (N - 1) * 24 ≤ _; omega) (by omega)
            clear hlen
            generalize Lck.frS s x = H at *
            generalize Lck.frN s x = y at *
            have HLt := grow_ok (La := rfLay) (l := []) (m := [y]) (Lib.hid (HNt.out y)) (by show 1 * 24 ≤ _; decide) (by omega)
            cases H with
            | true =>
              go_wp2_with (first | refine wpList_exe (kexec_lr HK 0 _ (by rfl) (by rfl) (by rfl)) (by rfl) ?_)
              refine (HT.out _ (Sls.own (HK.out.own 0 rfl) HFs.out)).mono ?_; rintro e w1 ⟨A4, n4, c4, rfl, o4, b4⟩
              obtain rfl : N - 1 = n4 := ((Lay.Own.reads o4).1.trans HLn.out).symm
              replace HK := Lib.hid (HK.out.called b4 o4)
              simp only [List.cons_append, List.nil_append] at HK
              clear o4 b4 HT
              go_wp2_with (first | (refine wpList_akr HK rfl rfl ?_; intro _ g5 HK'; simp only [List.cons_append, List.nil_append] at HK'; replace HK := HK'; clear HK') | (refine wpList_sr HK 1 rfl _ _ rfl rfl rfl rfl ?_; intro _ HK'; simp only [List.set] at HK'; replace HK := HK'; clear HK') | refine wpList_exe (exec_srl (lo := 1) _ _ (by rfl) (by rfl) (by rfl) hpos) (by rfl) ?_ | (refine wpList_mk0 rfLay HK rfl rfl ?_; intro _ g7 HK'; simp only [List.cons_append, List.nil_append] at HK'; have HR1 := Lib.hid (let h := (Sls.own (HK'.out.own 1 rfl) HFs.out).drop (lo := 1) hpos; And.intro h.rd h.nl); replace HK := HK'; clear HK') | (at_builtin; refine wpList_kmore HK rfLay 5 rfl _ _ rfl rfl rfl (s.drop 1) rfl HLm.out HR1 HG1 (N := N - 1) HN1 ?_; intro A5 c5 _ HK'; simp only [List.set, List.nil_append] at HK'; replace HK := HK'; clear HK') | refine wpList_exe (kexec_lr HK 1 _ (by rfl) (by rfl) (by rfl)) (by rfl) ?_ | (refine wpList_mk1 rfLay (p := y) HK (by decide) rfl _ rfl rfl rfl ?_; intro _ g6 HK'; simp only [List.cons_append, List.nil_append] at HK'; have HR := Lib.hid (HK'.out.own 6 rfl).rd; replace HK := HK'; clear HK') | (at_builtin; refine wpList_kmore HK rfLay 3 rfl _ _ rfl rfl rfl [y] rfl rfl HR HLt (N := 1) (Lib.hid (HNt.out y)) ?_; intro A6 c6 _ HK'; simp only [List.set] at HK'; replace HK := HK'; clear HK'))
              go_meet
              exact ⟨N - 1, 1, c4, c5, c6, A4, A5, A6, s.drop 1, [y], rfl, rfl, rfl, Lib.hid ⟨HLn.out, rfl⟩, HRt, HTd, Lib.hid ((HK.out.takeL 0).pick4 4 5 2 3 rfl rfl rfl rfl (by decide) (by decide) (by decide) (by decide) (by decide) (by decide))⟩
            | false =>
              go_wp2_with (first | refine wpList_exe (kexec_lr HK 0 _ (by rfl) (by rfl) (by rfl)) (by rfl) ?_)
              refine (HT.out _ (Sls.own (HK.out.own 0 rfl) HFs.out)).mono ?_; rintro e w1 ⟨A4, n4, c4, rfl, o4, b4⟩
              obtain rfl : N - 1 = n4 := ((Lay.Own.reads o4).1.trans HLn.out).symm
              replace HK := Lib.hid (HK.out.called b4 o4)
              simp only [List.cons_append, List.nil_append] at HK
              clear o4 b4 HT
              go_wp2_with (first | (refine wpList_akr HK rfl rfl ?_; intro _ g5 HK'; simp only [List.cons_append, List.nil_append] at HK'; replace HK := HK'; clear HK') | (refine wpList_sr HK 1 rfl _ _ rfl rfl rfl rfl ?_; intro _ HK'; simp only [List.set] at HK'; replace HK := HK'; clear HK') | refine wpList_exe (exec_srl (lo := 1) _ _ (by rfl) (by rfl) (by rfl) hpos) (by rfl) ?_ | (refine wpList_mk0 rfLay HK rfl rfl ?_; intro _ g7 HK'; simp only [List.cons_append, List.nil_append] at HK'; have HR1 := Lib.hid (let h := (Sls.own (HK'.out.own 1 rfl) HFs.out).drop (lo := 1) hpos; And.intro h.rd h.nl); replace HK := HK'; clear HK') | (at_builtin; refine wpList_kmore HK rfLay 5 rfl _ _ rfl rfl rfl (s.drop 1) rfl HLm.out HR1 HG1 (N := N - 1) HN1 ?_; intro A5 c5 _ HK'; simp only [List.set, List.nil_append] at HK'; replace HK := HK'; clear HK'))
              go_meet
              exact ⟨N - 1, 0, c4, c5, 0, A4, A5, none, s.drop 1, [], rfl, rfl, rfl, Lib.hid ⟨HLn.out, rfl⟩, HRt, HTd, Lib.hid ((HK.out.takeL 0).pick4 4 5 2 3 rfl rfl rfl rfl (by decide) (by decide) (by decide) (by decide) (by decide) (by decide))⟩
          · have hl : Lck.frL s x = s := if_neg he
            have hf : Lck.frS s x = false := by unfold Lck.frS; rw [decide_eq_false he]; rfl
            rw [hl, hf] at HT
            have hz : (Lck.frE s x == 0) = false := by simpa using he
            clear hl hf he HTd HRt
            generalize Lck.frE s x = X at *
            generalize Lck.frN s x = y at *
            go_wp2_with (first | refine wpList_exe (kexec_lr HK 0 _ (by rfl) (by rfl) (by rfl)) (by rfl) ?_)
            refine (HT.out _ (Sls.own (HK.out.own 0 rfl) HFs.out)).mono ?_; rintro e w1 ⟨A4, n4, c4, rfl, o4, b4⟩
            obtain rfl : N = n4 := ((Lay.Own.reads o4).1.trans hN.out).symm
            replace HK := Lib.hid (HK.out.called b4 o4)
            simp only [List.cons_append, List.nil_append] at HK
            clear o4 b4 HT
            go_wp2_with (first | (refine wpList_akr HK rfl rfl ?_; intro _ g5 HK'; simp only [List.cons_append, List.nil_append] at HK'; replace HK := HK'; clear HK') | (refine wpList_sr HK 1 rfl _ _ rfl rfl rfl rfl ?_; intro _ HK'; simp only [List.set] at HK'; replace HK := HK'; clear HK'))
            go_meet
            exact ⟨N, 0, c4, c2, 0, A4, A2, none, s, [], rfl, rfl, rfl, Lib.hid ⟨hN.out, rfl⟩, HRs, Lib.hid (Lck.told_same s), Lib.hid ((HK.out.takeL 0).pick4 4 1 2 3 rfl rfl rfl rfl (by decide) (by decide) (by decide) (by decide) (by decide) (by decide))⟩
      case neg =>
      have h2b : (kd == 2) = false := by simpa using h2
      clear h2
      by_cases h3 : kd = 3
      case pos =>
        as_aux_lemma =>
          have h3b : (kd == 3) = true := by simpa using h3
          have HT := Lib.hid (fun W (h : Sls rfLay rF W A1 N c1 s) => ldrop_any A1 c1 N s x W h)
          have HTd := Lib.hid (Lck.told_dr HRs.out x)
          have HRt := Lib.hid (Lck.dr_right HRs.out x)
          unfold IsDr at HT
          have hl : Lck.drL s x = Lck.wo s x := if_pos HRs.out
          rw [hl] at HTd HRt HT
          have HG : Hid (∀ j, j < N → ∃ z, s[j]? = some z) := Lib.hid fun j hj => Lay.get_of (l := s) (k := j) (by rw [hN.out]; exact hj)
          have HTake : Hid (s.take N = s) := Lib.hid (by rw [← hN.out]; exact List.take_length)
          have HTl : Hid (∀ j, j ≤ N → (Lck.wo (s.take j) x).length ≤ j) := Lib.hid fun j hj => Nat.le_trans (Lck.wo_le _ _) (by rw [List.length_take]; omega)
          clear h3 hl
          generalize Lck.drS s x = H at *
          generalize Lck.drN s x = y at *
          have HLt := grow_ok (La := rfLay) (l := []) (m := [y]) (Lib.hid (HNt.out y)) (by show 1 * 24 ≤ _; decide) (by omega)
          go_wp2_with (first | refine wpList_exe (kexec_lr HK 0 _ (by rfl) (by rfl) (by rfl)) (by rfl) ?_)
          refine (HT.out _ (Sls.own (HK.out.own 0 rfl) HFs.out)).mono ?_; rintro e w1 ⟨A4, n4, c4, rfl, o4, b4⟩
          obtain rfl := (Lay.Own.reads o4).1
          replace HK := Lib.hid (HK.out.called b4 o4)
          simp only [List.cons_append, List.nil_append] at HK
          clear o4 b4 HT
          replace HK := Lib.hid (HK.out.nilR rfLay)
          simp only [List.cons_append, List.nil_append] at HK
          go_wp2_with (first | (refine wpList_akr HK rfl rfl ?_; intro _ g5 HK'; simp only [List.cons_append, List.nil_append] at HK'; replace HK := HK'; clear HK') | (refine wpList_sr HK 1 rfl _ _ rfl rfl rfl rfl ?_; intro _ HK'; simp only [List.set] at HK'; replace HK := HK'; clear HK'))
          go_loopw [19, 20] (fun v19 v20 wi => ∃ (j M c5 : Nat) (A5 : Option Addr), j ≤ N ∧ v19 = .slice A5 M c5 ∧ v20 = .int .i64 j ∧ Hid ((Lck.wo (s.take j) x).length = M) ∧ Hid (Kn w.heap.size w wi [(g1, 24, #[.int .i64 x.c, .int .i64 x.e, .int .i64 x.r]), (g5, 24, #[.int .i64 y.c, .int .i64 y.e, .int .i64 y.r])] [row rfLay (.slice A1 N c1) s, row rfLay (.slice A2 N c2) s, row rfLay (.slice A3 N c3) s, row rfLay (.slice none 0 0) [], row rfLay (.slice A4 (Lck.wo s x).length c4) (Lck.wo s x), row rfLay (.slice A5 M c5) (Lck.wo (s.take j) x)])) (fun _ v20 _ => N - (intOf v20).toNat)
          case atStart => exact ⟨0, 0, 0, none, Nat.zero_le _, rfl, rfl, Lib.hid rfl, HK⟩
          case round =>
            clear HK
            obtain ⟨j, M, c5, A5, hjN, rfl, rfl, hM, HK⟩ := hrel
            have hj1 : (0 : Int) ≤ (j : Int) := by omega
            by_cases hjlt : j < N
            case pos =>
              have hj2 : (j : Int) < (N : Int) := by omega
              have hj3 : j < 9223372036854775807 := by omega
              obtain ⟨z, hz⟩ := HG.out j hjlt
              obtain ⟨b2, o2, rfl, _⟩ := (Sls.own (HK.out.own 1 rfl) HFs.out).at (Nat.lt_of_le_of_lt (Nat.zero_le _) hjlt)
              have HZ := Lib.hid hz
              have hMj : M ≤ j := by rw [← hM.out]; exact HTl.out j hjN
              by_cases hm : Lck.mine z x
              case pos =>
                have HE := Lib.hid (Lck.wo_take_out hz hm)
                have hb1 : (!(z.c == x.c)) = false := by simpa using hm.1
                have hb2 : (!(z.e == x.e)) = false := by simpa using hm.2
                have hb3 : (z.c != x.c) = false := by simpa using hm.1
                have hb4 : (z.e != x.e) = false := by simpa using hm.2
                clear hz hm
                go_wp2_with fail
                refine wp_region_held_drew (S := (fun W => Hid (Kn w.heap.size w W [(g1, 24, #[.int .i64 x.c, .int .i64 x.e, .int .i64 x.r]), (g5, 24, #[.int .i64 y.c, .int .i64 y.e, .int .i64 y.r])] [row rfLay (.slice A1 N c1) s, row rfLay (.slice (some ⟨b2, o2, none⟩) N c2) s, row rfLay (.slice A3 N c3) s, row rfLay (.slice none 0 0) [], row rfLay (.slice A4 (Lck.wo s x).length c4) (Lck.wo s x), row rfLay (.slice A5 M c5) (Lck.wo (s.take j) x)]))) (by kernel_rfl) ?_ (fun hHeld => ?_)
                · (try dsimp only); exact Lib.hid HK.out.drew
                refine wpAnyH_take (i := 0) (oi := ⟨some 110, _, _, _, _, _⟩) (v := ?_) rfl (by kernel_rfl) (by kernel_rfl) (by kernel_rfl) (fun _ _ _ h => h) (Or.inl ⟨by rfl, ?_⟩) (by assumption) ?_
                rotate_left
                · (intro w hSw; (try dsimp only at hSw); go_simp; try with_reducible rfl)
                try simp only [Act.put, List.setIfInBounds_toArray, List.set_cons_zero, List.set_cons_succ]
                refine wpAnyH_take (i := 1) (oi := ⟨some 111, _, _, _, _, _⟩) (v := ?_) rfl (by kernel_rfl) (by kernel_rfl) (by kernel_rfl) (fun _ _ _ h => h) (Or.inl ⟨by rfl, ?_⟩) (by assumption) ?_
                rotate_left
                · (intro w hSw; (try dsimp only at hSw); go_simp; try with_reducible rfl)
                try simp only [Act.put, List.setIfInBounds_toArray, List.set_cons_zero, List.set_cons_succ]
                refine wpAnyH_take (i := 2) (oi := ⟨some 112, _, _, _, _, _⟩) (v := ?_) rfl (by kernel_rfl) (by kernel_rfl) (by kernel_rfl) (fun _ _ _ h => h) (Or.inl ⟨by rfl, ?_⟩) (by assumption) ?_
                rotate_left
                · (intro w hSw; refine Eq.trans (exec_ixr (i := j) _ _ (by rfl) (by rfl) (by rfl) hjlt) ?_; with_reducible rfl)
                try simp only [Act.put, List.setIfInBounds_toArray, List.set_cons_zero, List.set_cons_succ]
                refine wpAnyH_take (i := 3) (oi := ⟨some 113, _, _, _, _, _⟩) (v := ?_) rfl (by kernel_rfl) (by kernel_rfl) (by kernel_rfl) (fun _ _ _ h => h) (Or.inl ⟨by rfl, ?_⟩) (by assumption) ?_
                rotate_left
                · (intro w hSw; (try dsimp only at hSw); go_simp; try with_reducible rfl)
                try simp only [Act.put, List.setIfInBounds_toArray, List.set_cons_zero, List.set_cons_succ]
                refine wpAnyH_take (i := 4) (oi := ⟨some 114, _, _, _, _, _⟩) (v := ?_) rfl (by kernel_rfl) (by kernel_rfl) (by kernel_rfl) (fun _ _ _ h => h) (Or.inl ⟨by rfl, ?_⟩) (by assumption) ?_
                rotate_left
                · (intro w hSw; refine Eq.trans (exec_lrc (x := z) (off := o2 + j * 3) _ (by rfl) (by rfl) ((Sls.own (hSw.out.own 1 rfl) HFs.out).cells HZ.out)) ?_; with_reducible rfl)
                try simp only [Act.put, List.setIfInBounds_toArray, List.set_cons_zero, List.set_cons_succ]
                refine wpAnyH_take (i := 5) (oi := ⟨some 115, _, _, _, _, _⟩) (v := ?_) rfl (by kernel_rfl) (by kernel_rfl) (by kernel_rfl) (fun _ _ _ h => h) (Or.inl ⟨by rfl, ?_⟩) (by assumption) ?_
                rotate_left
                · (intro w hSw; (try dsimp only at hSw); go_simp; try with_reducible rfl)
                try simp only [Act.put, List.setIfInBounds_toArray, List.set_cons_zero, List.set_cons_succ]
                refine wpAnyH_take (i := 6) (oi := ⟨some 116, _, _, _, _, _⟩) (v := ?_) rfl (by kernel_rfl) (by kernel_rfl) (by kernel_rfl) (fun _ _ _ h => h) (Or.inl ⟨by rfl, ?_⟩) (by assumption) ?_
                rotate_left
                · (intro w hSw; refine Eq.trans (kexec_lc0 hSw 0 _ (by rfl) (by rfl) (by rfl)) ?_; with_reducible rfl)
                try simp only [Act.put, List.setIfInBounds_toArray, List.set_cons_zero, List.set_cons_succ]
                refine wpAnyH_take (i := 7) (oi := ⟨some 117, _, _, _, _, _⟩) (v := ?_) rfl (by kernel_rfl) (by kernel_rfl) (by kernel_rfl) (fun _ _ _ h => h) (Or.inl ⟨by rfl, ?_⟩) (by assumption) ?_
                rotate_left
                · (intro w hSw; (try dsimp only at hSw); go_simp; try with_reducible rfl)
                try simp only [Act.put, List.setIfInBounds_toArray, List.set_cons_zero, List.set_cons_succ]
                refine wpAnyH_take (i := 8) (oi := ⟨some 118, _, _, _, _, _⟩) (v := ?_) rfl (by kernel_rfl) (by kernel_rfl) (by kernel_rfl) (fun _ _ _ h => h) (Or.inl ⟨by rfl, ?_⟩) (by assumption) ?_
                rotate_left
                · (intro w hSw; (try dsimp only at hSw); go_simp; try with_reducible rfl)
                try simp only [Act.put, List.setIfInBounds_toArray, List.set_cons_zero, List.set_cons_succ]
                refine wpAnyH_take (i := 9) (oi := ⟨some 119, _, _, _, _, _⟩) (v := ?_) rfl (by kernel_rfl) (by kernel_rfl) (by kernel_rfl) (fun _ _ _ h => h) (Or.inl ⟨by rfl, ?_⟩) (by assumption) ?_
                rotate_left
                · (intro w hSw; (try dsimp only at hSw); go_simp; try with_reducible rfl)
                try simp only [Act.put, List.setIfInBounds_toArray, List.set_cons_zero, List.set_cons_succ]
                refine wpAnyH_take (i := 10) (oi := ⟨some 120, _, _, _, _, _⟩) (v := ?_) rfl (by kernel_rfl) (by kernel_rfl) (by kernel_rfl) (fun _ _ _ h => h) (Or.inl ⟨by rfl, ?_⟩) (by assumption) ?_
                rotate_left
                · (intro w hSw; (try dsimp only at hSw); go_simp; try with_reducible rfl)
                try simp only [Act.put, List.setIfInBounds_toArray, List.set_cons_zero, List.set_cons_succ]
                refine wpAnyH_take (i := 11) (oi := ⟨some 121, _, _, _, _, _⟩) (v := ?_) rfl (by kernel_rfl) (by kernel_rfl) (by kernel_rfl) (fun _ _ _ h => h) (Or.inl ⟨by rfl, ?_⟩) (by assumption) ?_
                rotate_left
                · (intro w hSw; refine Eq.trans (exec_ixr (i := j) _ _ (by rfl) (by rfl) (by rfl) hjlt) ?_; with_reducible rfl)
                try simp only [Act.put, List.setIfInBounds_toArray, List.set_cons_zero, List.set_cons_succ]
                refine wpAnyH_take (i := 12) (oi := ⟨some 122, _, _, _, _, _⟩) (v := ?_) rfl (by kernel_rfl) (by kernel_rfl) (by kernel_rfl) (fun _ _ _ h => h) (Or.inl ⟨by rfl, ?_⟩) (by assumption) ?_
                rotate_left
                · (intro w hSw; (try dsimp only at hSw); go_simp; try with_reducible rfl)
                try simp only [Act.put, List.setIfInBounds_toArray, List.set_cons_zero, List.set_cons_succ]
                refine wpAnyH_take (i := 13) (oi := ⟨some 123, _, _, _, _, _⟩) (v := ?_) rfl (by kernel_rfl) (by kernel_rfl) (by kernel_rfl) (fun _ _ _ h => h) (Or.inl ⟨by rfl, ?_⟩) (by assumption) ?_
                rotate_left
                · (intro w hSw; refine Eq.trans (exec_lre (x := z) (off := o2 + j * 3) _ (by rfl) (by rfl) ((Sls.own (hSw.out.own 1 rfl) HFs.out).cells HZ.out)) ?_; with_reducible rfl)
                try simp only [Act.put, List.setIfInBounds_toArray, List.set_cons_zero, List.set_cons_succ]
                refine wpAnyH_take (i := 14) (oi := ⟨some 124, _, _, _, _, _⟩) (v := ?_) rfl (by kernel_rfl) (by kernel_rfl) (by kernel_rfl) (fun _ _ _ h => h) (Or.inl ⟨by rfl, ?_⟩) (by assumption) ?_
                rotate_left
                · (intro w hSw; (try dsimp only at hSw); go_simp; try with_reducible rfl)
                try simp only [Act.put, List.setIfInBounds_toArray, List.set_cons_zero, List.set_cons_succ]
                refine wpAnyH_take (i := 15) (oi := ⟨some 125, _, _, _, _, _⟩) (v := ?_) rfl (by kernel_rfl) (by kernel_rfl) (by kernel_rfl) (fun _ _ _ h => h) (Or.inl ⟨by rfl, ?_⟩) (by assumption) ?_
                rotate_left
                · (intro w hSw; refine Eq.trans (kexec_lc1 hSw 0 _ (by rfl) (by rfl) (by rfl)) ?_; with_reducible rfl)
                try simp only [Act.put, List.setIfInBounds_toArray, List.set_cons_zero, List.set_cons_succ]
                refine wpAnyH_take (i := 16) (oi := ⟨some 126, _, _, _, _, _⟩) (v := ?_) rfl (by kernel_rfl) (by kernel_rfl) (by kernel_rfl) (fun _ _ _ h => h) (Or.inl ⟨by rfl, ?_⟩) (by assumption) ?_
                rotate_left
                · (intro w hSw; (try dsimp only at hSw); go_simp; try with_reducible rfl)
                try simp only [Act.put, List.setIfInBounds_toArray, List.set_cons_zero, List.set_cons_succ]
                refine wpAnyH_take (i := 17) (oi := ⟨some 127, _, _, _, _, _⟩) (v := ?_) rfl (by kernel_rfl) (by kernel_rfl) (by kernel_rfl) (fun _ _ _ h => h) (Or.inl ⟨by rfl, ?_⟩) (by assumption) ?_
                rotate_left
                · (intro w hSw; (try dsimp only at hSw); go_simp; try with_reducible rfl)
                try simp only [Act.put, List.setIfInBounds_toArray, List.set_cons_zero, List.set_cons_succ]
                refine wpAnyH_done (by kernel_rfl) ?_ _
                replace HK := hHeld
                clear hHeld
                go_wp2_with (first | refine wpList_exe (exec_add1 (j := j) _ (by rfl) (by rfl) hj3) (by rfl) ?_)
                refine ⟨⟨j + 1, M, c5, A5, hjlt, rfl, rfl, Lib.hid (by rw [HE.out, hM.out]), ?_⟩, by simp [intOf]; omega⟩
                rw [HE.out]
                exact HK
              case neg =>
                have HE := Lib.hid (Lck.wo_take_in hz hm)
                have HN2 : Hid ((Lck.wo (s.take j) x ++ [z]).length = M + 1) := Lib.hid (by rw [List.length_append, hM.out]; rfl)
                have HL2 := grow_ok (La := rfLay) HN2 (by show (M + 1) * 24 ≤ _; omega) (by omega)
                by_cases hc : z.c = x.c
                case pos =>
                  have he : ¬ z.e = x.e := fun h => hm ⟨hc, h⟩
                  have hb3 : (z.c != x.c) = false := by simpa using hc
                  have hb4 : (z.e != x.e) = true := by simpa using he
                  clear hz hm hc he
                  go_wp2_with fail
                  refine wp_region_held_drew (S := (fun W => Hid (Kn w.heap.size w W [(g1, 24, #[.int .i64 x.c, .int .i64 x.e, .int .i64 x.r]), (g5, 24, #[.int .i64 y.c, .int .i64 y.e, .int .i64 y.r])] [row rfLay (.slice A1 N c1) s, row rfLay (.slice (some ⟨b2, o2, none⟩) N c2) s, row rfLay (.slice A3 N c3) s, row rfLay (.slice none 0 0) [], row rfLay (.slice A4 (Lck.wo s x).length c4) (Lck.wo s x), row rfLay (.slice A5 M c5) (Lck.wo (s.take j) x)]))) (by kernel_rfl) ?_ (fun hHeld => ?_)
                  · (try dsimp only); exact Lib.hid HK.out.drew
                  refine wpAnyH_take (i := 0) (oi := ⟨some 110, _, _, _, _, _⟩) (v := ?_) rfl (by kernel_rfl) (by kernel_rfl) (by kernel_rfl) (fun _ _ _ h => h) (Or.inl ⟨by rfl, ?_⟩) (by assumption) ?_
                  rotate_left
                  · (intro w hSw; (try dsimp only at hSw); go_simp; try with_reducible rfl)
                  try simp only [Act.put, List.setIfInBounds_toArray, List.set_cons_zero, List.set_cons_succ]
                  refine wpAnyH_take (i := 1) (oi := ⟨some 111, _, _, _, _, _⟩) (v := ?_) rfl (by kernel_rfl) (by kernel_rfl) (by kernel_rfl) (fun _ _ _ h => h) (Or.inl ⟨by rfl, ?_⟩) (by assumption) ?_
                  rotate_left
                  · (intro w hSw; (try dsimp only at hSw); go_simp; try with_reducible rfl)
                  try simp only [Act.put, List.setIfInBounds_toArray, List.set_cons_zero, List.set_cons_succ]
                  refine wpAnyH_take (i := 2) (oi := ⟨some 112, _, _, _, _, _⟩) (v := ?_) rfl (by kernel_rfl) (by kernel_rfl) (by kernel_rfl) (fun _ _ _ h => h) (Or.inl ⟨by rfl, ?_⟩) (by assumption) ?_
                  rotate_left
                  · (intro w hSw; refine Eq.trans (exec_ixr (i := j) _ _ (by rfl) (by rfl) (by rfl) hjlt) ?_; with_reducible rfl)
                  try simp only [Act.put, List.setIfInBounds_toArray, List.set_cons_zero, List.set_cons_succ]
                  refine wpAnyH_take (i := 3) (oi := ⟨some 113, _, _, _, _, _⟩) (v := ?_) rfl (by kernel_rfl) (by kernel_rfl) (by kernel_rfl) (fun _ _ _ h => h) (Or.inl ⟨by rfl, ?_⟩) (by assumption) ?_
                  rotate_left
                  · (intro w hSw; (try dsimp only at hSw); go_simp; try with_reducible rfl)
                  try simp only [Act.put, List.setIfInBounds_toArray, List.set_cons_zero, List.set_cons_succ]
                  refine wpAnyH_take (i := 4) (oi := ⟨some 114, _, _, _, _, _⟩) (v := ?_) rfl (by kernel_rfl) (by kernel_rfl) (by kernel_rfl) (fun _ _ _ h => h) (Or.inl ⟨by rfl, ?_⟩) (by assumption) ?_
                  rotate_left
                  · (intro w hSw; refine Eq.trans (exec_lrc (x := z) (off := o2 + j * 3) _ (by rfl) (by rfl) ((Sls.own (hSw.out.own 1 rfl) HFs.out).cells HZ.out)) ?_; with_reducible rfl)
                  try simp only [Act.put, List.setIfInBounds_toArray, List.set_cons_zero, List.set_cons_succ]
                  refine wpAnyH_take (i := 5) (oi := ⟨some 115, _, _, _, _, _⟩) (v := ?_) rfl (by kernel_rfl) (by kernel_rfl) (by kernel_rfl) (fun _ _ _ h => h) (Or.inl ⟨by rfl, ?_⟩) (by assumption) ?_
                  rotate_left
                  · (intro w hSw; (try dsimp only at hSw); go_simp; try with_reducible rfl)
                  try simp only [Act.put, List.setIfInBounds_toArray, List.set_cons_zero, List.set_cons_succ]
                  refine wpAnyH_take (i := 6) (oi := ⟨some 116, _, _, _, _, _⟩) (v := ?_) rfl (by kernel_rfl) (by kernel_rfl) (by kernel_rfl) (fun _ _ _ h => h) (Or.inl ⟨by rfl, ?_⟩) (by assumption) ?_
                  rotate_left
                  · (intro w hSw; refine Eq.trans (kexec_lc0 hSw 0 _ (by rfl) (by rfl) (by rfl)) ?_; with_reducible rfl)
                  try simp only [Act.put, List.setIfInBounds_toArray, List.set_cons_zero, List.set_cons_succ]
                  refine wpAnyH_take (i := 7) (oi := ⟨some 117, _, _, _, _, _⟩) (v := ?_) rfl (by kernel_rfl) (by kernel_rfl) (by kernel_rfl) (fun _ _ _ h => h) (Or.inl ⟨by rfl, ?_⟩) (by assumption) ?_
                  rotate_left
                  · (intro w hSw; (try dsimp only at hSw); go_simp; try with_reducible rfl)
                  try simp only [Act.put, List.setIfInBounds_toArray, List.set_cons_zero, List.set_cons_succ]
                  refine wpAnyH_take (i := 8) (oi := ⟨some 118, _, _, _, _, _⟩) (v := ?_) rfl (by kernel_rfl) (by kernel_rfl) (by kernel_rfl) (fun _ _ _ h => h) (Or.inl ⟨by rfl, ?_⟩) (by assumption) ?_
                  rotate_left
                  · (intro w hSw; (try dsimp only at hSw); go_simp; try with_reducible rfl)
                  try simp only [Act.put, List.setIfInBounds_toArray, List.set_cons_zero, List.set_cons_succ]
                  refine wpAnyH_take (i := 9) (oi := ⟨some 119, _, _, _, _, _⟩) (v := ?_) rfl (by kernel_rfl) (by kernel_rfl) (by kernel_rfl) (fun _ _ _ h => h) (Or.inl ⟨by rfl, ?_⟩) (by assumption) ?_
                  rotate_left
                  · (intro w hSw; (try dsimp only at hSw); go_simp; try with_reducible rfl)
                  try simp only [Act.put, List.setIfInBounds_toArray, List.set_cons_zero, List.set_cons_succ]
                  refine wpAnyH_take (i := 10) (oi := ⟨some 120, _, _, _, _, _⟩) (v := ?_) rfl (by kernel_rfl) (by kernel_rfl) (by kernel_rfl) (fun _ _ _ h => h) (Or.inl ⟨by rfl, ?_⟩) (by assumption) ?_
                  rotate_left
                  · (intro w hSw; (try dsimp only at hSw); go_simp; try with_reducible rfl)
                  try simp only [Act.put, List.setIfInBounds_toArray, List.set_cons_zero, List.set_cons_succ]
                  refine wpAnyH_take (i := 11) (oi := ⟨some 121, _, _, _, _, _⟩) (v := ?_) rfl (by kernel_rfl) (by kernel_rfl) (by kernel_rfl) (fun _ _ _ h => h) (Or.inl ⟨by rfl, ?_⟩) (by assumption) ?_
                  rotate_left
                  · (intro w hSw; refine Eq.trans (exec_ixr (i := j) _ _ (by rfl) (by rfl) (by rfl) hjlt) ?_; with_reducible rfl)
                  try simp only [Act.put, List.setIfInBounds_toArray, List.set_cons_zero, List.set_cons_succ]
                  refine wpAnyH_take (i := 12) (oi := ⟨some 122, _, _, _, _, _⟩) (v := ?_) rfl (by kernel_rfl) (by kernel_rfl) (by kernel_rfl) (fun _ _ _ h => h) (Or.inl ⟨by rfl, ?_⟩) (by assumption) ?_
                  rotate_left
                  · (intro w hSw; (try dsimp only at hSw); go_simp; try with_reducible rfl)
                  try simp only [Act.put, List.setIfInBounds_toArray, List.set_cons_zero, List.set_cons_succ]
                  refine wpAnyH_take (i := 13) (oi := ⟨some 123, _, _, _, _, _⟩) (v := ?_) rfl (by kernel_rfl) (by kernel_rfl) (by kernel_rfl) (fun _ _ _ h => h) (Or.inl ⟨by rfl, ?_⟩) (by assumption) ?_
                  rotate_left
                  · (intro w hSw; refine Eq.trans (exec_lre (x := z) (off := o2 + j * 3) _ (by rfl) (by rfl) ((Sls.own (hSw.out.own 1 rfl) HFs.out).cells HZ.out)) ?_; with_reducible rfl)
                  try simp only [Act.put, List.setIfInBounds_toArray, List.set_cons_zero, List.set_cons_succ]
                  refine wpAnyH_take (i := 14) (oi := ⟨some 124, _, _, _, _, _⟩) (v := ?_) rfl (by kernel_rfl) (by kernel_rfl) (by kernel_rfl) (fun _ _ _ h => h) (Or.inl ⟨by rfl, ?_⟩) (by assumption) ?_
                  rotate_left
                  · (intro w hSw; (try dsimp only at hSw); go_simp; try with_reducible rfl)
                  try simp only [Act.put, List.setIfInBounds_toArray, List.set_cons_zero, List.set_cons_succ]
                  refine wpAnyH_take (i := 15) (oi := ⟨some 125, _, _, _, _, _⟩) (v := ?_) rfl (by kernel_rfl) (by kernel_rfl) (by kernel_rfl) (fun _ _ _ h => h) (Or.inl ⟨by rfl, ?_⟩) (by assumption) ?_
                  rotate_left
                  · (intro w hSw; refine Eq.trans (kexec_lc1 hSw 0 _ (by rfl) (by rfl) (by rfl)) ?_; with_reducible rfl)
                  try simp only [Act.put, List.setIfInBounds_toArray, List.set_cons_zero, List.set_cons_succ]
                  refine wpAnyH_take (i := 16) (oi := ⟨some 126, _, _, _, _, _⟩) (v := ?_) rfl (by kernel_rfl) (by kernel_rfl) (by kernel_rfl) (fun _ _ _ h => h) (Or.inl ⟨by rfl, ?_⟩) (by assumption) ?_
                  rotate_left
                  · (intro w hSw; (try dsimp only at hSw); go_simp; try with_reducible rfl)
                  try simp only [Act.put, List.setIfInBounds_toArray, List.set_cons_zero, List.set_cons_succ]
                  refine wpAnyH_take (i := 17) (oi := ⟨some 127, _, _, _, _, _⟩) (v := ?_) rfl (by kernel_rfl) (by kernel_rfl) (by kernel_rfl) (fun _ _ _ h => h) (Or.inl ⟨by rfl, ?_⟩) (by assumption) ?_
                  rotate_left
                  · (intro w hSw; (try dsimp only at hSw); go_simp; try with_reducible rfl)
                  try simp only [Act.put, List.setIfInBounds_toArray, List.set_cons_zero, List.set_cons_succ]
                  refine wpAnyH_done (by kernel_rfl) ?_ _
                  replace HK := hHeld
                  clear hHeld
                  go_wp2_with (first | refine wpList_exe (exec_lr (x := z) (off := o2 + j * 3) _ (by rfl) (by rfl) ((Sls.own (HK.out.own 1 rfl) HFs.out).cells HZ.out)) (by rfl) ?_ | (refine wpList_mk1 rfLay (p := z) HK (by decide) rfl _ rfl rfl rfl ?_; intro _ g7 HK'; simp only [List.cons_append, List.nil_append] at HK'; have HR := Lib.hid (HK'.out.own 6 rfl).rd; replace HK := HK'; clear HK') | (at_builtin; refine wpList_kmore HK rfLay 5 rfl _ _ rfl rfl rfl [z] rfl rfl HR HL2 (N := M + 1) HN2 ?_; intro A7 c7 _ HK'; simp only [List.set] at HK'; replace HK := HK'; clear HK') | refine wpList_exe (exec_add1 (j := j) _ (by rfl) (by rfl) hj3) (by rfl) ?_)
                  refine ⟨⟨j + 1, M + 1, c7, A7, hjlt, rfl, rfl, Lib.hid (by rw [HE.out, HN2.out]), ?_⟩, by simp [intOf]; omega⟩
                  rw [HE.out]
                  exact Lib.hid (HK.out.takeR 6)
                case neg =>
                  have hb3 : (z.c != x.c) = true := by simpa using hc
                  clear hz hm hc
                  go_wp2_with fail
                  refine wp_region_held_drew (S := (fun W => Hid (Kn w.heap.size w W [(g1, 24, #[.int .i64 x.c, .int .i64 x.e, .int .i64 x.r]), (g5, 24, #[.int .i64 y.c, .int .i64 y.e, .int .i64 y.r])] [row rfLay (.slice A1 N c1) s, row rfLay (.slice (some ⟨b2, o2, none⟩) N c2) s, row rfLay (.slice A3 N c3) s, row rfLay (.slice none 0 0) [], row rfLay (.slice A4 (Lck.wo s x).length c4) (Lck.wo s x), row rfLay (.slice A5 M c5) (Lck.wo (s.take j) x)]))) (by kernel_rfl) ?_ (fun hHeld => ?_)
                  · (try dsimp only); exact Lib.hid HK.out.drew
                  refine wpAnyH_take (i := 0) (oi := ⟨some 110, _, _, _, _, _⟩) (v := ?_) rfl (by kernel_rfl) (by kernel_rfl) (by kernel_rfl) (fun _ _ _ h => h) (Or.inl ⟨by rfl, ?_⟩) (by assumption) ?_
                  rotate_left
                  · (intro w hSw; (try dsimp only at hSw); go_simp; try with_reducible rfl)
                  try simp only [Act.put, List.setIfInBounds_toArray, List.set_cons_zero, List.set_cons_succ]
                  refine wpAnyH_take (i := 1) (oi := ⟨some 111, _, _, _, _, _⟩) (v := ?_) rfl (by kernel_rfl) (by kernel_rfl) (by kernel_rfl) (fun _ _ _ h => h) (Or.inl ⟨by rfl, ?_⟩) (by assumption) ?_
                  rotate_left
                  · (intro w hSw; (try dsimp only at hSw); go_simp; try with_reducible rfl)
                  try simp only [Act.put, List.setIfInBounds_toArray, List.set_cons_zero, List.set_cons_succ]
                  refine wpAnyH_take (i := 2) (oi := ⟨some 112, _, _, _, _, _⟩) (v := ?_) rfl (by kernel_rfl) (by kernel_rfl) (by kernel_rfl) (fun _ _ _ h => h) (Or.inl ⟨by rfl, ?_⟩) (by assumption) ?_
                  rotate_left
                  · (intro w hSw; refine Eq.trans (exec_ixr (i := j) _ _ (by rfl) (by rfl) (by rfl) hjlt) ?_; with_reducible rfl)
                  try simp only [Act.put, List.setIfInBounds_toArray, List.set_cons_zero, List.set_cons_succ]
                  refine wpAnyH_take (i := 3) (oi := ⟨some 113, _, _, _, _, _⟩) (v := ?_) rfl (by kernel_rfl) (by kernel_rfl) (by kernel_rfl) (fun _ _ _ h => h) (Or.inl ⟨by rfl, ?_⟩) (by assumption) ?_
                  rotate_left
                  · (intro w hSw; (try dsimp only at hSw); go_simp; try with_reducible rfl)
                  try simp only [Act.put, List.setIfInBounds_toArray, List.set_cons_zero, List.set_cons_succ]
                  refine wpAnyH_take (i := 4) (oi := ⟨some 114, _, _, _, _, _⟩) (v := ?_) rfl (by kernel_rfl) (by kernel_rfl) (by kernel_rfl) (fun _ _ _ h => h) (Or.inl ⟨by rfl, ?_⟩) (by assumption) ?_
                  rotate_left
                  · (intro w hSw; refine Eq.trans (exec_lrc (x := z) (off := o2 + j * 3) _ (by rfl) (by rfl) ((Sls.own (hSw.out.own 1 rfl) HFs.out).cells HZ.out)) ?_; with_reducible rfl)
                  try simp only [Act.put, List.setIfInBounds_toArray, List.set_cons_zero, List.set_cons_succ]
                  refine wpAnyH_take (i := 5) (oi := ⟨some 115, _, _, _, _, _⟩) (v := ?_) rfl (by kernel_rfl) (by kernel_rfl) (by kernel_rfl) (fun _ _ _ h => h) (Or.inl ⟨by rfl, ?_⟩) (by assumption) ?_
                  rotate_left
                  · (intro w hSw; (try dsimp only at hSw); go_simp; try with_reducible rfl)
                  try simp only [Act.put, List.setIfInBounds_toArray, List.set_cons_zero, List.set_cons_succ]
                  refine wpAnyH_take (i := 6) (oi := ⟨some 116, _, _, _, _, _⟩) (v := ?_) rfl (by kernel_rfl) (by kernel_rfl) (by kernel_rfl) (fun _ _ _ h => h) (Or.inl ⟨by rfl, ?_⟩) (by assumption) ?_
                  rotate_left
                  · (intro w hSw; refine Eq.trans (kexec_lc0 hSw 0 _ (by rfl) (by rfl) (by rfl)) ?_; with_reducible rfl)
                  try simp only [Act.put, List.setIfInBounds_toArray, List.set_cons_zero, List.set_cons_succ]
                  refine wpAnyH_take (i := 7) (oi := ⟨some 117, _, _, _, _, _⟩) (v := ?_) rfl (by kernel_rfl) (by kernel_rfl) (by kernel_rfl) (fun _ _ _ h => h) (Or.inl ⟨by rfl, ?_⟩) (by assumption) ?_
                  rotate_left
                  · (intro w hSw; (try dsimp only at hSw); go_simp; try with_reducible rfl)
                  try simp only [Act.put, List.setIfInBounds_toArray, List.set_cons_zero, List.set_cons_succ]
                  refine wpAnyH_take (i := 8) (oi := ⟨some 118, _, _, _, _, _⟩) (v := ?_) rfl (by kernel_rfl) (by kernel_rfl) (by kernel_rfl) (fun _ _ _ h => h) (Or.inl ⟨by rfl, ?_⟩) (by assumption) ?_
                  rotate_left
                  · (intro w hSw; (try dsimp only at hSw); go_simp; try with_reducible rfl)
                  try simp only [Act.put, List.setIfInBounds_toArray, List.set_cons_zero, List.set_cons_succ]
                  refine wpAnyH_take (i := 9) (oi := ⟨some 119, _, _, _, _, _⟩) (v := undef) rfl (by kernel_rfl) (by kernel_rfl) (by kernel_rfl) (fun _ _ _ h => h) (Or.inr ⟨by rfl, rfl⟩) (by assumption) ?_
                  try simp only [Act.put, List.setIfInBounds_toArray, List.set_cons_zero, List.set_cons_succ]
                  refine wpAnyH_take (i := 10) (oi := ⟨some 120, _, _, _, _, _⟩) (v := undef) rfl (by kernel_rfl) (by kernel_rfl) (by kernel_rfl) (fun _ _ _ h => h) (Or.inr ⟨by rfl, rfl⟩) (by assumption) ?_
                  try simp only [Act.put, List.setIfInBounds_toArray, List.set_cons_zero, List.set_cons_succ]
                  refine wpAnyH_take (i := 11) (oi := ⟨some 121, _, _, _, _, _⟩) (v := undef) rfl (by kernel_rfl) (by kernel_rfl) (by kernel_rfl) (fun _ _ _ h => h) (Or.inr ⟨by rfl, rfl⟩) (by assumption) ?_
                  try simp only [Act.put, List.setIfInBounds_toArray, List.set_cons_zero, List.set_cons_succ]
                  refine wpAnyH_take (i := 12) (oi := ⟨some 122, _, _, _, _, _⟩) (v := undef) rfl (by kernel_rfl) (by kernel_rfl) (by kernel_rfl) (fun _ _ _ h => h) (Or.inr ⟨by rfl, rfl⟩) (by assumption) ?_
                  try simp only [Act.put, List.setIfInBounds_toArray, List.set_cons_zero, List.set_cons_succ]
                  refine wpAnyH_take (i := 13) (oi := ⟨some 123, _, _, _, _, _⟩) (v := undef) rfl (by kernel_rfl) (by kernel_rfl) (by kernel_rfl) (fun _ _ _ h => h) (Or.inr ⟨by rfl, rfl⟩) (by assumption) ?_
                  try simp only [Act.put, List.setIfInBounds_toArray, List.set_cons_zero, List.set_cons_succ]
                  refine wpAnyH_take (i := 14) (oi := ⟨some 124, _, _, _, _, _⟩) (v := undef) rfl (by kernel_rfl) (by kernel_rfl) (by kernel_rfl) (fun _ _ _ h => h) (Or.inr ⟨by rfl, rfl⟩) (by assumption) ?_
                  try simp only [Act.put, List.setIfInBounds_toArray, List.set_cons_zero, List.set_cons_succ]
                  refine wpAnyH_take (i := 15) (oi := ⟨some 125, _, _, _, _, _⟩) (v := undef) rfl (by kernel_rfl) (by kernel_rfl) (by kernel_rfl) (fun _ _ _ h => h) (Or.inr ⟨by rfl, rfl⟩) (by assumption) ?_
                  try simp only [Act.put, List.setIfInBounds_toArray, List.set_cons_zero, List.set_cons_succ]
                  refine wpAnyH_take (i := 16) (oi := ⟨some 126, _, _, _, _, _⟩) (v := undef) rfl (by kernel_rfl) (by kernel_rfl) (by kernel_rfl) (fun _ _ _ h => h) (Or.inr ⟨by rfl, rfl⟩) (by assumption) ?_
                  try simp only [Act.put, List.setIfInBounds_toArray, List.set_cons_zero, List.set_cons_succ]
                  refine wpAnyH_take (i := 17) (oi := ⟨some 127, _, _, _, _, _⟩) (v := ?_) rfl (by kernel_rfl) (by kernel_rfl) (by kernel_rfl) (fun _ _ _ h => h) (Or.inl ⟨by rfl, ?_⟩) (by assumption) ?_
                  rotate_left
                  · (intro w hSw; (try dsimp only at hSw); go_simp; try with_reducible rfl)
                  try simp only [Act.put, List.setIfInBounds_toArray, List.set_cons_zero, List.set_cons_succ]
                  refine wpAnyH_done (by kernel_rfl) ?_ _
                  replace HK := hHeld
                  clear hHeld
                  go_wp2_with (first | refine wpList_exe (exec_lr (x := z) (off := o2 + j * 3) _ (by rfl) (by rfl) ((Sls.own (HK.out.own 1 rfl) HFs.out).cells HZ.out)) (by rfl) ?_ | (refine wpList_mk1 rfLay (p := z) HK (by decide) rfl _ rfl rfl rfl ?_; intro _ g7 HK'; simp only [List.cons_append, List.nil_append] at HK'; have HR := Lib.hid (HK'.out.own 6 rfl).rd; replace HK := HK'; clear HK') | (at_builtin; refine wpList_kmore HK rfLay 5 rfl _ _ rfl rfl rfl [z] rfl rfl HR HL2 (N := M + 1) HN2 ?_; intro A7 c7 _ HK'; simp only [List.set] at HK'; replace HK := HK'; clear HK') | refine wpList_exe (exec_add1 (j := j) _ (by rfl) (by rfl) hj3) (by rfl) ?_)
                  refine ⟨⟨j + 1, M + 1, c7, A7, hjlt, rfl, rfl, Lib.hid (by rw [HE.out, HN2.out]), ?_⟩, by simp [intOf]; omega⟩
                  rw [HE.out]
                  exact Lib.hid (HK.out.takeR 6)
            case neg =>
              obtain rfl : j = N := by omega
              rw [HTake.out] at HK hM
              obtain rfl := hM.out
              cases H with
              | true =>
                go_wp2_with (first | refine wpList_exe (kexec_lr HK 1 _ (by rfl) (by rfl) (by rfl)) (by rfl) ?_ | (refine wpList_mk1 rfLay (p := y) HK (by decide) rfl _ rfl rfl rfl ?_; intro _ g6 HK'; simp only [List.cons_append, List.nil_append] at HK'; have HR := Lib.hid (HK'.out.own 6 rfl).rd; replace HK := HK'; clear HK') | (at_builtin; refine wpList_kmore HK rfLay 3 rfl _ _ rfl rfl rfl [y] rfl rfl HR HLt (N := 1) (Lib.hid (HNt.out y)) ?_; intro A6 c6 _ HK'; simp only [List.set] at HK'; replace HK := HK'; clear HK'))
                go_meet
                exact ⟨_, 1, c4, c5, c6, A4, A5, A6, Lck.wo s x, [y], rfl, rfl, rfl, Lib.hid ⟨rfl, rfl⟩, HRt, HTd, Lib.hid ((HK.out.takeL 0).pick4 4 5 2 3 rfl rfl rfl rfl (by decide) (by decide) (by decide) (by decide) (by decide) (by decide))⟩
              | false =>
                go_wp2_with fail
                go_meet
                exact ⟨_, 0, c4, c5, 0, A4, A5, none, Lck.wo s x, [], rfl, rfl, rfl, Lib.hid ⟨rfl, rfl⟩, HRt, HTd, Lib.hid ((HK.out.takeL 0).pick4 4 5 2 3 rfl rfl rfl rfl (by decide) (by decide) (by decide) (by decide) (by decide) (by decide))⟩
      case neg =>
        as_aux_lemma =>
          have h3b : (kd == 3) = false := by simpa using h3
          clear h3
          go_wp2_with fail
          go_meet
          exact ⟨N, 0, c1, c2, 0, A1, A2, none, s, [], rfl, rfl, rfl, Lib.hid ⟨hN.out, rfl⟩, HRs, Lib.hid (Lck.told_same s), Lib.hid (HK.out.takeL 0)⟩
    case rest =>
    clear HK HX
    obtain ⟨N2, nt, c4, c5, c6, A4, A5, A6, s2, t, rfl, rfl, rfl, hlen, HRs2, HTd, HK⟩ := hcut
    have HF2 := Lib.hid (fits_rt HRs2.out)
    have HNone : Hid (N2 = 0 → Lck.held s s2 = false) := Lib.hid fun h => Lck.held_none (hlen.out.1.trans h)
    have HFst : Hid (0 < N2 → N = 0 → Lck.held s s2 = true) := Lib.hid fun h1 h2 => Lck.held_first (by rw [hlen.out.1]; exact h1) (hN.out.trans h2)
    have HNxt : Hid (∀ x y, s[0]? = some x → s2[0]? = some y → Lck.held s s2 = !decide (x = y)) := Lib.hid fun x y hx hy => Lck.held_next hx hy
    have HYes : Hid (Lck.held s s2 = true → ∃ z, s2[0]? = some z ∧ t = [z]) := Lib.hid fun h => by
      obtain ⟨z, h1, h2⟩ := Lck.held_some h
      exact ⟨z, h1, by rw [Lck.told_yes HTd.out h, h2]⟩
    have HNo : Hid (Lck.held s s2 = false → t = []) := Lib.hid fun h => Lck.told_no HTd.out h
    have HG1 : Hid (0 < N → ∃ x, s[0]? = some x) := Lib.hid fun h => Lay.get_of (l := s) (k := 0) (by rw [hN.out]; exact h)
    have HG2 : Hid (0 < N2 → ∃ x, s2[0]? = some x) := Lib.hid fun h => Lay.get_of (l := s2) (k := 0) (by rw [hlen.out.1]; exact h)
    clear HTd
    generalize Lck.held s s2 = hd at *
    go_upto_region 37 with fail
    try simp only [Act.put, List.setIfInBounds_toArray, List.set_cons_zero, List.set_cons_succ]
    go_cut [21] (fun v wx => v = .bool hd ∧ Hid (Kn w.heap.size w wx [] [row rfLay (.slice A4 N2 c4) s2, row rfLay (.slice A5 N2 c5) s2, row rfLay (.slice A3 N c3) s, row rfLay (.slice A6 nt c6) t]))
    case first =>
      clear HYes HNo
      by_cases h2 : N2 = 0
      case pos =>
        as_aux_lemma =>
          have HZ := Lib.hid (show decide ((0 : Int) < (N2 : Int)) = false from decide_eq_false (by omega))
          obtain rfl := HNone.out h2
          clear HNone HFst HNxt HG1 HG2 h2
          refine wp_region_held_drew (S := (fun W => Hid (Kn w.heap.size w W [] [row rfLay (.slice A4 N2 c4) s2, row rfLay (.slice A5 N2 c5) s2, row rfLay (.slice A3 N c3) s, row rfLay (.slice A6 nt c6) t]))) (by kernel_rfl) ?_ (fun hHeld => ?_)
          · (try dsimp only); exact Lib.hid HK.out.drew
          refine wpAnyH_take (i := 0) (oi := ⟨some 141, _, _, _, _, _⟩) (v := ?_) rfl (by kernel_rfl) (by kernel_rfl) (by kernel_rfl) (fun _ _ _ h => h) (Or.inl ⟨by rfl, ?_⟩) (by assumption) ?_
          rotate_left
          · (intro w hSw; (try dsimp only at hSw); go_simp; try with_reducible rfl)
          try simp only [Act.put, List.setIfInBounds_toArray, List.set_cons_zero, List.set_cons_succ]
          refine wpAnyH_take (i := 1) (oi := ⟨some 142, _, _, _, _, _⟩) (v := ?_) rfl (by kernel_rfl) (by kernel_rfl) (by kernel_rfl) (fun _ _ _ h => h) (Or.inl ⟨by rfl, ?_⟩) (by assumption) ?_
          rotate_left
          · (intro w hSw; (try dsimp only at hSw); go_simp; try with_reducible rfl)
          try simp only [Act.put, List.setIfInBounds_toArray, List.set_cons_zero, List.set_cons_succ]
          refine wpAnyH_take (i := 2) (oi := ⟨some 143, _, _, _, _, _⟩) (v := ?_) rfl (by kernel_rfl) (by kernel_rfl) (by kernel_rfl) (fun _ _ _ h => h) (Or.inl ⟨by rfl, ?_⟩) (by assumption) ?_
          rotate_left
          · (intro w hSw; refine Eq.trans (exec_gt (x := (N2 : Int)) (k := 0) _ (by rfl) (by rfl) HZ.out) ?_; with_reducible rfl)
          try simp only [Act.put, List.setIfInBounds_toArray, List.set_cons_zero, List.set_cons_succ]
          refine wpAnyH_take (i := 3) (oi := ⟨some 144, _, _, _, _, _⟩) (v := ?_) rfl (by kernel_rfl) (by kernel_rfl) (by kernel_rfl) (fun _ _ _ h => h) (Or.inl ⟨by rfl, ?_⟩) (by assumption) ?_
          rotate_left
          · (intro w hSw; (try dsimp only at hSw); go_simp; try with_reducible rfl)
          try simp only [Act.put, List.setIfInBounds_toArray, List.set_cons_zero, List.set_cons_succ]
          refine wpAnyH_take (i := 4) (oi := ⟨some 145, _, _, _, _, _⟩) (v := undef) rfl (by kernel_rfl) (by kernel_rfl) (by kernel_rfl) (fun _ _ _ h => h) (Or.inr ⟨by rfl, rfl⟩) (by assumption) ?_
          try simp only [Act.put, List.setIfInBounds_toArray, List.set_cons_zero, List.set_cons_succ]
          refine wpAnyH_take (i := 5) (oi := ⟨some 146, _, _, _, _, _⟩) (v := undef) rfl (by kernel_rfl) (by kernel_rfl) (by kernel_rfl) (fun _ _ _ h => h) (Or.inr ⟨by rfl, rfl⟩) (by assumption) ?_
          try simp only [Act.put, List.setIfInBounds_toArray, List.set_cons_zero, List.set_cons_succ]
          refine wpAnyH_take (i := 6) (oi := ⟨some 147, _, _, _, _, _⟩) (v := undef) rfl (by kernel_rfl) (by kernel_rfl) (by kernel_rfl) (fun _ _ _ h => h) (Or.inr ⟨by rfl, rfl⟩) (by assumption) ?_
          try simp only [Act.put, List.setIfInBounds_toArray, List.set_cons_zero, List.set_cons_succ]
          refine wpAnyH_take (i := 7) (oi := ⟨some 148, _, _, _, _, _⟩) (v := undef) rfl (by kernel_rfl) (by kernel_rfl) (by kernel_rfl) (fun _ _ _ h => h) (Or.inr ⟨by rfl, rfl⟩) (by assumption) ?_
          try simp only [Act.put, List.setIfInBounds_toArray, List.set_cons_zero, List.set_cons_succ]
          refine wpAnyH_take (i := 8) (oi := ⟨some 149, _, _, _, _, _⟩) (v := undef) rfl (by kernel_rfl) (by kernel_rfl) (by kernel_rfl) (fun _ _ _ h => h) (Or.inr ⟨by rfl, rfl⟩) (by assumption) ?_
          try simp only [Act.put, List.setIfInBounds_toArray, List.set_cons_zero, List.set_cons_succ]
          refine wpAnyH_take (i := 9) (oi := ⟨some 150, _, _, _, _, _⟩) (v := undef) rfl (by kernel_rfl) (by kernel_rfl) (by kernel_rfl) (fun _ _ _ h => h) (Or.inr ⟨by rfl, rfl⟩) (by assumption) ?_
          try simp only [Act.put, List.setIfInBounds_toArray, List.set_cons_zero, List.set_cons_succ]
          refine wpAnyH_take (i := 10) (oi := ⟨some 151, _, _, _, _, _⟩) (v := undef) rfl (by kernel_rfl) (by kernel_rfl) (by kernel_rfl) (fun _ _ _ h => h) (Or.inr ⟨by rfl, rfl⟩) (by assumption) ?_
          try simp only [Act.put, List.setIfInBounds_toArray, List.set_cons_zero, List.set_cons_succ]
          refine wpAnyH_take (i := 11) (oi := ⟨some 152, _, _, _, _, _⟩) (v := undef) rfl (by kernel_rfl) (by kernel_rfl) (by kernel_rfl) (fun _ _ _ h => h) (Or.inr ⟨by rfl, rfl⟩) (by assumption) ?_
          try simp only [Act.put, List.setIfInBounds_toArray, List.set_cons_zero, List.set_cons_succ]
          refine wpAnyH_take (i := 12) (oi := ⟨some 153, _, _, _, _, _⟩) (v := undef) rfl (by kernel_rfl) (by kernel_rfl) (by kernel_rfl) (fun _ _ _ h => h) (Or.inr ⟨by rfl, rfl⟩) (by assumption) ?_
          try simp only [Act.put, List.setIfInBounds_toArray, List.set_cons_zero, List.set_cons_succ]
          refine wpAnyH_take (i := 13) (oi := ⟨some 154, _, _, _, _, _⟩) (v := undef) rfl (by kernel_rfl) (by kernel_rfl) (by kernel_rfl) (fun _ _ _ h => h) (Or.inr ⟨by rfl, rfl⟩) (by assumption) ?_
          try simp only [Act.put, List.setIfInBounds_toArray, List.set_cons_zero, List.set_cons_succ]
          refine wpAnyH_take (i := 14) (oi := ⟨some 155, _, _, _, _, _⟩) (v := undef) rfl (by kernel_rfl) (by kernel_rfl) (by kernel_rfl) (fun _ _ _ h => h) (Or.inr ⟨by rfl, rfl⟩) (by assumption) ?_
          try simp only [Act.put, List.setIfInBounds_toArray, List.set_cons_zero, List.set_cons_succ]
          refine wpAnyH_take (i := 15) (oi := ⟨some 156, _, _, _, _, _⟩) (v := undef) rfl (by kernel_rfl) (by kernel_rfl) (by kernel_rfl) (fun _ _ _ h => h) (Or.inr ⟨by rfl, rfl⟩) (by assumption) ?_
          try simp only [Act.put, List.setIfInBounds_toArray, List.set_cons_zero, List.set_cons_succ]
          refine wpAnyH_take (i := 16) (oi := ⟨some 157, _, _, _, _, _⟩) (v := ?_) rfl (by kernel_rfl) (by kernel_rfl) (by kernel_rfl) (fun _ _ _ h => h) (Or.inl ⟨by rfl, ?_⟩) (by assumption) ?_
          rotate_left
          · (intro w hSw; (try dsimp only at hSw); go_simp; try with_reducible rfl)
          try simp only [Act.put, List.setIfInBounds_toArray, List.set_cons_zero, List.set_cons_succ]
          refine wpAnyH_take (i := 17) (oi := ⟨some 21, _, _, _, _, _⟩) (v := ?_) rfl (by kernel_rfl) (by kernel_rfl) (by kernel_rfl) (fun _ _ _ h => h) (Or.inl ⟨by rfl, ?_⟩) (by assumption) ?_
          rotate_left
          · (intro w hSw; (try dsimp only at hSw); go_simp; try with_reducible rfl)
          try simp only [Act.put, List.setIfInBounds_toArray, List.set_cons_zero, List.set_cons_succ]
          refine wpAnyH_done (by kernel_rfl) ?_ _
          go_wp2_with fail
          go_meet
          exact ⟨rfl, hHeld⟩
      case neg =>
      have hpos2 : 0 < N2 := by omega
      have HZ := Lib.hid (show decide ((0 : Int) < (N2 : Int)) = true from decide_eq_true (by omega))
      by_cases h1 : N = 0
      case pos =>
        as_aux_lemma =>
          have hz : ((N : Int) == 0) = true := by simpa using h1
          obtain rfl := HFst.out hpos2 h1
          clear HNone HFst HNxt HG1 HG2 h2 h1
          refine wp_region_held_drew (S := (fun W => Hid (Kn w.heap.size w W [] [row rfLay (.slice A4 N2 c4) s2, row rfLay (.slice A5 N2 c5) s2, row rfLay (.slice A3 N c3) s, row rfLay (.slice A6 nt c6) t]))) (by kernel_rfl) ?_ (fun hHeld => ?_)
          · (try dsimp only); exact Lib.hid HK.out.drew
          refine wpAnyH_take (i := 0) (oi := ⟨some 141, _, _, _, _, _⟩) (v := ?_) rfl (by kernel_rfl) (by kernel_rfl) (by kernel_rfl) (fun _ _ _ h => h) (Or.inl ⟨by rfl, ?_⟩) (by assumption) ?_
          rotate_left
          · (intro w hSw; (try dsimp only at hSw); go_simp; try with_reducible rfl)
          try simp only [Act.put, List.setIfInBounds_toArray, List.set_cons_zero, List.set_cons_succ]
          refine wpAnyH_take (i := 1) (oi := ⟨some 142, _, _, _, _, _⟩) (v := ?_) rfl (by kernel_rfl) (by kernel_rfl) (by kernel_rfl) (fun _ _ _ h => h) (Or.inl ⟨by rfl, ?_⟩) (by assumption) ?_
          rotate_left
          · (intro w hSw; (try dsimp only at hSw); go_simp; try with_reducible rfl)
          try simp only [Act.put, List.setIfInBounds_toArray, List.set_cons_zero, List.set_cons_succ]
          refine wpAnyH_take (i := 2) (oi := ⟨some 143, _, _, _, _, _⟩) (v := ?_) rfl (by kernel_rfl) (by kernel_rfl) (by kernel_rfl) (fun _ _ _ h => h) (Or.inl ⟨by rfl, ?_⟩) (by assumption) ?_
          rotate_left
          · (intro w hSw; refine Eq.trans (exec_gt (x := (N2 : Int)) (k := 0) _ (by rfl) (by rfl) HZ.out) ?_; with_reducible rfl)
          try simp only [Act.put, List.setIfInBounds_toArray, List.set_cons_zero, List.set_cons_succ]
          refine wpAnyH_take (i := 3) (oi := ⟨some 144, _, _, _, _, _⟩) (v := ?_) rfl (by kernel_rfl) (by kernel_rfl) (by kernel_rfl) (fun _ _ _ h => h) (Or.inl ⟨by rfl, ?_⟩) (by assumption) ?_
          rotate_left
          · (intro w hSw; (try dsimp only at hSw); go_simp; try with_reducible rfl)
          try simp only [Act.put, List.setIfInBounds_toArray, List.set_cons_zero, List.set_cons_succ]
          refine wpAnyH_take (i := 4) (oi := ⟨some 145, _, _, _, _, _⟩) (v := ?_) rfl (by kernel_rfl) (by kernel_rfl) (by kernel_rfl) (fun _ _ _ h => h) (Or.inl ⟨by rfl, ?_⟩) (by assumption) ?_
          rotate_left
          · (intro w hSw; (try dsimp only at hSw); go_simp; try with_reducible rfl)
          try simp only [Act.put, List.setIfInBounds_toArray, List.set_cons_zero, List.set_cons_succ]
          refine wpAnyH_take (i := 5) (oi := ⟨some 146, _, _, _, _, _⟩) (v := ?_) rfl (by kernel_rfl) (by kernel_rfl) (by kernel_rfl) (fun _ _ _ h => h) (Or.inl ⟨by rfl, ?_⟩) (by assumption) ?_
          rotate_left
          · (intro w hSw; (try dsimp only at hSw); go_simp; try with_reducible rfl)
          try simp only [Act.put, List.setIfInBounds_toArray, List.set_cons_zero, List.set_cons_succ]
          refine wpAnyH_take (i := 6) (oi := ⟨some 147, _, _, _, _, _⟩) (v := ?_) rfl (by kernel_rfl) (by kernel_rfl) (by kernel_rfl) (fun _ _ _ h => h) (Or.inl ⟨by rfl, ?_⟩) (by assumption) ?_
          rotate_left
          · (intro w hSw; (try dsimp only at hSw); go_simp; try with_reducible rfl)
          try simp only [Act.put, List.setIfInBounds_toArray, List.set_cons_zero, List.set_cons_succ]
          refine wpAnyH_take (i := 7) (oi := ⟨some 148, _, _, _, _, _⟩) (v := ?_) rfl (by kernel_rfl) (by kernel_rfl) (by kernel_rfl) (fun _ _ _ h => h) (Or.inl ⟨by rfl, ?_⟩) (by assumption) ?_
          rotate_left
          · (intro w hSw; (try dsimp only at hSw); go_simp; try with_reducible rfl)
          try simp only [Act.put, List.setIfInBounds_toArray, List.set_cons_zero, List.set_cons_succ]
          refine wpAnyH_take (i := 8) (oi := ⟨some 149, _, _, _, _, _⟩) (v := undef) rfl (by kernel_rfl) (by kernel_rfl) (by kernel_rfl) (fun _ _ _ h => h) (Or.inr ⟨by rfl, rfl⟩) (by assumption) ?_
          try simp only [Act.put, List.setIfInBounds_toArray, List.set_cons_zero, List.set_cons_succ]
          refine wpAnyH_take (i := 9) (oi := ⟨some 150, _, _, _, _, _⟩) (v := undef) rfl (by kernel_rfl) (by kernel_rfl) (by kernel_rfl) (fun _ _ _ h => h) (Or.inr ⟨by rfl, rfl⟩) (by assumption) ?_
          try simp only [Act.put, List.setIfInBounds_toArray, List.set_cons_zero, List.set_cons_succ]
          refine wpAnyH_take (i := 10) (oi := ⟨some 151, _, _, _, _, _⟩) (v := undef) rfl (by kernel_rfl) (by kernel_rfl) (by kernel_rfl) (fun _ _ _ h => h) (Or.inr ⟨by rfl, rfl⟩) (by assumption) ?_
          try simp only [Act.put, List.setIfInBounds_toArray, List.set_cons_zero, List.set_cons_succ]
          refine wpAnyH_take (i := 11) (oi := ⟨some 152, _, _, _, _, _⟩) (v := undef) rfl (by kernel_rfl) (by kernel_rfl) (by kernel_rfl) (fun _ _ _ h => h) (Or.inr ⟨by rfl, rfl⟩) (by assumption) ?_
          try simp only [Act.put, List.setIfInBounds_toArray, List.set_cons_zero, List.set_cons_succ]
          refine wpAnyH_take (i := 12) (oi := ⟨some 153, _, _, _, _, _⟩) (v := undef) rfl (by kernel_rfl) (by kernel_rfl) (by kernel_rfl) (fun _ _ _ h => h) (Or.inr ⟨by rfl, rfl⟩) (by assumption) ?_
          try simp only [Act.put, List.setIfInBounds_toArray, List.set_cons_zero, List.set_cons_succ]
          refine wpAnyH_take (i := 13) (oi := ⟨some 154, _, _, _, _, _⟩) (v := undef) rfl (by kernel_rfl) (by kernel_rfl) (by kernel_rfl) (fun _ _ _ h => h) (Or.inr ⟨by rfl, rfl⟩) (by assumption) ?_
          try simp only [Act.put, List.setIfInBounds_toArray, List.set_cons_zero, List.set_cons_succ]
          refine wpAnyH_take (i := 14) (oi := ⟨some 155, _, _, _, _, _⟩) (v := undef) rfl (by kernel_rfl) (by kernel_rfl) (by kernel_rfl) (fun _ _ _ h => h) (Or.inr ⟨by rfl, rfl⟩) (by assumption) ?_
          try simp only [Act.put, List.setIfInBounds_toArray, List.set_cons_zero, List.set_cons_succ]
          refine wpAnyH_take (i := 15) (oi := ⟨some 156, _, _, _, _, _⟩) (v := ?_) rfl (by kernel_rfl) (by kernel_rfl) (by kernel_rfl) (fun _ _ _ h => h) (Or.inl ⟨by rfl, ?_⟩) (by assumption) ?_
          rotate_left
          · (intro w hSw; (try dsimp only at hSw); go_simp; try with_reducible rfl)
          try simp only [Act.put, List.setIfInBounds_toArray, List.set_cons_zero, List.set_cons_succ]
          refine wpAnyH_take (i := 16) (oi := ⟨some 157, _, _, _, _, _⟩) (v := ?_) rfl (by kernel_rfl) (by kernel_rfl) (by kernel_rfl) (fun _ _ _ h => h) (Or.inl ⟨by rfl, ?_⟩) (by assumption) ?_
          rotate_left
          · (intro w hSw; (try dsimp only at hSw); go_simp; try with_reducible rfl)
          try simp only [Act.put, List.setIfInBounds_toArray, List.set_cons_zero, List.set_cons_succ]
          refine wpAnyH_take (i := 17) (oi := ⟨some 21, _, _, _, _, _⟩) (v := ?_) rfl (by kernel_rfl) (by kernel_rfl) (by kernel_rfl) (fun _ _ _ h => h) (Or.inl ⟨by rfl, ?_⟩) (by assumption) ?_
          rotate_left
          · (intro w hSw; (try dsimp only at hSw); go_simp; try with_reducible rfl)
          try simp only [Act.put, List.setIfInBounds_toArray, List.set_cons_zero, List.set_cons_succ]
          refine wpAnyH_done (by kernel_rfl) ?_ _
          go_wp2_with fail
          go_meet
          exact ⟨rfl, hHeld⟩
      case neg =>
        as_aux_lemma =>
          have hpos1 : 0 < N := by omega
          have hz : ((N : Int) == 0) = false := by simpa using h1
          obtain ⟨u, hu⟩ := HG1.out hpos1
          obtain ⟨v, hv⟩ := HG2.out hpos2
          have HU := Lib.hid hu
          have HV := Lib.hid hv
          have HNe := Lib.hid (HNxt.out u v hu hv).symm
          obtain ⟨b3, o3, rfl, _⟩ := (Sls.own (HK.out.own 2 rfl) HFs.out).at hpos1
          obtain ⟨b4, o4, rfl, _⟩ := (Sls.own (HK.out.own 0 rfl) HF2.out).at hpos2
          clear HNone HFst HNxt HG1 HG2 h2 h1 hu hv
          cases hd
          all_goals
            refine wp_region_held_drew (S := (fun W => Hid (Kn w.heap.size w W [] [row rfLay (.slice (some ⟨b4, o4, none⟩) N2 c4) s2, row rfLay (.slice A5 N2 c5) s2, row rfLay (.slice (some ⟨b3, o3, none⟩) N c3) s, row rfLay (.slice A6 nt c6) t]))) (by kernel_rfl) ?_ (fun hHeld => ?_)
            · (try dsimp only); exact Lib.hid HK.out.drew
            refine wpAnyH_take (i := 0) (oi := ⟨some 141, _, _, _, _, _⟩) (v := ?_) rfl (by kernel_rfl) (by kernel_rfl) (by kernel_rfl) (fun _ _ _ h => h) (Or.inl ⟨by rfl, ?_⟩) (by assumption) ?_
            rotate_left
            · (intro w hSw; (try dsimp only at hSw); go_simp; try with_reducible rfl)
            try simp only [Act.put, List.setIfInBounds_toArray, List.set_cons_zero, List.set_cons_succ]
            refine wpAnyH_take (i := 1) (oi := ⟨some 142, _, _, _, _, _⟩) (v := ?_) rfl (by kernel_rfl) (by kernel_rfl) (by kernel_rfl) (fun _ _ _ h => h) (Or.inl ⟨by rfl, ?_⟩) (by assumption) ?_
            rotate_left
            · (intro w hSw; (try dsimp only at hSw); go_simp; try with_reducible rfl)
            try simp only [Act.put, List.setIfInBounds_toArray, List.set_cons_zero, List.set_cons_succ]
            refine wpAnyH_take (i := 2) (oi := ⟨some 143, _, _, _, _, _⟩) (v := ?_) rfl (by kernel_rfl) (by kernel_rfl) (by kernel_rfl) (fun _ _ _ h => h) (Or.inl ⟨by rfl, ?_⟩) (by assumption) ?_
            rotate_left
            · (intro w hSw; refine Eq.trans (exec_gt (x := (N2 : Int)) (k := 0) _ (by rfl) (by rfl) HZ.out) ?_; with_reducible rfl)
            try simp only [Act.put, List.setIfInBounds_toArray, List.set_cons_zero, List.set_cons_succ]
            refine wpAnyH_take (i := 3) (oi := ⟨some 144, _, _, _, _, _⟩) (v := ?_) rfl (by kernel_rfl) (by kernel_rfl) (by kernel_rfl) (fun _ _ _ h => h) (Or.inl ⟨by rfl, ?_⟩) (by assumption) ?_
            rotate_left
            · (intro w hSw; (try dsimp only at hSw); go_simp; try with_reducible rfl)
            try simp only [Act.put, List.setIfInBounds_toArray, List.set_cons_zero, List.set_cons_succ]
            refine wpAnyH_take (i := 4) (oi := ⟨some 145, _, _, _, _, _⟩) (v := ?_) rfl (by kernel_rfl) (by kernel_rfl) (by kernel_rfl) (fun _ _ _ h => h) (Or.inl ⟨by rfl, ?_⟩) (by assumption) ?_
            rotate_left
            · (intro w hSw; (try dsimp only at hSw); go_simp; try with_reducible rfl)
            try simp only [Act.put, List.setIfInBounds_toArray, List.set_cons_zero, List.set_cons_succ]
            refine wpAnyH_take (i := 5) (oi := ⟨some 146, _, _, _, _, _⟩) (v := ?_) rfl (by kernel_rfl) (by kernel_rfl) (by kernel_rfl) (fun _ _ _ h => h) (Or.inl ⟨by rfl, ?_⟩) (by assumption) ?_
            rotate_left
            · (intro w hSw; (try dsimp only at hSw); go_simp; try with_reducible rfl)
            try simp only [Act.put, List.setIfInBounds_toArray, List.set_cons_zero, List.set_cons_succ]
            refine wpAnyH_take (i := 6) (oi := ⟨some 147, _, _, _, _, _⟩) (v := ?_) rfl (by kernel_rfl) (by kernel_rfl) (by kernel_rfl) (fun _ _ _ h => h) (Or.inl ⟨by rfl, ?_⟩) (by assumption) ?_
            rotate_left
            · (intro w hSw; (try dsimp only at hSw); go_simp; try with_reducible rfl)
            try simp only [Act.put, List.setIfInBounds_toArray, List.set_cons_zero, List.set_cons_succ]
            refine wpAnyH_take (i := 7) (oi := ⟨some 148, _, _, _, _, _⟩) (v := ?_) rfl (by kernel_rfl) (by kernel_rfl) (by kernel_rfl) (fun _ _ _ h => h) (Or.inl ⟨by rfl, ?_⟩) (by assumption) ?_
            rotate_left
            · (intro w hSw; (try dsimp only at hSw); go_simp; try with_reducible rfl)
            try simp only [Act.put, List.setIfInBounds_toArray, List.set_cons_zero, List.set_cons_succ]
            refine wpAnyH_take (i := 8) (oi := ⟨some 149, _, _, _, _, _⟩) (v := ?_) rfl (by kernel_rfl) (by kernel_rfl) (by kernel_rfl) (fun _ _ _ h => h) (Or.inl ⟨by rfl, ?_⟩) (by assumption) ?_
            rotate_left
            · (intro w hSw; (try dsimp only at hSw); go_simp; try with_reducible rfl)
            try simp only [Act.put, List.setIfInBounds_toArray, List.set_cons_zero, List.set_cons_succ]
            refine wpAnyH_take (i := 9) (oi := ⟨some 150, _, _, _, _, _⟩) (v := ?_) rfl (by kernel_rfl) (by kernel_rfl) (by kernel_rfl) (fun _ _ _ h => h) (Or.inl ⟨by rfl, ?_⟩) (by assumption) ?_
            rotate_left
            · (intro w hSw; refine Eq.trans (exec_ixr (i := 0) _ _ (by rfl) (by rfl) (by rfl) hpos1) ?_; with_reducible rfl)
            try simp only [Act.put, List.setIfInBounds_toArray, List.set_cons_zero, List.set_cons_succ]
            refine wpAnyH_take (i := 10) (oi := ⟨some 151, _, _, _, _, _⟩) (v := ?_) rfl (by kernel_rfl) (by kernel_rfl) (by kernel_rfl) (fun _ _ _ h => h) (Or.inl ⟨by rfl, ?_⟩) (by assumption) ?_
            rotate_left
            · (intro w hSw; refine Eq.trans (exec_lr (x := u) (off := o3 + 0 * 3) _ (by rfl) (by rfl) ((Sls.own (hSw.out.own 2 rfl) HFs.out).cells HU.out)) ?_; with_reducible rfl)
            try simp only [Act.put, List.setIfInBounds_toArray, List.set_cons_zero, List.set_cons_succ]
            refine wpAnyH_take (i := 11) (oi := ⟨some 152, _, _, _, _, _⟩) (v := ?_) rfl (by kernel_rfl) (by kernel_rfl) (by kernel_rfl) (fun _ _ _ h => h) (Or.inl ⟨by rfl, ?_⟩) (by assumption) ?_
            rotate_left
            · (intro w hSw; (try dsimp only at hSw); go_simp; try with_reducible rfl)
            try simp only [Act.put, List.setIfInBounds_toArray, List.set_cons_zero, List.set_cons_succ]
            refine wpAnyH_take (i := 12) (oi := ⟨some 153, _, _, _, _, _⟩) (v := ?_) rfl (by kernel_rfl) (by kernel_rfl) (by kernel_rfl) (fun _ _ _ h => h) (Or.inl ⟨by rfl, ?_⟩) (by assumption) ?_
            rotate_left
            · (intro w hSw; refine Eq.trans (exec_ixr (i := 0) _ _ (by rfl) (by rfl) (by rfl) hpos2) ?_; with_reducible rfl)
            try simp only [Act.put, List.setIfInBounds_toArray, List.set_cons_zero, List.set_cons_succ]
            refine wpAnyH_take (i := 13) (oi := ⟨some 154, _, _, _, _, _⟩) (v := ?_) rfl (by kernel_rfl) (by kernel_rfl) (by kernel_rfl) (fun _ _ _ h => h) (Or.inl ⟨by rfl, ?_⟩) (by assumption) ?_
            rotate_left
            · (intro w hSw; refine Eq.trans (exec_lr (x := v) (off := o4 + 0 * 3) _ (by rfl) (by rfl) ((Sls.own (hSw.out.own 0 rfl) HF2.out).cells HV.out)) ?_; with_reducible rfl)
            try simp only [Act.put, List.setIfInBounds_toArray, List.set_cons_zero, List.set_cons_succ]
            refine wpAnyH_take (i := 14) (oi := ⟨some 155, _, _, _, _, _⟩) (v := ?_) rfl (by kernel_rfl) (by kernel_rfl) (by kernel_rfl) (fun _ _ _ h => h) (Or.inl ⟨by rfl, ?_⟩) (by assumption) ?_
            rotate_left
            · (intro w hSw; refine Eq.trans (exec_rne (v := u) (u := v) _ _ (by rfl) (by rfl) (by rfl) HNe.out) ?_; with_reducible rfl)
            try simp only [Act.put, List.setIfInBounds_toArray, List.set_cons_zero, List.set_cons_succ]
            refine wpAnyH_take (i := 15) (oi := ⟨some 156, _, _, _, _, _⟩) (v := ?_) rfl (by kernel_rfl) (by kernel_rfl) (by kernel_rfl) (fun _ _ _ h => h) (Or.inl ⟨by rfl, ?_⟩) (by assumption) ?_
            rotate_left
            · (intro w hSw; (try dsimp only at hSw); go_simp; try with_reducible rfl)
            try simp only [Act.put, List.setIfInBounds_toArray, List.set_cons_zero, List.set_cons_succ]
            refine wpAnyH_take (i := 16) (oi := ⟨some 157, _, _, _, _, _⟩) (v := ?_) rfl (by kernel_rfl) (by kernel_rfl) (by kernel_rfl) (fun _ _ _ h => h) (Or.inl ⟨by rfl, ?_⟩) (by assumption) ?_
            rotate_left
            · (intro w hSw; (try dsimp only at hSw); go_simp; try with_reducible rfl)
            try simp only [Act.put, List.setIfInBounds_toArray, List.set_cons_zero, List.set_cons_succ]
            refine wpAnyH_take (i := 17) (oi := ⟨some 21, _, _, _, _, _⟩) (v := ?_) rfl (by kernel_rfl) (by kernel_rfl) (by kernel_rfl) (fun _ _ _ h => h) (Or.inl ⟨by rfl, ?_⟩) (by assumption) ?_
            rotate_left
            · (intro w hSw; (try dsimp only at hSw); go_simp; try with_reducible rfl)
            try simp only [Act.put, List.setIfInBounds_toArray, List.set_cons_zero, List.set_cons_succ]
            refine wpAnyH_done (by kernel_rfl) ?_ _
            go_wp2_with fail
            go_meet
            exact ⟨rfl, hHeld⟩
    case rest =>
    clear HK HNone HFst HNxt HG1 HG2
    obtain ⟨rfl, HK⟩ := hcut
    have HSa := Lib.hid (fun W A B c d m (h1 : Sls rfLay rF W A N2 c s2) (h2 : Sls rfLay rF W B m d s2) => lsame_self A B c N2 d m s2 W h1 h2)
    go_wp2_with fail
    cases hd with
    | true =>
      as_aux_lemma =>
        obtain ⟨z, hz, rfl⟩ := HYes.out rfl
        have HZ := Lib.hid hz
        obtain rfl : 1 = nt := hlen.out.2
        have HFt := Lib.hid (fits_one z)
        have hpos2 : 0 < N2 := by rw [← hlen.out.1]; exact (List.getElem?_eq_some_iff.1 hz).1
        obtain ⟨b6, o6, rfl, _⟩ := (Sls.own (HK.out.own 3 rfl) HFt.out).at (by decide)
        obtain ⟨b4, o4, rfl, _⟩ := (Sls.own (HK.out.own 0 rfl) HF2.out).at hpos2
        have h01 : 0 < 1 := by decide
        clear HYes HNo hz
        refine wp_region_held_drew (S := (fun W => Hid (Kn w.heap.size w W [] [row rfLay (.slice (some ⟨b4, o4, none⟩) N2 c4) s2, row rfLay (.slice A5 N2 c5) s2, row rfLay (.slice A3 N c3) s, row rfLay (.slice (some ⟨b6, o6, none⟩) 1 c6) [z]]))) (by kernel_rfl) ?_ (fun hHeld => ?_)
        · (try dsimp only); exact Lib.hid HK.out.drew
        refine wpAnyH_take (i := 0) (oi := ⟨some 158, _, _, _, _, _⟩) (v := ?_) rfl (by kernel_rfl) (by kernel_rfl) (by kernel_rfl) (fun _ _ _ h => h) (Or.inl ⟨by rfl, ?_⟩) (by assumption) ?_
        rotate_left
        · (intro w hSw; (try dsimp only at hSw); go_simp; try with_reducible rfl)
        try simp only [Act.put, List.setIfInBounds_toArray, List.set_cons_zero, List.set_cons_succ]
        refine wpAnyH_take (i := 1) (oi := ⟨some 159, _, _, _, _, _⟩) (v := ?_) rfl (by kernel_rfl) (by kernel_rfl) (by kernel_rfl) (fun _ _ _ h => h) (Or.inl ⟨by rfl, ?_⟩) (by assumption) ?_
        rotate_left
        · (intro w hSw; (try dsimp only at hSw); go_simp; try with_reducible rfl)
        try simp only [Act.put, List.setIfInBounds_toArray, List.set_cons_zero, List.set_cons_succ]
        refine wpAnyH_ready (rs := [2]) (by kernel_rfl) (by simp) ?_
        refine AllReadyH.cons (o := ⟨some 160, _, _, _, _, _⟩) rfl (fun K hK => ?_) AllReadyH.nil
        go_simp
        go_at_call 13
        refine (HSa.out _ _ _ _ _ _ (Sls.own (hHeld.out.own 0 rfl) HF2.out) (Sls.own (hHeld.out.own 1 rfl) HF2.out)).mono ?_; rintro e w5 ⟨rfl, b5⟩; have hs := Lib.hid (hHeld.out.call b5); clear b5
        refine hK.out _ _ hs (fun hHeld => ?_)
        clear hK K
        try simp only [Act.put, List.setIfInBounds_toArray, List.set_cons_zero, List.set_cons_succ]
        refine wpAnyH_take (i := 3) (oi := ⟨some 161, _, _, _, _, _⟩) (v := ?_) rfl (by kernel_rfl) (by kernel_rfl) (by kernel_rfl) (fun _ _ _ h => h) (Or.inl ⟨by rfl, ?_⟩) (by assumption) ?_
        rotate_left
        · (intro w hSw; (try dsimp only at hSw); go_simp; try with_reducible rfl)
        try simp only [Act.put, List.setIfInBounds_toArray, List.set_cons_zero, List.set_cons_succ]
        refine wpAnyH_take (i := 4) (oi := ⟨some 162, _, _, _, _, _⟩) (v := ?_) rfl (by kernel_rfl) (by kernel_rfl) (by kernel_rfl) (fun _ _ _ h => h) (Or.inl ⟨by rfl, ?_⟩) (by assumption) ?_
        rotate_left
        · (intro w hSw; (try dsimp only at hSw); go_simp; try with_reducible rfl)
        try simp only [Act.put, List.setIfInBounds_toArray, List.set_cons_zero, List.set_cons_succ]
        refine wpAnyH_take (i := 5) (oi := ⟨some 163, _, _, _, _, _⟩) (v := ?_) rfl (by kernel_rfl) (by kernel_rfl) (by kernel_rfl) (fun _ _ _ h => h) (Or.inl ⟨by rfl, ?_⟩) (by assumption) ?_
        rotate_left
        · (intro w hSw; (try dsimp only at hSw); go_simp; try with_reducible rfl)
        try simp only [Act.put, List.setIfInBounds_toArray, List.set_cons_zero, List.set_cons_succ]
        refine wpAnyH_take (i := 6) (oi := ⟨some 164, _, _, _, _, _⟩) (v := ?_) rfl (by kernel_rfl) (by kernel_rfl) (by kernel_rfl) (fun _ _ _ h => h) (Or.inl ⟨by rfl, ?_⟩) (by assumption) ?_
        rotate_left
        · (intro w hSw; (try dsimp only at hSw); go_simp; try with_reducible rfl)
        try simp only [Act.put, List.setIfInBounds_toArray, List.set_cons_zero, List.set_cons_succ]
        refine wpAnyH_take (i := 7) (oi := ⟨some 165, _, _, _, _, _⟩) (v := ?_) rfl (by kernel_rfl) (by kernel_rfl) (by kernel_rfl) (fun _ _ _ h => h) (Or.inl ⟨by rfl, ?_⟩) (by assumption) ?_
        rotate_left
        · (intro w hSw; (try dsimp only at hSw); go_simp; try with_reducible rfl)
        try simp only [Act.put, List.setIfInBounds_toArray, List.set_cons_zero, List.set_cons_succ]
        refine wpAnyH_take (i := 8) (oi := ⟨some 166, _, _, _, _, _⟩) (v := ?_) rfl (by kernel_rfl) (by kernel_rfl) (by kernel_rfl) (fun _ _ _ h => h) (Or.inl ⟨by rfl, ?_⟩) (by assumption) ?_
        rotate_left
        · (intro w hSw; (try dsimp only at hSw); go_simp; try with_reducible rfl)
        try simp only [Act.put, List.setIfInBounds_toArray, List.set_cons_zero, List.set_cons_succ]
        refine wpAnyH_take (i := 9) (oi := ⟨some 167, _, _, _, _, _⟩) (v := ?_) rfl (by kernel_rfl) (by kernel_rfl) (by kernel_rfl) (fun _ _ _ h => h) (Or.inl ⟨by rfl, ?_⟩) (by assumption) ?_
        rotate_left
        · (intro w hSw; (try dsimp only at hSw); go_simp; try with_reducible rfl)
        try simp only [Act.put, List.setIfInBounds_toArray, List.set_cons_zero, List.set_cons_succ]
        refine wpAnyH_take (i := 10) (oi := ⟨some 168, _, _, _, _, _⟩) (v := ?_) rfl (by kernel_rfl) (by kernel_rfl) (by kernel_rfl) (fun _ _ _ h => h) (Or.inl ⟨by rfl, ?_⟩) (by assumption) ?_
        rotate_left
        · (intro w hSw; (try dsimp only at hSw); go_simp; try with_reducible rfl)
        try simp only [Act.put, List.setIfInBounds_toArray, List.set_cons_zero, List.set_cons_succ]
        refine wpAnyH_take (i := 11) (oi := ⟨some 169, _, _, _, _, _⟩) (v := ?_) rfl (by kernel_rfl) (by kernel_rfl) (by kernel_rfl) (fun _ _ _ h => h) (Or.inl ⟨by rfl, ?_⟩) (by assumption) ?_
        rotate_left
        · (intro w hSw; (try dsimp only at hSw); go_simp; try with_reducible rfl)
        try simp only [Act.put, List.setIfInBounds_toArray, List.set_cons_zero, List.set_cons_succ]
        refine wpAnyH_take (i := 12) (oi := ⟨some 170, _, _, _, _, _⟩) (v := ?_) rfl (by kernel_rfl) (by kernel_rfl) (by kernel_rfl) (fun _ _ _ h => h) (Or.inl ⟨by rfl, ?_⟩) (by assumption) ?_
        rotate_left
        · (intro w hSw; (try dsimp only at hSw); go_simp; try with_reducible rfl)
        try simp only [Act.put, List.setIfInBounds_toArray, List.set_cons_zero, List.set_cons_succ]
        refine wpAnyH_take (i := 13) (oi := ⟨some 171, _, _, _, _, _⟩) (v := ?_) rfl (by kernel_rfl) (by kernel_rfl) (by kernel_rfl) (fun _ _ _ h => h) (Or.inl ⟨by rfl, ?_⟩) (by assumption) ?_
        rotate_left
        · (intro w hSw; (try dsimp only at hSw); go_simp; try with_reducible rfl)
        try simp only [Act.put, List.setIfInBounds_toArray, List.set_cons_zero, List.set_cons_succ]
        refine wpAnyH_take (i := 14) (oi := ⟨some 172, _, _, _, _, _⟩) (v := ?_) rfl (by kernel_rfl) (by kernel_rfl) (by kernel_rfl) (fun _ _ _ h => h) (Or.inl ⟨by rfl, ?_⟩) (by assumption) ?_
        rotate_left
        · (intro w hSw; (try dsimp only at hSw); go_simp; try with_reducible rfl)
        try simp only [Act.put, List.setIfInBounds_toArray, List.set_cons_zero, List.set_cons_succ]
        refine wpAnyH_take (i := 15) (oi := ⟨some 173, _, _, _, _, _⟩) (v := ?_) rfl (by kernel_rfl) (by kernel_rfl) (by kernel_rfl) (fun _ _ _ h => h) (Or.inl ⟨by rfl, ?_⟩) (by assumption) ?_
        rotate_left
        · (intro w hSw; refine Eq.trans (exec_ixr (i := 0) _ _ (by rfl) (by rfl) (by rfl) h01) ?_; with_reducible rfl)
        try simp only [Act.put, List.setIfInBounds_toArray, List.set_cons_zero, List.set_cons_succ]
        refine wpAnyH_take (i := 16) (oi := ⟨some 174, _, _, _, _, _⟩) (v := ?_) rfl (by kernel_rfl) (by kernel_rfl) (by kernel_rfl) (fun _ _ _ h => h) (Or.inl ⟨by rfl, ?_⟩) (by assumption) ?_
        rotate_left
        · (intro w hSw; refine Eq.trans (exec_lr (x := z) (off := o6 + 0 * 3) _ (by rfl) (by rfl) ((Sls.own (hSw.out.own 3 rfl) HFt.out).cells rfl)) ?_; with_reducible rfl)
        try simp only [Act.put, List.setIfInBounds_toArray, List.set_cons_zero, List.set_cons_succ]
        refine wpAnyH_take (i := 17) (oi := ⟨some 175, _, _, _, _, _⟩) (v := ?_) rfl (by kernel_rfl) (by kernel_rfl) (by kernel_rfl) (fun _ _ _ h => h) (Or.inl ⟨by rfl, ?_⟩) (by assumption) ?_
        rotate_left
        · (intro w hSw; (try dsimp only at hSw); go_simp; try with_reducible rfl)
        try simp only [Act.put, List.setIfInBounds_toArray, List.set_cons_zero, List.set_cons_succ]
        refine wpAnyH_take (i := 18) (oi := ⟨some 176, _, _, _, _, _⟩) (v := ?_) rfl (by kernel_rfl) (by kernel_rfl) (by kernel_rfl) (fun _ _ _ h => h) (Or.inl ⟨by rfl, ?_⟩) (by assumption) ?_
        rotate_left
        · (intro w hSw; refine Eq.trans (exec_ixr (i := 0) _ _ (by rfl) (by rfl) (by rfl) hpos2) ?_; with_reducible rfl)
        try simp only [Act.put, List.setIfInBounds_toArray, List.set_cons_zero, List.set_cons_succ]
        refine wpAnyH_take (i := 19) (oi := ⟨some 177, _, _, _, _, _⟩) (v := ?_) rfl (by kernel_rfl) (by kernel_rfl) (by kernel_rfl) (fun _ _ _ h => h) (Or.inl ⟨by rfl, ?_⟩) (by assumption) ?_
        rotate_left
        · (intro w hSw; refine Eq.trans (exec_lr (x := z) (off := o4 + 0 * 3) _ (by rfl) (by rfl) ((Sls.own (hSw.out.own 0 rfl) HF2.out).cells HZ.out)) ?_; with_reducible rfl)
        try simp only [Act.put, List.setIfInBounds_toArray, List.set_cons_zero, List.set_cons_succ]
        refine wpAnyH_take (i := 20) (oi := ⟨some 178, _, _, _, _, _⟩) (v := ?_) rfl (by kernel_rfl) (by kernel_rfl) (by kernel_rfl) (fun _ _ _ h => h) (Or.inl ⟨by rfl, ?_⟩) (by assumption) ?_
        rotate_left
        · (intro w hSw; refine Eq.trans (exec_rne (v := z) (u := z) _ _ (by rfl) (by rfl) (by rfl) (rne_self z)) ?_; with_reducible rfl)
        try simp only [Act.put, List.setIfInBounds_toArray, List.set_cons_zero, List.set_cons_succ]
        refine wpAnyH_take (i := 21) (oi := ⟨some 179, _, _, _, _, _⟩) (v := ?_) rfl (by kernel_rfl) (by kernel_rfl) (by kernel_rfl) (fun _ _ _ h => h) (Or.inl ⟨by rfl, ?_⟩) (by assumption) ?_
        rotate_left
        · (intro w hSw; (try dsimp only at hSw); go_simp; try with_reducible rfl)
        try simp only [Act.put, List.setIfInBounds_toArray, List.set_cons_zero, List.set_cons_succ]
        refine wpAnyH_take (i := 22) (oi := ⟨some 180, _, _, _, _, _⟩) (v := ?_) rfl (by kernel_rfl) (by kernel_rfl) (by kernel_rfl) (fun _ _ _ h => h) (Or.inl ⟨by rfl, ?_⟩) (by assumption) ?_
        rotate_left
        · (intro w hSw; (try dsimp only at hSw); go_simp; try with_reducible rfl)
        try simp only [Act.put, List.setIfInBounds_toArray, List.set_cons_zero, List.set_cons_succ]
        refine wpAnyH_done (by kernel_rfl) ?_ _
        go_wp2_with (first | refine wpList_exe (exec_add1 (j := k) _ (by rfl) (by rfl) hk3) (by rfl) ?_)
        exact ⟨⟨k + 1, N2, c4, c5, _, A5, s2, hlt, rfl, rfl, rfl, by omega, Lib.hid hlen.out.1, HRs2, Lib.hid (hHeld.out.takeR 2)⟩, by simp [intOf]; omega⟩
    | false =>
      as_aux_lemma =>
        obtain rfl := HNo.out rfl
        obtain rfl : 0 = nt := hlen.out.2
        clear HYes HNo
        refine wp_region_held_drew (S := (fun W => Hid (Kn w.heap.size w W [] [row rfLay (.slice A4 N2 c4) s2, row rfLay (.slice A5 N2 c5) s2, row rfLay (.slice A3 N c3) s, row rfLay (.slice A6 0 c6) []]))) (by kernel_rfl) ?_ (fun hHeld => ?_)
        · (try dsimp only); exact Lib.hid HK.out.drew
        refine wpAnyH_take (i := 0) (oi := ⟨some 158, _, _, _, _, _⟩) (v := ?_) rfl (by kernel_rfl) (by kernel_rfl) (by kernel_rfl) (fun _ _ _ h => h) (Or.inl ⟨by rfl, ?_⟩) (by assumption) ?_
        rotate_left
        · (intro w hSw; (try dsimp only at hSw); go_simp; try with_reducible rfl)
        try simp only [Act.put, List.setIfInBounds_toArray, List.set_cons_zero, List.set_cons_succ]
        refine wpAnyH_take (i := 1) (oi := ⟨some 159, _, _, _, _, _⟩) (v := ?_) rfl (by kernel_rfl) (by kernel_rfl) (by kernel_rfl) (fun _ _ _ h => h) (Or.inl ⟨by rfl, ?_⟩) (by assumption) ?_
        rotate_left
        · (intro w hSw; (try dsimp only at hSw); go_simp; try with_reducible rfl)
        try simp only [Act.put, List.setIfInBounds_toArray, List.set_cons_zero, List.set_cons_succ]
        refine wpAnyH_ready (rs := [2]) (by kernel_rfl) (by simp) ?_
        refine AllReadyH.cons (o := ⟨some 160, _, _, _, _, _⟩) rfl (fun K hK => ?_) AllReadyH.nil
        go_simp
        go_at_call 13
        refine (HSa.out _ _ _ _ _ _ (Sls.own (hHeld.out.own 0 rfl) HF2.out) (Sls.own (hHeld.out.own 1 rfl) HF2.out)).mono ?_; rintro e w5 ⟨rfl, b5⟩; have hs := Lib.hid (hHeld.out.call b5); clear b5
        refine hK.out _ _ hs (fun hHeld => ?_)
        clear hK K
        try simp only [Act.put, List.setIfInBounds_toArray, List.set_cons_zero, List.set_cons_succ]
        refine wpAnyH_take (i := 3) (oi := ⟨some 161, _, _, _, _, _⟩) (v := ?_) rfl (by kernel_rfl) (by kernel_rfl) (by kernel_rfl) (fun _ _ _ h => h) (Or.inl ⟨by rfl, ?_⟩) (by assumption) ?_
        rotate_left
        · (intro w hSw; (try dsimp only at hSw); go_simp; try with_reducible rfl)
        try simp only [Act.put, List.setIfInBounds_toArray, List.set_cons_zero, List.set_cons_succ]
        refine wpAnyH_take (i := 4) (oi := ⟨some 162, _, _, _, _, _⟩) (v := ?_) rfl (by kernel_rfl) (by kernel_rfl) (by kernel_rfl) (fun _ _ _ h => h) (Or.inl ⟨by rfl, ?_⟩) (by assumption) ?_
        rotate_left
        · (intro w hSw; (try dsimp only at hSw); go_simp; try with_reducible rfl)
        try simp only [Act.put, List.setIfInBounds_toArray, List.set_cons_zero, List.set_cons_succ]
        refine wpAnyH_take (i := 5) (oi := ⟨some 163, _, _, _, _, _⟩) (v := ?_) rfl (by kernel_rfl) (by kernel_rfl) (by kernel_rfl) (fun _ _ _ h => h) (Or.inl ⟨by rfl, ?_⟩) (by assumption) ?_
        rotate_left
        · (intro w hSw; (try dsimp only at hSw); go_simp; try with_reducible rfl)
        try simp only [Act.put, List.setIfInBounds_toArray, List.set_cons_zero, List.set_cons_succ]
        refine wpAnyH_take (i := 6) (oi := ⟨some 164, _, _, _, _, _⟩) (v := ?_) rfl (by kernel_rfl) (by kernel_rfl) (by kernel_rfl) (fun _ _ _ h => h) (Or.inl ⟨by rfl, ?_⟩) (by assumption) ?_
        rotate_left
        · (intro w hSw; (try dsimp only at hSw); go_simp; try with_reducible rfl)
        try simp only [Act.put, List.setIfInBounds_toArray, List.set_cons_zero, List.set_cons_succ]
        refine wpAnyH_take (i := 7) (oi := ⟨some 165, _, _, _, _, _⟩) (v := ?_) rfl (by kernel_rfl) (by kernel_rfl) (by kernel_rfl) (fun _ _ _ h => h) (Or.inl ⟨by rfl, ?_⟩) (by assumption) ?_
        rotate_left
        · (intro w hSw; (try dsimp only at hSw); go_simp; try with_reducible rfl)
        try simp only [Act.put, List.setIfInBounds_toArray, List.set_cons_zero, List.set_cons_succ]
        refine wpAnyH_take (i := 8) (oi := ⟨some 166, _, _, _, _, _⟩) (v := ?_) rfl (by kernel_rfl) (by kernel_rfl) (by kernel_rfl) (fun _ _ _ h => h) (Or.inl ⟨by rfl, ?_⟩) (by assumption) ?_
        rotate_left
        · (intro w hSw; (try dsimp only at hSw); go_simp; try with_reducible rfl)
        try simp only [Act.put, List.setIfInBounds_toArray, List.set_cons_zero, List.set_cons_succ]
        refine wpAnyH_take (i := 9) (oi := ⟨some 167, _, _, _, _, _⟩) (v := ?_) rfl (by kernel_rfl) (by kernel_rfl) (by kernel_rfl) (fun _ _ _ h => h) (Or.inl ⟨by rfl, ?_⟩) (by assumption) ?_
        rotate_left
        · (intro w hSw; (try dsimp only at hSw); go_simp; try with_reducible rfl)
        try simp only [Act.put, List.setIfInBounds_toArray, List.set_cons_zero, List.set_cons_succ]
        refine wpAnyH_take (i := 10) (oi := ⟨some 168, _, _, _, _, _⟩) (v := ?_) rfl (by kernel_rfl) (by kernel_rfl) (by kernel_rfl) (fun _ _ _ h => h) (Or.inl ⟨by rfl, ?_⟩) (by assumption) ?_
        rotate_left
        · (intro w hSw; (try dsimp only at hSw); go_simp; try with_reducible rfl)
        try simp only [Act.put, List.setIfInBounds_toArray, List.set_cons_zero, List.set_cons_succ]
        refine wpAnyH_take (i := 11) (oi := ⟨some 169, _, _, _, _, _⟩) (v := ?_) rfl (by kernel_rfl) (by kernel_rfl) (by kernel_rfl) (fun _ _ _ h => h) (Or.inl ⟨by rfl, ?_⟩) (by assumption) ?_
        rotate_left
        · (intro w hSw; (try dsimp only at hSw); go_simp; try with_reducible rfl)
        try simp only [Act.put, List.setIfInBounds_toArray, List.set_cons_zero, List.set_cons_succ]
        refine wpAnyH_take (i := 12) (oi := ⟨some 170, _, _, _, _, _⟩) (v := ?_) rfl (by kernel_rfl) (by kernel_rfl) (by kernel_rfl) (fun _ _ _ h => h) (Or.inl ⟨by rfl, ?_⟩) (by assumption) ?_
        rotate_left
        · (intro w hSw; (try dsimp only at hSw); go_simp; try with_reducible rfl)
        try simp only [Act.put, List.setIfInBounds_toArray, List.set_cons_zero, List.set_cons_succ]
        refine wpAnyH_take (i := 13) (oi := ⟨some 171, _, _, _, _, _⟩) (v := ?_) rfl (by kernel_rfl) (by kernel_rfl) (by kernel_rfl) (fun _ _ _ h => h) (Or.inl ⟨by rfl, ?_⟩) (by assumption) ?_
        rotate_left
        · (intro w hSw; (try dsimp only at hSw); go_simp; try with_reducible rfl)
        try simp only [Act.put, List.setIfInBounds_toArray, List.set_cons_zero, List.set_cons_succ]
        refine wpAnyH_take (i := 14) (oi := ⟨some 172, _, _, _, _, _⟩) (v := undef) rfl (by kernel_rfl) (by kernel_rfl) (by kernel_rfl) (fun _ _ _ h => h) (Or.inr ⟨by rfl, rfl⟩) (by assumption) ?_
        try simp only [Act.put, List.setIfInBounds_toArray, List.set_cons_zero, List.set_cons_succ]
        refine wpAnyH_take (i := 15) (oi := ⟨some 173, _, _, _, _, _⟩) (v := undef) rfl (by kernel_rfl) (by kernel_rfl) (by kernel_rfl) (fun _ _ _ h => h) (Or.inr ⟨by rfl, rfl⟩) (by assumption) ?_
        try simp only [Act.put, List.setIfInBounds_toArray, List.set_cons_zero, List.set_cons_succ]
        refine wpAnyH_take (i := 16) (oi := ⟨some 174, _, _, _, _, _⟩) (v := undef) rfl (by kernel_rfl) (by kernel_rfl) (by kernel_rfl) (fun _ _ _ h => h) (Or.inr ⟨by rfl, rfl⟩) (by assumption) ?_
        try simp only [Act.put, List.setIfInBounds_toArray, List.set_cons_zero, List.set_cons_succ]
        refine wpAnyH_take (i := 17) (oi := ⟨some 175, _, _, _, _, _⟩) (v := undef) rfl (by kernel_rfl) (by kernel_rfl) (by kernel_rfl) (fun _ _ _ h => h) (Or.inr ⟨by rfl, rfl⟩) (by assumption) ?_
        try simp only [Act.put, List.setIfInBounds_toArray, List.set_cons_zero, List.set_cons_succ]
        refine wpAnyH_take (i := 18) (oi := ⟨some 176, _, _, _, _, _⟩) (v := undef) rfl (by kernel_rfl) (by kernel_rfl) (by kernel_rfl) (fun _ _ _ h => h) (Or.inr ⟨by rfl, rfl⟩) (by assumption) ?_
        try simp only [Act.put, List.setIfInBounds_toArray, List.set_cons_zero, List.set_cons_succ]
        refine wpAnyH_take (i := 19) (oi := ⟨some 177, _, _, _, _, _⟩) (v := undef) rfl (by kernel_rfl) (by kernel_rfl) (by kernel_rfl) (fun _ _ _ h => h) (Or.inr ⟨by rfl, rfl⟩) (by assumption) ?_
        try simp only [Act.put, List.setIfInBounds_toArray, List.set_cons_zero, List.set_cons_succ]
        refine wpAnyH_take (i := 20) (oi := ⟨some 178, _, _, _, _, _⟩) (v := undef) rfl (by kernel_rfl) (by kernel_rfl) (by kernel_rfl) (fun _ _ _ h => h) (Or.inr ⟨by rfl, rfl⟩) (by assumption) ?_
        try simp only [Act.put, List.setIfInBounds_toArray, List.set_cons_zero, List.set_cons_succ]
        refine wpAnyH_take (i := 21) (oi := ⟨some 179, _, _, _, _, _⟩) (v := ?_) rfl (by kernel_rfl) (by kernel_rfl) (by kernel_rfl) (fun _ _ _ h => h) (Or.inl ⟨by rfl, ?_⟩) (by assumption) ?_
        rotate_left
        · (intro w hSw; (try dsimp only at hSw); go_simp; try with_reducible rfl)
        try simp only [Act.put, List.setIfInBounds_toArray, List.set_cons_zero, List.set_cons_succ]
        refine wpAnyH_take (i := 22) (oi := ⟨some 180, _, _, _, _, _⟩) (v := ?_) rfl (by kernel_rfl) (by kernel_rfl) (by kernel_rfl) (fun _ _ _ h => h) (Or.inl ⟨by rfl, ?_⟩) (by assumption) ?_
        rotate_left
        · (intro w hSw; (try dsimp only at hSw); go_simp; try with_reducible rfl)
        try simp only [Act.put, List.setIfInBounds_toArray, List.set_cons_zero, List.set_cons_succ]
        refine wpAnyH_done (by kernel_rfl) ?_ _
        go_wp2_with (first | refine wpList_exe (exec_add1 (j := k) _ (by rfl) (by rfl) hk3) (by rfl) ?_)
        exact ⟨⟨k + 1, N2, c4, c5, A4, A5, s2, hlt, rfl, rfl, rfl, by omega, Lib.hid hlen.out.1, HRs2, Lib.hid (hHeld.out.takeR 2)⟩, by simp [intOf]; omega⟩
end Go.Proofs.Ytahmcgnlpogfaaa
