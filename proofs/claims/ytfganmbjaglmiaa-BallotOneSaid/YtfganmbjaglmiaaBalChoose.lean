/-
  What Choose returns.
  No condition but what the slice reads as.
-/
import Derived.Test.YtfganmbjaglmiaaBalPm
import Derived.Test.YtfganmbjaglmiaaBalCode
import Derived.Test.YtfganmbjaglmiaaBalRef
import Derived.BigQuiet
set_option linter.unusedSimpArgs false
set_option linter.unusedVariables false
namespace Go.Proofs.Ytfganmbjaglmiaa
open Go.RowKit

set_option maxRecDepth 100000 in
set_option maxHeartbeats 6400000 in
theorem bchoose_any {Fp : Bpm → Prop} (A : Option Addr) (n c : Nat) (l : List Bpm) (w : World) (hs : Sls pmLay Fp w A n c l) :
    Calls Try.prog 17 #[.slice A n c] w (IsSB (Blt.lo (Blt.ch l)).v (Blt.ch l).isSome w) := by
  have HS := Lib.hid hs
  have hn : n ≤ 140737488355328 := by have h : n * 32 ≤ 140737488355328 := hs.big; omega
  have HT : Hid (l.take n = l) := Lib.hid (List.take_of_length_le (by rw [hs.len]; exact Nat.le_refl _))
  have HK := Lib.hid (Kn.start w)
  unfold IsSB
  clear hs
  go_enter Try.func17, Try.ntmps17
  go_wp2_with (first | (refine wpList_apm HK rfl rfl ?_; intro _ g4 HK'; simp only [List.cons_append, List.nil_append] at HK'; replace HK := HK'; clear HK') | (refine wpList_spm (q := Blt.zp) HK 0 rfl _ _ rfl rfl rfl rfl ?_; intro _ HK'; simp only [List.set] at HK'; replace HK := HK'; clear HK'))
  go_loopw [10] (fun v wr => ∃ k : Nat, k ≤ n ∧ v = .int .i64 k ∧ Hid (Kn w.heap.size w wr [(g4, 50, pmA (Blt.lo (Blt.ch (l.take k))))] [])) (fun v _ => n - (intOf v).toNat)
  case atStart => exact ⟨0, Nat.zero_le _, rfl, HK⟩
  case round =>
    clear HK
    obtain ⟨k, hk, rfl, HK⟩ := hrel
    have hk1 : (0 : Int) ≤ (k : Int) := by omega
    have hk3 : k < 9223372036854775807 := by omega
    by_cases hlt : k < n
    · have hk2 : (k : Int) < (n : Int) := by omega
      obtain ⟨x, hx, _⟩ := HS.out.get hlt
      obtain ⟨b, o, rfl, hat⟩ := HS.out.pat (by omega)
      have HX : Hid (∀ W, Below w.heap.size w W → ∀ j v, (pmLay.f x)[j]? = some v → W.cell? ⟨b, o + k * 3 + j, none⟩ = some v) := Lib.hid (fun W hW => hat W hW k x hx)
      have hst := Blt.ch_take hx
      clear hat hx HT HS
      generalize Blt.ch (l.take k) = u at *
      generalize hnu : Blt.ch (l.take (k + 1)) = u2 at *
      have HR := Lib.hid (fun W => b20cright_any x.a W)
      have HC := Lib.hid (fun W => b20ccmp_any x.a (Blt.lo u).a W)
      unfold IsB at HR
      unfold IsIB at HC
      by_cases hr : Blt.Rt x.a
      · rw [decide_eq_true hr] at HR
        by_cases hc : 0 < Blt.cm x.a (Blt.lo u).a
        · have HN := Lib.hid ((congrArg Blt.lo hst).trans (Blt.lo_yes hr hc))
          clear hr hst
          generalize Blt.cm x.a (Blt.lo u).a = m at *
          generalize Blt.lo u = y at *
          go_wp2_with (first | refine wpList_exe (exec_ixp (i := k) _ _ (by rfl) (by rfl) (by rfl) hlt) (by rfl) ?_ | refine wpList_exe (exec_lpp (p := x) (off := o + k * 3) _ (by rfl) (by rfl) (HX.out _ HK.out.b)) (by rfl) ?_ | (refine wpList_apm HK rfl rfl ?_; intro _ g6 HK'; simp only [List.cons_append, List.nil_append] at HK'; replace HK := HK'; clear HK') | (refine wpList_spm (q := x) HK 1 rfl _ _ rfl rfl rfl rfl ?_; intro _ HK'; simp only [List.set] at HK'; replace HK := HK'; clear HK') | refine wpList_exe (kp_a HK 1 _ (by rfl) (by rfl) (by rfl)) (by rfl) ?_)
          refine (HR.out _).mono ?_; rintro e w1 ⟨rfl, b1⟩
          replace HK := Lib.hid (HK.out.call b1); clear b1
          go_wp2_with (first | refine wpList_exe (kp_a HK 1 _ (by rfl) (by rfl) (by rfl)) (by rfl) ?_ | refine wpList_exe (kp_a HK 0 _ (by rfl) (by rfl) (by rfl)) (by rfl) ?_)
          refine (HC.out _).mono ?_; rintro e w1 ⟨rfl, b1⟩
          replace HK := Lib.hid (HK.out.call b1); clear b1
          go_wp2_with (first | refine wpList_exe (kp_p HK 1 _ (by rfl) (by rfl) (by rfl)) (by rfl) ?_ | (refine wpList_spm (q := x) HK 0 rfl _ _ rfl rfl rfl rfl ?_; intro _ HK'; simp only [List.set] at HK'; replace HK := HK'; clear HK') | refine wpList_exe (exec_add1 (j := k) _ (by rfl) (by rfl) hk3) (by rfl) ?_)
          exact ⟨⟨k + 1, hlt, rfl, by rw [hnu, HN.out]; exact Lib.hid (HK.out.takeL 1)⟩, by simp [intOf]; omega⟩
        · have HN := Lib.hid (congrArg Blt.lo (hst.trans (Blt.lo_no hr hc)))
          clear hr hst
          generalize Blt.cm x.a (Blt.lo u).a = m at *
          generalize Blt.lo u = y at *
          go_wp2_with (first | refine wpList_exe (exec_ixp (i := k) _ _ (by rfl) (by rfl) (by rfl) hlt) (by rfl) ?_ | refine wpList_exe (exec_lpp (p := x) (off := o + k * 3) _ (by rfl) (by rfl) (HX.out _ HK.out.b)) (by rfl) ?_ | (refine wpList_apm HK rfl rfl ?_; intro _ g6 HK'; simp only [List.cons_append, List.nil_append] at HK'; replace HK := HK'; clear HK') | (refine wpList_spm (q := x) HK 1 rfl _ _ rfl rfl rfl rfl ?_; intro _ HK'; simp only [List.set] at HK'; replace HK := HK'; clear HK') | refine wpList_exe (kp_a HK 1 _ (by rfl) (by rfl) (by rfl)) (by rfl) ?_)
          refine (HR.out _).mono ?_; rintro e w1 ⟨rfl, b1⟩
          replace HK := Lib.hid (HK.out.call b1); clear b1
          go_wp2_with (first | refine wpList_exe (kp_a HK 1 _ (by rfl) (by rfl) (by rfl)) (by rfl) ?_ | refine wpList_exe (kp_a HK 0 _ (by rfl) (by rfl) (by rfl)) (by rfl) ?_)
          refine (HC.out _).mono ?_; rintro e w1 ⟨rfl, b1⟩
          replace HK := Lib.hid (HK.out.call b1); clear b1
          go_wp2_with (first | refine wpList_exe (exec_add1 (j := k) _ (by rfl) (by rfl) hk3) (by rfl) ?_)
          exact ⟨⟨k + 1, hlt, rfl, by rw [hnu, HN.out]; exact Lib.hid (HK.out.takeL 1)⟩, by simp [intOf]; omega⟩
      · have HN := Lib.hid (congrArg Blt.lo (hst.trans (Blt.lo_bad hr)))
        rw [decide_eq_false hr] at HR
        clear hr hst HC
        generalize Blt.lo u = y at *
        go_wp2_with (first | refine wpList_exe (exec_ixp (i := k) _ _ (by rfl) (by rfl) (by rfl) hlt) (by rfl) ?_ | refine wpList_exe (exec_lpp (p := x) (off := o + k * 3) _ (by rfl) (by rfl) (HX.out _ HK.out.b)) (by rfl) ?_ | (refine wpList_apm HK rfl rfl ?_; intro _ g6 HK'; simp only [List.cons_append, List.nil_append] at HK'; replace HK := HK'; clear HK') | (refine wpList_spm (q := x) HK 1 rfl _ _ rfl rfl rfl rfl ?_; intro _ HK'; simp only [List.set] at HK'; replace HK := HK'; clear HK') | refine wpList_exe (kp_a HK 1 _ (by rfl) (by rfl) (by rfl)) (by rfl) ?_)
        refine (HR.out _).mono ?_; rintro e w1 ⟨rfl, b1⟩
        replace HK := Lib.hid (HK.out.call b1); clear b1
        go_wp2_with (first | refine wpList_exe (exec_add1 (j := k) _ (by rfl) (by rfl) hk3) (by rfl) ?_)
        exact ⟨⟨k + 1, hlt, rfl, by rw [hnu, HN.out]; exact Lib.hid (HK.out.takeL 1)⟩, by simp [intOf]; omega⟩
    · obtain rfl : k = n := by omega
      rw [HT.out] at HK
      cases hch : Blt.ch l with
      | none =>
        rw [hch] at HK
        have HCH := Lib.hid hch
        clear hch HT HS
        have f0 := HK.out.cell 0 rfl 0 (v := .int .i64 0) rfl
        have f1 := HK.out.cell 0 rfl 1 (v := .int .i64 0) rfl
        have f2 := HK.out.cell 0 rfl 2 (v := .string ⟨#[]⟩) rfl
        go_wp2_with fail
        go_quiet (fail)
        go_wp2_with fail
        exact ret_t2 Try.results17 rfl rfl rfl ⟨by rw [HCH.out]; rfl, (HK.out.drewN _).b⟩
      | some x =>
        have hr := (Blt.ch_right hch).1
        have hz : ¬ x.a.r = 0 := by omega
        rw [hch] at HK
        have HCH := Lib.hid hch
        clear hch HT HS hr
        have f0 := HK.out.cell 0 rfl 0 (v := .int .i64 x.a.r) rfl
        have f1 := HK.out.cell 0 rfl 1 (v := .int .i64 x.a.s) rfl
        have f2 := HK.out.cell 0 rfl 2 (v := .string x.v) rfl
        go_wp2_with fail
        go_quiet (fail)
        go_wp2_with fail
        exact ret_t2 Try.results17 rfl rfl rfl ⟨by rw [HCH.out]; rfl, (HK.out.drewN _).b⟩
end Go.Proofs.Ytfganmbjaglmiaa
