/-
  The law MeterEnds: it returns true, and leaves what came in as it was.
  No condition but what the slice reads as.
-/
import Derived.Test.YtbaaoenmnmpfjaaMtAwake
import Derived.Test.YtbaaoenmnmpfjaaMtRowM
import Derived.Test.YtbaaoenmnmpfjaaULay
set_option linter.unusedSimpArgs false
set_option linter.unusedVariables false
namespace Go.Proofs.Ytbaaoenmnmpfjaa
open Go.RowKit

/-- A meter's block is made. -/
theorem step_akm {b0 : Nat} {w0 w : World} {L : List (Nat × TypeId × Array Value)} {R : List RowE} {ops : Array Oper} {o : Oper} {a : Act} {Q : Exit → Act → World → Prop} {K : Act → World → Prop} {E : Prop} (HK : Hid (Kn b0 w0 w L R)) (hgd : o.guard = none) (ho : o.op = .alloc 24)
    (h : ∀ w' g, Hid (Kn b0 w0 w' (L ++ [(g, 24, mC 0 0 0 0)]) R) → K (a.put o.dst (.pointer (some ⟨g, 0, none⟩))) w') : if Region.wanted o (yielded ops a.tmps) = true then Oper.wp Try.prog o a w K Q else E := by
  rw [if_pos (by simp [Region.wanted, hgd])]
  have h4 := h _ w.heap.size (Lib.hid (HK.out.alloc _ _))
  unfold Oper.wp execOp
  simp only [ho]
  unfold mC at h4
  go_simp
  exact h4
set_option maxRecDepth 100000 in
set_option maxHeartbeats 6400000 in
theorem ends_yes (A : Option Addr) (c n : Nat) (l : List Nat) (w : World) (hs : Sls uLay uF w A n c l) :
    Calls Try.prog 4 #[.slice A n c] w (fun e w' => e = .returned (.bool true) ∧ Below w.heap.size w w') := by
  have HS := Lib.hid hs
  have HAw := Lib.hid (fun W => awake_any W)
  have hn63 : n < 9223372036854775807 := by
    have h : n * 8 ≤ 140737488355328 := hs.big
    omega
  have HI := Lib.hid (Mt.mf_inv (l := l) hs.fit.fs (by rw [hs.len]; exact hn63))
  have hlen := Lib.hid hs.len
  unfold IsB at *
  clear hs
  have HK := Lib.hid (Kn.start w)
  go_enter Try.func4, Try.ntmps4
  go_wp2_with (first | (refine wpList_akm HK rfl rfl ?_; intro _ g3 HK'; simp only [List.cons_append, List.nil_append] at HK'; replace HK := HK'; clear HK'))
  go_loopw [4, 5] (fun v4 v5 wr => ∃ (k xs xl xm : Nat), k ≤ n ∧ v4 = .int .i64 k ∧ v5 = .int .i64 k ∧ k ≤ 200 ∧ Hid (Mt.mf (l.take k) = ⟨k, xs, xl, xm⟩) ∧ Hid (Kn w.heap.size w wr [(g3, 24, mC k xs xl xm)] [])) (fun _ v5 _ => n - (intOf v5).toNat)
  case atStart => exact ⟨0, 0, 0, 0, Nat.zero_le _, rfl, rfl, by decide, Lib.hid rfl, HK⟩
  case round =>
    clear HK
    obtain ⟨k, xs, xl, xm, hkn, rfl, rfl, hk200, HM, HK⟩ := hrel
    have hk1 : (0 : Int) ≤ (k : Int) := by omega
    have hk3 : k < 9223372036854775807 := by omega
    have hinv := HI.out k (by rw [hlen.out]; exact hkn)
    rw [HM.out] at hinv
    have HInv := Lib.hid hinv
    have hle : (l.take k).length = k := by rw [List.length_take, hlen.out]; omega
    clear hinv
    by_cases hgo : k < n ∧ k < 200
    case neg =>
      as_aux_lemma =>
        have hout : k = n ∨ (k < n ∧ 200 ≤ k) := by omega
        have HR := Lib.hid (fun W => mright_any ⟨k, xs, xl, xm⟩ HInv.out.fit W)
        rw [decide_eq_true HInv.out.ok] at HR
        have HHit : Hid ((decide (k = 0) || Mt.hitB (l.take k) xl) = true ∧ (decide (k = 0) || Mt.hitB (l.take k) xm) = true) := Lib.hid (by
          have h := HInv.out.hits
          rw [hle] at h
          exact h)
        unfold IsB at HR
        clear hgo HI HM hlen hle
        rcases hout with hkn2 | ⟨hlt, h200⟩
        · obtain rfl := hkn2
          obtain ⟨zb, hz, hzb⟩ : ∃ zb, ((k : Int) == 0) = zb ∧ decide (k = 0) = zb := ⟨_, rfl, by rw [Bool.eq_iff_iff, beq_iff_eq, decide_eq_true_eq]; omega⟩
          have HZb := Lib.hid hzb
          clear hzb
          go_wp2_with fail
          clear hz
          go_loopw [8, 9, 10] (fun v8 v9 v10 wi => ∃ (j : Nat) (b8 b9 : Bool), j ≤ k ∧ v8 = .bool b8 ∧ v9 = .bool b9 ∧ v10 = .int .i64 j ∧ Hid (b8 = (zb || Mt.hitB (l.take j) xl)) ∧ Hid (b9 = (zb || Mt.hitB (l.take j) xm)) ∧ Hid (Kn w.heap.size w wi [(g3, 24, mC k xs xl xm)] [])) (fun _ _ v10 _ => k - (intOf v10).toNat)
          case atStart => exact ⟨0, zb, zb, Nat.zero_le _, rfl, rfl, rfl, Lib.hid (by simp [Mt.hitB]), Lib.hid (by simp [Mt.hitB]), HK⟩
          case round =>
            clear HK
            obtain ⟨j, b8, b9, hjk, rfl, rfl, rfl, H8, H9, HK⟩ := hrel
            have hj1 : (0 : Int) ≤ (j : Int) := by omega
            have hj3 : j < 9223372036854775807 := by omega
            by_cases hjlt : j < k
            case pos =>
              have hj2 : (j : Int) < (k : Int) := by omega
              have hjn : j < k := hjlt
              obtain ⟨z, hz, hz64⟩ := HS.out.get hjn
              obtain ⟨b, o, rfl, hat⟩ := HS.out.uat (Nat.lt_of_le_of_lt (Nat.zero_le _) hjn)
              have HX : Hid (∀ W, Below w.heap.size w W → W.cell? ⟨b, o + j, none⟩ = some (.int .u64 (z : Int))) := Lib.hid (fun W hW => hat W hW j z hz)
              have hmem : z ∈ l.take k := by
                have h1 : (l.take k)[j]? = some z := by rw [List.getElem?_take]; rw [if_pos hjlt]; exact hz
                exact List.mem_of_getElem? h1
              have hcm := HInv.out.cmps hmem
              have HS8 := Lib.hid (Mt.hitB_take hz xl)
              have HS9 := Lib.hid (Mt.hitB_take hz xm)
              have HMk := Lib.hid (fun W => rmake_any z W hz64)
              have HC1 := Lib.hid (fun W => rcmp_any xl (Num.M z) W HInv.out.fit.2.2.1 (Num.M_lt hz64))
              have HC2 := Lib.hid (fun W => rcmp_any xm (Num.M z) W HInv.out.fit.2.2.2 (Num.M_lt hz64))
              have hc1 : ¬ 0 < Num.cmp xl (Num.M z) := by have h1 : Num.cmp xl (Num.M z) ≤ 0 := hcm.1; omega
              have hc2 : ¬ Num.cmp xm (Num.M z) < 0 := by have h1 : 0 ≤ Num.cmp xm (Num.M z) := hcm.2; omega
              generalize Num.M z = t at *
              generalize Num.cmp xl t = c1 at *
              generalize Num.cmp xm t = c2 at *
              obtain ⟨e8, he8⟩ : ∃ e8, ((t : Int) == (xl : Int)) = e8 := ⟨_, rfl⟩
              obtain ⟨e9, he9⟩ : ∃ e9, ((t : Int) == (xm : Int)) = e9 := ⟨_, rfl⟩
              rw [he8] at HS8
              rw [he9] at HS9
              have T8 : Hid ((b8 || e8) = (zb || Mt.hitB (l.take (j + 1)) xl)) := Lib.hid (by rw [HS8.out, H8.out, Bool.or_assoc])
              have T9 : Hid ((b9 || e9) = (zb || Mt.hitB (l.take (j + 1)) xm)) := Lib.hid (by rw [HS9.out, H9.out, Bool.or_assoc])
              clear hat hz hz64 hmem hcm HS8 HS9 HAw HS HInv H8 H9 HR
              have kx := HX.out _ HK.out.b
              go_wp2_with fail
              refine (HMk.out _).mono ?_; rintro e w1 ⟨rfl, rfl⟩
              have k2 := HK.out.cell 0 rfl 2 (v := .int .u64 (xl : Int)) rfl
              have k3 := HK.out.cell 0 rfl 3 (v := .int .u64 (xm : Int)) rfl
              go_wp2_with fail
              refine (HC1.out _).mono ?_; rintro e w1 ⟨rfl, rfl⟩
              go_wp2_with fail
              refine (HC2.out _).mono ?_; rintro e w1 ⟨rfl, rfl⟩
              clear HMk HC1 HC2 HX
              cases b8 <;> cases b9
              all_goals
                go_wp2_with (first | refine wpList_exe (exec_add1 (j := j) _ (by rfl) (by rfl) hj3) (by rfl) ?_)
                exact ⟨⟨j + 1, _, _, hjlt, rfl, rfl, rfl, T8, T9, HK⟩, by simp [intOf]; omega⟩
            case neg =>
              obtain rfl : j = k := by omega
              obtain rfl : b8 = true := by rw [H8.out, ← HZb.out]; exact HHit.out.1
              obtain rfl : b9 = true := by rw [H9.out, ← HZb.out]; exact HHit.out.2
              clear H8 H9 HS HInv HZb HHit
              go_wp2_with fail
              refine (HAw.out _).mono ?_; rintro e w1 ⟨rfl, b1⟩
              replace HK := Lib.hid (HK.out.call b1); clear b1
              have k0 := HK.out.cell 0 rfl 0 (v := .int .i64 (j : Int)) rfl
              have k1 := HK.out.cell 0 rfl 1 (v := .int .u64 (xs : Int)) rfl
              have k2 := HK.out.cell 0 rfl 2 (v := .int .u64 (xl : Int)) rfl
              have k3 := HK.out.cell 0 rfl 3 (v := .int .u64 (xm : Int)) rfl
              go_wp2_with fail
              refine (HR.out _).mono ?_; rintro e w1 ⟨rfl, b1⟩
              replace HK := Lib.hid (HK.out.call b1); clear b1
              go_wp2_with fail
              go_ret
              exact ⟨rfl, HK.out.b⟩
        · have hk2 : (k : Int) < (n : Int) := by omega
          have hk62 : ¬ (k : Int) < 200 := by omega
          obtain ⟨zb, hz, hzb⟩ : ∃ zb, ((k : Int) == 0) = zb ∧ decide (k = 0) = zb := ⟨_, rfl, by rw [Bool.eq_iff_iff, beq_iff_eq, decide_eq_true_eq]; omega⟩
          have HZb := Lib.hid hzb
          clear hzb
          go_wp2_with fail
          clear hz
          go_loopw [8, 9, 10] (fun v8 v9 v10 wi => ∃ (j : Nat) (b8 b9 : Bool), j ≤ k ∧ v8 = .bool b8 ∧ v9 = .bool b9 ∧ v10 = .int .i64 j ∧ Hid (b8 = (zb || Mt.hitB (l.take j) xl)) ∧ Hid (b9 = (zb || Mt.hitB (l.take j) xm)) ∧ Hid (Kn w.heap.size w wi [(g3, 24, mC k xs xl xm)] [])) (fun _ _ v10 _ => k - (intOf v10).toNat)
          case atStart => exact ⟨0, zb, zb, Nat.zero_le _, rfl, rfl, rfl, Lib.hid (by simp [Mt.hitB]), Lib.hid (by simp [Mt.hitB]), HK⟩
          case round =>
            clear HK
            obtain ⟨j, b8, b9, hjk, rfl, rfl, rfl, H8, H9, HK⟩ := hrel
            have hj1 : (0 : Int) ≤ (j : Int) := by omega
            have hj3 : j < 9223372036854775807 := by omega
            by_cases hjlt : j < k
            case pos =>
              have hj2 : (j : Int) < (k : Int) := by omega
              have hjn : j < n := by omega
              have hjn2 : (j : Int) < (n : Int) := by omega
              obtain ⟨z, hz, hz64⟩ := HS.out.get hjn
              obtain ⟨b, o, rfl, hat⟩ := HS.out.uat (Nat.lt_of_le_of_lt (Nat.zero_le _) hjn)
              have HX : Hid (∀ W, Below w.heap.size w W → W.cell? ⟨b, o + j, none⟩ = some (.int .u64 (z : Int))) := Lib.hid (fun W hW => hat W hW j z hz)
              have hmem : z ∈ l.take k := by
                have h1 : (l.take k)[j]? = some z := by rw [List.getElem?_take]; rw [if_pos hjlt]; exact hz
                exact List.mem_of_getElem? h1
              have hcm := HInv.out.cmps hmem
              have HS8 := Lib.hid (Mt.hitB_take hz xl)
              have HS9 := Lib.hid (Mt.hitB_take hz xm)
              have HMk := Lib.hid (fun W => rmake_any z W hz64)
              have HC1 := Lib.hid (fun W => rcmp_any xl (Num.M z) W HInv.out.fit.2.2.1 (Num.M_lt hz64))
              have HC2 := Lib.hid (fun W => rcmp_any xm (Num.M z) W HInv.out.fit.2.2.2 (Num.M_lt hz64))
              have hc1 : ¬ 0 < Num.cmp xl (Num.M z) := by have h1 : Num.cmp xl (Num.M z) ≤ 0 := hcm.1; omega
              have hc2 : ¬ Num.cmp xm (Num.M z) < 0 := by have h1 : 0 ≤ Num.cmp xm (Num.M z) := hcm.2; omega
              generalize Num.M z = t at *
              generalize Num.cmp xl t = c1 at *
              generalize Num.cmp xm t = c2 at *
              obtain ⟨e8, he8⟩ : ∃ e8, ((t : Int) == (xl : Int)) = e8 := ⟨_, rfl⟩
              obtain ⟨e9, he9⟩ : ∃ e9, ((t : Int) == (xm : Int)) = e9 := ⟨_, rfl⟩
              rw [he8] at HS8
              rw [he9] at HS9
              have T8 : Hid ((b8 || e8) = (zb || Mt.hitB (l.take (j + 1)) xl)) := Lib.hid (by rw [HS8.out, H8.out, Bool.or_assoc])
              have T9 : Hid ((b9 || e9) = (zb || Mt.hitB (l.take (j + 1)) xm)) := Lib.hid (by rw [HS9.out, H9.out, Bool.or_assoc])
              clear hat hz hz64 hmem hcm HS8 HS9 HAw HS HInv H8 H9 HR
              have kx := HX.out _ HK.out.b
              go_wp2_with fail
              refine (HMk.out _).mono ?_; rintro e w1 ⟨rfl, rfl⟩
              have k2 := HK.out.cell 0 rfl 2 (v := .int .u64 (xl : Int)) rfl
              have k3 := HK.out.cell 0 rfl 3 (v := .int .u64 (xm : Int)) rfl
              go_wp2_with fail
              refine (HC1.out _).mono ?_; rintro e w1 ⟨rfl, rfl⟩
              go_wp2_with fail
              refine (HC2.out _).mono ?_; rintro e w1 ⟨rfl, rfl⟩
              clear HMk HC1 HC2 HX
              cases b8 <;> cases b9
              all_goals
                go_wp2_with (first | refine wpList_exe (exec_add1 (j := j) _ (by rfl) (by rfl) hj3) (by rfl) ?_)
                exact ⟨⟨j + 1, _, _, hjlt, rfl, rfl, rfl, T8, T9, HK⟩, by simp [intOf]; omega⟩
            case neg =>
              obtain rfl : j = k := by omega
              obtain rfl : b8 = true := by rw [H8.out, ← HZb.out]; exact HHit.out.1
              obtain rfl : b9 = true := by rw [H9.out, ← HZb.out]; exact HHit.out.2
              clear H8 H9 HS HInv HZb HHit
              go_wp2_with fail
              refine (HAw.out _).mono ?_; rintro e w1 ⟨rfl, b1⟩
              replace HK := Lib.hid (HK.out.call b1); clear b1
              have k0 := HK.out.cell 0 rfl 0 (v := .int .i64 (j : Int)) rfl
              have k1 := HK.out.cell 0 rfl 1 (v := .int .u64 (xs : Int)) rfl
              have k2 := HK.out.cell 0 rfl 2 (v := .int .u64 (xl : Int)) rfl
              have k3 := HK.out.cell 0 rfl 3 (v := .int .u64 (xm : Int)) rfl
              go_wp2_with fail
              refine (HR.out _).mono ?_; rintro e w1 ⟨rfl, b1⟩
              replace HK := Lib.hid (HK.out.call b1); clear b1
              go_wp2_with fail
              go_ret
              exact ⟨rfl, HK.out.b⟩
    case pos =>
    obtain ⟨hlt, hlt200⟩ := hgo
    have hk2 : (k : Int) < (n : Int) := by omega
    have hk62 : (k : Int) < 200 := by omega
    obtain ⟨x, hx, hx64⟩ := HS.out.get hlt
    obtain ⟨b, o, rfl, hat⟩ := HS.out.uat (Nat.lt_of_le_of_lt (Nat.zero_le _) hlt)
    have HX : Hid (∀ W, Below w.heap.size w W → W.cell? ⟨b, o + k, none⟩ = some (.int .u64 (x : Int))) := Lib.hid (fun W hW => hat W hW k x hx)
    have HA := Lib.hid (fun W => madd_any ⟨k, xs, xl, xm⟩ HInv.out.fit x hx64 W)
    rw [HInv.out.noErr (by rw [hle]; exact hk3)] at HA
    have hst := Mt.mf_take hx
    rw [HM.out] at hst
    rw [← hst] at HA
    have hinv2 := HI.out (k + 1) (by rw [hlen.out]; exact hlt)
    have hn2 := hinv2.n
    have hle2 : (l.take (k + 1)).length = k + 1 := by rw [List.length_take, hlen.out]; omega
    rw [hle2] at hn2
    rcases hy : Mt.mf (l.take (k + 1)) with ⟨yn, ys, yl, ym⟩
    rw [hy] at HA hn2
    obtain rfl : yn = ((k + 1 : Nat) : Int) := hn2
    have HY := Lib.hid hy
    unfold IsMe at HA
    clear hat hx hx64 HAw HS HI hinv2 hle hle2 hst HM hy HInv
    go_wp2_with fail
    have HK0 := Lib.hid HK.out.drew
    clear HK
    refine wp_region_held_drew (S := (fun W => Hid (Kn w.heap.size w W [(g3, 24, mC k xs xl xm)] []))) (by kernel_rfl) ?_ (fun hHeld => ?_)
    · (try dsimp only); exact HK0
    refine wpAnyH_take (i := 0) (oi := ⟨some 23, _, _, _, _, _⟩) (v := ?_) rfl (by kernel_rfl) (by kernel_rfl) (by kernel_rfl) (fun _ _ _ h => h) (Or.inl ⟨by rfl, ?_⟩) (by assumption) ?_
    rotate_left
    · (intro w hSw; refine Eq.trans (kexec_lm hSw 0 _ (by rfl) (by rfl) (by rfl)) ?_; with_reducible rfl)
    try simp only [Act.put, List.setIfInBounds_toArray, List.set_cons_zero, List.set_cons_succ]
    refine wpAnyH_take (i := 1) (oi := ⟨some 24, _, _, _, _, _⟩) (v := ?_) rfl (by kernel_rfl) (by kernel_rfl) (by kernel_rfl) (fun _ _ _ h => h) (Or.inl ⟨by rfl, ?_⟩) (by assumption) ?_
    rotate_left
    · (intro w hSw; (try dsimp only at hSw); go_simp; try with_reducible rfl)
    try simp only [Act.put, List.setIfInBounds_toArray, List.set_cons_zero, List.set_cons_succ]
    refine wpAnyH_take (i := 2) (oi := ⟨some 25, _, _, _, _, _⟩) (v := ?_) rfl (by kernel_rfl) (by kernel_rfl) (by kernel_rfl) (fun _ _ _ h => h) (Or.inl ⟨by rfl, ?_⟩) (by assumption) ?_
    rotate_left
    · (intro w hSw; (try dsimp only at hSw); go_simp; try with_reducible rfl)
    try simp only [Act.put, List.setIfInBounds_toArray, List.set_cons_zero, List.set_cons_succ]
    refine wpAnyH_take (i := 3) (oi := ⟨some 26, _, _, _, _, _⟩) (v := ?_) rfl (by kernel_rfl) (by kernel_rfl) (by kernel_rfl) (fun _ _ _ h => h) (Or.inl ⟨by rfl, ?_⟩) (by assumption) ?_
    rotate_left
    · (intro w hSw; refine Eq.trans (exec_ixu (i := k) _ _ (by rfl) (by rfl) (by rfl) hlt) ?_; with_reducible rfl)
    try simp only [Act.put, List.setIfInBounds_toArray, List.set_cons_zero, List.set_cons_succ]
    refine wpAnyH_take (i := 4) (oi := ⟨some 27, _, _, _, _, _⟩) (v := ?_) rfl (by kernel_rfl) (by kernel_rfl) (by kernel_rfl) (fun _ _ _ h => h) (Or.inl ⟨by rfl, ?_⟩) (by assumption) ?_
    rotate_left
    · (intro w hSw; refine Eq.trans (exec_lu (x := x) _ (by rfl) (by rfl) (HX.out _ hSw.out.b)) ?_; with_reducible rfl)
    try simp only [Act.put, List.setIfInBounds_toArray, List.set_cons_zero, List.set_cons_succ]
    refine wpAnyH_ready (rs := [5, 9]) (by kernel_rfl) (by simp) ?_
    refine AllReadyH.cons (o := ⟨some 28, _, _, _, _, _⟩) rfl (fun K hK => ?_) (AllReadyH.cons (o := ⟨some 6, _, _, _, _, _⟩) rfl (fun K hK => ?_) AllReadyH.nil)
    go_simp
    go_at_call 7
    refine (HA.out _).mono ?_; rintro e w5 ⟨rfl, b5⟩; have hs := Lib.hid (hHeld.out.call b5); replace HK0 := Lib.hid (HK0.out.call b5); clear b5
    refine hK.out _ _ hs (fun hHeld => ?_)
    clear hK K
    try simp only [Act.put, List.setIfInBounds_toArray, List.set_cons_zero, List.set_cons_succ]
    refine wpAnyH_take (i := 6) (oi := ⟨some 22, _, _, _, _, _⟩) (v := ?_) rfl (by kernel_rfl) (by kernel_rfl) (by kernel_rfl) (fun _ _ _ h => h) (Or.inl ⟨by rfl, ?_⟩) (by assumption) ?_
    rotate_left
    · (intro w hSw; (try dsimp only at hSw); go_simp; try with_reducible rfl)
    try simp only [Act.put, List.setIfInBounds_toArray, List.set_cons_zero, List.set_cons_succ]
    refine wpAnyH_take (i := 7) (oi := ⟨some 29, _, _, _, _, _⟩) (v := ?_) rfl (by kernel_rfl) (by kernel_rfl) (by kernel_rfl) (fun _ _ _ h => h) (Or.inl ⟨by rfl, ?_⟩) (by assumption) ?_
    rotate_left
    · (intro w hSw; (try dsimp only at hSw); go_simp; try with_reducible rfl)
    try simp only [Act.put, List.setIfInBounds_toArray, List.set_cons_zero, List.set_cons_succ]
    refine wpAnyH_take (i := 8) (oi := ⟨some 30, _, _, _, _, _⟩) (v := ?_) rfl (by kernel_rfl) (by kernel_rfl) (by kernel_rfl) (fun _ _ _ h => h) (Or.inl ⟨by rfl, ?_⟩) (by assumption) ?_
    rotate_left
    · (intro w hSw; (try dsimp only at hSw); go_simp; try with_reducible rfl)
    try simp only [Act.put, List.setIfInBounds_toArray, List.set_cons_zero, List.set_cons_succ]
    refine wpAnyH_ready (rs := [9]) (by kernel_rfl) (by simp) ?_
    refine AllReadyH.cons (o := ⟨some 6, _, _, _, _, _⟩) rfl (fun K hK => ?_) AllReadyH.nil
    refine step_akm HK0 (by rfl) (by rfl) ?_; intro w6 g6 HK'; simp only [List.cons_append, List.nil_append] at HK'; replace HK0 := HK'; clear HK'; have hs := Lib.hid (HK0.out.takeL 1)
    refine hK.out _ _ hs (fun hHeld => ?_)
    clear hK K
    try simp only [Act.put, List.setIfInBounds_toArray, List.set_cons_zero, List.set_cons_succ]
    refine wpAnyH_ready (rs := [10]) (by kernel_rfl) (by simp) ?_
    refine AllReadyH.cons (o := ⟨none, _, _, _, _, _⟩) rfl (fun K hK => ?_) AllReadyH.nil
    refine step_sm HK0 1 (by rfl) _ _ (by rfl) (by rfl) (by rfl) (by rfl) ?_; intro w7 HK'; simp only [List.set] at HK'; replace HK0 := HK'; clear HK'; have hs := Lib.hid (HK0.out.takeL 1)
    refine hK.out _ _ hs (fun hHeld => ?_)
    clear hK K
    try simp only [Act.put, List.setIfInBounds_toArray, List.set_cons_zero, List.set_cons_succ]
    refine wpAnyH_take (i := 11) (oi := ⟨some 7, _, _, _, _, _⟩) (v := ?_) rfl (by kernel_rfl) (by kernel_rfl) (by kernel_rfl) (fun _ _ _ h => h) (Or.inl ⟨by rfl, ?_⟩) (by assumption) ?_
    rotate_left
    · (intro w hSw; (try dsimp only at hSw); go_simp; try with_reducible rfl)
    try simp only [Act.put, List.setIfInBounds_toArray, List.set_cons_zero, List.set_cons_succ]
    refine wpAnyH_done (by kernel_rfl) ?_ _
    rotate_left
    refine step_akm HK0 (by rfl) (by rfl) ?_; intro w6 g6 HK'; simp only [List.cons_append, List.nil_append] at HK'; replace HK0 := HK'; clear HK'; have hs := Lib.hid (HK0.out.takeL 1)
    refine hK.out _ _ hs (fun hHeld => ?_)
    clear hK K
    try simp only [Act.put, List.setIfInBounds_toArray, List.set_cons_zero, List.set_cons_succ]
    refine wpAnyH_ready (rs := [5]) (by kernel_rfl) (by simp) ?_
    refine AllReadyH.cons (o := ⟨some 28, _, _, _, _, _⟩) rfl (fun K hK => ?_) AllReadyH.nil
    go_simp
    go_at_call 7
    refine (HA.out _).mono ?_; rintro e w5 ⟨rfl, b5⟩; have hs := Lib.hid (hHeld.out.call b5); replace HK0 := Lib.hid (HK0.out.call b5); clear b5
    refine hK.out _ _ hs (fun hHeld => ?_)
    clear hK K
    try simp only [Act.put, List.setIfInBounds_toArray, List.set_cons_zero, List.set_cons_succ]
    refine wpAnyH_take (i := 6) (oi := ⟨some 22, _, _, _, _, _⟩) (v := ?_) rfl (by kernel_rfl) (by kernel_rfl) (by kernel_rfl) (fun _ _ _ h => h) (Or.inl ⟨by rfl, ?_⟩) (by assumption) ?_
    rotate_left
    · (intro w hSw; (try dsimp only at hSw); go_simp; try with_reducible rfl)
    try simp only [Act.put, List.setIfInBounds_toArray, List.set_cons_zero, List.set_cons_succ]
    refine wpAnyH_take (i := 7) (oi := ⟨some 29, _, _, _, _, _⟩) (v := ?_) rfl (by kernel_rfl) (by kernel_rfl) (by kernel_rfl) (fun _ _ _ h => h) (Or.inl ⟨by rfl, ?_⟩) (by assumption) ?_
    rotate_left
    · (intro w hSw; (try dsimp only at hSw); go_simp; try with_reducible rfl)
    try simp only [Act.put, List.setIfInBounds_toArray, List.set_cons_zero, List.set_cons_succ]
    refine wpAnyH_take (i := 8) (oi := ⟨some 30, _, _, _, _, _⟩) (v := ?_) rfl (by kernel_rfl) (by kernel_rfl) (by kernel_rfl) (fun _ _ _ h => h) (Or.inl ⟨by rfl, ?_⟩) (by assumption) ?_
    rotate_left
    · (intro w hSw; (try dsimp only at hSw); go_simp; try with_reducible rfl)
    try simp only [Act.put, List.setIfInBounds_toArray, List.set_cons_zero, List.set_cons_succ]
    refine wpAnyH_ready (rs := [10]) (by kernel_rfl) (by simp) ?_
    refine AllReadyH.cons (o := ⟨none, _, _, _, _, _⟩) rfl (fun K hK => ?_) AllReadyH.nil
    refine step_sm HK0 1 (by rfl) _ _ (by rfl) (by rfl) (by rfl) (by rfl) ?_; intro w7 HK'; simp only [List.set] at HK'; replace HK0 := HK'; clear HK'; have hs := Lib.hid (HK0.out.takeL 1)
    refine hK.out _ _ hs (fun hHeld => ?_)
    clear hK K
    try simp only [Act.put, List.setIfInBounds_toArray, List.set_cons_zero, List.set_cons_succ]
    refine wpAnyH_take (i := 11) (oi := ⟨some 7, _, _, _, _, _⟩) (v := ?_) rfl (by kernel_rfl) (by kernel_rfl) (by kernel_rfl) (fun _ _ _ h => h) (Or.inl ⟨by rfl, ?_⟩) (by assumption) ?_
    rotate_left
    · (intro w hSw; (try dsimp only at hSw); go_simp; try with_reducible rfl)
    try simp only [Act.put, List.setIfInBounds_toArray, List.set_cons_zero, List.set_cons_succ]
    refine wpAnyH_done (by kernel_rfl) ?_ _
    rotate_left
    all_goals
      have HK := HK0
      clear HK0 hHeld HA HX
      go_wp2_with (first | refine wpList_exe (kexec_lm HK 1 (.tmp 6) (by rfl) (by rfl) (by rfl)) (by rfl) ?_ | (refine wpList_sm HK 0 rfl _ _ rfl rfl rfl rfl ?_; intro _ HK'; simp only [List.set] at HK'; replace HK := HK'; clear HK') | refine wpList_exe (exec_add1 (j := k) _ (by rfl) (by rfl) hk3) (by rfl) ?_)
      exact ⟨⟨k + 1, ys, yl, ym, hlt, rfl, rfl, by omega, HY, Lib.hid (HK.out.takeL 1)⟩, by simp [intOf]; omega⟩
end Go.Proofs.Ytbaaoenmnmpfjaa
