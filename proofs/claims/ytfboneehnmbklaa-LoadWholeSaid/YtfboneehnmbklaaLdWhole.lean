/-
  All bytes of a load, one piece behind the other: what Whole and the document's own return.
  No condition but what the slices read as, and how long all bytes are.
-/
import Derived.Test.YtfboneehnmbklaaLdMiss
import Derived.Test.YtfboneehnmbklaaLdJoin
import Derived.Test.YtfboneehnmbklaaCrcWalks
set_option linter.unusedSimpArgs false
set_option linter.unusedVariables false
namespace Go.Proofs.Ytfboneehnmbklaa
open Go.RowKit

set_option maxRecDepth 100000 in
set_option maxHeartbeats 3200000 in
theorem lwhole_any (l : Ldd) (A : Option Addr) (n c : Nat) (A2 : Option Addr) (n2 c2 : Nat) (w : World) (h1 : Sls bLay bF w A n c l.h) (h2 : Sls sLay sF w A2 n2 c2 l.d) (hc : (Ldm.cat l.d).length ≤ 140737488355328) :
    Calls Try.prog 17 #[.agg #[.int .i64 l.n, .int .i64 l.t, .int .u32 (l.s : Int), .slice A n c, .slice A2 n2 c2]] w (IsSE (Ldm.wh l) (Ldm.whE l) w) := by
  have HM := Lib.hid (fun W (hW : Below w.heap.size w W) => lmiss_any l A n c A2 n2 c2 W (h1.later hW) h2.len)
  have HJ := Lib.hid (fun W (hW : Below w.heap.size w W) => ljoin_any A2 n2 c2 l.d W (h2.later hW) hc)
  have HC := Lib.hid (fun W => sum_any ⟨(Ldm.cat l.d).toArray⟩ W (by show (Ldm.cat l.d).length ≤ maxLen; unfold maxLen; omega))
  have HK := kn1 w 35 (ldC l.n l.t l.s (.slice A n c) (.slice A2 n2 c2))
  clear h1 h2
  unfold IsI at HM
  unfold IsSE
  by_cases hm : Ldm.ms l = -1
  case neg =>
    have e1 : Ldm.wh l = ⟨#[]⟩ := by unfold Ldm.wh; rw [if_pos hm]
    have e2 : Ldm.whE l = 5 := by unfold Ldm.whE; rw [if_pos hm]
    have hz : (Ldm.ms l != -1) = true := by simpa using hm
    rw [e1, e2]
    clear e1 e2 hm hc HJ HC
    generalize Ldm.ms l = z at *
    obtain ⟨m, t, s, lh, ld⟩ := l
    simp only at *
    go_enter Try.func17, Try.ntmps17
    go_wp2_with (first | refine wpList_exe (kl_l HK 0 _ (by rfl) (by rfl) (by rfl)) (by rfl) ?_)
    refine (HM.out _ HK.out.b).mono ?_; rintro e w1 ⟨rfl, b1⟩
    replace HK := Lib.hid (HK.out.call b1); clear b1
    go_wp2_with fail
    exact ret_t2 Try.results17 rfl rfl rfl ⟨rfl, HK.out.b⟩
  case pos =>
    have hz : (Ldm.ms l != -1) = false := by rw [hm]; rfl
    rw [hm] at HM
    clear hz
    by_cases hs : Crc.more 0 (Ldm.cat l.d) = l.s
    · have e1 : Ldm.wh l = ⟨(Ldm.cat l.d).toArray⟩ := by unfold Ldm.wh; rw [if_neg (fun h => h hm), if_pos hs]
      have e2 : Ldm.whE l = 0 := by unfold Ldm.whE; rw [if_neg (fun h => h hm), if_pos hs]
      have HC2 : Hid (∀ W, Calls Try.prog 25 #[.string ⟨(Ldm.cat l.d).toArray⟩] W fun e w' => e = .returned (.int .u32 (l.s : Int)) ∧ W = w') := Lib.hid (fun W => hs ▸ HC.out W)
      rw [e1, e2]
      clear e1 e2 hm hc HC hs
      obtain ⟨m, t, s, lh, ld⟩ := l
      simp only at *
      generalize (Ldm.cat ld).toArray = S at *
      go_enter Try.func17, Try.ntmps17
      go_wp2_with (first | refine wpList_exe (kl_l HK 0 _ (by rfl) (by rfl) (by rfl)) (by rfl) ?_)
      refine (HM.out _ HK.out.b).mono ?_; rintro e w1 ⟨rfl, b1⟩
      replace HK := Lib.hid (HK.out.call b1); clear b1
      go_wp2_with (first | refine wpList_exe (kl_d_ HK 0 _ (by rfl) (by rfl) (by rfl)) (by rfl) ?_)
      refine (HJ.out _ HK.out.b).mono ?_; rintro e w2 ⟨rfl, b1⟩
      replace HK := Lib.hid (HK.out.call b1); clear b1
      go_wp2_with fail
      have HK0 := Lib.hid HK.out.drew
      clear HK HM HJ
      refine wp_region_held_drew (S := (fun W => Hid (Kn w.heap.size w W [(w.heap.size, 35, ldC m t s (.slice A n c) (.slice A2 n2 c2))] []))) (by kernel_rfl) ?_ (fun hHeld => ?_)
      · (try dsimp only); exact HK0
      refine wpAnyH_take (i := 0) (oi := ⟨some 11, _, _, _, _, _⟩) (v := ?_) rfl (by kernel_rfl) (by kernel_rfl) (by kernel_rfl) (fun _ _ _ h => h) (Or.inl ⟨by rfl, ?_⟩) (by assumption) ?_
      rotate_left
      · (intro w hSw; (try dsimp only at hSw); go_simp; try with_reducible rfl)
      try simp only [Act.put, List.setIfInBounds_toArray, List.set_cons_zero, List.set_cons_succ]
      refine wpAnyH_take (i := 2) (oi := ⟨some 13, _, _, _, _, _⟩) (v := ?_) rfl (by kernel_rfl) (by kernel_rfl) (by kernel_rfl) (fun _ _ _ h => h) (Or.inl ⟨by rfl, ?_⟩) (by assumption) ?_
      rotate_left
      · (intro w hSw; (try dsimp only at hSw); go_simp; try with_reducible rfl)
      try simp only [Act.put, List.setIfInBounds_toArray, List.set_cons_zero, List.set_cons_succ]
      refine wpAnyH_take (i := 3) (oi := ⟨some 14, _, _, _, _, _⟩) (v := ?_) rfl (by kernel_rfl) (by kernel_rfl) (by kernel_rfl) (fun _ _ _ h => h) (Or.inl ⟨by rfl, ?_⟩) (by assumption) ?_
      rotate_left
      · (intro w hSw; refine Eq.trans (kl_s_ hSw 0 _ (by rfl) (by rfl) (by rfl)) ?_; with_reducible rfl)
      try simp only [Act.put, List.setIfInBounds_toArray, List.set_cons_zero, List.set_cons_succ]
      refine wpAnyH_ready (rs := [1]) (by kernel_rfl) (by simp) ?_
      refine AllReadyH.cons (o := ⟨some 12, _, _, _, _, _⟩) rfl (fun K hK => ?_) AllReadyH.nil
      go_simp
      go_at_call 25
      refine (HC2.out _).mono ?_; rintro e w5 ⟨rfl, rfl⟩; have hs := hHeld
      refine hK.out _ _ hs (fun hHeld => ?_)
      clear hK K
      try simp only [ap1, ap2, ap3, ap4, ap5]
      refine wpAnyH_take (i := 4) (oi := ⟨some 15, _, _, _, _, _⟩) (v := ?_) rfl (by kernel_rfl) (by kernel_rfl) (by kernel_rfl) (fun _ _ _ h => h) (Or.inl ⟨by rfl, ?_⟩) (by assumption) ?_
      rotate_left
      · (intro w hSw; (try dsimp only at hSw); go_simp; try with_reducible rfl)
      try simp only [Act.put, List.setIfInBounds_toArray, List.set_cons_zero, List.set_cons_succ]
      refine wpAnyH_done (by kernel_rfl) ?_ _
      all_goals
        go_wp2_with fail
        exact ret_t2 Try.results17 rfl rfl rfl ⟨rfl, hHeld.out.b⟩
    · have e1 : Ldm.wh l = ⟨#[]⟩ := by unfold Ldm.wh; rw [if_neg (fun h => h hm), if_neg hs]
      have e2 : Ldm.whE l = 4 := by unfold Ldm.whE; rw [if_neg (fun h => h hm), if_neg hs]
      have HC2 : Hid (∀ W, Calls Try.prog 25 #[.string ⟨(Ldm.cat l.d).toArray⟩] W fun e w' => e = .returned (.int .u32 (Crc.more 0 (Ldm.cat l.d) : Nat)) ∧ W = w') := Lib.hid (fun W => HC.out W)
      have hz : (((Crc.more 0 (Ldm.cat l.d) : Nat) : Int) != (l.s : Int)) = true := by simp; omega
      rw [e1, e2]
      clear e1 e2 hm hc HC hs
      obtain ⟨m, t, s, lh, ld⟩ := l
      simp only at *
      generalize Crc.more 0 (Ldm.cat ld) = z at *
      generalize (Ldm.cat ld).toArray = S at *
      go_enter Try.func17, Try.ntmps17
      go_wp2_with (first | refine wpList_exe (kl_l HK 0 _ (by rfl) (by rfl) (by rfl)) (by rfl) ?_)
      refine (HM.out _ HK.out.b).mono ?_; rintro e w1 ⟨rfl, b1⟩
      replace HK := Lib.hid (HK.out.call b1); clear b1
      go_wp2_with (first | refine wpList_exe (kl_d_ HK 0 _ (by rfl) (by rfl) (by rfl)) (by rfl) ?_)
      refine (HJ.out _ HK.out.b).mono ?_; rintro e w2 ⟨rfl, b1⟩
      replace HK := Lib.hid (HK.out.call b1); clear b1
      go_wp2_with fail
      have HK0 := Lib.hid HK.out.drew
      clear HK HM HJ
      refine wp_region_held_drew (S := (fun W => Hid (Kn w.heap.size w W [(w.heap.size, 35, ldC m t s (.slice A n c) (.slice A2 n2 c2))] []))) (by kernel_rfl) ?_ (fun hHeld => ?_)
      · (try dsimp only); exact HK0
      refine wpAnyH_take (i := 0) (oi := ⟨some 11, _, _, _, _, _⟩) (v := ?_) rfl (by kernel_rfl) (by kernel_rfl) (by kernel_rfl) (fun _ _ _ h => h) (Or.inl ⟨by rfl, ?_⟩) (by assumption) ?_
      rotate_left
      · (intro w hSw; (try dsimp only at hSw); go_simp; try with_reducible rfl)
      try simp only [Act.put, List.setIfInBounds_toArray, List.set_cons_zero, List.set_cons_succ]
      refine wpAnyH_take (i := 2) (oi := ⟨some 13, _, _, _, _, _⟩) (v := ?_) rfl (by kernel_rfl) (by kernel_rfl) (by kernel_rfl) (fun _ _ _ h => h) (Or.inl ⟨by rfl, ?_⟩) (by assumption) ?_
      rotate_left
      · (intro w hSw; (try dsimp only at hSw); go_simp; try with_reducible rfl)
      try simp only [Act.put, List.setIfInBounds_toArray, List.set_cons_zero, List.set_cons_succ]
      refine wpAnyH_take (i := 3) (oi := ⟨some 14, _, _, _, _, _⟩) (v := ?_) rfl (by kernel_rfl) (by kernel_rfl) (by kernel_rfl) (fun _ _ _ h => h) (Or.inl ⟨by rfl, ?_⟩) (by assumption) ?_
      rotate_left
      · (intro w hSw; refine Eq.trans (kl_s_ hSw 0 _ (by rfl) (by rfl) (by rfl)) ?_; with_reducible rfl)
      try simp only [Act.put, List.setIfInBounds_toArray, List.set_cons_zero, List.set_cons_succ]
      refine wpAnyH_ready (rs := [1]) (by kernel_rfl) (by simp) ?_
      refine AllReadyH.cons (o := ⟨some 12, _, _, _, _, _⟩) rfl (fun K hK => ?_) AllReadyH.nil
      go_simp
      go_at_call 25
      refine (HC2.out _).mono ?_; rintro e w5 ⟨rfl, rfl⟩; have hs := hHeld
      refine hK.out _ _ hs (fun hHeld => ?_)
      clear hK K
      try simp only [ap1, ap2, ap3, ap4, ap5]
      refine wpAnyH_take (i := 4) (oi := ⟨some 15, _, _, _, _, _⟩) (v := ?_) rfl (by kernel_rfl) (by kernel_rfl) (by kernel_rfl) (fun _ _ _ h => h) (Or.inl ⟨by rfl, ?_⟩) (by assumption) ?_
      rotate_left
      · (intro w hSw; (try dsimp only at hSw); go_simp; try with_reducible rfl)
      try simp only [Act.put, List.setIfInBounds_toArray, List.set_cons_zero, List.set_cons_succ]
      refine wpAnyH_done (by kernel_rfl) ?_ _
      all_goals
        go_wp2_with fail
        exact ret_t2 Try.results17 rfl rfl rfl ⟨rfl, hHeld.out.b⟩
set_option maxRecDepth 100000 in
set_option maxHeartbeats 3200000 in
theorem lrwhole_any (l : Ldd) (A : Option Addr) (n c : Nat) (A2 : Option Addr) (n2 c2 : Nat) (w : World) (h1 : Sls bLay bF w A n c l.h) (h2 : Sls sLay sF w A2 n2 c2 l.d) (hc : (Ldm.cat l.d).length ≤ 140737488355328) :
    Calls Try.prog 18 #[.agg #[.int .i64 l.n, .int .i64 l.t, .int .u32 (l.s : Int), .slice A n c, .slice A2 n2 c2]] w (IsSE (Ldm.wh l) (Ldm.whE l) w) := by
  have HM := Lib.hid (fun W (hW : Below w.heap.size w W) => lrmiss_any l A n c A2 n2 c2 W (h1.later hW) h2.len)
  have HC := Lib.hid (fun W => rsum_any ⟨(Ldm.cat l.d).toArray⟩ W (by show (Ldm.cat l.d).length ≤ maxLen; unfold maxLen; omega))
  have HS := Lib.hid h2
  have HK := kn1 w 35 (ldC l.n l.t l.s (.slice A n c) (.slice A2 n2 c2))
  unfold IsI at HM
  unfold IsSE
  by_cases hm : Ldm.ms l = -1
  case neg =>
    have e1 : Ldm.wh l = ⟨#[]⟩ := by unfold Ldm.wh; rw [if_pos hm]
    have e2 : Ldm.whE l = 5 := by unfold Ldm.whE; rw [if_pos hm]
    have hz : 0 ≤ Ldm.ms l := by
      unfold Ldm.ms at hm ⊢
      split
      · omega
      · rename_i h
        rw [if_neg h] at hm
        rcases Ldm.fi_told l.h with ⟨h1, _⟩ | ⟨k, h1, _⟩ <;> omega
    rw [e1, e2]
    clear e1 e2 hm hc HC HS h1 h2
    generalize Ldm.ms l = z at *
    obtain ⟨m, t, s, lh, ld⟩ := l
    simp only at *
    go_enter Try.func18, Try.ntmps18
    go_wp2_with (first | refine wpList_exe (kl_l HK 0 _ (by rfl) (by rfl) (by rfl)) (by rfl) ?_)
    refine (HM.out _ HK.out.b).mono ?_; rintro e w1 ⟨rfl, b1⟩
    replace HK := Lib.hid (HK.out.call b1); clear b1
    go_wp2_with fail
    exact ret_t2 Try.results18 rfl rfl rfl ⟨rfl, HK.out.b⟩
  case pos =>
    have hn2 : l.t = (n2 : Int) ∧ n2 ≤ 65536 := by
      unfold Ldm.ms at hm
      split at hm
      · omega
      · rename_i h
        have hl : Ldm.LR l := Classical.byContradiction fun q => h (.inr q)
        have a1 := hl.2.2.2
        have a2 := hl.2.1
        rw [h2.len] at a1
        omega
    obtain ⟨ht, hn6⟩ := hn2
    rw [hm] at HM
    have HT : Hid (l.d.take n2 = l.d) := Lib.hid (List.take_of_length_le (by rw [h2.len]; exact Nat.le_refl _))
    have HE : Hid (Crc.more 0 (Ldm.cat l.d) = l.s ∧ Ldm.wh l = ⟨(Ldm.cat l.d).toArray⟩ ∧ Ldm.whE l = 0 ∨ ¬ Crc.more 0 (Ldm.cat l.d) = l.s ∧ Ldm.wh l = ⟨#[]⟩ ∧ Ldm.whE l = 4) := Lib.hid (by
      by_cases hs : Crc.more 0 (Ldm.cat l.d) = l.s
      · exact .inl ⟨hs, by unfold Ldm.wh; rw [if_neg (fun h => h hm), if_pos hs], by unfold Ldm.whE; rw [if_neg (fun h => h hm), if_pos hs]⟩
      · exact .inr ⟨hs, by unfold Ldm.wh; rw [if_neg (fun h => h hm), if_neg hs], by unfold Ldm.whE; rw [if_neg (fun h => h hm), if_neg hs]⟩)
    clear hm h1 h2
    obtain ⟨m, t, s, lh, ld⟩ := l
    simp only at *
    subst ht
    go_enter Try.func18, Try.ntmps18
    go_wp2_with (first | refine wpList_exe (kl_l HK 0 _ (by rfl) (by rfl) (by rfl)) (by rfl) ?_)
    refine (HM.out _ HK.out.b).mono ?_; rintro e w1 ⟨rfl, b1⟩
    replace HK := Lib.hid (HK.out.call b1); clear b1
    clear HM
    have f1 := HK.out.cell 0 rfl 1 (v := .int .i64 (n2 : Int)) rfl
    have f4 := HK.out.cell 0 rfl 4 (v := .slice A2 n2 c2) rfl
    have f2 := HK.out.cell 0 rfl 2 (v := .int .u32 (s : Int)) rfl
    go_wp2_with fail
    go_loop [4, 5] (fun vs vi => ∃ k : Nat, k ≤ n2 ∧ vi = .int .i64 k ∧ vs = .string ⟨(Ldm.cat (ld.take k)).toArray⟩) (fun _ vi => n2 - (intOf vi).toNat)
    case atStart => exact ⟨0, Nat.zero_le _, rfl, rfl⟩
    case round =>
      obtain ⟨k, hk, rfl, rfl⟩ := hrel
      have hk1 : (0 : Int) ≤ (k : Int) := by omega
      by_cases hlt : k < n2
      · have hk2 : (k : Int) < (n2 : Int) := by omega
        have hw : IntKind.i64.wrap ((k : Int) + 1) = ((k + 1 : Nat) : Int) := by rw [IntKind.wrap_i64]; omega
        obtain ⟨x, hx, _⟩ := HS.out.get hlt
        obtain ⟨b, o, rfl, hat⟩ := HS.out.sat (by omega)
        have hcl := hat w1 HK.out.b k x hx
        have HX := Lib.hid (Ldm.cat_take hx)
        clear hat hx
        have hsz : ¬ 9223372036854775807 < (Ldm.cat (ld.take k)).length + x.size := by
          have h2 := Ldm.cat_le ld (k + 1)
          rw [HX.out, List.length_append, ← Lib.size_eq] at h2
          omega
        go_wp2
        go_round
        case rel => exact ⟨k + 1, hlt, by go_num, by rw [HX.out, Ldm.ba_app]⟩
        case measure => simp [intOf, hw]; omega
      · obtain rfl : k = n2 := by omega
        rw [HT.out]
        clear HS hc
        rcases HE.out with ⟨hs, e1, e2⟩ | ⟨hs, e1, e2⟩
        · have E1 := Lib.hid e1
          have E2 := Lib.hid e2
          have HC2 : Hid (∀ W, Calls Try.prog 26 #[.string ⟨(Ldm.cat ld).toArray⟩] W fun e w' => e = .returned (.int .u32 (s : Int)) ∧ W = w') := Lib.hid (fun W => hs ▸ HC.out W)
          clear e1 e2 HC hs HE HT
          generalize (Ldm.cat ld).toArray = S at *
          go_wp2_with fail
          have HK0 := Lib.hid HK.out.drew
          clear HK
          refine wp_region_held_drew (S := (fun W => Hid (Kn w.heap.size w W [(w.heap.size, 35, ldC m (k : Int) s (.slice A n c) (.slice A2 k c2))] []))) (by kernel_rfl) ?_ (fun hHeld => ?_)
          · (try dsimp only); exact HK0
          refine wpAnyH_take (i := 0) (oi := ⟨some 22, _, _, _, _, _⟩) (v := ?_) rfl (by kernel_rfl) (by kernel_rfl) (by kernel_rfl) (fun _ _ _ h => h) (Or.inl ⟨by rfl, ?_⟩) (by assumption) ?_
          rotate_left
          · (intro w hSw; (try dsimp only at hSw); go_simp; try with_reducible rfl)
          try simp only [Act.put, List.setIfInBounds_toArray, List.set_cons_zero, List.set_cons_succ]
          refine wpAnyH_take (i := 2) (oi := ⟨some 24, _, _, _, _, _⟩) (v := ?_) rfl (by kernel_rfl) (by kernel_rfl) (by kernel_rfl) (fun _ _ _ h => h) (Or.inl ⟨by rfl, ?_⟩) (by assumption) ?_
          rotate_left
          · (intro w hSw; (try dsimp only at hSw); go_simp; try with_reducible rfl)
          try simp only [Act.put, List.setIfInBounds_toArray, List.set_cons_zero, List.set_cons_succ]
          refine wpAnyH_take (i := 3) (oi := ⟨some 25, _, _, _, _, _⟩) (v := ?_) rfl (by kernel_rfl) (by kernel_rfl) (by kernel_rfl) (fun _ _ _ h => h) (Or.inl ⟨by rfl, ?_⟩) (by assumption) ?_
          rotate_left
          · (intro w hSw; refine Eq.trans (kl_s_ hSw 0 _ (by rfl) (by rfl) (by rfl)) ?_; with_reducible rfl)
          try simp only [Act.put, List.setIfInBounds_toArray, List.set_cons_zero, List.set_cons_succ]
          refine wpAnyH_ready (rs := [1]) (by kernel_rfl) (by simp) ?_
          refine AllReadyH.cons (o := ⟨some 23, _, _, _, _, _⟩) rfl (fun K hK => ?_) AllReadyH.nil
          go_simp
          go_at_call 26
          refine (HC2.out _).mono ?_; rintro e w5 ⟨rfl, rfl⟩; have hs := hHeld
          refine hK.out _ _ hs (fun hHeld => ?_)
          clear hK K
          try simp only [ap1, ap2, ap3, ap4, ap5]
          refine wpAnyH_take (i := 4) (oi := ⟨some 26, _, _, _, _, _⟩) (v := ?_) rfl (by kernel_rfl) (by kernel_rfl) (by kernel_rfl) (fun _ _ _ h => h) (Or.inl ⟨by rfl, ?_⟩) (by assumption) ?_
          rotate_left
          · (intro w hSw; (try dsimp only at hSw); go_simp; try with_reducible rfl)
          try simp only [Act.put, List.setIfInBounds_toArray, List.set_cons_zero, List.set_cons_succ]
          refine wpAnyH_done (by kernel_rfl) ?_ _
          all_goals
            go_wp2_with fail
            exact ret_t2 Try.results18 rfl rfl rfl ⟨by rw [E1.out, E2.out]; rfl, hHeld.out.b⟩
        · have E1 := Lib.hid e1
          have E2 := Lib.hid e2
          have HC2 : Hid (∀ W, Calls Try.prog 26 #[.string ⟨(Ldm.cat ld).toArray⟩] W fun e w' => e = .returned (.int .u32 (Crc.more 0 (Ldm.cat ld) : Nat)) ∧ W = w') := Lib.hid (fun W => HC.out W)
          have hz : (((Crc.more 0 (Ldm.cat ld) : Nat) : Int) != (s : Int)) = true := by simp; omega
          clear e1 e2 HC hs HE HT
          generalize Crc.more 0 (Ldm.cat ld) = z at *
          generalize (Ldm.cat ld).toArray = S at *
          go_wp2_with fail
          have HK0 := Lib.hid HK.out.drew
          clear HK
          refine wp_region_held_drew (S := (fun W => Hid (Kn w.heap.size w W [(w.heap.size, 35, ldC m (k : Int) s (.slice A n c) (.slice A2 k c2))] []))) (by kernel_rfl) ?_ (fun hHeld => ?_)
          · (try dsimp only); exact HK0
          refine wpAnyH_take (i := 0) (oi := ⟨some 22, _, _, _, _, _⟩) (v := ?_) rfl (by kernel_rfl) (by kernel_rfl) (by kernel_rfl) (fun _ _ _ h => h) (Or.inl ⟨by rfl, ?_⟩) (by assumption) ?_
          rotate_left
          · (intro w hSw; (try dsimp only at hSw); go_simp; try with_reducible rfl)
          try simp only [Act.put, List.setIfInBounds_toArray, List.set_cons_zero, List.set_cons_succ]
          refine wpAnyH_take (i := 2) (oi := ⟨some 24, _, _, _, _, _⟩) (v := ?_) rfl (by kernel_rfl) (by kernel_rfl) (by kernel_rfl) (fun _ _ _ h => h) (Or.inl ⟨by rfl, ?_⟩) (by assumption) ?_
          rotate_left
          · (intro w hSw; (try dsimp only at hSw); go_simp; try with_reducible rfl)
          try simp only [Act.put, List.setIfInBounds_toArray, List.set_cons_zero, List.set_cons_succ]
          refine wpAnyH_take (i := 3) (oi := ⟨some 25, _, _, _, _, _⟩) (v := ?_) rfl (by kernel_rfl) (by kernel_rfl) (by kernel_rfl) (fun _ _ _ h => h) (Or.inl ⟨by rfl, ?_⟩) (by assumption) ?_
          rotate_left
          · (intro w hSw; refine Eq.trans (kl_s_ hSw 0 _ (by rfl) (by rfl) (by rfl)) ?_; with_reducible rfl)
          try simp only [Act.put, List.setIfInBounds_toArray, List.set_cons_zero, List.set_cons_succ]
          refine wpAnyH_ready (rs := [1]) (by kernel_rfl) (by simp) ?_
          refine AllReadyH.cons (o := ⟨some 23, _, _, _, _, _⟩) rfl (fun K hK => ?_) AllReadyH.nil
          go_simp
          go_at_call 26
          refine (HC2.out _).mono ?_; rintro e w5 ⟨rfl, rfl⟩; have hs := hHeld
          refine hK.out _ _ hs (fun hHeld => ?_)
          clear hK K
          try simp only [ap1, ap2, ap3, ap4, ap5]
          refine wpAnyH_take (i := 4) (oi := ⟨some 26, _, _, _, _, _⟩) (v := ?_) rfl (by kernel_rfl) (by kernel_rfl) (by kernel_rfl) (fun _ _ _ h => h) (Or.inl ⟨by rfl, ?_⟩) (by assumption) ?_
          rotate_left
          · (intro w hSw; (try dsimp only at hSw); go_simp; try with_reducible rfl)
          try simp only [Act.put, List.setIfInBounds_toArray, List.set_cons_zero, List.set_cons_succ]
          refine wpAnyH_done (by kernel_rfl) ?_ _
          all_goals
            go_wp2_with fail
            exact ret_t2 Try.results18 rfl rfl rfl ⟨by rw [E1.out, E2.out]; rfl, hHeld.out.b⟩
end Go.Proofs.Ytfboneehnmbklaa
