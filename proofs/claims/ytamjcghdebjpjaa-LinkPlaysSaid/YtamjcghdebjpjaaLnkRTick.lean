/-
  What the document's Tick returns.
  No condition but that an end has no more payloads than the form's reach, and a first number of no more.
-/
import Derived.Test.YtamjcghdebjpjaaLnkTick
import Derived.Test.YtamjcghdebjpjaaLnkRef
namespace Go.Proofs.Ytamjcghdebjpjaa
open Go.RowKit

/-- An end, packets of the call's own. -/
def IsRT (A : Option Addr) (c : Nat) (l : List ByteArray) (r : Lnk.L × List Lnk.Pkt) (w : World) (e : Ending) (w' : World) : Prop := ∃ A' c' A2 c2, e = .returned (.tuple #[.agg (lA (.slice A' r.1.out.length c') r.1), .slice A2 r.2.length c2]) ∧ From w w' A c l A' c' r.1.out ∧ pktLay.Own w.heap.size w' (.slice A2 r.2.length c2) r.2 ∧ Below w.heap.size w w'
set_option maxHeartbeats 6400000 in
theorem rtick_any (A : Option Addr) (c : Nat) (l : Lnk.L) (retry : Int) (w : World) (hi : In w A l) (hcap : l.out.length ≤ c) (hb : 1 ≤ l.base ∧ l.base ≤ 1000000) (ha : 0 ≤ l.age ∧ l.age ≤ 1000) :
    Calls Try.prog 30 #[.agg (lA (.slice A l.out.length c) l), .int .i64 retry] w (IsRT A c l.out (Lnk.tick l retry) w) := by
  have hs := tick_is l retry
  have hL := hi.2.2
  have HLen := Lib.hid (again_len l l.out 0)
  have HGet := Lib.hid (again_get l l.out 0)
  generalize Lnk.again l l.out 0 = ag at *
  generalize Lnk.tick l retry = r at *
  obtain ⟨ms, mc, ps, pc, out, base, got, age⟩ := l
  unfold lA Lnk.pkt at *
  have HI := Lib.hid hi
  have HC := Lib.hid hcap
  simp only at HI HC hs hb hL ha HLen HGet ⊢
  clear hi hcap
  have HK := kn2 w 27 (lC (.slice A out.length c) ms mc ps pc base got age) 27 (lC (.slice none 0 0) 0 0 0 0 0 0 0)
  have HNil := Lib.hid (List.take_zero (l := ag))
  have HAll := Lib.hid (List.take_length (l := ag))
  have HR : Hid (∀ W, Below w.heap.size w W → strLay.Reads W W.heap.size A out ∧ (A = none → out = []) ∧ out.length ≤ c) := Lib.hid fun W hW => ⟨HI.out.1.later hW (Nat.le_refl _), HI.out.2.1, HC.out⟩
  have HPk := Lib.hid (fun (k : Nat) body W => rpacket_any (.slice A out.length c) ms mc ps pc base got 0 (base + (k : Int)) body W)
  have HGo : Hid (∀ k, k < out.length → ∃ b, out[k]? = some b) := Lib.hid fun k hk => Lay.get_of hk
  have hk1 : IntKind.i64.wrap (age + 1) = age + 1 := IntWalk.i64_in _ (by omega)
  clear HC
  rcases hs with ⟨h1, h2, h3, rfl⟩ | ⟨hs, rfl⟩
  · generalize hn : out.length = n at *
    have HN := Lib.hid hn
    clear hn
    have hd0 : (((n : Int) == 0)) = false := by simp; omega
    have hd2 : decide (age < 1000) = true := by simpa using h2
    have hd3 : decide (age + 1 < retry) = true := by simpa using h3
    go_enter Try.func30, Try.ntmps30
    go_wp2_with (first | refine wpList_kll HK 0 rfl _ rfl rfl rfl ?_ | refine wpList_kci HK 0 rfl _ rfl rfl rfl rfl ?_ | refine wpList_kcv HK 0 rfl _ rfl rfl rfl rfl ?_ | (first | (refine wpList_k7 HK 0 rfl _ _ rfl rfl rfl rfl ?_; intro _ HK' _; simp only [List.set] at HK'; replace HK := HK'; clear HK') | (refine wpList_k6 HK 0 rfl _ _ rfl rfl rfl rfl ?_; intro _ HK' _; simp only [List.set] at HK'; replace HK := HK'; clear HK') | (refine wpList_k5 HK 0 rfl _ _ rfl rfl rfl rfl ?_; intro _ HK' _; simp only [List.set] at HK'; replace HK := HK'; clear HK') | (refine wpList_k3 HK 0 rfl _ _ rfl rfl rfl rfl ?_; intro _ HK' _; simp only [List.set] at HK'; replace HK := HK'; clear HK')) | (refine wpList_ksl HK 1 rfl _ _ rfl rfl rfl rfl rfl ?_; intro _ HK' _; simp only [List.set] at HK'; replace HK := HK'; clear HK'))
    refine ret_ls Try.results30 rfl rfl rfl (HK.out.blk 1 rfl) ⟨A, c, none, 0, ?_, ?_, Lay.Own.none _ _, HK.out.b⟩
    · simp only [HN.out]; rfl
    · exact .inr ⟨rfl, rfl, rfl⟩
  · have hs2 : out.length = 0 ∨ (0 < out.length ∧ ((decide (age < 1000) = false ∧ 1000 ≤ age) ∨ (decide (age < 1000) = true ∧ age < 1000 ∧ decide (age + 1 < retry) = false ∧ retry ≤ age + 1))) := by
      rcases hs with h | ⟨h, h'⟩ | ⟨h, h', h''⟩
      · exact .inl h
      · exact .inr ⟨h, .inl ⟨by simpa using h', h'⟩⟩
      · exact .inr ⟨h, .inr ⟨by simpa using h', h', by simpa using h'', h''⟩⟩
    clear hs
    rcases hs2 with hs | ⟨h0, hs⟩
    · obtain rfl : ag = [] := List.eq_nil_of_length_eq_zero (HLen.out.trans hs)
      have HR2 : Hid (∀ W, Below w.heap.size w W → strLay.Reads W W.heap.size A out ∧ (A = none → out = []) ∧ out.length ≤ c) := HR
      generalize hn : out.length = n at *
      have HN := Lib.hid hn
      clear hn
      subst hs
      go_enter Try.func30, Try.ntmps30
      go_wp2_with (first | refine wpList_kll HK 0 rfl _ rfl rfl rfl ?_ | refine wpList_kci HK 0 rfl _ rfl rfl rfl rfl ?_ | refine wpList_kcv HK 0 rfl _ rfl rfl rfl rfl ?_ | (first | (refine wpList_k7 HK 0 rfl _ _ rfl rfl rfl rfl ?_; intro _ HK' _; simp only [List.set] at HK'; replace HK := HK'; clear HK') | (refine wpList_k6 HK 0 rfl _ _ rfl rfl rfl rfl ?_; intro _ HK' _; simp only [List.set] at HK'; replace HK := HK'; clear HK') | (refine wpList_k5 HK 0 rfl _ _ rfl rfl rfl rfl ?_; intro _ HK' _; simp only [List.set] at HK'; replace HK := HK'; clear HK') | (refine wpList_k3 HK 0 rfl _ _ rfl rfl rfl rfl ?_; intro _ HK' _; simp only [List.set] at HK'; replace HK := HK'; clear HK')) | (refine wpList_ksl HK 1 rfl _ _ rfl rfl rfl rfl rfl ?_; intro _ HK' _; simp only [List.set] at HK'; replace HK := HK'; clear HK'))
      refine ret_ls Try.results30 rfl rfl rfl (HK.out.blk 1 rfl) ⟨A, c, none, 0, ?_, ?_, Lay.Own.none _ _, HK.out.b⟩
      · simp only [HN.out]; rfl
      · exact .inr ⟨rfl, rfl, rfl⟩
    · obtain ⟨b, o, rfl, hbw, hat⟩ := HI.out.1 h0
      have HAt : Hid (∀ k s, out[k]? = some s → ∀ W, Below w.heap.size w W → W.cell? ⟨b, o + k, none⟩ = some (.string s)) := Lib.hid fun k s hk W hW => (hW.cell (p := ⟨b, o + k, none⟩) hbw).trans (at_str (hat k s hk))
      have HS1 : Hid (∀ W R (k : Nat) s, Hid (Kn w.heap.size w W [(w.heap.size, 27, lC (.slice (some ⟨b, o, none⟩) out.length c) ms mc ps pc base got 0), (w.heap.size + 1, 27, lC (.slice none 0 0) 0 0 0 0 0 0 0)] R) → out[k]? = some s → Hid (Kn w.heap.size w W [(w.heap.size, 27, lC (.slice (some ⟨b, o, none⟩) out.length c) ms mc ps pc base got 0)] []) ∧ W.cell? ⟨b, o + k, none⟩ = some (.string s)) := Lib.hid fun W R k s h hk => ⟨Lib.hid ((h.out.takeL 1).takeR 0), HAt.out k s hk W h.out.b⟩
      clear HI hat hbw
      generalize hn : out.length = n at *
      have HN := Lib.hid hn
      clear hn
      have hd0 : (((n : Int) == 0)) = false := by simp; omega
      go_enter Try.func30, Try.ntmps30
      rcases hs with ⟨h1, h2⟩ | ⟨h1, h2, h3, h4⟩
      · go_wp2_with (first | refine wpList_kci HK 0 rfl _ rfl rfl rfl rfl ?_ | refine wpList_kcv HK 0 rfl _ rfl rfl rfl rfl ?_ | (first | (refine wpList_k7 HK 0 rfl _ _ rfl rfl rfl rfl ?_; intro _ HK' _; simp only [List.set] at HK'; replace HK := HK'; clear HK') | (refine wpList_k6 HK 0 rfl _ _ rfl rfl rfl rfl ?_; intro _ HK' _; simp only [List.set] at HK'; replace HK := HK'; clear HK') | (refine wpList_k5 HK 0 rfl _ _ rfl rfl rfl rfl ?_; intro _ HK' _; simp only [List.set] at HK'; replace HK := HK'; clear HK') | (refine wpList_k3 HK 0 rfl _ _ rfl rfl rfl rfl ?_; intro _ HK' _; simp only [List.set] at HK'; replace HK := HK'; clear HK')))
        replace HK := Lib.hid (HK.out.nilR pktLay)
        simp only [List.nil_append] at HK
        go_loopw [6, 7] (fun v vi wr => ∃ (k : Nat) (A2 : Option Addr) (c2 : Nat), k ≤ n ∧ vi = .int .i64 k ∧ v = .slice A2 k c2 ∧ Hid (Kn w.heap.size w wr [(w.heap.size, 27, lC (.slice (some ⟨b, o, none⟩) n c) ms mc ps pc base got 0), (w.heap.size + 1, 27, lC (.slice none 0 0) 0 0 0 0 0 0 0)] [row pktLay (.slice A2 k c2) (ag.take k)])) (fun _ vi _ => n - (intOf vi).toNat)
        case atStart => exact ⟨0, none, 0, Nat.zero_le _, rfl, rfl, Lib.hid (by rw [HNil.out]; exact HK.out)⟩
        case round =>
          clear HK
          obtain ⟨k, A2, c2, hkn, rfl, rfl, HK⟩ := hrel
          by_cases hlt : k < n
          · obtain ⟨s, hs1⟩ := HGo.out k hlt
            have hk3 : (0 : Int) ≤ (k : Int) := by omega
            have hk4 : (k : Int) < (n : Int) := by omega
            have hk2 : IntKind.i64.wrap (base + (k : Int)) = base + (k : Int) := IntWalk.i64_in _ (by omega)
            have HT : Hid (ag.take (k + 1) = ag.take k ++ [⟨ms, mc, ps, pc, base + (k : Int), got, s⟩]) := Lib.hid (Lay.take_succ (by have := HGet.out k s hs1; rw [Int.zero_add] at this; exact this))
            have hlk : (ag.take k).length = k := by rw [List.length_take, HLen.out]; omega
            have HL1 : Hid ((ag.take k).length + [(⟨ms, mc, ps, pc, base + (k : Int), got, s⟩ : Lnk.Pkt)].length ≤ 9223372036854775807 ∧ ((ag.take k).length + [(⟨ms, mc, ps, pc, base + (k : Int), got, s⟩ : Lnk.Pkt)].length) * pktLay.bytes ≤ 211106232532992) := Lib.hid ⟨by rw [hlk]; simp; omega, by rw [hlk]; show _ * 64 ≤ _; simp; omega⟩
            have HL2 : Hid ((ag.take k ++ [(⟨ms, mc, ps, pc, base + (k : Int), got, s⟩ : Lnk.Pkt)]).length = k + 1) := Lib.hid (by rw [List.length_append, hlk]; rfl)
            have HS := Lib.hid (fun W R h => HS1.out W R k s h hs1)
            have HP := Lib.hid (fun W => HPk.out k s W)
            clear hlk hs1
            go_wp2_with (first | refine wpList_kci HK 0 rfl _ rfl rfl rfl rfl ?_ | refine wpList_kcv HK 0 rfl _ rfl rfl rfl rfl ?_)
            replace HK := Lib.hid HK.out.drew
            have HH := HS.out _ _ HK
            refine wp_region_held_drew (S := (fun W => Hid (Kn w.heap.size w W [(w.heap.size, 27, lC (.slice (some ⟨b, o, none⟩) n c) ms mc ps pc base got 0)] []) ∧ W.cell? ⟨b, o + k, none⟩ = some (.string s))) (by kernel_rfl) ?_ (fun hHeld => ?_)
            · (try dsimp only); exact HH
            refine wpAnyH_take (i := 0) (oi := ⟨some 37, _, _, _, _, _⟩) (v := ?_) rfl (by kernel_rfl) (by kernel_rfl) (by kernel_rfl) (fun _ _ _ h => h) (Or.inl ⟨by rfl, ?_⟩) (by assumption) ?_
            rotate_left
            · (intro w hSw; (try dsimp only at hSw); go_simp; try with_reducible rfl)
            try simp only [Act.put, List.setIfInBounds_toArray, List.set_cons_zero, List.set_cons_succ]
            refine wpAnyH_take (i := 1) (oi := ⟨some 38, _, _, _, _, _⟩) (v := ?_) rfl (by kernel_rfl) (by kernel_rfl) (by kernel_rfl) (fun _ _ _ h => h) (Or.inl ⟨by rfl, ?_⟩) (by assumption) ?_
            rotate_left
            · (intro w hSw; refine Eq.trans (kexec_ll hSw.1 0 _ (by rfl) (by rfl) (by rfl)) ?_; with_reducible rfl)
            try simp only [Act.put, List.setIfInBounds_toArray, List.set_cons_zero, List.set_cons_succ]
            refine wpAnyH_take (i := 2) (oi := ⟨some 39, _, _, _, _, _⟩) (v := ?_) rfl (by kernel_rfl) (by kernel_rfl) (by kernel_rfl) (fun _ _ _ h => h) (Or.inl ⟨by rfl, ?_⟩) (by assumption) ?_
            rotate_left
            · (intro w hSw; (try dsimp only at hSw); go_simp; try with_reducible rfl)
            try simp only [Act.put, List.setIfInBounds_toArray, List.set_cons_zero, List.set_cons_succ]
            refine wpAnyH_take (i := 3) (oi := ⟨some 40, _, _, _, _, _⟩) (v := ?_) rfl (by kernel_rfl) (by kernel_rfl) (by kernel_rfl) (fun _ _ _ h => h) (Or.inl ⟨by rfl, ?_⟩) (by assumption) ?_
            rotate_left
            · (intro w hSw; refine Eq.trans (kexec_ci hSw.1 0 _ (by rfl) (by rfl) (by rfl) (by rfl)) ?_; with_reducible rfl)
            try simp only [Act.put, List.setIfInBounds_toArray, List.set_cons_zero, List.set_cons_succ]
            refine wpAnyH_take (i := 4) (oi := ⟨some 41, _, _, _, _, _⟩) (v := ?_) rfl (by kernel_rfl) (by kernel_rfl) (by kernel_rfl) (fun _ _ _ h => h) (Or.inl ⟨by rfl, ?_⟩) (by assumption) ?_
            rotate_left
            · (intro w hSw; (try dsimp only at hSw); go_simp; try with_reducible rfl)
            try simp only [Act.put, List.setIfInBounds_toArray, List.set_cons_zero, List.set_cons_succ]
            refine wpAnyH_take (i := 5) (oi := ⟨some 42, _, _, _, _, _⟩) (v := ?_) rfl (by kernel_rfl) (by kernel_rfl) (by kernel_rfl) (fun _ _ _ h => h) (Or.inl ⟨by rfl, ?_⟩) (by assumption) ?_
            rotate_left
            · (intro w hSw; (try dsimp only at hSw); go_simp; try with_reducible rfl)
            try simp only [Act.put, List.setIfInBounds_toArray, List.set_cons_zero, List.set_cons_succ]
            refine wpAnyH_take (i := 6) (oi := ⟨some 43, _, _, _, _, _⟩) (v := ?_) rfl (by kernel_rfl) (by kernel_rfl) (by kernel_rfl) (fun _ _ _ h => h) (Or.inl ⟨by rfl, ?_⟩) (by assumption) ?_
            rotate_left
            · (intro w hSw; (try dsimp only at hSw); go_simp; try with_reducible rfl)
            try simp only [Act.put, List.setIfInBounds_toArray, List.set_cons_zero, List.set_cons_succ]
            refine wpAnyH_take (i := 7) (oi := ⟨some 44, _, _, _, _, _⟩) (v := ?_) rfl (by kernel_rfl) (by kernel_rfl) (by kernel_rfl) (fun _ _ _ h => h) (Or.inl ⟨by rfl, ?_⟩) (by assumption) ?_
            rotate_left
            · (intro w hSw; refine Eq.trans (kexec_cv hSw.1 0 _ (by rfl) (by rfl) (by rfl) (by rfl)) ?_; with_reducible rfl)
            try simp only [Act.put, List.setIfInBounds_toArray, List.set_cons_zero, List.set_cons_succ]
            refine wpAnyH_take (i := 8) (oi := ⟨some 45, _, _, _, _, _⟩) (v := ?_) rfl (by kernel_rfl) (by kernel_rfl) (by kernel_rfl) (fun _ _ _ h => h) (Or.inl ⟨by rfl, ?_⟩) (by assumption) ?_
            rotate_left
            · (intro w hSw; (try dsimp only at hSw); go_simp; try with_reducible rfl)
            try simp only [Act.put, List.setIfInBounds_toArray, List.set_cons_zero, List.set_cons_succ]
            refine wpAnyH_take (i := 9) (oi := ⟨some 46, _, _, _, _, _⟩) (v := ?_) rfl (by kernel_rfl) (by kernel_rfl) (by kernel_rfl) (fun _ _ _ h => h) (Or.inl ⟨by rfl, ?_⟩) (by assumption) ?_
            rotate_left
            · (intro w hSw; (try dsimp only at hSw); go_simp; try with_reducible rfl)
            try simp only [Act.put, List.setIfInBounds_toArray, List.set_cons_zero, List.set_cons_succ]
            refine wpAnyH_take (i := 10) (oi := ⟨some 47, _, _, _, _, _⟩) (v := ?_) rfl (by kernel_rfl) (by kernel_rfl) (by kernel_rfl) (fun _ _ _ h => h) (Or.inl ⟨by rfl, ?_⟩) (by assumption) ?_
            rotate_left
            · (intro w hSw; (try dsimp only at hSw); go_simp; try with_reducible rfl)
            try simp only [Act.put, List.setIfInBounds_toArray, List.set_cons_zero, List.set_cons_succ]
            refine wpAnyH_ready (rs := [11]) (by kernel_rfl) (by simp) ?_
            refine AllReadyH.cons (o := ⟨some 48, _, _, _, _, _⟩) rfl (fun K hK => ?_) AllReadyH.nil
            go_simp
            go_at_call 43
            refine (HP.out _).mono ?_; rintro e w5 ⟨rfl, b5⟩; replace HK := Lib.hid (HK.out.call b5); have hs := HS.out _ _ HK; clear b5; unfold pA pC
            refine hK.out _ _ hs (fun hHeld => ?_)
            clear hK K
            try simp only 
            refine wpAnyH_ready (rs := [12]) (by kernel_rfl) (by simp) ?_
            refine AllReadyH.cons (o := ⟨some 49, _, _, _, _, _⟩) rfl (fun K hK => ?_) AllReadyH.nil
            go_simp; have hs := HS.out _ _ (Lib.hid (HK.out.allocO (.cells (pC ms mc ps pc (base + (k : Int)) got s) 36)))
            refine hK.out _ _ hs (fun hHeld => ?_)
            clear hK K
            try simp only [Act.put, List.setIfInBounds_toArray, List.set_cons_zero, List.set_cons_succ]
            refine wpAnyH_ready (rs := [13]) (by kernel_rfl) (by simp) ?_
            refine AllReadyH.cons (o := ⟨some 50, _, _, _, _, _⟩) rfl (fun K hK => ?_) AllReadyH.nil
            refine step_kpush HK pktLay 0 (by rfl) (.tmp 37) (.tmp 49) (by rfl) (by rfl) (by rfl) [⟨ms, mc, ps, pc, base + (k : Int), got, s⟩] (by rfl) (by rfl) (flat_pkt ⟨ms, mc, ps, pc, base + (k : Int), got, s⟩) (by rfl) HL1 HL2 ?_; intro A3 c4 w6 HK'; simp only [List.set] at HK'; replace HK := HK'; clear HK'; have hs := HS.out _ _ HK
            refine hK.out _ _ hs (fun hHeld => ?_)
            clear hK K
            try simp only [Act.put, List.setIfInBounds_toArray, List.set_cons_zero, List.set_cons_succ]
            refine wpAnyH_take (i := 14) (oi := ⟨some 6, _, _, _, _, _⟩) (v := ?_) rfl (by kernel_rfl) (by kernel_rfl) (by kernel_rfl) (fun _ _ _ h => h) (Or.inl ⟨by rfl, ?_⟩) (by assumption) ?_
            rotate_left
            · (intro w hSw; (try dsimp only at hSw); go_simp; try with_reducible rfl)
            try simp only [Act.put, List.setIfInBounds_toArray, List.set_cons_zero, List.set_cons_succ]
            refine wpAnyH_done (by kernel_rfl) ?_ _
            go_wp2_with fail
            rw [← HT.out] at HK
            exact ⟨⟨k + 1, A3, c4, by omega, by go_num, rfl, HK⟩, by simp [intOf]; omega⟩
          · obtain rfl : k = n := by omega
            have hA := HAll.out
            rw [HLen.out] at hA
            rw [hA] at HK
            clear hA
            go_wp2_with (first | refine wpList_kll HK 0 rfl _ rfl rfl rfl ?_ | refine wpList_kci HK 0 rfl _ rfl rfl rfl rfl ?_ | refine wpList_kcv HK 0 rfl _ rfl rfl rfl rfl ?_ | (refine wpList_ksl HK 1 rfl _ _ rfl rfl rfl rfl rfl ?_; intro _ HK' _; simp only [List.set] at HK'; replace HK := HK'; clear HK'))
            refine ret_ls Try.results30 rfl rfl rfl (HK.out.blk 1 rfl) ⟨some ⟨b, o, none⟩, c, A2, c2, ?_, ?_, ?_, HK.out.b⟩
            · simp only [HN.out, HLen.out]; rfl
            · exact .inr ⟨rfl, rfl, rfl⟩
            · simp only [HLen.out]; exact HK.out.own 0 rfl
      · go_wp2_with (first | refine wpList_kci HK 0 rfl _ rfl rfl rfl rfl ?_ | refine wpList_kcv HK 0 rfl _ rfl rfl rfl rfl ?_ | (first | (refine wpList_k7 HK 0 rfl _ _ rfl rfl rfl rfl ?_; intro _ HK' _; simp only [List.set] at HK'; replace HK := HK'; clear HK') | (refine wpList_k6 HK 0 rfl _ _ rfl rfl rfl rfl ?_; intro _ HK' _; simp only [List.set] at HK'; replace HK := HK'; clear HK') | (refine wpList_k5 HK 0 rfl _ _ rfl rfl rfl rfl ?_; intro _ HK' _; simp only [List.set] at HK'; replace HK := HK'; clear HK') | (refine wpList_k3 HK 0 rfl _ _ rfl rfl rfl rfl ?_; intro _ HK' _; simp only [List.set] at HK'; replace HK := HK'; clear HK')))
        replace HK := Lib.hid (HK.out.nilR pktLay)
        simp only [List.nil_append] at HK
        go_loopw [6, 7] (fun v vi wr => ∃ (k : Nat) (A2 : Option Addr) (c2 : Nat), k ≤ n ∧ vi = .int .i64 k ∧ v = .slice A2 k c2 ∧ Hid (Kn w.heap.size w wr [(w.heap.size, 27, lC (.slice (some ⟨b, o, none⟩) n c) ms mc ps pc base got 0), (w.heap.size + 1, 27, lC (.slice none 0 0) 0 0 0 0 0 0 0)] [row pktLay (.slice A2 k c2) (ag.take k)])) (fun _ vi _ => n - (intOf vi).toNat)
        case atStart => exact ⟨0, none, 0, Nat.zero_le _, rfl, rfl, Lib.hid (by rw [HNil.out]; exact HK.out)⟩
        case round =>
          clear HK
          obtain ⟨k, A2, c2, hkn, rfl, rfl, HK⟩ := hrel
          by_cases hlt : k < n
          · obtain ⟨s, hs1⟩ := HGo.out k hlt
            have hk3 : (0 : Int) ≤ (k : Int) := by omega
            have hk4 : (k : Int) < (n : Int) := by omega
            have hk2 : IntKind.i64.wrap (base + (k : Int)) = base + (k : Int) := IntWalk.i64_in _ (by omega)
            have HT : Hid (ag.take (k + 1) = ag.take k ++ [⟨ms, mc, ps, pc, base + (k : Int), got, s⟩]) := Lib.hid (Lay.take_succ (by have := HGet.out k s hs1; rw [Int.zero_add] at this; exact this))
            have hlk : (ag.take k).length = k := by rw [List.length_take, HLen.out]; omega
            have HL1 : Hid ((ag.take k).length + [(⟨ms, mc, ps, pc, base + (k : Int), got, s⟩ : Lnk.Pkt)].length ≤ 9223372036854775807 ∧ ((ag.take k).length + [(⟨ms, mc, ps, pc, base + (k : Int), got, s⟩ : Lnk.Pkt)].length) * pktLay.bytes ≤ 211106232532992) := Lib.hid ⟨by rw [hlk]; simp; omega, by rw [hlk]; show _ * 64 ≤ _; simp; omega⟩
            have HL2 : Hid ((ag.take k ++ [(⟨ms, mc, ps, pc, base + (k : Int), got, s⟩ : Lnk.Pkt)]).length = k + 1) := Lib.hid (by rw [List.length_append, hlk]; rfl)
            have HS := Lib.hid (fun W R h => HS1.out W R k s h hs1)
            have HP := Lib.hid (fun W => HPk.out k s W)
            clear hlk hs1
            go_wp2_with (first | refine wpList_kci HK 0 rfl _ rfl rfl rfl rfl ?_ | refine wpList_kcv HK 0 rfl _ rfl rfl rfl rfl ?_)
            replace HK := Lib.hid HK.out.drew
            have HH := HS.out _ _ HK
            refine wp_region_held_drew (S := (fun W => Hid (Kn w.heap.size w W [(w.heap.size, 27, lC (.slice (some ⟨b, o, none⟩) n c) ms mc ps pc base got 0)] []) ∧ W.cell? ⟨b, o + k, none⟩ = some (.string s))) (by kernel_rfl) ?_ (fun hHeld => ?_)
            · (try dsimp only); exact HH
            refine wpAnyH_take (i := 0) (oi := ⟨some 37, _, _, _, _, _⟩) (v := ?_) rfl (by kernel_rfl) (by kernel_rfl) (by kernel_rfl) (fun _ _ _ h => h) (Or.inl ⟨by rfl, ?_⟩) (by assumption) ?_
            rotate_left
            · (intro w hSw; (try dsimp only at hSw); go_simp; try with_reducible rfl)
            try simp only [Act.put, List.setIfInBounds_toArray, List.set_cons_zero, List.set_cons_succ]
            refine wpAnyH_take (i := 1) (oi := ⟨some 38, _, _, _, _, _⟩) (v := ?_) rfl (by kernel_rfl) (by kernel_rfl) (by kernel_rfl) (fun _ _ _ h => h) (Or.inl ⟨by rfl, ?_⟩) (by assumption) ?_
            rotate_left
            · (intro w hSw; refine Eq.trans (kexec_ll hSw.1 0 _ (by rfl) (by rfl) (by rfl)) ?_; with_reducible rfl)
            try simp only [Act.put, List.setIfInBounds_toArray, List.set_cons_zero, List.set_cons_succ]
            refine wpAnyH_take (i := 2) (oi := ⟨some 39, _, _, _, _, _⟩) (v := ?_) rfl (by kernel_rfl) (by kernel_rfl) (by kernel_rfl) (fun _ _ _ h => h) (Or.inl ⟨by rfl, ?_⟩) (by assumption) ?_
            rotate_left
            · (intro w hSw; (try dsimp only at hSw); go_simp; try with_reducible rfl)
            try simp only [Act.put, List.setIfInBounds_toArray, List.set_cons_zero, List.set_cons_succ]
            refine wpAnyH_take (i := 3) (oi := ⟨some 40, _, _, _, _, _⟩) (v := ?_) rfl (by kernel_rfl) (by kernel_rfl) (by kernel_rfl) (fun _ _ _ h => h) (Or.inl ⟨by rfl, ?_⟩) (by assumption) ?_
            rotate_left
            · (intro w hSw; refine Eq.trans (kexec_ci hSw.1 0 _ (by rfl) (by rfl) (by rfl) (by rfl)) ?_; with_reducible rfl)
            try simp only [Act.put, List.setIfInBounds_toArray, List.set_cons_zero, List.set_cons_succ]
            refine wpAnyH_take (i := 4) (oi := ⟨some 41, _, _, _, _, _⟩) (v := ?_) rfl (by kernel_rfl) (by kernel_rfl) (by kernel_rfl) (fun _ _ _ h => h) (Or.inl ⟨by rfl, ?_⟩) (by assumption) ?_
            rotate_left
            · (intro w hSw; (try dsimp only at hSw); go_simp; try with_reducible rfl)
            try simp only [Act.put, List.setIfInBounds_toArray, List.set_cons_zero, List.set_cons_succ]
            refine wpAnyH_take (i := 5) (oi := ⟨some 42, _, _, _, _, _⟩) (v := ?_) rfl (by kernel_rfl) (by kernel_rfl) (by kernel_rfl) (fun _ _ _ h => h) (Or.inl ⟨by rfl, ?_⟩) (by assumption) ?_
            rotate_left
            · (intro w hSw; (try dsimp only at hSw); go_simp; try with_reducible rfl)
            try simp only [Act.put, List.setIfInBounds_toArray, List.set_cons_zero, List.set_cons_succ]
            refine wpAnyH_take (i := 6) (oi := ⟨some 43, _, _, _, _, _⟩) (v := ?_) rfl (by kernel_rfl) (by kernel_rfl) (by kernel_rfl) (fun _ _ _ h => h) (Or.inl ⟨by rfl, ?_⟩) (by assumption) ?_
            rotate_left
            · (intro w hSw; (try dsimp only at hSw); go_simp; try with_reducible rfl)
            try simp only [Act.put, List.setIfInBounds_toArray, List.set_cons_zero, List.set_cons_succ]
            refine wpAnyH_take (i := 7) (oi := ⟨some 44, _, _, _, _, _⟩) (v := ?_) rfl (by kernel_rfl) (by kernel_rfl) (by kernel_rfl) (fun _ _ _ h => h) (Or.inl ⟨by rfl, ?_⟩) (by assumption) ?_
            rotate_left
            · (intro w hSw; refine Eq.trans (kexec_cv hSw.1 0 _ (by rfl) (by rfl) (by rfl) (by rfl)) ?_; with_reducible rfl)
            try simp only [Act.put, List.setIfInBounds_toArray, List.set_cons_zero, List.set_cons_succ]
            refine wpAnyH_take (i := 8) (oi := ⟨some 45, _, _, _, _, _⟩) (v := ?_) rfl (by kernel_rfl) (by kernel_rfl) (by kernel_rfl) (fun _ _ _ h => h) (Or.inl ⟨by rfl, ?_⟩) (by assumption) ?_
            rotate_left
            · (intro w hSw; (try dsimp only at hSw); go_simp; try with_reducible rfl)
            try simp only [Act.put, List.setIfInBounds_toArray, List.set_cons_zero, List.set_cons_succ]
            refine wpAnyH_take (i := 9) (oi := ⟨some 46, _, _, _, _, _⟩) (v := ?_) rfl (by kernel_rfl) (by kernel_rfl) (by kernel_rfl) (fun _ _ _ h => h) (Or.inl ⟨by rfl, ?_⟩) (by assumption) ?_
            rotate_left
            · (intro w hSw; (try dsimp only at hSw); go_simp; try with_reducible rfl)
            try simp only [Act.put, List.setIfInBounds_toArray, List.set_cons_zero, List.set_cons_succ]
            refine wpAnyH_take (i := 10) (oi := ⟨some 47, _, _, _, _, _⟩) (v := ?_) rfl (by kernel_rfl) (by kernel_rfl) (by kernel_rfl) (fun _ _ _ h => h) (Or.inl ⟨by rfl, ?_⟩) (by assumption) ?_
            rotate_left
            · (intro w hSw; (try dsimp only at hSw); go_simp; try with_reducible rfl)
            try simp only [Act.put, List.setIfInBounds_toArray, List.set_cons_zero, List.set_cons_succ]
            refine wpAnyH_ready (rs := [11]) (by kernel_rfl) (by simp) ?_
            refine AllReadyH.cons (o := ⟨some 48, _, _, _, _, _⟩) rfl (fun K hK => ?_) AllReadyH.nil
            go_simp
            go_at_call 43
            refine (HP.out _).mono ?_; rintro e w5 ⟨rfl, b5⟩; replace HK := Lib.hid (HK.out.call b5); have hs := HS.out _ _ HK; clear b5; unfold pA pC
            refine hK.out _ _ hs (fun hHeld => ?_)
            clear hK K
            try simp only 
            refine wpAnyH_ready (rs := [12]) (by kernel_rfl) (by simp) ?_
            refine AllReadyH.cons (o := ⟨some 49, _, _, _, _, _⟩) rfl (fun K hK => ?_) AllReadyH.nil
            go_simp; have hs := HS.out _ _ (Lib.hid (HK.out.allocO (.cells (pC ms mc ps pc (base + (k : Int)) got s) 36)))
            refine hK.out _ _ hs (fun hHeld => ?_)
            clear hK K
            try simp only [Act.put, List.setIfInBounds_toArray, List.set_cons_zero, List.set_cons_succ]
            refine wpAnyH_ready (rs := [13]) (by kernel_rfl) (by simp) ?_
            refine AllReadyH.cons (o := ⟨some 50, _, _, _, _, _⟩) rfl (fun K hK => ?_) AllReadyH.nil
            refine step_kpush HK pktLay 0 (by rfl) (.tmp 37) (.tmp 49) (by rfl) (by rfl) (by rfl) [⟨ms, mc, ps, pc, base + (k : Int), got, s⟩] (by rfl) (by rfl) (flat_pkt ⟨ms, mc, ps, pc, base + (k : Int), got, s⟩) (by rfl) HL1 HL2 ?_; intro A3 c4 w6 HK'; simp only [List.set] at HK'; replace HK := HK'; clear HK'; have hs := HS.out _ _ HK
            refine hK.out _ _ hs (fun hHeld => ?_)
            clear hK K
            try simp only [Act.put, List.setIfInBounds_toArray, List.set_cons_zero, List.set_cons_succ]
            refine wpAnyH_take (i := 14) (oi := ⟨some 6, _, _, _, _, _⟩) (v := ?_) rfl (by kernel_rfl) (by kernel_rfl) (by kernel_rfl) (fun _ _ _ h => h) (Or.inl ⟨by rfl, ?_⟩) (by assumption) ?_
            rotate_left
            · (intro w hSw; (try dsimp only at hSw); go_simp; try with_reducible rfl)
            try simp only [Act.put, List.setIfInBounds_toArray, List.set_cons_zero, List.set_cons_succ]
            refine wpAnyH_done (by kernel_rfl) ?_ _
            go_wp2_with fail
            rw [← HT.out] at HK
            exact ⟨⟨k + 1, A3, c4, by omega, by go_num, rfl, HK⟩, by simp [intOf]; omega⟩
          · obtain rfl : k = n := by omega
            have hA := HAll.out
            rw [HLen.out] at hA
            rw [hA] at HK
            clear hA
            go_wp2_with (first | refine wpList_kll HK 0 rfl _ rfl rfl rfl ?_ | refine wpList_kci HK 0 rfl _ rfl rfl rfl rfl ?_ | refine wpList_kcv HK 0 rfl _ rfl rfl rfl rfl ?_ | (refine wpList_ksl HK 1 rfl _ _ rfl rfl rfl rfl rfl ?_; intro _ HK' _; simp only [List.set] at HK'; replace HK := HK'; clear HK'))
            refine ret_ls Try.results30 rfl rfl rfl (HK.out.blk 1 rfl) ⟨some ⟨b, o, none⟩, c, A2, c2, ?_, ?_, ?_, HK.out.b⟩
            · simp only [HN.out, HLen.out]; rfl
            · exact .inr ⟨rfl, rfl, rfl⟩
            · simp only [HLen.out]; exact HK.out.own 0 rfl
end Go.Proofs.Ytamjcghdebjpjaa
