/-
  What Take returns.
  No condition but that an end has no more payloads than the form's reach, and numbers of no more.
-/
import Derived.Test.YtamjcghdebjpjaaLnkLeave
import Derived.Test.YtamjcghdebjpjaaLnkRef
import Derived.Deep.CutBlock
import Derived.Deep.DeepCutAuto
namespace Go.Proofs.Ytamjcghdebjpjaa
open Go.RowKit

/-- An end, a payload, whether it is one, a packet, whether it is sent. -/
def IsTk (r : Lnk.L × ByteArray × Bool × Lnk.Pkt × Bool) (w : World) (e : Ending) (w' : World) : Prop := ∃ A c, e = .returned (.tuple #[.agg (lA (.slice A r.1.out.length c) r.1), .string r.2.1, .bool r.2.2.1, .agg (pA r.2.2.2.1), .bool r.2.2.2.2]) ∧ strLay.Own w.heap.size w' (.slice A r.1.out.length c) r.1.out ∧ Below w.heap.size w w'
theorem heard_leave (l : Lnk.L) (p : Lnk.Pkt) : Lnk.heard l p = if p.tc = 0 then Lnk.meet l p.fc else leaveL (Lnk.meet l p.fc) p.ack := by
  unfold Lnk.heard Lnk.acked leaveL
  by_cases h : p.tc = 0 <;> simp [h]
theorem take_is (l : Lnk.L) (p : Lnk.Pkt) : (Lnk.deaf l p ∧ Lnk.take l p = (l, Lnk.emp, false, Lnk.noPkt, false)) ∨ (¬ Lnk.deaf l p ∧ p.seq < 1 ∧ Lnk.take l p = (Lnk.heard l p, Lnk.emp, false, Lnk.noPkt, false)) ∨
    (¬ Lnk.deaf l p ∧ 1 ≤ p.seq ∧ (p.tc = 0 ∨ (p.tc ≠ 0 ∧ p.seq ≠ (Lnk.heard l p).got + 1)) ∧ Lnk.take l p = (Lnk.heard l p, Lnk.emp, false, Lnk.pkt (Lnk.heard l p) 0 Lnk.emp, true)) ∨
    (¬ Lnk.deaf l p ∧ 1 ≤ p.seq ∧ p.tc ≠ 0 ∧ p.seq = (Lnk.heard l p).got + 1 ∧ Lnk.take l p = (⟨(Lnk.heard l p).ms, (Lnk.heard l p).mc, (Lnk.heard l p).ps, (Lnk.heard l p).pc, (Lnk.heard l p).out, (Lnk.heard l p).base, p.seq, (Lnk.heard l p).age⟩, p.body, true,
      Lnk.pkt ⟨(Lnk.heard l p).ms, (Lnk.heard l p).mc, (Lnk.heard l p).ps, (Lnk.heard l p).pc, (Lnk.heard l p).out, (Lnk.heard l p).base, p.seq, (Lnk.heard l p).age⟩ 0 Lnk.emp, true)) := by
  have hm : (Lnk.heard l p).ms = l.ms ∧ (Lnk.heard l p).mc = l.mc ∧ (Lnk.heard l p).ps = l.ps := by
    unfold Lnk.heard
    obtain ⟨a1, a2, a3, _, _⟩ := Lnk.acked_me (Lnk.meet l p.fc) p
    obtain ⟨m1, m2, m3⟩ := Lnk.meet_me l p.fc
    exact ⟨a1.trans m1, a2.trans m2, a3.trans m3⟩
  unfold Lnk.take
  by_cases hd : Lnk.deaf l p
  · rw [if_pos hd]; exact .inl ⟨hd, rfl⟩
  rw [if_neg hd]
  by_cases hs : p.seq < 1
  · rw [if_pos hs]; exact .inr (.inl ⟨hd, hs, rfl⟩)
  rw [if_neg hs]
  by_cases ht : p.tc = 0 ∨ p.seq - 1 ≠ (Lnk.heard l p).got
  · rw [if_pos ht]
    refine .inr (.inr (.inl ⟨hd, by omega, ?_, rfl⟩))
    by_cases h0 : p.tc = 0
    · exact .inl h0
    · exact .inr ⟨h0, by omega⟩
  · rw [if_neg ht]
    refine .inr (.inr (.inr ⟨hd, by omega, by omega, by omega, ?_⟩))
    rw [hm.1, hm.2.1, hm.2.2]
/-- What a meeting keeps. -/
theorem meet_keeps (l : Lnk.L) (i : Int) (hb : 1 ≤ l.base ∧ l.base ≤ 1000000) (hg : 0 ≤ l.got ∧ l.got ≤ 1000000) (hn : l.out.length ≤ 1000000) :
    (1 ≤ (Lnk.meet l i).base ∧ (Lnk.meet l i).base ≤ 1000000) ∧ (0 ≤ (Lnk.meet l i).got ∧ (Lnk.meet l i).got ≤ 1000000) ∧ (Lnk.meet l i).out.length ≤ 1000000 := by
  rcases meet_is l i with ⟨_, h⟩ | ⟨_, _, h⟩ | ⟨_, _, h⟩ <;> rw [h]
  · exact ⟨hb, hg, hn⟩
  · exact ⟨hb, by simp, hn⟩
  · exact ⟨by simp, by simp, by simp⟩
theorem leave_got (l : Lnk.L) (a : Int) : (leaveL l a).got = l.got := by
  unfold leaveL
  split <;> rfl
set_option maxHeartbeats 12800000 in
theorem take_any (A : Option Addr) (c : Nat) (l : Lnk.L) (p : Lnk.Pkt) (w : World) (hi : In w A l) (hb : 1 ≤ l.base ∧ l.base ≤ 1000000) (hg : 0 ≤ l.got ∧ l.got ≤ 1000000) (h64 : -9223372036854775808 ≤ p.ack ∧ p.ack ≤ 9223372036854775807) :
    Calls Try.prog 28 #[.agg (lA (.slice A l.out.length c) l), .agg (pA p)] w (IsTk (Lnk.take l p) w) := by
  have HO := own_pre c hi
  have ht := take_is l p
  have HC := Lib.hid (fun W => concerns_any (.slice A l.out.length c) l p W)
  have HM : Hid (∀ W, Below w.heap.size w W → Calls Try.prog 27 #[.agg (lA (.slice A l.out.length c) l), .int .i64 p.fc] W (IsL (Lnk.meet l p.fc) W)) := Lib.hid fun W hW => meet_any A c l p.fc W (hi.later hW)
  obtain ⟨kb, kg, kn⟩ := meet_keeps l p.fc hb hg hi.2.2
  have HV : Hid (∀ A1 c1 W b, strLay.Own b W (.slice A1 (Lnk.meet l p.fc).out.length c1) (Lnk.meet l p.fc).out → Calls Try.prog 42 #[.agg (lA (.slice A1 (Lnk.meet l p.fc).out.length c1) (Lnk.meet l p.fc)), .int .i64 p.ack] W (fun e w' => ∃ A' c', e = .returned (.agg (lA (.slice A' (leaveL (Lnk.meet l p.fc) p.ack).out.length c') (leaveL (Lnk.meet l p.fc) p.ack))) ∧ (strLay.Own W.heap.size w' (.slice A' (leaveL (Lnk.meet l p.fc) p.ack).out.length c') (leaveL (Lnk.meet l p.fc) p.ack).out ∨ (A' = A1 ∧ c' = c1 ∧ (leaveL (Lnk.meet l p.fc) p.ack).out = (Lnk.meet l p.fc).out)) ∧ Below W.heap.size W w')) :=
    Lib.hid fun A1 c1 W b ho => leave_any A1 c1 (Lnk.meet l p.fc) p.ack W ⟨ho.read.1, ho.read.2.1, kn⟩ ho.read.2.2 kb h64
  have hvg := leave_got (Lnk.meet l p.fc) p.ack
  rw [heard_leave] at ht
  have HPk := Lib.hid (fun v ms mc ps pc base got age W => packet_any v ms mc ps pc base got age 0 ⟨#[]⟩ W)
  clear hi hb hg kn kb h64
  generalize Lnk.take l p = r at *
  generalize Lnk.meet l p.fc = m at *
  generalize leaveL m p.ack = q at *
  obtain ⟨fs, fc, ts, tc, seq, ack, body⟩ := p
  have HK := kn4 w 27 (lA (.slice A l.out.length c) l) 36 (pC fs fc ts tc seq ack body) 27 (lC (.slice none 0 0) 0 0 0 0 0 0 0) 36 (pC 0 0 0 0 0 0 ⟨#[]⟩)
  unfold lA pA Lnk.pkt Lnk.emp Lnk.noPkt at *
  simp only at HC HM HV HK ht ⊢
  obtain ⟨ms, mc, ps, pc, out, base, got, age⟩ := l
  obtain ⟨mms, mmc, mps, mpc, mout, mbase, mgot, mage⟩ := m
  obtain ⟨qms, qmc, qps, qpc, qout, qbase, qgot, qage⟩ := q
  simp only at HO HC HM HV HK ht hvg kg ⊢
  subst hvg
  generalize hdf : decide (Lnk.deaf ⟨ms, mc, ps, pc, out, base, got, age⟩ ⟨fs, fc, ts, tc, seq, ack, body⟩) = df at *
  have hw1 : IntKind.i64.wrap (qgot + 1) = qgot + 1 := IntWalk.i64_in _ (by omega)
  rcases ht with ⟨h1, rfl⟩ | ⟨h1, h2, rfl⟩ | ⟨h1, h2, h3, rfl⟩ | ⟨h1, h2, h3, h4, rfl⟩
  · obtain rfl : df = true := by rw [← hdf]; exact decide_eq_true h1
    clear hdf h1 HM HV
    go_enter Try.func28, Try.ntmps28
    go_wp2_with (first | refine wpList_kll HK 0 rfl _ rfl rfl rfl ?_ | refine wpList_klp HK 1 rfl _ rfl rfl rfl ?_)
    refine (HC.out _).mono ?_; rintro e w1 ⟨rfl, b1⟩
    replace HK := Lib.hid (HK.out.call b1)
    clear b1 HC
    go_wp2_with (first | refine wpList_kll HK 0 rfl _ rfl rfl rfl ?_)
    refine (HO.out _ HK.out.b).mono ?_; rintro e w3 ⟨A1, c1, rfl, o1, b1⟩
    replace HK := Lib.hid (HK.out.called b1 o1)
    clear b1 o1 HO
    unfold lA at *
    simp only [List.nil_append] at HK
    go_wp2_with (first | (refine wpList_ksl HK 2 rfl _ _ rfl rfl rfl rfl rfl ?_; intro _ HK' _; simp only [List.set] at HK'; replace HK := HK'; clear HK') | (refine wpList_ksp HK 3 rfl _ _ rfl rfl rfl rfl rfl ?_; intro _ HK' _; simp only [List.set] at HK'; replace HK := HK'; clear HK'))
    exact ret_take Try.results28 rfl rfl rfl rfl rfl rfl (HK.out.blk 2 rfl) (HK.out.blk 3 rfl) ⟨A1, c1, rfl, HK.out.own 0 rfl, HK.out.b⟩
  · obtain rfl : df = false := by rw [← hdf]; exact decide_eq_false h1
    clear hdf h1 HO
    have d1 : decide (seq < 1) = true := by simpa using h2
    by_cases h0 : tc = 0
    · subst h0
      simp only [if_true]
      go_enter Try.func28, Try.ntmps28
      go_wp2_with (first | refine wpList_kll HK 0 rfl _ rfl rfl rfl ?_ | refine wpList_klp HK 1 rfl _ rfl rfl rfl ?_)
      refine (HC.out _).mono ?_; rintro e w1 ⟨rfl, b1⟩
      replace HK := Lib.hid (HK.out.call b1)
      clear b1 HC
      go_wp2_with (first | refine wpList_kll HK 0 rfl _ rfl rfl rfl ?_ | refine wpList_kci HK 1 rfl _ rfl rfl rfl rfl ?_)
      refine (HM.out _ HK.out.b).mono ?_; rintro e w2 ⟨A1, c1, rfl, o1, b1⟩
      replace HK := Lib.hid (HK.out.called b1 o1)
      clear b1 o1 HM
      unfold lA at *
      simp only [List.nil_append] at HK
      go_wp2_with (first | (refine wpList_ksl HK 0 rfl _ _ rfl rfl rfl rfl rfl ?_; intro _ HK' _; simp only [List.set] at HK'; replace HK := HK'; clear HK') | refine wpList_kll HK 0 rfl _ rfl rfl rfl ?_ | refine wpList_kci HK 1 rfl _ rfl rfl rfl rfl ?_ | (refine wpList_ksl HK 2 rfl _ _ rfl rfl rfl rfl rfl ?_; intro _ HK' _; simp only [List.set] at HK'; replace HK := HK'; clear HK') | (refine wpList_ksp HK 3 rfl _ _ rfl rfl rfl rfl rfl ?_; intro _ HK' _; simp only [List.set] at HK'; replace HK := HK'; clear HK'))
      exact ret_take Try.results28 rfl rfl rfl rfl rfl rfl (HK.out.blk 2 rfl) (HK.out.blk 3 rfl) ⟨A1, c1, rfl, HK.out.own 0 rfl, HK.out.b⟩
    · have d0 : (tc != 0) = true := by simpa using h0
      simp only [if_neg h0]
      clear h0
      go_enter Try.func28, Try.ntmps28
      go_wp2_with (first | refine wpList_kll HK 0 rfl _ rfl rfl rfl ?_ | refine wpList_klp HK 1 rfl _ rfl rfl rfl ?_)
      refine (HC.out _).mono ?_; rintro e w1 ⟨rfl, b1⟩
      replace HK := Lib.hid (HK.out.call b1)
      clear b1 HC
      go_wp2_with (first | refine wpList_kll HK 0 rfl _ rfl rfl rfl ?_ | refine wpList_kci HK 1 rfl _ rfl rfl rfl rfl ?_)
      refine (HM.out _ HK.out.b).mono ?_; rintro e w2 ⟨A1, c1, rfl, o1, b1⟩
      replace HK := Lib.hid (HK.out.called b1 o1)
      clear b1 o1 HM
      unfold lA at *
      simp only [List.nil_append] at HK
      go_wp2_with (first | (refine wpList_ksl HK 0 rfl _ _ rfl rfl rfl rfl rfl ?_; intro _ HK' _; simp only [List.set] at HK'; replace HK := HK'; clear HK') | refine wpList_kci HK 1 rfl _ rfl rfl rfl rfl ?_ | refine wpList_kll HK 0 rfl _ rfl rfl rfl ?_)
      refine (HV.out _ _ _ _ (HK.out.own 0 rfl)).mono ?_; rintro e w3 ⟨A2, c2, rfl, o2, b2⟩
      have HK3 : Hid (Kn w.heap.size w w3 [(w.heap.size, 27, lC (.slice A1 mout.length c1) mms mmc mps mpc mbase qgot mage), (w.heap.size + 1, 36, pC fs fc ts tc seq ack body), (w.heap.size + 2, 27, lC (.slice none 0 0) 0 0 0 0 0 0 0), (w.heap.size + 3, 36, pC 0 0 0 0 0 0 ⟨#[]⟩)] [row strLay (.slice A2 qout.length c2) qout]) := Lib.hid (by
        rcases o2 with o2 | ⟨rfl, rfl, ho⟩
        · exact (HK.out.called b2 o2).dropR 1
        · rw [ho]; exact HK.out.call b2)
      replace HK := HK3
      clear HK3 o2 b2 HV
      go_wp2_with (first | (refine wpList_ksl HK 0 rfl _ _ rfl rfl rfl rfl rfl ?_; intro _ HK' _; simp only [List.set] at HK'; replace HK := HK'; clear HK') | refine wpList_kll HK 0 rfl _ rfl rfl rfl ?_ | refine wpList_kci HK 1 rfl _ rfl rfl rfl rfl ?_ | (refine wpList_ksl HK 2 rfl _ _ rfl rfl rfl rfl rfl ?_; intro _ HK' _; simp only [List.set] at HK'; replace HK := HK'; clear HK') | (refine wpList_ksp HK 3 rfl _ _ rfl rfl rfl rfl rfl ?_; intro _ HK' _; simp only [List.set] at HK'; replace HK := HK'; clear HK'))
      exact ret_take Try.results28 rfl rfl rfl rfl rfl rfl (HK.out.blk 2 rfl) (HK.out.blk 3 rfl) ⟨A2, c2, rfl, HK.out.own 0 rfl, HK.out.b⟩
  · obtain rfl : df = false := by rw [← hdf]; exact decide_eq_false h1
    clear hdf h1 HO
    have d1 : decide (seq < 1) = false := by simpa using h2
    rcases h3 with h3 | ⟨h3, h4⟩
    · subst h3
      simp only [if_true]
      go_enter Try.func28, Try.ntmps28
      go_wp2_with (first | refine wpList_kll HK 0 rfl _ rfl rfl rfl ?_ | refine wpList_klp HK 1 rfl _ rfl rfl rfl ?_)
      refine (HC.out _).mono ?_; rintro e w1 ⟨rfl, b1⟩
      replace HK := Lib.hid (HK.out.call b1)
      clear b1 HC
      go_wp2_with (first | refine wpList_kll HK 0 rfl _ rfl rfl rfl ?_ | refine wpList_kci HK 1 rfl _ rfl rfl rfl rfl ?_)
      refine (HM.out _ HK.out.b).mono ?_; rintro e w2 ⟨A1, c1, rfl, o1, b1⟩
      replace HK := Lib.hid (HK.out.called b1 o1)
      clear b1 o1 HM
      unfold lA at *
      simp only [List.nil_append] at HK
      go_wp2_with (first | (refine wpList_ksl HK 0 rfl _ _ rfl rfl rfl rfl rfl ?_; intro _ HK' _; simp only [List.set] at HK'; replace HK := HK'; clear HK') | refine wpList_kll HK 0 rfl _ rfl rfl rfl ?_ | refine wpList_kci HK 1 rfl _ rfl rfl rfl rfl ?_ | refine wpList_kci HK 0 rfl _ rfl rfl rfl rfl ?_ | (refine wpList_ksl HK 2 rfl _ _ rfl rfl rfl rfl rfl ?_; intro _ HK' _; simp only [List.set] at HK'; replace HK := HK'; clear HK') | (refine wpList_ksp HK 3 rfl _ _ rfl rfl rfl rfl rfl ?_; intro _ HK' _; simp only [List.set] at HK'; replace HK := HK'; clear HK'))
      replace HK := Lib.hid HK.out.drew
      have HP := Lib.hid (fun W => HPk.out (.slice A1 mout.length c1) mms mmc mps mpc mbase qgot mage W)
      have HH := Lib.hid ((HK.out.takeL 2).takeR 0)
      refine wp_region_held_drew (S := (fun W => Hid (Kn w.heap.size w W [(w.heap.size, 27, lC (.slice A1 mout.length c1) mms mmc mps mpc mbase qgot mage), (w.heap.size + 1, 36, pC fs fc ts 0 seq ack body)] []))) (by kernel_rfl) ?_ (fun hHeld => ?_)
      · (try dsimp only); exact HH
      refine wpAnyH_take (i := 0) (oi := ⟨some 46, _, _, _, _, _⟩) (v := ?_) rfl (by kernel_rfl) (by kernel_rfl) (by kernel_rfl) (fun _ _ _ h => h) (Or.inl ⟨by rfl, ?_⟩) (by assumption) ?_
      rotate_left
      · (intro w hSw; refine Eq.trans (kexec_ll hSw 0 _ (by rfl) (by rfl) (by rfl)) ?_; with_reducible rfl)
      try simp only [Act.put, List.setIfInBounds_toArray, List.set_cons_zero, List.set_cons_succ]
      refine wpAnyH_take (i := 1) (oi := ⟨some 47, _, _, _, _, _⟩) (v := ?_) rfl (by kernel_rfl) (by kernel_rfl) (by kernel_rfl) (fun _ _ _ h => h) (Or.inl ⟨by rfl, ?_⟩) (by assumption) ?_
      rotate_left
      · (intro w hSw; refine Eq.trans (kexec_ll hSw 0 _ (by rfl) (by rfl) (by rfl)) ?_; with_reducible rfl)
      try simp only [Act.put, List.setIfInBounds_toArray, List.set_cons_zero, List.set_cons_succ]
      refine wpAnyH_ready (rs := [2]) (by kernel_rfl) (by simp) ?_
      refine AllReadyH.cons (o := ⟨some 48, _, _, _, _, _⟩) rfl (fun K hK => ?_) AllReadyH.nil
      go_simp
      go_at_call 40
      refine (HP.out _).mono ?_; rintro e w5 ⟨rfl, b5⟩; replace HK := Lib.hid (HK.out.call b5); have hs := Lib.hid ((HK.out.takeL 2).takeR 0); clear b5; unfold pA
      refine hK.out _ _ hs (fun hHeld => ?_)
      clear hK K
      try simp only 
      refine wpAnyH_ready (rs := [3]) (by kernel_rfl) (by simp) ?_
      refine AllReadyH.cons (o := ⟨none, _, _, _, _, _⟩) rfl (fun K hK => ?_) AllReadyH.nil
      refine step_ksl HK 2 (by rfl) _ _ (by rfl) (by rfl) (by rfl) (by rfl) (by rfl) ?_; intro _ HK' _; simp only [List.set] at HK'; replace HK := HK'; clear HK'; have hs := Lib.hid ((HK.out.takeL 2).takeR 0)
      refine hK.out _ _ hs (fun hHeld => ?_)
      clear hK K
      try simp only [Act.put]
      refine wpAnyH_take (i := 4) (oi := ⟨some 5, _, _, _, _, _⟩) (v := ?_) rfl (by kernel_rfl) (by kernel_rfl) (by kernel_rfl) (fun _ _ _ h => h) (Or.inl ⟨by rfl, ?_⟩) (by assumption) ?_
      rotate_left
      · (intro w hSw; (try dsimp only at hSw); go_simp; try with_reducible rfl)
      try simp only [Act.put, List.setIfInBounds_toArray, List.set_cons_zero, List.set_cons_succ]
      refine wpAnyH_take (i := 5) (oi := ⟨some 6, _, _, _, _, _⟩) (v := ?_) rfl (by kernel_rfl) (by kernel_rfl) (by kernel_rfl) (fun _ _ _ h => h) (Or.inl ⟨by rfl, ?_⟩) (by assumption) ?_
      rotate_left
      · (intro w hSw; (try dsimp only at hSw); go_simp; try with_reducible rfl)
      try simp only [Act.put, List.setIfInBounds_toArray, List.set_cons_zero, List.set_cons_succ]
      refine wpAnyH_ready (rs := [6]) (by kernel_rfl) (by simp) ?_
      refine AllReadyH.cons (o := ⟨none, _, _, _, _, _⟩) rfl (fun K hK => ?_) AllReadyH.nil
      refine step_ksp HK 3 (by rfl) _ _ (by rfl) (by rfl) (by rfl) (by rfl) (by rfl) ?_; intro _ HK' _; simp only [List.set] at HK'; replace HK := HK'; clear HK'; have hs := Lib.hid ((HK.out.takeL 2).takeR 0)
      refine hK.out _ _ hs (fun hHeld => ?_)
      clear hK K
      try simp only [Act.put]
      refine wpAnyH_take (i := 7) (oi := ⟨some 8, _, _, _, _, _⟩) (v := ?_) rfl (by kernel_rfl) (by kernel_rfl) (by kernel_rfl) (fun _ _ _ h => h) (Or.inl ⟨by rfl, ?_⟩) (by assumption) ?_
      rotate_left
      · (intro w hSw; (try dsimp only at hSw); go_simp; try with_reducible rfl)
      try simp only [Act.put, List.setIfInBounds_toArray, List.set_cons_zero, List.set_cons_succ]
      refine wpAnyH_done (by kernel_rfl) ?_ _
      go_wp2_with fail
      exact ret_take Try.results28 rfl rfl rfl rfl rfl rfl (HK.out.blk 2 rfl) (HK.out.blk 3 rfl) ⟨A1, c1, rfl, HK.out.own 0 rfl, HK.out.b⟩
    · simp only [if_neg h3] at h4 ⊢
      have d0 : (tc != 0) = true := by simpa using h3
      have d2 : (seq != qgot + 1) = true := by simpa using h4
      clear h3 h4
      go_enter Try.func28, Try.ntmps28
      go_wp2_with (first | refine wpList_kll HK 0 rfl _ rfl rfl rfl ?_ | refine wpList_klp HK 1 rfl _ rfl rfl rfl ?_)
      refine (HC.out _).mono ?_; rintro e w1 ⟨rfl, b1⟩
      replace HK := Lib.hid (HK.out.call b1)
      clear b1 HC
      go_wp2_with (first | refine wpList_kll HK 0 rfl _ rfl rfl rfl ?_ | refine wpList_kci HK 1 rfl _ rfl rfl rfl rfl ?_)
      refine (HM.out _ HK.out.b).mono ?_; rintro e w2 ⟨A1, c1, rfl, o1, b1⟩
      replace HK := Lib.hid (HK.out.called b1 o1)
      clear b1 o1 HM
      unfold lA at *
      simp only [List.nil_append] at HK
      go_wp2_with (first | (refine wpList_ksl HK 0 rfl _ _ rfl rfl rfl rfl rfl ?_; intro _ HK' _; simp only [List.set] at HK'; replace HK := HK'; clear HK') | refine wpList_kci HK 1 rfl _ rfl rfl rfl rfl ?_ | refine wpList_kll HK 0 rfl _ rfl rfl rfl ?_)
      refine (HV.out _ _ _ _ (HK.out.own 0 rfl)).mono ?_; rintro e w3 ⟨A2, c2, rfl, o2, b2⟩
      have HK3 : Hid (Kn w.heap.size w w3 [(w.heap.size, 27, lC (.slice A1 mout.length c1) mms mmc mps mpc mbase qgot mage), (w.heap.size + 1, 36, pC fs fc ts tc seq ack body), (w.heap.size + 2, 27, lC (.slice none 0 0) 0 0 0 0 0 0 0), (w.heap.size + 3, 36, pC 0 0 0 0 0 0 ⟨#[]⟩)] [row strLay (.slice A2 qout.length c2) qout]) := Lib.hid (by
        rcases o2 with o2 | ⟨rfl, rfl, ho⟩
        · exact (HK.out.called b2 o2).dropR 1
        · rw [ho]; exact HK.out.call b2)
      replace HK := HK3
      clear HK3 o2 b2 HV
      go_wp2_with (first | (refine wpList_ksl HK 0 rfl _ _ rfl rfl rfl rfl rfl ?_; intro _ HK' _; simp only [List.set] at HK'; replace HK := HK'; clear HK') | refine wpList_kll HK 0 rfl _ rfl rfl rfl ?_ | refine wpList_kci HK 1 rfl _ rfl rfl rfl rfl ?_ | refine wpList_kci HK 0 rfl _ rfl rfl rfl rfl ?_ | (refine wpList_ksl HK 2 rfl _ _ rfl rfl rfl rfl rfl ?_; intro _ HK' _; simp only [List.set] at HK'; replace HK := HK'; clear HK') | (refine wpList_ksp HK 3 rfl _ _ rfl rfl rfl rfl rfl ?_; intro _ HK' _; simp only [List.set] at HK'; replace HK := HK'; clear HK'))
      replace HK := Lib.hid HK.out.drew
      have HP := Lib.hid (fun W => HPk.out (.slice A2 qout.length c2) qms qmc qps qpc qbase qgot qage W)
      have HH := Lib.hid ((HK.out.takeL 2).takeR 0)
      refine wp_region_held_drew (S := (fun W => Hid (Kn w.heap.size w W [(w.heap.size, 27, lC (.slice A2 qout.length c2) qms qmc qps qpc qbase qgot qage), (w.heap.size + 1, 36, pC fs fc ts tc seq ack body)] []))) (by kernel_rfl) ?_ (fun hHeld => ?_)
      · (try dsimp only); exact HH
      refine wpAnyH_take (i := 0) (oi := ⟨some 46, _, _, _, _, _⟩) (v := ?_) rfl (by kernel_rfl) (by kernel_rfl) (by kernel_rfl) (fun _ _ _ h => h) (Or.inl ⟨by rfl, ?_⟩) (by assumption) ?_
      rotate_left
      · (intro w hSw; refine Eq.trans (kexec_ll hSw 0 _ (by rfl) (by rfl) (by rfl)) ?_; with_reducible rfl)
      try simp only [Act.put, List.setIfInBounds_toArray, List.set_cons_zero, List.set_cons_succ]
      refine wpAnyH_take (i := 1) (oi := ⟨some 47, _, _, _, _, _⟩) (v := ?_) rfl (by kernel_rfl) (by kernel_rfl) (by kernel_rfl) (fun _ _ _ h => h) (Or.inl ⟨by rfl, ?_⟩) (by assumption) ?_
      rotate_left
      · (intro w hSw; refine Eq.trans (kexec_ll hSw 0 _ (by rfl) (by rfl) (by rfl)) ?_; with_reducible rfl)
      try simp only [Act.put, List.setIfInBounds_toArray, List.set_cons_zero, List.set_cons_succ]
      refine wpAnyH_ready (rs := [2]) (by kernel_rfl) (by simp) ?_
      refine AllReadyH.cons (o := ⟨some 48, _, _, _, _, _⟩) rfl (fun K hK => ?_) AllReadyH.nil
      go_simp
      go_at_call 40
      refine (HP.out _).mono ?_; rintro e w5 ⟨rfl, b5⟩; replace HK := Lib.hid (HK.out.call b5); have hs := Lib.hid ((HK.out.takeL 2).takeR 0); clear b5; unfold pA
      refine hK.out _ _ hs (fun hHeld => ?_)
      clear hK K
      try simp only 
      refine wpAnyH_ready (rs := [3]) (by kernel_rfl) (by simp) ?_
      refine AllReadyH.cons (o := ⟨none, _, _, _, _, _⟩) rfl (fun K hK => ?_) AllReadyH.nil
      refine step_ksl HK 2 (by rfl) _ _ (by rfl) (by rfl) (by rfl) (by rfl) (by rfl) ?_; intro _ HK' _; simp only [List.set] at HK'; replace HK := HK'; clear HK'; have hs := Lib.hid ((HK.out.takeL 2).takeR 0)
      refine hK.out _ _ hs (fun hHeld => ?_)
      clear hK K
      try simp only [Act.put]
      refine wpAnyH_take (i := 4) (oi := ⟨some 5, _, _, _, _, _⟩) (v := ?_) rfl (by kernel_rfl) (by kernel_rfl) (by kernel_rfl) (fun _ _ _ h => h) (Or.inl ⟨by rfl, ?_⟩) (by assumption) ?_
      rotate_left
      · (intro w hSw; (try dsimp only at hSw); go_simp; try with_reducible rfl)
      try simp only [Act.put, List.setIfInBounds_toArray, List.set_cons_zero, List.set_cons_succ]
      refine wpAnyH_take (i := 5) (oi := ⟨some 6, _, _, _, _, _⟩) (v := ?_) rfl (by kernel_rfl) (by kernel_rfl) (by kernel_rfl) (fun _ _ _ h => h) (Or.inl ⟨by rfl, ?_⟩) (by assumption) ?_
      rotate_left
      · (intro w hSw; (try dsimp only at hSw); go_simp; try with_reducible rfl)
      try simp only [Act.put, List.setIfInBounds_toArray, List.set_cons_zero, List.set_cons_succ]
      refine wpAnyH_ready (rs := [6]) (by kernel_rfl) (by simp) ?_
      refine AllReadyH.cons (o := ⟨none, _, _, _, _, _⟩) rfl (fun K hK => ?_) AllReadyH.nil
      refine step_ksp HK 3 (by rfl) _ _ (by rfl) (by rfl) (by rfl) (by rfl) (by rfl) ?_; intro _ HK' _; simp only [List.set] at HK'; replace HK := HK'; clear HK'; have hs := Lib.hid ((HK.out.takeL 2).takeR 0)
      refine hK.out _ _ hs (fun hHeld => ?_)
      clear hK K
      try simp only [Act.put]
      refine wpAnyH_take (i := 7) (oi := ⟨some 8, _, _, _, _, _⟩) (v := ?_) rfl (by kernel_rfl) (by kernel_rfl) (by kernel_rfl) (fun _ _ _ h => h) (Or.inl ⟨by rfl, ?_⟩) (by assumption) ?_
      rotate_left
      · (intro w hSw; (try dsimp only at hSw); go_simp; try with_reducible rfl)
      try simp only [Act.put, List.setIfInBounds_toArray, List.set_cons_zero, List.set_cons_succ]
      refine wpAnyH_done (by kernel_rfl) ?_ _
      go_wp2_with fail
      exact ret_take Try.results28 rfl rfl rfl rfl rfl rfl (HK.out.blk 2 rfl) (HK.out.blk 3 rfl) ⟨A2, c2, rfl, HK.out.own 0 rfl, HK.out.b⟩
  · obtain rfl : df = false := by rw [← hdf]; exact decide_eq_false h1
    clear hdf h1 HO
    have d1 : decide (seq < 1) = false := by simpa using h2
    simp only [if_neg h3] at h4 ⊢
    have d0 : (tc != 0) = true := by simpa using h3
    have d2 : (seq != qgot + 1) = false := by simpa using h4
    clear h3 h4
    go_enter Try.func28, Try.ntmps28
    go_wp2_with (first | refine wpList_kll HK 0 rfl _ rfl rfl rfl ?_ | refine wpList_klp HK 1 rfl _ rfl rfl rfl ?_)
    refine (HC.out _).mono ?_; rintro e w1 ⟨rfl, b1⟩
    replace HK := Lib.hid (HK.out.call b1)
    clear b1 HC
    go_wp2_with (first | refine wpList_kll HK 0 rfl _ rfl rfl rfl ?_ | refine wpList_kci HK 1 rfl _ rfl rfl rfl rfl ?_)
    refine (HM.out _ HK.out.b).mono ?_; rintro e w2 ⟨A1, c1, rfl, o1, b1⟩
    replace HK := Lib.hid (HK.out.called b1 o1)
    clear b1 o1 HM
    unfold lA at *
    simp only [List.nil_append] at HK
    go_wp2_with (first | (refine wpList_ksl HK 0 rfl _ _ rfl rfl rfl rfl rfl ?_; intro _ HK' _; simp only [List.set] at HK'; replace HK := HK'; clear HK') | refine wpList_kci HK 1 rfl _ rfl rfl rfl rfl ?_ | refine wpList_kll HK 0 rfl _ rfl rfl rfl ?_)
    refine (HV.out _ _ _ _ (HK.out.own 0 rfl)).mono ?_; rintro e w3 ⟨A2, c2, rfl, o2, b2⟩
    have HK3 : Hid (Kn w.heap.size w w3 [(w.heap.size, 27, lC (.slice A1 mout.length c1) mms mmc mps mpc mbase qgot mage), (w.heap.size + 1, 36, pC fs fc ts tc seq ack body), (w.heap.size + 2, 27, lC (.slice none 0 0) 0 0 0 0 0 0 0), (w.heap.size + 3, 36, pC 0 0 0 0 0 0 ⟨#[]⟩)] [row strLay (.slice A2 qout.length c2) qout]) := Lib.hid (by
      rcases o2 with o2 | ⟨rfl, rfl, ho⟩
      · exact (HK.out.called b2 o2).dropR 1
      · rw [ho]; exact HK.out.call b2)
    replace HK := HK3
    clear HK3 o2 b2 HV
    go_wp2_with (first | (refine wpList_ksl HK 0 rfl _ _ rfl rfl rfl rfl rfl ?_; intro _ HK' _; simp only [List.set] at HK'; replace HK := HK'; clear HK') | refine wpList_kll HK 0 rfl _ rfl rfl rfl ?_ | refine wpList_kci HK 1 rfl _ rfl rfl rfl rfl ?_ | refine wpList_kci HK 0 rfl _ rfl rfl rfl rfl ?_ | (refine wpList_k6 HK 0 rfl _ _ rfl rfl rfl rfl ?_; intro _ HK' _; simp only [List.set] at HK'; replace HK := HK'; clear HK') | (refine wpList_ksl HK 2 rfl _ _ rfl rfl rfl rfl rfl ?_; intro _ HK' _; simp only [List.set] at HK'; replace HK := HK'; clear HK') | (refine wpList_ksp HK 3 rfl _ _ rfl rfl rfl rfl rfl ?_; intro _ HK' _; simp only [List.set] at HK'; replace HK := HK'; clear HK'))
    replace HK := Lib.hid HK.out.drew
    have HP := Lib.hid (fun W => HPk.out (.slice A2 qout.length c2) qms qmc qps qpc qbase seq qage W)
    have HH := Lib.hid ((HK.out.takeL 2).takeR 0)
    refine wp_region_held_drew (S := (fun W => Hid (Kn w.heap.size w W [(w.heap.size, 27, lC (.slice A2 qout.length c2) qms qmc qps qpc qbase seq qage), (w.heap.size + 1, 36, pC fs fc ts tc seq ack body)] []))) (by kernel_rfl) ?_ (fun hHeld => ?_)
    · (try dsimp only); exact HH
    refine wpAnyH_take (i := 0) (oi := ⟨some 52, _, _, _, _, _⟩) (v := ?_) rfl (by kernel_rfl) (by kernel_rfl) (by kernel_rfl) (fun _ _ _ h => h) (Or.inl ⟨by rfl, ?_⟩) (by assumption) ?_
    rotate_left
    · (intro w hSw; refine Eq.trans (kexec_ll hSw 0 _ (by rfl) (by rfl) (by rfl)) ?_; with_reducible rfl)
    try simp only [Act.put, List.setIfInBounds_toArray, List.set_cons_zero, List.set_cons_succ]
    refine wpAnyH_take (i := 1) (oi := ⟨some 53, _, _, _, _, _⟩) (v := ?_) rfl (by kernel_rfl) (by kernel_rfl) (by kernel_rfl) (fun _ _ _ h => h) (Or.inl ⟨by rfl, ?_⟩) (by assumption) ?_
    rotate_left
    · (intro w hSw; (try dsimp only at hSw); go_simp; try with_reducible rfl)
    try simp only [Act.put, List.setIfInBounds_toArray, List.set_cons_zero, List.set_cons_succ]
    refine wpAnyH_take (i := 2) (oi := ⟨some 54, _, _, _, _, _⟩) (v := ?_) rfl (by kernel_rfl) (by kernel_rfl) (by kernel_rfl) (fun _ _ _ h => h) (Or.inl ⟨by rfl, ?_⟩) (by assumption) ?_
    rotate_left
    · (intro w hSw; refine Eq.trans (kexec_cs hSw 1 _ (by rfl) (by rfl) (by rfl) (by rfl)) ?_; with_reducible rfl)
    try simp only [Act.put, List.setIfInBounds_toArray, List.set_cons_zero, List.set_cons_succ]
    refine wpAnyH_take (i := 3) (oi := ⟨some 55, _, _, _, _, _⟩) (v := ?_) rfl (by kernel_rfl) (by kernel_rfl) (by kernel_rfl) (fun _ _ _ h => h) (Or.inl ⟨by rfl, ?_⟩) (by assumption) ?_
    rotate_left
    · (intro w hSw; refine Eq.trans (kexec_ll hSw 0 _ (by rfl) (by rfl) (by rfl)) ?_; with_reducible rfl)
    try simp only [Act.put, List.setIfInBounds_toArray, List.set_cons_zero, List.set_cons_succ]
    refine wpAnyH_ready (rs := [4]) (by kernel_rfl) (by simp) ?_
    refine AllReadyH.cons (o := ⟨some 56, _, _, _, _, _⟩) rfl (fun K hK => ?_) AllReadyH.nil
    go_simp
    go_at_call 40
    refine (HP.out _).mono ?_; rintro e w5 ⟨rfl, b5⟩; replace HK := Lib.hid (HK.out.call b5); have hs := Lib.hid ((HK.out.takeL 2).takeR 0); clear b5; unfold pA
    refine hK.out _ _ hs (fun hHeld => ?_)
    clear hK K
    try simp only 
    refine wpAnyH_ready (rs := [5]) (by kernel_rfl) (by simp) ?_
    refine AllReadyH.cons (o := ⟨none, _, _, _, _, _⟩) rfl (fun K hK => ?_) AllReadyH.nil
    refine step_ksl HK 2 (by rfl) _ _ (by rfl) (by rfl) (by rfl) (by rfl) (by rfl) ?_; intro _ HK' _; simp only [List.set] at HK'; replace HK := HK'; clear HK'; have hs := Lib.hid ((HK.out.takeL 2).takeR 0)
    refine hK.out _ _ hs (fun hHeld => ?_)
    clear hK K
    try simp only [Act.put]
    refine wpAnyH_take (i := 6) (oi := ⟨some 5, _, _, _, _, _⟩) (v := ?_) rfl (by kernel_rfl) (by kernel_rfl) (by kernel_rfl) (fun _ _ _ h => h) (Or.inl ⟨by rfl, ?_⟩) (by assumption) ?_
    rotate_left
    · (intro w hSw; (try dsimp only at hSw); go_simp; try with_reducible rfl)
    try simp only [Act.put, List.setIfInBounds_toArray, List.set_cons_zero, List.set_cons_succ]
    refine wpAnyH_take (i := 7) (oi := ⟨some 6, _, _, _, _, _⟩) (v := ?_) rfl (by kernel_rfl) (by kernel_rfl) (by kernel_rfl) (fun _ _ _ h => h) (Or.inl ⟨by rfl, ?_⟩) (by assumption) ?_
    rotate_left
    · (intro w hSw; (try dsimp only at hSw); go_simp; try with_reducible rfl)
    try simp only [Act.put, List.setIfInBounds_toArray, List.set_cons_zero, List.set_cons_succ]
    refine wpAnyH_ready (rs := [8]) (by kernel_rfl) (by simp) ?_
    refine AllReadyH.cons (o := ⟨none, _, _, _, _, _⟩) rfl (fun K hK => ?_) AllReadyH.nil
    refine step_ksp HK 3 (by rfl) _ _ (by rfl) (by rfl) (by rfl) (by rfl) (by rfl) ?_; intro _ HK' _; simp only [List.set] at HK'; replace HK := HK'; clear HK'; have hs := Lib.hid ((HK.out.takeL 2).takeR 0)
    refine hK.out _ _ hs (fun hHeld => ?_)
    clear hK K
    try simp only [Act.put]
    refine wpAnyH_take (i := 9) (oi := ⟨some 8, _, _, _, _, _⟩) (v := ?_) rfl (by kernel_rfl) (by kernel_rfl) (by kernel_rfl) (fun _ _ _ h => h) (Or.inl ⟨by rfl, ?_⟩) (by assumption) ?_
    rotate_left
    · (intro w hSw; (try dsimp only at hSw); go_simp; try with_reducible rfl)
    try simp only [Act.put, List.setIfInBounds_toArray, List.set_cons_zero, List.set_cons_succ]
    refine wpAnyH_done (by kernel_rfl) ?_ _
    go_wp2_with fail
    exact ret_take Try.results28 rfl rfl rfl rfl rfl rfl (HK.out.blk 2 rfl) (HK.out.blk 3 rfl) ⟨A2, c2, rfl, HK.out.own 0 rfl, HK.out.b⟩
end Go.Proofs.Ytamjcghdebjpjaa
