/-
  What Lose returns.
  No condition but that the messages are no more than the form's reach.
-/
import Derived.Test.YtkajnmlglgjocaaPostSend
import Derived.WalkKit
import Derived.WalkSpells
import Derived.WalkLawsBesides
import Derived.Handy
import Derived.Deep.QuietTactic
import Derived.BigQuiet
import Derived.Deep.RegionWith
import Derived.Deep.RegionHeld3
import Derived.Deep.Draws
import Derived.Lib.Hide
import Derived.Lib.LazyBuf
namespace Go.Proofs.Ytkajnmlglgjocaa
open Go.RowKit


theorem has_pre (n : Nat) (i : Int) (b : Bool) (h : decide (0 ≤ i ∧ i < (n : Int)) = b) : Hid (∀ (A : Option Addr) (c : Nat) (s : Nat → Int) (W : World), Calls Try.prog 29 #[pv A n c s, .int .i64 i] W fun e w' => e = .returned (.bool b) ∧ Below W.heap.size W w') :=
  Lib.hid fun A c s W => h ▸ has_any A n c s i W
theorem at_is (p : Pst.P) (i : Int) : (Pst.at' p i = none ∧ decide (0 ≤ i ∧ i < (p.m.length : Int)) = false) ∨ ∃ (k : Nat) (m : Pst.Mail), i = k ∧ k < p.m.length ∧ p.m[k]? = some m ∧ Pst.at' p i = some m ∧ decide (0 ≤ i ∧ i < (p.m.length : Int)) = true := by
  cases h : Pst.at' p i with
  | none =>
    have := Pst.at_none h
    exact .inl ⟨rfl, by rw [decide_eq_false_iff_not]; omega⟩
  | some m =>
    obtain ⟨h1, h2, h3⟩ := Pst.at_some h
    exact .inr ⟨i.toNat, m, by omega, h2, h3, rfl, by rw [decide_eq_true_eq]; omega⟩
theorem lose_is (p : Pst.P) (i : Int) : (decide (0 ≤ i ∧ i < (p.m.length : Int)) = false ∧ Pst.lose p i = (p, 5)) ∨
    ∃ (k : Nat) (l1 l2 : List Pst.Mail), i = k ∧ k < p.m.length ∧ decide (0 ≤ i ∧ i < (p.m.length : Int)) = true ∧ l1 = p.m.take k ∧ l2 = p.m.drop (k + 1) ∧ l1.length = k ∧ l2.length = p.m.length - (k + 1) ∧ Pst.lose p i = (⟨l1 ++ l2, p.s⟩, 0) := by
  unfold Pst.lose
  rcases at_is p i with ⟨h1, h2⟩ | ⟨k, m, rfl, h1, h2, h3, h4⟩
  · rw [h1]; exact .inl ⟨h2, rfl⟩
  · rw [h3]
    refine .inr ⟨k, _, _, rfl, h1, h4, rfl, rfl, by rw [List.length_take]; omega, List.length_drop .., ?_⟩
    simp only [Int.toNat_natCast, List.eraseIdx_eq_take_drop_succ]
theorem reads_tail {W : World} {B c k : Nat} {A : Option Addr} {l : List Pst.Mail} (h : mailLay.Reads W B A l) (hc : l.length ≤ c) : mailLay.Reads W B (if c = k then A else A.map (·.add (k * 4))) (l.drop k) := by
  split
  · intro hp
    rw [List.length_drop] at hp
    omega
  · intro hp
    have hp2 := hp
    rw [List.length_drop] at hp
    obtain ⟨b, o, rfl, _⟩ := h (by omega)
    have h1 := h.drop k
    obtain ⟨b', o', e, hb, hc⟩ := h1 hp2
    refine ⟨b', o', ?_, hb, hc⟩
    rw [← e]
    simp [Lay.add_at, mailLay]
theorem tail_none {c k : Nat} {A : Option Addr} {l : List Pst.Mail} (hA : A = none → l = []) : (if c = k then A else A.map (·.add (k * 4))) = none → l.drop k = [] := fun h => by
  have : A = none := by
    split at h
    · exact h
    · simpa using h
  rw [hA this, List.drop_nil]

set_option maxHeartbeats 3200000 in
theorem lose_any (A : Option Addr) (c : Nat) (p : Pst.P) (i : Int) (w : World) (hl : p.m.length ≤ 5000000000000) (hi : mailLay.Reads w w.heap.size A p.m) (hA : A = none → p.m = []) (hcap : p.m.length ≤ c) :
    Calls Try.prog 15 #[pv A p.m.length c p.s, .int .i64 i] w (IsPE (Pst.lose p i) w) := by
  obtain ⟨HP0, HR0, HB0, hsz⟩ := made2 w 25 (pc A p.m.length c p.s) 25 (pc none 0 0 fun _ => 0)
  have HO := own_pre (c := c) rfl hl hi hA
  rcases lose_is p i with ⟨hf, he⟩ | ⟨k, l1, l2, rfl, hk, hf, e1, e2, hk1, hk2, he⟩
  · have HE := Lib.hid he
    have HH := has_pre _ _ _ hf
    clear hf he hi hA
    unfold pv at HO HH ⊢
    go_enter Try.func15, Try.ntmps15
    go_wp2_with (refine wpList_lp rfl _ rfl HP0 rfl ?_)
    refine (HH.out _ _ _ _).mono ?_; rintro e w1 ⟨rfl, b1⟩
    have HB1 := Lib.hid (Lift.then2 HB0.out b1)
    have HP1 := Blk.hb HP0 b1
    have HR1 := Blk.hb HR0 b1
    clear b1
    go_wp2_with (refine wpList_lp rfl _ rfl HP1 rfl ?_)
    refine (HO.out _ HB1.out).mono ?_; rintro e w2 ⟨A2, c2, rfl, o2, b2⟩
    have HO2 := Lib.hid (o2.mono HB1.out.size)
    have HB2 := Lib.hid (Lift.then2 HB1.out b2)
    have HR2 := Blk.hb HR1 b2
    clear b2 o2
    go_wp2_with (refine wpList_sp rfl _ _ rfl HR2 rfl rfl (Nat.le_add_right w.heap.size 1) ?_)
    intro w3 HS
    go_wp2_with fail
    refine ret_pe Try.results15 rfl rfl rfl HS.out.blk ?_
    rw [HE.out]
    exact ⟨A2, c2, rfl, HO2.out.turned ne_mp HS.out.turns, below_turns HB2.out HS.out.turns (Nat.le_refl _)⟩
  · have HE := Lib.hid he
    have HH := has_pre _ _ _ hf
    have HC : Hid (∀ W, Below w.heap.size w W → Calls Try.prog 30 #[.slice A k c] W (IsMails l1 W)) := Lib.hid fun W hW => by
      have h1 := (hi.later hW (Nat.le_refl _)).take k
      rw [← e1] at h1
      exact clone_any A c k l1 W hk1 (by omega) h1 (fun h => by rw [e1, hA h, List.take_nil])
    obtain ⟨AT, hAT⟩ : ∃ B, B = if c = k + 1 then A else A.map (·.add ((k + 1) * 4)) := ⟨_, rfl⟩
    have HI2 : Hid (∀ W, Below w.heap.size w W → mailLay.Reads W W.heap.size AT l2) := Lib.hid fun W hW => by
      have h1 := reads_tail (k := k + 1) (hi.later hW (Nat.le_refl _)) hcap
      rw [← e2, ← hAT] at h1
      exact h1
    have HA2 : Hid (AT = none → l2 = []) := Lib.hid fun h => by
      have h1 := tail_none (c := c) (k := k + 1) hA
      rw [← e2, ← hAT] at h1
      exact h1 h
    have HAT := Lib.hid hAT
    have HL1 : Hid (l1.length + l2.length ≤ 9223372036854775807) := Lib.hid (by omega)
    have HL2 : Hid ((l1.length + l2.length) * mailLay.bytes ≤ 211106232532992) := Lib.hid (by show _ * 40 ≤ _; omega)
    have HK2 := Lib.hid hk2.symm
    have HKW : Hid (Value.int .i64 (IntKind.i64.wrap ((k : Int) + 1)) = Value.int .i64 ((k + 1 : Nat) : Int)) := Lib.hid (by rw [IntWalk.i64_in _ (by omega)]; rfl)
    have hkc : k ≤ p.m.length := by omega
    have hkd : k + 1 ≤ p.m.length := by omega
    clear hf he hi hA e1 e2 hAT hk1 hk2
    unfold pv at HO HH ⊢
    generalize p.m.length = n at *
    go_enter Try.func15, Try.ntmps15
    go_wp2_with (refine wpList_lp rfl _ rfl HP0 rfl ?_)
    refine (HH.out _ _ _ _).mono ?_; rintro e w1 ⟨rfl, b1⟩
    have HB1 : Hid (Below w.heap.size w w1.drew) := Lib.hid (Lift.then2 HB0.out b1).drew
    have HP1 : Hid (Blk w1.drew w.heap.size 25 (pc A n c p.s)) := Lib.hid (Blk.hb HP0 b1).out
    have HR1 : Hid (Blk w1.drew (w.heap.size + 1) 25 (pc none 0 0 fun _ => 0)) := Lib.hid (Blk.hb HR0 b1).out
    obtain ⟨x1, y1⟩ := Blk.one (Blk.hb HP0 b1) 0 (v := .slice A n c) rfl
    clear b1
    go_wp2_with fail
    refine wp_region_any (by kernel_rfl) ?_
    change wpAny _ _ _ _ _ _ _ (World.drew _)
    refine wpAny_take (i := 0) (oi := ⟨some 12, _, _, _, _, _⟩) (v := ?_) rfl (by kernel_rfl) (by kernel_rfl) (by kernel_rfl) (fun _ _ _ h => h) (Or.inl ⟨by rfl, ?_⟩) ?_
    rotate_left
    · (intro w; go_simp; try with_reducible rfl)
    try simp only [Act.put, List.setIfInBounds_toArray, List.set_cons_zero, List.set_cons_succ]
    refine wpAny_take (i := 2) (oi := ⟨some 14, _, _, _, _, _⟩) (v := ?_) rfl (by kernel_rfl) (by kernel_rfl) (by kernel_rfl) (fun _ _ _ h => h) (Or.inl ⟨by rfl, ?_⟩) ?_
    rotate_left
    · (intro w; go_simp; try with_reducible rfl)
    try simp only [Act.put, List.setIfInBounds_toArray, List.set_cons_zero, List.set_cons_succ]
    refine wpAny_take (i := 5) (oi := ⟨some 17, _, _, _, _, _⟩) (v := ?_) rfl (by kernel_rfl) (by kernel_rfl) (by kernel_rfl) (fun _ _ _ h => h) (Or.inl ⟨by rfl, ?_⟩) ?_
    rotate_left
    · (intro w; go_simp; try with_reducible rfl)
    try simp only [Act.put, List.setIfInBounds_toArray, List.set_cons_zero, List.set_cons_succ]
    refine wpAny_take (i := 7) (oi := ⟨some 19, _, _, _, _, _⟩) (v := ?_) rfl (by kernel_rfl) (by kernel_rfl) (by kernel_rfl) (fun _ _ _ h => h) (Or.inl ⟨by rfl, ?_⟩) ?_
    rotate_left
    · (intro w; go_simp; try with_reducible rfl)
    try simp only [Act.put, List.setIfInBounds_toArray, List.set_cons_zero, List.set_cons_succ]
    refine wpAny_take (i := 8) (oi := ⟨some 20, _, _, _, _, _⟩) (v := ?_) rfl (by kernel_rfl) (by kernel_rfl) (by kernel_rfl) (fun _ _ _ h => h) (Or.inl ⟨by rfl, ?_⟩) ?_
    rotate_left
    · (intro w; go_simp; try with_reducible rfl)
    try simp only [Act.put, List.setIfInBounds_toArray, List.set_cons_zero, List.set_cons_succ]
    refine wpAny_ready (rs := [1, 6]) (by kernel_rfl) (by simp) ?_
    refine AllReady.cons (o := ⟨some 13, _, _, _, _, _⟩) rfl (fun K hK => ?_) (AllReady.cons (o := ⟨some 18, _, _, _, _, _⟩) rfl (fun K hK => ?_) AllReady.nil)
    replace hK := Lib.hid hK
    go_simp
    refine hK.out _ _ ?_
    clear hK K
    try simp only [Act.put, List.setIfInBounds_toArray, List.set_cons_zero, List.set_cons_succ]
    refine wpAny_take (i := 3) (oi := ⟨some 15, _, _, _, _, _⟩) (v := ?_) rfl (by kernel_rfl) (by kernel_rfl) (by kernel_rfl) (fun _ _ _ h => h) (Or.inl ⟨by rfl, ?_⟩) ?_
    rotate_left
    · (intro w; refine Eq.trans (exec_head (by rfl) (by rfl) (by rfl) hkc hcap) ?_; with_reducible rfl)
    try simp only [Act.put, List.setIfInBounds_toArray, List.set_cons_zero, List.set_cons_succ]
    refine wpAny_ready (rs := [4, 6]) (by kernel_rfl) (by simp) ?_
    refine AllReady.cons (o := ⟨some 16, _, _, _, _, _⟩) rfl (fun K hK => ?_) (AllReady.cons (o := ⟨some 18, _, _, _, _, _⟩) rfl (fun K hK => ?_) AllReady.nil)
    replace hK := Lib.hid hK
    go_simp
    go_at_call 30
    refine (HC.out _ HB1.out).mono ?_; rintro e w2 ⟨A2, c2, rfl, o2, b2⟩; have HO2 := Lib.hid (o2.mono HB1.out.size); have HB2 := Lib.hid (Lift.then2 HB1.out b2); have HP2 := Blk.hb HP1 b2; have HR2 := Blk.hb HR1 b2; obtain ⟨x2, y2⟩ := Blk.one HP2 0 (v := .slice A n c) rfl; clear o2 b2
    refine hK.out _ _ ?_
    clear hK K
    try simp only [Act.put, List.setIfInBounds_toArray, List.set_cons_zero, List.set_cons_succ]
    refine wpAny_ready (rs := [6]) (by kernel_rfl) (by simp) ?_
    refine AllReady.cons (o := ⟨some 18, _, _, _, _, _⟩) rfl (fun K hK => ?_) AllReady.nil
    replace hK := Lib.hid hK
    go_simp
    refine hK.out _ _ ?_
    clear hK K
    try simp only [Act.put, List.setIfInBounds_toArray, List.set_cons_zero, List.set_cons_succ]
    refine wpAny_take (i := 9) (oi := ⟨some 21, _, _, _, _, _⟩) (v := ?_) rfl (by kernel_rfl) (by kernel_rfl) (by kernel_rfl) (fun _ _ _ h => h) (Or.inl ⟨by rfl, ?_⟩) ?_
    rotate_left
    · (intro w; refine Eq.trans (exec_tail HAT (by rfl) (by rfl) (by exact HKW.out) hkd) ?_; with_reducible rfl)
    try simp only [Act.put, List.setIfInBounds_toArray, List.set_cons_zero, List.set_cons_succ]
    refine wpAny_ready (rs := [10]) (by kernel_rfl) (by simp) ?_
    refine AllReady.cons (o := ⟨some 22, _, _, _, _, _⟩) rfl (fun K hK => ?_) AllReady.nil
    replace hK := Lib.hid hK
    refine mailLay.step_more (by rfl) (.tmp 16) (.tmp 21) (by rfl) w.heap.size w2 _ l1 AT (n - (k + 1)) (c - (k + 1)) w2.heap.size l2 (by rfl) (by rfl) HK2.out HO2.out (HI2.out _ HB2.out) HA2.out HL1.out HL2.out HB2.out.size ?_; intro v3 w3 HR3 HT3 hs3; generalize l1 ++ l2 = l3 at *; obtain ⟨A3, c3, hv⟩ := HR3.out.shape; subst hv; have HP3 := Lib.hid (HP2.out.turned HT3.out (by decide)); have HB3 := Lib.hid (below_turns HB2.out HT3.out (Nat.le_refl _)); have HQ3 := Lib.hid (HR2.out.turned HT3.out (by decide)); have HP4 := Lib.hid (pc_mails A A3 n c l3.length c3 p.s ▸ HP3.out.set_ 0 (.slice A3 l3.length c3)); have HQ4 := Lib.hid (HQ3.out.far (p := ⟨w.heap.size, 0, none⟩) (by simp) (.slice A3 l3.length c3)); have HT4 := Lib.hid (turns_cell HP3.out (Nat.le_refl w.heap.size) 0 (.slice A3 l3.length c3)); obtain ⟨x3, y3⟩ := Blk.one HP3 0 (v := .slice A n c) rfl; clear HT3
    refine hK.out _ _ ?_
    clear hK K
    try simp only [Act.put, List.setIfInBounds_toArray, List.set_cons_zero, List.set_cons_succ]
    refine wpAny_take (i := 11) (oi := ⟨some 23, _, _, _, _, _⟩) (v := ?_) rfl (by kernel_rfl) (by kernel_rfl) (by kernel_rfl) (fun _ _ _ h => h) (Or.inl ⟨by rfl, ?_⟩) ?_
    rotate_left
    · (intro w; go_simp; try with_reducible rfl)
    try simp only [Act.put, List.setIfInBounds_toArray, List.set_cons_zero, List.set_cons_succ]
    refine wpAny_ready (rs := [12]) (by kernel_rfl) (by simp) ?_
    refine AllReady.cons (o := ⟨none, _, _, _, _, _⟩) rfl (fun K hK => ?_) AllReady.nil
    replace hK := Lib.hid hK
    go_simp
    refine hK.out _ _ ?_
    clear hK K
    try simp only [Act.put, List.setIfInBounds_toArray, List.set_cons_zero, List.set_cons_succ]
    refine wpAny_done (by kernel_rfl) ?_ _
    rotate_left
    replace hK := Lib.hid hK
    go_simp
    refine hK.out _ _ ?_
    clear hK K
    try simp only [Act.put, List.setIfInBounds_toArray, List.set_cons_zero, List.set_cons_succ]
    refine wpAny_take (i := 9) (oi := ⟨some 21, _, _, _, _, _⟩) (v := ?_) rfl (by kernel_rfl) (by kernel_rfl) (by kernel_rfl) (fun _ _ _ h => h) (Or.inl ⟨by rfl, ?_⟩) ?_
    rotate_left
    · (intro w; refine Eq.trans (exec_tail HAT (by rfl) (by rfl) (by exact HKW.out) hkd) ?_; with_reducible rfl)
    try simp only [Act.put, List.setIfInBounds_toArray, List.set_cons_zero, List.set_cons_succ]
    refine wpAny_ready (rs := [4]) (by kernel_rfl) (by simp) ?_
    refine AllReady.cons (o := ⟨some 16, _, _, _, _, _⟩) rfl (fun K hK => ?_) AllReady.nil
    replace hK := Lib.hid hK
    go_simp
    go_at_call 30
    refine (HC.out _ HB1.out).mono ?_; rintro e w2 ⟨A2, c2, rfl, o2, b2⟩; have HO2 := Lib.hid (o2.mono HB1.out.size); have HB2 := Lib.hid (Lift.then2 HB1.out b2); have HP2 := Blk.hb HP1 b2; have HR2 := Blk.hb HR1 b2; obtain ⟨x2, y2⟩ := Blk.one HP2 0 (v := .slice A n c) rfl; clear o2 b2
    refine hK.out _ _ ?_
    clear hK K
    try simp only [Act.put, List.setIfInBounds_toArray, List.set_cons_zero, List.set_cons_succ]
    refine wpAny_ready (rs := [10]) (by kernel_rfl) (by simp) ?_
    refine AllReady.cons (o := ⟨some 22, _, _, _, _, _⟩) rfl (fun K hK => ?_) AllReady.nil
    replace hK := Lib.hid hK
    refine mailLay.step_more (by rfl) (.tmp 16) (.tmp 21) (by rfl) w.heap.size w2 _ l1 AT (n - (k + 1)) (c - (k + 1)) w2.heap.size l2 (by rfl) (by rfl) HK2.out HO2.out (HI2.out _ HB2.out) HA2.out HL1.out HL2.out HB2.out.size ?_; intro v3 w3 HR3 HT3 hs3; generalize l1 ++ l2 = l3 at *; obtain ⟨A3, c3, hv⟩ := HR3.out.shape; subst hv; have HP3 := Lib.hid (HP2.out.turned HT3.out (by decide)); have HB3 := Lib.hid (below_turns HB2.out HT3.out (Nat.le_refl _)); have HQ3 := Lib.hid (HR2.out.turned HT3.out (by decide)); have HP4 := Lib.hid (pc_mails A A3 n c l3.length c3 p.s ▸ HP3.out.set_ 0 (.slice A3 l3.length c3)); have HQ4 := Lib.hid (HQ3.out.far (p := ⟨w.heap.size, 0, none⟩) (by simp) (.slice A3 l3.length c3)); have HT4 := Lib.hid (turns_cell HP3.out (Nat.le_refl w.heap.size) 0 (.slice A3 l3.length c3)); obtain ⟨x3, y3⟩ := Blk.one HP3 0 (v := .slice A n c) rfl; clear HT3
    refine hK.out _ _ ?_
    clear hK K
    try simp only [Act.put, List.setIfInBounds_toArray, List.set_cons_zero, List.set_cons_succ]
    refine wpAny_take (i := 11) (oi := ⟨some 23, _, _, _, _, _⟩) (v := ?_) rfl (by kernel_rfl) (by kernel_rfl) (by kernel_rfl) (fun _ _ _ h => h) (Or.inl ⟨by rfl, ?_⟩) ?_
    rotate_left
    · (intro w; go_simp; try with_reducible rfl)
    try simp only [Act.put, List.setIfInBounds_toArray, List.set_cons_zero, List.set_cons_succ]
    refine wpAny_ready (rs := [12]) (by kernel_rfl) (by simp) ?_
    refine AllReady.cons (o := ⟨none, _, _, _, _, _⟩) rfl (fun K hK => ?_) AllReady.nil
    replace hK := Lib.hid hK
    go_simp
    refine hK.out _ _ ?_
    clear hK K
    try simp only [Act.put, List.setIfInBounds_toArray, List.set_cons_zero, List.set_cons_succ]
    refine wpAny_done (by kernel_rfl) ?_ _
    rotate_left
    replace hK := Lib.hid hK
    go_simp
    refine hK.out _ _ ?_
    clear hK K
    try simp only [Act.put, List.setIfInBounds_toArray, List.set_cons_zero, List.set_cons_succ]
    refine wpAny_take (i := 9) (oi := ⟨some 21, _, _, _, _, _⟩) (v := ?_) rfl (by kernel_rfl) (by kernel_rfl) (by kernel_rfl) (fun _ _ _ h => h) (Or.inl ⟨by rfl, ?_⟩) ?_
    rotate_left
    · (intro w; refine Eq.trans (exec_tail HAT (by rfl) (by rfl) (by exact HKW.out) hkd) ?_; with_reducible rfl)
    try simp only [Act.put, List.setIfInBounds_toArray, List.set_cons_zero, List.set_cons_succ]
    refine wpAny_ready (rs := [1]) (by kernel_rfl) (by simp) ?_
    refine AllReady.cons (o := ⟨some 13, _, _, _, _, _⟩) rfl (fun K hK => ?_) AllReady.nil
    replace hK := Lib.hid hK
    go_simp
    refine hK.out _ _ ?_
    clear hK K
    try simp only [Act.put, List.setIfInBounds_toArray, List.set_cons_zero, List.set_cons_succ]
    refine wpAny_take (i := 3) (oi := ⟨some 15, _, _, _, _, _⟩) (v := ?_) rfl (by kernel_rfl) (by kernel_rfl) (by kernel_rfl) (fun _ _ _ h => h) (Or.inl ⟨by rfl, ?_⟩) ?_
    rotate_left
    · (intro w; refine Eq.trans (exec_head (by rfl) (by rfl) (by rfl) hkc hcap) ?_; with_reducible rfl)
    try simp only [Act.put, List.setIfInBounds_toArray, List.set_cons_zero, List.set_cons_succ]
    refine wpAny_ready (rs := [4]) (by kernel_rfl) (by simp) ?_
    refine AllReady.cons (o := ⟨some 16, _, _, _, _, _⟩) rfl (fun K hK => ?_) AllReady.nil
    replace hK := Lib.hid hK
    go_simp
    go_at_call 30
    refine (HC.out _ HB1.out).mono ?_; rintro e w2 ⟨A2, c2, rfl, o2, b2⟩; have HO2 := Lib.hid (o2.mono HB1.out.size); have HB2 := Lib.hid (Lift.then2 HB1.out b2); have HP2 := Blk.hb HP1 b2; have HR2 := Blk.hb HR1 b2; obtain ⟨x2, y2⟩ := Blk.one HP2 0 (v := .slice A n c) rfl; clear o2 b2
    refine hK.out _ _ ?_
    clear hK K
    try simp only [Act.put, List.setIfInBounds_toArray, List.set_cons_zero, List.set_cons_succ]
    refine wpAny_ready (rs := [10]) (by kernel_rfl) (by simp) ?_
    refine AllReady.cons (o := ⟨some 22, _, _, _, _, _⟩) rfl (fun K hK => ?_) AllReady.nil
    replace hK := Lib.hid hK
    refine mailLay.step_more (by rfl) (.tmp 16) (.tmp 21) (by rfl) w.heap.size w2 _ l1 AT (n - (k + 1)) (c - (k + 1)) w2.heap.size l2 (by rfl) (by rfl) HK2.out HO2.out (HI2.out _ HB2.out) HA2.out HL1.out HL2.out HB2.out.size ?_; intro v3 w3 HR3 HT3 hs3; generalize l1 ++ l2 = l3 at *; obtain ⟨A3, c3, hv⟩ := HR3.out.shape; subst hv; have HP3 := Lib.hid (HP2.out.turned HT3.out (by decide)); have HB3 := Lib.hid (below_turns HB2.out HT3.out (Nat.le_refl _)); have HQ3 := Lib.hid (HR2.out.turned HT3.out (by decide)); have HP4 := Lib.hid (pc_mails A A3 n c l3.length c3 p.s ▸ HP3.out.set_ 0 (.slice A3 l3.length c3)); have HQ4 := Lib.hid (HQ3.out.far (p := ⟨w.heap.size, 0, none⟩) (by simp) (.slice A3 l3.length c3)); have HT4 := Lib.hid (turns_cell HP3.out (Nat.le_refl w.heap.size) 0 (.slice A3 l3.length c3)); obtain ⟨x3, y3⟩ := Blk.one HP3 0 (v := .slice A n c) rfl; clear HT3
    refine hK.out _ _ ?_
    clear hK K
    try simp only [Act.put, List.setIfInBounds_toArray, List.set_cons_zero, List.set_cons_succ]
    refine wpAny_take (i := 11) (oi := ⟨some 23, _, _, _, _, _⟩) (v := ?_) rfl (by kernel_rfl) (by kernel_rfl) (by kernel_rfl) (fun _ _ _ h => h) (Or.inl ⟨by rfl, ?_⟩) ?_
    rotate_left
    · (intro w; go_simp; try with_reducible rfl)
    try simp only [Act.put, List.setIfInBounds_toArray, List.set_cons_zero, List.set_cons_succ]
    refine wpAny_ready (rs := [12]) (by kernel_rfl) (by simp) ?_
    refine AllReady.cons (o := ⟨none, _, _, _, _, _⟩) rfl (fun K hK => ?_) AllReady.nil
    replace hK := Lib.hid hK
    go_simp
    refine hK.out _ _ ?_
    clear hK K
    try simp only [Act.put, List.setIfInBounds_toArray, List.set_cons_zero, List.set_cons_succ]
    refine wpAny_done (by kernel_rfl) ?_ _
    rotate_left
    all_goals
      go_wp2_with (first | refine wpList_lp rfl _ rfl HP4 rfl ?_ | refine wpList_sp rfl _ _ rfl HQ4 rfl rfl (Nat.le_add_right w.heap.size 1) ?_)
      intro w5 HS
      go_wp2_with fail
      refine ret_pe Try.results15 rfl rfl rfl HS.out.blk ?_
      rw [HE.out]
      exact ⟨A3, c3, rfl, (HR3.out.turned ne_mp HT4.out).turned ne_mp HS.out.turns, below_turns (below_turns HB3.out HT4.out (Nat.le_refl _)) HS.out.turns (Nat.le_refl _)⟩
end Go.Proofs.Ytkajnmlglgjocaa
