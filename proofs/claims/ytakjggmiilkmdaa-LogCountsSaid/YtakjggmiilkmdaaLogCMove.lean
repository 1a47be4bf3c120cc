/-
  What log's Part, Trim, Stay and Take return.
  No condition but what the slice reads as, and that the log may be.
-/
import Derived.Test.YtakjggmiilkmdaaLogSmall
set_option linter.unusedSimpArgs false
set_option linter.unusedVariables false
namespace Go.Proofs.Ytakjggmiilkmdaa
open Go.RowKit

section
variable {o : Oper} {a : Act} {w : World} {x y m : Int} {ts : Array TypeId}
theorem exec_bmax (p q : Operand) (ho : o.op = .call { callee := .builtin .max, args := #[p, q], argTypes := ts }) (hx : a.eval p = .int .i64 x) (hy : a.eval q = .int .i64 y) (hm : (if y > x then y else x) = m) :
    (execOp a.eval o).run Try.prog w = .ok (.value (.int .i64 m)) w := by
  subst hm
  unfold execOp
  simp only [ho]
  generalize a.eval = ev at *
  go_simp
theorem exec_bmin (p q : Operand) (ho : o.op = .call { callee := .builtin .min, args := #[p, q], argTypes := ts }) (hx : a.eval p = .int .i64 x) (hy : a.eval q = .int .i64 y) (hm : (if y < x then y else x) = m) :
    (execOp a.eval o).run Try.prog w = .ok (.value (.int .i64 m)) w := by
  subst hm
  unfold execOp
  simp only [ho]
  generalize a.eval = ev at *
  go_simp
end
theorem take_min (D : List Cmd.E) (k : Nat) : D.take (min k D.length) = D.take k := by
  rcases Nat.le_total k D.length with h | h
  · rw [Nat.min_eq_left h]
  · rw [Nat.min_eq_right h, List.take_of_length_le h, List.take_of_length_le (Nat.le_refl _)]
set_option maxRecDepth 100000 in
set_option maxHeartbeats 6400000 in
theorem lcpart_any (G : World → Prop) (l : Lg) (A : Option Addr) (n c : Nat) (f most : Int) (w : World) (hs : Sls evLay lvF w A n c l.ev) (hr : Lgm.Right l) :
    Calls Try.prog 32 #[.agg #[.int .i64 l.b, .int .i64 l.c, .int .i64 l.d, .slice A n c], .int .i64 f, .int .i64 most] w (IsPtT G (Lgm.pf l f) (Lgm.part l f most) w) := by
  have hn := hs.len
  obtain ⟨r1, r2, r3, r4, r5, r6, r7⟩ := hr
  have hn16 : n ≤ 16 := by omega
  have HE := Lib.hid (fun W => lcend_any l A n c W hn r1 r3 (by omega))
  have hen : Lgm.en l = l.b + (n : Int) := by unfold Lgm.en; rw [hn]
  have hpb : l.b ≤ Lgm.pf l f ∧ Lgm.pf l f ≤ l.b + (n : Int) := by
    unfold Lgm.pf
    split
    · omega
    · split <;> omega
  obtain ⟨lo, hlo⟩ : ∃ P : Nat, (Lgm.pf l f - l.b).toNat = P := ⟨_, rfl⟩
  have hlon : lo ≤ n := by omega
  have hsub : IntKind.i64.wrap (Lgm.pf l f - l.b) = (lo : Int) := by rw [IntKind.wrap_i64]; omega
  have H2 := hs.drop (lo := lo) hlon
  obtain ⟨hi, hhi⟩ : ∃ hi : Nat, min most.toNat (n - lo) = hi := ⟨_, rfl⟩
  have hhin : hi ≤ n - lo := by omega
  have H3 := H2.take (hi := hi) hhin
  have hhic : hi ≤ c - lo := Nat.le_trans hhin H2.cap
  have HPt : Hid (Lgm.part l f most = (l.ev.drop lo).take hi) := Lib.hid (by
    unfold Lgm.part
    rw [hlo, ← hhi]
    have h1 := take_min (l.ev.drop lo) most.toNat
    rw [H2.len] at h1
    exact h1.symm)
  have HC := Lib.hid (fun W (hW : Below w.heap.size w W) => lcclone_any G _ hi (c - lo) _ W (H3.later hW))
  obtain ⟨m1, hm1⟩ : ∃ m1 : Int, (if l.b > f then l.b else f) = m1 := ⟨_, rfl⟩
  have hm2 : (if Lgm.en l < m1 then Lgm.en l else m1) = Lgm.pf l f := by
    rw [← hm1]
    unfold Lgm.pf
    split <;> split <;> (try split) <;> omega
  obtain ⟨m3, hm3⟩ : ∃ m3 : Int, (if (0 : Int) > most then 0 else most) = m3 := ⟨_, rfl⟩
  have hm4 : (if ((n - lo : Nat) : Int) < m3 then ((n - lo : Nat) : Int) else m3) = (hi : Int) := by
    rw [← hm3]
    split <;> split <;> omega
  have HM1 := Lib.hid hm1
  have HM2 := Lib.hid hm2
  have HM3 := Lib.hid hm3
  have HM4 := Lib.hid hm4
  have HK := kn1 w 24 (lgC l.b l.c l.d (.slice A n c))
  unfold IsNm at HE
  unfold IsSlT at HC
  unfold IsPtT
  rw [HPt.out]
  generalize (l.ev.drop lo).take hi = D at *
  generalize Lgm.pf l f = pf at *
  generalize Lgm.en l = en at *
  clear hs hn r1 r2 r3 r4 r5 r6 r7 hpb HPt H2 H3 hm1 hm2 hm3 hm4 hen hlo hhi
  obtain ⟨b, cc, d, ev⟩ := l
  simp only at *
  go_enter Try.func32, Try.ntmps32
  go_wp2_with fail
  have HK0 := Lib.hid HK.out.drew
  clear HK
  refine wp_region_held_drew (S := (fun W => Hid (Kn w.heap.size w W [(w.heap.size, 24, lgC b cc d (.slice A n c))] []))) (by kernel_rfl) ?_ (fun hHeld => ?_)
  · (try dsimp only); exact HK0
  refine wpAnyH_take (i := 0) (oi := ⟨some 11, _, _, _, _, _⟩) (v := ?_) rfl (by kernel_rfl) (by kernel_rfl) (by kernel_rfl) (fun _ _ _ h => h) (Or.inl ⟨by rfl, ?_⟩) (by assumption) ?_
  rotate_left
  · (intro w hSw; (try dsimp only at hSw); go_simp; try with_reducible rfl)
  try simp only [Act.put, List.setIfInBounds_toArray, List.set_cons_zero, List.set_cons_succ]
  refine wpAnyH_take (i := 1) (oi := ⟨some 12, _, _, _, _, _⟩) (v := ?_) rfl (by kernel_rfl) (by kernel_rfl) (by kernel_rfl) (fun _ _ _ h => h) (Or.inl ⟨by rfl, ?_⟩) (by assumption) ?_
  rotate_left
  · (intro w hSw; (try dsimp only at hSw); go_simp; try with_reducible rfl)
  try simp only [Act.put, List.setIfInBounds_toArray, List.set_cons_zero, List.set_cons_succ]
  refine wpAnyH_take (i := 2) (oi := ⟨some 13, _, _, _, _, _⟩) (v := ?_) rfl (by kernel_rfl) (by kernel_rfl) (by kernel_rfl) (fun _ _ _ h => h) (Or.inl ⟨by rfl, ?_⟩) (by assumption) ?_
  rotate_left
  · (intro w hSw; refine Eq.trans (klg_b hSw 0 _ (by rfl) (by rfl) (by rfl)) ?_; with_reducible rfl)
  try simp only [Act.put, List.setIfInBounds_toArray, List.set_cons_zero, List.set_cons_succ]
  refine wpAnyH_take (i := 3) (oi := ⟨some 14, _, _, _, _, _⟩) (v := ?_) rfl (by kernel_rfl) (by kernel_rfl) (by kernel_rfl) (fun _ _ _ h => h) (Or.inl ⟨by rfl, ?_⟩) (by assumption) ?_
  rotate_left
  · (intro w hSw; refine Eq.trans (exec_bmax (m := m1) _ _ (by rfl) (by rfl) (by rfl) HM1.out) ?_; with_reducible rfl)
  try simp only [Act.put, List.setIfInBounds_toArray, List.set_cons_zero, List.set_cons_succ]
  refine wpAnyH_take (i := 4) (oi := ⟨some 15, _, _, _, _, _⟩) (v := ?_) rfl (by kernel_rfl) (by kernel_rfl) (by kernel_rfl) (fun _ _ _ h => h) (Or.inl ⟨by rfl, ?_⟩) (by assumption) ?_
  rotate_left
  · (intro w hSw; refine Eq.trans (klg hSw 0 _ (by rfl) (by rfl) (by rfl)) ?_; with_reducible rfl)
  try simp only [Act.put, List.setIfInBounds_toArray, List.set_cons_zero, List.set_cons_succ]
  refine wpAnyH_ready (rs := [5]) (by kernel_rfl) (by simp) ?_
  refine AllReadyH.cons (o := ⟨some 16, _, _, _, _, _⟩) rfl (fun K hK => ?_) AllReadyH.nil
  go_simp
  go_at_call 15
  refine (HE.out _).mono ?_; rintro e w5 ⟨rfl, b5⟩; have hs := Lib.hid (hHeld.out.call b5); clear b5
  refine hK.out _ _ hs (fun hHeld => ?_)
  clear hK K
  try simp only [ap1, ap2, ap3, ap4, ap5]
  refine wpAnyH_take (i := 6) (oi := ⟨some 17, _, _, _, _, _⟩) (v := ?_) rfl (by kernel_rfl) (by kernel_rfl) (by kernel_rfl) (fun _ _ _ h => h) (Or.inl ⟨by rfl, ?_⟩) (by assumption) ?_
  rotate_left
  · (intro w hSw; refine Eq.trans (exec_bmin (m := pf) _ _ (by rfl) (by rfl) (by rfl) HM2.out) ?_; with_reducible rfl)
  try simp only [Act.put, List.setIfInBounds_toArray, List.set_cons_zero, List.set_cons_succ]
  refine wpAnyH_take (i := 7) (oi := ⟨some 8, _, _, _, _, _⟩) (v := ?_) rfl (by kernel_rfl) (by kernel_rfl) (by kernel_rfl) (fun _ _ _ h => h) (Or.inl ⟨by rfl, ?_⟩) (by assumption) ?_
  rotate_left
  · (intro w hSw; (try dsimp only at hSw); go_simp; try with_reducible rfl)
  try simp only [Act.put, List.setIfInBounds_toArray, List.set_cons_zero, List.set_cons_succ]
  refine wpAnyH_done (by kernel_rfl) ?_ _
  all_goals
    have HK := hHeld
    clear HK0 hHeld HE HM1 HM2
    go_wp2_with (first | refine wpList_exe (klg_e HK 0 _ (by rfl) (by rfl) (by rfl)) (by rfl) ?_ | refine wpList_exe (klg_b HK 0 _ (by rfl) (by rfl) (by rfl)) (by rfl) ?_ | refine wpList_exe (exec_sls_l evLay (lo := lo) _ _ (by rfl) (by rfl) (by rfl) hlon) (by rfl) ?_ | refine wpList_exe (exec_bmax (m := m3) _ _ (by rfl) (by rfl) (by rfl) HM3.out) (by rfl) ?_ | refine wpList_exe (exec_bmin (m := (hi : Int)) _ _ (by rfl) (by rfl) (by rfl) HM4.out) (by rfl) ?_ | refine wpList_exe (exec_sls_h evLay (hi := hi) _ _ (by rfl) (by rfl) (by rfl) hhic) (by rfl) ?_)
    refine (HC.out _ HK.out.b).mono ?_; rintro e w1 ⟨A5, c5, Rn, rfl, hkn, HTl⟩
    replace HK := Lib.hid (HK.out.join hkn)
    simp only [List.nil_append] at HK
    clear hkn HC
    go_wp2_with fail
    exact ret_t2 Try.results32 rfl rfl rfl ⟨A5, hi, c5, Rn, rfl, HK.out.takeL 0, HTl⟩
set_option maxRecDepth 100000 in
set_option maxHeartbeats 6400000 in
theorem lctrim_any (G : World → Prop) (l : Lg) (A : Option Addr) (n c : Nat) (k : Int) (w : World) (hs : Sls evLay lvF w A n c l.ev) (hr : Lgm.Right l) :
    Calls Try.prog 28 #[.agg #[.int .i64 l.b, .int .i64 l.c, .int .i64 l.d, .slice A n c], .int .i64 k] w (IsLgT G (Lgm.trim l k) w) := by
  have hn := hs.len
  have HC := Lib.hid (fun W (hW : Below w.heap.size w W) => lcpart_any G l A n c (Lgm.tm l k) (n : Int) W (hs.later hW) hr)
  obtain ⟨r1, r2, r3, r4, r5, r6, r7⟩ := hr
  have hen : Lgm.en l = l.b + (n : Int) := by unfold Lgm.en; rw [hn]
  have HM : Hid ((if l.d < k then l.d else k) = Lgm.tm l k) := Lib.hid rfl
  have htd : Lgm.tm l k ≤ l.d := by unfold Lgm.tm; split <;> omega
  have HP : Hid (Lgm.trim l k = ⟨Lgm.pf l (Lgm.tm l k), l.c, l.d, Lgm.part l (Lgm.tm l k) (n : Int)⟩) := Lib.hid (by
    unfold Lgm.trim Lgm.part
    by_cases h : Lgm.tm l k ≤ l.b
    · rw [if_pos h]
      have h1 : Lgm.pf l (Lgm.tm l k) = l.b := by unfold Lgm.pf; split <;> (try split) <;> omega
      rw [h1, Int.sub_self, Int.toNat_zero, List.drop_zero, List.take_of_length_le (by rw [hn]; exact Nat.le_refl _)]
    · rw [if_neg h]
      have h1 : Lgm.pf l (Lgm.tm l k) = Lgm.tm l k := by unfold Lgm.pf; split <;> (try split) <;> omega
      rw [h1, List.take_of_length_le (by rw [List.length_drop, hn]; omega)])
  have HK := kn2 w 24 (lgC l.b l.c l.d (.slice A n c)) 24 (lgC 0 0 0 (.slice none 0 0))
  unfold IsPtT at HC
  unfold IsLgT
  rw [HP.out]
  generalize Lgm.part l (Lgm.tm l k) (n : Int) = D at *
  generalize Lgm.pf l (Lgm.tm l k) = pf at *
  generalize Lgm.tm l k = tm at *
  clear hs hn r1 r2 r3 r4 r5 r6 r7 hen htd HP
  obtain ⟨b, cc, d, ev⟩ := l
  simp only at *
  go_enter Try.func28, Try.ntmps28
  go_wp2_with (first | refine wpList_exe (klg HK 0 _ (by rfl) (by rfl) (by rfl)) (by rfl) ?_ | refine wpList_exe (klg_d HK 0 _ (by rfl) (by rfl) (by rfl)) (by rfl) ?_ | refine wpList_exe (exec_bmin (m := tm) _ _ (by rfl) (by rfl) (by rfl) HM.out) (by rfl) ?_ | refine wpList_exe (klg_e HK 0 _ (by rfl) (by rfl) (by rfl)) (by rfl) ?_)
  refine (HC.out _ HK.out.b).mono ?_; rintro e w1 ⟨A5, n5, c5, Rn, rfl, hkn, HTl⟩
  replace HK := Lib.hid (HK.out.join hkn)
  simp only [List.nil_append] at HK
  clear hkn HC
  go_wp2_with (first | (refine wpList_slg_b HK 0 rfl _ _ rfl rfl rfl rfl ?_; intro _ HK'; simp only [List.set] at HK'; replace HK := HK'; clear HK') | (refine wpList_slg_e HK 0 rfl _ _ rfl rfl rfl rfl ?_; intro _ HK'; simp only [List.set] at HK'; replace HK := HK'; clear HK') | refine wpList_exe (klg HK 0 _ (by rfl) (by rfl) (by rfl)) (by rfl) ?_ | (refine wpList_slg HK 1 rfl _ _ rfl rfl rfl rfl rfl ?_; intro _ HK'; simp only [List.set] at HK'; replace HK := HK'; clear HK'))
  exact ret_lg Try.results28 rfl rfl (HK.out.blk 1 rfl) ⟨A5, n5, c5, Rn, rfl, HK.out.takeL 0, HTl⟩
set_option maxRecDepth 100000 in
set_option maxHeartbeats 6400000 in
theorem lcstay_any (G : World → Prop) (l : Lg) (A : Option Addr) (n c : Nat) (k : Int) (w : World) (hs : Sls evLay lvF w A n c l.ev) (hr : Lgm.Right l) :
    Calls Try.prog 25 #[.agg #[.int .i64 l.b, .int .i64 l.c, .int .i64 l.d, .slice A n c], .int .i64 k] w (IsLgT G (Lgm.stay l k) w) := by
  have hn := hs.len
  obtain ⟨r1, r2, r3, r4, r5, r6, r7⟩ := hr
  have HE := Lib.hid (fun W => lcend_any l A n c W hn r1 r3 (by omega))
  obtain ⟨m2, hm2⟩ : ∃ m2 : Int, (if Lgm.sm l k > l.c then Lgm.sm l k else l.c) = m2 := ⟨_, rfl⟩
  have HM1 : Hid ((if Lgm.en l < k then Lgm.en l else k) = Lgm.sm l k) := Lib.hid rfl
  have HM2 := Lib.hid hm2
  have HP : Hid (Lgm.stay l k = ⟨l.b, m2, l.d, l.ev⟩) := Lib.hid (by
    rw [← hm2]
    unfold Lgm.stay
    by_cases h : l.c < Lgm.sm l k
    · rw [if_pos h, if_pos (show Lgm.sm l k > l.c from h)]
    · rw [if_neg h, if_neg (show ¬ Lgm.sm l k > l.c from h)])
  have HC := Lib.hid (fun W (hW : Below w.heap.size w W) => lcown_any G ⟨l.b, m2, l.d, l.ev⟩ A n c W (hs.later hW))
  have HK := kn2 w 24 (lgC l.b l.c l.d (.slice A n c)) 24 (lgC 0 0 0 (.slice none 0 0))
  unfold IsNm at HE
  unfold IsLgT at HC ⊢
  rw [HP.out]
  generalize Lgm.sm l k = sm at *
  generalize Lgm.en l = en at *
  clear hs hn r1 r2 r3 r4 r5 r6 r7 hm2 HP
  obtain ⟨b, cc, d, ev⟩ := l
  simp only at *
  go_enter Try.func25, Try.ntmps25
  go_wp2_with fail
  have HK0 := Lib.hid HK.out.drew
  clear HK
  refine wp_region_held_drew (S := (fun W => Hid (Kn w.heap.size w W [] []))) (by kernel_rfl) ?_ (fun hHeld => ?_)
  · (try dsimp only); exact Lib.hid (HK0.out.takeL 0)
  refine wpAnyH_take (i := 0) (oi := ⟨some 5, _, _, _, _, _⟩) (v := ?_) rfl (by kernel_rfl) (by kernel_rfl) (by kernel_rfl) (fun _ _ _ h => h) (Or.inl ⟨by rfl, ?_⟩) (by assumption) ?_
  rotate_left
  · (intro w hSw; (try dsimp only at hSw); go_simp; try with_reducible rfl)
  try simp only [Act.put, List.setIfInBounds_toArray, List.set_cons_zero, List.set_cons_succ]
  refine wpAnyH_take (i := 2) (oi := ⟨some 7, _, _, _, _, _⟩) (v := ?_) rfl (by kernel_rfl) (by kernel_rfl) (by kernel_rfl) (fun _ _ _ h => h) (Or.inl ⟨by rfl, ?_⟩) (by assumption) ?_
  rotate_left
  · (intro w hSw; (try dsimp only at hSw); go_simp; try with_reducible rfl)
  try simp only [Act.put, List.setIfInBounds_toArray, List.set_cons_zero, List.set_cons_succ]
  refine wpAnyH_ready (rs := [1, 3]) (by kernel_rfl) (by simp) ?_
  refine AllReadyH.cons (o := ⟨some 6, _, _, _, _, _⟩) rfl (fun K hK => ?_) (AllReadyH.cons (o := ⟨some 8, _, _, _, _, _⟩) rfl (fun K hK => ?_) AllReadyH.nil)
  refine step_of_exec (by rfl) (klg_c HK0 0 _ (by rfl) (by rfl) (by rfl)) ?_; have hs := hHeld
  refine hK.out _ _ hs (fun hHeld => ?_)
  clear hK K
  try simp only [ap1, ap2, ap3, ap4, ap5]
  refine wpAnyH_ready (rs := [3]) (by kernel_rfl) (by simp) ?_
  refine AllReadyH.cons (o := ⟨some 8, _, _, _, _, _⟩) rfl (fun K hK => ?_) AllReadyH.nil
  refine step_of_exec (by rfl) (klg HK0 0 _ (by rfl) (by rfl) (by rfl)) ?_; have hs := hHeld
  refine hK.out _ _ hs (fun hHeld => ?_)
  clear hK K
  try simp only [ap1, ap2, ap3, ap4, ap5]
  refine wpAnyH_ready (rs := [4]) (by kernel_rfl) (by simp) ?_
  refine AllReadyH.cons (o := ⟨some 9, _, _, _, _, _⟩) rfl (fun K hK => ?_) AllReadyH.nil
  go_simp
  go_at_call 15
  refine (HE.out _).mono ?_; rintro e w5 ⟨rfl, b5⟩; replace HK0 := Lib.hid (HK0.out.call b5); have hs := Lib.hid (HK0.out.takeL 0); clear b5
  refine hK.out _ _ hs (fun hHeld => ?_)
  clear hK K
  try simp only [ap1, ap2, ap3, ap4, ap5]
  refine wpAnyH_take (i := 5) (oi := ⟨some 10, _, _, _, _, _⟩) (v := ?_) rfl (by kernel_rfl) (by kernel_rfl) (by kernel_rfl) (fun _ _ _ h => h) (Or.inl ⟨by rfl, ?_⟩) (by assumption) ?_
  rotate_left
  · (intro w hSw; refine Eq.trans (exec_bmin (m := sm) _ _ (by rfl) (by rfl) (by rfl) HM1.out) ?_; with_reducible rfl)
  try simp only [Act.put, List.setIfInBounds_toArray, List.set_cons_zero, List.set_cons_succ]
  refine wpAnyH_take (i := 6) (oi := ⟨some 11, _, _, _, _, _⟩) (v := ?_) rfl (by kernel_rfl) (by kernel_rfl) (by kernel_rfl) (fun _ _ _ h => h) (Or.inl ⟨by rfl, ?_⟩) (by assumption) ?_
  rotate_left
  · (intro w hSw; refine Eq.trans (exec_bmax (m := m2) _ _ (by rfl) (by rfl) (by rfl) HM2.out) ?_; with_reducible rfl)
  try simp only [Act.put, List.setIfInBounds_toArray, List.set_cons_zero, List.set_cons_succ]
  refine wpAnyH_take (i := 7) (oi := ⟨some 12, _, _, _, _, _⟩) (v := ?_) rfl (by kernel_rfl) (by kernel_rfl) (by kernel_rfl) (fun _ _ _ h => h) (Or.inl ⟨by rfl, ?_⟩) (by assumption) ?_
  rotate_left
  · (intro w hSw; (try dsimp only at hSw); go_simp; try with_reducible rfl)
  try simp only [Act.put, List.setIfInBounds_toArray, List.set_cons_zero, List.set_cons_succ]
  refine wpAnyH_ready (rs := [8]) (by kernel_rfl) (by simp) ?_
  refine AllReadyH.cons (o := ⟨none, _, _, _, _, _⟩) rfl (fun K hK => ?_) AllReadyH.nil
  refine step_slg_c HK0 0 (by rfl) _ _ (by rfl) (by rfl) (by rfl) (by rfl) ?_; clear HK0; intro wq HK0; simp only [List.set] at HK0; have hs := Lib.hid (HK0.out.takeL 0)
  refine hK.out _ _ hs (fun hHeld => ?_)
  clear hK K
  try simp only [ap1, ap2, ap3, ap4, ap5]
  refine wpAnyH_done (by kernel_rfl) ?_ _
  rotate_left
  refine step_of_exec (by rfl) (klg HK0 0 _ (by rfl) (by rfl) (by rfl)) ?_; have hs := hHeld
  refine hK.out _ _ hs (fun hHeld => ?_)
  clear hK K
  try simp only [ap1, ap2, ap3, ap4, ap5]
  refine wpAnyH_ready (rs := [1, 4]) (by kernel_rfl) (by simp) ?_
  refine AllReadyH.cons (o := ⟨some 6, _, _, _, _, _⟩) rfl (fun K hK => ?_) (AllReadyH.cons (o := ⟨some 9, _, _, _, _, _⟩) rfl (fun K hK => ?_) AllReadyH.nil)
  refine step_of_exec (by rfl) (klg_c HK0 0 _ (by rfl) (by rfl) (by rfl)) ?_; have hs := hHeld
  refine hK.out _ _ hs (fun hHeld => ?_)
  clear hK K
  try simp only [ap1, ap2, ap3, ap4, ap5]
  refine wpAnyH_ready (rs := [4]) (by kernel_rfl) (by simp) ?_
  refine AllReadyH.cons (o := ⟨some 9, _, _, _, _, _⟩) rfl (fun K hK => ?_) AllReadyH.nil
  go_simp
  go_at_call 15
  refine (HE.out _).mono ?_; rintro e w5 ⟨rfl, b5⟩; replace HK0 := Lib.hid (HK0.out.call b5); have hs := Lib.hid (HK0.out.takeL 0); clear b5
  refine hK.out _ _ hs (fun hHeld => ?_)
  clear hK K
  try simp only [ap1, ap2, ap3, ap4, ap5]
  refine wpAnyH_take (i := 5) (oi := ⟨some 10, _, _, _, _, _⟩) (v := ?_) rfl (by kernel_rfl) (by kernel_rfl) (by kernel_rfl) (fun _ _ _ h => h) (Or.inl ⟨by rfl, ?_⟩) (by assumption) ?_
  rotate_left
  · (intro w hSw; refine Eq.trans (exec_bmin (m := sm) _ _ (by rfl) (by rfl) (by rfl) HM1.out) ?_; with_reducible rfl)
  try simp only [Act.put, List.setIfInBounds_toArray, List.set_cons_zero, List.set_cons_succ]
  refine wpAnyH_take (i := 6) (oi := ⟨some 11, _, _, _, _, _⟩) (v := ?_) rfl (by kernel_rfl) (by kernel_rfl) (by kernel_rfl) (fun _ _ _ h => h) (Or.inl ⟨by rfl, ?_⟩) (by assumption) ?_
  rotate_left
  · (intro w hSw; refine Eq.trans (exec_bmax (m := m2) _ _ (by rfl) (by rfl) (by rfl) HM2.out) ?_; with_reducible rfl)
  try simp only [Act.put, List.setIfInBounds_toArray, List.set_cons_zero, List.set_cons_succ]
  refine wpAnyH_take (i := 7) (oi := ⟨some 12, _, _, _, _, _⟩) (v := ?_) rfl (by kernel_rfl) (by kernel_rfl) (by kernel_rfl) (fun _ _ _ h => h) (Or.inl ⟨by rfl, ?_⟩) (by assumption) ?_
  rotate_left
  · (intro w hSw; (try dsimp only at hSw); go_simp; try with_reducible rfl)
  try simp only [Act.put, List.setIfInBounds_toArray, List.set_cons_zero, List.set_cons_succ]
  refine wpAnyH_ready (rs := [8]) (by kernel_rfl) (by simp) ?_
  refine AllReadyH.cons (o := ⟨none, _, _, _, _, _⟩) rfl (fun K hK => ?_) AllReadyH.nil
  refine step_slg_c HK0 0 (by rfl) _ _ (by rfl) (by rfl) (by rfl) (by rfl) ?_; clear HK0; intro wq HK0; simp only [List.set] at HK0; have hs := Lib.hid (HK0.out.takeL 0)
  refine hK.out _ _ hs (fun hHeld => ?_)
  clear hK K
  try simp only [ap1, ap2, ap3, ap4, ap5]
  refine wpAnyH_done (by kernel_rfl) ?_ _
  rotate_left
  go_simp
  go_at_call 15
  refine (HE.out _).mono ?_; rintro e w5 ⟨rfl, b5⟩; replace HK0 := Lib.hid (HK0.out.call b5); have hs := Lib.hid (HK0.out.takeL 0); clear b5
  refine hK.out _ _ hs (fun hHeld => ?_)
  clear hK K
  try simp only [ap1, ap2, ap3, ap4, ap5]
  refine wpAnyH_take (i := 5) (oi := ⟨some 10, _, _, _, _, _⟩) (v := ?_) rfl (by kernel_rfl) (by kernel_rfl) (by kernel_rfl) (fun _ _ _ h => h) (Or.inl ⟨by rfl, ?_⟩) (by assumption) ?_
  rotate_left
  · (intro w hSw; refine Eq.trans (exec_bmin (m := sm) _ _ (by rfl) (by rfl) (by rfl) HM1.out) ?_; with_reducible rfl)
  try simp only [Act.put, List.setIfInBounds_toArray, List.set_cons_zero, List.set_cons_succ]
  refine wpAnyH_ready (rs := [1]) (by kernel_rfl) (by simp) ?_
  refine AllReadyH.cons (o := ⟨some 6, _, _, _, _, _⟩) rfl (fun K hK => ?_) AllReadyH.nil
  refine step_of_exec (by rfl) (klg_c HK0 0 _ (by rfl) (by rfl) (by rfl)) ?_; have hs := hHeld
  refine hK.out _ _ hs (fun hHeld => ?_)
  clear hK K
  try simp only [ap1, ap2, ap3, ap4, ap5]
  refine wpAnyH_take (i := 6) (oi := ⟨some 11, _, _, _, _, _⟩) (v := ?_) rfl (by kernel_rfl) (by kernel_rfl) (by kernel_rfl) (fun _ _ _ h => h) (Or.inl ⟨by rfl, ?_⟩) (by assumption) ?_
  rotate_left
  · (intro w hSw; refine Eq.trans (exec_bmax (m := m2) _ _ (by rfl) (by rfl) (by rfl) HM2.out) ?_; with_reducible rfl)
  try simp only [Act.put, List.setIfInBounds_toArray, List.set_cons_zero, List.set_cons_succ]
  refine wpAnyH_take (i := 7) (oi := ⟨some 12, _, _, _, _, _⟩) (v := ?_) rfl (by kernel_rfl) (by kernel_rfl) (by kernel_rfl) (fun _ _ _ h => h) (Or.inl ⟨by rfl, ?_⟩) (by assumption) ?_
  rotate_left
  · (intro w hSw; (try dsimp only at hSw); go_simp; try with_reducible rfl)
  try simp only [Act.put, List.setIfInBounds_toArray, List.set_cons_zero, List.set_cons_succ]
  refine wpAnyH_ready (rs := [8]) (by kernel_rfl) (by simp) ?_
  refine AllReadyH.cons (o := ⟨none, _, _, _, _, _⟩) rfl (fun K hK => ?_) AllReadyH.nil
  refine step_slg_c HK0 0 (by rfl) _ _ (by rfl) (by rfl) (by rfl) (by rfl) ?_; clear HK0; intro wq HK0; simp only [List.set] at HK0; have hs := Lib.hid (HK0.out.takeL 0)
  refine hK.out _ _ hs (fun hHeld => ?_)
  clear hK K
  try simp only [ap1, ap2, ap3, ap4, ap5]
  refine wpAnyH_done (by kernel_rfl) ?_ _
  rotate_left
  all_goals
    have HK := HK0
    clear HK0 hHeld HE HM1 HM2
    go_wp2_with (first | refine wpList_exe (klg HK 0 _ (by rfl) (by rfl) (by rfl)) (by rfl) ?_)
    refine (HC.out _ HK.out.b).mono ?_; rintro e w1 ⟨A5, n5, c5, Rn, rfl, hkn, HTl⟩
    replace HK := Lib.hid (HK.out.join hkn)
    simp only [List.nil_append] at HK
    clear hkn HC
    go_wp2_with (first | (refine wpList_slg HK 1 rfl _ _ rfl rfl rfl rfl rfl ?_; intro _ HK'; simp only [List.set] at HK'; replace HK := HK'; clear HK'))
    exact ret_lg Try.results25 rfl rfl (HK.out.blk 1 rfl) ⟨A5, n5, c5, Rn, rfl, HK.out.takeL 0, HTl⟩
set_option maxRecDepth 100000 in
set_option maxHeartbeats 12800000 in
theorem lctake_any (G : World → Prop) (l : Lg) (A : Option Addr) (n c : Nat) (w : World) (hs : Sls evLay lvF w A n c l.ev) (hr : Lgm.Right l) :
    Calls Try.prog 27 #[.agg #[.int .i64 l.b, .int .i64 l.c, .int .i64 l.d, .slice A n c]] w (IsTkT G (Lgm.tkL l) ((Lgm.tkE l).getD evZ) (Lgm.tkE l).isSome w) := by
  have hn := hs.len
  obtain ⟨r1, r2, r3, r4, r5, r6, r7⟩ := hr
  have hn16 : n ≤ 16 := by omega
  have HI := Lib.hid (fun W => lcinside_any l A n c l.d W hn r1 r3 (by omega))
  have HK := kn3 w 24 (lgC l.b l.c l.d (.slice A n c)) 24 (lgC 0 0 0 (.slice none 0 0)) 35 (evA evZ)
  have hen : Lgm.en l = l.b + (n : Int) := by unfold Lgm.en; rw [hn]
  unfold IsB at HI
  unfold IsTkT
  by_cases hd : l.d < l.c
  case neg =>
    have e1 : Lgm.tkE l = none := if_neg hd
    have e2 : Lgm.tkL l = l := if_neg hd
    have hdc : decide (l.c ≤ l.d) = true := decide_eq_true (by omega)
    have HC := Lib.hid (fun W (hW : Below w.heap.size w W) => lcown_any G l A n c W (hs.later hW))
    unfold IsLgT at HC
    rw [e1, e2]
    clear e1 e2 hd hs hn r1 r2 r3 r4 r5 r6 r7 hen HI
    obtain ⟨b, cc, d, ev⟩ := l
    simp only [Option.getD_none, Option.isSome_none] at *
    go_enter Try.func27, Try.ntmps27
    go_upto_region 2 with (first | go_big_skip | refine wpList_exe (klg_d HK 0 _ (by rfl) (by rfl) (by rfl)) (by rfl) ?_ | refine wpList_exe (klg_c HK 0 _ (by rfl) (by rfl) (by rfl)) (by rfl) ?_)
    clear hdc
    go_wp2_with (first | refine wpList_exe (klg HK 0 _ (by rfl) (by rfl) (by rfl)) (by rfl) ?_)
    refine (HC.out _ HK.out.b).mono ?_; rintro e w1 ⟨A5, n5, c5, Rn, rfl, hkn, HTl⟩
    replace HK := Lib.hid (HK.out.join hkn)
    simp only [List.nil_append] at HK
    clear hkn HC
    go_wp2_with (first | (refine wpList_slg HK 1 rfl _ _ rfl rfl rfl rfl rfl ?_; intro _ HK'; simp only [List.set] at HK'; replace HK := HK'; clear HK') | (refine wpList_sev (e2 := evZ) HK 2 rfl _ _ rfl rfl rfl rfl ?_; intro _ HK' _; simp only [List.set] at HK'; replace HK := HK'; clear HK'))
    exact ret_lgev Try.results27 rfl rfl rfl rfl (HK.out.blk 1 rfl) (HK.out.blk 2 rfl) ⟨A5, n5, c5, Rn, rfl, HK.out.takeL 0, HTl⟩
  case pos =>
    obtain ⟨p, hp⟩ : ∃ p : Nat, (l.d - l.b).toNat = p := ⟨_, rfl⟩
    have hpn : p < n := by omega
    obtain ⟨x, hx, _⟩ := hs.get hpn
    have e1 : Lgm.tkE l = some x := (if_pos hd).trans (by rw [hp]; exact hx)
    have e2 : Lgm.tkL l = ⟨l.b, l.c, l.d + 1, l.ev⟩ := if_pos hd
    have hdc : decide (l.c ≤ l.d) = false := decide_eq_false (by omega)
    have hin : decide (l.b ≤ l.d ∧ l.d < Lgm.en l) = true := decide_eq_true (by omega)
    rw [hin] at HI
    have hsub : IntKind.i64.wrap (l.d - l.b) = (p : Int) := by rw [IntKind.wrap_i64]; omega
    have hadd : IntKind.i64.wrap (l.d + 1) = l.d + 1 := by rw [IntKind.wrap_i64]; omega
    have HC := Lib.hid (fun W (hW : Below w.heap.size w W) => lcown_any G ⟨l.b, l.c, l.d + 1, l.ev⟩ A n c W (hs.later hW))
    unfold IsLgT at HC
    obtain ⟨b', o, rfl, hat⟩ := hs.eat (by omega)
    have HX : Hid (∀ W, Below w.heap.size w W → ∀ j v, (evL x)[j]? = some v → W.cell? ⟨b', o + p * 16 + j, none⟩ = some v) := Lib.hid (fun W hW => hat W hW p x hx)
    rw [e1, e2]
    clear e1 e2 hd hs hn r1 r2 r3 r4 r5 r6 r7 hen hat hx hp hin
    obtain ⟨b, cc, d, ev⟩ := l
    simp only [Option.getD_some, Option.isSome_some] at *
    go_enter Try.func27, Try.ntmps27
    go_wp2_with (first | refine wpList_exe (klg_d HK 0 _ (by rfl) (by rfl) (by rfl)) (by rfl) ?_ | refine wpList_exe (klg_c HK 0 _ (by rfl) (by rfl) (by rfl)) (by rfl) ?_ | refine wpList_exe (klg HK 0 _ (by rfl) (by rfl) (by rfl)) (by rfl) ?_)
    refine (HI.out _).mono ?_; rintro e w1 ⟨rfl, b1⟩
    replace HK := Lib.hid (HK.out.call b1); clear b1
    go_upto_region 3 with fail
    clear hdc HI
    go_wp2_with (first | refine wpList_exe (klg_e HK 0 _ (by rfl) (by rfl) (by rfl)) (by rfl) ?_ | refine wpList_exe (klg_d HK 0 _ (by rfl) (by rfl) (by rfl)) (by rfl) ?_ | refine wpList_exe (klg_b HK 0 _ (by rfl) (by rfl) (by rfl)) (by rfl) ?_ | refine wpList_exe (exec_ixev (i := p) _ _ (by rfl) (by rfl) (by rfl) hpn) (by rfl) ?_ | refine wpList_of_exec (v := .agg (evA x)) (by rfl) (exec_lev (off := o + p * 16) _ (by rfl) (by rfl) (HX.out _ HK.out.b)) ?_ | (refine wpList_akev HK rfl rfl ?_; intro _ g5 HK'; simp only [List.cons_append, List.nil_append] at HK'; replace HK := HK'; clear HK') | (refine wpList_sev (e2 := x) HK 3 rfl _ _ rfl rfl rfl rfl ?_; intro _ HK' _; simp only [List.set] at HK'; replace HK := HK'; clear HK') | (refine wpList_slg_d HK 0 rfl _ _ rfl rfl rfl rfl ?_; intro _ HK'; simp only [List.set] at HK'; replace HK := HK'; clear HK'))
    have HK0 := Lib.hid HK.out.drew
    clear HK
    refine wp_region_held_drew (S := (fun W => Hid (Kn w.heap.size w W [(w.heap.size, 24, lgC b cc (d + 1) (.slice (some ⟨b', o, none⟩) n c))] []) ∧ Hid (Kn w.heap.size w W [(g5, 35, evA x)] []))) (by kernel_rfl) ?_ (fun hHeld => ?_)
    · (try dsimp only); exact And.intro (Lib.hid (HK0.out.takeL 1)) (Lib.hid (HK0.out.dropL 3))
    refine wpAnyH_take (i := 0) (oi := ⟨some 34, _, _, _, _, _⟩) (v := ?_) rfl (by kernel_rfl) (by kernel_rfl) (by kernel_rfl) (fun _ _ _ h => h) (Or.inl ⟨by rfl, ?_⟩) (by assumption) ?_
    rotate_left
    · (intro w hSw; refine Eq.trans (klg hSw.1 0 _ (by rfl) (by rfl) (by rfl)) ?_; with_reducible rfl)
    try simp only [Act.put, List.setIfInBounds_toArray, List.set_cons_zero, List.set_cons_succ]
    refine wpAnyH_take (i := 2) (oi := ⟨some 36, _, _, _, _, _⟩) (v := ?_) rfl (by kernel_rfl) (by kernel_rfl) (by kernel_rfl) (fun _ _ _ h => h) (Or.inl ⟨by rfl, ?_⟩) (by assumption) ?_
    rotate_left
    · (intro w hSw; refine Eq.trans (kevA hSw.2 0 _ (by rfl) (by rfl) (by rfl)) ?_; with_reducible rfl)
    try simp only [Act.put, List.setIfInBounds_toArray, List.set_cons_zero, List.set_cons_succ]
    refine wpAnyH_ready (rs := [1]) (by kernel_rfl) (by simp) ?_
    refine AllReadyH.cons (o := ⟨some 35, _, _, _, _, _⟩) rfl (fun K hK => ?_) AllReadyH.nil
    go_simp
    go_at_call 45
    refine (HC.out _ HK0.out.b).mono ?_; rintro e w1 ⟨A5, n5, c5, Rn, rfl, hkn, HTl⟩; replace HK0 := Lib.hid (HK0.out.join hkn); simp only [List.nil_append] at HK0; have hs := And.intro (Lib.hid ((HK0.out.takeL 1).takeR 0)) (Lib.hid ((HK0.out.dropL 3).takeR 0)); clear hkn
    refine hK.out _ _ hs (fun hHeld => ?_)
    clear hK K
    try simp only [ap1, ap2, ap3, ap4, ap5]
    refine wpAnyH_ready (rs := [3]) (by kernel_rfl) (by simp) ?_
    refine AllReadyH.cons (o := ⟨none, _, _, _, _, _⟩) rfl (fun K hK => ?_) AllReadyH.nil
    refine step_slg HK0 1 (by rfl) _ _ (by rfl) (by rfl) (by rfl) (by rfl) (by rfl) ?_; clear HK0; intro wq HK0; simp only [List.set] at HK0; have hs := And.intro (Lib.hid ((HK0.out.takeL 1).takeR 0)) (Lib.hid ((HK0.out.dropL 3).takeR 0))
    refine hK.out _ _ hs (fun hHeld => ?_)
    clear hK K
    try simp only [ap1, ap2, ap3, ap4, ap5]
    refine wpAnyH_ready (rs := [4]) (by kernel_rfl) (by simp) ?_
    refine AllReadyH.cons (o := ⟨none, _, _, _, _, _⟩) rfl (fun K hK => ?_) AllReadyH.nil
    refine step_sevA (e2 := x) HK0 2 (by rfl) _ _ (by rfl) (by rfl) (by rfl) (by rfl) ?_; clear HK0; intro wq HK0; simp only [List.set] at HK0; have hs := And.intro (Lib.hid ((HK0.out.takeL 1).takeR 0)) (Lib.hid ((HK0.out.dropL 3).takeR 0))
    refine hK.out _ _ hs (fun hHeld => ?_)
    clear hK K
    try simp only [ap1, ap2, ap3, ap4, ap5]
    refine wpAnyH_take (i := 5) (oi := ⟨some 4, _, _, _, _, _⟩) (v := ?_) rfl (by kernel_rfl) (by kernel_rfl) (by kernel_rfl) (fun _ _ _ h => h) (Or.inl ⟨by rfl, ?_⟩) (by assumption) ?_
    rotate_left
    · (intro w hSw; (try dsimp only at hSw); go_simp; try with_reducible rfl)
    try simp only [Act.put, List.setIfInBounds_toArray, List.set_cons_zero, List.set_cons_succ]
    refine wpAnyH_done (by kernel_rfl) ?_ _
    all_goals
      go_wp2_with fail
      exact ret_lgev Try.results27 rfl rfl rfl rfl (HK0.out.blk 1 rfl) (HK0.out.blk 2 rfl) ⟨A5, n5, c5, Rn, rfl, HK0.out.takeL 0, HTl⟩
end Go.Proofs.Ytakjggmiilkmdaa
