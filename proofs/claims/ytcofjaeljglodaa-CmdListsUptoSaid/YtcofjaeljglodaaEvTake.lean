/-
  What take returns at a place of items.
  No condition but bounds on the slice.
-/
import Derived.Test.YtcofjaeljglodaaEvTakeM
set_option linter.unusedSimpArgs false
set_option linter.unusedVariables false
namespace Go.Proofs.Ytcofjaeljglodaa
open Go.RowKit

theorem wrap_i2 (a : Nat) (h : a ≤ 2000000000) : IntKind.i64.wrap ((a : Int) + 2) = ((a + 2 : Nat) : Int) := by rw [IntKind.wrap_i64]; omega
theorem wrap_p2 (a : Nat) (h : a ≤ 2000000000) : wrap64 ((a : Int) + 2) = ((a + 2 : Nat) : Int) := by unfold wrap64; omega
theorem step_sev {b0 : Nat} {w0 w : World} {L : List (Nat × TypeId × Array Value)} {R : List RowE} {ops : Array Oper} {o : Oper} {a : Act} {Q : Exit → Act → World → Prop} {K : Act → World → Prop} {E : Prop} {g : Nat} {t : TypeId} (HK : Hid (Kn b0 w0 w L R)) (i : Nat) (hgd : o.guard = none) (p q : Operand) (ho : o.op = .store 34 p q) {e1 e2 : Cmd.E} (hL : L[i]? = some (g, t, evA e1)) (hx : a.eval p = .pointer (some ⟨g, 0, none⟩)) (hy : a.eval q = .agg (evA e2))
    (h : ∀ w', Hid (Kn b0 w0 w' (L.set i (g, t, evA e2)) R) → K (a.put o.dst undef) w') : if Region.wanted o (yielded ops a.tmps) = true then Oper.wp Try.prog o a w K Q else E :=
  step_ss HK i hgd _ p q ho hL hx hy (by show 16 ≤ 16; decide) info_ev (by simp [evA, evC, Value.oneCell']) fun w' h1 _ => h w' (by
    have e : putCells (evA e1) 0 (evA e2).toList = evA e2 := by
      rw [putCells_all (vs := (evA e2).toList) (cs := evA e1) rfl, Array.toArray_toList]
    rw [e] at h1
    exact h1)
set_option maxRecDepth 100000 in
set_option maxHeartbeats 12800000 in
theorem etake_any (A : Option Addr) (c n p : Nat) (l : List Itm.It) (e : Cmd.E) (w : World) (hl : l.length = n) (hp : p ≤ n) (hc : n ≤ c) (hbig : n ≤ 1000000000) (hi : itemLay.Reads w w.heap.size A l) :
    Calls Try.prog 38 #[.slice A n c, .int .i64 p] w (IsEF e p (p + (Cmd.items e).length) n (Stands l p e) w) := by
  have HZ : Hid (∀ w', Below w.heap.size w w' → ¬ Stands l p e → IsEF e p (p + (Cmd.items e).length) n (Stands l p e) w (.returned (.tuple #[.agg (evA evZ), .int .i64 ((0 : Nat) : Int), .bool false])) w') :=
    Lib.hid fun w' hb hs => ⟨evZ, 0, false, rfl, fun h => absurd h hs, (fun h => by cases h), ⟨by decide, by decide⟩, hb⟩
  have HP := Lib.hid (fun h => stands_parts (l := l) (p := p) (e := e) h)
  have HL : Hid (∀ h : Stands l p e, p + 6 ≤ n) := Lib.hid fun h => by
    have := ((stands_parts h).2.2.2 _ rfl).2.2.2
    omega
  have h1 : ¬ ((p : Int) < 0) := by omega
  have h2 : wrap64 ((n : Int) - 6) = (n : Int) - 6 := by unfold wrap64; omega
  by_cases hpn : p + 6 ≤ n
  case neg =>
    have h3 : (n : Int) - 6 < (p : Int) := by omega
    have HS : Hid (¬ Stands l p e) := Lib.hid fun h => hpn (HL.out h)
    generalize Stands l p e = cc at *
    generalize p + (Cmd.items e).length = zz at *
    have HK := Lib.hid (Kn.start w)
    clear hi hl hpn HP HL
    go_enter Try.func38, Try.ntmps38
    go_wp2_with (first | (refine wpList_akev HK rfl rfl ?_; intro _ g0 HK'; simp only [List.cons_append, List.nil_append] at HK'; replace HK := HK'; clear HK') | (refine wpList_sev (e2 := evZ) HK 0 rfl _ _ rfl rfl rfl rfl ?_; intro _ HK' _; simp only [List.set] at HK'; replace HK := HK'; clear HK'))
    exact ret_e3 Try.results38 rfl rfl rfl rfl (HK.out.blk 0 rfl) (HZ.out _ HK.out.b HS.out)
  case pos =>
  obtain ⟨b, o, rfl, hb, hat⟩ := hi (by omega)
  have HCell : Hid (∀ W, Below w.heap.size w W → ∀ i x, l[i]? = some x → W.cell? ⟨b, o + i * 3 + 1, none⟩ = some (.int .i64 x.n) ∧ W.cell? ⟨b, o + i * 3 + 2, none⟩ = some (.string x.s)) := Lib.hid fun W hW i x hx => (at_item ((hat i x hx).keep fun q hq => hW.cell (by rw [hq]; exact hb))).2
  have HI := Lib.hid hi
  have HV1 : Hid (∀ W, Below w.heap.size w W → Calls Try.prog 49 #[.slice (some ⟨b, o, none⟩) n c, .int .i64 ((p + 6 : Nat) : Int)] W fun en w' => ∃ (u : Val.V) (y : Nat) (bb : Bool), en = .returned (.tuple #[.agg #[.int .i64 u.k, .int .i64 u.n, .int .u64 (u.f : Int), .string u.s], .int .i64 (y : Int), .bool bb]) ∧ (Stands l p e → u = e.cmd.val ∧ y = p + 6 + (Val.items e.cmd.val).length ∧ bb = true) ∧ (bb = true → p + 6 ≤ y ∧ y ≤ n) ∧ u.f < 18446744073709551616 ∧ Below W.heap.size W w') := Lib.hid fun W hW =>
    (vfrom_any (some ⟨b, o, none⟩) c n (p + 6) l W hl hpn hc hbig (HI.out.later hW (Nat.le_refl _))).mono fun en w' h => by
      obtain ⟨u, y, bb, r1, r2, r3⟩ := h
      refine ⟨u, y, bb, r1, fun hs => ?_, r3⟩
      obtain ⟨⟨r, hr⟩, _⟩ := HP.out hs
      obtain ⟨q1, q2⟩ := vstands hr hs.2.1 hs.2.2.2.1
      rw [hl] at q2
      have := r2 q2
      rw [q1] at this
      exact this
  have HV2 : Hid (∀ W (y0 : Nat), Below w.heap.size w W → y0 ≤ n → Calls Try.prog 49 #[.slice (some ⟨b, o, none⟩) n c, .int .i64 (y0 : Int)] W fun en w' => ∃ (u : Val.V) (y : Nat) (bb : Bool), en = .returned (.tuple #[.agg #[.int .i64 u.k, .int .i64 u.n, .int .u64 (u.f : Int), .string u.s], .int .i64 (y : Int), .bool bb]) ∧ (Stands l p e → y0 = p + 6 + (Val.items e.cmd.val).length → u = e.cmd.old ∧ y = p + 6 + (Val.items e.cmd.val).length + (Val.items e.cmd.old).length ∧ bb = true) ∧ (bb = true → y0 ≤ y ∧ y ≤ n) ∧ u.f < 18446744073709551616 ∧ Below W.heap.size W w') := Lib.hid fun W y0 hW hy0 =>
    (vfrom_any (some ⟨b, o, none⟩) c n y0 l W hl hy0 hc hbig (HI.out.later hW (Nat.le_refl _))).mono fun en w' h => by
      obtain ⟨u, y, bb, r1, r2, r3⟩ := h
      refine ⟨u, y, bb, r1, fun hs hy => ?_, r3⟩
      subst hy
      obtain ⟨_, ⟨r, hr⟩, _⟩ := HP.out hs
      obtain ⟨q1, q2⟩ := vstands hr hs.2.2.1 hs.2.2.2.2
      rw [hl] at q2
      have := r2 q2
      rw [q1] at this
      exact this
  have hget := Lib.hid (fun (i : Nat) (h : i < n) => Lay.get_of (l := l) (k := i) (by rw [hl]; exact h))
  obtain ⟨x0, e0⟩ := hget.out p (by omega)
  obtain ⟨x1, e1⟩ := hget.out (p + 1) (by omega)
  obtain ⟨x2, e2⟩ := hget.out (p + 2) (by omega)
  obtain ⟨x3, e3⟩ := hget.out (p + 3) (by omega)
  obtain ⟨x4, e4⟩ := hget.out (p + 4) (by omega)
  obtain ⟨x5, e5⟩ := hget.out (p + 5) (by omega)
  have HX : Hid (∀ W, Below w.heap.size w W → W.cell? ⟨b, o + p * 3 + 1, none⟩ = some (.int .i64 x0.n) ∧ W.cell? ⟨b, o + p * 3 + 4, none⟩ = some (.int .i64 x1.n) ∧ W.cell? ⟨b, o + p * 3 + 7, none⟩ = some (.int .i64 x2.n) ∧ W.cell? ⟨b, o + p * 3 + 10, none⟩ = some (.int .i64 x3.n) ∧ W.cell? ⟨b, o + p * 3 + 14, none⟩ = some (.string x4.s) ∧ W.cell? ⟨b, o + p * 3 + 17, none⟩ = some (.string x5.s)) := Lib.hid fun W hW => by
    have f := HCell.out W hW
    refine ⟨(f p x0 e0).1, ?_, ?_, ?_, ?_, ?_⟩
    · rw [show o + p * 3 + 4 = o + (p + 1) * 3 + 1 from by omega]; exact (f _ _ e1).1
    · rw [show o + p * 3 + 7 = o + (p + 2) * 3 + 1 from by omega]; exact (f _ _ e2).1
    · rw [show o + p * 3 + 10 = o + (p + 3) * 3 + 1 from by omega]; exact (f _ _ e3).1
    · rw [show o + p * 3 + 14 = o + (p + 4) * 3 + 2 from by omega]; exact (f _ _ e4).2
    · rw [show o + p * 3 + 17 = o + (p + 5) * 3 + 2 from by omega]; exact (f _ _ e5).2
  have HY : Hid (∀ y, y + 2 ≤ n → ∃ q0 q1 : Itm.It, (∀ W, Below w.heap.size w W → W.cell? ⟨b, o + y * 3 + 1, none⟩ = some (.int .i64 q0.n) ∧ W.cell? ⟨b, o + y * 3 + 4, none⟩ = some (.int .i64 q1.n)) ∧ (Stands l p e → y = p + 6 + (Val.items e.cmd.val).length + (Val.items e.cmd.old).length → x0.n = e.c ∧ x1.n = e.e ∧ x2.n = e.r ∧ x3.n = e.cmd.k ∧ x4.s = e.cmd.name ∧ x5.s = e.cmd.key ∧ q0.n = e.cmd.n ∧ q1.n = e.cmd.m ∧ y + 2 = p + (Cmd.items e).length)) := Lib.hid fun y hy => by
    obtain ⟨q0, g0⟩ := hget.out y (by omega)
    obtain ⟨q1, g1⟩ := hget.out (y + 1) (by omega)
    refine ⟨q0, q1, fun W hW => ⟨(HCell.out W hW y q0 g0).1, ?_⟩, fun hs hyy => ?_⟩
    · rw [show o + y * 3 + 4 = o + (y + 1) * 3 + 1 from by omega]; exact (HCell.out W hW _ _ g1).1
    · obtain ⟨_, _, ⟨k0, k1, k2, k3, k4, k5⟩, k6⟩ := HP.out hs
      obtain ⟨k7, k8, k9, _⟩ := k6 y hyy
      rw [e0] at k0; rw [e1] at k1; rw [e2] at k2; rw [e3] at k3; rw [e4] at k4; rw [e5] at k5; rw [g0] at k7; rw [g1] at k8
      injection k0 with k0; injection k1 with k1; injection k2 with k2; injection k3 with k3; injection k4 with k4; injection k5 with k5; injection k7 with k7; injection k8 with k8
      subst k0 k1 k2 k3 k4 k5 k7 k8
      exact ⟨rfl, rfl, rfl, rfl, rfl, rfl, rfl, rfl, k9⟩
  have HNS : Hid (∀ (hs : Stands l p e), p + 6 + (Val.items e.cmd.val).length + (Val.items e.cmd.old).length + 2 ≤ n) := Lib.hid fun hs => by
    have := ((HP.out hs).2.2.2 _ rfl).2.2.2
    omega
  clear e0 e1 e2 e3 e4 e5 hget HP HL HCell HI hi hat hl
  generalize Stands l p e = cc at *
  generalize p + (Cmd.items e).length = zz at *
  generalize p + 6 + (Val.items e.cmd.val).length = z1 at *
  generalize z1 + (Val.items e.cmd.old).length = z2 at *
  obtain ⟨x0k, x0, x0s⟩ := x0
  obtain ⟨x1k, x1, x1s⟩ := x1
  obtain ⟨x2k, x2, x2s⟩ := x2
  obtain ⟨x3k, x3, x3s⟩ := x3
  obtain ⟨x4k, x4n, x4⟩ := x4
  obtain ⟨x5k, x5n, x5⟩ := x5
  simp only at HX HY
  have h3 : ¬ ((n : Int) - 6 < (p : Int)) := by omega
  have h4 : wrap64 ((p : Int) + 6) = ((p + 6 : Nat) : Int) := by unfold wrap64; omega
  have HK := Lib.hid (Kn.start w)
  go_enter Try.func38, Try.ntmps38
  go_wp2_with (first | (refine wpList_akev HK rfl rfl ?_; intro _ g0 HK'; simp only [List.cons_append, List.nil_append] at HK'; replace HK := HK'; clear HK'))
  refine (HV1.out _ HK.out.b).mono ?_; rintro en w1 ⟨⟨k1, n1, f1, s1⟩, y1, b1, rfl, hc1, hb1, hf1, r1⟩
  replace HK := Lib.hid (HK.out.call r1)
  have HC1 := Lib.hid hc1
  clear r1 HV1 hc1
  simp only at hf1
  cases b1
  · have HS : Hid (¬ cc) := Lib.hid fun h => by have := (HC1.out h).2.2; cases this
    clear HC1 hb1
    go_wp2_with (first | (refine wpList_akv HK rfl rfl ?_; intro _ g1 HK'; simp only [List.cons_append, List.nil_append] at HK'; replace HK := HK'; clear HK') | (refine wpList_sv HK 1 rfl _ _ rfl rfl rfl rfl ?_; intro _ HK'; simp only [List.set] at HK'; replace HK := HK'; clear HK') | (refine wpList_sev (e2 := evZ) HK 0 rfl _ _ rfl rfl rfl rfl ?_; intro _ HK' _; simp only [List.set] at HK'; replace HK := HK'; clear HK'))
    exact ret_e3 Try.results38 rfl rfl rfl rfl (HK.out.blk 0 rfl) (HZ.out _ HK.out.b HS.out)
  obtain ⟨hy1, hy1n⟩ := hb1 rfl
  clear hb1
  go_wp2_with (first | (refine wpList_akv HK rfl rfl ?_; intro _ g1 HK'; simp only [List.cons_append, List.nil_append] at HK'; replace HK := HK'; clear HK') | (refine wpList_sv HK 1 rfl _ _ rfl rfl rfl rfl ?_; intro _ HK'; simp only [List.set] at HK'; replace HK := HK'; clear HK'))
  refine (HV2.out _ _ HK.out.b hy1n).mono ?_; rintro en w2 ⟨⟨k2, n2, f2, s2⟩, y2, b2, rfl, hc2, hb2, hf2, r2⟩
  replace HK := Lib.hid (HK.out.call r2)
  have HC2 := Lib.hid hc2
  clear r2 HV2 hc2
  simp only at hf2
  have h5 : wrap64 ((n : Int) - 2) = (n : Int) - 2 := by unfold wrap64; omega
  cases b2
  · have HS : Hid (¬ cc) := Lib.hid fun h => by have := (HC2.out h (HC1.out h).2.1).2.2; cases this
    clear HC1 HC2 hb2
    go_wp2_with (first | (refine wpList_akv HK rfl rfl ?_; intro _ g2 HK'; simp only [List.cons_append, List.nil_append] at HK'; replace HK := HK'; clear HK') | (refine wpList_sv HK 2 rfl _ _ rfl rfl rfl rfl ?_; intro _ HK'; simp only [List.set] at HK'; replace HK := HK'; clear HK') | (refine wpList_sev (e2 := evZ) HK 0 rfl _ _ rfl rfl rfl rfl ?_; intro _ HK' _; simp only [List.set] at HK'; replace HK := HK'; clear HK'))
    exact ret_e3 Try.results38 rfl rfl rfl rfl (HK.out.blk 0 rfl) (HZ.out _ HK.out.b HS.out)
  obtain ⟨hy2, hy2n⟩ := hb2 rfl
  clear hb2
  by_cases hend : y2 + 2 ≤ n
  case neg =>
    have h6 : (n : Int) - 2 < (y2 : Int) := by omega
    have HS : Hid (¬ cc) := Lib.hid fun h => by
      have h7 := (HC2.out h (HC1.out h).2.1).2.1
      have h8 := HNS.out h
      omega
    clear HC1 HC2 hend
    go_wp2_with (first | (refine wpList_akv HK rfl rfl ?_; intro _ g2 HK'; simp only [List.cons_append, List.nil_append] at HK'; replace HK := HK'; clear HK') | (refine wpList_sv HK 2 rfl _ _ rfl rfl rfl rfl ?_; intro _ HK'; simp only [List.set] at HK'; replace HK := HK'; clear HK') | (refine wpList_sev (e2 := evZ) HK 0 rfl _ _ rfl rfl rfl rfl ?_; intro _ HK' _; simp only [List.set] at HK'; replace HK := HK'; clear HK'))
    exact ret_e3 Try.results38 rfl rfl rfl rfl (HK.out.blk 0 rfl) (HZ.out _ HK.out.b HS.out)
  case pos =>
  have h6 : ¬ ((n : Int) - 2 < (y2 : Int)) := by omega
  obtain ⟨⟨q0k, q0, q0s⟩, ⟨q1k, q1, q1s⟩, hq, hz⟩ := HY.out y2 hend
  have HQ := Lib.hid hq
  have HE : Hid (cc → (⟨x0, x1, x2, ⟨x3, x4, x5, ⟨k1, n1, f1, s1⟩, ⟨k2, n2, f2, s2⟩, q0, q1⟩⟩ : Cmd.E) = e ∧ y2 + 2 = zz) := Lib.hid fun h => by
    obtain ⟨u1, g1, _⟩ := HC1.out h
    obtain ⟨u2, g2, _⟩ := HC2.out h g1
    obtain ⟨k0, k1, k2, k3, k4, k5, k6, k7, k8⟩ := hz h g2
    simp only at k0 k1 k2 k3 k4 k5 k6 k7
    refine ⟨?_, k8⟩
    obtain ⟨c', e', r', ⟨k', nm', ky', v', o', n', m'⟩⟩ := e
    simp only at u1 u2 k0 k1 k2 k3 k4 k5 k6 k7
    rw [u1, u2, k0, k1, k2, k3, k4, k5, k6, k7]
  clear hq hz HY HC1 HC2 HNS HZ
  simp only at HQ
  go_wp2_with (first | (refine wpList_akv HK rfl rfl ?_; intro _ g2 HK'; simp only [List.cons_append, List.nil_append] at HK'; replace HK := HK'; clear HK') | (refine wpList_sv HK 2 rfl _ _ rfl rfl rfl rfl ?_; intro _ HK'; simp only [List.set] at HK'; replace HK := HK'; clear HK'))
  have h7 := wrap_p2 y2 (Nat.le_trans (Nat.le_trans (Nat.le_add_right y2 2) hend) (Nat.le_trans hbig (by decide)))
  have hpc : p + 6 ≤ c := Nat.le_trans hpn hc
  have hyc : y2 + 2 ≤ c := Nat.le_trans hend hc
  have hp6 : p ≤ p + 6 := Nat.le_add_right p 6
  have hy22 : y2 ≤ y2 + 2 := Nat.le_add_right y2 2
  go_cut [11, 12] (fun v11 v12 wx => v11 = .slice (some ⟨b, o + p * 3, none⟩) 6 (c - p) ∧ v12 = .slice (some ⟨b, o + y2 * 3, none⟩) 2 (c - y2) ∧ Hid (Kn w.heap.size w wx [(g0, 34, evA evZ), (g1, 24, vC k1 n1 f1 s1), (g2, 24, vC k2 n2 f2 s2)] []))
  case first =>
    have hs1 : p + 6 - p = 6 := Nat.add_sub_cancel_left _ _
    have hs2 : y2 + 2 - y2 = 2 := Nat.add_sub_cancel_left _ _
    have hlt1 : p < c := Nat.lt_of_lt_of_le (Nat.lt_add_of_pos_right (by decide)) hpc
    have hlt2 : y2 < c := Nat.lt_of_lt_of_le (Nat.lt_add_of_pos_right (by decide)) hyc
    have hq1 : p + 6 ≤ 2000000000 := Nat.le_trans hpn (Nat.le_trans hbig (by decide))
    have hq2 : y2 + 2 ≤ 2000000000 := Nat.le_trans hend (Nat.le_trans hbig (by decide))
    refine wp_region_held_drew (S := (fun W => Hid (Kn w.heap.size w W [(g0, 34, evA evZ), (g1, 24, vC k1 n1 f1 s1), (g2, 24, vC k2 n2 f2 s2)] []))) (by kernel_rfl) ?_ (fun hHeld => ?_)
    · (try dsimp only); exact Lib.hid HK.out.drew
    refine wpAnyH_take (i := 0) (oi := ⟨some 51, _, _, _, _, _⟩) (v := ?_) rfl (by kernel_rfl) (by kernel_rfl) (by kernel_rfl) (fun _ _ _ h => h) (Or.inl ⟨by rfl, ?_⟩) (by assumption) ?_
    rotate_left
    · (intro w hSw; (try dsimp only at hSw); go_simp; try with_reducible rfl)
    try simp only [Act.put, List.setIfInBounds_toArray, List.set_cons_zero, List.set_cons_succ]
    refine wpAnyH_take (i := 1) (oi := ⟨some 52, _, _, _, _, _⟩) (v := ?_) rfl (by kernel_rfl) (by kernel_rfl) (by kernel_rfl) (fun _ _ _ h => h) (Or.inl ⟨by rfl, ?_⟩) (by assumption) ?_
    rotate_left
    · (intro w hSw; (try dsimp only at hSw); go_simp; try with_reducible rfl)
    try simp only [Act.put, List.setIfInBounds_toArray, List.set_cons_zero, List.set_cons_succ]
    refine wpAnyH_take (i := 2) (oi := ⟨some 53, _, _, _, _, _⟩) (v := ?_) rfl (by kernel_rfl) (by kernel_rfl) (by kernel_rfl) (fun _ _ _ h => h) (Or.inl ⟨by rfl, ?_⟩) (by assumption) ?_
    rotate_left
    · (intro w hSw; (try dsimp only at hSw); go_simp; try with_reducible rfl)
    try simp only [Act.put, List.setIfInBounds_toArray, List.set_cons_zero, List.set_cons_succ]
    refine wpAnyH_take (i := 3) (oi := ⟨some 54, _, _, _, _, _⟩) (v := ?_) rfl (by kernel_rfl) (by kernel_rfl) (by kernel_rfl) (fun _ _ _ h => h) (Or.inl ⟨by rfl, ?_⟩) (by assumption) ?_
    rotate_left
    · (intro w hSw; refine Eq.trans (exec_addn (x := p) (k := 6) _ (by rfl) (by rfl) hq1) ?_; with_reducible rfl)
    try simp only [Act.put, List.setIfInBounds_toArray, List.set_cons_zero, List.set_cons_succ]
    refine wpAnyH_take (i := 4) (oi := ⟨some 55, _, _, _, _, _⟩) (v := ?_) rfl (by kernel_rfl) (by kernel_rfl) (by kernel_rfl) (fun _ _ _ h => h) (Or.inl ⟨by rfl, ?_⟩) (by assumption) ?_
    rotate_left
    · (intro w hSw; refine Eq.trans (exec_slice (lo := p) (hi := p + 6) _ _ _ (by rfl) (by rfl) (by rfl) (by rfl) hp6 hpc hlt1) ?_; with_reducible rfl)
    try simp only [Act.put, List.setIfInBounds_toArray, List.set_cons_zero, List.set_cons_succ]
    refine wpAnyH_take (i := 5) (oi := ⟨some 56, _, _, _, _, _⟩) (v := ?_) rfl (by kernel_rfl) (by kernel_rfl) (by kernel_rfl) (fun _ _ _ h => h) (Or.inl ⟨by rfl, ?_⟩) (by assumption) ?_
    rotate_left
    · (intro w hSw; (try dsimp only at hSw); go_simp; try with_reducible rfl)
    try simp only [Act.put, List.setIfInBounds_toArray, List.set_cons_zero, List.set_cons_succ]
    refine wpAnyH_take (i := 6) (oi := ⟨some 57, _, _, _, _, _⟩) (v := ?_) rfl (by kernel_rfl) (by kernel_rfl) (by kernel_rfl) (fun _ _ _ h => h) (Or.inl ⟨by rfl, ?_⟩) (by assumption) ?_
    rotate_left
    · (intro w hSw; (try dsimp only at hSw); go_simp; try with_reducible rfl)
    try simp only [Act.put, List.setIfInBounds_toArray, List.set_cons_zero, List.set_cons_succ]
    refine wpAnyH_take (i := 7) (oi := ⟨some 58, _, _, _, _, _⟩) (v := ?_) rfl (by kernel_rfl) (by kernel_rfl) (by kernel_rfl) (fun _ _ _ h => h) (Or.inl ⟨by rfl, ?_⟩) (by assumption) ?_
    rotate_left
    · (intro w hSw; (try dsimp only at hSw); go_simp; try with_reducible rfl)
    try simp only [Act.put, List.setIfInBounds_toArray, List.set_cons_zero, List.set_cons_succ]
    refine wpAnyH_take (i := 8) (oi := ⟨some 59, _, _, _, _, _⟩) (v := ?_) rfl (by kernel_rfl) (by kernel_rfl) (by kernel_rfl) (fun _ _ _ h => h) (Or.inl ⟨by rfl, ?_⟩) (by assumption) ?_
    rotate_left
    · (intro w hSw; refine Eq.trans (exec_addn (x := y2) (k := 2) _ (by rfl) (by rfl) hq2) ?_; with_reducible rfl)
    try simp only [Act.put, List.setIfInBounds_toArray, List.set_cons_zero, List.set_cons_succ]
    refine wpAnyH_take (i := 9) (oi := ⟨some 60, _, _, _, _, _⟩) (v := ?_) rfl (by kernel_rfl) (by kernel_rfl) (by kernel_rfl) (fun _ _ _ h => h) (Or.inl ⟨by rfl, ?_⟩) (by assumption) ?_
    rotate_left
    · (intro w hSw; refine Eq.trans (exec_slice (lo := y2) (hi := y2 + 2) _ _ _ (by rfl) (by rfl) (by rfl) (by rfl) hy22 hyc hlt2) ?_; with_reducible rfl)
    try simp only [Act.put, List.setIfInBounds_toArray, List.set_cons_zero, List.set_cons_succ]
    refine wpAnyH_take (i := 10) (oi := ⟨some 11, _, _, _, _, _⟩) (v := ?_) rfl (by kernel_rfl) (by kernel_rfl) (by kernel_rfl) (fun _ _ _ h => h) (Or.inl ⟨by rfl, ?_⟩) (by assumption) ?_
    rotate_left
    · (intro w hSw; (try dsimp only at hSw); go_simp; try with_reducible rfl)
    try simp only [Act.put, List.setIfInBounds_toArray, List.set_cons_zero, List.set_cons_succ]
    refine wpAnyH_take (i := 11) (oi := ⟨some 12, _, _, _, _, _⟩) (v := ?_) rfl (by kernel_rfl) (by kernel_rfl) (by kernel_rfl) (fun _ _ _ h => h) (Or.inl ⟨by rfl, ?_⟩) (by assumption) ?_
    rotate_left
    · (intro w hSw; (try dsimp only at hSw); go_simp; try with_reducible rfl)
    try simp only [Act.put, List.setIfInBounds_toArray, List.set_cons_zero, List.set_cons_succ]
    refine wpAnyH_done (by kernel_rfl) ?_ _
    go_wp2_with fail
    go_meet
    refine ⟨?_, ?_, hHeld⟩
    · simp [hs1]
    · simp [hs2]
  case rest =>
  clear HK
  obtain ⟨rfl, rfl, HK⟩ := hcut
  have HXX := HX.out _ HK.out.b
  have HQQ := HQ.out _ HK.out.b
  have HK0 := Lib.hid HK.out.drew
  have hyy : y2 ≤ 2000000000 := Nat.le_trans (Nat.le_trans (Nat.le_add_right y2 2) hend) (Nat.le_trans hbig (by decide))
  have hpy : p < y2 + 2 := Nat.lt_of_lt_of_le (Nat.lt_of_lt_of_le (Nat.lt_add_of_pos_right (by decide : 0 < 6)) hy1) (Nat.le_trans hy2 (Nat.le_add_right y2 2))
  clear hpc hyc hp6 hy22 h6
  generalize o + p * 3 = o1 at *
  generalize o + y2 * 3 = o2 at *
  go_wp2_with fail
  refine wp_region_held_drew (S := (fun W => W.cell? ⟨b, o1 + 1, none⟩ = some (.int .i64 x0) ∧ W.cell? ⟨b, o1 + 4, none⟩ = some (.int .i64 x1) ∧ W.cell? ⟨b, o1 + 7, none⟩ = some (.int .i64 x2) ∧ W.cell? ⟨b, o1 + 10, none⟩ = some (.int .i64 x3) ∧ W.cell? ⟨b, o1 + 14, none⟩ = some (.string x4) ∧ W.cell? ⟨b, o1 + 17, none⟩ = some (.string x5) ∧ W.cell? ⟨b, o2 + 1, none⟩ = some (.int .i64 q0) ∧ W.cell? ⟨b, o2 + 4, none⟩ = some (.int .i64 q1) ∧ Hid (Kn w.heap.size w W [(g1, 24, vC k1 n1 f1 s1), (g2, 24, vC k2 n2 f2 s2)] []))) (by kernel_rfl) ?_ (fun hHeld => ?_)
  · (try dsimp only); exact ⟨HXX.1, HXX.2.1, HXX.2.2.1, HXX.2.2.2.1, HXX.2.2.2.2.1, HXX.2.2.2.2.2, HQQ.1, HQQ.2, Lib.hid (HK0.out.dropL 1)⟩
  refine wpAnyH_take (i := 0) (oi := ⟨some 61, _, _, _, _, _⟩) (v := ?_) rfl (by kernel_rfl) (by kernel_rfl) (by kernel_rfl) (fun _ _ _ h => h) (Or.inl ⟨by rfl, ?_⟩) (by assumption) ?_
  rotate_left
  · (intro w hSw; (try dsimp only at hSw); go_simp; try with_reducible rfl)
  try simp only [Act.put, List.setIfInBounds_toArray, List.set_cons_zero, List.set_cons_succ]
  refine wpAnyH_take (i := 1) (oi := ⟨some 62, _, _, _, _, _⟩) (v := ?_) rfl (by kernel_rfl) (by kernel_rfl) (by kernel_rfl) (fun _ _ _ h => h) (Or.inl ⟨by rfl, ?_⟩) (by assumption) ?_
  rotate_left
  · (intro w hSw; (try dsimp only at hSw); go_simp; try with_reducible rfl)
  try simp only [Act.put, List.setIfInBounds_toArray, List.set_cons_zero, List.set_cons_succ]
  refine wpAnyH_take (i := 2) (oi := ⟨some 63, _, _, _, _, _⟩) (v := ?_) rfl (by kernel_rfl) (by kernel_rfl) (by kernel_rfl) (fun _ _ _ h => h) (Or.inl ⟨by rfl, ?_⟩) (by assumption) ?_
  rotate_left
  · (intro w hSw; (try dsimp only at hSw); go_simp; try with_reducible rfl)
  try simp only [Act.put, List.setIfInBounds_toArray, List.set_cons_zero, List.set_cons_succ]
  refine wpAnyH_take (i := 3) (oi := ⟨some 64, _, _, _, _, _⟩) (v := ?_) rfl (by kernel_rfl) (by kernel_rfl) (by kernel_rfl) (fun _ _ _ h => h) (Or.inl ⟨by rfl, ?_⟩) (by assumption) ?_
  rotate_left
  · (intro w hSw; (try dsimp only at hSw); go_simp; try with_reducible rfl)
  try simp only [Act.put, List.setIfInBounds_toArray, List.set_cons_zero, List.set_cons_succ]
  refine wpAnyH_take (i := 4) (oi := ⟨some 65, _, _, _, _, _⟩) (v := ?_) rfl (by kernel_rfl) (by kernel_rfl) (by kernel_rfl) (fun _ _ _ h => h) (Or.inl ⟨by rfl, ?_⟩) (by assumption) ?_
  rotate_left
  · (intro w hSw; (try dsimp only at hSw); go_simp; try with_reducible rfl)
  try simp only [Act.put, List.setIfInBounds_toArray, List.set_cons_zero, List.set_cons_succ]
  refine wpAnyH_take (i := 5) (oi := ⟨some 66, _, _, _, _, _⟩) (v := ?_) rfl (by kernel_rfl) (by kernel_rfl) (by kernel_rfl) (fun _ _ _ h => h) (Or.inl ⟨by rfl, ?_⟩) (by assumption) ?_
  rotate_left
  · (intro w hSw; (try dsimp only at hSw); go_simp; try with_reducible rfl)
  try simp only [Act.put, List.setIfInBounds_toArray, List.set_cons_zero, List.set_cons_succ]
  refine wpAnyH_take (i := 6) (oi := ⟨some 67, _, _, _, _, _⟩) (v := ?_) rfl (by kernel_rfl) (by kernel_rfl) (by kernel_rfl) (fun _ _ _ h => h) (Or.inl ⟨by rfl, ?_⟩) (by assumption) ?_
  rotate_left
  · (intro w hSw; (try dsimp only at hSw); go_simp; try with_reducible rfl)
  try simp only [Act.put, List.setIfInBounds_toArray, List.set_cons_zero, List.set_cons_succ]
  refine wpAnyH_take (i := 7) (oi := ⟨some 68, _, _, _, _, _⟩) (v := ?_) rfl (by kernel_rfl) (by kernel_rfl) (by kernel_rfl) (fun _ _ _ h => h) (Or.inl ⟨by rfl, ?_⟩) (by assumption) ?_
  rotate_left
  · (intro w hSw; (try dsimp only at hSw); go_simp; try with_reducible rfl)
  try simp only [Act.put, List.setIfInBounds_toArray, List.set_cons_zero, List.set_cons_succ]
  refine wpAnyH_take (i := 8) (oi := ⟨some 69, _, _, _, _, _⟩) (v := ?_) rfl (by kernel_rfl) (by kernel_rfl) (by kernel_rfl) (fun _ _ _ h => h) (Or.inl ⟨by rfl, ?_⟩) (by assumption) ?_
  rotate_left
  · (intro w hSw; (try dsimp only at hSw); go_simp; try with_reducible rfl)
  try simp only [Act.put, List.setIfInBounds_toArray, List.set_cons_zero, List.set_cons_succ]
  refine wpAnyH_take (i := 9) (oi := ⟨some 70, _, _, _, _, _⟩) (v := ?_) rfl (by kernel_rfl) (by kernel_rfl) (by kernel_rfl) (fun _ _ _ h => h) (Or.inl ⟨by rfl, ?_⟩) (by assumption) ?_
  rotate_left
  · (intro w hSw; (try dsimp only at hSw); go_simp; try with_reducible rfl)
  try simp only [Act.put, List.setIfInBounds_toArray, List.set_cons_zero, List.set_cons_succ]
  refine wpAnyH_take (i := 10) (oi := ⟨some 71, _, _, _, _, _⟩) (v := ?_) rfl (by kernel_rfl) (by kernel_rfl) (by kernel_rfl) (fun _ _ _ h => h) (Or.inl ⟨by rfl, ?_⟩) (by assumption) ?_
  rotate_left
  · (intro w hSw; (try dsimp only at hSw); go_simp; try with_reducible rfl)
  try simp only [Act.put, List.setIfInBounds_toArray, List.set_cons_zero, List.set_cons_succ]
  refine wpAnyH_take (i := 11) (oi := ⟨some 72, _, _, _, _, _⟩) (v := ?_) rfl (by kernel_rfl) (by kernel_rfl) (by kernel_rfl) (fun _ _ _ h => h) (Or.inl ⟨by rfl, ?_⟩) (by assumption) ?_
  rotate_left
  · (intro w hSw; (try dsimp only at hSw); go_simp; try with_reducible rfl)
  try simp only [Act.put, List.setIfInBounds_toArray, List.set_cons_zero, List.set_cons_succ]
  refine wpAnyH_take (i := 12) (oi := ⟨some 73, _, _, _, _, _⟩) (v := ?_) rfl (by kernel_rfl) (by kernel_rfl) (by kernel_rfl) (fun _ _ _ h => h) (Or.inl ⟨by rfl, ?_⟩) (by assumption) ?_
  rotate_left
  · (intro w hSw; (try dsimp only at hSw); go_simp; try with_reducible rfl)
  try simp only [Act.put, List.setIfInBounds_toArray, List.set_cons_zero, List.set_cons_succ]
  refine wpAnyH_take (i := 13) (oi := ⟨some 74, _, _, _, _, _⟩) (v := ?_) rfl (by kernel_rfl) (by kernel_rfl) (by kernel_rfl) (fun _ _ _ h => h) (Or.inl ⟨by rfl, ?_⟩) (by assumption) ?_
  rotate_left
  · (intro w hSw; (try dsimp only at hSw); go_simp; try with_reducible rfl)
  try simp only [Act.put, List.setIfInBounds_toArray, List.set_cons_zero, List.set_cons_succ]
  refine wpAnyH_take (i := 14) (oi := ⟨some 75, _, _, _, _, _⟩) (v := ?_) rfl (by kernel_rfl) (by kernel_rfl) (by kernel_rfl) (fun _ _ _ h => h) (Or.inl ⟨by rfl, ?_⟩) (by assumption) ?_
  rotate_left
  · (intro w hSw; (try dsimp only at hSw); go_simp; try with_reducible rfl)
  try simp only [Act.put, List.setIfInBounds_toArray, List.set_cons_zero, List.set_cons_succ]
  refine wpAnyH_take (i := 15) (oi := ⟨some 76, _, _, _, _, _⟩) (v := ?_) rfl (by kernel_rfl) (by kernel_rfl) (by kernel_rfl) (fun _ _ _ h => h) (Or.inl ⟨by rfl, ?_⟩) (by assumption) ?_
  rotate_left
  · (intro w hSw; (try dsimp only at hSw); go_simp; try with_reducible rfl)
  try simp only [Act.put, List.setIfInBounds_toArray, List.set_cons_zero, List.set_cons_succ]
  refine wpAnyH_take (i := 16) (oi := ⟨some 77, _, _, _, _, _⟩) (v := ?_) rfl (by kernel_rfl) (by kernel_rfl) (by kernel_rfl) (fun _ _ _ h => h) (Or.inl ⟨by rfl, ?_⟩) (by assumption) ?_
  rotate_left
  · (intro w hSw; (try dsimp only at hSw); go_simp; try with_reducible rfl)
  try simp only [Act.put, List.setIfInBounds_toArray, List.set_cons_zero, List.set_cons_succ]
  refine wpAnyH_take (i := 17) (oi := ⟨some 78, _, _, _, _, _⟩) (v := ?_) rfl (by kernel_rfl) (by kernel_rfl) (by kernel_rfl) (fun _ _ _ h => h) (Or.inl ⟨by rfl, ?_⟩) (by assumption) ?_
  rotate_left
  · (intro w hSw; (try dsimp only at hSw); go_simp; try with_reducible rfl)
  try simp only [Act.put, List.setIfInBounds_toArray, List.set_cons_zero, List.set_cons_succ]
  refine wpAnyH_take (i := 18) (oi := ⟨some 79, _, _, _, _, _⟩) (v := ?_) rfl (by kernel_rfl) (by kernel_rfl) (by kernel_rfl) (fun _ _ _ h => h) (Or.inl ⟨by rfl, ?_⟩) (by assumption) ?_
  rotate_left
  · (intro w hSw; (try dsimp only at hSw); go_simp; try with_reducible rfl)
  try simp only [Act.put, List.setIfInBounds_toArray, List.set_cons_zero, List.set_cons_succ]
  refine wpAnyH_take (i := 19) (oi := ⟨some 80, _, _, _, _, _⟩) (v := ?_) rfl (by kernel_rfl) (by kernel_rfl) (by kernel_rfl) (fun _ _ _ h => h) (Or.inl ⟨by rfl, ?_⟩) (by assumption) ?_
  rotate_left
  · (intro w hSw; (try dsimp only at hSw); go_simp; try with_reducible rfl)
  try simp only [Act.put, List.setIfInBounds_toArray, List.set_cons_zero, List.set_cons_succ]
  refine wpAnyH_take (i := 20) (oi := ⟨some 81, _, _, _, _, _⟩) (v := ?_) rfl (by kernel_rfl) (by kernel_rfl) (by kernel_rfl) (fun _ _ _ h => h) (Or.inl ⟨by rfl, ?_⟩) (by assumption) ?_
  rotate_left
  · (intro w hSw; (try dsimp only at hSw); go_simp; try with_reducible rfl)
  try simp only [Act.put, List.setIfInBounds_toArray, List.set_cons_zero, List.set_cons_succ]
  refine wpAnyH_take (i := 21) (oi := ⟨some 82, _, _, _, _, _⟩) (v := ?_) rfl (by kernel_rfl) (by kernel_rfl) (by kernel_rfl) (fun _ _ _ h => h) (Or.inl ⟨by rfl, ?_⟩) (by assumption) ?_
  rotate_left
  · (intro w hSw; (try dsimp only at hSw); go_simp; try with_reducible rfl)
  try simp only [Act.put, List.setIfInBounds_toArray, List.set_cons_zero, List.set_cons_succ]
  refine wpAnyH_take (i := 22) (oi := ⟨some 83, _, _, _, _, _⟩) (v := ?_) rfl (by kernel_rfl) (by kernel_rfl) (by kernel_rfl) (fun _ _ _ h => h) (Or.inl ⟨by rfl, ?_⟩) (by assumption) ?_
  rotate_left
  · (intro w hSw; (try dsimp only at hSw); go_simp; try with_reducible rfl)
  try simp only [Act.put, List.setIfInBounds_toArray, List.set_cons_zero, List.set_cons_succ]
  refine wpAnyH_take (i := 23) (oi := ⟨some 84, _, _, _, _, _⟩) (v := ?_) rfl (by kernel_rfl) (by kernel_rfl) (by kernel_rfl) (fun _ _ _ h => h) (Or.inl ⟨by rfl, ?_⟩) (by assumption) ?_
  rotate_left
  · (intro w hSw; (try dsimp only at hSw); go_simp; try with_reducible rfl)
  try simp only [Act.put, List.setIfInBounds_toArray, List.set_cons_zero, List.set_cons_succ]
  refine wpAnyH_take (i := 24) (oi := ⟨some 85, _, _, _, _, _⟩) (v := ?_) rfl (by kernel_rfl) (by kernel_rfl) (by kernel_rfl) (fun _ _ _ h => h) (Or.inl ⟨by rfl, ?_⟩) (by assumption) ?_
  rotate_left
  · (intro w hSw; (try dsimp only at hSw); go_simp; try with_reducible rfl)
  try simp only [Act.put, List.setIfInBounds_toArray, List.set_cons_zero, List.set_cons_succ]
  refine wpAnyH_take (i := 25) (oi := ⟨some 86, _, _, _, _, _⟩) (v := ?_) rfl (by kernel_rfl) (by kernel_rfl) (by kernel_rfl) (fun _ _ _ h => h) (Or.inl ⟨by rfl, ?_⟩) (by assumption) ?_
  rotate_left
  · (intro w hSw; refine Eq.trans (kexec_vv hSw.2.2.2.2.2.2.2.2 0 _ (by rfl) (by rfl) (by rfl)) ?_; with_reducible rfl)
  try simp only [Act.put, List.setIfInBounds_toArray, List.set_cons_zero, List.set_cons_succ]
  refine wpAnyH_take (i := 26) (oi := ⟨some 87, _, _, _, _, _⟩) (v := ?_) rfl (by kernel_rfl) (by kernel_rfl) (by kernel_rfl) (fun _ _ _ h => h) (Or.inl ⟨by rfl, ?_⟩) (by assumption) ?_
  rotate_left
  · (intro w hSw; refine Eq.trans (kexec_vv hSw.2.2.2.2.2.2.2.2 1 _ (by rfl) (by rfl) (by rfl)) ?_; with_reducible rfl)
  try simp only [Act.put, List.setIfInBounds_toArray, List.set_cons_zero, List.set_cons_succ]
  refine wpAnyH_take (i := 27) (oi := ⟨some 88, _, _, _, _, _⟩) (v := ?_) rfl (by kernel_rfl) (by kernel_rfl) (by kernel_rfl) (fun _ _ _ h => h) (Or.inl ⟨by rfl, ?_⟩) (by assumption) ?_
  rotate_left
  · (intro w hSw; (try dsimp only at hSw); go_simp; try with_reducible rfl)
  try simp only [Act.put, List.setIfInBounds_toArray, List.set_cons_zero, List.set_cons_succ]
  refine wpAnyH_take (i := 28) (oi := ⟨some 89, _, _, _, _, _⟩) (v := ?_) rfl (by kernel_rfl) (by kernel_rfl) (by kernel_rfl) (fun _ _ _ h => h) (Or.inl ⟨by rfl, ?_⟩) (by assumption) ?_
  rotate_left
  · (intro w hSw; (try dsimp only at hSw); go_simp; try with_reducible rfl)
  try simp only [Act.put, List.setIfInBounds_toArray, List.set_cons_zero, List.set_cons_succ]
  refine wpAnyH_take (i := 29) (oi := ⟨some 90, _, _, _, _, _⟩) (v := ?_) rfl (by kernel_rfl) (by kernel_rfl) (by kernel_rfl) (fun _ _ _ h => h) (Or.inl ⟨by rfl, ?_⟩) (by assumption) ?_
  rotate_left
  · (intro w hSw; (try dsimp only at hSw); go_simp; try with_reducible rfl)
  try simp only [Act.put, List.setIfInBounds_toArray, List.set_cons_zero, List.set_cons_succ]
  refine wpAnyH_take (i := 30) (oi := ⟨some 91, _, _, _, _, _⟩) (v := ?_) rfl (by kernel_rfl) (by kernel_rfl) (by kernel_rfl) (fun _ _ _ h => h) (Or.inl ⟨by rfl, ?_⟩) (by assumption) ?_
  rotate_left
  · (intro w hSw; (try dsimp only at hSw); go_simp; try with_reducible rfl)
  try simp only [Act.put, List.setIfInBounds_toArray, List.set_cons_zero, List.set_cons_succ]
  refine wpAnyH_take (i := 31) (oi := ⟨some 92, _, _, _, _, _⟩) (v := ?_) rfl (by kernel_rfl) (by kernel_rfl) (by kernel_rfl) (fun _ _ _ h => h) (Or.inl ⟨by rfl, ?_⟩) (by assumption) ?_
  rotate_left
  · (intro w hSw; (try dsimp only at hSw); go_simp; try with_reducible rfl)
  try simp only [Act.put, List.setIfInBounds_toArray, List.set_cons_zero, List.set_cons_succ]
  refine wpAnyH_take (i := 32) (oi := ⟨some 93, _, _, _, _, _⟩) (v := ?_) rfl (by kernel_rfl) (by kernel_rfl) (by kernel_rfl) (fun _ _ _ h => h) (Or.inl ⟨by rfl, ?_⟩) (by assumption) ?_
  rotate_left
  · (intro w hSw; (try dsimp only at hSw); go_simp; try with_reducible rfl)
  try simp only [Act.put, List.setIfInBounds_toArray, List.set_cons_zero, List.set_cons_succ]
  refine wpAnyH_take (i := 33) (oi := ⟨some 94, _, _, _, _, _⟩) (v := ?_) rfl (by kernel_rfl) (by kernel_rfl) (by kernel_rfl) (fun _ _ _ h => h) (Or.inl ⟨by rfl, ?_⟩) (by assumption) ?_
  rotate_left
  · (intro w hSw; (try dsimp only at hSw); go_simp; try with_reducible rfl)
  try simp only [Act.put, List.setIfInBounds_toArray, List.set_cons_zero, List.set_cons_succ]
  refine wpAnyH_take (i := 34) (oi := ⟨some 95, _, _, _, _, _⟩) (v := ?_) rfl (by kernel_rfl) (by kernel_rfl) (by kernel_rfl) (fun _ _ _ h => h) (Or.inl ⟨by rfl, ?_⟩) (by assumption) ?_
  rotate_left
  · (intro w hSw; (try dsimp only at hSw); go_simp; try with_reducible rfl)
  try simp only [Act.put, List.setIfInBounds_toArray, List.set_cons_zero, List.set_cons_succ]
  refine wpAnyH_take (i := 35) (oi := ⟨some 96, _, _, _, _, _⟩) (v := ?_) rfl (by kernel_rfl) (by kernel_rfl) (by kernel_rfl) (fun _ _ _ h => h) (Or.inl ⟨by rfl, ?_⟩) (by assumption) ?_
  rotate_left
  · (intro w hSw; (try dsimp only at hSw); go_simp; try with_reducible rfl)
  try simp only [Act.put, List.setIfInBounds_toArray, List.set_cons_zero, List.set_cons_succ]
  refine wpAnyH_take (i := 36) (oi := ⟨some 97, _, _, _, _, _⟩) (v := ?_) rfl (by kernel_rfl) (by kernel_rfl) (by kernel_rfl) (fun _ _ _ h => h) (Or.inl ⟨by rfl, ?_⟩) (by assumption) ?_
  rotate_left
  · (intro w hSw; (try dsimp only at hSw); go_simp; try with_reducible rfl)
  try simp only [Act.put, List.setIfInBounds_toArray, List.set_cons_zero, List.set_cons_succ]
  refine wpAnyH_take (i := 37) (oi := ⟨some 98, _, _, _, _, _⟩) (v := ?_) rfl (by kernel_rfl) (by kernel_rfl) (by kernel_rfl) (fun _ _ _ h => h) (Or.inl ⟨by rfl, ?_⟩) (by assumption) ?_
  rotate_left
  · (intro w hSw; (try dsimp only at hSw); go_simp; try with_reducible rfl)
  try simp only [Act.put, List.setIfInBounds_toArray, List.set_cons_zero, List.set_cons_succ]
  refine wpAnyH_take (i := 38) (oi := ⟨some 99, _, _, _, _, _⟩) (v := ?_) rfl (by kernel_rfl) (by kernel_rfl) (by kernel_rfl) (fun _ _ _ h => h) (Or.inl ⟨by rfl, ?_⟩) (by assumption) ?_
  rotate_left
  · (intro w hSw; (try dsimp only at hSw); go_simp; try with_reducible rfl)
  try simp only [Act.put, List.setIfInBounds_toArray, List.set_cons_zero, List.set_cons_succ]
  refine wpAnyH_ready (rs := [39]) (by kernel_rfl) (by simp) ?_
  refine AllReadyH.cons (o := ⟨none, _, _, _, _, _⟩) rfl (fun K hK => ?_) AllReadyH.nil
  refine step_sev (e2 := ⟨x0, x1, x2, ⟨x3, x4, x5, ⟨k1, n1, f1, s1⟩, ⟨k2, n2, f2, s2⟩, q0, q1⟩⟩) HK0 0 (by rfl) _ _ (by rfl) (by rfl) (by rfl) (by rfl) ?_; intro wq HK'; simp only [List.set] at HK'; have HX2 := HX.out _ HK'.out.b; have HQ2 := HQ.out _ HK'.out.b; have hs := And.intro HX2.1 (And.intro HX2.2.1 (And.intro HX2.2.2.1 (And.intro HX2.2.2.2.1 (And.intro HX2.2.2.2.2.1 (And.intro HX2.2.2.2.2.2 (And.intro HQ2.1 (And.intro HQ2.2 (Lib.hid (HK'.out.dropL 1)))))))))
  refine hK.out _ _ hs (fun hHeld => ?_)
  clear hK K
  try simp only [Act.put, List.setIfInBounds_toArray, List.set_cons_zero, List.set_cons_succ]
  refine wpAnyH_take (i := 40) (oi := ⟨some 5, _, _, _, _, _⟩) (v := ?_) rfl (by kernel_rfl) (by kernel_rfl) (by kernel_rfl) (fun _ _ _ h => h) (Or.inl ⟨by rfl, ?_⟩) (by assumption) ?_
  rotate_left
  · (intro w hSw; (try dsimp only at hSw); go_simp; try with_reducible rfl)
  try simp only [Act.put, List.setIfInBounds_toArray, List.set_cons_zero, List.set_cons_succ]
  refine wpAnyH_take (i := 41) (oi := ⟨some 6, _, _, _, _, _⟩) (v := ?_) rfl (by kernel_rfl) (by kernel_rfl) (by kernel_rfl) (fun _ _ _ h => h) (Or.inl ⟨by rfl, ?_⟩) (by assumption) ?_
  rotate_left
  · (intro w hSw; (try dsimp only at hSw); go_simp; try with_reducible rfl)
  try simp only [Act.put, List.setIfInBounds_toArray, List.set_cons_zero, List.set_cons_succ]
  refine wpAnyH_done (by kernel_rfl) ?_ _
  go_wp2_with fail
  refine ret_e3 (e := ⟨x0, x1, x2, ⟨x3, x4, x5, ⟨k1, n1, f1, s1⟩, ⟨k2, n2, f2, s2⟩, q0, q1⟩⟩) Try.results38 rfl rfl rfl rfl (HK'.out.blk 0 rfl) ⟨⟨x0, x1, x2, ⟨x3, x4, x5, ⟨k1, n1, f1, s1⟩, ⟨k2, n2, f2, s2⟩, q0, q1⟩⟩, y2 + 2, true, ?_, fun h => ⟨(HE.out h).1, (HE.out h).2, rfl⟩, fun _ => ⟨hpy, hend⟩, ⟨hf1, hf2⟩, HK'.out.b⟩
  show Ending.returned (.tuple #[.agg (evA ⟨x0, x1, x2, ⟨x3, x4, x5, ⟨k1, n1, f1, s1⟩, ⟨k2, n2, f2, s2⟩, q0, q1⟩⟩), .int .i64 (IntKind.i64.wrap ((y2 : Int) + 2)), .bool true]) = _
  rw [wrap_i2 y2 hyy]
end Go.Proofs.Ytcofjaeljglodaa
