/-
  What the law StoreOthers returns: true.
  No condition but what the slice reads as, and that the floats are of 64 bits.
-/
import Derived.Test.YtpkodjllljnleaaMP
import Derived.Test.YtpkodjllljnleaaMB
import Derived.Test.YtpkodjllljnleaaMR
set_option linter.unusedSimpArgs false
set_option linter.unusedVariables false
namespace Go.Proofs.Ytpkodjllljnleaa
open Go.RowKit

theorem Kn.toFront {b0 : Nat} {w0 w : World} {L : List (Nat × TypeId × Array Value)} {R : List RowE} {y : RowE} (h : Kn b0 w0 w L (R ++ [y])) : Kn b0 w0 w L (y :: R) := by
  refine h.pick (fun i => i) (fun i => if i = 0 then R.length else i - 1) (fun i j _ _ hij => hij) (fun i j hi hj hij => ?_) (fun i x hx => hx) (fun i x hx => ?_)
  · rw [List.length_cons] at hi hj
    split <;> split <;> omega
  · match i, hx with
    | 0, hx =>
      rw [List.getElem?_cons_zero] at hx
      injection hx with hx
      subst hx
      simp
    | i + 1, hx =>
      rw [List.getElem?_cons_succ] at hx
      show (R ++ [y])[i]? = some x
      rw [List.getElem?_append_left (List.getElem?_eq_some_iff.1 hx).1]
      exact hx
/-- Objects of other names. -/
def woO (l : List Oh) (k : ByteArray) : List Oh := l.filter fun x => !decide (x.v.name = k)
theorem vs_woO (l : List Oh) (k : ByteArray) : vs (woO l k) = Sto.wo (vs l) k := by
  unfold vs woO Sto.wo
  rw [List.filter_map]
  rfl
theorem woO_in {l : List Oh} {k : Nat} {x : Oh} {nm : ByteArray} (hx : l[k]? = some x) (h : ¬ x.v.name = nm) : woO (l.take (k + 1)) nm = woO (l.take k) nm ++ [x] := by
  unfold woO
  rw [Lay.take_succ hx, List.filter_append, List.filter_cons_of_pos (by simp [h])]
  rfl
theorem woO_out {l : List Oh} {k : Nat} {x : Oh} {nm : ByteArray} (hx : l[k]? = some x) (h : x.v.name = nm) : woO (l.take (k + 1)) nm = woO (l.take k) nm := by
  unfold woO
  rw [Lay.take_succ hx, List.filter_append, List.filter_cons_of_neg (by simp [h]), List.filter_nil, List.append_nil]
theorem obs_woO {b : Nat} {w : World} {A B : Option Addr} {n c m d : Nat} {l : List Oh} {nm : ByteArray} (ho : obLay.Own b w (.slice B m d) (woO l nm)) (h : Obs w A n c l) : Obs w B m d (woO l nm) :=
  ⟨Sls.own ho ⟨fun x hx => trivial, Nat.le_trans (Nat.mul_le_mul_right _ (List.length_filter_le _ _)) h.s.fit.big⟩, fun x hx => h.i x (List.mem_filter.1 hx).1⟩
set_option maxRecDepth 100000 in
set_option maxHeartbeats 25600000 in
theorem others_yes (A : Option Addr) (cp n : Nat) (l : List Oh) (r : Rf) (c : Cmd.C) (w : World) (hs : Obs w A n cp l) (hv : c.val.f < 18446744073709551616) (ho : c.old.f < 18446744073709551616) :
    Calls Try.prog 5 #[.slice A n cp, .agg #[.int .i64 r.c, .int .i64 r.e, .int .i64 r.r], .agg (cmA c)] w (fun e w' => e = .returned (.bool true) ∧ Below w.heap.size w w') := by
  have HA := Lib.hid oawake_any
  have HT := Lib.hid (fun W (hW : Below w.heap.size w W) => twin_keep A cp n l W (hs.later hW))
  have HD := Lib.hid (fun W (hW : Below w.heap.size w W) => sdo_any A cp n l r c W (hs.later hW) hv ho)
  have HS := Lib.hid same_yes
  have HOt := Lib.hid (Sto.doo_others (vs l) r c)
  have HK := kn2 w 34 #[.int .i64 r.c, .int .i64 r.e, .int .i64 r.r] 36 (cmA c)
  unfold IsB at HA HS
  unfold IsKp at HT
  unfold IsDo at HD
  clear hs hv ho
  generalize Sto.doo (vs l) r c = Y at *
  obtain ⟨yl, yp, yt, ys⟩ := Y
  simp only at HD HOt
  go_enter Try.func5, Try.ntmps5
  go_wp2_with fail
  refine (HT.out _ HK.out.b).mono ?_; rintro e w1 ⟨A1, n1, c1, l1, R1, rfl, v1, k1, i1⟩
  replace HK := Lib.hid (HK.out.join k1)
  simp only [List.nil_append] at HK
  have HV1 := Lib.hid v1
  have HI1 := Lib.hid i1
  clear v1 k1 i1
  go_wp2_with (first | refine wpList_exe (kexec_lr HK 0 _ (by rfl) (by rfl) (by rfl)) (by rfl) ?_ | refine wpList_exe (kcm HK 1 _ (by rfl) (by rfl) (by rfl)) (by rfl) ?_)
  refine (HD.out _ HK.out.b).mono ?_; rintro e w1 ⟨A2, n2, c2, l2, O, kk, d, R2, rfl, v2, k2, i2⟩
  replace HK := Lib.hid (HK.out.join k2)
  have HV2 := Lib.hid v2
  have HI2 : Hid (∀ (b : Nat) (W0 W : World) L R, Kn b W0 W L R → (∀ y ∈ R2, y ∈ R) → Obs W A2 n2 c2 l2) := Lib.hid fun b W0 W L R K hm => (i2 b W0 W L R K hm).1
  clear v2 k2 i2 HT HD
  have HM1 : Hid (∀ y ∈ R1, y ∈ R1 ++ R2) := Lib.hid fun y hy => List.mem_append_left _ hy
  have HM2 : Hid (∀ y ∈ R2, y ∈ R1 ++ R2) := Lib.hid fun y hy => List.mem_append_right _ hy
  have HEq : Hid (vs (woO l1 c.name) = vs (woO l2 c.name)) := Lib.hid (by rw [vs_woO, vs_woO, HV1.out, HV2.out, HOt.out])
  generalize R1 ++ R2 = RR at *
  have hb1 : n1 * 144 ≤ 140737488355328 := (HI1.out _ _ _ _ _ HK.out HM1.out).s.big
  have hb2 : n2 * 144 ≤ 140737488355328 := (HI2.out _ _ _ _ _ HK.out HM2.out).s.big
  have HL1 : Hid (l1.length = n1) := Lib.hid (HI1.out _ _ _ _ _ HK.out HM1.out).len
  have HL2 : Hid (l2.length = n2) := Lib.hid (HI2.out _ _ _ _ _ HK.out HM2.out).len
  go_upto_region 4 with (first | (refine wpList_arp HK rfl rfl ?_; intro _ g9 HK'; simp only [List.cons_append, List.nil_append] at HK'; replace HK := HK'; clear HK') | (refine wpList_srp (q := yp) HK 2 rfl _ _ rfl rfl rfl rfl ?_; intro _ HK'; simp only [List.set] at HK'; replace HK := HK'; clear HK'))
  replace HK := Lib.hid (HK.out.nilR obLay).toFront
  go_wp2_with fail
  go_loopw [12, 14] (fun vp vi wr => ∃ (k N : Nat) (A3 : Option Addr) (c3 : Nat), k ≤ n1 ∧ N ≤ k ∧ vp = .slice A3 N c3 ∧ vi = .int .i64 k ∧ Hid ((woO (l1.take k) c.name).length = N) ∧ Hid (Kn w.heap.size w wr [(w.heap.size, 34, #[.int .i64 r.c, .int .i64 r.e, .int .i64 r.r]), (w.heap.size + 1, 36, cmA c), (g9, 28, rpA yp)] (row obLay (.slice A3 N c3) (woO (l1.take k) c.name) :: RR))) (fun _ vi _ => n1 - (intOf vi).toNat)
  case atStart => exact ⟨0, 0, _, _, Nat.zero_le _, Nat.le_refl _, rfl, rfl, Lib.hid rfl, HK⟩
  case round =>
    clear HK
    obtain ⟨k, N, A3, c3, hk, hNk, rfl, rfl, HN, HK⟩ := hrel
    have hk1 : (0 : Int) ≤ (k : Int) := by omega
    by_cases hlt : k < n1
    case pos =>
      have hk2 : (k : Int) < (n1 : Int) := by omega
      have hk3 : k < 9223372036854775807 := by omega
      have HMm : Hid (∀ y ∈ R1, y ∈ row obLay (.slice A3 N c3) (woO (l1.take k) c.name) :: RR) := Lib.hid fun y hy => List.mem_cons_of_mem _ (HM1.out y hy)
      have hob := HI1.out _ _ _ _ _ HK.out HMm.out
      obtain ⟨x, hx, _⟩ := hob.get hlt
      obtain ⟨b, o, rfl, _⟩ := hob.s.at (Nat.lt_of_le_of_lt (Nat.zero_le _) hlt)
      have HX : Hid (∀ W L R, Kn w.heap.size w W L R → (∀ y ∈ R1, y ∈ R) → ∀ j v, (obL x)[j]? = some v → W.cell? ⟨b, o + k * 11 + j, none⟩ = some v) := Lib.hid fun W L R K hm => (HI1.out _ _ _ _ _ K hm).s.cells hx
      have HXx := Lib.hid hx
      clear hob hx
      go_wp2_with fail
      by_cases he : x.v.name = c.name
      · have hb : (!decide (x.v.name = c.name)) = false := by rw [decide_eq_true he]; rfl
        have HT1 := Lib.hid (woO_out HXx.out he)
        replace HK := Lib.hid HK.out.drew
        refine wp_region_held_drew (S := (fun W => Hid (Kn w.heap.size w W [(w.heap.size, 34, #[.int .i64 r.c, .int .i64 r.e, .int .i64 r.r]), (w.heap.size + 1, 36, cmA c), (g9, 28, rpA yp)] (row obLay (.slice A3 N c3) (woO (l1.take k) c.name) :: RR)))) (by kernel_rfl) ?_ (fun hHeld => ?_)
        · (try dsimp only); exact HK
        refine wpAnyH_take (i := 0) (oi := ⟨some 33, _, _, _, _, _⟩) (v := ?_) rfl (by kernel_rfl) (by kernel_rfl) (by kernel_rfl) (fun _ _ _ h => h) (Or.inl ⟨by rfl, ?_⟩) (by assumption) ?_
        rotate_left
        · (intro w hSw; (try dsimp only at hSw); go_simp; try with_reducible rfl)
        try simp only [Act.put, List.setIfInBounds_toArray, List.set_cons_zero, List.set_cons_succ]
        refine wpAnyH_take (i := 1) (oi := ⟨some 34, _, _, _, _, _⟩) (v := ?_) rfl (by kernel_rfl) (by kernel_rfl) (by kernel_rfl) (fun _ _ _ h => h) (Or.inl ⟨by rfl, ?_⟩) (by assumption) ?_
        rotate_left
        · (intro w hSw; (try dsimp only at hSw); go_simp; try with_reducible rfl)
        try simp only [Act.put, List.setIfInBounds_toArray, List.set_cons_zero, List.set_cons_succ]
        refine wpAnyH_take (i := 2) (oi := ⟨some 35, _, _, _, _, _⟩) (v := ?_) rfl (by kernel_rfl) (by kernel_rfl) (by kernel_rfl) (fun _ _ _ h => h) (Or.inl ⟨by rfl, ?_⟩) (by assumption) ?_
        rotate_left
        · (intro w hSw; refine Eq.trans (exec_ixo (i := k) _ _ (by rfl) (by rfl) (by rfl) hlt) ?_; with_reducible rfl)
        try simp only [Act.put, List.setIfInBounds_toArray, List.set_cons_zero, List.set_cons_succ]
        refine wpAnyH_take (i := 3) (oi := ⟨some 36, _, _, _, _, _⟩) (v := ?_) rfl (by kernel_rfl) (by kernel_rfl) (by kernel_rfl) (fun _ _ _ h => h) (Or.inl ⟨by rfl, ?_⟩) (by assumption) ?_
        rotate_left
        · (intro w hSw; (try dsimp only at hSw); go_simp; try with_reducible rfl)
        try simp only [Act.put, List.setIfInBounds_toArray, List.set_cons_zero, List.set_cons_succ]
        refine wpAnyH_take (i := 4) (oi := ⟨some 37, _, _, _, _, _⟩) (v := ?_) rfl (by kernel_rfl) (by kernel_rfl) (by kernel_rfl) (fun _ _ _ h => h) (Or.inl ⟨by rfl, ?_⟩) (by assumption) ?_
        rotate_left
        · (intro w hSw; refine Eq.trans (exec_obn (off := o + k * 11) _ (by rfl) (by rfl) (HX.out _ _ _ hSw.out HMm.out)) ?_; with_reducible rfl)
        try simp only [Act.put, List.setIfInBounds_toArray, List.set_cons_zero, List.set_cons_succ]
        refine wpAnyH_take (i := 5) (oi := ⟨some 38, _, _, _, _, _⟩) (v := ?_) rfl (by kernel_rfl) (by kernel_rfl) (by kernel_rfl) (fun _ _ _ h => h) (Or.inl ⟨by rfl, ?_⟩) (by assumption) ?_
        rotate_left
        · (intro w hSw; (try dsimp only at hSw); go_simp; try with_reducible rfl)
        try simp only [Act.put, List.setIfInBounds_toArray, List.set_cons_zero, List.set_cons_succ]
        refine wpAnyH_take (i := 6) (oi := ⟨some 39, _, _, _, _, _⟩) (v := ?_) rfl (by kernel_rfl) (by kernel_rfl) (by kernel_rfl) (fun _ _ _ h => h) (Or.inl ⟨by rfl, ?_⟩) (by assumption) ?_
        rotate_left
        · (intro w hSw; refine Eq.trans (kcm_n hSw 1 _ (by rfl) (by rfl) (by rfl)) ?_; with_reducible rfl)
        try simp only [Act.put, List.setIfInBounds_toArray, List.set_cons_zero, List.set_cons_succ]
        refine wpAnyH_take (i := 7) (oi := ⟨some 40, _, _, _, _, _⟩) (v := ?_) rfl (by kernel_rfl) (by kernel_rfl) (by kernel_rfl) (fun _ _ _ h => h) (Or.inl ⟨by rfl, ?_⟩) (by assumption) ?_
        rotate_left
        · (intro w hSw; refine Eq.trans (exec_sne _ _ (by rfl) (by rfl) (by rfl) hb) ?_; with_reducible rfl)
        try simp only [Act.put, List.setIfInBounds_toArray, List.set_cons_zero, List.set_cons_succ]
        refine wpAnyH_done (by kernel_rfl) ?_ _
        go_wp2_with (first | refine wpList_exe (exec_add1 (j := k) _ (by rfl) (by rfl) hk3) (by rfl) ?_)
        exact ⟨⟨k + 1, N, A3, c3, by omega, by omega, rfl, by go_num, Lib.hid (by rw [HT1.out]; exact HN.out), Lib.hid (by rw [HT1.out]; exact hHeld.out)⟩, by simp [intOf]; omega⟩
      · have hb : (!decide (x.v.name = c.name)) = true := by rw [decide_eq_false he]; rfl
        have HT1 := Lib.hid (woO_in HXx.out he)
        have HGr : Hid ((woO (l1.take k) c.name).length + 1 ≤ 9223372036854775807 ∧ ((woO (l1.take k) c.name).length + 1) * obLay.bytes ≤ 211106232532992) := Lib.hid (by
          rw [HN.out]
          refine ⟨by omega, ?_⟩
          show (N + 1) * 144 ≤ _
          omega)
        have HN3 : Hid ((woO (l1.take k) c.name ++ [x]).length = N + 1) := Lib.hid (by rw [List.length_append, HN.out]; rfl)
        replace HK := Lib.hid HK.out.drew
        refine wp_region_held_drew (S := (fun W => Hid (Kn w.heap.size w W [(w.heap.size, 34, #[.int .i64 r.c, .int .i64 r.e, .int .i64 r.r]), (w.heap.size + 1, 36, cmA c), (g9, 28, rpA yp)] (row obLay (.slice A3 N c3) (woO (l1.take k) c.name) :: RR)))) (by kernel_rfl) ?_ (fun hHeld => ?_)
        · (try dsimp only); exact HK
        refine wpAnyH_take (i := 0) (oi := ⟨some 33, _, _, _, _, _⟩) (v := ?_) rfl (by kernel_rfl) (by kernel_rfl) (by kernel_rfl) (fun _ _ _ h => h) (Or.inl ⟨by rfl, ?_⟩) (by assumption) ?_
        rotate_left
        · (intro w hSw; (try dsimp only at hSw); go_simp; try with_reducible rfl)
        try simp only [Act.put, List.setIfInBounds_toArray, List.set_cons_zero, List.set_cons_succ]
        refine wpAnyH_take (i := 1) (oi := ⟨some 34, _, _, _, _, _⟩) (v := ?_) rfl (by kernel_rfl) (by kernel_rfl) (by kernel_rfl) (fun _ _ _ h => h) (Or.inl ⟨by rfl, ?_⟩) (by assumption) ?_
        rotate_left
        · (intro w hSw; (try dsimp only at hSw); go_simp; try with_reducible rfl)
        try simp only [Act.put, List.setIfInBounds_toArray, List.set_cons_zero, List.set_cons_succ]
        refine wpAnyH_take (i := 2) (oi := ⟨some 35, _, _, _, _, _⟩) (v := ?_) rfl (by kernel_rfl) (by kernel_rfl) (by kernel_rfl) (fun _ _ _ h => h) (Or.inl ⟨by rfl, ?_⟩) (by assumption) ?_
        rotate_left
        · (intro w hSw; refine Eq.trans (exec_ixo (i := k) _ _ (by rfl) (by rfl) (by rfl) hlt) ?_; with_reducible rfl)
        try simp only [Act.put, List.setIfInBounds_toArray, List.set_cons_zero, List.set_cons_succ]
        refine wpAnyH_take (i := 3) (oi := ⟨some 36, _, _, _, _, _⟩) (v := ?_) rfl (by kernel_rfl) (by kernel_rfl) (by kernel_rfl) (fun _ _ _ h => h) (Or.inl ⟨by rfl, ?_⟩) (by assumption) ?_
        rotate_left
        · (intro w hSw; (try dsimp only at hSw); go_simp; try with_reducible rfl)
        try simp only [Act.put, List.setIfInBounds_toArray, List.set_cons_zero, List.set_cons_succ]
        refine wpAnyH_take (i := 4) (oi := ⟨some 37, _, _, _, _, _⟩) (v := ?_) rfl (by kernel_rfl) (by kernel_rfl) (by kernel_rfl) (fun _ _ _ h => h) (Or.inl ⟨by rfl, ?_⟩) (by assumption) ?_
        rotate_left
        · (intro w hSw; refine Eq.trans (exec_obn (off := o + k * 11) _ (by rfl) (by rfl) (HX.out _ _ _ hSw.out HMm.out)) ?_; with_reducible rfl)
        try simp only [Act.put, List.setIfInBounds_toArray, List.set_cons_zero, List.set_cons_succ]
        refine wpAnyH_take (i := 5) (oi := ⟨some 38, _, _, _, _, _⟩) (v := ?_) rfl (by kernel_rfl) (by kernel_rfl) (by kernel_rfl) (fun _ _ _ h => h) (Or.inl ⟨by rfl, ?_⟩) (by assumption) ?_
        rotate_left
        · (intro w hSw; (try dsimp only at hSw); go_simp; try with_reducible rfl)
        try simp only [Act.put, List.setIfInBounds_toArray, List.set_cons_zero, List.set_cons_succ]
        refine wpAnyH_take (i := 6) (oi := ⟨some 39, _, _, _, _, _⟩) (v := ?_) rfl (by kernel_rfl) (by kernel_rfl) (by kernel_rfl) (fun _ _ _ h => h) (Or.inl ⟨by rfl, ?_⟩) (by assumption) ?_
        rotate_left
        · (intro w hSw; refine Eq.trans (kcm_n hSw 1 _ (by rfl) (by rfl) (by rfl)) ?_; with_reducible rfl)
        try simp only [Act.put, List.setIfInBounds_toArray, List.set_cons_zero, List.set_cons_succ]
        refine wpAnyH_take (i := 7) (oi := ⟨some 40, _, _, _, _, _⟩) (v := ?_) rfl (by kernel_rfl) (by kernel_rfl) (by kernel_rfl) (fun _ _ _ h => h) (Or.inl ⟨by rfl, ?_⟩) (by assumption) ?_
        rotate_left
        · (intro w hSw; refine Eq.trans (exec_sne _ _ (by rfl) (by rfl) (by rfl) hb) ?_; with_reducible rfl)
        try simp only [Act.put, List.setIfInBounds_toArray, List.set_cons_zero, List.set_cons_succ]
        refine wpAnyH_done (by kernel_rfl) ?_ _
        replace HK := hHeld
        go_wp2_with (first | (refine wpList_of_exec (v := .agg (obA x)) (by rfl) (exec_obx (off := o + k * 11) _ (by rfl) (by rfl) (HX.out _ _ _ HK.out HMm.out)) ?_) | (refine wpList_mk1 obLay (p := x) HK (by decide) rfl _ rfl rfl rfl ?_; intro _ g11 HK'; have HR := Lib.hid (Kn.lastOwn HK'.out).rd; simp only [List.cons_append] at HK'; replace HK := HK'; clear HK') | (at_builtin; refine wpList_kmore HK obLay 0 rfl _ _ rfl rfl rfl [x] rfl rfl HR HGr (N := N + 1) HN3 ?_; intro A8 c8 _ HK'; simp only [List.set] at HK'; replace HK := HK'; clear HK') | refine wpList_exe (exec_add1 (j := k) _ (by rfl) (by rfl) hk3) (by rfl) ?_)
        refine ⟨⟨k + 1, N + 1, A8, c8, by omega, by omega, rfl, by go_num, Lib.hid (by rw [HT1.out]; exact HN3.out), Lib.hid ?_⟩, by simp [intOf]; omega⟩
        rw [HT1.out]
        have h := HK.out
        simp only [← List.cons_append] at h
        exact h.init
    case neg =>
    have hkn : k = n1 := by omega
    have HTk : Hid (l1.take k = l1) := Lib.hid (by rw [hkn, ← HL1.out, List.take_length])
    have hk2 : ¬ (k : Int) < (n1 : Int) := by omega
    rw [HTk.out] at HK HN
    clear HTk hlt hk hkn
    replace HK := Lib.hid (HK.out.nilR obLay).toFront
    have HNp := HN
    have hNp := hNk
    clear HN hk1 hNk
    go_wp2_with fail
    go_loopw [13, 15] (fun vp vi wr => ∃ (kq M : Nat) (A6 : Option Addr) (c6 : Nat), kq ≤ n2 ∧ M ≤ kq ∧ vp = .slice A6 M c6 ∧ vi = .int .i64 kq ∧ Hid ((woO (l2.take kq) c.name).length = M) ∧ Hid (Kn w.heap.size w wr [(w.heap.size, 34, #[.int .i64 r.c, .int .i64 r.e, .int .i64 r.r]), (w.heap.size + 1, 36, cmA c), (g9, 28, rpA yp)] (row obLay (.slice A6 M c6) (woO (l2.take kq) c.name) :: row obLay (.slice A3 N c3) (woO l1 c.name) :: RR))) (fun _ vi _ => n2 - (intOf vi).toNat)
    case atStart => exact ⟨0, 0, _, _, Nat.zero_le _, Nat.le_refl _, rfl, rfl, Lib.hid rfl, HK⟩
    case round =>
      clear HK
      obtain ⟨kq, M, A6, c6, hk, hNk, rfl, rfl, HN, HK⟩ := hrel
      have hk1 : (0 : Int) ≤ (kq : Int) := by omega
      by_cases hlt : kq < n2
      case pos =>
        have hk2 : (kq : Int) < (n2 : Int) := by omega
        have hk3 : kq < 9223372036854775807 := by omega
        have HMm : Hid (∀ y ∈ R2, y ∈ row obLay (.slice A6 M c6) (woO (l2.take kq) c.name) :: row obLay (.slice A3 N c3) (woO l1 c.name) :: RR) := Lib.hid fun y hy => List.mem_cons_of_mem _ (List.mem_cons_of_mem _ (HM2.out y hy))
        have hob := HI2.out _ _ _ _ _ HK.out HMm.out
        obtain ⟨x, hx, _⟩ := hob.get hlt
        obtain ⟨b, o, rfl, _⟩ := hob.s.at (Nat.lt_of_le_of_lt (Nat.zero_le _) hlt)
        have HX : Hid (∀ W L R, Kn w.heap.size w W L R → (∀ y ∈ R2, y ∈ R) → ∀ j v, (obL x)[j]? = some v → W.cell? ⟨b, o + kq * 11 + j, none⟩ = some v) := Lib.hid fun W L R K hm => (HI2.out _ _ _ _ _ K hm).s.cells hx
        have HXx := Lib.hid hx
        clear hob hx
        go_wp2_with fail
        by_cases he : x.v.name = c.name
        · have hb : (!decide (x.v.name = c.name)) = false := by rw [decide_eq_true he]; rfl
          have HT1 := Lib.hid (woO_out HXx.out he)
          replace HK := Lib.hid HK.out.drew
          refine wp_region_held_drew (S := (fun W => Hid (Kn w.heap.size w W [(w.heap.size, 34, #[.int .i64 r.c, .int .i64 r.e, .int .i64 r.r]), (w.heap.size + 1, 36, cmA c), (g9, 28, rpA yp)] (row obLay (.slice A6 M c6) (woO (l2.take kq) c.name) :: row obLay (.slice A3 N c3) (woO l1 c.name) :: RR)))) (by kernel_rfl) ?_ (fun hHeld => ?_)
          · (try dsimp only); exact HK
          refine wpAnyH_take (i := 0) (oi := ⟨some 54, _, _, _, _, _⟩) (v := ?_) rfl (by kernel_rfl) (by kernel_rfl) (by kernel_rfl) (fun _ _ _ h => h) (Or.inl ⟨by rfl, ?_⟩) (by assumption) ?_
          rotate_left
          · (intro w hSw; (try dsimp only at hSw); go_simp; try with_reducible rfl)
          try simp only [Act.put, List.setIfInBounds_toArray, List.set_cons_zero, List.set_cons_succ]
          refine wpAnyH_take (i := 1) (oi := ⟨some 55, _, _, _, _, _⟩) (v := ?_) rfl (by kernel_rfl) (by kernel_rfl) (by kernel_rfl) (fun _ _ _ h => h) (Or.inl ⟨by rfl, ?_⟩) (by assumption) ?_
          rotate_left
          · (intro w hSw; (try dsimp only at hSw); go_simp; try with_reducible rfl)
          try simp only [Act.put, List.setIfInBounds_toArray, List.set_cons_zero, List.set_cons_succ]
          refine wpAnyH_take (i := 2) (oi := ⟨some 56, _, _, _, _, _⟩) (v := ?_) rfl (by kernel_rfl) (by kernel_rfl) (by kernel_rfl) (fun _ _ _ h => h) (Or.inl ⟨by rfl, ?_⟩) (by assumption) ?_
          rotate_left
          · (intro w hSw; refine Eq.trans (exec_ixo (i := kq) _ _ (by rfl) (by rfl) (by rfl) hlt) ?_; with_reducible rfl)
          try simp only [Act.put, List.setIfInBounds_toArray, List.set_cons_zero, List.set_cons_succ]
          refine wpAnyH_take (i := 3) (oi := ⟨some 57, _, _, _, _, _⟩) (v := ?_) rfl (by kernel_rfl) (by kernel_rfl) (by kernel_rfl) (fun _ _ _ h => h) (Or.inl ⟨by rfl, ?_⟩) (by assumption) ?_
          rotate_left
          · (intro w hSw; (try dsimp only at hSw); go_simp; try with_reducible rfl)
          try simp only [Act.put, List.setIfInBounds_toArray, List.set_cons_zero, List.set_cons_succ]
          refine wpAnyH_take (i := 4) (oi := ⟨some 58, _, _, _, _, _⟩) (v := ?_) rfl (by kernel_rfl) (by kernel_rfl) (by kernel_rfl) (fun _ _ _ h => h) (Or.inl ⟨by rfl, ?_⟩) (by assumption) ?_
          rotate_left
          · (intro w hSw; refine Eq.trans (exec_obn (off := o + kq * 11) _ (by rfl) (by rfl) (HX.out _ _ _ hSw.out HMm.out)) ?_; with_reducible rfl)
          try simp only [Act.put, List.setIfInBounds_toArray, List.set_cons_zero, List.set_cons_succ]
          refine wpAnyH_take (i := 5) (oi := ⟨some 59, _, _, _, _, _⟩) (v := ?_) rfl (by kernel_rfl) (by kernel_rfl) (by kernel_rfl) (fun _ _ _ h => h) (Or.inl ⟨by rfl, ?_⟩) (by assumption) ?_
          rotate_left
          · (intro w hSw; (try dsimp only at hSw); go_simp; try with_reducible rfl)
          try simp only [Act.put, List.setIfInBounds_toArray, List.set_cons_zero, List.set_cons_succ]
          refine wpAnyH_take (i := 6) (oi := ⟨some 60, _, _, _, _, _⟩) (v := ?_) rfl (by kernel_rfl) (by kernel_rfl) (by kernel_rfl) (fun _ _ _ h => h) (Or.inl ⟨by rfl, ?_⟩) (by assumption) ?_
          rotate_left
          · (intro w hSw; refine Eq.trans (kcm_n hSw 1 _ (by rfl) (by rfl) (by rfl)) ?_; with_reducible rfl)
          try simp only [Act.put, List.setIfInBounds_toArray, List.set_cons_zero, List.set_cons_succ]
          refine wpAnyH_take (i := 7) (oi := ⟨some 61, _, _, _, _, _⟩) (v := ?_) rfl (by kernel_rfl) (by kernel_rfl) (by kernel_rfl) (fun _ _ _ h => h) (Or.inl ⟨by rfl, ?_⟩) (by assumption) ?_
          rotate_left
          · (intro w hSw; refine Eq.trans (exec_sne _ _ (by rfl) (by rfl) (by rfl) hb) ?_; with_reducible rfl)
          try simp only [Act.put, List.setIfInBounds_toArray, List.set_cons_zero, List.set_cons_succ]
          refine wpAnyH_done (by kernel_rfl) ?_ _
          go_wp2_with (first | refine wpList_exe (exec_add1 (j := kq) _ (by rfl) (by rfl) hk3) (by rfl) ?_)
          exact ⟨⟨kq + 1, M, A6, c6, by omega, by omega, rfl, by go_num, Lib.hid (by rw [HT1.out]; exact HN.out), Lib.hid (by rw [HT1.out]; exact hHeld.out)⟩, by simp [intOf]; omega⟩
        · have hb : (!decide (x.v.name = c.name)) = true := by rw [decide_eq_false he]; rfl
          have HT1 := Lib.hid (woO_in HXx.out he)
          have HGr : Hid ((woO (l2.take kq) c.name).length + 1 ≤ 9223372036854775807 ∧ ((woO (l2.take kq) c.name).length + 1) * obLay.bytes ≤ 211106232532992) := Lib.hid (by
            rw [HN.out]
            refine ⟨by omega, ?_⟩
            show (M + 1) * 144 ≤ _
            omega)
          have HN3 : Hid ((woO (l2.take kq) c.name ++ [x]).length = M + 1) := Lib.hid (by rw [List.length_append, HN.out]; rfl)
          replace HK := Lib.hid HK.out.drew
          refine wp_region_held_drew (S := (fun W => Hid (Kn w.heap.size w W [(w.heap.size, 34, #[.int .i64 r.c, .int .i64 r.e, .int .i64 r.r]), (w.heap.size + 1, 36, cmA c), (g9, 28, rpA yp)] (row obLay (.slice A6 M c6) (woO (l2.take kq) c.name) :: row obLay (.slice A3 N c3) (woO l1 c.name) :: RR)))) (by kernel_rfl) ?_ (fun hHeld => ?_)
          · (try dsimp only); exact HK
          refine wpAnyH_take (i := 0) (oi := ⟨some 54, _, _, _, _, _⟩) (v := ?_) rfl (by kernel_rfl) (by kernel_rfl) (by kernel_rfl) (fun _ _ _ h => h) (Or.inl ⟨by rfl, ?_⟩) (by assumption) ?_
          rotate_left
          · (intro w hSw; (try dsimp only at hSw); go_simp; try with_reducible rfl)
          try simp only [Act.put, List.setIfInBounds_toArray, List.set_cons_zero, List.set_cons_succ]
          refine wpAnyH_take (i := 1) (oi := ⟨some 55, _, _, _, _, _⟩) (v := ?_) rfl (by kernel_rfl) (by kernel_rfl) (by kernel_rfl) (fun _ _ _ h => h) (Or.inl ⟨by rfl, ?_⟩) (by assumption) ?_
          rotate_left
          · (intro w hSw; (try dsimp only at hSw); go_simp; try with_reducible rfl)
          try simp only [Act.put, List.setIfInBounds_toArray, List.set_cons_zero, List.set_cons_succ]
          refine wpAnyH_take (i := 2) (oi := ⟨some 56, _, _, _, _, _⟩) (v := ?_) rfl (by kernel_rfl) (by kernel_rfl) (by kernel_rfl) (fun _ _ _ h => h) (Or.inl ⟨by rfl, ?_⟩) (by assumption) ?_
          rotate_left
          · (intro w hSw; refine Eq.trans (exec_ixo (i := kq) _ _ (by rfl) (by rfl) (by rfl) hlt) ?_; with_reducible rfl)
          try simp only [Act.put, List.setIfInBounds_toArray, List.set_cons_zero, List.set_cons_succ]
          refine wpAnyH_take (i := 3) (oi := ⟨some 57, _, _, _, _, _⟩) (v := ?_) rfl (by kernel_rfl) (by kernel_rfl) (by kernel_rfl) (fun _ _ _ h => h) (Or.inl ⟨by rfl, ?_⟩) (by assumption) ?_
          rotate_left
          · (intro w hSw; (try dsimp only at hSw); go_simp; try with_reducible rfl)
          try simp only [Act.put, List.setIfInBounds_toArray, List.set_cons_zero, List.set_cons_succ]
          refine wpAnyH_take (i := 4) (oi := ⟨some 58, _, _, _, _, _⟩) (v := ?_) rfl (by kernel_rfl) (by kernel_rfl) (by kernel_rfl) (fun _ _ _ h => h) (Or.inl ⟨by rfl, ?_⟩) (by assumption) ?_
          rotate_left
          · (intro w hSw; refine Eq.trans (exec_obn (off := o + kq * 11) _ (by rfl) (by rfl) (HX.out _ _ _ hSw.out HMm.out)) ?_; with_reducible rfl)
          try simp only [Act.put, List.setIfInBounds_toArray, List.set_cons_zero, List.set_cons_succ]
          refine wpAnyH_take (i := 5) (oi := ⟨some 59, _, _, _, _, _⟩) (v := ?_) rfl (by kernel_rfl) (by kernel_rfl) (by kernel_rfl) (fun _ _ _ h => h) (Or.inl ⟨by rfl, ?_⟩) (by assumption) ?_
          rotate_left
          · (intro w hSw; (try dsimp only at hSw); go_simp; try with_reducible rfl)
          try simp only [Act.put, List.setIfInBounds_toArray, List.set_cons_zero, List.set_cons_succ]
          refine wpAnyH_take (i := 6) (oi := ⟨some 60, _, _, _, _, _⟩) (v := ?_) rfl (by kernel_rfl) (by kernel_rfl) (by kernel_rfl) (fun _ _ _ h => h) (Or.inl ⟨by rfl, ?_⟩) (by assumption) ?_
          rotate_left
          · (intro w hSw; refine Eq.trans (kcm_n hSw 1 _ (by rfl) (by rfl) (by rfl)) ?_; with_reducible rfl)
          try simp only [Act.put, List.setIfInBounds_toArray, List.set_cons_zero, List.set_cons_succ]
          refine wpAnyH_take (i := 7) (oi := ⟨some 61, _, _, _, _, _⟩) (v := ?_) rfl (by kernel_rfl) (by kernel_rfl) (by kernel_rfl) (fun _ _ _ h => h) (Or.inl ⟨by rfl, ?_⟩) (by assumption) ?_
          rotate_left
          · (intro w hSw; refine Eq.trans (exec_sne _ _ (by rfl) (by rfl) (by rfl) hb) ?_; with_reducible rfl)
          try simp only [Act.put, List.setIfInBounds_toArray, List.set_cons_zero, List.set_cons_succ]
          refine wpAnyH_done (by kernel_rfl) ?_ _
          replace HK := hHeld
          go_wp2_with (first | (refine wpList_of_exec (v := .agg (obA x)) (by rfl) (exec_obx (off := o + kq * 11) _ (by rfl) (by rfl) (HX.out _ _ _ HK.out HMm.out)) ?_) | (refine wpList_mk1 obLay (p := x) HK (by decide) rfl _ rfl rfl rfl ?_; intro _ g11 HK'; have HR := Lib.hid (Kn.lastOwn HK'.out).rd; simp only [List.cons_append] at HK'; replace HK := HK'; clear HK') | (at_builtin; refine wpList_kmore HK obLay 0 rfl _ _ rfl rfl rfl [x] rfl rfl HR HGr (N := M + 1) HN3 ?_; intro A9 c9 _ HK'; simp only [List.set] at HK'; replace HK := HK'; clear HK') | refine wpList_exe (exec_add1 (j := kq) _ (by rfl) (by rfl) hk3) (by rfl) ?_)
          refine ⟨⟨kq + 1, M + 1, A9, c9, by omega, by omega, rfl, by go_num, Lib.hid (by rw [HT1.out]; exact HN3.out), Lib.hid ?_⟩, by simp [intOf]; omega⟩
          rw [HT1.out]
          have h := HK.out
          simp only [← List.cons_append] at h
          exact h.init
      case neg =>
      have hkn : kq = n2 := by omega
      have HTk : Hid (l2.take kq = l2) := Lib.hid (by rw [hkn, ← HL2.out, List.take_length])
      have hk2 : ¬ (kq : Int) < (n2 : Int) := by omega
      rw [HTk.out] at HK HN
      clear HTk hlt hk hkn
      go_wp2_with fail
      refine (HA.out _).mono ?_; rintro e w1 ⟨rfl, b1⟩
      replace HK := Lib.hid (HK.out.call b1); clear b1
      have HO1 := Lib.hid (obs_woO (HK.out.own 1 rfl) (HI1.out _ _ _ _ _ HK.out (fun y hy => List.mem_cons_of_mem _ (List.mem_cons_of_mem _ (HM1.out y hy)))))
      have HO2 := Lib.hid (obs_woO (HK.out.own 0 rfl) (HI2.out _ _ _ _ _ HK.out (fun y hy => List.mem_cons_of_mem _ (List.mem_cons_of_mem _ (HM2.out y hy)))))
      go_wp2_with fail
      refine (HS.out _ _ _ _ _ _ _ _ _ HO1.out HO2.out HEq.out).mono ?_; rintro e w1 ⟨rfl, b1⟩
      replace HK := Lib.hid (HK.out.call b1); clear b1
      go_wp2_with fail
      go_ret
      exact ⟨rfl, HK.out.b⟩
end Go.Proofs.Ytpkodjllljnleaa
