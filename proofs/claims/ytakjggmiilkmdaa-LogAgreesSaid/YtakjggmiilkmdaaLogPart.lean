/-
  What the document's own Part returns.
  No condition but what the slice reads as, and that the log may be.
-/
import Derived.Test.YtakjggmiilkmdaaLogTake
set_option linter.unusedSimpArgs false
set_option linter.unusedVariables false
namespace Go.Proofs.Ytakjggmiilkmdaa
open Go.RowKit

theorem Lgm.take_more {l : List Cmd.E} {p k : Nat} {x : Cmd.E} (h : l[p + k]? = some x) : (l.drop p).take (k + 1) = (l.drop p).take k ++ [x] := by
  rw [List.take_add_one, List.getElem?_drop, h]
  rfl
set_option maxRecDepth 100000 in
set_option maxHeartbeats 12800000 in
theorem lrpart_any (G : World → Prop) (l : Lg) (A : Option Addr) (n c : Nat) (f most : Int) (w : World) (hs : Sls evLay lvF w A n c l.ev) (hr : Lgm.Right l) :
    Calls Try.prog 37 #[.agg #[.int .i64 l.b, .int .i64 l.c, .int .i64 l.d, .slice A n c], .int .i64 f, .int .i64 most] w (IsPtT G (Lgm.pf l f) (Lgm.part l f most) w) := by
  have hn := hs.len
  obtain ⟨r1, r2, r3, r4, r5, r6, r7⟩ := hr
  have hn16 : n ≤ 16 := by omega
  have HE := Lib.hid (fun W => lrend_any l A n c W hn r1 r3 (by omega))
  have HK := kn1 w 24 (lgC l.b l.c l.d (.slice A n c))
  have hen : Lgm.en l = l.b + (n : Int) := by unfold Lgm.en; rw [hn]
  have hcs : (f < l.b ∧ Lgm.pf l f = l.b) ∨ (¬ f < l.b ∧ Lgm.en l < f ∧ Lgm.pf l f = Lgm.en l) ∨ (¬ f < l.b ∧ ¬ Lgm.en l < f ∧ Lgm.pf l f = f) := by
    unfold Lgm.pf
    by_cases h1 : f < l.b
    · exact .inl ⟨h1, if_pos h1⟩
    · rw [if_neg h1]
      by_cases h2 : Lgm.en l < f
      · exact .inr (.inl ⟨h1, h2, if_pos h2⟩)
      · exact .inr (.inr ⟨h1, h2, if_neg h2⟩)
  have hpb : l.b ≤ Lgm.pf l f ∧ Lgm.pf l f ≤ l.b + (n : Int) := by rcases hcs with ⟨_, h⟩ | ⟨_, _, h⟩ | ⟨_, _, h⟩ <;> omega
  obtain ⟨P, hP⟩ : ∃ P : Nat, (Lgm.pf l f - l.b).toNat = P := ⟨_, rfl⟩
  have hPn : P ≤ n := by omega
  have hsub : IntKind.i64.wrap (Lgm.pf l f - l.b) = (P : Int) := by rw [IntKind.wrap_i64]; omega
  have HPt : Hid (Lgm.part l f most = (l.ev.drop P).take most.toNat) := Lib.hid (by unfold Lgm.part; rw [hP])
  have HFt : Hid (∀ k : Nat, Fits evLay lvF ((l.ev.drop P).take k)) := Lib.hid (fun k => hs.fit.sub (fun x hx => List.mem_of_mem_drop (List.mem_of_mem_take hx)) (by rw [List.length_take, List.length_drop]; omega))
  have HS := Lib.hid hs
  have HL := Lib.hid hn
  unfold IsNm at HE
  unfold IsPtT
  rw [HPt.out]
  clear hs hn r1 r2 r3 r4 r5 r6 r7 hpb HPt
  obtain ⟨b, cc, d, ev⟩ := l
  simp only at *
  rcases hcs with ⟨h1, h2⟩ | ⟨h1, h3, h2⟩ | ⟨h1, h3, h2⟩
  · rw [h2] at hsub ⊢
    have hd := decide_eq_true h1
    have hd2 : decide (Lgm.en ⟨b, cc, d, ev⟩ < b) = false := decide_eq_false (by omega)
    have HP0 : Hid ((0 : Int) = (P : Int)) := Lib.hid (by omega)
    clear h1 h2 hen hP
    generalize Lgm.en ⟨b, cc, d, ev⟩ = m at *
    go_enter Try.func37, Try.ntmps37
    go_wp2_with (first | refine wpList_exe (klg_b HK 0 _ (by rfl) (by rfl) (by rfl)) (by rfl) ?_ | refine wpList_exe (klg HK 0 _ (by rfl) (by rfl) (by rfl)) (by rfl) ?_)
    refine (HE.out _).mono ?_; rintro e w1 ⟨rfl, b1⟩
    replace HK := Lib.hid (HK.out.call b1); clear b1
    go_upto_region 5 with fail
    clear hd hd2
    replace HK := Lib.hid (HK.out.nilR evLay)
    simp only [List.nil_append] at HK
    clear HE
    go_wp2_with (first | refine wpList_exe (klg_b HK 0 _ (by rfl) (by rfl) (by rfl)) (by rfl) ?_)
    clear hsub
    go_loopw [8, 9] (fun v8 v9 wr => ∃ (j n5 c5 : Nat) (A5 : Option Addr), P ≤ j ∧ j ≤ n ∧ v9 = .int .i64 j ∧ v8 = .slice A5 n5 c5 ∧ n5 = j - P ∧ n5 ≤ most.toNat ∧ Hid (((ev.drop P).take n5).length = n5) ∧ Hid (Kn w.heap.size w wr [(w.heap.size, 24, lgC b cc d (.slice A n c))] [row evLay (.slice A5 n5 c5) ((ev.drop P).take n5)])) (fun _ v _ => n - (intOf v).toNat)
    case atStart => exact ⟨P, 0, 0, none, Nat.le_refl _, hPn, (by first | rfl | exact congrArg (Value.int .i64) HP0.out), rfl, by omega, Nat.zero_le _, Lib.hid rfl, HK⟩
    case round =>
      clear HK
      obtain ⟨j, n5, c5, A5, hj1, hj2, rfl, rfl, h5, h5m, HLn, HK⟩ := hrel
      have hj0 : (0 : Int) ≤ (j : Int) := by omega
      have hj3 : j < 9223372036854775807 := by omega
      by_cases hgo : j < n ∧ (n5 : Int) < most
      case neg =>
        have HEnd : Hid ((ev.drop P).take most.toNat = (ev.drop P).take n5) := Lib.hid (by
          by_cases hm : (n5 : Int) < most
          · rw [List.take_of_length_le (l := ev.drop P) (i := most.toNat) (by rw [List.length_drop, HL.out]; omega), List.take_of_length_le (l := ev.drop P) (i := n5) (by rw [List.length_drop, HL.out]; omega)]
          · rw [show most.toNat = n5 by omega])
        have hout : j = n ∨ (j < n ∧ ¬ (n5 : Int) < most) := by omega
        clear hgo HS h5
        rcases hout with rfl | ⟨h1, h2⟩
        · go_wp2_with (first | refine wpList_exe (klg_e HK 0 _ (by rfl) (by rfl) (by rfl)) (by rfl) ?_)
          exact ret_t2 Try.results37 rfl rfl rfl ⟨A5, n5, c5, [row evLay (.slice A5 n5 c5) ((ev.drop P).take n5)], rfl, HK.out.takeL 0, by rw [HEnd.out]; exact Lib.hid (Tl.own (List.mem_singleton.2 rfl) (HFt.out _))⟩
        · have h3 : (j : Int) < (n : Int) := by omega
          have h4 : decide ((n5 : Int) < most) = false := decide_eq_false h2
          clear h2
          go_wp2_with (first | refine wpList_exe (klg_e HK 0 _ (by rfl) (by rfl) (by rfl)) (by rfl) ?_)
          exact ret_t2 Try.results37 rfl rfl rfl ⟨A5, n5, c5, [row evLay (.slice A5 n5 c5) ((ev.drop P).take n5)], rfl, HK.out.takeL 0, by rw [HEnd.out]; exact Lib.hid (Tl.own (List.mem_singleton.2 rfl) (HFt.out _))⟩
      case pos =>
        obtain ⟨hlt, hm⟩ := hgo
        have h3 : (j : Int) < (n : Int) := by omega
        have h4 : decide ((n5 : Int) < most) = true := decide_eq_true hm
        obtain ⟨x, hx, _⟩ := HS.out.get hlt
        obtain ⟨b', o', rfl, hat⟩ := HS.out.eat (by omega)
        have HX : Hid (∀ W, Below w.heap.size w W → ∀ i v, (evL x)[i]? = some v → W.cell? ⟨b', o' + j * 16 + i, none⟩ = some v) := Lib.hid (fun W hW => hat W hW j x hx)
        have HMo := Lib.hid (Lgm.take_more (l := ev) (p := P) (k := n5) (x := x) (by rw [show P + n5 = j by omega]; exact hx))
        have HL1 : Hid (((ev.drop P).take n5 ++ [x]).length = n5 + 1) := Lib.hid (by rw [List.length_append, HLn.out]; rfl)
        have hk1 : Hid (n5 + 1 = j + 1 - P) := Lib.hid (by omega)
        have hk2 : n5 + 1 ≤ most.toNat := by omega
        have hk3 : n5 ≤ 16 := by omega
        clear hat hx HS h5 h5m
        have f3 := HK.out.cell 0 rfl 3 (v := .slice (some ⟨b', o', none⟩) n c) rfl
        go_upto_region 9 with fail
        clear f3 h4 hm
        go_wp2_with (first | refine wpList_exe (klg_e HK 0 _ (by rfl) (by rfl) (by rfl)) (by rfl) ?_ | refine wpList_exe (exec_ixev (i := j) _ _ (by rfl) (by rfl) (by rfl) hlt) (by rfl) ?_ | refine wpList_of_exec (v := .agg (evA x)) (by rfl) (exec_lev (off := o' + j * 16) _ (by rfl) (by rfl) (HX.out _ HK.out.b)) ?_ | (refine wpList_mk1 evLay (p := x) HK (by decide) rfl _ rfl rfl rfl ?_; intro _ g5 HK'; simp only [List.cons_append, List.nil_append] at HK'; have HR := Lib.hid (HK'.out.own 1 rfl).rd; replace HK := HK'; clear HK') | (at_builtin; refine wpList_kmore HK evLay 0 rfl _ _ rfl rfl rfl [x] rfl rfl HR (grow_ok HL1 (by show (n5 + 1) * 160 ≤ _; omega) (by omega)) (N := n5 + 1) HL1 ?_; intro A6 c6 _ HK'; simp only [List.set] at HK'; replace HK := HK'; clear HK' HR) | refine wpList_exe (exec_add1 (j := j) _ (by rfl) (by rfl) hj3) (by rfl) ?_)
        exact ⟨⟨j + 1, n5 + 1, c6, A6, by omega, hlt, rfl, rfl, hk1.out, hk2, by rw [HMo.out]; exact HL1, by rw [HMo.out]; exact Lib.hid (HK.out.takeR 1)⟩, by simp [intOf]; omega⟩
  · rw [h2] at hsub ⊢
    have hd := decide_eq_false h1
    have hd2 := decide_eq_true h3
    clear h1 h2 h3 hen hP
    generalize Lgm.en ⟨b, cc, d, ev⟩ = m at *
    go_enter Try.func37, Try.ntmps37
    go_wp2_with (first | refine wpList_exe (klg_b HK 0 _ (by rfl) (by rfl) (by rfl)) (by rfl) ?_ | refine wpList_exe (klg HK 0 _ (by rfl) (by rfl) (by rfl)) (by rfl) ?_)
    refine (HE.out _).mono ?_; rintro e w1 ⟨rfl, b1⟩
    replace HK := Lib.hid (HK.out.call b1); clear b1
    go_wp2_with (first | refine wpList_exe (klg HK 0 _ (by rfl) (by rfl) (by rfl)) (by rfl) ?_)
    refine (HE.out _).mono ?_; rintro e w1 ⟨rfl, b1⟩
    replace HK := Lib.hid (HK.out.call b1); clear b1
    clear hd hd2
    replace HK := Lib.hid (HK.out.nilR evLay)
    simp only [List.nil_append] at HK
    clear HE
    go_wp2_with (first | refine wpList_exe (klg_b HK 0 _ (by rfl) (by rfl) (by rfl)) (by rfl) ?_)
    clear hsub
    go_loopw [8, 9] (fun v8 v9 wr => ∃ (j n5 c5 : Nat) (A5 : Option Addr), P ≤ j ∧ j ≤ n ∧ v9 = .int .i64 j ∧ v8 = .slice A5 n5 c5 ∧ n5 = j - P ∧ n5 ≤ most.toNat ∧ Hid (((ev.drop P).take n5).length = n5) ∧ Hid (Kn w.heap.size w wr [(w.heap.size, 24, lgC b cc d (.slice A n c))] [row evLay (.slice A5 n5 c5) ((ev.drop P).take n5)])) (fun _ v _ => n - (intOf v).toNat)
    case atStart => exact ⟨P, 0, 0, none, Nat.le_refl _, hPn, (by first | rfl | exact congrArg (Value.int .i64) HP0.out), rfl, by omega, Nat.zero_le _, Lib.hid rfl, HK⟩
    case round =>
      clear HK
      obtain ⟨j, n5, c5, A5, hj1, hj2, rfl, rfl, h5, h5m, HLn, HK⟩ := hrel
      have hj0 : (0 : Int) ≤ (j : Int) := by omega
      have hj3 : j < 9223372036854775807 := by omega
      by_cases hgo : j < n ∧ (n5 : Int) < most
      case neg =>
        have HEnd : Hid ((ev.drop P).take most.toNat = (ev.drop P).take n5) := Lib.hid (by
          by_cases hm : (n5 : Int) < most
          · rw [List.take_of_length_le (l := ev.drop P) (i := most.toNat) (by rw [List.length_drop, HL.out]; omega), List.take_of_length_le (l := ev.drop P) (i := n5) (by rw [List.length_drop, HL.out]; omega)]
          · rw [show most.toNat = n5 by omega])
        have hout : j = n ∨ (j < n ∧ ¬ (n5 : Int) < most) := by omega
        clear hgo HS h5
        rcases hout with rfl | ⟨h1, h2⟩
        · go_wp2_with (first | refine wpList_exe (klg_e HK 0 _ (by rfl) (by rfl) (by rfl)) (by rfl) ?_)
          exact ret_t2 Try.results37 rfl rfl rfl ⟨A5, n5, c5, [row evLay (.slice A5 n5 c5) ((ev.drop P).take n5)], rfl, HK.out.takeL 0, by rw [HEnd.out]; exact Lib.hid (Tl.own (List.mem_singleton.2 rfl) (HFt.out _))⟩
        · have h3 : (j : Int) < (n : Int) := by omega
          have h4 : decide ((n5 : Int) < most) = false := decide_eq_false h2
          clear h2
          go_wp2_with (first | refine wpList_exe (klg_e HK 0 _ (by rfl) (by rfl) (by rfl)) (by rfl) ?_)
          exact ret_t2 Try.results37 rfl rfl rfl ⟨A5, n5, c5, [row evLay (.slice A5 n5 c5) ((ev.drop P).take n5)], rfl, HK.out.takeL 0, by rw [HEnd.out]; exact Lib.hid (Tl.own (List.mem_singleton.2 rfl) (HFt.out _))⟩
      case pos =>
        obtain ⟨hlt, hm⟩ := hgo
        have h3 : (j : Int) < (n : Int) := by omega
        have h4 : decide ((n5 : Int) < most) = true := decide_eq_true hm
        obtain ⟨x, hx, _⟩ := HS.out.get hlt
        obtain ⟨b', o', rfl, hat⟩ := HS.out.eat (by omega)
        have HX : Hid (∀ W, Below w.heap.size w W → ∀ i v, (evL x)[i]? = some v → W.cell? ⟨b', o' + j * 16 + i, none⟩ = some v) := Lib.hid (fun W hW => hat W hW j x hx)
        have HMo := Lib.hid (Lgm.take_more (l := ev) (p := P) (k := n5) (x := x) (by rw [show P + n5 = j by omega]; exact hx))
        have HL1 : Hid (((ev.drop P).take n5 ++ [x]).length = n5 + 1) := Lib.hid (by rw [List.length_append, HLn.out]; rfl)
        have hk1 : Hid (n5 + 1 = j + 1 - P) := Lib.hid (by omega)
        have hk2 : n5 + 1 ≤ most.toNat := by omega
        have hk3 : n5 ≤ 16 := by omega
        clear hat hx HS h5 h5m
        have f3 := HK.out.cell 0 rfl 3 (v := .slice (some ⟨b', o', none⟩) n c) rfl
        go_upto_region 9 with fail
        clear f3 h4 hm
        go_wp2_with (first | refine wpList_exe (klg_e HK 0 _ (by rfl) (by rfl) (by rfl)) (by rfl) ?_ | refine wpList_exe (exec_ixev (i := j) _ _ (by rfl) (by rfl) (by rfl) hlt) (by rfl) ?_ | refine wpList_of_exec (v := .agg (evA x)) (by rfl) (exec_lev (off := o' + j * 16) _ (by rfl) (by rfl) (HX.out _ HK.out.b)) ?_ | (refine wpList_mk1 evLay (p := x) HK (by decide) rfl _ rfl rfl rfl ?_; intro _ g5 HK'; simp only [List.cons_append, List.nil_append] at HK'; have HR := Lib.hid (HK'.out.own 1 rfl).rd; replace HK := HK'; clear HK') | (at_builtin; refine wpList_kmore HK evLay 0 rfl _ _ rfl rfl rfl [x] rfl rfl HR (grow_ok HL1 (by show (n5 + 1) * 160 ≤ _; omega) (by omega)) (N := n5 + 1) HL1 ?_; intro A6 c6 _ HK'; simp only [List.set] at HK'; replace HK := HK'; clear HK' HR) | refine wpList_exe (exec_add1 (j := j) _ (by rfl) (by rfl) hj3) (by rfl) ?_)
        exact ⟨⟨j + 1, n5 + 1, c6, A6, by omega, hlt, rfl, rfl, hk1.out, hk2, by rw [HMo.out]; exact HL1, by rw [HMo.out]; exact Lib.hid (HK.out.takeR 1)⟩, by simp [intOf]; omega⟩
  · rw [h2] at hsub ⊢
    have hd := decide_eq_false h1
    have hd2 := decide_eq_false h3
    clear h1 h2 h3 hen hP
    generalize Lgm.en ⟨b, cc, d, ev⟩ = m at *
    go_enter Try.func37, Try.ntmps37
    go_wp2_with (first | refine wpList_exe (klg_b HK 0 _ (by rfl) (by rfl) (by rfl)) (by rfl) ?_ | refine wpList_exe (klg HK 0 _ (by rfl) (by rfl) (by rfl)) (by rfl) ?_)
    refine (HE.out _).mono ?_; rintro e w1 ⟨rfl, b1⟩
    replace HK := Lib.hid (HK.out.call b1); clear b1
    go_upto_region 5 with fail
    clear hd hd2
    replace HK := Lib.hid (HK.out.nilR evLay)
    simp only [List.nil_append] at HK
    clear HE
    go_wp2_with (first | refine wpList_exe (klg_b HK 0 _ (by rfl) (by rfl) (by rfl)) (by rfl) ?_)
    clear hsub
    go_loopw [8, 9] (fun v8 v9 wr => ∃ (j n5 c5 : Nat) (A5 : Option Addr), P ≤ j ∧ j ≤ n ∧ v9 = .int .i64 j ∧ v8 = .slice A5 n5 c5 ∧ n5 = j - P ∧ n5 ≤ most.toNat ∧ Hid (((ev.drop P).take n5).length = n5) ∧ Hid (Kn w.heap.size w wr [(w.heap.size, 24, lgC b cc d (.slice A n c))] [row evLay (.slice A5 n5 c5) ((ev.drop P).take n5)])) (fun _ v _ => n - (intOf v).toNat)
    case atStart => exact ⟨P, 0, 0, none, Nat.le_refl _, hPn, (by first | rfl | exact congrArg (Value.int .i64) HP0.out), rfl, by omega, Nat.zero_le _, Lib.hid rfl, HK⟩
    case round =>
      clear HK
      obtain ⟨j, n5, c5, A5, hj1, hj2, rfl, rfl, h5, h5m, HLn, HK⟩ := hrel
      have hj0 : (0 : Int) ≤ (j : Int) := by omega
      have hj3 : j < 9223372036854775807 := by omega
      by_cases hgo : j < n ∧ (n5 : Int) < most
      case neg =>
        have HEnd : Hid ((ev.drop P).take most.toNat = (ev.drop P).take n5) := Lib.hid (by
          by_cases hm : (n5 : Int) < most
          · rw [List.take_of_length_le (l := ev.drop P) (i := most.toNat) (by rw [List.length_drop, HL.out]; omega), List.take_of_length_le (l := ev.drop P) (i := n5) (by rw [List.length_drop, HL.out]; omega)]
          · rw [show most.toNat = n5 by omega])
        have hout : j = n ∨ (j < n ∧ ¬ (n5 : Int) < most) := by omega
        clear hgo HS h5
        rcases hout with rfl | ⟨h1, h2⟩
        · go_wp2_with (first | refine wpList_exe (klg_e HK 0 _ (by rfl) (by rfl) (by rfl)) (by rfl) ?_)
          exact ret_t2 Try.results37 rfl rfl rfl ⟨A5, n5, c5, [row evLay (.slice A5 n5 c5) ((ev.drop P).take n5)], rfl, HK.out.takeL 0, by rw [HEnd.out]; exact Lib.hid (Tl.own (List.mem_singleton.2 rfl) (HFt.out _))⟩
        · have h3 : (j : Int) < (n : Int) := by omega
          have h4 : decide ((n5 : Int) < most) = false := decide_eq_false h2
          clear h2
          go_wp2_with (first | refine wpList_exe (klg_e HK 0 _ (by rfl) (by rfl) (by rfl)) (by rfl) ?_)
          exact ret_t2 Try.results37 rfl rfl rfl ⟨A5, n5, c5, [row evLay (.slice A5 n5 c5) ((ev.drop P).take n5)], rfl, HK.out.takeL 0, by rw [HEnd.out]; exact Lib.hid (Tl.own (List.mem_singleton.2 rfl) (HFt.out _))⟩
      case pos =>
        obtain ⟨hlt, hm⟩ := hgo
        have h3 : (j : Int) < (n : Int) := by omega
        have h4 : decide ((n5 : Int) < most) = true := decide_eq_true hm
        obtain ⟨x, hx, _⟩ := HS.out.get hlt
        obtain ⟨b', o', rfl, hat⟩ := HS.out.eat (by omega)
        have HX : Hid (∀ W, Below w.heap.size w W → ∀ i v, (evL x)[i]? = some v → W.cell? ⟨b', o' + j * 16 + i, none⟩ = some v) := Lib.hid (fun W hW => hat W hW j x hx)
        have HMo := Lib.hid (Lgm.take_more (l := ev) (p := P) (k := n5) (x := x) (by rw [show P + n5 = j by omega]; exact hx))
        have HL1 : Hid (((ev.drop P).take n5 ++ [x]).length = n5 + 1) := Lib.hid (by rw [List.length_append, HLn.out]; rfl)
        have hk1 : Hid (n5 + 1 = j + 1 - P) := Lib.hid (by omega)
        have hk2 : n5 + 1 ≤ most.toNat := by omega
        have hk3 : n5 ≤ 16 := by omega
        clear hat hx HS h5 h5m
        have f3 := HK.out.cell 0 rfl 3 (v := .slice (some ⟨b', o', none⟩) n c) rfl
        go_upto_region 9 with fail
        clear f3 h4 hm
        go_wp2_with (first | refine wpList_exe (klg_e HK 0 _ (by rfl) (by rfl) (by rfl)) (by rfl) ?_ | refine wpList_exe (exec_ixev (i := j) _ _ (by rfl) (by rfl) (by rfl) hlt) (by rfl) ?_ | refine wpList_of_exec (v := .agg (evA x)) (by rfl) (exec_lev (off := o' + j * 16) _ (by rfl) (by rfl) (HX.out _ HK.out.b)) ?_ | (refine wpList_mk1 evLay (p := x) HK (by decide) rfl _ rfl rfl rfl ?_; intro _ g5 HK'; simp only [List.cons_append, List.nil_append] at HK'; have HR := Lib.hid (HK'.out.own 1 rfl).rd; replace HK := HK'; clear HK') | (at_builtin; refine wpList_kmore HK evLay 0 rfl _ _ rfl rfl rfl [x] rfl rfl HR (grow_ok HL1 (by show (n5 + 1) * 160 ≤ _; omega) (by omega)) (N := n5 + 1) HL1 ?_; intro A6 c6 _ HK'; simp only [List.set] at HK'; replace HK := HK'; clear HK' HR) | refine wpList_exe (exec_add1 (j := j) _ (by rfl) (by rfl) hj3) (by rfl) ?_)
        exact ⟨⟨j + 1, n5 + 1, c6, A6, by omega, hlt, rfl, rfl, hk1.out, hk2, by rw [HMo.out]; exact HL1, by rw [HMo.out]; exact Lib.hid (HK.out.takeR 1)⟩, by simp [intOf]; omega⟩
end Go.Proofs.Ytakjggmiilkmdaa
