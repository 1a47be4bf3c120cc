/-
  What the document's own Add returns.
  No condition but what the slices read as, that the log may be, and how many events come.
-/
import Derived.Test.YtakjggmiilkmdaaLogPart
import Derived.Test.YtakjggmiilkmdaaCmdFits
set_option linter.unusedSimpArgs false
set_option linter.unusedVariables false
namespace Go.Proofs.Ytakjggmiilkmdaa
open Go.RowKit

namespace Lgm
theorem adS_take (b room : Int) : ∀ (es : List Cmd.E) (f : Int) (acc : List Cmd.E) (i : Nat) (x : Cmd.E), es[i]? = some x →
    adS b room f acc (es.take (i + 1)) = if f + (i : Int) = b + ((adS b room f acc (es.take i)).length : Int) ∧ ((adS b room f acc (es.take i)).length : Int) < room ∧ Cmd.fits x then adS b room f acc (es.take i) ++ [x] else adS b room f acc (es.take i)
  | [], _, _, _, _, h => by cases h
  | e :: r, f, acc, 0, x, h => by
    simp only [List.getElem?_cons_zero, Option.some.injEq] at h
    subst h
    show adS b room (f + 1) _ (r.take 0) = _
    rw [List.take_zero, List.take_zero, show f + ((0 : Nat) : Int) = f by omega]
    simp only [adS]
    rfl
  | e :: r, f, acc, i + 1, x, h => by
    rw [List.getElem?_cons_succ] at h
    show adS b room (f + 1) _ (r.take (i + 1)) = _
    rw [adS_take b room r (f + 1) _ i x h, show f + ((i + 1 : Nat) : Int) = f + 1 + (i : Int) by omega]
    rfl
theorem adS_mem {b room : Int} {x : Cmd.E} : ∀ (es acc : List Cmd.E) (f : Int), x ∈ adS b room f acc es → x ∈ acc ∨ x ∈ es
  | [], acc, _, h => .inl h
  | e :: r, acc, f, h => by
    rw [adS] at h
    rcases adS_mem r _ _ h with q | q
    · split at q
      · rcases List.mem_append.1 q with q | q
        · exact .inl q
        · rw [List.mem_singleton.1 q]; exact .inr (List.mem_cons_self ..)
      · exact .inl q
    · exact .inr (List.mem_cons_of_mem _ q)
theorem adS_len {b room : Int} : ∀ (es acc : List Cmd.E) (f : Int), (adS b room f acc es).length ≤ acc.length + es.length
  | [], acc, _ => by rw [adS]; exact Nat.le_add_right _ _
  | e :: r, acc, f => by
    rw [adS]
    refine Nat.le_trans (adS_len r _ _) ?_
    rw [List.length_cons]
    split
    · rw [List.length_append]; show acc.length + 1 + r.length ≤ _; omega
    · omega
end Lgm
set_option maxRecDepth 100000 in
set_option maxHeartbeats 12800000 in
theorem lradd_any (G : World → Prop) (l : Lg) (A : Option Addr) (n c : Nat) (f : Int) (A2 : Option Addr) (ne c2 : Nat) (es : List Cmd.E) (room : Int) (w : World) (hG : ∀ W, G W → Sls evLay lvF W A n c l.ev) (hs : Sls evLay lvF w A n c l.ev) (hr : Lgm.Right l) (hs2 : Sls evLay lvF w A2 ne c2 es) (hne : ne ≤ 100) :
    Calls Try.prog 33 #[.agg #[.int .i64 l.b, .int .i64 l.c, .int .i64 l.d, .slice A n c], .int .i64 f, .slice A2 ne c2, .int .i64 room] w (IsLgT G (Lgm.add l f es room) w) := by
  have hn := hs.len
  have hl2 := hs2.len
  obtain ⟨r1, r2, r3, r4, r5, r6, r7⟩ := hr
  have hn16 : n ≤ 16 := by omega
  have HE := Lib.hid (fun W => lrend_any l A n c W hn r1 r3 (by omega))
  have HT := Lib.hid (Tl.same hG)
  have HK := kn2 w 24 (lgC l.b l.c l.d (.slice A n c)) 24 (lgC 0 0 0 (.slice none 0 0))
  have hen : Lgm.en l = l.b + (n : Int) := by unfold Lgm.en; rw [hn]
  unfold IsNm at HE
  unfold IsLgT
  by_cases hb : f < 0 ∨ Lgm.en l < f
  case pos =>
    have e : Lgm.add l f es room = l := if_pos hb
    rw [e]
    by_cases h0 : f < 0
    · have hd := decide_eq_true h0
      clear e hb h0 hG hs hn hs2 hl2 r1 r2 r3 r4 r5 r6 r7 hen HE
      obtain ⟨b, cc, d, ev⟩ := l
      simp only at *
      go_enter Try.func33, Try.ntmps33
      go_wp2_with (first | refine wpList_exe (klg HK 0 _ (by rfl) (by rfl) (by rfl)) (by rfl) ?_ | (refine wpList_slg HK 1 rfl _ _ rfl rfl rfl rfl rfl ?_; intro _ HK'; simp only [List.set] at HK'; replace HK := HK'; clear HK'))
      exact ret_lg Try.results33 rfl rfl (HK.out.blk 1 rfl) ⟨A, n, c, [], rfl, HK.out.takeL 0, HT⟩
    · have hd := decide_eq_false h0
      have hd2 := decide_eq_true (hb.resolve_left h0)
      clear e hb h0 hG hs hn hs2 hl2 r1 r2 r3 r4 r5 r6 r7 hen
      obtain ⟨b, cc, d, ev⟩ := l
      simp only at *
      generalize Lgm.en ⟨b, cc, d, ev⟩ = m at *
      go_enter Try.func33, Try.ntmps33
      go_wp2_with (first | refine wpList_exe (klg HK 0 _ (by rfl) (by rfl) (by rfl)) (by rfl) ?_)
      refine (HE.out _).mono ?_; rintro e w1 ⟨rfl, b1⟩
      replace HK := Lib.hid (HK.out.call b1); clear b1
      go_wp2_with (first | refine wpList_exe (klg HK 0 _ (by rfl) (by rfl) (by rfl)) (by rfl) ?_ | (refine wpList_slg HK 1 rfl _ _ rfl rfl rfl rfl rfl ?_; intro _ HK'; simp only [List.set] at HK'; replace HK := HK'; clear HK'))
      exact ret_lg Try.results33 rfl rfl (HK.out.blk 1 rfl) ⟨A, n, c, [], rfl, HK.out.takeL 0, HT⟩
  case neg =>
    have e : Lgm.add l f es room = ⟨l.b, l.c, l.d, Lgm.adS l.b room f l.ev es⟩ := if_neg hb
    rw [e]
    have h0 : ¬ f < 0 := fun h => hb (.inl h)
    have h1 : ¬ Lgm.en l < f := fun h => hb (.inr h)
    have hd := decide_eq_false h0
    have hd2 := decide_eq_false h1
    have hfb : 0 ≤ f ∧ f ≤ 4611686018427387904 + 16 := by omega
    have HT2 : Hid (n = l.ev.length) := Lib.hid hn.symm
    have HN2 : Hid ((([] : List Cmd.E) ++ l.ev).length = n) := Lib.hid hn
    have HL2 := grow_ok (La := evLay) HN2 (by show n * 160 ≤ _; omega) (by omega)
    have HS := Lib.hid hs
    have HS2 := Lib.hid hs2
    have HB : Hid (0 ≤ l.b ∧ l.b ≤ 4611686018427387904) := Lib.hid ⟨r1, r3⟩
    have HFt : Hid (∀ k : Nat, Fits evLay lvF (Lgm.adS l.b room f l.ev (es.take k))) := Lib.hid (fun k => ⟨fun x hx => (Lgm.adS_mem _ _ _ hx).elim (fun q => hs.fit.fs x q) (fun q => hs2.fit.fs x (List.mem_of_mem_take q)), by
      have h2 := Lgm.adS_len (b := l.b) (room := room) (es.take k) l.ev f
      rw [List.length_take] at h2
      show _ * 160 ≤ _
      omega⟩)
    have HLe : Hid (∀ k : Nat, k ≤ ne → (Lgm.adS l.b room f l.ev (es.take k)).length ≤ 16 + k) := Lib.hid (fun k hk => by
      have h2 := Lgm.adS_len (b := l.b) (room := room) (es.take k) l.ev f
      rw [List.length_take] at h2
      omega)
    have HAll : Hid (es.take ne = es) := Lib.hid (List.take_of_length_le (by omega))
    have HLes := Lib.hid hl2
    clear e hb h0 h1 hG hs hn hs2 hl2 r1 r2 r3 r4 r5 r6 r7 hen HT
    obtain ⟨b, cc, d, ev⟩ := l
    simp only at *
    generalize Lgm.en ⟨b, cc, d, ev⟩ = m at *
    go_enter Try.func33, Try.ntmps33
    go_wp2_with (first | refine wpList_exe (klg HK 0 _ (by rfl) (by rfl) (by rfl)) (by rfl) ?_)
    refine (HE.out _).mono ?_; rintro e w1 ⟨rfl, b1⟩
    replace HK := Lib.hid (HK.out.call b1); clear b1
    go_upto_region 3 with fail
    clear hd hd2 HE
    go_wp2_with (first | (refine wpList_mk0 evLay HK rfl rfl ?_; intro _ g2 HK'; simp only [List.nil_append] at HK'; replace HK := HK'; clear HK') | refine wpList_exe (klg_e HK 0 _ (by rfl) (by rfl) (by rfl)) (by rfl) ?_ | (at_builtin; refine wpList_kmore HK evLay 0 rfl _ _ rfl rfl rfl ev rfl HT2.out (Lib.hid (let h := HS.out.later HK.out.b; ⟨h.rd, h.nl⟩)) HL2 HN2 ?_; intro A5 c5 _ HK'; simp only [List.set, List.nil_append] at HK'; replace HK := HK'; clear HK') | (refine wpList_slg_e HK 0 rfl _ _ rfl rfl rfl rfl ?_; intro _ HK'; simp only [List.set] at HK'; replace HK := HK'; clear HK'))
    clear HS
    go_loopw [9] (fun v9 wr => ∃ (i n5 c5 : Nat) (A5 : Option Addr), i ≤ ne ∧ v9 = .int .i64 i ∧ Hid ((Lgm.adS b room f ev (es.take i)).length = n5) ∧ Hid (Kn w.heap.size w wr [(w.heap.size, 24, lgC b cc d (.slice A5 n5 c5)), (w.heap.size + 1, 24, lgC 0 0 0 (.slice none 0 0))] [row evLay (.slice A5 n5 c5) (Lgm.adS b room f ev (es.take i))])) (fun v _ => ne - (intOf v).toNat)
    case atStart => exact ⟨0, n, c5, A5, Nat.zero_le _, rfl, Lib.hid HT2.out.symm, HK⟩
    case round =>
      clear HK
      obtain ⟨i, n5, c5, A5, hi, rfl, HLn, HK⟩ := hrel
      have hi1 : (0 : Int) ≤ (i : Int) := by omega
      have hi3 : i < 9223372036854775807 := by omega
      by_cases hlt : i < ne
      case neg =>
        obtain rfl : i = ne := by omega
        rw [HAll.out] at HK
        have HF := HFt.out i
        rw [HAll.out] at HF
        have HFx := Lib.hid HF
        clear HF HFt HLe
        go_wp2_with (first | refine wpList_exe (klg HK 0 _ (by rfl) (by rfl) (by rfl)) (by rfl) ?_ | (refine wpList_slg HK 1 rfl _ _ rfl rfl rfl rfl rfl ?_; intro _ HK'; simp only [List.set] at HK'; replace HK := HK'; clear HK'))
        exact ret_lg Try.results33 rfl rfl (HK.out.blk 1 rfl) ⟨A5, n5, c5, [row evLay (.slice A5 n5 c5) (Lgm.adS b room f ev es)], rfl, HK.out.takeL 0, Lib.hid (Tl.own (List.mem_singleton.2 rfl) HFx.out)⟩
      case pos =>
      have hi2 : (i : Int) < (ne : Int) := by omega
      have hn5 : n5 ≤ 116 := by have := HLe.out i hi; rw [HLn.out] at this; omega
      obtain ⟨x, hx, hxf⟩ := HS2.out.get hlt
      obtain ⟨b', o', rfl, hat⟩ := HS2.out.eat (by omega)
      have HX : Hid (∀ W, Below w.heap.size w W → ∀ q v, (evL x)[q]? = some v → W.cell? ⟨b', o' + i * 16 + q, none⟩ = some v) := Lib.hid (fun W hW => hat W hW i x hx)
      have HSt := Lib.hid (Lgm.adS_take b room es f ev i x hx)
      have HL1 : Hid ((Lgm.adS b room f ev (es.take i) ++ [x]).length = n5 + 1) := Lib.hid (by rw [List.length_append, HLn.out]; rfl)
      have HE := Lib.hid (fun W => lrend_any ⟨b, cc, d, Lgm.adS b room f ev (es.take i)⟩ A5 n5 c5 W HLn.out HB.out.1 HB.out.2 (by omega))
      have HFi := Lib.hid (fun W => crfits_any x W hxf.1 hxf.2)
      have hadd : IntKind.i64.wrap (f + (i : Int)) = f + (i : Int) := by rw [IntKind.wrap_i64]; omega
      unfold IsNm Lgm.en at HE
      simp only [HLn.out] at HE HSt
      clear hat hx HS2 HLe
      by_cases he : f + (i : Int) = b + (n5 : Int)
      case neg =>
        have hq : ((f + (i : Int)) == (b + (n5 : Int))) = false := by rw [beq_eq_false_iff_ne]; exact he
        have HS1 := Lib.hid (HSt.out.trans (if_neg (fun h => he h.1)))
        clear he HSt
        go_wp2_with (first | refine wpList_exe (klg HK 0 _ (by rfl) (by rfl) (by rfl)) (by rfl) ?_)
        refine (HE.out _).mono ?_; rintro e w1 ⟨rfl, b1⟩
        replace HK := Lib.hid (HK.out.call b1); clear b1
        go_upto_region 6 with fail
        clear hq hadd
        go_wp2_with (first | refine wpList_exe (exec_add1 (j := i) _ (by rfl) (by rfl) hi3) (by rfl) ?_)
        exact ⟨⟨i + 1, n5, c5, A5, hlt, rfl, by rw [HS1.out]; exact HLn, by rw [HS1.out]; exact HK⟩, by simp [intOf]; omega⟩
      have hq : ((f + (i : Int)) == (b + (n5 : Int))) = true := by rw [beq_iff_eq]; exact he
      by_cases hro : (n5 : Int) < room
      case neg =>
        have hq2 : decide ((n5 : Int) < room) = false := decide_eq_false hro
        have HS1 := Lib.hid (HSt.out.trans (if_neg (fun h => hro h.2.1)))
        clear he HSt hro
        go_wp2_with (first | refine wpList_exe (klg HK 0 _ (by rfl) (by rfl) (by rfl)) (by rfl) ?_)
        refine (HE.out _).mono ?_; rintro e w1 ⟨rfl, b1⟩
        replace HK := Lib.hid (HK.out.call b1); clear b1
        have f3 := HK.out.cell 0 rfl 3 (v := .slice A5 n5 c5) rfl
        go_upto_region 6 with fail
        clear hq hadd f3 hq2
        go_wp2_with (first | refine wpList_exe (exec_add1 (j := i) _ (by rfl) (by rfl) hi3) (by rfl) ?_)
        exact ⟨⟨i + 1, n5, c5, A5, hlt, rfl, by rw [HS1.out]; exact HLn, by rw [HS1.out]; exact HK⟩, by simp [intOf]; omega⟩
      have hq2 : decide ((n5 : Int) < room) = true := decide_eq_true hro
      by_cases hfi : Cmd.fits x
      case neg =>
        have HS1 := Lib.hid (HSt.out.trans (if_neg (fun h => hfi h.2.2)))
        rw [decide_eq_false hfi] at HFi
        clear he HSt hro hfi
        go_wp2_with (first | refine wpList_exe (klg HK 0 _ (by rfl) (by rfl) (by rfl)) (by rfl) ?_)
        refine (HE.out _).mono ?_; rintro e w1 ⟨rfl, b1⟩
        replace HK := Lib.hid (HK.out.call b1); clear b1
        have f3 := HK.out.cell 0 rfl 3 (v := .slice A5 n5 c5) rfl
        go_wp2_with (first | refine wpList_exe (exec_ixev (i := i) _ _ (by rfl) (by rfl) (by rfl) hlt) (by rfl) ?_ | refine wpList_of_exec (v := .agg (evA x)) (by rfl) (exec_lev (off := o' + i * 16) _ (by rfl) (by rfl) (HX.out _ HK.out.b)) ?_)
        refine (HFi.out _).mono ?_; rintro e w1 ⟨rfl, b1⟩
        clear f3
        replace HK := Lib.hid (HK.out.call b1); clear b1
        go_upto_region 6 with fail
        clear hq hadd hq2
        go_wp2_with (first | refine wpList_exe (exec_add1 (j := i) _ (by rfl) (by rfl) hi3) (by rfl) ?_)
        exact ⟨⟨i + 1, n5, c5, A5, hlt, rfl, by rw [HS1.out]; exact HLn, by rw [HS1.out]; exact HK⟩, by simp [intOf]; omega⟩
      have HS1 := Lib.hid (HSt.out.trans (if_pos ⟨he, hro, hfi⟩))
      rw [decide_eq_true hfi] at HFi
      clear he HSt hro hfi
      go_wp2_with (first | refine wpList_exe (klg HK 0 _ (by rfl) (by rfl) (by rfl)) (by rfl) ?_)
      refine (HE.out _).mono ?_; rintro e w1 ⟨rfl, b1⟩
      replace HK := Lib.hid (HK.out.call b1); clear b1
      have f3 := HK.out.cell 0 rfl 3 (v := .slice A5 n5 c5) rfl
      go_wp2_with (first | refine wpList_exe (exec_ixev (i := i) _ _ (by rfl) (by rfl) (by rfl) hlt) (by rfl) ?_ | refine wpList_of_exec (v := .agg (evA x)) (by rfl) (exec_lev (off := o' + i * 16) _ (by rfl) (by rfl) (HX.out _ HK.out.b)) ?_)
      refine (HFi.out _).mono ?_; rintro e w1 ⟨rfl, b1⟩
      clear f3
      replace HK := Lib.hid (HK.out.call b1); clear b1
      go_wp2_with fail
      clear hq hadd hq2
      have HK0 := Lib.hid HK.out.drew
      clear HK
      refine wp_region_held_drew (S := (fun W => Hid (Kn w.heap.size w W [] []))) (by kernel_rfl) ?_ (fun hHeld => ?_)
      · (try dsimp only); exact Lib.hid ((HK0.out.takeL 0).takeR 0)
      refine wpAnyH_take (i := 0) (oi := ⟨some 50, _, _, _, _, _⟩) (v := ?_) rfl (by kernel_rfl) (by kernel_rfl) (by kernel_rfl) (fun _ _ _ h => h) (Or.inl ⟨by rfl, ?_⟩) (by assumption) ?_
      rotate_left
      · (intro w hSw; (try dsimp only at hSw); go_simp; try with_reducible rfl)
      try simp only [Act.put, List.setIfInBounds_toArray, List.set_cons_zero, List.set_cons_succ]
      refine wpAnyH_take (i := 2) (oi := ⟨some 52, _, _, _, _, _⟩) (v := ?_) rfl (by kernel_rfl) (by kernel_rfl) (by kernel_rfl) (fun _ _ _ h => h) (Or.inl ⟨by rfl, ?_⟩) (by assumption) ?_
      rotate_left
      · (intro w hSw; (try dsimp only at hSw); go_simp; try with_reducible rfl)
      try simp only [Act.put, List.setIfInBounds_toArray, List.set_cons_zero, List.set_cons_succ]
      refine wpAnyH_take (i := 3) (oi := ⟨some 53, _, _, _, _, _⟩) (v := ?_) rfl (by kernel_rfl) (by kernel_rfl) (by kernel_rfl) (fun _ _ _ h => h) (Or.inl ⟨by rfl, ?_⟩) (by assumption) ?_
      rotate_left
      · (intro w hSw; (try dsimp only at hSw); go_simp; try with_reducible rfl)
      try simp only [Act.put, List.setIfInBounds_toArray, List.set_cons_zero, List.set_cons_succ]
      refine wpAnyH_take (i := 4) (oi := ⟨some 54, _, _, _, _, _⟩) (v := ?_) rfl (by kernel_rfl) (by kernel_rfl) (by kernel_rfl) (fun _ _ _ h => h) (Or.inl ⟨by rfl, ?_⟩) (by assumption) ?_
      rotate_left
      · (intro w hSw; refine Eq.trans (exec_ixev (i := i) _ _ (by rfl) (by rfl) (by rfl) hlt) ?_; with_reducible rfl)
      try simp only [Act.put, List.setIfInBounds_toArray, List.set_cons_zero, List.set_cons_succ]
      refine wpAnyH_take (i := 5) (oi := ⟨some 55, _, _, _, _, _⟩) (v := ?_) rfl (by kernel_rfl) (by kernel_rfl) (by kernel_rfl) (fun _ _ _ h => h) (Or.inl ⟨by rfl, ?_⟩) (by assumption) ?_
      rotate_left
      · (intro w hSw; refine Eq.trans (exec_lev (x := x) (off := o' + i * 16) _ (by rfl) (by rfl) (HX.out _ hSw.out.b)) ?_; with_reducible rfl)
      try simp only [Act.put, List.setIfInBounds_toArray, List.set_cons_zero, List.set_cons_succ]
      refine wpAnyH_ready (rs := [1, 6]) (by kernel_rfl) (by simp) ?_
      refine AllReadyH.cons (o := ⟨some 51, _, _, _, _, _⟩) rfl (fun K hK => ?_) (AllReadyH.cons (o := ⟨some 56, _, _, _, _, _⟩) rfl (fun K hK => ?_) AllReadyH.nil)
      refine step_of_exec (by rfl) (klg_e HK0 0 _ (by rfl) (by rfl) (by rfl)) ?_; have hs := hHeld
      refine hK.out _ _ hs (fun hHeld => ?_)
      clear hK K
      try simp only [ap1, ap2, ap3, ap4, ap5]
      refine wpAnyH_ready (rs := [6]) (by kernel_rfl) (by simp) ?_
      refine AllReadyH.cons (o := ⟨some 56, _, _, _, _, _⟩) rfl (fun K hK => ?_) AllReadyH.nil
      refine step_mk1 evLay (p := x) HK0 (by decide) (by rfl) _ (by rfl) (by rfl) (by rfl) ?_; clear HK0; intro wq g3 HK0 _; simp only [List.cons_append, List.nil_append] at HK0; have HRd := Lib.hid (HK0.out.own 1 rfl).rd; have hs := Lib.hid ((HK0.out.takeL 0).takeR 0)
      refine hK.out _ _ hs (fun hHeld => ?_)
      clear hK K
      try simp only [ap1, ap2, ap3, ap4, ap5]
      refine wpAnyH_ready (rs := [7]) (by kernel_rfl) (by simp) ?_
      refine AllReadyH.cons (o := ⟨some 57, _, _, _, _, _⟩) rfl (fun K hK => ?_) AllReadyH.nil
      refine step_more2 evLay HK0 0 (by rfl) _ _ (by rfl) (by rfl) (by rfl) [x] (by rfl) (by rfl) HRd (grow_ok HL1 (by show (n5 + 1) * 160 ≤ _; omega) (by omega)) (N := n5 + 1) HL1 ?_; clear HK0 HRd; intro A6 c6 wq HK0; simp only [List.set] at HK0; have hs := Lib.hid ((HK0.out.takeL 0).takeR 0)
      refine hK.out _ _ hs (fun hHeld => ?_)
      clear hK K
      try simp only [ap1, ap2, ap3, ap4, ap5]
      refine wpAnyH_take (i := 8) (oi := ⟨some 58, _, _, _, _, _⟩) (v := ?_) rfl (by kernel_rfl) (by kernel_rfl) (by kernel_rfl) (fun _ _ _ h => h) (Or.inl ⟨by rfl, ?_⟩) (by assumption) ?_
      rotate_left
      · (intro w hSw; (try dsimp only at hSw); go_simp; try with_reducible rfl)
      try simp only [Act.put, List.setIfInBounds_toArray, List.set_cons_zero, List.set_cons_succ]
      refine wpAnyH_ready (rs := [9]) (by kernel_rfl) (by simp) ?_
      refine AllReadyH.cons (o := ⟨none, _, _, _, _, _⟩) rfl (fun K hK => ?_) AllReadyH.nil
      refine step_slg_e HK0 0 (by rfl) _ _ (by rfl) (by rfl) (by rfl) (by rfl) ?_; clear HK0; intro wq HK0; simp only [List.set] at HK0; have hs := Lib.hid ((HK0.out.takeL 0).takeR 0)
      refine hK.out _ _ hs (fun hHeld => ?_)
      clear hK K
      try simp only [ap1, ap2, ap3, ap4, ap5]
      refine wpAnyH_done (by kernel_rfl) ?_ _
      rotate_left
      refine step_mk1 evLay (p := x) HK0 (by decide) (by rfl) _ (by rfl) (by rfl) (by rfl) ?_; clear HK0; intro wq g3 HK0 _; simp only [List.cons_append, List.nil_append] at HK0; have HRd := Lib.hid (HK0.out.own 1 rfl).rd; have hs := Lib.hid ((HK0.out.takeL 0).takeR 0)
      refine hK.out _ _ hs (fun hHeld => ?_)
      clear hK K
      try simp only [ap1, ap2, ap3, ap4, ap5]
      refine wpAnyH_ready (rs := [1]) (by kernel_rfl) (by simp) ?_
      refine AllReadyH.cons (o := ⟨some 51, _, _, _, _, _⟩) rfl (fun K hK => ?_) AllReadyH.nil
      refine step_of_exec (by rfl) (klg_e HK0 0 _ (by rfl) (by rfl) (by rfl)) ?_; have hs := hHeld
      refine hK.out _ _ hs (fun hHeld => ?_)
      clear hK K
      try simp only [ap1, ap2, ap3, ap4, ap5]
      refine wpAnyH_ready (rs := [7]) (by kernel_rfl) (by simp) ?_
      refine AllReadyH.cons (o := ⟨some 57, _, _, _, _, _⟩) rfl (fun K hK => ?_) AllReadyH.nil
      refine step_more2 evLay HK0 0 (by rfl) _ _ (by rfl) (by rfl) (by rfl) [x] (by rfl) (by rfl) HRd (grow_ok HL1 (by show (n5 + 1) * 160 ≤ _; omega) (by omega)) (N := n5 + 1) HL1 ?_; clear HK0 HRd; intro A6 c6 wq HK0; simp only [List.set] at HK0; have hs := Lib.hid ((HK0.out.takeL 0).takeR 0)
      refine hK.out _ _ hs (fun hHeld => ?_)
      clear hK K
      try simp only [ap1, ap2, ap3, ap4, ap5]
      refine wpAnyH_take (i := 8) (oi := ⟨some 58, _, _, _, _, _⟩) (v := ?_) rfl (by kernel_rfl) (by kernel_rfl) (by kernel_rfl) (fun _ _ _ h => h) (Or.inl ⟨by rfl, ?_⟩) (by assumption) ?_
      rotate_left
      · (intro w hSw; (try dsimp only at hSw); go_simp; try with_reducible rfl)
      try simp only [Act.put, List.setIfInBounds_toArray, List.set_cons_zero, List.set_cons_succ]
      refine wpAnyH_ready (rs := [9]) (by kernel_rfl) (by simp) ?_
      refine AllReadyH.cons (o := ⟨none, _, _, _, _, _⟩) rfl (fun K hK => ?_) AllReadyH.nil
      refine step_slg_e HK0 0 (by rfl) _ _ (by rfl) (by rfl) (by rfl) (by rfl) ?_; clear HK0; intro wq HK0; simp only [List.set] at HK0; have hs := Lib.hid ((HK0.out.takeL 0).takeR 0)
      refine hK.out _ _ hs (fun hHeld => ?_)
      clear hK K
      try simp only [ap1, ap2, ap3, ap4, ap5]
      refine wpAnyH_done (by kernel_rfl) ?_ _
      rotate_left
      all_goals
        have HK := HK0
        clear HK0 hHeld
        go_wp2_with (first | refine wpList_exe (exec_add1 (j := i) _ (by rfl) (by rfl) hi3) (by rfl) ?_)
        exact ⟨⟨i + 1, n5 + 1, c6, A6, hlt, rfl, by rw [HS1.out]; exact HL1, by rw [HS1.out]; exact Lib.hid (HK.out.takeR 1)⟩, by simp [intOf]; omega⟩
end Go.Proofs.Ytakjggmiilkmdaa
