/-
  What log's Add returns.
  No condition but what the slices read as, that the log may be, and how many events come.
-/
import Derived.Test.YtakjggmiilkmdaaLogCMove
import Derived.Test.YtakjggmiilkmdaaLogAdd
set_option linter.unusedSimpArgs false
set_option linter.unusedVariables false
namespace Go.Proofs.Ytakjggmiilkmdaa
open Go.RowKit

namespace Lgm
/-- From above the end on none comes next. -/
theorem adS_past {b room : Int} : ∀ (es acc : List Cmd.E) (f : Int), b + (acc.length : Int) < f → adS b room f acc es = acc
  | [], _, _, _ => rfl
  | e :: r, acc, f, h => by
    rw [adS, if_neg (fun q => by omega)]
    exact adS_past r acc (f + 1) (by omega)
end Lgm
set_option maxRecDepth 100000 in
set_option maxHeartbeats 12800000 in
theorem lcadd_any (G : World → Prop) (l : Lg) (A : Option Addr) (n c : Nat) (f : Int) (A2 : Option Addr) (ne c2 : Nat) (es : List Cmd.E) (room : Int) (w : World) (hf0 : -9223372036854775808 ≤ f ∧ f ≤ 9223372036854775807) (hs : Sls evLay lvF w A n c l.ev) (hr : Lgm.Right l) (hs2 : Sls evLay lvF w A2 ne c2 es) (hne : ne ≤ 100) :
    Calls Try.prog 26 #[.agg #[.int .i64 l.b, .int .i64 l.c, .int .i64 l.d, .slice A n c], .int .i64 f, .slice A2 ne c2, .int .i64 room] w (IsLgT G (Lgm.add l f es room) w) := by
  have hn := hs.len
  have hl2 := hs2.len
  obtain ⟨r1, r2, r3, r4, r5, r6, r7⟩ := hr
  have hn16 : n ≤ 16 := by omega
  have HC := Lib.hid (fun W (hW : Below w.heap.size w W) => lcown_own l A n c W (hs.later hW))
  have HK := kn2 w 24 (lgC l.b l.c l.d (.slice A n c)) 24 (lgC 0 0 0 (.slice none 0 0))
  have hen : Lgm.en l = l.b + (n : Int) := by unfold Lgm.en; rw [hn]
  unfold IsLgO at HC
  unfold IsLgT
  by_cases h0 : f < 0
  case pos =>
    as_aux_lemma =>
    have e : Lgm.add l f es room = l := if_pos (.inl h0)
    rw [e]
    have hd := decide_eq_true h0
    have HFe : Hid (Fits evLay lvF l.ev) := Lib.hid hs.fit
    clear e h0 hs hn hs2 hl2 r1 r2 r3 r4 r5 r6 r7 hen hf0
    obtain ⟨b, cc, d, ev⟩ := l
    simp only at *
    go_enter Try.func26, Try.ntmps26
    go_wp2_with (first | refine wpList_exe (klg HK 0 _ (by rfl) (by rfl) (by rfl)) (by rfl) ?_)
    refine (HC.out _ HK.out.b).mono ?_; rintro e w1 ⟨A5, c5, rfl, hkn⟩
    replace HK := Lib.hid (HK.out.join hkn)
    simp only [List.nil_append] at HK
    clear HC hkn
    go_upto_region 3 with (first | (refine wpList_slg HK 0 rfl _ _ rfl rfl rfl rfl rfl ?_; intro _ HK'; simp only [List.set] at HK'; replace HK := HK'; clear HK'))
    clear hd
    go_wp2_with (first | refine wpList_exe (klg HK 0 _ (by rfl) (by rfl) (by rfl)) (by rfl) ?_ | (refine wpList_slg HK 1 rfl _ _ rfl rfl rfl rfl rfl ?_; intro _ HK'; simp only [List.set] at HK'; replace HK := HK'; clear HK'))
    exact ret_lg Try.results26 rfl rfl (HK.out.blk 1 rfl) ⟨A5, n, c5, _, rfl, HK.out.takeL 0, Lib.hid (Tl.own (List.mem_singleton.2 rfl) HFe.out)⟩
  case neg =>
    as_aux_lemma =>
    have e : Lgm.add l f es room = ⟨l.b, l.c, l.d, Lgm.adS l.b room f l.ev es⟩ := by
      by_cases h1 : Lgm.en l < f
      · rw [show Lgm.add l f es room = l from if_pos (.inr h1), Lgm.adS_past es l.ev f h1]
      · exact if_neg (fun h => h.elim h0 h1)
    rw [e]
    have hd := decide_eq_false h0
    have HS2 := Lib.hid hs2
    have HB : Hid (0 ≤ l.b ∧ l.b ≤ 4611686018427387904) := Lib.hid ⟨r1, r3⟩
    have HFt : Hid (∀ k : Nat, Fits evLay lvF (Lgm.adS l.b room f l.ev (es.take k))) := Lib.hid (fun k => ⟨fun x hx => (Lgm.adS_mem _ _ _ hx).elim (fun q => hs.fit.fs x q) (fun q => hs2.fit.fs x (List.mem_of_mem_take q)), by
      have h2 := Lgm.adS_len (b := l.b) (room := room) (es.take k) l.ev f
      rw [List.length_take] at h2
      show _ * 160 ≤ _
      omega⟩)
    have HLe : Hid (∀ k : Nat, k ≤ ne → (Lgm.adS l.b room f l.ev (es.take k)).length ≤ 16 + k) := Lib.hid (fun k hk => by
      have h2 := Lgm.adS_len (b := l.b) (room := room) (es.take k) l.ev f
      rw [List.length_take] at h2
      omega)
    have HAll : Hid (es.take ne = es) := Lib.hid (List.take_of_length_le (by omega))
    have hf1 : 0 ≤ f := by omega
    have HT2 : Hid (l.ev.length = n) := Lib.hid hn
    have HF0 : Hid (f ≤ 9223372036854775807) := Lib.hid hf0.2
    clear e h0 hs hn hs2 hl2 r1 r2 r3 r4 r5 r6 r7 hen hf0
    obtain ⟨b, cc, d, ev⟩ := l
    simp only at *
    go_enter Try.func26, Try.ntmps26
    go_wp2_with (first | refine wpList_exe (klg HK 0 _ (by rfl) (by rfl) (by rfl)) (by rfl) ?_)
    refine (HC.out _ HK.out.b).mono ?_; rintro e w1 ⟨A5, c5, rfl, hkn⟩
    replace HK := Lib.hid (HK.out.join hkn)
    simp only [List.nil_append] at HK
    clear HC hkn
    go_upto_region 4 with (first | (refine wpList_slg HK 0 rfl _ _ rfl rfl rfl rfl rfl ?_; intro _ HK'; simp only [List.set] at HK'; replace HK := HK'; clear HK'))
    clear hd
    go_wp2_with fail
    go_loopw [18] (fun v wr => ∃ (i n5 c5 : Nat) (A5 : Option Addr), i ≤ ne ∧ v = .int .i64 i ∧ Hid ((Lgm.adS b room f ev (es.take i)).length = n5) ∧ Hid (Kn w.heap.size w wr [(w.heap.size, 24, lgC b cc d (.slice A5 n5 c5)), (w.heap.size + 1, 24, lgC 0 0 0 (.slice none 0 0))] [row evLay (.slice A5 n5 c5) (Lgm.adS b room f ev (es.take i))])) (fun v _ => ne - (intOf v).toNat)
    case atStart => exact ⟨0, n, c5, A5, Nat.zero_le _, rfl, HT2, HK⟩
    case round =>
      clear HK
      obtain ⟨i, n5, c5, A5, hi, rfl, HLn, HK⟩ := hrel
      have hi1 : (0 : Int) ≤ (i : Int) := by omega
      have hi3 : i < 9223372036854775807 := by omega
      by_cases hlt : i < ne
      case neg =>
        obtain rfl : i = ne := by omega
        rw [HAll.out] at HK HLn
        have HF := HFt.out i
        rw [HAll.out] at HF
        have HFx := Lib.hid HF
        clear HF HFt HLe
        go_wp2_with (first | refine wpList_exe (klg HK 0 _ (by rfl) (by rfl) (by rfl)) (by rfl) ?_ | (refine wpList_slg HK 1 rfl _ _ rfl rfl rfl rfl rfl ?_; intro _ HK'; simp only [List.set] at HK'; replace HK := HK'; clear HK'))
        exact ret_lg Try.results26 rfl rfl (HK.out.blk 1 rfl) ⟨A5, n5, c5, [row evLay (.slice A5 n5 c5) (Lgm.adS b room f ev es)], rfl, HK.out.takeL 0, Lib.hid (Tl.own (List.mem_singleton.2 rfl) HFx.out)⟩
      case pos =>
      have hi2 : (i : Int) < (ne : Int) := by omega
      have hn5 : n5 ≤ 116 := by have := HLe.out i hi; rw [HLn.out] at this; omega
      obtain ⟨x, hx, hxf⟩ := HS2.out.get hlt
      obtain ⟨b', o', rfl, hat⟩ := HS2.out.eat (by omega)
      have HX : Hid (∀ W, Below w.heap.size w W → ∀ q v, (evL x)[q]? = some v → W.cell? ⟨b', o' + i * 16 + q, none⟩ = some v) := Lib.hid (fun W hW => hat W hW i x hx)
      have HSt := Lib.hid (Lgm.adS_take b room es f ev i x hx)
      have HL1 : Hid ((Lgm.adS b room f ev (es.take i) ++ [x]).length = n5 + 1) := Lib.hid (by rw [List.length_append, HLn.out]; rfl)
      have HE := Lib.hid (fun W => lcend_any ⟨b, cc, d, Lgm.adS b room f ev (es.take i)⟩ A5 n5 c5 W HLn.out HB.out.1 HB.out.2 (by omega))
      have HFi := Lib.hid (fun W => lcunfit_any x W hxf)
      obtain ⟨s, hadd⟩ : ∃ s, IntKind.i64.wrap (f + (i : Int)) = s := ⟨_, rfl⟩
      have hse : s = b + (n5 : Int) ↔ f + (i : Int) = b + (n5 : Int) := by
        have h1 := HF0.out
        have h2 := HB.out
        rw [← hadd, IntKind.wrap_i64]
        constructor
        · intro h; omega
        · intro h; omega
      unfold IsNm Lgm.en at HE
      unfold IsB at HFi
      simp only [HLn.out] at HE HSt
      clear hat hx HS2 HLe
      by_cases he : f + (i : Int) = b + (n5 : Int)
      case neg =>
        as_aux_lemma =>
        have hq : (s == (b + (n5 : Int))) = false := by rw [beq_eq_false_iff_ne]; exact fun h => he (hse.1 h)
        have HS1 := Lib.hid (HSt.out.trans (if_neg (fun h => he h.1)))
        clear he HSt hse
        go_wp2_with (first | refine wpList_exe (exec_ixev (i := i) _ _ (by rfl) (by rfl) (by rfl) hlt) (by rfl) ?_ | refine wpList_of_exec (v := .agg (evA x)) (by rfl) (exec_lev (off := o' + i * 16) _ (by rfl) (by rfl) (HX.out _ HK.out.b)) ?_ | (refine wpList_akev HK rfl rfl ?_; intro _ g5 HK'; simp only [List.cons_append, List.nil_append] at HK'; replace HK := HK'; clear HK') | (refine wpList_sev (e2 := x) HK 2 rfl _ _ rfl rfl rfl rfl ?_; intro _ HK' _; simp only [List.set] at HK'; replace HK := HK'; clear HK') | refine wpList_exe (klg HK 0 _ (by rfl) (by rfl) (by rfl)) (by rfl) ?_)
        refine (HE.out _).mono ?_; rintro e w1 ⟨rfl, b1⟩
        replace HK := Lib.hid (HK.out.call b1); clear b1
        go_upto_region 9 with fail
        clear hq hadd
        go_wp2_with (first | refine wpList_exe (exec_add1 (j := i) _ (by rfl) (by rfl) hi3) (by rfl) ?_)
        exact ⟨⟨i + 1, n5, c5, A5, hlt, rfl, by rw [HS1.out]; exact HLn, by rw [HS1.out]; exact Lib.hid (HK.out.takeL 2)⟩, by simp [intOf]; omega⟩
      have hq : (s == (b + (n5 : Int))) = true := by rw [beq_iff_eq]; exact hse.2 he
      by_cases hro : (n5 : Int) < room
      case neg =>
        as_aux_lemma =>
        have hq2 : decide ((n5 : Int) < room) = false := decide_eq_false hro
        have HS1 := Lib.hid (HSt.out.trans (if_neg (fun h => hro h.2.1)))
        clear he HSt hro hse
        go_wp2_with (first | refine wpList_exe (exec_ixev (i := i) _ _ (by rfl) (by rfl) (by rfl) hlt) (by rfl) ?_ | refine wpList_of_exec (v := .agg (evA x)) (by rfl) (exec_lev (off := o' + i * 16) _ (by rfl) (by rfl) (HX.out _ HK.out.b)) ?_ | (refine wpList_akev HK rfl rfl ?_; intro _ g5 HK'; simp only [List.cons_append, List.nil_append] at HK'; replace HK := HK'; clear HK') | (refine wpList_sev (e2 := x) HK 2 rfl _ _ rfl rfl rfl rfl ?_; intro _ HK' _; simp only [List.set] at HK'; replace HK := HK'; clear HK') | refine wpList_exe (klg HK 0 _ (by rfl) (by rfl) (by rfl)) (by rfl) ?_)
        refine (HE.out _).mono ?_; rintro e w1 ⟨rfl, b1⟩
        replace HK := Lib.hid (HK.out.call b1); clear b1
        have f3 := HK.out.cell 0 rfl 3 (v := .slice A5 n5 c5) rfl
        go_upto_region 9 with fail
        clear hq hadd f3 hq2
        go_wp2_with (first | refine wpList_exe (exec_add1 (j := i) _ (by rfl) (by rfl) hi3) (by rfl) ?_)
        exact ⟨⟨i + 1, n5, c5, A5, hlt, rfl, by rw [HS1.out]; exact HLn, by rw [HS1.out]; exact Lib.hid (HK.out.takeL 2)⟩, by simp [intOf]; omega⟩
      have hq2 : decide ((n5 : Int) < room) = true := decide_eq_true hro
      by_cases hfi : Cmd.fits x
      case neg =>
        as_aux_lemma =>
        have HS1 := Lib.hid (HSt.out.trans (if_neg (fun h => hfi h.2.2)))
        rw [decide_eq_false hfi] at HFi
        simp only [Bool.not_false] at HFi
        clear he HSt hro hfi hse
        go_wp2_with (first | refine wpList_exe (exec_ixev (i := i) _ _ (by rfl) (by rfl) (by rfl) hlt) (by rfl) ?_ | refine wpList_of_exec (v := .agg (evA x)) (by rfl) (exec_lev (off := o' + i * 16) _ (by rfl) (by rfl) (HX.out _ HK.out.b)) ?_ | (refine wpList_akev HK rfl rfl ?_; intro _ g5 HK'; simp only [List.cons_append, List.nil_append] at HK'; replace HK := HK'; clear HK') | (refine wpList_sev (e2 := x) HK 2 rfl _ _ rfl rfl rfl rfl ?_; intro _ HK' _; simp only [List.set] at HK'; replace HK := HK'; clear HK') | refine wpList_exe (klg HK 0 _ (by rfl) (by rfl) (by rfl)) (by rfl) ?_)
        refine (HE.out _).mono ?_; rintro e w1 ⟨rfl, b1⟩
        replace HK := Lib.hid (HK.out.call b1); clear b1
        have f3 := HK.out.cell 0 rfl 3 (v := .slice A5 n5 c5) rfl
        go_wp2_with (first | refine wpList_exe (kevA HK 2 _ (by rfl) (by rfl) (by rfl)) (by rfl) ?_)
        refine (HFi.out _).mono ?_; rintro e w1 ⟨rfl, b1⟩
        clear f3
        replace HK := Lib.hid (HK.out.call b1); clear b1
        go_upto_region 9 with fail
        clear hq hadd hq2
        go_wp2_with (first | refine wpList_exe (exec_add1 (j := i) _ (by rfl) (by rfl) hi3) (by rfl) ?_)
        exact ⟨⟨i + 1, n5, c5, A5, hlt, rfl, by rw [HS1.out]; exact HLn, by rw [HS1.out]; exact Lib.hid (HK.out.takeL 2)⟩, by simp [intOf]; omega⟩
      as_aux_lemma =>
      have HS1 := Lib.hid (HSt.out.trans (if_pos ⟨he, hro, hfi⟩))
      rw [decide_eq_true hfi] at HFi
      simp only [Bool.not_true] at HFi
      clear he HSt hro hfi hse
      go_wp2_with (first | refine wpList_exe (exec_ixev (i := i) _ _ (by rfl) (by rfl) (by rfl) hlt) (by rfl) ?_ | refine wpList_of_exec (v := .agg (evA x)) (by rfl) (exec_lev (off := o' + i * 16) _ (by rfl) (by rfl) (HX.out _ HK.out.b)) ?_ | (refine wpList_akev HK rfl rfl ?_; intro _ g5 HK'; simp only [List.cons_append, List.nil_append] at HK'; replace HK := HK'; clear HK') | (refine wpList_sev (e2 := x) HK 2 rfl _ _ rfl rfl rfl rfl ?_; intro _ HK' _; simp only [List.set] at HK'; replace HK := HK'; clear HK') | refine wpList_exe (klg HK 0 _ (by rfl) (by rfl) (by rfl)) (by rfl) ?_)
      refine (HE.out _).mono ?_; rintro e w1 ⟨rfl, b1⟩
      replace HK := Lib.hid (HK.out.call b1); clear b1
      have f3 := HK.out.cell 0 rfl 3 (v := .slice A5 n5 c5) rfl
      go_wp2_with (first | refine wpList_exe (kevA HK 2 _ (by rfl) (by rfl) (by rfl)) (by rfl) ?_)
      refine (HFi.out _).mono ?_; rintro e w1 ⟨rfl, b1⟩
      clear f3
      replace HK := Lib.hid (HK.out.call b1); clear b1
      go_upto_region 8 with fail
      clear hq hadd hq2
      go_wp2_with (first | refine wpList_exe (klg_e HK 0 _ (by rfl) (by rfl) (by rfl)) (by rfl) ?_ | refine wpList_exe (kevA HK 2 _ (by rfl) (by rfl) (by rfl)) (by rfl) ?_ | (refine wpList_mk1 evLay (p := x) HK (by decide) rfl _ rfl rfl rfl ?_; intro _ g6 HK'; simp only [List.cons_append, List.nil_append] at HK'; have HR := Lib.hid (HK'.out.own 1 rfl).rd; replace HK := HK'; clear HK') | (at_builtin; refine wpList_kmore HK evLay 0 rfl _ _ rfl rfl rfl [x] rfl rfl HR (grow_ok HL1 (by show (n5 + 1) * 160 ≤ _; omega) (by omega)) (N := n5 + 1) HL1 ?_; intro A6 c6 _ HK'; simp only [List.set] at HK'; replace HK := HK'; clear HK' HR) | (refine wpList_slg_e HK 0 rfl _ _ rfl rfl rfl rfl ?_; intro _ HK'; simp only [List.set] at HK'; replace HK := HK'; clear HK') | refine wpList_exe (exec_add1 (j := i) _ (by rfl) (by rfl) hi3) (by rfl) ?_)
      exact ⟨⟨i + 1, n5 + 1, c6, A6, hlt, rfl, by rw [HS1.out]; exact HL1, by rw [HS1.out]; exact Lib.hid ((HK.out.takeL 2).takeR 1)⟩, by simp [intOf]; omega⟩
end Go.Proofs.Ytakjggmiilkmdaa
