/-
  What move of the wire does, where nothing is on its way.
  No condition but that numbers are small.
-/
import Derived.Test.YtamjcghdebjpjaaWireMoveH
set_option linter.unusedSimpArgs false
set_option linter.unusedVariables false
namespace Go.Proofs.Ytamjcghdebjpjaa
open Go.RowKit

set_option maxRecDepth 100000 in
set_option maxHeartbeats 12800000 in
theorem moveN_any (b0 : Nat) (w0 : World) (g : Nat) (x : Lnk.Wr) (w : World) (n m : Nat) (k j : Int) (an : Bool) (hW : WireAt b0 w0 g x w) (hf : Lnk.Wr.Fits n m x) (hn : n ≤ 900000) (hm : m ≤ 100000) (h0 : ¬ 0 < x.way.length) :
    Calls Try.prog 16 #[.pointer (some ⟨g, 0, none⟩), .agg #[.int .i64 k, .int .i64 j], .bool an] w fun e w' => e = .returned (.tuple #[]) ∧ WireAt b0 w0 g (x.move k j an) w' := by
  have H1 : Hid (∀ W, WireAt b0 w0 g x W → Calls Try.prog 33 #[.pointer (some ⟨g, 0, none⟩), .bool true] W fun e w' => e = .returned (.tuple #[]) ∧ WireAt b0 w0 g x.sendA w') := Lib.hid fun W h => sendA_any b0 w0 g x W n m h hf hn hm
  have H2 : Hid (∀ W, WireAt b0 w0 g x W → Calls Try.prog 33 #[.pointer (some ⟨g, 0, none⟩), .bool false] W fun e w' => e = .returned (.tuple #[]) ∧ WireAt b0 w0 g x.sendB w') := Lib.hid fun W h => sendB_any b0 w0 g x W n m h hf hn hm
  have H3 : Hid (∀ W, WireAt b0 w0 g x W → Calls Try.prog 19 #[.pointer (some ⟨g, 0, none⟩), .bool true] W fun e w' => e = .returned (.tuple #[]) ∧ WireAt b0 w0 g x.tickA w') := Lib.hid fun W h => tickA_any b0 w0 g x W n m h hf hn hm
  have H4 : Hid (∀ W, WireAt b0 w0 g x W → Calls Try.prog 19 #[.pointer (some ⟨g, 0, none⟩), .bool false] W fun e w' => e = .returned (.tuple #[]) ∧ WireAt b0 w0 g x.tickB w') := Lib.hid fun W h => tickB_any b0 w0 g x W n m h hf hn hm
  have H5 : Hid (∀ W i, i < x.way.length → WireAt b0 w0 g x W → Calls Try.prog 18 #[.pointer (some ⟨g, 0, none⟩), .int .i64 (i : Nat)] W fun e w' => e = .returned (.tuple #[]) ∧ WireAt b0 w0 g (x.come i) w') := Lib.hid fun W i hi h => come_any b0 w0 g x W n m i hi h hf hn hm
  have hway : x.way.length ≤ 800000 := by have := hf.way; omega
  have hs : x.sent.length ≤ 900001 := by have := hf.sn; omega
  have HJ : Hid (0 < x.way.length → x.at_ j < x.way.length ∧ ((x.at_ j : Nat) : Int) = wrap64 ((IntKind.u64.wrap j).tmod (x.way.length : Int))) := Lib.hid fun h => by
    have e0 : 0 ≤ IntKind.u64.wrap j := by
      have h1 : IntKind.u64.signed = false := rfl
      have h2 : IntKind.u64.bits = 64 := rfl
      unfold IntKind.wrap
      simp only [h1, h2, Bool.false_and, Bool.false_eq_true, if_false]
      exact Int.emod_nonneg _ (by decide)
    unfold Lnk.Wr.at_
    refine ⟨Nat.mod_lt _ h, ?_⟩
    rw [Int.tmod_eq_emod_of_nonneg e0, Int.natCast_emod, Int.toNat_of_nonneg e0]
    have h3 := Int.emod_nonneg (IntKind.u64.wrap j) (b := (x.way.length : Int)) (by omega)
    have h4 := Int.emod_lt_of_pos (IntKind.u64.wrap j) (b := (x.way.length : Int)) (by omega)
    unfold wrap64
    omega
  generalize hPX : WireAt b0 w0 g (x.move k j an) = PX
  unfold Lnk.Wr.move at hPX
  have HPX := Lib.hid hPX
  clear hPX hf hn hm
  generalize hix : x.at_ j = ix at *
  clear hix
  obtain ⟨Aa, Ab, Aw, As, Ak, Ag, Ah, na, nb, nw, ns, nk, ng, nh, ca, cb, cw, cs, ck, cg, ch, S, ⟨ena, enb, enw, ens, enk, eng, enh⟩, eS, hK⟩ := hW
  have HW : Hid (∀ W L, Kn b0 w0 W ((g, 52, wC (.slice Aa na ca) (.slice Ab nb cb) (.slice Aw nw cw) (.slice As ns cs) (.slice Ak nk ck) (.slice Ag ng cg) (.slice Ah nh ch) x.a x.b x.win x.ret) :: L) (row strLay (.slice Aa na ca) x.a.out :: row strLay (.slice Ab nb cb) x.b.out :: row pktLay (.slice Aw nw cw) x.way :: row hdLay (.slice As ns cs) (S.map Rw.hd) :: row strLay (.slice Ak nk ck) x.back :: row strLay (.slice Ag ng cg) x.got :: row strLay (.slice Ah nh ch) x.gotA :: S.map Rw.row) → WireAt b0 w0 g x W) := Lib.hid fun W L h =>
    ⟨Aa, Ab, Aw, As, Ak, Ag, Ah, na, nb, nw, ns, nk, ng, nh, ca, cb, cw, cs, ck, cg, ch, S, ⟨ena, enb, enw, ens, enk, eng, enh⟩, eS, h.takeL 1⟩
  have HF := Lib.hid (And.intro (And.intro ena (And.intro enb (And.intro enw (And.intro ens (And.intro enk (And.intro eng enh)))))) eS)
  rw [← enw] at hway HJ HPX h0
  have HX5 : Hid (∀ W, ix < nw → WireAt b0 w0 g x W → Calls Try.prog 18 #[.pointer (some ⟨g, 0, none⟩), .int .i64 (ix : Nat)] W fun e w' => e = .returned (.tuple #[]) ∧ WireAt b0 w0 g (x.come ix) w') := Lib.hid fun W hi h => H5.out W ix (by rw [← enw]; exact hi) h
  clear ena enb enw ens enk eng enh eS H5
  have HK := Lib.hid hK
  clear hK
  obtain ⟨a, b, way, sent, back, got, gotA, win, ret⟩ := x
  simp only at *
  go_enter Try.func16, Try.ntmps16
  go_upto_region 2 with (first | (refine wpList_kbm HK rfl _ rfl rfl ?_; intro _ gm HK'; simp only [List.cons_append, List.nil_append] at HK'; replace HK := HK'; clear HK'))
  have hd : ¬ (0 : Int) < (nw : Int) := by omega
  by_cases k1 : k = 1
  · have HQ : Hid (WireAt b0 w0 g (⟨a, b, way, sent, back, got, gotA, win, ret⟩ : Lnk.Wr).sendA = PX) := Lib.hid (by rw [← HPX.out, if_pos k1])
    clear HPX
    subst k1
    go_wp2_with (first | refine wpList_kci HK 1 rfl _ rfl rfl rfl rfl ?_ | refine wpList_of_exec (by rfl) (kexec_cw HK 0 _ rfl rfl rfl rfl) ?_)
    refine (H1.out _ (HW.out _ _ HK.out)).mono ?_; rintro e w1 ⟨rfl, hw⟩
    clear HK
    go_wp2_with fail
    ((try simp only [Exit.inBlock, Exit.then]); first | refine bodyPost_ret (results_none Try.results16 _ _ _) rfl ?_ | refine bodyPost_end (results_none Try.results16 _ _ _) rfl ?_)
    rw [← HQ.out]
    exact ⟨rfl, hw⟩
  by_cases k2 : k = 2
  · have HQ : Hid (WireAt b0 w0 g (⟨a, b, way, sent, back, got, gotA, win, ret⟩ : Lnk.Wr).sendB = PX) := Lib.hid (by rw [← HPX.out, if_neg k1, if_pos k2])
    clear HPX
    subst k2
    go_wp2_with (first | refine wpList_kci HK 1 rfl _ rfl rfl rfl rfl ?_ | refine wpList_of_exec (by rfl) (kexec_cw HK 0 _ rfl rfl rfl rfl) ?_)
    refine (H2.out _ (HW.out _ _ HK.out)).mono ?_; rintro e w1 ⟨rfl, hw⟩
    clear HK
    go_wp2_with fail
    ((try simp only [Exit.inBlock, Exit.then]); first | refine bodyPost_ret (results_none Try.results16 _ _ _) rfl ?_ | refine bodyPost_end (results_none Try.results16 _ _ _) rfl ?_)
    rw [← HQ.out]
    exact ⟨rfl, hw⟩
  by_cases k3 : k = 3
  · have HQ : Hid (WireAt b0 w0 g (⟨a, b, way, sent, back, got, gotA, win, ret⟩ : Lnk.Wr).tickA = PX) := Lib.hid (by rw [← HPX.out, if_neg k1, if_neg k2, if_pos k3])
    clear HPX
    subst k3
    go_wp2_with (first | refine wpList_kci HK 1 rfl _ rfl rfl rfl rfl ?_ | refine wpList_of_exec (by rfl) (kexec_cw HK 0 _ rfl rfl rfl rfl) ?_)
    refine (H3.out _ (HW.out _ _ HK.out)).mono ?_; rintro e w1 ⟨rfl, hw⟩
    clear HK
    go_wp2_with fail
    ((try simp only [Exit.inBlock, Exit.then]); first | refine bodyPost_ret (results_none Try.results16 _ _ _) rfl ?_ | refine bodyPost_end (results_none Try.results16 _ _ _) rfl ?_)
    rw [← HQ.out]
    exact ⟨rfl, hw⟩
  by_cases k4 : k = 4
  · have HQ : Hid (WireAt b0 w0 g (⟨a, b, way, sent, back, got, gotA, win, ret⟩ : Lnk.Wr).tickB = PX) := Lib.hid (by rw [← HPX.out, if_neg k1, if_neg k2, if_neg k3, if_pos k4])
    clear HPX
    subst k4
    go_wp2_with (first | refine wpList_kci HK 1 rfl _ rfl rfl rfl rfl ?_ | refine wpList_of_exec (by rfl) (kexec_cw HK 0 _ rfl rfl rfl rfl) ?_)
    refine (H4.out _ (HW.out _ _ HK.out)).mono ?_; rintro e w1 ⟨rfl, hw⟩
    clear HK
    go_wp2_with fail
    ((try simp only [Exit.inBlock, Exit.then]); first | refine bodyPost_ret (results_none Try.results16 _ _ _) rfl ?_ | refine bodyPost_end (results_none Try.results16 _ _ _) rfl ?_)
    rw [← HQ.out]
    exact ⟨rfl, hw⟩
  by_cases k8 : k = 8
  · rcases an with _ | _
    · have HQ : Hid (WireAt b0 w0 g (⟨a, b, way, sent, back, got, gotA, win, ret⟩ : Lnk.Wr) = PX) := Lib.hid (by rw [← HPX.out, if_neg k1, if_neg k2, if_neg k3, if_neg k4, if_neg (fun h => h0 h.2), if_neg (fun h => h0 h.2), if_neg (fun h => h0 h.2.1), if_neg (fun h => by cases h.2)])
      clear HPX
      subst k8
      go_wp2_with (first | refine wpList_kci HK 1 rfl _ rfl rfl rfl rfl ?_ | refine wpList_of_exec (by rfl) (kexec_cw HK 0 _ rfl rfl rfl rfl) ?_)
      ((try simp only [Exit.inBlock, Exit.then]); first | refine bodyPost_ret (results_none Try.results16 _ _ _) rfl ?_ | refine bodyPost_end (results_none Try.results16 _ _ _) rfl ?_)
      rw [← HQ.out]
      exact ⟨rfl, HW.out _ _ HK.out⟩
    · have HQ : Hid (WireAt b0 w0 g (⟨a, b, way, sent, back, got, gotA, win, ret⟩ : Lnk.Wr).anew = PX) := Lib.hid (by rw [← HPX.out, if_neg k1, if_neg k2, if_neg k3, if_neg k4, if_neg (fun h => h0 h.2), if_neg (fun h => h0 h.2), if_neg (fun h => h0 h.2.1), if_pos ⟨k8, rfl⟩])
      clear HPX
      subst k8
      have HNs := Lib.hid HF.out.1.2.2.2.1
      have HNw8 : Hid (∀ W, Calls Try.prog 8 #[.agg #[.int .i64 0, .int .i64 ((ns : Int) + 1)], .int .i64 1] W (IsL ⟨0, (ns : Int) + 1, 1, 0, [], 1, 0, 0⟩ W)) := Lib.hid fun W => new_any 0 ((ns : Int) + 1) 1 W
      have HLh : Hid ((S.map Rw.hd).length + [(⟨none, 0, 0⟩ : Hd)].length ≤ 9223372036854775807 ∧ ((S.map Rw.hd).length + [(⟨none, 0, 0⟩ : Hd)].length) * hdLay.bytes ≤ 211106232532992) := Lib.hid (by
        have h1 : (S.map Rw.hd).length = ns := by rw [List.length_map, HNs.out, ← HF.out.2, List.length_map]
        have h2 : hdLay.bytes = 24 := rfl
        have h3 := HNs.out
        rw [h1, h2]
        simp
        omega)
      have HNh : Hid ((S.map Rw.hd ++ [(⟨none, 0, 0⟩ : Hd)]).length = ns + 1) := Lib.hid (by rw [List.length_append, List.length_map, HNs.out, ← HF.out.2, List.length_map]; rfl)
      go_wp2_with (first | refine wpList_kci HK 1 rfl _ rfl rfl rfl rfl ?_ | refine wpList_of_exec (by rfl) (kexec_cw HK 0 _ rfl rfl rfl rfl) ?_ | refine wpList_of_exec (by rfl) (kexec_ch HK 0 _ rfl rfl rfl rfl) ?_ | (at_builtin; refine wpList_kpush HK hdLay 3 rfl _ _ rfl rfl rfl [(⟨none, 0, 0⟩ : Hd)] rfl rfl rfl rfl HLh HNh ?_; intro A3 c3 _ HK'; simp only [List.set] at HK'; replace HK := HK'; clear HK') | (refine wpList_s17 HK 0 rfl _ _ rfl rfl rfl rfl ?_; intro _ HK' _; simp only [List.set] at HK'; replace HK := HK'; clear HK'))
      refine (HNw8.out _).mono ?_; rintro e w1 ⟨A1, c1, rfl, o1, b1⟩
      replace HK := Lib.hid (HK.out.calledF b1 o1)
      clear o1 b1 HNw8
      simp only [List.length_nil]
      go_wp2_with (first | (refine wpList_sa HK 0 rfl _ _ rfl rfl rfl rfl ?_; intro _ HK' _; simp only [List.set] at HK'; replace HK := HK'; clear HK') | (refine wpList_s20 HK 0 rfl _ _ rfl rfl rfl rfl ?_; intro _ HK' _; simp only [List.set] at HK'; replace HK := HK'; clear HK'))
      ((try simp only [Exit.inBlock, Exit.then]); first | refine bodyPost_ret (results_none Try.results16 _ _ _) rfl ?_ | refine bodyPost_end (results_none Try.results16 _ _ _) rfl ?_)
      rw [← HQ.out]
      have hk := ((((HK.out.takeL 1).into 0).nilF strLay).into 6).nilR strLay
      simp only [List.take, List.set, List.cons_append] at hk
      have e1 : S.map Rw.row ++ [row strLay (.slice none 0 0) []] = (S ++ [(⟨none, 0, []⟩ : Rw)]).map Rw.row := by rw [List.map_append]; rfl
      have e2 : S.map Rw.hd ++ [(⟨none, 0, 0⟩ : Hd)] = (S ++ [(⟨none, 0, []⟩ : Rw)]).map Rw.hd := by rw [List.map_append]; rfl
      rw [e1, e2] at hk
      have e3 : Lnk.new 0 ((sent.length : Int) + 1) 1 = ⟨0, (ns : Int) + 1, 1, 0, [], 1, 0, 0⟩ := by rw [← HNs.out]; rfl
      unfold Lnk.Wr.anew
      simp only [e3]
      exact ⟨by first | rfl | trivial, A1, Ab, Aw, A3, Ak, Ag, none, 0, nb, nw, ns + 1, nk, ng, 0, c1, cb, cw, c3, ck, cg, 0, S ++ [(⟨none, 0, []⟩ : Rw)], ⟨rfl, HF.out.1.2.1, HF.out.1.2.2.1, by rw [List.length_append, ← HNs.out]; rfl, HF.out.1.2.2.2.2.1, HF.out.1.2.2.2.2.2.1, rfl⟩, by rw [List.map_append, HF.out.2]; rfl, hk⟩
  have HQ : Hid (WireAt b0 w0 g (⟨a, b, way, sent, back, got, gotA, win, ret⟩ : Lnk.Wr) = PX) := Lib.hid (by rw [← HPX.out, if_neg k1, if_neg k2, if_neg k3, if_neg k4, if_neg (fun h => h0 h.2), if_neg (fun h => h0 h.2), if_neg (fun h => h0 h.2.1), if_neg (fun h => k8 h.1)])
  clear HPX
  have e1 : (k == 1) = false := by simpa using k1
  have e2 : (k == 2) = false := by simpa using k2
  have e3 : (k == 3) = false := by simpa using k3
  have e4 : (k == 4) = false := by simpa using k4
  have e8 : (k == 8) = false := by simpa using k8
  clear k1 k2 k3 k4 k8
  rcases hb5 : (k == 5) <;> rcases hb6 : (k == 6) <;> rcases hb7 : (k == 7)
  all_goals
    go_wp2_with (first | refine wpList_kci HK 1 rfl _ rfl rfl rfl rfl ?_ | refine wpList_of_exec (by rfl) (kexec_cw HK 0 _ rfl rfl rfl rfl) ?_)
    ((try simp only [Exit.inBlock, Exit.then]); first | refine bodyPost_ret (results_none Try.results16 _ _ _) rfl ?_ | refine bodyPost_end (results_none Try.results16 _ _ _) rfl ?_)
    rw [← HQ.out]
    exact ⟨rfl, HW.out _ _ HK.out⟩

end Go.Proofs.Ytamjcghdebjpjaa
