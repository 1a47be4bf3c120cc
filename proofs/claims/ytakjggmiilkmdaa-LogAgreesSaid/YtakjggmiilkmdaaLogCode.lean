/-
  What the law's own example does: it is true.
  No condition.
-/
import Derived.Test.YtakjggmiilkmdaaLogCAdd
import Derived.Test.YtakjggmiilkmdaaLogAgC
import Derived.Test.YtakjggmiilkmdaaEvSm
set_option linter.unusedSimpArgs false
set_option linter.unusedVariables false
namespace Go.Proofs.Ytakjggmiilkmdaa
open Go.RowKit

namespace Lgm
/-- The law's own events. -/
def mev (n : Int) : Cmd.E := ⟨0, 1, n + 1, ⟨3, ⟨#[]⟩, ⟨#[]⟩, ⟨0, 0, 0, ⟨#[]⟩⟩, ⟨0, 0, 0, ⟨#[]⟩⟩, 0, 0⟩⟩
theorem mev_f (n : Int) : lvF (mev n) := ⟨by show 0 < 18446744073709551616; decide, by show 0 < 18446744073709551616; decide⟩
end Lgm
section
variable {b0 : Nat} {w0 w : World} {L : List (Nat × TypeId × Array Value)} {R : List RowE} {ops : Array Oper} {rest : List Oper} {o : Oper} {a : Act} {Q : Exit → Act → World → Prop} {K : Act → World → Prop} {E : Prop}
theorem wpList_ev2 {x y : Cmd.E} (HK : Hid (Kn b0 w0 w L R)) (hgd : o.guard = none) (p q : Operand) (ho : o.op = .buildSlice 22 2 #[(0, p), (1, q)]) (h1 : a.eval p = .agg (evA x)) (h2 : a.eval q = .agg (evA y))
    (h : ∀ w' g, Hid (Kn b0 w0 w' L (R ++ [row evLay (.slice (some ⟨g, 0, none⟩) 2 2) [x, y]])) → wpList Try.prog ops Q rest (a.put o.dst (.slice (some ⟨g, 0, none⟩) 2 2)) w') : wpList Try.prog ops Q (o :: rest) a w :=
  wpList_plain hgd fun _ hK => kwp_mk evLay HK [x, y] 2 _ ho [.agg (evA x), .agg (evA y)] (by simp [h1, h2]) (by
    have e : ∀ z : Cmd.E, (Value.agg (evA z)).cells.toList = evL z := fun z => by simp [Value.cells]; rfl
    rw [List.map_cons, List.map_cons, List.map_nil, e, e]
    rfl) rfl (by show 2 * 16 ≤ 65536; decide) fun w' g h3 _ => hK _ _ (h w' g h3)
theorem step_in3 {x1 x2 x3 : Int} (HK : Hid (Kn b0 w0 w L R)) (p q r : Operand) (ho : o.op = .buildSlice 46 3 #[(0, p), (1, q), (2, r)]) (hw : Region.wanted o (yielded ops a.tmps) = true) (h1 : a.eval p = .int .i64 x1) (h2 : a.eval q = .int .i64 x2) (h3 : a.eval r = .int .i64 x3)
    (h : ∀ w' g, Hid (Kn b0 w0 w' L (R ++ [row inLay (.slice (some ⟨g, 0, none⟩) 3 3) [x1, x2, x3]])) → Hid (Below w.heap.size w w') → K (a.put o.dst (.slice (some ⟨g, 0, none⟩) 3 3)) w') : if Region.wanted o (yielded ops a.tmps) = true then Oper.wp Try.prog o a w K Q else E := by
  rw [if_pos hw]
  exact kwp_mk inLay HK [x1, x2, x3] 3 _ ho [.int .i64 x1, .int .i64 x2, .int .i64 x3] (by simp [h1, h2, h3]) (by simp [Value.cells]; exact ⟨rfl, rfl, rfl⟩) rfl (by show 3 * 1 ≤ 65536; decide) h
theorem exec_eeq {x : Cmd.E} (p q : Operand) (ho : o.op = .binOp .eql 35 p q 35) (hx : a.eval p = .agg (evA x)) (hy : a.eval q = .agg (evA x)) :
    (execOp a.eval o).run Try.prog w = .ok (.value (.bool true)) w := by
  unfold execOp
  simp only [ho, hx, hy]
  unfold evA evC
  go_simp
end
theorem ret_ev1 {fn : Func} {R : Ending → World → Prop} {a : Act} {w : World} {B : Nat} {x : Cmd.E} {q : Tmp} (hf : fn.results = #[.cell q 35]) (h2 : a.tmps[q]? = some (.pointer (some ⟨B, 0, none⟩))) (hd : a.defers = []) (hb : Blk w B 35 (evA x))
    (hR : R (.returned (.agg (evA x))) w) : bodyPost Try.prog fn R Exit.ret a w := by
  refine bodyPost_ret (v := .agg (evA x)) ?_ hd hR
  have h : (loadVar 35 ⟨B, 0, none⟩).run Try.prog w = .ok (.agg (evA x)) w := run_loadVar_row (P := Try.prog) w B _ _ _ (0, 0) _ hb Try.underlying35 rfl (by
    have h : (Try.prog.info? 35).map (·.size) = some (evA x).size := info_ev
    exact h)
  simp [results, hf, asAddr, Sem.run_bind, h2, h]
set_option maxRecDepth 100000 in
set_option maxHeartbeats 3200000 in
theorem lev_any (n : Int) (w : World) (h0 : 0 ≤ n) (h1 : n ≤ 1000) :
    Calls Try.prog 23 #[.int .i64 n] w fun e w' => e = .returned (.agg (evA (Lgm.mev n))) ∧ Below w.heap.size w w' := by
  have hw : IntKind.i64.wrap (n + 1) = n + 1 := by rw [IntKind.wrap_i64]; omega
  have HK := Lib.hid (Kn.start w)
  clear h0 h1
  go_enter Try.func23, Try.ntmps23
  go_wp2_with (first | (refine wpList_akev HK rfl rfl ?_; intro _ g1 HK'; simp only [List.cons_append, List.nil_append] at HK'; replace HK := HK'; clear HK') | (refine wpList_sev (e2 := Lgm.mev n) HK 0 rfl _ _ rfl rfl rfl rfl ?_; intro _ HK' _; simp only [List.set] at HK'; replace HK := HK'; clear HK'))
  exact ret_ev1 Try.results23 rfl rfl (HK.out.blk 0 rfl) ⟨rfl, HK.out.b⟩
set_option maxRecDepth 100000 in
set_option maxHeartbeats 12800000 in
theorem lawake_any (w : World) : Calls Try.prog 8 #[] w (IsB true w) := by
  have HE0 := Lib.hid (fun W => lev_any 0 W (by decide) (by decide))
  have HE1 := Lib.hid (fun W => lev_any 1 W (by decide) (by decide))
  obtain ⟨e0, he0⟩ : ∃ e0, Lgm.mev 0 = e0 := ⟨_, rfl⟩
  obtain ⟨e1, he1⟩ : ∃ e1, Lgm.mev 1 = e1 := ⟨_, rfl⟩
  have HF2 : Hid (Fits evLay lvF [e0, e1]) := Lib.hid ⟨fun x hx => by
    simp only [List.mem_cons, List.not_mem_nil, or_false] at hx
    rcases hx with rfl | rfl
    · rw [← he0]; exact Lgm.mev_f 0
    · rw [← he1]; exact Lgm.mev_f 1, by show 2 * 160 ≤ _; decide⟩
  have HA : Hid (∀ (g : Nat) W, Sls evLay lvF W (some ⟨g, 0, none⟩) 2 2 [e0, e1] → Calls Try.prog 26 #[.agg #[.int .i64 0, .int .i64 0, .int .i64 0, .slice none 0 0], .int .i64 0, .slice (some ⟨g, 0, none⟩) 2 2, .int .i64 2] W (IsLgT (fun _ => True) ⟨0, 0, 0, [e0, e1]⟩ W)) := Lib.hid (fun g W h => by
    have := lcadd_any (fun _ => True) ⟨0, 0, 0, []⟩ none 0 0 0 (some ⟨g, 0, none⟩) 2 2 [e0, e1] 2 W (by decide) (Sls.none W) (by decide) h (by decide)
    rw [show Lgm.add ⟨0, 0, 0, []⟩ 0 [e0, e1] 2 = ⟨0, 0, 0, [e0, e1]⟩ from by rw [← he0, ← he1]; kernel_rfl] at this
    exact this)
  have HS : Hid (∀ (A : Option Addr) (n c : Nat) W, Sls evLay lvF W A n c [e0, e1] → Calls Try.prog 25 #[.agg #[.int .i64 0, .int .i64 0, .int .i64 0, .slice A n c], .int .i64 5] W (IsLgT (fun _ => True) ⟨0, 2, 0, [e0, e1]⟩ W)) := Lib.hid (fun A n c W h => by
    have := lcstay_any (fun _ => True) ⟨0, 0, 0, [e0, e1]⟩ A n c 5 W h (by rw [← he0, ← he1]; decide)
    rw [show Lgm.stay ⟨0, 0, 0, [e0, e1]⟩ 5 = ⟨0, 2, 0, [e0, e1]⟩ from by kernel_rfl] at this
    exact this)
  have HT : Hid (∀ (A : Option Addr) (n c : Nat) W, Sls evLay lvF W A n c [e0, e1] → Calls Try.prog 27 #[.agg #[.int .i64 0, .int .i64 2, .int .i64 0, .slice A n c]] W (IsTkT (fun _ => True) ⟨0, 2, 1, [e0, e1]⟩ e0 true W)) := Lib.hid (fun A n c W h => by
    have := lctake_any (fun _ => True) ⟨0, 2, 0, [e0, e1]⟩ A n c W h (by rw [← he0, ← he1]; decide)
    rw [show Lgm.tkL ⟨0, 2, 0, [e0, e1]⟩ = ⟨0, 2, 1, [e0, e1]⟩ from by kernel_rfl, show (Lgm.tkE ⟨0, 2, 0, [e0, e1]⟩).getD evZ = e0 from by kernel_rfl, show (Lgm.tkE ⟨0, 2, 0, [e0, e1]⟩).isSome = true from by kernel_rfl] at this
    exact this)
  have HTr : Hid (∀ (A : Option Addr) (n c : Nat) W, Sls evLay lvF W A n c [e0, e1] → Calls Try.prog 28 #[.agg #[.int .i64 0, .int .i64 2, .int .i64 1, .slice A n c], .int .i64 9] W (IsLgT (fun _ => True) ⟨1, 2, 1, [e1]⟩ W)) := Lib.hid (fun A n c W h => by
    have := lctrim_any (fun _ => True) ⟨0, 2, 1, [e0, e1]⟩ A n c 9 W h (by rw [← he0, ← he1]; decide)
    rw [show Lgm.trim ⟨0, 2, 1, [e0, e1]⟩ 9 = ⟨1, 2, 1, [e1]⟩ from by kernel_rfl] at this
    exact this)
  have HEn : Hid (∀ (A : Option Addr) (c : Nat) W, Calls Try.prog 15 #[.agg #[.int .i64 1, .int .i64 2, .int .i64 1, .slice A 1 c]] W (IsNm 2 W)) := Lib.hid (fun A c W => lcend_any ⟨1, 2, 1, [e1]⟩ A 1 c W rfl (by show (0 : Int) ≤ 1; decide) (by show (1 : Int) ≤ 4611686018427387904; decide) (by decide))
  have HAg : Hid (∀ (g : Nat) W, Sls inLay inF W (some ⟨g, 0, none⟩) 3 3 [3, 1, 2] → Calls Try.prog 19 #[.slice (some ⟨g, 0, none⟩) 3 3] W (IsNm 2 W)) := Lib.hid (fun g W h => by
    have := lcag_any (some ⟨g, 0, none⟩) 3 3 [3, 1, 2] W h
    rw [show Lgm.ag [3, 1, 2] = 2 from by kernel_rfl] at this
    exact this)
  have HK := Lib.hid (Kn.start w)
  rw [he0] at HE0
  rw [he1] at HE1
  clear he0 he1
  unfold IsLgT at HA HS HTr
  unfold IsTkT at HT
  unfold IsNm at HEn HAg
  unfold IsB
  go_enter Try.func8, Try.ntmps8
  go_wp2_with fail
  refine (HE0.out _).mono ?_; rintro e w1 ⟨rfl, b1⟩
  replace HK := Lib.hid (HK.out.call b1); clear b1
  go_wp2_with fail
  refine (HE1.out _).mono ?_; rintro e w1 ⟨rfl, b1⟩
  replace HK := Lib.hid (HK.out.call b1); clear b1
  go_wp2_with (first | (refine wpList_ev2 (x := e0) (y := e1) HK rfl _ _ rfl rfl rfl ?_; intro _ g1 HK'; simp only [List.nil_append] at HK'; replace HK := HK'; clear HK'))
  refine (HA.out g1 _ (Sls.own (HK.out.own 0 rfl) HF2.out)).mono ?_; rintro e w2 ⟨A2, n2, c2, Rn2, rfl, hkn2, HT2⟩
  replace HK := Lib.hid ((HK.out.takeR 0).join hkn2)
  simp only [List.nil_append, List.take_zero] at HK
  clear hkn2 HA HE1
  go_wp2_with fail
  refine (HS.out A2 n2 c2 _ (HT2.out _ _ _ _ _ HK.out (fun z hz => hz) trivial)).mono ?_; rintro e w3 ⟨A3, n3, c3, Rn3, rfl, hkn3, HT3⟩
  replace HK := Lib.hid ((HK.out.takeR 0).join hkn3)
  simp only [List.nil_append, List.take_zero] at HK
  clear hkn3 HS HT2
  go_wp2_with (first | (refine wpList_alg HK rfl rfl ?_; intro _ g2 HK'; simp only [List.cons_append, List.nil_append] at HK'; replace HK := HK'; clear HK') | (refine wpList_slg HK 0 rfl _ _ rfl rfl rfl rfl rfl ?_; intro _ HK'; simp only [List.set] at HK'; replace HK := HK'; clear HK') | refine wpList_exe (klg HK 0 _ (by rfl) (by rfl) (by rfl)) (by rfl) ?_)
  refine (HT.out A3 n3 c3 _ (HT3.out _ _ _ _ _ HK.out (fun z hz => hz) trivial)).mono ?_; rintro e w4 ⟨A4, n4, c4, Rn4, rfl, hkn4, HT4⟩
  replace HK := Lib.hid ((HK.out.takeR 0).join hkn4)
  simp only [List.nil_append, List.take_zero] at HK
  clear hkn4 HT HT3
  go_wp2_with (first | (refine wpList_akev HK rfl rfl ?_; intro _ g3 HK'; simp only [List.cons_append, List.nil_append] at HK'; replace HK := HK'; clear HK') | (refine wpList_slg HK 0 rfl _ _ rfl rfl rfl rfl rfl ?_; intro _ HK'; simp only [List.set] at HK'; replace HK := HK'; clear HK') | (refine wpList_sev (e2 := e0) HK 1 rfl _ _ rfl rfl rfl rfl ?_; intro _ HK' _; simp only [List.set] at HK'; replace HK := HK'; clear HK') | refine wpList_exe (klg HK 0 _ (by rfl) (by rfl) (by rfl)) (by rfl) ?_)
  refine (HTr.out A4 n4 c4 _ (HT4.out _ _ _ _ _ HK.out (fun z hz => hz) trivial)).mono ?_; rintro e w5 ⟨A5, n5, c5, Rn5, rfl, hkn5, HT5⟩
  replace HK := Lib.hid ((HK.out.takeR 0).join hkn5)
  simp only [List.nil_append, List.take_zero] at HK
  obtain rfl : 1 = n5 := (HT5.out _ _ _ _ _ HK.out (fun z hz => hz) trivial).len
  clear hkn5 HTr HT4 HT5
  go_wp2_with (first | (refine wpList_alg HK rfl rfl ?_; intro _ g4 HK'; simp only [List.cons_append, List.nil_append] at HK'; replace HK := HK'; clear HK') | (refine wpList_slg HK 2 rfl _ _ rfl rfl rfl rfl rfl ?_; intro _ HK'; simp only [List.set] at HK'; replace HK := HK'; clear HK'))
  have HK0 := Lib.hid HK.out.drew
  clear HK
  refine wp_region_held_drew (S := (fun W => Hid (Kn w.heap.size w W [(g2, 24, lgC 0 2 1 (.slice A4 n4 c4)), (g3, 35, evA e0), (g4, 24, lgC 1 2 1 (.slice A5 1 c5))] []))) (by kernel_rfl) ?_ (fun hHeld => ?_)
  · (try dsimp only); exact Lib.hid (HK0.out.takeR 0)
  refine wpAnyH_take (i := 0) (oi := ⟨some 19, _, _, _, _, _⟩) (v := ?_) rfl (by kernel_rfl) (by kernel_rfl) (by kernel_rfl) (fun _ _ _ h => h) (Or.inl ⟨by rfl, ?_⟩) (by assumption) ?_
  rotate_left
  · (intro w hSw; (try dsimp only at hSw); go_simp; try with_reducible rfl)
  try simp only [Act.put, List.setIfInBounds_toArray, List.set_cons_zero, List.set_cons_succ]
  refine wpAnyH_take (i := 1) (oi := ⟨some 20, _, _, _, _, _⟩) (v := ?_) rfl (by kernel_rfl) (by kernel_rfl) (by kernel_rfl) (fun _ _ _ h => h) (Or.inl ⟨by rfl, ?_⟩) (by assumption) ?_
  rotate_left
  · (intro w hSw; (try dsimp only at hSw); go_simp; try with_reducible rfl)
  try simp only [Act.put, List.setIfInBounds_toArray, List.set_cons_zero, List.set_cons_succ]
  refine wpAnyH_take (i := 2) (oi := ⟨some 21, _, _, _, _, _⟩) (v := ?_) rfl (by kernel_rfl) (by kernel_rfl) (by kernel_rfl) (fun _ _ _ h => h) (Or.inl ⟨by rfl, ?_⟩) (by assumption) ?_
  rotate_left
  · (intro w hSw; refine Eq.trans (kevA hSw 1 _ (by rfl) (by rfl) (by rfl)) ?_; with_reducible rfl)
  try simp only [Act.put, List.setIfInBounds_toArray, List.set_cons_zero, List.set_cons_succ]
  refine wpAnyH_ready (rs := [3]) (by kernel_rfl) (by simp) ?_
  refine AllReadyH.cons (o := ⟨some 22, _, _, _, _, _⟩) rfl (fun K hK => ?_) AllReadyH.nil
  go_simp
  go_at_call 23
  refine (HE0.out _).mono ?_; rintro e w6 ⟨rfl, b6⟩; have hs := Lib.hid (hHeld.out.call b6); clear b6
  refine hK.out _ _ hs (fun hHeld => ?_)
  clear hK K
  try simp only [ap1, ap2, ap3, ap4, ap5]
  refine wpAnyH_take (i := 4) (oi := ⟨some 23, _, _, _, _, _⟩) (v := ?_) rfl (by kernel_rfl) (by kernel_rfl) (by kernel_rfl) (fun _ _ _ h => h) (Or.inl ⟨by rfl, ?_⟩) (by assumption) ?_
  rotate_left
  · (intro w hSw; refine Eq.trans (exec_eeq (x := e0) _ _ (by rfl) (by rfl) (by rfl)) ?_; with_reducible rfl)
  try simp only [Act.put, List.setIfInBounds_toArray, List.set_cons_zero, List.set_cons_succ]
  refine wpAnyH_take (i := 5) (oi := ⟨some 24, _, _, _, _, _⟩) (v := ?_) rfl (by kernel_rfl) (by kernel_rfl) (by kernel_rfl) (fun _ _ _ h => h) (Or.inl ⟨by rfl, ?_⟩) (by assumption) ?_
  rotate_left
  · (intro w hSw; (try dsimp only at hSw); go_simp; try with_reducible rfl)
  try simp only [Act.put, List.setIfInBounds_toArray, List.set_cons_zero, List.set_cons_succ]
  refine wpAnyH_take (i := 6) (oi := ⟨some 25, _, _, _, _, _⟩) (v := ?_) rfl (by kernel_rfl) (by kernel_rfl) (by kernel_rfl) (fun _ _ _ h => h) (Or.inl ⟨by rfl, ?_⟩) (by assumption) ?_
  rotate_left
  · (intro w hSw; (try dsimp only at hSw); go_simp; try with_reducible rfl)
  try simp only [Act.put, List.setIfInBounds_toArray, List.set_cons_zero, List.set_cons_succ]
  refine wpAnyH_take (i := 7) (oi := ⟨some 26, _, _, _, _, _⟩) (v := ?_) rfl (by kernel_rfl) (by kernel_rfl) (by kernel_rfl) (fun _ _ _ h => h) (Or.inl ⟨by rfl, ?_⟩) (by assumption) ?_
  rotate_left
  · (intro w hSw; refine Eq.trans (klg hSw 2 _ (by rfl) (by rfl) (by rfl)) ?_; with_reducible rfl)
  try simp only [Act.put, List.setIfInBounds_toArray, List.set_cons_zero, List.set_cons_succ]
  refine wpAnyH_ready (rs := [8]) (by kernel_rfl) (by simp) ?_
  refine AllReadyH.cons (o := ⟨some 27, _, _, _, _, _⟩) rfl (fun K hK => ?_) AllReadyH.nil
  go_simp
  go_at_call 15
  refine (HEn.out _ _ _).mono ?_; rintro e w6 ⟨rfl, b6⟩; have hs := Lib.hid (hHeld.out.call b6); clear b6
  refine hK.out _ _ hs (fun hHeld => ?_)
  clear hK K
  try simp only [ap1, ap2, ap3, ap4, ap5]
  refine wpAnyH_take (i := 9) (oi := ⟨some 28, _, _, _, _, _⟩) (v := ?_) rfl (by kernel_rfl) (by kernel_rfl) (by kernel_rfl) (fun _ _ _ h => h) (Or.inl ⟨by rfl, ?_⟩) (by assumption) ?_
  rotate_left
  · (intro w hSw; (try dsimp only at hSw); go_simp; try with_reducible rfl)
  try simp only [Act.put, List.setIfInBounds_toArray, List.set_cons_zero, List.set_cons_succ]
  refine wpAnyH_take (i := 10) (oi := ⟨some 29, _, _, _, _, _⟩) (v := ?_) rfl (by kernel_rfl) (by kernel_rfl) (by kernel_rfl) (fun _ _ _ h => h) (Or.inl ⟨by rfl, ?_⟩) (by assumption) ?_
  rotate_left
  · (intro w hSw; (try dsimp only at hSw); go_simp; try with_reducible rfl)
  try simp only [Act.put, List.setIfInBounds_toArray, List.set_cons_zero, List.set_cons_succ]
  refine wpAnyH_take (i := 11) (oi := ⟨some 30, _, _, _, _, _⟩) (v := ?_) rfl (by kernel_rfl) (by kernel_rfl) (by kernel_rfl) (fun _ _ _ h => h) (Or.inl ⟨by rfl, ?_⟩) (by assumption) ?_
  rotate_left
  · (intro w hSw; (try dsimp only at hSw); go_simp; try with_reducible rfl)
  try simp only [Act.put, List.setIfInBounds_toArray, List.set_cons_zero, List.set_cons_succ]
  refine wpAnyH_take (i := 12) (oi := ⟨some 31, _, _, _, _, _⟩) (v := ?_) rfl (by kernel_rfl) (by kernel_rfl) (by kernel_rfl) (fun _ _ _ h => h) (Or.inl ⟨by rfl, ?_⟩) (by assumption) ?_
  rotate_left
  · (intro w hSw; (try dsimp only at hSw); go_simp; try with_reducible rfl)
  try simp only [Act.put, List.setIfInBounds_toArray, List.set_cons_zero, List.set_cons_succ]
  refine wpAnyH_take (i := 13) (oi := ⟨some 32, _, _, _, _, _⟩) (v := ?_) rfl (by kernel_rfl) (by kernel_rfl) (by kernel_rfl) (fun _ _ _ h => h) (Or.inl ⟨by rfl, ?_⟩) (by assumption) ?_
  rotate_left
  · (intro w hSw; refine Eq.trans (klg_b hSw 2 _ (by rfl) (by rfl) (by rfl)) ?_; with_reducible rfl)
  try simp only [Act.put, List.setIfInBounds_toArray, List.set_cons_zero, List.set_cons_succ]
  refine wpAnyH_take (i := 14) (oi := ⟨some 33, _, _, _, _, _⟩) (v := ?_) rfl (by kernel_rfl) (by kernel_rfl) (by kernel_rfl) (fun _ _ _ h => h) (Or.inl ⟨by rfl, ?_⟩) (by assumption) ?_
  rotate_left
  · (intro w hSw; (try dsimp only at hSw); go_simp; try with_reducible rfl)
  try simp only [Act.put, List.setIfInBounds_toArray, List.set_cons_zero, List.set_cons_succ]
  refine wpAnyH_take (i := 15) (oi := ⟨some 34, _, _, _, _, _⟩) (v := ?_) rfl (by kernel_rfl) (by kernel_rfl) (by kernel_rfl) (fun _ _ _ h => h) (Or.inl ⟨by rfl, ?_⟩) (by assumption) ?_
  rotate_left
  · (intro w hSw; (try dsimp only at hSw); go_simp; try with_reducible rfl)
  try simp only [Act.put, List.setIfInBounds_toArray, List.set_cons_zero, List.set_cons_succ]
  refine wpAnyH_take (i := 16) (oi := ⟨some 35, _, _, _, _, _⟩) (v := ?_) rfl (by kernel_rfl) (by kernel_rfl) (by kernel_rfl) (fun _ _ _ h => h) (Or.inl ⟨by rfl, ?_⟩) (by assumption) ?_
  rotate_left
  · (intro w hSw; (try dsimp only at hSw); go_simp; try with_reducible rfl)
  try simp only [Act.put, List.setIfInBounds_toArray, List.set_cons_zero, List.set_cons_succ]
  refine wpAnyH_ready (rs := [17]) (by kernel_rfl) (by simp) ?_
  refine AllReadyH.cons (o := ⟨some 36, _, _, _, _, _⟩) rfl (fun K hK => ?_) AllReadyH.nil
  refine step_in3 (x1 := 3) (x2 := 1) (x3 := 2) hHeld _ _ _ (by rfl) (by rfl) (by rfl) (by rfl) (by rfl) ?_; intro wq g5 HK1 _; simp only [List.nil_append] at HK1; have hs := Lib.hid (HK1.out.takeR 0)
  refine hK.out _ _ hs (fun hHeld => ?_)
  clear hK K
  try simp only [ap1, ap2, ap3, ap4, ap5]
  refine wpAnyH_ready (rs := [18]) (by kernel_rfl) (by simp) ?_
  refine AllReadyH.cons (o := ⟨some 37, _, _, _, _, _⟩) rfl (fun K hK => ?_) AllReadyH.nil
  go_simp
  go_at_call 19
  refine (HAg.out g5 _ (Sls.own (HK1.out.own 0 rfl) ⟨fun _ _ => trivial, by show 3 * 8 ≤ _; decide⟩)).mono ?_; rintro e w6 ⟨rfl, b6⟩; have hs := Lib.hid (hHeld.out.call b6); clear b6
  refine hK.out _ _ hs (fun hHeld => ?_)
  clear hK K
  try simp only [ap1, ap2, ap3, ap4, ap5]
  refine wpAnyH_take (i := 19) (oi := ⟨some 38, _, _, _, _, _⟩) (v := ?_) rfl (by kernel_rfl) (by kernel_rfl) (by kernel_rfl) (fun _ _ _ h => h) (Or.inl ⟨by rfl, ?_⟩) (by assumption) ?_
  rotate_left
  · (intro w hSw; (try dsimp only at hSw); go_simp; try with_reducible rfl)
  try simp only [Act.put, List.setIfInBounds_toArray, List.set_cons_zero, List.set_cons_succ]
  refine wpAnyH_take (i := 20) (oi := ⟨some 39, _, _, _, _, _⟩) (v := ?_) rfl (by kernel_rfl) (by kernel_rfl) (by kernel_rfl) (fun _ _ _ h => h) (Or.inl ⟨by rfl, ?_⟩) (by assumption) ?_
  rotate_left
  · (intro w hSw; (try dsimp only at hSw); go_simp; try with_reducible rfl)
  try simp only [Act.put, List.setIfInBounds_toArray, List.set_cons_zero, List.set_cons_succ]
  refine wpAnyH_take (i := 21) (oi := ⟨some 0, _, _, _, _, _⟩) (v := ?_) rfl (by kernel_rfl) (by kernel_rfl) (by kernel_rfl) (fun _ _ _ h => h) (Or.inl ⟨by rfl, ?_⟩) (by assumption) ?_
  rotate_left
  · (intro w hSw; (try dsimp only at hSw); go_simp; try with_reducible rfl)
  try simp only [Act.put, List.setIfInBounds_toArray, List.set_cons_zero, List.set_cons_succ]
  refine wpAnyH_done (by kernel_rfl) ?_ _
  all_goals
    have HK := hHeld
    clear HK0 hHeld
    go_wp2_with fail
    go_ret
    exact ⟨rfl, HK.out.b⟩
end Go.Proofs.Ytakjggmiilkmdaa
