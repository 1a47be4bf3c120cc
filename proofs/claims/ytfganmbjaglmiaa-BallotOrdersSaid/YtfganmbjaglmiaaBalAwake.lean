/-
  The document's example, as the laws ask it.
  No condition.
-/
import Derived.Test.YtfganmbjaglmiaaBalChoose
set_option linter.unusedSimpArgs false
set_option linter.unusedVariables false
namespace Go.Proofs.Ytfganmbjaglmiaa
open Go.RowKit

section
variable {b0 : Nat} {w0 w : World} {L : List (Nat × TypeId × Array Value)} {R : List RowE} {ops : Array Oper} {rest : List Oper} {o : Oper} {a : Act} {Q : Exit → Act → World → Prop}
theorem wpList_mp2 {p q : Bpm} (HK : Hid (Kn b0 w0 w L R)) (hgd : o.guard = none) (x y : Operand) (ho : o.op = .buildSlice 34 2 #[(0, x), (1, y)]) (hx : a.eval x = .agg #[.int .i64 p.a.r, .int .i64 p.a.s, .string p.v]) (hy : a.eval y = .agg #[.int .i64 q.a.r, .int .i64 q.a.s, .string q.v])
    (h : ∀ w' g, Hid (Kn b0 w0 w' L (R ++ [row pmLay (.slice (some ⟨g, 0, none⟩) 2 2) [p, q]])) → wpList Try.prog ops Q rest (a.put o.dst (.slice (some ⟨g, 0, none⟩) 2 2)) w') : wpList Try.prog ops Q (o :: rest) a w :=
  wpList_plain hgd fun _ hK => kwp_mk pmLay HK [p, q] 2 _ ho [.agg #[.int .i64 p.a.r, .int .i64 p.a.s, .string p.v], .agg #[.int .i64 q.a.r, .int .i64 q.a.s, .string q.v]] (by simp [hx, hy]) rfl rfl (by decide) fun w' g h1 _ => hK _ _ (h w' g h1)
end
set_option maxRecDepth 100000 in
set_option maxHeartbeats 6400000 in
theorem b20awake_any (w : World) : Calls Try.prog 8 #[] w (IsB true w) := by
  have o1 : Blt.ok zvo ⟨2, 0⟩ := ⟨by unfold Blt.Rt; decide, by unfold Blt.lt; decide⟩
  have o2 : ¬ Blt.ok ⟨⟨2, 0⟩, ⟨0, 0⟩, ⟨#[]⟩⟩ ⟨1, 6⟩ := fun h => h.2 (by unfold Blt.lt; decide)
  have o3 : Blt.ok ⟨⟨2, 0⟩, ⟨0, 0⟩, ⟨#[]⟩⟩ ⟨3, 0⟩ := ⟨by unfold Blt.Rt; decide, by unfold Blt.lt; decide⟩
  have H1 := Lib.hid (fun W => b20cprep_any zvo ⟨2, 0⟩ W)
  rw [show Blt.pr zvo ⟨2, 0⟩ = ⟨⟨2, 0⟩, ⟨0, 0⟩, ⟨#[]⟩⟩ from if_pos o1, decide_eq_true o1] at H1
  have H2 := Lib.hid (fun W => b20cprep_any ⟨⟨2, 0⟩, ⟨0, 0⟩, ⟨#[]⟩⟩ ⟨1, 6⟩ W)
  rw [show Blt.pr ⟨⟨2, 0⟩, ⟨0, 0⟩, ⟨#[]⟩⟩ ⟨1, 6⟩ = ⟨⟨2, 0⟩, ⟨0, 0⟩, ⟨#[]⟩⟩ from if_neg o2, decide_eq_false o2] at H2
  have H3 := Lib.hid (fun W => b20cacc_any ⟨⟨2, 0⟩, ⟨0, 0⟩, ⟨#[]⟩⟩ ⟨3, 0⟩ ⟨#[120]⟩ W)
  rw [show Blt.ac ⟨⟨2, 0⟩, ⟨0, 0⟩, ⟨#[]⟩⟩ ⟨3, 0⟩ ⟨#[120]⟩ = ⟨⟨3, 0⟩, ⟨3, 0⟩, ⟨#[120]⟩⟩ from if_pos o3, decide_eq_true o3] at H3
  have hch : Blt.ch [Blt.zp, ⟨⟨3, 0⟩, ⟨#[120]⟩⟩] = some ⟨⟨3, 0⟩, ⟨#[120]⟩⟩ := by
    unfold Blt.ch
    rw [List.foldl_cons, List.foldl_cons, List.foldl_nil, Blt.lo_bad (show ¬ Blt.Rt Blt.zp.a from by unfold Blt.Rt Blt.zp; decide)]
    show (if Blt.Rt (⟨3, 0⟩ : Bal) then some (⟨⟨3, 0⟩, ⟨#[120]⟩⟩ : Bpm) else none) = _
    rw [if_pos (show Blt.Rt (⟨3, 0⟩ : Bal) from ⟨by decide, by decide, by decide⟩)]
  have H4 := Lib.hid (fun (W : World) g (h : Lay.Own pmLay w.heap.size W (.slice (some ⟨g, 0, none⟩) 2 2) [Blt.zp, ⟨⟨3, 0⟩, ⟨#[120]⟩⟩]) => bchoose_any (Fp := pmF) (some ⟨g, 0, none⟩) 2 2 [Blt.zp, ⟨⟨3, 0⟩, ⟨#[120]⟩⟩] W (Sls.own h ⟨fun x hx => by
    simp only [List.mem_cons, List.not_mem_nil, or_false] at hx
    rcases hx with rfl | rfl <;> (unfold pmF; decide), by decide⟩))
  rw [hch] at H4
  have H5 := Lib.hid (fun W => b20ccmp_any ⟨2, 0⟩ ⟨3, 0⟩ W)
  rw [show Blt.cm ⟨2, 0⟩ ⟨3, 0⟩ = -1 from if_pos (by unfold Blt.lt; decide)] at H5
  unfold IsVB at H1 H2 H3
  unfold IsSB at H4
  simp only [Blt.lo, Option.getD_some, Option.isSome_some] at H4
  unfold IsIB at H5
  unfold IsB
  clear o1 o2 o3 hch
  have HK := Lib.hid (Kn.start w)
  go_enter Try.func8, Try.ntmps8
  go_wp2_with fail
  refine (H1.out _).mono ?_; rintro e w1 ⟨rfl, b1⟩
  replace HK := Lib.hid (HK.out.call b1); clear b1
  go_wp2_with (first | (refine wpList_avo HK rfl rfl ?_; intro _ g1 HK'; simp only [List.cons_append, List.nil_append] at HK'; replace HK := HK'; clear HK') | (refine wpList_svo (x := zvo) (y := ⟨⟨2, 0⟩, ⟨0, 0⟩, ⟨#[]⟩⟩) HK 0 rfl _ _ rfl rfl rfl rfl ?_; intro _ HK'; simp only [List.set] at HK'; replace HK := HK'; clear HK') | refine wpList_exe (kv_v HK 0 _ (by rfl) (by rfl) (by rfl)) (by rfl) ?_)
  refine (H2.out _).mono ?_; rintro e w1 ⟨rfl, b1⟩
  replace HK := Lib.hid (HK.out.call b1); clear b1
  go_wp2_with (first | (refine wpList_avo HK rfl rfl ?_; intro _ g2 HK'; simp only [List.cons_append, List.nil_append] at HK'; replace HK := HK'; clear HK') | (refine wpList_svo (x := zvo) (y := ⟨⟨2, 0⟩, ⟨0, 0⟩, ⟨#[]⟩⟩) HK 1 rfl _ _ rfl rfl rfl rfl ?_; intro _ HK'; simp only [List.set] at HK'; replace HK := HK'; clear HK') | refine wpList_exe (kv_v HK 0 _ (by rfl) (by rfl) (by rfl)) (by rfl) ?_)
  refine (H3.out _).mono ?_; rintro e w1 ⟨rfl, b1⟩
  replace HK := Lib.hid (HK.out.call b1); clear b1
  go_wp2_with (first | (refine wpList_avo HK rfl rfl ?_; intro _ g3 HK'; simp only [List.cons_append, List.nil_append] at HK'; replace HK := HK'; clear HK') | (refine wpList_svo (x := zvo) (y := ⟨⟨3, 0⟩, ⟨3, 0⟩, ⟨#[120]⟩⟩) HK 2 rfl _ _ rfl rfl rfl rfl ?_; intro _ HK'; simp only [List.set] at HK'; replace HK := HK'; clear HK') | refine wpList_exe (kv_a HK 2 _ (by rfl) (by rfl) (by rfl)) (by rfl) ?_ | refine wpList_exe (kv_s HK 2 _ (by rfl) (by rfl) (by rfl)) (by rfl) ?_ | (refine wpList_mp2 (p := Blt.zp) (q := ⟨⟨3, 0⟩, ⟨#[120]⟩⟩) HK rfl _ _ rfl rfl rfl ?_; intro _ g4 HK'; simp only [List.nil_append] at HK'; replace HK := HK'; clear HK'))
  refine (H4.out _ _ (HK.out.own 0 rfl)).mono ?_; rintro e w1 ⟨rfl, b1⟩
  replace HK := Lib.hid (HK.out.call b1); clear b1
  have f0 := HK.out.cell 0 rfl 0 (v := .int .i64 2) rfl
  have f1 := HK.out.cell 0 rfl 1 (v := .int .i64 0) rfl
  have f2 := HK.out.cell 2 rfl 0 (v := .int .i64 3) rfl
  have f3 := HK.out.cell 2 rfl 1 (v := .int .i64 0) rfl
  go_wp2_with fail
  refine (H5.out _).mono ?_; rintro e w1 ⟨rfl, b1⟩
  replace HK := Lib.hid (HK.out.call b1); clear b1
  go_wp2_with fail
  go_ret
  exact ⟨rfl, HK.out.b⟩
end Go.Proofs.Ytfganmbjaglmiaa
