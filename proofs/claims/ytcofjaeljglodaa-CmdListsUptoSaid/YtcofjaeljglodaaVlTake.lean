/-
  What value.take returns: what stands at the head of items.
  No condition but that the numbers of the items fit their kind.
-/
import Derived.Test.YtcofjaeljglodaaVlItems
import Derived.Deep.CutBlock
import Derived.Deep.DeepCutAuto
set_option linter.unusedSimpArgs false
set_option linter.unusedVariables false
namespace Go.Proofs.Ytcofjaeljglodaa
open Go.RowKit

/-- A value's cells. -/
def vC (k n : Int) (f : Nat) (s : ByteArray) : Array Value := #[.int .i64 k, .int .i64 n, .int .u64 (f : Int), .string s]
theorem info_i1 : (Try.prog.info? 3).map (·.size) = some 1 := by kernel_rfl
theorem info_u1 : (Try.prog.info? 22).map (·.size) = some 1 := by kernel_rfl
theorem info_s1 : (Try.prog.info? 9).map (·.size) = some 1 := by kernel_rfl
theorem wrap_us (n : Int) : IntKind.u64.wrap n = (Val.us n : Int) := by
  rw [IntKind.wrap_u64]; unfold Val.us; omega
theorem us_lt (n : Int) : Val.us n < 18446744073709551616 := by unfold Val.us; omega
section
variable {b0 : Nat} {w0 w : World} {L : List (Nat × TypeId × Array Value)} {R : List RowE} {ops : Array Oper} {rest : List Oper} {o : Oper} {a : Act} {Q : Exit → Act → World → Prop} {g : Nat} {k n k2 n2 : Int} {f f2 : Nat} {s s2 : ByteArray}
theorem wpList_akv (HK : Hid (Kn b0 w0 w L R)) (hgd : o.guard = none) (ho : o.op = .alloc 24)
    (h : ∀ w' g, Hid (Kn b0 w0 w' (L ++ [(g, 24, vC 0 0 0 ⟨#[]⟩)]) R) → wpList Try.prog ops Q rest (a.put o.dst (.pointer (some ⟨g, 0, none⟩))) w') : wpList Try.prog ops Q (o :: rest) a w :=
  wpList_plain hgd fun K hK => by
    have h4 := h _ w.heap.size (Lib.hid (HK.out.alloc _ _))
    unfold Oper.wp execOp
    simp only [ho]
    unfold vC at h4
    go_simp
    exact hK _ _ h4
theorem wpList_sv (HK : Hid (Kn b0 w0 w L R)) (i : Nat) (hgd : o.guard = none) (p q : Operand) (ho : o.op = .store 24 p q) (hL : L[i]? = some (g, 24, vC k n f s)) (hx : a.eval p = .pointer (some ⟨g, 0, none⟩)) (hy : a.eval q = .agg #[.int .i64 k2, .int .i64 n2, .int .u64 (f2 : Int), .string s2])
    (h : ∀ w', Hid (Kn b0 w0 w' (L.set i (g, 24, vC k2 n2 f2 s2)) R) → wpList Try.prog ops Q rest (a.put o.dst undef) w') : wpList Try.prog ops Q (o :: rest) a w :=
  wpList_ss HK i hgd _ p q ho hL hx hy (by show 4 ≤ 4; decide) info_v4 (by simp [Value.oneCell']) fun w' h1 h2 => h w' (by
    have e : putCells (vC k n f s) 0 (#[Value.int .i64 k2, .int .i64 n2, .int .u64 (f2 : Int), .string s2] : Array Value).toList = vC k2 n2 f2 s2 := by
      show putCells (vC k n f s) 0 (vC k2 n2 f2 s2).toList = vC k2 n2 f2 s2
      rw [putCells_all (vs := (vC k2 n2 f2 s2).toList) (cs := vC k n f s) rfl, Array.toArray_toList]
    rw [e] at h1
    exact h1)
theorem wpList_svn (HK : Hid (Kn b0 w0 w L R)) (i : Nat) (hgd : o.guard = none) (p q : Operand) (ho : o.op = .store 3 p q) (hL : L[i]? = some (g, 24, vC k n f s)) (hx : a.eval p = .pointer (some ⟨g, 1, none⟩)) (hy : a.eval q = .int .i64 n2)
    (h : ∀ w', Hid (Kn b0 w0 w' (L.set i (g, 24, vC k n2 f s)) R) → wpList Try.prog ops Q rest (a.put o.dst undef) w') : wpList Try.prog ops Q (o :: rest) a w :=
  wpList_sc HK i hgd _ p q ho hL hx hy rfl rfl (by show 1 < 4; decide) info_i1 fun w' h1 _ => h w' h1
theorem wpList_svf (HK : Hid (Kn b0 w0 w L R)) (i : Nat) (hgd : o.guard = none) (p q : Operand) (ho : o.op = .store 22 p q) (hL : L[i]? = some (g, 24, vC k n f s)) (hx : a.eval p = .pointer (some ⟨g, 2, none⟩)) (hy : a.eval q = .int .u64 (f2 : Int))
    (h : ∀ w', Hid (Kn b0 w0 w' (L.set i (g, 24, vC k n f2 s)) R) → wpList Try.prog ops Q rest (a.put o.dst undef) w') : wpList Try.prog ops Q (o :: rest) a w :=
  wpList_sc HK i hgd _ p q ho hL hx hy rfl rfl (by show 2 < 4; decide) info_u1 fun w' h1 _ => h w' h1
theorem wpList_svs (HK : Hid (Kn b0 w0 w L R)) (i : Nat) (hgd : o.guard = none) (p q : Operand) (ho : o.op = .store 9 p q) (hL : L[i]? = some (g, 24, vC k n f s)) (hx : a.eval p = .pointer (some ⟨g, 3, none⟩)) (hy : a.eval q = .string s2)
    (h : ∀ w', Hid (Kn b0 w0 w' (L.set i (g, 24, vC k n f s2)) R) → wpList Try.prog ops Q rest (a.put o.dst undef) w') : wpList Try.prog ops Q (o :: rest) a w :=
  wpList_sc HK i hgd _ p q ho hL hx hy rfl rfl (by show 3 < 4; decide) info_s1 fun w' h1 _ => h w' h1
theorem kexec_vv (HK : Hid (Kn b0 w0 w L R)) (i : Nat) (x : Operand) (ho : o.op = .load 24 x) (hL : L[i]? = some (g, 24, vC k n f s)) (hx : a.eval x = .pointer (some ⟨g, 0, none⟩)) :
    (execOp a.eval o).run Try.prog w = .ok (.value (.agg #[.int .i64 k, .int .i64 n, .int .u64 (f : Int), .string s])) w :=
  kexec_ls HK _ x ho i hL hx (vC k n f s) (fun j _ => by rw [Nat.zero_add]) Try.underlying24 info_v4
end
theorem ret_v {fn : Func} {R : Ending → World → Prop} {a : Act} {w : World} {B : Nat} {k n : Int} {f : Nat} {s : ByteArray} {q : Tmp} (hf : fn.results = #[.cell q 24]) (h2 : a.tmps[q]? = some (.pointer (some ⟨B, 0, none⟩))) (hd : a.defers = []) (hb : Blk w B 24 (vC k n f s))
    (hR : R (.returned (.agg #[.int .i64 k, .int .i64 n, .int .u64 (f : Int), .string s])) w) : bodyPost Try.prog fn R Exit.ret a w :=
  bodyPost_ret (results_cell_row hf a.tmps w B _ _ (0, 0) _ (by simp [h2]) hb Try.underlying24 rfl info_v4) hd hR
section
variable (b o c n : Nat) (xn yn : Int) (ys : ByteArray) (w : World)
set_option maxRecDepth 100000 in
set_option maxHeartbeats 3200000 in
theorem take_1  (HX : Hid (∀ W, Below w.heap.size w W → W.cell? ⟨b, o + 1, none⟩ = some (.int .i64 xn))) :
    Calls Try.prog 51 #[.slice (some ⟨b, o, none⟩) 1 c] w fun e w' => e = .returned (.agg #[.int .i64 xn, .int .i64 0, .int .u64 ((0 : Nat) : Int), .string ⟨#[]⟩]) ∧ Below w.heap.size w w' := by
  have HK := Lib.hid (Kn.start w)
  have x1 := HX.out _ HK.out.b
  go_enter Try.func51, Try.ntmps51
  go_wp2_with (first | (refine wpList_akv HK rfl rfl ?_; intro _ g1 HK'; simp only [List.cons_append, List.nil_append] at HK'; replace HK := HK'; clear HK'; clear x1; have x1 := HX.out _ HK.out.b) | refine wpList_of_exec (by rfl) (kexec_vv HK 1 _ rfl rfl rfl) ?_ | (first | (refine wpList_sv HK 1 rfl _ _ rfl rfl rfl rfl ?_; intro _ HK'; simp only [List.set] at HK'; replace HK := HK'; clear HK'; clear x1; have x1 := HX.out _ HK.out.b) | (refine wpList_sv HK 0 rfl _ _ rfl rfl rfl rfl ?_; intro _ HK'; simp only [List.set] at HK'; replace HK := HK'; clear HK'; clear x1; have x1 := HX.out _ HK.out.b)))
  exact ret_v Try.results51 rfl rfl (HK.out.blk 0 rfl) ⟨rfl, HK.out.b⟩
set_option maxRecDepth 100000 in
set_option maxHeartbeats 3200000 in
theorem take_i (hn : 2 ≤ n) (hc : n ≤ c) (hbig : n ≤ 9223372036854775807) (ok : Bool) (hN : ∀ W, Calls Try.prog 43 #[.int .i64 xn] W (IsNamed true false false ok W)) (HX : Hid (∀ W, Below w.heap.size w W → W.cell? ⟨b, o + 1, none⟩ = some (.int .i64 xn) ∧ W.cell? ⟨b, o + 4, none⟩ = some (.int .i64 yn) ∧ W.cell? ⟨b, o + 5, none⟩ = some (.string ys))) :
    Calls Try.prog 51 #[.slice (some ⟨b, o, none⟩) n c] w fun e w' => e = .returned (.agg #[.int .i64 xn, .int .i64 yn, .int .u64 ((0 : Nat) : Int), .string ⟨#[]⟩]) ∧ Below w.heap.size w w' := by
  have h1 : ((n : Int) == 1) = false := by simp; omega
  have h2 : (1 : Int) < (n : Int) := by omega
  have h3 : (0 : Int) < (n : Int) := by omega
  have h4 : ¬ n = 1 := by omega
  have h5 : 0 < n := by omega
  have h6 : 1 < n := by omega
  have HN := Lib.hid hN
  clear hN hn hc hbig
  have HK := Lib.hid (Kn.start w)
  obtain ⟨x1, x4, x5⟩ := HX.out _ HK.out.b
  go_enter Try.func51, Try.ntmps51
  go_upto_region 4 with (first | (refine wpList_akv HK rfl rfl ?_; intro _ g1 HK'; simp only [List.cons_append, List.nil_append] at HK'; replace HK := HK'; clear HK'; clear x1 x4 x5; obtain ⟨x1, x4, x5⟩ := HX.out _ HK.out.b) | (first | (refine wpList_sv HK 1 rfl _ _ rfl rfl rfl rfl ?_; intro _ HK'; simp only [List.set] at HK'; replace HK := HK'; clear HK'; clear x1 x4 x5; obtain ⟨x1, x4, x5⟩ := HX.out _ HK.out.b) | (refine wpList_sv HK 0 rfl _ _ rfl rfl rfl rfl ?_; intro _ HK'; simp only [List.set] at HK'; replace HK := HK'; clear HK'; clear x1 x4 x5; obtain ⟨x1, x4, x5⟩ := HX.out _ HK.out.b)))
  have z0 := HK.out.cell 1 rfl 0 (v := .int .i64 xn) rfl
  go_wp2_with fail
  refine (HN.out _).mono ?_; rintro e w1 ⟨rfl, b1⟩
  replace HK := Lib.hid (HK.out.call b1)
  clear b1 z0
  go_upto_region 5 with (first | (refine wpList_ak3 HK rfl rfl ?_; intro _ g3 HK'; simp only [List.cons_append, List.nil_append] at HK'; replace HK := HK'; clear HK') | (refine wpList_sf3 HK 2 rfl _ _ rfl rfl rfl rfl ?_; intro _ HK'; simp only [List.set] at HK'; replace HK := HK'; clear HK'))
  clear x1 x4 x5
  obtain ⟨x1, x4, x5⟩ := HX.out _ HK.out.b
  have y0 := HK.out.cell 2 rfl 0 (v := .bool true) rfl
  have y1 := HK.out.cell 2 rfl 1 (v := .bool false) rfl
  have y2 := HK.out.cell 2 rfl 2 (v := .bool false) rfl
  go_wp2_with (first | (refine wpList_svn HK 1 rfl _ _ rfl rfl rfl rfl ?_; intro _ HK'; simp only [List.set] at HK'; replace HK := HK'; clear HK'; clear x1 x4 x5 y0 y1 y2; obtain ⟨x1, x4, x5⟩ := HX.out _ HK.out.b; have y0 := HK.out.cell 2 rfl 0 (v := .bool true) rfl; have y1 := HK.out.cell 2 rfl 1 (v := .bool false) rfl; have y2 := HK.out.cell 2 rfl 2 (v := .bool false) rfl) | (refine wpList_svf HK 1 rfl _ _ rfl rfl rfl rfl ?_; intro _ HK'; simp only [List.set] at HK'; replace HK := HK'; clear HK'; clear x1 x4 x5 y0 y1 y2; obtain ⟨x1, x4, x5⟩ := HX.out _ HK.out.b; have y0 := HK.out.cell 2 rfl 0 (v := .bool true) rfl; have y1 := HK.out.cell 2 rfl 1 (v := .bool false) rfl; have y2 := HK.out.cell 2 rfl 2 (v := .bool false) rfl) | (refine wpList_svs HK 1 rfl _ _ rfl rfl rfl rfl ?_; intro _ HK'; simp only [List.set] at HK'; replace HK := HK'; clear HK'; clear x1 x4 x5 y0 y1 y2; obtain ⟨x1, x4, x5⟩ := HX.out _ HK.out.b; have y0 := HK.out.cell 2 rfl 0 (v := .bool true) rfl; have y1 := HK.out.cell 2 rfl 1 (v := .bool false) rfl; have y2 := HK.out.cell 2 rfl 2 (v := .bool false) rfl) | refine wpList_of_exec (by rfl) (kexec_vv HK 1 _ rfl rfl rfl) ?_ | (refine wpList_sv HK 0 rfl _ _ rfl rfl rfl rfl ?_; intro _ HK'; simp only [List.set] at HK'; replace HK := HK'; clear HK'))
  exact ret_v Try.results51 rfl rfl (HK.out.blk 0 rfl) ⟨rfl, HK.out.b⟩
set_option maxRecDepth 100000 in
set_option maxHeartbeats 3200000 in
theorem take_f (hn : 2 ≤ n) (hc : n ≤ c) (hbig : n ≤ 9223372036854775807) (ok : Bool) (hN : ∀ W, Calls Try.prog 43 #[.int .i64 xn] W (IsNamed false true false ok W)) (HX : Hid (∀ W, Below w.heap.size w W → W.cell? ⟨b, o + 1, none⟩ = some (.int .i64 xn) ∧ W.cell? ⟨b, o + 4, none⟩ = some (.int .i64 yn) ∧ W.cell? ⟨b, o + 5, none⟩ = some (.string ys))) :
    Calls Try.prog 51 #[.slice (some ⟨b, o, none⟩) n c] w fun e w' => e = .returned (.agg #[.int .i64 xn, .int .i64 0, .int .u64 ((Val.us yn : Nat) : Int), .string ⟨#[]⟩]) ∧ Below w.heap.size w w' := by
  have h1 : ((n : Int) == 1) = false := by simp; omega
  have h2 : (1 : Int) < (n : Int) := by omega
  have h3 : (0 : Int) < (n : Int) := by omega
  have h4 : ¬ n = 1 := by omega
  have h5 : 0 < n := by omega
  have h6 : 1 < n := by omega
  have HN := Lib.hid hN
  clear hN hn hc hbig
  have hus := wrap_us yn
  generalize Val.us yn = z at *
  have HK := Lib.hid (Kn.start w)
  obtain ⟨x1, x4, x5⟩ := HX.out _ HK.out.b
  go_enter Try.func51, Try.ntmps51
  go_upto_region 4 with (first | (refine wpList_akv HK rfl rfl ?_; intro _ g1 HK'; simp only [List.cons_append, List.nil_append] at HK'; replace HK := HK'; clear HK'; clear x1 x4 x5; obtain ⟨x1, x4, x5⟩ := HX.out _ HK.out.b) | (first | (refine wpList_sv HK 1 rfl _ _ rfl rfl rfl rfl ?_; intro _ HK'; simp only [List.set] at HK'; replace HK := HK'; clear HK'; clear x1 x4 x5; obtain ⟨x1, x4, x5⟩ := HX.out _ HK.out.b) | (refine wpList_sv HK 0 rfl _ _ rfl rfl rfl rfl ?_; intro _ HK'; simp only [List.set] at HK'; replace HK := HK'; clear HK'; clear x1 x4 x5; obtain ⟨x1, x4, x5⟩ := HX.out _ HK.out.b)))
  have z0 := HK.out.cell 1 rfl 0 (v := .int .i64 xn) rfl
  go_wp2_with fail
  refine (HN.out _).mono ?_; rintro e w1 ⟨rfl, b1⟩
  replace HK := Lib.hid (HK.out.call b1)
  clear b1 z0
  go_upto_region 5 with (first | (refine wpList_ak3 HK rfl rfl ?_; intro _ g3 HK'; simp only [List.cons_append, List.nil_append] at HK'; replace HK := HK'; clear HK') | (refine wpList_sf3 HK 2 rfl _ _ rfl rfl rfl rfl ?_; intro _ HK'; simp only [List.set] at HK'; replace HK := HK'; clear HK'))
  clear x1 x4 x5
  obtain ⟨x1, x4, x5⟩ := HX.out _ HK.out.b
  have y0 := HK.out.cell 2 rfl 0 (v := .bool false) rfl
  have y1 := HK.out.cell 2 rfl 1 (v := .bool true) rfl
  have y2 := HK.out.cell 2 rfl 2 (v := .bool false) rfl
  go_wp2_with (first | (refine wpList_svn HK 1 rfl _ _ rfl rfl rfl rfl ?_; intro _ HK'; simp only [List.set] at HK'; replace HK := HK'; clear HK'; clear x1 x4 x5 y0 y1 y2; obtain ⟨x1, x4, x5⟩ := HX.out _ HK.out.b; have y0 := HK.out.cell 2 rfl 0 (v := .bool false) rfl; have y1 := HK.out.cell 2 rfl 1 (v := .bool true) rfl; have y2 := HK.out.cell 2 rfl 2 (v := .bool false) rfl) | (refine wpList_svf HK 1 rfl _ _ rfl rfl rfl rfl ?_; intro _ HK'; simp only [List.set] at HK'; replace HK := HK'; clear HK'; clear x1 x4 x5 y0 y1 y2; obtain ⟨x1, x4, x5⟩ := HX.out _ HK.out.b; have y0 := HK.out.cell 2 rfl 0 (v := .bool false) rfl; have y1 := HK.out.cell 2 rfl 1 (v := .bool true) rfl; have y2 := HK.out.cell 2 rfl 2 (v := .bool false) rfl) | (refine wpList_svs HK 1 rfl _ _ rfl rfl rfl rfl ?_; intro _ HK'; simp only [List.set] at HK'; replace HK := HK'; clear HK'; clear x1 x4 x5 y0 y1 y2; obtain ⟨x1, x4, x5⟩ := HX.out _ HK.out.b; have y0 := HK.out.cell 2 rfl 0 (v := .bool false) rfl; have y1 := HK.out.cell 2 rfl 1 (v := .bool true) rfl; have y2 := HK.out.cell 2 rfl 2 (v := .bool false) rfl) | refine wpList_of_exec (by rfl) (kexec_vv HK 1 _ rfl rfl rfl) ?_ | (refine wpList_sv HK 0 rfl _ _ rfl rfl rfl rfl ?_; intro _ HK'; simp only [List.set] at HK'; replace HK := HK'; clear HK'))
  exact ret_v Try.results51 rfl rfl (HK.out.blk 0 rfl) ⟨rfl, HK.out.b⟩
set_option maxRecDepth 100000 in
set_option maxHeartbeats 3200000 in
theorem take_s (hn : 2 ≤ n) (hc : n ≤ c) (hbig : n ≤ 9223372036854775807) (ok : Bool) (hN : ∀ W, Calls Try.prog 43 #[.int .i64 xn] W (IsNamed false false true ok W)) (HX : Hid (∀ W, Below w.heap.size w W → W.cell? ⟨b, o + 1, none⟩ = some (.int .i64 xn) ∧ W.cell? ⟨b, o + 4, none⟩ = some (.int .i64 yn) ∧ W.cell? ⟨b, o + 5, none⟩ = some (.string ys))) :
    Calls Try.prog 51 #[.slice (some ⟨b, o, none⟩) n c] w fun e w' => e = .returned (.agg #[.int .i64 xn, .int .i64 0, .int .u64 ((0 : Nat) : Int), .string ys]) ∧ Below w.heap.size w w' := by
  have h1 : ((n : Int) == 1) = false := by simp; omega
  have h2 : (1 : Int) < (n : Int) := by omega
  have h3 : (0 : Int) < (n : Int) := by omega
  have h4 : ¬ n = 1 := by omega
  have h5 : 0 < n := by omega
  have h6 : 1 < n := by omega
  have HN := Lib.hid hN
  clear hN hn hc hbig
  have HK := Lib.hid (Kn.start w)
  obtain ⟨x1, x4, x5⟩ := HX.out _ HK.out.b
  go_enter Try.func51, Try.ntmps51
  go_upto_region 4 with (first | (refine wpList_akv HK rfl rfl ?_; intro _ g1 HK'; simp only [List.cons_append, List.nil_append] at HK'; replace HK := HK'; clear HK'; clear x1 x4 x5; obtain ⟨x1, x4, x5⟩ := HX.out _ HK.out.b) | (first | (refine wpList_sv HK 1 rfl _ _ rfl rfl rfl rfl ?_; intro _ HK'; simp only [List.set] at HK'; replace HK := HK'; clear HK'; clear x1 x4 x5; obtain ⟨x1, x4, x5⟩ := HX.out _ HK.out.b) | (refine wpList_sv HK 0 rfl _ _ rfl rfl rfl rfl ?_; intro _ HK'; simp only [List.set] at HK'; replace HK := HK'; clear HK'; clear x1 x4 x5; obtain ⟨x1, x4, x5⟩ := HX.out _ HK.out.b)))
  have z0 := HK.out.cell 1 rfl 0 (v := .int .i64 xn) rfl
  go_wp2_with fail
  refine (HN.out _).mono ?_; rintro e w1 ⟨rfl, b1⟩
  replace HK := Lib.hid (HK.out.call b1)
  clear b1 z0
  go_upto_region 5 with (first | (refine wpList_ak3 HK rfl rfl ?_; intro _ g3 HK'; simp only [List.cons_append, List.nil_append] at HK'; replace HK := HK'; clear HK') | (refine wpList_sf3 HK 2 rfl _ _ rfl rfl rfl rfl ?_; intro _ HK'; simp only [List.set] at HK'; replace HK := HK'; clear HK'))
  clear x1 x4 x5
  obtain ⟨x1, x4, x5⟩ := HX.out _ HK.out.b
  have y0 := HK.out.cell 2 rfl 0 (v := .bool false) rfl
  have y1 := HK.out.cell 2 rfl 1 (v := .bool false) rfl
  have y2 := HK.out.cell 2 rfl 2 (v := .bool true) rfl
  go_wp2_with (first | (refine wpList_svn HK 1 rfl _ _ rfl rfl rfl rfl ?_; intro _ HK'; simp only [List.set] at HK'; replace HK := HK'; clear HK'; clear x1 x4 x5 y0 y1 y2; obtain ⟨x1, x4, x5⟩ := HX.out _ HK.out.b; have y0 := HK.out.cell 2 rfl 0 (v := .bool false) rfl; have y1 := HK.out.cell 2 rfl 1 (v := .bool false) rfl; have y2 := HK.out.cell 2 rfl 2 (v := .bool true) rfl) | (refine wpList_svf HK 1 rfl _ _ rfl rfl rfl rfl ?_; intro _ HK'; simp only [List.set] at HK'; replace HK := HK'; clear HK'; clear x1 x4 x5 y0 y1 y2; obtain ⟨x1, x4, x5⟩ := HX.out _ HK.out.b; have y0 := HK.out.cell 2 rfl 0 (v := .bool false) rfl; have y1 := HK.out.cell 2 rfl 1 (v := .bool false) rfl; have y2 := HK.out.cell 2 rfl 2 (v := .bool true) rfl) | (refine wpList_svs HK 1 rfl _ _ rfl rfl rfl rfl ?_; intro _ HK'; simp only [List.set] at HK'; replace HK := HK'; clear HK'; clear x1 x4 x5 y0 y1 y2; obtain ⟨x1, x4, x5⟩ := HX.out _ HK.out.b; have y0 := HK.out.cell 2 rfl 0 (v := .bool false) rfl; have y1 := HK.out.cell 2 rfl 1 (v := .bool false) rfl; have y2 := HK.out.cell 2 rfl 2 (v := .bool true) rfl) | refine wpList_of_exec (by rfl) (kexec_vv HK 1 _ rfl rfl rfl) ?_ | (refine wpList_sv HK 0 rfl _ _ rfl rfl rfl rfl ?_; intro _ HK'; simp only [List.set] at HK'; replace HK := HK'; clear HK'))
  exact ret_v Try.results51 rfl rfl (HK.out.blk 0 rfl) ⟨rfl, HK.out.b⟩
set_option maxRecDepth 100000 in
set_option maxHeartbeats 3200000 in
theorem take_z (hn : 2 ≤ n) (hc : n ≤ c) (hbig : n ≤ 9223372036854775807) (ok : Bool) (hN : ∀ W, Calls Try.prog 43 #[.int .i64 xn] W (IsNamed false false false ok W)) (HX : Hid (∀ W, Below w.heap.size w W → W.cell? ⟨b, o + 1, none⟩ = some (.int .i64 xn) ∧ W.cell? ⟨b, o + 4, none⟩ = some (.int .i64 yn) ∧ W.cell? ⟨b, o + 5, none⟩ = some (.string ys))) :
    Calls Try.prog 51 #[.slice (some ⟨b, o, none⟩) n c] w fun e w' => e = .returned (.agg #[.int .i64 xn, .int .i64 0, .int .u64 ((0 : Nat) : Int), .string ⟨#[]⟩]) ∧ Below w.heap.size w w' := by
  have h1 : ((n : Int) == 1) = false := by simp; omega
  have h2 : (1 : Int) < (n : Int) := by omega
  have h3 : (0 : Int) < (n : Int) := by omega
  have h4 : ¬ n = 1 := by omega
  have h5 : 0 < n := by omega
  have h6 : 1 < n := by omega
  have HN := Lib.hid hN
  clear hN hn hc hbig
  have HK := Lib.hid (Kn.start w)
  obtain ⟨x1, x4, x5⟩ := HX.out _ HK.out.b
  go_enter Try.func51, Try.ntmps51
  go_upto_region 4 with (first | (refine wpList_akv HK rfl rfl ?_; intro _ g1 HK'; simp only [List.cons_append, List.nil_append] at HK'; replace HK := HK'; clear HK'; clear x1 x4 x5; obtain ⟨x1, x4, x5⟩ := HX.out _ HK.out.b) | (first | (refine wpList_sv HK 1 rfl _ _ rfl rfl rfl rfl ?_; intro _ HK'; simp only [List.set] at HK'; replace HK := HK'; clear HK'; clear x1 x4 x5; obtain ⟨x1, x4, x5⟩ := HX.out _ HK.out.b) | (refine wpList_sv HK 0 rfl _ _ rfl rfl rfl rfl ?_; intro _ HK'; simp only [List.set] at HK'; replace HK := HK'; clear HK'; clear x1 x4 x5; obtain ⟨x1, x4, x5⟩ := HX.out _ HK.out.b)))
  have z0 := HK.out.cell 1 rfl 0 (v := .int .i64 xn) rfl
  go_wp2_with fail
  refine (HN.out _).mono ?_; rintro e w1 ⟨rfl, b1⟩
  replace HK := Lib.hid (HK.out.call b1)
  clear b1 z0
  go_upto_region 5 with (first | (refine wpList_ak3 HK rfl rfl ?_; intro _ g3 HK'; simp only [List.cons_append, List.nil_append] at HK'; replace HK := HK'; clear HK') | (refine wpList_sf3 HK 2 rfl _ _ rfl rfl rfl rfl ?_; intro _ HK'; simp only [List.set] at HK'; replace HK := HK'; clear HK'))
  clear x1 x4 x5
  obtain ⟨x1, x4, x5⟩ := HX.out _ HK.out.b
  have y0 := HK.out.cell 2 rfl 0 (v := .bool false) rfl
  have y1 := HK.out.cell 2 rfl 1 (v := .bool false) rfl
  have y2 := HK.out.cell 2 rfl 2 (v := .bool false) rfl
  go_wp2_with (first | (refine wpList_svn HK 1 rfl _ _ rfl rfl rfl rfl ?_; intro _ HK'; simp only [List.set] at HK'; replace HK := HK'; clear HK'; clear x1 x4 x5 y0 y1 y2; obtain ⟨x1, x4, x5⟩ := HX.out _ HK.out.b; have y0 := HK.out.cell 2 rfl 0 (v := .bool false) rfl; have y1 := HK.out.cell 2 rfl 1 (v := .bool false) rfl; have y2 := HK.out.cell 2 rfl 2 (v := .bool false) rfl) | (refine wpList_svf HK 1 rfl _ _ rfl rfl rfl rfl ?_; intro _ HK'; simp only [List.set] at HK'; replace HK := HK'; clear HK'; clear x1 x4 x5 y0 y1 y2; obtain ⟨x1, x4, x5⟩ := HX.out _ HK.out.b; have y0 := HK.out.cell 2 rfl 0 (v := .bool false) rfl; have y1 := HK.out.cell 2 rfl 1 (v := .bool false) rfl; have y2 := HK.out.cell 2 rfl 2 (v := .bool false) rfl) | (refine wpList_svs HK 1 rfl _ _ rfl rfl rfl rfl ?_; intro _ HK'; simp only [List.set] at HK'; replace HK := HK'; clear HK'; clear x1 x4 x5 y0 y1 y2; obtain ⟨x1, x4, x5⟩ := HX.out _ HK.out.b; have y0 := HK.out.cell 2 rfl 0 (v := .bool false) rfl; have y1 := HK.out.cell 2 rfl 1 (v := .bool false) rfl; have y2 := HK.out.cell 2 rfl 2 (v := .bool false) rfl) | refine wpList_of_exec (by rfl) (kexec_vv HK 1 _ rfl rfl rfl) ?_ | (refine wpList_sv HK 0 rfl _ _ rfl rfl rfl rfl ?_; intro _ HK'; simp only [List.set] at HK'; replace HK := HK'; clear HK'))
  exact ret_v Try.results51 rfl rfl (HK.out.blk 0 rfl) ⟨rfl, HK.out.b⟩
end
theorem vtake_any (b o c n : Nat) (l : List Itm.It) (w : World) (hl : l.length = n) (h0 : 0 < n) (hc : n ≤ c) (hbig : n ≤ 9223372036854775807) (hb : b < w.heap.size) (hi : ∀ i x, l[i]? = some x → itemLay.At w b o i x) :
    Calls Try.prog 51 #[.slice (some ⟨b, o, none⟩) n c] w fun e w' => e = .returned (vv (Val.take l)) ∧ Below w.heap.size w w' := by
  match l, hl with
  | [], hl => simp at hl; omega
  | [x], hl =>
    obtain rfl : n = 1 := by simpa using hl.symm
    exact take_1 b o c x.n w (Lib.hid fun W hW => by
      have := (at_item ((hi 0 x rfl).keep (w' := W) fun q hq => hW.cell (by rw [hq]; exact hb))).2.1
      simpa using this)
  | x :: y :: r, hl =>
    have hn2 : 2 ≤ n := by simp at hl; omega
    have HX : Hid (∀ W, Below w.heap.size w W → W.cell? ⟨b, o + 1, none⟩ = some (.int .i64 x.n) ∧ W.cell? ⟨b, o + 4, none⟩ = some (.int .i64 y.n) ∧ W.cell? ⟨b, o + 5, none⟩ = some (.string y.s)) := Lib.hid fun W hW => by
      have k0 := (at_item ((hi 0 x rfl).keep (w' := W) fun q hq => hW.cell (by rw [hq]; exact hb))).2.1
      have k1 := at_item ((hi 1 y rfl).keep (w' := W) fun q hq => hW.cell (by rw [hq]; exact hb))
      exact ⟨by simpa using k0, by simpa using k1.2.1, by simpa using k1.2.2⟩
    unfold Val.take vv
    simp only
    by_cases h1 : x.n = 1
    · rw [if_pos h1, if_neg (by omega), if_neg (by omega)]
      exact take_i b o c n x.n y.n y.s w hn2 hc hbig true (fun W => by rw [h1]; exact named1 W) HX
    by_cases h2 : x.n = 2
    · rw [if_neg (by omega), if_pos h2, if_neg (by omega)]
      exact take_f b o c n x.n y.n y.s w hn2 hc hbig true (fun W => by rw [h2]; exact named2 W) HX
    by_cases h3 : x.n = 3
    · rw [if_neg (by omega), if_neg (by omega), if_pos h3]
      exact take_s b o c n x.n y.n y.s w hn2 hc hbig true (fun W => by rw [h3]; exact named3 W) HX
    · rw [if_neg h1, if_neg h2, if_neg h3]
      by_cases h4 : x.n = 0
      · exact take_z b o c n x.n y.n y.s w hn2 hc hbig true (fun W => by rw [h4]; exact named0 W) HX
      · exact take_z b o c n x.n y.n y.s w hn2 hc hbig false (fun W => named9 x.n W (by omega)) HX
theorem take_f_lt (l : List Itm.It) : (Val.take l).f < 18446744073709551616 := by
  match l with
  | [] => show (0 : Nat) < 18446744073709551616; decide
  | [x] => show (0 : Nat) < 18446744073709551616; decide
  | x :: y :: r =>
    unfold Val.take
    simp only
    split
    · exact us_lt _
    · decide
end Go.Proofs.Ytcofjaeljglodaa
