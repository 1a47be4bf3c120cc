/-
  How ballots, votes and promises lie: blocks that hold one, loads and stores of one, of its fields; made ones; rows of votes and of promises; ways out.
  No condition but those named.
-/
import Derived.Test.YtfganmbjaglmiaaBalMath
import Derived.Test.YtfganmbjaglmiaaBoLay
set_option linter.unusedSimpArgs false
set_option linter.unusedVariables false
set_option maxRecDepth 100000
namespace Go.Proofs.Ytfganmbjaglmiaa
open Go.ChangeShapes Go.WideShapes Go.Deep Go.RowKit

def blA (b : Bal) : Array Value := #[.int .i64 b.r, .int .i64 b.s]
def voA (x : Bvo) : Array Value := #[.int .i64 x.p.r, .int .i64 x.p.s, .int .i64 x.a.r, .int .i64 x.a.s, .string x.v]
def pmA (x : Bpm) : Array Value := #[.int .i64 x.a.r, .int .i64 x.a.s, .string x.v]
def zvo : Bvo := ⟨⟨0, 0⟩, ⟨0, 0⟩, ⟨#[]⟩⟩
theorem info_blz : (Try.prog.info? 23).map (fun i => (i.zero, i.size, i.bytes)) = some (some (Value.agg (blA ⟨0, 0⟩)), 2, 16) := by kernel_rfl
theorem info_voz : (Try.prog.info? 29).map (fun i => (i.zero, i.size, i.bytes)) = some (some (Value.agg (voA zvo)), 5, 48) := by kernel_rfl
theorem info_pmz : (Try.prog.info? 50).map (fun i => (i.zero, i.size, i.bytes)) = some (some (Value.agg (pmA ⟨⟨0, 0⟩, ⟨#[]⟩⟩)), 3, 32) := by kernel_rfl
theorem info_bl : (Try.prog.info? 23).map (·.size) = some 2 := by kernel_rfl
theorem info_vo : (Try.prog.info? 29).map (·.size) = some 5 := by kernel_rfl
theorem info_pm : (Try.prog.info? 50).map (·.size) = some 3 := by kernel_rfl
def voLay : Lay Try.prog Bvo where
  t := 39
  e := 29
  k := 5
  bytes := 48
  z := .agg (voA zvo)
  f := fun x => (voA x).toList
  len := fun _ => rfl
  one := fun x u hu => by
    unfold voA at hu
    simp only [List.mem_cons, List.not_mem_nil, or_false] at hu
    rcases hu with rfl | rfl | rfl | rfl | rfl <;> rfl
  und := Try.underlying39
  info := info_voz
  zs := rfl
  pos := by decide
  small := by decide
def pmLay : Lay Try.prog Bpm where
  t := 34
  e := 50
  k := 3
  bytes := 32
  z := .agg (pmA ⟨⟨0, 0⟩, ⟨#[]⟩⟩)
  f := fun x => (pmA x).toList
  len := fun _ => rfl
  one := fun x u hu => by
    unfold pmA at hu
    simp only [List.mem_cons, List.not_mem_nil, or_false] at hu
    rcases hu with rfl | rfl | rfl <;> rfl
  und := Try.underlying34
  info := info_pmz
  zs := rfl
  pos := by decide
  small := by decide
def voF (x : Bvo) : Prop := x.v.size ≤ 140737488351232
def pmF (x : Bpm) : Prop := x.v.size ≤ 140737488351232
section
variable {b0 : Nat} {w0 w : World} {L : List (Nat × TypeId × Array Value)} {R : List RowE} {ops : Array Oper} {rest : List Oper} {o : Oper} {a : Act} {Q : Exit → Act → World → Prop} {K : Act → World → Prop} {E : Prop} {g : Nat}
variable {b c : Bal} {x y : Bvo} {p q : Bpm}
theorem wpList_abl (HK : Hid (Kn b0 w0 w L R)) (hgd : o.guard = none) (ho : o.op = .alloc 23)
    (h : ∀ w' g, Hid (Kn b0 w0 w' (L ++ [(g, 23, blA ⟨0, 0⟩)]) R) → wpList Try.prog ops Q rest (a.put o.dst (.pointer (some ⟨g, 0, none⟩))) w') : wpList Try.prog ops Q (o :: rest) a w :=
  wpList_plain hgd fun _ hK => lkwp_made info_blz HK ho fun w' g h1 _ => hK _ _ (h w' g h1)
theorem step_abl (HK : Hid (Kn b0 w0 w L R)) (hgd : o.guard = none) (ho : o.op = .alloc 23)
    (h : ∀ w' g, Hid (Kn b0 w0 w' (L ++ [(g, 23, blA ⟨0, 0⟩)]) R) → Hid (Below w.heap.size w w') → K (a.put o.dst (.pointer (some ⟨g, 0, none⟩))) w') : if Region.wanted o (yielded ops a.tmps) = true then Oper.wp Try.prog o a w K Q else E := by
  rw [if_pos (by simp [Region.wanted, hgd])]
  exact lkwp_made info_blz HK ho h
theorem wpList_avo (HK : Hid (Kn b0 w0 w L R)) (hgd : o.guard = none) (ho : o.op = .alloc 29)
    (h : ∀ w' g, Hid (Kn b0 w0 w' (L ++ [(g, 29, voA zvo)]) R) → wpList Try.prog ops Q rest (a.put o.dst (.pointer (some ⟨g, 0, none⟩))) w') : wpList Try.prog ops Q (o :: rest) a w :=
  wpList_plain hgd fun _ hK => lkwp_made info_voz HK ho fun w' g h1 _ => hK _ _ (h w' g h1)
theorem step_avo (HK : Hid (Kn b0 w0 w L R)) (hgd : o.guard = none) (ho : o.op = .alloc 29)
    (h : ∀ w' g, Hid (Kn b0 w0 w' (L ++ [(g, 29, voA zvo)]) R) → Hid (Below w.heap.size w w') → K (a.put o.dst (.pointer (some ⟨g, 0, none⟩))) w') : if Region.wanted o (yielded ops a.tmps) = true then Oper.wp Try.prog o a w K Q else E := by
  rw [if_pos (by simp [Region.wanted, hgd])]
  exact lkwp_made info_voz HK ho h
theorem kwp_sbl (HK : Hid (Kn b0 w0 w L R)) (i : Nat) (e1 e2 : Operand) (ho : o.op = .store 23 e1 e2) (hL : L[i]? = some (g, 23, blA b)) (hx : a.eval e1 = .pointer (some ⟨g, 0, none⟩)) (hy : a.eval e2 = .agg #[.int .i64 c.r, .int .i64 c.s])
    (h : ∀ w', Hid (Kn b0 w0 w' (L.set i (g, 23, blA c)) R) → K (a.put o.dst undef) w') : o.wp Try.prog a w K Q :=
  kwp_ss HK _ e1 e2 ho i hL hx hy (by show 2 ≤ 2; decide) info_bl (by simp [Value.oneCell']) fun w' h1 _ => h w' (by
    have e : putCells (blA b) 0 (#[Value.int .i64 c.r, .int .i64 c.s] : Array Value).toList = blA c := by
      show putCells (blA b) 0 (blA c).toList = blA c
      rw [putCells_all (vs := (blA c).toList) (cs := blA b) rfl, Array.toArray_toList]
    rw [e] at h1
    exact h1)
theorem wpList_sbl (HK : Hid (Kn b0 w0 w L R)) (i : Nat) (hgd : o.guard = none) (e1 e2 : Operand) (ho : o.op = .store 23 e1 e2) (hL : L[i]? = some (g, 23, blA b)) (hx : a.eval e1 = .pointer (some ⟨g, 0, none⟩)) (hy : a.eval e2 = .agg #[.int .i64 c.r, .int .i64 c.s])
    (h : ∀ w', Hid (Kn b0 w0 w' (L.set i (g, 23, blA c)) R) → wpList Try.prog ops Q rest (a.put o.dst undef) w') : wpList Try.prog ops Q (o :: rest) a w :=
  wpList_plain hgd fun _ hK => kwp_sbl HK i e1 e2 ho hL hx hy fun w' h1 => hK _ _ (h w' h1)
theorem step_sbl (HK : Hid (Kn b0 w0 w L R)) (i : Nat) (hgd : o.guard = none) (e1 e2 : Operand) (ho : o.op = .store 23 e1 e2) (hL : L[i]? = some (g, 23, blA b)) (hx : a.eval e1 = .pointer (some ⟨g, 0, none⟩)) (hy : a.eval e2 = .agg #[.int .i64 c.r, .int .i64 c.s])
    (h : ∀ w', Hid (Kn b0 w0 w' (L.set i (g, 23, blA c)) R) → K (a.put o.dst undef) w') : if Region.wanted o (yielded ops a.tmps) = true then Oper.wp Try.prog o a w K Q else E := by
  rw [if_pos (by simp [Region.wanted, hgd])]
  exact kwp_sbl HK i e1 e2 ho hL hx hy h
theorem kwp_svo (HK : Hid (Kn b0 w0 w L R)) (i : Nat) (e1 e2 : Operand) (ho : o.op = .store 29 e1 e2) (hL : L[i]? = some (g, 29, voA x)) (hx : a.eval e1 = .pointer (some ⟨g, 0, none⟩)) (hy : a.eval e2 = .agg #[.int .i64 y.p.r, .int .i64 y.p.s, .int .i64 y.a.r, .int .i64 y.a.s, .string y.v])
    (h : ∀ w', Hid (Kn b0 w0 w' (L.set i (g, 29, voA y)) R) → K (a.put o.dst undef) w') : o.wp Try.prog a w K Q :=
  kwp_ss HK _ e1 e2 ho i hL hx hy (by show 5 ≤ 5; decide) info_vo (by simp [Value.oneCell']) fun w' h1 _ => h w' (by
    have e : putCells (voA x) 0 (#[Value.int .i64 y.p.r, .int .i64 y.p.s, .int .i64 y.a.r, .int .i64 y.a.s, .string y.v] : Array Value).toList = voA y := by
      show putCells (voA x) 0 (voA y).toList = voA y
      rw [putCells_all (vs := (voA y).toList) (cs := voA x) rfl, Array.toArray_toList]
    rw [e] at h1
    exact h1)
theorem wpList_svo (HK : Hid (Kn b0 w0 w L R)) (i : Nat) (hgd : o.guard = none) (e1 e2 : Operand) (ho : o.op = .store 29 e1 e2) (hL : L[i]? = some (g, 29, voA x)) (hx : a.eval e1 = .pointer (some ⟨g, 0, none⟩)) (hy : a.eval e2 = .agg #[.int .i64 y.p.r, .int .i64 y.p.s, .int .i64 y.a.r, .int .i64 y.a.s, .string y.v])
    (h : ∀ w', Hid (Kn b0 w0 w' (L.set i (g, 29, voA y)) R) → wpList Try.prog ops Q rest (a.put o.dst undef) w') : wpList Try.prog ops Q (o :: rest) a w :=
  wpList_plain hgd fun _ hK => kwp_svo HK i e1 e2 ho hL hx hy fun w' h1 => hK _ _ (h w' h1)
theorem step_svo (HK : Hid (Kn b0 w0 w L R)) (i : Nat) (hgd : o.guard = none) (e1 e2 : Operand) (ho : o.op = .store 29 e1 e2) (hL : L[i]? = some (g, 29, voA x)) (hx : a.eval e1 = .pointer (some ⟨g, 0, none⟩)) (hy : a.eval e2 = .agg #[.int .i64 y.p.r, .int .i64 y.p.s, .int .i64 y.a.r, .int .i64 y.a.s, .string y.v])
    (h : ∀ w', Hid (Kn b0 w0 w' (L.set i (g, 29, voA y)) R) → K (a.put o.dst undef) w') : if Region.wanted o (yielded ops a.tmps) = true then Oper.wp Try.prog o a w K Q else E := by
  rw [if_pos (by simp [Region.wanted, hgd])]
  exact kwp_svo HK i e1 e2 ho hL hx hy h
theorem wpList_svp (HK : Hid (Kn b0 w0 w L R)) (i : Nat) (hgd : o.guard = none) (e1 e2 : Operand) (ho : o.op = .store 23 e1 e2) (hL : L[i]? = some (g, 29, voA x)) (hx : a.eval e1 = .pointer (some ⟨g, 0, none⟩)) (hy : a.eval e2 = .agg #[.int .i64 c.r, .int .i64 c.s])
    (h : ∀ w', Hid (Kn b0 w0 w' (L.set i (g, 29, voA ⟨c, x.a, x.v⟩)) R) → wpList Try.prog ops Q rest (a.put o.dst undef) w') : wpList Try.prog ops Q (o :: rest) a w :=
  wpList_plain hgd fun _ hK => kwp_ss HK _ e1 e2 ho i hL hx hy (by show 2 ≤ 5; decide) info_bl (by simp [Value.oneCell']) fun w' h1 _ => hK _ _ (h w' h1)
theorem kb_b (HK : Hid (Kn b0 w0 w L R)) (i : Nat) (e : Operand) (ho : o.op = .load 23 e) (hL : L[i]? = some (g, 23, blA b)) (hx : a.eval e = .pointer (some ⟨g, 0, none⟩)) :
    (execOp a.eval o).run Try.prog w = .ok (.value (.agg #[.int .i64 b.r, .int .i64 b.s])) w :=
  kexec_ls HK _ e ho i hL hx (blA b) (fun j _ => by rw [Nat.zero_add]) Try.underlying23 info_bl
theorem kb_r (HK : Hid (Kn b0 w0 w L R)) (i : Nat) (e : Operand) (ho : o.op = .load 3 e) (hL : L[i]? = some (g, 23, blA b)) (hx : a.eval e = .pointer (some ⟨g, 0, none⟩)) :
    (execOp a.eval o).run Try.prog w = .ok (.value (.int .i64 b.r)) w :=
  kexec_lc HK 3 e ho i hL hx (v := .int .i64 b.r) rfl Try.underlying3 rfl
theorem kb_s (HK : Hid (Kn b0 w0 w L R)) (i : Nat) (e : Operand) (ho : o.op = .load 3 e) (hL : L[i]? = some (g, 23, blA b)) (hx : a.eval e = .pointer (some ⟨g, 1, none⟩)) :
    (execOp a.eval o).run Try.prog w = .ok (.value (.int .i64 b.s)) w :=
  kexec_lc HK 3 e ho i hL hx (v := .int .i64 b.s) rfl Try.underlying3 rfl
theorem kv_v (HK : Hid (Kn b0 w0 w L R)) (i : Nat) (e : Operand) (ho : o.op = .load 29 e) (hL : L[i]? = some (g, 29, voA x)) (hx : a.eval e = .pointer (some ⟨g, 0, none⟩)) :
    (execOp a.eval o).run Try.prog w = .ok (.value (.agg #[.int .i64 x.p.r, .int .i64 x.p.s, .int .i64 x.a.r, .int .i64 x.a.s, .string x.v])) w :=
  kexec_ls HK _ e ho i hL hx (voA x) (fun j _ => by rw [Nat.zero_add]) Try.underlying29 info_vo
theorem kv_p (HK : Hid (Kn b0 w0 w L R)) (i : Nat) (e : Operand) (ho : o.op = .load 23 e) (hL : L[i]? = some (g, 29, voA x)) (hx : a.eval e = .pointer (some ⟨g, 0, none⟩)) :
    (execOp a.eval o).run Try.prog w = .ok (.value (.agg #[.int .i64 x.p.r, .int .i64 x.p.s])) w :=
  kexec_ls HK _ e ho i hL hx #[.int .i64 x.p.r, .int .i64 x.p.s] (fun j hj => by
    match j, hj with
    | 0, _ => rfl
    | 1, _ => rfl) Try.underlying23 info_bl
theorem kv_a (HK : Hid (Kn b0 w0 w L R)) (i : Nat) (e : Operand) (ho : o.op = .load 23 e) (hL : L[i]? = some (g, 29, voA x)) (hx : a.eval e = .pointer (some ⟨g, 2, none⟩)) :
    (execOp a.eval o).run Try.prog w = .ok (.value (.agg #[.int .i64 x.a.r, .int .i64 x.a.s])) w :=
  kexec_ls HK _ e ho i hL hx #[.int .i64 x.a.r, .int .i64 x.a.s] (fun j hj => by
    match j, hj with
    | 0, _ => rfl
    | 1, _ => rfl) Try.underlying23 info_bl
theorem kv_s (HK : Hid (Kn b0 w0 w L R)) (i : Nat) (e : Operand) (ho : o.op = .load 9 e) (hL : L[i]? = some (g, 29, voA x)) (hx : a.eval e = .pointer (some ⟨g, 4, none⟩)) :
    (execOp a.eval o).run Try.prog w = .ok (.value (.string x.v)) w :=
  kexec_lc HK 9 e ho i hL hx (v := .string x.v) rfl Try.underlying9 rfl
end
/-- Told: a vote and whether. -/
def IsVB (x : Bvo) (b : Bool) (w : World) (e : Ending) (w' : World) : Prop := e = .returned (.tuple #[.agg #[.int .i64 x.p.r, .int .i64 x.p.s, .int .i64 x.a.r, .int .i64 x.a.s, .string x.v], .bool b]) ∧ Below w.heap.size w w'
def IsIB (x : Int) (w : World) (e : Ending) (w' : World) : Prop := e = .returned (.int .i64 x) ∧ Below w.heap.size w w'
def IsSB (s : ByteArray) (b : Bool) (w : World) (e : Ending) (w' : World) : Prop := e = .returned (.tuple #[.string s, .bool b]) ∧ Below w.heap.size w w'
theorem ret_vb {fn : Func} {R : Ending → World → Prop} {a : Act} {w : World} {B : Nat} {x : Bvo} {u : Value} {q q2 : Tmp} (hf : fn.results = #[.cell q 29, .tmp q2]) (h2 : a.tmps[q]? = some (.pointer (some ⟨B, 0, none⟩))) (h3 : a.tmps[q2]? = some u) (hd : a.defers = []) (hb : Blk w B 29 (voA x))
    (hR : R (.returned (.tuple #[.agg #[.int .i64 x.p.r, .int .i64 x.p.s, .int .i64 x.a.r, .int .i64 x.a.s, .string x.v], u])) w) : bodyPost Try.prog fn R Exit.ret a w := by
  refine bodyPost_ret (v := .tuple #[.agg #[.int .i64 x.p.r, .int .i64 x.p.s, .int .i64 x.a.r, .int .i64 x.a.s, .string x.v], u]) ?_ hd hR
  have h : (loadVar 29 ⟨B, 0, none⟩).run Try.prog w = .ok (.agg (voA x)) w := run_loadVar_row (P := Try.prog) w B _ _ _ (0, 0) _ hb Try.underlying29 rfl info_vo
  unfold voA at h
  simp [results, hf, asAddr, Sem.run_bind, h2, h3, h]
end Go.Proofs.Ytfganmbjaglmiaa
