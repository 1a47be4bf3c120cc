/-
  Operations on numbers, values and cells, each by its result; ways out.
  No condition but those named.
-/
import Derived.Test.YtbcdmmhbmjjooaaVlLay
import Derived.Test.YtbcdmmhbmjjooaaExn
import Derived.Deep.RegionWith
import Derived.Deep.RegionHeld3
import Derived.Deep.Draws
import Derived.Lib.Hide
set_option linter.unusedSimpArgs false
set_option linter.unusedVariables false
namespace Go.Proofs.Ytbcdmmhbmjjooaa
open Go.RowKit

section
variable {w : World} {ops : Array Oper} {rest : List Oper} {o : Oper} {a : Act} {Q : Exit → Act → World → Prop}
theorem veq_all (v u : Val.V) : decide (v = u) = (decide (v.k = u.k) && decide (v.n = u.n) && decide ((v.f : Int) = (u.f : Int)) && decide (v.s.toList = u.s.toList)) := by
  obtain ⟨k, n, f, s⟩ := v
  obtain ⟨k', n', f', s'⟩ := u
  have e : (⟨k, n, f, s⟩ : Val.V) = ⟨k', n', f', s'⟩ ↔ (k = k' ∧ n = n' ∧ f = f' ∧ s = s') := by simp
  show decide ((⟨k, n, f, s⟩ : Val.V) = ⟨k', n', f', s'⟩) = (decide (k = k') && decide (n = n') && decide ((f : Int) = (f' : Int)) && decide (s.toList = s'.toList))
  have e2 : ((f : Int) = (f' : Int)) ↔ f = f' := by omega
  have e4 : s.toList = s'.toList ↔ s = s' := Val.str_iff.symm
  by_cases h : (⟨k, n, f, s⟩ : Val.V) = ⟨k', n', f', s'⟩
  · obtain ⟨rfl, rfl, rfl, rfl⟩ := e.1 h
    simp
  · have h' := fun hh => h (e.2 hh)
    rw [decide_eq_false h]
    by_cases h1 : k = k'
    · by_cases h2 : n = n'
      · by_cases h3 : f = f'
        · have h4 : ¬ s = s' := fun h4 => h' ⟨h1, h2, h3, h4⟩
          rw [decide_eq_false (fun e5 => h4 (e4.1 e5))]; simp
        · rw [decide_eq_false (p := (f : Int) = (f' : Int)) (fun e5 => h3 (e2.1 e5))]; simp
      · rw [decide_eq_false h2]; simp
    · rw [decide_eq_false h1]; simp
theorem exec_veq {v u : Val.V} {b : Bool} (p q : Operand) (ho : o.op = .binOp .eql 25 p q 25) (hx : a.eval p = .agg #[.int .i64 v.k, .int .i64 v.n, .int .u64 (v.f : Int), .string v.s]) (hy : a.eval q = .agg #[.int .i64 u.k, .int .i64 u.n, .int .u64 (u.f : Int), .string u.s]) (hb : decide (v = u) = b) :
    (execOp a.eval o).run Try.prog w = .ok (.value (.bool b)) w := by
  rw [veq_all] at hb
  subst hb
  unfold execOp
  simp only [ho, hx, hy]
  go_simp
  by_cases h1 : v.k = u.k <;> by_cases h2 : v.n = u.n <;> by_cases h3 : (v.f : Int) = (u.f : Int) <;> by_cases h4 : v.s.toList = u.s.toList <;> simp [h1, h2, h3, h4]
theorem exec_vne {v u : Val.V} {b : Bool} (p q : Operand) (ho : o.op = .binOp .neq 25 p q 25) (hx : a.eval p = .agg #[.int .i64 v.k, .int .i64 v.n, .int .u64 (v.f : Int), .string v.s]) (hy : a.eval q = .agg #[.int .i64 u.k, .int .i64 u.n, .int .u64 (u.f : Int), .string u.s]) (hb : (!decide (v = u)) = b) :
    (execOp a.eval o).run Try.prog w = .ok (.value (.bool b)) w := by
  rw [veq_all] at hb
  subst hb
  unfold execOp
  simp only [ho, hx, hy]
  go_simp
  by_cases h1 : v.k = u.k <;> by_cases h2 : v.n = u.n <;> by_cases h3 : (v.f : Int) = (u.f : Int) <;> by_cases h4 : v.s.toList = u.s.toList <;> simp [h1, h2, h3, h4]
end
/-- Ways out. -/
theorem ret_ve {fn : Func} {R : Ending → World → Prop} {a : Act} {w : World} {B : Nat} {k n : Int} {f : Nat} {s : ByteArray} {u : Value} {q q2 : Tmp} (hf : fn.results = #[.cell q 25, .tmp q2]) (h2 : a.tmps[q]? = some (.pointer (some ⟨B, 0, none⟩))) (h3 : a.tmps[q2]? = some u) (hd : a.defers = []) (hb : Blk w B 25 (vC k n f s))
    (hR : R (.returned (.tuple #[.agg #[.int .i64 k, .int .i64 n, .int .u64 (f : Int), .string s], u])) w) : bodyPost Try.prog fn R Exit.ret a w := by
  refine bodyPost_ret (v := .tuple #[.agg #[.int .i64 k, .int .i64 n, .int .u64 (f : Int), .string s], u]) ?_ hd hR
  have h : (loadVar 25 ⟨B, 0, none⟩).run Try.prog w = .ok (.agg (vC k n f s)) w := run_loadVar_row (P := Try.prog) w B _ _ _ (0, 0) _ hb Try.underlying25 rfl info_v4
  unfold vC at h
  simp [results, hf, asAddr, Sem.run_bind, h2, h3, h]
theorem ret_pve {fn : Func} {R : Ending → World → Prop} {a : Act} {w : World} {B : Nat} {k n : Int} {f : Nat} {s : ByteArray} {u z : Value} {q q2 q3 : Tmp} (hf : fn.results = #[.tmp q2, .cell q 25, .tmp q3]) (h2 : a.tmps[q]? = some (.pointer (some ⟨B, 0, none⟩))) (h3 : a.tmps[q2]? = some u) (h4 : a.tmps[q3]? = some z) (hd : a.defers = []) (hb : Blk w B 25 (vC k n f s))
    (hR : R (.returned (.tuple #[u, .agg #[.int .i64 k, .int .i64 n, .int .u64 (f : Int), .string s], z])) w) : bodyPost Try.prog fn R Exit.ret a w := by
  refine bodyPost_ret (v := .tuple #[u, .agg #[.int .i64 k, .int .i64 n, .int .u64 (f : Int), .string s], z]) ?_ hd hR
  have h : (loadVar 25 ⟨B, 0, none⟩).run Try.prog w = .ok (.agg (vC k n f s)) w := run_loadVar_row (P := Try.prog) w B _ _ _ (0, 0) _ hb Try.underlying25 rfl info_v4
  unfold vC at h
  simp [results, hf, asAddr, Sem.run_bind, h2, h3, h4, h]
theorem step_sv {b0 : Nat} {w0 w : World} {L : List (Nat × TypeId × Array Value)} {R : List RowE} {ops : Array Oper} {o : Oper} {a : Act} {Q : Exit → Act → World → Prop} {K : Act → World → Prop} {E : Prop} {g : Nat} {k n k2 n2 : Int} {f f2 : Nat} {s s2 : ByteArray} (HK : Hid (Kn b0 w0 w L R)) (i : Nat) (hgd : o.guard = none) (p q : Operand) (ho : o.op = .store 25 p q) (hL : L[i]? = some (g, 25, vC k n f s)) (hx : a.eval p = .pointer (some ⟨g, 0, none⟩)) (hy : a.eval q = .agg #[.int .i64 k2, .int .i64 n2, .int .u64 (f2 : Int), .string s2])
    (h : ∀ w', Hid (Kn b0 w0 w' (L.set i (g, 25, vC k2 n2 f2 s2)) R) → K (a.put o.dst undef) w') : if Region.wanted o (yielded ops a.tmps) = true then Oper.wp Try.prog o a w K Q else E :=
  step_ss HK i hgd _ p q ho hL hx hy (by show 4 ≤ 4; decide) info_v4 (by simp [Value.oneCell']) fun w' h1 _ => h w' (by
    have e : putCells (vC k n f s) 0 (#[Value.int .i64 k2, .int .i64 n2, .int .u64 (f2 : Int), .string s2] : Array Value).toList = vC k2 n2 f2 s2 := by
      show putCells (vC k n f s) 0 (vC k2 n2 f2 s2).toList = vC k2 n2 f2 s2
      rw [putCells_all (vs := (vC k2 n2 f2 s2).toList) (cs := vC k n f s) rfl, Array.toArray_toList]
    rw [e] at h1
    exact h1)
end Go.Proofs.Ytbcdmmhbmjjooaa
