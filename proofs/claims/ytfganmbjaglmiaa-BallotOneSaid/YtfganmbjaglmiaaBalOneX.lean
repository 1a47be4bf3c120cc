/-
  Operations that the law BallotOne has besides: numbers, bytes, made votes, flags stored.
  No condition but those named.
-/
import Derived.Test.YtfganmbjaglmiaaBalBegin
import Derived.Laws.IdiomStrings
set_option linter.unusedSimpArgs false
set_option linter.unusedVariables false
set_option maxRecDepth 100000
namespace Go.Proofs.Ytfganmbjaglmiaa
open Go.ChangeShapes Go.WideShapes Go.Deep Go.RowKit

section
variable {b0 : Nat} {w0 w : World} {L : List (Nat × TypeId × Array Value)} {R : List RowE} {ops : Array Oper} {rest : List Oper} {o : Oper} {a : Act} {Q : Exit → Act → World → Prop} {K : Act → World → Prop} {E : Prop} {g : Nat}
theorem exec_rem7 {x : Nat} (p : Operand) (ho : o.op = .binOp .rem 5 p (.const (.int .u8 7)) 5) (hp : a.eval p = .int .u8 (x : Int)) :
    (execOp a.eval o).run Try.prog w = .ok (.value (.int .u8 ((x % 7 : Nat) : Int))) w := by
  have he : a.eval (.const (.int .u8 7)) = .int .u8 7 := rfl
  have h2 : (x : Int).tmod 7 = ((x % 7 : Nat) : Int) := rfl
  have h3 : x % 7 < 7 := Nat.mod_lt _ (by decide)
  have h4 : IntKind.u8.wrap ((x % 7 : Nat) : Int) = ((x % 7 : Nat) : Int) := by rw [IntKind.wrap_u8]; omega
  unfold execOp
  simp only [ho, hp, he]
  go_simp
theorem exec_u8i {x : Nat} (p : Operand) (ho : o.op = .convert 5 3 p) (hp : a.eval p = .int .u8 (x : Int)) (h : x < 256) :
    (execOp a.eval o).run Try.prog w = .ok (.value (.int .i64 (x : Int))) w := by
  have h1 : IntKind.i64.wrap (x : Int) = (x : Int) := by rw [IntKind.wrap_i64]; omega
  unfold execOp
  simp only [ho, hp]
  go_simp
theorem exec_1add {x n : Nat} (q : Operand) (ho : o.op = .binOp .add 3 (.const (.int .i64 1)) q 3) (hp : a.eval q = .int .i64 (x : Int)) (h : x < 256) (hn : 1 + x = n) :
    (execOp a.eval o).run Try.prog w = .ok (.value (.int .i64 (n : Int))) w := by
  subst hn
  have he : a.eval (.const (.int .i64 1)) = .int .i64 1 := rfl
  have h1 : IntKind.i64.wrap (1 + (x : Int)) = ((1 + x : Nat) : Int) := by rw [IntKind.wrap_i64]; omega
  unfold execOp
  simp only [ho, hp, he]
  go_simp
theorem exec_urj {u n j : Nat} (p q : Operand) (ho : o.op = .binOp .rem 48 p q 48) (hp : a.eval p = .int .u64 (u : Int)) (hq : a.eval q = .int .u64 (n : Int)) (h0 : 0 < n) (hn : n < 18446744073709551616) (hj : u % n = j) :
    (execOp a.eval o).run Try.prog w = .ok (.value (.int .u64 (j : Int))) w := by
  subst hj
  exact exec_urem p q ho hp hq h0 hn
theorem exec_sneb {x y : ByteArray} {b : Bool} (p q : Operand) (ho : o.op = .binOp .neq 9 p q 9) (hx : a.eval p = .string x) (hy : a.eval q = .string y) (hb : (!decide (x = y)) = b) :
    (execOp a.eval o).run Try.prog w = .ok (.value (.bool b)) w := by
  have hxy : x = y ↔ x.toList = y.toList := ⟨fun h => by rw [h], fun h => by
    rw [ByteArray.toList_eq, ByteArray.toList_eq] at h
    have := Array.toList_inj.1 h
    cases x; cases y; simp_all⟩
  have he : (!(x.toList == y.toList)) = b := by rw [← hb]; by_cases h : x = y <;> simp [h, hxy.symm]
  unfold execOp
  simp only [ho, hx, hy]
  go_simp
theorem exec_ieqb {x k : Int} {b : Bool} (p : Operand) (ho : o.op = .binOp .eql 3 p (.const (.int .i64 k)) 3) (hp : a.eval p = .int .i64 x) (hb : decide (x = k) = b) :
    (execOp a.eval o).run Try.prog w = .ok (.value (.bool b)) w := by
  have he : a.eval (.const (.int .i64 k)) = .int .i64 k := rfl
  have h2 : (x == k) = b := by rw [← hb]; by_cases h : x = k <;> simp [h]
  unfold execOp
  simp only [ho, hp, he]
  go_simp
/-- Votes made. -/
theorem made_vo (n : Nat) (hn : n ≤ 7) : madeCells (Value.cells (.agg (voA zvo))) (n * 5) = (voLay.flat (List.replicate n zvo)).toArray := by
  have h : n = 0 ∨ n = 1 ∨ n = 2 ∨ n = 3 ∨ n = 4 ∨ n = 5 ∨ n = 6 ∨ n = 7 := by omega
  apply Array.ext'
  simp only [madeCells, Value.cells, Array.toList_map, Array.toList_range]
  rcases h with rfl | rfl | rfl | rfl | rfl | rfl | rfl | rfl <;> rfl
theorem wpList_mnv (HK : Hid (Kn b0 w0 w L R)) (hgd : o.guard = none) (x : Operand) {n : Nat} (ho : o.op = .makeSlice 39 x x) (hx : a.eval x = .int .i64 (n : Int)) (hn : n ≤ 7)
    (h : ∀ w' g, Hid (Kn b0 w0 w' L (R ++ [row voLay (.slice (some ⟨g, 0, none⟩) n n) (List.replicate n zvo)])) → wpList Try.prog ops Q rest (a.put o.dst (.slice (some ⟨g, 0, none⟩) n n)) w') : wpList Try.prog ops Q (o :: rest) a w :=
  wpList_plain hgd fun _ hK => by
    obtain ⟨i0, hi, hz0, hz1, hz2⟩ := info_parts info_voz
    have hm := run_make (P := Try.prog) w 39 29 i0 (.agg (voA zvo)) Try.underlying39 hi hz0 .i64 .i64 (n : Int) (n : Int) (by omega) (by omega) (by rw [hz2]; omega) (by omega)
    have e : madeCells (Value.cells (.agg (voA zvo))) (((n : Nat) : Int).toNat * i0.size) = (voLay.flat (List.replicate n zvo)).toArray := by
      rw [hz1]; exact made_vo n hn
    rw [e] at hm
    have h4 := h _ w.heap.size (Lib.hid (HK.out.mkS voLay (List.replicate n zvo) n (by simp) (by omega)))
    unfold Oper.wp execOp
    simp only [ho, hx, Sem.run_bind, Sem.run_pure, Result.andThen_ok, hm]
    exact hK _ _ h4
theorem step_ptb (HK : Hid (Kn b0 w0 w L R)) (j : Nat) (hgd : o.guard = none) (x y : Operand) (ho : o.op = .store 4 x y) {g n c : Nat} {l : List Bool} (hR : R[j]? = some (row bLay (.slice (some ⟨g, 0, none⟩) n c) l)) (i : Nat) (hi : i < l.length)
    (hx : a.eval x = .pointer (some ⟨g, i, none⟩)) (p : Bool) (hy : a.eval y = .bool p)
    (h : ∀ w', Hid (Kn b0 w0 w' L (R.set j (row bLay (.slice (some ⟨g, 0, none⟩) n c) (l.set i p)))) → K (a.put o.dst undef) w') : if Region.wanted o (yielded ops a.tmps) = true then Oper.wp Try.prog o a w K Q else E := by
  rw [if_pos (by simp [Region.wanted, hgd])]
  exact kwp_ptb HK j x y ho hR i hi hx p hy h
theorem exec_iub {x : Int} {c : UInt8} (p : Operand) (ho : o.op = .convert 3 5 p) (hp : a.eval p = .int .i64 x) (h : IntKind.u8.wrap x = (c.toNat : Int)) :
    (execOp a.eval o).run Try.prog w = .ok (.value (.int .u8 (c.toNat : Int))) w := by
  unfold execOp
  simp only [ho, hp]
  go_simp
/-- A slice of three bytes, and the text of it. -/
theorem step_by3 (HK : Hid (Kn b0 w0 w L R)) (hgd : o.guard = none) (p q r : Operand) (ho : o.op = .buildSlice 52 3 #[(0, p), (1, q), (2, r)]) {c1 c2 c3 : UInt8} (hp : a.eval p = .int .u8 (c1.toNat : Int)) (hq : a.eval q = .int .u8 (c2.toNat : Int)) (hr : a.eval r = .int .u8 (c3.toNat : Int))
    (h : ∀ w' g, Hid (Kn b0 w0 w' L R) → Hid ((convert 52 9 (.slice (some ⟨g, 0, none⟩) 3 3)).run Try.prog w' = .ok (.string ⟨#[c1, c2, c3]⟩) w') → K (a.put o.dst (.slice (some ⟨g, 0, none⟩) 3 3)) w') : if Region.wanted o (yielded ops a.tmps) = true then Oper.wp Try.prog o a w K Q else E := by
  rw [if_pos (by simp [Region.wanted, hgd])]
  have hcv : (convert 52 9 (.slice (some ⟨w.heap.size, 0, none⟩) 3 3)).run Try.prog (w.alloc (.cells #[.int .u8 (c1.toNat : Int), .int .u8 (c2.toNat : Int), .int .u8 (c3.toNat : Int)] 5)) = .ok (.string ⟨#[c1, c2, c3]⟩) (w.alloc (.cells #[.int .u8 (c1.toNat : Int), .int .u8 (c2.toNat : Int), .int .u8 (c3.toNat : Int)] 5)) :=
    run_convert_bytes_back (P := Try.prog) (w.alloc (.cells #[.int .u8 (c1.toNat : Int), .int .u8 (c2.toNat : Int), .int .u8 (c3.toNat : Int)] 5)) 52 9 5 ⟨w.heap.size, 0, none⟩ 3 [c1, c2, c3] Try.underlying52 Try.underlying5 Try.underlying9 (fun j hj => by
      have hj3 : j < 3 := hj
      match j, hj3 with
      | 0, _ => show (w.alloc _).cell? ⟨w.heap.size, 0, none⟩ = _; rw [World.cell?_alloc_new]; rfl
      | 1, _ => show (w.alloc _).cell? ⟨w.heap.size, 1, none⟩ = _; rw [World.cell?_alloc_new]; rfl
      | 2, _ => show (w.alloc _).cell? ⟨w.heap.size, 2, none⟩ = _; rw [World.cell?_alloc_new]; rfl)
  have h4 := h _ w.heap.size (Lib.hid (HK.out.allocO (.cells #[.int .u8 (c1.toNat : Int), .int .u8 (c2.toNat : Int), .int .u8 (c3.toNat : Int)] 5))) (Lib.hid hcv)
  unfold Oper.wp execOp
  simp only [ho, List.map_toArray, List.map_cons, List.map_nil, hp, hq, hr]
  go_simp
  exact h4
theorem exec_txtb {v : Value} {t : ByteArray} (p : Operand) (ho : o.op = .convert 52 9 p) (hp : a.eval p = v) (h : Hid ((convert 52 9 v).run Try.prog w = .ok (.string t) w)) :
    (execOp a.eval o).run Try.prog w = .ok (.value (.string t)) w := by
  unfold execOp
  simp only [ho, hp, Sem.run_bind, Sem.run_pure, Result.andThen_ok, h.out]
/-- A try's cells, as they stand. -/
theorem Kn.trc (h : Kn b0 w0 w L R) {j N g n c : Nat} {l : List Trh} (hR : R[j]? = some (row (trLay N) (.slice (some ⟨g, 0, none⟩) n c) l)) {i : Nat} {x : Trh} (hx : l[i]? = some x) (q : Nat) {v : Value} (hv : (trC N x)[q]? = some v) : w.cell? ⟨g, i * 7 + q, none⟩ = some v := h.atR0 hR hx q v hv
theorem Kn.boc (h : Kn b0 w0 w L R) {j g n c : Nat} {l : List Bool} (hR : R[j]? = some (row bLay (.slice (some ⟨g, 0, none⟩) n c) l)) {i : Nat} {x : Bool} (hx : l[i]? = some x) : w.cell? ⟨g, i, none⟩ = some (.bool x) := by
  have h1 := h.atR0 hR hx 0 _ rfl
  have e1 : i * bLay.k + 0 = i := by show i * 1 + 0 = i; omega
  rw [e1] at h1
  exact h1
end
theorem u8_of (x : Int) : ∃ c : UInt8, IntKind.u8.wrap x = (c.toNat : Int) := by
  refine ⟨UInt8.ofNat (IntKind.u8.wrap x).toNat, ?_⟩
  rw [UInt8.toNat_ofNat', IntKind.wrap_u8]
  omega
theorem Sls.mat {Fm : Mov → Prop} {w : World} {A : Option Addr} {n c : Nat} {l : List Mov} (h : Sls mvLay Fm w A n c l) (hn : 0 < n) : ∃ b o, A = some ⟨b, o, Option.none⟩ ∧
    ∀ W, Below w.heap.size w W → ∀ (i : Nat) x, l[i]? = some x → ∀ j v, (mvLay.f x)[j]? = some v → W.cell? ⟨b, o + i * 5 + j, Option.none⟩ = some v := h.at hn
end Go.Proofs.Ytfganmbjaglmiaa
