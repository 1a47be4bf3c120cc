/-
  How tries and moves lie: rows of tries, the rows that a try has, loads and stores of a try's fields; moves in a slice; remainders.
  No condition but those named.
-/
import Derived.Test.YtfganmbjaglmiaaBalPm
import Derived.Test.YtfganmbjaglmiaaStoPutF
import Derived.Test.YtfganmbjaglmiaaKnPerm
import Derived.OpenShut
set_option linter.unusedSimpArgs false
set_option linter.unusedVariables false
set_option maxRecDepth 100000
namespace Go.Proofs.Ytfganmbjaglmiaa
open Go.ChangeShapes Go.WideShapes Go.Deep Go.RowKit

/-- A try, and where its lists lie. -/
structure Trh where
  t : Btr
  g1 : Nat
  g2 : Nat
  A : Option Addr
  k : Nat
  c : Nat
/-- A move. -/
structure Mov where
  k : Int
  t : Int
  v : Int
  r : Int
  s : Int
def trC (N : Nat) (x : Trh) : List Value := [.int .i64 x.t.b.r, .int .i64 x.t.b.s, .slice (some ⟨x.g1, 0, none⟩) N N, .slice x.A x.k x.c, .string x.t.v, .bool x.t.has, .slice (some ⟨x.g2, 0, none⟩) N N]
def mvC (m : Mov) : Array Value := #[.int .i64 m.k, .int .i64 m.t, .int .i64 m.v, .int .i64 m.r, .int .i64 m.s]
theorem info_trz : (Try.prog.info? 47).map (fun i => (i.zero, i.size, i.bytes)) = some (some (Value.agg #[.int .i64 0, .int .i64 0, .slice none 0 0, .slice none 0 0, .string ⟨#[]⟩, .bool false, .slice none 0 0]), 7, 112) := by kernel_rfl
theorem info_mvz : (Try.prog.info? 42).map (fun i => (i.zero, i.size, i.bytes)) = some (some (Value.agg (mvC ⟨0, 0, 0, 0, 0⟩)), 5, 40) := by kernel_rfl
theorem info_mv : (Try.prog.info? 42).map (·.size) = some 5 := by kernel_rfl
theorem info_pms : (Try.prog.info? 34).map (·.size) = some 1 := by kernel_rfl
theorem info_str1 : (Try.prog.info? 9).map (·.size) = some 1 := by kernel_rfl
theorem info_bool1 : (Try.prog.info? 4).map (·.size) = some 1 := by kernel_rfl
def trLay (N : Nat) : Lay Try.prog Trh where
  t := 40
  e := 47
  k := 7
  bytes := 112
  z := .agg #[.int .i64 0, .int .i64 0, .slice none 0 0, .slice none 0 0, .string ⟨#[]⟩, .bool false, .slice none 0 0]
  f := trC N
  len := fun _ => rfl
  one := fun x u hu => by
    unfold trC at hu
    simp only [List.mem_cons, List.not_mem_nil, or_false] at hu
    rcases hu with rfl | rfl | rfl | rfl | rfl | rfl | rfl <;> rfl
  und := Try.underlying40
  info := info_trz
  zs := rfl
  pos := by decide
  small := by decide
def mvLay : Lay Try.prog Mov where
  t := 38
  e := 42
  k := 5
  bytes := 40
  z := .agg (mvC ⟨0, 0, 0, 0, 0⟩)
  f := fun m => (mvC m).toList
  len := fun _ => rfl
  one := fun x u hu => by
    unfold mvC at hu
    simp only [List.mem_cons, List.not_mem_nil, or_false] at hu
    rcases hu with rfl | rfl | rfl | rfl | rfl <;> rfl
  und := Try.underlying38
  info := info_mvz
  zs := rfl
  pos := by decide
  small := by decide
/-- A try's own rows: who has said yes, who has accepted, the promises. -/
def rows3 (N : Nat) (x : Trh) : List RowE := [row bLay (.slice (some ⟨x.g1, 0, none⟩) N N) x.t.said, row bLay (.slice (some ⟨x.g2, 0, none⟩) N N) x.t.yes, row pmLay (.slice x.A x.k x.c) x.t.pm]
section
variable {b0 : Nat} {w0 w : World} {L : List (Nat × TypeId × Array Value)} {R : List RowE} {ops : Array Oper} {rest : List Oper} {o : Oper} {a : Act} {Q : Exit → Act → World → Prop} {K : Act → World → Prop} {E : Prop} {g : Nat}
/-- A slice of the call's own that begins a block: a place in it. -/
theorem exec_ixq {α : Type} (La : Lay Try.prog α) {b n c i : Nat} (x q : Operand) (ho : o.op = .indexAddr La.t x q) (hx : a.eval x = .slice (some ⟨b, 0, none⟩) n c) (hq : a.eval q = .int .i64 (i : Int)) (h : i < n) :
    (execOp a.eval o).run Try.prog w = .ok (.value (.pointer (some ⟨b, i * La.k, none⟩))) w := by
  have h1 := exec_slx (w := w) La x q ho hx hq h
  rw [Nat.zero_add] at h1
  exact h1
theorem exec_ixtr {N b n c i : Nat} (x q : Operand) (ho : o.op = .indexAddr 40 x q) (hx : a.eval x = .slice (some ⟨b, 0, none⟩) n c) (hq : a.eval q = .int .i64 (i : Int)) (h : i < n) :
    (execOp a.eval o).run Try.prog w = .ok (.value (.pointer (some ⟨b, i * 7, none⟩))) w := exec_ixq (w := w) (trLay N) x q ho hx hq h
theorem exec_ixvo {b n c i : Nat} (x q : Operand) (ho : o.op = .indexAddr 39 x q) (hx : a.eval x = .slice (some ⟨b, 0, none⟩) n c) (hq : a.eval q = .int .i64 (i : Int)) (h : i < n) :
    (execOp a.eval o).run Try.prog w = .ok (.value (.pointer (some ⟨b, i * 5, none⟩))) w := exec_ixq (w := w) voLay x q ho hx hq h
theorem exec_ixbo {b n c i : Nat} (x q : Operand) (ho : o.op = .indexAddr 45 x q) (hx : a.eval x = .slice (some ⟨b, 0, none⟩) n c) (hq : a.eval q = .int .i64 (i : Int)) (h : i < n) :
    (execOp a.eval o).run Try.prog w = .ok (.value (.pointer (some ⟨b, i, none⟩))) w := by
  have h1 := exec_ixq (w := w) bLay x q ho hx hq h
  have e : i * bLay.k = i := Nat.mul_one i
  rw [e] at h1
  exact h1
/-- A vote of a row of the call's own. -/
theorem exec_rvo (HK : Hid (Kn b0 w0 w L R)) (j : Nat) {g n c : Nat} {l : List Bvo} (hR : R[j]? = some (row voLay (.slice (some ⟨g, 0, none⟩) n c) l)) {i : Nat} {x : Bvo} (hx : l[i]? = some x) (e : Operand) (ho : o.op = .load 29 e) (hp : a.eval e = .pointer (some ⟨g, i * 5, none⟩)) :
    (execOp a.eval o).run Try.prog w = .ok (.value (.agg #[.int .i64 x.p.r, .int .i64 x.p.s, .int .i64 x.a.r, .int .i64 x.a.s, .string x.v])) w :=
  exec_slv (w := w) voLay e ho hp Try.underlying29 (fun q v hv => HK.out.atR0 hR hx q v hv)
/-- A try's ballot. -/
theorem exec_rtb (HK : Hid (Kn b0 w0 w L R)) (j : Nat) {N g n c : Nat} {l : List Trh} (hR : R[j]? = some (row (trLay N) (.slice (some ⟨g, 0, none⟩) n c) l)) {i : Nat} {x : Trh} (hx : l[i]? = some x) (e : Operand) (ho : o.op = .load 23 e) (hp : a.eval e = .pointer (some ⟨g, i * 7, none⟩)) :
    (execOp a.eval o).run Try.prog w = .ok (.value (.agg #[.int .i64 x.t.b.r, .int .i64 x.t.b.s])) w := by
  have hr : w.rangeAt g (i * 7) [.int .i64 x.t.b.r, .int .i64 x.t.b.s] := fun q v hv => HK.out.atR0 hR hx q v (by
    match q, hv with
    | 0, hv => exact hv
    | 1, hv => exact hv)
  have h := run_loadVar_mid (P := Try.prog) w g (i * 7) 23 [.int .i64 x.t.b.r, .int .i64 x.t.b.s] _ hr Try.underlying23 rfl info_bl
  unfold execOp
  simp only [ho, hp, Instr.loadAt, Instr.sureAddr, Sem.run_bind, Sem.run_pure, Result.andThen_ok, h]
/-- A try's fields. -/
theorem exec_rtc (HK : Hid (Kn b0 w0 w L R)) (j : Nat) {N g n c : Nat} {l : List Trh} (hR : R[j]? = some (row (trLay N) (.slice (some ⟨g, 0, none⟩) n c) l)) {i : Nat} {x : Trh} (hx : l[i]? = some x) (q : Nat) {v : Value} (hv : (trC N x)[q]? = some v) {ty : TypeId} {d : TypeDesc} (e : Operand) (ho : o.op = .load ty e) (hp : a.eval e = .pointer (some ⟨g, i * 7 + q, none⟩)) (hu : Try.prog.underlying ty = some d) (hd : d.isRow = false) :
    (execOp a.eval o).run Try.prog w = .ok (.value v) w := exec_cell e ho hp (HK.out.atR0 hR hx q v hv) hu hd
/-- A flag of a row of the call's own. -/
theorem exec_rbo (HK : Hid (Kn b0 w0 w L R)) (j : Nat) {g n c : Nat} {l : List Bool} (hR : R[j]? = some (row bLay (.slice (some ⟨g, 0, none⟩) n c) l)) {i : Nat} {x : Bool} (hx : l[i]? = some x) (e : Operand) (ho : o.op = .load 4 e) (hp : a.eval e = .pointer (some ⟨g, i, none⟩)) :
    (execOp a.eval o).run Try.prog w = .ok (.value (.bool x)) w := by
  have h1 := HK.out.atR0 hR hx 0 _ rfl
  have e1 : i * bLay.k + 0 = i := by show i * 1 + 0 = i; omega
  rw [e1] at h1
  exact exec_lcb e ho hp h1
/-- A move's block. -/
theorem wpList_amv (HK : Hid (Kn b0 w0 w L R)) (hgd : o.guard = none) (ho : o.op = .alloc 42)
    (h : ∀ w' g, Hid (Kn b0 w0 w' (L ++ [(g, 42, mvC ⟨0, 0, 0, 0, 0⟩)]) R) → wpList Try.prog ops Q rest (a.put o.dst (.pointer (some ⟨g, 0, none⟩))) w') : wpList Try.prog ops Q (o :: rest) a w :=
  wpList_plain hgd fun _ hK => lkwp_made info_mvz HK ho fun w' g h1 _ => hK _ _ (h w' g h1)
theorem wpList_smv {m m2 : Mov} (HK : Hid (Kn b0 w0 w L R)) (i : Nat) (hgd : o.guard = none) (e1 e2 : Operand) (ho : o.op = .store 42 e1 e2) (hL : L[i]? = some (g, 42, mvC m)) (hx : a.eval e1 = .pointer (some ⟨g, 0, none⟩)) (hy : a.eval e2 = .agg #[.int .i64 m2.k, .int .i64 m2.t, .int .i64 m2.v, .int .i64 m2.r, .int .i64 m2.s])
    (h : ∀ w', Hid (Kn b0 w0 w' (L.set i (g, 42, mvC m2)) R) → wpList Try.prog ops Q rest (a.put o.dst undef) w') : wpList Try.prog ops Q (o :: rest) a w :=
  wpList_plain hgd fun _ hK => kwp_ss HK _ e1 e2 ho i hL hx hy (by show 5 ≤ 5; decide) info_mv (by simp [Value.oneCell']) fun w' h1 _ => hK _ _ (h w' (by
    have e : putCells (mvC m) 0 (#[Value.int .i64 m2.k, .int .i64 m2.t, .int .i64 m2.v, .int .i64 m2.r, .int .i64 m2.s] : Array Value).toList = mvC m2 := by
      show putCells (mvC m) 0 (mvC m2).toList = mvC m2
      rw [putCells_all (vs := (mvC m2).toList) (cs := mvC m) rfl, Array.toArray_toList]
    rw [e] at h1
    exact h1))
theorem km_m {m : Mov} (HK : Hid (Kn b0 w0 w L R)) (i : Nat) (e : Operand) (ho : o.op = .load 42 e) (hL : L[i]? = some (g, 42, mvC m)) (hx : a.eval e = .pointer (some ⟨g, 0, none⟩)) :
    (execOp a.eval o).run Try.prog w = .ok (.value (.agg #[.int .i64 m.k, .int .i64 m.t, .int .i64 m.v, .int .i64 m.r, .int .i64 m.s])) w :=
  kexec_ls HK _ e ho i hL hx (mvC m) (fun j _ => by rw [Nat.zero_add]) Try.underlying42 info_mv
theorem km_c {m : Mov} (HK : Hid (Kn b0 w0 w L R)) (i q : Nat) {x : Int} (hq : (mvC m)[q]? = some (.int .i64 x)) (e : Operand) (ho : o.op = .load 3 e) (hL : L[i]? = some (g, 42, mvC m)) (hx : a.eval e = .pointer (some ⟨g, q, none⟩)) :
    (execOp a.eval o).run Try.prog w = .ok (.value (.int .i64 x)) w :=
  kexec_lc HK 3 e ho i hL hx (v := .int .i64 x) hq Try.underlying3 rfl
theorem exec_lmv {m : Mov} {b off : Nat} (e : Operand) (ho : o.op = .load 42 e) (hx : a.eval e = .pointer (some ⟨b, off, none⟩)) (hc : ∀ j v, (mvLay.f m)[j]? = some v → w.cell? ⟨b, off + j, none⟩ = some v) :
    (execOp a.eval o).run Try.prog w = .ok (.value (.agg #[.int .i64 m.k, .int .i64 m.t, .int .i64 m.v, .int .i64 m.r, .int .i64 m.s])) w :=
  exec_slv (w := w) mvLay e ho hx Try.underlying42 hc
theorem exec_ixmv {b off n c i : Nat} (x q : Operand) (ho : o.op = .indexAddr 38 x q) (hx : a.eval x = .slice (some ⟨b, off, none⟩) n c) (hq : a.eval q = .int .i64 (i : Int)) (h : i < n) :
    (execOp a.eval o).run Try.prog w = .ok (.value (.pointer (some ⟨b, off + i * 5, none⟩))) w :=
  exec_slx (w := w) mvLay x q ho hx hq h
/-- A number as a uint64, a remainder, and back. -/
theorem exec_iu {x : Int} {u : Nat} (p : Operand) (ho : o.op = .convert 3 48 p) (hp : a.eval p = .int .i64 x) (hu : IntKind.u64.wrap x = (u : Int)) :
    (execOp a.eval o).run Try.prog w = .ok (.value (.int .u64 (u : Int))) w := by
  unfold execOp
  simp only [ho, hp]
  go_simp
theorem exec_urem {u n : Nat} (p q : Operand) (ho : o.op = .binOp .rem 48 p q 48) (hp : a.eval p = .int .u64 (u : Int)) (hq : a.eval q = .int .u64 (n : Int)) (h0 : 0 < n) (hn : n < 18446744073709551616) :
    (execOp a.eval o).run Try.prog w = .ok (.value (.int .u64 ((u % n : Nat) : Int))) w := by
  have h1 : ¬ (n : Int) = 0 := by omega
  have h1b : ((n : Int) == 0) = false := beq_eq_false_iff_ne.2 h1
  have h2 : (u : Int).tmod (n : Int) = ((u % n : Nat) : Int) := rfl
  have h3 : u % n < n := Nat.mod_lt _ h0
  have h4 : IntKind.u64.wrap ((u % n : Nat) : Int) = ((u % n : Nat) : Int) := by rw [IntKind.wrap_u64]; omega
  unfold execOp
  simp only [ho, hp, hq]
  go_simp
  exact Nat.ne_of_gt h0
theorem exec_ui {u : Nat} (p : Operand) (ho : o.op = .convert 48 3 p) (hp : a.eval p = .int .u64 (u : Int)) (hu : u < 9223372036854775808) :
    (execOp a.eval o).run Try.prog w = .ok (.value (.int .i64 (u : Int))) w := by
  have h1 : IntKind.i64.wrap (u : Int) = (u : Int) := by rw [IntKind.wrap_i64]; omega
  unfold execOp
  simp only [ho, hp]
  go_simp
end
theorem u64_of (x : Int) : ∃ u : Nat, IntKind.u64.wrap x = (u : Int) := by
  refine ⟨(IntKind.u64.wrap x).toNat, ?_⟩
  rw [IntKind.wrap_u64]
  omega
end Go.Proofs.Ytfganmbjaglmiaa
