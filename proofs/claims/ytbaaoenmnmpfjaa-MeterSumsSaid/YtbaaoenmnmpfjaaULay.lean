/-
  Numbers of 64 bits in a slice; loads of one; an argument that is a slice of them.
  No condition but the form's own.
-/
import Derived.Test.YtbaaoenmnmpfjaaNumBase
import Derived.Test.YtbaaoenmnmpfjaaSlm
import Derived.Test.YtbaaoenmnmpfjaaExn
import Derived.Test.YtbaaoenmnmpfjaaLayOpen
import Derived.KernelRfl
set_option linter.unusedSimpArgs false
set_option linter.unusedVariables false
namespace Go.Proofs.Ytbaaoenmnmpfjaa
open Go.ChangeShapes Go.WideShapes Go.Deep Go.RowKit

def uL (x : Nat) : List Value := [.int .u64 (x : Int)]
theorem info_u : (Try.prog.info? 22).map (fun i => (i.zero, i.size, i.bytes)) = some (some (Value.int .u64 0), 1, 8) := by kernel_rfl
def uLay : Lay Try.prog Nat where
  t := 35
  e := 22
  k := 1
  bytes := 8
  z := .int .u64 0
  f := uL
  len := fun _ => rfl
  one := fun x u hu => by
    unfold uL at hu
    simp only [List.mem_cons, List.not_mem_nil, or_false] at hu
    rcases hu with rfl
    rfl
  und := Try.underlying35
  info := info_u
  zs := rfl
  pos := by decide
  small := by decide
def uF (x : Nat) : Prop := x < 18446744073709551616
section
variable {w : World} {o : Oper} {a : Act}
theorem exec_lu {b off x : Nat} (p : Operand) (ho : o.op = .load 22 p) (hx : a.eval p = .pointer (some ⟨b, off, none⟩)) (hc : w.cell? ⟨b, off, none⟩ = some (.int .u64 (x : Int))) :
    (execOp a.eval o).run Try.prog w = .ok (.value (.int .u64 (x : Int))) w :=
  exec_cell p ho hx hc Try.underlying22 rfl
theorem exec_ixu {b off n c i : Nat} (x q : Operand) (ho : o.op = .indexAddr 35 x q) (hx : a.eval x = .slice (some ⟨b, off, none⟩) n c) (hq : a.eval q = .int .i64 (i : Int)) (h : i < n) :
    (execOp a.eval o).run Try.prog w = .ok (.value (.pointer (some ⟨b, off + i, none⟩))) w := by
  have h1 := exec_slx (w := w) uLay x q ho hx hq h
  have e : off + i * uLay.k = off + i := by show off + i * 1 = _; rw [Nat.mul_one]
  rw [e] at h1
  exact h1
end
/-- Where it begins, if it isn't empty, and its cells. -/
theorem Sls.uat {w : World} {A : Option Addr} {n c : Nat} {l : List Nat} (h : Sls uLay uF w A n c l) (hn : 0 < n) : ∃ b o, A = some ⟨b, o, Option.none⟩ ∧
    ∀ W, Below w.heap.size w W → ∀ (i x : Nat), l[i]? = some x → W.cell? ⟨b, o + i, Option.none⟩ = some (.int .u64 (x : Int)) := by
  obtain ⟨b, o, e, hat⟩ := h.at hn
  refine ⟨b, o, e, fun W hW i x hx => ?_⟩
  have h1 := hat W hW i x hx 0 _ rfl
  have e2 : o + i * uLay.k + 0 = o + i := by show o + i * 1 + 0 = _; omega
  rw [e2] at h1
  exact h1
section
variable {H : Type} {enc : TypeId × Value → H} {W : World} {base : Nat}
theorem cells_u : Try.prog.cellsOf 22 = 1 := by kernel_rfl
theorem bytes_u : Try.prog.bytesOf 22 = 8 := by kernel_rfl
theorem opens_u : Opens enc uLay (fun v _ => uF v) := fun W n cs x ht => by
  obtain ⟨a0, e0, _, w0⟩ := DataW.trod_int Try.underlying22 ht
  cases e0
  obtain ⟨u, rfl, hu⟩ := u64_lt w0
  exact ⟨u, rfl, hu⟩
theorem Lift.Given.us {ts : List TypeId} {args : List Value} {ds : List (DataW H)} {before : List MemPlace} (h : Lift.Given enc Try.prog (35 :: ts) W base args ds before) :
    ∃ (A : Option Addr) (c : Nat) (l : List Nat) (vs : List Value) (d : DataW H) (ds' : List (DataW H)) (q : List MemPlace), args = .slice A l.length c :: vs ∧ ds = d :: ds' ∧ Sls uLay uF W A l.length c l ∧ Lift.Given enc Try.prog ts W base vs ds' q := by
  obtain ⟨A, c, l, vs, d, ds', q, h1, h2, h3, h4, h5, h6, _, h8, h9⟩ := h.things (L := uLay) opens_u cells_u bytes_u
  have hb : l.length * 8 ≤ reachBytes := h6
  refine ⟨A, c, l, vs, d, ds', q, h1, h2, ⟨rfl, h8, h3, h4, fun x hx => ?_, ?_⟩, h9⟩
  · obtain ⟨dx, g, _⟩ := h5 x hx
    exact g
  · have : reachBytes = 140737488351232 := rfl
    show l.length * 8 ≤ _
    omega
end
end Go.Proofs.Ytbaaoenmnmpfjaa
