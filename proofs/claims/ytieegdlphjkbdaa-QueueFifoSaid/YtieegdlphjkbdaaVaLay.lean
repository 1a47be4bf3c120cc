/-
  How values lie in a slice; loads of one, of its kind; arguments that are slices of values.
  No condition but the form's own.
-/
import Derived.Test.YtieegdlphjkbdaaSlm
import Derived.Test.YtieegdlphjkbdaaExec
import Derived.Test.YtieegdlphjkbdaaLVal
import Derived.KernelRfl
set_option linter.unusedSimpArgs false
set_option linter.unusedVariables false
namespace Go.Proofs.Ytieegdlphjkbdaa
open Go.ChangeShapes Go.WideShapes Go.Deep Go.RowKit

theorem info_val : (Try.prog.info? 25).map (fun i => (i.zero, i.size, i.bytes)) = some (some (Value.agg #[.int .i64 0, .int .i64 0, .int .u64 0, .string ⟨#[]⟩]), 4, 40) := by kernel_rfl
def vaLay : Lay Try.prog Val.V where
  t := 22
  e := 25
  k := 4
  bytes := 40
  z := .agg #[.int .i64 0, .int .i64 0, .int .u64 0, .string ⟨#[]⟩]
  f := vaL
  len := fun _ => rfl
  one := fun x u hu => by
    unfold vaL at hu
    simp only [List.mem_cons, List.not_mem_nil, or_false] at hu
    rcases hu with rfl | rfl | rfl | rfl <;> rfl
  und := Try.underlying22
  info := info_val
  zs := rfl
  pos := by decide
  small := by decide
def vF (v : Val.V) : Prop := v.f < 18446744073709551616
theorem info_vas : (Try.prog.info? 22).map (fun i => (i.zero, i.size)) = some (some (Value.slice none 0 0), 1) := by kernel_rfl
def vaNest : Nest vaLay where
  tt := 42
  und := Try.underlying42
  info := info_vas
section
variable {w : World} {o : Oper} {a : Act}
theorem exec_lva {b off : Nat} {k n : Int} {f : Nat} {s : ByteArray} (p : Operand) (ho : o.op = .load 25 p) (hx : a.eval p = .pointer (some ⟨b, off, none⟩)) (hc : ∀ j v, (vaL ⟨k, n, f, s⟩)[j]? = some v → w.cell? ⟨b, off + j, none⟩ = some v) :
    (execOp a.eval o).run Try.prog w = .ok (.value (.agg #[.int .i64 k, .int .i64 n, .int .u64 (f : Int), .string s])) w :=
  exec_slv vaLay (x := ⟨k, n, f, s⟩) p ho hx Try.underlying25 hc
theorem exec_lvk {b off : Nat} {k n : Int} {f : Nat} {s : ByteArray} (p : Operand) (ho : o.op = .load 3 p) (hx : a.eval p = .pointer (some ⟨b, off, none⟩)) (hc : ∀ j v, (vaL ⟨k, n, f, s⟩)[j]? = some v → w.cell? ⟨b, off + j, none⟩ = some v) :
    (execOp a.eval o).run Try.prog w = .ok (.value (.int .i64 k)) w :=
  exec_cell p ho hx (hc 0 _ rfl) Try.underlying3 rfl
theorem exec_ixv {b off n c i : Nat} (x q : Operand) (ho : o.op = .indexAddr 22 x q) (hx : a.eval x = .slice (some ⟨b, off, none⟩) n c) (hq : a.eval q = .int .i64 (i : Int)) (h : i < n) :
    (execOp a.eval o).run Try.prog w = .ok (.value (.pointer (some ⟨b, off + i * 4, none⟩))) w := exec_slx vaLay x q ho hx hq h
theorem exec_svl {A : Option Addr} {n c lo : Nat} (x p : Operand) (ho : o.op = .slice 22 x (some p) none none) (hx : a.eval x = .slice A n c) (hp : a.eval p = .int .i64 (lo : Int)) (h1 : lo ≤ n) :
    (execOp a.eval o).run Try.prog w = .ok (.value (.slice (subA 4 A lo c) (n - lo) (c - lo))) w := exec_sls_l vaLay x p ho hx hp h1
end
section
variable {H : Type} {enc : TypeId × Value → H} {W : World} {base : Nat}
theorem bytes_val : Try.prog.bytesOf 25 = 40 := by kernel_rfl
theorem opens_vas : Opens enc vaLay (fun v _ => vF v) := fun W n cs x ht => by
  obtain ⟨v, h1, h2⟩ := opens_val (enc := enc) W n cs x ht
  exact ⟨v, h1, h2⟩
theorem Lift.Given.vals {ts : List TypeId} {args : List Value} {ds : List (DataW H)} {before : List MemPlace} (h : Lift.Given enc Try.prog (22 :: ts) W base args ds before) :
    ∃ (A : Option Addr) (c : Nat) (l : List Val.V) (vs : List Value) (d : DataW H) (ds' : List (DataW H)) (q : List MemPlace), args = .slice A l.length c :: vs ∧ ds = d :: ds' ∧ Sls vaLay vF W A l.length c l ∧ Lift.Given enc Try.prog ts W base vs ds' q := by
  obtain ⟨A, c, l, vs, d, ds', q, h1, h2, h3, h4, h5, h6, _, h8, h9⟩ := h.things (L := vaLay) opens_vas cells_val bytes_val
  have hb : l.length * 40 ≤ reachBytes := h6
  refine ⟨A, c, l, vs, d, ds', q, h1, h2, ⟨rfl, h8, h3, h4, fun x hx => ?_, ?_⟩, h9⟩
  · obtain ⟨dx, g, _⟩ := h5 x hx
    exact g
  · have : reachBytes = 140737488351232 := rfl
    show l.length * 40 ≤ _
    omega
end
end Go.Proofs.Ytieegdlphjkbdaa
