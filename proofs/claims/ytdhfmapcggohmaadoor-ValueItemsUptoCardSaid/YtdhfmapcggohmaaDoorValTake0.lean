/-
  What value.take returns, for every slice of items that holds one: the value that stands at its head.
  No condition but that the numbers of the items fit their kind.
-/
import Derived.Test.YtdhfmapcggohmaaDoorValItemsW
import Derived.WalkKit
import Derived.WalkSpells
import Derived.WalkLawsBesides
import Derived.Handy
import Derived.Deep.QuietTactic
import Derived.BigQuiet
import Derived.Deep.Draws
import Derived.Lib.Hide
namespace Go.Proofs.YtdhfmapcggohmaaDoor
open Go.RowKit

/-- A way out of a function that answers with a block's value. -/
theorem ret_box1 {f : Func} (hf : f.results = #[.cell 2 24]) {R : Ending → World → Prop} {a : Act} {w : World} {B : Nat} {p q r s : Value}
    (h2 : a.tmps[2]? = some (.pointer (some ⟨B, 0, none⟩))) (hd : a.defers = []) (hb : Box w B p q r s)
    (hR : R (.returned (.agg #[p, q, r, s])) w) : bodyPost Tryd.prog f R Exit.ret a w := by
  obtain ⟨k0, k1, k2, k3, -⟩ := hb.all
  exact bodyPost_ret (v := .agg #[p, q, r, s]) (by simp [results, hf, go_sem, h2, k0, k1, k2, k3]) hd hR
theorem Box.other {w : World} {B g : Nat} {p q r s : Value} (h : Box w B p q r s) (hne : B ≠ g) (i : Nat) (v : Value) : Box (w.setCell ⟨g, i, none⟩ v) B p q r s := (Below.heap_setCell w ⟨g, i, none⟩ v B hne).trans h
theorem wrap_us (n : Int) : IntKind.u64.wrap n = (Val.us n : Int) := by
  rw [IntKind.wrap_u64]; unfold Val.us; omega
theorem us_lt (n : Int) : Val.us n < 18446744073709551616 := by unfold Val.us; omega

section
variable (b o c n : Nat) (x y : Val.It) (w : World)
set_option maxRecDepth 100000 in
set_option maxHeartbeats 1600000 in
theorem take_one (hb : b < w.heap.size) (hx : At w b o 0 x) :
    Calls Tryd.prog 29 #[.slice (some ⟨b, o, none⟩) 1 c] w fun e w' => e = .returned (.agg #[.int .i64 x.n, .int .i64 0, .int .u64 0, .string ⟨#[]⟩]) ∧ Below w.heap.size w w' := by
  obtain ⟨xk, xn, xs⟩ := x
  obtain ⟨x0, x1, x2⟩ := hx
  simp only [Nat.zero_mul, Nat.add_zero] at x0 x1 x2
  go_enter Tryd.func29, Tryd.ntmps29
  go_wp2_with fail
  exact ret_box1 Tryd.results29 rfl rfl ((Box.new w _ _ _ _).alloc _) ⟨rfl, ((Below.refl _ w).alloc (Nat.le_refl _) _).alloc (by simp) _⟩
end
end Go.Proofs.YtdhfmapcggohmaaDoor
