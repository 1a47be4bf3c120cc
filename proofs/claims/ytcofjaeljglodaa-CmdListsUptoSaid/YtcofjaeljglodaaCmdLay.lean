/-
  How commands and events lie; ways out.
  No condition but those named.
-/
import Derived.Test.YtcofjaeljglodaaKn
import Derived.Test.YtcofjaeljglodaaCmdMath
import Derived.KernelRfl
set_option linter.unusedSimpArgs false
set_option linter.unusedVariables false
namespace Go.Proofs.Ytcofjaeljglodaa
open Go.RowKit

/-- A command's cells, an event's. -/
def cmC (k : Int) (name key : ByteArray) (vk vn : Int) (vf : Nat) (vs : ByteArray) (ok on : Int) (of : Nat) (os : ByteArray) (n m : Int) : Array Value :=
  #[.int .i64 k, .string name, .string key, .int .i64 vk, .int .i64 vn, .int .u64 (vf : Int), .string vs, .int .i64 ok, .int .i64 on, .int .u64 (of : Int), .string os, .int .i64 n, .int .i64 m]
def cmA (c : Cmd.C) : Array Value := cmC c.k c.name c.key c.val.k c.val.n c.val.f c.val.s c.old.k c.old.n c.old.f c.old.s c.n c.m
def fl (b0 b1 b2 b3 b4 b5 : Bool) : Array Value := #[.bool b0, .bool b1, .bool b2, .bool b3, .bool b4, .bool b5]
theorem info_fl : (Try.prog.info? 52).map (·.size) = some 6 := by kernel_rfl
theorem info_cm : (Try.prog.info? 26).map (·.size) = some 13 := by kernel_rfl
section
variable {b0 : Nat} {w0 w : World} {L : List (Nat × TypeId × Array Value)} {R : List RowE} {ops : Array Oper} {rest : List Oper} {o : Oper} {a : Act} {Q : Exit → Act → World → Prop}
theorem kexec_bi (HK : Hid (Kn b0 w0 w L R)) (i : Nat) (x : Operand) (ho : o.op = .load 3 x) {g off : Nat} {t : TypeId} {cs : Array Value} (hL : L[i]? = some (g, t, cs)) (hx : a.eval x = .pointer (some ⟨g, off, none⟩)) {n : Int} (hv : cs[off]? = some (.int .i64 n)) :
    (execOp a.eval o).run Try.prog w = .ok (.value (.int .i64 n)) w := kexec_lc HK _ x ho i hL hx hv Try.underlying3 rfl
theorem kexec_bb (HK : Hid (Kn b0 w0 w L R)) (i : Nat) (x : Operand) (ho : o.op = .load 4 x) {g off : Nat} {t : TypeId} {cs : Array Value} (hL : L[i]? = some (g, t, cs)) (hx : a.eval x = .pointer (some ⟨g, off, none⟩)) {b : Bool} (hv : cs[off]? = some (.bool b)) :
    (execOp a.eval o).run Try.prog w = .ok (.value (.bool b)) w := kexec_lc HK _ x ho i hL hx hv Try.underlying4 rfl
theorem kexec_bs (HK : Hid (Kn b0 w0 w L R)) (i : Nat) (x : Operand) (ho : o.op = .load 9 x) {g off : Nat} {t : TypeId} {cs : Array Value} (hL : L[i]? = some (g, t, cs)) (hx : a.eval x = .pointer (some ⟨g, off, none⟩)) {s : ByteArray} (hv : cs[off]? = some (.string s)) :
    (execOp a.eval o).run Try.prog w = .ok (.value (.string s)) w := kexec_lc HK _ x ho i hL hx hv Try.underlying9 rfl
end
/-- Flags told. -/
def IsF (b0 b1 b2 b3 b4 b5 : Bool) (w : World) (e : Ending) (w' : World) : Prop := e = .returned (.agg (fl b0 b1 b2 b3 b4 b5)) ∧ Below w.heap.size w w'
theorem ret_fl {f : Func} {R : Ending → World → Prop} {a : Act} {w : World} {B : Nat} {b0 b1 b2 b3 b4 b5 : Bool} {q : Tmp} (hf : f.results = #[.cell q 52]) (h2 : a.tmps[q]? = some (.pointer (some ⟨B, 0, none⟩))) (hd : a.defers = []) (hb : Blk w B 52 (fl b0 b1 b2 b3 b4 b5))
    (hR : R (.returned (.agg (fl b0 b1 b2 b3 b4 b5))) w) : bodyPost Try.prog f R Exit.ret a w :=
  bodyPost_ret (results_cell_row hf a.tmps w B _ _ (0, 0) _ (by simp [h2]) hb Try.underlying52 rfl info_fl) hd hR
theorem isF {k : Int} {b0 b1 b2 b3 b4 b5 : Bool} {w : World} {e : Ending} {w' : World} (h : IsF b0 b1 b2 b3 b4 b5 w e w') (e0 : Cmd.f0 k = b0) (e1 : Cmd.f1 k = b1) (e2 : Cmd.f2 k = b2) (e3 : Cmd.f3 k = b3) (e4 : Cmd.f4 k = b4) (e5 : Cmd.f5 k = b5) : IsF (Cmd.f0 k) (Cmd.f1 k) (Cmd.f2 k) (Cmd.f3 k) (Cmd.f4 k) (Cmd.f5 k) w e w' := by
  rw [e0, e1, e2, e3, e4, e5]; exact h
set_option maxHeartbeats 3200000 in
theorem rnames_any (k : Int) (w : World) : Calls Try.prog 29 #[.int .i64 k] w (IsF (Cmd.f0 k) (Cmd.f1 k) (Cmd.f2 k) (Cmd.f3 k) (Cmd.f4 k) (Cmd.f5 k) w) := by
  rcases Cmd.kinds k with rfl | (rfl | rfl | rfl | rfl | rfl | rfl) | (rfl | rfl) | rfl | rfl | (rfl | rfl) | rfl | h
  case inr.inr.inr.inr.inr.inr.inr =>
    obtain ⟨e0, e1, e2, e3, e4, e5⟩ := Cmd.flags_none h
    have n4 : ¬ k = 4 := by omega
    have n5 : ¬ k = 5 := by omega
    have n6 : ¬ k = 6 := by omega
    have n7 : ¬ k = 7 := by omega
    have n8 : ¬ k = 8 := by omega
    have n9 : ¬ k = 9 := by omega
    have n10 : ¬ k = 10 := by omega
    have n11 : ¬ k = 11 := by omega
    have n12 : ¬ k = 12 := by omega
    have n13 : ¬ k = 13 := by omega
    have n14 : ¬ k = 14 := by omega
    have n15 : ¬ k = 15 := by omega
    have n16 : ¬ k = 16 := by omega
    have n17 : ¬ k = 17 := by omega
    refine Calls.mono (R := IsF false false false false false false w) ?_ fun e w' h => isF h e0 e1 e2 e3 e4 e5
    clear h e0 e1 e2 e3 e4 e5
    go_enter Try.func29, Try.ntmps29
    go_wp2_with fail
    exact ret_fl Try.results29 rfl rfl (Blk.new w _ _) ⟨rfl, (Below.refl _ w).alloc (Nat.le_refl _) _⟩
  all_goals
    go_enter Try.func29, Try.ntmps29
    go_wp2_with fail
    exact ret_fl Try.results29 rfl rfl (Blk.new w _ _) ⟨rfl, (Below.refl _ w).alloc (Nat.le_refl _) _⟩
end Go.Proofs.Ytcofjaeljglodaa
