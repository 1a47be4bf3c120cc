/-
  How commands and events lie; ways out.
  No condition but those named.
  How events lie; laws of loads.
  No condition but those named.
-/
import Derived.Test.YtakjggmiilkmdaaKn
import Derived.Test.YtakjggmiilkmdaaRows
import Derived.Test.YtakjggmiilkmdaaJMath
import Derived.KernelRfl
set_option linter.unusedSimpArgs false
set_option linter.unusedVariables false
namespace Go.Proofs.Ytakjggmiilkmdaa
open Go.RowKit

/-- A command's cells, an event's. -/
def cmC (k : Int) (name key : ByteArray) (vk vn : Int) (vf : Nat) (vs : ByteArray) (ok on : Int) (of : Nat) (os : ByteArray) (n m : Int) : Array Value :=
  #[.int .i64 k, .string name, .string key, .int .i64 vk, .int .i64 vn, .int .u64 (vf : Int), .string vs, .int .i64 ok, .int .i64 on, .int .u64 (of : Int), .string os, .int .i64 n, .int .i64 m]
def cmA (c : Cmd.C) : Array Value := cmC c.k c.name c.key c.val.k c.val.n c.val.f c.val.s c.old.k c.old.n c.old.f c.old.s c.n c.m
def fl (b0 b1 b2 b3 b4 b5 : Bool) : Array Value := #[.bool b0, .bool b1, .bool b2, .bool b3, .bool b4, .bool b5]
theorem info_fl : (Try.prog.info? 72).map (·.size) = some 6 := by kernel_rfl
theorem info_cm : (Try.prog.info? 33).map (·.size) = some 13 := by kernel_rfl
section
variable {b0 : Nat} {w0 w : World} {L : List (Nat × TypeId × Array Value)} {R : List RowE} {ops : Array Oper} {rest : List Oper} {o : Oper} {a : Act} {Q : Exit → Act → World → Prop}
theorem kexec_bi (HK : Hid (Kn b0 w0 w L R)) (i : Nat) (x : Operand) (ho : o.op = .load 3 x) {g off : Nat} {t : TypeId} {cs : Array Value} (hL : L[i]? = some (g, t, cs)) (hx : a.eval x = .pointer (some ⟨g, off, none⟩)) {n : Int} (hv : cs[off]? = some (.int .i64 n)) :
    (execOp a.eval o).run Try.prog w = .ok (.value (.int .i64 n)) w := kexec_lc HK _ x ho i hL hx hv Try.underlying3 rfl
theorem kexec_bb (HK : Hid (Kn b0 w0 w L R)) (i : Nat) (x : Operand) (ho : o.op = .load 4 x) {g off : Nat} {t : TypeId} {cs : Array Value} (hL : L[i]? = some (g, t, cs)) (hx : a.eval x = .pointer (some ⟨g, off, none⟩)) {b : Bool} (hv : cs[off]? = some (.bool b)) :
    (execOp a.eval o).run Try.prog w = .ok (.value (.bool b)) w := kexec_lc HK _ x ho i hL hx hv Try.underlying4 rfl
theorem kexec_bs (HK : Hid (Kn b0 w0 w L R)) (i : Nat) (x : Operand) (ho : o.op = .load 9 x) {g off : Nat} {t : TypeId} {cs : Array Value} (hL : L[i]? = some (g, t, cs)) (hx : a.eval x = .pointer (some ⟨g, off, none⟩)) {s : ByteArray} (hv : cs[off]? = some (.string s)) :
    (execOp a.eval o).run Try.prog w = .ok (.value (.string s)) w := kexec_lc HK _ x ho i hL hx hv Try.underlying9 rfl
end
/-- Flags told. -/
def IsF (b0 b1 b2 b3 b4 b5 : Bool) (w : World) (e : Ending) (w' : World) : Prop := e = .returned (.agg (fl b0 b1 b2 b3 b4 b5)) ∧ Below w.heap.size w w'
theorem ret_fl {f : Func} {R : Ending → World → Prop} {a : Act} {w : World} {B : Nat} {b0 b1 b2 b3 b4 b5 : Bool} {q : Tmp} (hf : f.results = #[.cell q 72]) (h2 : a.tmps[q]? = some (.pointer (some ⟨B, 0, none⟩))) (hd : a.defers = []) (hb : Blk w B 72 (fl b0 b1 b2 b3 b4 b5))
    (hR : R (.returned (.agg (fl b0 b1 b2 b3 b4 b5))) w) : bodyPost Try.prog f R Exit.ret a w :=
  bodyPost_ret (results_cell_row hf a.tmps w B _ _ (0, 0) _ (by simp [h2]) hb Try.underlying72 rfl info_fl) hd hR
theorem isF {k : Int} {b0 b1 b2 b3 b4 b5 : Bool} {w : World} {e : Ending} {w' : World} (h : IsF b0 b1 b2 b3 b4 b5 w e w') (e0 : Cmd.f0 k = b0) (e1 : Cmd.f1 k = b1) (e2 : Cmd.f2 k = b2) (e3 : Cmd.f3 k = b3) (e4 : Cmd.f4 k = b4) (e5 : Cmd.f5 k = b5) : IsF (Cmd.f0 k) (Cmd.f1 k) (Cmd.f2 k) (Cmd.f3 k) (Cmd.f4 k) (Cmd.f5 k) w e w' := by
  rw [e0, e1, e2, e3, e4, e5]; exact h
end Go.Proofs.Ytakjggmiilkmdaa
set_option linter.unusedSimpArgs false
set_option linter.unusedVariables false
namespace Go.Proofs.Ytakjggmiilkmdaa
open Go.RowKit

/-- An event's cells. -/
def evC (c e r k : Int) (name key : ByteArray) (vk vn : Int) (vf : Nat) (vs : ByteArray) (ok on : Int) (of : Nat) (os : ByteArray) (n m : Int) : Array Value :=
  #[.int .i64 c, .int .i64 e, .int .i64 r, .int .i64 k, .string name, .string key, .int .i64 vk, .int .i64 vn, .int .u64 (vf : Int), .string vs, .int .i64 ok, .int .i64 on, .int .u64 (of : Int), .string os, .int .i64 n, .int .i64 m]
def evA (e : Cmd.E) : Array Value := evC e.c e.e e.r e.cmd.k e.cmd.name e.cmd.key e.cmd.val.k e.cmd.val.n e.cmd.val.f e.cmd.val.s e.cmd.old.k e.cmd.old.n e.cmd.old.f e.cmd.old.s e.cmd.n e.cmd.m
/-- No event. -/
def evZ : Cmd.E := ⟨0, 0, 0, ⟨0, ⟨#[]⟩, ⟨#[]⟩, ⟨0, 0, 0, ⟨#[]⟩⟩, ⟨0, 0, 0, ⟨#[]⟩⟩, 0, 0⟩⟩
theorem info_ev : (Try.prog.info? 35).map (·.size) = some 16 := by kernel_rfl
theorem info_ref : (Try.prog.info? 28).map (·.size) = some 3 := by kernel_rfl
theorem info_cmd : (Try.prog.info? 33).map (·.size) = some 13 := by kernel_rfl
theorem info_vale : (Try.prog.info? 31).map (·.size) = some 4 := by kernel_rfl
section
variable {b0 : Nat} {w0 w : World} {L : List (Nat × TypeId × Array Value)} {R : List RowE} {ops : Array Oper} {rest : List Oper} {o : Oper} {a : Act} {Q : Exit → Act → World → Prop}
variable {g : Nat} {t : TypeId} {c e r k : Int} {name key : ByteArray} {vk vn : Int} {vf : Nat} {vs : ByteArray} {ok on : Int} {of : Nat} {os : ByteArray} {n m : Int}
theorem kexec_eref (HK : Hid (Kn b0 w0 w L R)) (i : Nat) (x : Operand) (ho : o.op = .load 28 x) (hL : L[i]? = some (g, t, evC c e r k name key vk vn vf vs ok on of os n m)) (hx : a.eval x = .pointer (some ⟨g, 0, none⟩)) :
    (execOp a.eval o).run Try.prog w = .ok (.value (.agg #[.int .i64 c, .int .i64 e, .int .i64 r])) w :=
  kexec_ls HK _ x ho i hL hx #[.int .i64 c, .int .i64 e, .int .i64 r] (fun j hj => by
    match j, hj with
    | 0, _ | 1, _ | 2, _ => rfl) Try.underlying28 info_ref
theorem kexec_ecm (HK : Hid (Kn b0 w0 w L R)) (i : Nat) (x : Operand) (ho : o.op = .load 33 x) (hL : L[i]? = some (g, t, evC c e r k name key vk vn vf vs ok on of os n m)) (hx : a.eval x = .pointer (some ⟨g, 3, none⟩)) :
    (execOp a.eval o).run Try.prog w = .ok (.value (.agg (cmC k name key vk vn vf vs ok on of os n m))) w :=
  kexec_ls HK _ x ho i hL hx (cmC k name key vk vn vf vs ok on of os n m) (fun j hj => by
    match j, hj with
    | 0, _ | 1, _ | 2, _ | 3, _ | 4, _ | 5, _ | 6, _ | 7, _ | 8, _ | 9, _ | 10, _ | 11, _ | 12, _ => rfl) Try.underlying33 info_cmd
theorem kexec_eva (HK : Hid (Kn b0 w0 w L R)) (i : Nat) (x : Operand) (ho : o.op = .load 31 x) (hL : L[i]? = some (g, t, evC c e r k name key vk vn vf vs ok on of os n m)) (hx : a.eval x = .pointer (some ⟨g, 6, none⟩)) :
    (execOp a.eval o).run Try.prog w = .ok (.value (.agg #[.int .i64 vk, .int .i64 vn, .int .u64 (vf : Int), .string vs])) w :=
  kexec_ls HK _ x ho i hL hx #[.int .i64 vk, .int .i64 vn, .int .u64 (vf : Int), .string vs] (fun j hj => by
    match j, hj with
    | 0, _ | 1, _ | 2, _ | 3, _ => rfl) Try.underlying31 info_vale
theorem kexec_eol (HK : Hid (Kn b0 w0 w L R)) (i : Nat) (x : Operand) (ho : o.op = .load 31 x) (hL : L[i]? = some (g, t, evC c e r k name key vk vn vf vs ok on of os n m)) (hx : a.eval x = .pointer (some ⟨g, 10, none⟩)) :
    (execOp a.eval o).run Try.prog w = .ok (.value (.agg #[.int .i64 ok, .int .i64 on, .int .u64 (of : Int), .string os])) w :=
  kexec_ls HK _ x ho i hL hx #[.int .i64 ok, .int .i64 on, .int .u64 (of : Int), .string os] (fun j hj => by
    match j, hj with
    | 0, _ | 1, _ | 2, _ | 3, _ => rfl) Try.underlying31 info_vale
theorem kexec_ee (HK : Hid (Kn b0 w0 w L R)) (i : Nat) (x : Operand) (ho : o.op = .load 35 x) (hL : L[i]? = some (g, t, evC c e r k name key vk vn vf vs ok on of os n m)) (hx : a.eval x = .pointer (some ⟨g, 0, none⟩)) :
    (execOp a.eval o).run Try.prog w = .ok (.value (.agg (evC c e r k name key vk vn vf vs ok on of os n m))) w :=
  kexec_ls HK _ x ho i hL hx (evC c e r k name key vk vn vf vs ok on of os n m) (fun j _ => by rw [Nat.zero_add]) Try.underlying35 info_ev
theorem Kn.ev (h : Kn b0 w0 w L R) (i : Nat) (hi : L[i]? = some (g, t, evC c e r k name key vk vn vf vs ok on of os n m)) :
    w.cell? ⟨g, 0, none⟩ = some (.int .i64 c) ∧ w.cell? ⟨g, 1, none⟩ = some (.int .i64 e) ∧ w.cell? ⟨g, 2, none⟩ = some (.int .i64 r) ∧ w.cell? ⟨g, 3, none⟩ = some (.int .i64 k) ∧ w.cell? ⟨g, 4, none⟩ = some (.string name) ∧ w.cell? ⟨g, 5, none⟩ = some (.string key) ∧
    w.cell? ⟨g, 14, none⟩ = some (.int .i64 n) ∧ w.cell? ⟨g, 15, none⟩ = some (.int .i64 m) :=
  ⟨h.cell i hi 0 rfl, h.cell i hi 1 rfl, h.cell i hi 2 rfl, h.cell i hi 3 rfl, h.cell i hi 4 rfl, h.cell i hi 5 rfl, h.cell i hi 14 rfl, h.cell i hi 15 rfl⟩
/-- A store of an event into a known block. -/
theorem wpList_sev (HK : Hid (Kn b0 w0 w L R)) (i : Nat) (hgd : o.guard = none) (p q : Operand) (ho : o.op = .store 35 p q) {e1 e2 : Cmd.E} (hL : L[i]? = some (g, t, evA e1)) (hx : a.eval p = .pointer (some ⟨g, 0, none⟩)) (hy : a.eval q = .agg (evA e2))
    (h : ∀ w', Hid (Kn b0 w0 w' (L.set i (g, t, evA e2)) R) → Hid (w'.heap.size = w.heap.size) → wpList Try.prog ops Q rest (a.put o.dst undef) w') : wpList Try.prog ops Q (o :: rest) a w :=
  wpList_ss HK i hgd _ p q ho hL hx hy (by show 16 ≤ 16; decide) info_ev (by simp [evA, evC, Value.oneCell']) fun w' h1 h2 => h w' (by
    have e : putCells (evA e1) 0 (evA e2).toList = evA e2 := by
      rw [putCells_all (vs := (evA e2).toList) (cs := evA e1) rfl, Array.toArray_toList]
    rw [e] at h1
    exact h1) h2
theorem wpList_akev (HK : Hid (Kn b0 w0 w L R)) (hgd : o.guard = none) (ho : o.op = .alloc 35)
    (h : ∀ w' g, Hid (Kn b0 w0 w' (L ++ [(g, 35, evA evZ)]) R) → wpList Try.prog ops Q rest (a.put o.dst (.pointer (some ⟨g, 0, none⟩))) w') : wpList Try.prog ops Q (o :: rest) a w :=
  wpList_plain hgd fun K hK => by
    have h4 := h _ w.heap.size (Lib.hid (HK.out.alloc _ _))
    unfold Oper.wp execOp
    simp only [ho]
    unfold evA evC evZ at h4
    go_simp
    exact hK _ _ h4
end
end Go.Proofs.Ytakjggmiilkmdaa
