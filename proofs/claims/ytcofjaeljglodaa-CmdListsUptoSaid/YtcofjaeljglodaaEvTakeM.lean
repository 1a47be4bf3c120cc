/-
  What stands at a place of items, where an event does.
  No condition but bounds on the slice.
-/
import Derived.Test.YtcofjaeljglodaaVlFrom
import Derived.Test.YtcofjaeljglodaaEvLay
import Derived.Deep.RegionWith
import Derived.Deep.RegionHeld3
import Derived.Deep.Draws
import Derived.Lib.Hide
set_option linter.unusedSimpArgs false
set_option linter.unusedVariables false
namespace Go.Proofs.Ytcofjaeljglodaa
open Go.RowKit

/-- What take and From leave: some event; the event e, the place behind it and true, where c holds. True only with a place in the slice. -/
def IsEF (e : Cmd.E) (p z n : Nat) (c : Prop) (w : World) (en : Ending) (w' : World) : Prop := ∃ (u : Cmd.E) (y : Nat) (b : Bool), en = .returned (.tuple #[.agg (evA u), .int .i64 (y : Int), .bool b]) ∧ (c → u = e ∧ y = z ∧ b = true) ∧ (b = true → p < y ∧ y ≤ n) ∧ (u.cmd.val.f < 18446744073709551616 ∧ u.cmd.old.f < 18446744073709551616) ∧ Below w.heap.size w w'
theorem ret_e3 {fn : Func} {R : Ending → World → Prop} {a : Act} {w : World} {B : Nat} {e : Cmd.E} {u z : Value} {q q2 q3 : Tmp} (hf : fn.results = #[.cell q 34, .tmp q2, .tmp q3]) (h2 : a.tmps[q]? = some (.pointer (some ⟨B, 0, none⟩))) (h3 : a.tmps[q2]? = some u) (h4 : a.tmps[q3]? = some z) (hd : a.defers = []) (hb : Blk w B 34 (evA e))
    (hR : R (.returned (.tuple #[.agg (evA e), u, z])) w) : bodyPost Try.prog fn R Exit.ret a w := by
  refine bodyPost_ret (v := .tuple #[.agg (evA e), u, z]) ?_ hd hR
  have h : (loadVar 34 ⟨B, 0, none⟩).run Try.prog w = .ok (.agg (evA e)) w := run_loadVar_row (P := Try.prog) w B _ _ _ (0, 0) _ hb Try.underlying34 rfl info_ev
  simp [results, hf, asAddr, Sem.run_bind, h2, h3, h4, h]
/-- The event's items stand there. -/
def Stands (l : List Itm.It) (p : Nat) (e : Cmd.E) : Prop := (∃ rest, l.drop p = Cmd.items e ++ rest) ∧ Val.chk e.cmd.val = 0 ∧ Val.chk e.cmd.old = 0 ∧ e.cmd.val.f < 18446744073709551616 ∧ e.cmd.old.f < 18446744073709551616
theorem drop_more {l : List Itm.It} {p : Nat} {a b : List Itm.It} (h : l.drop p = a ++ b) : l.drop (p + a.length) = b := by
  rw [← List.drop_drop, h, List.drop_left]
theorem len_drop {l : List Itm.It} {p : Nat} {a b : List Itm.It} (h : l.drop p = a ++ b) (ha : 0 < a.length) : p + a.length ≤ l.length := by
  have := congrArg List.length h
  rw [List.length_drop, List.length_append] at this
  omega
/-- What value.From asks, where a value's items stand. -/
theorem vstands {l : List Itm.It} {p : Nat} {v : Val.V} {r : List Itm.It} (h : l.drop p = Val.items v ++ r) (hc : Val.chk v = 0) (hf : v.f < 18446744073709551616) :
    Val.take (l.drop p) = v ∧ (p < l.length ∧ Val.chk (Val.take (l.drop p)) = 0 ∧ p + (Val.items (Val.take (l.drop p))).length ≤ l.length ∧ (l.drop p).take (Val.items (Val.take (l.drop p))).length = Val.items (Val.take (l.drop p))) := by
  have ht : Val.take (l.drop p) = v := by rw [h]; exact Val.take_all hc hf r
  have hn := (it_len v).1
  have hle := len_drop h (by omega)
  refine ⟨ht, by omega, ?_, ?_, ?_⟩
  · rw [ht]; exact hc
  · rw [ht]; exact hle
  · rw [ht, h, List.take_left]
theorem items_app (e : Cmd.E) (rest : List Itm.It) : Cmd.items e ++ rest = [⟨0, e.c, ⟨#[]⟩⟩, ⟨0, e.e, ⟨#[]⟩⟩, ⟨0, e.r, ⟨#[]⟩⟩, ⟨0, e.cmd.k, ⟨#[]⟩⟩, ⟨1, 0, e.cmd.name⟩, ⟨1, 0, e.cmd.key⟩] ++ (Val.items e.cmd.val ++ (Val.items e.cmd.old ++ ([⟨0, e.cmd.n, ⟨#[]⟩⟩, ⟨0, e.cmd.m, ⟨#[]⟩⟩] ++ rest))) := by
  unfold Cmd.items Cmd.emp
  simp only [List.append_assoc]
theorem items_length (e : Cmd.E) : (Cmd.items e).length = 8 + (Val.items e.cmd.val).length + (Val.items e.cmd.old).length := by
  unfold Cmd.items
  simp only [List.length_append, List.length_cons, List.length_nil]
  omega
theorem stands_parts {l : List Itm.It} {p : Nat} {e : Cmd.E} (h : Stands l p e) :
    (∃ r, l.drop (p + 6) = Val.items e.cmd.val ++ r) ∧ (∃ r, l.drop (p + 6 + (Val.items e.cmd.val).length) = Val.items e.cmd.old ++ r) ∧
    (l[p]? = some ⟨0, e.c, ⟨#[]⟩⟩ ∧ l[p + 1]? = some ⟨0, e.e, ⟨#[]⟩⟩ ∧ l[p + 2]? = some ⟨0, e.r, ⟨#[]⟩⟩ ∧ l[p + 3]? = some ⟨0, e.cmd.k, ⟨#[]⟩⟩ ∧ l[p + 4]? = some ⟨1, 0, e.cmd.name⟩ ∧ l[p + 5]? = some ⟨1, 0, e.cmd.key⟩) ∧
    (∀ y, y = p + 6 + (Val.items e.cmd.val).length + (Val.items e.cmd.old).length → l[y]? = some ⟨0, e.cmd.n, ⟨#[]⟩⟩ ∧ l[y + 1]? = some ⟨0, e.cmd.m, ⟨#[]⟩⟩ ∧ y + 2 = p + (Cmd.items e).length ∧ y + 2 ≤ l.length) := by
  obtain ⟨⟨rest, hr⟩, _⟩ := h
  rw [items_app] at hr
  have d1 := drop_more hr
  have d2 := drop_more d1
  have d3 := drop_more d2
  have g : ∀ i, l[p + i]? = (l.drop p)[i]? := fun i => by rw [List.getElem?_drop]
  refine ⟨⟨_, d1⟩, ⟨_, d2⟩, ⟨?_, ?_, ?_, ?_, ?_, ?_⟩, ?_⟩
  · have := g 0; rw [hr] at this; exact this
  · rw [g 1, hr]; rfl
  · rw [g 2, hr]; rfl
  · rw [g 3, hr]; rfl
  · rw [g 4, hr]; rfl
  · rw [g 5, hr]; rfl
  · intro y hy
    subst hy
    have e6 : ([⟨0, e.c, ⟨#[]⟩⟩, ⟨0, e.e, ⟨#[]⟩⟩, ⟨0, e.r, ⟨#[]⟩⟩, ⟨0, e.cmd.k, ⟨#[]⟩⟩, ⟨1, 0, e.cmd.name⟩, ⟨1, 0, e.cmd.key⟩] : List Itm.It).length = 6 := rfl
    rw [e6] at d3
    have g3 : ∀ i, l[p + 6 + (Val.items e.cmd.val).length + (Val.items e.cmd.old).length + i]? = (l.drop (p + 6 + (Val.items e.cmd.val).length + (Val.items e.cmd.old).length))[i]? := fun i => by rw [List.getElem?_drop]
    refine ⟨?_, ?_, ?_, ?_⟩
    · have := g3 0; rw [d3] at this; exact this
    · rw [g3 1, d3]; rfl
    · rw [items_length]; omega
    · have := len_drop d3 (by show 0 < 2; decide)
      exact this
theorem exec_slice {b o n c lo hi : Nat} {w : World} {op : Oper} {a : Act} (x p q : Operand) (ho : op.op = .slice 38 x (some p) (some q) none) (hx : a.eval x = .slice (some ⟨b, o, none⟩) n c) (hp : a.eval p = .int .i64 (lo : Int)) (hq : a.eval q = .int .i64 (hi : Int)) (h1 : lo ≤ hi) (h2 : hi ≤ c) (h3 : lo < c) :
    (execOp a.eval op).run Try.prog w = .ok (.value (.slice (some ⟨b, o + lo * 3, none⟩) (hi - lo) (c - lo))) w := by
  have hne : ¬ c = lo := by omega
  unfold execOp
  simp only [ho, Option.map_some, Option.map_none, hx, hp, hq]
  go_simp
theorem exec_addn {x k : Nat} {w : World} {op : Oper} {a : Act} (p : Operand) (ho : op.op = .binOp .add 3 p (.const (.int .i64 (k : Int))) 3) (hp : a.eval p = .int .i64 (x : Int)) (h : x + k ≤ 2000000000) :
    (execOp a.eval op).run Try.prog w = .ok (.value (.int .i64 ((x + k : Nat) : Int))) w := by
  have hw : IntKind.i64.wrap ((x : Int) + (k : Int)) = ((x + k : Nat) : Int) := by rw [IntKind.wrap_i64]; omega
  unfold execOp
  have he : a.eval (.const (.int .i64 (k : Int))) = .int .i64 (k : Int) := rfl
  simp only [ho, hp, he]
  go_simp
end Go.Proofs.Ytcofjaeljglodaa
