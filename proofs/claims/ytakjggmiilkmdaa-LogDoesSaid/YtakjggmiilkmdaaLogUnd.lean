/-
  What is told of a log where more rows are known; numbers compared.
  No condition but those named.
-/
import Derived.Test.YtakjggmiilkmdaaLogDoM
set_option linter.unusedSimpArgs false
set_option linter.unusedVariables false
namespace Go.Proofs.Ytakjggmiilkmdaa
open Go.RowKit

theorem Tl.under {G : World → Prop} {A : Option Addr} {n c : Nat} {l : List Cmd.E} {Rn R2 : List RowE} (h : Tl G A n c l Rn) (hm : ∀ z ∈ Rn, z ∈ R2) (hg : ∀ (b : Nat) (W0 W : World) L R, Kn b W0 W L R → (∀ z ∈ R2, z ∈ R) → G W) : Tl (fun _ => True) A n c l R2 :=
  fun b W0 W L R K hR _ => h b W0 W L R K (fun z hz => hR z (hm z hz)) (hg b W0 W L R K hR)
section
variable {o : Oper} {a : Act} {w : World} {x k : Int} {d : Bool}
theorem exec_inteq (p q : Operand) (ho : o.op = .binOp .eql 3 p q 3) (hx : a.eval p = .int .i64 x) (hy : a.eval q = .int .i64 x) :
    (execOp a.eval o).run Try.prog w = .ok (.value (.bool true)) w := by
  have h : (x == x) = true := beq_self_eq_true x
  unfold execOp
  simp only [ho, hx, hy]
  go_simp
theorem exec_intne (p q : Operand) (ho : o.op = .binOp .neq 3 p q 3) (hx : a.eval p = .int .i64 x) (hy : a.eval q = .int .i64 x) :
    (execOp a.eval o).run Try.prog w = .ok (.value (.bool false)) w := by
  have h : (x != x) = false := by simp
  unfold execOp
  simp only [ho, hx, hy]
  go_simp
theorem exec_gtc (p q : Operand) (ho : o.op = .binOp .gtr 3 p q 3) (hp : a.eval p = .int .i64 x) (hq : a.eval q = .int .i64 k) (hb : decide (k < x) = d) :
    (execOp a.eval o).run Try.prog w = .ok (.value (.bool d)) w := by
  subst hb
  unfold execOp
  simp only [ho, hp, hq]
  go_simp
end
/-- Cells of an event of a slice whose place is known. -/
theorem Sls.eatb {Fe : Cmd.E → Prop} {w : World} {b o n c : Nat} {l : List Cmd.E} (h : Sls evLay Fe w (some ⟨b, o, Option.none⟩) n c l) (hn : 0 < n) (i : Nat) (x : Cmd.E) (hx : l[i]? = some x) (j : Nat) (v : Value) (hv : (evL x)[j]? = some v) : w.cell? ⟨b, o + i * 16 + j, Option.none⟩ = some v := by
  obtain ⟨b', o', e, hat⟩ := h.eat hn
  injection e with e
  injection e with e1 e2
  subst e1 e2
  exact hat w (Below.refl _ w) i x hx j v hv
end Go.Proofs.Ytakjggmiilkmdaa
