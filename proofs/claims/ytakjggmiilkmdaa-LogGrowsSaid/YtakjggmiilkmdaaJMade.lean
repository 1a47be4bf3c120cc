/-
  What a call has made besides: rows of its own beside what is known.
  Pure of the program. No condition but those named.
  A thing's block made.
  Pure but for the program's types' sizes. No condition but those named.
-/
import Derived.Test.YtakjggmiilkmdaaKn
import Derived.Test.YtakjggmiilkmdaaJSl
import Derived.Test.YtakjggmiilkmdaaJPut
import Derived.Test.YtakjggmiilkmdaaOpensT
namespace Go.Proofs.Ytakjggmiilkmdaa
open Go.RowKit

section
variable {b0 : Nat} {w0 w : World} {L : List (Nat × TypeId × Array Value)} {R : List RowE}
/-- What a call has made besides, rows of its own. -/
theorem Kn.join {w' : World} {Rn : List RowE} (h : Kn b0 w0 w L R) (k : Kn w.heap.size w w' [] Rn) : Kn b0 w0 w' L (R ++ Rn) := by
  have hc := h.call k.b
  have key : ∀ (i : Nat) x, (R ++ Rn)[i]? = some x → (i < R.length ∧ R[i]? = some x) ∨ (R.length ≤ i ∧ Rn[i - R.length]? = some x) := fun i x hx => by
    rcases Nat.lt_or_ge i R.length with hi | hi
    · rw [List.getElem?_append_left hi] at hx; exact .inl ⟨hi, hx⟩
    · rw [List.getElem?_append_right hi] at hx; exact .inr ⟨hi, hx⟩
  refine ⟨hc.b, hc.m, hc.l, fun i y hy => ?_, hc.ll, fun i j x y hx hy => ?_, fun i j x y hx hy hij => ?_⟩
  · rcases key i y hy with ⟨_, hy⟩ | ⟨_, hy⟩
    · exact hc.r i y hy
    · exact World.ownsRow.mono (k.r _ y hy) h.m
  · rcases key j y hy with ⟨_, hy⟩ | ⟨_, hy⟩
    · exact hc.lr i j x y hx hy
    · intro e
      have h1 := (owns_lt (k.r _ y hy) e).1
      have h2 := (h.l i x hx).2.lt
      omega
  · rcases key i x hx with ⟨h1, hx⟩ | ⟨h1, hx⟩ <;> rcases key j y hy with ⟨h2, hy⟩ | ⟨h2, hy⟩
    · exact hc.rr i j x y hx hy hij
    · intro g hg e
      have h3 := (owns_lt (h.r i x hx) hg).2
      have h4 := (owns_lt (k.r _ y hy) e).1
      omega
    · intro g hg e
      have h3 := (owns_lt (h.r j y hy) e).2
      have h4 := (owns_lt (k.r _ x hx) hg).1
      omega
    · exact k.rr _ _ x y hx hy (by omega)
theorem Kn.mem {P : Program} {α : Type} {La : Lay P α} {v : Value} {l : List α} (h : Kn b0 w0 w L R) (hm : row La v l ∈ R) : La.Own b0 w v l := by
  obtain ⟨i, hi⟩ := List.mem_iff_getElem?.1 hm
  exact h.own i hi
end
end Go.Proofs.Ytakjggmiilkmdaa
set_option linter.unusedSimpArgs false
set_option linter.unusedVariables false
set_option maxRecDepth 100000
namespace Go.Proofs.Ytakjggmiilkmdaa
open Go.ChangeShapes Go.WideShapes Go.Deep Go.RowKit

section
variable {b0 : Nat} {w0 w : World} {L : List (Nat × TypeId × Array Value)} {R : List RowE} {ops : Array Oper} {rest : List Oper} {o : Oper} {a : Act} {Q : Exit → Act → World → Prop} {K : Act → World → Prop} {E : Prop} {g : Nat}
/-- A thing's block made. -/
theorem lrun_made {P : Program} {e : TypeId} {z : Value} {k b : Nat} (hi : (P.info? e).map (fun i => (i.zero, i.size, i.bytes)) = some (some z, k, b)) (w : World) : (Instr.alloc e true (.tuple #[])).run P w = .ok (.pointer (some ⟨w.heap.size, 0, none⟩)) (w.alloc (.cells z.cells e)) := by
  obtain ⟨i0, hi, hz0, hz1, hz2⟩ := info_parts hi
  simp [Instr.alloc, zeroValue, typeInfo, hi, hz0, newVar, newRow]
theorem lkwp_made {e : TypeId} {z : Value} {k b : Nat} (hi : (Try.prog.info? e).map (fun i => (i.zero, i.size, i.bytes)) = some (some z, k, b)) (HK : Hid (Kn b0 w0 w L R)) (ho : o.op = .alloc e)
    (h : ∀ w' g, Hid (Kn b0 w0 w' (L ++ [(g, e, z.cells)]) R) → Hid (Below w.heap.size w w') → K (a.put o.dst (.pointer (some ⟨g, 0, none⟩))) w') : o.wp Try.prog a w K Q := by
  have h4 := h _ w.heap.size (Lib.hid (HK.out.alloc e z.cells)) (Lib.hid ((Below.refl _ w).alloc (Nat.le_refl _) _))
  unfold Oper.wp execOp
  simp only [ho, Sem.run_bind, Sem.run_pure, lrun_made hi, Result.andThen_ok]
  exact h4
end
end Go.Proofs.Ytakjggmiilkmdaa
