/-
  A call of a row: what it leaves and tells, as the document has it; ways out.
  No condition but those named.
-/
import Derived.Test.YtakjggmiilkmdaaLogTake
set_option linter.unusedSimpArgs false
set_option linter.unusedVariables false
namespace Go.Proofs.Ytakjggmiilkmdaa
open Go.ChangeShapes Go.WideShapes Go.Deep Go.RowKit

namespace Lgm
def doL (l : Lg) (k f m : Int) (es : List Cmd.E) : Lg × Int × List Cmd.E × Bool :=
  if k = 1 then (add l f es m, 0, [], false) else if k = 2 then (stay l f, 0, [], false) else if k = 3 then (tkL l, 0, [(tkE l).getD evZ], (tkE l).isSome)
  else if k = 4 then (trim l f, 0, [], false) else if k = 5 then (l, pf l f, part l f m, false) else (l, 0, [], false)
end Lgm
theorem Tl.none (G : World → Prop) {Rn : List RowE} : Tl G Option.none 0 0 [] Rn := fun _ _ W _ _ _ _ _ => Sls.none W
theorem Tl.more {G : World → Prop} {A : Option Addr} {n c : Nat} {l : List Cmd.E} {Rn R2 : List RowE} (h : Tl G A n c l Rn) (hm : ∀ z ∈ Rn, z ∈ R2) : Tl G A n c l R2 := fun b W0 W L R K hR hg => h b W0 W L R K (fun z hz => hR z (hm z hz)) hg
def IsDoT (G : World → Prop) (x : Lg × Int × List Cmd.E × Bool) (w : World) (e : Ending) (w' : World) : Prop := ∃ (A : Option Addr) (n c : Nat) (A2 : Option Addr) (n2 c2 : Nat) (Rn : List RowE), e = .returned (.tuple #[.agg #[.int .i64 x.1.b, .int .i64 x.1.c, .int .i64 x.1.d, .slice A n c], .int .i64 x.2.1, .slice A2 n2 c2, .bool x.2.2.2]) ∧ Kn w.heap.size w w' [] Rn ∧ Hid (Tl G A n c x.1.ev Rn) ∧ Hid (Tl G A2 n2 c2 x.2.2.1 Rn)
theorem ret_lg4 {fn : Func} {R : Ending → World → Prop} {a : Act} {w : World} {B : Nat} {b c d : Int} {H u v z : Value} {q q2 q3 q4 : Tmp} (hf : fn.results = #[.cell q 24, .tmp q2, .tmp q3, .tmp q4]) (h2 : a.tmps[q]? = some (.pointer (some ⟨B, 0, none⟩))) (h3 : a.tmps[q2]? = some u) (h4 : a.tmps[q3]? = some v) (h5 : a.tmps[q4]? = some z) (hd : a.defers = []) (hb : Blk w B 24 (lgC b c d H))
    (hR : R (.returned (.tuple #[.agg #[.int .i64 b, .int .i64 c, .int .i64 d, H], u, v, z])) w) : bodyPost Try.prog fn R Exit.ret a w := by
  refine bodyPost_ret (v := .tuple #[.agg #[.int .i64 b, .int .i64 c, .int .i64 d, H], u, v, z]) ?_ hd hR
  have h : (loadVar 24 ⟨B, 0, none⟩).run Try.prog w = .ok (.agg (lgC b c d H)) w := run_loadVar_row (P := Try.prog) w B _ _ _ (0, 0) _ hb Try.underlying24 rfl info_lg
  unfold lgC at h
  simp [results, hf, asAddr, Sem.run_bind, h2, h3, h4, h5, h]
end Go.Proofs.Ytakjggmiilkmdaa
