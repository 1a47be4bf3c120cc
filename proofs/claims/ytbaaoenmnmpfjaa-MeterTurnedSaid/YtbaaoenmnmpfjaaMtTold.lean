/-
  What meter.told returns: all that may be asked of a meter, each in its place; the memory behind it has two blocks more.
  No condition.
-/
import Derived.Test.YtbaaoenmnmpfjaaKn
import Derived.Test.YtbaaoenmnmpfjaaMtMath
import Derived.Deep.RegionWith
import Derived.Deep.RegionHeld3
import Derived.Deep.Draws
import Derived.Lib.Hide
set_option linter.unusedSimpArgs false
set_option linter.unusedVariables false
namespace Go.Proofs.Ytbaaoenmnmpfjaa
open Go.RowKit
theorem info_ar : (Try.prog.info? 41).map (·.size) = some 16 := by kernel_rfl
theorem ret_ar {fn : Func} {R : Ending → World → Prop} {a : Act} {w : World} {B : Nat} {cs : Array Value} {q : Tmp} (hf : fn.results = #[.cell q 41]) (h2 : a.tmps[q]? = some (.pointer (some ⟨B, 0, none⟩))) (hd : a.defers = []) (hb : Blk w B 41 cs) (hs : cs.size = 16)
    (hR : R (.returned (.agg cs)) w) : bodyPost Try.prog fn R Exit.ret a w :=
  bodyPost_ret (results_cell_row hf a.tmps w B _ _ (0, 0) _ (by simp [h2]) hb Try.underlying41 rfl (by rw [hs]; exact info_ar)) hd hR
theorem blk2 (w : World) (t1 t2 : TypeId) (c1 c2 : Array Value) : Blk ((w.alloc (.cells c1 t1)).alloc (.cells c2 t2)) (w.heap.size + 1) t2 c2 := by
  have h := Blk.new (w.alloc (.cells c1 t1)) t2 c2
  rwa [World.size_alloc] at h
set_option maxRecDepth 100000 in
set_option maxHeartbeats 3200000 in
theorem told_any (n : Int) (s l m : Nat) (w : World) :
    Calls Try.prog 23 #[.agg #[.int .i64 n, .int .u64 (s : Int), .int .u64 (l : Int), .int .u64 (m : Int)]] w (fun e w' => e = .returned (.agg #[.int .i64 1, .int .i64 n, .int .u64 0, .string ⟨#[]⟩, .int .i64 2, .int .i64 0, .int .u64 (s : Int), .string ⟨#[]⟩, .int .i64 2, .int .i64 0, .int .u64 (l : Int), .string ⟨#[]⟩, .int .i64 2, .int .i64 0, .int .u64 (m : Int), .string ⟨#[]⟩]) ∧
      w' = (w.alloc (.cells #[.int .i64 n, .int .u64 (s : Int), .int .u64 (l : Int), .int .u64 (m : Int)] 24)).alloc (.cells #[.int .i64 1, .int .i64 n, .int .u64 0, .string ⟨#[]⟩, .int .i64 2, .int .i64 0, .int .u64 (s : Int), .string ⟨#[]⟩, .int .i64 2, .int .i64 0, .int .u64 (l : Int), .string ⟨#[]⟩, .int .i64 2, .int .i64 0, .int .u64 (m : Int), .string ⟨#[]⟩] 41)) := by
  go_enter Try.func23, Try.ntmps23
  go_wp2_with fail
  refine ret_ar (B := w.heap.size + 1) Try.results23 rfl rfl (blk2 _ _ _ _ _) rfl ⟨rfl, rfl⟩
end Go.Proofs.Ytbaaoenmnmpfjaa
