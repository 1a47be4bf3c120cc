/-
  What the program says of the type of bytes.
-/
import Derived.Test.YtjmjmhconkalpaaRows
import Derived.WalkKit
import Derived.KernelRfl
namespace Go.Proofs.Ytjmjmhconkalpaa
open Go.RowKit
theorem info_u8 : (Try.prog.info? 5).map (fun i => (i.zero, i.size, i.bytes)) = some (some (Value.int .u8 0), 1, 1) := by kernel_rfl
end Go.Proofs.Ytjmjmhconkalpaa
