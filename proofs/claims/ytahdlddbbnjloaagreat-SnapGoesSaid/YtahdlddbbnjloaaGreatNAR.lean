/- What the program says of the type of bytes. No condition but those named. -/
import Derived.Test.YtahdlddbbnjloaaGreatNTK
set_option linter.unusedSimpArgs false
set_option linter.unusedVariables false
set_option maxRecDepth 100000
set_option maxHeartbeats 25600000
open Go.RowKit
namespace Go.Proofs.YtahdlddbbnjloaaGreat
open _root_.Go.Proofs.Tryz
section
theorem Fb:(prog.info? 5).map (fun i=>(i.zero,i.size,i.bytes))=some (some (Value.int .u8 0),1,1):=by kernel_rfl
end
end Go.Proofs.YtahdlddbbnjloaaGreat
