/-
  What move of the wire does, in all.
  No condition but that numbers are small.
-/
import Derived.Test.YtamjcghdebjpjaaWireMoveP
import Derived.Test.YtamjcghdebjpjaaWireMoveN
set_option linter.unusedSimpArgs false
set_option linter.unusedVariables false
namespace Go.Proofs.Ytamjcghdebjpjaa
open Go.RowKit

theorem move_any (b0 : Nat) (w0 : World) (g : Nat) (x : Lnk.Wr) (w : World) (n m : Nat) (k j : Int) (an : Bool) (hW : WireAt b0 w0 g x w) (hf : Lnk.Wr.Fits n m x) (hn : n ≤ 900000) (hm : m ≤ 100000) :
    Calls Try.prog 16 #[.pointer (some ⟨g, 0, none⟩), .agg #[.int .i64 k, .int .i64 j], .bool an] w fun e w' => e = .returned (.tuple #[]) ∧ WireAt b0 w0 g (x.move k j an) w' := by
  by_cases h0 : 0 < x.way.length
  · exact moveP_any b0 w0 g x w n m k j an hW hf hn hm h0
  · exact moveN_any b0 w0 g x w n m k j an hW hf hn hm h0
end Go.Proofs.Ytamjcghdebjpjaa
