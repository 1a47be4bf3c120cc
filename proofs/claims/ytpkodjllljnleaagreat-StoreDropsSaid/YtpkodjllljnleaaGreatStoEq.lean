/- Replies and truth values that are compared with themselves; where rows are known. No condition but those named. -/
import Derived.Test.YtpkodjllljnleaaGreatML
import Derived.Test.YtpkodjllljnleaaGreatMR
set_option linter.unusedSimpArgs false
set_option linter.unusedVariables false
namespace Go.Proofs.YtpkodjllljnleaaGreat
open Go.RowKit
def InR (Rk : List RowE) (W : World) : Prop := ∃ (b : Nat) (W0 : World) (L : List (Nat × TypeId × Array Value)) (R : List RowE), Kn b W0 W L R ∧ ∀ y ∈ Rk, y ∈ R
end Go.Proofs.YtpkodjllljnleaaGreat
