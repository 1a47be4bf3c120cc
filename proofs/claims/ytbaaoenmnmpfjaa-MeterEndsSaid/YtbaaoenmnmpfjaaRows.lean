/-
  No cell of these rows narrows 'for every input' (looked for: loops, veiled, ifaces, maps, wideKeys, modest, calm, conditions, laid).
  DERIVED. THE GIVEN ROWS OF THIS SEAT. 4 by the template 'for every input the law returns true; each argument reads behind the call as it read before'; 0 by the template 'total and deterministic' (their statements: YtbaaoenmnmpfjaaTotals.lean).
  GIVEN WITH THE SEED: the statements are not yours to turn. If you find one false, say at which input.
  Laid BY PROGRAM, IN A SANDBOX (cutbox-rows.mjs): the forced cells as the released guide's own fill.sh prints them over the translation 360cb3bf88539be9… (all of the seat's roots in one cut). By AI agents, Wed Nov 11 2026. No macro, syntax, notation, axiom, sorry.
-/
import Derived.Test.YtbaaoenmnmpfjaaChecked
import GoSem.Claim
import GoSem.ClaimJoined
import GoSem.ClaimMapViews
import Derived.JoinedTies
import Derived.KernelRfl
namespace Go.Proofs.Ytbaaoenmnmpfjaa
/- THE CELL 'sum', in the pinned program and in every row, IS THE sha256 OF THE DUMP (.gsa) THAT YtbaaoenmnmpfjaaProg.lean LOADS. Nothing in Lean hashes anything: it is a label: what it is worth is what the hold of that sum in a sandbox is worth. -/
noncomputable def Try.pinned : Pinned := { name := "ytbaaoenmnmpfjaa", sum := "360cb3bf88539be91f06e9aa7b60071757f87f03bd5d613e5589b3f2e5274127", checked := Try.checked }
namespace Rows
def none {H : Type} : Left H := { results := [], args := [] }

/-- 'phalanxlaw14.MeterDoes': WHATEVER THE INPUT: true; the input reads as it did. -/
def meterDoesSpec : ChangeSpec := { name := "meterDoes", fn := fun _ => fun
  | [d1, d2, d3] => { results := [.lit (.bool true)], args := [d1, d2, d3] }
  | _ => none }
def meterDoesRow : OpenClaim := { program := "ytbaaoenmnmpfjaa", sum := "360cb3bf88539be91f06e9aa7b60071757f87f03bd5d613e5589b3f2e5274127", func := "phalanx/phalanxlaw14.MeterDoes", spec := "meterDoes", inPlace := ["math.Float64frombits", "math.Float64bits"], apart := false }
def MeterDoesSaid : Prop := meterDoesRow.holds Try.pinned (OpenSpec.ofChange meterDoesSpec)

/-- ITS FALSE NEIGHBOUR: 'it returns false'. Refute it at one input. -/
def meterDoesWrong : ChangeSpec := { name := "meterDoes", fn := fun _ => fun
  | [d1, d2, d3] => { results := [.lit (.bool false)], args := [d1, d2, d3] }
  | _ => none }
def MeterDoesWrongFalsely : Prop := meterDoesRow.holds Try.pinned (OpenSpec.ofChange meterDoesWrong)

/-- 'phalanxlaw14.MeterEnds': WHATEVER THE INPUT: true; the input reads as it did. -/
def meterEndsSpec : ChangeSpec := { name := "meterEnds", fn := fun _ => fun
  | [d] => { results := [.lit (.bool true)], args := [d] }
  | _ => none }
def meterEndsRow : OpenClaim := { program := "ytbaaoenmnmpfjaa", sum := "360cb3bf88539be91f06e9aa7b60071757f87f03bd5d613e5589b3f2e5274127", func := "phalanx/phalanxlaw14.MeterEnds", spec := "meterEnds", inPlace := ["math.Float64frombits", "math.Float64bits"], apart := false }
def MeterEndsSaid : Prop := meterEndsRow.holds Try.pinned (OpenSpec.ofChange meterEndsSpec)

/-- ITS FALSE NEIGHBOUR: 'it returns false'. Refute it at one input. -/
def meterEndsWrong : ChangeSpec := { name := "meterEnds", fn := fun _ => fun
  | [d] => { results := [.lit (.bool false)], args := [d] }
  | _ => none }
def MeterEndsWrongFalsely : Prop := meterEndsRow.holds Try.pinned (OpenSpec.ofChange meterEndsWrong)

/-- 'phalanxlaw14.MeterTurned': WHATEVER THE INPUT: true; the input reads as it did. -/
def meterTurnedSpec : ChangeSpec := { name := "meterTurned", fn := fun _ => fun
  | [d1, d2] => { results := [.lit (.bool true)], args := [d1, d2] }
  | _ => none }
def meterTurnedRow : OpenClaim := { program := "ytbaaoenmnmpfjaa", sum := "360cb3bf88539be91f06e9aa7b60071757f87f03bd5d613e5589b3f2e5274127", func := "phalanx/phalanxlaw14.MeterTurned", spec := "meterTurned", inPlace := ["math.Float64frombits", "math.Float64bits"], apart := false }
def MeterTurnedSaid : Prop := meterTurnedRow.holds Try.pinned (OpenSpec.ofChange meterTurnedSpec)

/-- ITS FALSE NEIGHBOUR: 'it returns false'. Refute it at one input. -/
def meterTurnedWrong : ChangeSpec := { name := "meterTurned", fn := fun _ => fun
  | [d1, d2] => { results := [.lit (.bool false)], args := [d1, d2] }
  | _ => none }
def MeterTurnedWrongFalsely : Prop := meterTurnedRow.holds Try.pinned (OpenSpec.ofChange meterTurnedWrong)

/-- 'phalanxlaw14.MeterSums': WHATEVER THE INPUT: true; the input reads as it did. -/
def meterSumsSpec : ChangeSpec := { name := "meterSums", fn := fun _ => fun
  | [d] => { results := [.lit (.bool true)], args := [d] }
  | _ => none }
def meterSumsRow : OpenClaim := { program := "ytbaaoenmnmpfjaa", sum := "360cb3bf88539be91f06e9aa7b60071757f87f03bd5d613e5589b3f2e5274127", func := "phalanx/phalanxlaw14.MeterSums", spec := "meterSums", inPlace := ["math.Float64frombits", "math.Float64bits"], apart := false }
def MeterSumsSaid : Prop := meterSumsRow.holds Try.pinned (OpenSpec.ofChange meterSumsSpec)

/-- ITS FALSE NEIGHBOUR: 'it returns false'. Refute it at one input. -/
def meterSumsWrong : ChangeSpec := { name := "meterSums", fn := fun _ => fun
  | [d] => { results := [.lit (.bool false)], args := [d] }
  | _ => none }
def MeterSumsWrongFalsely : Prop := meterSumsRow.holds Try.pinned (OpenSpec.ofChange meterSumsWrong)

/- THE SECOND FORM. 'bulk': how many values and letters a reading holds, each counted each time it is reached (what is shared counts as often as it is met; a slice's spare places count too). A statement '..UptoSaid' is the law's where the arguments, and the package variables that the reading takes, are together of bulk at most 1048576: NARROWER than '..Said'. Prove '..Said' where nothing that the law and all that it calls make is longer than what came in: it says more and counts as full. Else prove '..UptoSaid'. A law counts once. -/
mutual
def uptoBulk {H : Type} : DataW H → Nat
  | .lit (.string bytes) => bytes.length + 1
  | .lit _ => 1
  | .nil => 1
  | .ptr d => uptoBulk d + 1
  | .slice elems spare => uptoBulkAll elems + uptoBulkAll spare + 1
  | .agg parts => uptoBulkAll parts + 1
  | .iface _ d => uptoBulk d + 1
  | .map entries => uptoBulkEntries entries + 1
  | .held _ => 1
def uptoBulkAll {H : Type} : List (DataW H) → Nat
  | [] => 0
  | d :: r => uptoBulk d + uptoBulkAll r
def uptoBulkEntries {H : Type} : List (Lit × DataW H) → Nat
  | [] => 0
  | x :: r => uptoBulkEntry x + uptoBulkEntries r
def uptoBulkEntry {H : Type} : Lit × DataW H → Nat
  | (.string bytes, d) => bytes.length + uptoBulk d + 1
  | (_, d) => uptoBulk d + 1
 end
def uptoSmall : (H : Type) → List (DataW H) → Bool := fun _ ds => decide (uptoBulkAll ds ≤ 1048576)
def OpenSpec.upto (s : _root_.Go.ChangeSpec) : _root_.Go.OpenSpec := { _root_.Go.OpenSpec.ofChange s with cond := some uptoSmall }

/-- 'phalanxlaw14.MeterDoes', WHERE WHAT IT READS IS OF BULK AT MOST 1048576: true; the input reads as it did. -/
def meterDoesUptoRow : OpenClaim := { program := "ytbaaoenmnmpfjaa", sum := "360cb3bf88539be91f06e9aa7b60071757f87f03bd5d613e5589b3f2e5274127", func := "phalanx/phalanxlaw14.MeterDoes", spec := "meterDoes", inPlace := ["math.Float64frombits", "math.Float64bits"], apart := false, narrowed := true }
def MeterDoesUptoSaid : Prop := meterDoesUptoRow.holds Try.pinned (OpenSpec.upto meterDoesSpec)

/-- 'phalanxlaw14.MeterEnds', WHERE WHAT IT READS IS OF BULK AT MOST 1048576: true; the input reads as it did. -/
def meterEndsUptoRow : OpenClaim := { program := "ytbaaoenmnmpfjaa", sum := "360cb3bf88539be91f06e9aa7b60071757f87f03bd5d613e5589b3f2e5274127", func := "phalanx/phalanxlaw14.MeterEnds", spec := "meterEnds", inPlace := ["math.Float64frombits", "math.Float64bits"], apart := false, narrowed := true }
def MeterEndsUptoSaid : Prop := meterEndsUptoRow.holds Try.pinned (OpenSpec.upto meterEndsSpec)

/-- 'phalanxlaw14.MeterTurned', WHERE WHAT IT READS IS OF BULK AT MOST 1048576: true; the input reads as it did. -/
def meterTurnedUptoRow : OpenClaim := { program := "ytbaaoenmnmpfjaa", sum := "360cb3bf88539be91f06e9aa7b60071757f87f03bd5d613e5589b3f2e5274127", func := "phalanx/phalanxlaw14.MeterTurned", spec := "meterTurned", inPlace := ["math.Float64frombits", "math.Float64bits"], apart := false, narrowed := true }
def MeterTurnedUptoSaid : Prop := meterTurnedUptoRow.holds Try.pinned (OpenSpec.upto meterTurnedSpec)

/-- 'phalanxlaw14.MeterSums', WHERE WHAT IT READS IS OF BULK AT MOST 1048576: true; the input reads as it did. -/
def meterSumsUptoRow : OpenClaim := { program := "ytbaaoenmnmpfjaa", sum := "360cb3bf88539be91f06e9aa7b60071757f87f03bd5d613e5589b3f2e5274127", func := "phalanx/phalanxlaw14.MeterSums", spec := "meterSums", inPlace := ["math.Float64frombits", "math.Float64bits"], apart := false, narrowed := true }
def MeterSumsUptoSaid : Prop := meterSumsUptoRow.holds Try.pinned (OpenSpec.upto meterSumsSpec)

end Rows
end Go.Proofs.Ytbaaoenmnmpfjaa
