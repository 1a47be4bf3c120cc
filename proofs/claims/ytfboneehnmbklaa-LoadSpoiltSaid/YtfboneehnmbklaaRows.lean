/-
  No cell of these rows narrows 'for every input' (looked for: loops, veiled, ifaces, maps, wideKeys, modest, calm, conditions, laid).
  DERIVED. THE GIVEN ROWS OF THIS SEAT. 5 by the template 'for every input the law returns true; each argument reads behind the call as it read before'; 0 by the template 'total and deterministic' (their statements: YtfboneehnmbklaaTotals.lean).
  GIVEN WITH THE SEED: the statements are not yours to turn. If you find one false, say at which input.
  Laid BY PROGRAM, IN A SANDBOX (cutbox-rows.mjs): the forced cells as the released guide's own fill.sh prints them over the translation 740f0d5c52b8d2fe… (all of the seat's roots in one cut). By AI agents, Wed Nov 11 2026. No macro, syntax, notation, axiom, sorry.
-/
import Derived.Test.YtfboneehnmbklaaChecked
import GoSem.Claim
import GoSem.ClaimJoined
import GoSem.ClaimMapViews
import Derived.JoinedTies
import Derived.KernelRfl
namespace Go.Proofs.Ytfboneehnmbklaa
/- THE CELL 'sum', in the pinned program and in every row, IS THE sha256 OF THE DUMP (.gsa) THAT YtfboneehnmbklaaProg.lean LOADS. Nothing in Lean hashes anything: it is a label: what it is worth is what the hold of that sum in a sandbox is worth. -/
noncomputable def Try.pinned : Pinned := { name := "ytfboneehnmbklaa", sum := "740f0d5c52b8d2fe04c785fb35c297e90227046450e95f16900cc74896c637fb", checked := Try.checked }
namespace Rows
def none {H : Type} : Left H := { results := [], args := [] }

/-- 'phalanxlaw19.LoadCuts': WHATEVER THE INPUT: true; the input reads as it did. -/
def loadCutsSpec : ChangeSpec := { name := "loadCuts", fn := fun _ => fun
  | [d1, d2, d3] => { results := [.lit (.bool true)], args := [d1, d2, d3] }
  | _ => none }
def loadCutsRow : OpenClaim := { program := "ytfboneehnmbklaa", sum := "740f0d5c52b8d2fe04c785fb35c297e90227046450e95f16900cc74896c637fb", func := "phalanx/phalanxlaw19.LoadCuts", spec := "loadCuts", inPlace := ["internal/abi.NoEscape", "internal/bytealg.MakeNoZero"], apart := false }
def LoadCutsSaid : Prop := loadCutsRow.holds Try.pinned (OpenSpec.ofChange loadCutsSpec)

/-- ITS FALSE NEIGHBOUR: 'it returns false'. Refute it at one input. -/
def loadCutsWrong : ChangeSpec := { name := "loadCuts", fn := fun _ => fun
  | [d1, d2, d3] => { results := [.lit (.bool false)], args := [d1, d2, d3] }
  | _ => none }
def LoadCutsWrongFalsely : Prop := loadCutsRow.holds Try.pinned (OpenSpec.ofChange loadCutsWrong)

/-- 'phalanxlaw19.LoadTakes': WHATEVER THE INPUT: true; the input reads as it did. -/
def loadTakesSpec : ChangeSpec := { name := "loadTakes", fn := fun _ => fun
  | [d1, d2] => { results := [.lit (.bool true)], args := [d1, d2] }
  | _ => none }
def loadTakesRow : OpenClaim := { program := "ytfboneehnmbklaa", sum := "740f0d5c52b8d2fe04c785fb35c297e90227046450e95f16900cc74896c637fb", func := "phalanx/phalanxlaw19.LoadTakes", spec := "loadTakes", inPlace := ["internal/abi.NoEscape", "internal/bytealg.MakeNoZero"], apart := false }
def LoadTakesSaid : Prop := loadTakesRow.holds Try.pinned (OpenSpec.ofChange loadTakesSpec)

/-- ITS FALSE NEIGHBOUR: 'it returns false'. Refute it at one input. -/
def loadTakesWrong : ChangeSpec := { name := "loadTakes", fn := fun _ => fun
  | [d1, d2] => { results := [.lit (.bool false)], args := [d1, d2] }
  | _ => none }
def LoadTakesWrongFalsely : Prop := loadTakesRow.holds Try.pinned (OpenSpec.ofChange loadTakesWrong)

/-- 'phalanxlaw19.LoadPlays': WHATEVER THE INPUT: true; the input reads as it did. -/
def loadPlaysSpec : ChangeSpec := { name := "loadPlays", fn := fun _ => fun
  | [d1, d2] => { results := [.lit (.bool true)], args := [d1, d2] }
  | _ => none }
def loadPlaysRow : OpenClaim := { program := "ytfboneehnmbklaa", sum := "740f0d5c52b8d2fe04c785fb35c297e90227046450e95f16900cc74896c637fb", func := "phalanx/phalanxlaw19.LoadPlays", spec := "loadPlays", inPlace := ["internal/abi.NoEscape", "internal/bytealg.MakeNoZero"], apart := false }
def LoadPlaysSaid : Prop := loadPlaysRow.holds Try.pinned (OpenSpec.ofChange loadPlaysSpec)

/-- ITS FALSE NEIGHBOUR: 'it returns false'. Refute it at one input. -/
def loadPlaysWrong : ChangeSpec := { name := "loadPlays", fn := fun _ => fun
  | [d1, d2] => { results := [.lit (.bool false)], args := [d1, d2] }
  | _ => none }
def LoadPlaysWrongFalsely : Prop := loadPlaysRow.holds Try.pinned (OpenSpec.ofChange loadPlaysWrong)

/-- 'phalanxlaw19.LoadWhole': WHATEVER THE INPUT: true; the input reads as it did. -/
def loadWholeSpec : ChangeSpec := { name := "loadWhole", fn := fun _ => fun
  | [d1, d2, d3] => { results := [.lit (.bool true)], args := [d1, d2, d3] }
  | _ => none }
def loadWholeRow : OpenClaim := { program := "ytfboneehnmbklaa", sum := "740f0d5c52b8d2fe04c785fb35c297e90227046450e95f16900cc74896c637fb", func := "phalanx/phalanxlaw19.LoadWhole", spec := "loadWhole", inPlace := ["internal/abi.NoEscape", "internal/bytealg.MakeNoZero"], apart := false }
def LoadWholeSaid : Prop := loadWholeRow.holds Try.pinned (OpenSpec.ofChange loadWholeSpec)

/-- ITS FALSE NEIGHBOUR: 'it returns false'. Refute it at one input. -/
def loadWholeWrong : ChangeSpec := { name := "loadWhole", fn := fun _ => fun
  | [d1, d2, d3] => { results := [.lit (.bool false)], args := [d1, d2, d3] }
  | _ => none }
def LoadWholeWrongFalsely : Prop := loadWholeRow.holds Try.pinned (OpenSpec.ofChange loadWholeWrong)

/-- 'phalanxlaw19.LoadSpoilt': WHATEVER THE INPUT: true; the input reads as it did. -/
def loadSpoiltSpec : ChangeSpec := { name := "loadSpoilt", fn := fun _ => fun
  | [d1, d2, d3] => { results := [.lit (.bool true)], args := [d1, d2, d3] }
  | _ => none }
def loadSpoiltRow : OpenClaim := { program := "ytfboneehnmbklaa", sum := "740f0d5c52b8d2fe04c785fb35c297e90227046450e95f16900cc74896c637fb", func := "phalanx/phalanxlaw19.LoadSpoilt", spec := "loadSpoilt", inPlace := ["internal/abi.NoEscape", "internal/bytealg.MakeNoZero"], apart := false }
def LoadSpoiltSaid : Prop := loadSpoiltRow.holds Try.pinned (OpenSpec.ofChange loadSpoiltSpec)

/-- ITS FALSE NEIGHBOUR: 'it returns false'. Refute it at one input. -/
def loadSpoiltWrong : ChangeSpec := { name := "loadSpoilt", fn := fun _ => fun
  | [d1, d2, d3] => { results := [.lit (.bool false)], args := [d1, d2, d3] }
  | _ => none }
def LoadSpoiltWrongFalsely : Prop := loadSpoiltRow.holds Try.pinned (OpenSpec.ofChange loadSpoiltWrong)

/- THE SECOND FORM. 'bulk': how many values and letters a reading holds, each counted each time it is reached (what is shared counts as often as it is met; a slice's spare places count too). A statement '..UptoSaid' is the law's where the arguments, and the package variables that the reading takes, are together of bulk at most 1048576: NARROWER than '..Said'. Prove '..Said' where nothing that the law and all that it calls make is longer than what came in: it says more and counts as full. Else prove '..UptoSaid'. A law counts once. -/
mutual
def uptoBulk {H : Type} : DataW H → Nat
  | .lit (.string bytes) => bytes.length + 1
  | .lit _ => 1
  | .nil => 1
  | .ptr d => uptoBulk d + 1
  | .slice elems spare => uptoBulkAll elems + uptoBulkAll spare + 1
  | .agg parts => uptoBulkAll parts + 1
  | .iface _ d => uptoBulk d + 1
  | .map entries => uptoBulkEntries entries + 1
  | .held _ => 1
def uptoBulkAll {H : Type} : List (DataW H) → Nat
  | [] => 0
  | d :: r => uptoBulk d + uptoBulkAll r
def uptoBulkEntries {H : Type} : List (Lit × DataW H) → Nat
  | [] => 0
  | x :: r => uptoBulkEntry x + uptoBulkEntries r
def uptoBulkEntry {H : Type} : Lit × DataW H → Nat
  | (.string bytes, d) => bytes.length + uptoBulk d + 1
  | (_, d) => uptoBulk d + 1
 end
def uptoSmall : (H : Type) → List (DataW H) → Bool := fun _ ds => decide (uptoBulkAll ds ≤ 1048576)
def OpenSpec.upto (s : _root_.Go.ChangeSpec) : _root_.Go.OpenSpec := { _root_.Go.OpenSpec.ofChange s with cond := some uptoSmall }

/-- 'phalanxlaw19.LoadCuts', WHERE WHAT IT READS IS OF BULK AT MOST 1048576: true; the input reads as it did. -/
def loadCutsUptoRow : OpenClaim := { program := "ytfboneehnmbklaa", sum := "740f0d5c52b8d2fe04c785fb35c297e90227046450e95f16900cc74896c637fb", func := "phalanx/phalanxlaw19.LoadCuts", spec := "loadCuts", inPlace := ["internal/abi.NoEscape", "internal/bytealg.MakeNoZero"], apart := false, narrowed := true }
def LoadCutsUptoSaid : Prop := loadCutsUptoRow.holds Try.pinned (OpenSpec.upto loadCutsSpec)

/-- 'phalanxlaw19.LoadTakes', WHERE WHAT IT READS IS OF BULK AT MOST 1048576: true; the input reads as it did. -/
def loadTakesUptoRow : OpenClaim := { program := "ytfboneehnmbklaa", sum := "740f0d5c52b8d2fe04c785fb35c297e90227046450e95f16900cc74896c637fb", func := "phalanx/phalanxlaw19.LoadTakes", spec := "loadTakes", inPlace := ["internal/abi.NoEscape", "internal/bytealg.MakeNoZero"], apart := false, narrowed := true }
def LoadTakesUptoSaid : Prop := loadTakesUptoRow.holds Try.pinned (OpenSpec.upto loadTakesSpec)

/-- 'phalanxlaw19.LoadPlays', WHERE WHAT IT READS IS OF BULK AT MOST 1048576: true; the input reads as it did. -/
def loadPlaysUptoRow : OpenClaim := { program := "ytfboneehnmbklaa", sum := "740f0d5c52b8d2fe04c785fb35c297e90227046450e95f16900cc74896c637fb", func := "phalanx/phalanxlaw19.LoadPlays", spec := "loadPlays", inPlace := ["internal/abi.NoEscape", "internal/bytealg.MakeNoZero"], apart := false, narrowed := true }
def LoadPlaysUptoSaid : Prop := loadPlaysUptoRow.holds Try.pinned (OpenSpec.upto loadPlaysSpec)

/-- 'phalanxlaw19.LoadWhole', WHERE WHAT IT READS IS OF BULK AT MOST 1048576: true; the input reads as it did. -/
def loadWholeUptoRow : OpenClaim := { program := "ytfboneehnmbklaa", sum := "740f0d5c52b8d2fe04c785fb35c297e90227046450e95f16900cc74896c637fb", func := "phalanx/phalanxlaw19.LoadWhole", spec := "loadWhole", inPlace := ["internal/abi.NoEscape", "internal/bytealg.MakeNoZero"], apart := false, narrowed := true }
def LoadWholeUptoSaid : Prop := loadWholeUptoRow.holds Try.pinned (OpenSpec.upto loadWholeSpec)

/-- 'phalanxlaw19.LoadSpoilt', WHERE WHAT IT READS IS OF BULK AT MOST 1048576: true; the input reads as it did. -/
def loadSpoiltUptoRow : OpenClaim := { program := "ytfboneehnmbklaa", sum := "740f0d5c52b8d2fe04c785fb35c297e90227046450e95f16900cc74896c637fb", func := "phalanx/phalanxlaw19.LoadSpoilt", spec := "loadSpoilt", inPlace := ["internal/abi.NoEscape", "internal/bytealg.MakeNoZero"], apart := false, narrowed := true }
def LoadSpoiltUptoSaid : Prop := loadSpoiltUptoRow.holds Try.pinned (OpenSpec.upto loadSpoiltSpec)

end Rows
end Go.Proofs.Ytfboneehnmbklaa
