/-
  No cell of these rows narrows 'for every input' (looked for: loops, veiled, ifaces, maps, wideKeys, modest, calm, conditions, laid).
  DERIVED. THE GIVEN ROWS OF THIS SEAT. 6 by the template 'for every input the law returns true; each argument reads behind the call as it read before'; 0 by the template 'total and deterministic' (their statements: YtddpmlcpfmmbeaaGreatTotals.lean).
  GIVEN WITH THE SEED: the statements are not yours to turn. If you find one false, say at which input.
  Laid BY PROGRAM, IN A SANDBOX (cutbox-rows.mjs): the forced cells as the released guide's own fill.sh prints them over the translation 02d649d07a807d98… (all of the seat's roots in one cut). By AI agents, Wed Nov 11 2026. No macro, syntax, notation, axiom, sorry.
-/
import Derived.Test.YtddpmlcpfmmbeaaGreatChecked
import GoSem.Claim
import GoSem.ClaimJoined
import GoSem.ClaimMapViews
import Derived.JoinedTies
import Derived.KernelRfl
namespace Go.Proofs.YtddpmlcpfmmbeaaGreat
/- THE CELL 'sum', in the pinned program and in every row, IS THE sha256 OF THE DUMP (.gsa) THAT YtddpmlcpfmmbeaaGreatProg.lean LOADS. Nothing in Lean hashes anything: it is a label: what it is worth is what the hold of that sum in a sandbox is worth. -/
noncomputable def Tryz.pinned : Pinned := { name := "ytddpmlcpfmmbeaagreat", sum := "02d649d07a807d9815c39b7ebf845a524bf32a768b6ecf811759c0b06cac1707", checked := Tryz.checked }
namespace Rows
def none {H : Type} : Left H := { results := [], args := [] }

/-- 'phalanxlaw17.ApplyDoes': WHATEVER THE INPUT: true; the input reads as it did. -/
def applyDoesSpec : ChangeSpec := { name := "applyDoes", fn := fun _ => fun
  | [d1, d2] => { results := [.lit (.bool true)], args := [d1, d2] }
  | _ => none }
def applyDoesRow : OpenClaim := { program := "ytddpmlcpfmmbeaagreat", sum := "02d649d07a807d9815c39b7ebf845a524bf32a768b6ecf811759c0b06cac1707", func := "phalanx/phalanxlaw17.ApplyDoes", spec := "applyDoes", inPlace := ["math.Float64frombits", "math.Float64bits"], apart := false }
def ApplyDoesSaid : Prop := applyDoesRow.holds Tryz.pinned (OpenSpec.ofChange applyDoesSpec)

/-- ITS FALSE NEIGHBOUR: 'it returns false'. Refute it at one input. -/
def applyDoesWrong : ChangeSpec := { name := "applyDoes", fn := fun _ => fun
  | [d1, d2] => { results := [.lit (.bool false)], args := [d1, d2] }
  | _ => none }
def ApplyDoesWrongFalsely : Prop := applyDoesRow.holds Tryz.pinned (OpenSpec.ofChange applyDoesWrong)

/-- 'phalanxlaw17.ApplyPlays': WHATEVER THE INPUT: true; the input reads as it did. -/
def applyPlaysSpec : ChangeSpec := { name := "applyPlays", fn := fun _ => fun
  | [d] => { results := [.lit (.bool true)], args := [d] }
  | _ => none }
def applyPlaysRow : OpenClaim := { program := "ytddpmlcpfmmbeaagreat", sum := "02d649d07a807d9815c39b7ebf845a524bf32a768b6ecf811759c0b06cac1707", func := "phalanx/phalanxlaw17.ApplyPlays", spec := "applyPlays", inPlace := ["math.Float64frombits", "math.Float64bits"], apart := false }
def ApplyPlaysSaid : Prop := applyPlaysRow.holds Tryz.pinned (OpenSpec.ofChange applyPlaysSpec)

/-- ITS FALSE NEIGHBOUR: 'it returns false'. Refute it at one input. -/
def applyPlaysWrong : ChangeSpec := { name := "applyPlays", fn := fun _ => fun
  | [d] => { results := [.lit (.bool false)], args := [d] }
  | _ => none }
def ApplyPlaysWrongFalsely : Prop := applyPlaysRow.holds Tryz.pinned (OpenSpec.ofChange applyPlaysWrong)

/-- 'phalanxlaw17.ApplyTwice': WHATEVER THE INPUT: true; the input reads as it did. -/
def applyTwiceSpec : ChangeSpec := { name := "applyTwice", fn := fun _ => fun
  | [d1, d2] => { results := [.lit (.bool true)], args := [d1, d2] }
  | _ => none }
def applyTwiceRow : OpenClaim := { program := "ytddpmlcpfmmbeaagreat", sum := "02d649d07a807d9815c39b7ebf845a524bf32a768b6ecf811759c0b06cac1707", func := "phalanx/phalanxlaw17.ApplyTwice", spec := "applyTwice", inPlace := ["math.Float64frombits", "math.Float64bits"], apart := false }
def ApplyTwiceSaid : Prop := applyTwiceRow.holds Tryz.pinned (OpenSpec.ofChange applyTwiceSpec)

/-- ITS FALSE NEIGHBOUR: 'it returns false'. Refute it at one input. -/
def applyTwiceWrong : ChangeSpec := { name := "applyTwice", fn := fun _ => fun
  | [d1, d2] => { results := [.lit (.bool false)], args := [d1, d2] }
  | _ => none }
def ApplyTwiceWrongFalsely : Prop := applyTwiceRow.holds Tryz.pinned (OpenSpec.ofChange applyTwiceWrong)

/-- 'phalanxlaw17.ApplyRefused': WHATEVER THE INPUT: true; the input reads as it did. -/
def applyRefusedSpec : ChangeSpec := { name := "applyRefused", fn := fun _ => fun
  | [d1, d2] => { results := [.lit (.bool true)], args := [d1, d2] }
  | _ => none }
def applyRefusedRow : OpenClaim := { program := "ytddpmlcpfmmbeaagreat", sum := "02d649d07a807d9815c39b7ebf845a524bf32a768b6ecf811759c0b06cac1707", func := "phalanx/phalanxlaw17.ApplyRefused", spec := "applyRefused", inPlace := ["math.Float64frombits", "math.Float64bits"], apart := false }
def ApplyRefusedSaid : Prop := applyRefusedRow.holds Tryz.pinned (OpenSpec.ofChange applyRefusedSpec)

/-- ITS FALSE NEIGHBOUR: 'it returns false'. Refute it at one input. -/
def applyRefusedWrong : ChangeSpec := { name := "applyRefused", fn := fun _ => fun
  | [d1, d2] => { results := [.lit (.bool false)], args := [d1, d2] }
  | _ => none }
def ApplyRefusedWrongFalsely : Prop := applyRefusedRow.holds Tryz.pinned (OpenSpec.ofChange applyRefusedWrong)

/-- 'phalanxlaw17.ApplyLeaves': WHATEVER THE INPUT: true; the input reads as it did. -/
def applyLeavesSpec : ChangeSpec := { name := "applyLeaves", fn := fun _ => fun
  | [d1, d2, d3] => { results := [.lit (.bool true)], args := [d1, d2, d3] }
  | _ => none }
def applyLeavesRow : OpenClaim := { program := "ytddpmlcpfmmbeaagreat", sum := "02d649d07a807d9815c39b7ebf845a524bf32a768b6ecf811759c0b06cac1707", func := "phalanx/phalanxlaw17.ApplyLeaves", spec := "applyLeaves", inPlace := ["math.Float64frombits", "math.Float64bits"], apart := false }
def ApplyLeavesSaid : Prop := applyLeavesRow.holds Tryz.pinned (OpenSpec.ofChange applyLeavesSpec)

/-- ITS FALSE NEIGHBOUR: 'it returns false'. Refute it at one input. -/
def applyLeavesWrong : ChangeSpec := { name := "applyLeaves", fn := fun _ => fun
  | [d1, d2, d3] => { results := [.lit (.bool false)], args := [d1, d2, d3] }
  | _ => none }
def ApplyLeavesWrongFalsely : Prop := applyLeavesRow.holds Tryz.pinned (OpenSpec.ofChange applyLeavesWrong)

/-- 'phalanxlaw17.ApplyOnce': WHATEVER THE INPUT: true; the input reads as it did. -/
def applyOnceSpec : ChangeSpec := { name := "applyOnce", fn := fun _ => fun
  | [d] => { results := [.lit (.bool true)], args := [d] }
  | _ => none }
def applyOnceRow : OpenClaim := { program := "ytddpmlcpfmmbeaagreat", sum := "02d649d07a807d9815c39b7ebf845a524bf32a768b6ecf811759c0b06cac1707", func := "phalanx/phalanxlaw17.ApplyOnce", spec := "applyOnce", inPlace := ["math.Float64frombits", "math.Float64bits"], apart := false }
def ApplyOnceSaid : Prop := applyOnceRow.holds Tryz.pinned (OpenSpec.ofChange applyOnceSpec)

/-- ITS FALSE NEIGHBOUR: 'it returns false'. Refute it at one input. -/
def applyOnceWrong : ChangeSpec := { name := "applyOnce", fn := fun _ => fun
  | [d] => { results := [.lit (.bool false)], args := [d] }
  | _ => none }
def ApplyOnceWrongFalsely : Prop := applyOnceRow.holds Tryz.pinned (OpenSpec.ofChange applyOnceWrong)

/- THE SECOND FORM. 'bulk': how many values and letters a reading holds, each counted each time it is reached (what is shared counts as often as it is met; a slice's spare places count too). A statement '..UptoSaid' is the law's where the arguments, and the package variables that the reading takes, are together of bulk at most 1048576: NARROWER than '..Said'. Prove '..Said' where nothing that the law and all that it calls make is longer than what came in: it says more and counts as full. Else prove '..UptoSaid'. A law counts once. -/
mutual
def uptoBulk {H : Type} : DataW H → Nat
  | .lit (.string bytes) => bytes.length + 1
  | .lit _ => 1
  | .nil => 1
  | .ptr d => uptoBulk d + 1
  | .slice elems spare => uptoBulkAll elems + uptoBulkAll spare + 1
  | .agg parts => uptoBulkAll parts + 1
  | .iface _ d => uptoBulk d + 1
  | .map entries => uptoBulkEntries entries + 1
  | .held _ => 1
def uptoBulkAll {H : Type} : List (DataW H) → Nat
  | [] => 0
  | d :: r => uptoBulk d + uptoBulkAll r
def uptoBulkEntries {H : Type} : List (Lit × DataW H) → Nat
  | [] => 0
  | x :: r => uptoBulkEntry x + uptoBulkEntries r
def uptoBulkEntry {H : Type} : Lit × DataW H → Nat
  | (.string bytes, d) => bytes.length + uptoBulk d + 1
  | (_, d) => uptoBulk d + 1
 end
def uptoSmall : (H : Type) → List (DataW H) → Bool := fun _ ds => decide (uptoBulkAll ds ≤ 1048576)
def OpenSpec.upto (s : _root_.Go.ChangeSpec) : _root_.Go.OpenSpec := { _root_.Go.OpenSpec.ofChange s with cond := some uptoSmall }

/-- 'phalanxlaw17.ApplyDoes', WHERE WHAT IT READS IS OF BULK AT MOST 1048576: true; the input reads as it did. -/
def applyDoesUptoRow : OpenClaim := { program := "ytddpmlcpfmmbeaagreat", sum := "02d649d07a807d9815c39b7ebf845a524bf32a768b6ecf811759c0b06cac1707", func := "phalanx/phalanxlaw17.ApplyDoes", spec := "applyDoes", inPlace := ["math.Float64frombits", "math.Float64bits"], apart := false, narrowed := true }
def ApplyDoesUptoSaid : Prop := applyDoesUptoRow.holds Tryz.pinned (OpenSpec.upto applyDoesSpec)

/-- 'phalanxlaw17.ApplyPlays', WHERE WHAT IT READS IS OF BULK AT MOST 1048576: true; the input reads as it did. -/
def applyPlaysUptoRow : OpenClaim := { program := "ytddpmlcpfmmbeaagreat", sum := "02d649d07a807d9815c39b7ebf845a524bf32a768b6ecf811759c0b06cac1707", func := "phalanx/phalanxlaw17.ApplyPlays", spec := "applyPlays", inPlace := ["math.Float64frombits", "math.Float64bits"], apart := false, narrowed := true }
def ApplyPlaysUptoSaid : Prop := applyPlaysUptoRow.holds Tryz.pinned (OpenSpec.upto applyPlaysSpec)

/-- 'phalanxlaw17.ApplyTwice', WHERE WHAT IT READS IS OF BULK AT MOST 1048576: true; the input reads as it did. -/
def applyTwiceUptoRow : OpenClaim := { program := "ytddpmlcpfmmbeaagreat", sum := "02d649d07a807d9815c39b7ebf845a524bf32a768b6ecf811759c0b06cac1707", func := "phalanx/phalanxlaw17.ApplyTwice", spec := "applyTwice", inPlace := ["math.Float64frombits", "math.Float64bits"], apart := false, narrowed := true }
def ApplyTwiceUptoSaid : Prop := applyTwiceUptoRow.holds Tryz.pinned (OpenSpec.upto applyTwiceSpec)

/-- 'phalanxlaw17.ApplyRefused', WHERE WHAT IT READS IS OF BULK AT MOST 1048576: true; the input reads as it did. -/
def applyRefusedUptoRow : OpenClaim := { program := "ytddpmlcpfmmbeaagreat", sum := "02d649d07a807d9815c39b7ebf845a524bf32a768b6ecf811759c0b06cac1707", func := "phalanx/phalanxlaw17.ApplyRefused", spec := "applyRefused", inPlace := ["math.Float64frombits", "math.Float64bits"], apart := false, narrowed := true }
def ApplyRefusedUptoSaid : Prop := applyRefusedUptoRow.holds Tryz.pinned (OpenSpec.upto applyRefusedSpec)

/-- 'phalanxlaw17.ApplyLeaves', WHERE WHAT IT READS IS OF BULK AT MOST 1048576: true; the input reads as it did. -/
def applyLeavesUptoRow : OpenClaim := { program := "ytddpmlcpfmmbeaagreat", sum := "02d649d07a807d9815c39b7ebf845a524bf32a768b6ecf811759c0b06cac1707", func := "phalanx/phalanxlaw17.ApplyLeaves", spec := "applyLeaves", inPlace := ["math.Float64frombits", "math.Float64bits"], apart := false, narrowed := true }
def ApplyLeavesUptoSaid : Prop := applyLeavesUptoRow.holds Tryz.pinned (OpenSpec.upto applyLeavesSpec)

/-- 'phalanxlaw17.ApplyOnce', WHERE WHAT IT READS IS OF BULK AT MOST 1048576: true; the input reads as it did. -/
def applyOnceUptoRow : OpenClaim := { program := "ytddpmlcpfmmbeaagreat", sum := "02d649d07a807d9815c39b7ebf845a524bf32a768b6ecf811759c0b06cac1707", func := "phalanx/phalanxlaw17.ApplyOnce", spec := "applyOnce", inPlace := ["math.Float64frombits", "math.Float64bits"], apart := false, narrowed := true }
def ApplyOnceUptoSaid : Prop := applyOnceUptoRow.holds Tryz.pinned (OpenSpec.upto applyOnceSpec)

end Rows
end Go.Proofs.YtddpmlcpfmmbeaaGreat
