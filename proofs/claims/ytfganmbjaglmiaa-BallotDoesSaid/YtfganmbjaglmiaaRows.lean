/-
  No cell of these rows narrows 'for every input' (looked for: loops, veiled, ifaces, maps, wideKeys, modest, calm, conditions, laid).
  DERIVED. THE GIVEN ROWS OF THIS SEAT. 5 by the template 'for every input the law returns true; each argument reads behind the call as it read before'; 0 by the template 'total and deterministic' (their statements: YtfganmbjaglmiaaTotals.lean).
  GIVEN WITH THE SEED: the statements are not yours to turn. If you find one false, say at which input.
  Laid BY PROGRAM, IN A SANDBOX (cutbox-rows.mjs): the forced cells as the released guide's own fill.sh prints them over the translation 76228fd9a0ff444d… (all of the seat's roots in one cut). By AI agents, Wed Nov 11 2026. No macro, syntax, notation, axiom, sorry.
-/
import Derived.Test.YtfganmbjaglmiaaChecked
import GoSem.Claim
import GoSem.ClaimJoined
import GoSem.ClaimMapViews
import Derived.JoinedTies
import Derived.KernelRfl
namespace Go.Proofs.Ytfganmbjaglmiaa
/- THE CELL 'sum', in the pinned program and in every row, IS THE sha256 OF THE DUMP (.gsa) THAT YtfganmbjaglmiaaProg.lean LOADS. Nothing in Lean hashes anything: it is a label: what it is worth is what the hold of that sum in a sandbox is worth. -/
noncomputable def Try.pinned : Pinned := { name := "ytfganmbjaglmiaa", sum := "76228fd9a0ff444d72074f356a72994eebf3d4e75569e78587f840f14532d9dc", checked := Try.checked }
namespace Rows
def none {H : Type} : Left H := { results := [], args := [] }

/-- 'phalanxlaw20.BallotOrders': WHATEVER THE INPUT: true; the input reads as it did. -/
def ballotOrdersSpec : ChangeSpec := { name := "ballotOrders", fn := fun _ => fun
  | [d1, d2, d3] => { results := [.lit (.bool true)], args := [d1, d2, d3] }
  | _ => none }
def ballotOrdersRow : OpenClaim := { program := "ytfganmbjaglmiaa", sum := "76228fd9a0ff444d72074f356a72994eebf3d4e75569e78587f840f14532d9dc", func := "phalanx/phalanxlaw20.BallotOrders", spec := "ballotOrders", apart := false }
def BallotOrdersSaid : Prop := ballotOrdersRow.holds Try.pinned (OpenSpec.ofChange ballotOrdersSpec)

/-- ITS FALSE NEIGHBOUR: 'it returns false'. Refute it at one input. -/
def ballotOrdersWrong : ChangeSpec := { name := "ballotOrders", fn := fun _ => fun
  | [d1, d2, d3] => { results := [.lit (.bool false)], args := [d1, d2, d3] }
  | _ => none }
def BallotOrdersWrongFalsely : Prop := ballotOrdersRow.holds Try.pinned (OpenSpec.ofChange ballotOrdersWrong)

/-- 'phalanxlaw20.BallotDoes': WHATEVER THE INPUT: true; the input reads as it did. -/
def ballotDoesSpec : ChangeSpec := { name := "ballotDoes", fn := fun _ => fun
  | [d1, d2, d3] => { results := [.lit (.bool true)], args := [d1, d2, d3] }
  | _ => none }
def ballotDoesRow : OpenClaim := { program := "ytfganmbjaglmiaa", sum := "76228fd9a0ff444d72074f356a72994eebf3d4e75569e78587f840f14532d9dc", func := "phalanx/phalanxlaw20.BallotDoes", spec := "ballotDoes", apart := false }
def BallotDoesSaid : Prop := ballotDoesRow.holds Try.pinned (OpenSpec.ofChange ballotDoesSpec)

/-- ITS FALSE NEIGHBOUR: 'it returns false'. Refute it at one input. -/
def ballotDoesWrong : ChangeSpec := { name := "ballotDoes", fn := fun _ => fun
  | [d1, d2, d3] => { results := [.lit (.bool false)], args := [d1, d2, d3] }
  | _ => none }
def BallotDoesWrongFalsely : Prop := ballotDoesRow.holds Try.pinned (OpenSpec.ofChange ballotDoesWrong)

/-- 'phalanxlaw20.BallotChooses': WHATEVER THE INPUT: true; the input reads as it did. -/
def ballotChoosesSpec : ChangeSpec := { name := "ballotChooses", fn := fun _ => fun
  | [d] => { results := [.lit (.bool true)], args := [d] }
  | _ => none }
def ballotChoosesRow : OpenClaim := { program := "ytfganmbjaglmiaa", sum := "76228fd9a0ff444d72074f356a72994eebf3d4e75569e78587f840f14532d9dc", func := "phalanx/phalanxlaw20.BallotChooses", spec := "ballotChooses", apart := false }
def BallotChoosesSaid : Prop := ballotChoosesRow.holds Try.pinned (OpenSpec.ofChange ballotChoosesSpec)

/-- ITS FALSE NEIGHBOUR: 'it returns false'. Refute it at one input. -/
def ballotChoosesWrong : ChangeSpec := { name := "ballotChooses", fn := fun _ => fun
  | [d] => { results := [.lit (.bool false)], args := [d] }
  | _ => none }
def BallotChoosesWrongFalsely : Prop := ballotChoosesRow.holds Try.pinned (OpenSpec.ofChange ballotChoosesWrong)

/-- 'phalanxlaw20.BallotOne': WHATEVER THE INPUT: true; the input reads as it did. -/
def ballotOneSpec : ChangeSpec := { name := "ballotOne", fn := fun _ => fun
  | [d1, d2] => { results := [.lit (.bool true)], args := [d1, d2] }
  | _ => none }
def ballotOneRow : OpenClaim := { program := "ytfganmbjaglmiaa", sum := "76228fd9a0ff444d72074f356a72994eebf3d4e75569e78587f840f14532d9dc", func := "phalanx/phalanxlaw20.BallotOne", spec := "ballotOne", apart := false }
def BallotOneSaid : Prop := ballotOneRow.holds Try.pinned (OpenSpec.ofChange ballotOneSpec)

/-- ITS FALSE NEIGHBOUR: 'it returns false'. Refute it at one input. -/
def ballotOneWrong : ChangeSpec := { name := "ballotOne", fn := fun _ => fun
  | [d1, d2] => { results := [.lit (.bool false)], args := [d1, d2] }
  | _ => none }
def BallotOneWrongFalsely : Prop := ballotOneRow.holds Try.pinned (OpenSpec.ofChange ballotOneWrong)

/-- 'phalanxlaw20.BallotMeets': WHATEVER THE INPUT: true; the input reads as it did. -/
def ballotMeetsSpec : ChangeSpec := { name := "ballotMeets", fn := fun _ => fun
  | [d1, d2, d3] => { results := [.lit (.bool true)], args := [d1, d2, d3] }
  | _ => none }
def ballotMeetsRow : OpenClaim := { program := "ytfganmbjaglmiaa", sum := "76228fd9a0ff444d72074f356a72994eebf3d4e75569e78587f840f14532d9dc", func := "phalanx/phalanxlaw20.BallotMeets", spec := "ballotMeets", apart := false }
def BallotMeetsSaid : Prop := ballotMeetsRow.holds Try.pinned (OpenSpec.ofChange ballotMeetsSpec)

/-- ITS FALSE NEIGHBOUR: 'it returns false'. Refute it at one input. -/
def ballotMeetsWrong : ChangeSpec := { name := "ballotMeets", fn := fun _ => fun
  | [d1, d2, d3] => { results := [.lit (.bool false)], args := [d1, d2, d3] }
  | _ => none }
def BallotMeetsWrongFalsely : Prop := ballotMeetsRow.holds Try.pinned (OpenSpec.ofChange ballotMeetsWrong)

/- THE SECOND FORM. 'bulk': how many values and letters a reading holds, each counted each time it is reached (what is shared counts as often as it is met; a slice's spare places count too). A statement '..UptoSaid' is the law's where the arguments, and the package variables that the reading takes, are together of bulk at most 1048576: NARROWER than '..Said'. Prove '..Said' where nothing that the law and all that it calls make is longer than what came in: it says more and counts as full. Else prove '..UptoSaid'. A law counts once. -/
mutual
def uptoBulk {H : Type} : DataW H → Nat
  | .lit (.string bytes) => bytes.length + 1
  | .lit _ => 1
  | .nil => 1
  | .ptr d => uptoBulk d + 1
  | .slice elems spare => uptoBulkAll elems + uptoBulkAll spare + 1
  | .agg parts => uptoBulkAll parts + 1
  | .iface _ d => uptoBulk d + 1
  | .map entries => uptoBulkEntries entries + 1
  | .held _ => 1
def uptoBulkAll {H : Type} : List (DataW H) → Nat
  | [] => 0
  | d :: r => uptoBulk d + uptoBulkAll r
def uptoBulkEntries {H : Type} : List (Lit × DataW H) → Nat
  | [] => 0
  | x :: r => uptoBulkEntry x + uptoBulkEntries r
def uptoBulkEntry {H : Type} : Lit × DataW H → Nat
  | (.string bytes, d) => bytes.length + uptoBulk d + 1
  | (_, d) => uptoBulk d + 1
 end
def uptoSmall : (H : Type) → List (DataW H) → Bool := fun _ ds => decide (uptoBulkAll ds ≤ 1048576)
def OpenSpec.upto (s : _root_.Go.ChangeSpec) : _root_.Go.OpenSpec := { _root_.Go.OpenSpec.ofChange s with cond := some uptoSmall }

/-- 'phalanxlaw20.BallotOrders', WHERE WHAT IT READS IS OF BULK AT MOST 1048576: true; the input reads as it did. -/
def ballotOrdersUptoRow : OpenClaim := { program := "ytfganmbjaglmiaa", sum := "76228fd9a0ff444d72074f356a72994eebf3d4e75569e78587f840f14532d9dc", func := "phalanx/phalanxlaw20.BallotOrders", spec := "ballotOrders", apart := false, narrowed := true }
def BallotOrdersUptoSaid : Prop := ballotOrdersUptoRow.holds Try.pinned (OpenSpec.upto ballotOrdersSpec)

/-- 'phalanxlaw20.BallotDoes', WHERE WHAT IT READS IS OF BULK AT MOST 1048576: true; the input reads as it did. -/
def ballotDoesUptoRow : OpenClaim := { program := "ytfganmbjaglmiaa", sum := "76228fd9a0ff444d72074f356a72994eebf3d4e75569e78587f840f14532d9dc", func := "phalanx/phalanxlaw20.BallotDoes", spec := "ballotDoes", apart := false, narrowed := true }
def BallotDoesUptoSaid : Prop := ballotDoesUptoRow.holds Try.pinned (OpenSpec.upto ballotDoesSpec)

/-- 'phalanxlaw20.BallotChooses', WHERE WHAT IT READS IS OF BULK AT MOST 1048576: true; the input reads as it did. -/
def ballotChoosesUptoRow : OpenClaim := { program := "ytfganmbjaglmiaa", sum := "76228fd9a0ff444d72074f356a72994eebf3d4e75569e78587f840f14532d9dc", func := "phalanx/phalanxlaw20.BallotChooses", spec := "ballotChooses", apart := false, narrowed := true }
def BallotChoosesUptoSaid : Prop := ballotChoosesUptoRow.holds Try.pinned (OpenSpec.upto ballotChoosesSpec)

/-- 'phalanxlaw20.BallotOne', WHERE WHAT IT READS IS OF BULK AT MOST 1048576: true; the input reads as it did. -/
def ballotOneUptoRow : OpenClaim := { program := "ytfganmbjaglmiaa", sum := "76228fd9a0ff444d72074f356a72994eebf3d4e75569e78587f840f14532d9dc", func := "phalanx/phalanxlaw20.BallotOne", spec := "ballotOne", apart := false, narrowed := true }
def BallotOneUptoSaid : Prop := ballotOneUptoRow.holds Try.pinned (OpenSpec.upto ballotOneSpec)

/-- 'phalanxlaw20.BallotMeets', WHERE WHAT IT READS IS OF BULK AT MOST 1048576: true; the input reads as it did. -/
def ballotMeetsUptoRow : OpenClaim := { program := "ytfganmbjaglmiaa", sum := "76228fd9a0ff444d72074f356a72994eebf3d4e75569e78587f840f14532d9dc", func := "phalanx/phalanxlaw20.BallotMeets", spec := "ballotMeets", apart := false, narrowed := true }
def BallotMeetsUptoSaid : Prop := ballotMeetsUptoRow.holds Try.pinned (OpenSpec.upto ballotMeetsSpec)

end Rows
end Go.Proofs.Ytfganmbjaglmiaa
