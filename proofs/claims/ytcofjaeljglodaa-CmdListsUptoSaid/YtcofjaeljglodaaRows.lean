/-
  No cell of these rows narrows 'for every input' (looked for: loops, veiled, ifaces, maps, wideKeys, modest, calm, conditions, laid).
  DERIVED. THE GIVEN ROWS OF THIS SEAT. 5 by the template 'for every input the law returns true; each argument reads behind the call as it read before'; 0 by the template 'total and deterministic' (their statements: YtcofjaeljglodaaTotals.lean).
  GIVEN WITH THE SEED: the statements are not yours to turn. If you find one false, say at which input.
  Laid BY PROGRAM, IN A SANDBOX (cutbox-rows.mjs): the forced cells as the released guide's own fill.sh prints them over the translation 6a06b2c04089375e… (all of the seat's roots in one cut). By AI agents, Wed Nov 11 2026. No macro, syntax, notation, axiom, sorry.
-/
import Derived.Test.YtcofjaeljglodaaChecked
import GoSem.Claim
import GoSem.ClaimJoined
import GoSem.ClaimMapViews
import Derived.JoinedTies
import Derived.KernelRfl
namespace Go.Proofs.Ytcofjaeljglodaa
/- THE CELL 'sum', in the pinned program and in every row, IS THE sha256 OF THE DUMP (.gsa) THAT YtcofjaeljglodaaProg.lean LOADS. Nothing in Lean hashes anything: it is a label: what it is worth is what the hold of that sum in a sandbox is worth. -/
noncomputable def Try.pinned : Pinned := { name := "ytcofjaeljglodaa", sum := "6a06b2c04089375edd141102eeee8393a9fcde9f6d01eb2be492e8263e235ac1", checked := Try.checked }
namespace Rows
def none {H : Type} : Left H := { results := [], args := [] }

/-- 'phalanxlaw09.CmdChecks': WHATEVER THE INPUT: true; the input reads as it did. -/
def cmdChecksSpec : ChangeSpec := { name := "cmdChecks", fn := fun _ => fun
  | [d] => { results := [.lit (.bool true)], args := [d] }
  | _ => none }
def cmdChecksRow : OpenClaim := { program := "ytcofjaeljglodaa", sum := "6a06b2c04089375edd141102eeee8393a9fcde9f6d01eb2be492e8263e235ac1", func := "phalanx/phalanxlaw09.CmdChecks", spec := "cmdChecks", apart := false }
def CmdChecksSaid : Prop := cmdChecksRow.holds Try.pinned (OpenSpec.ofChange cmdChecksSpec)

/-- ITS FALSE NEIGHBOUR: 'it returns false'. Refute it at one input. -/
def cmdChecksWrong : ChangeSpec := { name := "cmdChecks", fn := fun _ => fun
  | [d] => { results := [.lit (.bool false)], args := [d] }
  | _ => none }
def CmdChecksWrongFalsely : Prop := cmdChecksRow.holds Try.pinned (OpenSpec.ofChange cmdChecksWrong)

/-- 'phalanxlaw09.CmdFits': WHATEVER THE INPUT: true; the input reads as it did. -/
def cmdFitsSpec : ChangeSpec := { name := "cmdFits", fn := fun _ => fun
  | [d] => { results := [.lit (.bool true)], args := [d] }
  | _ => none }
def cmdFitsRow : OpenClaim := { program := "ytcofjaeljglodaa", sum := "6a06b2c04089375edd141102eeee8393a9fcde9f6d01eb2be492e8263e235ac1", func := "phalanx/phalanxlaw09.CmdFits", spec := "cmdFits", apart := false }
def CmdFitsSaid : Prop := cmdFitsRow.holds Try.pinned (OpenSpec.ofChange cmdFitsSpec)

/-- ITS FALSE NEIGHBOUR: 'it returns false'. Refute it at one input. -/
def cmdFitsWrong : ChangeSpec := { name := "cmdFits", fn := fun _ => fun
  | [d] => { results := [.lit (.bool false)], args := [d] }
  | _ => none }
def CmdFitsWrongFalsely : Prop := cmdFitsRow.holds Try.pinned (OpenSpec.ofChange cmdFitsWrong)

/-- 'phalanxlaw09.CmdNames': WHATEVER THE INPUT: true; the input reads as it did. -/
def cmdNamesSpec : ChangeSpec := { name := "cmdNames", fn := fun _ => fun
  | [d1, d2] => { results := [.lit (.bool true)], args := [d1, d2] }
  | _ => none }
def cmdNamesRow : OpenClaim := { program := "ytcofjaeljglodaa", sum := "6a06b2c04089375edd141102eeee8393a9fcde9f6d01eb2be492e8263e235ac1", func := "phalanx/phalanxlaw09.CmdNames", spec := "cmdNames", apart := false }
def CmdNamesSaid : Prop := cmdNamesRow.holds Try.pinned (OpenSpec.ofChange cmdNamesSpec)

/-- ITS FALSE NEIGHBOUR: 'it returns false'. Refute it at one input. -/
def cmdNamesWrong : ChangeSpec := { name := "cmdNames", fn := fun _ => fun
  | [d1, d2] => { results := [.lit (.bool false)], args := [d1, d2] }
  | _ => none }
def CmdNamesWrongFalsely : Prop := cmdNamesRow.holds Try.pinned (OpenSpec.ofChange cmdNamesWrong)

/-- 'phalanxlaw09.CmdItems': WHATEVER THE INPUT: true; the input reads as it did. -/
def cmdItemsSpec : ChangeSpec := { name := "cmdItems", fn := fun _ => fun
  | [d1, d2, d3] => { results := [.lit (.bool true)], args := [d1, d2, d3] }
  | _ => none }
def cmdItemsRow : OpenClaim := { program := "ytcofjaeljglodaa", sum := "6a06b2c04089375edd141102eeee8393a9fcde9f6d01eb2be492e8263e235ac1", func := "phalanx/phalanxlaw09.CmdItems", spec := "cmdItems", apart := false }
def CmdItemsSaid : Prop := cmdItemsRow.holds Try.pinned (OpenSpec.ofChange cmdItemsSpec)

/-- ITS FALSE NEIGHBOUR: 'it returns false'. Refute it at one input. -/
def cmdItemsWrong : ChangeSpec := { name := "cmdItems", fn := fun _ => fun
  | [d1, d2, d3] => { results := [.lit (.bool false)], args := [d1, d2, d3] }
  | _ => none }
def CmdItemsWrongFalsely : Prop := cmdItemsRow.holds Try.pinned (OpenSpec.ofChange cmdItemsWrong)

/-- 'phalanxlaw09.CmdLists': WHATEVER THE INPUT: true; the input reads as it did. -/
def cmdListsSpec : ChangeSpec := { name := "cmdLists", fn := fun _ => fun
  | [d] => { results := [.lit (.bool true)], args := [d] }
  | _ => none }
def cmdListsRow : OpenClaim := { program := "ytcofjaeljglodaa", sum := "6a06b2c04089375edd141102eeee8393a9fcde9f6d01eb2be492e8263e235ac1", func := "phalanx/phalanxlaw09.CmdLists", spec := "cmdLists", apart := false }
def CmdListsSaid : Prop := cmdListsRow.holds Try.pinned (OpenSpec.ofChange cmdListsSpec)

/-- ITS FALSE NEIGHBOUR: 'it returns false'. Refute it at one input. -/
def cmdListsWrong : ChangeSpec := { name := "cmdLists", fn := fun _ => fun
  | [d] => { results := [.lit (.bool false)], args := [d] }
  | _ => none }
def CmdListsWrongFalsely : Prop := cmdListsRow.holds Try.pinned (OpenSpec.ofChange cmdListsWrong)

/- THE SECOND FORM. 'bulk': how many values and letters a reading holds, each counted each time it is reached (what is shared counts as often as it is met; a slice's spare places count too). A statement '..UptoSaid' is the law's where the arguments, and the package variables that the reading takes, are together of bulk at most 1048576: NARROWER than '..Said'. Prove '..Said' where nothing that the law and all that it calls make is longer than what came in: it says more and counts as full. Else prove '..UptoSaid'. A law counts once. -/
mutual
def uptoBulk {H : Type} : DataW H → Nat
  | .lit (.string bytes) => bytes.length + 1
  | .lit _ => 1
  | .nil => 1
  | .ptr d => uptoBulk d + 1
  | .slice elems spare => uptoBulkAll elems + uptoBulkAll spare + 1
  | .agg parts => uptoBulkAll parts + 1
  | .iface _ d => uptoBulk d + 1
  | .map entries => uptoBulkEntries entries + 1
  | .held _ => 1
def uptoBulkAll {H : Type} : List (DataW H) → Nat
  | [] => 0
  | d :: r => uptoBulk d + uptoBulkAll r
def uptoBulkEntries {H : Type} : List (Lit × DataW H) → Nat
  | [] => 0
  | x :: r => uptoBulkEntry x + uptoBulkEntries r
def uptoBulkEntry {H : Type} : Lit × DataW H → Nat
  | (.string bytes, d) => bytes.length + uptoBulk d + 1
  | (_, d) => uptoBulk d + 1
 end
def uptoSmall : (H : Type) → List (DataW H) → Bool := fun _ ds => decide (uptoBulkAll ds ≤ 1048576)
def OpenSpec.upto (s : _root_.Go.ChangeSpec) : _root_.Go.OpenSpec := { _root_.Go.OpenSpec.ofChange s with cond := some uptoSmall }

/-- 'phalanxlaw09.CmdChecks', WHERE WHAT IT READS IS OF BULK AT MOST 1048576: true; the input reads as it did. -/
def cmdChecksUptoRow : OpenClaim := { program := "ytcofjaeljglodaa", sum := "6a06b2c04089375edd141102eeee8393a9fcde9f6d01eb2be492e8263e235ac1", func := "phalanx/phalanxlaw09.CmdChecks", spec := "cmdChecks", apart := false, narrowed := true }
def CmdChecksUptoSaid : Prop := cmdChecksUptoRow.holds Try.pinned (OpenSpec.upto cmdChecksSpec)

/-- 'phalanxlaw09.CmdFits', WHERE WHAT IT READS IS OF BULK AT MOST 1048576: true; the input reads as it did. -/
def cmdFitsUptoRow : OpenClaim := { program := "ytcofjaeljglodaa", sum := "6a06b2c04089375edd141102eeee8393a9fcde9f6d01eb2be492e8263e235ac1", func := "phalanx/phalanxlaw09.CmdFits", spec := "cmdFits", apart := false, narrowed := true }
def CmdFitsUptoSaid : Prop := cmdFitsUptoRow.holds Try.pinned (OpenSpec.upto cmdFitsSpec)

/-- 'phalanxlaw09.CmdNames', WHERE WHAT IT READS IS OF BULK AT MOST 1048576: true; the input reads as it did. -/
def cmdNamesUptoRow : OpenClaim := { program := "ytcofjaeljglodaa", sum := "6a06b2c04089375edd141102eeee8393a9fcde9f6d01eb2be492e8263e235ac1", func := "phalanx/phalanxlaw09.CmdNames", spec := "cmdNames", apart := false, narrowed := true }
def CmdNamesUptoSaid : Prop := cmdNamesUptoRow.holds Try.pinned (OpenSpec.upto cmdNamesSpec)

/-- 'phalanxlaw09.CmdItems', WHERE WHAT IT READS IS OF BULK AT MOST 1048576: true; the input reads as it did. -/
def cmdItemsUptoRow : OpenClaim := { program := "ytcofjaeljglodaa", sum := "6a06b2c04089375edd141102eeee8393a9fcde9f6d01eb2be492e8263e235ac1", func := "phalanx/phalanxlaw09.CmdItems", spec := "cmdItems", apart := false, narrowed := true }
def CmdItemsUptoSaid : Prop := cmdItemsUptoRow.holds Try.pinned (OpenSpec.upto cmdItemsSpec)

/-- 'phalanxlaw09.CmdLists', WHERE WHAT IT READS IS OF BULK AT MOST 1048576: true; the input reads as it did. -/
def cmdListsUptoRow : OpenClaim := { program := "ytcofjaeljglodaa", sum := "6a06b2c04089375edd141102eeee8393a9fcde9f6d01eb2be492e8263e235ac1", func := "phalanx/phalanxlaw09.CmdLists", spec := "cmdLists", apart := false, narrowed := true }
def CmdListsUptoSaid : Prop := cmdListsUptoRow.holds Try.pinned (OpenSpec.upto cmdListsSpec)

end Rows
end Go.Proofs.Ytcofjaeljglodaa
