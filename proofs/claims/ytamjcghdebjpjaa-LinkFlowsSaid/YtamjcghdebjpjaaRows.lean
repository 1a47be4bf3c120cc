/-
  No cell of these rows narrows 'for every input' (looked for: loops, veiled, ifaces, maps, wideKeys, modest, calm, conditions, laid).
  DERIVED. THE GIVEN ROWS OF THIS SEAT. 5 by the template 'for every input the law returns true; each argument reads behind the call as it read before'; 0 by the template 'total and deterministic' (their statements: YtamjcghdebjpjaaTotals.lean).
  GIVEN WITH THE SEED: the statements are not yours to turn. If you find one false, say at which input.
  Laid BY PROGRAM, IN A SANDBOX (cutbox-rows.mjs): the forced cells as the released guide's own fill.sh prints them over the translation bfbac90880cffc2b… (all of the seat's roots in one cut). By AI agents, Wed Nov 11 2026. No macro, syntax, notation, axiom, sorry.
-/
import Derived.Test.YtamjcghdebjpjaaChecked
import GoSem.Claim
import GoSem.ClaimJoined
import GoSem.ClaimMapViews
import Derived.JoinedTies
import Derived.KernelRfl
namespace Go.Proofs.Ytamjcghdebjpjaa
/- THE CELL 'sum', in the pinned program and in every row, IS THE sha256 OF THE DUMP (.gsa) THAT YtamjcghdebjpjaaProg.lean LOADS. Nothing in Lean hashes anything: it is a label: what it is worth is what the hold of that sum in a sandbox is worth. -/
noncomputable def Try.pinned : Pinned := { name := "ytamjcghdebjpjaa", sum := "bfbac90880cffc2b1f137fdde26a14d93066360b36e0544935ec6090b9e9f997", checked := Try.checked }
namespace Rows
def none {H : Type} : Left H := { results := [], args := [] }

/-- 'phalanxlaw08.LinkPlays': WHATEVER THE INPUT: true; the input reads as it did. -/
def linkPlaysSpec : ChangeSpec := { name := "linkPlays", fn := fun _ => fun
  | [d1, d2, d3] => { results := [.lit (.bool true)], args := [d1, d2, d3] }
  | _ => none }
def linkPlaysRow : OpenClaim := { program := "ytamjcghdebjpjaa", sum := "bfbac90880cffc2b1f137fdde26a14d93066360b36e0544935ec6090b9e9f997", func := "phalanx/phalanxlaw08.LinkPlays", spec := "linkPlays", apart := false }
def LinkPlaysSaid : Prop := linkPlaysRow.holds Try.pinned (OpenSpec.ofChange linkPlaysSpec)

/-- ITS FALSE NEIGHBOUR: 'it returns false'. Refute it at one input. -/
def linkPlaysWrong : ChangeSpec := { name := "linkPlays", fn := fun _ => fun
  | [d1, d2, d3] => { results := [.lit (.bool false)], args := [d1, d2, d3] }
  | _ => none }
def LinkPlaysWrongFalsely : Prop := linkPlaysRow.holds Try.pinned (OpenSpec.ofChange linkPlaysWrong)

/-- 'phalanxlaw08.LinkFifo': WHATEVER THE INPUT: true; the input reads as it did. -/
def linkFifoSpec : ChangeSpec := { name := "linkFifo", fn := fun _ => fun
  | [d1, d2, d3] => { results := [.lit (.bool true)], args := [d1, d2, d3] }
  | _ => none }
def linkFifoRow : OpenClaim := { program := "ytamjcghdebjpjaa", sum := "bfbac90880cffc2b1f137fdde26a14d93066360b36e0544935ec6090b9e9f997", func := "phalanx/phalanxlaw08.LinkFifo", spec := "linkFifo", apart := false }
def LinkFifoSaid : Prop := linkFifoRow.holds Try.pinned (OpenSpec.ofChange linkFifoSpec)

/-- ITS FALSE NEIGHBOUR: 'it returns false'. Refute it at one input. -/
def linkFifoWrong : ChangeSpec := { name := "linkFifo", fn := fun _ => fun
  | [d1, d2, d3] => { results := [.lit (.bool false)], args := [d1, d2, d3] }
  | _ => none }
def LinkFifoWrongFalsely : Prop := linkFifoRow.holds Try.pinned (OpenSpec.ofChange linkFifoWrong)

/-- 'phalanxlaw08.LinkFlows': WHATEVER THE INPUT: true; the input reads as it did. -/
def linkFlowsSpec : ChangeSpec := { name := "linkFlows", fn := fun _ => fun
  | [d1, d2, d3] => { results := [.lit (.bool true)], args := [d1, d2, d3] }
  | _ => none }
def linkFlowsRow : OpenClaim := { program := "ytamjcghdebjpjaa", sum := "bfbac90880cffc2b1f137fdde26a14d93066360b36e0544935ec6090b9e9f997", func := "phalanx/phalanxlaw08.LinkFlows", spec := "linkFlows", apart := false }
def LinkFlowsSaid : Prop := linkFlowsRow.holds Try.pinned (OpenSpec.ofChange linkFlowsSpec)

/-- ITS FALSE NEIGHBOUR: 'it returns false'. Refute it at one input. -/
def linkFlowsWrong : ChangeSpec := { name := "linkFlows", fn := fun _ => fun
  | [d1, d2, d3] => { results := [.lit (.bool false)], args := [d1, d2, d3] }
  | _ => none }
def LinkFlowsWrongFalsely : Prop := linkFlowsRow.holds Try.pinned (OpenSpec.ofChange linkFlowsWrong)

/-- 'phalanxlaw08.LinkStale': WHATEVER THE INPUT: true; the input reads as it did. -/
def linkStaleSpec : ChangeSpec := { name := "linkStale", fn := fun _ => fun
  | [d1, d2, d3] => { results := [.lit (.bool true)], args := [d1, d2, d3] }
  | _ => none }
def linkStaleRow : OpenClaim := { program := "ytamjcghdebjpjaa", sum := "bfbac90880cffc2b1f137fdde26a14d93066360b36e0544935ec6090b9e9f997", func := "phalanx/phalanxlaw08.LinkStale", spec := "linkStale", apart := false }
def LinkStaleSaid : Prop := linkStaleRow.holds Try.pinned (OpenSpec.ofChange linkStaleSpec)

/-- ITS FALSE NEIGHBOUR: 'it returns false'. Refute it at one input. -/
def linkStaleWrong : ChangeSpec := { name := "linkStale", fn := fun _ => fun
  | [d1, d2, d3] => { results := [.lit (.bool false)], args := [d1, d2, d3] }
  | _ => none }
def LinkStaleWrongFalsely : Prop := linkStaleRow.holds Try.pinned (OpenSpec.ofChange linkStaleWrong)

/-- 'phalanxlaw08.LinkItems': WHATEVER THE INPUT: true; the input reads as it did. -/
def linkItemsSpec : ChangeSpec := { name := "linkItems", fn := fun _ => fun
  | [d] => { results := [.lit (.bool true)], args := [d] }
  | _ => none }
def linkItemsRow : OpenClaim := { program := "ytamjcghdebjpjaa", sum := "bfbac90880cffc2b1f137fdde26a14d93066360b36e0544935ec6090b9e9f997", func := "phalanx/phalanxlaw08.LinkItems", spec := "linkItems", apart := false }
def LinkItemsSaid : Prop := linkItemsRow.holds Try.pinned (OpenSpec.ofChange linkItemsSpec)

/-- ITS FALSE NEIGHBOUR: 'it returns false'. Refute it at one input. -/
def linkItemsWrong : ChangeSpec := { name := "linkItems", fn := fun _ => fun
  | [d] => { results := [.lit (.bool false)], args := [d] }
  | _ => none }
def LinkItemsWrongFalsely : Prop := linkItemsRow.holds Try.pinned (OpenSpec.ofChange linkItemsWrong)

/- THE SECOND FORM. 'bulk': how many values and letters a reading holds, each counted each time it is reached (what is shared counts as often as it is met; a slice's spare places count too). A statement '..UptoSaid' is the law's where the arguments, and the package variables that the reading takes, are together of bulk at most 1048576: NARROWER than '..Said'. Prove '..Said' where nothing that the law and all that it calls make is longer than what came in: it says more and counts as full. Else prove '..UptoSaid'. A law counts once. -/
mutual
def uptoBulk {H : Type} : DataW H → Nat
  | .lit (.string bytes) => bytes.length + 1
  | .lit _ => 1
  | .nil => 1
  | .ptr d => uptoBulk d + 1
  | .slice elems spare => uptoBulkAll elems + uptoBulkAll spare + 1
  | .agg parts => uptoBulkAll parts + 1
  | .iface _ d => uptoBulk d + 1
  | .map entries => uptoBulkEntries entries + 1
  | .held _ => 1
def uptoBulkAll {H : Type} : List (DataW H) → Nat
  | [] => 0
  | d :: r => uptoBulk d + uptoBulkAll r
def uptoBulkEntries {H : Type} : List (Lit × DataW H) → Nat
  | [] => 0
  | x :: r => uptoBulkEntry x + uptoBulkEntries r
def uptoBulkEntry {H : Type} : Lit × DataW H → Nat
  | (.string bytes, d) => bytes.length + uptoBulk d + 1
  | (_, d) => uptoBulk d + 1
 end
def uptoSmall : (H : Type) → List (DataW H) → Bool := fun _ ds => decide (uptoBulkAll ds ≤ 1048576)
def OpenSpec.upto (s : _root_.Go.ChangeSpec) : _root_.Go.OpenSpec := { _root_.Go.OpenSpec.ofChange s with cond := some uptoSmall }

/-- 'phalanxlaw08.LinkPlays', WHERE WHAT IT READS IS OF BULK AT MOST 1048576: true; the input reads as it did. -/
def linkPlaysUptoRow : OpenClaim := { program := "ytamjcghdebjpjaa", sum := "bfbac90880cffc2b1f137fdde26a14d93066360b36e0544935ec6090b9e9f997", func := "phalanx/phalanxlaw08.LinkPlays", spec := "linkPlays", apart := false, narrowed := true }
def LinkPlaysUptoSaid : Prop := linkPlaysUptoRow.holds Try.pinned (OpenSpec.upto linkPlaysSpec)

/-- 'phalanxlaw08.LinkFifo', WHERE WHAT IT READS IS OF BULK AT MOST 1048576: true; the input reads as it did. -/
def linkFifoUptoRow : OpenClaim := { program := "ytamjcghdebjpjaa", sum := "bfbac90880cffc2b1f137fdde26a14d93066360b36e0544935ec6090b9e9f997", func := "phalanx/phalanxlaw08.LinkFifo", spec := "linkFifo", apart := false, narrowed := true }
def LinkFifoUptoSaid : Prop := linkFifoUptoRow.holds Try.pinned (OpenSpec.upto linkFifoSpec)

/-- 'phalanxlaw08.LinkFlows', WHERE WHAT IT READS IS OF BULK AT MOST 1048576: true; the input reads as it did. -/
def linkFlowsUptoRow : OpenClaim := { program := "ytamjcghdebjpjaa", sum := "bfbac90880cffc2b1f137fdde26a14d93066360b36e0544935ec6090b9e9f997", func := "phalanx/phalanxlaw08.LinkFlows", spec := "linkFlows", apart := false, narrowed := true }
def LinkFlowsUptoSaid : Prop := linkFlowsUptoRow.holds Try.pinned (OpenSpec.upto linkFlowsSpec)

/-- 'phalanxlaw08.LinkStale', WHERE WHAT IT READS IS OF BULK AT MOST 1048576: true; the input reads as it did. -/
def linkStaleUptoRow : OpenClaim := { program := "ytamjcghdebjpjaa", sum := "bfbac90880cffc2b1f137fdde26a14d93066360b36e0544935ec6090b9e9f997", func := "phalanx/phalanxlaw08.LinkStale", spec := "linkStale", apart := false, narrowed := true }
def LinkStaleUptoSaid : Prop := linkStaleUptoRow.holds Try.pinned (OpenSpec.upto linkStaleSpec)

/-- 'phalanxlaw08.LinkItems', WHERE WHAT IT READS IS OF BULK AT MOST 1048576: true; the input reads as it did. -/
def linkItemsUptoRow : OpenClaim := { program := "ytamjcghdebjpjaa", sum := "bfbac90880cffc2b1f137fdde26a14d93066360b36e0544935ec6090b9e9f997", func := "phalanx/phalanxlaw08.LinkItems", spec := "linkItems", apart := false, narrowed := true }
def LinkItemsUptoSaid : Prop := linkItemsUptoRow.holds Try.pinned (OpenSpec.upto linkItemsSpec)

end Rows
end Go.Proofs.Ytamjcghdebjpjaa
