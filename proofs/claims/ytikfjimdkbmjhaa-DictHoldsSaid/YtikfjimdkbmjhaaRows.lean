/-
  No cell of these rows narrows 'for every input' (looked for: loops, veiled, ifaces, maps, wideKeys, modest, calm, conditions, laid).
  DERIVED. THE GIVEN ROWS OF THIS SEAT. 4 by the template 'for every input the law returns true; each argument reads behind the call as it read before'; 0 by the template 'total and deterministic' (their statements: YtikfjimdkbmjhaaTotals.lean).
  GIVEN WITH THE SEED: the statements are not yours to turn. If you find one false, say at which input.
  Laid BY PROGRAM, IN A SANDBOX (cutbox-rows.mjs): the forced cells as the released guide's own fill.sh prints them over the translation 370b035c99716a0b… (all of the seat's roots in one cut). By AI agents, Wed Nov 11 2026. No macro, syntax, notation, axiom, sorry.
-/
import Derived.Test.YtikfjimdkbmjhaaChecked
import GoSem.Claim
import GoSem.ClaimJoined
import GoSem.ClaimMapViews
import Derived.JoinedTies
import Derived.KernelRfl
namespace Go.Proofs.Ytikfjimdkbmjhaa
/- THE CELL 'sum', in the pinned program and in every row, IS THE sha256 OF THE DUMP (.gsa) THAT YtikfjimdkbmjhaaProg.lean LOADS. Nothing in Lean hashes anything: it is a label: what it is worth is what the hold of that sum in a sandbox is worth. -/
noncomputable def Try.pinned : Pinned := { name := "ytikfjimdkbmjhaa", sum := "370b035c99716a0bbc0af03a1d7c8f480bba59bdfa7f891e534ab3e8f8099156", checked := Try.checked }
namespace Rows
def none {H : Type} : Left H := { results := [], args := [] }

/-- 'phalanxlaw10.DictDoes': WHATEVER THE INPUT: true; the input reads as it did. -/
def dictDoesSpec : ChangeSpec := { name := "dictDoes", fn := fun _ => fun
  | [d1, d2, d3] => { results := [.lit (.bool true)], args := [d1, d2, d3] }
  | _ => none }
def dictDoesRow : OpenClaim := { program := "ytikfjimdkbmjhaa", sum := "370b035c99716a0bbc0af03a1d7c8f480bba59bdfa7f891e534ab3e8f8099156", func := "phalanx/phalanxlaw10.DictDoes", spec := "dictDoes", apart := false }
def DictDoesSaid : Prop := dictDoesRow.holds Try.pinned (OpenSpec.ofChange dictDoesSpec)

/-- ITS FALSE NEIGHBOUR: 'it returns false'. Refute it at one input. -/
def dictDoesWrong : ChangeSpec := { name := "dictDoes", fn := fun _ => fun
  | [d1, d2, d3] => { results := [.lit (.bool false)], args := [d1, d2, d3] }
  | _ => none }
def DictDoesWrongFalsely : Prop := dictDoesRow.holds Try.pinned (OpenSpec.ofChange dictDoesWrong)

/-- 'phalanxlaw10.DictSwaps': WHATEVER THE INPUT: true; the input reads as it did. -/
def dictSwapsSpec : ChangeSpec := { name := "dictSwaps", fn := fun _ => fun
  | [d1, d2, d3] => { results := [.lit (.bool true)], args := [d1, d2, d3] }
  | _ => none }
def dictSwapsRow : OpenClaim := { program := "ytikfjimdkbmjhaa", sum := "370b035c99716a0bbc0af03a1d7c8f480bba59bdfa7f891e534ab3e8f8099156", func := "phalanx/phalanxlaw10.DictSwaps", spec := "dictSwaps", apart := false }
def DictSwapsSaid : Prop := dictSwapsRow.holds Try.pinned (OpenSpec.ofChange dictSwapsSpec)

/-- ITS FALSE NEIGHBOUR: 'it returns false'. Refute it at one input. -/
def dictSwapsWrong : ChangeSpec := { name := "dictSwaps", fn := fun _ => fun
  | [d1, d2, d3] => { results := [.lit (.bool false)], args := [d1, d2, d3] }
  | _ => none }
def DictSwapsWrongFalsely : Prop := dictSwapsRow.holds Try.pinned (OpenSpec.ofChange dictSwapsWrong)

/-- 'phalanxlaw10.DictGets': WHATEVER THE INPUT: true; the input reads as it did. -/
def dictGetsSpec : ChangeSpec := { name := "dictGets", fn := fun _ => fun
  | [d1, d2, d3] => { results := [.lit (.bool true)], args := [d1, d2, d3] }
  | _ => none }
def dictGetsRow : OpenClaim := { program := "ytikfjimdkbmjhaa", sum := "370b035c99716a0bbc0af03a1d7c8f480bba59bdfa7f891e534ab3e8f8099156", func := "phalanx/phalanxlaw10.DictGets", spec := "dictGets", apart := false }
def DictGetsSaid : Prop := dictGetsRow.holds Try.pinned (OpenSpec.ofChange dictGetsSpec)

/-- ITS FALSE NEIGHBOUR: 'it returns false'. Refute it at one input. -/
def dictGetsWrong : ChangeSpec := { name := "dictGets", fn := fun _ => fun
  | [d1, d2, d3] => { results := [.lit (.bool false)], args := [d1, d2, d3] }
  | _ => none }
def DictGetsWrongFalsely : Prop := dictGetsRow.holds Try.pinned (OpenSpec.ofChange dictGetsWrong)

/-- 'phalanxlaw10.DictHolds': WHATEVER THE INPUT: true; the input reads as it did. -/
def dictHoldsSpec : ChangeSpec := { name := "dictHolds", fn := fun _ => fun
  | [d] => { results := [.lit (.bool true)], args := [d] }
  | _ => none }
def dictHoldsRow : OpenClaim := { program := "ytikfjimdkbmjhaa", sum := "370b035c99716a0bbc0af03a1d7c8f480bba59bdfa7f891e534ab3e8f8099156", func := "phalanx/phalanxlaw10.DictHolds", spec := "dictHolds", apart := false }
def DictHoldsSaid : Prop := dictHoldsRow.holds Try.pinned (OpenSpec.ofChange dictHoldsSpec)

/-- ITS FALSE NEIGHBOUR: 'it returns false'. Refute it at one input. -/
def dictHoldsWrong : ChangeSpec := { name := "dictHolds", fn := fun _ => fun
  | [d] => { results := [.lit (.bool false)], args := [d] }
  | _ => none }
def DictHoldsWrongFalsely : Prop := dictHoldsRow.holds Try.pinned (OpenSpec.ofChange dictHoldsWrong)

/- THE SECOND FORM. 'bulk': how many values and letters a reading holds, each counted each time it is reached (what is shared counts as often as it is met; a slice's spare places count too). A statement '..UptoSaid' is the law's where the arguments, and the package variables that the reading takes, are together of bulk at most 1048576: NARROWER than '..Said'. Prove '..Said' where nothing that the law and all that it calls make is longer than what came in: it says more and counts as full. Else prove '..UptoSaid'. A law counts once. -/
mutual
def uptoBulk {H : Type} : DataW H → Nat
  | .lit (.string bytes) => bytes.length + 1
  | .lit _ => 1
  | .nil => 1
  | .ptr d => uptoBulk d + 1
  | .slice elems spare => uptoBulkAll elems + uptoBulkAll spare + 1
  | .agg parts => uptoBulkAll parts + 1
  | .iface _ d => uptoBulk d + 1
  | .map entries => uptoBulkEntries entries + 1
  | .held _ => 1
def uptoBulkAll {H : Type} : List (DataW H) → Nat
  | [] => 0
  | d :: r => uptoBulk d + uptoBulkAll r
def uptoBulkEntries {H : Type} : List (Lit × DataW H) → Nat
  | [] => 0
  | x :: r => uptoBulkEntry x + uptoBulkEntries r
def uptoBulkEntry {H : Type} : Lit × DataW H → Nat
  | (.string bytes, d) => bytes.length + uptoBulk d + 1
  | (_, d) => uptoBulk d + 1
 end
def uptoSmall : (H : Type) → List (DataW H) → Bool := fun _ ds => decide (uptoBulkAll ds ≤ 1048576)
def OpenSpec.upto (s : _root_.Go.ChangeSpec) : _root_.Go.OpenSpec := { _root_.Go.OpenSpec.ofChange s with cond := some uptoSmall }

/-- 'phalanxlaw10.DictDoes', WHERE WHAT IT READS IS OF BULK AT MOST 1048576: true; the input reads as it did. -/
def dictDoesUptoRow : OpenClaim := { program := "ytikfjimdkbmjhaa", sum := "370b035c99716a0bbc0af03a1d7c8f480bba59bdfa7f891e534ab3e8f8099156", func := "phalanx/phalanxlaw10.DictDoes", spec := "dictDoes", apart := false, narrowed := true }
def DictDoesUptoSaid : Prop := dictDoesUptoRow.holds Try.pinned (OpenSpec.upto dictDoesSpec)

/-- 'phalanxlaw10.DictSwaps', WHERE WHAT IT READS IS OF BULK AT MOST 1048576: true; the input reads as it did. -/
def dictSwapsUptoRow : OpenClaim := { program := "ytikfjimdkbmjhaa", sum := "370b035c99716a0bbc0af03a1d7c8f480bba59bdfa7f891e534ab3e8f8099156", func := "phalanx/phalanxlaw10.DictSwaps", spec := "dictSwaps", apart := false, narrowed := true }
def DictSwapsUptoSaid : Prop := dictSwapsUptoRow.holds Try.pinned (OpenSpec.upto dictSwapsSpec)

/-- 'phalanxlaw10.DictGets', WHERE WHAT IT READS IS OF BULK AT MOST 1048576: true; the input reads as it did. -/
def dictGetsUptoRow : OpenClaim := { program := "ytikfjimdkbmjhaa", sum := "370b035c99716a0bbc0af03a1d7c8f480bba59bdfa7f891e534ab3e8f8099156", func := "phalanx/phalanxlaw10.DictGets", spec := "dictGets", apart := false, narrowed := true }
def DictGetsUptoSaid : Prop := dictGetsUptoRow.holds Try.pinned (OpenSpec.upto dictGetsSpec)

/-- 'phalanxlaw10.DictHolds', WHERE WHAT IT READS IS OF BULK AT MOST 1048576: true; the input reads as it did. -/
def dictHoldsUptoRow : OpenClaim := { program := "ytikfjimdkbmjhaa", sum := "370b035c99716a0bbc0af03a1d7c8f480bba59bdfa7f891e534ab3e8f8099156", func := "phalanx/phalanxlaw10.DictHolds", spec := "dictHolds", apart := false, narrowed := true }
def DictHoldsUptoSaid : Prop := dictHoldsUptoRow.holds Try.pinned (OpenSpec.upto dictHoldsSpec)

end Rows
end Go.Proofs.Ytikfjimdkbmjhaa
