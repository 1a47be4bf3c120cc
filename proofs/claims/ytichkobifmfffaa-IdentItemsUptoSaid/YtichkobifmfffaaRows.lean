/-
  No cell of these rows narrows 'for every input' (looked for: loops, veiled, ifaces, maps, wideKeys, modest, calm, conditions, laid).
  DERIVED. THE GIVEN ROWS OF THIS SEAT. 6 by the template 'for every input the law returns true; each argument reads behind the call as it read before'; 0 by the template 'total and deterministic' (their statements: YtichkobifmfffaaTotals.lean).
  GIVEN WITH THE SEED: the statements are not yours to turn. If you find one false, say at which input.
  Laid BY PROGRAM, IN A SANDBOX (cutbox-rows.mjs): the forced cells as the released guide's own fill.sh prints them over the translation 9fa3fa3ad50575b7… (all of the seat's roots in one cut). By AI agents, Wed Nov 11 2026. No macro, syntax, notation, axiom, sorry.
-/
import Derived.Test.YtichkobifmfffaaChecked
import GoSem.Claim
import GoSem.ClaimJoined
import GoSem.ClaimMapViews
import Derived.JoinedTies
import Derived.KernelRfl
namespace Go.Proofs.Ytichkobifmfffaa
/- THE CELL 'sum', in the pinned program and in every row, IS THE sha256 OF THE DUMP (.gsa) THAT YtichkobifmfffaaProg.lean LOADS. Nothing in Lean hashes anything: it is a label: what it is worth is what the hold of that sum in a sandbox is worth. -/
noncomputable def Try.pinned : Pinned := { name := "ytichkobifmfffaa", sum := "9fa3fa3ad50575b735575316cb41bee9486903b8168a85f4762cd500ce59db74", checked := Try.checked }
namespace Rows
def none {H : Type} : Left H := { results := [], args := [] }

/-- 'phalanxlaw06.IdentTells': WHATEVER THE INPUT: true; the input reads as it did. -/
def identTellsSpec : ChangeSpec := { name := "identTells", fn := fun _ => fun
  | [d1, d2] => { results := [.lit (.bool true)], args := [d1, d2] }
  | _ => none }
def identTellsRow : OpenClaim := { program := "ytichkobifmfffaa", sum := "9fa3fa3ad50575b735575316cb41bee9486903b8168a85f4762cd500ce59db74", func := "phalanx/phalanxlaw06.IdentTells", spec := "identTells", apart := false }
def IdentTellsSaid : Prop := identTellsRow.holds Try.pinned (OpenSpec.ofChange identTellsSpec)

/-- ITS FALSE NEIGHBOUR: 'it returns false'. Refute it at one input. -/
def identTellsWrong : ChangeSpec := { name := "identTells", fn := fun _ => fun
  | [d1, d2] => { results := [.lit (.bool false)], args := [d1, d2] }
  | _ => none }
def IdentTellsWrongFalsely : Prop := identTellsRow.holds Try.pinned (OpenSpec.ofChange identTellsWrong)

/-- 'phalanxlaw06.IdentLists': WHATEVER THE INPUT: true; the input reads as it did. -/
def identListsSpec : ChangeSpec := { name := "identLists", fn := fun _ => fun
  | [d1, d2, d3] => { results := [.lit (.bool true)], args := [d1, d2, d3] }
  | _ => none }
def identListsRow : OpenClaim := { program := "ytichkobifmfffaa", sum := "9fa3fa3ad50575b735575316cb41bee9486903b8168a85f4762cd500ce59db74", func := "phalanx/phalanxlaw06.IdentLists", spec := "identLists", apart := false }
def IdentListsSaid : Prop := identListsRow.holds Try.pinned (OpenSpec.ofChange identListsSpec)

/-- ITS FALSE NEIGHBOUR: 'it returns false'. Refute it at one input. -/
def identListsWrong : ChangeSpec := { name := "identLists", fn := fun _ => fun
  | [d1, d2, d3] => { results := [.lit (.bool false)], args := [d1, d2, d3] }
  | _ => none }
def IdentListsWrongFalsely : Prop := identListsRow.holds Try.pinned (OpenSpec.ofChange identListsWrong)

/-- 'phalanxlaw06.IdentMajor': WHATEVER THE INPUT: true; the input reads as it did. -/
def identMajorSpec : ChangeSpec := { name := "identMajor", fn := fun _ => fun
  | [d1, d2, d3] => { results := [.lit (.bool true)], args := [d1, d2, d3] }
  | _ => none }
def identMajorRow : OpenClaim := { program := "ytichkobifmfffaa", sum := "9fa3fa3ad50575b735575316cb41bee9486903b8168a85f4762cd500ce59db74", func := "phalanx/phalanxlaw06.IdentMajor", spec := "identMajor", apart := false }
def IdentMajorSaid : Prop := identMajorRow.holds Try.pinned (OpenSpec.ofChange identMajorSpec)

/-- ITS FALSE NEIGHBOUR: 'it returns false'. Refute it at one input. -/
def identMajorWrong : ChangeSpec := { name := "identMajor", fn := fun _ => fun
  | [d1, d2, d3] => { results := [.lit (.bool false)], args := [d1, d2, d3] }
  | _ => none }
def IdentMajorWrongFalsely : Prop := identMajorRow.holds Try.pinned (OpenSpec.ofChange identMajorWrong)

/-- 'phalanxlaw06.IdentMeets': WHATEVER THE INPUT: true; the input reads as it did. -/
def identMeetsSpec : ChangeSpec := { name := "identMeets", fn := fun _ => fun
  | [d1, d2, d3] => { results := [.lit (.bool true)], args := [d1, d2, d3] }
  | _ => none }
def identMeetsRow : OpenClaim := { program := "ytichkobifmfffaa", sum := "9fa3fa3ad50575b735575316cb41bee9486903b8168a85f4762cd500ce59db74", func := "phalanx/phalanxlaw06.IdentMeets", spec := "identMeets", apart := false }
def IdentMeetsSaid : Prop := identMeetsRow.holds Try.pinned (OpenSpec.ofChange identMeetsSpec)

/-- ITS FALSE NEIGHBOUR: 'it returns false'. Refute it at one input. -/
def identMeetsWrong : ChangeSpec := { name := "identMeets", fn := fun _ => fun
  | [d1, d2, d3] => { results := [.lit (.bool false)], args := [d1, d2, d3] }
  | _ => none }
def IdentMeetsWrongFalsely : Prop := identMeetsRow.holds Try.pinned (OpenSpec.ofChange identMeetsWrong)

/-- 'phalanxlaw06.IdentWith': WHATEVER THE INPUT: true; the input reads as it did. -/
def identWithSpec : ChangeSpec := { name := "identWith", fn := fun _ => fun
  | [d1, d2] => { results := [.lit (.bool true)], args := [d1, d2] }
  | _ => none }
def identWithRow : OpenClaim := { program := "ytichkobifmfffaa", sum := "9fa3fa3ad50575b735575316cb41bee9486903b8168a85f4762cd500ce59db74", func := "phalanx/phalanxlaw06.IdentWith", spec := "identWith", apart := false }
def IdentWithSaid : Prop := identWithRow.holds Try.pinned (OpenSpec.ofChange identWithSpec)

/-- ITS FALSE NEIGHBOUR: 'it returns false'. Refute it at one input. -/
def identWithWrong : ChangeSpec := { name := "identWith", fn := fun _ => fun
  | [d1, d2] => { results := [.lit (.bool false)], args := [d1, d2] }
  | _ => none }
def IdentWithWrongFalsely : Prop := identWithRow.holds Try.pinned (OpenSpec.ofChange identWithWrong)

/-- 'phalanxlaw06.IdentItems': WHATEVER THE INPUT: true; the input reads as it did. -/
def identItemsSpec : ChangeSpec := { name := "identItems", fn := fun _ => fun
  | [d1, d2, d3] => { results := [.lit (.bool true)], args := [d1, d2, d3] }
  | _ => none }
def identItemsRow : OpenClaim := { program := "ytichkobifmfffaa", sum := "9fa3fa3ad50575b735575316cb41bee9486903b8168a85f4762cd500ce59db74", func := "phalanx/phalanxlaw06.IdentItems", spec := "identItems", apart := false }
def IdentItemsSaid : Prop := identItemsRow.holds Try.pinned (OpenSpec.ofChange identItemsSpec)

/-- ITS FALSE NEIGHBOUR: 'it returns false'. Refute it at one input. -/
def identItemsWrong : ChangeSpec := { name := "identItems", fn := fun _ => fun
  | [d1, d2, d3] => { results := [.lit (.bool false)], args := [d1, d2, d3] }
  | _ => none }
def IdentItemsWrongFalsely : Prop := identItemsRow.holds Try.pinned (OpenSpec.ofChange identItemsWrong)

/- THE SECOND FORM. 'bulk': how many values and letters a reading holds, each counted each time it is reached (what is shared counts as often as it is met; a slice's spare places count too). A statement '..UptoSaid' is the law's where the arguments, and the package variables that the reading takes, are together of bulk at most 1048576: NARROWER than '..Said'. Prove '..Said' where nothing that the law and all that it calls make is longer than what came in: it says more and counts as full. Else prove '..UptoSaid'. A law counts once. -/
mutual
def uptoBulk {H : Type} : DataW H → Nat
  | .lit (.string bytes) => bytes.length + 1
  | .lit _ => 1
  | .nil => 1
  | .ptr d => uptoBulk d + 1
  | .slice elems spare => uptoBulkAll elems + uptoBulkAll spare + 1
  | .agg parts => uptoBulkAll parts + 1
  | .iface _ d => uptoBulk d + 1
  | .map entries => uptoBulkEntries entries + 1
  | .held _ => 1
def uptoBulkAll {H : Type} : List (DataW H) → Nat
  | [] => 0
  | d :: r => uptoBulk d + uptoBulkAll r
def uptoBulkEntries {H : Type} : List (Lit × DataW H) → Nat
  | [] => 0
  | x :: r => uptoBulkEntry x + uptoBulkEntries r
def uptoBulkEntry {H : Type} : Lit × DataW H → Nat
  | (.string bytes, d) => bytes.length + uptoBulk d + 1
  | (_, d) => uptoBulk d + 1
 end
def uptoSmall : (H : Type) → List (DataW H) → Bool := fun _ ds => decide (uptoBulkAll ds ≤ 1048576)
def OpenSpec.upto (s : _root_.Go.ChangeSpec) : _root_.Go.OpenSpec := { _root_.Go.OpenSpec.ofChange s with cond := some uptoSmall }

/-- 'phalanxlaw06.IdentTells', WHERE WHAT IT READS IS OF BULK AT MOST 1048576: true; the input reads as it did. -/
def identTellsUptoRow : OpenClaim := { program := "ytichkobifmfffaa", sum := "9fa3fa3ad50575b735575316cb41bee9486903b8168a85f4762cd500ce59db74", func := "phalanx/phalanxlaw06.IdentTells", spec := "identTells", apart := false, narrowed := true }
def IdentTellsUptoSaid : Prop := identTellsUptoRow.holds Try.pinned (OpenSpec.upto identTellsSpec)

/-- 'phalanxlaw06.IdentLists', WHERE WHAT IT READS IS OF BULK AT MOST 1048576: true; the input reads as it did. -/
def identListsUptoRow : OpenClaim := { program := "ytichkobifmfffaa", sum := "9fa3fa3ad50575b735575316cb41bee9486903b8168a85f4762cd500ce59db74", func := "phalanx/phalanxlaw06.IdentLists", spec := "identLists", apart := false, narrowed := true }
def IdentListsUptoSaid : Prop := identListsUptoRow.holds Try.pinned (OpenSpec.upto identListsSpec)

/-- 'phalanxlaw06.IdentMajor', WHERE WHAT IT READS IS OF BULK AT MOST 1048576: true; the input reads as it did. -/
def identMajorUptoRow : OpenClaim := { program := "ytichkobifmfffaa", sum := "9fa3fa3ad50575b735575316cb41bee9486903b8168a85f4762cd500ce59db74", func := "phalanx/phalanxlaw06.IdentMajor", spec := "identMajor", apart := false, narrowed := true }
def IdentMajorUptoSaid : Prop := identMajorUptoRow.holds Try.pinned (OpenSpec.upto identMajorSpec)

/-- 'phalanxlaw06.IdentMeets', WHERE WHAT IT READS IS OF BULK AT MOST 1048576: true; the input reads as it did. -/
def identMeetsUptoRow : OpenClaim := { program := "ytichkobifmfffaa", sum := "9fa3fa3ad50575b735575316cb41bee9486903b8168a85f4762cd500ce59db74", func := "phalanx/phalanxlaw06.IdentMeets", spec := "identMeets", apart := false, narrowed := true }
def IdentMeetsUptoSaid : Prop := identMeetsUptoRow.holds Try.pinned (OpenSpec.upto identMeetsSpec)

/-- 'phalanxlaw06.IdentWith', WHERE WHAT IT READS IS OF BULK AT MOST 1048576: true; the input reads as it did. -/
def identWithUptoRow : OpenClaim := { program := "ytichkobifmfffaa", sum := "9fa3fa3ad50575b735575316cb41bee9486903b8168a85f4762cd500ce59db74", func := "phalanx/phalanxlaw06.IdentWith", spec := "identWith", apart := false, narrowed := true }
def IdentWithUptoSaid : Prop := identWithUptoRow.holds Try.pinned (OpenSpec.upto identWithSpec)

/-- 'phalanxlaw06.IdentItems', WHERE WHAT IT READS IS OF BULK AT MOST 1048576: true; the input reads as it did. -/
def identItemsUptoRow : OpenClaim := { program := "ytichkobifmfffaa", sum := "9fa3fa3ad50575b735575316cb41bee9486903b8168a85f4762cd500ce59db74", func := "phalanx/phalanxlaw06.IdentItems", spec := "identItems", apart := false, narrowed := true }
def IdentItemsUptoSaid : Prop := identItemsUptoRow.holds Try.pinned (OpenSpec.upto identItemsSpec)

end Rows
end Go.Proofs.Ytichkobifmfffaa
