/-
  No cell of these rows narrows 'for every input' (looked for: loops, veiled, ifaces, maps, wideKeys, modest, calm, conditions, laid).
  DERIVED. THE GIVEN ROWS OF THIS SEAT. 4 by the template 'for every input the law returns true; each argument reads behind the call as it read before'; 0 by the template 'total and deterministic' (their statements: YtakjggmiilkmdaaTotals.lean).
  GIVEN WITH THE SEED: the statements are not yours to turn. If you find one false, say at which input.
  Laid BY PROGRAM, IN A SANDBOX (cutbox-rows.mjs): the forced cells as the released guide's own fill.sh prints them over the translation a26d1a05fee740ec… (all of the seat's roots in one cut). By AI agents, Wed Nov 11 2026. No macro, syntax, notation, axiom, sorry.
-/
import Derived.Test.YtakjggmiilkmdaaChecked
import GoSem.Claim
import GoSem.ClaimJoined
import GoSem.ClaimMapViews
import Derived.JoinedTies
import Derived.KernelRfl
namespace Go.Proofs.Ytakjggmiilkmdaa
/- THE CELL 'sum', in the pinned program and in every row, IS THE sha256 OF THE DUMP (.gsa) THAT YtakjggmiilkmdaaProg.lean LOADS. Nothing in Lean hashes anything: it is a label: what it is worth is what the hold of that sum in a sandbox is worth. -/
noncomputable def Try.pinned : Pinned := { name := "ytakjggmiilkmdaa", sum := "a26d1a05fee740ec77820db98f7718ef10f1079bd0e49f6f1475b4858c0bae71", checked := Try.checked }
namespace Rows
def none {H : Type} : Left H := { results := [], args := [] }

/-- 'phalanxlaw21.LogDoes': WHATEVER THE INPUT: true; the input reads as it did. -/
def logDoesSpec : ChangeSpec := { name := "logDoes", fn := fun _ => fun
  | [d1, d2, d3] => { results := [.lit (.bool true)], args := [d1, d2, d3] }
  | _ => none }
def logDoesRow : OpenClaim := { program := "ytakjggmiilkmdaa", sum := "a26d1a05fee740ec77820db98f7718ef10f1079bd0e49f6f1475b4858c0bae71", func := "phalanx/phalanxlaw21.LogDoes", spec := "logDoes", unfollowed := true, recurses := true, apart := false }
def LogDoesSaid : Prop := logDoesRow.holds Try.pinned (OpenSpec.ofChange logDoesSpec)

/-- ITS FALSE NEIGHBOUR: 'it returns false'. Refute it at one input. -/
def logDoesWrong : ChangeSpec := { name := "logDoes", fn := fun _ => fun
  | [d1, d2, d3] => { results := [.lit (.bool false)], args := [d1, d2, d3] }
  | _ => none }
def LogDoesWrongFalsely : Prop := logDoesRow.holds Try.pinned (OpenSpec.ofChange logDoesWrong)

/-- 'phalanxlaw21.LogCounts': WHATEVER THE INPUT: true; the input reads as it did. -/
def logCountsSpec : ChangeSpec := { name := "logCounts", fn := fun _ => fun
  | [d] => { results := [.lit (.bool true)], args := [d] }
  | _ => none }
def logCountsRow : OpenClaim := { program := "ytakjggmiilkmdaa", sum := "a26d1a05fee740ec77820db98f7718ef10f1079bd0e49f6f1475b4858c0bae71", func := "phalanx/phalanxlaw21.LogCounts", spec := "logCounts", recurses := true, apart := false }
def LogCountsSaid : Prop := logCountsRow.holds Try.pinned (OpenSpec.ofChange logCountsSpec)

/-- ITS FALSE NEIGHBOUR: 'it returns false'. Refute it at one input. -/
def logCountsWrong : ChangeSpec := { name := "logCounts", fn := fun _ => fun
  | [d] => { results := [.lit (.bool false)], args := [d] }
  | _ => none }
def LogCountsWrongFalsely : Prop := logCountsRow.holds Try.pinned (OpenSpec.ofChange logCountsWrong)

/-- 'phalanxlaw21.LogAgrees': WHATEVER THE INPUT: true; the input reads as it did. -/
def logAgreesSpec : ChangeSpec := { name := "logAgrees", fn := fun _ => fun
  | [d] => { results := [.lit (.bool true)], args := [d] }
  | _ => none }
def logAgreesRow : OpenClaim := { program := "ytakjggmiilkmdaa", sum := "a26d1a05fee740ec77820db98f7718ef10f1079bd0e49f6f1475b4858c0bae71", func := "phalanx/phalanxlaw21.LogAgrees", spec := "logAgrees", recurses := true, apart := false }
def LogAgreesSaid : Prop := logAgreesRow.holds Try.pinned (OpenSpec.ofChange logAgreesSpec)

/-- ITS FALSE NEIGHBOUR: 'it returns false'. Refute it at one input. -/
def logAgreesWrong : ChangeSpec := { name := "logAgrees", fn := fun _ => fun
  | [d] => { results := [.lit (.bool false)], args := [d] }
  | _ => none }
def LogAgreesWrongFalsely : Prop := logAgreesRow.holds Try.pinned (OpenSpec.ofChange logAgreesWrong)

/-- 'phalanxlaw21.LogGrows': WHATEVER THE INPUT: true; the input reads as it did. -/
def logGrowsSpec : ChangeSpec := { name := "logGrows", fn := fun _ => fun
  | [d] => { results := [.lit (.bool true)], args := [d] }
  | _ => none }
def logGrowsRow : OpenClaim := { program := "ytakjggmiilkmdaa", sum := "a26d1a05fee740ec77820db98f7718ef10f1079bd0e49f6f1475b4858c0bae71", func := "phalanx/phalanxlaw21.LogGrows", spec := "logGrows", unfollowed := true, recurses := true, apart := false }
def LogGrowsSaid : Prop := logGrowsRow.holds Try.pinned (OpenSpec.ofChange logGrowsSpec)

/-- ITS FALSE NEIGHBOUR: 'it returns false'. Refute it at one input. -/
def logGrowsWrong : ChangeSpec := { name := "logGrows", fn := fun _ => fun
  | [d] => { results := [.lit (.bool false)], args := [d] }
  | _ => none }
def LogGrowsWrongFalsely : Prop := logGrowsRow.holds Try.pinned (OpenSpec.ofChange logGrowsWrong)

/- THE SECOND FORM. 'bulk': how many values and letters a reading holds, each counted each time it is reached (what is shared counts as often as it is met; a slice's spare places count too). A statement '..UptoSaid' is the law's where the arguments, and the package variables that the reading takes, are together of bulk at most 1048576: NARROWER than '..Said'. Prove '..Said' where nothing that the law and all that it calls make is longer than what came in: it says more and counts as full. Else prove '..UptoSaid'. A law counts once. -/
mutual
def uptoBulk {H : Type} : DataW H → Nat
  | .lit (.string bytes) => bytes.length + 1
  | .lit _ => 1
  | .nil => 1
  | .ptr d => uptoBulk d + 1
  | .slice elems spare => uptoBulkAll elems + uptoBulkAll spare + 1
  | .agg parts => uptoBulkAll parts + 1
  | .iface _ d => uptoBulk d + 1
  | .map entries => uptoBulkEntries entries + 1
  | .held _ => 1
def uptoBulkAll {H : Type} : List (DataW H) → Nat
  | [] => 0
  | d :: r => uptoBulk d + uptoBulkAll r
def uptoBulkEntries {H : Type} : List (Lit × DataW H) → Nat
  | [] => 0
  | x :: r => uptoBulkEntry x + uptoBulkEntries r
def uptoBulkEntry {H : Type} : Lit × DataW H → Nat
  | (.string bytes, d) => bytes.length + uptoBulk d + 1
  | (_, d) => uptoBulk d + 1
 end
def uptoSmall : (H : Type) → List (DataW H) → Bool := fun _ ds => decide (uptoBulkAll ds ≤ 1048576)
def OpenSpec.upto (s : _root_.Go.ChangeSpec) : _root_.Go.OpenSpec := { _root_.Go.OpenSpec.ofChange s with cond := some uptoSmall }

/-- 'phalanxlaw21.LogDoes', WHERE WHAT IT READS IS OF BULK AT MOST 1048576: true; the input reads as it did. -/
def logDoesUptoRow : OpenClaim := { program := "ytakjggmiilkmdaa", sum := "a26d1a05fee740ec77820db98f7718ef10f1079bd0e49f6f1475b4858c0bae71", func := "phalanx/phalanxlaw21.LogDoes", spec := "logDoes", unfollowed := true, recurses := true, apart := false, narrowed := true }
def LogDoesUptoSaid : Prop := logDoesUptoRow.holds Try.pinned (OpenSpec.upto logDoesSpec)

/-- 'phalanxlaw21.LogCounts', WHERE WHAT IT READS IS OF BULK AT MOST 1048576: true; the input reads as it did. -/
def logCountsUptoRow : OpenClaim := { program := "ytakjggmiilkmdaa", sum := "a26d1a05fee740ec77820db98f7718ef10f1079bd0e49f6f1475b4858c0bae71", func := "phalanx/phalanxlaw21.LogCounts", spec := "logCounts", recurses := true, apart := false, narrowed := true }
def LogCountsUptoSaid : Prop := logCountsUptoRow.holds Try.pinned (OpenSpec.upto logCountsSpec)

/-- 'phalanxlaw21.LogAgrees', WHERE WHAT IT READS IS OF BULK AT MOST 1048576: true; the input reads as it did. -/
def logAgreesUptoRow : OpenClaim := { program := "ytakjggmiilkmdaa", sum := "a26d1a05fee740ec77820db98f7718ef10f1079bd0e49f6f1475b4858c0bae71", func := "phalanx/phalanxlaw21.LogAgrees", spec := "logAgrees", recurses := true, apart := false, narrowed := true }
def LogAgreesUptoSaid : Prop := logAgreesUptoRow.holds Try.pinned (OpenSpec.upto logAgreesSpec)

/-- 'phalanxlaw21.LogGrows', WHERE WHAT IT READS IS OF BULK AT MOST 1048576: true; the input reads as it did. -/
def logGrowsUptoRow : OpenClaim := { program := "ytakjggmiilkmdaa", sum := "a26d1a05fee740ec77820db98f7718ef10f1079bd0e49f6f1475b4858c0bae71", func := "phalanx/phalanxlaw21.LogGrows", spec := "logGrows", unfollowed := true, recurses := true, apart := false, narrowed := true }
def LogGrowsUptoSaid : Prop := logGrowsUptoRow.holds Try.pinned (OpenSpec.upto logGrowsSpec)

end Rows
end Go.Proofs.Ytakjggmiilkmdaa
