/-
  No cell of these rows narrows 'for every input' (looked for: loops, veiled, ifaces, maps, wideKeys, modest, calm, conditions, laid).
  DERIVED. THE GIVEN ROWS OF THIS SEAT. 7 by the template 'for every input the law returns true; each argument reads behind the call as it read before'; 0 by the template 'total and deterministic' (their statements: YtldlckhkgofgdaaTotals.lean).
  GIVEN WITH THE SEED: the statements are not yours to turn. If you find one false, say at which input.
  Laid BY PROGRAM, IN A SANDBOX (cutbox-rows.mjs): the forced cells as the released guide's own fill.sh prints them over the translation 41c7016bb3c6590e… (all of the seat's roots in one cut). By AI agents, Wed Nov 11 2026. No macro, syntax, notation, axiom, sorry.
-/
import Derived.Test.YtldlckhkgofgdaaChecked
import GoSem.Claim
import GoSem.ClaimJoined
import GoSem.ClaimMapViews
import Derived.JoinedTies
import Derived.KernelRfl
namespace Go.Proofs.Ytldlckhkgofgdaa
/- THE CELL 'sum', in the pinned program and in every row, IS THE sha256 OF THE DUMP (.gsa) THAT YtldlckhkgofgdaaProg.lean LOADS. Nothing in Lean hashes anything: it is a label: what it is worth is what the hold of that sum in a sandbox is worth. -/
noncomputable def Try.pinned : Pinned := { name := "ytldlckhkgofgdaa", sum := "41c7016bb3c6590e76965d72606d6722a35fc05a31983a6bfca89af02ba59f0f", checked := Try.checked }
namespace Rows
def none {H : Type} : Left H := { results := [], args := [] }

/-- 'phalanxlaw02.NumMakes': WHATEVER THE INPUT: true; the input reads as it did. -/
def numMakesSpec : ChangeSpec := { name := "numMakes", fn := fun _ => fun
  | [d] => { results := [.lit (.bool true)], args := [d] }
  | _ => none }
def numMakesRow : OpenClaim := { program := "ytldlckhkgofgdaa", sum := "41c7016bb3c6590e76965d72606d6722a35fc05a31983a6bfca89af02ba59f0f", func := "phalanx/phalanxlaw02.NumMakes", spec := "numMakes", inPlace := ["math.Float64frombits", "math.Float64bits"], apart := false }
def NumMakesSaid : Prop := numMakesRow.holds Try.pinned (OpenSpec.ofChange numMakesSpec)

/-- ITS FALSE NEIGHBOUR: 'it returns false'. Refute it at one input. -/
def numMakesWrong : ChangeSpec := { name := "numMakes", fn := fun _ => fun
  | [d] => { results := [.lit (.bool false)], args := [d] }
  | _ => none }
def NumMakesWrongFalsely : Prop := numMakesRow.holds Try.pinned (OpenSpec.ofChange numMakesWrong)

/-- 'phalanxlaw02.NumOrders': WHATEVER THE INPUT: true; the input reads as it did. -/
def numOrdersSpec : ChangeSpec := { name := "numOrders", fn := fun _ => fun
  | [d1, d2] => { results := [.lit (.bool true)], args := [d1, d2] }
  | _ => none }
def numOrdersRow : OpenClaim := { program := "ytldlckhkgofgdaa", sum := "41c7016bb3c6590e76965d72606d6722a35fc05a31983a6bfca89af02ba59f0f", func := "phalanx/phalanxlaw02.NumOrders", spec := "numOrders", inPlace := ["math.Float64frombits", "math.Float64bits"], apart := false }
def NumOrdersSaid : Prop := numOrdersRow.holds Try.pinned (OpenSpec.ofChange numOrdersSpec)

/-- ITS FALSE NEIGHBOUR: 'it returns false'. Refute it at one input. -/
def numOrdersWrong : ChangeSpec := { name := "numOrders", fn := fun _ => fun
  | [d1, d2] => { results := [.lit (.bool false)], args := [d1, d2] }
  | _ => none }
def NumOrdersWrongFalsely : Prop := numOrdersRow.holds Try.pinned (OpenSpec.ofChange numOrdersWrong)

/-- 'phalanxlaw02.NumOne': WHATEVER THE INPUT: true; the input reads as it did. -/
def numOneSpec : ChangeSpec := { name := "numOne", fn := fun _ => fun
  | [d1, d2, d3] => { results := [.lit (.bool true)], args := [d1, d2, d3] }
  | _ => none }
def numOneRow : OpenClaim := { program := "ytldlckhkgofgdaa", sum := "41c7016bb3c6590e76965d72606d6722a35fc05a31983a6bfca89af02ba59f0f", func := "phalanx/phalanxlaw02.NumOne", spec := "numOne", inPlace := ["math.Float64frombits", "math.Float64bits"], apart := false }
def NumOneSaid : Prop := numOneRow.holds Try.pinned (OpenSpec.ofChange numOneSpec)

/-- ITS FALSE NEIGHBOUR: 'it returns false'. Refute it at one input. -/
def numOneWrong : ChangeSpec := { name := "numOne", fn := fun _ => fun
  | [d1, d2, d3] => { results := [.lit (.bool false)], args := [d1, d2, d3] }
  | _ => none }
def NumOneWrongFalsely : Prop := numOneRow.holds Try.pinned (OpenSpec.ofChange numOneWrong)

/-- 'phalanxlaw02.NumAdds': WHATEVER THE INPUT: true; the input reads as it did. -/
def numAddsSpec : ChangeSpec := { name := "numAdds", fn := fun _ => fun
  | [d1, d2] => { results := [.lit (.bool true)], args := [d1, d2] }
  | _ => none }
def numAddsRow : OpenClaim := { program := "ytldlckhkgofgdaa", sum := "41c7016bb3c6590e76965d72606d6722a35fc05a31983a6bfca89af02ba59f0f", func := "phalanx/phalanxlaw02.NumAdds", spec := "numAdds", inPlace := ["math.Float64frombits", "math.Float64bits"], apart := false }
def NumAddsSaid : Prop := numAddsRow.holds Try.pinned (OpenSpec.ofChange numAddsSpec)

/-- ITS FALSE NEIGHBOUR: 'it returns false'. Refute it at one input. -/
def numAddsWrong : ChangeSpec := { name := "numAdds", fn := fun _ => fun
  | [d1, d2] => { results := [.lit (.bool false)], args := [d1, d2] }
  | _ => none }
def NumAddsWrongFalsely : Prop := numAddsRow.holds Try.pinned (OpenSpec.ofChange numAddsWrong)

/-- 'phalanxlaw02.NumEdges': WHATEVER THE INPUT: true; the input reads as it did. -/
def numEdgesSpec : ChangeSpec := { name := "numEdges", fn := fun _ => fun
  | [d1, d2] => { results := [.lit (.bool true)], args := [d1, d2] }
  | _ => none }
def numEdgesRow : OpenClaim := { program := "ytldlckhkgofgdaa", sum := "41c7016bb3c6590e76965d72606d6722a35fc05a31983a6bfca89af02ba59f0f", func := "phalanx/phalanxlaw02.NumEdges", spec := "numEdges", inPlace := ["math.Float64frombits", "math.Float64bits"], apart := false }
def NumEdgesSaid : Prop := numEdgesRow.holds Try.pinned (OpenSpec.ofChange numEdgesSpec)

/-- ITS FALSE NEIGHBOUR: 'it returns false'. Refute it at one input. -/
def numEdgesWrong : ChangeSpec := { name := "numEdges", fn := fun _ => fun
  | [d1, d2] => { results := [.lit (.bool false)], args := [d1, d2] }
  | _ => none }
def NumEdgesWrongFalsely : Prop := numEdgesRow.holds Try.pinned (OpenSpec.ofChange numEdgesWrong)

/-- 'phalanxlaw02.NumEnds': WHATEVER THE INPUT: true; the input reads as it did. -/
def numEndsSpec : ChangeSpec := { name := "numEnds", fn := fun _ => fun
  | [d1, d2] => { results := [.lit (.bool true)], args := [d1, d2] }
  | _ => none }
def numEndsRow : OpenClaim := { program := "ytldlckhkgofgdaa", sum := "41c7016bb3c6590e76965d72606d6722a35fc05a31983a6bfca89af02ba59f0f", func := "phalanx/phalanxlaw02.NumEnds", spec := "numEnds", inPlace := ["math.Float64frombits", "math.Float64bits"], apart := false }
def NumEndsSaid : Prop := numEndsRow.holds Try.pinned (OpenSpec.ofChange numEndsSpec)

/-- ITS FALSE NEIGHBOUR: 'it returns false'. Refute it at one input. -/
def numEndsWrong : ChangeSpec := { name := "numEnds", fn := fun _ => fun
  | [d1, d2] => { results := [.lit (.bool false)], args := [d1, d2] }
  | _ => none }
def NumEndsWrongFalsely : Prop := numEndsRow.holds Try.pinned (OpenSpec.ofChange numEndsWrong)

/-- 'phalanxlaw02.NumOf': WHATEVER THE INPUT: true; the input reads as it did. -/
def numOfSpec : ChangeSpec := { name := "numOf", fn := fun _ => fun
  | [d1, d2] => { results := [.lit (.bool true)], args := [d1, d2] }
  | _ => none }
def numOfRow : OpenClaim := { program := "ytldlckhkgofgdaa", sum := "41c7016bb3c6590e76965d72606d6722a35fc05a31983a6bfca89af02ba59f0f", func := "phalanx/phalanxlaw02.NumOf", spec := "numOf", inPlace := ["math.Float64frombits", "math.Float64bits"], apart := false }
def NumOfSaid : Prop := numOfRow.holds Try.pinned (OpenSpec.ofChange numOfSpec)

/-- ITS FALSE NEIGHBOUR: 'it returns false'. Refute it at one input. -/
def numOfWrong : ChangeSpec := { name := "numOf", fn := fun _ => fun
  | [d1, d2] => { results := [.lit (.bool false)], args := [d1, d2] }
  | _ => none }
def NumOfWrongFalsely : Prop := numOfRow.holds Try.pinned (OpenSpec.ofChange numOfWrong)

/- THE SECOND FORM. 'bulk': how many values and letters a reading holds, each counted each time it is reached (what is shared counts as often as it is met; a slice's spare places count too). A statement '..UptoSaid' is the law's where the arguments, and the package variables that the reading takes, are together of bulk at most 1048576: NARROWER than '..Said'. Prove '..Said' where nothing that the law and all that it calls make is longer than what came in: it says more and counts as full. Else prove '..UptoSaid'. A law counts once. -/
mutual
def uptoBulk {H : Type} : DataW H → Nat
  | .lit (.string bytes) => bytes.length + 1
  | .lit _ => 1
  | .nil => 1
  | .ptr d => uptoBulk d + 1
  | .slice elems spare => uptoBulkAll elems + uptoBulkAll spare + 1
  | .agg parts => uptoBulkAll parts + 1
  | .iface _ d => uptoBulk d + 1
  | .map entries => uptoBulkEntries entries + 1
  | .held _ => 1
def uptoBulkAll {H : Type} : List (DataW H) → Nat
  | [] => 0
  | d :: r => uptoBulk d + uptoBulkAll r
def uptoBulkEntries {H : Type} : List (Lit × DataW H) → Nat
  | [] => 0
  | x :: r => uptoBulkEntry x + uptoBulkEntries r
def uptoBulkEntry {H : Type} : Lit × DataW H → Nat
  | (.string bytes, d) => bytes.length + uptoBulk d + 1
  | (_, d) => uptoBulk d + 1
 end
def uptoSmall : (H : Type) → List (DataW H) → Bool := fun _ ds => decide (uptoBulkAll ds ≤ 1048576)
def OpenSpec.upto (s : _root_.Go.ChangeSpec) : _root_.Go.OpenSpec := { _root_.Go.OpenSpec.ofChange s with cond := some uptoSmall }

/-- 'phalanxlaw02.NumMakes', WHERE WHAT IT READS IS OF BULK AT MOST 1048576: true; the input reads as it did. -/
def numMakesUptoRow : OpenClaim := { program := "ytldlckhkgofgdaa", sum := "41c7016bb3c6590e76965d72606d6722a35fc05a31983a6bfca89af02ba59f0f", func := "phalanx/phalanxlaw02.NumMakes", spec := "numMakes", inPlace := ["math.Float64frombits", "math.Float64bits"], apart := false, narrowed := true }
def NumMakesUptoSaid : Prop := numMakesUptoRow.holds Try.pinned (OpenSpec.upto numMakesSpec)

/-- 'phalanxlaw02.NumOrders', WHERE WHAT IT READS IS OF BULK AT MOST 1048576: true; the input reads as it did. -/
def numOrdersUptoRow : OpenClaim := { program := "ytldlckhkgofgdaa", sum := "41c7016bb3c6590e76965d72606d6722a35fc05a31983a6bfca89af02ba59f0f", func := "phalanx/phalanxlaw02.NumOrders", spec := "numOrders", inPlace := ["math.Float64frombits", "math.Float64bits"], apart := false, narrowed := true }
def NumOrdersUptoSaid : Prop := numOrdersUptoRow.holds Try.pinned (OpenSpec.upto numOrdersSpec)

/-- 'phalanxlaw02.NumOne', WHERE WHAT IT READS IS OF BULK AT MOST 1048576: true; the input reads as it did. -/
def numOneUptoRow : OpenClaim := { program := "ytldlckhkgofgdaa", sum := "41c7016bb3c6590e76965d72606d6722a35fc05a31983a6bfca89af02ba59f0f", func := "phalanx/phalanxlaw02.NumOne", spec := "numOne", inPlace := ["math.Float64frombits", "math.Float64bits"], apart := false, narrowed := true }
def NumOneUptoSaid : Prop := numOneUptoRow.holds Try.pinned (OpenSpec.upto numOneSpec)

/-- 'phalanxlaw02.NumAdds', WHERE WHAT IT READS IS OF BULK AT MOST 1048576: true; the input reads as it did. -/
def numAddsUptoRow : OpenClaim := { program := "ytldlckhkgofgdaa", sum := "41c7016bb3c6590e76965d72606d6722a35fc05a31983a6bfca89af02ba59f0f", func := "phalanx/phalanxlaw02.NumAdds", spec := "numAdds", inPlace := ["math.Float64frombits", "math.Float64bits"], apart := false, narrowed := true }
def NumAddsUptoSaid : Prop := numAddsUptoRow.holds Try.pinned (OpenSpec.upto numAddsSpec)

/-- 'phalanxlaw02.NumEdges', WHERE WHAT IT READS IS OF BULK AT MOST 1048576: true; the input reads as it did. -/
def numEdgesUptoRow : OpenClaim := { program := "ytldlckhkgofgdaa", sum := "41c7016bb3c6590e76965d72606d6722a35fc05a31983a6bfca89af02ba59f0f", func := "phalanx/phalanxlaw02.NumEdges", spec := "numEdges", inPlace := ["math.Float64frombits", "math.Float64bits"], apart := false, narrowed := true }
def NumEdgesUptoSaid : Prop := numEdgesUptoRow.holds Try.pinned (OpenSpec.upto numEdgesSpec)

/-- 'phalanxlaw02.NumEnds', WHERE WHAT IT READS IS OF BULK AT MOST 1048576: true; the input reads as it did. -/
def numEndsUptoRow : OpenClaim := { program := "ytldlckhkgofgdaa", sum := "41c7016bb3c6590e76965d72606d6722a35fc05a31983a6bfca89af02ba59f0f", func := "phalanx/phalanxlaw02.NumEnds", spec := "numEnds", inPlace := ["math.Float64frombits", "math.Float64bits"], apart := false, narrowed := true }
def NumEndsUptoSaid : Prop := numEndsUptoRow.holds Try.pinned (OpenSpec.upto numEndsSpec)

/-- 'phalanxlaw02.NumOf', WHERE WHAT IT READS IS OF BULK AT MOST 1048576: true; the input reads as it did. -/
def numOfUptoRow : OpenClaim := { program := "ytldlckhkgofgdaa", sum := "41c7016bb3c6590e76965d72606d6722a35fc05a31983a6bfca89af02ba59f0f", func := "phalanx/phalanxlaw02.NumOf", spec := "numOf", inPlace := ["math.Float64frombits", "math.Float64bits"], apart := false, narrowed := true }
def NumOfUptoSaid : Prop := numOfUptoRow.holds Try.pinned (OpenSpec.upto numOfSpec)

end Rows
end Go.Proofs.Ytldlckhkgofgdaa
