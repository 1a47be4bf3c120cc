/-
  No cell of these rows narrows 'for every input' (looked for: loops, veiled, ifaces, maps, wideKeys, modest, calm, conditions, laid).
  DERIVED. THE GIVEN ROWS OF THIS SEAT. 6 by the template 'for every input the law returns true; each argument reads behind the call as it read before'; 0 by the template 'total and deterministic' (their statements: YtieoeendnccafaaGreatTotals.lean).
  GIVEN WITH THE SEED: the statements are not yours to turn. If you find one false, say at which input.
  Laid BY PROGRAM, IN A SANDBOX (cutbox-rows.mjs): the forced cells as the released guide's own fill.sh prints them over the translation fd2b032c667fa45b… (all of the seat's roots in one cut). By AI agents, Wed Nov 11 2026. No macro, syntax, notation, axiom, sorry.
-/
import Derived.Test.YtieoeendnccafaaGreatChecked
import GoSem.Claim
import GoSem.ClaimJoined
import GoSem.ClaimMapViews
import Derived.JoinedTies
import Derived.KernelRfl
namespace Go.Proofs.YtieoeendnccafaaGreat
/- THE CELL 'sum', in the pinned program and in every row, IS THE sha256 OF THE DUMP (.gsa) THAT YtieoeendnccafaaGreatProg.lean LOADS. Nothing in Lean hashes anything: it is a label: what it is worth is what the hold of that sum in a sandbox is worth. -/
noncomputable def Tryz.pinned : Pinned := { name := "ytieoeendnccafaagreat", sum := "fd2b032c667fa45bdb6e24f784f1b7bc4e0e7faa0bbad61fe4d86d9ed4aae23e", checked := Tryz.checked }
namespace Rows
def none {H : Type} : Left H := { results := [], args := [] }

/-- 'phalanxlaw17.ApplyDoes': WHATEVER THE INPUT: true; the input reads as it did. -/
def applyDoesSpec : ChangeSpec := { name := "applyDoes", fn := fun _ => fun
  | [d1, d2] => { results := [.lit (.bool true)], args := [d1, d2] }
  | _ => none }
def applyDoesRow : OpenClaim := { program := "ytieoeendnccafaagreat", sum := "fd2b032c667fa45bdb6e24f784f1b7bc4e0e7faa0bbad61fe4d86d9ed4aae23e", func := "phalanx/phalanxlaw17.ApplyDoes", spec := "applyDoes", inPlace := ["math.Float64frombits", "math.Float64bits"], apart := false }
def ApplyDoesSaid : Prop := applyDoesRow.holds Tryz.pinned (OpenSpec.ofChange applyDoesSpec)

/-- ITS FALSE NEIGHBOUR: 'it returns false'. Refute it at one input. -/
def applyDoesWrong : ChangeSpec := { name := "applyDoes", fn := fun _ => fun
  | [d1, d2] => { results := [.lit (.bool false)], args := [d1, d2] }
  | _ => none }
def ApplyDoesWrongFalsely : Prop := applyDoesRow.holds Tryz.pinned (OpenSpec.ofChange applyDoesWrong)

/-- 'phalanxlaw17.ApplyPlays': WHATEVER THE INPUT: true; the input reads as it did. -/
def applyPlaysSpec : ChangeSpec := { name := "applyPlays", fn := fun _ => fun
  | [d] => { results := [.lit (.bool true)], args := [d] }
  | _ => none }
def applyPlaysRow : OpenClaim := { program := "ytieoeendnccafaagreat", sum := "fd2b032c667fa45bdb6e24f784f1b7bc4e0e7faa0bbad61fe4d86d9ed4aae23e", func := "phalanx/phalanxlaw17.ApplyPlays", spec := "applyPlays", inPlace := ["math.Float64frombits", "math.Float64bits"], apart := false }
def ApplyPlaysSaid : Prop := applyPlaysRow.holds Tryz.pinned (OpenSpec.ofChange applyPlaysSpec)

/-- ITS FALSE NEIGHBOUR: 'it returns false'. Refute it at one input. -/
def applyPlaysWrong : ChangeSpec := { name := "applyPlays", fn := fun _ => fun
  | [d] => { results := [.lit (.bool false)], args := [d] }
  | _ => none }
def ApplyPlaysWrongFalsely : Prop := applyPlaysRow.holds Tryz.pinned (OpenSpec.ofChange applyPlaysWrong)

/-- 'phalanxlaw18.SnapEncodes': WHATEVER THE INPUT: true; the input reads as it did. -/
def snapEncodesSpec : ChangeSpec := { name := "snapEncodes", fn := fun _ => fun
  | [d] => { results := [.lit (.bool true)], args := [d] }
  | _ => none }
def snapEncodesRow : OpenClaim := { program := "ytieoeendnccafaagreat", sum := "fd2b032c667fa45bdb6e24f784f1b7bc4e0e7faa0bbad61fe4d86d9ed4aae23e", func := "phalanx/phalanxlaw18.SnapEncodes", spec := "snapEncodes", unfollowed := true, recurses := true, apart := false }
def SnapEncodesSaid : Prop := snapEncodesRow.holds Tryz.pinned (OpenSpec.ofChange snapEncodesSpec)

/-- ITS FALSE NEIGHBOUR: 'it returns false'. Refute it at one input. -/
def snapEncodesWrong : ChangeSpec := { name := "snapEncodes", fn := fun _ => fun
  | [d] => { results := [.lit (.bool false)], args := [d] }
  | _ => none }
def SnapEncodesWrongFalsely : Prop := snapEncodesRow.holds Tryz.pinned (OpenSpec.ofChange snapEncodesWrong)

/-- 'phalanxlaw18.SnapDecodes': WHATEVER THE INPUT: true; the input reads as it did. -/
def snapDecodesSpec : ChangeSpec := { name := "snapDecodes", fn := fun _ => fun
  | [d] => { results := [.lit (.bool true)], args := [d] }
  | _ => none }
def snapDecodesRow : OpenClaim := { program := "ytieoeendnccafaagreat", sum := "fd2b032c667fa45bdb6e24f784f1b7bc4e0e7faa0bbad61fe4d86d9ed4aae23e", func := "phalanx/phalanxlaw18.SnapDecodes", spec := "snapDecodes", unfollowed := true, recurses := true, apart := false }
def SnapDecodesSaid : Prop := snapDecodesRow.holds Tryz.pinned (OpenSpec.ofChange snapDecodesSpec)

/-- ITS FALSE NEIGHBOUR: 'it returns false'. Refute it at one input. -/
def snapDecodesWrong : ChangeSpec := { name := "snapDecodes", fn := fun _ => fun
  | [d] => { results := [.lit (.bool false)], args := [d] }
  | _ => none }
def SnapDecodesWrongFalsely : Prop := snapDecodesRow.holds Tryz.pinned (OpenSpec.ofChange snapDecodesWrong)

/-- 'phalanxlaw18.SnapBack': WHATEVER THE INPUT: true; the input reads as it did. -/
def snapBackSpec : ChangeSpec := { name := "snapBack", fn := fun _ => fun
  | [d] => { results := [.lit (.bool true)], args := [d] }
  | _ => none }
def snapBackRow : OpenClaim := { program := "ytieoeendnccafaagreat", sum := "fd2b032c667fa45bdb6e24f784f1b7bc4e0e7faa0bbad61fe4d86d9ed4aae23e", func := "phalanx/phalanxlaw18.SnapBack", spec := "snapBack", unfollowed := true, recurses := true, apart := false }
def SnapBackSaid : Prop := snapBackRow.holds Tryz.pinned (OpenSpec.ofChange snapBackSpec)

/-- ITS FALSE NEIGHBOUR: 'it returns false'. Refute it at one input. -/
def snapBackWrong : ChangeSpec := { name := "snapBack", fn := fun _ => fun
  | [d] => { results := [.lit (.bool false)], args := [d] }
  | _ => none }
def SnapBackWrongFalsely : Prop := snapBackRow.holds Tryz.pinned (OpenSpec.ofChange snapBackWrong)

/-- 'phalanxlaw18.SnapGoes': WHATEVER THE INPUT: true; the input reads as it did. -/
def snapGoesSpec : ChangeSpec := { name := "snapGoes", fn := fun _ => fun
  | [d1, d2] => { results := [.lit (.bool true)], args := [d1, d2] }
  | _ => none }
def snapGoesRow : OpenClaim := { program := "ytieoeendnccafaagreat", sum := "fd2b032c667fa45bdb6e24f784f1b7bc4e0e7faa0bbad61fe4d86d9ed4aae23e", func := "phalanx/phalanxlaw18.SnapGoes", spec := "snapGoes", inPlace := ["math.Float64frombits", "math.Float64bits"], unfollowed := true, recurses := true, apart := false }
def SnapGoesSaid : Prop := snapGoesRow.holds Tryz.pinned (OpenSpec.ofChange snapGoesSpec)

/-- ITS FALSE NEIGHBOUR: 'it returns false'. Refute it at one input. -/
def snapGoesWrong : ChangeSpec := { name := "snapGoes", fn := fun _ => fun
  | [d1, d2] => { results := [.lit (.bool false)], args := [d1, d2] }
  | _ => none }
def SnapGoesWrongFalsely : Prop := snapGoesRow.holds Tryz.pinned (OpenSpec.ofChange snapGoesWrong)

/- THE SECOND FORM. 'bulk': how many values and letters a reading holds, each counted each time it is reached (what is shared counts as often as it is met; a slice's spare places count too). A statement '..UptoSaid' is the law's where the arguments, and the package variables that the reading takes, are together of bulk at most 1048576: NARROWER than '..Said'. Prove '..Said' where nothing that the law and all that it calls make is longer than what came in: it says more and counts as full. Else prove '..UptoSaid'. A law counts once. -/
mutual
def uptoBulk {H : Type} : DataW H → Nat
  | .lit (.string bytes) => bytes.length + 1
  | .lit _ => 1
  | .nil => 1
  | .ptr d => uptoBulk d + 1
  | .slice elems spare => uptoBulkAll elems + uptoBulkAll spare + 1
  | .agg parts => uptoBulkAll parts + 1
  | .iface _ d => uptoBulk d + 1
  | .map entries => uptoBulkEntries entries + 1
  | .held _ => 1
def uptoBulkAll {H : Type} : List (DataW H) → Nat
  | [] => 0
  | d :: r => uptoBulk d + uptoBulkAll r
def uptoBulkEntries {H : Type} : List (Lit × DataW H) → Nat
  | [] => 0
  | x :: r => uptoBulkEntry x + uptoBulkEntries r
def uptoBulkEntry {H : Type} : Lit × DataW H → Nat
  | (.string bytes, d) => bytes.length + uptoBulk d + 1
  | (_, d) => uptoBulk d + 1
 end
def uptoSmall : (H : Type) → List (DataW H) → Bool := fun _ ds => decide (uptoBulkAll ds ≤ 1048576)
def OpenSpec.upto (s : _root_.Go.ChangeSpec) : _root_.Go.OpenSpec := { _root_.Go.OpenSpec.ofChange s with cond := some uptoSmall }

/-- 'phalanxlaw17.ApplyDoes', WHERE WHAT IT READS IS OF BULK AT MOST 1048576: true; the input reads as it did. -/
def applyDoesUptoRow : OpenClaim := { program := "ytieoeendnccafaagreat", sum := "fd2b032c667fa45bdb6e24f784f1b7bc4e0e7faa0bbad61fe4d86d9ed4aae23e", func := "phalanx/phalanxlaw17.ApplyDoes", spec := "applyDoes", inPlace := ["math.Float64frombits", "math.Float64bits"], apart := false, narrowed := true }
def ApplyDoesUptoSaid : Prop := applyDoesUptoRow.holds Tryz.pinned (OpenSpec.upto applyDoesSpec)

/-- 'phalanxlaw17.ApplyPlays', WHERE WHAT IT READS IS OF BULK AT MOST 1048576: true; the input reads as it did. -/
def applyPlaysUptoRow : OpenClaim := { program := "ytieoeendnccafaagreat", sum := "fd2b032c667fa45bdb6e24f784f1b7bc4e0e7faa0bbad61fe4d86d9ed4aae23e", func := "phalanx/phalanxlaw17.ApplyPlays", spec := "applyPlays", inPlace := ["math.Float64frombits", "math.Float64bits"], apart := false, narrowed := true }
def ApplyPlaysUptoSaid : Prop := applyPlaysUptoRow.holds Tryz.pinned (OpenSpec.upto applyPlaysSpec)

/-- 'phalanxlaw18.SnapEncodes', WHERE WHAT IT READS IS OF BULK AT MOST 1048576: true; the input reads as it did. -/
def snapEncodesUptoRow : OpenClaim := { program := "ytieoeendnccafaagreat", sum := "fd2b032c667fa45bdb6e24f784f1b7bc4e0e7faa0bbad61fe4d86d9ed4aae23e", func := "phalanx/phalanxlaw18.SnapEncodes", spec := "snapEncodes", unfollowed := true, recurses := true, apart := false, narrowed := true }
def SnapEncodesUptoSaid : Prop := snapEncodesUptoRow.holds Tryz.pinned (OpenSpec.upto snapEncodesSpec)

/-- 'phalanxlaw18.SnapDecodes', WHERE WHAT IT READS IS OF BULK AT MOST 1048576: true; the input reads as it did. -/
def snapDecodesUptoRow : OpenClaim := { program := "ytieoeendnccafaagreat", sum := "fd2b032c667fa45bdb6e24f784f1b7bc4e0e7faa0bbad61fe4d86d9ed4aae23e", func := "phalanx/phalanxlaw18.SnapDecodes", spec := "snapDecodes", unfollowed := true, recurses := true, apart := false, narrowed := true }
def SnapDecodesUptoSaid : Prop := snapDecodesUptoRow.holds Tryz.pinned (OpenSpec.upto snapDecodesSpec)

/-- 'phalanxlaw18.SnapBack', WHERE WHAT IT READS IS OF BULK AT MOST 1048576: true; the input reads as it did. -/
def snapBackUptoRow : OpenClaim := { program := "ytieoeendnccafaagreat", sum := "fd2b032c667fa45bdb6e24f784f1b7bc4e0e7faa0bbad61fe4d86d9ed4aae23e", func := "phalanx/phalanxlaw18.SnapBack", spec := "snapBack", unfollowed := true, recurses := true, apart := false, narrowed := true }
def SnapBackUptoSaid : Prop := snapBackUptoRow.holds Tryz.pinned (OpenSpec.upto snapBackSpec)

/-- 'phalanxlaw18.SnapGoes', WHERE WHAT IT READS IS OF BULK AT MOST 1048576: true; the input reads as it did. -/
def snapGoesUptoRow : OpenClaim := { program := "ytieoeendnccafaagreat", sum := "fd2b032c667fa45bdb6e24f784f1b7bc4e0e7faa0bbad61fe4d86d9ed4aae23e", func := "phalanx/phalanxlaw18.SnapGoes", spec := "snapGoes", inPlace := ["math.Float64frombits", "math.Float64bits"], unfollowed := true, recurses := true, apart := false, narrowed := true }
def SnapGoesUptoSaid : Prop := snapGoesUptoRow.holds Tryz.pinned (OpenSpec.upto snapGoesSpec)

end Rows
end Go.Proofs.YtieoeendnccafaaGreat
