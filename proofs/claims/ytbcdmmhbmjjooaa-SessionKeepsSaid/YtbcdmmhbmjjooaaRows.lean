/-
  No cell of these rows narrows 'for every input' (looked for: loops, veiled, ifaces, maps, wideKeys, modest, calm, conditions, laid).
  DERIVED. THE GIVEN ROWS OF THIS SEAT. 5 by the template 'for every input the law returns true; each argument reads behind the call as it read before'; 0 by the template 'total and deterministic' (their statements: YtbcdmmhbmjjooaaTotals.lean).
  GIVEN WITH THE SEED: the statements are not yours to turn. If you find one false, say at which input.
  Laid BY PROGRAM, IN A SANDBOX (cutbox-rows.mjs): the forced cells as the released guide's own fill.sh prints them over the translation 30946bbb08a5b4d6… (all of the seat's roots in one cut). By AI agents, Wed Nov 11 2026. No macro, syntax, notation, axiom, sorry.
-/
import Derived.Test.YtbcdmmhbmjjooaaChecked
import GoSem.Claim
import GoSem.ClaimJoined
import GoSem.ClaimMapViews
import Derived.JoinedTies
import Derived.KernelRfl
namespace Go.Proofs.Ytbcdmmhbmjjooaa
/- THE CELL 'sum', in the pinned program and in every row, IS THE sha256 OF THE DUMP (.gsa) THAT YtbcdmmhbmjjooaaProg.lean LOADS. Nothing in Lean hashes anything: it is a label: what it is worth is what the hold of that sum in a sandbox is worth. -/
noncomputable def Try.pinned : Pinned := { name := "ytbcdmmhbmjjooaa", sum := "30946bbb08a5b4d6cc32af7fba2e7d70e997d65c128722744b4b8201409193f6", checked := Try.checked }
namespace Rows
def none {H : Type} : Left H := { results := [], args := [] }

/-- 'phalanxlaw16.SessionLooks': WHATEVER THE INPUT: true; the input reads as it did. -/
def sessionLooksSpec : ChangeSpec := { name := "sessionLooks", fn := fun _ => fun
  | [d1, d2] => { results := [.lit (.bool true)], args := [d1, d2] }
  | _ => none }
def sessionLooksRow : OpenClaim := { program := "ytbcdmmhbmjjooaa", sum := "30946bbb08a5b4d6cc32af7fba2e7d70e997d65c128722744b4b8201409193f6", func := "phalanx/phalanxlaw16.SessionLooks", spec := "sessionLooks", apart := false }
def SessionLooksSaid : Prop := sessionLooksRow.holds Try.pinned (OpenSpec.ofChange sessionLooksSpec)

/-- ITS FALSE NEIGHBOUR: 'it returns false'. Refute it at one input. -/
def sessionLooksWrong : ChangeSpec := { name := "sessionLooks", fn := fun _ => fun
  | [d1, d2] => { results := [.lit (.bool false)], args := [d1, d2] }
  | _ => none }
def SessionLooksWrongFalsely : Prop := sessionLooksRow.holds Try.pinned (OpenSpec.ofChange sessionLooksWrong)

/-- 'phalanxlaw16.SessionDoes': WHATEVER THE INPUT: true; the input reads as it did. -/
def sessionDoesSpec : ChangeSpec := { name := "sessionDoes", fn := fun _ => fun
  | [d1, d2, d3] => { results := [.lit (.bool true)], args := [d1, d2, d3] }
  | _ => none }
def sessionDoesRow : OpenClaim := { program := "ytbcdmmhbmjjooaa", sum := "30946bbb08a5b4d6cc32af7fba2e7d70e997d65c128722744b4b8201409193f6", func := "phalanx/phalanxlaw16.SessionDoes", spec := "sessionDoes", apart := false }
def SessionDoesSaid : Prop := sessionDoesRow.holds Try.pinned (OpenSpec.ofChange sessionDoesSpec)

/-- ITS FALSE NEIGHBOUR: 'it returns false'. Refute it at one input. -/
def sessionDoesWrong : ChangeSpec := { name := "sessionDoes", fn := fun _ => fun
  | [d1, d2, d3] => { results := [.lit (.bool false)], args := [d1, d2, d3] }
  | _ => none }
def SessionDoesWrongFalsely : Prop := sessionDoesRow.holds Try.pinned (OpenSpec.ofChange sessionDoesWrong)

/-- 'phalanxlaw16.SessionKeeps': WHATEVER THE INPUT: true; the input reads as it did. -/
def sessionKeepsSpec : ChangeSpec := { name := "sessionKeeps", fn := fun _ => fun
  | [d1, d2, d3] => { results := [.lit (.bool true)], args := [d1, d2, d3] }
  | _ => none }
def sessionKeepsRow : OpenClaim := { program := "ytbcdmmhbmjjooaa", sum := "30946bbb08a5b4d6cc32af7fba2e7d70e997d65c128722744b4b8201409193f6", func := "phalanx/phalanxlaw16.SessionKeeps", spec := "sessionKeeps", apart := false }
def SessionKeepsSaid : Prop := sessionKeepsRow.holds Try.pinned (OpenSpec.ofChange sessionKeepsSpec)

/-- ITS FALSE NEIGHBOUR: 'it returns false'. Refute it at one input. -/
def sessionKeepsWrong : ChangeSpec := { name := "sessionKeeps", fn := fun _ => fun
  | [d1, d2, d3] => { results := [.lit (.bool false)], args := [d1, d2, d3] }
  | _ => none }
def SessionKeepsWrongFalsely : Prop := sessionKeepsRow.holds Try.pinned (OpenSpec.ofChange sessionKeepsWrong)

/-- 'phalanxlaw16.SessionOnce': WHATEVER THE INPUT: true; the input reads as it did. -/
def sessionOnceSpec : ChangeSpec := { name := "sessionOnce", fn := fun _ => fun
  | [d] => { results := [.lit (.bool true)], args := [d] }
  | _ => none }
def sessionOnceRow : OpenClaim := { program := "ytbcdmmhbmjjooaa", sum := "30946bbb08a5b4d6cc32af7fba2e7d70e997d65c128722744b4b8201409193f6", func := "phalanx/phalanxlaw16.SessionOnce", spec := "sessionOnce", apart := false }
def SessionOnceSaid : Prop := sessionOnceRow.holds Try.pinned (OpenSpec.ofChange sessionOnceSpec)

/-- ITS FALSE NEIGHBOUR: 'it returns false'. Refute it at one input. -/
def sessionOnceWrong : ChangeSpec := { name := "sessionOnce", fn := fun _ => fun
  | [d] => { results := [.lit (.bool false)], args := [d] }
  | _ => none }
def SessionOnceWrongFalsely : Prop := sessionOnceRow.holds Try.pinned (OpenSpec.ofChange sessionOnceWrong)

/-- 'phalanxlaw16.SessionReplies': WHATEVER THE INPUT: true; the input reads as it did. -/
def sessionRepliesSpec : ChangeSpec := { name := "sessionReplies", fn := fun _ => fun
  | [d1, d2, d3] => { results := [.lit (.bool true)], args := [d1, d2, d3] }
  | _ => none }
def sessionRepliesRow : OpenClaim := { program := "ytbcdmmhbmjjooaa", sum := "30946bbb08a5b4d6cc32af7fba2e7d70e997d65c128722744b4b8201409193f6", func := "phalanx/phalanxlaw16.SessionReplies", spec := "sessionReplies", apart := false }
def SessionRepliesSaid : Prop := sessionRepliesRow.holds Try.pinned (OpenSpec.ofChange sessionRepliesSpec)

/-- ITS FALSE NEIGHBOUR: 'it returns false'. Refute it at one input. -/
def sessionRepliesWrong : ChangeSpec := { name := "sessionReplies", fn := fun _ => fun
  | [d1, d2, d3] => { results := [.lit (.bool false)], args := [d1, d2, d3] }
  | _ => none }
def SessionRepliesWrongFalsely : Prop := sessionRepliesRow.holds Try.pinned (OpenSpec.ofChange sessionRepliesWrong)

/- THE SECOND FORM. 'bulk': how many values and letters a reading holds, each counted each time it is reached (what is shared counts as often as it is met; a slice's spare places count too). A statement '..UptoSaid' is the law's where the arguments, and the package variables that the reading takes, are together of bulk at most 1048576: NARROWER than '..Said'. Prove '..Said' where nothing that the law and all that it calls make is longer than what came in: it says more and counts as full. Else prove '..UptoSaid'. A law counts once. -/
mutual
def uptoBulk {H : Type} : DataW H → Nat
  | .lit (.string bytes) => bytes.length + 1
  | .lit _ => 1
  | .nil => 1
  | .ptr d => uptoBulk d + 1
  | .slice elems spare => uptoBulkAll elems + uptoBulkAll spare + 1
  | .agg parts => uptoBulkAll parts + 1
  | .iface _ d => uptoBulk d + 1
  | .map entries => uptoBulkEntries entries + 1
  | .held _ => 1
def uptoBulkAll {H : Type} : List (DataW H) → Nat
  | [] => 0
  | d :: r => uptoBulk d + uptoBulkAll r
def uptoBulkEntries {H : Type} : List (Lit × DataW H) → Nat
  | [] => 0
  | x :: r => uptoBulkEntry x + uptoBulkEntries r
def uptoBulkEntry {H : Type} : Lit × DataW H → Nat
  | (.string bytes, d) => bytes.length + uptoBulk d + 1
  | (_, d) => uptoBulk d + 1
 end
def uptoSmall : (H : Type) → List (DataW H) → Bool := fun _ ds => decide (uptoBulkAll ds ≤ 1048576)
def OpenSpec.upto (s : _root_.Go.ChangeSpec) : _root_.Go.OpenSpec := { _root_.Go.OpenSpec.ofChange s with cond := some uptoSmall }

/-- 'phalanxlaw16.SessionLooks', WHERE WHAT IT READS IS OF BULK AT MOST 1048576: true; the input reads as it did. -/
def sessionLooksUptoRow : OpenClaim := { program := "ytbcdmmhbmjjooaa", sum := "30946bbb08a5b4d6cc32af7fba2e7d70e997d65c128722744b4b8201409193f6", func := "phalanx/phalanxlaw16.SessionLooks", spec := "sessionLooks", apart := false, narrowed := true }
def SessionLooksUptoSaid : Prop := sessionLooksUptoRow.holds Try.pinned (OpenSpec.upto sessionLooksSpec)

/-- 'phalanxlaw16.SessionDoes', WHERE WHAT IT READS IS OF BULK AT MOST 1048576: true; the input reads as it did. -/
def sessionDoesUptoRow : OpenClaim := { program := "ytbcdmmhbmjjooaa", sum := "30946bbb08a5b4d6cc32af7fba2e7d70e997d65c128722744b4b8201409193f6", func := "phalanx/phalanxlaw16.SessionDoes", spec := "sessionDoes", apart := false, narrowed := true }
def SessionDoesUptoSaid : Prop := sessionDoesUptoRow.holds Try.pinned (OpenSpec.upto sessionDoesSpec)

/-- 'phalanxlaw16.SessionKeeps', WHERE WHAT IT READS IS OF BULK AT MOST 1048576: true; the input reads as it did. -/
def sessionKeepsUptoRow : OpenClaim := { program := "ytbcdmmhbmjjooaa", sum := "30946bbb08a5b4d6cc32af7fba2e7d70e997d65c128722744b4b8201409193f6", func := "phalanx/phalanxlaw16.SessionKeeps", spec := "sessionKeeps", apart := false, narrowed := true }
def SessionKeepsUptoSaid : Prop := sessionKeepsUptoRow.holds Try.pinned (OpenSpec.upto sessionKeepsSpec)

/-- 'phalanxlaw16.SessionOnce', WHERE WHAT IT READS IS OF BULK AT MOST 1048576: true; the input reads as it did. -/
def sessionOnceUptoRow : OpenClaim := { program := "ytbcdmmhbmjjooaa", sum := "30946bbb08a5b4d6cc32af7fba2e7d70e997d65c128722744b4b8201409193f6", func := "phalanx/phalanxlaw16.SessionOnce", spec := "sessionOnce", apart := false, narrowed := true }
def SessionOnceUptoSaid : Prop := sessionOnceUptoRow.holds Try.pinned (OpenSpec.upto sessionOnceSpec)

/-- 'phalanxlaw16.SessionReplies', WHERE WHAT IT READS IS OF BULK AT MOST 1048576: true; the input reads as it did. -/
def sessionRepliesUptoRow : OpenClaim := { program := "ytbcdmmhbmjjooaa", sum := "30946bbb08a5b4d6cc32af7fba2e7d70e997d65c128722744b4b8201409193f6", func := "phalanx/phalanxlaw16.SessionReplies", spec := "sessionReplies", apart := false, narrowed := true }
def SessionRepliesUptoSaid : Prop := sessionRepliesUptoRow.holds Try.pinned (OpenSpec.upto sessionRepliesSpec)

end Rows
end Go.Proofs.Ytbcdmmhbmjjooaa
