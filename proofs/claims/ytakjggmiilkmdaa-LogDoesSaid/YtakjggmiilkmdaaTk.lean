/-
  Steps of a region that draws its order, in short: an operation is taken first, what is passed over, what may come up next.
  No condition but those named.
-/
import Derived.Deep.RegionHeld
import Derived.KernelRfl
import Derived.Handy
import Derived.Lib.Hide
set_option linter.unusedVariables false
namespace Go.Proofs.Ytakjggmiilkmdaa
open Go.RowKit
theorem zH {p : Prop} (h : p) : RowKit.Hid p := Lib.hid h
theorem lnA {α : Type} (l : List α) : [] ++ l = l := rfl
theorem lcA {α : Type} (a : α) (l m : List α) : a :: l ++ m = a :: (l ++ m) := rfl
section
variable {P : Program} {ops : Array Oper} {Q : Exit → Act → World → Prop} {md : Region.Mode} {S : World → Prop} {fuel : Nat} {listed : Array Bool} {a a' : Act} {w : World}
theorem ap1 (a : Act) (d : Tmp) (v : Value) : a.put (some d) v = { a with tmps := a.tmps.setIfInBounds d v } := rfl
theorem ap2 (a : Act) (v : Value) : a.put none v = a := rfl
theorem ap3 (l : List Value) (i : Nat) (v : Value) : l.toArray.setIfInBounds i v = (l.set i v).toArray := by simp
theorem ap4 (x : Value) (l : List Value) (v : Value) : (x :: l).set 0 v = v :: l := rfl
theorem ap5 (x : Value) (l : List Value) (n : Nat) (v : Value) : (x :: l).set (n + 1) v = x :: l.set n v := rfl
end
end Go.Proofs.Ytakjggmiilkmdaa
