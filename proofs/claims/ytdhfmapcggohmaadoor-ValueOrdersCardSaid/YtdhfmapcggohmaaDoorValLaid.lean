/-
  What the rows' listed variables give the walks: the place of the table that is read, and that the variable for a wrong form holds an error.
-/
import Derived.Test.YtdhfmapcggohmaaDoorValAwake
import Derived.Test.YtdhfmapcggohmaaDoorLaid
namespace Go.Proofs.YtdhfmapcggohmaaDoor
open Go.RowKit

theorem own : ownKnob Tryd.prog.godebug = none := by kernel_rfl
theorem laidOut : laidOutB Tryd.prog = true := by kernel_rfl
theorem t_tab : (Tryd.prog.globals[5]?).map (·.type) = some 119 := by kernel_rfl
theorem t_err : (Tryd.prog.globals[2]?).map (·.type) = some 81 := by kernel_rfl

theorem tab_of {l : List (String × DataW Unit)} {W : World} {n : String} (h : laidMet Tryd.prog l W) (hm : (n, Rows.laid_math_bits_deBruijn64tab) ∈ l) (hn : Tryd.prog.globalNamed n = some 5) : TabOk W := by
  have hr := Lift.reads_of h hm
  have hr2 : Lift.Reads Tryd.prog W n (Lib.tabData .u8 [0, 1, 56, 2, 57, 49, 28, 3, 61, 58, 42, 50, 38, 29, 17, 4, 62, 47, 59, 36, 45, 43, 51, 22, 53, 39, 33, 30, 24, 18, 12, 5, 63, 55, 48, 27, 60, 41, 37, 16, 46, 35, 44, 21, 52, 32, 23, 11, 54, 26, 40, 15, 34, 20, 31, 10, 25, 14, 19, 9, 13, 8, 7, 6]) := hr
  have hc := hr2.cell hn t_tab Tryd.underlying119 Tryd.underlying5 (by kernel_rfl) (by kernel_rfl) 15 (by decide)
  exact ⟨hc, Lib.lt_of_cell hc⟩
theorem err_of {l : List (String × DataW Unit)} {W : World} {n : String} (h : laidMet Tryd.prog l W) (hm : (n, Rows.laid_strconv_ErrSyntax) ∈ l) (hn : Tryd.prog.globalNamed n = some 2) : ErrOk W :=
  (Lift.reads_of h hm).iface hn t_err under_err

end Go.Proofs.YtdhfmapcggohmaaDoor
