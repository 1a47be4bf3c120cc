/-
  What phalanx/phalanxlaw13.twin returns: the same things in new memory.
  No condition but what the slice reads as.
-/
import Derived.Test.YtbdfmfegmfmghaaRfSame
set_option linter.unusedSimpArgs false
set_option linter.unusedVariables false
namespace Go.Proofs.Ytbdfmfegmfmghaa
open Go.RowKit

set_option maxHeartbeats 3200000 in
theorem gtwin_any (A : Option Addr) (c n : Nat) (l : List Rf) (w : World) (hs : Sls rfLay rF w A n c l) :
    Calls Try.prog 5 #[.slice A n c] w (IsLg rfLay l w) := by
  have HL : Hid (([] : List Rf).length + l.length ≤ 9223372036854775807 ∧ (([] : List Rf).length + l.length) * Lay.bytes rfLay ≤ 211106232532992) := Lib.hid (by
    have h1 := hs.len
    have h2 : n * 24 ≤ 140737488355328 := hs.big
    show 0 + l.length ≤ _ ∧ (0 + l.length) * 24 ≤ _
    omega)
  have HN : Hid (([] ++ l : List Rf).length = n) := Lib.hid hs.len
  have HS := Lib.hid hs
  have HK := Lib.hid (Kn.start w)
  clear hs
  go_enter Try.func5, Try.ntmps5
  go_wp2_with (first | (refine wpList_mk0 rfLay HK rfl rfl ?_; intro w2 g2 HK'; simp only [List.nil_append] at HK'; have HR := Lib.hid (let h := HS.out.later HK'.out.b; And.intro h.rd h.nl); replace HK := HK'; clear HK') | (at_builtin; refine wpList_kmore HK rfLay 0 rfl _ _ rfl rfl rfl l rfl HS.out.len.symm HR HL (N := n) HN ?_; intro A4 c4 _ HK'; simp only [List.set, List.nil_append] at HK'; replace HK := HK'; clear HK'))
  go_ret
  exact ⟨A4, n, c4, rfl, HK.out.own 0 rfl, HK.out.b⟩
end Go.Proofs.Ytbdfmfegmfmghaa
