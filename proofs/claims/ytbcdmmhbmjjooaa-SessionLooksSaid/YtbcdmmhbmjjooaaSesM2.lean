/-
  What a request is, way by way.
  Pure.
-/
import Derived.Test.YtbcdmmhbmjjooaaSesMath
set_option linter.unusedSimpArgs false
set_option linter.unusedVariables false
namespace Go.Proofs.Ytbcdmmhbmjjooaa
namespace Ses
/-- What a request is, by the answers to the questions asked. -/
def lookB (b1 b2 b3 b4 b5 l b6 d : Bool) : Int := if (b1 && b2) = true then 1 else if (b3 || b4) = true then 5 else if b5 = true then (if d = true then 2 else 3) else if l = false then 4 else if (b6 && d) = true then 1 else 5
theorem look_b (s : S) (r : Rf) : lookS s r = lookB (decide (r.r = 0)) (decide (s.ep < r.e)) (!decide (r.e = s.ep)) (decide (r.r < s.rq)) (decide (r.r = s.rq)) s.live (decide (r.r - 1 = s.rq)) s.dn := by
  unfold lookS lookB
  congr 1
  · simp
  · congr 1
    · simp
    · simp
theorem look_ok {t : T} {r : Rf} (h1 : decide (Lck.ok r) = true) (h2 : decide (Right t) = true) : look t r = lookS (t.get r.c) r := if_pos ⟨of_decide_eq_true h1, of_decide_eq_true h2⟩
theorem look_no1 {t : T} {r : Rf} (h1 : decide (Lck.ok r) = false) : look t r = 5 := if_neg fun h => of_decide_eq_false h1 h.1
theorem look_no2 {t : T} {r : Rf} (h2 : decide (Right t) = false) : look t r = 5 := if_neg fun h => of_decide_eq_false h2 h.2
theorem ok_wrap {r : Rf} (h1 : decide (Lck.ok r) = true) (h : r.r ≤ 9223372036854775807) : IntKind.i64.wrap (r.r - 1) = r.r - 1 := by
  obtain ⟨_, _, _, h0⟩ := of_decide_eq_true h1
  rw [IntKind.wrap_i64]; omega
end Ses
end Go.Proofs.Ytbcdmmhbmjjooaa
