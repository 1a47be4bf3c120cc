/- What the document's Do returns: what an object does, helpers. No condition but those named. -/
import Derived.Test.YtpkodjllljnleaaGreatStoRDoA
import Derived.Test.YtpkodjllljnleaaGreatStoRPlain
import Derived.Test.YtpkodjllljnleaaGreatStoRHold
import Derived.Test.YtpkodjllljnleaaGreatStoRFree
import Derived.Test.YtpkodjllljnleaaGreatStoRThru
import Derived.Test.YtpkodjllljnleaaGreatMBD
set_option linter.unusedSimpArgs false
set_option linter.unusedVariables false
namespace Go.Proofs.YtpkodjllljnleaaGreat
open Go.RowKit
theorem act_still {o : Sto.Ob} {r : Rf} {c : Cmd.C} (h12 : ¬ c.k = 12) (h13 : ¬ c.k = 13) (h14 : ¬ c.k = 14) : (Sto.act o r c).later = false ∧ (Sto.act o r c).outs = [] := by
 unfold Sto.act
 rw [if_neg h12, if_neg h13, if_neg h14]
 repeat' split
 all_goals exact ⟨rfl, rfl⟩
theorem vs_set (l : List Oh) (i : Nat) (y : Oh) : vs (l.set i y) = (vs l).set i y.v := by
 unfold vs
 rw [List.map_set]
theorem in_set {W : World} {l : List Oh} {i : Nat} {z : Oh} (h : ∀ x ∈ l, In W x) (hz : In W z) {y : Oh} (hy : y ∈ l.set i z) : In W y := by
 rcases List.mem_or_eq_of_mem_set hy with h1 | rfl
 ·exact h y h1
 ·exact hz
theorem Kn.sw34 {b0 : Nat} {w0 w : World} {R : List RowE} {a b c d e : Nat × TypeId × Array Value} (h : Kn b0 w0 w [a, b, c, d, e] R) : Kn b0 w0 w [a, b, c, e, d] R := by
 refine h.pick (fun i => if i = 3 then 4 else if i = 4 then 3 else i) (fun i => i) (fun i j hi hj hij => ?_) (fun i j hi hj hij => hij) (fun i x hx => ?_) (fun i x hx => hx)
 ·simp only [List.length_cons, List.length_nil] at hi hj
  show (if i = 3 then 4 else if i = 4 then 3 else i) ≠ (if j = 3 then 4 else if j = 4 then 3 else j)
  split <;> split <;> (try split) <;> (try split) <;> omega
 ·match i, hx with
  | 0, hx | 1, hx | 2, hx | 3, hx | 4, hx => exact hx
  | n + 5, hx => simp at hx
theorem rplain_any (G : World → Prop) (x : Oh) (r : Rf) (c : Cmd.C) (w : World) (hG : ∀ W, G W → In W x) (hx : In w x) (hv : c.val.f < 18446744073709551616) (hk : 4 ≤ c.k ∧ c.k ≤ 17) (h4 : ¬ c.k = 4) (h5 : ¬ c.k = 5) (h12 : ¬ c.k = 12) (h13 : ¬ c.k = 13) (h14 : ¬ c.k = 14) :
  Calls Tryz.prog 29 #[.agg (obA x), .agg (cmA c)] w (IsRP G (Sto.act x.v r c) w) := by
 rcases Sto.act_kinds hk h4 h5 with h | h | h | h | h | h | h | h | h | h | h | h
 ·exact rplain_6 G x r c w hG hx hv h
 ·exact rplain_7 G x r c w hG hx hv h
 ·exact rplain_8 G x r c w hG hx hv h
 ·exact rplain_9 G x r c w hG hx hv h
 ·exact rplain_10 G x r c w hG hx hv h
 ·exact rplain_11 G x r c w hG hx hv h
 ·exact absurd h h12
 ·exact absurd h h13
 ·exact absurd h h14
 ·exact rplain_15 G x r c w hG hx hv h
 ·exact rplain_16 G x r c w hG hx hv h
 ·exact rplain_17 G x r c w hG hx hv h
end Go.Proofs.YtpkodjllljnleaaGreat
