/-
  What value.decimal returns, for every number: its digits.
  No condition but that the number fits its kind.
-/
import Derived.Test.YtdhfmapcggohmaaDoorValRev
import Derived.WalkKit
import Derived.WalkSpells
import Derived.WalkLawsBesides
import Derived.Handy
import Derived.Deep.QuietTactic
import Derived.BigQuiet
import Derived.Deep.Draws
import Derived.Lib.Hide
namespace Go.Proofs.YtdhfmapcggohmaaDoor
open Go.RowKit

theorem cell_dg (m : Nat) : (48 : Int) + (m : Int) % 10 = ((Val.dg (m % 10)).toNat : Int) := by rw [Val.dg_toNat (by omega)]; omega
theorem whole_text {w : World} {B : Nat} {l : List UInt8} (h : Owns w B l) (c n : Nat) (hn : n = l.length) : (convert 66 9 (.slice (some ⟨B, 0, none⟩) n c)).run Tryd.prog w = .ok (.string (Val.of l)) w := by
  subst hn
  have := Owns.text h 0 c l.length (by omega)
  rwa [List.drop_zero] at this
theorem back_below {w w1 w2 : World} {base g : Nat} {t : TypeId} (h : Turns base t w w1) (hg : base ≤ g) (h2 : Below g w1 w2) : Below base w w2 := h.below.trans (h2.mono hg)
set_option maxRecDepth 100000 in
set_option maxHeartbeats 3200000 in
theorem decimal_any (n : Int) (N : Nat) (w : World) (sg : Bool) (_hw : IntKind.i64.wrap (-n) = if n = -9223372036854775808 then n else -n) (hm : min n (IntKind.i64.wrap (-n)) = -(N : Int)) (hN : N ≤ 9223372036854775808) (hs : decide (n < 0) = sg) (hd : Val.dec n = if sg = true then 45 :: Val.dgs N else Val.dgs N) :
    Calls Tryd.prog 31 #[.int .i64 n] w fun e w' => e = .returned (.string (Val.of (Val.dec n))) ∧ Below w.heap.size w w' := by
  rw [hd]
  clear hd
  generalize hx : IntKind.i64.wrap (-n) = x at *
  clear _hw
  have htd := Val.tdiv_ten N
  have htm := Val.tmod_ten N
  have HF := Lib.hid (Val.dgs_first N)
  have HV := Lib.hid hN
  go_enter Tryd.func31, Tryd.ntmps31
  go_wp2_with fail
  go_loopw [3, 4] (fun vb vs wr => ∃ (m : Nat) (ds : List UInt8), vb = .int .i64 (-(m : Int)) ∧ m ≤ 9223372036854775808 ∧ Hid (Row w.heap.size wr vs ds) ∧ Hid (Turns w.heap.size 5 w wr) ∧ w.heap.size ≤ wr.heap.size ∧ Hid (Val.dgs N = (if m = 0 then [] else Val.dgs m) ++ ds.reverse) ∧ Hid (ds ≠ []))
    (fun vb _ _ => (intOf vb).natAbs)
  case atStart =>
    refine ⟨N / 10, [Val.dg (N % 10)], by congr 1, by have := HV.out; omega, Lib.hid (Row.new w _ _ (cell1 (cell_dg _)) (Nat.le_refl _) (by simp [maxLen])), Lib.hid ((Turns.refl _ _ w).alloc (Nat.le_refl _) _), by simp, HF, Lib.hid (by simp)⟩
  case round =>
    obtain ⟨m, ds, rfl, hm63, HR, HT, hsz, HE, HNe⟩ := hrel
    by_cases h0 : m = 0
    · subst h0
      have hE : Val.dgs N = ds.reverse := by rw [HE.out, if_pos rfl]; rfl
      have HL := Lib.hid (Val.dgs_short HV.out HE.out)
      have HEr := Lib.hid hE
      clear hE HE
      cases sg with
      | true =>
        have hneg : n < 0 := of_decide_eq_true hs
        go_wp2_with (at_builtin; refine wpList_push rfl (.tmp 29) (.tmp 30) rfl w.heap.size wr _ ds [45] _ 1 1 rfl rfl (cell1 rfl) rfl HR.out (by have := HL.out; simp; omega) hsz ?_)
        intro v2 w2 HR2 HT2 hsz2
        obtain ⟨g, c, rfl, hg0, hg1, hO⟩ := HR2.out.owns (by simp)
        have HO := Lib.hid hO
        have hlen : (ds ++ [45]).length ≤ 20 := by have := HL.out; simp; omega
        have hl1 : 1 ≤ (ds ++ [45]).length := by simp
        have HX : Hid ((ds ++ [45]).reverse = 45 :: Val.dgs N) := Lib.hid (by rw [List.reverse_append, HEr.out]; rfl)
        have HT3 := Lib.hid (HT2.out _ w (Nat.le_refl _) hsz HT.out)
        clear hO HR HR2 HT HT2
        generalize ds ++ [45] = es at *
        have HR := Lib.hid (reverse_any g c es.length es w2 rfl hl1 (by omega) HO.out)
        go_wp2_with fail
        refine (HR.out).mono ?_; rintro e w3 ⟨rfl, hO3, hb3⟩
        rw [HX.out] at hO3
        have hlen2 : es.length = (45 :: Val.dgs N).length := by rw [← HX.out, List.length_reverse]
        have hst := whole_text hO3 c es.length hlen2
        have HB := Lib.hid (back_below HT3.out hg0 hb3)
        clear hO3 hb3 hlen2
        go_wp2_with fail
        go_ret
        exact ⟨rfl, HB.out⟩
      | false =>
        have hneg : ¬ n < 0 := of_decide_eq_false hs
        obtain ⟨g, c, rfl, hg0, hg1, hO⟩ := HR.out.owns HNe.out
        have HO := Lib.hid hO
        have hlen : ds.length ≤ 20 := by have := HL.out; omega
        have hl1 : 1 ≤ ds.length := by
          have := HNe.out
          cases ds with
          | nil => exact absurd rfl this
          | cons a r => simp
        clear hO HR
        have HR := Lib.hid (reverse_any g c ds.length ds wr rfl hl1 (by omega) HO.out)
        go_wp2_with fail
        refine (HR.out).mono ?_; rintro e w3 ⟨rfl, hO3, hb3⟩
        rw [← HEr.out] at hO3
        have hlen2 : ds.length = (Val.dgs N).length := by rw [HEr.out, List.length_reverse]
        have hst := whole_text hO3 c ds.length hlen2
        have HB := Lib.hid (back_below HT.out hg0 hb3)
        clear hO3 hb3 hlen2
        go_wp2_with fail
        go_ret
        exact ⟨rfl, HB.out⟩
    · have htd2 := Val.tdiv_ten m
      have htm2 := Val.tmod_ten m
      have hne : ¬ (-(m : Int)) = 0 := by omega
      have HL := Lib.hid (Val.dgs_short HV.out HE.out)
      have HE2 := Lib.hid (Val.dgs_next h0 HE.out)
      go_wp2_with (at_builtin; refine wpList_push rfl (.tmp 20) (.tmp 25) rfl w.heap.size wr _ ds [Val.dg (m % 10)] _ 1 1 rfl rfl (cell1 (cell_dg _)) rfl HR.out (by have := HL.out; simp; omega) hsz ?_)
      intro v2 w2 HR2 HT2 hsz2
      have HT3 := Lib.hid (HT2.out _ w (Nat.le_refl _) hsz HT.out)
      clear HR HT HT2 HE
      go_wp2_with fail
      exact ⟨⟨m / 10, ds ++ [Val.dg (m % 10)], by congr 1, by omega, HR2, HT3, hsz2, HE2, Lib.hid (by simp)⟩, by simp [intOf]; omega⟩

theorem decimal_is (n : Int) (w : World) (h : Val.inR n) : Calls Tryd.prog 31 #[.int .i64 n] w fun e w' => e = .returned (.string (Val.of (Val.dec n))) ∧ Below w.heap.size w w' := by
  unfold Val.inR at h
  have hw : IntKind.i64.wrap (-n) = if n = -9223372036854775808 then n else -n := by
    split
    · next e => subst e; decide
    · exact IntWalk.i64_in _ (by omega)
  refine decimal_any n n.natAbs w (decide (n < 0)) hw ?_ (by omega) rfl ?_
  · rw [hw]; split <;> omega
  · unfold Val.dec
    by_cases hn : n < 0
    · rw [if_pos hn, if_pos (decide_eq_true hn)]
    · rw [if_neg hn, if_neg (by simpa using hn)]
end Go.Proofs.YtdhfmapcggohmaaDoor
