/-
  What slices.Clone, own, packet, New return, and the document's packet and New.
  No condition but that an end has no more payloads than the form's reach.
-/
import Derived.Test.YtamjcghdebjpjaaLnkLay
import Derived.WalkKit
import Derived.WalkSpells
import Derived.WalkLawsBesides
import Derived.Handy
import Derived.Deep.QuietTactic
import Derived.BigQuiet
import Derived.Deep.RegionWith
import Derived.Deep.RegionHeld3
import Derived.Deep.Draws
import Derived.Lib.Hide
import Derived.Lib.LazyBuf
namespace Go.Proofs.Ytamjcghdebjpjaa
open Go.RowKit

/-- A slice of the call's own of just these texts; below all is as it was. -/
def IsStrs (l : List ByteArray) (w : World) (e : Ending) (w' : World) : Prop := ∃ A c, e = .returned (.slice A l.length c) ∧ strLay.Own w.heap.size w' (.slice A l.length c) l ∧ Below w.heap.size w w'
theorem isStrs {l : List ByteArray} {w w' : World} {v : Value} {base : Nat} (h : strLay.Own base w' v l) (hb : w.heap.size ≤ base) (hw : Below w.heap.size w w') : IsStrs l w (.returned v) w' := by
  obtain ⟨A, c, rfl⟩ := h.shape
  exact ⟨A, c, rfl, h.mono hb, hw⟩
theorem clone_nil (c : Nat) (w : World) : Calls Try.prog 46 #[.slice none 0 c] w (IsStrs [] w) := by
  have hq := fun W => run_eql_slice_nil (P := Try.prog) W 25 9 none 0 c Try.underlying25
  have HB0 := Lib.hid (Below.refl w.heap.size w)
  go_enter Try.func46, Try.ntmps46
  go_wp2_with fail
  go_ret
  exact isStrs (Lay.Own.none w _) (Nat.le_refl _) HB0.out
set_option maxHeartbeats 1600000 in
theorem clone_some (ad : Addr) (c : Nat) (l : List ByteArray) (w : World) (hl : l.length ≤ 5000000000000) (hi : strLay.Reads w w.heap.size (some ad) l) :
    Calls Try.prog 46 #[.slice (some ad) l.length c] w (IsStrs l w) := by
  have hq := fun W => run_eql_slice_nil (P := Try.prog) W 25 9 (some ad) l.length c Try.underlying25
  have HI := Lib.hid (fun o => hi.below ((Below.refl w.heap.size w).alloc (Nat.le_refl _) o))
  have HW : Hid (strLay.Own w.heap.size (w.alloc (.cells #[] 9)) (.slice (some ⟨w.heap.size, 0, none⟩) 0 0) []) := Lib.hid (Lay.Own.new w [] _ _ _ _ rfl (Nat.le_refl _) rfl rfl rfl (by decide))
  have HB0 := Lib.hid ((Below.refl _ w).alloc (Nat.le_refl _) (.cells #[] 9))
  clear hi
  generalize hn : l.length = n at *
  have HN := Lib.hid hn
  clear hn
  go_enter Try.func46, Try.ntmps46
  go_wp2_with (at_builtin; refine strLay.wpList_more rfl (.tmp 5) (.tmp 6) rfl w.heap.size _ _ [] (some ad) n c w.heap.size l rfl rfl HN.out.symm HW.out (HI.out _) (fun h => by cases h) ?h1 ?h2 (by simp) ?_)
  case h1 => rw [HN.out]; simp; omega
  case h2 => rw [HN.out]; show _ * 16 ≤ _; simp; omega
  intro v2 w2 HR2 HT2 hs2
  have HB3 := Lib.hid (below_turns HB0.out HT2.out (Nat.le_refl _))
  clear HT2
  go_wp2_with fail
  go_ret
  exact isStrs HR2.out (Nat.le_refl _) HB3.out
theorem clone_any (A : Option Addr) (c n : Nat) (l : List ByteArray) (w : World) (hn : l.length = n) (hl : n ≤ 5000000000000) (hi : strLay.Reads w w.heap.size A l) (hA : A = none → l = []) :
    Calls Try.prog 46 #[.slice A n c] w (IsStrs l w) := by
  subst hn
  match A, hi, hA with
  | none, _, hA => obtain rfl := hA rfl; exact clone_nil c w
  | some ad, hi, _ => exact clone_some ad c l w hl hi

/-- An end whose payloads are the call's own. -/
def IsL (r : Lnk.L) (w : World) (e : Ending) (w' : World) : Prop := ∃ A c, e = .returned (.agg (lA (.slice A r.out.length c) r)) ∧ strLay.Own w.heap.size w' (.slice A r.out.length c) r.out ∧ Below w.heap.size w w'
/-- What is known of an end that is handed in. -/
def In (w : World) (A : Option Addr) (l : Lnk.L) : Prop := strLay.Reads w w.heap.size A l.out ∧ (A = none → l.out = []) ∧ l.out.length ≤ 1000000
theorem In.later {w w' : World} {A : Option Addr} {l : Lnk.L} (h : In w A l) (hb : Below w.heap.size w w') : In w' A l := ⟨h.1.later hb (Nat.le_refl _), h.2⟩

set_option maxHeartbeats 1600000 in
theorem own_any (A : Option Addr) (n c : Nat) (out : List ByteArray) (ms mc ps pc base got age : Int) (w : World) (hn : out.length = n) (hl : n ≤ 1000000) (hi : strLay.Reads w w.heap.size A out) (hA : A = none → out = []) :
    Calls Try.prog 39 #[.agg (lC (.slice A n c) ms mc ps pc base got age)] w (IsL ⟨ms, mc, ps, pc, out, base, got, age⟩ w) := by
  have HK := kn2 w 27 (lC (.slice A n c) ms mc ps pc base got age) 27 (lC (.slice none 0 0) 0 0 0 0 0 0 0)
  have HC : Hid (∀ W, Below w.heap.size w W → Calls Try.prog 46 #[.slice A n c] W (IsStrs out W)) := Lib.hid fun W hW => clone_any A c n out W hn (by omega) (hi.later hW (Nat.le_refl _)) hA
  have hx : (lC (.slice A n c) ms mc ps pc base got age)[4]? = some (.slice A n c) := rfl
  clear hn hi hA
  go_enter Try.func39, Try.ntmps39
  go_wp2_with fail
  refine (HC.out _ HK.out.b).mono ?_; rintro e w1 ⟨A1, c1, rfl, o1, b1⟩
  replace HK := Lib.hid (HK.out.called b1 o1)
  clear b1 o1 hx HC
  go_wp2_with (refine wpList_kv HK 0 rfl _ _ rfl rfl rfl rfl (lC (.slice A1 out.length c1) ms mc ps pc base got age) rfl rfl ?_)
  intro w2 HK2 _
  clear HK
  go_wp2_with (first | refine wpList_kll HK2 0 rfl _ rfl rfl rfl ?_ | refine wpList_ksl HK2 1 rfl _ _ rfl rfl rfl rfl rfl ?_)
  intro w3 HK3 _
  go_wp2_with fail
  exact ret_l Try.results39 rfl rfl (HK3.out.blk 1 rfl) ⟨A1, c1, rfl, HK3.out.own 0 rfl, HK3.out.b⟩
end Go.Proofs.Ytamjcghdebjpjaa
