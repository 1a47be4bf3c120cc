/-
  What slices.IndexFunc and slices.ContainsFunc return for events, whatever function is asked.
  No condition but what the slice reads as, and what the function returns.
-/
import Derived.Test.YtakjggmiilkmdaaLogSmall
import Derived.Shelf.Abstract
set_option linter.unusedSimpArgs false
set_option linter.unusedVariables false
namespace Go.Proofs.Ytakjggmiilkmdaa
open Go.RowKit

/-- A function that answers what a predicate does, and leaves all that was. -/
def Asks (g : Nat) (lb : Array Value) (p : Cmd.E → Bool) (w : World) : Prop := ∀ W x, Below w.heap.size w W → lvF x → Calls Try.prog g (#[.agg (evA x)] ++ lb) W (IsB (p x) W)
set_option maxRecDepth 100000 in
set_option maxHeartbeats 3200000 in
theorem lcidx_any (g : Nat) (lb : Array Value) (p : Cmd.E → Bool) (eg : ∀ args w, (callFunc g args).run Try.prog w = .ok (.enter g args) w) (A : Option Addr) (n c : Nat) (l : List Cmd.E) (w : World) (hp : Asks g lb p w) (hs : Sls evLay lvF w A n c l) :
    Calls Try.prog 48 #[.slice A n c, .func (.func g) #[] lb] w fun e w' => ∃ i : Int, e = .returned (.int .i64 i) ∧ decide (0 ≤ i) = l.any p ∧ Below w.heap.size w w' := by
  have HS := Lib.hid hs
  have HL := Lib.hid hs.len
  have HP := Lib.hid hp
  have hn : n ≤ 140737488355328 := by have h : n * 160 ≤ 140737488355328 := hs.big; omega
  clear hs hp
  go_enter Try.func48, Try.ntmps48
  go_wp2_with fail
  go_loopw [8] (fun v wr => ∃ i : Nat, i ≤ n ∧ v = .int .i64 i ∧ Hid (Below w.heap.size w wr) ∧ Hid (∀ j, j < i → ∀ x, l[j]? = some x → p x = false)) (fun v _ => n - (intOf v).toNat)
  case atStart => exact ⟨0, Nat.zero_le _, rfl, Lib.hid (Below.refl _ w), Lib.hid (fun j hj => by omega)⟩
  case round =>
    obtain ⟨i, hi, rfl, HB, HN⟩ := hrel
    have hi1 : (0 : Int) ≤ (i : Int) := by omega
    have hi3 : i < 9223372036854775807 := by omega
    by_cases hlt : i < n
    case neg =>
      obtain rfl : i = n := by omega
      have HR : Hid (decide ((0 : Int) ≤ -1) = l.any p) := Lib.hid (by
        rw [show decide ((0 : Int) ≤ -1) = false from rfl]
        symm
        rw [List.any_eq_false]
        intro x hx
        obtain ⟨j, hj⟩ := List.mem_iff_getElem?.1 hx
        rw [HN.out j (by have := (List.getElem?_eq_some_iff.1 hj).1; rw [HL.out] at this; exact this) x hj]
        decide)
      clear HN HP HS
      go_wp2_with fail
      go_ret
      exact ⟨-1, rfl, HR.out, HB.out⟩
    case pos =>
    obtain ⟨x, hx, hxf⟩ := HS.out.get hlt
    obtain ⟨b', o', rfl, hat⟩ := HS.out.eat (by omega)
    have HX : Hid (∀ W, Below w.heap.size w W → ∀ q v, (evL x)[q]? = some v → W.cell? ⟨b', o' + i * 16 + q, none⟩ = some v) := Lib.hid (fun W hW => hat W hW i x hx)
    have HXl := Lib.hid hx
    have HCall := Lib.hid (HP.out wr x HB.out hxf)
    obtain ⟨d, hd⟩ : ∃ d, p x = d := ⟨_, rfl⟩
    rw [hd] at HCall
    have HD := Lib.hid hd
    unfold IsB at HCall
    clear hat hx HP HS hxf hd
    cases d
    case true =>
      have HR : Hid (decide ((0 : Int) ≤ (i : Int)) = l.any p) := Lib.hid (by
        rw [decide_eq_true hi1]
        symm
        rw [List.any_eq_true]
        exact ⟨x, List.mem_of_getElem? HXl.out, HD.out⟩)
      clear HN
      go_wp2_with (first | refine wpList_exe (exec_ixev (i := i) _ _ (by rfl) (by rfl) (by rfl) hlt) (by rfl) ?_ | refine wpList_of_exec (v := .agg (evA x)) (by rfl) (exec_lev (off := o' + i * 16) _ (by rfl) (by rfl) (HX.out _ HB.out)) ?_ | (go_at_fn g; refine HCall.out.mono ?_; rintro e w' ⟨rfl, hb'⟩))
      go_ret
      exact ⟨i, rfl, HR.out, HB.out.trans (hb'.mono HB.out.size)⟩
    case false =>
      have HN2 : Hid (∀ j, j < i + 1 → ∀ x, l[j]? = some x → p x = false) := Lib.hid (fun j hj y hy => by
        by_cases h : j = i
        · subst h
          rw [HXl.out] at hy
          injection hy with hy
          subst hy
          exact HD.out
        · exact HN.out j (by omega) y hy)
      clear HN HD
      go_wp2_with (first | refine wpList_exe (exec_ixev (i := i) _ _ (by rfl) (by rfl) (by rfl) hlt) (by rfl) ?_ | refine wpList_of_exec (v := .agg (evA x)) (by rfl) (exec_lev (off := o' + i * 16) _ (by rfl) (by rfl) (HX.out _ HB.out)) ?_ | (go_at_fn g; refine HCall.out.mono ?_; rintro e w' ⟨rfl, hb'⟩) | refine wpList_exe (exec_add1 (j := i) _ (by rfl) (by rfl) hi3) (by rfl) ?_)
      exact ⟨⟨i + 1, hlt, rfl, Lib.hid (HB.out.trans (hb'.mono HB.out.size)), HN2⟩, by simp [intOf]; omega⟩
set_option maxRecDepth 100000 in
set_option maxHeartbeats 3200000 in
theorem lccont_any (g : Nat) (lb : Array Value) (p : Cmd.E → Bool) (eg : ∀ args w, (callFunc g args).run Try.prog w = .ok (.enter g args) w) (A : Option Addr) (n c : Nat) (l : List Cmd.E) (w : World) (hp : Asks g lb p w) (hs : Sls evLay lvF w A n c l) :
    Calls Try.prog 30 #[.slice A n c, .func (.func g) #[] lb] w (IsB (l.any p) w) := by
  have HI := Lib.hid (lcidx_any g lb p eg A n c l w hp hs)
  unfold IsB
  generalize l.any p = d at *
  clear hp hs
  go_enter Try.func30, Try.ntmps30
  go_wp2_with fail
  refine HI.out.mono ?_; rintro e w1 ⟨i, rfl, hi, b1⟩
  go_wp2_with fail
  go_ret
  exact ⟨by rw [← hi]; rfl, b1⟩
end Go.Proofs.Ytakjggmiilkmdaa
