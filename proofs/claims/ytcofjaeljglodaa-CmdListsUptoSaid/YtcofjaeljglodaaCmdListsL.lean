/-
  The law CmdLists: it returns true whatever is handed in. No condition but that floats' bits fit 64, and a bound on how many.
-/
import Derived.Test.YtcofjaeljglodaaCmdAwake
import Derived.Test.YtcofjaeljglodaaEvEvents
import Derived.Test.YtcofjaeljglodaaEvList
import Derived.Test.YtcofjaeljglodaaItSame
import Derived.Test.YtcofjaeljglodaaLift
set_option linter.unusedSimpArgs false
set_option linter.unusedVariables false
namespace Go.Proofs.Ytcofjaeljglodaa
open Go.RowKit

/-- The first k may be, and all are no more than there is room for. -/
def mayB (l : List Cmd.E) (k : Nat) : Bool := decide (l.length ≤ 16 ∧ ∀ x ∈ l.take k, Cmd.fits x)
theorem mayB_more {l : List Cmd.E} {k : Nat} {x : Cmd.E} (h : l[k]? = some x) : mayB l (k + 1) = (mayB l k && decide (Cmd.fits x)) := by
  unfold mayB
  rw [Bool.eq_iff_iff, Bool.and_eq_true, decide_eq_true_eq, decide_eq_true_eq, decide_eq_true_eq, Lay.take_succ h]
  constructor
  · rintro ⟨h1, h2⟩
    exact ⟨⟨h1, fun y hy => h2 y (List.mem_append_left _ hy)⟩, h2 x (List.mem_append_right _ (by simp))⟩
  · rintro ⟨⟨h1, h2⟩, h3⟩
    refine ⟨h1, fun y hy => ?_⟩
    rcases List.mem_append.1 hy with hy | hy
    · exact h2 y hy
    · simp at hy; subst hy; exact h3
theorem mayB_nil (l : List Cmd.E) : mayB l 0 = decide (l.length ≤ 16) := by
  unfold mayB
  simp
theorem mayB_all {l : List Cmd.E} (h : mayB l l.length = true) : May l := by
  unfold mayB at h
  rw [List.take_length] at h
  have h2 : l.length ≤ 16 ∧ ∀ x ∈ l, Cmd.fits x := of_decide_eq_true h
  exact h2
set_option maxRecDepth 100000 in
set_option maxHeartbeats 6400000 in
theorem lists_yes (A : Option Addr) (c : Nat) (l : List Cmd.E) (w : World) (hl : l.length ≤ 2000000) (hi : evLay.Reads w w.heap.size A l) (hf : ∀ x ∈ l, x.cmd.val.f < 18446744073709551616 ∧ x.cmd.old.f < 18446744073709551616) :
    Lift.Yes Try.prog 7 #[.slice A l.length c] w := by
  unfold Lift.Yes
  have HI := Lib.hid hi
  have hplen := pre_len l.length l
  have HAw := Lib.hid awake_any
  have HLi : Hid (Calls Try.prog 19 #[.slice A l.length c] w (IsIt (Cmd.pre l.length l) w)) := Lib.hid (elist_any A c l w hl hi hf)
  have HRL : Hid (∀ W, Below w.heap.size w W → Calls Try.prog 21 #[.slice A l.length c] W (IsIt (Cmd.pre l.length l) W)) := Lib.hid fun W hW => relist_any A c l W hl (hi.later hW (Nat.le_refl _)) hf
  have HEv : Hid (∀ W A1 c1 b1, itemLay.Own b1 W (.slice A1 (Cmd.pre l.length l).length c1) (Cmd.pre l.length l) → Calls Try.prog 20 #[.slice A1 (Cmd.pre l.length l).length c1, .int .i64 0] W (IsEvs l W)) := Lib.hid fun W A1 c1 b1 h => events_any A1 c1 l W hl h.cap h.reads.2 hf
  have HSame : Hid (∀ W A1 c1 b1 A2 c2 b2, itemLay.Own b1 W (.slice A1 (Cmd.pre l.length l).length c1) (Cmd.pre l.length l) → itemLay.Own b2 W (.slice A2 (Cmd.pre l.length l).length c2) (Cmd.pre l.length l) → Calls Try.prog 16 #[.slice A1 (Cmd.pre l.length l).length c1, .slice A2 (Cmd.pre l.length l).length c2] W fun en w' => en = .returned (.bool true) ∧ ∃ q, w' = W.drewN q) := Lib.hid fun W A1 c1 b1 A2 c2 b2 h1 h2 => isame_any A1 A2 c1 c2 _ W (by omega) h1.reads.2 h2.reads.2
  have HES : Hid (∀ W A2 c2 b2, Below w.heap.size w W → evLay.Own b2 W (.slice A2 l.length c2) l → Calls Try.prog 22 #[.slice A l.length c, .slice A2 l.length c2] W fun en w' => en = .returned (.bool true) ∧ Below W.heap.size W w') := Lib.hid fun W A2 c2 b2 hW h2 => esame_any A A2 c c2 l W (by omega) (hi.later hW (Nat.le_refl _)) h2.reads.2
  have HGo : Hid (∀ k, k < l.length → ∃ x, l[k]? = some x ∧ (∀ W, Calls Try.prog 13 #[.agg (evA x)] W fun en w' => en = .returned (.bool (decide (Cmd.fits x))) ∧ Below W.heap.size W w')) := Lib.hid fun k hk => by
    obtain ⟨x, hx⟩ := Lay.get_of hk
    have hm := hf x (List.mem_of_getElem? hx)
    exact ⟨x, hx, fun W => cfits_any x W hm.1 hm.2⟩
  have HAll : Hid (mayB l l.length = true → May l) := Lib.hid fun h => mayB_all h
  have HMore : Hid (∀ k x, l[k]? = some x → mayB l (k + 1) = (mayB l k && decide (Cmd.fits x))) := Lib.hid fun k x hx => mayB_more hx
  have h0 : mayB l 0 = decide (((l.length : Nat) : Int) ≤ 16) := by
    rw [mayB_nil, Bool.eq_iff_iff, decide_eq_true_eq, decide_eq_true_eq]
    omega
  clear hi hf hplen
  generalize hX : Cmd.pre l.length l = X at *
  unfold IsIt at HLi HRL
  unfold IsEvs at HEv
  rw [hX] at HEv
  generalize hxn : X.length = xn at *
  clear hX hxn
  have HK := Lib.hid (Kn.start w)
  go_enter Try.func7, Try.ntmps7
  go_wp2_with fail
  refine (HLi.out).mono ?_; rintro en w1 ⟨A1, c1, rfl, o1, b1⟩
  replace HK := Lib.hid (HK.out.called b1 o1)
  simp only [List.nil_append] at HK
  clear b1 o1 HLi
  go_wp2_with fail
  refine (HEv.out _ _ _ _ (HK.out.own 0 rfl)).mono ?_; rintro en w2 ⟨A2, c2, evs, y, bb, rfl, o2, hm, b2⟩
  have HM := Lib.hid hm
  replace HK := Lib.hid (HK.out.called b2 o2)
  simp only [List.cons_append, List.nil_append] at HK
  clear b2 o2 hm HEv
  generalize hn : l.length = n at *
  have HN := Lib.hid hn
  clear hn
  generalize hme : evs.length = me at *
  have HMe := Lib.hid hme
  clear hme
  go_wp2_with fail
  go_loopw [7, 8] (fun vm vi wr => ∃ k : Nat, k ≤ n ∧ vm = .bool (mayB l k) ∧ vi = .int .i64 k ∧ Hid (Kn w.heap.size w wr [] [row itemLay (.slice A1 xn c1) X, row evLay (.slice A2 me c2) evs])) (fun _ vi _ => n - (intOf vi).toNat)
  case atStart => exact ⟨0, Nat.zero_le _, by rw [h0], rfl, HK⟩
  case round =>
    clear HK
    obtain ⟨k, hk, rfl, rfl, HK⟩ := hrel
    by_cases hlt : k < n
    · obtain ⟨x, hx, hfx⟩ := HGo.out k hlt
      have HFx := Lib.hid hfx
      have HMo := Lib.hid (HMore.out k x hx)
      have hR := HI.out.later HK.out.b (Nat.le_refl _)
      obtain ⟨b, o, rfl, _⟩ := hR (List.length_pos_of_mem (List.mem_of_getElem? hx))
      have HAt := Lib.hid (evs_at hR hx)
      clear hR hx hfx h0
      have hk1 : (0 : Int) ≤ (k : Int) := by omega
      have hk2 : (k : Int) < (n : Int) := by omega
      generalize mayB l k = mb at *
      cases mb
      · go_wp2_with fail
        exact ⟨⟨k + 1, Nat.succ_le_of_lt hlt, by rw [HMo.out]; rfl, by go_num, HK⟩, by simp [intOf]; omega⟩
      · go_wp2_with (first | (refine wpList_of_exec (v := .agg (evA x)) (by rfl) (exec_lev (off := o + k * 16) _ (by rfl) (by rfl) HAt.out) ?_))
        refine (HFx.out _).mono ?_; rintro en w3 ⟨rfl, b3⟩
        replace HK := Lib.hid (HK.out.call b3)
        clear b3
        go_wp2_with fail
        exact ⟨⟨k + 1, Nat.succ_le_of_lt hlt, by rw [HMo.out, Bool.true_and], by go_num, HK⟩, by simp [intOf]; omega⟩
    · obtain rfl : k = n := by omega
      generalize hmb : mayB l k = mb at *
      have HMB := Lib.hid hmb
      clear hmb h0
      go_wp2_with fail
      refine (HAw.out _).mono ?_; rintro en w3 ⟨rfl, b3⟩
      replace HK := Lib.hid (HK.out.call b3)
      clear b3
      go_wp2_with fail
      refine (HRL.out _ HK.out.b).mono ?_; rintro en w4 ⟨A3, c3, rfl, o4, b4⟩
      replace HK := Lib.hid (HK.out.called b4 o4)
      simp only [List.cons_append, List.nil_append] at HK
      clear b4 o4
      go_wp2_with fail
      refine (HSame.out _ _ _ _ _ _ _ (HK.out.own 0 rfl) (HK.out.own 2 rfl)).mono ?_; rintro en w5 ⟨rfl, q5, rfl⟩
      replace HK := Lib.hid (HK.out.drewN q5)
      cases mb
      · go_wp2_with fail
        go_ret
        exact ⟨rfl, HK.out.b⟩
      · obtain ⟨rfl, rfl, rfl⟩ := HM.out (HAll.out rfl)
        obtain rfl : me = k := HMe.out.symm.trans HN.out
        go_wp2_with fail
        refine (HES.out _ _ _ _ HK.out.b (HK.out.own 1 rfl)).mono ?_; rintro en w6 ⟨rfl, b6⟩
        replace HK := Lib.hid (HK.out.call b6)
        go_wp2_with fail
        go_ret
        exact ⟨rfl, HK.out.b⟩
end Go.Proofs.Ytcofjaeljglodaa
