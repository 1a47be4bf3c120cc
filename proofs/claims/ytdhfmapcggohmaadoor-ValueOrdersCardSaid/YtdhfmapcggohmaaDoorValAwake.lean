/-
  What the law's awake returns: true.
  No condition but what the listed variables hold.
-/
import Derived.Test.YtdhfmapcggohmaaDoorValRRead
import Derived.WalkKit
import Derived.WalkSpells
import Derived.WalkLawsBesides
import Derived.Handy
import Derived.Deep.QuietTactic
import Derived.BigQuiet
import Derived.Deep.Draws
import Derived.Lib.Hide
namespace Go.Proofs.YtdhfmapcggohmaaDoor
open Go.RowKit

theorem ex_read : ans [120, 54, 49, 54, 50] = (⟨3, 0, 0, ⟨#[97, 98]⟩⟩, 0) := by
  have h := Val.rdV_word (v := ⟨3, 0, 0, ⟨#[97, 98]⟩⟩) (by rw [Val.chk_text]; rfl) (by decide) (by unfold Val.inR; decide)
  have hw : Val.word ⟨3, 0, 0, ⟨#[97, 98]⟩⟩ = [120, 54, 49, 54, 50] := by decide +kernel
  rw [hw] at h
  exact ans_some h
theorem ex_text : Val.of (Val.word ⟨1, -5, 0, Val.emp⟩) = ⟨#[45, 53]⟩ := by
  have : Val.word ⟨1, -5, 0, Val.emp⟩ = 45 :: Val.dgs 5 := rfl
  rw [this, Val.dgs_lt (by decide)]; rfl
theorem ex_check : Val.chk ⟨4, 0, 0, Val.emp⟩ = 1 := by decide
def IsYes (w : World) (e : Ending) (w' : World) : Prop := e = .returned (.bool true) ∧ Below w.heap.size w w'

set_option maxRecDepth 100000 in
set_option maxHeartbeats 1600000 in
theorem awake_any (w : World) (ht : TabOk w) (hv : ErrOk w) : Calls Tryd.prog 8 #[] w (IsYes w) := by
  have HR := Lib.hid (vread_any ⟨#[120, 54, 49, 54, 50]⟩ w (by decide) ht hv)
  have HT := Lib.hid (fun w ht => vtext_any ⟨1, -5, 0, Val.emp⟩ w (by unfold Val.inR; decide) (by show 0 < _; decide) (by decide) ht)
  have HC := Lib.hid (fun w => check_any ⟨4, 0, 0, Val.emp⟩ w (by show 0 < _; decide))
  have HTab := Lib.hid ht
  unfold IsRead at HR
  rw [show (⟨#[120, 54, 49, 54, 50]⟩ : ByteArray).data.toList = [120, 54, 49, 54, 50] from rfl, ex_read] at HR
  unfold IsWord at HT
  rw [ex_text] at HT
  rw [ex_check] at HC
  unfold vv Val.emp at *
  simp only at HR HT HC
  clear ht hv
  go_enter Tryd.func8, Tryd.ntmps8
  go_wp2_with fail
  refine (HR.out).mono ?_; rintro e w1 ⟨rfl, b1⟩
  have HB1 := Lib.hid b1
  clear b1
  go_wp2_with fail
  refine (HT.out _ (HTab.out.below (HB1.out.alloc HB1.out.size _))).mono ?_; rintro e w2 ⟨rfl, b2⟩
  have HB2 := Lib.hid (HB1.out.trans ((new_below b2).mono HB1.out.size))
  clear b2
  go_wp2_with fail
  refine (HC.out _).mono ?_; rintro e w3 ⟨rfl, b3⟩
  have HB3 := Lib.hid (HB2.out.trans (b3.mono HB2.out.size))
  clear b3
  go_wp2_with fail
  go_ret
  exact ⟨rfl, HB3.out⟩
end Go.Proofs.YtdhfmapcggohmaaDoor
