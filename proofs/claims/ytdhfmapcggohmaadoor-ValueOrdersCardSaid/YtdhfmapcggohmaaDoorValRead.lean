/-
  What value.Read and the document's own Read return, for every text.
  No condition but a bound on the text's length, and what the listed variables hold.
-/
import Derived.Test.YtdhfmapcggohmaaDoorValWord
import Derived.Test.YtdhfmapcggohmaaDoorValNumber
import Derived.WalkKit
import Derived.WalkSpells
import Derived.WalkLawsBesides
import Derived.Handy
import Derived.Deep.QuietTactic
import Derived.BigQuiet
import Derived.Deep.RegionWith
import Derived.Deep.RegionHeld3
import Derived.Deep.Draws
import Derived.Lib.Hide
namespace Go.Proofs.YtdhfmapcggohmaaDoor
open Go.RowKit

/-- What a text reads as: the value, or nothing and the error's number. -/
def ans (l : List UInt8) : Val.V × Int := match Val.rdV l with | some v => (v, 0) | none => (Val.zero, 3)
theorem ans_some {l : List UInt8} {v : Val.V} (h : Val.rdV l = some v) : ans l = (v, 0) := by unfold ans; rw [h]
theorem ans_none {l : List UInt8} (h : Val.rdV l = none) : ans l = (Val.zero, 3) := by unfold ans; rw [h]
def IsRead (l : List UInt8) (w : World) (e : Ending) (w' : World) : Prop := e = .returned (.tuple #[vv (ans l).1, .int .i64 (ans l).2]) ∧ Below w.heap.size w w'
theorem isRead_some {l : List UInt8} {v : Val.V} {w : World} (h : Val.rdV l = some v) (w' : World) (hb : Below w.heap.size w w') : IsRead l w (.returned (.tuple #[vv v, .int .i64 0])) w' := by
  unfold IsRead; rw [ans_some h]; exact ⟨rfl, hb⟩
theorem isRead_none {l : List UInt8} {w : World} (h : Val.rdV l = none) (w' : World) (hb : Below w.heap.size w w') : IsRead l w (.returned (.tuple #[.agg #[.int .i64 0, .int .i64 0, .int .u64 0, .string ⟨#[]⟩], .int .i64 3])) w' := by
  unfold IsRead; rw [ans_none h]; exact ⟨rfl, hb⟩
theorem chk_bd (v : Val.V) : Val.chk v = 0 ∨ Val.chk v = 1 ∨ Val.chk v = 2 := by unfold Val.chk; (repeat' split) <;> simp

set_option maxRecDepth 100000 in
set_option maxHeartbeats 1600000 in
theorem vread_any (s : ByteArray) (w : World) (hs : s.size ≤ 140737488355328) (ht : TabOk w) (hv : ErrOk w) :
    Calls Tryd.prog 18 #[.string s] w (IsRead s.data.toList w) := by
  have BB := Lib.hid (fun o => (Below.refl _ w).alloc (Nat.le_refl _) o)
  have HZ := Lib.hid (zero_new w)
  have HW := Lib.hid (fun o => word_any s (w.alloc o) hs (ht.below (BB.out o)) (hv.below (BB.out o)))
  have HK := Lib.hid (fun v w hf => check_any v w hf)
  clear hs ht hv
  go_enter Tryd.func18, Tryd.ntmps18
  go_wp2_with fail
  refine (HW.out _).mono ?_
  rintro e w1 ⟨v, b, rfl, ⟨hf, hr⟩, b1⟩
  have HB := Lib.hid (new_below b1)
  have HX := Lib.hid (HZ.out.below b1 (by simp))
  have hlt := HX.out.lt
  clear b1
  have HK2 := Lib.hid (fun w => HK.out v w hf)
  clear HK
  obtain ⟨k, n, f, t⟩ := v
  cases b with
  | false =>
    have HN := Lib.hid (show Val.rdV s.data.toList = none by rw [hr, if_neg (by simp)])
    clear hr
    obtain ⟨c0, c1, c2, c3, f0, f1, f2, f3⟩ := HX.out.all
    unfold vv
    simp only
    go_wp2_with fail
    have HS := stored_below HB.out (Nat.le_refl _) (.int .i64 0) (.int .i64 0) (.int .u64 0) (.string ⟨#[]⟩)
    exact ret_box Tryd.results18 rfl rfl rfl ((box_store HX.out _ _ _ _).alloc _) (isRead_none HN.out _ (HS.alloc HS.size _))
  | true =>
    have HX2 := Lib.hid (fun o => HX.out.alloc o)
    have HY := Lib.hid (Box.new w1 (.int .i64 k) (.int .i64 n) (.int .u64 (f : Int)) (.string t))
    have HB2 := Lib.hid (fun o => HB.out.alloc (Nat.le_of_lt hlt) o)
    have hr2 : Val.rdV s.data.toList = if Val.chk ⟨k, n, f, t⟩ = 0 then some ⟨k, n, f, t⟩ else none := by rw [hr]; simp
    clear hr
    by_cases hc : Val.chk ⟨k, n, f, t⟩ = 0
    · have HR := Lib.hid (isRead_some (w := w) (hr2.trans (if_pos hc)))
      rw [hc] at HK2
      clear hr2 hc
      unfold vv at *
      simp only at HK2
      go_wp2_with fail
      refine (HK2.out _).mono ?_; rintro e w2 ⟨rfl, b2⟩
      have HX3 := Lib.hid ((HX2.out _).below b2 (by simp; omega))
      have HY3 := Lib.hid (HY.out.below b2 (by simp))
      have HB3 := Lib.hid ((HB2.out _).trans (b2.mono (by simp; omega)))
      obtain ⟨c0, c1, c2, c3, f0, f1, f2, f3⟩ := HX3.out.all
      obtain ⟨d0, d1, d2, d3, -⟩ := HY3.out.all
      clear b2
      go_wp2_with fail
      exact ret_box Tryd.results18 rfl rfl rfl (box_store HX3.out _ _ _ _) (HR.out _ (stored_below HB3.out (Nat.le_refl _) _ _ _ _))
    · have HR := Lib.hid (isRead_none (w := w) (hr2.trans (if_neg hc)))
      have hx : (Val.chk ⟨k, n, f, t⟩ != 0) = true := ne_true hc
      generalize Val.chk ⟨k, n, f, t⟩ = x at *
      clear hr2
      unfold vv at *
      simp only at HK2
      go_wp2_with fail
      refine (HK2.out _).mono ?_; rintro e w2 ⟨rfl, b2⟩
      have HX3 := Lib.hid ((HX2.out _).below b2 (by simp; omega))
      have HY3 := Lib.hid (HY.out.below b2 (by simp))
      have HB3 := Lib.hid ((HB2.out _).trans (b2.mono (by simp; omega)))
      obtain ⟨c0, c1, c2, c3, f0, f1, f2, f3⟩ := HX3.out.all
      obtain ⟨d0, d1, d2, d3, -⟩ := HY3.out.all
      clear b2
      go_wp2_with fail
      exact ret_box Tryd.results18 rfl rfl rfl (box_store HX3.out _ _ _ _) (HR.out _ (stored_below HB3.out (Nat.le_refl _) _ _ _ _))
end Go.Proofs.YtdhfmapcggohmaaDoor
