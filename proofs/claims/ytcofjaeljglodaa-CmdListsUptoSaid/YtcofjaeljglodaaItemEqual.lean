/-
  What slices.Equal returns, for slices of items: true for the same items.
  No condition but that a slice of items is no longer than a machine's.
-/
import Derived.Test.YtcofjaeljglodaaItem
import Derived.WalkKit
import Derived.WalkSpells
import Derived.WalkLawsBesides
import Derived.Handy
import Derived.Deep.QuietTactic
import Derived.BigQuiet
import Derived.Deep.Draws
import Derived.Lib.Hide
namespace Go.Proofs.Ytcofjaeljglodaa
open Go.RowKit

namespace Itm
theorem text_same {a b : ByteArray} (h : a.toList = b.toList) : a = b := by
  rw [ByteArray.toList_eq, ByteArray.toList_eq] at h
  exact ByteArray.ext (Array.toList_inj.1 h)
theorem num_ne {x y : Int} (h : ¬ x = y) : (x != y) = true := by simpa using h
end Itm
def IsEq (l m : List Itm.It) (w : World) (e : Ending) (w' : World) : Prop := ∃ b, e = .returned (.bool b) ∧ (l = m → b = true) ∧ ∃ n, w' = w.drewN n
set_option maxHeartbeats 3200000 in
theorem iequal_any (A A' : Option Addr) (c c' : Nat) (l m : List Itm.It) (w : World) (B B' : Nat) (hl : l.length ≤ 9223372036854775807) (_hm : m.length ≤ 9223372036854775807) (hi : itemLay.Reads w B A l) (hi' : itemLay.Reads w B' A' m) :
    Calls Try.prog 39 #[.slice A l.length c, .slice A' m.length c'] w (IsEq l m w) := by
  by_cases hlen : l.length = m.length
  · have HI := Lib.hid hi
    have HI' := Lib.hid hi'
    rw [← hlen]
    clear hi hi' _hm
    generalize hn : l.length = n at *
    have HN := Lib.hid hn
    have HM := Lib.hid hlen
    clear hn hlen
    have hnn : ((n : Int) != (n : Int)) = false := by simp
    go_enter Try.func39, Try.ntmps39
    go_wp2_with fail
    go_loopw [13] (fun vi wr => ∃ k q : Nat, k ≤ n ∧ vi = .int .i64 k ∧ wr = w.drewN q) (fun vi _ => n - (intOf vi).toNat)
    case atStart => exact ⟨0, 0, Nat.zero_le _, rfl, rfl⟩
    case round =>
      obtain ⟨k, q, hk, rfl, rfl⟩ := hrel
      by_cases hlt : k < n
      · obtain ⟨x, hx⟩ := Lay.get_of (l := l) (k := k) (by rw [HN.out]; exact hlt)
        obtain ⟨y, hy⟩ := Lay.get_of (l := m) (k := k) (by rw [← HM.out]; exact hlt)
        obtain ⟨b, o, rfl, _, hc⟩ := HI.out (by rw [HN.out]; omega)
        obtain ⟨b', o', rfl, _, hc'⟩ := HI'.out (by rw [← HM.out]; omega)
        obtain ⟨c0, c1, c2⟩ := at_item (hc k x hx)
        obtain ⟨d0, d1, d2⟩ := at_item (hc' k y hy)
        have HXY : Hid (x ≠ y → l = m → False) := Lib.hid (fun h e => by
          subst e
          rw [hx] at hy
          exact h (Option.some.inj hy))
        clear hc hc' hx hy
        have hk1 : (0 : Int) ≤ (k : Int) := by omega
        have hk2 : (k : Int) < (n : Int) := by omega
        obtain ⟨xk, xn, xs⟩ := x
        obtain ⟨yk, yn, ys⟩ := y
        simp only at c0 c1 c2 d0 d1 d2
        have hcases : (xk = yk ∧ xn = yn ∧ xs = ys) ∨ ((⟨xk, xn, xs⟩ : Itm.It) ≠ ⟨yk, yn, ys⟩ ∧ ((xk == yk) = false ∨ (xn == yn) = false ∨ ((xs.toList == ys.toList) = false ∧ ¬ xs.toList = ys.toList))) := by
          by_cases e1 : xk = yk
          · by_cases e2 : xn = yn
            · by_cases e3 : xs = ys
              · exact .inl ⟨e1, e2, e3⟩
              · have h2 : ¬ xs.toList = ys.toList := fun e => e3 (Itm.text_same e)
                exact .inr ⟨fun e => e3 (by injection e), .inr (.inr ⟨by simpa using h2, h2⟩)⟩
            · exact .inr ⟨fun e => e2 (by injection e), .inr (.inl (by simpa using e2))⟩
          · exact .inr ⟨fun e => e1 (by injection e), .inl (by simpa using e1)⟩
        rcases hcases with ⟨rfl, rfl, rfl⟩ | ⟨hne, hd⟩
        · go_wp2_with fail
          go_quiet (fail)
          go_wp2_with fail
          exact ⟨⟨k + 1, q + nq, by omega, by go_num, rfl⟩, by simp [intOf]; omega⟩
        · have HF := Lib.hid (HXY.out hne)
          clear HXY hne
          rcases hd with hd | hd | ⟨hd, hd2⟩
          all_goals
            go_wp2_with fail
            go_quiet (fail)
            go_wp2_with fail
            go_ret
            exact ⟨false, rfl, fun e => (HF.out e).elim, q + nq, by rw [World.drewN_drewN]⟩
      · obtain rfl : k = n := by omega
        go_wp2_with fail
        go_ret
        exact ⟨true, rfl, fun _ => rfl, q, rfl⟩
  · have hne : ((l.length : Int) != (m.length : Int)) = true := Itm.num_ne (by omega)
    have HF : Hid (l = m → False) := Lib.hid (fun e => hlen (by rw [e]))
    generalize l.length = n at *
    generalize m.length = n' at *
    clear hlen hi hi'
    go_enter Try.func39, Try.ntmps39
    go_wp2_with fail
    go_ret
    exact ⟨false, rfl, fun e => (HF.out e).elim, 0, rfl⟩

end Go.Proofs.Ytcofjaeljglodaa
