/-
  What value.take and slices.Equal return, for every slice of items.
  No condition but that a slice of items is no longer than the form's own reach.
-/
import Derived.Test.YtdhfmapcggohmaaDoorValTake
import Derived.Test.YtdhfmapcggohmaaDoorValTake2
import Derived.WalkKit
import Derived.WalkSpells
import Derived.WalkLawsBesides
import Derived.Handy
import Derived.Deep.QuietTactic
import Derived.BigQuiet
import Derived.Deep.Draws
import Derived.Lib.Hide
namespace Go.Proofs.YtdhfmapcggohmaaDoor
open Go.RowKit

theorem take_f_lt : ∀ (l : List Val.It), (Val.take l).f < 18446744073709551616
  | [] => by show 0 < _; decide
  | [_] => by show 0 < _; decide
  | x :: y :: _ => by
    show (if x.n = 2 then Val.us y.n else 0) < _
    split
    · exact us_lt _
    · decide
theorem vtake_any (b o c n : Nat) (l : List Val.It) (w : World) (hl : l.length = n) (h1 : 1 ≤ n) (hb : b < w.heap.size) (hi : ∀ i x, l[i]? = some x → At w b o i x) :
    Calls Tryd.prog 29 #[.slice (some ⟨b, o, none⟩) n c] w fun e w' => e = .returned (vv (Val.take l)) ∧ Below w.heap.size w w' := by
  match l, hl, hi with
  | [], hl, _ =>
    simp at hl
    omega
  | [x], hl, hi =>
    subst hl
    exact take_one b o c x w hb (hi 0 x rfl)
  | x :: y :: r, hl, hi =>
    have hn : 2 ≤ n := by rw [← hl]; simp
    have hx := hi 0 x rfl
    have hy := hi 1 y rfl
    have e : Val.take (x :: y :: r) = ⟨x.n, if x.n = 1 then y.n else 0, if x.n = 2 then Val.us y.n else 0, if x.n = 3 then y.s else Val.emp⟩ := rfl
    rw [e]
    by_cases k1 : x.n = 1
    · rw [if_pos k1, if_neg (by omega), if_neg (by omega)]
      exact take_i b o c n x y w hn hb hx hy (by rw [k1]; exact named1)
    · rw [if_neg k1]
      by_cases k2 : x.n = 2
      · rw [if_pos k2, if_neg (by omega)]
        exact take_f b o c n x y w hn hb hx hy (by rw [k2]; exact named2)
      · rw [if_neg k2]
        by_cases k3 : x.n = 3
        · rw [if_pos k3]
          exact take_s b o c n x y w hn hb hx hy (by rw [k3]; exact named3)
        · rw [if_neg k3]
          by_cases k0 : x.n = 0
          · exact take_n b o c n x y w true hn hb hx hy (by rw [k0]; exact named0)
          · exact take_n b o c n x y w false hn hb hx hy (fun w => named9 x.n w (by omega))

def IsEq (l m : List Val.It) (w : World) (e : Ending) (w' : World) : Prop := ∃ b, e = .returned (.bool b) ∧ (l = m → b = true) ∧ ∃ n, w' = w.drewN n
set_option maxHeartbeats 3200000 in
theorem equal_any (A A' : Option Addr) (c c' : Nat) (l m : List Val.It) (w : World) (B B' : Nat) (hl : l.length ≤ 9223372036854775807) (_hm : m.length ≤ 9223372036854775807) (hi : Items w B A l) (hi' : Items w B' A' m) :
    Calls Tryd.prog 30 #[.slice A l.length c, .slice A' m.length c'] w (IsEq l m w) := by
  by_cases hlen : l.length = m.length
  · have HI := Lib.hid hi
    have HI' := Lib.hid hi'
    rw [← hlen]
    clear hi hi' _hm
    generalize hn : l.length = n at *
    have HN := Lib.hid hn
    have HM := Lib.hid hlen
    clear hn hlen
    have hnn : ((n : Int) != (n : Int)) = false := by simp
    go_enter Tryd.func30, Tryd.ntmps30
    go_wp2_with fail
    go_loopw [13] (fun vi wr => ∃ k q : Nat, k ≤ n ∧ vi = .int .i64 k ∧ wr = w.drewN q) (fun vi _ => n - (intOf vi).toNat)
    case atStart => exact ⟨0, 0, Nat.zero_le _, rfl, rfl⟩
    case round =>
      obtain ⟨k, q, hk, rfl, rfl⟩ := hrel
      by_cases hlt : k < n
      · obtain ⟨x, hx⟩ := get_of (l := l) (k := k) (by rw [HN.out]; exact hlt)
        obtain ⟨y, hy⟩ := get_of (l := m) (k := k) (by rw [← HM.out]; exact hlt)
        obtain ⟨b, o, rfl, _, hc⟩ := HI.out (by rw [HN.out]; omega)
        obtain ⟨b', o', rfl, _, hc'⟩ := HI'.out (by rw [← HM.out]; omega)
        obtain ⟨c0, c1, c2⟩ := hc k x hx
        obtain ⟨d0, d1, d2⟩ := hc' k y hy
        have HXY : Hid (x ≠ y → l = m → False) := Lib.hid (fun h e => by
          subst e
          rw [hx] at hy
          exact h (Option.some.inj hy))
        clear hc hc' hx hy
        have hk1 : (0 : Int) ≤ (k : Int) := by omega
        have hk2 : (k : Int) < (n : Int) := by omega
        obtain ⟨xk, xn, xs⟩ := x
        obtain ⟨yk, yn, ys⟩ := y
        simp only at c0 c1 c2 d0 d1 d2
        have hcases : (xk = yk ∧ xn = yn ∧ xs = ys) ∨ ((⟨xk, xn, xs⟩ : Val.It) ≠ ⟨yk, yn, ys⟩ ∧ ((xk == yk) = false ∨ (xn == yn) = false ∨ ((xs.toList == ys.toList) = false ∧ ¬ xs.toList = ys.toList))) := by
          by_cases e1 : xk = yk
          · by_cases e2 : xn = yn
            · by_cases e3 : xs = ys
              · exact .inl ⟨e1, e2, e3⟩
              · have h2 : ¬ xs.toList = ys.toList := fun e => e3 (bytes_same e)
                exact .inr ⟨fun e => e3 (by injection e), .inr (.inr ⟨by simpa using h2, h2⟩)⟩
            · exact .inr ⟨fun e => e2 (by injection e), .inr (.inl (by simpa using e2))⟩
          · exact .inr ⟨fun e => e1 (by injection e), .inl (by simpa using e1)⟩
        rcases hcases with ⟨rfl, rfl, rfl⟩ | ⟨hne, hd⟩
        · go_wp2_with fail
          go_quiet (fail)
          go_wp2_with fail
          exact ⟨⟨k + 1, q + nq, by omega, by go_num, rfl⟩, by simp [intOf]; omega⟩
        · have HF := Lib.hid (HXY.out hne)
          clear HXY hne
          rcases hd with hd | hd | ⟨hd, hd2⟩
          all_goals
            go_wp2_with fail
            go_quiet (fail)
            go_wp2_with fail
            go_ret
            exact ⟨false, rfl, fun e => (HF.out e).elim, q + nq, by rw [World.drewN_drewN]⟩
      · obtain rfl : k = n := by omega
        go_wp2_with fail
        go_ret
        exact ⟨true, rfl, fun _ => rfl, q, rfl⟩
  · have hne : ((l.length : Int) != (m.length : Int)) = true := ne_true (by omega)
    have HF : Hid (l = m → False) := Lib.hid (fun e => hlen (by rw [e]))
    generalize l.length = n at *
    generalize m.length = n' at *
    clear hlen hi hi'
    go_enter Tryd.func30, Tryd.ntmps30
    go_wp2_with fail
    go_ret
    exact ⟨false, rfl, fun e => (HF.out e).elim, 0, rfl⟩

end Go.Proofs.YtdhfmapcggohmaaDoor
