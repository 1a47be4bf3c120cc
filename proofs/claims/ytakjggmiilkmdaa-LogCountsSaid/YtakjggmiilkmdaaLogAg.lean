/-
  What the document's own Agreed and All return.
  No condition but what the slice reads as.
-/
import Derived.Test.YtakjggmiilkmdaaLogMath
import Derived.Test.YtakjggmiilkmdaaLIn
import Derived.BigQuiet
set_option linter.unusedSimpArgs false
set_option linter.unusedVariables false
namespace Go.Proofs.Ytakjggmiilkmdaa
open Go.RowKit

namespace Lgm
theorem at_take {l : List Int} {c x : Int} {k : Nat} (h : l[k]? = some x) : at_ (l.take (k + 1)) c = at_ (l.take k) c + (if c ≤ x then 1 else 0) := by
  unfold at_
  rw [List.take_add_one, h, Option.toList_some, List.countP_append]
  by_cases hc : c ≤ x <;> simp [hc]
theorem ag_take {l m : List Int} {x : Int} {k : Nat} (h : l[k]? = some x) : (l.take (k + 1)).foldl (agS m) 0 = agS m ((l.take k).foldl (agS m) 0) x := by
  rw [List.take_add_one, h, Option.toList_some, List.foldl_append]
  rfl
/-- The least so far; none yet: nought. -/
def mn (l : List Int) : Int := match l with
  | [] => 0
  | x :: r => r.foldl min x
theorem mn_take {l : List Int} {x : Int} {k : Nat} (h : l[k]? = some x) : mn (l.take (k + 1)) = if k = 0 ∨ x < mn (l.take k) then x else mn (l.take k) := by
  match l, k, h with
  | [], _, h => cases h
  | y :: r, 0, h =>
    simp only [List.getElem?_cons_zero, Option.some.injEq] at h
    subst h
    rw [if_pos (.inl rfl)]
    rfl
  | y :: r, k + 1, h =>
    rw [List.getElem?_cons_succ] at h
    have e : mn ((y :: r).take (k + 1 + 1)) = min (mn ((y :: r).take (k + 1))) x := by
      show (r.take (k + 1)).foldl min y = min ((r.take k).foldl min y) x
      rw [List.take_add_one, h, Option.toList_some, List.foldl_append]
      rfl
    rw [e]
    generalize mn ((y :: r).take (k + 1)) = m
    split <;> omega
theorem al_mn (l : List Int) : al l = if mn l < 0 then 0 else mn l := by
  match l with
  | [] => rfl
  | x :: r => show max 0 (r.foldl min x) = if r.foldl min x < 0 then 0 else r.foldl min x; split <;> omega
end Lgm
set_option maxRecDepth 100000 in
set_option maxHeartbeats 3200000 in
theorem lral_any (A : Option Addr) (n c : Nat) (l : List Int) (w : World) (hs : Sls inLay inF w A n c l) :
    Calls Try.prog 22 #[.slice A n c] w fun e w' => e = .returned (.int .i64 (Lgm.al l)) ∧ w = w' := by
  have HS := Lib.hid hs
  have hn : n ≤ 140737488355328 := by have h : n * 8 ≤ 140737488355328 := hs.big; omega
  have HT : Hid (l.take n = l) := Lib.hid (List.take_of_length_le (by rw [hs.len]; exact Nat.le_refl _))
  have HA := Lib.hid (Lgm.al_mn l)
  clear hs
  go_enter Try.func22, Try.ntmps22
  go_wp2
  go_loop [3, 4] (fun y x => ∃ k : Nat, k ≤ n ∧ x = .int .i64 k ∧ y = .int .i64 (Lgm.mn (l.take k))) (fun _ x => n - (intOf x).toNat)
  case atStart => exact ⟨0, Nat.zero_le _, rfl, rfl⟩
  case round =>
    obtain ⟨k, hk, rfl, rfl⟩ := hrel
    have hk1 : (0 : Int) ≤ (k : Int) := by omega
    by_cases hlt : k < n
    · have hk2 : (k : Int) < (n : Int) := by omega
      have hw : IntKind.i64.wrap ((k : Int) + 1) = ((k + 1 : Nat) : Int) := by rw [IntKind.wrap_i64]; omega
      obtain ⟨x, hx, _⟩ := HS.out.get hlt
      obtain ⟨b, o, rfl, hat⟩ := HS.out.iat (by omega)
      have hc := hat w (Below.refl _ w) k x hx
      have HC := Lib.hid (Lgm.mn_take hx)
      clear hat hx
      generalize Lgm.mn (l.take k) = m at *
      by_cases h0 : k = 0
      · have hz : ((k : Int) == 0) = true := by rw [beq_iff_eq]; omega
        have HC2 : Hid (Lgm.mn (l.take (k + 1)) = x) := Lib.hid (HC.out.trans (if_pos (.inl h0)))
        clear h0 HC
        go_wp2
        go_round
        case rel => exact ⟨k + 1, hlt, by go_num, by rw [HC2.out]⟩
        case measure => simp [intOf, hw]; omega
      · have hz : ((k : Int) == 0) = false := by rw [beq_eq_false_iff_ne]; omega
        by_cases hlx : x < m
        · have HC2 : Hid (Lgm.mn (l.take (k + 1)) = x) := Lib.hid (HC.out.trans (if_pos (.inr hlx)))
          have hd : decide (x < m) = true := decide_eq_true hlx
          clear h0 HC hlx
          go_wp2
          go_round
          case rel => exact ⟨k + 1, hlt, by go_num, by rw [HC2.out]⟩
          case measure => simp [intOf, hw]; omega
        · have HC2 : Hid (Lgm.mn (l.take (k + 1)) = m) := Lib.hid (HC.out.trans (if_neg (fun q => q.elim h0 hlx)))
          have hd : decide (x < m) = false := decide_eq_false hlx
          clear h0 HC hlx
          go_wp2
          go_round
          case rel => exact ⟨k + 1, hlt, by go_num, by rw [HC2.out]⟩
          case measure => simp [intOf, hw]; omega
    · obtain rfl : k = n := by omega
      rw [HT.out]
      by_cases hl : Lgm.mn l < 0
      · have HR : Hid (Lgm.al l = 0) := Lib.hid (HA.out.trans (if_pos hl))
        have hd : decide (Lgm.mn l < 0) = true := decide_eq_true hl
        clear hl HA
        generalize Lgm.mn l = m at *
        go_wp2
        go_ret
        exact ⟨by rw [HR.out]; rfl, rfl⟩
      · have HR : Hid (Lgm.al l = Lgm.mn l) := Lib.hid (HA.out.trans (if_neg hl))
        have hd : decide (Lgm.mn l < 0) = false := decide_eq_false hl
        clear hl HA
        generalize Lgm.mn l = m at *
        go_wp2
        go_ret
        exact ⟨by rw [HR.out]; rfl, rfl⟩
set_option maxRecDepth 100000 in
set_option maxHeartbeats 6400000 in
theorem lrag_any (A : Option Addr) (n c : Nat) (l : List Int) (w : World) (hs : Sls inLay inF w A n c l) :
    Calls Try.prog 20 #[.slice A n c] w fun e w' => e = .returned (.int .i64 (Lgm.ag l)) ∧ Below w.heap.size w w' := by
  have HS := Lib.hid hs
  have HL := Lib.hid hs.len
  have hn : n ≤ 140737488355328 := by have h : n * 8 ≤ 140737488355328 := hs.big; omega
  have HT : Hid (l.take n = l) := Lib.hid (List.take_of_length_le (by rw [hs.len]; exact Nat.le_refl _))
  have HK := Lib.hid (Kn.start w)
  unfold Lgm.ag
  clear hs
  go_enter Try.func20, Try.ntmps20
  go_wp2_with fail
  go_loopw [3, 4] (fun y x wr => ∃ k : Nat, k ≤ n ∧ x = .int .i64 k ∧ y = .int .i64 ((l.take k).foldl (Lgm.agS l) 0) ∧ Hid (Kn w.heap.size w wr [] [])) (fun _ x _ => n - (intOf x).toNat)
  case atStart => exact ⟨0, Nat.zero_le _, rfl, rfl, HK⟩
  case round =>
    clear HK
    obtain ⟨k, hk, rfl, rfl, HK⟩ := hrel
    have hk1 : (0 : Int) ≤ (k : Int) := by omega
    have hk3 : k < 9223372036854775807 := by omega
    by_cases hlt : k < n
    case neg =>
      obtain rfl : k = n := by omega
      rw [HT.out]
      generalize hr : l.foldl (Lgm.agS l) 0 = r at *
      have HRr := Lib.hid hr
      clear hr
      go_wp2_with fail
      go_ret
      exact ⟨by rw [HRr.out]; rfl, HK.out.b⟩
    case pos =>
    have hk2 : (k : Int) < (n : Int) := by omega
    obtain ⟨x, hx, _⟩ := HS.out.get hlt
    obtain ⟨b, o, rfl, hat⟩ := HS.out.iat (by omega)
    have HAt := Lib.hid hat
    have HX := Lib.hid hx
    have HC := Lib.hid (Lgm.ag_take (m := l) hx)
    clear hat hx
    generalize (l.take k).foldl (Lgm.agS l) 0 = best at *
    go_wp2_with fail
    go_loopw [5, 6] (fun y z wr => ∃ j : Nat, j ≤ n ∧ z = .int .i64 j ∧ y = .int .i64 (Lgm.at_ (l.take j) x : Nat) ∧ Hid (Kn w.heap.size w wr [] [])) (fun _ z _ => n - (intOf z).toNat)
    case atStart => exact ⟨0, Nat.zero_le _, rfl, rfl, HK⟩
    case round =>
      clear HK
      obtain ⟨j, hj, rfl, rfl, HK⟩ := hrel
      have hj1 : (0 : Int) ≤ (j : Int) := by omega
      have hj3 : j < 9223372036854775807 := by omega
      by_cases hjt : j < n
      case pos =>
        have hj2 : (j : Int) < (n : Int) := by omega
        obtain ⟨y, hy, _⟩ := HS.out.get hjt
        have hc1 := HAt.out _ HK.out.b k x HX.out
        have hc2 := HAt.out _ HK.out.b j y hy
        have HC2 := Lib.hid (Lgm.at_take (c := x) hy)
        have hcl : Lgm.at_ (l.take j) x ≤ j := Nat.le_trans List.countP_le_length (by rw [List.length_take]; omega)
        clear hy
        generalize Lgm.at_ (l.take j) x = m at *
        have hw : IntKind.i64.wrap ((m : Int) + 1) = ((m + 1 : Nat) : Int) := by rw [IntKind.wrap_i64]; omega
        have hwj : IntKind.i64.wrap ((j : Int) + 1) = ((j + 1 : Nat) : Int) := by rw [IntKind.wrap_i64]; omega
        by_cases hxy : x ≤ y
        · have hd : decide (x ≤ y) = true := decide_eq_true hxy
          have HC3 : Hid (Lgm.at_ (l.take (j + 1)) x = m + 1) := Lib.hid (by rw [HC2.out, if_pos hxy])
          clear HC2 hxy HS HAt HX HC
          go_wp2_with fail
          go_quiet (fail)
          go_wp2_with fail
          exact ⟨⟨j + 1, hjt, by go_num, by rw [HC3.out]; rfl, Lib.hid (HK.out.drewN _)⟩, by simp [intOf]; omega⟩
        · have hd : decide (x ≤ y) = false := decide_eq_false hxy
          have HC3 : Hid (Lgm.at_ (l.take (j + 1)) x = m) := Lib.hid (by rw [HC2.out, if_neg hxy]; rfl)
          clear HC2 hxy HS HAt HX HC
          go_wp2_with fail
          go_quiet (fail)
          go_wp2_with fail
          exact ⟨⟨j + 1, hjt, by go_num, by rw [HC3.out], Lib.hid (HK.out.drewN _)⟩, by simp [intOf]; omega⟩
      case neg =>
        obtain rfl : j = n := by omega
        rw [HT.out]
        have hc1 := HAt.out _ HK.out.b k x HX.out
        have hwk : IntKind.i64.wrap ((k : Int) + 1) = ((k + 1 : Nat) : Int) := by rw [IntKind.wrap_i64]; omega
        have hdv : (j : Int) / 2 = ((j / 2 : Nat) : Int) := by omega
        by_cases hm : Lgm.maj l x
        · have hm1 : decide ((j : Int) / 2 < ((Lgm.at_ l x : Nat) : Int)) = true := decide_eq_true (by unfold Lgm.maj at hm; rw [HL.out] at hm; omega)
          by_cases hbx : best < x
          · have hd : decide (best < x) = true := decide_eq_true hbx
            have HC3 : Hid ((l.take (k + 1)).foldl (Lgm.agS l) 0 = x) := Lib.hid (HC.out.trans (if_pos ⟨hm, hbx⟩))
            clear HC hm hbx HS HAt HX hdv
            generalize Lgm.at_ l x = q at *
            go_wp2_with fail
            exact ⟨⟨k + 1, hlt, by go_num, by rw [HC3.out], HK⟩, by simp [intOf]; omega⟩
          · have hd : decide (best < x) = false := decide_eq_false hbx
            have HC3 : Hid ((l.take (k + 1)).foldl (Lgm.agS l) 0 = best) := Lib.hid (HC.out.trans (if_neg (fun h => hbx h.2)))
            clear HC hm hbx HS HAt HX hdv
            generalize Lgm.at_ l x = q at *
            go_wp2_with fail
            exact ⟨⟨k + 1, hlt, by go_num, by rw [HC3.out], HK⟩, by simp [intOf]; omega⟩
        · have hm1 : decide ((j : Int) / 2 < ((Lgm.at_ l x : Nat) : Int)) = false := decide_eq_false (by unfold Lgm.maj at hm; rw [HL.out] at hm; omega)
          have HC3 : Hid ((l.take (k + 1)).foldl (Lgm.agS l) 0 = best) := Lib.hid (HC.out.trans (if_neg (fun h => hm h.1)))
          clear HC hm HS HAt HX hdv
          generalize Lgm.at_ l x = q at *
          go_wp2_with fail
          exact ⟨⟨k + 1, hlt, by go_num, by rw [HC3.out], HK⟩, by simp [intOf]; omega⟩
end Go.Proofs.Ytakjggmiilkmdaa
