/-
  What value.undecimal returns, for every text: the number whose digits it is, or that there is none.
  No condition but that the text is no longer than a text can be.
-/
import Derived.Test.YtdhfmapcggohmaaDoorValRow
import Derived.Test.YtdhfmapcggohmaaDoorValLib
import Derived.Test.YtdhfmapcggohmaaDoorValRCheck
import Derived.WalkKit
import Derived.WalkSpells
import Derived.WalkLawsBesides
import Derived.Handy
import Derived.Deep.QuietTactic
import Derived.BigQuiet
import Derived.Deep.Draws
import Derived.Lib.Hide
namespace Go.Proofs.YtdhfmapcggohmaaDoor
open Go.RowKit

/-- A number that is read, or none. -/
def IsNum (r : Option Int) (e : Ending) : Prop := ∃ x b, e = .returned (.tuple #[.int .i64 x, .bool b]) ∧ ((r = some x ∧ b = true) ∨ (r = none ∧ b = false))
theorem isNum_none {r : Option Int} (h : r = none) (x : Int) : IsNum r (.returned (.tuple #[.int .i64 x, .bool false])) := ⟨x, false, rfl, .inr ⟨h, rfl⟩⟩
theorem isNum_some {r : Option Int} {x : Int} (h : r = some x) : IsNum r (.returned (.tuple #[.int .i64 x, .bool true])) := ⟨x, true, rfl, .inl ⟨h, rfl⟩⟩

set_option maxRecDepth 100000 in
set_option maxHeartbeats 3200000 in
/-- Behind the sign: the digits t, of a text s. -/
theorem undecimal_any (s t : ByteArray) (b : Bool) (w : World) (hs : s.size ≤ maxLen) (ht : t.size ≤ s.size)
    (hc : ∀ w, Calls Tryd.prog 49 #[.string s, .string ⟨#[45]⟩] w fun e w' => e = .returned (.tuple #[.string t, .bool b]) ∧ w = w')
    (hb : b = true ↔ s.data.toList.head? = some 45) (hbody : t.data.toList = Val.body s.data.toList) :
    Calls Tryd.prog 52 #[.string s] w fun e w' => IsNum (Val.rd s.data.toList) e ∧ w = w' := by
  unfold maxLen at hs
  have HC := Lib.hid hc
  clear hc
  have hsize : t.data.toList.length = t.size := by rw [Array.length_toList]; rfl
  by_cases h0 : t.size = 0
  · have HN := Lib.hid (Val.rd_none_empty (l := s.data.toList) (by rw [← hbody, Val.size_zero h0]; rfl))
    obtain ⟨h1, h2⟩ := str_none h0
    clear hb hbody hs ht h0 hsize
    go_enter Tryd.func52, Tryd.ntmps52
    go_wp2_with fail
    refine (HC.out _).mono ?_; rintro e w' ⟨rfl, rfl⟩
    go_wp2_with fail
    go_ret2
    exact ⟨isNum_none HN.out _, rfl⟩
  · obtain ⟨h1, h2⟩ := str_some h0
    obtain ⟨c, hc0⟩ : ∃ c, t.data.toList[0]? = some c := ⟨_, List.getElem?_eq_getElem (by omega)⟩
    have hx0 := index_at t 0 0 rfl c hc0
    have hne : Val.body s.data.toList ≠ [] := by rw [← hbody]; intro e; rw [e] at hc0; cases hc0
    have hhead : (Val.body s.data.toList).head? = some c := by rw [← hbody, List.head?_eq_getElem?]; exact hc0
    by_cases h48 : c.toNat = 48 ∧ s.data.toList ≠ [48]
    · have ec : c = 48 := UInt8.toNat_inj.1 h48.1
      have HN := Lib.hid (Val.rd_none_head (l := s.data.toList) (by rw [hhead, ec]) h48.2)
      have q1 : (c.toNat : Int) = 48 := by omega
      have q2 : ¬ s.toList = [48] := by rw [ByteArray.toList_eq]; exact h48.2
      have q3 : (s.toList == [48]) = false := by simpa using q2
      clear hb hbody hs hsize hhead hne hc0 h48 ec h0
      rw [q1] at hx0
      go_enter Tryd.func52, Tryd.ntmps52
      go_wp2_with fail
      refine (HC.out _).mono ?_; rintro e w' ⟨rfl, rfl⟩
      go_wp2_with fail
      go_ret2
      exact ⟨isNum_none HN.out _, rfl⟩
    · have HH : Hid ((Val.body s.data.toList).head? = some 48 → s.data.toList = [48]) := Lib.hid (fun e => by
        rw [hhead] at e
        have ec : c = 48 := Option.some.inj e
        exact Decidable.byContradiction fun h => h48 ⟨by rw [ec]; rfl, h⟩)
      have HNe := Lib.hid hne
      have hcases : ((c.toNat : Int) == 48) = false ∨ ((c.toNat : Int) = 48 ∧ (s.toList == [48]) = true ∧ s.toList = [48]) := by
        by_cases e : c.toNat = 48
        · right
          have h : s.data.toList = [48] := Decidable.byContradiction fun h => h48 ⟨e, h⟩
          have h2 : s.toList = [48] := by rw [ByteArray.toList_eq]; exact h
          exact ⟨by omega, by rw [h2]; rfl, h2⟩
        · left
          rw [beq_eq_false_iff_ne]; omega
      have HBo := Lib.hid hbody
      have HSz := Lib.hid hsize
      have HB := Lib.hid hb
      clear hb hbody hsize hhead hne h48 h0
      rcases hcases with q1 | ⟨q1, q3, q4⟩
      all_goals
        try rw [q1] at hx0
        go_enter Tryd.func52, Tryd.ntmps52
        go_wp2_with fail
        refine (HC.out _).mono ?_; rintro e w' ⟨rfl, rfl⟩
        go_wp2_with fail
        go_loop [6, 27] (fun vb vi => ∃ (k v : Nat), k ≤ t.size ∧ vb = .int .i64 (-(v : Int)) ∧ vi = .int .i64 k ∧ v ≤ 9223372036854775808 ∧ Hid (Val.Seen (Val.body s.data.toList) k v)) (fun _ vi => t.size - (intOf vi).toNat)
        case atStart => exact ⟨0, 0, Nat.zero_le _, rfl, rfl, by decide, Lib.hid (Val.seen_zero _)⟩
        case round =>
          obtain ⟨k, v, hk, rfl, rfl, hv, HS⟩ := hrel
          by_cases hlt : k < t.size
          · obtain ⟨c, hck⟩ : ∃ c, t.data.toList[k]? = some c := ⟨_, List.getElem?_eq_getElem (by rw [HSz.out]; exact hlt)⟩
            have hx := index_at t k k rfl c hck
            have hcb := c.toNat_lt
            have hck2 : (Val.body s.data.toList)[k]? = some c := by rw [← HBo.out]; exact hck
            by_cases hd : Val.isd c = true
            · have hd2 : 48 ≤ c.toNat ∧ c.toNat ≤ 57 := by unfold Val.isd at hd; simpa using hd
              obtain ⟨d1, d2⟩ := hd2
              by_cases hg : 9223372036854775808 < 10 * v + (c.toNat - 48)
              · have HN := Lib.hid (Val.rd_none_great (l := s.data.toList) (Val.seen_great HS.out hck2 hg))
                have hq : (-9223372036854775808 + ((c.toNat : Int) - 48)).tdiv 10 = -(((9223372036854775808 - (c.toNat - 48)) / 10 : Nat) : Int) := by
                  rw [show (c.toNat : Int) - 48 = ((c.toNat - 48 : Nat) : Int) by omega]; exact Val.tdiv_least _ (by omega)
                have hl : -(v : Int) < -(((9223372036854775808 - (c.toNat - 48)) / 10 : Nat) : Int) := by omega
                clear HS hck hck2
                go_wp2_with fail
                go_ret2
                exact ⟨isNum_none HN.out _, rfl⟩
              · have HS2 := Lib.hid (Val.seen_next HS.out hck2 d1 d2 (by omega))
                have hq : (-9223372036854775808 + ((c.toNat : Int) - 48)).tdiv 10 = -(((9223372036854775808 - (c.toNat - 48)) / 10 : Nat) : Int) := by
                  rw [show (c.toNat : Int) - 48 = ((c.toNat - 48 : Nat) : Int) by omega]; exact Val.tdiv_least _ (by omega)
                have hl : ¬ -(v : Int) < -(((9223372036854775808 - (c.toNat - 48)) / 10 : Nat) : Int) := by omega
                have hbd : 10 * v + (c.toNat - 48) ≤ 9223372036854775808 := by omega
                clear HS hck hck2 hg
                go_wp2_with fail
                exact ⟨⟨k + 1, 10 * v + (c.toNat - 48), by omega, by congr 1; omega, by go_num, hbd, HS2⟩, by simp [intOf]; omega⟩
            · have HN := Lib.hid (Val.rd_none_digit (l := s.data.toList) (List.mem_of_getElem? hck2) (by simpa using hd))
              have hd2 : c.toNat < 48 ∨ 57 < c.toNat := by
                unfold Val.isd at hd
                simp at hd
                omega
              clear HS hck hck2 hd
              rcases hd2 with d1 | d1
              · have d2 : (c.toNat : Int) - 48 < 0 := by omega
                go_wp2_with fail
                go_ret2
                exact ⟨isNum_none HN.out _, rfl⟩
              · have d2 : 9 < (c.toNat : Int) - 48 := by omega
                have d3 : ¬ (c.toNat : Int) - 48 < 0 := by omega
                go_wp2_with fail
                go_ret2
                exact ⟨isNum_none HN.out _, rfl⟩
          · obtain rfl : k = t.size := by omega
            have hend := Val.seen_end HS.out (by rw [← HBo.out, HSz.out]; exact Nat.le_refl _)
            have hr := Val.rd_end HNe.out HH.out hend.1 hend.2.1 hv
            clear hend HS
            cases b with
            | true =>
              rw [if_pos (HB.out.1 rfl)] at hr
              have HR := Lib.hid hr
              clear hr
              go_wp2_with fail
              go_ret2
              exact ⟨isNum_some HR.out, rfl⟩
            | false =>
              rw [if_neg (fun h => by have := HB.out.2 h; cases this)] at hr
              by_cases hv2 : v < 9223372036854775808
              · rw [if_pos hv2] at hr
                have HR := Lib.hid hr
                have hne2 : (-(v : Int) != -9223372036854775808) = true := ne_true (by omega)
                have hwr : IntKind.i64.wrap (- -(v : Int)) = (v : Int) := by rw [Int.neg_neg]; exact IntWalk.i64_in _ (by omega)
                clear hr
                go_wp2_with fail
                go_ret2
                exact ⟨isNum_some HR.out, rfl⟩
              · rw [if_neg hv2] at hr
                have HR := Lib.hid hr
                obtain rfl : v = 9223372036854775808 := by omega
                clear hr
                go_wp2_with fail
                go_ret2
                exact ⟨isNum_none HR.out _, rfl⟩

theorem body_starts (s : ByteArray) : (if starts 45 s = true then rest s else s).data.toList = Val.body s.data.toList := by
  unfold Val.body
  by_cases h : s.data.toList.head? = some 45
  · rw [if_pos (show starts 45 s = true by unfold starts; rw [h]; rfl), if_pos h, rest_toList]
  · rw [if_neg (show ¬ starts 45 s = true by unfold starts; simpa using h), if_neg h]
theorem undecimal_is (s : ByteArray) (w : World) (hs : s.size ≤ maxLen) :
    Calls Tryd.prog 52 #[.string s] w fun e w' => IsNum (Val.rd s.data.toList) e ∧ w = w' := by
  refine undecimal_any s (if starts 45 s = true then rest s else s) (starts 45 s) w hs ?_ (fun w => cut_any s 45 w) ?_ (body_starts s)
  · split
    · unfold rest; rw [ByteArray.size_extract]; omega
    · exact Nat.le_refl _
  · unfold starts; simp
end Go.Proofs.YtdhfmapcggohmaaDoor
