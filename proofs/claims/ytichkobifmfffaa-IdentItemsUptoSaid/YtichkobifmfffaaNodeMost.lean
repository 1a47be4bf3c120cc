/-
  What Most returns, the program's and the document's; and Same, copied, slices.Clone of nodes.
  No condition but that a slice is no longer than the form's reach.
-/
import Derived.Test.YtichkobifmfffaaNodeBoth
import Derived.WalkKit
import Derived.WalkSpells
import Derived.WalkLawsBesides
import Derived.Handy
import Derived.Deep.QuietTactic
import Derived.BigQuiet
import Derived.Deep.RegionWith
import Derived.Deep.RegionHeld3
import Derived.Deep.Draws
import Derived.Lib.Hide
import Derived.Lib.LazyBuf
namespace Go.Proofs.Ytichkobifmfffaa
open Go.RowKit
set_option maxHeartbeats 800000 in
theorem most_any (z : Int) (w : World) : Calls Try.prog 26 #[.int .i64 z] w fun e w' => e = .returned (.int .i64 (wrap64 (wrap64 (z.tdiv 2) + 1))) ∧ w' = w := by
  go_enter Try.func26, Try.ntmps26
  go_wp2_with fail
  go_ret
  exact ⟨rfl, rfl⟩
set_option maxHeartbeats 800000 in
theorem rmost_any (z : Int) (w : World) : Calls Try.prog 27 #[.int .i64 z] w fun e w' => e = .returned (.int .i64 (wrap64 (wrap64 (z.tdiv 2) + 1))) ∧ w' = w := by
  go_enter Try.func27, Try.ntmps27
  go_wp2_with fail
  go_ret
  exact ⟨rfl, rfl⟩

theorem most_nat (n : Nat) (h : n ≤ 9223372036854775807) : wrap64 (wrap64 ((n : Int).tdiv 2) + 1) = (Ident.most n : Int) := by
  rw [Int.tdiv_eq_ediv_of_nonneg (by omega)]
  unfold wrap64 Ident.most
  omega
theorem mostn_any (n : Nat) (w : World) (h : n ≤ 9223372036854775807) : Calls Try.prog 26 #[.int .i64 n] w fun e w' => e = .returned (.int .i64 (Ident.most n : Nat)) ∧ w' = w := by
  have := most_any n w
  rwa [most_nat n h] at this
theorem rmostn_any (n : Nat) (w : World) (h : n ≤ 9223372036854775807) : Calls Try.prog 27 #[.int .i64 n] w fun e w' => e = .returned (.int .i64 (Ident.most n : Nat)) ∧ w' = w := by
  have := rmost_any n w
  rwa [most_nat n h] at this
theorem major_is (part whole : List Ident.Id) (r : Bool) (h : Ident.major part whole = r) : (r = true ∧ Ident.most whole.length ≤ (Ident.both whole part).length) ∨ (r = false ∧ ¬ Ident.most whole.length ≤ (Ident.both whole part).length) := by
  subst h
  unfold Ident.major
  by_cases h : Ident.most whole.length ≤ (Ident.both whole part).length
  · exact .inl ⟨by simpa using h, h⟩
  · exact .inr ⟨by simpa using h, h⟩
set_option maxHeartbeats 1600000 in
theorem major_any (A B : Option Addr) (c d : Nat) (p m : List Ident.Id) (w : World) (hp : p.length ≤ 9223372036854775807) (hm : m.length ≤ 8796093022208) (hi : nodeLay.Reads w w.heap.size A p) (hj : nodeLay.Reads w w.heap.size B m) :
    Calls Try.prog 24 #[.slice A p.length c, .slice B m.length d] w fun e w' => e = .returned (.bool (Ident.major p m)) ∧ Below w.heap.size w w' := by
  have HB := Lib.hid (both_any B A d c m p w hm hp hj hi)
  have HM := Lib.hid (fun W => mostn_any m.length W (by omega))
  have hr := major_is p m _ rfl
  generalize Ident.major p m = r at *
  clear hi hj
  have hb := Ident.both_le m p
  generalize Ident.both m p = q at *
  generalize Ident.most m.length = mo at *
  generalize m.length = mm at *
  generalize p.length = pp at *
  unfold IsNodes at HB
  generalize hq : q.length = qq at *
  rcases hr with ⟨rfl, hr⟩ | ⟨rfl, hr⟩
  all_goals
    have hr' : ((mo : Int) ≤ (qq : Int)) = (mo ≤ qq) := by simp
    go_enter Try.func24, Try.ntmps24
    go_wp2_with fail
    refine (HB.out).mono ?_; rintro e w1 ⟨A1, c1, rfl, _, b1⟩
    have HB1 := Lib.hid b1
    clear b1
    go_wp2_with fail
    refine (HM.out _).mono ?_; rintro e w2 ⟨rfl, rfl⟩
    go_wp2_with fail
    go_ret
    exact ⟨rfl, HB1.out⟩
set_option maxHeartbeats 1600000 in
theorem rmajor_any (A B : Option Addr) (c d : Nat) (p m : List Ident.Id) (w : World) (hp : p.length ≤ 9223372036854775807) (hm : m.length ≤ 8796093022208) (hi : nodeLay.Reads w w.heap.size A p) (hj : nodeLay.Reads w w.heap.size B m) :
    Calls Try.prog 25 #[.slice A p.length c, .slice B m.length d] w fun e w' => e = .returned (.bool (Ident.major p m)) ∧ Below w.heap.size w w' := by
  have HB := Lib.hid (rboth_any B A d c m p w hm hp hj hi)
  have HM := Lib.hid (fun W => rmostn_any m.length W (by omega))
  have hr := major_is p m _ rfl
  generalize Ident.major p m = r at *
  clear hi hj
  have hb := Ident.both_le m p
  generalize Ident.both m p = q at *
  generalize Ident.most m.length = mo at *
  generalize m.length = mm at *
  generalize p.length = pp at *
  unfold IsNodes at HB
  generalize hq : q.length = qq at *
  rcases hr with ⟨rfl, hr⟩ | ⟨rfl, hr⟩
  all_goals
    have hr' : ((mo : Int) ≤ (qq : Int)) = (mo ≤ qq) := by simp
    go_enter Try.func25, Try.ntmps25
    go_wp2_with fail
    refine (HB.out).mono ?_; rintro e w1 ⟨A1, c1, rfl, _, b1⟩
    have HB1 := Lib.hid b1
    clear b1
    go_wp2_with fail
    refine (HM.out _).mono ?_; rintro e w2 ⟨rfl, rfl⟩
    go_wp2_with fail
    go_ret
    exact ⟨rfl, HB1.out⟩
set_option maxHeartbeats 1600000 in
theorem ncopied_any (A : Option Addr) (c : Nat) (l : List Ident.Id) (w : World) (hl : l.length ≤ 8796093022208) (hi : nodeLay.Reads w w.heap.size A l) (hA : A = none → l = []) :
    Calls Try.prog 18 #[.slice A l.length c] w (IsNodes l w) := by
  have HI := Lib.hid (fun o => hi.below ((Below.refl w.heap.size w).alloc (Nat.le_refl _) o))
  have HA := Lib.hid hA
  have HW : Hid (nodeLay.Own w.heap.size (w.alloc (.cells #[] 24)) (.slice (some ⟨w.heap.size, 0, none⟩) 0 0) []) := Lib.hid (Lay.Own.new w [] _ _ _ _ rfl (Nat.le_refl _) rfl rfl rfl (by decide))
  have HB0 := Lib.hid ((Below.refl _ w).alloc (Nat.le_refl _) (.cells #[] 24))
  clear hi hA
  generalize hn : l.length = n at *
  have HN := Lib.hid hn
  clear hn
  go_enter Try.func18, Try.ntmps18
  go_wp2_with (at_builtin; refine nodeLay.wpList_more rfl (.tmp 3) (.tmp 4) rfl w.heap.size _ _ [] A n c w.heap.size l rfl rfl HN.out.symm HW.out (HI.out _) HA.out ?h1 ?h2 (by simp) ?_)
  case h1 => rw [HN.out]; simp; omega
  case h2 => rw [HN.out]; show _ * 16 ≤ _; simp; omega
  intro v2 w2 HR2 HT2 hs2
  have HB3 := Lib.hid (below_turns HB0.out HT2.out (Nat.le_refl _))
  clear HT2
  go_wp2_with fail
  go_ret
  exact isNodes HR2.out (Nat.le_refl _) HB3.out

/-- slices.Clone: nil of nil, else a copy. -/
theorem clone_nil (c : Nat) (w : World) : Calls Try.prog 30 #[.slice none 0 c] w (IsNodes [] w) := by
  have hq := fun W => run_eql_slice_nil (P := Try.prog) W 22 24 none 0 c Try.underlying22
  have HB0 := Lib.hid (Below.refl w.heap.size w)
  go_enter Try.func30, Try.ntmps30
  go_wp2_with fail
  go_ret
  exact isNodes (Lay.Own.none w _) (Nat.le_refl _) HB0.out
set_option maxHeartbeats 1600000 in
theorem clone_some (ad : Addr) (c : Nat) (l : List Ident.Id) (w : World) (hl : l.length ≤ 8796093022208) (hi : nodeLay.Reads w w.heap.size (some ad) l) :
    Calls Try.prog 30 #[.slice (some ad) l.length c] w (IsNodes l w) := by
  have hq := fun W => run_eql_slice_nil (P := Try.prog) W 22 24 (some ad) l.length c Try.underlying22
  have HI := Lib.hid (fun o => hi.below ((Below.refl w.heap.size w).alloc (Nat.le_refl _) o))
  have HW : Hid (nodeLay.Own w.heap.size (w.alloc (.cells #[] 24)) (.slice (some ⟨w.heap.size, 0, none⟩) 0 0) []) := Lib.hid (Lay.Own.new w [] _ _ _ _ rfl (Nat.le_refl _) rfl rfl rfl (by decide))
  have HB0 := Lib.hid ((Below.refl _ w).alloc (Nat.le_refl _) (.cells #[] 24))
  clear hi
  generalize hn : l.length = n at *
  have HN := Lib.hid hn
  clear hn
  go_enter Try.func30, Try.ntmps30
  go_wp2_with (at_builtin; refine nodeLay.wpList_more rfl (.tmp 5) (.tmp 6) rfl w.heap.size _ _ [] (some ad) n c w.heap.size l rfl rfl HN.out.symm HW.out (HI.out _) (fun h => by cases h) ?h1 ?h2 (by simp) ?_)
  case h1 => rw [HN.out]; simp; omega
  case h2 => rw [HN.out]; show _ * 16 ≤ _; simp; omega
  intro v2 w2 HR2 HT2 hs2
  have HB3 := Lib.hid (below_turns HB0.out HT2.out (Nat.le_refl _))
  clear HT2
  go_wp2_with fail
  go_ret
  exact isNodes HR2.out (Nat.le_refl _) HB3.out

set_option maxHeartbeats 1600000 in
theorem nsame_any (A A' : Option Addr) (c c' : Nat) (l : List Ident.Id) (w : World) (B B' : Nat) (hl : l.length ≤ 9223372036854775807) (hi : nodeLay.Reads w B A l) (hi' : nodeLay.Reads w B' A' l) :
    Calls Try.prog 21 #[.slice A l.length c, .slice A' l.length c'] w fun e w' => e = .returned (.bool true) ∧ ∃ m, w' = w.drewN m := by
  have HI := Lib.hid hi
  have HI' := Lib.hid hi'
  clear hi hi'
  generalize hn : l.length = n at *
  have HN := Lib.hid hn
  clear hn
  have hnn : ((n : Int) != (n : Int)) = false := by simp
  go_enter Try.func21, Try.ntmps21
  go_wp2_with fail
  go_loopw [5] (fun vi wr => ∃ k m : Nat, k ≤ n ∧ vi = .int .i64 k ∧ wr = w.drewN m) (fun vi _ => n - (intOf vi).toNat)
  case atStart => exact ⟨0, 0, Nat.zero_le _, rfl, rfl⟩
  case round =>
    obtain ⟨k, m, hk, rfl, rfl⟩ := hrel
    by_cases hlt : k < n
    · obtain ⟨x, hx⟩ := Lay.get_of (l := l) (k := k) (by rw [HN.out]; exact hlt)
      obtain ⟨b, o, rfl, _, hc⟩ := HI.out (by rw [HN.out]; omega)
      obtain ⟨b', o', rfl, _, hc'⟩ := HI'.out (by rw [HN.out]; omega)
      obtain ⟨c0, c1⟩ := at_node (hc k x hx)
      obtain ⟨d0, d1⟩ := at_node (hc' k x hx)
      clear hc hc' hx
      have hk1 : (0 : Int) ≤ (k : Int) := by omega
      have hk2 : (k : Int) < (n : Int) := by omega
      obtain ⟨xk, xn⟩ := x
      simp only at c0 c1 d0 d1
      go_wp2_with fail
      go_quiet (fail)
      go_wp2_with fail
      exact ⟨⟨k + 1, m + nq, by omega, by go_num, rfl⟩, by simp [intOf]; omega⟩
    · obtain rfl : k = n := by omega
      go_wp2_with fail
      go_ret
      exact ⟨rfl, m, rfl⟩
end Go.Proofs.Ytichkobifmfffaa
