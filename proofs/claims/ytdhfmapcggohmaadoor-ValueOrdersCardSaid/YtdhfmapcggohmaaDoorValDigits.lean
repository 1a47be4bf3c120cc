/-
  What the document's own Digits returns, for every number: its digits.
  No condition but that the number fits its kind.
-/
import Derived.Test.YtdhfmapcggohmaaDoorValDec
import Derived.Test.YtdhfmapcggohmaaDoorValRCheck
import Derived.WalkKit
import Derived.WalkSpells
import Derived.WalkLawsBesides
import Derived.Handy
import Derived.Deep.QuietTactic
import Derived.BigQuiet
import Derived.Deep.Draws
import Derived.Lib.Hide
namespace Go.Proofs.YtdhfmapcggohmaaDoor
open Go.RowKit

theorem str_dg (m : Nat) (W : World) : (convert 66 9 (.slice (some ⟨W.heap.size, 0, none⟩) 1 1)).run Tryd.prog (W.alloc (.cells #[.int .u8 (48 + (m : Int) % 10)] 5))
    = .ok (.string (Val.of [Val.dg (m % 10)])) (W.alloc (.cells #[.int .u8 (48 + (m : Int) % 10)] 5)) := by
  rw [cell_dg]; exact str1 _ W
theorem dg_zero : Val.dg 0 = 48 := by decide
theorem str_48 (W : World) : (convert 66 9 (.slice (some ⟨W.heap.size, 0, none⟩) 1 1)).run Tryd.prog (W.alloc (.cells #[.int .u8 48] 5)) = .ok (.string (Val.of [Val.dg 0])) (W.alloc (.cells #[.int .u8 48] 5)) := by
  rw [dg_zero]; exact str1 48 W
theorem of_append (a b : List UInt8) : Val.of a ++ Val.of b = Val.of (a ++ b) := by
  apply ByteArray.ext
  simp [Val.of]
theorem of_cons (c : UInt8) (b : List UInt8) : Val.of [c] ++ Val.of b = Val.of (c :: b) := of_append _ _
/-- The digits so far. -/
def Part (N m : Nat) (ds : List UInt8) : Prop := (m = N ∧ ds = []) ∨ (ds ≠ [] ∧ Val.dgs N = (if m = 0 then [] else Val.dgs m) ++ ds)
theorem part_next {N m : Nat} {ds : List UInt8} (h : Part N m ds) (h2 : m ≠ 0 ∨ ds = []) : Part N (m / 10) (Val.dg (m % 10) :: ds) := by
  refine .inr ⟨by simp, ?_⟩
  rcases h with ⟨rfl, rfl⟩ | ⟨h3, h4⟩
  · exact Val.dgs_first _
  · rcases h2 with h2 | h2
    · rw [h4, if_neg h2, Val.dgs_split h2, List.append_assoc]; rfl
    · exact absurd h2 h3
theorem part_end {N : Nat} {ds : List UInt8} (h : Part N 0 ds) (h2 : ds ≠ []) : Val.dgs N = ds := by
  rcases h with ⟨_, h⟩ | ⟨_, h⟩
  · exact absurd h h2
  · rw [h, if_pos rfl]; rfl
theorem part_len {N m : Nat} {ds : List UInt8} (hN : N ≤ 9223372036854775808) (h : Part N m ds) : ds.length ≤ 19 := by
  rcases h with ⟨_, rfl⟩ | ⟨_, h⟩
  · simp
  · have h1 := Val.dgs_len 19 N (by decide) (by omega)
    rw [h, List.length_append] at h1
    omega
theorem tdiv_pos (m : Nat) : ((m : Int)).tdiv 10 = ((m / 10 : Nat) : Int) := by rw [Int.tdiv_eq_ediv_of_nonneg (by omega)]; omega
theorem tmod_pos (m : Nat) : ((m : Int)).tmod 10 = ((m % 10 : Nat) : Int) := by rw [Int.tmod_eq_emod_of_nonneg (by omega)]; omega
def strEmp (v : Value) : Nat := match v with | .string s => if s.size = 0 then 1 else 0 | _ => 0
theorem emp_cons (c : UInt8) (s : ByteArray) : strEmp (.string (Val.of [c] ++ s)) = 0 := by
  show (if (Val.of [c] ++ s).size = 0 then 1 else 0) = 0
  rw [if_neg]
  rw [ByteArray.size_append, Val.of_size]
  simp

set_option maxRecDepth 100000 in
set_option maxHeartbeats 3200000 in
theorem digits_neg (N : Nat) (w : World) (h1 : 1 ≤ N) (hN : N ≤ 9223372036854775808) : Calls Tryd.prog 35 #[.int .i64 (-(N : Int))] w fun e w' => e = .returned (.string (Val.of (45 :: Val.dgs N))) ∧ Below w.heap.size w w' := by
  have HV := Lib.hid hN
  have HB0 := Lib.hid (Below.refl w.heap.size w)
  have HP0 : Hid (Part N N []) := Lib.hid (.inl ⟨rfl, rfl⟩)
  go_enter Tryd.func35, Tryd.ntmps35
  go_wp2_with fail
  go_loopw [3, 4] (fun vs vk wr => ∃ (m : Nat) (ds : List UInt8) (s : ByteArray), vs = .string s ∧ vk = .int .i64 (-(m : Int)) ∧ m ≤ 9223372036854775808 ∧ Hid (m ≤ N) ∧ Hid (s = Val.of ds) ∧ Hid (Below w.heap.size w wr) ∧ Hid (Part N m ds))
    (fun vs vk _ => (intOf vk).natAbs + strEmp vs)
  case atStart => exact ⟨N, [], _, rfl, rfl, hN, Lib.hid (Nat.le_refl _), Lib.hid rfl, HB0, HP0⟩
  case round =>
    obtain ⟨m, ds, s, rfl, rfl, hm63, hmN, hs, HB, HP⟩ := hrel
    have hmN2 := hmN.out
    have hlen : s.size ≤ 19 := by rw [hs.out, Val.of_size]; exact part_len HV.out HP.out
    have htd := Val.tdiv_ten m
    have htm := Val.tmod_ten m
    by_cases h0 : m = 0
    · have hd : ds ≠ [] := fun e => by
        rcases HP.out with ⟨h3, _⟩ | ⟨h3, _⟩
        · omega
        · exact h3 e
      have HE := Lib.hid (part_end (h0 ▸ HP.out) hd)
      subst h0
      have hne : ¬ s.size = 0 := by
        rw [hs.out, Val.of_size]
        intro e; exact hd (List.eq_nil_of_length_eq_zero e)
      obtain ⟨h1, h2⟩ := str_some hne
      have HC : Hid (Val.of [45] ++ s = Val.of (45 :: Val.dgs N)) := Lib.hid (by rw [HE.out, hs.out]; exact of_cons _ _)
      have hneg : (-(N : Int)) < 0 := by omega
      clear hd HP hs HE hne
      go_wp2_with fail
      go_ret
      exact ⟨by rw [← HC.out]; rfl, HB.out⟩
    · have HP2 := Lib.hid (part_next HP.out (.inl h0))
      have hst := str_dg m
      have hz9 : (Val.of [Val.dg (m % 10)]).size = 1 := rfl
      have HC : Hid (Val.of [Val.dg (m % 10)] ++ s = Val.of (Val.dg (m % 10) :: ds)) := Lib.hid (by rw [hs.out]; exact of_cons _ _)
      clear HP hs hmN
      have hk : ¬ (-(m : Int)) = 0 := by omega
      by_cases hz : m % 10 = 0
      · have hz2 : (m : Int) % 10 = 0 := by omega
        rw [hz] at HC HP2
        have hst := str_48
        have hz1 : (Val.of [Val.dg 0]).size = 1 := rfl
        go_wp2_with fail
        exact ⟨⟨m / 10, _, _, rfl, by congr 1, by omega, Lib.hid (by omega), HC, Lib.hid (HB.out.alloc HB.out.size _), HP2⟩, by rw [emp_cons]; simp only [intOf]; omega⟩
      · have hz2 : 0 < (m : Int) % 10 := by omega
        go_wp2_with fail
        exact ⟨⟨m / 10, _, _, rfl, by congr 1, by omega, Lib.hid (by omega), HC, Lib.hid (HB.out.alloc HB.out.size _), HP2⟩, by rw [emp_cons]; simp only [intOf]; omega⟩
set_option maxRecDepth 100000 in
set_option maxHeartbeats 3200000 in
theorem digits_pos (N : Nat) (w : World) (h1 : 1 ≤ N) (hN : N ≤ 9223372036854775807) : Calls Tryd.prog 35 #[.int .i64 ((N : Int))] w fun e w' => e = .returned (.string (Val.of (Val.dgs N))) ∧ Below w.heap.size w w' := by
  have HV := Lib.hid hN
  have HB0 := Lib.hid (Below.refl w.heap.size w)
  have HP0 : Hid (Part N N []) := Lib.hid (.inl ⟨rfl, rfl⟩)
  go_enter Tryd.func35, Tryd.ntmps35
  go_wp2_with fail
  go_loopw [3, 4] (fun vs vk wr => ∃ (m : Nat) (ds : List UInt8) (s : ByteArray), vs = .string s ∧ vk = .int .i64 (m : Int) ∧ m ≤ 9223372036854775808 ∧ Hid (m ≤ N) ∧ Hid (s = Val.of ds) ∧ Hid (Below w.heap.size w wr) ∧ Hid (Part N m ds))
    (fun vs vk _ => (intOf vk).natAbs + strEmp vs)
  case atStart => exact ⟨N, [], _, rfl, rfl, by omega, Lib.hid (Nat.le_refl _), Lib.hid rfl, HB0, HP0⟩
  case round =>
    obtain ⟨m, ds, s, rfl, rfl, hm63, hmN, hs, HB, HP⟩ := hrel
    have hmN2 := hmN.out
    have hlen : s.size ≤ 19 := by rw [hs.out, Val.of_size]; exact part_len (by have := HV.out; omega) HP.out
    have htd := tdiv_pos m
    have htm := tmod_pos m
    by_cases h0 : m = 0
    · have hd : ds ≠ [] := fun e => by
        rcases HP.out with ⟨h3, _⟩ | ⟨h3, _⟩
        · omega
        · exact h3 e
      have HE := Lib.hid (part_end (h0 ▸ HP.out) hd)
      subst h0
      have hne : ¬ s.size = 0 := by
        rw [hs.out, Val.of_size]
        intro e; exact hd (List.eq_nil_of_length_eq_zero e)
      obtain ⟨h1, h2⟩ := str_some hne
      have HC : Hid (s = Val.of (Val.dgs N)) := Lib.hid (by rw [HE.out, hs.out])
      have hneg : ¬ (N : Int) < 0 := by omega
      clear hd HP hs HE hne
      go_wp2_with fail
      go_ret
      exact ⟨by rw [← HC.out]; rfl, HB.out⟩
    · have HP2 := Lib.hid (part_next HP.out (.inl h0))
      have hst := str_dg m
      have hz9 : (Val.of [Val.dg (m % 10)]).size = 1 := rfl
      have HC : Hid (Val.of [Val.dg (m % 10)] ++ s = Val.of (Val.dg (m % 10) :: ds)) := Lib.hid (by rw [hs.out]; exact of_cons _ _)
      clear HP hs hmN
      have hk : ¬ (m : Int) = 0 := by omega
      go_wp2_with fail
      exact ⟨⟨m / 10, _, _, rfl, by congr 1, by omega, Lib.hid (by omega), HC, Lib.hid (HB.out.alloc HB.out.size _), HP2⟩, by rw [emp_cons]; simp only [intOf]; omega⟩
set_option maxHeartbeats 800000 in
theorem digits_zero (w : World) : Calls Tryd.prog 35 #[.int .i64 0] w fun e w' => e = .returned (.string (Val.of (Val.dgs 0))) ∧ Below w.heap.size w w' := by
  have HB0 := Lib.hid (Below.refl w.heap.size w)
  have HZ : Hid (Val.of [48] = Val.of (Val.dgs 0)) := Lib.hid (by rw [Val.dgs_lt (by decide)]; rfl)
  go_enter Tryd.func35, Tryd.ntmps35
  go_wp2_with fail
  go_loopw [3, 4] (fun vs vk wr => (vs = .string ⟨#[]⟩ ∨ vs = .string ⟨#[48]⟩) ∧ vk = .int .i64 0 ∧ Hid (Below w.heap.size w wr)) (fun vs _ _ => strEmp vs)
  case atStart => exact ⟨.inl rfl, rfl, HB0⟩
  case round =>
    obtain ⟨rfl | rfl, rfl, HB⟩ := hrel
    · have hst := str_48
      rw [show Val.of [Val.dg 0] = ⟨#[48]⟩ by rw [dg_zero]; rfl] at hst
      go_wp2_with fail
      exact ⟨⟨.inr (by congr 1), rfl, Lib.hid (HB.out.alloc HB.out.size _)⟩, by decide⟩
    · go_wp2_with fail
      go_ret
      exact ⟨by rw [← HZ.out]; rfl, HB.out⟩
theorem digits_is (n : Int) (w : World) (h : Val.inR n) : Calls Tryd.prog 35 #[.int .i64 n] w fun e w' => e = .returned (.string (Val.of (Val.dec n))) ∧ Below w.heap.size w w' := by
  unfold Val.inR at h
  unfold Val.dec
  by_cases hn : n < 0
  · rw [if_pos hn]
    have := digits_neg n.natAbs w (by omega) (by omega)
    rwa [show -(n.natAbs : Int) = n from by omega] at this
  · rw [if_neg hn]
    by_cases h0 : n = 0
    · subst h0; exact digits_zero w
    · have := digits_pos n.natAbs w (by omega) (by omega)
      rwa [show (n.natAbs : Int) = n from by omega] at this

end Go.Proofs.YtdhfmapcggohmaaDoor
