/-
  The laws CrcSums, CrcParts, CrcStates, CrcWords: each returns true whatever is handed in, and nothing that was there is turned.
  No condition but the form's own reach of a string (2^47 - 4096 bytes).
-/
import Derived.Test.YtldfldfmoiiciaaCrcText
import Derived.Test.YtldfldfmoiiciaaLift
namespace Go.Proofs.Ytldfldfmoiiciaa
open Go.RowKit

theorem reach_max {s : ByteArray} (h : s.size ≤ reachBytes) : s.size ≤ maxLen := Nat.le_trans h (by decide)
theorem beq_self_int (a : Int) : (a == a) = true := by simp

set_option maxHeartbeats 400000 in
theorem sums_yes (s : ByteArray) (w : World) (hs : s.size ≤ reachBytes) : Lift.Yes Try.prog 3 #[.string s] w := by
  have hm := reach_max hs
  unfold Lift.Yes
  go_enter Try.func3, Try.ntmps3
  go_wp2_with (first
    | (go_at_call 8; refine (awake_any _).mono ?_; rintro e w' ⟨rfl, rfl⟩)
    | (go_at_call 9; refine (sum_any _ _ hm).mono ?_; rintro e w' ⟨rfl, rfl⟩)
    | (go_at_call 10; refine (rsum_any _ _ hm).mono ?_; rintro e w' ⟨rfl, rfl⟩))
  go_ret
  exact ⟨rfl, Below.refl _ _⟩

set_option maxHeartbeats 400000 in
theorem states_yes (c : Int) (s : ByteArray) (w : World) (hc : (Lit.int .u32 c).wf = true) (hs : s.size ≤ reachBytes) : Lift.Yes Try.prog 5 #[.int .u32 c, .string s] w := by
  have hm := reach_max hs
  have hb := bounds_u32 hc
  obtain ⟨c, rfl⟩ := Int.eq_ofNat_of_zero_le hb.1
  have hlt : c < 4294967296 := by omega
  clear hb hc
  unfold Lift.Yes
  go_enter Try.func5, Try.ntmps5
  go_wp2_with (first
    | (go_at_call 8; refine (awake_any _).mono ?_; rintro e w' ⟨rfl, rfl⟩)
    | (go_at_call 11; refine (more_any _ _ _ hlt hm).mono ?_; rintro e w' ⟨rfl, rfl⟩)
    | (go_at_call 12; refine (rmore_any _ _ _ hlt hm).mono ?_; rintro e w' ⟨rfl, rfl⟩))
  go_ret
  exact ⟨rfl, Below.refl _ _⟩

theorem reach_num : reachBytes = 140737488351232 := by decide
theorem data_append (a b : ByteArray) : (a ++ b).data.toList = a.data.toList ++ b.data.toList := by simp

set_option maxHeartbeats 400000 in
theorem parts_yes (a b : ByteArray) (w : World) (ha : a.size ≤ reachBytes) (hb : b.size ≤ reachBytes) : Lift.Yes Try.prog 4 #[.string a, .string b] w := by
  have hm := reach_max ha
  have hm2 := reach_max hb
  rw [reach_num] at ha hb
  have hab : ¬ 9223372036854775807 < a.size + b.size := by omega
  have hm3 : (a ++ b).size ≤ maxLen := by rw [ByteArray.size_append]; unfold maxLen; omega
  have he := Lib.hid ((Crc.more_append a.data.toList b.data.toList 0).trans (congrArg (Crc.more 0) (data_append a b).symm))
  unfold Lift.Yes
  go_enter Try.func4, Try.ntmps4
  go_wp2_with fail
  refine (awake_any _).mono ?_; rintro e w' ⟨rfl, rfl⟩
  go_wp2_with fail
  refine (sum_any _ _ hm).mono ?_; rintro e w' ⟨rfl, rfl⟩
  go_wp2_with fail
  refine (more_any _ _ _ (Crc.more_lt _ _) hm2).mono ?_; rintro e w' ⟨rfl, rfl⟩
  go_wp2_with fail
  refine (sum_any _ _ hm3).mono ?_; rintro e w' ⟨rfl, rfl⟩
  rw [he.out]
  go_wp2_with fail
  refine (more_any 0 _ _ (by decide) hm).mono ?_; rintro e w' ⟨rfl, rfl⟩
  go_wp2_with fail
  refine (sum_any _ _ hm).mono ?_; rintro e w' ⟨rfl, rfl⟩
  go_wp2_with fail
  go_ret
  exact ⟨rfl, Below.refl _ _⟩

theorem num4_four (c : Nat) (h : c < 4294967296) : num4 (byte (c % 256)) (byte (c / 256 % 256)) (byte (c / 65536 % 256)) (byte (c / 16777216)) = c := by
  have hb : ∀ n : Nat, n < 256 → (byte (n : Int)).toNat = n := fun n hn => by
    unfold byte
    rw [Int.toNat_natCast]
    simp [UInt8.toNat_ofNat']
    omega
  have h1 := hb (c % 256) (by omega)
  have h2 := hb (c / 256 % 256) (by omega)
  have h3 := hb (c / 65536 % 256) (by omega)
  have h4 := hb (c / 16777216) (by omega)
  unfold num4
  simp only [Int.natCast_emod, Int.natCast_ediv] at h1 h2 h3 h4
  rw [show ((256 : Nat) : Int) = 256 from rfl] at h1 h2 h3
  rw [show ((65536 : Nat) : Int) = 65536 from rfl] at h3
  rw [show ((16777216 : Nat) : Int) = 16777216 from rfl] at h4
  rw [h1, h2, h3, h4]
  omega

theorem read_back (c : Nat) (w : World) (h : c < 4294967296) :
    Calls Try.prog 13 #[.string (four c)] w fun e w' => e = .returned (.tuple #[.int .u32 (c : Nat), .bool true]) ∧ w = w' := by
  have h1 := read_four (byte (c % 256)) (byte (c / 256 % 256)) (byte (c / 65536 % 256)) (byte (c / 16777216)) w
  rw [num4_four c h] at h1
  exact h1

/-- What bytes are read as. -/
def readOf (s : ByteArray) : Nat × Bool := match s.data.toList with
  | [a, b, c, d] => (num4 a b c d, true)
  | _ => (0, false)
theorem readOf_not (s : ByteArray) (h : s.size ≠ 4) : readOf s = (0, false) := by
  have hl : s.data.toList.length ≠ 4 := by rwa [Array.length_toList]
  unfold readOf
  match h2 : s.data.toList, hl with
  | [], _ => rfl
  | [_], _ => rfl
  | [_, _], _ => rfl
  | [_, _, _], _ => rfl
  | [_, _, _, _], hl => exact absurd rfl hl
  | _ :: _ :: _ :: _ :: _ :: _, _ => rfl
theorem read_any (s : ByteArray) (w : World) :
    Calls Try.prog 13 #[.string s] w fun e w' => e = .returned (.tuple #[.int .u32 ((readOf s).1 : Nat), .bool (readOf s).2]) ∧ w = w' := by
  by_cases h : s.size = 4
  · obtain ⟨a, b, c, d, rfl⟩ := four_of s h
    exact read_four a b c d w
  · rw [readOf_not s h]
    exact read_not s w h
theorem rread_any (s : ByteArray) (w : World) :
    Calls Try.prog 15 #[.string s] w fun e w' => e = .returned (.tuple #[.int .u32 ((readOf s).1 : Nat), .bool (readOf s).2]) ∧ ∃ n, w' = w.drewN n := by
  by_cases h : s.size = 4
  · obtain ⟨a, b, c, d, rfl⟩ := four_of s h
    exact rread_four a b c d w
  · rw [readOf_not s h]
    exact (rread_not s w h).mono fun e w' ⟨he, hw⟩ => ⟨he, 0, hw.symm⟩

set_option maxHeartbeats 400000 in
theorem words_yes (c : Int) (s : ByteArray) (w : World) (hc : (Lit.int .u32 c).wf = true) (_hs : s.size ≤ reachBytes) : Lift.Yes Try.prog 7 #[.int .u32 c, .string s] w := by
  have hb := bounds_u32 hc
  obtain ⟨c, rfl⟩ := Int.eq_ofNat_of_zero_le hb.1
  have hlt : c < 4294967296 := by omega
  clear hb hc
  have H1 := Lib.hid (read_any s)
  have H2 := Lib.hid (rread_any s)
  generalize readOf s = r at H1 H2
  obtain ⟨r1, r2⟩ := r
  unfold Lift.Yes
  go_enter Try.func7, Try.ntmps7
  go_wp2_with fail
  refine (text_any _ _ hlt).mono ?_; rintro e w1 ⟨rfl, b1⟩
  go_wp2_with fail
  refine (read_back _ _ hlt).mono ?_; rintro e w' ⟨rfl, rfl⟩
  go_wp2_with fail
  refine (H1.out _).mono ?_; rintro e w' ⟨rfl, rfl⟩
  go_wp2_with fail
  refine (H2.out _).mono ?_; rintro e w' ⟨rfl, n, rfl⟩
  go_wp2_with fail
  refine (awake_any _).mono ?_; rintro e w' ⟨rfl, rfl⟩
  go_wp2_with fail
  refine (text_any _ _ hlt).mono ?_; rintro e w2 ⟨rfl, b2⟩
  go_wp2_with fail
  refine (rtext_any _ _ hlt).mono ?_; rintro e w3 ⟨rfl, b3⟩
  go_wp2_with fail
  go_ret
  refine ⟨rfl, ?_⟩
  exact Lift.then3 (Lift.drewN_then b1 n) b2 b3

end Go.Proofs.Ytldfldfmoiiciaa
