/-
  What the small functions of wire and phalanxref03 return: whether an item may be, a number folded and unfolded, how many least bytes, a text's copy.
  No condition but that a number fits its kind and a text a block.
-/
import Derived.Test.YtllgcfbecioceaaRows
import Derived.Test.YtllgcfbecioceaaWireMath
import Derived.WalkKit
import Derived.WalkSpells
import Derived.WalkLawsBesides
import Derived.Handy
import Derived.OwnWalk
import Derived.Deep.QuietTactic
import Derived.BigQuiet
import Derived.Deep.Draws
import Derived.Lib.Hide
import Derived.Test.YtllgcfbecioceaaWireLen
import Derived.Lib.ItoaNum
import Derived.Lib.BufferWrite
import Derived.Lib.UnsafeStr
import Derived.Laws.MakeOwn
import Derived.Outline
namespace Go.Proofs.Ytllgcfbecioceaa
open Go.RowKit

theorem ret_int {k : IntKind} {a b : Int} (h : a = b) : Ending.returned (.int k a) = .returned (.int k b) := by rw [h]
theorem ret_bool {a b : Bool} (h : a = b) : Ending.returned (.bool a) = .returned (.bool b) := by rw [h]
theorem max_u64 : IntKind.u64.max = 18446744073709551615 := by decide
theorem turn_all (b : Nat) (h : b < 18446744073709551616) : bits .xor .u64 18446744073709551615 (b : Int) = ((18446744073709551615 - b : Nat) : Int) := by
  have h1 := u64_xor_nat 18446744073709551615 b (by decide) h
  have h3 := congrArg BitVec.toNat (BitVec.allOnes_xor (x := BitVec.ofNat 64 b))
  rw [BitVec.toNat_xor, BitVec.toNat_not, BitVec.toNat_ofNat, Nat.mod_eq_of_lt (by omega), BitVec.toNat_allOnes] at h3
  have h4 : 18446744073709551615 ^^^ b = 18446744073709551615 - b := h3
  rw [h4] at h1
  exact h1
theorem turn_int (b : Nat) (h : b < 9223372036854775808) : bits .xor .i64 (-1) (b : Int) = -(b : Int) - 1 := by
  have h3 := congrArg BitVec.toNat (BitVec.allOnes_xor (x := BitVec.ofNat 64 b))
  rw [BitVec.toNat_xor, BitVec.toNat_not, BitVec.toNat_ofNat, Nat.mod_eq_of_lt (by omega), BitVec.toNat_allOnes] at h3
  show IntKind.i64.wrap ((BitVec.ofInt 64 (-1) ^^^ BitVec.ofInt 64 (b : Int)).toNat : Int) = _
  have e1 : BitVec.ofInt 64 (-1) = BitVec.allOnes 64 := by decide
  rw [e1, BitVec.ofInt_natCast, BitVec.toNat_xor, BitVec.toNat_ofNat, Nat.mod_eq_of_lt (by omega), BitVec.toNat_allOnes, h3, IntKind.wrap_i64]
  omega
theorem and_one (u : Nat) (h : u < 18446744073709551616) : bits .and .u64 (u : Int) 1 = ((u % 2 : Nat) : Int) := by
  have := u64_and_nat u 1 h (by decide)
  simpa [Nat.and_one_is_mod] using this

set_option maxHeartbeats 400000 in
theorem right_any (k n : Int) (s : ByteArray) (w : World) :
    Calls Try.prog 16 #[.agg #[.int .i64 k, .int .i64 n, .string s]] w fun e w' => e = .returned (.bool (Wire.fits ⟨k, n, s⟩)) ∧ Below w.heap.size w w' := by
  go_enter Try.func16, Try.ntmps16
  go_wp2_with fail
  · go_ret
    have h : (k == 0) = true := by assumption
    obtain rfl := of_decide_eq_true h
    exact ⟨ret_bool (by simp [Wire.fits, ByteArray.toList_eq]), by go_grown⟩
  · go_ret
    have h : (k == 1) = true := by assumption
    obtain rfl := of_decide_eq_true h
    exact ⟨ret_bool (by simp [Wire.fits]), by go_grown⟩
  · go_ret
    have h0 : (k == 0) = false := by assumption
    have h1 : (k == 1) = false := by assumption
    exact ⟨ret_bool (by simp [Wire.fits, h0, h1]), by go_grown⟩

set_option maxHeartbeats 400000 in
theorem rfits_any (k n : Int) (s : ByteArray) (w : World) :
    Calls Try.prog 18 #[.agg #[.int .i64 k, .int .i64 n, .string s]] w fun e w' => e = .returned (.bool (Wire.fits ⟨k, n, s⟩)) ∧ Below w.heap.size w w' := by
  go_enter Try.func18, Try.ntmps18
  go_wp2_with fail
  · go_ret
    have h : s.toList = [] := by assumption
    obtain rfl : k = 0 := by assumption
    exact ⟨ret_bool (by simp [Wire.fits, ← ByteArray.toList_eq, h]), by go_grown⟩
  · go_ret
    have h : ¬ s.toList = [] := by assumption
    obtain rfl : k = 0 := by assumption
    exact ⟨ret_bool (by simp [Wire.fits, ← ByteArray.toList_eq]), by go_grown⟩
  · go_ret
    obtain rfl : k = 1 := by assumption
    exact ⟨ret_bool (by simp [Wire.fits]), by go_grown⟩
  · go_ret
    have h0 : ¬ k = 0 := by assumption
    have h1 : ¬ k = 1 := by assumption
    exact ⟨ret_bool (by simp [Wire.fits, h0, h1]), by go_grown⟩

set_option maxHeartbeats 400000 in
theorem fold_any (n : Int) (w : World) (h1 : -9223372036854775808 ≤ n) (h2 : n ≤ 9223372036854775807) :
    Calls Try.prog 24 #[.int .i64 n] w fun e w' => e = .returned (.int .u64 (Wire.fold n)) ∧ w = w' := by
  go_enter Try.func24, Try.ntmps24
  go_wp2_with fail
  · go_ret
    have h : n < 0 := by assumption
    have hx : IntKind.u64.wrap (IntKind.u64.wrap n * 2) = ((2 * n + 18446744073709551616).toNat : Int) := by
      rw [IntKind.wrap_u64, IntKind.wrap_u64]; omega
    refine ⟨ret_int ?_, rfl⟩
    rw [hx, max_u64, turn_all _ (by omega)]
    unfold Wire.fold
    rw [if_pos h]; omega
  · go_ret
    have h : 0 ≤ n := by assumption
    refine ⟨ret_int ?_, rfl⟩
    unfold Wire.fold
    rw [if_neg (by omega)]; omega

set_option maxHeartbeats 400000 in
theorem rfold_any (n : Int) (w : World) (h1 : -9223372036854775808 ≤ n) (h2 : n ≤ 9223372036854775807) :
    Calls Try.prog 26 #[.int .i64 n] w fun e w' => e = .returned (.int .u64 (Wire.fold n)) ∧ w = w' := by
  go_enter Try.func26, Try.ntmps26
  go_wp2_with fail
  go_ret
  refine ⟨ret_int ?_, rfl⟩
  by_cases h : n < 0
  · have hx : IntKind.u64.wrap (IntKind.u64.wrap n * 2) = ((2 * n + 18446744073709551616).toNat : Int) := by
      rw [IntKind.wrap_u64, IntKind.wrap_u64]; omega
    have hy : IntKind.u64.wrap (n / 9223372036854775808) = ((18446744073709551615 : Nat) : Int) := by rw [IntKind.wrap_u64]; omega
    rw [hx, hy, u64_xor_nat _ _ (by omega) (by decide), Nat.xor_comm]
    have h3 := turn_all ((2 * n + 18446744073709551616).toNat) (by omega)
    have h4 := u64_xor_nat 18446744073709551615 ((2 * n + 18446744073709551616).toNat) (by decide) (by omega)
    rw [← h4]
    have h5 : ((18446744073709551615 : Nat) : Int) = 18446744073709551615 := rfl
    rw [h5, h3]
    unfold Wire.fold
    rw [if_pos h]; omega
  · have hx : IntKind.u64.wrap (IntKind.u64.wrap n * 2) = ((2 * n).toNat : Int) := by
      rw [IntKind.wrap_u64, IntKind.wrap_u64]; omega
    have hy : IntKind.u64.wrap (n / 9223372036854775808) = ((0 : Nat) : Int) := by rw [IntKind.wrap_u64]; omega
    rw [hx, hy, u64_xor_nat _ _ (by omega) (by decide), Nat.xor_zero]
    unfold Wire.fold
    rw [if_neg h]

set_option maxHeartbeats 400000 in
theorem unfold_any (u : Nat) (w : World) (h : u < 18446744073709551616) :
    Calls Try.prog 28 #[.int .u64 u] w fun e w' => e = .returned (.int .i64 (Wire.unfold u)) ∧ w = w' := by
  have ha := Lib.hid (and_one u h)
  have ht := Lib.hid (turn_int (u / 2) (by omega))
  go_enter Try.func28, Try.ntmps28
  go_wp2_with fail
  · go_ret
    have h1 : (bits BinOp.and IntKind.u64 (u : Int) 1 == 1) = true := by assumption
    rw [ha.out, beq_iff_eq] at h1
    refine ⟨ret_int ?_, rfl⟩
    have h2 := ht.out
    rw [Int.natCast_ediv] at h2
    unfold Wire.unfold
    rw [if_pos (by omega)]
    exact h2
  · go_ret
    have h1 : (bits BinOp.and IntKind.u64 (u : Int) 1 == 1) = false := by assumption
    rw [ha.out, beq_eq_false_iff_ne] at h1
    refine ⟨ret_int ?_, rfl⟩
    unfold Wire.unfold
    rw [if_neg (by omega)]
    omega

theorem nb_bitLen (u : Nat) (h : u < 18446744073709551616) : (Lib.bitLen u + 7) / 8 = Wire.nb u := by
  by_cases h0 : u = 0
  · subst h0; rw [Wire.nb_zero]; decide
  · rw [Wire.nb_pos (by omega)]
    by_cases h1 : 256 ≤ u
    · have ih := nb_bitLen (u / 256) (by omega)
      rw [Lib.bitLen_shift8 u h1 h]
      omega
    · have h2 : Wire.nb (u / 256) = 0 := by rw [Nat.div_eq_of_lt (by omega), Wire.nb_zero]
      have h3 : Lib.bitLen u ≤ 8 := Lib.bitLen_le u 8 (by decide) (by omega)
      have h4 : 1 ≤ Lib.bitLen u := (Lib.bitLenAux_bounds 64 u (by omega) h0).1
      omega
termination_by u

set_option maxHeartbeats 400000 in
theorem len_any (u : Nat) (w : World) (h : u < 18446744073709551616) :
    Calls Try.prog 31 #[.int .u64 u] w fun e w' => ∃ b : Nat, b ≤ 64 ∧ (b + 7) / 8 = Wire.nb u ∧ e = .returned (.int .i64 (b : Nat)) ∧ w = w' :=
  (bitlen_any u w (by omega) (by omega)).mono fun e w' ⟨he, hw⟩ => ⟨Lib.bitLen u, Lib.bitLen_le u 64 (by decide) (by omega), nb_bitLen u h, by rw [he]; rfl, hw.symm⟩

theorem info_u8 : (Try.prog.info? 5).map (fun i => (i.zero, i.size, i.bytes)) = some (some (Value.int .u8 0), 1, 1) := by kernel_rfl

set_option maxHeartbeats 4000000 in
set_option maxRecDepth 100000 in
theorem iclone_any (s : ByteArray) (w : World) (hlim : s.size ≤ 281474976710656) :
    Calls Try.prog 32 #[.string s] w fun e w' => e = .returned (.string s) ∧ Below w.heap.size w w' := by
  by_cases h0 : s.size = 0
  · have hs : s = ⟨#[]⟩ := by
      apply ByteArray.ext
      exact Array.eq_empty_of_size_eq_zero h0
    subst hs
    go_enter Try.func32, Try.ntmps32
    go_wp2
    go_ret
    exact ⟨rfl, Below.refl _ _⟩
  obtain ⟨i0, hi, hz0, hz1, hz2⟩ := info_parts info_u8
  have hco : Try.prog.cellsOf 5 = 1 := by simp [Program.cellsOf, hi, hz1]
  have hinfo : (Try.prog.info? 5).map (·.size) = some 1 := by rw [hi]; simp [hz1]
  obtain ⟨M, hM⟩ : ∃ M, M = madeCells (Value.int .u8 0).cells (((s.size : Nat) : Int).toNat * i0.size) := ⟨_, rfl⟩
  have hMs : M.size = s.size := by rw [hM, size_madeCells, hz1]; simp
  have hmk : ∀ W : World, (Instr.makeSlice 38 (.int .i64 (s.size : Int)) (.int .i64 (s.size : Int))).run Try.prog W = .ok (.slice (some ⟨W.heap.size, 0, none⟩) s.size s.size) (W.alloc (.cells M 5)) := fun W => by
    have h := run_make (P := Try.prog) W 38 5 i0 (.int .u8 0) Try.underlying38 hi hz0 .i64 .i64 (s.size : Int) (s.size : Int) (by omega) (by omega) (by rw [hz2]; omega) (by omega)
    rw [← hM] at h
    simpa using h
  clear hM
  have hcp := Lib.run_copy_row_string (P := Try.prog) (w.alloc (.cells M 5)) 38 9 3 5 w.heap.size 0 s.size s.size s M 5 Try.underlying38 hinfo (heap_alloc_new w _) (Nat.le_refl _) (by omega)
  obtain ⟨Y, hY⟩ : ∃ Y, Y = (M.toList.take 0 ++ Lib.byteCells s.data.toList ++ M.toList.drop (0 + s.size)).toArray := ⟨_, rfl⟩
  rw [← hY] at hcp
  have hYl : Y.toList = Lib.byteCells s.data.toList := by
    rw [hY, List.toList_toArray, List.take_zero, List.nil_append, List.drop_of_length_le (by rw [Array.length_toList]; omega), List.append_nil]
  have hYs : Y.size = s.size := by rw [← Array.length_toList, hYl, Lib.byteCells_length, ← Lib.size_eq]
  have hgY : ((w.alloc (.cells M 5)).setRow w.heap.size Y).heap[w.heap.size]? = some (.cells Y 5 (0, 0)) := setRow_heap _ _ M _ 5 (0, 0) (heap_alloc_new w _)
  have hne : s.data.toList ≠ [] := fun e => h0 (by rw [Lib.size_eq, e]; rfl)
  have hUS := Lib.run_unsafeString_row (P := Try.prog) ((w.alloc (.cells M 5)).setRow w.heap.size Y) 54 3 9 5 Try.underlying54 hco w.heap.size Y.size (by unfold World.shape?; rw [hgY]) s.data.toList hne (by rw [← Lib.size_eq]; omega) (by rw [← Lib.size_eq]; omega)
    (fun j x hx => Lib.cells_of_row hgY Y.size j _ (by rw [List.take_of_length_le (by rw [Array.length_toList]; exact Nat.le_refl _), hYl]; simp [Lib.byteCells, hx]))
  rw [← Lib.size_eq] at hUS
  clear hY
  go_enter Try.func32, Try.ntmps32
  go_wp2
  go_ret
  have hb1 : Below w.heap.size w (w.alloc (.cells M 5)) := (Below.refl _ w).alloc (Nat.le_refl _) _
  have hb2 : Below w.heap.size (w.alloc (.cells M 5)) ((w.alloc (.cells M 5)).setRow w.heap.size Y) := ⟨rfl, rfl, rfl, by simp, fun k hk => setRow_other _ _ _ _ (by omega)⟩
  exact ⟨rfl, Lib.below_freeze (hb1.trans hb2) (p := ⟨w.heap.size, 0, none⟩) (Nat.le_refl _) _⟩

set_option maxHeartbeats 400000 in
theorem clone_any (s : ByteArray) (w : World) (hlim : s.size ≤ 281474976710656) :
    Calls Try.prog 30 #[.string s] w fun e w' => e = .returned (.string s) ∧ Below w.heap.size w w' := by
  go_enter Try.func30, Try.ntmps30
  go_wp2_with fail
  refine (iclone_any s _ hlim).mono ?_; rintro e w' ⟨rfl, hb⟩
  go_wp2_with fail
  go_ret
  exact ⟨rfl, hb⟩

end Go.Proofs.Ytllgcfbecioceaa
