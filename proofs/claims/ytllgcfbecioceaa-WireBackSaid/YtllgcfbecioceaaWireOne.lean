/-
  What phalanxref03.bytes and one return: a number's least bytes, an item's bytes.
  No condition but that a number fits its kind and a text is no longer than a frame's body.
-/
import Derived.Test.YtllgcfbecioceaaWireBits
import Derived.Deep.Cut
import Derived.Deep.CutRange
namespace Go.Proofs.Ytllgcfbecioceaa
open Go.RowKit

/-- A number's low byte. -/
def byte (n : Int) : UInt8 := UInt8.ofNat n.toNat
theorem add_at (b o j : Nat) : (⟨b, o, none⟩ : Addr).add j = ⟨b, o + j, none⟩ := by
  unfold Addr.add
  split
  · rename_i h; subst h; rfl
  · rfl
theorem str1 (a : Int) (w : World) : (convert 38 9 (.slice (some ⟨w.heap.size, 0, none⟩) 1 1)).run Try.prog (w.alloc (.cells #[.int .u8 a] 5))
    = .ok (.string ⟨#[byte a]⟩) (w.alloc (.cells #[.int .u8 a] 5)) := by
  have h := run_convert_bytes_arg (P := Try.prog) (w.alloc (.cells #[.int .u8 a] 5)) 38 5 Try.underlying38 Try.underlying5 w.heap.size 0 1 1 [a] rfl
    (fun i hi => by
      rw [World.cell?_alloc_mark]
      match i, hi with
      | 0, _ => rfl) 9 Try.underlying9
  exact h
theorem byte_low (u : Nat) : byte ((u : Int) % 256) = UInt8.ofNat u := by
  unfold byte
  rw [show ((u : Int) % 256).toNat = u % 256 from by omega, Wire.ofNat_mod]

/-- A new block's cell, in a later world. -/
theorem cell_box {w w1 : World} {cs : Array Value} {t : TypeId} (hb : Below (w.alloc (.cells cs t)).heap.size (w.alloc (.cells cs t)) w1) {i : Nat} {v : Value} (h : cs[i]? = some v) : w1.cell? ⟨w.heap.size, i, none⟩ = some v := by
  rw [hb.cell (p := ⟨w.heap.size, i, none⟩) (by simp), World.cell?_alloc_new]
  exact h

/-- A row of bytes as a text. -/
def txt (l : List UInt8) : ByteArray := ⟨l.toArray⟩
theorem txt_size (l : List UInt8) : (txt l).size = l.length := rfl
theorem txt_append (a b : List UInt8) : txt a ++ txt b = txt (a ++ b) := by
  apply ByteArray.ext
  simp [txt]
theorem txt_list (l : List UInt8) : (txt l).data.toList = l := rfl

set_option maxHeartbeats 400000 in
theorem rbytes_any (u : Nat) (w : World) (h : u < 18446744073709551616) :
    Calls Try.prog 25 #[.int .u64 u] w fun e w' => e = .returned (.string (txt (Wire.B u (Wire.nb u)))) ∧ Below w.heap.size w w' := by
  have hst := str1
  go_enter Try.func25, Try.ntmps25
  go_wp2_with fail
  go_loopw [3, 0] (fun vs vu wr => ∃ (j : Nat) (s : ByteArray), j ≤ Wire.nb u ∧ vs = .string s ∧ vu = .int .u64 (u / 256 ^ j : Nat) ∧ s.size ≤ 8 ∧ Hid (s = txt (Wire.B u j)) ∧ Below w.heap.size w wr) (fun _ vu _ => (intOf vu).toNat)
  case atStart => exact ⟨0, ⟨#[]⟩, by omega, rfl, by simp, by decide, Lib.hid rfl, by go_grown⟩
  case round =>
    obtain ⟨j, s, hj, rfl, rfl, hs, HS, hbel⟩ := hrel
    have HN : Hid (u / 256 ^ j / 256 = u / 256 ^ (j + 1)) := Lib.hid (by rw [Nat.pow_succ, Nat.div_div_eq_div_mul])
    have hy : u / 256 ^ j < 18446744073709551616 := Nat.lt_of_le_of_lt (Nat.div_le_self _ _) h
    by_cases hlt : 0 < u / 256 ^ j
    · have HC : Hid ((⟨#[byte ((u / 256 ^ j : Nat) % 256 : Int)]⟩ : ByteArray) ++ s = txt (Wire.B u (j + 1))) := by
        rw [HS.out, byte_low]
        exact Lib.hid (txt_append [_] _)
      have HJ : Hid (j + 1 ≤ Wire.nb u) := Lib.hid (by
        refine Nat.lt_of_le_of_ne hj fun e => ?_
        have := Wire.lt_nb u
        rw [← e] at this
        rw [Nat.div_eq_of_lt this] at hlt
        omega)
      have h8 : j + 1 ≤ 8 := Nat.le_trans HJ.out (Wire.nb8 h)
      clear hj HS
      generalize u / 256 ^ j = y at *
      go_wp2_with fail
      refine ⟨⟨j + 1, _, HJ.out, rfl, by rw [← HN.out]; go_num, ?_, HC, hbel.alloc hbel.size _⟩, by simp [intOf]; omega⟩
      rw [HC.out, txt_size, Wire.B_length]
      exact h8
    · have HJ : Hid (j = Wire.nb u) := Lib.hid (by
        have h1 : u < 256 ^ j := by
          rcases Nat.lt_or_ge u (256 ^ j) with h1 | h1
          · exact h1
          · exact absurd (Nat.div_pos h1 (Nat.pow_pos (by decide))) hlt
        have := Wire.nb_le h1
        omega)
      have hz : u / 256 ^ j = 0 := Nat.eq_zero_of_not_pos hlt
      generalize u / 256 ^ j = y at *
      subst hz
      go_wp2_with fail
      go_ret
      exact ⟨congrArg (fun s => Ending.returned (.string s)) (by rw [HS.out, HJ.out]), hbel⟩

set_option maxHeartbeats 400000 in
theorem rone_int (n : Int) (s : ByteArray) (w : World) (h1 : -9223372036854775808 ≤ n) (h2 : n ≤ 9223372036854775807) :
    Calls Try.prog 19 #[.agg #[.int .i64 0, .int .i64 n, .string s]] w fun e w' => e = .returned (.string (txt (Wire.one ⟨0, n, s⟩))) ∧ Below w.heap.size w w' := by
  have hst := str1
  have HF := Lib.hid (fun w => rfold_any n w h1 h2)
  have hlt := Wire.fold_lt h1 h2
  have HB := Lib.hid (fun w => rbytes_any (Wire.fold n) w hlt)
  have hn := Wire.nb8 hlt
  have HO : Hid (∀ t : ByteArray, t = txt (Wire.B (Wire.fold n) (Wire.nb (Wire.fold n))) → (⟨#[byte ((t.size : Int))]⟩ : ByteArray) ++ t = txt (Wire.one ⟨0, n, s⟩)) := Lib.hid (by
    rintro t rfl
    rw [txt_size, Wire.B_length]
    refine (txt_append [_] _).trans (congrArg txt ?_)
    unfold Wire.one Wire.lead
    rw [if_pos rfl, Nat.zero_add]
    rfl)
  have HT : Hid ((txt (Wire.B (Wire.fold n) (Wire.nb (Wire.fold n)))).size = Wire.nb (Wire.fold n)) := Lib.hid (by rw [txt_size, Wire.B_length])
  generalize Wire.fold n = u at *
  generalize hT : txt (Wire.B u (Wire.nb u)) = t at *
  have HO' := Lib.hid (HO.out t rfl)
  have hts : t.size ≤ 8 := by rw [HT.out]; exact hn
  clear HO hT HT hn
  go_enter Try.func19, Try.ntmps19
  go_wp2_with fail
  refine (HF.out _).mono ?_; rintro e w' ⟨rfl, rfl⟩
  go_wp2_with fail
  refine (HB.out _).mono ?_; rintro e w1 ⟨rfl, b1⟩
  go_wp2_with fail
  go_ret
  refine ⟨congrArg (fun s => Ending.returned (.string s)) HO'.out, ?_⟩
  exact (((Below.refl _ w).alloc (Nat.le_refl _) _).trans (b1.mono (by simp))).alloc (by have := b1.size; simp at this; omega) _

set_option maxHeartbeats 400000 in
theorem rone_text (k n : Int) (s : ByteArray) (w : World) (hk : (k == 0) = false) (hs : s.size ≤ 16384) :
    Calls Try.prog 19 #[.agg #[.int .i64 k, .int .i64 n, .string s]] w fun e w' => e = .returned (.string (txt (Wire.one ⟨k, n, s⟩))) ∧ Below w.heap.size w w' := by
  have hst := str1
  have HB := Lib.hid (fun w => rbytes_any s.size w (by omega))
  have hn := Wire.nb2 (u := s.size) (by omega)
  have HO : Hid (∀ t : ByteArray, t = txt (Wire.B s.size (Wire.nb s.size)) → (⟨#[byte (16 + (t.size : Int))]⟩ : ByteArray) ++ t ++ s = txt (Wire.one ⟨k, n, s⟩)) := Lib.hid (by
    rintro t rfl
    have hk' : ¬ k = 0 := by simpa using hk
    unfold Wire.one Wire.lead
    rw [txt_size, Wire.B_length, if_neg hk']
    refine (congrArg (· ++ s) (txt_append [_] _)).trans ?_
    show txt _ ++ txt s.data.toList = _
    rw [txt_append]
    refine congrArg txt ?_
    congr 2)
  have HT : Hid ((txt (Wire.B s.size (Wire.nb s.size))).size = Wire.nb s.size) := Lib.hid (by rw [txt_size, Wire.B_length])
  generalize hT : txt (Wire.B s.size (Wire.nb s.size)) = t at *
  have HO' := Lib.hid (HO.out t rfl)
  have hts : t.size ≤ 2 := by rw [HT.out]; exact hn
  clear HO hT HT hn
  go_enter Try.func19, Try.ntmps19
  go_wp2_with fail
  refine (HB.out _).mono ?_; rintro e w1 ⟨rfl, b1⟩
  have hc := cell_box b1 (i := 2) rfl
  have hz : w.heap.size < w1.heap.size := by have := b1.size; simp at this; omega
  go_wp2_with fail
  go_ret
  refine ⟨congrArg (fun s => Ending.returned (.string s)) HO'.out, ?_⟩
  exact (((Below.refl _ w).alloc (Nat.le_refl _) _).trans (b1.mono (by simp))).alloc (by have := b1.size; simp at this; omega) _

end Go.Proofs.Ytllgcfbecioceaa
