/-
  What num.Text and the document's own return: the sixteen digits of the one float's bits.
  The library's table of places is as its text lays it.
-/
import Derived.Test.YtdhfmapcggohmaaDoorHexFormat
import Derived.Test.YtdhfmapcggohmaaDoorHexRepeat
namespace Go.Proofs.YtdhfmapcggohmaaDoor
open Go.RowKit

theorem TabOk.below {w w' : World} (h : TabOk w) (hb : Below w.heap.size w w') : TabOk w' :=
  ⟨by rw [hb.cell (p := ⟨_, 15, none⟩) h.2]; exact h.1, Nat.lt_of_lt_of_le h.2 hb.size⟩

def IsHex (b : Nat) (w : World) (e : Ending) (w' : World) : Prop := ∃ n, 1 ≤ n ∧ n ≤ 16 ∧ b < 16 ^ n ∧ e = .returned (.string ⟨(Hex.L b n).toArray⟩) ∧ Below w.heap.size w w'

set_option maxHeartbeats 400000 in
theorem iformat_any (b : Nat) (w : World) (hb : b < 18446744073709551616) (ht : TabOk w) :
    Calls Tryd.prog 56 #[.int .u64 b, .int .i64 16] w (IsHex b w) := by
  have H := Lib.hid (format16 b w hb ht)
  clear ht
  go_enter Tryd.func56, Tryd.ntmps56
  go_wp2_with fail
  refine (H.out).mono ?_; rintro e w' ⟨n, hn0, hn, hlt, rfl, hbel⟩
  have hfin : IsHex b w (.returned (.string ⟨(Hex.L b n).toArray⟩)) w' := ⟨n, hn0, hn, hlt, rfl, hbel⟩
  have HF := Lib.hid hfin
  clear hfin hlt
  go_wp2_with fail
  go_ret
  exact HF.out

set_option maxHeartbeats 400000 in
theorem format_any (b : Nat) (w : World) (hb : b < 18446744073709551616) (ht : TabOk w) :
    Calls Tryd.prog 47 #[.int .u64 b, .int .i64 16] w (IsHex b w) := by
  have H := Lib.hid (iformat_any b w hb ht)
  clear ht
  go_enter Tryd.func47, Tryd.ntmps47
  go_wp2_with fail
  refine (H.out).mono ?_; rintro e w' ⟨n, hn0, hn, hlt, rfl, hbel⟩
  have hfin : IsHex b w (.returned (.string ⟨(Hex.L b n).toArray⟩)) w' := ⟨n, hn0, hn, hlt, rfl, hbel⟩
  have HF := Lib.hid hfin
  clear hfin hlt
  go_wp2_with fail
  go_ret
  exact HF.out

/-- The sixteen digits. -/
def hexText (b : Nat) : ByteArray := ⟨(Hex.L b 16).toArray⟩

theorem join_text {b n : Nat} (hn : n ≤ 16) (hlt : b < 16 ^ n) : (⟨(List.replicate (16 - n) 48).toArray⟩ : ByteArray) ++ ⟨(Hex.L b n).toArray⟩ = hexText b := by
  have h := Hex.L_pad hlt (16 - n)
  rw [show n + (16 - n) = 16 from by omega] at h
  unfold hexText
  rw [h]
  apply ByteArray.ext
  simp

set_option maxHeartbeats 400000 in
theorem text_any (b : Nat) (w : World) (hb : b < 18446744073709551616) (ht : TabOk w) :
    Calls Tryd.prog 32 #[.int .u64 b] w fun e w' => e = .returned (.string (hexText (Num.M b))) ∧ Below w.heap.size w w' := by
  have H1 := Lib.hid (fun w => make_any b w hb)
  have H2 := Lib.hid (format_any (Num.M b) w (Num.M_lt hb) ht)
  clear ht
  generalize Num.M b = x at *
  go_enter Tryd.func32, Tryd.ntmps32
  go_wp2_with fail
  refine (H1.out _).mono ?_; rintro e w' ⟨rfl, rfl⟩
  go_wp2_with fail
  refine (H2.out).mono ?_; rintro e w' ⟨n, hn0, hn, hlt, rfl, hbel⟩
  have hj := join_text hn hlt
  have hlen : (⟨(Hex.L x n).toArray⟩ : ByteArray).size = n := Hex.L_length x n
  have hrl : (⟨(List.replicate (16 - n) (48 : UInt8)).toArray⟩ : ByteArray).size ≤ 16 := by
    show (List.replicate (16 - n) (48 : UInt8)).toArray.size ≤ 16
    simp
  have HR := Lib.hid (fun w => repeat_any (16 - n) (by omega) w)
  generalize (⟨(Hex.L x n).toArray⟩ : ByteArray) = t at *
  generalize (⟨(List.replicate (16 - n) (48 : UInt8)).toArray⟩ : ByteArray) = r at *
  have HJ := Lib.hid hj
  have HN := Lib.hid hlen
  have hts : t.size ≤ 16 := by omega
  clear hlt hlen hj
  go_wp2_with fail
  rw [show (16 - (t.size : Int)) = ((16 - n : Nat) : Int) from by have := HN.out; omega]
  refine (HR.out _).mono ?_; rintro e w2 ⟨rfl, rfl⟩
  go_wp2_with fail
  go_ret
  refine ⟨?_, hbel⟩
  exact congrArg (fun s => Ending.returned (.string s)) HJ.out

/-- The document's own digits. -/
def letters : ByteArray := ⟨#[48, 49, 50, 51, 52, 53, 54, 55, 56, 57, 97, 98, 99, 100, 101, 102]⟩
theorem letters_size : letters.size = 16 := rfl
theorem letters_some : ∀ i, i < 16 → letters.data[i]? = some (Hex.dig i) := by decide +kernel
theorem index_letters (z : Int) (d : Nat) (hz : z = (d : Int)) (hd : d < 16) (w : World) :
    (Instr.index 9 (.string letters) (.int .u64 z)).run Tryd.prog w = .ok (.int .u8 ((Hex.dig d).toNat : Int)) w := by
  subst hz
  rw [run_index_string w 9 letters .u64 _ Tryd.underlying9, dif_pos ⟨by omega, by rw [letters_size]; omega⟩]
  have e : ((d : Int)).toNat = d := by omega
  simp only [e]
  rw [byte_of letters d (by rw [letters_size]; omega) _ (letters_some d hd)]

theorem str1 (c : UInt8) (w : World) : (convert 66 9 (.slice (some ⟨w.heap.size, 0, none⟩) 1 1)).run Tryd.prog (w.alloc (.cells #[.int .u8 (c.toNat : Int)] 5))
    = .ok (.string ⟨#[c]⟩) (w.alloc (.cells #[.int .u8 (c.toNat : Int)] 5)) := by
  have h := run_convert_bytes_back (P := Tryd.prog) (w.alloc (.cells #[.int .u8 (c.toNat : Int)] 5)) 66 9 5 ⟨w.heap.size, 0, none⟩ 1 [c] Tryd.underlying66 Tryd.underlying5 Tryd.underlying9 (fun j hj => by
    obtain rfl : j = 0 := by simpa using hj
    rw [add_at, World.cell?_alloc_new]; rfl)
  exact h
theorem cons_text (x k : Nat) : (⟨#[Hex.dig (x / 16 ^ k % 16)]⟩ : ByteArray) ++ ⟨(Hex.L x k).toArray⟩ = ⟨(Hex.L x (k + 1)).toArray⟩ := by
  rw [Hex.L_cons]
  apply ByteArray.ext
  simp

set_option maxHeartbeats 400000 in
theorem rtext_any (b : Nat) (w : World) (hb : b < 18446744073709551616) :
    Calls Tryd.prog 36 #[.int .u64 b] w fun e w' => e = .returned (.string (hexText (Num.M b))) ∧ Below w.heap.size w w' := by
  have H1 := Lib.hid (fun w => rmake_any b w hb)
  have hx := Num.M_lt hb
  generalize Num.M b = x at *
  go_enter Tryd.func36, Tryd.ntmps36
  go_name_bytes_deep 10 SM hSM
  have eSM : SM = letters := by rw [← hSM]; decide +kernel
  subst eSM
  clear hSM
  go_wp2_with fail
  refine (H1.out _).mono ?_; rintro e w' ⟨rfl, rfl⟩
  have hst := str1
  go_wp2_with fail
  go_loopw [0, 3, 4] (fun vx vs vi wr => ∃ (k : Nat) (s : ByteArray), k ≤ 16 ∧ vx = .int .u64 (x / 16 ^ k : Nat) ∧ vs = .string s ∧ vi = .int .i64 (k : Nat) ∧ s.size ≤ 16 ∧ Hid (s = ⟨(Hex.L x k).toArray⟩) ∧ Below w.heap.size w wr) (fun _ _ vi _ => 16 - (intOf vi).toNat)
  case atStart => exact ⟨0, ⟨#[]⟩, by omega, by simp, rfl, rfl, by decide, Lib.hid rfl, by go_grown⟩
  case round =>
    obtain ⟨k, s, hk, rfl, rfl, rfl, hs, HS, hbel⟩ := hrel
    have hz : s.size = k := by rw [HS.out]; exact Hex.L_length x k
    have HZ := Lib.hid hz
    clear hz
    by_cases hlt : k < 16
    · have HC : Hid ((⟨#[Hex.dig (x / 16 ^ k % 16)]⟩ : ByteArray) ++ s = ⟨(Hex.L x (k + 1)).toArray⟩) := by rw [HS.out]; exact Lib.hid (cons_text x k)
      have HN : Hid (x / 16 ^ k / 16 = x / 16 ^ (k + 1)) := Lib.hid (by rw [Nat.pow_succ, Nat.div_div_eq_div_mul])
      have hy : x / 16 ^ k < 18446744073709551616 := Nat.lt_of_le_of_lt (Nat.div_le_self _ _) hx
      generalize x / 16 ^ k = y at *
      have hi := index_letters ((y : Int) % 16) (y % 16) (by omega) (by omega)
      go_wp2_with fail
      refine ⟨⟨k + 1, _, by omega, by rw [← HN.out]; go_num, rfl, by go_num, ?_, HC, hbel.alloc hbel.size _⟩, by simp [intOf]; omega⟩
      rw [HC.out]
      show (Hex.L x (k + 1)).length ≤ 16
      rw [Hex.L_length]; omega
    · obtain rfl : k = 16 := by omega
      go_wp2_with fail
      go_ret
      exact ⟨congrArg (fun s => Ending.returned (.string s)) HS.out, hbel⟩

end Go.Proofs.YtdhfmapcggohmaaDoor
