/-
  What crc.Text, crc.Read and the document's own two return, for every argument.
-/
import Derived.Test.YtldfldfmoiiciaaCrcWalks
import Derived.Handy
import Derived.Deep.QuietTactic
import Derived.BigQuiet
namespace Go.Proofs.Ytldfldfmoiiciaa
open Go.RowKit

theorem make4 (w : World) : (Instr.makeSlice 29 (.int .i64 4) (.int .i64 4)).run Try.prog w = .ok (.slice (some ⟨w.heap.size, 0, none⟩) 4 4) (w.alloc (.cells #[.int .u8 0, .int .u8 0, .int .u8 0, .int .u8 0] 5)) := by
  kernel_rfl
/-- A number's low byte. -/
def byte (n : Int) : UInt8 := UInt8.ofNat n.toNat
theorem str4 (a b c d : Int) (w : World) : (convert 29 9 (.slice (some ⟨w.heap.size, 0, none⟩) 4 4)).run Try.prog (w.alloc (.cells #[.int .u8 a, .int .u8 b, .int .u8 c, .int .u8 d] 5))
    = .ok (.string ⟨#[byte a, byte b, byte c, byte d]⟩) (w.alloc (.cells #[.int .u8 a, .int .u8 b, .int .u8 c, .int .u8 d] 5)) := by
  have h := run_convert_bytes_arg (P := Try.prog) (w.alloc (.cells #[.int .u8 a, .int .u8 b, .int .u8 c, .int .u8 d] 5)) 29 5 Try.underlying29 Try.underlying5 w.heap.size 0 4 4 [a, b, c, d] rfl
    (fun i hi => by
      rw [World.cell?_alloc_mark]
      match i, hi with
      | 0, _ => rfl
      | 1, _ => rfl
      | 2, _ => rfl
      | 3, _ => rfl) 9 Try.underlying9
  exact h

def four (c : Nat) : ByteArray := ⟨#[byte (c % 256), byte (c / 256 % 256), byte (c / 65536 % 256), byte (c / 16777216)]⟩

set_option maxHeartbeats 400000 in
theorem text_any (c : Nat) (w : World) (hc : c < 4294967296) :
    Calls Try.prog 14 #[.int .u32 c] w fun e w' => e = .returned (.string (four c)) ∧ Below w.heap.size w w' := by
  have hmk := make4
  have hst := str4
  go_enter Try.func14, Try.ntmps14
  go_wp2
  clear hmk
  go_rounds 5
  go_ret
  exact ⟨rfl, by go_grown⟩

set_option maxHeartbeats 400000 in
theorem rtext_any (c : Nat) (w : World) (hc : c < 4294967296) :
    Calls Try.prog 16 #[.int .u32 c] w fun e w' => e = .returned (.string (four c)) ∧ Below w.heap.size w w' := by
  have hst := str4
  go_enter Try.func16, Try.ntmps16
  go_wp2
  go_ret
  exact ⟨rfl, by go_grown⟩


theorem four_of (s : ByteArray) (h : s.size = 4) : ∃ a b c d : UInt8, s = ⟨#[a, b, c, d]⟩ := by
  obtain ⟨⟨l⟩⟩ := s
  match l, h with
  | [a, b, c, d], _ => exact ⟨a, b, c, d, rfl⟩

/-- The number that four bytes are. -/
def num4 (a b c d : UInt8) : Nat := a.toNat + 256 * b.toNat + 65536 * c.toNat + 16777216 * d.toNat

theorem or_next (k x y : Nat) (hx : x < 2 ^ k) (hy : y < 256) (hk : 2 ^ k * 256 ≤ 4294967296) :
    bits .or .u32 (x : Int) ((y : Int) % 4294967296 * (2 ^ k : Nat) % 4294967296) = ((2 ^ k * y + x : Nat) : Int) := by
  have h1 : 2 ^ k * y ≤ 2 ^ k * 255 := Nat.mul_le_mul_left _ (by omega)
  have h2 : (y : Int) % 4294967296 * ((2 ^ k : Nat) : Int) % 4294967296 = ((2 ^ k * y : Nat) : Int) := by
    rw [show (y : Int) % 4294967296 = y from by omega, ← Int.natCast_mul, Nat.mul_comm, Int.emod_eq_of_lt (by omega) (by omega)]
  rw [h2, u32_or_nat _ _ (by omega) (by omega), Nat.two_pow_add_eq_or_of_lt hx, Nat.or_comm]
theorem or_four (a b c d : Nat) (ha : a < 256) (hb : b < 256) (hc : c < 256) (hd : d < 256) :
    bits .or .u32 (bits .or .u32 (bits .or .u32 (bits .or .u32 0 ((a : Int) % 4294967296)) ((b : Int) % 4294967296 * 256 % 4294967296)) ((c : Int) % 4294967296 * 65536 % 4294967296)) ((d : Int) % 4294967296 * 16777216 % 4294967296)
      = ((a + 256 * b + 65536 * c + 16777216 * d : Nat) : Int) := by
  have h0 : bits .or .u32 0 ((a : Int) % 4294967296) = ((a : Nat) : Int) := by
    rw [Int.emod_eq_of_lt (by omega) (by omega)]
    have := u32_or_nat 0 a (by decide) (by omega)
    simpa using this
  have h1 := or_next 8 a b (by omega) hb (by decide)
  have h2 := or_next 16 (2 ^ 8 * b + a) c (by omega) hc (by decide)
  have h3 := or_next 24 (2 ^ 16 * c + (2 ^ 8 * b + a)) d (by omega) hd (by decide)
  rw [h0]
  rw [show ((2 ^ 8 : Nat) : Int) = 256 from rfl] at h1
  rw [show ((2 ^ 16 : Nat) : Int) = 65536 from rfl] at h2
  rw [show ((2 ^ 24 : Nat) : Int) = 16777216 from rfl] at h3
  rw [h1, h2, h3]
  congr 1
  omega

set_option maxHeartbeats 400000 in
theorem read_not (s : ByteArray) (w : World) (h4 : s.size ≠ 4) :
    Calls Try.prog 13 #[.string s] w fun e w' => e = .returned (.tuple #[.int .u32 0, .bool false]) ∧ w = w' := by
  have h : ((s.size : Int) != 4) = true := by rw [bne_iff_ne]; omega
  go_enter Try.func13, Try.ntmps13
  go_wp2
  go_ret2
  exact ⟨rfl, rfl⟩

set_option maxHeartbeats 400000 in
theorem read_four (a b c d : UInt8) (w : World) :
    Calls Try.prog 13 #[.string ⟨#[a, b, c, d]⟩] w fun e w' => e = .returned (.tuple #[.int .u32 (num4 a b c d : Nat), .bool true]) ∧ w = w' := by
  have ha := a.toNat_lt
  have hb := b.toNat_lt
  have hc := c.toNat_lt
  have hd := d.toNat_lt
  go_enter Try.func13, Try.ntmps13
  go_wp2
  go_rounds 5
  go_ret2
  exact ⟨congrArg (fun n => Ending.returned (.tuple #[.int .u32 n, .bool true])) (or_four a.toNat b.toNat c.toNat d.toNat ha hb hc hd), rfl⟩

set_option maxHeartbeats 400000 in
theorem rread_not (s : ByteArray) (w : World) (h4 : s.size ≠ 4) :
    Calls Try.prog 15 #[.string s] w fun e w' => e = .returned (.tuple #[.int .u32 0, .bool false]) ∧ w = w' := by
  have h : ((s.size : Int) != 4) = true := by rw [bne_iff_ne]; omega
  go_enter Try.func15, Try.ntmps15
  go_wp2
  go_ret2
  exact ⟨rfl, rfl⟩

theorem add_four (a b c d : Nat) (ha : a < 256) (hb : b < 256) (hc : c < 256) (hd : d < 256) :
    ((((a : Int) + 256 * ((b : Int) % 4294967296) + 65536 * ((c : Int) % 4294967296)) % 4294967296 + 16777216 * ((d : Int) % 4294967296) % 4294967296) % 4294967296) = ((a + 256 * b + 65536 * c + 16777216 * d : Nat) : Int) := by
  omega

set_option maxHeartbeats 400000 in
theorem rread_four (a b c d : UInt8) (w : World) :
    Calls Try.prog 15 #[.string ⟨#[a, b, c, d]⟩] w fun e w' => e = .returned (.tuple #[.int .u32 (num4 a b c d : Nat), .bool true]) ∧ ∃ n, w' = w.drewN n := by
  have ha := a.toNat_lt
  have hb := b.toNat_lt
  have hc := c.toNat_lt
  have hd := d.toNat_lt
  go_enter Try.func15, Try.ntmps15
  go_wp2
  go_quiet (fail)
  go_wp2
  go_ret2
  exact ⟨congrArg (fun n => Ending.returned (.tuple #[.int .u32 n, .bool true])) (add_four a.toNat b.toNat c.toNat d.toNat ha hb hc hd), _, rfl⟩

end Go.Proofs.Ytldfldfmoiiciaa
