/-
  What crc.Text, crc.Read and the document's own two return, for every argument.
-/
import Derived.Test.YtjmjmhconkalpaaCrcWalks
import Derived.Handy
import Derived.Deep.QuietTactic
import Derived.BigQuiet
namespace Go.Proofs.Ytjmjmhconkalpaa
open Go.RowKit

theorem make4 (w : World) : (Instr.makeSlice 35 (.int .i64 4) (.int .i64 4)).run Try.prog w = .ok (.slice (some ⟨w.heap.size, 0, none⟩) 4 4) (w.alloc (.cells #[.int .u8 0, .int .u8 0, .int .u8 0, .int .u8 0] 5)) := by
  kernel_rfl
/-- A number's low byte. -/
def byte (n : Int) : UInt8 := UInt8.ofNat n.toNat
theorem str4 (a b c d : Int) (w : World) : (convert 35 9 (.slice (some ⟨w.heap.size, 0, none⟩) 4 4)).run Try.prog (w.alloc (.cells #[.int .u8 a, .int .u8 b, .int .u8 c, .int .u8 d] 5))
    = .ok (.string ⟨#[byte a, byte b, byte c, byte d]⟩) (w.alloc (.cells #[.int .u8 a, .int .u8 b, .int .u8 c, .int .u8 d] 5)) := by
  have h := run_convert_bytes_arg (P := Try.prog) (w.alloc (.cells #[.int .u8 a, .int .u8 b, .int .u8 c, .int .u8 d] 5)) 35 5 Try.underlying35 Try.underlying5 w.heap.size 0 4 4 [a, b, c, d] rfl
    (fun i hi => by
      rw [World.cell?_alloc_mark]
      match i, hi with
      | 0, _ => rfl
      | 1, _ => rfl
      | 2, _ => rfl
      | 3, _ => rfl) 9 Try.underlying9
  exact h

def four (c : Nat) : ByteArray := ⟨#[byte (c % 256), byte (c / 256 % 256), byte (c / 65536 % 256), byte (c / 16777216)]⟩

set_option maxHeartbeats 400000 in
theorem text_any (c : Nat) (w : World) (hc : c < 4294967296) :
    Calls Try.prog 19 #[.int .u32 c] w fun e w' => e = .returned (.string (four c)) ∧ Below w.heap.size w w' := by
  have hmk := make4
  have hst := str4
  go_enter Try.func19, Try.ntmps19
  go_wp2
  clear hmk
  go_rounds 5
  go_ret
  exact ⟨rfl, by go_grown⟩

set_option maxHeartbeats 400000 in
theorem rtext_any (c : Nat) (w : World) (hc : c < 4294967296) :
    Calls Try.prog 15 #[.int .u32 c] w fun e w' => e = .returned (.string (four c)) ∧ Below w.heap.size w w' := by
  have hst := str4
  go_enter Try.func15, Try.ntmps15
  go_wp2
  go_ret
  exact ⟨rfl, by go_grown⟩


end Go.Proofs.Ytjmjmhconkalpaa
