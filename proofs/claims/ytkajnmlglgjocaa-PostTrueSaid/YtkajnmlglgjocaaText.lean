/-
  A text of some bytes.
  Pure: nothing of the program is read.
-/
import Derived.Lib.Bytealg
namespace Go.Proofs.Ytkajnmlglgjocaa
namespace Val
def of (l : List UInt8) : ByteArray := ⟨l.toArray⟩
theorem of_toList (l : List UInt8) : (of l).data.toList = l := by simp [of]
theorem of_self (s : ByteArray) : of s.data.toList = s := by apply ByteArray.ext; simp [of]
theorem of_size (l : List UInt8) : (of l).size = l.length := by simp [of, ByteArray.size]
theorem of_append (a b : List UInt8) : of a ++ of b = of (a ++ b) := by
  apply ByteArray.ext; simp [of]
theorem of_inj {a b : List UInt8} (h : of a = of b) : a = b := by
  have := congrArg (fun s => s.data.toList) h
  simpa [of] using this
end Val
end Go.Proofs.Ytkajnmlglgjocaa
