/-
  The walk of the document's example of a frame.
  No condition.
-/
import Derived.Test.YtjmjmhconkalpaaFrameRGet
namespace Go.Proofs.Ytjmjmhconkalpaa
open Go.RowKit

theorem put_is (k : Int) (s : ByteArray) (w : World) (hs : s.size ≤ maxLen) (l : List UInt8) (e : Int) (h : Frame.putOf k s.data.toList = (l, e)) :
    Calls Try.prog 8 #[.int .i64 k, .string s] w fun x w' => x = .returned (.tuple #[.string (Val.of l), .int .i64 e]) ∧ Below w.heap.size w w' := by
  have := put_any k s w hs
  rw [h] at this
  exact this
theorem rput_is (k : Int) (s : ByteArray) (w : World) (hs : s.size ≤ maxLen) (l : List UInt8) (e : Int) (h : Frame.putOf k s.data.toList = (l, e)) :
    Calls Try.prog 9 #[.int .i64 k, .string s] w fun x w' => x = .returned (.tuple #[.string (Val.of l), .int .i64 e]) ∧ Below w.heap.size w w' := by
  have := rput_any k s w hs
  rw [h] at this
  exact this
theorem get_is (s : ByteArray) (w : World) (hs : s.size ≤ maxLen) (k : Nat) (l : List UInt8) (e : Int) (h : Frame.getOf s.data.toList = (k, l, e)) :
    Calls Try.prog 11 #[.string s] w fun x w' => x = .returned (.tuple #[.int .i64 k, .string (Val.of l), .int .i64 e]) ∧ Below w.heap.size w w' := by
  have := get_any s w hs
  rw [h] at this
  exact this
theorem rget_is (s : ByteArray) (w : World) (hs : s.size ≤ maxLen) (k : Nat) (l : List UInt8) (e : Int) (h : Frame.getOf s.data.toList = (k, l, e)) :
    Calls Try.prog 12 #[.string s] w fun x w' => x = .returned (.tuple #[.int .i64 k, .string (Val.of l), .int .i64 e]) ∧ Below w.heap.size w w' := by
  have := rget_any s w hs
  rw [h] at this
  exact this

theorem awake_any (w : World) :
    Calls Try.prog 10 #[] w fun e w' => e = .returned (.bool true) ∧ Below w.heap.size w w' := by
  go_enter Try.func10, Try.ntmps10
  go_wp2_with fail
  refine (put_is 2 ⟨#[97, 98]⟩ _ (by decide) _ _ Frame.awake_put).mono ?_; rintro e w1 ⟨rfl, b1⟩
  have HB1 := Lib.hid b1
  clear b1
  have hT : (Val.of [183, 2, 0, 2, 97, 98, 242, 95, 19, 16]).size = 10 := rfl
  have hG := Lib.hid (fun W => get_is (Val.of [183, 2, 0, 2, 97, 98, 242, 95, 19, 16]) W (by decide) _ _ _ Frame.awake_get)
  have hM := Lib.hid (fun W => get_is (Val.of [183, 2, 0, 2, 97, 98, 242, 95, 19, 16] ++ (⟨#[120]⟩ : ByteArray)) W (by rw [show (⟨#[120]⟩ : ByteArray) = Val.of [120] from rfl, Val.of_append, Val.of_size]; decide) 0 [] 3 (by rw [show (⟨#[120]⟩ : ByteArray) = Val.of [120] from rfl, Val.of_append, Val.of_toList]; exact Frame.awake_more))
  have hq : (Val.of [97, 98]).toList = [97, 98] := by rw [ByteArray.toList_eq, Val.of_toList]
  generalize Val.of [183, 2, 0, 2, 97, 98, 242, 95, 19, 16] = T at *
  go_wp2_with fail
  refine (hG.out _).mono ?_; rintro e w2 ⟨rfl, b2⟩
  have HB2 := Lib.hid (HB1.out.trans (b2.mono HB1.out.size))
  clear b2
  go_wp2_with fail
  refine (hM.out _).mono ?_; rintro e w3 ⟨rfl, b3⟩
  have HB3 := Lib.hid (HB2.out.trans (b3.mono HB2.out.size))
  clear b3
  go_wp2_with fail
  go_ret
  exact ⟨rfl, HB3.out⟩
end Go.Proofs.Ytjmjmhconkalpaa
