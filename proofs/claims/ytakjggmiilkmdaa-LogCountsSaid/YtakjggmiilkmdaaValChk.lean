/-
  What value.named, value.Check and the document's own Check return, for every value.
  No condition but that the float's bits are a number of 64 bits.
-/
import Derived.Test.YtakjggmiilkmdaaJMath
import Derived.Test.YtakjggmiilkmdaaNumBase
import Derived.Below
import Derived.WalkKit
import Derived.WalkSpells
import Derived.WalkLawsBesides
import Derived.Handy
import Derived.Deep.QuietTactic
import Derived.BigQuiet
import Derived.Deep.Draws
import Derived.Lib.Hide
namespace Go.Proofs.Ytakjggmiilkmdaa
open Go.RowKit

/-- A value as a struct's value. -/
def vv (v : Val.V) : Value := .agg #[.int .i64 v.k, .int .i64 v.n, .int .u64 (v.f : Int), .string v.s]

def IsNamed (b1 b2 b3 ok : Bool) (w : World) (e : Ending) (w' : World) : Prop :=
  e = .returned (.tuple #[.agg #[.bool b1, .bool b2, .bool b3], .bool ok]) ∧ Below w.heap.size w w'
set_option maxHeartbeats 400000 in
theorem named0 (w : World) : Calls Try.prog 85 #[.int .i64 0] w (IsNamed false false false true w) := by
  go_enter Try.func85, Try.ntmps85
  go_wp2
  exact bodyPost_ret (v := .tuple #[.agg #[.bool false, .bool false, .bool false], .bool true]) (by simp [results, Try.results85, go_sem]) rfl ⟨rfl, by go_grown⟩
set_option maxHeartbeats 400000 in
theorem named1 (w : World) : Calls Try.prog 85 #[.int .i64 1] w (IsNamed true false false true w) := by
  go_enter Try.func85, Try.ntmps85
  go_wp2
  exact bodyPost_ret (v := .tuple #[.agg #[.bool true, .bool false, .bool false], .bool true]) (by simp [results, Try.results85, go_sem]) rfl ⟨rfl, by go_grown⟩
set_option maxHeartbeats 400000 in
theorem named2 (w : World) : Calls Try.prog 85 #[.int .i64 2] w (IsNamed false true false true w) := by
  go_enter Try.func85, Try.ntmps85
  go_wp2
  exact bodyPost_ret (v := .tuple #[.agg #[.bool false, .bool true, .bool false], .bool true]) (by simp [results, Try.results85, go_sem]) rfl ⟨rfl, by go_grown⟩
set_option maxHeartbeats 400000 in
theorem named3 (w : World) : Calls Try.prog 85 #[.int .i64 3] w (IsNamed false false true true w) := by
  go_enter Try.func85, Try.ntmps85
  go_wp2
  exact bodyPost_ret (v := .tuple #[.agg #[.bool false, .bool false, .bool true], .bool true]) (by simp [results, Try.results85, go_sem]) rfl ⟨rfl, by go_grown⟩
set_option maxHeartbeats 400000 in
theorem named9 (k : Int) (w : World) (h : k < 0 ∨ 3 < k) : Calls Try.prog 85 #[.int .i64 k] w (IsNamed false false false false w) := by
  have h0 : ¬ k = 0 := by omega
  have h1 : ¬ k = 1 := by omega
  have h2 : ¬ k = 2 := by omega
  have h3 : ¬ k = 3 := by omega
  clear h
  go_enter Try.func85, Try.ntmps85
  go_wp2
  exact bodyPost_ret (v := .tuple #[.agg #[.bool false, .bool false, .bool false], .bool false]) (by simp [results, Try.results85, go_sem]) rfl ⟨rfl, by go_grown⟩
theorem isNamed_eq {k : Int} {b1 b2 b3 : Bool} (h : (k = 0 ∧ b1 = false ∧ b2 = false ∧ b3 = false) ∨ (k = 1 ∧ b1 = true ∧ b2 = false ∧ b3 = false) ∨ (k = 2 ∧ b1 = false ∧ b2 = true ∧ b3 = false) ∨ (k = 3 ∧ b1 = false ∧ b2 = false ∧ b3 = true)) (w : World) :
    Calls Try.prog 85 #[.int .i64 k] w (IsNamed b1 b2 b3 true w) := by
  rcases h with ⟨rfl, rfl, rfl, rfl⟩ | ⟨rfl, rfl, rfl, rfl⟩ | ⟨rfl, rfl, rfl, rfl⟩ | ⟨rfl, rfl, rfl, rfl⟩
  · exact named0 w
  · exact named1 w
  · exact named2 w
  · exact named3 w

theorem below_drew (B : Nat) (w : World) (n : Nat) : Below B w (w.drewN n) := ⟨rfl, rfl, rfl, Nat.le_refl _, fun _ _ => rfl⟩
def IsE (x : Int) (w : World) (e : Ending) (w' : World) : Prop := e = .returned (.int .i64 x) ∧ Below w.heap.size w w'
theorem box4 {w : World} {a b c d : Value} {ty : TypeId} {w1 : World} (h : Below (w.heap.size + 1) (w.alloc (.cells #[a, b, c, d] ty)) w1) :
    w1.cell? ⟨w.heap.size, 0, none⟩ = some a ∧ w1.cell? ⟨w.heap.size, 1, none⟩ = some b ∧ w1.cell? ⟨w.heap.size, 2, none⟩ = some c ∧ w1.cell? ⟨w.heap.size, 3, none⟩ = some d ∧ w.heap.size < w1.heap.size := by
  have hs := h.size
  simp at hs
  refine ⟨?_, ?_, ?_, ?_, by omega⟩ <;> (rw [h.cell (by simp), World.cell?_alloc_new]; rfl)
theorem box4_below {w : World} {a b c d : Value} {ty : TypeId} {w1 : World} (h : Below (w.heap.size + 1) (w.alloc (.cells #[a, b, c, d] ty)) w1) : Below w.heap.size w w1 :=
  ((Below.refl _ w).alloc (Nat.le_refl _) _).trans (h.mono (by omega))

section
variable (k n : Int) (f : Nat) (s : ByteArray) (w : World) (b1 b2 b3 : Bool)
set_option maxHeartbeats 800000 in
theorem check_n (hN : ∀ w, Calls Try.prog 85 #[.int .i64 k] w (IsNamed false b2 b3 true w)) (hn : (n != 0) = true) :
    Calls Try.prog 74 #[.agg #[.int .i64 k, .int .i64 n, .int .u64 (f : Int), .string s]] w (IsE 1 w) := by
  have HN := Lib.hid hN
  clear hN
  go_enter Try.func74, Try.ntmps74
  go_wp2_with fail
  refine (HN.out _).mono ?_; rintro e w1 ⟨rfl, b1⟩
  obtain ⟨c0, c1, c2, c3, hlt⟩ := box4 (by simpa using b1)
  have HB := Lib.hid (box4_below (by simpa using b1))
  clear b1
  go_wp2_with fail
  go_ret
  exact ⟨rfl, HB.out.alloc (by omega) _⟩
set_option maxHeartbeats 1600000 in
theorem check_f (hN : ∀ w, Calls Try.prog 85 #[.int .i64 k] w (IsNamed b1 false b3 true w)) (hn : (n != 0) = false ∨ ((n != 0) = true ∧ b1 = true)) (hf0 : ((f : Int) != 0) = true) :
    Calls Try.prog 74 #[.agg #[.int .i64 k, .int .i64 n, .int .u64 (f : Int), .string s]] w (IsE 1 w) := by
  have HN := Lib.hid hN
  clear hN
  rcases hn with hn | ⟨hn, rfl⟩
  all_goals
    go_enter Try.func74, Try.ntmps74
    go_wp2_with fail
    refine (HN.out _).mono ?_; rintro e w1 ⟨rfl, b1⟩
    obtain ⟨c0, c1, c2, c3, hlt⟩ := box4 (by simpa using b1)
    have HB := Lib.hid (box4_below (by simpa using b1))
    clear b1
    go_wp2_with fail
    go_ret
    exact ⟨rfl, HB.out.alloc (by omega) _⟩
set_option maxHeartbeats 1600000 in
theorem check_s (hN : ∀ w, Calls Try.prog 85 #[.int .i64 k] w (IsNamed b1 b2 false true w)) (hn : (n != 0) = false ∨ ((n != 0) = true ∧ b1 = true)) (hf0 : ((f : Int) != 0) = false ∨ (((f : Int) != 0) = true ∧ b2 = true)) (hs : s.toList.isEmpty = false) (_hs2 : ¬ s.toList = []) :
    Calls Try.prog 74 #[.agg #[.int .i64 k, .int .i64 n, .int .u64 (f : Int), .string s]] w (IsE 1 w) := by
  have HN := Lib.hid hN
  clear hN
  rcases hn with hn | ⟨hn, rfl⟩ <;> rcases hf0 with hf0 | ⟨hf0, rfl⟩
  all_goals
    go_enter Try.func74, Try.ntmps74
    go_wp2_with fail
    refine (HN.out _).mono ?_; rintro e w1 ⟨rfl, b1⟩
    obtain ⟨c0, c1, c2, c3, hlt⟩ := box4 (by simpa using b1)
    have HB := Lib.hid (box4_below (by simpa using b1))
    clear b1
    go_wp2_with fail
    go_ret
    exact ⟨rfl, HB.out.alloc (by omega) _⟩
set_option maxHeartbeats 1600000 in
theorem check_m (hN : ∀ w, Calls Try.prog 85 #[.int .i64 k] w (IsNamed b1 b2 b3 true w)) (hn : (n != 0) = false ∨ ((n != 0) = true ∧ b1 = true)) (hf0 : ((f : Int) != 0) = false ∨ (((f : Int) != 0) = true ∧ b2 = true)) (hs : (s.toList.isEmpty = true ∧ s.toList = []) ∨ (s.toList.isEmpty = false ∧ ¬ s.toList = [] ∧ b3 = true)) (hf : f < 18446744073709551616) (hm : ((Num.M f : Int) != (f : Int)) = true) :
    Calls Try.prog 74 #[.agg #[.int .i64 k, .int .i64 n, .int .u64 (f : Int), .string s]] w (IsE 1 w) := by
  have HN := Lib.hid hN
  clear hN
  have HM : Hid (∀ w, Calls Try.prog 86 #[.int .u64 (f : Int)] w fun e w' => e = .returned (.int .u64 (Num.M f : Nat)) ∧ w' = w) := Lib.hid fun w => (make_any f w hf).mono fun e w' ⟨h1, h2⟩ => ⟨h1, h2.symm⟩
  clear hf
  rcases hn with hn | ⟨hn, rfl⟩ <;> rcases hf0 with hf0 | ⟨hf0, rfl⟩ <;> rcases hs with ⟨hs, hs2⟩ | ⟨hs, hs2, rfl⟩
  all_goals
    go_enter Try.func74, Try.ntmps74
    go_wp2_with fail
    refine (HN.out _).mono ?_; rintro e w1 ⟨rfl, b1⟩
    obtain ⟨c0, c1, c2, c3, hlt⟩ := box4 (by simpa using b1)
    have HB := Lib.hid (box4_below (by simpa using b1))
    clear b1
    go_wp2_with fail
    go_quiet (exact Calls.quiet_of_same (HM.out _))
    go_wp2_with fail
    go_ret
    exact ⟨rfl, (HB.out.alloc (by omega) _).trans (below_drew _ _ _)⟩
set_option maxHeartbeats 1600000 in
theorem check_l (hN : ∀ w, Calls Try.prog 85 #[.int .i64 k] w (IsNamed b1 b2 b3 true w)) (hn : (n != 0) = false ∨ ((n != 0) = true ∧ b1 = true)) (hf0 : ((f : Int) != 0) = false ∨ (((f : Int) != 0) = true ∧ b2 = true)) (hs : (s.toList.isEmpty = true ∧ s.toList = []) ∨ (s.toList.isEmpty = false ∧ ¬ s.toList = [] ∧ b3 = true)) (hf : f < 18446744073709551616) (hm : ((Num.M f : Int) != (f : Int)) = false) (hl : 64 < (s.size : Int)) :
    Calls Try.prog 74 #[.agg #[.int .i64 k, .int .i64 n, .int .u64 (f : Int), .string s]] w (IsE 2 w) := by
  have HN := Lib.hid hN
  clear hN
  have HM : Hid (∀ w, Calls Try.prog 86 #[.int .u64 (f : Int)] w fun e w' => e = .returned (.int .u64 (Num.M f : Nat)) ∧ w' = w) := Lib.hid fun w => (make_any f w hf).mono fun e w' ⟨h1, h2⟩ => ⟨h1, h2.symm⟩
  clear hf
  rcases hn with hn | ⟨hn, rfl⟩ <;> rcases hf0 with hf0 | ⟨hf0, rfl⟩ <;> rcases hs with ⟨hs, hs2⟩ | ⟨hs, hs2, rfl⟩
  all_goals
    go_enter Try.func74, Try.ntmps74
    go_wp2_with fail
    refine (HN.out _).mono ?_; rintro e w1 ⟨rfl, b1⟩
    obtain ⟨c0, c1, c2, c3, hlt⟩ := box4 (by simpa using b1)
    have HB := Lib.hid (box4_below (by simpa using b1))
    clear b1
    go_wp2_with fail
    go_quiet (exact Calls.quiet_of_same (HM.out _))
    go_wp2_with fail
    go_ret
    exact ⟨rfl, (HB.out.alloc (by omega) _).trans (below_drew _ _ _)⟩
set_option maxHeartbeats 1600000 in
theorem check_k (hN : ∀ w, Calls Try.prog 85 #[.int .i64 k] w (IsNamed b1 b2 b3 true w)) (hn : (n != 0) = false ∨ ((n != 0) = true ∧ b1 = true)) (hf0 : ((f : Int) != 0) = false ∨ (((f : Int) != 0) = true ∧ b2 = true)) (hs : (s.toList.isEmpty = true ∧ s.toList = []) ∨ (s.toList.isEmpty = false ∧ ¬ s.toList = [] ∧ b3 = true)) (hf : f < 18446744073709551616) (hm : ((Num.M f : Int) != (f : Int)) = false) (hl : ¬ 64 < (s.size : Int)) :
    Calls Try.prog 74 #[.agg #[.int .i64 k, .int .i64 n, .int .u64 (f : Int), .string s]] w (IsE 0 w) := by
  have HN := Lib.hid hN
  clear hN
  have HM : Hid (∀ w, Calls Try.prog 86 #[.int .u64 (f : Int)] w fun e w' => e = .returned (.int .u64 (Num.M f : Nat)) ∧ w' = w) := Lib.hid fun w => (make_any f w hf).mono fun e w' ⟨h1, h2⟩ => ⟨h1, h2.symm⟩
  clear hf
  rcases hn with hn | ⟨hn, rfl⟩ <;> rcases hf0 with hf0 | ⟨hf0, rfl⟩ <;> rcases hs with ⟨hs, hs2⟩ | ⟨hs, hs2, rfl⟩
  all_goals
    go_enter Try.func74, Try.ntmps74
    go_wp2_with fail
    refine (HN.out _).mono ?_; rintro e w1 ⟨rfl, b1⟩
    obtain ⟨c0, c1, c2, c3, hlt⟩ := box4 (by simpa using b1)
    have HB := Lib.hid (box4_below (by simpa using b1))
    clear b1
    go_wp2_with fail
    go_quiet (exact Calls.quiet_of_same (HM.out _))
    go_wp2_with fail
    go_ret
    exact ⟨rfl, (HB.out.alloc (by omega) _).trans (below_drew _ _ _)⟩
end

end Go.Proofs.Ytakjggmiilkmdaa
