/-
  What value.Items and the document's own Items return, for every value: its items.
  No condition but that the float's bits are a number of 64 bits.
-/
import Derived.Test.YtdhfmapcggohmaaDoorValIts
import Derived.Test.YtdhfmapcggohmaaDoorValRCheck
import Derived.Test.YtdhfmapcggohmaaDoorValText
import Derived.WalkKit
import Derived.WalkSpells
import Derived.WalkLawsBesides
import Derived.Handy
import Derived.Deep.QuietTactic
import Derived.BigQuiet
import Derived.Deep.Draws
import Derived.Lib.Hide
namespace Go.Proofs.YtdhfmapcggohmaaDoor
open Go.RowKit

/-- A slice of these items; below all is as it was. -/
def IsItems (l : List Val.It) (w : World) (e : Ending) (w' : World) : Prop := ∃ A c, e = .returned (.slice A l.length c) ∧ Items w' w'.heap.size A l ∧ A ≠ none ∧ Below w.heap.size w w'
theorem isItems {l : List Val.It} {w w' : World} {v : Value} {base : Nat} (h : Its base w' v l) (hl : l ≠ []) (hb : Below w.heap.size w w') : IsItems l w (.returned v) w' := by
  obtain ⟨A, c, rfl⟩ := h.shape
  obtain ⟨hn, hi⟩ := h.items
  refine ⟨A, c, rfl, hi, ?_, hb⟩
  rintro rfl
  have h0 : 0 < l.length := List.length_pos_iff.2 hl
  obtain ⟨_, _, h1, _⟩ := hi h0
  cases h1
theorem wrap_sg {f : Nat} (h : f < 18446744073709551616) : IntKind.i64.wrap (f : Int) = Val.sg f := by
  rw [IntKind.wrap_i64]; unfold Val.sg; split <;> omega

section
variable (n : Int) (f : Nat) (s : ByteArray) (w : World)
set_option maxRecDepth 100000 in
set_option maxHeartbeats 1600000 in
theorem items0 : Calls Tryd.prog 13 #[.agg #[.int .i64 0, .int .i64 n, .int .u64 (f : Int), .string s]] w (IsItems [⟨0, 0, Val.emp⟩] w) := by
  have HN := Lib.hid named0
  go_enter Tryd.func13, Tryd.ntmps13
  go_wp2_with fail
  refine (HN.out _).mono ?_; rintro e w1 ⟨rfl, b1⟩
  obtain ⟨c0, c1, c2, c3, hlt⟩ := box4 (by simpa using b1)
  have HB := Lib.hid (box4_below (by simpa using b1))
  have hsz := HB.out.size
  clear b1
  go_wp2_with fail
  go_ret
  exact isItems (Its.newAt (base := w.heap.size) (w1.alloc _) ⟨0, 0, Val.emp⟩ _ rfl (by simp; omega) _ (by simp)) (by simp) ((HB.out.alloc hsz _).alloc (by simp; omega) _)
set_option maxRecDepth 100000 in
set_option maxHeartbeats 1600000 in
theorem items9 (k : Int) (h : k < 0 ∨ 3 < k) : Calls Tryd.prog 13 #[.agg #[.int .i64 k, .int .i64 n, .int .u64 (f : Int), .string s]] w (IsItems [⟨0, k, Val.emp⟩] w) := by
  have HN := Lib.hid (fun w => named9 k w h)
  go_enter Tryd.func13, Tryd.ntmps13
  go_wp2_with fail
  refine (HN.out _).mono ?_; rintro e w1 ⟨rfl, b1⟩
  obtain ⟨c0, c1, c2, c3, hlt⟩ := box4 (by simpa using b1)
  have HB := Lib.hid (box4_below (by simpa using b1))
  have hsz := HB.out.size
  clear b1
  go_wp2_with fail
  go_ret
  exact isItems (Its.newAt (base := w.heap.size) (w1.alloc _) ⟨0, k, Val.emp⟩ _ rfl (by simp; omega) _ (by simp)) (by simp) ((HB.out.alloc hsz _).alloc (by simp; omega) _)
set_option maxRecDepth 100000 in
set_option maxHeartbeats 1600000 in
theorem items1 : Calls Tryd.prog 13 #[.agg #[.int .i64 1, .int .i64 n, .int .u64 (f : Int), .string s]] w (IsItems [⟨0, 1, Val.emp⟩, ⟨0, n, Val.emp⟩] w) := by
  have HN := Lib.hid named1
  go_enter Tryd.func13, Tryd.ntmps13
  go_wp2_with fail
  refine (HN.out _).mono ?_; rintro e w1 ⟨rfl, b1⟩
  obtain ⟨c0, c1, c2, c3, hlt⟩ := box4 (by simpa using b1)
  have HB := Lib.hid (box4_below (by simpa using b1))
  have hsz := HB.out.size
  clear b1
  go_wp2_with (at_builtin; refine wpList_pushIt rfl (.tmp 18) (.tmp 22) rfl (w1.heap.size + 1) _ _ [⟨0, 1, Val.emp⟩] ⟨0, n, Val.emp⟩ _ _ (by simp) rfl rfl rfl (Its.newAt (base := w1.heap.size + 1) (w1.alloc _) ⟨0, 1, Val.emp⟩ _ rfl (by simp) _ (by simp)) (by simp) (by simp) ?_)
  intro v2 w2 HR2 HB2 hsz2
  have HB3 := Lib.hid (HB2.out _ w (by omega) ((HB.out.alloc hsz _).alloc (by simp; omega) _))
  have HB4 := HB2.out _ (w1.alloc (.cells #[.bool true, .bool false, .bool false] 41)) (Nat.le_refl _) ((Below.refl _ _).alloc (by simp) _)
  have d1 := HB4.cell (p := ⟨w1.heap.size, 1, none⟩) (by simp)
  have d2 := HB4.cell (p := ⟨w1.heap.size, 2, none⟩) (by simp)
  rw [World.cell?_alloc_new] at d1 d2
  simp at d1 d2
  clear HB2 HB4
  go_wp2_with fail
  go_ret
  exact isItems HR2.out (by simp) HB3.out
set_option maxRecDepth 100000 in
set_option maxHeartbeats 1600000 in
theorem items2 (hf : f < 18446744073709551616) : Calls Tryd.prog 13 #[.agg #[.int .i64 2, .int .i64 n, .int .u64 (f : Int), .string s]] w (IsItems [⟨0, 2, Val.emp⟩, ⟨0, Val.sg f, Val.emp⟩] w) := by
  have HN := Lib.hid named2
  have hsg := wrap_sg hf
  generalize Val.sg f = z at *
  go_enter Tryd.func13, Tryd.ntmps13
  go_wp2_with fail
  refine (HN.out _).mono ?_; rintro e w1 ⟨rfl, b1⟩
  obtain ⟨c0, c1, c2, c3, hlt⟩ := box4 (by simpa using b1)
  have HB := Lib.hid (box4_below (by simpa using b1))
  have hsz := HB.out.size
  clear b1
  go_wp2_with (at_builtin; refine wpList_pushIt rfl (.tmp 26) (.tmp 31) rfl (w1.heap.size + 1) _ _ [⟨0, 2, Val.emp⟩] ⟨0, z, Val.emp⟩ _ _ (by simp) rfl rfl rfl (Its.newAt (base := w1.heap.size + 1) (w1.alloc _) ⟨0, 2, Val.emp⟩ _ rfl (by simp) _ (by simp)) (by simp) (by simp) ?_)
  intro v2 w2 HR2 HB2 hsz2
  have HB3 := Lib.hid (HB2.out _ w (by omega) ((HB.out.alloc hsz _).alloc (by simp; omega) _))
  have HB4 := HB2.out _ (w1.alloc (.cells #[.bool false, .bool true, .bool false] 41)) (Nat.le_refl _) ((Below.refl _ _).alloc (by simp) _)
  have d1 := HB4.cell (p := ⟨w1.heap.size, 1, none⟩) (by simp)
  have d2 := HB4.cell (p := ⟨w1.heap.size, 2, none⟩) (by simp)
  rw [World.cell?_alloc_new] at d1 d2
  simp at d1 d2
  clear HB2 HB4
  go_wp2_with fail
  go_ret
  exact isItems HR2.out (by simp) HB3.out
set_option maxRecDepth 100000 in
set_option maxHeartbeats 1600000 in
theorem items3 : Calls Tryd.prog 13 #[.agg #[.int .i64 3, .int .i64 n, .int .u64 (f : Int), .string s]] w (IsItems [⟨0, 3, Val.emp⟩, ⟨1, 0, s⟩] w) := by
  have HN := Lib.hid named3
  go_enter Tryd.func13, Tryd.ntmps13
  go_wp2_with fail
  refine (HN.out _).mono ?_; rintro e w1 ⟨rfl, b1⟩
  obtain ⟨c0, c1, c2, c3, hlt⟩ := box4 (by simpa using b1)
  have HB := Lib.hid (box4_below (by simpa using b1))
  have hsz := HB.out.size
  clear b1
  go_wp2_with (at_builtin; refine wpList_pushIt rfl (.tmp 35) (.tmp 39) rfl w.heap.size _ _ [⟨0, 3, Val.emp⟩] ⟨1, 0, s⟩ _ _ (by simp) rfl rfl rfl (Its.newAt (base := w.heap.size) (w1.alloc _) ⟨0, 3, Val.emp⟩ _ rfl (by simp; omega) _ (by simp)) (by simp) (by simp; omega) ?_)
  intro v2 w2 HR2 HB2 hsz2
  have HB3 := Lib.hid (HB2.out _ w (Nat.le_refl _) ((HB.out.alloc hsz _).alloc (by simp; omega) _))
  clear HB2
  go_wp2_with fail
  go_ret
  exact isItems HR2.out (by simp) HB3.out
set_option maxRecDepth 100000 in
set_option maxHeartbeats 1600000 in
theorem ritems9 (k : Int) (h1 : ¬ k = 1) (h2 : ¬ k = 2) (h3 : ¬ k = 3) : Calls Tryd.prog 15 #[.agg #[.int .i64 k, .int .i64 n, .int .u64 (f : Int), .string s]] w (IsItems [⟨0, k, Val.emp⟩] w) := by
  have HB := Lib.hid (Below.refl w.heap.size w)
  go_enter Tryd.func15, Tryd.ntmps15
  go_wp2_with fail
  go_ret
  exact isItems (Its.newAt (base := w.heap.size) (w.alloc _) ⟨0, k, Val.emp⟩ _ rfl (by simp) _ (by simp)) (by simp) ((HB.out.alloc (Nat.le_refl _) _).alloc (by simp) _)
set_option maxRecDepth 100000 in
set_option maxHeartbeats 1600000 in
theorem ritems1 : Calls Tryd.prog 15 #[.agg #[.int .i64 1, .int .i64 n, .int .u64 (f : Int), .string s]] w (IsItems [⟨0, 1, Val.emp⟩, ⟨0, n, Val.emp⟩] w) := by
  have HB := Lib.hid (Below.refl w.heap.size w)
  go_enter Tryd.func15, Tryd.ntmps15
  go_wp2_with (at_builtin; refine wpList_pushIt rfl (.tmp 12) (.tmp 16) rfl w.heap.size _ _ [⟨0, 1, Val.emp⟩] ⟨0, n, Val.emp⟩ _ _ (by simp) rfl rfl rfl (Its.newAt (base := w.heap.size) (w.alloc _) ⟨0, 1, Val.emp⟩ _ rfl (by simp) _ (by simp)) (by simp) (by simp <;> omega) ?_)
  intro v2 w2 HR2 HB2 hsz2
  have HB3 := Lib.hid (HB2.out _ w (Nat.le_refl _) ((HB.out.alloc (Nat.le_refl _) _).alloc (by simp) _))
  clear HB2
  go_wp2_with fail
  go_ret
  exact isItems HR2.out (by simp) HB3.out
set_option maxRecDepth 100000 in
set_option maxHeartbeats 1600000 in
theorem ritems2 (hf : f < 18446744073709551616) : Calls Tryd.prog 15 #[.agg #[.int .i64 2, .int .i64 n, .int .u64 (f : Int), .string s]] w (IsItems [⟨0, 2, Val.emp⟩, ⟨0, Val.sg f, Val.emp⟩] w) := by
  have hsg := wrap_sg hf
  generalize Val.sg f = z at *
  have HB := Lib.hid (Below.refl w.heap.size w)
  go_enter Tryd.func15, Tryd.ntmps15
  go_wp2_with (at_builtin; refine wpList_pushIt rfl (.tmp 20) (.tmp 25) rfl w.heap.size _ _ [⟨0, 2, Val.emp⟩] ⟨0, z, Val.emp⟩ _ _ (by simp) rfl rfl rfl (Its.newAt (base := w.heap.size) (w.alloc _) ⟨0, 2, Val.emp⟩ _ rfl (by simp) _ (by simp)) (by simp) (by simp <;> omega) ?_)
  intro v2 w2 HR2 HB2 hsz2
  have HB3 := Lib.hid (HB2.out _ w (Nat.le_refl _) ((HB.out.alloc (Nat.le_refl _) _).alloc (by simp) _))
  clear HB2
  go_wp2_with fail
  go_ret
  exact isItems HR2.out (by simp) HB3.out
set_option maxRecDepth 100000 in
set_option maxHeartbeats 1600000 in
theorem ritems3 : Calls Tryd.prog 15 #[.agg #[.int .i64 3, .int .i64 n, .int .u64 (f : Int), .string s]] w (IsItems [⟨0, 3, Val.emp⟩, ⟨1, 0, s⟩] w) := by
  have HB := Lib.hid (Below.refl w.heap.size w)
  go_enter Tryd.func15, Tryd.ntmps15
  go_wp2_with (at_builtin; refine wpList_pushIt rfl (.tmp 29) (.tmp 33) rfl w.heap.size _ _ [⟨0, 3, Val.emp⟩] ⟨1, 0, s⟩ _ _ (by simp) rfl rfl rfl (Its.newAt (base := w.heap.size) (w.alloc _) ⟨0, 3, Val.emp⟩ _ rfl (by simp) _ (by simp)) (by simp) (by simp <;> omega) ?_)
  intro v2 w2 HR2 HB2 hsz2
  have HB3 := Lib.hid (HB2.out _ w (Nat.le_refl _) ((HB.out.alloc (Nat.le_refl _) _).alloc (by simp) _))
  clear HB2
  go_wp2_with fail
  go_ret
  exact isItems HR2.out (by simp) HB3.out
end
theorem items_split (v : Val.V) : Val.items v = if v.k = 1 then [⟨0, 1, Val.emp⟩, ⟨0, v.n, Val.emp⟩] else if v.k = 2 then [⟨0, 2, Val.emp⟩, ⟨0, Val.sg v.f, Val.emp⟩] else if v.k = 3 then [⟨0, 3, Val.emp⟩, ⟨1, 0, v.s⟩] else [⟨0, v.k, Val.emp⟩] := by
  unfold Val.items
  split
  · next h => rw [h]
  · split
    · next h => rw [h]
    · split
      · next h => rw [h]
      · rfl
theorem vitems_any (v : Val.V) (w : World) (hf : v.f < 18446744073709551616) : Calls Tryd.prog 13 #[vv v] w (IsItems (Val.items v) w) := by
  rw [items_split]
  obtain ⟨k, n, f, s⟩ := v
  simp only at hf ⊢
  by_cases h1 : k = 1
  · subst h1; rw [if_pos rfl]; exact items1 n f s w
  · rw [if_neg h1]
    by_cases h2 : k = 2
    · subst h2; rw [if_pos rfl]; exact items2 n f s w hf
    · rw [if_neg h2]
      by_cases h3 : k = 3
      · subst h3; rw [if_pos rfl]; exact items3 n f s w
      · rw [if_neg h3]
        by_cases h0 : k = 0
        · subst h0; exact items0 n f s w
        · exact items9 n f s w k (by omega)
theorem rvitems_any (v : Val.V) (w : World) (hf : v.f < 18446744073709551616) : Calls Tryd.prog 15 #[vv v] w (IsItems (Val.items v) w) := by
  rw [items_split]
  obtain ⟨k, n, f, s⟩ := v
  simp only at hf ⊢
  by_cases h1 : k = 1
  · subst h1; rw [if_pos rfl]; exact ritems1 n f s w
  · rw [if_neg h1]
    by_cases h2 : k = 2
    · subst h2; rw [if_pos rfl]; exact ritems2 n f s w hf
    · rw [if_neg h2]
      by_cases h3 : k = 3
      · subst h3; rw [if_pos rfl]; exact ritems3 n f s w
      · rw [if_neg h3]; exact ritems9 n f s w k h1 h2 h3

end Go.Proofs.YtdhfmapcggohmaaDoor
