/-
  Whether two loads are the same, a load anew: what the document's Same and the law's own twin return.
  No condition but what the slices read as.
-/
import Derived.Test.YtfboneehnmbklaaLdTake
import Derived.Deep.DeepCutAuto
set_option linter.unusedSimpArgs false
set_option linter.unusedVariables false
namespace Go.Proofs.Ytfboneehnmbklaa
open Go.RowKit

section
variable {w : World} {o : Oper} {a : Act}
theorem exec_nb {x : Bool} (p q : Operand) (ho : o.op = .binOp .neq 4 p q 4) (hx : a.eval p = .bool x) (hy : a.eval q = .bool x) :
    (execOp a.eval o).run Try.prog w = .ok (.value (.bool false)) w := by
  unfold execOp
  simp only [ho, hx, hy]
  go_simp
theorem exec_ns {x : ByteArray} (p q : Operand) (ho : o.op = .binOp .neq 9 p q 9) (hx : a.eval p = .string x) (hy : a.eval q = .string x) :
    (execOp a.eval o).run Try.prog w = .ok (.value (.bool false)) w := by
  unfold execOp
  simp only [ho, hx, hy]
  go_simp
end
set_option maxRecDepth 100000 in
set_option maxHeartbeats 12800000 in
theorem lsame_any (l : Ldd) (A : Option Addr) (n c : Nat) (A2 : Option Addr) (n2 c2 : Nat) (B : Option Addr) (m d : Nat) (B2 : Option Addr) (m2 d2 : Nat) (w : World)
    (h1 : Sls bLay bF w A n c l.h) (h2 : Sls sLay sF w A2 n2 c2 l.d) (h3 : Sls bLay bF w B m d l.h) (h4 : Sls sLay sF w B2 m2 d2 l.d) :
    Calls Try.prog 20 #[.agg #[.int .i64 l.n, .int .i64 l.t, .int .u32 (l.s : Int), .slice A n c, .slice A2 n2 c2], .agg #[.int .i64 l.n, .int .i64 l.t, .int .u32 (l.s : Int), .slice B m d, .slice B2 m2 d2]] w (IsB true w) := by
  obtain rfl : m = n := by rw [← h1.len, h3.len]
  obtain rfl : m2 = n2 := by rw [← h2.len, h4.len]
  have hb1 : m ≤ 140737488355328 := by have h : m * 1 ≤ 140737488355328 := h1.big; omega
  have hb2 : m2 ≤ 140737488355328 := by have h : m2 * 16 ≤ 140737488355328 := h2.big; omega
  have HK := kn2 w 35 (ldC l.n l.t l.s (.slice A m c) (.slice A2 m2 c2)) 35 (ldC l.n l.t l.s (.slice B m d) (.slice B2 m2 d2))
  have H1 := Lib.hid h1
  have H2 := Lib.hid h2
  have H3 := Lib.hid h3
  have H4 := Lib.hid h4
  clear h1 h2 h3 h4
  unfold IsB
  obtain ⟨q, t, s, lh, ld⟩ := l
  simp only at *
  go_enter Try.func20, Try.ntmps20
  go_upto_region 4 with fail
  go_loopw [5] (fun vi wr => ∃ k : Nat, k ≤ m ∧ vi = .int .i64 k ∧ Hid (Kn w.heap.size w wr [(w.heap.size, 35, ldC q t s (.slice A m c) (.slice A2 m2 c2)), (w.heap.size + 1, 35, ldC q t s (.slice B m d) (.slice B2 m2 d2))] [])) (fun vi _ => m - (intOf vi).toNat)
  case atStart => exact ⟨0, Nat.zero_le _, rfl, HK⟩
  case round =>
    clear HK
    obtain ⟨k, hk, rfl, HK⟩ := hrel
    have hk1 : (0 : Int) ≤ (k : Int) := by omega
    by_cases hlt : k < m
    · have hk2 : (k : Int) < (m : Int) := by omega
      have hk3 : k < 9223372036854775807 := by omega
      obtain ⟨x, hx, _⟩ := H1.out.get hlt
      obtain ⟨b1, o1, rfl, hat1⟩ := H1.out.bat (Nat.lt_of_le_of_lt (Nat.zero_le _) hlt)
      obtain ⟨b2, o2, rfl, hat2⟩ := H3.out.bat (Nat.lt_of_le_of_lt (Nat.zero_le _) hlt)
      have HX := Lib.hid (fun W hW => hat1 W hW k x hx)
      have HY := Lib.hid (fun W hW => hat2 W hW k x hx)
      clear hat1 hat2 hx
      go_wp2_with (first | refine wpList_exe (kl_h_ HK 0 _ (by rfl) (by rfl) (by rfl)) (by rfl) ?_)
      refine wp_region_held_drew (S := (fun W => Hid (Kn w.heap.size w W [(w.heap.size, 35, ldC q t s (.slice (some ⟨b1, o1, none⟩) m c) (.slice A2 m2 c2)), (w.heap.size + 1, 35, ldC q t s (.slice (some ⟨b2, o2, none⟩) m d) (.slice B2 m2 d2))] []))) (by kernel_rfl) ?_ (fun hHeld => ?_)
      · (try dsimp only); exact Lib.hid HK.out.drew
      refine wpAnyH_take (i := 0) (oi := ⟨some 51, _, _, _, _, _⟩) (v := ?_) rfl (by kernel_rfl) (by kernel_rfl) (by kernel_rfl) (fun _ _ _ h => h) (Or.inl ⟨by rfl, ?_⟩) (by assumption) ?_
      rotate_left
      · (intro w hSw; (try dsimp only at hSw); go_simp; try with_reducible rfl)
      try simp only [Act.put, List.setIfInBounds_toArray, List.set_cons_zero, List.set_cons_succ]
      refine wpAnyH_take (i := 1) (oi := ⟨some 52, _, _, _, _, _⟩) (v := ?_) rfl (by kernel_rfl) (by kernel_rfl) (by kernel_rfl) (fun _ _ _ h => h) (Or.inl ⟨by rfl, ?_⟩) (by assumption) ?_
      rotate_left
      · (intro w hSw; refine Eq.trans (kl_h_ hSw 0 _ (by rfl) (by rfl) (by rfl)) ?_; with_reducible rfl)
      try simp only [Act.put, List.setIfInBounds_toArray, List.set_cons_zero, List.set_cons_succ]
      refine wpAnyH_take (i := 2) (oi := ⟨some 53, _, _, _, _, _⟩) (v := ?_) rfl (by kernel_rfl) (by kernel_rfl) (by kernel_rfl) (fun _ _ _ h => h) (Or.inl ⟨by rfl, ?_⟩) (by assumption) ?_
      rotate_left
      · (intro w hSw; (try dsimp only at hSw); go_simp; try with_reducible rfl)
      try simp only [Act.put, List.setIfInBounds_toArray, List.set_cons_zero, List.set_cons_succ]
      refine wpAnyH_take (i := 3) (oi := ⟨some 54, _, _, _, _, _⟩) (v := ?_) rfl (by kernel_rfl) (by kernel_rfl) (by kernel_rfl) (fun _ _ _ h => h) (Or.inl ⟨by rfl, ?_⟩) (by assumption) ?_
      rotate_left
      · (intro w hSw; refine Eq.trans (exec_ixb (i := k) _ _ (by rfl) (by rfl) (by rfl) hlt) ?_; with_reducible rfl)
      try simp only [Act.put, List.setIfInBounds_toArray, List.set_cons_zero, List.set_cons_succ]
      refine wpAnyH_take (i := 4) (oi := ⟨some 55, _, _, _, _, _⟩) (v := ?_) rfl (by kernel_rfl) (by kernel_rfl) (by kernel_rfl) (fun _ _ _ h => h) (Or.inl ⟨by rfl, ?_⟩) (by assumption) ?_
      rotate_left
      · (intro w hSw; refine Eq.trans (exec_lcb _ (by rfl) (by rfl) (HX.out _ hSw.out.b)) ?_; with_reducible rfl)
      try simp only [Act.put, List.setIfInBounds_toArray, List.set_cons_zero, List.set_cons_succ]
      refine wpAnyH_take (i := 5) (oi := ⟨some 56, _, _, _, _, _⟩) (v := ?_) rfl (by kernel_rfl) (by kernel_rfl) (by kernel_rfl) (fun _ _ _ h => h) (Or.inl ⟨by rfl, ?_⟩) (by assumption) ?_
      rotate_left
      · (intro w hSw; (try dsimp only at hSw); go_simp; try with_reducible rfl)
      try simp only [Act.put, List.setIfInBounds_toArray, List.set_cons_zero, List.set_cons_succ]
      refine wpAnyH_take (i := 6) (oi := ⟨some 57, _, _, _, _, _⟩) (v := ?_) rfl (by kernel_rfl) (by kernel_rfl) (by kernel_rfl) (fun _ _ _ h => h) (Or.inl ⟨by rfl, ?_⟩) (by assumption) ?_
      rotate_left
      · (intro w hSw; refine Eq.trans (kl_h_ hSw 1 _ (by rfl) (by rfl) (by rfl)) ?_; with_reducible rfl)
      try simp only [Act.put, List.setIfInBounds_toArray, List.set_cons_zero, List.set_cons_succ]
      refine wpAnyH_take (i := 7) (oi := ⟨some 58, _, _, _, _, _⟩) (v := ?_) rfl (by kernel_rfl) (by kernel_rfl) (by kernel_rfl) (fun _ _ _ h => h) (Or.inl ⟨by rfl, ?_⟩) (by assumption) ?_
      rotate_left
      · (intro w hSw; (try dsimp only at hSw); go_simp; try with_reducible rfl)
      try simp only [Act.put, List.setIfInBounds_toArray, List.set_cons_zero, List.set_cons_succ]
      refine wpAnyH_take (i := 8) (oi := ⟨some 59, _, _, _, _, _⟩) (v := ?_) rfl (by kernel_rfl) (by kernel_rfl) (by kernel_rfl) (fun _ _ _ h => h) (Or.inl ⟨by rfl, ?_⟩) (by assumption) ?_
      rotate_left
      · (intro w hSw; refine Eq.trans (exec_ixb (i := k) _ _ (by rfl) (by rfl) (by rfl) hlt) ?_; with_reducible rfl)
      try simp only [Act.put, List.setIfInBounds_toArray, List.set_cons_zero, List.set_cons_succ]
      refine wpAnyH_take (i := 9) (oi := ⟨some 60, _, _, _, _, _⟩) (v := ?_) rfl (by kernel_rfl) (by kernel_rfl) (by kernel_rfl) (fun _ _ _ h => h) (Or.inl ⟨by rfl, ?_⟩) (by assumption) ?_
      rotate_left
      · (intro w hSw; refine Eq.trans (exec_lcb _ (by rfl) (by rfl) (HY.out _ hSw.out.b)) ?_; with_reducible rfl)
      try simp only [Act.put, List.setIfInBounds_toArray, List.set_cons_zero, List.set_cons_succ]
      refine wpAnyH_take (i := 10) (oi := ⟨some 61, _, _, _, _, _⟩) (v := ?_) rfl (by kernel_rfl) (by kernel_rfl) (by kernel_rfl) (fun _ _ _ h => h) (Or.inl ⟨by rfl, ?_⟩) (by assumption) ?_
      rotate_left
      · (intro w hSw; refine Eq.trans (exec_nb (x := x) _ _ (by rfl) (by rfl) (by rfl)) ?_; with_reducible rfl)
      try simp only [Act.put, List.setIfInBounds_toArray, List.set_cons_zero, List.set_cons_succ]
      refine wpAnyH_done (by kernel_rfl) ?_ _
      go_wp2_with (first | refine wpList_exe (exec_add1 (j := k) _ (by rfl) (by rfl) hk3) (by rfl) ?_)
      exact ⟨⟨k + 1, hlt, rfl, hHeld⟩, by simp [intOf]; omega⟩
    · obtain rfl : k = m := by omega
      go_upto_region 9 with (first | refine wpList_exe (kl_h_ HK 0 _ (by rfl) (by rfl) (by rfl)) (by rfl) ?_)
      go_loopw [6] (fun vi wr => ∃ j : Nat, j ≤ m2 ∧ vi = .int .i64 j ∧ Hid (Kn w.heap.size w wr [(w.heap.size, 35, ldC q t s (.slice A k c) (.slice A2 m2 c2)), (w.heap.size + 1, 35, ldC q t s (.slice B k d) (.slice B2 m2 d2))] [])) (fun vi _ => m2 - (intOf vi).toNat)
      case atStart => exact ⟨0, Nat.zero_le _, rfl, HK⟩
      case round =>
        clear HK
        obtain ⟨j, hj, rfl, HK⟩ := hrel
        have hj1 : (0 : Int) ≤ (j : Int) := by omega
        by_cases hlt2 : j < m2
        · have hj2 : (j : Int) < (m2 : Int) := by omega
          have hj3 : j < 9223372036854775807 := by omega
          obtain ⟨x, hx, _⟩ := H2.out.get hlt2
          obtain ⟨b1, o1, rfl, hat1⟩ := H2.out.sat (Nat.lt_of_le_of_lt (Nat.zero_le _) hlt2)
          obtain ⟨b2, o2, rfl, hat2⟩ := H4.out.sat (Nat.lt_of_le_of_lt (Nat.zero_le _) hlt2)
          have HX := Lib.hid (fun W hW => hat1 W hW j x hx)
          have HY := Lib.hid (fun W hW => hat2 W hW j x hx)
          clear hat1 hat2 hx
          go_wp2_with (first | refine wpList_exe (kl_d_ HK 0 _ (by rfl) (by rfl) (by rfl)) (by rfl) ?_)
          refine wp_region_held_drew (S := (fun W => Hid (Kn w.heap.size w W [(w.heap.size, 35, ldC q t s (.slice A k c) (.slice (some ⟨b1, o1, none⟩) m2 c2)), (w.heap.size + 1, 35, ldC q t s (.slice B k d) (.slice (some ⟨b2, o2, none⟩) m2 d2))] []))) (by kernel_rfl) ?_ (fun hHeld => ?_)
          · (try dsimp only); exact Lib.hid HK.out.drew
          refine wpAnyH_take (i := 0) (oi := ⟨some 69, _, _, _, _, _⟩) (v := ?_) rfl (by kernel_rfl) (by kernel_rfl) (by kernel_rfl) (fun _ _ _ h => h) (Or.inl ⟨by rfl, ?_⟩) (by assumption) ?_
          rotate_left
          · (intro w hSw; (try dsimp only at hSw); go_simp; try with_reducible rfl)
          try simp only [Act.put, List.setIfInBounds_toArray, List.set_cons_zero, List.set_cons_succ]
          refine wpAnyH_take (i := 1) (oi := ⟨some 70, _, _, _, _, _⟩) (v := ?_) rfl (by kernel_rfl) (by kernel_rfl) (by kernel_rfl) (fun _ _ _ h => h) (Or.inl ⟨by rfl, ?_⟩) (by assumption) ?_
          rotate_left
          · (intro w hSw; refine Eq.trans (kl_d_ hSw 0 _ (by rfl) (by rfl) (by rfl)) ?_; with_reducible rfl)
          try simp only [Act.put, List.setIfInBounds_toArray, List.set_cons_zero, List.set_cons_succ]
          refine wpAnyH_take (i := 2) (oi := ⟨some 71, _, _, _, _, _⟩) (v := ?_) rfl (by kernel_rfl) (by kernel_rfl) (by kernel_rfl) (fun _ _ _ h => h) (Or.inl ⟨by rfl, ?_⟩) (by assumption) ?_
          rotate_left
          · (intro w hSw; (try dsimp only at hSw); go_simp; try with_reducible rfl)
          try simp only [Act.put, List.setIfInBounds_toArray, List.set_cons_zero, List.set_cons_succ]
          refine wpAnyH_take (i := 3) (oi := ⟨some 72, _, _, _, _, _⟩) (v := ?_) rfl (by kernel_rfl) (by kernel_rfl) (by kernel_rfl) (fun _ _ _ h => h) (Or.inl ⟨by rfl, ?_⟩) (by assumption) ?_
          rotate_left
          · (intro w hSw; refine Eq.trans (exec_ixs (i := j) _ _ (by rfl) (by rfl) (by rfl) hlt2) ?_; with_reducible rfl)
          try simp only [Act.put, List.setIfInBounds_toArray, List.set_cons_zero, List.set_cons_succ]
          refine wpAnyH_take (i := 4) (oi := ⟨some 73, _, _, _, _, _⟩) (v := ?_) rfl (by kernel_rfl) (by kernel_rfl) (by kernel_rfl) (fun _ _ _ h => h) (Or.inl ⟨by rfl, ?_⟩) (by assumption) ?_
          rotate_left
          · (intro w hSw; refine Eq.trans (exec_lcs _ (by rfl) (by rfl) (HX.out _ hSw.out.b)) ?_; with_reducible rfl)
          try simp only [Act.put, List.setIfInBounds_toArray, List.set_cons_zero, List.set_cons_succ]
          refine wpAnyH_take (i := 5) (oi := ⟨some 74, _, _, _, _, _⟩) (v := ?_) rfl (by kernel_rfl) (by kernel_rfl) (by kernel_rfl) (fun _ _ _ h => h) (Or.inl ⟨by rfl, ?_⟩) (by assumption) ?_
          rotate_left
          · (intro w hSw; (try dsimp only at hSw); go_simp; try with_reducible rfl)
          try simp only [Act.put, List.setIfInBounds_toArray, List.set_cons_zero, List.set_cons_succ]
          refine wpAnyH_take (i := 6) (oi := ⟨some 75, _, _, _, _, _⟩) (v := ?_) rfl (by kernel_rfl) (by kernel_rfl) (by kernel_rfl) (fun _ _ _ h => h) (Or.inl ⟨by rfl, ?_⟩) (by assumption) ?_
          rotate_left
          · (intro w hSw; refine Eq.trans (kl_d_ hSw 1 _ (by rfl) (by rfl) (by rfl)) ?_; with_reducible rfl)
          try simp only [Act.put, List.setIfInBounds_toArray, List.set_cons_zero, List.set_cons_succ]
          refine wpAnyH_take (i := 7) (oi := ⟨some 76, _, _, _, _, _⟩) (v := ?_) rfl (by kernel_rfl) (by kernel_rfl) (by kernel_rfl) (fun _ _ _ h => h) (Or.inl ⟨by rfl, ?_⟩) (by assumption) ?_
          rotate_left
          · (intro w hSw; (try dsimp only at hSw); go_simp; try with_reducible rfl)
          try simp only [Act.put, List.setIfInBounds_toArray, List.set_cons_zero, List.set_cons_succ]
          refine wpAnyH_take (i := 8) (oi := ⟨some 77, _, _, _, _, _⟩) (v := ?_) rfl (by kernel_rfl) (by kernel_rfl) (by kernel_rfl) (fun _ _ _ h => h) (Or.inl ⟨by rfl, ?_⟩) (by assumption) ?_
          rotate_left
          · (intro w hSw; refine Eq.trans (exec_ixs (i := j) _ _ (by rfl) (by rfl) (by rfl) hlt2) ?_; with_reducible rfl)
          try simp only [Act.put, List.setIfInBounds_toArray, List.set_cons_zero, List.set_cons_succ]
          refine wpAnyH_take (i := 9) (oi := ⟨some 78, _, _, _, _, _⟩) (v := ?_) rfl (by kernel_rfl) (by kernel_rfl) (by kernel_rfl) (fun _ _ _ h => h) (Or.inl ⟨by rfl, ?_⟩) (by assumption) ?_
          rotate_left
          · (intro w hSw; refine Eq.trans (exec_lcs _ (by rfl) (by rfl) (HY.out _ hSw.out.b)) ?_; with_reducible rfl)
          try simp only [Act.put, List.setIfInBounds_toArray, List.set_cons_zero, List.set_cons_succ]
          refine wpAnyH_take (i := 10) (oi := ⟨some 79, _, _, _, _, _⟩) (v := ?_) rfl (by kernel_rfl) (by kernel_rfl) (by kernel_rfl) (fun _ _ _ h => h) (Or.inl ⟨by rfl, ?_⟩) (by assumption) ?_
          rotate_left
          · (intro w hSw; refine Eq.trans (exec_ns (x := x) _ _ (by rfl) (by rfl) (by rfl)) ?_; with_reducible rfl)
          try simp only [Act.put, List.setIfInBounds_toArray, List.set_cons_zero, List.set_cons_succ]
          refine wpAnyH_done (by kernel_rfl) ?_ _
          go_wp2_with (first | refine wpList_exe (exec_add1 (j := j) _ (by rfl) (by rfl) hj3) (by rfl) ?_)
          exact ⟨⟨j + 1, hlt2, rfl, hHeld⟩, by simp [intOf]; omega⟩
        · obtain rfl : j = m2 := by omega
          go_wp2_with (first | refine wpList_exe (kl_d_ HK 0 _ (by rfl) (by rfl) (by rfl)) (by rfl) ?_)
          go_ret
          exact ⟨rfl, HK.out.b⟩
set_option maxRecDepth 100000 in
set_option maxHeartbeats 6400000 in
theorem ltwin_any (l : Ldd) (A : Option Addr) (n c : Nat) (A2 : Option Addr) (n2 c2 : Nat) (w : World) (h1 : Sls bLay bF w A n c l.h) (h2 : Sls sLay sF w A2 n2 c2 l.d) :
    Calls Try.prog 14 #[.agg #[.int .i64 l.n, .int .i64 l.t, .int .u32 (l.s : Int), .slice A n c, .slice A2 n2 c2]] w (IsLD l w) := by
  have hb1 : n * 1 ≤ 140737488355328 := h1.big
  have hb2 : n2 * 16 ≤ 140737488355328 := h2.big
  have HS1 := Lib.hid h1
  have HS2 := Lib.hid h2
  have HT1 : Hid (n = l.h.length) := Lib.hid HS1.out.len.symm
  have HT2 : Hid (n2 = l.d.length) := Lib.hid HS2.out.len.symm
  have HL1 : Hid (([] : List Bool).length + l.h.length ≤ 9223372036854775807 ∧ (([] : List Bool).length + l.h.length) * Lay.bytes bLay ≤ 211106232532992) := Lib.hid (by rw [← HT1.out]; exact ⟨by simp; omega, by show (0 + n) * 1 ≤ _; omega⟩)
  have HN1 : Hid ((([] : List Bool) ++ l.h).length = n) := Lib.hid (by rw [List.nil_append]; exact HT1.out.symm)
  have HL2 : Hid (([] : List ByteArray).length + l.d.length ≤ 9223372036854775807 ∧ (([] : List ByteArray).length + l.d.length) * Lay.bytes sLay ≤ 211106232532992) := Lib.hid (by rw [← HT2.out]; exact ⟨by simp; omega, by show (0 + n2) * 16 ≤ _; omega⟩)
  have HN2 : Hid ((([] : List ByteArray) ++ l.d).length = n2) := Lib.hid (by rw [List.nil_append]; exact HT2.out.symm)
  have HK := kn2 w 35 (ldC l.n l.t l.s (.slice A n c) (.slice A2 n2 c2)) 35 (ldC 0 0 0 (.slice none 0 0) (.slice none 0 0))
  clear h1 h2 hb1 hb2
  unfold IsLD
  obtain ⟨q, t, s, lh, ld⟩ := l
  simp only at *
  go_enter Try.func14, Try.ntmps14
  go_wp2_with (first | refine wpList_exe (kl_h_ HK 0 _ (by rfl) (by rfl) (by rfl)) (by rfl) ?_ | refine wpList_exe (kl_d_ HK 0 _ (by rfl) (by rfl) (by rfl)) (by rfl) ?_ | refine wpList_exe (kl_l HK 0 _ (by rfl) (by rfl) (by rfl)) (by rfl) ?_ | (refine wpList_slh HK 0 rfl _ _ rfl rfl rfl rfl ?_; intro _ HK'; simp only [List.set] at HK'; replace HK := HK'; clear HK') | (refine wpList_sld HK 0 rfl _ _ rfl rfl rfl rfl ?_; intro _ HK'; simp only [List.set] at HK'; replace HK := HK'; clear HK') | (refine wpList_sl HK 1 rfl _ _ rfl rfl rfl rfl rfl rfl ?_; intro _ HK'; simp only [List.set] at HK'; replace HK := HK'; clear HK') | (refine wpList_mk0 bLay HK rfl rfl ?_; intro _ g2 HK'; simp only [List.cons_append, List.nil_append] at HK'; replace HK := HK'; clear HK') | (refine wpList_mk0 sLay HK rfl rfl ?_; intro _ g3 HK'; simp only [List.cons_append, List.nil_append] at HK'; replace HK := HK'; clear HK') | (at_builtin; refine wpList_kmore HK bLay 0 rfl _ _ rfl rfl rfl lh rfl HT1.out (Lib.hid (let h := HS1.out.later HK.out.b; ⟨h.rd, h.nl⟩)) HL1 HN1 ?_; intro A3 c3 _ HK'; simp only [List.set, List.nil_append] at HK'; replace HK := HK'; clear HK') | (at_builtin; refine wpList_kmore HK sLay 1 rfl _ _ rfl rfl rfl ld rfl HT2.out (Lib.hid (let h := HS2.out.later HK.out.b; ⟨h.rd, h.nl⟩)) HL2 HN2 ?_; intro A4 c4 _ HK'; simp only [List.set, List.nil_append] at HK'; replace HK := HK'; clear HK'))
  exact ret_ld Try.results14 rfl rfl (HK.out.blk 1 rfl) ⟨_, _, _, _, _, _, rfl, HK.out.takeL 0⟩
end Go.Proofs.Ytfboneehnmbklaa
