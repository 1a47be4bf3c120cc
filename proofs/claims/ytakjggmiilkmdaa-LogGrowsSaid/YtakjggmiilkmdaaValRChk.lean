/-
  What value.Check and the document's own Check return, as XValMath's reckoning of whether a value may be.
  No condition but that the float's bits are a number of 64 bits.
-/
import Derived.Test.YtakjggmiilkmdaaValChk
import Derived.Below
import Derived.WalkKit
import Derived.WalkSpells
import Derived.WalkLawsBesides
import Derived.Handy
import Derived.Deep.QuietTactic
import Derived.BigQuiet
import Derived.Deep.Draws
import Derived.Lib.Hide
namespace Go.Proofs.Ytakjggmiilkmdaa
open Go.RowKit

theorem str_none {s : ByteArray} (h : s.size = 0) : s.toList.isEmpty = true ∧ s.toList = [] := by
  rw [Val.size_zero h, ByteArray.toList_eq]; exact ⟨rfl, rfl⟩
theorem str_some {s : ByteArray} (h : ¬ s.size = 0) : s.toList.isEmpty = false ∧ ¬ s.toList = [] := by
  have h2 : ¬ s.toList = [] := fun e => h (by
    rw [ByteArray.toList_eq] at e
    have : s.data.toList.length = 0 := by rw [e]; rfl
    rw [Array.length_toList] at this; exact this)
  exact ⟨by cases hl : s.toList with | nil => exact absurd hl h2 | cons a r => rfl, h2⟩
theorem ne_true {x y : Int} (h : ¬ x = y) : (x != y) = true := by simpa using h
theorem ne_false {x y : Int} (h : x = y) : (x != y) = false := by simpa using h

theorem check_any (v : Val.V) (w : World) (hf : v.f < 18446744073709551616) : Calls Try.prog 74 #[vv v] w (IsE (Val.chk v) w) := by
  obtain ⟨k, n, f, s⟩ := v
  show Calls Try.prog 74 #[.agg #[.int .i64 k, .int .i64 n, .int .u64 (f : Int), .string s]] w (IsE (Val.chk ⟨k, n, f, s⟩) w)
  simp only at hf
  by_cases hk : k < 0 ∨ 3 < k
  · rw [show Val.chk ⟨k, n, f, s⟩ = 1 from if_pos hk]
    have HN := Lib.hid (fun w => named9 k w hk)
    clear hk hf
    go_enter Try.func74, Try.ntmps74
    go_wp2_with fail
    refine (HN.out _).mono ?_; rintro e w1 ⟨rfl, b1⟩
    obtain ⟨c0, c1, c2, c3, hlt⟩ := box4 (by simpa using b1)
    have HB := Lib.hid (box4_below (by simpa using b1))
    clear b1
    go_wp2_with fail
    go_ret
    exact ⟨rfl, HB.out.alloc (by omega) _⟩
  · obtain ⟨b1, b2, b3, hb⟩ : ∃ b1 b2 b3, (k = 0 ∧ b1 = false ∧ b2 = false ∧ b3 = false) ∨ (k = 1 ∧ b1 = true ∧ b2 = false ∧ b3 = false) ∨ (k = 2 ∧ b1 = false ∧ b2 = true ∧ b3 = false) ∨ (k = 3 ∧ b1 = false ∧ b2 = false ∧ b3 = true) := by
      have : k = 0 ∨ k = 1 ∨ k = 2 ∨ k = 3 := by omega
      rcases this with h | h | h | h
      · exact ⟨_, _, _, .inl ⟨h, rfl, rfl, rfl⟩⟩
      · exact ⟨_, _, _, .inr (.inl ⟨h, rfl, rfl, rfl⟩)⟩
      · exact ⟨_, _, _, .inr (.inr (.inl ⟨h, rfl, rfl, rfl⟩))⟩
      · exact ⟨_, _, _, .inr (.inr (.inr ⟨h, rfl, rfl, rfl⟩))⟩
    have hN := isNamed_eq hb
    have e1 : b1 = true ↔ k = 1 := by rcases hb with ⟨rfl, rfl, rfl, rfl⟩ | ⟨rfl, rfl, rfl, rfl⟩ | ⟨rfl, rfl, rfl, rfl⟩ | ⟨rfl, rfl, rfl, rfl⟩ <;> simp
    have e2 : b2 = true ↔ k = 2 := by rcases hb with ⟨rfl, rfl, rfl, rfl⟩ | ⟨rfl, rfl, rfl, rfl⟩ | ⟨rfl, rfl, rfl, rfl⟩ | ⟨rfl, rfl, rfl, rfl⟩ <;> simp
    have e3 : b3 = true ↔ k = 3 := by rcases hb with ⟨rfl, rfl, rfl, rfl⟩ | ⟨rfl, rfl, rfl, rfl⟩ | ⟨rfl, rfl, rfl, rfl⟩ | ⟨rfl, rfl, rfl, rfl⟩ <;> simp
    clear hb
    unfold Val.chk
    simp only
    rw [if_neg hk]
    by_cases h1 : n ≠ 0 ∧ k ≠ 1
    · rw [if_pos h1]
      obtain rfl : b1 = false := by rw [← Bool.not_eq_true, e1]; exact h1.2
      exact check_n k n f s w b2 b3 hN (ne_true h1.1)
    · rw [if_neg h1]
      have q1 : (n != 0) = false ∨ ((n != 0) = true ∧ b1 = true) := by
        by_cases h : n = 0
        · exact .inl (ne_false h)
        · exact .inr ⟨ne_true h, e1.2 (Decidable.byContradiction fun h2 => h1 ⟨h, h2⟩)⟩
      by_cases h2 : f ≠ 0 ∧ k ≠ 2
      · rw [if_pos h2]
        obtain rfl : b2 = false := by rw [← Bool.not_eq_true, e2]; exact h2.2
        exact check_f k n f s w b1 b3 hN q1 (ne_true (by omega))
      · rw [if_neg h2]
        have q2 : ((f : Int) != 0) = false ∨ (((f : Int) != 0) = true ∧ b2 = true) := by
          by_cases h : f = 0
          · exact .inl (ne_false (by omega))
          · exact .inr ⟨ne_true (by omega), e2.2 (Decidable.byContradiction fun h3 => h2 ⟨h, h3⟩)⟩
        by_cases h3 : s.size ≠ 0 ∧ k ≠ 3
        · rw [if_pos h3]
          obtain rfl : b3 = false := by rw [← Bool.not_eq_true, e3]; exact h3.2
          exact check_s k n f s w b1 b2 hN q1 q2 (str_some h3.1).1 (str_some h3.1).2
        · rw [if_neg h3]
          have q3 : (s.toList.isEmpty = true ∧ s.toList = []) ∨ (s.toList.isEmpty = false ∧ ¬ s.toList = [] ∧ b3 = true) := by
            by_cases h : s.size = 0
            · exact .inl (str_none h)
            · exact .inr ⟨(str_some h).1, (str_some h).2, e3.2 (Decidable.byContradiction fun h4 => h3 ⟨h, h4⟩)⟩
          by_cases h4 : Num.M f ≠ f
          · rw [if_pos h4]
            exact check_m k n f s w b1 b2 b3 hN q1 q2 q3 hf (ne_true (by omega))
          · rw [if_neg h4]
            by_cases h5 : 64 < s.size
            · rw [if_pos h5]
              exact check_l k n f s w b1 b2 b3 hN q1 q2 q3 hf (ne_false (by omega)) (by omega)
            · rw [if_neg h5]
              exact check_k k n f s w b1 b2 b3 hN q1 q2 q3 hf (ne_false (by omega)) (by omega)

section
variable (n : Int) (f : Nat) (s : ByteArray) (w : World)
theorem isE_box (x : Int) (o : Obj) : IsE x w (.returned (.int .i64 x)) (w.alloc o) := ⟨rfl, (Below.refl _ w).alloc (Nat.le_refl _) _⟩
set_option maxHeartbeats 1600000 in
theorem rcheck0 : Calls Try.prog 55 #[.agg #[.int .i64 0, .int .i64 n, .int .u64 (f : Int), .string s]] w (IsE (if n = 0 ∧ f = 0 ∧ s.size = 0 then 0 else 1) w) := by
  have HX := Lib.hid (fun x o => isE_box w x o)
  by_cases h : n = 0 ∧ f = 0 ∧ s.size = 0
  · rw [if_pos h]
    obtain ⟨rfl, rfl, hs⟩ := h
    obtain ⟨h1, h2⟩ := str_none hs
    clear hs
    go_enter Try.func55, Try.ntmps55
    go_wp2_with fail
    go_ret
    exact HX.out _ _
  · rw [if_neg h]
    by_cases hn : n = 0
    · subst hn
      by_cases hf : f = 0
      · subst hf
        obtain ⟨h1, h2⟩ := str_some (fun hs => h ⟨rfl, rfl, hs⟩)
        clear h
        go_enter Try.func55, Try.ntmps55
        go_wp2_with fail
        go_ret
        exact HX.out _ _
      · clear h
        have h1 : ((f : Int) == 0) = false := by simpa using hf
        have h2 : ¬ (f : Int) = 0 := by omega
        go_enter Try.func55, Try.ntmps55
        go_wp2_with fail
        go_ret
        exact HX.out _ _
    · clear h
      have h1 : (n == 0) = false := by simpa using hn
      go_enter Try.func55, Try.ntmps55
      go_wp2_with fail
      go_ret
      exact HX.out _ _
set_option maxHeartbeats 1600000 in
theorem rcheck1 : Calls Try.prog 55 #[.agg #[.int .i64 1, .int .i64 n, .int .u64 (f : Int), .string s]] w (IsE (if f = 0 ∧ s.size = 0 then 0 else 1) w) := by
  have HX := Lib.hid (fun x o => isE_box w x o)
  by_cases hf : f = 0
  · subst hf
    by_cases hs : s.size = 0
    · rw [if_pos ⟨rfl, hs⟩]
      obtain ⟨h1, h2⟩ := str_none hs
      clear hs
      go_enter Try.func55, Try.ntmps55
      go_wp2_with fail
      go_ret
      exact HX.out _ _
    · rw [if_neg (fun h => hs h.2)]
      obtain ⟨h1, h2⟩ := str_some hs
      clear hs
      go_enter Try.func55, Try.ntmps55
      go_wp2_with fail
      go_ret
      exact HX.out _ _
  · rw [if_neg (fun h => hf h.1)]
    have h1 : ((f : Int) != 0) = true := ne_true (by omega)
    go_enter Try.func55, Try.ntmps55
    go_wp2_with fail
    go_ret
    exact HX.out _ _
set_option maxHeartbeats 1600000 in
theorem rcheck2 (hf : f < 18446744073709551616) : Calls Try.prog 55 #[.agg #[.int .i64 2, .int .i64 n, .int .u64 (f : Int), .string s]] w (IsE (if n = 0 ∧ s.size = 0 ∧ Num.M f = f then 0 else 1) w) := by
  have HX : Hid (∀ x o m, IsE x w (.returned (.int .i64 x)) ((w.alloc o).drewN m)) := Lib.hid fun x o m => ⟨rfl, ((Below.refl _ w).alloc (Nat.le_refl _) o).trans (below_drew _ _ m)⟩
  have HM : Hid (∀ w, Calls Try.prog 70 #[.int .u64 (f : Int)] w fun e w' => e = .returned (.int .u64 (Num.M f : Nat)) ∧ w' = w) := Lib.hid fun w => (rmake_any f w hf).mono fun e w' ⟨h1, h2⟩ => ⟨h1, h2.symm⟩
  clear hf
  by_cases hn : n = 0
  · subst hn
    by_cases hs : s.size = 0
    · obtain ⟨h1, h2⟩ := str_none hs
      by_cases hm : Num.M f = f
      · rw [if_pos ⟨rfl, hs, hm⟩]
        rw [hm] at HM
        have h3 : ((f : Int) != (f : Int)) = false := ne_false rfl
        clear hm hs
        go_enter Try.func55, Try.ntmps55
        go_wp2_with fail
        go_quiet (exact Calls.quiet_of_same (HM.out _))
        go_wp2_with fail
        go_ret
        exact HX.out _ _ _
      · rw [if_neg (fun h => hm h.2.2)]
        have h3 : ((f : Int) != (Num.M f : Int)) = true := ne_true (by omega)
        clear hm hs
        go_enter Try.func55, Try.ntmps55
        go_wp2_with fail
        go_quiet (exact Calls.quiet_of_same (HM.out _))
        go_wp2_with fail
        go_ret
        exact HX.out _ _ _
    · rw [if_neg (fun h => hs h.2.1)]
      obtain ⟨h1, h2⟩ := str_some hs
      clear hs
      go_enter Try.func55, Try.ntmps55
      go_wp2_with fail
      go_quiet (exact Calls.quiet_of_same (HM.out _))
      go_wp2_with fail
      go_ret
      exact HX.out _ _ _
  · rw [if_neg (fun h => hn h.1)]
    have h1 : (n != 0) = true := ne_true hn
    go_enter Try.func55, Try.ntmps55
    go_wp2_with fail
    go_quiet (exact Calls.quiet_of_same (HM.out _))
    go_wp2_with fail
    go_ret
    exact HX.out _ _ _
set_option maxHeartbeats 1600000 in
theorem rcheck3 : Calls Try.prog 55 #[.agg #[.int .i64 3, .int .i64 n, .int .u64 (f : Int), .string s]] w (IsE (if n = 0 ∧ f = 0 then (if 64 < s.size then 2 else 0) else 1) w) := by
  have HX := Lib.hid (fun x o => isE_box w x o)
  by_cases hn : n = 0
  · subst hn
    by_cases hf : f = 0
    · subst hf
      rw [if_pos ⟨rfl, rfl⟩]
      by_cases hs : 64 < s.size
      · rw [if_pos hs]
        have h1 : 64 < (s.size : Int) := by omega
        go_enter Try.func55, Try.ntmps55
        go_wp2_with fail
        go_ret
        exact HX.out _ _
      · rw [if_neg hs]
        have h1 : ¬ 64 < (s.size : Int) := by omega
        go_enter Try.func55, Try.ntmps55
        go_wp2_with fail
        go_ret
        exact HX.out _ _
    · rw [if_neg (fun h => hf h.2)]
      have h1 : ((f : Int) != 0) = true := ne_true (by omega)
      go_enter Try.func55, Try.ntmps55
      go_wp2_with fail
      go_ret
      exact HX.out _ _
  · rw [if_neg (fun h => hn h.1)]
    have h1 : (n != 0) = true := ne_true hn
    go_enter Try.func55, Try.ntmps55
    go_wp2_with fail
    go_ret
    exact HX.out _ _
set_option maxHeartbeats 1600000 in
theorem rcheck9 (k : Int) (h : k < 0 ∨ 3 < k) : Calls Try.prog 55 #[.agg #[.int .i64 k, .int .i64 n, .int .u64 (f : Int), .string s]] w (IsE 1 w) := by
  have HX := Lib.hid (fun x o => isE_box w x o)
  have h0 : ¬ k = 0 := by omega
  have h1 : ¬ k = 1 := by omega
  have h2 : ¬ k = 2 := by omega
  have h3 : ¬ k = 3 := by omega
  clear h
  go_enter Try.func55, Try.ntmps55
  go_wp2_with fail
  go_ret
  exact HX.out _ _
end
theorem rcheck_any (v : Val.V) (w : World) (hf : v.f < 18446744073709551616) : Calls Try.prog 55 #[vv v] w (IsE (Val.chk v) w) := by
  obtain ⟨k, n, f, s⟩ := v
  show Calls Try.prog 55 #[.agg #[.int .i64 k, .int .i64 n, .int .u64 (f : Int), .string s]] w (IsE (Val.chk ⟨k, n, f, s⟩) w)
  simp only at hf
  have fit : ∀ {x y : Int}, x = y → Calls Try.prog 55 #[.agg #[.int .i64 k, .int .i64 n, .int .u64 (f : Int), .string s]] w (IsE x w) → Calls Try.prog 55 #[.agg #[.int .i64 k, .int .i64 n, .int .u64 (f : Int), .string s]] w (IsE y w) := fun h => h ▸ id
  by_cases hk : k < 0 ∨ 3 < k
  · exact fit (if_pos hk).symm (rcheck9 n f s w k hk)
  · have : k = 0 ∨ k = 1 ∨ k = 2 ∨ k = 3 := by omega
    rcases this with rfl | rfl | rfl | rfl
    · refine fit ?_ (rcheck0 n f s w)
      unfold Val.chk
      simp only
      by_cases h1 : n = 0
      · by_cases h2 : f = 0
        · by_cases h3 : s.size = 0
          · subst h1 h2
            rw [if_pos ⟨rfl, rfl, h3⟩, if_neg (by decide), if_neg (by simp), if_neg (by simp), if_neg (fun h => h.1 h3), if_neg (by rw [Val.M_zero]; simp), if_neg (by omega)]
          · subst h1 h2
            rw [if_neg (fun h => h3 h.2.2), if_neg (by decide), if_neg (by simp), if_neg (by simp), if_pos ⟨h3, by decide⟩]
        · subst h1
          rw [if_neg (fun h => h2 h.2.1), if_neg (by decide), if_neg (by simp), if_pos ⟨h2, by decide⟩]
      · rw [if_neg (fun h => h1 h.1), if_neg (by decide), if_pos ⟨h1, by decide⟩]
    · refine fit ?_ (rcheck1 n f s w)
      unfold Val.chk
      simp only
      by_cases h2 : f = 0
      · subst h2
        by_cases h3 : s.size = 0
        · rw [if_pos ⟨rfl, h3⟩, if_neg (by decide), if_neg (by simp), if_neg (by simp), if_neg (fun h => h.1 h3), if_neg (by rw [Val.M_zero]; simp), if_neg (by omega)]
        · rw [if_neg (fun h => h3 h.2), if_neg (by decide), if_neg (by simp), if_neg (by simp), if_pos ⟨h3, by decide⟩]
      · rw [if_neg (fun h => h2 h.1), if_neg (by decide), if_neg (by simp), if_pos ⟨h2, by decide⟩]
    · refine fit ?_ (rcheck2 n f s w hf)
      unfold Val.chk
      simp only
      by_cases h1 : n = 0
      · subst h1
        by_cases h3 : s.size = 0
        · by_cases h4 : Num.M f = f
          · rw [if_pos ⟨rfl, h3, h4⟩, if_neg (by decide), if_neg (by simp), if_neg (by simp), if_neg (fun h => h.1 h3), if_neg (by simpa using h4), if_neg (by omega)]
          · rw [if_neg (fun h => h4 h.2.2), if_neg (by decide), if_neg (by simp), if_neg (by simp), if_neg (fun h => h.1 h3), if_pos h4]
        · rw [if_neg (fun h => h3 h.2.1), if_neg (by decide), if_neg (by simp), if_neg (by simp), if_pos ⟨h3, by decide⟩]
      · rw [if_neg (fun h => h1 h.1), if_neg (by decide), if_pos ⟨h1, by decide⟩]
    · refine fit ?_ (rcheck3 n f s w)
      by_cases h1 : n = 0
      · subst h1
        by_cases h2 : f = 0
        · subst h2
          rw [if_pos ⟨rfl, rfl⟩, Val.chk_text]
        · unfold Val.chk
          simp only
          rw [if_neg (fun h => h2 h.2), if_neg (by decide), if_neg (by simp), if_pos ⟨h2, by decide⟩]
      · unfold Val.chk
        simp only
        rw [if_neg (fun h => h1 h.1), if_neg (by decide), if_pos ⟨h1, by decide⟩]

end Go.Proofs.Ytakjggmiilkmdaa
