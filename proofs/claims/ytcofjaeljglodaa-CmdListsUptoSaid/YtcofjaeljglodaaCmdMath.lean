/-
  What a command is, whether it may be; requests' names, events, their items.
  Pure but for how items lie.
-/
import Derived.Test.YtcofjaeljglodaaValV
set_option linter.unusedSimpArgs false
set_option linter.unusedVariables false
namespace Go.Proofs.Ytcofjaeljglodaa
namespace Cmd
structure C where
  k : Int
  name : ByteArray
  key : ByteArray
  val : Val.V
  old : Val.V
  n : Int
  m : Int
structure E where
  c : Int
  e : Int
  r : Int
  cmd : C
/-- What a kind names: the name, the key, the old value, the value, N, M. -/
def f0 (k : Int) : Bool := decide (4 ≤ k ∧ k ≤ 17)
def f1 (k : Int) : Bool := decide (6 ≤ k ∧ k ≤ 9)
def f2 (k : Int) : Bool := decide (k = 9)
def f3 (k : Int) : Bool := decide (k = 7 ∨ k = 9 ∨ k = 10 ∨ k = 15)
def f4 (k : Int) : Bool := decide (k = 4 ∨ k = 16)
def f5 (k : Int) : Bool := decide (k = 4)
/-- Nothing. -/
def nil (v : Val.V) : Prop := v.k = 0 ∧ v.n = 0 ∧ v.f = 0 ∧ v.s.size = 0
instance (v : Val.V) : Decidable (nil v) := by unfold nil; infer_instance
/-- What a kind doesn't name is nothing. -/
def others (c : C) : Prop := (f0 c.k = true ∨ c.name.size = 0) ∧ (f1 c.k = true ∨ c.key.size = 0) ∧ (f2 c.k = true ∨ nil c.old) ∧ (f3 c.k = true ∨ nil c.val) ∧ (f4 c.k = true ∨ c.n = 0) ∧ (f5 c.k = true ∨ c.m = 0)
instance (c : C) : Decidable (others c) := by unfold others; infer_instance
/-- Its numbers may be. -/
def nums (c : C) : Prop :=
  if c.k = 16 then 0 ≤ c.n ∧ c.n ≤ 3 else if c.k ≠ 4 then True else
  if c.n = 2 then 1 ≤ c.m ∧ c.m ≤ 8 else if c.n = 4 then 1 ≤ c.m ∧ c.m ≤ 5 else 1 ≤ c.n ∧ c.n ≤ 5 ∧ c.m = 0
instance (c : C) : Decidable (nums c) := by unfold nums; infer_instance
def chk (c : C) : Int :=
  if c.k < 1 ∨ 18 < c.k ∨ ¬ others c ∨ (f0 c.k = true ∧ c.name.size = 0) then 1
  else if 16 < c.name.size ∨ 64 < c.key.size then 2
  else if Val.chk c.old ≠ 0 then Val.chk c.old
  else if Val.chk c.val ≠ 0 then Val.chk c.val
  else if (c.k = 7 ∨ c.k = 10) ∧ c.val.k = 0 then 1
  else if c.k = 15 ∧ c.val.k ≠ 2 then 7
  else if ¬ nums c then 1 else 0
/-- The ways through. -/
theorem chk_cases (c : C) : ((c.k < 1 ∨ 18 < c.k) ∧ chk c = 1) ∨ (¬ (c.k < 1 ∨ 18 < c.k) ∧ decide (others c) = false ∧ True ∧ chk c = 1) ∨
    (¬ (c.k < 1 ∨ 18 < c.k) ∧ decide (others c) = true ∧ f0 c.k = true ∧ c.name.size = 0 ∧ True ∧ chk c = 1) ∨
    (¬ (c.k < 1 ∨ 18 < c.k) ∧ decide (others c) = true ∧ ¬ (f0 c.k = true ∧ c.name.size = 0) ∧ (16 < c.name.size ∨ 64 < c.key.size) ∧ True ∧ chk c = 2) ∨
    (¬ (c.k < 1 ∨ 18 < c.k) ∧ decide (others c) = true ∧ ¬ (f0 c.k = true ∧ c.name.size = 0) ∧ ¬ (16 < c.name.size ∨ 64 < c.key.size) ∧ Val.chk c.old ≠ 0 ∧ True ∧ chk c = Val.chk c.old) ∨
    (¬ (c.k < 1 ∨ 18 < c.k) ∧ decide (others c) = true ∧ ¬ (f0 c.k = true ∧ c.name.size = 0) ∧ ¬ (16 < c.name.size ∨ 64 < c.key.size) ∧ Val.chk c.old = 0 ∧ Val.chk c.val ≠ 0 ∧ True ∧ chk c = Val.chk c.val) ∨
    (¬ (c.k < 1 ∨ 18 < c.k) ∧ decide (others c) = true ∧ ¬ (f0 c.k = true ∧ c.name.size = 0) ∧ ¬ (16 < c.name.size ∨ 64 < c.key.size) ∧ Val.chk c.old = 0 ∧ Val.chk c.val = 0 ∧
      (((c.k = 7 ∨ c.k = 10) ∧ c.val.k = 0 ∧ chk c = 1) ∨ (¬ ((c.k = 7 ∨ c.k = 10) ∧ c.val.k = 0) ∧ c.k = 15 ∧ c.val.k ≠ 2 ∧ chk c = 7) ∨ (¬ ((c.k = 7 ∨ c.k = 10) ∧ c.val.k = 0) ∧ ¬ (c.k = 15 ∧ c.val.k ≠ 2) ∧ decide (nums c) = false ∧ chk c = 1) ∨ (¬ ((c.k = 7 ∨ c.k = 10) ∧ c.val.k = 0) ∧ ¬ (c.k = 15 ∧ c.val.k ≠ 2) ∧ decide (nums c) = true ∧ chk c = 0))) := by
  unfold chk
  by_cases h1 : c.k < 1 ∨ 18 < c.k
  · refine .inl ⟨h1, ?_⟩
    rw [if_pos (by omega)]
  · by_cases h2 : others c
    · have d2 : decide (others c) = true := decide_eq_true h2
      by_cases h3 : f0 c.k = true ∧ c.name.size = 0
      · exact .inr (.inr (.inl ⟨h1, d2, h3.1, h3.2, trivial, by rw [if_pos (.inr (.inr (.inr h3)))]⟩))
      · rw [if_neg (by rintro (h | h | h | h); exact h1 (.inl h); exact h1 (.inr h); exact h h2; exact h3 h)]
        by_cases h4 : 16 < c.name.size ∨ 64 < c.key.size
        · exact .inr (.inr (.inr (.inl ⟨h1, d2, h3, h4, trivial, by rw [if_pos h4]⟩)))
        · rw [if_neg h4]
          by_cases h5 : Val.chk c.old ≠ 0
          · exact .inr (.inr (.inr (.inr (.inl ⟨h1, d2, h3, h4, h5, trivial, by rw [if_pos h5]⟩))))
          · rw [if_neg h5]
            have h5 : Val.chk c.old = 0 := Decidable.byContradiction h5
            by_cases h6 : Val.chk c.val ≠ 0
            · exact .inr (.inr (.inr (.inr (.inr (.inl ⟨h1, d2, h3, h4, h5, h6, trivial, by rw [if_pos h6]⟩)))))
            · rw [if_neg h6]
              have h6 : Val.chk c.val = 0 := Decidable.byContradiction h6
              refine .inr (.inr (.inr (.inr (.inr (.inr ⟨h1, d2, h3, h4, h5, h6, ?_⟩)))))
              by_cases h7 : (c.k = 7 ∨ c.k = 10) ∧ c.val.k = 0
              · exact .inl ⟨h7.1, h7.2, by rw [if_pos h7]⟩
              · rw [if_neg h7]
                by_cases h8 : c.k = 15 ∧ c.val.k ≠ 2
                · exact .inr (.inl ⟨h7, h8.1, h8.2, by rw [if_pos h8]⟩)
                · rw [if_neg h8]
                  by_cases h9 : nums c
                  · exact .inr (.inr (.inr ⟨h7, h8, decide_eq_true h9, by rw [if_neg (fun h => h h9)]⟩))
                  · exact .inr (.inr (.inl ⟨h7, h8, decide_eq_false h9, by rw [if_pos h9]⟩))
    · refine .inr (.inl ⟨h1, decide_eq_false h2, trivial, ?_⟩)
      rw [if_pos (.inr (.inr (.inl h2)))]
def right (e : E) : Prop := 0 ≤ e.c ∧ e.c < 5 ∧ 1 ≤ e.e ∧ 0 ≤ e.r
instance (e : E) : Decidable (right e) := by unfold right; infer_instance
def fits (e : E) : Prop := right e ∧ chk e.cmd = 0 ∧ (e.r = 0 ↔ (e.cmd.k = 1 ∨ e.cmd.k = 18))
instance (e : E) : Decidable (fits e) := by unfold fits; infer_instance
def emp : ByteArray := ⟨#[]⟩
def items (e : E) : List Itm.It :=
  [⟨0, e.c, emp⟩, ⟨0, e.e, emp⟩, ⟨0, e.r, emp⟩, ⟨0, e.cmd.k, emp⟩, ⟨1, 0, e.cmd.name⟩, ⟨1, 0, e.cmd.key⟩] ++ Val.items e.cmd.val ++ Val.items e.cmd.old ++ [⟨0, e.cmd.n, emp⟩, ⟨0, e.cmd.m, emp⟩]
/-- The kinds, as the switches part them. -/
theorem kinds (k : Int) : k = 4 ∨ (k = 5 ∨ k = 11 ∨ k = 12 ∨ k = 13 ∨ k = 14 ∨ k = 17) ∨ (k = 6 ∨ k = 8) ∨ k = 7 ∨ k = 9 ∨ (k = 10 ∨ k = 15) ∨ k = 16 ∨ (k < 4 ∨ 17 < k) := by omega
theorem flags_none {k : Int} (h : k < 4 ∨ 17 < k) : f0 k = false ∧ f1 k = false ∧ f2 k = false ∧ f3 k = false ∧ f4 k = false ∧ f5 k = false := by
  unfold f0 f1 f2 f3 f4 f5
  refine ⟨?_, ?_, ?_, ?_, ?_, ?_⟩ <;> simp <;> omega
theorem size_emp {s : ByteArray} (h : s.size = 0) : s = emp := Val.size_zero h
end Cmd
end Go.Proofs.Ytcofjaeljglodaa
