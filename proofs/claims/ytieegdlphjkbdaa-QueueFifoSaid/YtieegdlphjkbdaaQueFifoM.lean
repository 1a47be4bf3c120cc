/-
  What was popped is a beginning of what was pushed, what is left is the rest: kept by each push and pop.
  Pure.
-/
import Derived.Test.YtieegdlphjkbdaaQueMath
set_option linter.unusedSimpArgs false
set_option linter.unusedVariables false
namespace Go.Proofs.Ytieegdlphjkbdaa
namespace Que
structure Fifo (N : Int) (q inn out : List Val.V) : Prop where
  eq : inn = out ++ q
  rt : 1 ≤ N → N ≤ 8 → Right N q
  f : ∀ v ∈ inn, v.f < 18446744073709551616
theorem Fifo.start (N : Int) : Fifo N [] [] [] := ⟨rfl, right_nil, fun v hv => by simp at hv⟩
theorem Fifo.len {N : Int} {q inn out : List Val.V} (h : Fifo N q inn out) : inn.length = out.length + q.length := by rw [h.eq, List.length_append]
theorem pp_zero {N : Int} {q : List Val.V} (h : ppE N q = 0) : Right N q ∧ ∃ x r, q = x :: r := by
  unfold ppE at h
  split at h
  next hr =>
    split at h
    · cases h
    next hn =>
      cases q with
      | nil => exact absurd rfl hn
      | cons x r => exact ⟨hr, x, r, rfl⟩
  next => cases h
theorem Fifo.pop {N : Int} {q inn out : List Val.V} (h : Fifo N q inn out) (h0 : ppE N q = 0) : Fifo N (ppL N q) inn (out ++ [ppV N q]) ∧ out.length < inn.length := by
  obtain ⟨hr, x, r, rfl⟩ := pp_zero h0
  obtain ⟨_, e2, e3⟩ := pp_ok hr (v := x) rfl
  rw [e2, e3]
  refine ⟨⟨?_, fun h1 h2 => drop_right hr, h.f⟩, ?_⟩
  · rw [h.eq, List.append_assoc]; rfl
  · rw [h.len]; simp
theorem Fifo.stuck {N : Int} {q inn out : List Val.V} (h : Fifo N q inn out) (h0 : ¬ ppE N q = 0) (h1 : 1 ≤ N) (h2 : N ≤ 8) : ¬ out.length < inn.length := by
  have hr := h.rt h1 h2
  unfold ppE at h0
  rw [if_pos hr] at h0
  split at h0
  next hn => rw [h.len, hn]; omega
  next => exact absurd rfl h0
theorem Fifo.push {N : Int} {q inn out : List Val.V} {v : Val.V} (h : Fifo N q inn out) (hv : v.f < 18446744073709551616) (h0 : psE N q v = 0) : Fifo N (psL N q v) (inn ++ [v]) out := by
  have e : psL N q v = q ++ [v] := if_pos h0
  refine ⟨?_, fun h1 h2 => ps_right (h.rt h1 h2) v, fun x hx => ?_⟩
  · rw [e, h.eq, List.append_assoc]
  · rcases List.mem_append.1 hx with hx | hx
    · exact h.f x hx
    · rw [List.mem_singleton] at hx; subst hx; exact hv
theorem Fifo.same {N : Int} {q inn out : List Val.V} {v : Val.V} (h : Fifo N q inn out) (h0 : ¬ psE N q v = 0) : Fifo N (psL N q v) inn out := by
  rw [show psL N q v = q from if_neg h0]; exact h
theorem Fifo.refused {N : Int} {q inn out : List Val.V} {v : Val.V} (h : Fifo N q inn out) (h0 : ¬ psE N q v = 0) : N < 1 ∨ 8 < N ∨ (1 ≤ N ∧ N ≤ 8 ∧ ¬ (q.length : Int) < N) ∨ (1 ≤ N ∧ N ≤ 8 ∧ (q.length : Int) < N ∧ ¬ Val.chk v = 0) ∨ (1 ≤ N ∧ N ≤ 8 ∧ (q.length : Int) < N ∧ Val.chk v = 0 ∧ v.k = 0) := by
  by_cases h1 : 1 ≤ N
  · by_cases h2 : N ≤ 8
    · by_cases h3 : (q.length : Int) < N
      · by_cases h4 : Val.chk v = 0
        · refine .inr (.inr (.inr (.inr ⟨h1, h2, h3, h4, Decidable.byContradiction fun hk => h0 ?_⟩)))
          exact (ps_ok (h.rt h1 h2) ((vchk_some hk).trans h4) (by omega)).1
        · exact .inr (.inr (.inr (.inl ⟨h1, h2, h3, h4⟩)))
      · exact .inr (.inr (.inl ⟨h1, h2, h3⟩))
    · exact .inr (.inl (by omega))
  · exact .inl (by omega)
theorem Fifo.qf {N : Int} {q inn out : List Val.V} (h : Fifo N q inn out) : (∀ v ∈ q, v.f < 18446744073709551616) ∧ ∀ v ∈ out, v.f < 18446744073709551616 :=
  ⟨fun v hv => h.f v (by rw [h.eq]; exact List.mem_append_right _ hv), fun v hv => h.f v (by rw [h.eq]; exact List.mem_append_left _ hv)⟩
/-- Place by place. -/
theorem Fifo.at {N : Int} {q inn out : List Val.V} (h : Fifo N q inn out) {i : Nat} {x : Val.V} (hx : inn[i]? = some x) : (i < out.length → out[i]? = some x) ∧ (¬ i < out.length → q[i - out.length]? = some x) := by
  rw [h.eq] at hx
  exact ⟨fun hi => by rw [List.getElem?_append_left hi] at hx; exact hx, fun hi => by rw [List.getElem?_append_right (by omega)] at hx; exact hx⟩
end Que
end Go.Proofs.Ytieegdlphjkbdaa
