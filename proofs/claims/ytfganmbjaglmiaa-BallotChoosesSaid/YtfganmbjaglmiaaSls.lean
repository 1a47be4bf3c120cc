/-
  Slices of things of one kind that were handed in, or are the call's own: what is known of them; places in them, parts of them.
  Pure of the program: whatever type lies so. No condition but those named.
-/
import Derived.Test.YtfganmbjaglmiaaKn
import Derived.Deep.RegionWith
import Derived.Deep.RegionHeld3
import Derived.Deep.Draws
import Derived.Lib.Hide
set_option linter.unusedSimpArgs false
set_option linter.unusedVariables false
namespace Go.Proofs.Ytfganmbjaglmiaa
open Go.RowKit

section
variable {P : Program} {α : Type} {La : Lay P α} {F : α → Prop}
/-- Things that fit: each is as F says, and they are no more than the form's reach. -/
structure Fits (La : Lay P α) (F : α → Prop) (l : List α) : Prop where
  fs : ∀ x ∈ l, F x
  big : l.length * La.bytes ≤ 140737488355328
/-- A slice that reads so. -/
structure Sls (La : Lay P α) (F : α → Prop) (w : World) (A : Option Addr) (n c : Nat) (l : List α) : Prop where
  len : l.length = n
  cap : n ≤ c
  rd : La.Reads w w.heap.size A l
  nl : A = none → l = []
  fit : Fits La F l
theorem Sls.later {w w' : World} {A : Option Addr} {n c : Nat} {l : List α} (h : Sls La F w A n c l) (hb : Below w.heap.size w w') : Sls La F w' A n c l :=
  ⟨h.len, h.cap, h.rd.later hb (Nat.le_refl _), h.nl, h.fit⟩
theorem Sls.none (w : World) : Sls La F w none 0 0 [] := ⟨rfl, Nat.le_refl _, Lay.Reads.nil _ _ _, fun _ => rfl, ⟨(fun x hx => by simp at hx), by simp⟩⟩
theorem Sls.big {w : World} {A : Option Addr} {n c : Nat} {l : List α} (h : Sls La F w A n c l) : n * La.bytes ≤ 140737488355328 := by rw [← h.len]; exact h.fit.big
theorem Sls.get {w : World} {A : Option Addr} {n c : Nat} {l : List α} (h : Sls La F w A n c l) {k : Nat} (hk : k < n) : ∃ x, l[k]? = some x ∧ F x := by
  obtain ⟨x, hx⟩ := Lay.get_of (l := l) (k := k) (by rw [h.len]; exact hk)
  exact ⟨x, hx, h.fit.fs x (List.mem_of_getElem? hx)⟩
theorem Lay.Own.rd {w : World} {b : Nat} {A : Option Addr} {n c : Nat} {l : List α} (h : La.Own b w (.slice A n c) l) : La.Reads w w.heap.size A l ∧ (A = Option.none → l = []) := by
  have hr := h.reads
  refine ⟨hr.2, fun hA => ?_⟩
  subst hA
  rcases h.2 with ⟨_, h0⟩ | ⟨g, cap, cur, e, _⟩
  · exact List.length_eq_zero_iff.1 h0
  · cases e
/-- Of the call's own. -/
theorem Sls.own {w : World} {base : Nat} {A : Option Addr} {n c : Nat} {l : List α} (h : La.Own base w (.slice A n c) l) (hfit : Fits La F l) : Sls La F w A n c l := by
  have hn := h.reads.1
  subst hn
  exact ⟨rfl, h.cap, h.rd.1, h.rd.2, hfit⟩
/-- Where it begins, if it isn't empty. -/
theorem Sls.at {w : World} {A : Option Addr} {n c : Nat} {l : List α} (h : Sls La F w A n c l) (hn : 0 < n) : ∃ b o, A = some ⟨b, o, Option.none⟩ ∧
    ∀ W, Below w.heap.size w W → ∀ i x, l[i]? = some x → ∀ j v, (La.f x)[j]? = some v → W.cell? ⟨b, o + i * La.k + j, Option.none⟩ = some v := by
  have hl := h.len
  obtain ⟨b, o, rfl, hb, hc⟩ := h.rd (by omega)
  exact ⟨b, o, rfl, fun W hW i x hx j v hv => (hW.cell (p := ⟨b, o + i * La.k + j, Option.none⟩) hb).trans (hc i x hx j v hv)⟩
theorem Sls.cells {w : World} {b o n c : Nat} {l : List α} (h : Sls La F w (some ⟨b, o, Option.none⟩) n c l) {i : Nat} {x : α} (hx : l[i]? = some x) : ∀ j v, (La.f x)[j]? = some v → w.cell? ⟨b, o + i * La.k + j, Option.none⟩ = some v := by
  have hi := (List.getElem?_eq_some_iff.1 hx).1
  obtain ⟨b', o', e, hat⟩ := h.at (by rw [← h.len]; omega)
  injection e with e
  injection e with e1 e2
  subst e1 e2
  exact hat w (Below.refl _ w) i x hx
theorem Fits.sub {l m : List α} (h : Fits La F l) (hm : ∀ x ∈ m, x ∈ l) (hn : m.length ≤ l.length) : Fits La F m :=
  ⟨fun x hx => h.fs x (hm x hx), Nat.le_trans (Nat.mul_le_mul_right _ hn) h.big⟩
theorem Sls.take {w : World} {A : Option Addr} {n c : Nat} {l : List α} (h : Sls La F w A n c l) {hi : Nat} (h2 : hi ≤ n) : Sls La F w A hi c (l.take hi) :=
  ⟨by rw [List.length_take, h.len]; omega, Nat.le_trans h2 h.cap, h.rd.take hi, (fun e => by rw [h.nl e]; simp), h.fit.sub (fun x hx => List.mem_of_mem_take hx) (by rw [List.length_take]; omega)⟩
/-- Some of it: from one place to another. -/
def subA (k : Nat) (A : Option Addr) (lo c : Nat) : Option Addr := if c = lo then A else A.map (·.add (lo * k))
theorem Sls.sub {w : World} {A : Option Addr} {n c : Nat} {l : List α} (h : Sls La F w A n c l) {lo hi : Nat} (h1 : lo ≤ hi) (h2 : hi ≤ n) : Sls La F w (subA La.k A lo c) (hi - lo) (c - lo) ((l.drop lo).take (hi - lo)) := by
  have hl := h.len
  have hc := h.cap
  have hle : ((l.drop lo).take (hi - lo)).length = hi - lo := by rw [List.length_take, List.length_drop]; omega
  have hft : Fits La F ((l.drop lo).take (hi - lo)) := h.fit.sub (fun x hx => List.mem_of_mem_drop (List.mem_of_mem_take hx)) (by omega)
  by_cases h0 : hi - lo = 0
  · have he : (l.drop lo).take (hi - lo) = [] := by rw [h0]; rfl
    rw [he] at hft ⊢
    exact ⟨by rw [h0]; rfl, by omega, Lay.Reads.nil _ _ _, fun _ => rfl, hft⟩
  · obtain ⟨b, o, rfl, hb', hc'⟩ := h.rd (by omega)
    have hA : subA La.k (some ⟨b, o, Option.none⟩) lo c = some ⟨b, o + lo * La.k, Option.none⟩ := by
      unfold subA
      rw [if_neg (by omega), Option.map_some, Lay.add_at]
    rw [hA]
    exact ⟨hle, by omega, (h.rd.drop lo).take (hi - lo), (fun e => by cases e), hft⟩
theorem Sls.drop {w : World} {A : Option Addr} {n c : Nat} {l : List α} (h : Sls La F w A n c l) {lo : Nat} (h2 : lo ≤ n) : Sls La F w (subA La.k A lo c) (n - lo) (c - lo) (l.drop lo) := by
  have h3 := h.sub h2 (Nat.le_refl n)
  rw [List.take_of_length_le (by rw [List.length_drop, h.len]; exact Nat.le_refl _)] at h3
  exact h3
end
section
variable {P : Program} {α : Type} (La : Lay P α) {o : Oper} {a : Act} {w : World}
theorem Lay.elem : P.elem La.t = La.e := by simp [Program.elem, La.und]
theorem Lay.und' : P.underlying La.t = some (.slice (P.elem La.t)) := by rw [La.elem]; exact La.und
theorem Lay.size_run (w : World) : (sizeOf (P.elem La.t)).run P w = .ok La.k w := by
  rw [La.elem]
  obtain ⟨i0, hi, hz0, hz1, hz2⟩ := info_parts La.info
  simp [sizeOf, typeInfo, hi, hz1]
theorem exec_sls_h {A : Option Addr} {n c hi : Nat} (x q : Operand) (ho : o.op = .slice La.t x none (some q) none) (hx : a.eval x = .slice A n c) (hq : a.eval q = .int .i64 (hi : Int)) (h2 : hi ≤ c) :
    (execOp a.eval o).run P w = .ok (.value (.slice A hi c)) w := by
  unfold execOp
  simp only [ho, Option.map_some, Option.map_none, hx, hq]
  have h := run_sliceAt_slice (w := w) La.t (.slice A n c) none (some (.int .i64 (hi : Int))) none La.und'
  rw [run_slice_h w La.t A n c La.und' .i64 (hi : Int) (by omega) (by omega), La.size_run] at h
  simp [h, Result.andThen, sliced]
  intro _
  cases A <;> simp [Addr.add]
theorem exec_slx {b off n c i : Nat} (x q : Operand) (ho : o.op = .indexAddr La.t x q) (hx : a.eval x = .slice (some ⟨b, off, none⟩) n c) (hq : a.eval q = .int .i64 (i : Int)) (h : i < n) :
    (execOp a.eval o).run P w = .ok (.value (.pointer (some ⟨b, off + i * La.k, none⟩))) w := by
  unfold execOp
  simp only [ho, hx, hq]
  have h1 := run_indexAt_slice (w := w) La.t ⟨b, off, none⟩ n c .i64 (i : Int) La.und'
  rw [La.size_run] at h1
  have h2 : (0 : Int) ≤ (i : Int) ∧ (i : Int) < (n : Int) := by omega
  simp [h1, h2, h, Result.andThen, Lay.add_at]
theorem exec_sls_l {A : Option Addr} {n c lo : Nat} (x p : Operand) (ho : o.op = .slice La.t x (some p) none none) (hx : a.eval x = .slice A n c) (hp : a.eval p = .int .i64 (lo : Int)) (h1 : lo ≤ n) :
    (execOp a.eval o).run P w = .ok (.value (.slice (subA La.k A lo c) (n - lo) (c - lo))) w := by
  unfold execOp
  simp only [ho, Option.map_some, Option.map_none, hx, hp]
  have h := run_sliceAt_slice (w := w) La.t (.slice A n c) (some (.int .i64 (lo : Int))) none none La.und'
  rw [run_slice_l w La.t A n c La.und' .i64 (lo : Int) (by omega) (by omega), La.size_run] at h
  simp [h, Result.andThen, sliced, subA]
theorem exec_sls_lh {A : Option Addr} {n c lo hi : Nat} (x p q : Operand) (ho : o.op = .slice La.t x (some p) (some q) none) (hx : a.eval x = .slice A n c) (hp : a.eval p = .int .i64 (lo : Int)) (hq : a.eval q = .int .i64 (hi : Int)) (h1 : lo ≤ hi) (h2 : hi ≤ c) :
    (execOp a.eval o).run P w = .ok (.value (.slice (subA La.k A lo c) (hi - lo) (c - lo))) w := by
  unfold execOp
  simp only [ho, Option.map_some, Option.map_none, hx, hp, hq]
  have h := run_sliceAt_slice (w := w) La.t (.slice A n c) (some (.int .i64 (lo : Int))) (some (.int .i64 (hi : Int))) none La.und'
  rw [run_slice_lh w La.t A n c La.und' .i64 .i64 (lo : Int) (hi : Int) (by omega) (by omega) (by omega), La.size_run] at h
  simp [h, Result.andThen, sliced, subA]
/-- A load of one thing, a struct. -/
theorem exec_slv {b off : Nat} {x : α} {fs : Array Field} (p : Operand) (ho : o.op = .load La.e p) (hx : a.eval p = .pointer (some ⟨b, off, none⟩)) (hs : P.underlying La.e = some (.struct fs)) (hc : ∀ j v, (La.f x)[j]? = some v → w.cell? ⟨b, off + j, none⟩ = some v) :
    (execOp a.eval o).run P w = .ok (.value (.agg (La.f x).toArray)) w := by
  obtain ⟨i0, hi, hz0, hz1, hz2⟩ := info_parts La.info
  have hr : w.rangeAt b off (La.f x) := fun j v hj => hc j v hj
  have h := run_loadVar_mid (P := P) w b off La.e (La.f x) _ hr hs rfl (by rw [hi, La.len]; simp [hz1])
  unfold execOp
  simp only [ho, hx, Instr.loadAt, Instr.sureAddr, Sem.run_bind, Sem.run_pure, Result.andThen_ok, h]
end
end Go.Proofs.Ytfganmbjaglmiaa
