/-
  Slices of things of one kind that were handed in, or are the call's own: what is known of them; places in them, parts of them.
  Pure of the program: whatever type lies so. No condition but those named.
  Things of one kind, whatever they are: blocks that hold one, slices of them that are made, slices of slices; what is told new, or as it was handed in; pieces put together.
  Pure of the program: whatever type lies so. No condition but those named.
-/
import Derived.Test.YtakjggmiilkmdaaKn
import Derived.Deep.RegionWith
import Derived.Deep.RegionHeld3
import Derived.Deep.Draws
import Derived.Lib.Hide
import Derived.Great.BuildSlice
set_option linter.unusedSimpArgs false
set_option linter.unusedVariables false
namespace Go.Proofs.Ytakjggmiilkmdaa
open Go.RowKit

section
variable {P : Program} {α : Type} {La : Lay P α} {F : α → Prop}
/-- Things that fit: each is as F says, and they are no more than the form's reach. -/
structure Fits (La : Lay P α) (F : α → Prop) (l : List α) : Prop where
  fs : ∀ x ∈ l, F x
  big : l.length * La.bytes ≤ 140737488355328
/-- A slice that reads so. -/
structure Sls (La : Lay P α) (F : α → Prop) (w : World) (A : Option Addr) (n c : Nat) (l : List α) : Prop where
  len : l.length = n
  cap : n ≤ c
  rd : La.Reads w w.heap.size A l
  nl : A = none → l = []
  fit : Fits La F l
theorem Sls.later {w w' : World} {A : Option Addr} {n c : Nat} {l : List α} (h : Sls La F w A n c l) (hb : Below w.heap.size w w') : Sls La F w' A n c l :=
  ⟨h.len, h.cap, h.rd.later hb (Nat.le_refl _), h.nl, h.fit⟩
theorem Sls.none (w : World) : Sls La F w none 0 0 [] := ⟨rfl, Nat.le_refl _, Lay.Reads.nil _ _ _, fun _ => rfl, ⟨(fun x hx => by simp at hx), by simp⟩⟩
theorem Sls.big {w : World} {A : Option Addr} {n c : Nat} {l : List α} (h : Sls La F w A n c l) : n * La.bytes ≤ 140737488355328 := by rw [← h.len]; exact h.fit.big
theorem Sls.get {w : World} {A : Option Addr} {n c : Nat} {l : List α} (h : Sls La F w A n c l) {k : Nat} (hk : k < n) : ∃ x, l[k]? = some x ∧ F x := by
  obtain ⟨x, hx⟩ := Lay.get_of (l := l) (k := k) (by rw [h.len]; exact hk)
  exact ⟨x, hx, h.fit.fs x (List.mem_of_getElem? hx)⟩
theorem Lay.Own.rd {w : World} {b : Nat} {A : Option Addr} {n c : Nat} {l : List α} (h : La.Own b w (.slice A n c) l) : La.Reads w w.heap.size A l ∧ (A = Option.none → l = []) := by
  have hr := h.reads
  refine ⟨hr.2, fun hA => ?_⟩
  subst hA
  rcases h.2 with ⟨_, h0⟩ | ⟨g, cap, cur, e, _⟩
  · exact List.length_eq_zero_iff.1 h0
  · cases e
/-- Of the call's own. -/
theorem Sls.own {w : World} {base : Nat} {A : Option Addr} {n c : Nat} {l : List α} (h : La.Own base w (.slice A n c) l) (hfit : Fits La F l) : Sls La F w A n c l := by
  have hn := h.reads.1
  subst hn
  exact ⟨rfl, h.cap, h.rd.1, h.rd.2, hfit⟩
/-- Where it begins, if it isn't empty. -/
theorem Sls.at {w : World} {A : Option Addr} {n c : Nat} {l : List α} (h : Sls La F w A n c l) (hn : 0 < n) : ∃ b o, A = some ⟨b, o, Option.none⟩ ∧
    ∀ W, Below w.heap.size w W → ∀ i x, l[i]? = some x → ∀ j v, (La.f x)[j]? = some v → W.cell? ⟨b, o + i * La.k + j, Option.none⟩ = some v := by
  have hl := h.len
  obtain ⟨b, o, rfl, hb, hc⟩ := h.rd (by omega)
  exact ⟨b, o, rfl, fun W hW i x hx j v hv => (hW.cell (p := ⟨b, o + i * La.k + j, Option.none⟩) hb).trans (hc i x hx j v hv)⟩
theorem Sls.cells {w : World} {b o n c : Nat} {l : List α} (h : Sls La F w (some ⟨b, o, Option.none⟩) n c l) {i : Nat} {x : α} (hx : l[i]? = some x) : ∀ j v, (La.f x)[j]? = some v → w.cell? ⟨b, o + i * La.k + j, Option.none⟩ = some v := by
  have hi := (List.getElem?_eq_some_iff.1 hx).1
  obtain ⟨b', o', e, hat⟩ := h.at (by rw [← h.len]; omega)
  injection e with e
  injection e with e1 e2
  subst e1 e2
  exact hat w (Below.refl _ w) i x hx
theorem Fits.sub {l m : List α} (h : Fits La F l) (hm : ∀ x ∈ m, x ∈ l) (hn : m.length ≤ l.length) : Fits La F m :=
  ⟨fun x hx => h.fs x (hm x hx), Nat.le_trans (Nat.mul_le_mul_right _ hn) h.big⟩
theorem Sls.take {w : World} {A : Option Addr} {n c : Nat} {l : List α} (h : Sls La F w A n c l) {hi : Nat} (h2 : hi ≤ n) : Sls La F w A hi c (l.take hi) :=
  ⟨by rw [List.length_take, h.len]; omega, Nat.le_trans h2 h.cap, h.rd.take hi, (fun e => by rw [h.nl e]; simp), h.fit.sub (fun x hx => List.mem_of_mem_take hx) (by rw [List.length_take]; omega)⟩
/-- Some of it: from one place to another. -/
def subA (k : Nat) (A : Option Addr) (lo c : Nat) : Option Addr := if c = lo then A else A.map (·.add (lo * k))
theorem Sls.sub {w : World} {A : Option Addr} {n c : Nat} {l : List α} (h : Sls La F w A n c l) {lo hi : Nat} (h1 : lo ≤ hi) (h2 : hi ≤ n) : Sls La F w (subA La.k A lo c) (hi - lo) (c - lo) ((l.drop lo).take (hi - lo)) := by
  have hl := h.len
  have hc := h.cap
  have hle : ((l.drop lo).take (hi - lo)).length = hi - lo := by rw [List.length_take, List.length_drop]; omega
  have hft : Fits La F ((l.drop lo).take (hi - lo)) := h.fit.sub (fun x hx => List.mem_of_mem_drop (List.mem_of_mem_take hx)) (by omega)
  by_cases h0 : hi - lo = 0
  · have he : (l.drop lo).take (hi - lo) = [] := by rw [h0]; rfl
    rw [he] at hft ⊢
    exact ⟨by rw [h0]; rfl, by omega, Lay.Reads.nil _ _ _, fun _ => rfl, hft⟩
  · obtain ⟨b, o, rfl, hb', hc'⟩ := h.rd (by omega)
    have hA : subA La.k (some ⟨b, o, Option.none⟩) lo c = some ⟨b, o + lo * La.k, Option.none⟩ := by
      unfold subA
      rw [if_neg (by omega), Option.map_some, Lay.add_at]
    rw [hA]
    exact ⟨hle, by omega, (h.rd.drop lo).take (hi - lo), (fun e => by cases e), hft⟩
theorem Sls.drop {w : World} {A : Option Addr} {n c : Nat} {l : List α} (h : Sls La F w A n c l) {lo : Nat} (h2 : lo ≤ n) : Sls La F w (subA La.k A lo c) (n - lo) (c - lo) (l.drop lo) := by
  have h3 := h.sub h2 (Nat.le_refl n)
  rw [List.take_of_length_le (by rw [List.length_drop, h.len]; exact Nat.le_refl _)] at h3
  exact h3
end
section
variable {P : Program} {α : Type} (La : Lay P α) {o : Oper} {a : Act} {w : World}
theorem Lay.elem : P.elem La.t = La.e := by simp [Program.elem, La.und]
theorem Lay.und' : P.underlying La.t = some (.slice (P.elem La.t)) := by rw [La.elem]; exact La.und
theorem Lay.size_run (w : World) : (sizeOf (P.elem La.t)).run P w = .ok La.k w := by
  rw [La.elem]
  obtain ⟨i0, hi, hz0, hz1, hz2⟩ := info_parts La.info
  simp [sizeOf, typeInfo, hi, hz1]
theorem exec_sls_h {A : Option Addr} {n c hi : Nat} (x q : Operand) (ho : o.op = .slice La.t x none (some q) none) (hx : a.eval x = .slice A n c) (hq : a.eval q = .int .i64 (hi : Int)) (h2 : hi ≤ c) :
    (execOp a.eval o).run P w = .ok (.value (.slice A hi c)) w := by
  unfold execOp
  simp only [ho, Option.map_some, Option.map_none, hx, hq]
  have h := run_sliceAt_slice (w := w) La.t (.slice A n c) none (some (.int .i64 (hi : Int))) none La.und'
  rw [run_slice_h w La.t A n c La.und' .i64 (hi : Int) (by omega) (by omega), La.size_run] at h
  simp [h, Result.andThen, sliced]
  intro _
  cases A <;> simp [Addr.add]
theorem exec_slx {b off n c i : Nat} (x q : Operand) (ho : o.op = .indexAddr La.t x q) (hx : a.eval x = .slice (some ⟨b, off, none⟩) n c) (hq : a.eval q = .int .i64 (i : Int)) (h : i < n) :
    (execOp a.eval o).run P w = .ok (.value (.pointer (some ⟨b, off + i * La.k, none⟩))) w := by
  unfold execOp
  simp only [ho, hx, hq]
  have h1 := run_indexAt_slice (w := w) La.t ⟨b, off, none⟩ n c .i64 (i : Int) La.und'
  rw [La.size_run] at h1
  have h2 : (0 : Int) ≤ (i : Int) ∧ (i : Int) < (n : Int) := by omega
  simp [h1, h2, h, Result.andThen, Lay.add_at]
theorem exec_sls_l {A : Option Addr} {n c lo : Nat} (x p : Operand) (ho : o.op = .slice La.t x (some p) none none) (hx : a.eval x = .slice A n c) (hp : a.eval p = .int .i64 (lo : Int)) (h1 : lo ≤ n) :
    (execOp a.eval o).run P w = .ok (.value (.slice (subA La.k A lo c) (n - lo) (c - lo))) w := by
  unfold execOp
  simp only [ho, Option.map_some, Option.map_none, hx, hp]
  have h := run_sliceAt_slice (w := w) La.t (.slice A n c) (some (.int .i64 (lo : Int))) none none La.und'
  rw [run_slice_l w La.t A n c La.und' .i64 (lo : Int) (by omega) (by omega), La.size_run] at h
  simp [h, Result.andThen, sliced, subA]
theorem exec_sls_lh {A : Option Addr} {n c lo hi : Nat} (x p q : Operand) (ho : o.op = .slice La.t x (some p) (some q) none) (hx : a.eval x = .slice A n c) (hp : a.eval p = .int .i64 (lo : Int)) (hq : a.eval q = .int .i64 (hi : Int)) (h1 : lo ≤ hi) (h2 : hi ≤ c) :
    (execOp a.eval o).run P w = .ok (.value (.slice (subA La.k A lo c) (hi - lo) (c - lo))) w := by
  unfold execOp
  simp only [ho, Option.map_some, Option.map_none, hx, hp, hq]
  have h := run_sliceAt_slice (w := w) La.t (.slice A n c) (some (.int .i64 (lo : Int))) (some (.int .i64 (hi : Int))) none La.und'
  rw [run_slice_lh w La.t A n c La.und' .i64 .i64 (lo : Int) (hi : Int) (by omega) (by omega) (by omega), La.size_run] at h
  simp [h, Result.andThen, sliced, subA]
/-- A load of one thing, a struct. -/
theorem exec_slv {b off : Nat} {x : α} {fs : Array Field} (p : Operand) (ho : o.op = .load La.e p) (hx : a.eval p = .pointer (some ⟨b, off, none⟩)) (hs : P.underlying La.e = some (.struct fs)) (hc : ∀ j v, (La.f x)[j]? = some v → w.cell? ⟨b, off + j, none⟩ = some v) :
    (execOp a.eval o).run P w = .ok (.value (.agg (La.f x).toArray)) w := by
  obtain ⟨i0, hi, hz0, hz1, hz2⟩ := info_parts La.info
  have hr : w.rangeAt b off (La.f x) := fun j v hj => hc j v hj
  have h := run_loadVar_mid (P := P) w b off La.e (La.f x) _ hr hs rfl (by rw [hi, La.len]; simp [hz1])
  unfold execOp
  simp only [ho, hx, Instr.loadAt, Instr.sureAddr, Sem.run_bind, Sem.run_pure, Result.andThen_ok, h]
end
end Go.Proofs.Ytakjggmiilkmdaa
set_option linter.unusedSimpArgs false
set_option linter.unusedVariables false
namespace Go.Proofs.Ytakjggmiilkmdaa
open Go.RowKit

section
variable {P : Program} {α : Type} (La : Lay P α) {b0 : Nat} {w0 w : World} {L : List (Nat × TypeId × Array Value)} {R : List RowE} {ops : Array Oper} {rest : List Oper} {o : Oper} {a : Act} {Q : Exit → Act → World → Prop} {K : Act → World → Prop} {E : Prop} {g : Nat}
/-- A thing's block: made, stored whole, loaded whole. -/
theorem Lay.run_alloc (w : World) : (Instr.alloc La.e true (.tuple #[])).run P w = .ok (.pointer (some ⟨w.heap.size, 0, none⟩)) (w.alloc (.cells La.z.cells La.e)) := by
  obtain ⟨i0, hi, hz0, hz1, hz2⟩ := info_parts La.info
  simp [Instr.alloc, zeroValue, typeInfo, hi, hz0, newVar, newRow]
theorem wpList_ak (HK : Hid (Kn b0 w0 w L R)) (hgd : o.guard = none) (ho : o.op = .alloc La.e)
    (h : ∀ w' g, Hid (Kn b0 w0 w' (L ++ [(g, La.e, La.z.cells)]) R) → wpList P ops Q rest (a.put o.dst (.pointer (some ⟨g, 0, none⟩))) w') : wpList P ops Q (o :: rest) a w :=
  wpList_plain hgd fun K hK => by
    have h4 := h _ w.heap.size (Lib.hid (HK.out.alloc La.e La.z.cells))
    unfold Oper.wp execOp
    simp only [ho, Sem.run_bind, Sem.run_pure, La.run_alloc, Result.andThen_ok]
    exact hK _ _ h4
theorem Lay.size_info : (P.info? La.e).map (·.size) = some La.k := by
  obtain ⟨i0, hi, hz0, hz1, hz2⟩ := info_parts La.info
  rw [hi]; simp [hz1]
theorem Lay.all_one (p : α) : (La.f p).toArray.all (·.oneCell') = true := by
  rw [List.all_toArray, List.all_eq_true]
  exact La.one p
theorem wpList_st {p2 : α} {cs : Array Value} (HK : Hid (Kn b0 w0 w L R)) (i : Nat) (hgd : o.guard = none) (p q : Operand) (ho : o.op = .store La.e p q) (hL : L[i]? = some (g, La.e, cs)) (hcs : cs.size = La.k) (hx : a.eval p = .pointer (some ⟨g, 0, none⟩)) (hy : a.eval q = .agg (La.f p2).toArray)
    (h : ∀ w', Hid (Kn b0 w0 w' (L.set i (g, La.e, (La.f p2).toArray)) R) → wpList P ops Q rest (a.put o.dst undef) w') : wpList P ops Q (o :: rest) a w :=
  wpList_ss HK i hgd _ p q ho hL hx hy (by rw [hcs]; simp [La.len]) (by rw [La.size_info]; simp [La.len]) (La.all_one p2) fun w' h1 h2 => h w' (by
    have e : putCells cs 0 (La.f p2).toArray.toList = (La.f p2).toArray := by
      rw [putCells_all (by simp [hcs, La.len]), Array.toArray_toList]
    rw [e] at h1
    exact h1)
theorem step_st {p2 : α} {cs : Array Value} (HK : Hid (Kn b0 w0 w L R)) (i : Nat) (hgd : o.guard = none) (p q : Operand) (ho : o.op = .store La.e p q) (hL : L[i]? = some (g, La.e, cs)) (hcs : cs.size = La.k) (hx : a.eval p = .pointer (some ⟨g, 0, none⟩)) (hy : a.eval q = .agg (La.f p2).toArray)
    (h : ∀ w', Hid (Kn b0 w0 w' (L.set i (g, La.e, (La.f p2).toArray)) R) → K (a.put o.dst undef) w') : if Region.wanted o (yielded ops a.tmps) = true then Oper.wp P o a w K Q else E :=
  step_ss HK i hgd _ p q ho hL hx hy (by rw [hcs]; simp [La.len]) (by rw [La.size_info]; simp [La.len]) (La.all_one p2) fun w' h1 h2 => h w' (by
    have e : putCells cs 0 (La.f p2).toArray.toList = (La.f p2).toArray := by
      rw [putCells_all (by simp [hcs, La.len]), Array.toArray_toList]
    rw [e] at h1
    exact h1)
theorem kexec_ld {p : α} {fs : Array Field} (hs : P.underlying La.e = some (.struct fs)) (HK : Hid (Kn b0 w0 w L R)) (i : Nat) (x : Operand) (ho : o.op = .load La.e x) (hL : L[i]? = some (g, La.e, (La.f p).toArray)) (hx : a.eval x = .pointer (some ⟨g, 0, none⟩)) :
    (execOp a.eval o).run P w = .ok (.value (.agg (La.f p).toArray)) w :=
  kexec_ls HK _ x ho i hL hx (La.f p).toArray (fun j _ => by rw [Nat.zero_add]) hs (by rw [La.size_info]; simp [La.len])
/-- A made slice of things. -/
theorem Lay.run_mk (w : World) (l : List α) (vs : List Value) (hv : vs.map (fun v => v.cells.toList) = l.map La.f) (n : Nat) (hn : n = l.length) (hsm : n * La.k ≤ 65536) (parts : Array (Nat × Value)) (hp : parts.toList = (vs.zipIdx 0).map fun x => (x.2, x.1)) :
    (Instr.buildSlice La.t n parts).run P w = .ok (.slice (some ⟨w.heap.size, 0, none⟩) n n) (w.alloc (.cells (La.flat l).toArray La.e)) := by
  obtain ⟨i0, hi, hz0, hz1, hz2⟩ := info_parts La.info
  have hlen : vs.length = l.length := by have := congrArg List.length hv; simpa using this
  have hfl : (vs.flatMap fun v => v.cells.toList) = La.flat l := by
    unfold Lay.flat
    rw [List.flatMap_def, List.flatMap_def, hv]
  by_cases h0 : l = []
  · subst h0
    have hvs : vs = [] := List.length_eq_zero_iff.1 hlen
    subst hvs
    have hpp : parts = #[] := Array.toList_inj.1 (by rw [hp]; rfl)
    subst hpp
    obtain rfl : n = 0 := hn
    simp [Instr.buildSlice, run_underlying La.und, sizeOf, typeInfo, hi, Instr.fill, newRow, Lay.flat]
    rw [show Array.range 0 = #[] from Array.eq_empty_of_size_eq_zero (by simp), Array.map_empty]
  · have hpos : 0 < l.length := List.length_pos_iff.2 h0
    have hk := La.pos
    have hne : ¬ n * i0.size = 0 := by
      rw [hz1, hn]
      exact Nat.ne_of_gt (Nat.mul_pos hpos hk)
    refine Go.run_buildSlice w La.t La.e n parts _ i0 La.z La.und hi hz0 (by rw [hz1]; omega) hne ?_
    rw [hp, hz1]
    have h1 : ∀ v ∈ vs, v.cells.size = La.k := fun v hvm => by
      have : v.cells.toList ∈ l.map La.f := by rw [← hv]; exact List.mem_map.2 ⟨v, hvm, rfl⟩
      obtain ⟨x, _, hx⟩ := List.mem_map.1 this
      rw [← La.len x, hx, Array.length_toList]
    rw [Great.fill_whole hk vs _ h1 (by simp [hlen, hn]), hfl]
theorem Kn.mkS (h : Kn b0 w0 w L R) (l : List α) (n : Nat) (hn : n = l.length) (hl : n ≤ 65536) :
    Kn b0 w0 (w.alloc (.cells (La.flat l).toArray La.e)) L (R ++ [row La (.slice (some ⟨w.heap.size, 0, none⟩) n n) l]) :=
  h.called ((Below.refl _ w).alloc (Nat.le_refl _) _) (Lay.Own.new w l _ _ _ _ rfl (Nat.le_refl _) rfl hn hn (by omega))
theorem kwp_mk (HK : Hid (Kn b0 w0 w L R)) (l : List α) (n : Nat) (parts : Array (Nat × Operand)) (ho : o.op = .buildSlice La.t n parts) (vs : List Value) (hp : (parts.map fun (i, x) => (i, a.eval x)).toList = (vs.zipIdx 0).map fun x => (x.2, x.1)) (hv : vs.map (fun v => v.cells.toList) = l.map La.f) (hn : n = l.length) (hsm : n * La.k ≤ 65536)
    (h : ∀ w' g, Hid (Kn b0 w0 w' L (R ++ [row La (.slice (some ⟨g, 0, none⟩) n n) l])) → Hid (Below w.heap.size w w') → K (a.put o.dst (.slice (some ⟨g, 0, none⟩) n n)) w') : o.wp P a w K Q := by
  have hle : n ≤ 65536 := Nat.le_trans (Nat.le_mul_of_pos_right n La.pos) hsm
  have h4 := h _ w.heap.size (Lib.hid (HK.out.mkS La l n hn hle)) (Lib.hid ((Below.refl _ w).alloc (Nat.le_refl _) _))
  have hr := La.run_mk w l vs hv n hn hsm _ hp
  unfold Oper.wp execOp
  simp only [ho, Sem.run_bind, Sem.run_pure, Result.andThen_ok, hr]
  exact h4
theorem wpList_mk0 (HK : Hid (Kn b0 w0 w L R)) (hgd : o.guard = none) (ho : o.op = .buildSlice La.t 0 #[])
    (h : ∀ w' g, Hid (Kn b0 w0 w' L (R ++ [row La (.slice (some ⟨g, 0, none⟩) 0 0) []])) → wpList P ops Q rest (a.put o.dst (.slice (some ⟨g, 0, none⟩) 0 0)) w') : wpList P ops Q (o :: rest) a w :=
  wpList_plain hgd fun _ hK => kwp_mk La HK [] 0 #[] ho [] (by simp) rfl rfl (by omega) fun w' g h1 _ => hK _ _ (h w' g h1)
theorem wpList_mk1 {p : α} (HK : Hid (Kn b0 w0 w L R)) (hk : La.k ≤ 65536) (hgd : o.guard = none) (x : Operand) (ho : o.op = .buildSlice La.t 1 #[(0, x)]) {v : Value} (hx : a.eval x = v) (hv : v.cells.toList = La.f p)
    (h : ∀ w' g, Hid (Kn b0 w0 w' L (R ++ [row La (.slice (some ⟨g, 0, none⟩) 1 1) [p]])) → wpList P ops Q rest (a.put o.dst (.slice (some ⟨g, 0, none⟩) 1 1)) w') : wpList P ops Q (o :: rest) a w :=
  wpList_plain hgd fun _ hK => kwp_mk La HK [p] 1 _ ho [v] (by simp [hx]) (by simp [hv]) rfl (by omega) fun w' g h1 _ => hK _ _ (h w' g h1)
theorem step_mk0 (HK : Hid (Kn b0 w0 w L R)) (hgd : o.guard = none) (ho : o.op = .buildSlice La.t 0 #[])
    (h : ∀ w' g, Hid (Kn b0 w0 w' L (R ++ [row La (.slice (some ⟨g, 0, none⟩) 0 0) []])) → Hid (Below w.heap.size w w') → K (a.put o.dst (.slice (some ⟨g, 0, none⟩) 0 0)) w') : if Region.wanted o (yielded ops a.tmps) = true then Oper.wp P o a w K Q else E := by
  rw [if_pos (by simp [Region.wanted, hgd])]
  exact kwp_mk La HK [] 0 #[] ho [] (by simp) rfl rfl (by omega) h
theorem step_mk1 {p : α} (HK : Hid (Kn b0 w0 w L R)) (hk : La.k ≤ 65536) (hgd : o.guard = none) (x : Operand) (ho : o.op = .buildSlice La.t 1 #[(0, x)]) {v : Value} (hx : a.eval x = v) (hv : v.cells.toList = La.f p)
    (h : ∀ w' g, Hid (Kn b0 w0 w' L (R ++ [row La (.slice (some ⟨g, 0, none⟩) 1 1) [p]])) → Hid (Below w.heap.size w w') → K (a.put o.dst (.slice (some ⟨g, 0, none⟩) 1 1)) w') : if Region.wanted o (yielded ops a.tmps) = true then Oper.wp P o a w K Q else E := by
  rw [if_pos (by simp [Region.wanted, hgd])]
  exact kwp_mk La HK [p] 1 _ ho [v] (by simp [hx]) (by simp [hv]) rfl (by omega) h
theorem step_more2 (HK : Hid (Kn b0 w0 w L R)) (j : Nat) (hgd : o.guard = none) (s x : Operand) (ho : o.op = .call { callee := .builtin .append, args := #[s, x], argTypes := #[La.t, La.t] })
    {v : Value} {l : List α} (hR : R[j]? = some (row La v l)) (hs : a.eval s = v) (m : List α) {A : Option Addr} {n c B : Nat} (hx : a.eval x = .slice A n c) (hn : n = m.length) (hI : Hid (La.Reads w B A m ∧ (A = none → m = [])))
    (hl : Hid (l.length + m.length ≤ 9223372036854775807 ∧ (l.length + m.length) * La.bytes ≤ 211106232532992))
    {N : Nat} (hN : Hid ((l ++ m).length = N)) (h : ∀ A' c' w', Hid (Kn b0 w0 w' L (R.set j (row La (.slice A' N c') (l ++ m)))) → K (a.put o.dst (.slice A' N c')) w') : if Region.wanted o (yielded ops a.tmps) = true then Oper.wp P o a w K Q else E := by
  rw [if_pos (by simp [Region.wanted, hgd])]
  exact kwp_more HK La j s x ho hR hs m hx hn hI hl hN h
/-- How slices lie in a slice of slices. -/
structure Nest (La : Lay P α) where
  tt : TypeId
  und : P.underlying tt = some (.slice La.t)
  info : (P.info? La.t).map (fun i => (i.zero, i.size)) = some (some (.slice none 0 0), 1)
theorem Nest.run (N : Nest La) (w : World) (vs : List Value) (hv : ∀ v ∈ vs, v.cells = #[v]) (n : Nat) (hn : n = vs.length) (h0 : 0 < n) (hsm : n ≤ 65536) (parts : Array (Nat × Value)) (hp : parts.toList = (vs.zipIdx 0).map fun x => (x.2, x.1)) :
    (Instr.buildSlice N.tt n parts).run P w = .ok (.slice (some ⟨w.heap.size, 0, none⟩) n n) (w.alloc (.cells vs.toArray La.t)) := by
  have hi := N.info
  cases hq : P.info? La.t with
  | none => simp [hq] at hi
  | some i0 =>
    simp only [hq, Option.map_some, Option.some.injEq, Prod.mk.injEq] at hi
    obtain ⟨hz0, hz1⟩ := hi
    refine Go.run_buildSlice w N.tt La.t n parts _ i0 _ N.und hq hz0 (by rw [hz1]; omega) (by rw [hz1]; omega) ?_
    rw [hp, hz1]
    exact Great.fill_flat vs _ hv (by simp [hn])
theorem kwp_mks (N : Nest La) (HK : Hid (Kn b0 w0 w L R)) (n : Nat) (parts : Array (Nat × Operand)) (ho : o.op = .buildSlice N.tt n parts) (vs : List Value) (hp : (parts.map fun (i, x) => (i, a.eval x)).toList = (vs.zipIdx 0).map fun x => (x.2, x.1)) (hv : ∀ v ∈ vs, v.cells = #[v]) (hn : n = vs.length) (h0 : 0 < n) (hsm : n ≤ 65536)
    (h : ∀ w' g, Hid (Kn b0 w0 w' (L ++ [(g, La.t, vs.toArray)]) R) → Hid (Below w.heap.size w w') → K (a.put o.dst (.slice (some ⟨g, 0, none⟩) n n)) w') : o.wp P a w K Q := by
  have h4 := h _ w.heap.size (Lib.hid (HK.out.alloc La.t vs.toArray)) (Lib.hid ((Below.refl _ w).alloc (Nat.le_refl _) _))
  have hr := N.run La w vs hv n hn h0 hsm _ hp
  unfold Oper.wp execOp
  simp only [ho, Sem.run_bind, Sem.run_pure, Result.andThen_ok, hr]
  exact h4
variable (N : Nest La) {A A2 A3 : Option Addr} {n c n2 c2 n3 c3 : Nat}
theorem wpList_mks1 (HK : Hid (Kn b0 w0 w L R)) (hgd : o.guard = none) (x : Operand) (ho : o.op = .buildSlice N.tt 1 #[(0, x)]) (hx : a.eval x = .slice A n c)
    (h : ∀ w' g, Hid (Kn b0 w0 w' (L ++ [(g, La.t, #[.slice A n c])]) R) → Hid (Below w.heap.size w w') → wpList P ops Q rest (a.put o.dst (.slice (some ⟨g, 0, none⟩) 1 1)) w') : wpList P ops Q (o :: rest) a w :=
  wpList_plain hgd fun _ hK => kwp_mks La N HK 1 _ ho [.slice A n c] (by simp [hx]) (by simp [Value.cells]) rfl (by decide) (by decide) fun w' g h1 h2 => hK _ _ (h w' g h1 h2)
theorem wpList_mks2 (HK : Hid (Kn b0 w0 w L R)) (hgd : o.guard = none) (x y : Operand) (ho : o.op = .buildSlice N.tt 2 #[(0, x), (1, y)]) (hx : a.eval x = .slice A n c) (hy : a.eval y = .slice A2 n2 c2)
    (h : ∀ w' g, Hid (Kn b0 w0 w' (L ++ [(g, La.t, #[.slice A n c, .slice A2 n2 c2])]) R) → Hid (Below w.heap.size w w') → wpList P ops Q rest (a.put o.dst (.slice (some ⟨g, 0, none⟩) 2 2)) w') : wpList P ops Q (o :: rest) a w :=
  wpList_plain hgd fun _ hK => kwp_mks La N HK 2 _ ho [.slice A n c, .slice A2 n2 c2] (by simp [hx, hy]) (by simp [Value.cells]) rfl (by decide) (by decide) fun w' g h1 h2 => hK _ _ (h w' g h1 h2)
theorem wpList_mks3 (HK : Hid (Kn b0 w0 w L R)) (hgd : o.guard = none) (x y z : Operand) (ho : o.op = .buildSlice N.tt 3 #[(0, x), (1, y), (2, z)]) (hx : a.eval x = .slice A n c) (hy : a.eval y = .slice A2 n2 c2) (hz : a.eval z = .slice A3 n3 c3)
    (h : ∀ w' g, Hid (Kn b0 w0 w' (L ++ [(g, La.t, #[.slice A n c, .slice A2 n2 c2, .slice A3 n3 c3])]) R) → Hid (Below w.heap.size w w') → wpList P ops Q rest (a.put o.dst (.slice (some ⟨g, 0, none⟩) 3 3)) w') : wpList P ops Q (o :: rest) a w :=
  wpList_plain hgd fun _ hK => kwp_mks La N HK 3 _ ho [.slice A n c, .slice A2 n2 c2, .slice A3 n3 c3] (by simp [hx, hy, hz]) (by simp [Value.cells]) rfl (by decide) (by decide) fun w' g h1 h2 => hK _ _ (h w' g h1 h2)
theorem step_mks1 (HK : Hid (Kn b0 w0 w L R)) (hgd : o.guard = none) (x : Operand) (ho : o.op = .buildSlice N.tt 1 #[(0, x)]) (hx : a.eval x = .slice A n c)
    (h : ∀ w' g, Hid (Kn b0 w0 w' (L ++ [(g, La.t, #[.slice A n c])]) R) → Hid (Below w.heap.size w w') → K (a.put o.dst (.slice (some ⟨g, 0, none⟩) 1 1)) w') : if Region.wanted o (yielded ops a.tmps) = true then Oper.wp P o a w K Q else E := by
  rw [if_pos (by simp [Region.wanted, hgd])]
  exact kwp_mks La N HK 1 _ ho [.slice A n c] (by simp [hx]) (by simp [Value.cells]) rfl (by decide) (by decide) h
theorem step_mks2 (HK : Hid (Kn b0 w0 w L R)) (hgd : o.guard = none) (x y : Operand) (ho : o.op = .buildSlice N.tt 2 #[(0, x), (1, y)]) (hx : a.eval x = .slice A n c) (hy : a.eval y = .slice A2 n2 c2)
    (h : ∀ w' g, Hid (Kn b0 w0 w' (L ++ [(g, La.t, #[.slice A n c, .slice A2 n2 c2])]) R) → Hid (Below w.heap.size w w') → K (a.put o.dst (.slice (some ⟨g, 0, none⟩) 2 2)) w') : if Region.wanted o (yielded ops a.tmps) = true then Oper.wp P o a w K Q else E := by
  rw [if_pos (by simp [Region.wanted, hgd])]
  exact kwp_mks La N HK 2 _ ho [.slice A n c, .slice A2 n2 c2] (by simp [hx, hy]) (by simp [Value.cells]) rfl (by decide) (by decide) h
end
/-- A new slice told, of the call's own; and one with an error. -/
def IsLg {P : Program} {α : Type} (La : Lay P α) (r : List α) (w : World) (e : Ending) (w' : World) : Prop := ∃ A n c, e = .returned (.slice A n c) ∧ La.Own w.heap.size w' (.slice A n c) r ∧ Below w.heap.size w w'
def IsLEg {P : Program} {α : Type} (La : Lay P α) (r : List α) (x : Int) (w : World) (e : Ending) (w' : World) : Prop := ∃ A n c, e = .returned (.tuple #[.slice A n c, .int .i64 x]) ∧ La.Own w.heap.size w' (.slice A n c) r ∧ Below w.heap.size w w'
/-- What is told is new, or is a slice that was handed in. -/
def OwnOr {P : Program} {α : Type} (La : Lay P α) (b : Nat) (w : World) (A : Option Addr) (n c : Nat) (l : List α) (A' : Option Addr) (n' c' : Nat) (r : List α) : Prop := La.Own b w (.slice A' n' c') r ∨ (A' = A ∧ n' = n ∧ c' = c ∧ r = l)
theorem get_put {α : Type} {R : List α} {i : Nat} {y z : α} (h : R[i]? = some y) : (R ++ [z])[i]? = some y := by
  rw [List.getElem?_append_left (List.getElem?_eq_some_iff.1 h).1]; exact h
theorem get_last {α : Type} (R : List α) (z : α) : (R ++ [z])[R.length]? = some z := by simp
section
variable {P : Program} {α : Type} {La : Lay P α} {F : α → Prop} {b0 : Nat} {w0 w w' : World} {L : List (Nat × TypeId × Array Value)} {R : List RowE}
/-- In either way it is a row that is known. -/
theorem Kn.toldR {A A' : Option Addr} {n c n' c' : Nat} {l r : List α} (h : Kn b0 w0 w L R) (hb : Below w.heap.size w w') {i : Nat} (hi : R[i]? = some (row La (.slice A n c) l))
    (ho : OwnOr La w.heap.size w' A n c l A' n' c' r) : ∃ R' : List RowE, Hid (Kn b0 w0 w' L R') ∧ (∀ (j : Nat) (y : RowE), R[j]? = some y → R'[j]? = some y) ∧ ∃ j : Nat, R'[j]? = some (row La (.slice A' n' c') r) := by
  rcases ho with ho | ⟨rfl, rfl, rfl, rfl⟩
  · exact ⟨_, Lib.hid (h.called hb ho), fun j y hj => get_put hj, R.length, get_last _ _⟩
  · exact ⟨R, Lib.hid (h.call hb), fun j y hj => hj, i, hi⟩
/-- A piece: a slice, and what it reads as. -/
structure Pce (α : Type) where
  A : Option Addr
  n : Nat
  c : Nat
  l : List α
def catP {α : Type} (ps : List (Pce α)) : List α := ps.flatMap (·.l)
theorem catP_more {α : Type} {ps : List (Pce α)} {k : Nat} {p : Pce α} (h : ps[k]? = some p) : catP (ps.take (k + 1)) = catP (ps.take k) ++ p.l := by
  unfold catP
  rw [Lay.take_succ h, List.flatMap_append, List.flatMap_cons, List.flatMap_nil, List.append_nil]
theorem catP_le {α : Type} (ps : List (Pce α)) (k : Nat) : (catP (ps.take k)).length ≤ (catP ps).length := by
  have h : catP ps = catP (ps.take k) ++ catP (ps.drop k) := by unfold catP; rw [← List.flatMap_append, List.take_append_drop]
  rw [h, List.length_append]; omega
/-- What a function tells that puts pieces together. -/
def Joins (P : Program) (f : FuncId) (La : Lay P α) (F : α → Prop) : Prop := ∀ (g m : Nat) (ps : List (Pce α)) (w : World), ps.length = m → m ≤ 8 → g < w.heap.size → (∀ i p, ps[i]? = some p → w.cell? ⟨g, i, none⟩ = some (.slice p.A p.n p.c)) →
  (∀ p ∈ ps, Sls La F w p.A p.n p.c p.l) → (catP ps).length * La.bytes ≤ 140737488355328 → Calls P f #[.slice (some ⟨g, 0, none⟩) m m] w (IsLg La (catP ps) w)
variable {f : FuncId} {g : Nat} {A1 A2 A3 : Option Addr} {n1 c1 n2 c2 n3 c3 : Nat} {l1 l2 l3 : List α}
theorem Joins.one (J : Joins P f La F) (HK : Hid (Kn b0 w0 w L R)) (i : Nat) (hL : L[i]? = some (g, La.t, #[.slice A1 n1 c1])) (h1 : Sls La F w A1 n1 c1 l1) :
    Calls P f #[.slice (some ⟨g, 0, none⟩) 1 1] w (IsLg La l1 w) := by
  have h := J g 1 [⟨A1, n1, c1, l1⟩] w rfl (by decide) (HK.out.blk i hL).lt (fun j p hp => by
    match j, hp with
    | 0, hp => simp at hp; subst hp; exact HK.out.cell i hL 0 rfl) (fun p hp => by
      rw [List.mem_singleton] at hp; subst hp; exact h1) (by
      show (l1 ++ []).length * _ ≤ _
      rw [List.append_nil]; exact h1.fit.big)
  have e : catP [(⟨A1, n1, c1, l1⟩ : Pce α)] = l1 := by show l1 ++ [] = l1; rw [List.append_nil]
  rw [e] at h
  exact h
theorem Joins.two (J : Joins P f La F) (HK : Hid (Kn b0 w0 w L R)) (i : Nat) (hL : L[i]? = some (g, La.t, #[.slice A1 n1 c1, .slice A2 n2 c2])) (h1 : Sls La F w A1 n1 c1 l1) (h2 : Sls La F w A2 n2 c2 l2) (ht : (n1 + n2) * La.bytes ≤ 140737488355328) :
    Calls P f #[.slice (some ⟨g, 0, none⟩) 2 2] w (IsLg La (l1 ++ l2) w) := by
  have h := J g 2 [⟨A1, n1, c1, l1⟩, ⟨A2, n2, c2, l2⟩] w rfl (by decide) (HK.out.blk i hL).lt (fun j p hp => by
    match j, hp with
    | 0, hp => simp at hp; subst hp; exact HK.out.cell i hL 0 rfl
    | 1, hp => simp at hp; subst hp; exact HK.out.cell i hL 1 rfl) (fun p hp => by
      simp only [List.mem_cons, List.not_mem_nil, or_false] at hp
      rcases hp with rfl | rfl
      · exact h1
      · exact h2) (by
      show (l1 ++ (l2 ++ [])).length * _ ≤ _
      rw [List.append_nil, List.length_append, h1.len, h2.len]; exact ht)
  have e : catP [(⟨A1, n1, c1, l1⟩ : Pce α), ⟨A2, n2, c2, l2⟩] = l1 ++ l2 := by show l1 ++ (l2 ++ []) = _; rw [List.append_nil]
  rw [e] at h
  exact h
theorem Joins.three (J : Joins P f La F) (HK : Hid (Kn b0 w0 w L R)) (i : Nat) (hL : L[i]? = some (g, La.t, #[.slice A1 n1 c1, .slice A2 n2 c2, .slice A3 n3 c3])) (h1 : Sls La F w A1 n1 c1 l1) (h2 : Sls La F w A2 n2 c2 l2) (h3 : Sls La F w A3 n3 c3 l3) (ht : (n1 + n2 + n3) * La.bytes ≤ 140737488355328) :
    Calls P f #[.slice (some ⟨g, 0, none⟩) 3 3] w (IsLg La (l1 ++ l2 ++ l3) w) := by
  have h := J g 3 [⟨A1, n1, c1, l1⟩, ⟨A2, n2, c2, l2⟩, ⟨A3, n3, c3, l3⟩] w rfl (by decide) (HK.out.blk i hL).lt (fun j p hp => by
    match j, hp with
    | 0, hp => simp at hp; subst hp; exact HK.out.cell i hL 0 rfl
    | 1, hp => simp at hp; subst hp; exact HK.out.cell i hL 1 rfl
    | 2, hp => simp at hp; subst hp; exact HK.out.cell i hL 2 rfl) (fun p hp => by
      simp only [List.mem_cons, List.not_mem_nil, or_false] at hp
      rcases hp with rfl | rfl | rfl
      · exact h1
      · exact h2
      · exact h3) (by
      show (l1 ++ (l2 ++ (l3 ++ []))).length * _ ≤ _
      rw [List.append_nil, List.length_append, List.length_append, h1.len, h2.len, h3.len, ← Nat.add_assoc]; exact ht)
  have e : catP [(⟨A1, n1, c1, l1⟩ : Pce α), ⟨A2, n2, c2, l2⟩, ⟨A3, n3, c3, l3⟩] = l1 ++ l2 ++ l3 := by show l1 ++ (l2 ++ (l3 ++ [])) = _; rw [List.append_nil, List.append_assoc]
  rw [e] at h
  exact h
/-- Two lists of as many things are one, or there is a place where they differ. -/
theorem same_at {α : Type} [DecidableEq α] {a b : List α} {n : Nat} (ha : a.length = n) (hb : b.length = n) : (∀ i x y, i < n → a[i]? = some x → b[i]? = some y → ¬ x = y → decide (a = b) = false) ∧ ((∀ i, i < n → a[i]? = b[i]?) → decide (a = b) = true) := by
  refine ⟨fun i x y hi hx hy hne => decide_eq_false fun h => ?_, fun h => decide_eq_true (List.ext_getElem? fun i => ?_)⟩
  · subst h
    rw [hx] at hy
    injection hy with hy
    exact hne hy
  · by_cases hi : i < n
    · exact h i hi
    · rw [List.getElem?_eq_none (by omega), List.getElem?_eq_none (by omega)]
/-- What an append of such things may be. -/
theorem grow_ok {l m : List α} {N : Nat} (h : Hid ((l ++ m).length = N)) (hB : N * La.bytes ≤ 211106232532992) (hN : N ≤ 9223372036854775807) : Hid (l.length + m.length ≤ 9223372036854775807 ∧ (l.length + m.length) * La.bytes ≤ 211106232532992) := by
  have e := h.out
  rw [List.length_append] at e
  exact Lib.hid ⟨by rw [e]; exact hN, by rw [e]; exact hB⟩
end
end Go.Proofs.Ytakjggmiilkmdaa
