/-
  How a post lies: a struct of a slice and twelve numbers; its block, and what a store into it leaves.
  No condition but those named.
-/
import Derived.Test.YtkajnmlglgjocaaPostMath
import Derived.WalkKit
import Derived.WalkSpells
import Derived.WalkLawsBesides
import Derived.Handy
import Derived.Deep.Draws
import Derived.Lib.Hide
import Derived.KernelRfl
namespace Go.Proofs.Ytkajnmlglgjocaa
open Go.RowKit

/-- A post's thirteen cells. -/
def pc (A : Option Addr) (n c : Nat) (s : Nat → Int) : Array Value := #[.slice A n c, .int .i64 (s 0), .int .i64 (s 1), .int .i64 (s 2), .int .i64 (s 3), .int .i64 (s 4), .int .i64 (s 5), .int .i64 (s 6), .int .i64 (s 7), .int .i64 (s 8), .int .i64 (s 9), .int .i64 (s 10), .int .i64 (s 11)]
/-- It as a struct's value. -/
def pv (A : Option Addr) (n c : Nat) (s : Nat → Int) : Value := .agg (pc A n c s)
theorem pc_size (A : Option Addr) (n c : Nat) (s : Nat → Int) : (pc A n c s).size = 13 := rfl
theorem pc_at (A : Option Addr) (n c : Nat) (s : Nat → Int) (i : Nat) (h : i < 12) : (pc A n c s)[1 + i]? = some (.int .i64 (s i)) := by
  match i, h with
  | 0, _ => rfl
  | 1, _ => rfl
  | 2, _ => rfl
  | 3, _ => rfl
  | 4, _ => rfl
  | 5, _ => rfl
  | 6, _ => rfl
  | 7, _ => rfl
  | 8, _ => rfl
  | 9, _ => rfl
  | 10, _ => rfl
  | 11, _ => rfl
theorem pc_turn (A : Option Addr) (n c : Nat) (s : Nat → Int) (i : Nat) (h : i < 12) (v : Int) : (pc A n c s).setIfInBounds (1 + i) (.int .i64 v) = pc A n c (fun j => if j = i then v else s j) := by
  match i, h with
  | 0, _ => rfl
  | 1, _ => rfl
  | 2, _ => rfl
  | 3, _ => rfl
  | 4, _ => rfl
  | 5, _ => rfl
  | 6, _ => rfl
  | 7, _ => rfl
  | 8, _ => rfl
  | 9, _ => rfl
  | 10, _ => rfl
  | 11, _ => rfl
theorem pc_mails (A A' : Option Addr) (n c n' c' : Nat) (s : Nat → Int) : (pc A n c s).setIfInBounds 0 (.slice A' n' c') = pc A' n' c' s := rfl
theorem info_post : (Try.prog.info? 25).map (·.size) = some 13 := by kernel_rfl

/-- Block g is just these cells, and they may be written. -/
def Blk (w : World) (g : Nat) (t : TypeId) (cs : Array Value) : Prop := w.heap[g]? = some (.cells cs t (0, 0))
section
variable {w w' : World} {g : Nat} {t : TypeId} {cs : Array Value}
theorem Blk.lt (h : Blk w g t cs) : g < w.heap.size := (Array.getElem?_eq_some_iff.1 h).1
theorem Blk.cell (h : Blk w g t cs) (i : Nat) : w.cell? ⟨g, i, none⟩ = cs[i]? := cell_of_row w g i cs t (0, 0) h
theorem Blk.frozen (h : Blk w g t cs) (i : Nat) : w.frozen? ⟨g, i, none⟩ = false := by
  unfold Blk at h
  simp [World.frozen?, h]
theorem Blk.new (w : World) (t : TypeId) (cs : Array Value) : Blk (w.alloc (.cells cs t)) w.heap.size t cs := heap_alloc_new w _
theorem Blk.drewN (h : Blk w g t cs) (n : Nat) : Blk (w.drewN n) g t cs := h
theorem Blk.alloc (h : Blk w g t cs) (o : Obj) : Blk (w.alloc o) g t cs := (Below.heap_alloc w o g h.lt).trans h
theorem Blk.set_ (h : Blk w g t cs) (i : Nat) (u : Value) : Blk (w.setCell ⟨g, i, none⟩ u) g t (cs.setIfInBounds i u) := by
  unfold Blk at h ⊢
  simp [World.setCell, Array.getElem?_modify, h]
theorem Blk.far (h : Blk w g t cs) {p : Addr} (hp : g ≠ p.block) (u : Value) : Blk (w.setCell p u) g t cs := (Below.heap_setCell w p u g hp).trans h
theorem Blk.below {B : Nat} (h : Blk w g t cs) (hb : Below B w w') (hg : g < B) : Blk w' g t cs := (hb.block g hg).trans h
theorem Blk.turned {t' : TypeId} {w0 : Nat} (h : Blk w g t cs) (b : Turns w0 t' w w') (hne : t ≠ t') : Blk w' g t cs := b.others g cs t (0, 0) hne h
theorem Blk.row (h : Blk w g t cs) {g' : Nat} (hne : g ≠ g') (cs' : Array Value) : Blk (w.setRow g' cs') g t cs := (setRow_other w g' g cs' hne).trans h
theorem Blk.row_same (h : Blk w g t cs) (cs' : Array Value) : Blk (w.setRow g cs') g t cs' := setRow_heap w g cs cs' t (0, 0) h
theorem turns_row (h : Blk w g t cs) {base : Nat} (hb : base ≤ g) (cs' : Array Value) : Turns base t w (w.setRow g cs') := by
  refine ⟨⟨rfl, rfl, rfl, by simp, fun k hk => setRow_other w g k cs' (by omega)⟩, fun k cs2 t' fr hn hk => ?_⟩
  rw [setRow_other w g k cs' ?_]
  · exact hk
  · rintro rfl
    unfold Blk at h
    rw [h] at hk
    injection hk with hk
    injection hk with _ h2 _
    exact hn h2.symm
theorem turns_cell (h : Blk w g t cs) {base : Nat} (hb : base ≤ g) (i : Nat) (u : Value) : Turns base t w (w.setCell ⟨g, i, none⟩ u) := by
  refine ⟨(Below.refl base w).setCell (p := ⟨g, i, none⟩) hb u, fun k cs2 t' fr hn hk => ?_⟩
  rw [Below.heap_setCell w ⟨g, i, none⟩ u k ?_]
  · exact hk
  · rintro rfl
    unfold Blk at h
    rw [h] at hk
    injection hk with hk
    injection hk with _ h2 _
    exact hn h2.symm
end

section
variable {P : Program} {ops : Array Oper} {rest : List Oper} {o : Oper} {a : Act} {w : World} {Q : Exit → Act → World → Prop}
/-- A load of a whole block. -/
theorem wpList_lblk (hgd : o.guard = none) (ty : TypeId) (x : Operand) (ho : o.op = .load ty x) {g : Nat} {t : TypeId} {cs : Array Value} (hb : Hid (Blk w g t cs)) (hx : a.eval x = .pointer (some ⟨g, 0, none⟩))
    {fs : Array Field} (hu : P.underlying ty = some (.struct fs)) (hi : (P.info? ty).map (·.size) = some cs.size) (h : wpList P ops Q rest (a.put o.dst (.agg cs)) w) : wpList P ops Q (o :: rest) a w :=
  wpList_load_row hgd ty x ho g hx t cs (0, 0) (.struct fs) hb.out hu rfl hi h
/-- What a store of a whole block leaves. -/
structure Stored (base g : Nat) (t : TypeId) (cs : Array Value) (w w' : World) : Prop where
  turns : Turns base t w w'
  blk : Blk w' g t cs
  far : ∀ {g' : Nat} {t' : TypeId} {cs' : Array Value}, Blk w g' t' cs' → g' ≠ g → Blk w' g' t' cs'
  size : w'.heap.size = w.heap.size
theorem stored_row {g : Nat} {t : TypeId} {old : Array Value} (hb : Blk w g t old) {base : Nat} (hbase : base ≤ g) (cs : Array Value) : Stored base g t cs w (w.setRow g cs) :=
  ⟨turns_row hb hbase cs, hb.row_same cs, fun h hne => h.row hne cs, by simp⟩
/-- A store of a whole block. -/
theorem wpList_sblk (hgd : o.guard = none) (ty : TypeId) (x y : Operand) (ho : o.op = .store ty x y) {g : Nat} {t : TypeId} {old cs : Array Value} (hb : Hid (Blk w g t old)) (hx : a.eval x = .pointer (some ⟨g, 0, none⟩)) (hy : a.eval y = .agg cs)
    (hi : (P.info? ty).map (·.size) = some cs.size) (hsz : old.size = cs.size) (h1 : cs.all (·.oneCell') = true) {base : Nat} (hbase : base ≤ g)
    (h : ∀ w', Hid (Stored base g t cs w w') → wpList P ops Q rest (a.put o.dst undef) w') : wpList P ops Q (o :: rest) a w :=
  wpList_plain hgd fun _K hK => wp_store_row ty x y ho g cs hx hy t old hb.out hi hsz h1 (hK _ _ (h _ (Lib.hid (stored_row hb.out hbase cs))))
/-- The same where a region draws its order. -/
theorem step_lblk {K : Act → World → Prop} {E : Prop} (hgd : o.guard = none) (ty : TypeId) (x : Operand) (ho : o.op = .load ty x) {g : Nat} {t : TypeId} {cs : Array Value} (hb : Hid (Blk w g t cs)) (hx : a.eval x = .pointer (some ⟨g, 0, none⟩))
    {fs : Array Field} (hu : P.underlying ty = some (.struct fs)) (hi : (P.info? ty).map (·.size) = some cs.size) (h : K (a.put o.dst (.agg cs)) w) :
    if Region.wanted o (yielded ops a.tmps) = true then Oper.wp P o a w K Q else E := by
  rw [if_pos (by simp [Region.wanted, hgd])]
  exact wp_load_row ty x ho g hx t cs (0, 0) (.struct fs) hb.out hu rfl hi h
theorem step_sblk {K : Act → World → Prop} {E : Prop} (hgd : o.guard = none) (ty : TypeId) (x y : Operand) (ho : o.op = .store ty x y) {g : Nat} {t : TypeId} {old cs : Array Value} (hb : Hid (Blk w g t old)) (hx : a.eval x = .pointer (some ⟨g, 0, none⟩)) (hy : a.eval y = .agg cs)
    (hi : (P.info? ty).map (·.size) = some cs.size) (hsz : old.size = cs.size) (h1 : cs.all (·.oneCell') = true) {base : Nat} (hbase : base ≤ g)
    (h : ∀ w', Hid (Stored base g t cs w w') → K (a.put o.dst undef) w') :
    if Region.wanted o (yielded ops a.tmps) = true then Oper.wp P o a w K Q else E := by
  rw [if_pos (by simp [Region.wanted, hgd])]
  exact wp_store_row ty x y ho g cs hx hy t old hb.out hi hsz h1 (h _ (Lib.hid (stored_row hb.out hbase cs)))
end
/-- A mail's four cells. -/
def mc (x : Pst.Mail) : Array Value := #[.int .i64 x.f, .int .i64 x.t, .string x.d, .bool x.s]
theorem mc_size (x : Pst.Mail) : (mc x).size = 4 := rfl
theorem mailV_mc (x : Pst.Mail) : mailV x = .agg (mc x) := rfl
theorem info_mail4 : (Try.prog.info? 27).map (·.size) = some 4 := by kernel_rfl
theorem pc_one (A : Option Addr) (n c : Nat) (s : Nat → Int) : (pc A n c s).all (·.oneCell') = true := by
  simp [pc, Value.oneCell']
theorem mc_one (x : Pst.Mail) : (mc x).all (·.oneCell') = true := by
  simp [mc, Value.oneCell']

/-- Loads and stores of a post's block, of a mail's block. -/
theorem wpList_lp {ops : Array Oper} {rest : List Oper} {o : Oper} {a : Act} {w : World} {Q : Exit → Act → World → Prop} (hgd : o.guard = none) (x : Operand) (ho : o.op = .load 25 x)
    {g : Nat} {A : Option Addr} {n c : Nat} {s : Nat → Int} (hb : Hid (Blk w g 25 (pc A n c s))) (hx : a.eval x = .pointer (some ⟨g, 0, none⟩))
    (h : wpList Try.prog ops Q rest (a.put o.dst (.agg (pc A n c s))) w) : wpList Try.prog ops Q (o :: rest) a w :=
  wpList_lblk hgd _ x ho hb hx Try.underlying25 info_post h
theorem wpList_lm {ops : Array Oper} {rest : List Oper} {o : Oper} {a : Act} {w : World} {Q : Exit → Act → World → Prop} (hgd : o.guard = none) (x : Operand) (ho : o.op = .load 27 x)
    {g : Nat} {m : Pst.Mail} (hb : Hid (Blk w g 27 (mc m))) (hx : a.eval x = .pointer (some ⟨g, 0, none⟩))
    (h : wpList Try.prog ops Q rest (a.put o.dst (.agg #[.int .i64 m.f, .int .i64 m.t, .string m.d, .bool m.s])) w) : wpList Try.prog ops Q (o :: rest) a w :=
  wpList_lblk hgd _ x ho hb hx Try.underlying27 info_mail4 h
theorem wpList_sp {ops : Array Oper} {rest : List Oper} {o : Oper} {a : Act} {w : World} {Q : Exit → Act → World → Prop} (hgd : o.guard = none) (x y : Operand) (ho : o.op = .store 25 x y)
    {g : Nat} {A A' : Option Addr} {n c n' c' : Nat} {s s' : Nat → Int} (hb : Hid (Blk w g 25 (pc A n c s))) (hx : a.eval x = .pointer (some ⟨g, 0, none⟩)) (hy : a.eval y = .agg (pc A' n' c' s')) {base : Nat} (hbase : base ≤ g)
    (h : ∀ w', Hid (Stored base g 25 (pc A' n' c' s') w w') → wpList Try.prog ops Q rest (a.put o.dst undef) w') : wpList Try.prog ops Q (o :: rest) a w :=
  wpList_sblk hgd _ x y ho hb hx hy info_post rfl (pc_one _ _ _ _) hbase h
theorem wpList_sm {ops : Array Oper} {rest : List Oper} {o : Oper} {a : Act} {w : World} {Q : Exit → Act → World → Prop} (hgd : o.guard = none) (x y : Operand) (ho : o.op = .store 27 x y)
    {g : Nat} {m m' : Pst.Mail} (hb : Hid (Blk w g 27 (mc m))) (hx : a.eval x = .pointer (some ⟨g, 0, none⟩)) (hy : a.eval y = .agg (mc m')) {base : Nat} (hbase : base ≤ g)
    (h : ∀ w', Hid (Stored base g 27 (mc m') w w') → wpList Try.prog ops Q rest (a.put o.dst undef) w') : wpList Try.prog ops Q (o :: rest) a w :=
  wpList_sblk hgd _ x y ho hb hx hy info_mail4 rfl (mc_one _) hbase h
theorem step_sp {ops : Array Oper} {o : Oper} {a : Act} {w : World} {Q : Exit → Act → World → Prop} {K : Act → World → Prop} {E : Prop} (hgd : o.guard = none) (x y : Operand) (ho : o.op = .store 25 x y)
    {g : Nat} {A A' : Option Addr} {n c n' c' : Nat} {s s' : Nat → Int} (hb : Hid (Blk w g 25 (pc A n c s))) (hx : a.eval x = .pointer (some ⟨g, 0, none⟩)) (hy : a.eval y = .agg (pc A' n' c' s')) {base : Nat} (hbase : base ≤ g)
    (h : ∀ w', Hid (Stored base g 25 (pc A' n' c' s') w w') → K (a.put o.dst undef) w') : if Region.wanted o (yielded ops a.tmps) = true then Oper.wp Try.prog o a w K Q else E :=
  step_sblk hgd _ x y ho hb hx hy info_post rfl (pc_one _ _ _ _) hbase h
theorem step_sm {ops : Array Oper} {o : Oper} {a : Act} {w : World} {Q : Exit → Act → World → Prop} {K : Act → World → Prop} {E : Prop} (hgd : o.guard = none) (x y : Operand) (ho : o.op = .store 27 x y)
    {g : Nat} (m m' : Pst.Mail) (hb : Hid (Blk w g 27 (mc m))) (hx : a.eval x = .pointer (some ⟨g, 0, none⟩)) (hy : a.eval y = .agg (mc m')) {base : Nat} (hbase : base ≤ g)
    (h : ∀ w', Hid (Stored base g 27 (mc m') w w') → K (a.put o.dst undef) w') : if Region.wanted o (yielded ops a.tmps) = true then Oper.wp Try.prog o a w K Q else E :=
  step_sblk hgd _ x y ho hb hx hy info_mail4 rfl (mc_one _) hbase h
/-- What a load of a whole block yields. -/
theorem exec_lp {o : Oper} {a : Act} {x : Operand} {w : World} {g : Nat} {A : Option Addr} {n c : Nat} {s : Nat → Int} (hb : Hid (Blk w g 25 (pc A n c s))) (ho : o.op = .load 25 x) (hx : a.eval x = .pointer (some ⟨g, 0, none⟩)) :
    (execOp a.eval o).run Try.prog w = .ok (.value (.agg (pc A n c s))) w := by
  unfold execOp
  have h := run_loadVar_row (P := Try.prog) w g _ _ _ (0, 0) _ hb.out Try.underlying25 rfl info_post
  simp only [ho, hx, Instr.loadAt, Instr.sureAddr, Sem.run_bind, Sem.run_pure, Result.andThen_ok, h]
theorem exec_lm {o : Oper} {a : Act} {x : Operand} {w : World} {g : Nat} {m : Pst.Mail} (hb : Hid (Blk w g 27 (mc m))) (ho : o.op = .load 27 x) (hx : a.eval x = .pointer (some ⟨g, 0, none⟩)) :
    (execOp a.eval o).run Try.prog w = .ok (.value (.agg #[.int .i64 m.f, .int .i64 m.t, .string m.d, .bool m.s])) w := by
  unfold execOp
  have h := run_loadVar_row (P := Try.prog) w g _ _ _ (0, 0) _ hb.out Try.underlying27 rfl info_mail4
  simp only [ho, hx, Instr.loadAt, Instr.sureAddr, Sem.run_bind, Sem.run_pure, Result.andThen_ok, h]
  rfl
/-- What a slicing of messages yields. -/
theorem exec_head {o : Oper} {a : Act} {x y : Operand} {w : World} {A : Option Addr} {n c i : Nat} (ho : o.op = .slice 22 x none (some y) none) (hx : a.eval x = .slice A n c) (hy : a.eval y = .int .i64 (i : Int)) (hi : i ≤ n) (hc : n ≤ c) :
    (execOp a.eval o).run Try.prog w = .ok (.value (.slice A i c)) w := by
  unfold execOp
  have h1 : (i : Int) ≤ c := by omega
  have h2 : (0 : Int) ≤ i := by omega
  have he : A.map (fun x => x.add 0) = A := by cases A <;> simp [Addr.add]
  simp only [ho, Option.map, hx, hy]
  simp [go_sem, h1, h2, Try.underlying22]
theorem exec_tail {o : Oper} {a : Act} {x y : Operand} {w : World} {A A' : Option Addr} {n c k : Nat} (hA : Hid (A' = if c = k then A else A.map (·.add (k * 4)))) (ho : o.op = .slice 22 x (some y) none none) (hx : a.eval x = .slice A n c) (hy : a.eval y = .int .i64 (k : Int)) (hi : k ≤ n) :
    (execOp a.eval o).run Try.prog w = .ok (.value (.slice A' (n - k) (c - k))) w := by
  unfold execOp
  have h1 : (k : Int) ≤ n := by omega
  have h2 : (0 : Int) ≤ k := by omega
  rw [hA.out]
  simp only [ho, Option.map, hx, hy]
  simp [go_sem, h1, h2, Try.underlying22]
  cases A <;> rfl
/-- Made blocks, one above the other. -/
theorem made1 (w : World) (t : TypeId) (cs : Array Value) : Hid (Blk (w.alloc (.cells cs t)) w.heap.size t cs) ∧ Hid (Below w.heap.size w (w.alloc (.cells cs t))) ∧ (w.alloc (.cells cs t)).heap.size = w.heap.size + 1 :=
  ⟨Lib.hid (Blk.new w t cs), Lib.hid ((Below.refl _ w).alloc (Nat.le_refl _) _), by simp⟩
theorem made2 (w : World) (t : TypeId) (cs : Array Value) (t' : TypeId) (cs' : Array Value) :
    Hid (Blk ((w.alloc (.cells cs t)).alloc (.cells cs' t')) w.heap.size t cs) ∧ Hid (Blk ((w.alloc (.cells cs t)).alloc (.cells cs' t')) (w.heap.size + 1) t' cs') ∧
      Hid (Below w.heap.size w ((w.alloc (.cells cs t)).alloc (.cells cs' t'))) ∧ ((w.alloc (.cells cs t)).alloc (.cells cs' t')).heap.size = w.heap.size + 2 := by
  obtain ⟨h1, h2, h3⟩ := made1 w t cs
  have h4 := Blk.new (w.alloc (.cells cs t)) t' cs'
  rw [h3] at h4
  exact ⟨Lib.hid (h1.out.alloc _), Lib.hid h4, Lib.hid (h2.out.alloc (by omega) _), by simp⟩
theorem made3 (w : World) (t : TypeId) (cs : Array Value) (t' : TypeId) (cs' : Array Value) (t'' : TypeId) (cs'' : Array Value) :
    Hid (Blk (((w.alloc (.cells cs t)).alloc (.cells cs' t')).alloc (.cells cs'' t'')) w.heap.size t cs) ∧ Hid (Blk (((w.alloc (.cells cs t)).alloc (.cells cs' t')).alloc (.cells cs'' t'')) (w.heap.size + 1) t' cs') ∧
      Hid (Blk (((w.alloc (.cells cs t)).alloc (.cells cs' t')).alloc (.cells cs'' t'')) (w.heap.size + 2) t'' cs'') ∧
      Hid (Below w.heap.size w (((w.alloc (.cells cs t)).alloc (.cells cs' t')).alloc (.cells cs'' t''))) ∧ (((w.alloc (.cells cs t)).alloc (.cells cs' t')).alloc (.cells cs'' t'')).heap.size = w.heap.size + 3 := by
  obtain ⟨h1, h2, h3, h4⟩ := made2 w t cs t' cs'
  have h5 := Blk.new ((w.alloc (.cells cs t)).alloc (.cells cs' t')) t'' cs''
  rw [h4] at h5
  exact ⟨Lib.hid (h1.out.alloc _), Lib.hid (h2.out.alloc _), Lib.hid h5, Lib.hid (h3.out.alloc (by omega) _), by simp⟩
theorem Blk.hb {w w' : World} {g : Nat} {t : TypeId} {cs : Array Value} (h : Hid (Blk w g t cs)) (hb : Below w.heap.size w w') : Hid (Blk w' g t cs) := Lib.hid (h.out.below hb h.out.lt)
/-- The cell and that it may be written. -/
theorem Blk.one {w : World} {g : Nat} {t : TypeId} {cs : Array Value} (h : Hid (Blk w g t cs)) (i : Nat) {v : Value} (hv : cs[i]? = some v) : w.cell? ⟨g, i, none⟩ = some v ∧ w.frozen? ⟨g, i, none⟩ = false :=
  ⟨(h.out.cell i).trans hv, h.out.frozen i⟩
/-- A row of the call's own, where another block is written. -/
theorem Lay.Own.cell {P : Program} {α : Type} {L : Lay P α} {w : World} {base g : Nat} {t : TypeId} {cs : Array Value} {v : Value} {l : List α} (h : L.Own base w v l) (hb : Blk w g t cs) (hne : L.e ≠ t) (i : Nat) (u : Value) : L.Own base (w.setCell ⟨g, i, Option.none⟩ u) v l :=
  h.turned hne (turns_cell hb (Nat.zero_le _) i u)
theorem Lay.Own.stored {P : Program} {α : Type} {L : Lay P α} {w w' : World} {base b g : Nat} {t : TypeId} {cs : Array Value} {v : Value} {l : List α} (h : L.Own base w v l) (hs : Stored b g t cs w w') (hne : L.e ≠ t) : L.Own base w' v l :=
  h.turned hne hs.turns
theorem Lay.Own.low {P : Program} {α : Type} {L : Lay P α} {w : World} {base g : Nat} {v : Value} {l : List α} (h : L.Own base w v l) (hg : g < base) (i : Nat) (u : Value) : L.Own base (w.setCell ⟨g, i, Option.none⟩ u) v l := by
  refine ⟨h.1, ?_⟩
  rcases h.2 with h0 | ⟨g', cap, cur, hv, hb, hg', hr⟩
  · exact .inl h0
  · exact .inr ⟨g', cap, cur, hv, hb, by rw [Below.heap_setCell w ⟨g, i, Option.none⟩ u g' (by show g' ≠ g; omega)]; exact hg', hr⟩
theorem Lay.Own.far {P : Program} {α : Type} {L : Lay P α} {w w' : World} {base b g : Nat} {t : TypeId} {cs : Array Value} {v : Value} {l : List α} (h : L.Own base w v l) (hs : Stored b g t cs w w') (hg : g < base) : L.Own base w' v l := by
  refine ⟨h.1, ?_⟩
  rcases h.2 with h0 | ⟨g', cap, cur, hv, hb, hg', hr⟩
  · exact .inl h0
  · exact .inr ⟨g', cap, cur, hv, hb, hs.far hg' (by omega), hr⟩
theorem ne_mp : mailLay.e ≠ 25 := by decide

/-- Ways out: a post; a post and a slot; a post, a mail, two slots. -/
theorem ret_p {f : Func} {k : Tmp} (hf : f.results = #[.cell k 25]) {R : Ending → World → Prop} {a : Act} {w : World} {B : Nat} {A : Option Addr} {n c : Nat} {s : Nat → Int}
    (h2 : a.tmps[k]? = some (.pointer (some ⟨B, 0, none⟩))) (hd : a.defers = []) (hb : Blk w B 25 (pc A n c s)) (hR : R (.returned (pv A n c s)) w) : bodyPost Try.prog f R Exit.ret a w :=
  bodyPost_ret (results_cell_row hf a.tmps w B _ _ (0, 0) _ (by simp [h2]) hb Try.underlying25 rfl info_post) hd hR
theorem load_p {w : World} {B : Nat} {A : Option Addr} {n c : Nat} {s : Nat → Int} (hb : Blk w B 25 (pc A n c s)) : (loadVar 25 ⟨B, 0, none⟩).run Try.prog w = .ok (.agg (pc A n c s)) w :=
  run_loadVar_row w B _ _ _ (0, 0) _ hb Try.underlying25 rfl info_post
theorem load_m {w : World} {B : Nat} {x : Pst.Mail} (hb : Blk w B 27 (mc x)) : (loadVar 27 ⟨B, 0, none⟩).run Try.prog w = .ok (.agg (mc x)) w :=
  run_loadVar_row w B _ _ _ (0, 0) _ hb Try.underlying27 rfl info_mail4
theorem ret_pe {f : Func} {k j : Tmp} (hf : f.results = #[.cell k 25, .tmp j]) {R : Ending → World → Prop} {a : Act} {w : World} {B : Nat} {A : Option Addr} {n c : Nat} {s : Nat → Int} {u : Value}
    (h2 : a.tmps[k]? = some (.pointer (some ⟨B, 0, none⟩))) (h3 : a.tmps[j]? = some u) (hd : a.defers = []) (hb : Blk w B 25 (pc A n c s)) (hR : R (.returned (.tuple #[pv A n c s, u])) w) : bodyPost Try.prog f R Exit.ret a w := by
  refine bodyPost_ret (v := .tuple #[pv A n c s, u]) ?_ hd hR
  have h := load_p hb
  simp [results, hf, asAddr, h2, h3, h, pv]
  done
theorem ret_pmbe {f : Func} {k j q r : Tmp} (hf : f.results = #[.cell k 25, .cell j 27, .tmp q, .tmp r]) {R : Ending → World → Prop} {a : Act} {w : World} {B D : Nat} {A : Option Addr} {n c : Nat} {s : Nat → Int} {x : Pst.Mail} {u v : Value}
    (h2 : a.tmps[k]? = some (.pointer (some ⟨B, 0, none⟩))) (h3 : a.tmps[j]? = some (.pointer (some ⟨D, 0, none⟩))) (h4 : a.tmps[q]? = some u) (h5 : a.tmps[r]? = some v) (hd : a.defers = [])
    (hb : Blk w B 25 (pc A n c s)) (hm : Blk w D 27 (mc x)) (hR : R (.returned (.tuple #[pv A n c s, mailV x, u, v])) w) : bodyPost Try.prog f R Exit.ret a w := by
  refine bodyPost_ret (v := .tuple #[pv A n c s, mailV x, u, v]) ?_ hd hR
  have h := load_p hb
  have h' := load_m hm
  simp [results, hf, asAddr, Sem.run_bind, h2, h3, h4, h5, h, h', pv, mailV_mc]
  done
end Go.Proofs.Ytkajnmlglgjocaa
