/-
  Blocks that are known whole: what a load and a store of a whole block do, at a list of operations, where a region draws its order, under a guard;
  what was made; rows of the call's own beside them, and rows that grow beside one another. Pure of the program: whatever types lie so.
  No condition but those named.
-/
import Derived.Test.YtakjggmiilkmdaaLay
import Derived.Test.YtakjggmiilkmdaaLift
import Derived.WalkKit
import Derived.WalkSpells
import Derived.WalkLawsBesides
import Derived.Handy
import Derived.BigFrame
import Derived.Deep.Draws
import Derived.Deep.MidRow
import Derived.Lib.Hide
namespace Go.Proofs.Ytakjggmiilkmdaa
open Go.RowKit

/-- Block g is just these cells, and they may be written. -/
def Blk (w : World) (g : Nat) (t : TypeId) (cs : Array Value) : Prop := w.heap[g]? = some (.cells cs t (0, 0))
section
variable {w w' : World} {g : Nat} {t : TypeId} {cs : Array Value}
theorem Blk.lt (h : Blk w g t cs) : g < w.heap.size := (Array.getElem?_eq_some_iff.1 h).1
theorem Blk.cell (h : Blk w g t cs) (i : Nat) : w.cell? ⟨g, i, none⟩ = cs[i]? := cell_of_row w g i cs t (0, 0) h
theorem Blk.frozen (h : Blk w g t cs) (i : Nat) : w.frozen? ⟨g, i, none⟩ = false := by
  unfold Blk at h
  simp [World.frozen?, h]
theorem Blk.new (w : World) (t : TypeId) (cs : Array Value) : Blk (w.alloc (.cells cs t)) w.heap.size t cs := heap_alloc_new w _
theorem Blk.drewN (h : Blk w g t cs) (n : Nat) : Blk (w.drewN n) g t cs := h
theorem Blk.alloc (h : Blk w g t cs) (o : Obj) : Blk (w.alloc o) g t cs := (Below.heap_alloc w o g h.lt).trans h
theorem Blk.set_ (h : Blk w g t cs) (i : Nat) (u : Value) : Blk (w.setCell ⟨g, i, none⟩ u) g t (cs.setIfInBounds i u) := by
  unfold Blk at h ⊢
  simp [World.setCell, Array.getElem?_modify, h]
theorem Blk.far (h : Blk w g t cs) {p : Addr} (hp : g ≠ p.block) (u : Value) : Blk (w.setCell p u) g t cs := (Below.heap_setCell w p u g hp).trans h
theorem Blk.below {B : Nat} (h : Blk w g t cs) (hb : Below B w w') (hg : g < B) : Blk w' g t cs := (hb.block g hg).trans h
theorem Blk.turned {t' : TypeId} {w0 : Nat} (h : Blk w g t cs) (b : Turns w0 t' w w') (hne : t ≠ t') : Blk w' g t cs := b.others g cs t (0, 0) hne h
theorem Blk.row (h : Blk w g t cs) {g' : Nat} (hne : g ≠ g') (cs' : Array Value) : Blk (w.setRow g' cs') g t cs := (setRow_other w g' g cs' hne).trans h
theorem Blk.row_same (h : Blk w g t cs) (cs' : Array Value) : Blk (w.setRow g cs') g t cs' := setRow_heap w g cs cs' t (0, 0) h
theorem turns_row (h : Blk w g t cs) {base : Nat} (hb : base ≤ g) (cs' : Array Value) : Turns base t w (w.setRow g cs') := by
  refine ⟨⟨rfl, rfl, rfl, by simp, fun k hk => setRow_other w g k cs' (by omega)⟩, fun k cs2 t' fr hn hk => ?_⟩
  rw [setRow_other w g k cs' ?_]
  · exact hk
  · rintro rfl
    unfold Blk at h
    rw [h] at hk
    injection hk with hk
    injection hk with _ h2 _
    exact hn h2.symm
theorem turns_cell (h : Blk w g t cs) {base : Nat} (hb : base ≤ g) (i : Nat) (u : Value) : Turns base t w (w.setCell ⟨g, i, none⟩ u) := by
  refine ⟨(Below.refl base w).setCell (p := ⟨g, i, none⟩) hb u, fun k cs2 t' fr hn hk => ?_⟩
  rw [Below.heap_setCell w ⟨g, i, none⟩ u k ?_]
  · exact hk
  · rintro rfl
    unfold Blk at h
    rw [h] at hk
    injection hk with hk
    injection hk with _ h2 _
    exact hn h2.symm
end

section
variable {P : Program} {ops : Array Oper} {rest : List Oper} {o : Oper} {a : Act} {w : World} {Q : Exit → Act → World → Prop}
/-- A load of a whole block. -/
theorem wpList_lblk (hgd : o.guard = none) (ty : TypeId) (x : Operand) (ho : o.op = .load ty x) {g : Nat} {t : TypeId} {cs : Array Value} (hb : Hid (Blk w g t cs)) (hx : a.eval x = .pointer (some ⟨g, 0, none⟩))
    {fs : Array Field} (hu : P.underlying ty = some (.struct fs)) (hi : (P.info? ty).map (·.size) = some cs.size) (h : wpList P ops Q rest (a.put o.dst (.agg cs)) w) : wpList P ops Q (o :: rest) a w :=
  wpList_load_row hgd ty x ho g hx t cs (0, 0) (.struct fs) hb.out hu rfl hi h
/-- What a store of a whole block leaves. -/
structure Stored (base g : Nat) (t : TypeId) (cs : Array Value) (w w' : World) : Prop where
  turns : Turns base t w w'
  blk : Blk w' g t cs
  far : ∀ {g' : Nat} {t' : TypeId} {cs' : Array Value}, Blk w g' t' cs' → g' ≠ g → Blk w' g' t' cs'
  size : w'.heap.size = w.heap.size
theorem stored_row {g : Nat} {t : TypeId} {old : Array Value} (hb : Blk w g t old) {base : Nat} (hbase : base ≤ g) (cs : Array Value) : Stored base g t cs w (w.setRow g cs) :=
  ⟨turns_row hb hbase cs, hb.row_same cs, fun h hne => h.row hne cs, by simp⟩
/-- A store of a whole block. -/
theorem wpList_sblk (hgd : o.guard = none) (ty : TypeId) (x y : Operand) (ho : o.op = .store ty x y) {g : Nat} {t : TypeId} {old cs : Array Value} (hb : Hid (Blk w g t old)) (hx : a.eval x = .pointer (some ⟨g, 0, none⟩)) (hy : a.eval y = .agg cs)
    (hi : (P.info? ty).map (·.size) = some cs.size) (hsz : old.size = cs.size) (h1 : cs.all (·.oneCell') = true) {base : Nat} (hbase : base ≤ g)
    (h : ∀ w', Hid (Stored base g t cs w w') → wpList P ops Q rest (a.put o.dst undef) w') : wpList P ops Q (o :: rest) a w :=
  wpList_plain hgd fun _K hK => wp_store_row ty x y ho g cs hx hy t old hb.out hi hsz h1 (hK _ _ (h _ (Lib.hid (stored_row hb.out hbase cs))))
/-- The same where a region draws its order. -/
theorem step_lblk {K : Act → World → Prop} {E : Prop} (hgd : o.guard = none) (ty : TypeId) (x : Operand) (ho : o.op = .load ty x) {g : Nat} {t : TypeId} {cs : Array Value} (hb : Hid (Blk w g t cs)) (hx : a.eval x = .pointer (some ⟨g, 0, none⟩))
    {fs : Array Field} (hu : P.underlying ty = some (.struct fs)) (hi : (P.info? ty).map (·.size) = some cs.size) (h : K (a.put o.dst (.agg cs)) w) :
    if Region.wanted o (yielded ops a.tmps) = true then Oper.wp P o a w K Q else E := by
  rw [if_pos (by simp [Region.wanted, hgd])]
  exact wp_load_row ty x ho g hx t cs (0, 0) (.struct fs) hb.out hu rfl hi h
theorem step_sblk {K : Act → World → Prop} {E : Prop} (hgd : o.guard = none) (ty : TypeId) (x y : Operand) (ho : o.op = .store ty x y) {g : Nat} {t : TypeId} {old cs : Array Value} (hb : Hid (Blk w g t old)) (hx : a.eval x = .pointer (some ⟨g, 0, none⟩)) (hy : a.eval y = .agg cs)
    (hi : (P.info? ty).map (·.size) = some cs.size) (hsz : old.size = cs.size) (h1 : cs.all (·.oneCell') = true) {base : Nat} (hbase : base ≤ g)
    (h : ∀ w', Hid (Stored base g t cs w w') → K (a.put o.dst undef) w') :
    if Region.wanted o (yielded ops a.tmps) = true then Oper.wp P o a w K Q else E := by
  rw [if_pos (by simp [Region.wanted, hgd])]
  exact wp_store_row ty x y ho g cs hx hy t old hb.out hi hsz h1 (h _ (Lib.hid (stored_row hb.out hbase cs)))
end
/-- Made blocks, one above the other. -/
theorem made1 (w : World) (t : TypeId) (cs : Array Value) : Hid (Blk (w.alloc (.cells cs t)) w.heap.size t cs) ∧ Hid (Below w.heap.size w (w.alloc (.cells cs t))) ∧ (w.alloc (.cells cs t)).heap.size = w.heap.size + 1 :=
  ⟨Lib.hid (Blk.new w t cs), Lib.hid ((Below.refl _ w).alloc (Nat.le_refl _) _), by simp⟩
theorem made2 (w : World) (t : TypeId) (cs : Array Value) (t' : TypeId) (cs' : Array Value) :
    Hid (Blk ((w.alloc (.cells cs t)).alloc (.cells cs' t')) w.heap.size t cs) ∧ Hid (Blk ((w.alloc (.cells cs t)).alloc (.cells cs' t')) (w.heap.size + 1) t' cs') ∧
      Hid (Below w.heap.size w ((w.alloc (.cells cs t)).alloc (.cells cs' t'))) ∧ ((w.alloc (.cells cs t)).alloc (.cells cs' t')).heap.size = w.heap.size + 2 := by
  obtain ⟨h1, h2, h3⟩ := made1 w t cs
  have h4 := Blk.new (w.alloc (.cells cs t)) t' cs'
  rw [h3] at h4
  exact ⟨Lib.hid (h1.out.alloc _), Lib.hid h4, Lib.hid (h2.out.alloc (by omega) _), by simp⟩
theorem made3 (w : World) (t : TypeId) (cs : Array Value) (t' : TypeId) (cs' : Array Value) (t'' : TypeId) (cs'' : Array Value) :
    Hid (Blk (((w.alloc (.cells cs t)).alloc (.cells cs' t')).alloc (.cells cs'' t'')) w.heap.size t cs) ∧ Hid (Blk (((w.alloc (.cells cs t)).alloc (.cells cs' t')).alloc (.cells cs'' t'')) (w.heap.size + 1) t' cs') ∧
      Hid (Blk (((w.alloc (.cells cs t)).alloc (.cells cs' t')).alloc (.cells cs'' t'')) (w.heap.size + 2) t'' cs'') ∧
      Hid (Below w.heap.size w (((w.alloc (.cells cs t)).alloc (.cells cs' t')).alloc (.cells cs'' t''))) ∧ (((w.alloc (.cells cs t)).alloc (.cells cs' t')).alloc (.cells cs'' t'')).heap.size = w.heap.size + 3 := by
  obtain ⟨h1, h2, h3, h4⟩ := made2 w t cs t' cs'
  have h5 := Blk.new ((w.alloc (.cells cs t)).alloc (.cells cs' t')) t'' cs''
  rw [h4] at h5
  exact ⟨Lib.hid (h1.out.alloc _), Lib.hid (h2.out.alloc _), Lib.hid h5, Lib.hid (h3.out.alloc (by omega) _), by simp⟩
theorem Blk.hb {w w' : World} {g : Nat} {t : TypeId} {cs : Array Value} (h : Hid (Blk w g t cs)) (hb : Below w.heap.size w w') : Hid (Blk w' g t cs) := Lib.hid (h.out.below hb h.out.lt)
/-- The cell and that it may be written. -/
theorem Blk.one {w : World} {g : Nat} {t : TypeId} {cs : Array Value} (h : Hid (Blk w g t cs)) (i : Nat) {v : Value} (hv : cs[i]? = some v) : w.cell? ⟨g, i, none⟩ = some v ∧ w.frozen? ⟨g, i, none⟩ = false :=
  ⟨(h.out.cell i).trans hv, h.out.frozen i⟩
/-- A row of the call's own, where another block is written. -/
theorem Lay.Own.cell {P : Program} {α : Type} {L : Lay P α} {w : World} {base g : Nat} {t : TypeId} {cs : Array Value} {v : Value} {l : List α} (h : L.Own base w v l) (hb : Blk w g t cs) (hne : L.e ≠ t) (i : Nat) (u : Value) : L.Own base (w.setCell ⟨g, i, Option.none⟩ u) v l :=
  h.turned hne (turns_cell hb (Nat.zero_le _) i u)
theorem Lay.Own.stored {P : Program} {α : Type} {L : Lay P α} {w w' : World} {base b g : Nat} {t : TypeId} {cs : Array Value} {v : Value} {l : List α} (h : L.Own base w v l) (hs : Stored b g t cs w w') (hne : L.e ≠ t) : L.Own base w' v l :=
  h.turned hne hs.turns
theorem Lay.Own.low {P : Program} {α : Type} {L : Lay P α} {w : World} {base g : Nat} {v : Value} {l : List α} (h : L.Own base w v l) (hg : g < base) (i : Nat) (u : Value) : L.Own base (w.setCell ⟨g, i, Option.none⟩ u) v l := by
  refine ⟨h.1, ?_⟩
  rcases h.2 with h0 | ⟨g', cap, cur, hv, hb, hg', hr⟩
  · exact .inl h0
  · exact .inr ⟨g', cap, cur, hv, hb, by rw [Below.heap_setCell w ⟨g, i, Option.none⟩ u g' (by show g' ≠ g; omega)]; exact hg', hr⟩
theorem Lay.Own.far {P : Program} {α : Type} {L : Lay P α} {w w' : World} {base b g : Nat} {t : TypeId} {cs : Array Value} {v : Value} {l : List α} (h : L.Own base w v l) (hs : Stored b g t cs w w') (hg : g < base) : L.Own base w' v l := by
  refine ⟨h.1, ?_⟩
  rcases h.2 with h0 | ⟨g', cap, cur, hv, hb, hg', hr⟩
  · exact .inl h0
  · exact .inr ⟨g', cap, cur, hv, hb, hs.far hg' (by omega), hr⟩
theorem Lay.Own.apart {P : Program} {α : Type} {L : Lay P α} {w w' : World} {base b g : Nat} {t : TypeId} {cs : Array Value} {v : Value} {l : List α} (h : L.Own base w v l) (hs : Stored b g t cs w w') (hg : v.ownBlock ≠ some g) : L.Own base w' v l := by
  refine ⟨h.1, ?_⟩
  rcases h.2 with h0 | ⟨g', cap, cur, hv, hb, hg', hr⟩
  · exact .inl h0
  · refine .inr ⟨g', cap, cur, hv, hb, hs.far hg' (fun e => hg ?_), hr⟩
    rw [hv, e]; rfl
theorem own_new {P : Program} {α : Type} {L : Lay P α} {w : World} {base : Nat} {v : Value} {l : List α} (h : L.Own base w v l) : v.ownBlock ≠ some w.heap.size := fun e => Nat.lt_irrefl _ (World.ownsRow.lt h _ e).2
/-- What a load of a whole block yields, and under a guard. -/
theorem exec_lblk {P : Program} {o : Oper} {a : Act} {w : World} {x : Operand} {ty : TypeId} {g : Nat} {t : TypeId} {cs : Array Value} {fs : Array Field} (hb : Hid (Blk w g t cs)) (hu : P.underlying ty = some (.struct fs)) (hi : (P.info? ty).map (·.size) = some cs.size) (ho : o.op = .load ty x) (hx : a.eval x = .pointer (some ⟨g, 0, none⟩)) :
    (execOp a.eval o).run P w = .ok (.value (.agg cs)) w := by
  unfold execOp
  have h := run_loadVar_row (P := P) w g t ty cs (0, 0) _ hb.out hu rfl hi
  simp only [ho, hx, Instr.loadAt, Instr.sureAddr, Sem.run_bind, Sem.run_pure, Result.andThen_ok, h]
theorem wpList_gblk {P : Program} {ops : Array Oper} {rest : List Oper} {o : Oper} {a : Act} {w : World} {Q : Exit → Act → World → Prop} (hw : Region.wanted o (yielded ops a.tmps) = true) (ty : TypeId) (x : Operand) (ho : o.op = .load ty x) {g : Nat} {t : TypeId} {cs : Array Value} (hb : Hid (Blk w g t cs)) (hx : a.eval x = .pointer (some ⟨g, 0, none⟩))
    {fs : Array Field} (hu : P.underlying ty = some (.struct fs)) (hi : (P.info? ty).map (·.size) = some cs.size) (h : wpList P ops Q rest (a.put o.dst (.agg cs)) w) : wpList P ops Q (o :: rest) a w :=
  BigFrame.wpList_want hw fun _ hK => wp_load_row ty x ho g hx t cs (0, 0) _ hb.out hu rfl hi (hK _ _ h)
/-- Two rows share no block. -/
def Apart (u v : Value) : Prop := ∀ k, u.ownBlock = some k → v.ownBlock ≠ some k
theorem Apart.symm {u v : Value} (h : Apart u v) : Apart v u := fun k hk h' => h k h' hk
/-- What an append onto a row of the law's own leaves: all blocks but the row's own, of whatever type. -/
structure Grew {P : Program} {α : Type} (L : Lay P α) (base : Nat) (w : World) (v : Value) (w' : World) (v' : Value) (l : List α) : Prop where
  own : L.Own base w' v' l
  far : ∀ {g : Nat} {t : TypeId} {cs : Array Value}, Blk w g t cs → v.ownBlock ≠ some g → Blk w' g t cs
  blk : v'.ownBlock = v.ownBlock ∨ ∃ j, v'.ownBlock = some j ∧ w.heap.size ≤ j
  below : Below base w w'
section
variable {P : Program} {α β : Type} {L : Lay P α} {M : Lay P β} {base b2 : Nat} {w w' : World} {v v' u : Value} {l : List α} {lu : List β}
theorem Grew.row (h : Grew L base w v w' v' l) (hu : M.Own b2 w u lu) (ha : Apart u v) : M.Own b2 w' u lu := by
  refine ⟨hu.1, ?_⟩
  rcases hu.2 with h0 | ⟨g', cap, cur, hv, hb, hg', hr⟩
  · exact .inl h0
  · exact .inr ⟨g', cap, cur, hv, hb, h.far hg' (ha g' (by rw [hv]; rfl)), hr⟩
theorem Grew.apart (h : Grew L base w v w' v' l) (hu : M.Own b2 w u lu) (ha : Apart u v) : Apart u v' := fun k hk e => by
  rcases h.blk with h1 | ⟨j, h1, h2⟩
  · rw [h1] at e; exact ha k hk e
  · rw [h1] at e; injection e with e
    have := (World.ownsRow.lt hu k hk).2
    omega
theorem Grew.ne {k : Nat} (h : Grew L base w v w' v' l) (hk : k < w.heap.size) (ha : v.ownBlock ≠ some k) : v'.ownBlock ≠ some k := fun e => by
  rcases h.blk with h1 | ⟨j, h1, h2⟩
  · rw [h1] at e; exact ha e
  · rw [h1] at e; injection e with e; omega
theorem Grew.size (h : Grew L base w v w' v' l) : w.heap.size ≤ w'.heap.size := h.below.size
/-- A row of one type and a block of another. -/
theorem own_ne {g : Nat} {t : TypeId} {cs : Array Value} (h : L.Own base w v l) (hb : Blk w g t cs) (hne : L.e ≠ t) : v.ownBlock ≠ some g := by
  rcases h.2 with ⟨rfl, _⟩ | ⟨g', cap, cur, rfl, _, hg, _⟩
  · intro e; cases e
  · intro e
    have : g' = g := by simpa [Value.ownBlock] using e
    subst this
    unfold Blk at hb
    rw [hg] at hb
    injection hb with hb
    injection hb with _ h3
    exact hne h3
theorem wpList_pushA (L : Lay P α) {ops : Array Oper} {rest : List Oper} {o : Oper} {a : Act} {Q : Exit → Act → World → Prop} (hgd : o.guard = none) (s x : Operand)
    (ho : o.op = .call { callee := .builtin .append, args := #[s, x], argTypes := #[L.t, L.t] })
    (base : Nat) (w : World) (v : Value) (l : List α) (m : α) (C : Array Value) (g : Nat) (hs : a.eval s = v) (hx : a.eval x = .slice (some ⟨g, 0, none⟩) 1 1)
    (hC : C = (L.flat [m]).toArray) (hg : g = w.heap.size) (hrow : Hid (L.Own base w v l)) (hl : Hid (l.length + 1 ≤ 9223372036854775807 ∧ (l.length + 1) * L.bytes ≤ 211106232532992)) (hb : Hid (base ≤ w.heap.size))
    (h : ∀ v' w', Hid (Grew L base w v w' v' (l ++ [m])) → wpList P ops Q rest (a.put o.dst v') w') :
    wpList P ops Q (o :: rest) a (w.alloc (.cells C L.e)) := by
  obtain ⟨i0, hi, hz0, hz1, hz2⟩ := info_parts L.info
  obtain ⟨hl1, hl2⟩ := hl.out
  have hb := hb.out
  have hrow := hrow.out
  refine wpList_append_src _ hgd s x _ _ ho base _ i0 L.z L.k L.bytes L.und hi hz0 hz1 hz2 L.zs L.pos L.small v l.length (L.flat l) hs (hrow.alloc _) 1 (L.flat [m]) _ hx (L.src_new w [m] C hC 1 1 g hg rfl)
    (by unfold maxLen; omega) hl2 (by simp; omega) ?_
  intro v' w' hown hgr hal
  refine h v' w' (Lib.hid ⟨?_, fun {g' t cs} hb' hne => ?_, ?_, ?_⟩)
  · unfold Lay.Own
    rw [List.length_append, Lay.flat_append]
    exact hown
  · exact (hgr.block g' (hb'.alloc _).lt (fun e => hne e.symm)).trans (hb'.alloc _)
  · rcases hal with h1 | h1
    · exact .inl h1
    · exact .inr ⟨_, h1, by simp⟩
  · exact ((Below.refl base w).alloc hb _).grown hgr (by simp; omega) (fun k hk => (World.ownsRow.lt (hrow.alloc (.cells C L.e)) k hk).1)
theorem wpList_moreA (L : Lay P α) {ops : Array Oper} {rest : List Oper} {o : Oper} {a : Act} {Q : Exit → Act → World → Prop} (hgd : o.guard = none) (s x : Operand)
    (ho : o.op = .call { callee := .builtin .append, args := #[s, x], argTypes := #[L.t, L.t] })
    (base : Nat) (w : World) (v : Value) (l : List α) (A : Option Addr) (c B : Nat) (m : List α) (hs : a.eval s = v) (hx : a.eval x = .slice A m.length c)
    (hrow : Hid (L.Own base w v l)) (hI : Hid (L.Reads w B A m ∧ (A = none → m = []))) (hl : Hid (l.length + m.length ≤ 9223372036854775807 ∧ (l.length + m.length) * L.bytes ≤ 211106232532992)) (hb : Hid (base ≤ w.heap.size))
    (h : ∀ v' w', Hid (Grew L base w v w' v' (l ++ m)) → wpList P ops Q rest (a.put o.dst v') w') :
    wpList P ops Q (o :: rest) a w := by
  obtain ⟨i0, hi, hz0, hz1, hz2⟩ := info_parts L.info
  obtain ⟨hl1, hl2⟩ := hl.out
  have hb := hb.out
  have hrow := hrow.out
  refine wpList_append_src _ hgd s x _ _ ho base _ i0 L.z L.k L.bytes L.und hi hz0 hz1 hz2 L.zs L.pos L.small v l.length (L.flat l) hs hrow m.length (L.flat m) _ hx (hI.out.1.src c hI.out.2)
    (by unfold maxLen; omega) hl2 hb ?_
  intro v' w' hown hgr hal
  refine h v' w' (Lib.hid ⟨?_, fun {g' t cs} hb' hne => ?_, ?_, ?_⟩)
  · unfold Lay.Own
    rw [List.length_append, Lay.flat_append]
    exact hown
  · exact (hgr.block g' hb'.lt (fun e => hne e.symm)).trans hb'
  · rcases hal with h1 | h1
    · exact .inl h1
    · exact .inr ⟨_, h1, Nat.le_refl _⟩
  · exact (Below.refl base w).grown hgr hb (fun k hk => (World.ownsRow.lt hrow k hk).1)
end
/-- A row's cell, written: in the terms of its list of cells. -/
theorem row_set {w : World} {base g n c : Nat} {e : TypeId} {size : Nat} {k : Nat} {xs : List Value} (h : w.ownsRow base e size (.slice (some ⟨g, 0, none⟩) n c) k xs) (j : Nat) (u : Value) : (w.setCell ⟨g, j, none⟩ u).ownsRow base e size (.slice (some ⟨g, 0, none⟩) n c) k (xs.set j u) := by
  refine ⟨by rw [List.length_set]; exact h.1, ?_⟩
  rcases h.2 with ⟨h1, _⟩ | ⟨g', cap, cur, h1, hb, hg, hnc, hcm, hs, ht⟩
  · cases h1
  · injection h1 with e1 e2 e3
    injection e1 with e1
    injection e1 with e1
    subst e1 e2 e3
    refine .inr ⟨g, c, cur.setIfInBounds j u, rfl, hb, Blk.set_ (w := w) (t := e) (cs := cur) hg j u, hnc, hcm, by rw [Array.size_setIfInBounds]; exact hs, ?_⟩
    rw [Array.toList_setIfInBounds, List.take_set, ht]
end Go.Proofs.Ytakjggmiilkmdaa
