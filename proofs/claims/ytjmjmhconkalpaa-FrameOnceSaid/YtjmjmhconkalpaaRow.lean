/-
  Rows of bytes of a call's own: what one more byte, or some, do to them, and what they are as a text.
  No condition but those named.
-/
import Derived.Test.YtjmjmhconkalpaaText
import Derived.Test.YtjmjmhconkalpaaInfo
import Derived.Test.YtjmjmhconkalpaaOwns
import Derived.KernelRfl
import Derived.Lib.UnsafeStr
import Derived.Lib.Hide
import Derived.Test.YtjmjmhconkalpaaAppends
import Derived.Deep.Onto
import Derived.Laws.OwnMore
namespace Go.Proofs.Ytjmjmhconkalpaa
open Go.RowKit

/-- v is a row of the call's own of just these bytes. -/
def Row (base : Nat) (w : World) (v : Value) (l : List UInt8) : Prop := w.ownsRow base 5 1 v l.length (Lib.byteCells l)
theorem Row.alloc {base : Nat} {w : World} {v : Value} {l : List UInt8} (h : Row base w v l) (o : Obj) : Row base (w.alloc o) v l := World.ownsRow.alloc h o
theorem Row.drew {base : Nat} {w : World} {v : Value} {l : List UInt8} (h : Row base w v l) : Row base w.drew v l := h
theorem Row.drewN {base : Nat} {w : World} {v : Value} {l : List UInt8} (h : Row base w v l) (n : Nat) : Row base (w.drewN n) v l := h
theorem Row.below {base : Nat} {w w' : World} {v : Value} {l : List UInt8} (h : Row base w v l) (b : Below w.heap.size w w') : Row base w' v l := by
  refine ⟨h.1, ?_⟩
  rcases h.2 with h0 | ⟨g, cap, cur, hv, hb, hg, hr⟩
  · exact .inl h0
  · exact .inr ⟨g, cap, cur, hv, hb, by rw [b.block g (Array.getElem?_eq_some_iff.1 hg).1]; exact hg, hr⟩
theorem Row.shape {base : Nat} {w : World} {v : Value} {l : List UInt8} (h : Row base w v l) : ∃ A c, v = .slice A l.length c := by
  rcases h.2 with ⟨rfl, h0⟩ | ⟨g, cap, cur, rfl, _⟩
  · exact ⟨none, 0, by rw [h0]⟩
  · exact ⟨_, cap, rfl⟩
theorem Row.new {base : Nat} (w : World) (l : List UInt8) (C : Array Value) (hC : C = (Lib.byteCells l).toArray) (hb : base ≤ w.heap.size) (hl : l.length ≤ maxLen) : Row base (w.alloc (.cells C 5)) (.slice (some ⟨w.heap.size, 0, none⟩) l.length l.length) l := by
  subst hC
  refine ⟨by simp [Lib.byteCells], .inr ⟨w.heap.size, l.length, _, rfl, hb, heap_alloc_new w _, Nat.le_refl _, hl, by simp [Lib.byteCells], ?_⟩⟩
  simp only [Nat.mul_one]
  exact List.take_of_length_le (by simp [Lib.byteCells])
theorem cell1 {x : Int} {c : UInt8} (h : x = (c.toNat : Int)) : #[Value.int .u8 x] = (Lib.byteCells [c]).toArray := by subst h; rfl
theorem cell4 {x y z u : Int} {c d e f : UInt8} (h : x = (c.toNat : Int)) (h2 : y = (d.toNat : Int)) (h3 : z = (e.toNat : Int)) (h4 : u = (f.toNat : Int)) : #[Value.int .u8 x, Value.int .u8 y, Value.int .u8 z, Value.int .u8 u] = (Lib.byteCells [c, d, e, f]).toArray := by subst h h2 h3 h4; rfl
theorem cell2 {x y : Int} {c d : UInt8} (h : x = (c.toNat : Int)) (h2 : y = (d.toNat : Int)) : #[Value.int .u8 x, Value.int .u8 y] = (Lib.byteCells [c, d]).toArray := by subst h h2; rfl
theorem Row.owns {base : Nat} {w : World} {v : Value} {l : List UInt8} (h : Row base w v l) (hl : l ≠ []) : ∃ g c, v = .slice (some ⟨g, 0, none⟩) l.length c ∧ base ≤ g ∧ g < w.heap.size ∧ Owns w g l := by
  have hc := fun g => World.ownsRow.cells h (g := g)
  have hf := fun g n cap (e : v = .slice (some ⟨g, 0, none⟩) n cap) (en : n = l.length) => World.ownsRow.frozenAt (g := g) (n := l.length) (cap := cap) (base := base) (e := 5) (size := 1) (xs := Lib.byteCells l) (w := w) (by subst en; rw [← e]; exact h)
  rcases h.2 with ⟨_, h0⟩ | ⟨g, cap, cur, rfl, hb, hg, _⟩
  · exact absurd (List.eq_nil_of_length_eq_zero h0) hl
  · refine ⟨g, cap, rfl, hb, (Array.getElem?_eq_some_iff.1 hg).1, fun j hj => ⟨?_, hf g _ cap rfl rfl j⟩⟩
    have := hc g rfl j (.int .u8 ((l.getD j 0).toNat : Int)) (by simp [Lib.byteCells, List.getElem?_eq_getElem hj, List.getD])
    rwa [add_at, Nat.zero_add] at this
theorem nil_string (w : World) : (convert 35 9 (.slice none 0 0)).run Try.prog w = .ok (.string (Val.of [])) w := by kernel_rfl
theorem row_string {base : Nat} {w : World} {v : Value} {l : List UInt8} (h : Row base w v l) : (convert 35 9 v).run Try.prog w = .ok (.string (Val.of l)) w := by
  have hc := fun g => World.ownsRow.cells h (g := g)
  rcases h.2 with ⟨rfl, h0⟩ | ⟨g, cap, cur, rfl, _⟩
  · obtain rfl := List.eq_nil_of_length_eq_zero h0
    exact nil_string w
  · refine run_convert_bytes_back (P := Try.prog) w 35 9 5 ⟨g, 0, none⟩ cap l Try.underlying35 Try.underlying5 Try.underlying9 (fun j hj => ?_)
    refine hc g rfl j _ ?_
    simp [Lib.byteCells, List.getElem?_eq_getElem hj]
theorem byteCells_get (l : List UInt8) (i : Nat) (h : i < l.length) : (Lib.byteCells l)[i]? = some (.int .u8 ((l.getD i 0).toNat : Int)) := by
  simp [Lib.byteCells, List.getElem?_eq_getElem h, List.getD]
/-- A made block of bytes, as what is appended. -/
theorem src_new (w : World) (cs : List UInt8) (C : Array Value) (hC : C = (Lib.byteCells cs).toArray) (c n : Nat) (hn : n = cs.length) : Src Try.prog 1 35 (.slice (some ⟨w.heap.size, 0, none⟩) n c) n (Lib.byteCells cs) (w.alloc (.cells C 5)) := by
  subst hC hn
  refine Src.ofSlice _ Try.underlying35 _ _ _ _ (by simp [Lib.byteCells]) (fun j u hu => ?_) (fun u hu => ?_)
  · rw [add_at, World.cell?_alloc_new]
    simpa using hu
  · simp only [Lib.byteCells, List.mem_map] at hu
    obtain ⟨x, _, rfl⟩ := hu
    rfl

/-- An append of a made block's bytes. -/
theorem wpList_push {ops : Array Oper} {rest : List Oper} {o : Oper} {a : Act} {Q : Exit → Act → World → Prop} (hgd : o.guard = none) (s x : Operand)
    (ho : o.op = .call { callee := .builtin .append, args := #[s, x], argTypes := #[35, 35] })
    (base : Nat) (w : World) (v : Value) (l cs : List UInt8) (C : Array Value) (n c : Nat) (hs : a.eval s = v) (hx : a.eval x = .slice (some ⟨w.heap.size, 0, none⟩) n c)
    (hC : C = (Lib.byteCells cs).toArray) (hn : n = cs.length) (hrow : Row base w v l) (hl : l.length + cs.length ≤ 211106232532992) (hb : base ≤ w.heap.size)
    (h : ∀ v' w', Hid (Row base w' v' (l ++ cs)) → Hid (∀ b0 w0, b0 ≤ base → b0 ≤ w.heap.size → Turns b0 5 w0 w → Turns b0 5 w0 w') → base ≤ w'.heap.size → wpList Try.prog ops Q rest (a.put o.dst v') w') :
    wpList Try.prog ops Q (o :: rest) a (w.alloc (.cells C 5)) := by
  obtain ⟨i0, hi, hz0, hz1, hz2⟩ := info_parts info_u8
  refine wpList_append_src _ hgd s x 35 35 ho base 5 i0 (.int .u8 0) 1 1 Try.underlying35 hi hz0 hz1 hz2 rfl (by decide) (by decide) v l.length (Lib.byteCells l) hs (hrow.alloc _) n (Lib.byteCells cs) _ hx (src_new w cs C hC c n hn)
    (by unfold maxLen; omega) (by omega) (by simp; omega) ?_
  intro v' w' hown hg _
  have hsz := hg.size
  simp at hsz
  refine h v' w' (Lib.hid ?_) (Lib.hid fun b0 w0 h0 h1 T => ?_) (by omega)
  · unfold Row
    rw [List.length_append, Lib.byteCells_append, ← hn]
    exact hown
  · exact (T.alloc h1 _).grown (by simp; omega) (World.ownsRow.mono (hrow.alloc _) h0) hg

/-- The same where a region draws its order. -/
theorem step_push {ops : Array Oper} {o : Oper} {a : Act} {K : Act → World → Prop} {Q : Exit → Act → World → Prop} {E : Prop} (hgd : o.guard = none) (s x : Operand)
    (ho : o.op = .call { callee := .builtin .append, args := #[s, x], argTypes := #[35, 35] })
    (base : Nat) (w : World) (v : Value) (l cs : List UInt8) (C : Array Value) (n c : Nat) (hs : a.eval s = v) (hx : a.eval x = .slice (some ⟨w.heap.size, 0, none⟩) n c)
    (hC : C = (Lib.byteCells cs).toArray) (hn : n = cs.length) (hrow : Row base w v l) (hl : l.length + cs.length ≤ 211106232532992) (hb : base ≤ w.heap.size)
    (h : ∀ v' w', Hid (Row base w' v' (l ++ cs)) → Hid (∀ b0 w0, b0 ≤ base → b0 ≤ w.heap.size → Turns b0 5 w0 w → Turns b0 5 w0 w') → base ≤ w'.heap.size → K (a.put o.dst v') w') :
    if Region.wanted o (yielded ops a.tmps) = true then Oper.wp Try.prog o a (w.alloc (.cells C 5)) K Q else E := by
  obtain ⟨i0, hi, hz0, hz1, hz2⟩ := info_parts info_u8
  refine step_append_src _ hgd s x 35 35 ho base 5 i0 (.int .u8 0) 1 1 Try.underlying35 hi hz0 hz1 hz2 rfl (by decide) (by decide) v l.length (Lib.byteCells l) hs (hrow.alloc _) n (Lib.byteCells cs) _ hx (src_new w cs C hC c n hn)
    (by unfold maxLen; omega) (by omega) (by simp; omega) ?_
  intro v' w' hown hg _
  have hsz := hg.size
  simp at hsz
  refine h v' w' (Lib.hid ?_) (Lib.hid fun b0 w0 h0 h1 T => ?_) (by omega)
  · unfold Row
    rw [List.length_append, Lib.byteCells_append, ← hn]
    exact hown
  · exact (T.alloc h1 _).grown (by simp; omega) (World.ownsRow.mono (hrow.alloc _) h0) hg

/-- An append of a text's bytes. -/
theorem wpList_pushStr {ops : Array Oper} {rest : List Oper} {o : Oper} {a : Act} {Q : Exit → Act → World → Prop} (hgd : o.guard = none) (s x : Operand)
    (ho : o.op = .call { callee := .builtin .append, args := #[s, x], argTypes := #[35, 9] })
    (base : Nat) (w : World) (v : Value) (l : List UInt8) (t : ByteArray) (hs : a.eval s = v) (hx : a.eval x = .string t)
    (hrow : Row base w v l) (hl : l.length + t.size ≤ 211106232532992) (hb : base ≤ w.heap.size)
    (h : ∀ v' w', Hid (Row base w' v' (l ++ t.data.toList)) → Hid (∀ b0 w0, b0 ≤ base → b0 ≤ w.heap.size → Turns b0 5 w0 w → Turns b0 5 w0 w') → base ≤ w'.heap.size → wpList Try.prog ops Q rest (a.put o.dst v') w') :
    wpList Try.prog ops Q (o :: rest) a w := by
  obtain ⟨i0, hi, hz0, hz1, hz2⟩ := info_parts info_u8
  refine wpList_append_src _ hgd s x 35 9 ho base 5 i0 (.int .u8 0) 1 1 Try.underlying35 hi hz0 hz1 hz2 rfl (by decide) (by decide) v l.length (Lib.byteCells l) hs hrow t.size (byteCells t) _ hx (Src.ofString _ Try.underlying9 t)
    (by unfold maxLen; omega) (by omega) (by omega) ?_
  intro v' w' hown hg _
  have hsz := hg.size
  refine h v' w' (Lib.hid ?_) (Lib.hid fun b0 w0 h0 h1 T => ?_) (by omega)
  · unfold Row
    rw [List.length_append, Lib.byteCells_append, Array.length_toList]
    exact hown
  · exact T.grown h1 (World.ownsRow.mono hrow h0) hg

theorem index_at (s : ByteArray) (i : Nat) (z : Int) (hz : z = (i : Int)) (c : UInt8) (h : s.data.toList[i]? = some c) (W : World) :
    (Instr.index 9 (.string s) (.int .i64 z)).run Try.prog W = .ok (.int .u8 (c.toNat : Int)) W := by
  subst hz
  have hl : i < s.data.toList.length := (List.getElem?_eq_some_iff.1 h).1
  have hl' : i < s.size := by rw [Array.length_toList] at hl; exact hl
  rw [run_index_string W 9 s .i64 _ Try.underlying9, dif_pos ⟨by omega, by omega⟩]
  have e : ((i : Int)).toNat = i := by omega
  simp only [e]
  have h2 : s.data[i]? = some c := by rw [← Array.getElem?_toList]; exact h
  have h3 : (s[i]'hl') = c := by
    have : s.data[i]? = some (s.data[i]'hl') := Array.getElem?_eq_getElem hl'
    rw [this] at h2
    exact Option.some.inj h2
  rw [h3]

end Go.Proofs.Ytjmjmhconkalpaa
