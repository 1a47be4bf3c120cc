/-
  Slices of things of one kind, each laid into so many cells: what is known of them, the call's own and others, and what an append does.
  Pure of the program: whatever type lies so. No condition but those named.
-/
import Derived.Test.YtakjggmiilkmdaaAppends
import Derived.Lib.Hide
import Derived.Deep.Onto
namespace Go.Proofs.Ytakjggmiilkmdaa
open Go.RowKit

/-- How things of a kind lie: a slice's type, an element's, its cells, its bytes, its nought, what a thing's cells are. -/
structure Lay (P : Program) (α : Type) where
  t : TypeId
  e : TypeId
  k : Nat
  bytes : Nat
  z : Value
  f : α → List Value
  len : ∀ x, (f x).length = k
  one : ∀ x, ∀ u ∈ f x, u.oneCell' = true
  und : P.underlying t = some (.slice e)
  info : (P.info? e).map (fun i => (i.zero, i.size, i.bytes)) = some (some z, k, bytes)
  zs : z.cells.size = k
  pos : 0 < k
  small : bytes ≤ 65536

namespace Lay
theorem add_at (b o j : Nat) : (⟨b, o, none⟩ : Addr).add j = ⟨b, o + j, none⟩ := by
  unfold Addr.add
  split
  · rename_i h; subst h; rfl
  · rfl
theorem get_of {α : Type} {l : List α} {k : Nat} (h : k < l.length) : ∃ x, l[k]? = some x := ⟨_, List.getElem?_eq_getElem h⟩
theorem take_succ {α : Type} {l : List α} {k : Nat} {x : α} (h : l[k]? = some x) : l.take (k + 1) = l.take k ++ [x] := by
  rw [List.take_add_one, h]; rfl

section
variable {P : Program} {α : Type} (L : Lay P α)
def flat (l : List α) : List Value := l.flatMap L.f
theorem flat_nil : L.flat [] = [] := rfl
theorem flat_cons (x : α) (l : List α) : L.flat (x :: l) = L.f x ++ L.flat l := rfl
theorem flat_append (a b : List α) : L.flat (a ++ b) = L.flat a ++ L.flat b := List.flatMap_append ..
theorem flat_length (l : List α) : (L.flat l).length = l.length * L.k := by
  induction l with
  | nil => simp [flat]
  | cons x l ih => rw [flat_cons, List.length_append, L.len, ih, List.length_cons, Nat.succ_mul, Nat.add_comm]
theorem flat_get : ∀ (l : List α) (i : Nat) (x : α), l[i]? = some x → ∀ j u, (L.f x)[j]? = some u → (L.flat l)[i * L.k + j]? = some u
  | y :: l, 0, x, h, j, u, hu => by
    simp at h; subst h
    have hj := (List.getElem?_eq_some_iff.1 hu).1
    rw [flat_cons, Nat.zero_mul, Nat.zero_add, List.getElem?_append_left hj]
    exact hu
  | y :: l, i + 1, x, h, j, u, hu => by
    rw [List.getElem?_cons_succ] at h
    have ih := flat_get l i x h j u hu
    have h1 := L.len y
    have h2 : (i + 1) * L.k = i * L.k + L.k := Nat.succ_mul i L.k
    rw [flat_cons, List.getElem?_append_right (by rw [h1]; omega), h1, show (i + 1) * L.k + j - L.k = i * L.k + j from by omega]
    exact ih
theorem flat_of : ∀ (l : List α) (j : Nat) (u : Value), (L.flat l)[j]? = some u → ∃ i x q, l[i]? = some x ∧ (L.f x)[q]? = some u ∧ j = i * L.k + q
  | [], j, u, h => by simp [flat] at h
  | y :: l, j, u, h => by
    rw [flat_cons] at h
    have h1 := L.len y
    rcases Nat.lt_or_ge j L.k with hj | hj
    · rw [List.getElem?_append_left (by rw [h1]; exact hj)] at h
      exact ⟨0, y, j, rfl, h, by omega⟩
    · rw [List.getElem?_append_right (by rw [h1]; exact hj), h1] at h
      obtain ⟨i, x, q, hx, hq, e⟩ := flat_of l _ u h
      refine ⟨i + 1, x, q, by rw [List.getElem?_cons_succ]; exact hx, hq, ?_⟩
      have h2 : (i + 1) * L.k = i * L.k + L.k := Nat.succ_mul i L.k
      omega
theorem flat_one (l : List α) : ∀ u ∈ L.flat l, u.oneCell' = true := fun u hu => by
  obtain ⟨x, _, hx⟩ := List.mem_flatMap.1 hu
  exact L.one x u hx

/-- The cells of thing number i behind an address. -/
def At (w : World) (b o i : Nat) (x : α) : Prop := ∀ j u, (L.f x)[j]? = some u → w.cell? ⟨b, o + i * L.k + j, none⟩ = some u
/-- A slice's cells, from its address on, are these things; they lie below block B. -/
def Reads (w : World) (B : Nat) (A : Option Addr) (l : List α) : Prop :=
  0 < l.length → ∃ b o, A = some ⟨b, o, none⟩ ∧ b < B ∧ ∀ i x, l[i]? = some x → L.At w b o i x
/-- v is a slice of the call's own of just these things. -/
def Own (base : Nat) (w : World) (v : Value) (l : List α) : Prop := w.ownsRow base L.e L.k v l.length (L.flat l)
end

section
variable {P : Program} {α : Type} {L : Lay P α} {w w' : World} {B B' b o base : Nat} {A : Option Addr} {l : List α} {v : Value}
theorem At.keep {i : Nat} {x : α} (h : L.At w b o i x) (hk : ∀ p : Addr, p.block = b → w'.cell? p = w.cell? p) : L.At w' b o i x := fun j u hu => by
  rw [hk _ rfl]; exact h j u hu
theorem Reads.keep (h : L.Reads w B A l) (hk : ∀ p : Addr, p.block < B → w'.cell? p = w.cell? p) : L.Reads w' B A l := fun hn => by
  obtain ⟨b, o, hA, hb, hc⟩ := h hn
  exact ⟨b, o, hA, hb, fun i x hx => (hc i x hx).keep fun p hp => hk p (by omega)⟩
theorem Reads.below (h : L.Reads w B A l) (hb : Below B w w') : L.Reads w' B A l := h.keep fun _ hp => hb.cell hp
theorem Reads.more (h : L.Reads w B A l) (hb : B ≤ B') : L.Reads w B' A l := fun hn => by
  obtain ⟨b, o, hA, hb', hc⟩ := h hn
  exact ⟨b, o, hA, by omega, hc⟩
theorem Reads.later (h : L.Reads w B A l) (hb : Below B w w') (hB : B ≤ w.heap.size) : L.Reads w' w'.heap.size A l := (h.below hb).more (Nat.le_trans hB hb.size)
theorem Reads.drewN (h : L.Reads w B A l) (n : Nat) : L.Reads (w.drewN n) B A l := h
theorem Reads.nil (w : World) (B : Nat) (A : Option Addr) : L.Reads w B A [] := fun h => absurd h (by simp)
/-- The first so many things of a slice. -/
theorem Reads.take (h : L.Reads w B A l) (q : Nat) : L.Reads w B A (l.take q) := fun hn => by
  obtain ⟨b, o, hA, hb, hc⟩ := h (by rw [List.length_take] at hn; omega)
  refine ⟨b, o, hA, hb, fun i x hx => ?_⟩
  rw [List.getElem?_take] at hx
  split at hx
  · exact hc i x hx
  · cases hx
/-- A slice's things from one of them on. -/
theorem Reads.drop (h : L.Reads w B (some ⟨b, o, none⟩) l) (q : Nat) : L.Reads w B (some ⟨b, o + q * L.k, none⟩) (l.drop q) := fun hn => by
  obtain ⟨b', o', hA, hb, hc⟩ := h (by rw [List.length_drop] at hn; omega)
  injection hA with hA
  injection hA with h1 h2
  subst h1 h2
  refine ⟨b, o + q * L.k, rfl, hb, fun i x hx j u hu => ?_⟩
  rw [List.getElem?_drop] at hx
  have h1 := hc _ x hx j u hu
  rw [Nat.add_mul] at h1
  rw [show o + q * L.k + i * L.k + j = o + (q * L.k + i * L.k) + j from by omega]
  exact h1
theorem Reads.block (h : L.Reads w B (some ⟨b, o, none⟩) l) (hn : 0 < l.length) : b < B ∧ ∀ i x, l[i]? = some x → L.At w b o i x := by
  obtain ⟨b', o', hA, hb, hc⟩ := h hn
  injection hA with hA
  injection hA with h1 h2
  subst h1 h2
  exact ⟨hb, hc⟩

theorem Own.shape (h : L.Own base w v l) : ∃ A c, v = .slice A l.length c := by
  rcases h.2 with ⟨rfl, h0⟩ | ⟨g, cap, cur, rfl, _⟩
  · exact ⟨none, 0, by rw [h0]⟩
  · exact ⟨_, _, rfl⟩
theorem Own.alloc (h : L.Own base w v l) (o : Obj) : L.Own base (w.alloc o) v l := World.ownsRow.alloc h o
theorem Own.drew (h : L.Own base w v l) : L.Own base w.drew v l := h
theorem Own.drewN (h : L.Own base w v l) (n : Nat) : L.Own base (w.drewN n) v l := h
theorem Own.below (h : L.Own base w v l) (b : Below w.heap.size w w') : L.Own base w' v l := by
  refine ⟨h.1, ?_⟩
  rcases h.2 with h0 | ⟨g, cap, cur, hv, hb, hg, hr⟩
  · exact .inl h0
  · exact .inr ⟨g, cap, cur, hv, hb, by rw [b.block g (Array.getElem?_eq_some_iff.1 hg).1]; exact hg, hr⟩
theorem Own.mono (h : L.Own base w v l) {base' : Nat} (hb : base' ≤ base) : L.Own base' w v l := World.ownsRow.mono h hb
/-- A row keeps where a bound above it is kept. -/
theorem Own.turned (h : L.Own base w v l) {t : TypeId} (hne : L.e ≠ t) {w0 : Nat} (b : Turns w0 t w w') : L.Own base w' v l := by
  refine ⟨h.1, ?_⟩
  rcases h.2 with h0 | ⟨g, cap, cur, hv, hb, hg, hr⟩
  · exact .inl h0
  · exact .inr ⟨g, cap, cur, hv, hb, b.others g _ _ _ hne hg, hr⟩
/-- A slice of the call's own, as one that reads so. -/
theorem Own.reads {n c : Nat} (h : L.Own base w (.slice A n c) l) : n = l.length ∧ L.Reads w w.heap.size A l := by
  have hc := fun g => World.ownsRow.cells h (g := g)
  rcases h.2 with ⟨h1, h0⟩ | ⟨g, cap, cur, h1, _, hg, _⟩
  · injection h1 with h1 h2 h3
    subst h1 h2 h3
    exact ⟨h0.symm, fun hp => absurd hp (by omega)⟩
  · injection h1 with h1 h2 h3
    subst h1 h2 h3
    refine ⟨rfl, fun _ => ⟨g, 0, rfl, (Array.getElem?_eq_some_iff.1 hg).1, fun i x hx j u hu => ?_⟩⟩
    have h3 := hc g rfl _ _ (L.flat_get l i x hx j u hu)
    rw [add_at] at h3
    rw [Nat.zero_add] at h3 ⊢
    exact h3
/-- A slice of the call's own that isn't empty: its block, and that it is no longer than its room. -/
theorem Own.block (h : L.Own base w v l) (hl : l ≠ []) : ∃ g c, v = .slice (some ⟨g, 0, none⟩) l.length c ∧ l.length ≤ c ∧ base ≤ g ∧ g < w.heap.size ∧ ∀ i x, l[i]? = some x → L.At w g 0 i x := by
  have h0 : 0 < l.length := List.length_pos_iff.2 hl
  have h2 := h.2
  obtain ⟨A, c, hv⟩ := h.shape
  subst hv
  obtain ⟨_, hi⟩ := h.reads
  rcases h2 with ⟨h1, h3⟩ | ⟨g, cap, cur, h1, hb0, hg, hnc, _⟩
  · omega
  · injection h1 with e1 e2 e3
    subst e1 e3
    obtain ⟨b, o, e, hb, hc⟩ := hi h0
    injection e with e
    injection e with e1 e2
    subst e1 e2
    exact ⟨g, _, rfl, hnc, hb0, hb, hc⟩
theorem Own.cap {n c : Nat} (h : L.Own base w (.slice A n c) l) : l.length ≤ c := by
  rcases h.2 with ⟨h1, h3⟩ | ⟨g, cap, cur, h1, hb0, hg, hnc, _⟩
  · omega
  · injection h1 with e1 e2 e3
    subst e3
    exact hnc
theorem Own.none (w : World) (base : Nat) : L.Own base w (.slice none 0 0) [] := World.ownsRow_nil w base L.e L.k
theorem Own.new (w : World) (l : List α) (C : Array Value) (g n c : Nat) (hC : C = (L.flat l).toArray) (hb : base ≤ w.heap.size) (hg : g = w.heap.size) (hn : n = l.length) (hc : c = l.length) (hl : l.length ≤ 65536) :
    L.Own base (w.alloc (.cells C L.e)) (.slice (some ⟨g, 0, Option.none⟩) n c) l := by
  subst hC hg hn hc
  refine ⟨L.flat_length l, .inr ⟨w.heap.size, l.length, _, rfl, hb, heap_alloc_new w _, Nat.le_refl _, by unfold maxLen; omega, ?_, ?_⟩⟩
  · simp [L.flat_length]
  · exact List.take_of_length_le (by simp [L.flat_length])

/-- What an append of such a slice yields. -/
theorem Reads.src (c : Nat) (h : L.Reads w B A l) (hA : A = none → l = []) : Src P L.k L.t (.slice A l.length c) l.length (L.flat l) w := by
  match A, h, hA with
  | none, _, hA =>
    obtain rfl := hA rfl
    exact Src.ofNil w L.und c
  | some a, h, _ =>
    refine Src.ofSlice w L.und a l.length c (L.flat l) (L.flat_length l) (fun j u hu => ?_) (L.flat_one l)
    obtain ⟨i, x, q, h1, h2, h3⟩ := L.flat_of l j u hu
    have hj : i < l.length := (List.getElem?_eq_some_iff.1 h1).1
    obtain ⟨b, o, ha, _, hc⟩ := h (by omega)
    injection ha with ha
    subst ha
    rw [add_at, h3, ← Nat.add_assoc]
    exact hc i x h1 q u h2
/-- A made block of some things, as what is appended. -/
theorem src_new (L : Lay P α) (w : World) (ys : List α) (C : Array Value) (hC : C = (L.flat ys).toArray) (c n g : Nat) (hg : g = w.heap.size) (hn : n = ys.length) : Src P L.k L.t (.slice (some ⟨g, 0, none⟩) n c) n (L.flat ys) (w.alloc (.cells C L.e)) := by
  subst hC hn hg
  refine Src.ofSlice _ L.und _ _ _ _ (L.flat_length ys) (fun j u hu => ?_) (L.flat_one ys)
  rw [add_at, World.cell?_alloc_new]
  simpa using hu

/-- An append of a made block's things. -/
theorem wpList_push (L : Lay P α) {ops : Array Oper} {rest : List Oper} {o : Oper} {a : Act} {Q : Exit → Act → World → Prop} (hgd : o.guard = none) (s x : Operand)
    (ho : o.op = .call { callee := .builtin .append, args := #[s, x], argTypes := #[L.t, L.t] })
    (base : Nat) (w : World) (v : Value) (l ys : List α) (C : Array Value) (g n c : Nat) (hs : a.eval s = v) (hx : a.eval x = .slice (some ⟨g, 0, none⟩) n c)
    (hC : C = (L.flat ys).toArray) (hg : g = w.heap.size) (hn : n = ys.length) (hrow : L.Own base w v l) (hl : l.length + ys.length ≤ 9223372036854775807) (hbl : (l.length + ys.length) * L.bytes ≤ 211106232532992) (hb : base ≤ w.heap.size)
    (h : ∀ v' w', Hid (L.Own base w' v' (l ++ ys)) → Hid (Turns base L.e w w') → base ≤ w'.heap.size → wpList P ops Q rest (a.put o.dst v') w') :
    wpList P ops Q (o :: rest) a (w.alloc (.cells C L.e)) := by
  obtain ⟨i0, hi, hz0, hz1, hz2⟩ := info_parts L.info
  refine wpList_append_src _ hgd s x L.t L.t ho base L.e i0 L.z L.k L.bytes L.und hi hz0 hz1 hz2 L.zs L.pos L.small v l.length (L.flat l) hs (hrow.alloc _) n (L.flat ys) _ hx (L.src_new w ys C hC c n g hg hn)
    (by unfold maxLen; omega) (by subst hn; exact hbl) (by simp; omega) ?_
  intro v' w' hown hgr _
  have hsz := hgr.size
  simp at hsz
  refine h v' w' (Lib.hid ?_) (Lib.hid (((Turns.refl base L.e w).alloc hb _).grown (by simp; omega) (hrow.alloc _) hgr)) (by omega)
  unfold Own
  rw [List.length_append, flat_append, ← hn]
  exact hown

/-- The same where a region draws its order. -/
theorem step_push (L : Lay P α) {ops : Array Oper} {o : Oper} {a : Act} {K : Act → World → Prop} {Q : Exit → Act → World → Prop} {E : Prop} (hgd : o.guard = none) (s x : Operand)
    (ho : o.op = .call { callee := .builtin .append, args := #[s, x], argTypes := #[L.t, L.t] })
    (base : Nat) (w : World) (v : Value) (l ys : List α) (C : Array Value) (g n c : Nat) (hs : a.eval s = v) (hx : a.eval x = .slice (some ⟨g, 0, none⟩) n c)
    (hC : C = (L.flat ys).toArray) (hg : g = w.heap.size) (hn : n = ys.length) (hrow : L.Own base w v l) (hl : l.length + ys.length ≤ 9223372036854775807) (hbl : (l.length + ys.length) * L.bytes ≤ 211106232532992) (hb : base ≤ w.heap.size)
    (h : ∀ v' w', Hid (L.Own base w' v' (l ++ ys)) → Hid (Turns base L.e w w') → base ≤ w'.heap.size → K (a.put o.dst v') w') :
    if Region.wanted o (yielded ops a.tmps) = true then Oper.wp P o a (w.alloc (.cells C L.e)) K Q else E := by
  obtain ⟨i0, hi, hz0, hz1, hz2⟩ := info_parts L.info
  refine step_append_src _ hgd s x L.t L.t ho base L.e i0 L.z L.k L.bytes L.und hi hz0 hz1 hz2 L.zs L.pos L.small v l.length (L.flat l) hs (hrow.alloc _) n (L.flat ys) _ hx (L.src_new w ys C hC c n g hg hn)
    (by unfold maxLen; omega) (by subst hn; exact hbl) (by simp; omega) ?_
  intro v' w' hown hgr _
  have hsz := hgr.size
  simp at hsz
  refine h v' w' (Lib.hid ?_) (Lib.hid (((Turns.refl base L.e w).alloc hb _).grown (by simp; omega) (hrow.alloc _) hgr)) (by omega)
  unfold Own
  rw [List.length_append, flat_append, ← hn]
  exact hown

/-- An append of a slice's things. -/
theorem wpList_more (L : Lay P α) {ops : Array Oper} {rest : List Oper} {o : Oper} {a : Act} {Q : Exit → Act → World → Prop} (hgd : o.guard = none) (s x : Operand)
    (ho : o.op = .call { callee := .builtin .append, args := #[s, x], argTypes := #[L.t, L.t] })
    (base : Nat) (w : World) (v : Value) (l : List α) (A : Option Addr) (n c B : Nat) (m : List α) (hs : a.eval s = v) (hx : a.eval x = .slice A n c) (hn : n = m.length)
    (hrow : L.Own base w v l) (hI : L.Reads w B A m) (hA : A = none → m = []) (hl : l.length + m.length ≤ 9223372036854775807) (hbl : (l.length + m.length) * L.bytes ≤ 211106232532992) (hb : base ≤ w.heap.size)
    (h : ∀ v' w', Hid (L.Own base w' v' (l ++ m)) → Hid (Turns base L.e w w') → base ≤ w'.heap.size → wpList P ops Q rest (a.put o.dst v') w') :
    wpList P ops Q (o :: rest) a w := by
  subst hn
  obtain ⟨i0, hi, hz0, hz1, hz2⟩ := info_parts L.info
  refine wpList_append_src _ hgd s x L.t L.t ho base L.e i0 L.z L.k L.bytes L.und hi hz0 hz1 hz2 L.zs L.pos L.small v l.length (L.flat l) hs hrow m.length (L.flat m) _ hx (hI.src c hA)
    (by unfold maxLen; omega) hbl hb ?_
  intro v' w' hown hgr _
  have hsz := hgr.size
  refine h v' w' (Lib.hid ?_) (Lib.hid ((Turns.refl base L.e w).grown hb hrow hgr)) (by omega)
  unfold Own
  rw [List.length_append, flat_append]
  exact hown
/-- The same where a region draws its order. -/
theorem step_more (L : Lay P α) {ops : Array Oper} {o : Oper} {a : Act} {K : Act → World → Prop} {Q : Exit → Act → World → Prop} {E : Prop} (hgd : o.guard = none) (s x : Operand)
    (ho : o.op = .call { callee := .builtin .append, args := #[s, x], argTypes := #[L.t, L.t] })
    (base : Nat) (w : World) (v : Value) (l : List α) (A : Option Addr) (n c B : Nat) (m : List α) (hs : a.eval s = v) (hx : a.eval x = .slice A n c) (hn : n = m.length)
    (hrow : L.Own base w v l) (hI : L.Reads w B A m) (hA : A = none → m = []) (hl : l.length + m.length ≤ 9223372036854775807) (hbl : (l.length + m.length) * L.bytes ≤ 211106232532992) (hb : base ≤ w.heap.size)
    (h : ∀ v' w', Hid (L.Own base w' v' (l ++ m)) → Hid (Turns base L.e w w') → base ≤ w'.heap.size → K (a.put o.dst v') w') :
    if Region.wanted o (yielded ops a.tmps) = true then Oper.wp P o a w K Q else E := by
  subst hn
  obtain ⟨i0, hi, hz0, hz1, hz2⟩ := info_parts L.info
  refine step_append_src _ hgd s x L.t L.t ho base L.e i0 L.z L.k L.bytes L.und hi hz0 hz1 hz2 L.zs L.pos L.small v l.length (L.flat l) hs hrow m.length (L.flat m) _ hx (hI.src c hA)
    (by unfold maxLen; omega) hbl hb ?_
  intro v' w' hown hgr _
  have hsz := hgr.size
  refine h v' w' (Lib.hid ?_) (Lib.hid ((Turns.refl base L.e w).grown hb hrow hgr)) (by omega)
  unfold Own
  rw [List.length_append, flat_append]
  exact hown
/-- A made block of some things, as a slice that reads so. -/
theorem Reads.new (L : Lay P α) (w : World) (ys : List α) (C : Array Value) (hC : C = (L.flat ys).toArray) : L.Reads (w.alloc (.cells C L.e)) (w.alloc (.cells C L.e)).heap.size (some ⟨w.heap.size, 0, none⟩) ys := fun _ => by
  subst hC
  refine ⟨w.heap.size, 0, rfl, by simp, fun i x hx j u hu => ?_⟩
  rw [Nat.zero_add, World.cell?_alloc_new]
  simpa using L.flat_get ys i x hx j u hu
end
end Lay

/-- What was so below a mark is so still. -/
theorem below_turns {w0 w w' : World} {b0 base : Nat} {t : TypeId} (h : Below b0 w0 w) (k : Turns base t w w') (hb : b0 ≤ base) : Below b0 w0 w' := h.trans (k.below.mono hb)

end Go.Proofs.Ytakjggmiilkmdaa
