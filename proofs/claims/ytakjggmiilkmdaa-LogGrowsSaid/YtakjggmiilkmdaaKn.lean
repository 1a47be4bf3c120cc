/-
  What is known of the memory at a step: blocks known whole, rows of the call's own, all apart from one another; and what each operation leaves of it:
  loads and stores of structs and cells, appends, calls. Pure of the program: whatever types lie so. No condition but those named.
-/
import Derived.Test.YtakjggmiilkmdaaTk
import Derived.Test.YtakjggmiilkmdaaBlk
namespace Go.Proofs.Ytakjggmiilkmdaa
open Go.RowKit

/-- A row of the call's own, as it is listed. -/
abbrev RowE := TypeId × Nat × Value × Nat × List Value
def row {P : Program} {α : Type} (L : Lay P α) (v : Value) (l : List α) : RowE := (L.e, L.k, v, l.length, L.flat l)
/-- Below b0 all is as in w0; the blocks L and the rows R are known, and apart. -/
structure Kn (b0 : Nat) (w0 w : World) (L : List (Nat × TypeId × Array Value)) (R : List RowE) : Prop where
  b : Below b0 w0 w
  m : b0 ≤ w.heap.size
  l : ∀ (i : Nat) x, L[i]? = some x → b0 ≤ x.1 ∧ Blk w x.1 x.2.1 x.2.2
  r : ∀ (i : Nat) y, R[i]? = some y → w.ownsRow b0 y.1 y.2.1 y.2.2.1 y.2.2.2.1 y.2.2.2.2
  ll : ∀ (i j : Nat) x y, L[i]? = some x → L[j]? = some y → i ≠ j → x.1 ≠ y.1
  lr : ∀ (i j : Nat) x y, L[i]? = some x → R[j]? = some y → y.2.2.1.ownBlock ≠ some x.1
  rr : ∀ (i j : Nat) x y, R[i]? = some x → R[j]? = some y → i ≠ j → Apart x.2.2.1 y.2.2.1
section
variable {b0 : Nat} {w0 w w' : World} {L : List (Nat × TypeId × Array Value)} {R : List RowE}
theorem Kn.start (w : World) : Kn w.heap.size w w [] [] := ⟨Below.refl _ w, Nat.le_refl _, fun i x h => by simp at h, fun i x h => by simp at h, fun i j x y h => by simp at h, fun i j x y h => by simp at h, fun i j x y h => by simp at h⟩
theorem Kn.base (h : Kn b0 w0 w L R) {b : Nat} (hb : b ≤ b0) : Kn b w0 w L R :=
  ⟨h.b.mono hb, Nat.le_trans hb h.m, fun i x hx => ⟨Nat.le_trans hb (h.l i x hx).1, (h.l i x hx).2⟩, fun i y hy => World.ownsRow.mono (h.r i y hy) hb, h.ll, h.lr, h.rr⟩
theorem owns_below {b e s : Nat} {v : Value} {n : Nat} {xs : List Value} (h : w.ownsRow b e s v n xs) (hb : Below w.heap.size w w') : w'.ownsRow b e s v n xs := by
  refine ⟨h.1, ?_⟩
  rcases h.2 with h0 | ⟨g, cap, cur, hv, hb', hg, hr⟩
  · exact .inl h0
  · exact .inr ⟨g, cap, cur, hv, hb', by rw [hb.block g (Array.getElem?_eq_some_iff.1 hg).1]; exact hg, hr⟩
theorem Kn.call (h : Kn b0 w0 w L R) (hb : Below w.heap.size w w') : Kn b0 w0 w' L R :=
  ⟨h.b.trans (hb.mono h.m), Nat.le_trans h.m hb.size, fun i x hx => ⟨(h.l i x hx).1, (h.l i x hx).2.below hb (h.l i x hx).2.lt⟩, fun i y hy => owns_below (h.r i y hy) hb, h.ll, h.lr, h.rr⟩
theorem Kn.drew (h : Kn b0 w0 w L R) : Kn b0 w0 w.drew L R := h.call ((Below.refl _ w).drew)
theorem Kn.drewN (h : Kn b0 w0 w L R) (n : Nat) : Kn b0 w0 (w.drewN n) L R := h.call ⟨rfl, rfl, rfl, Nat.le_refl _, fun _ _ => rfl⟩
theorem Kn.allocO (h : Kn b0 w0 w L R) (o : Obj) : Kn b0 w0 (w.alloc o) L R := h.call ((Below.refl _ w).alloc (Nat.le_refl _) o)
theorem owns_lt {b e s : Nat} {v : Value} {n : Nat} {xs : List Value} {g : Nat} (h : w.ownsRow b e s v n xs) (hg : v.ownBlock = some g) : b ≤ g ∧ g < w.heap.size := World.ownsRow.lt h g hg
/-- A block known besides. -/
theorem Kn.add (h : Kn b0 w0 w L R) {g : Nat} {t : TypeId} {cs : Array Value} (hk : Blk w g t cs) (hb : b0 ≤ g) (hl : ∀ (i : Nat) x, L[i]? = some x → x.1 ≠ g) (hr : ∀ (i : Nat) y, R[i]? = some y → y.2.2.1.ownBlock ≠ some g) : Kn b0 w0 w (L ++ [(g, t, cs)]) R := by
  have key : ∀ (i : Nat) x, (L ++ [(g, t, cs)])[i]? = some x → L[i]? = some x ∨ (i = L.length ∧ x = (g, t, cs)) := fun i x hx => by
    rcases Nat.lt_trichotomy i L.length with hi | hi | hi
    · rw [List.getElem?_append_left hi] at hx; exact .inl hx
    · subst hi; simp at hx; exact .inr ⟨rfl, hx.symm⟩
    · rw [List.getElem?_eq_none (by simp; omega)] at hx; cases hx
  refine ⟨h.b, h.m, fun i x hx => ?_, h.r, fun i j x y hx hy hij => ?_, fun i j x y hx hy => ?_, h.rr⟩
  · rcases key i x hx with hx | ⟨_, rfl⟩
    · exact h.l i x hx
    · exact ⟨hb, hk⟩
  · rcases key i x hx with hx | ⟨e1, rfl⟩ <;> rcases key j y hy with hy | ⟨e2, rfl⟩
    · exact h.ll i j x y hx hy hij
    · exact hl i x hx
    · exact fun e => hl j y hy e.symm
    · omega
  · rcases key i x hx with hx | ⟨_, rfl⟩
    · exact h.lr i j x y hx hy
    · exact hr j y hy
/-- A row known besides. -/
theorem Kn.addR (h : Kn b0 w0 w L R) {y : RowE} (hk : w.ownsRow b0 y.1 y.2.1 y.2.2.1 y.2.2.2.1 y.2.2.2.2) (hl : ∀ (i : Nat) x, L[i]? = some x → y.2.2.1.ownBlock ≠ some x.1) (hr : ∀ (i : Nat) x, R[i]? = some x → Apart x.2.2.1 y.2.2.1) : Kn b0 w0 w L (R ++ [y]) := by
  have key : ∀ (i : Nat) x, (R ++ [y])[i]? = some x → R[i]? = some x ∨ (i = R.length ∧ x = y) := fun i x hx => by
    rcases Nat.lt_trichotomy i R.length with hi | hi | hi
    · rw [List.getElem?_append_left hi] at hx; exact .inl hx
    · subst hi; simp at hx; exact .inr ⟨rfl, hx.symm⟩
    · rw [List.getElem?_eq_none (by simp; omega)] at hx; cases hx
  refine ⟨h.b, h.m, h.l, fun i x hx => ?_, h.ll, fun i j x z hx hz => ?_, fun i j x z hx hz hij => ?_⟩
  · rcases key i x hx with hx | ⟨_, rfl⟩
    · exact h.r i x hx
    · exact hk
  · rcases key j z hz with hz | ⟨_, rfl⟩
    · exact h.lr i j x z hx hz
    · exact hl i x hx
  · rcases key i x hx with hx1 | ⟨e1, rfl⟩ <;> rcases key j z hz with hz1 | ⟨e2, rfl⟩
    · exact h.rr i j x z hx1 hz1 hij
    · exact hr i x hx1
    · exact (hr j z hz1).symm
    · omega
/-- A block that was made. -/
theorem Kn.alloc (h : Kn b0 w0 w L R) (t : TypeId) (cs : Array Value) : Kn b0 w0 (w.alloc (.cells cs t)) (L ++ [(w.heap.size, t, cs)]) R :=
  (h.allocO _).add (Blk.new w t cs) h.m (fun i x hx e => Nat.lt_irrefl _ (e ▸ (h.l i x hx).2.lt)) (fun i y hy e => Nat.lt_irrefl _ (owns_lt (h.r i y hy) e).2)
theorem Kn.alloc2 (h : Kn b0 w0 w L R) (t1 : TypeId) (c1 : Array Value) (t2 : TypeId) (c2 : Array Value) : Kn b0 w0 ((w.alloc (.cells c1 t1)).alloc (.cells c2 t2)) ((L ++ [(w.heap.size, t1, c1)]) ++ [(w.heap.size + 1, t2, c2)]) R := by
  have h1 := (h.alloc t1 c1).alloc t2 c2
  rw [show (w.alloc (.cells c1 t1)).heap.size = w.heap.size + 1 from by simp] at h1
  exact h1
/-- A row that a call, or a literal, has made. -/
theorem Kn.called (h : Kn b0 w0 w L R) (hb : Below w.heap.size w w') {P : Program} {α : Type} {La : Lay P α} {v : Value} {l : List α} (ho : La.Own w.heap.size w' v l) : Kn b0 w0 w' L (R ++ [row La v l]) := by
  refine (h.call hb).addR (y := row La v l) (World.ownsRow.mono ho h.m) (fun i x hx e => ?_) (fun i x hx k hk e => ?_)
  · have := (World.ownsRow.lt ho _ e).1
    have := (h.l i x hx).2.lt
    omega
  · have := (World.ownsRow.lt ho _ e).1
    have := (owns_lt (h.r i x hx) hk).2
    omega
theorem Kn.nilR (h : Kn b0 w0 w L R) {P : Program} {α : Type} (La : Lay P α) : Kn b0 w0 w L (R ++ [row La (.slice none 0 0) []]) :=
  h.addR (y := row La (.slice none 0 0) []) (Lay.Own.none w b0) (fun _ _ _ e => by cases e) (fun _ _ _ _ _ e => by cases e)
theorem Kn.literal (h : Kn b0 w0 w L R) {P : Program} {α : Type} (La : Lay P α) {C : Array Value} (hC : C = #[]) : Kn b0 w0 (w.alloc (.cells C La.e)) L (R ++ [row La (.slice (some ⟨w.heap.size, 0, none⟩) 0 0) []]) :=
  h.called ((Below.refl _ w).alloc (Nat.le_refl _) _) (Lay.Own.new w [] C _ _ _ hC (Nat.le_refl _) rfl rfl rfl (by simp))
theorem Kn.literalAt (h : Kn b0 w0 w L R) {P : Program} {α : Type} (La : Lay P α) (g : Nat) (hg : g = w.heap.size) : Kn b0 w0 (w.alloc (.cells #[] La.e)) L (R ++ [row La (.slice (some ⟨g, 0, none⟩) 0 0) []]) := by
  subst hg
  exact h.literal La rfl
theorem Kn.own {P : Program} {α : Type} {La : Lay P α} {v : Value} {l : List α} (h : Kn b0 w0 w L R) (i : Nat) (hi : R[i]? = some (row La v l)) : La.Own b0 w v l := h.r i _ hi
theorem Kn.blk (h : Kn b0 w0 w L R) (i : Nat) {g : Nat} {t : TypeId} {cs : Array Value} (hi : L[i]? = some (g, t, cs)) : Blk w g t cs := (h.l i _ hi).2
theorem Kn.cell (h : Kn b0 w0 w L R) (i : Nat) {g : Nat} {t : TypeId} {cs : Array Value} (hi : L[i]? = some (g, t, cs)) (j : Nat) {v : Value} (hj : cs[j]? = some v) : w.cell? ⟨g, j, none⟩ = some v := ((h.blk i hi).cell j).trans hj
theorem Kn.takeL (h : Kn b0 w0 w L R) (n : Nat) : Kn b0 w0 w (L.take n) R := by
  have key : ∀ (i : Nat) x, (L.take n)[i]? = some x → L[i]? = some x := fun i x hx => by
    rw [List.getElem?_take] at hx; split at hx
    · exact hx
    · cases hx
  exact ⟨h.b, h.m, fun i x hx => h.l i x (key i x hx), h.r, fun i j x y hx hy => h.ll i j x y (key i x hx) (key j y hy), fun i j x y hx hy => h.lr i j x y (key i x hx) hy, h.rr⟩
theorem Kn.takeR (h : Kn b0 w0 w L R) (n : Nat) : Kn b0 w0 w L (R.take n) := by
  have key : ∀ (i : Nat) x, (R.take n)[i]? = some x → R[i]? = some x := fun i x hx => by
    rw [List.getElem?_take] at hx; split at hx
    · exact hx
    · cases hx
  exact ⟨h.b, h.m, h.l, fun i x hx => h.r i x (key i x hx), h.ll, fun i j x y hx hy => h.lr i j x y hx (key j y hy), fun i j x y hx hy => h.rr i j x y (key i x hx) (key j y hy)⟩
theorem Kn.dropR (h : Kn b0 w0 w L R) (n : Nat) : Kn b0 w0 w L (R.drop n) := by
  have key : ∀ (i : Nat) x, (R.drop n)[i]? = some x → R[n + i]? = some x := fun i x hx => by rw [List.getElem?_drop] at hx; exact hx
  exact ⟨h.b, h.m, h.l, fun i x hx => h.r _ x (key i x hx), h.ll, fun i j x y hx hy => h.lr i _ x y hx (key j y hy), fun i j x y hx hy hij => h.rr _ _ x y (key i x hx) (key j y hy) (by omega)⟩
theorem Kn.dropL (h : Kn b0 w0 w L R) (n : Nat) : Kn b0 w0 w (L.drop n) R := by
  have key : ∀ (i : Nat) x, (L.drop n)[i]? = some x → L[n + i]? = some x := fun i x hx => by rw [List.getElem?_drop] at hx; exact hx
  exact ⟨h.b, h.m, fun i x hx => h.l _ x (key i x hx), h.r, fun i j x y hx hy hij => h.ll _ _ x y (key i x hx) (key j y hy) (by omega), fun i j x y hx hy => h.lr _ j x y (key i x hx) hy, h.rr⟩
/-- Some of the rows, some of the blocks, in another order. -/
theorem Kn.pick (h : Kn b0 w0 w L R) (f g : Nat → Nat) {L2 : List (Nat × TypeId × Array Value)} {R2 : List RowE} (hf : ∀ i j, i < L2.length → j < L2.length → i ≠ j → f i ≠ f j) (hg : ∀ i j, i < R2.length → j < R2.length → i ≠ j → g i ≠ g j)
    (hL : ∀ (i : Nat) x, L2[i]? = some x → L[f i]? = some x) (hR : ∀ (i : Nat) x, R2[i]? = some x → R[g i]? = some x) : Kn b0 w0 w L2 R2 :=
  ⟨h.b, h.m, fun i x hx => h.l _ x (hL i x hx), fun i x hx => h.r _ x (hR i x hx), fun i j x y hx hy hij => h.ll _ _ x y (hL i x hx) (hL j y hy) (hf i j (List.getElem?_eq_some_iff.1 hx).1 (List.getElem?_eq_some_iff.1 hy).1 hij), fun i j x y hx hy => h.lr _ _ x y (hL i x hx) (hR j y hy), fun i j x y hx hy hij => h.rr _ _ x y (hR i x hx) (hR j y hy) (hg i j (List.getElem?_eq_some_iff.1 hx).1 (List.getElem?_eq_some_iff.1 hy).1 hij)⟩
/-- A list with one of it changed. -/
theorem set_at {α : Type} {l : List α} {i : Nat} {e : α} {j : Nat} {x : α} (h : (l.set i e)[j]? = some x) : (j = i ∧ x = e) ∨ (j ≠ i ∧ l[j]? = some x) := by
  rw [List.getElem?_set] at h
  split at h
  · rename_i hij
    subst hij
    split at h
    · exact .inl ⟨rfl, by injection h with h; exact h.symm⟩
    · cases h
  · rename_i hij
    exact .inr ⟨fun e => hij e.symm, h⟩
/-- A known block is another one, all others stay. -/
theorem Kn.setL (h : Kn b0 w0 w L R) {i g : Nat} {t : TypeId} {old cs : Array Value} (hi : L[i]? = some (g, t, old)) (hb : Below b0 w w') (hsz : w'.heap.size = w.heap.size) (hk : Blk w' g t cs)
    (hf : ∀ {g' : Nat} {t' : TypeId} {cs' : Array Value}, Blk w g' t' cs' → g' ≠ g → Blk w' g' t' cs') : Kn b0 w0 w' (L.set i (g, t, cs)) R := by
  refine ⟨h.b.trans hb, by rw [hsz]; exact h.m, fun j x hx => ?_, fun j y hy => ?_, fun j k x y hx hy hjk => ?_, fun j k x y hx hy => ?_, h.rr⟩
  · rcases set_at hx with ⟨rfl, rfl⟩ | ⟨hne, hx⟩
    · exact ⟨(h.l _ _ hi).1, hk⟩
    · exact ⟨(h.l j x hx).1, hf (h.l j x hx).2 (h.ll j i x _ hx hi hne)⟩
  · have ho := h.r j y hy
    refine ⟨ho.1, ?_⟩
    rcases ho.2 with h0 | ⟨g', cap, cur, hv, hb', hg', hr⟩
    · exact .inl h0
    · refine .inr ⟨g', cap, cur, hv, hb', hf hg' (fun e => h.lr i j _ y hi hy ?_), hr⟩
      rw [hv, e]; rfl
  · rcases set_at hx with ⟨rfl, rfl⟩ | ⟨hne, hx1⟩ <;> rcases set_at hy with ⟨rfl, rfl⟩ | ⟨hne', hy1⟩
    · omega
    · exact fun e => h.ll j k _ y hi hy1 hjk e
    · exact fun e => h.ll j k x _ hx1 hi hjk e
    · exact h.ll j k x y hx1 hy1 hjk
  · rcases set_at hx with ⟨rfl, rfl⟩ | ⟨hne, hx1⟩
    · exact fun e => h.lr j k _ y hi hy e
    · exact h.lr j k x y hx1 hy
/-- A known row has grown, all others stay. -/
theorem Kn.setR (h : Kn b0 w0 w L R) {i : Nat} {e : TypeId} {k n n' : Nat} {v v' : Value} {xs xs' : List Value} (hi : R[i]? = some (e, k, v, n, xs)) (hown : w'.ownsRow b0 e k v' n' xs') (hg : w.grownBy w' v.ownBlock)
    (hal : v'.ownBlock = v.ownBlock ∨ v'.ownBlock = some w.heap.size) : Kn b0 w0 w' L (R.set i (e, k, v', n', xs')) := by
  have hb : Below b0 w w' := (Below.refl b0 w).grown hg h.m (fun k hk => (owns_lt (h.r i _ hi) hk).1)
  have hf : ∀ {g' : Nat} {t' : TypeId} {cs' : Array Value}, Blk w g' t' cs' → v.ownBlock ≠ some g' → Blk w' g' t' cs' := fun hk hne => (hg.block _ hk.lt (fun e => hne e.symm)).trans hk
  have hnew : ∀ g, g < w.heap.size → v.ownBlock ≠ some g → v'.ownBlock ≠ some g := fun g hlt hne e => by
    rcases hal with h1 | h1
    · rw [h1] at e; exact hne e
    · rw [h1] at e; injection e with e; omega
  refine ⟨h.b.trans hb, Nat.le_trans h.m hb.size, fun j x hx => ⟨(h.l j x hx).1, hf (h.l j x hx).2 (h.lr j i x _ hx hi)⟩, fun j y hy => ?_, h.ll, fun j q x y hx hy => ?_, fun j q x y hx hy hjq => ?_⟩
  · rcases set_at hy with ⟨rfl, rfl⟩ | ⟨hne, hy⟩
    · exact hown
    · have ho := h.r j y hy
      refine ⟨ho.1, ?_⟩
      rcases ho.2 with h0 | ⟨g', cap, cur, hv, hb', hg', hr⟩
      · exact .inl h0
      · exact .inr ⟨g', cap, cur, hv, hb', hf hg' (h.rr j i y _ hy hi hne g' (by rw [hv]; rfl)), hr⟩
  · rcases set_at hy with ⟨rfl, rfl⟩ | ⟨hne, hy⟩
    · exact hnew _ (h.l j x hx).2.lt (h.lr j q x _ hx hi)
    · exact h.lr j q x y hx hy
  · rcases set_at hx with ⟨rfl, rfl⟩ | ⟨hne, hx1⟩ <;> rcases set_at hy with ⟨rfl, rfl⟩ | ⟨hne', hy1⟩
    · omega
    · exact fun g hg' e => hnew g (owns_lt (h.r q y hy1) e).2 (fun e' => h.rr j q _ y hi hy1 hjq g e' e) hg'
    · exact fun g hg' e => hnew g (owns_lt (h.r j x hx1) hg').2 (fun e' => h.rr j q x _ hx1 hi hjq g hg' e') e
    · exact h.rr j q x y hx1 hy1 hjq
end

/-- Cells put from a place on. -/
def putCells (cs : Array Value) : Nat → List Value → Array Value
  | _, [] => cs
  | o, v :: r => putCells (cs.setIfInBounds o v) (o + 1) r
theorem putCells_toList : ∀ (vs : List Value) (cs : Array Value) (o : Nat), o + vs.length ≤ cs.size → (putCells cs o vs).toList = cs.toList.take o ++ vs ++ cs.toList.drop (o + vs.length)
  | [], cs, o, _ => by simp [putCells]
  | v :: r, cs, o, h => by
    rw [List.length_cons] at h
    have h1 : o < cs.toList.length := by rw [Array.length_toList]; omega
    have ih := putCells_toList r (cs.setIfInBounds o v) (o + 1) (by rw [Array.size_setIfInBounds]; omega)
    rw [Array.toList_setIfInBounds] at ih
    rw [putCells, ih, List.drop_set_of_lt (by omega), List.take_add_one, List.getElem?_set_self h1, List.take_set_of_le (Nat.le_refl o), List.length_cons]
    simp
    omega
theorem putCells_all {vs : List Value} {cs : Array Value} (h : cs.size = vs.length) : putCells cs 0 vs = vs.toArray := by
  have h1 := putCells_toList vs cs 0 (by omega)
  rw [List.take_zero, List.nil_append, Nat.zero_add, List.drop_of_length_le (by rw [Array.length_toList]; omega), List.append_nil] at h1
  rw [← Array.toArray_toList (xs := putCells cs 0 vs), h1]
theorem Blk.cells {_w : World} {g : Nat} {t : TypeId} : ∀ (vs : List Value) (cs : Array Value) (o : Nat) (w : World), Blk w g t cs → Blk (w.setCells g o vs) g t (putCells cs o vs)
  | [], _, _, _, h => h
  | v :: r, _cs, o, w, h => Blk.cells (_w := w) r _ (o + 1) _ (h.set_ o v)
theorem Blk.cells_far {g g' : Nat} {t : TypeId} {cs : Array Value} (hne : g ≠ g') : ∀ (vs : List Value) (o : Nat) (w : World), Blk w g t cs → Blk (w.setCells g' o vs) g t cs
  | [], _, _, h => h
  | v :: r, o, _w, h => Blk.cells_far hne r (o + 1) _ (h.far (p := ⟨g', o, none⟩) hne v)
theorem below_cells {b g : Nat} (hb : b ≤ g) : ∀ (vs : List Value) (o : Nat) (w : World), Below b w (w.setCells g o vs) ∧ (w.setCells g o vs).heap.size = w.heap.size
  | [], _, w => ⟨Below.refl b w, rfl⟩
  | v :: r, o, w => by
    obtain ⟨h1, h2⟩ := below_cells hb r (o + 1) (w.setCell ⟨g, o, none⟩ v)
    have h3 := (Below.refl b w).setCell (p := ⟨g, o, none⟩) hb v
    refine ⟨h3.trans h1, ?_⟩
    show ((w.setCell ⟨g, o, none⟩ v).setCells g (o + 1) r).heap.size = _
    rw [h2]
    simp [World.setCell]

section
variable {P : Program} {b0 : Nat} {w0 w : World} {L : List (Nat × TypeId × Array Value)} {R : List RowE} {ops : Array Oper} {rest : List Oper} {o : Oper} {a : Act} {Q : Exit → Act → World → Prop}
/-- A load of a struct that lies in a known block. -/
theorem kexec_ls (HK : Hid (Kn b0 w0 w L R)) (ty : TypeId) (x : Operand) (ho : o.op = .load ty x) (i : Nat) {g off : Nat} {t : TypeId} {cs : Array Value} (hL : L[i]? = some (g, t, cs)) (hx : a.eval x = .pointer (some ⟨g, off, none⟩))
    (vs : Array Value) (hv : ∀ j, j < vs.size → cs[off + j]? = vs[j]?) {fs : Array Field} (hu : P.underlying ty = some (.struct fs)) (hi : (P.info? ty).map (·.size) = some vs.size) :
    (execOp a.eval o).run P w = .ok (.value (.agg vs)) w := by
  have hc : w.rangeAt g off vs.toList := fun j v hj => by
    rw [Array.getElem?_toList] at hj
    exact HK.out.cell i hL (off + j) ((hv j (Array.getElem?_eq_some_iff.1 hj).1).trans hj)
  have h := run_loadVar_mid (P := P) w g off ty vs.toList _ hc hu rfl (by simpa using hi)
  unfold execOp
  simp only [ho, hx, Instr.loadAt, Instr.sureAddr, Sem.run_bind, Sem.run_pure, Result.andThen_ok, h, Array.toArray_toList]
/-- A load of one cell of a known block. -/
theorem kexec_lc (HK : Hid (Kn b0 w0 w L R)) (ty : TypeId) (x : Operand) (ho : o.op = .load ty x) (i : Nat) {g off : Nat} {t : TypeId} {cs : Array Value} (hL : L[i]? = some (g, t, cs)) (hx : a.eval x = .pointer (some ⟨g, off, none⟩))
    {v : Value} (hv : cs[off]? = some v) {d : TypeDesc} (hu : P.underlying ty = some d) (hd : d.isRow = false) :
    (execOp a.eval o).run P w = .ok (.value v) w := by
  have hc := HK.out.cell i hL off hv
  have hagg : (isAgg ty).run P w = .ok false w := by
    unfold isAgg
    rw [Sem.run_bind, run_underlying hu w]
    cases d <;> simp_all
  have h : (loadVar ty ⟨g, off, none⟩).run P w = .ok v w := by
    simp [loadVar, Sem.run_bind, hagg, hc]
  unfold execOp
  simp only [ho, hx, Instr.loadAt, Instr.sureAddr, Sem.run_bind, Sem.run_pure, Result.andThen_ok, h]
theorem wpList_of_exec {v : Value} (hw : Region.wanted o (yielded ops a.tmps) = true) (hr : (execOp a.eval o).run P w = .ok (.value v) w) (h : wpList P ops Q rest (a.put o.dst v) w) : wpList P ops Q (o :: rest) a w :=
  BigFrame.wpList_want hw fun _ hK => by
    unfold Oper.wp
    rw [hr, Oper.upon_value]
    exact hK _ _ h
/-- A store of a struct into a known block. -/
theorem kwp_ss {K : Act → World → Prop} (HK : Hid (Kn b0 w0 w L R)) (ty : TypeId) (x y : Operand) (ho : o.op = .store ty x y) (i : Nat) {g off : Nat} {t : TypeId} {cs : Array Value} (hL : L[i]? = some (g, t, cs)) (hx : a.eval x = .pointer (some ⟨g, off, none⟩))
    {vs : Array Value} (hy : a.eval y = .agg vs) (hsz : off + vs.size ≤ cs.size) (hi : (P.info? ty).map (·.size) = some vs.size) (h1 : vs.all (·.oneCell') = true)
    (h : ∀ w', Hid (Kn b0 w0 w' (L.set i (g, t, putCells cs off vs.toList)) R) → Hid (w'.heap.size = w.heap.size) → K (a.put o.dst undef) w') : o.wp P a w K Q := by
  have hb := HK.out.blk i hL
  have ht : w.there g off vs.size := fun j hj => by
    rw [hb.cell]
    exact ⟨by rw [Array.getElem?_eq_getElem (by omega)]; rfl, hb.frozen _⟩
  obtain ⟨b1, b2⟩ := below_cells (HK.out.l i _ hL).1 vs.toList off w
  exact wp_store_mid ty x y ho g off vs hx hy ht hi h1 (h _ (Lib.hid (HK.out.setL hL b1 b2 (Blk.cells (_w := w) _ _ _ _ hb) (fun hk hne => Blk.cells_far hne _ _ _ hk))) (Lib.hid b2))
/-- A store of one cell into a known block. -/
theorem kwp_sc {K : Act → World → Prop} (HK : Hid (Kn b0 w0 w L R)) (ty : TypeId) (x y : Operand) (ho : o.op = .store ty x y) (i : Nat) {g off : Nat} {t : TypeId} {cs : Array Value} (hL : L[i]? = some (g, t, cs)) (hx : a.eval x = .pointer (some ⟨g, off, none⟩))
    {v : Value} (hy : a.eval y = v) (hc : v.cells = #[v]) (h1 : v.oneCell' = true) (hsz : off < cs.size) (hi : (P.info? ty).map (·.size) = some 1)
    (h : ∀ w', Hid (Kn b0 w0 w' (L.set i (g, t, cs.setIfInBounds off v)) R) → Hid (w'.heap.size = w.heap.size) → K (a.put o.dst undef) w') : o.wp P a w K Q := by
  have hb := HK.out.blk i hL
  have hcell : ∃ u, w.cell? ⟨g, off, none⟩ = some u := ⟨_, (hb.cell off).trans (Array.getElem?_eq_getElem hsz)⟩
  have hs := run_storeCells_cells (P := P) g off [v] 0 w (fun j hj => by
      have : j = 0 := by simpa using hj
      subst this
      rw [hb.cell, Array.getElem?_eq_getElem (by omega)]; rfl) (fun j _ => hb.frozen _) (fun u hu => by simp at hu; subst hu; exact h1)
  simp only [Nat.add_zero] at hs
  have hr : (storeVar ty ⟨g, off, none⟩ v).run P w = .ok () (w.setCell ⟨g, off, none⟩ v) := by
    cases hq : P.info? ty with
    | none => simp [hq] at hi
    | some q =>
      have hs1 : q.size = 1 := by simpa [hq] using hi
      simp [storeVar, sizeOf, typeInfo, hq, hc, hs1, hs, World.setCells]
  have h3 : (w.setCell ⟨g, off, none⟩ v).heap.size = w.heap.size := by simp [World.setCell]
  unfold Oper.wp execOp
  simp only [ho, hx, hy, Instr.storeAt, Instr.sureAddr, Sem.run_bind, Sem.run_pure, Result.andThen_ok, hr]
  exact h _ (Lib.hid (HK.out.setL hL ((Below.refl b0 w).setCell (p := ⟨g, off, none⟩) (HK.out.l i _ hL).1 v) h3 (hb.set_ off v) (fun hk hne => hk.far (p := ⟨g, off, none⟩) hne v))) (Lib.hid h3)
theorem wpList_ss (HK : Hid (Kn b0 w0 w L R)) (i : Nat) (hgd : o.guard = none) (ty : TypeId) (x y : Operand) (ho : o.op = .store ty x y) {g off : Nat} {t : TypeId} {cs : Array Value} (hL : L[i]? = some (g, t, cs)) (hx : a.eval x = .pointer (some ⟨g, off, none⟩))
    {vs : Array Value} (hy : a.eval y = .agg vs) (hsz : off + vs.size ≤ cs.size) (hi : (P.info? ty).map (·.size) = some vs.size) (h1 : vs.all (·.oneCell') = true)
    (h : ∀ w', Hid (Kn b0 w0 w' (L.set i (g, t, putCells cs off vs.toList)) R) → Hid (w'.heap.size = w.heap.size) → wpList P ops Q rest (a.put o.dst undef) w') : wpList P ops Q (o :: rest) a w :=
  wpList_plain hgd fun _ hK => kwp_ss HK ty x y ho i hL hx hy hsz hi h1 fun w' h2 h3 => hK _ _ (h w' h2 h3)
theorem wpList_sc (HK : Hid (Kn b0 w0 w L R)) (i : Nat) (hgd : o.guard = none) (ty : TypeId) (x y : Operand) (ho : o.op = .store ty x y) {g off : Nat} {t : TypeId} {cs : Array Value} (hL : L[i]? = some (g, t, cs)) (hx : a.eval x = .pointer (some ⟨g, off, none⟩))
    {v : Value} (hy : a.eval y = v) (hc : v.cells = #[v]) (h1 : v.oneCell' = true) (hsz : off < cs.size) (hi : (P.info? ty).map (·.size) = some 1)
    (h : ∀ w', Hid (Kn b0 w0 w' (L.set i (g, t, cs.setIfInBounds off v)) R) → Hid (w'.heap.size = w.heap.size) → wpList P ops Q rest (a.put o.dst undef) w') : wpList P ops Q (o :: rest) a w :=
  wpList_plain hgd fun _ hK => kwp_sc HK ty x y ho i hL hx hy hc h1 hsz hi fun w' h2 h3 => hK _ _ (h w' h2 h3)
theorem step_ss {K : Act → World → Prop} {E : Prop} (HK : Hid (Kn b0 w0 w L R)) (i : Nat) (hgd : o.guard = none) (ty : TypeId) (x y : Operand) (ho : o.op = .store ty x y) {g off : Nat} {t : TypeId} {cs : Array Value} (hL : L[i]? = some (g, t, cs)) (hx : a.eval x = .pointer (some ⟨g, off, none⟩))
    {vs : Array Value} (hy : a.eval y = .agg vs) (hsz : off + vs.size ≤ cs.size) (hi : (P.info? ty).map (·.size) = some vs.size) (h1 : vs.all (·.oneCell') = true)
    (h : ∀ w', Hid (Kn b0 w0 w' (L.set i (g, t, putCells cs off vs.toList)) R) → Hid (w'.heap.size = w.heap.size) → K (a.put o.dst undef) w') : if Region.wanted o (yielded ops a.tmps) = true then Oper.wp P o a w K Q else E := by
  rw [if_pos (by simp [Region.wanted, hgd])]
  exact kwp_ss HK ty x y ho i hL hx hy hsz hi h1 h
/-- An append of a made block's things onto a known row. -/
theorem kwp_push {K : Act → World → Prop} (HK : Hid (Kn b0 w0 w L R)) {α : Type} (La : Lay P α) (j : Nat) (s x : Operand) (ho : o.op = .call { callee := .builtin .append, args := #[s, x], argTypes := #[La.t, La.t] })
    {v : Value} {l : List α} (hR : R[j]? = some (row La v l)) (hs : a.eval s = v) (m : List α) {C : Array Value} {g n c : Nat} (hx : a.eval x = .slice (some ⟨g, 0, none⟩) n c) (hn : n = m.length)
    (hC : C = (La.flat m).toArray) (hg : g = w.heap.size) (hl : Hid (l.length + m.length ≤ 9223372036854775807 ∧ (l.length + m.length) * La.bytes ≤ 211106232532992))
    {N : Nat} (hN : Hid ((l ++ m).length = N)) (h : ∀ A' c' w', Hid (Kn b0 w0 w' L (R.set j (row La (.slice A' N c') (l ++ m)))) → K (a.put o.dst (.slice A' N c')) w') :
    o.wp P a (w.alloc (.cells C La.e)) K Q := by
  obtain ⟨i0, hi, hz0, hz1, hz2⟩ := info_parts La.info
  obtain ⟨hl1, hl2⟩ := hl.out
  have hk := HK.out.allocO (.cells C La.e)
  subst hn
  refine wp_append_src _ s x _ _ ho b0 _ i0 La.z La.k La.bytes La.und hi hz0 hz1 hz2 La.zs La.pos La.small v l.length (La.flat l) hs (hk.own j hR) m.length (La.flat m) _ hx (La.src_new w m C hC c _ g hg rfl)
    (by unfold maxLen; omega) hl2 hk.m ?_
  intro v' w' hown hgr hal
  have hrow : row La v' (l ++ m) = (La.e, La.k, v', l.length + m.length, La.flat l ++ La.flat m) := by unfold row; rw [List.length_append, Lay.flat_append]
  have hs : La.Own b0 w' v' (l ++ m) := by unfold Lay.Own; rw [List.length_append, Lay.flat_append]; exact hown
  obtain ⟨A', c', rfl⟩ := hs.shape
  rw [hN.out] at hrow hown hal ⊢
  refine h A' c' w' (Lib.hid ?_)
  rw [hrow]
  exact hk.setR (i := j) hR hown hgr hal
theorem wpList_kpush (HK : Hid (Kn b0 w0 w L R)) {α : Type} (La : Lay P α) (j : Nat) (hgd : o.guard = none) (s x : Operand) (ho : o.op = .call { callee := .builtin .append, args := #[s, x], argTypes := #[La.t, La.t] })
    {v : Value} {l : List α} (hR : R[j]? = some (row La v l)) (hs : a.eval s = v) (m : List α) {C : Array Value} {g n c : Nat} (hx : a.eval x = .slice (some ⟨g, 0, none⟩) n c) (hn : n = m.length)
    (hC : C = (La.flat m).toArray) (hg : g = w.heap.size) (hl : Hid (l.length + m.length ≤ 9223372036854775807 ∧ (l.length + m.length) * La.bytes ≤ 211106232532992))
    {N : Nat} (hN : Hid ((l ++ m).length = N)) (h : ∀ A' c' w', Hid (Kn b0 w0 w' L (R.set j (row La (.slice A' N c') (l ++ m)))) → wpList P ops Q rest (a.put o.dst (.slice A' N c')) w') :
    wpList P ops Q (o :: rest) a (w.alloc (.cells C La.e)) :=
  wpList_plain hgd fun _ hK => kwp_push HK La j s x ho hR hs m hx hn hC hg hl hN fun A' c' w' h2 => hK _ _ (h A' c' w' h2)
/-- An append of a slice's things onto a known row. -/
theorem kwp_more {K : Act → World → Prop} (HK : Hid (Kn b0 w0 w L R)) {α : Type} (La : Lay P α) (j : Nat) (s x : Operand) (ho : o.op = .call { callee := .builtin .append, args := #[s, x], argTypes := #[La.t, La.t] })
    {v : Value} {l : List α} (hR : R[j]? = some (row La v l)) (hs : a.eval s = v) (m : List α) {A : Option Addr} {n c B : Nat} (hx : a.eval x = .slice A n c) (hn : n = m.length) (hI : Hid (La.Reads w B A m ∧ (A = none → m = [])))
    (hl : Hid (l.length + m.length ≤ 9223372036854775807 ∧ (l.length + m.length) * La.bytes ≤ 211106232532992))
    {N : Nat} (hN : Hid ((l ++ m).length = N)) (h : ∀ A' c' w', Hid (Kn b0 w0 w' L (R.set j (row La (.slice A' N c') (l ++ m)))) → K (a.put o.dst (.slice A' N c')) w') : o.wp P a w K Q := by
  obtain ⟨i0, hi, hz0, hz1, hz2⟩ := info_parts La.info
  obtain ⟨hl1, hl2⟩ := hl.out
  have hk := HK.out
  subst hn
  refine wp_append_src _ s x _ _ ho b0 _ i0 La.z La.k La.bytes La.und hi hz0 hz1 hz2 La.zs La.pos La.small v l.length (La.flat l) hs (hk.own j hR) m.length (La.flat m) _ hx (hI.out.1.src c hI.out.2)
    (by unfold maxLen; omega) hl2 hk.m ?_
  intro v' w' hown hgr hal
  have hrow : row La v' (l ++ m) = (La.e, La.k, v', l.length + m.length, La.flat l ++ La.flat m) := by unfold row; rw [List.length_append, Lay.flat_append]
  have hs : La.Own b0 w' v' (l ++ m) := by unfold Lay.Own; rw [List.length_append, Lay.flat_append]; exact hown
  obtain ⟨A', c', rfl⟩ := hs.shape
  rw [hN.out] at hrow hown hal ⊢
  refine h A' c' w' (Lib.hid ?_)
  rw [hrow]
  exact hk.setR (i := j) hR hown hgr hal
theorem wpList_kmore (HK : Hid (Kn b0 w0 w L R)) {α : Type} (La : Lay P α) (j : Nat) (hgd : o.guard = none) (s x : Operand) (ho : o.op = .call { callee := .builtin .append, args := #[s, x], argTypes := #[La.t, La.t] })
    {v : Value} {l : List α} (hR : R[j]? = some (row La v l)) (hs : a.eval s = v) (m : List α) {A : Option Addr} {n c B : Nat} (hx : a.eval x = .slice A n c) (hn : n = m.length) (hI : Hid (La.Reads w B A m ∧ (A = none → m = [])))
    (hl : Hid (l.length + m.length ≤ 9223372036854775807 ∧ (l.length + m.length) * La.bytes ≤ 211106232532992))
    {N : Nat} (hN : Hid ((l ++ m).length = N)) (h : ∀ A' c' w', Hid (Kn b0 w0 w' L (R.set j (row La (.slice A' N c') (l ++ m)))) → wpList P ops Q rest (a.put o.dst (.slice A' N c')) w') : wpList P ops Q (o :: rest) a w :=
  wpList_plain hgd fun _ hK => kwp_more HK La j s x ho hR hs m hx hn hI hl hN fun A' c' w' h2 => hK _ _ (h A' c' w' h2)
theorem step_kpush {K : Act → World → Prop} {E : Prop} (HK : Hid (Kn b0 w0 w L R)) {α : Type} (La : Lay P α) (j : Nat) (hgd : o.guard = none) (s x : Operand) (ho : o.op = .call { callee := .builtin .append, args := #[s, x], argTypes := #[La.t, La.t] })
    {v : Value} {l : List α} (hR : R[j]? = some (row La v l)) (hs : a.eval s = v) (m : List α) {C : Array Value} {g n c : Nat} (hx : a.eval x = .slice (some ⟨g, 0, none⟩) n c) (hn : n = m.length)
    (hC : C = (La.flat m).toArray) (hg : g = w.heap.size) (hl : Hid (l.length + m.length ≤ 9223372036854775807 ∧ (l.length + m.length) * La.bytes ≤ 211106232532992))
    {N : Nat} (hN : Hid ((l ++ m).length = N)) (h : ∀ A' c' w', Hid (Kn b0 w0 w' L (R.set j (row La (.slice A' N c') (l ++ m)))) → K (a.put o.dst (.slice A' N c')) w') :
    if Region.wanted o (yielded ops a.tmps) = true then Oper.wp P o a (w.alloc (.cells C La.e)) K Q else E := by
  rw [if_pos (by simp [Region.wanted, hgd])]
  exact kwp_push HK La j s x ho hR hs m hx hn hC hg hl hN h
end
/-- Made blocks at a call's beginning. -/
theorem kn1 (w : World) (t : TypeId) (cs : Array Value) : Hid (Kn w.heap.size w (w.alloc (.cells cs t)) [(w.heap.size, t, cs)] []) := Lib.hid ((Kn.start w).alloc t cs)
theorem kn2 (w : World) (t1 : TypeId) (c1 : Array Value) (t2 : TypeId) (c2 : Array Value) : Hid (Kn w.heap.size w ((w.alloc (.cells c1 t1)).alloc (.cells c2 t2)) [(w.heap.size, t1, c1), (w.heap.size + 1, t2, c2)] []) := by
  have h := (kn1 w t1 c1).out.alloc t2 c2
  rw [show (w.alloc (.cells c1 t1)).heap.size = w.heap.size + 1 from by simp] at h
  exact Lib.hid h
theorem kn3 (w : World) (t1 : TypeId) (c1 : Array Value) (t2 : TypeId) (c2 : Array Value) (t3 : TypeId) (c3 : Array Value) :
    Hid (Kn w.heap.size w (((w.alloc (.cells c1 t1)).alloc (.cells c2 t2)).alloc (.cells c3 t3)) [(w.heap.size, t1, c1), (w.heap.size + 1, t2, c2), (w.heap.size + 2, t3, c3)] []) := by
  have h := (kn2 w t1 c1 t2 c2).out.alloc t3 c3
  rw [show ((w.alloc (.cells c1 t1)).alloc (.cells c2 t2)).heap.size = w.heap.size + 2 from by simp] at h
  exact Lib.hid h
theorem kn4 (w : World) (t1 : TypeId) (c1 : Array Value) (t2 : TypeId) (c2 : Array Value) (t3 : TypeId) (c3 : Array Value) (t4 : TypeId) (c4 : Array Value) :
    Hid (Kn w.heap.size w ((((w.alloc (.cells c1 t1)).alloc (.cells c2 t2)).alloc (.cells c3 t3)).alloc (.cells c4 t4)) [(w.heap.size, t1, c1), (w.heap.size + 1, t2, c2), (w.heap.size + 2, t3, c3), (w.heap.size + 3, t4, c4)] []) := by
  have h := (kn3 w t1 c1 t2 c2 t3 c3).out.alloc t4 c4
  rw [show (((w.alloc (.cells c1 t1)).alloc (.cells c2 t2)).alloc (.cells c3 t3)).heap.size = w.heap.size + 3 from by simp] at h
  exact Lib.hid h
end Go.Proofs.Ytakjggmiilkmdaa
