/-
  How the two ends and what is on its way lie: one block of 23 cells, rows beside it; rows put in another order.
  No condition but those named.
-/
import Derived.Test.YtamjcghdebjpjaaLnkLay
import Derived.Test.YtamjcghdebjpjaaWireM
import Derived.Test.YtamjcghdebjpjaaLnkMeet
set_option linter.unusedSimpArgs false
set_option linter.unusedVariables false
namespace Go.Proofs.Ytamjcghdebjpjaa
open Go.RowKit

section
variable {P : Program} {b0 : Nat} {w0 w w' : World} {L : List (Nat × TypeId × Array Value)} {R : List RowE}
/-- The last row at the head. -/
theorem Kn.front {y : RowE} (h : Kn b0 w0 w L (R ++ [y])) : Kn b0 w0 w L (y :: R) := by
  refine h.pick id (fun j => if j = 0 then R.length else j - 1) (fun i j _ _ h => h) (fun i j hi hj h => ?_) (fun i x hx => hx) (fun i x hx => ?_)
  · simp at hi hj; (try dsimp only); split <;> split <;> omega
  · match i, hx with
    | 0, hx => simp at hx ⊢; exact hx
    | i + 1, hx =>
      rw [List.getElem?_cons_succ] at hx
      rw [if_neg (by omega)]
      show (R ++ [y])[i + 1 - 1]? = _
      rw [Nat.add_sub_cancel, List.getElem?_append_left (List.getElem?_eq_some_iff.1 hx).1]
      exact hx
/-- The row at the head in place of another one. -/
theorem Kn.into {y : RowE} (h : Kn b0 w0 w L (y :: R)) (i : Nat) : Kn b0 w0 w L (R.set i y) := by
  refine h.pick id (fun j => if j = i then 0 else j + 1) (fun i j _ _ h => h) (fun a b ha hb hab => ?_) (fun i x hx => hx) (fun j x hx => ?_)
  · (try dsimp only); split <;> split <;> omega
  · rcases set_at hx with ⟨rfl, rfl⟩ | ⟨hne, hx⟩
    · rw [if_pos rfl]; rfl
    · rw [if_neg hne]; exact hx
theorem Kn.calledF (h : Kn b0 w0 w L R) (hb : Below w.heap.size w w') {α : Type} {La : Lay P α} {v : Value} {l : List α} (ho : La.Own w.heap.size w' v l) : Kn b0 w0 w' L (row La v l :: R) := (h.called hb ho).front
theorem Kn.nilF (h : Kn b0 w0 w L R) {α : Type} (La : Lay P α) : Kn b0 w0 w L (row La (.slice none 0 0) [] :: R) := (h.nilR La).front
/-- A cell of a known row is another one. -/
theorem Kn.storeR (h : Kn b0 w0 w L R) {α : Type} {La : Lay P α} {j g n c : Nat} {l : List α} (hR : R[j]? = some (row La (.slice (some ⟨g, 0, none⟩) n c) l)) (i : Nat) (y : α) (v : Value) (hk : La.k = 1) (hf : La.f y = [v]) :
    Kn b0 w0 (w.setCell ⟨g, i, none⟩ v) L (R.set j (row La (.slice (some ⟨g, 0, none⟩) n c) (l.set i y))) := by
  have hown := h.own j hR
  have hset : (La.flat l).set i v = La.flat (l.set i y) := by
    clear hown hR
    induction l generalizing i with
    | nil => rfl
    | cons z l ih =>
      have hz : ∃ u, La.f z = [u] := by
        have := La.len z
        rw [hk] at this
        match La.f z, this with
        | [u], _ => exact ⟨u, rfl⟩
      obtain ⟨u, hu⟩ := hz
      match i with
      | 0 => rw [Lay.flat_cons, hu]; show v :: La.flat l = La.flat (y :: l); rw [Lay.flat_cons, hf]; rfl
      | i + 1 => rw [Lay.flat_cons, hu]; show u :: (La.flat l).set i v = La.flat (z :: l.set i y); rw [Lay.flat_cons, hu, ih]; rfl
  have ho : (w.setCell ⟨g, i, none⟩ v).ownsRow b0 La.e La.k (.slice (some ⟨g, 0, none⟩) n c) (l.set i y).length (La.flat (l.set i y)) := by
    rw [List.length_set, ← hset]
    refine ⟨by rw [List.length_set]; exact hown.1, ?_⟩
    rcases hown.2 with ⟨h1, _⟩ | ⟨g', cap, cur, h1, hb, hg, hnc, hcm, hs, ht⟩
    · cases h1
    · injection h1 with e1 e2 e3
      injection e1 with e1
      injection e1 with e1
      subst e1 e3
      refine .inr ⟨g, c, cur.setIfInBounds i v, by rw [e2], hb, Blk.set_ (w := w) (t := La.e) (cs := cur) hg i v, hnc, hcm, by rw [Array.size_setIfInBounds]; exact hs, ?_⟩
      rw [Array.toList_setIfInBounds, List.take_set, ht]
  exact h.setR (i := j) hR ho ⟨rfl, rfl, rfl, by simp [World.setCell], fun k hk hne => Below.heap_setCell w _ v k (fun e => hne (by rw [show k = g from e]; rfl))⟩ (.inl rfl)
end

/-- A slice of texts, as it lies in a row. -/
structure Hd where
  A : Option Addr
  n : Nat
  c : Nat
theorem info_hd : (Try.prog.info? 25).map (fun i => (i.zero, i.size, i.bytes)) = some (some (Value.slice none 0 0), 1, 24) := by kernel_rfl
def hdLay : Lay Try.prog Hd where
  t := 50
  e := 25
  k := 1
  bytes := 24
  z := .slice none 0 0
  f := fun x => [.slice x.A x.n x.c]
  len := fun _ => rfl
  one := fun x u hu => by
    simp only [List.mem_cons, List.not_mem_nil, or_false] at hu
    subst hu; rfl
  und := Try.underlying50
  info := info_hd
  zs := rfl
  pos := by decide
  small := by decide
theorem at_hd {w : World} {b o i : Nat} {x : Hd} (h : hdLay.At w b o i x) : w.cell? ⟨b, o + i, none⟩ = some (.slice x.A x.n x.c) := by
  have h0 := h 0 _ rfl
  have hk : hdLay.k = 1 := rfl
  rw [hk, Nat.mul_one] at h0
  exact h0
/-- A start's payloads, and where they lie. -/
structure Rw where
  A : Option Addr
  c : Nat
  l : List ByteArray
def Rw.hd (r : Rw) : Hd := ⟨r.A, r.l.length, r.c⟩
def Rw.row (r : Rw) : RowE := Go.Proofs.Ytamjcghdebjpjaa.row strLay (.slice r.A r.l.length r.c) r.l
/-- The wire's cells. -/
def wC (va vb vw vs vk vg vh : Value) (a b : Lnk.L) (win ret : Int) : Array Value :=
  #[.int .i64 a.ms, .int .i64 a.mc, .int .i64 a.ps, .int .i64 a.pc, va, .int .i64 a.base, .int .i64 a.got, .int .i64 a.age,
    .int .i64 b.ms, .int .i64 b.mc, .int .i64 b.ps, .int .i64 b.pc, vb, .int .i64 b.base, .int .i64 b.got, .int .i64 b.age, vw, vs, vk, vg, vh, .int .i64 win, .int .i64 ret]
def WireAt (b0 : Nat) (w0 : World) (g : Nat) (x : Lnk.Wr) (w : World) : Prop :=
  ∃ (Aa Ab Aw As Ak Ag Ah : Option Addr) (na nb nw ns nk ng nh ca cb cw cs ck cg ch : Nat) (S : List Rw),
    (na = x.a.out.length ∧ nb = x.b.out.length ∧ nw = x.way.length ∧ ns = x.sent.length ∧ nk = x.back.length ∧ ng = x.got.length ∧ nh = x.gotA.length) ∧ S.map (·.l) = x.sent ∧
    Kn b0 w0 w [(g, 52, wC (.slice Aa na ca) (.slice Ab nb cb) (.slice Aw nw cw) (.slice As ns cs) (.slice Ak nk ck) (.slice Ag ng cg) (.slice Ah nh ch) x.a x.b x.win x.ret)]
      (row strLay (.slice Aa na ca) x.a.out :: row strLay (.slice Ab nb cb) x.b.out :: row pktLay (.slice Aw nw cw) x.way :: row hdLay (.slice As ns cs) (S.map Rw.hd) :: row strLay (.slice Ak nk ck) x.back :: row strLay (.slice Ag ng cg) x.got :: row strLay (.slice Ah nh ch) x.gotA :: S.map Rw.row)

section
variable {b0 : Nat} {w0 w : World} {L : List (Nat × TypeId × Array Value)} {R : List RowE} {ops : Array Oper} {rest : List Oper} {o : Oper} {a : Act} {Q : Exit → Act → World → Prop} {K : Act → World → Prop} {E : Prop}
variable {g : Nat} {va vb vw vs vk vg vh : Value} {x y : Lnk.L} {win ret : Int}
theorem kexec_wa (HK : Hid (Kn b0 w0 w L R)) (i : Nat) (p : Operand) (ho : o.op = .load 27 p) (hL : L[i]? = some (g, 52, wC va vb vw vs vk vg vh x y win ret)) (hx : a.eval p = .pointer (some ⟨g, 0, none⟩)) :
    (execOp a.eval o).run Try.prog w = .ok (.value (.agg (lA va x))) w :=
  kexec_ls HK _ p ho i hL hx (lA va x) (fun j hj => by
    match j, hj with
    | 0, _ | 1, _ | 2, _ | 3, _ | 4, _ | 5, _ | 6, _ | 7, _ => rfl) Try.underlying27 info_lC
theorem kexec_wb (HK : Hid (Kn b0 w0 w L R)) (i : Nat) (p : Operand) (ho : o.op = .load 27 p) (hL : L[i]? = some (g, 52, wC va vb vw vs vk vg vh x y win ret)) (hx : a.eval p = .pointer (some ⟨g, 8, none⟩)) :
    (execOp a.eval o).run Try.prog w = .ok (.value (.agg (lA vb y))) w :=
  kexec_ls HK _ p ho i hL hx (lA vb y) (fun j hj => by
    match j, hj with
    | 0, _ | 1, _ | 2, _ | 3, _ | 4, _ | 5, _ | 6, _ | 7, _ => rfl) Try.underlying27 info_lC
theorem kexec_cw (HK : Hid (Kn b0 w0 w L R)) (i : Nat) (p : Operand) (ho : o.op = .load 29 p) {off : Nat} {t : TypeId} {cs : Array Value} (hL : L[i]? = some (g, t, cs)) (hx : a.eval p = .pointer (some ⟨g, off, none⟩)) {A : Option Addr} {n c : Nat} (hv : cs[off]? = some (.slice A n c)) :
    (execOp a.eval o).run Try.prog w = .ok (.value (.slice A n c)) w := kexec_lc HK _ p ho i hL hx hv Try.underlying29 rfl
theorem kexec_ch (HK : Hid (Kn b0 w0 w L R)) (i : Nat) (p : Operand) (ho : o.op = .load 50 p) {off : Nat} {t : TypeId} {cs : Array Value} (hL : L[i]? = some (g, t, cs)) (hx : a.eval p = .pointer (some ⟨g, off, none⟩)) {A : Option Addr} {n c : Nat} (hv : cs[off]? = some (.slice A n c)) :
    (execOp a.eval o).run Try.prog w = .ok (.value (.slice A n c)) w := kexec_lc HK _ p ho i hL hx hv Try.underlying50 rfl
theorem wpList_x {v : Value} (hgd : o.guard = none) (hr : (execOp a.eval o).run Try.prog w = .ok (.value v) w) (h : wpList Try.prog ops Q rest (a.put o.dst v) w) : wpList Try.prog ops Q (o :: rest) a w :=
  wpList_of_exec (by simp [Region.wanted, hgd]) hr h
theorem step_x {v : Value} (hgd : o.guard = none) (hr : (execOp a.eval o).run Try.prog w = .ok (.value v) w) (h : K (a.put o.dst v) w) : if Region.wanted o (yielded ops a.tmps) = true then Oper.wp Try.prog o a w K Q else E := by
  rw [if_pos (by simp [Region.wanted, hgd])]
  unfold Oper.wp
  rw [hr, Oper.upon_value]
  exact h
theorem info_way1 : (Try.prog.info? 29).map (·.size) = some 1 := by kernel_rfl
theorem info_hds1 : (Try.prog.info? 50).map (·.size) = some 1 := by kernel_rfl
/-- Stores into the wire. -/
theorem put_a (u : Value) (z : Lnk.L) : putCells (wC va vb vw vs vk vg vh x y win ret) 0 (lA u z).toList = wC u vb vw vs vk vg vh z y win ret := by
  apply Array.ext'
  rw [putCells_toList _ _ _ (by show 0 + 8 ≤ 23; decide)]
  rfl
theorem put_b (u : Value) (z : Lnk.L) : putCells (wC va vb vw vs vk vg vh x y win ret) 8 (lA u z).toList = wC va u vw vs vk vg vh x z win ret := by
  apply Array.ext'
  rw [putCells_toList _ _ _ (by show 8 + 8 ≤ 23; decide)]
  rfl
theorem kwp_sa (HK : Hid (Kn b0 w0 w L R)) (i : Nat) (p q : Operand) (ho : o.op = .store 27 p q) (hL : L[i]? = some (g, 52, wC va vb vw vs vk vg vh x y win ret)) (hx : a.eval p = .pointer (some ⟨g, 0, none⟩)) {A : Option Addr} {n c : Nat} {z : Lnk.L} (hy : a.eval q = .agg (lA (.slice A n c) z))
    (h : ∀ w', Hid (Kn b0 w0 w' (L.set i (g, 52, wC (.slice A n c) vb vw vs vk vg vh z y win ret)) R) → Hid (w'.heap.size = w.heap.size) → K (a.put o.dst undef) w') : o.wp Try.prog a w K Q :=
  kwp_ss HK _ p q ho i hL hx hy (by show 8 ≤ 23; decide) info_lC (lC_one rfl _ _ _ _ _ _ _) fun w' h1 h2 => h w' (by rw [put_a] at h1; exact h1) h2
theorem kwp_sb (HK : Hid (Kn b0 w0 w L R)) (i : Nat) (p q : Operand) (ho : o.op = .store 27 p q) (hL : L[i]? = some (g, 52, wC va vb vw vs vk vg vh x y win ret)) (hx : a.eval p = .pointer (some ⟨g, 8, none⟩)) {A : Option Addr} {n c : Nat} {z : Lnk.L} (hy : a.eval q = .agg (lA (.slice A n c) z))
    (h : ∀ w', Hid (Kn b0 w0 w' (L.set i (g, 52, wC va (.slice A n c) vw vs vk vg vh x z win ret)) R) → Hid (w'.heap.size = w.heap.size) → K (a.put o.dst undef) w') : o.wp Try.prog a w K Q :=
  kwp_ss HK _ p q ho i hL hx hy (by show 16 ≤ 23; decide) info_lC (lC_one rfl _ _ _ _ _ _ _) fun w' h1 h2 => h w' (by rw [put_b] at h1; exact h1) h2
theorem wpList_sa (HK : Hid (Kn b0 w0 w L R)) (i : Nat) (hgd : o.guard = none) (p q : Operand) (ho : o.op = .store 27 p q) (hL : L[i]? = some (g, 52, wC va vb vw vs vk vg vh x y win ret)) (hx : a.eval p = .pointer (some ⟨g, 0, none⟩)) {A : Option Addr} {n c : Nat} {z : Lnk.L} (hy : a.eval q = .agg (lA (.slice A n c) z))
    (h : ∀ w', Hid (Kn b0 w0 w' (L.set i (g, 52, wC (.slice A n c) vb vw vs vk vg vh z y win ret)) R) → Hid (w'.heap.size = w.heap.size) → wpList Try.prog ops Q rest (a.put o.dst undef) w') : wpList Try.prog ops Q (o :: rest) a w :=
  wpList_plain hgd fun _ hK => kwp_sa HK i p q ho hL hx hy fun w' h1 h2 => hK _ _ (h w' h1 h2)
theorem wpList_sb (HK : Hid (Kn b0 w0 w L R)) (i : Nat) (hgd : o.guard = none) (p q : Operand) (ho : o.op = .store 27 p q) (hL : L[i]? = some (g, 52, wC va vb vw vs vk vg vh x y win ret)) (hx : a.eval p = .pointer (some ⟨g, 8, none⟩)) {A : Option Addr} {n c : Nat} {z : Lnk.L} (hy : a.eval q = .agg (lA (.slice A n c) z))
    (h : ∀ w', Hid (Kn b0 w0 w' (L.set i (g, 52, wC va (.slice A n c) vw vs vk vg vh x z win ret)) R) → Hid (w'.heap.size = w.heap.size) → wpList Try.prog ops Q rest (a.put o.dst undef) w') : wpList Try.prog ops Q (o :: rest) a w :=
  wpList_plain hgd fun _ hK => kwp_sb HK i p q ho hL hx hy fun w' h1 h2 => hK _ _ (h w' h1 h2)
theorem step_sa (HK : Hid (Kn b0 w0 w L R)) (i : Nat) (hgd : o.guard = none) (p q : Operand) (ho : o.op = .store 27 p q) (hL : L[i]? = some (g, 52, wC va vb vw vs vk vg vh x y win ret)) (hx : a.eval p = .pointer (some ⟨g, 0, none⟩)) {A : Option Addr} {n c : Nat} {z : Lnk.L} (hy : a.eval q = .agg (lA (.slice A n c) z))
    (h : ∀ w', Hid (Kn b0 w0 w' (L.set i (g, 52, wC (.slice A n c) vb vw vs vk vg vh z y win ret)) R) → Hid (w'.heap.size = w.heap.size) → K (a.put o.dst undef) w') : if Region.wanted o (yielded ops a.tmps) = true then Oper.wp Try.prog o a w K Q else E := by
  rw [if_pos (by simp [Region.wanted, hgd])]
  exact kwp_sa HK i p q ho hL hx hy h
theorem step_sb (HK : Hid (Kn b0 w0 w L R)) (i : Nat) (hgd : o.guard = none) (p q : Operand) (ho : o.op = .store 27 p q) (hL : L[i]? = some (g, 52, wC va vb vw vs vk vg vh x y win ret)) (hx : a.eval p = .pointer (some ⟨g, 8, none⟩)) {A : Option Addr} {n c : Nat} {z : Lnk.L} (hy : a.eval q = .agg (lA (.slice A n c) z))
    (h : ∀ w', Hid (Kn b0 w0 w' (L.set i (g, 52, wC va (.slice A n c) vw vs vk vg vh x z win ret)) R) → Hid (w'.heap.size = w.heap.size) → K (a.put o.dst undef) w') : if Region.wanted o (yielded ops a.tmps) = true then Oper.wp Try.prog o a w K Q else E := by
  rw [if_pos (by simp [Region.wanted, hgd])]
  exact kwp_sb HK i p q ho hL hx hy h
theorem kwp_s16 (HK : Hid (Kn b0 w0 w L R)) (i : Nat) (p q : Operand) (ho : o.op = .store 29 p q) (hL : L[i]? = some (g, 52, wC va vb vw vs vk vg vh x y win ret)) (hx : a.eval p = .pointer (some ⟨g, 16, none⟩)) {A : Option Addr} {n c : Nat} (hy : a.eval q = .slice A n c)
    (h : ∀ w', Hid (Kn b0 w0 w' (L.set i (g, 52, wC va vb (.slice A n c) vs vk vg vh x y win ret)) R) → Hid (w'.heap.size = w.heap.size) → K (a.put o.dst undef) w') : o.wp Try.prog a w K Q :=
  kwp_sc HK _ p q ho i hL hx hy rfl rfl (by show 16 < 23; decide) info_way1 h
theorem wpList_s16 (HK : Hid (Kn b0 w0 w L R)) (i : Nat) (hgd : o.guard = none) (p q : Operand) (ho : o.op = .store 29 p q) (hL : L[i]? = some (g, 52, wC va vb vw vs vk vg vh x y win ret)) (hx : a.eval p = .pointer (some ⟨g, 16, none⟩)) {A : Option Addr} {n c : Nat} (hy : a.eval q = .slice A n c)
    (h : ∀ w', Hid (Kn b0 w0 w' (L.set i (g, 52, wC va vb (.slice A n c) vs vk vg vh x y win ret)) R) → Hid (w'.heap.size = w.heap.size) → wpList Try.prog ops Q rest (a.put o.dst undef) w') : wpList Try.prog ops Q (o :: rest) a w :=
  wpList_plain hgd fun _ hK => kwp_s16 HK i p q ho hL hx hy fun w' h1 h2 => hK _ _ (h w' h1 h2)
theorem step_s16 (HK : Hid (Kn b0 w0 w L R)) (i : Nat) (hgd : o.guard = none) (p q : Operand) (ho : o.op = .store 29 p q) (hL : L[i]? = some (g, 52, wC va vb vw vs vk vg vh x y win ret)) (hx : a.eval p = .pointer (some ⟨g, 16, none⟩)) {A : Option Addr} {n c : Nat} (hy : a.eval q = .slice A n c)
    (h : ∀ w', Hid (Kn b0 w0 w' (L.set i (g, 52, wC va vb (.slice A n c) vs vk vg vh x y win ret)) R) → Hid (w'.heap.size = w.heap.size) → K (a.put o.dst undef) w') : if Region.wanted o (yielded ops a.tmps) = true then Oper.wp Try.prog o a w K Q else E := by
  rw [if_pos (by simp [Region.wanted, hgd])]
  exact kwp_s16 HK i p q ho hL hx hy h
theorem kwp_s17 (HK : Hid (Kn b0 w0 w L R)) (i : Nat) (p q : Operand) (ho : o.op = .store 50 p q) (hL : L[i]? = some (g, 52, wC va vb vw vs vk vg vh x y win ret)) (hx : a.eval p = .pointer (some ⟨g, 17, none⟩)) {A : Option Addr} {n c : Nat} (hy : a.eval q = .slice A n c)
    (h : ∀ w', Hid (Kn b0 w0 w' (L.set i (g, 52, wC va vb vw (.slice A n c) vk vg vh x y win ret)) R) → Hid (w'.heap.size = w.heap.size) → K (a.put o.dst undef) w') : o.wp Try.prog a w K Q :=
  kwp_sc HK _ p q ho i hL hx hy rfl rfl (by show 17 < 23; decide) info_hds1 h
theorem wpList_s17 (HK : Hid (Kn b0 w0 w L R)) (i : Nat) (hgd : o.guard = none) (p q : Operand) (ho : o.op = .store 50 p q) (hL : L[i]? = some (g, 52, wC va vb vw vs vk vg vh x y win ret)) (hx : a.eval p = .pointer (some ⟨g, 17, none⟩)) {A : Option Addr} {n c : Nat} (hy : a.eval q = .slice A n c)
    (h : ∀ w', Hid (Kn b0 w0 w' (L.set i (g, 52, wC va vb vw (.slice A n c) vk vg vh x y win ret)) R) → Hid (w'.heap.size = w.heap.size) → wpList Try.prog ops Q rest (a.put o.dst undef) w') : wpList Try.prog ops Q (o :: rest) a w :=
  wpList_plain hgd fun _ hK => kwp_s17 HK i p q ho hL hx hy fun w' h1 h2 => hK _ _ (h w' h1 h2)
theorem step_s17 (HK : Hid (Kn b0 w0 w L R)) (i : Nat) (hgd : o.guard = none) (p q : Operand) (ho : o.op = .store 50 p q) (hL : L[i]? = some (g, 52, wC va vb vw vs vk vg vh x y win ret)) (hx : a.eval p = .pointer (some ⟨g, 17, none⟩)) {A : Option Addr} {n c : Nat} (hy : a.eval q = .slice A n c)
    (h : ∀ w', Hid (Kn b0 w0 w' (L.set i (g, 52, wC va vb vw (.slice A n c) vk vg vh x y win ret)) R) → Hid (w'.heap.size = w.heap.size) → K (a.put o.dst undef) w') : if Region.wanted o (yielded ops a.tmps) = true then Oper.wp Try.prog o a w K Q else E := by
  rw [if_pos (by simp [Region.wanted, hgd])]
  exact kwp_s17 HK i p q ho hL hx hy h
theorem kwp_s18 (HK : Hid (Kn b0 w0 w L R)) (i : Nat) (p q : Operand) (ho : o.op = .store 25 p q) (hL : L[i]? = some (g, 52, wC va vb vw vs vk vg vh x y win ret)) (hx : a.eval p = .pointer (some ⟨g, 18, none⟩)) {A : Option Addr} {n c : Nat} (hy : a.eval q = .slice A n c)
    (h : ∀ w', Hid (Kn b0 w0 w' (L.set i (g, 52, wC va vb vw vs (.slice A n c) vg vh x y win ret)) R) → Hid (w'.heap.size = w.heap.size) → K (a.put o.dst undef) w') : o.wp Try.prog a w K Q :=
  kwp_sc HK _ p q ho i hL hx hy rfl rfl (by show 18 < 23; decide) info_strs1 h
theorem wpList_s18 (HK : Hid (Kn b0 w0 w L R)) (i : Nat) (hgd : o.guard = none) (p q : Operand) (ho : o.op = .store 25 p q) (hL : L[i]? = some (g, 52, wC va vb vw vs vk vg vh x y win ret)) (hx : a.eval p = .pointer (some ⟨g, 18, none⟩)) {A : Option Addr} {n c : Nat} (hy : a.eval q = .slice A n c)
    (h : ∀ w', Hid (Kn b0 w0 w' (L.set i (g, 52, wC va vb vw vs (.slice A n c) vg vh x y win ret)) R) → Hid (w'.heap.size = w.heap.size) → wpList Try.prog ops Q rest (a.put o.dst undef) w') : wpList Try.prog ops Q (o :: rest) a w :=
  wpList_plain hgd fun _ hK => kwp_s18 HK i p q ho hL hx hy fun w' h1 h2 => hK _ _ (h w' h1 h2)
theorem step_s18 (HK : Hid (Kn b0 w0 w L R)) (i : Nat) (hgd : o.guard = none) (p q : Operand) (ho : o.op = .store 25 p q) (hL : L[i]? = some (g, 52, wC va vb vw vs vk vg vh x y win ret)) (hx : a.eval p = .pointer (some ⟨g, 18, none⟩)) {A : Option Addr} {n c : Nat} (hy : a.eval q = .slice A n c)
    (h : ∀ w', Hid (Kn b0 w0 w' (L.set i (g, 52, wC va vb vw vs (.slice A n c) vg vh x y win ret)) R) → Hid (w'.heap.size = w.heap.size) → K (a.put o.dst undef) w') : if Region.wanted o (yielded ops a.tmps) = true then Oper.wp Try.prog o a w K Q else E := by
  rw [if_pos (by simp [Region.wanted, hgd])]
  exact kwp_s18 HK i p q ho hL hx hy h
theorem kwp_s19 (HK : Hid (Kn b0 w0 w L R)) (i : Nat) (p q : Operand) (ho : o.op = .store 25 p q) (hL : L[i]? = some (g, 52, wC va vb vw vs vk vg vh x y win ret)) (hx : a.eval p = .pointer (some ⟨g, 19, none⟩)) {A : Option Addr} {n c : Nat} (hy : a.eval q = .slice A n c)
    (h : ∀ w', Hid (Kn b0 w0 w' (L.set i (g, 52, wC va vb vw vs vk (.slice A n c) vh x y win ret)) R) → Hid (w'.heap.size = w.heap.size) → K (a.put o.dst undef) w') : o.wp Try.prog a w K Q :=
  kwp_sc HK _ p q ho i hL hx hy rfl rfl (by show 19 < 23; decide) info_strs1 h
theorem wpList_s19 (HK : Hid (Kn b0 w0 w L R)) (i : Nat) (hgd : o.guard = none) (p q : Operand) (ho : o.op = .store 25 p q) (hL : L[i]? = some (g, 52, wC va vb vw vs vk vg vh x y win ret)) (hx : a.eval p = .pointer (some ⟨g, 19, none⟩)) {A : Option Addr} {n c : Nat} (hy : a.eval q = .slice A n c)
    (h : ∀ w', Hid (Kn b0 w0 w' (L.set i (g, 52, wC va vb vw vs vk (.slice A n c) vh x y win ret)) R) → Hid (w'.heap.size = w.heap.size) → wpList Try.prog ops Q rest (a.put o.dst undef) w') : wpList Try.prog ops Q (o :: rest) a w :=
  wpList_plain hgd fun _ hK => kwp_s19 HK i p q ho hL hx hy fun w' h1 h2 => hK _ _ (h w' h1 h2)
theorem step_s19 (HK : Hid (Kn b0 w0 w L R)) (i : Nat) (hgd : o.guard = none) (p q : Operand) (ho : o.op = .store 25 p q) (hL : L[i]? = some (g, 52, wC va vb vw vs vk vg vh x y win ret)) (hx : a.eval p = .pointer (some ⟨g, 19, none⟩)) {A : Option Addr} {n c : Nat} (hy : a.eval q = .slice A n c)
    (h : ∀ w', Hid (Kn b0 w0 w' (L.set i (g, 52, wC va vb vw vs vk (.slice A n c) vh x y win ret)) R) → Hid (w'.heap.size = w.heap.size) → K (a.put o.dst undef) w') : if Region.wanted o (yielded ops a.tmps) = true then Oper.wp Try.prog o a w K Q else E := by
  rw [if_pos (by simp [Region.wanted, hgd])]
  exact kwp_s19 HK i p q ho hL hx hy h
theorem kwp_s20 (HK : Hid (Kn b0 w0 w L R)) (i : Nat) (p q : Operand) (ho : o.op = .store 25 p q) (hL : L[i]? = some (g, 52, wC va vb vw vs vk vg vh x y win ret)) (hx : a.eval p = .pointer (some ⟨g, 20, none⟩)) {A : Option Addr} {n c : Nat} (hy : a.eval q = .slice A n c)
    (h : ∀ w', Hid (Kn b0 w0 w' (L.set i (g, 52, wC va vb vw vs vk vg (.slice A n c) x y win ret)) R) → Hid (w'.heap.size = w.heap.size) → K (a.put o.dst undef) w') : o.wp Try.prog a w K Q :=
  kwp_sc HK _ p q ho i hL hx hy rfl rfl (by show 20 < 23; decide) info_strs1 h
theorem wpList_s20 (HK : Hid (Kn b0 w0 w L R)) (i : Nat) (hgd : o.guard = none) (p q : Operand) (ho : o.op = .store 25 p q) (hL : L[i]? = some (g, 52, wC va vb vw vs vk vg vh x y win ret)) (hx : a.eval p = .pointer (some ⟨g, 20, none⟩)) {A : Option Addr} {n c : Nat} (hy : a.eval q = .slice A n c)
    (h : ∀ w', Hid (Kn b0 w0 w' (L.set i (g, 52, wC va vb vw vs vk vg (.slice A n c) x y win ret)) R) → Hid (w'.heap.size = w.heap.size) → wpList Try.prog ops Q rest (a.put o.dst undef) w') : wpList Try.prog ops Q (o :: rest) a w :=
  wpList_plain hgd fun _ hK => kwp_s20 HK i p q ho hL hx hy fun w' h1 h2 => hK _ _ (h w' h1 h2)
theorem step_s20 (HK : Hid (Kn b0 w0 w L R)) (i : Nat) (hgd : o.guard = none) (p q : Operand) (ho : o.op = .store 25 p q) (hL : L[i]? = some (g, 52, wC va vb vw vs vk vg vh x y win ret)) (hx : a.eval p = .pointer (some ⟨g, 20, none⟩)) {A : Option Addr} {n c : Nat} (hy : a.eval q = .slice A n c)
    (h : ∀ w', Hid (Kn b0 w0 w' (L.set i (g, 52, wC va vb vw vs vk vg (.slice A n c) x y win ret)) R) → Hid (w'.heap.size = w.heap.size) → K (a.put o.dst undef) w') : if Region.wanted o (yielded ops a.tmps) = true then Oper.wp Try.prog o a w K Q else E := by
  rw [if_pos (by simp [Region.wanted, hgd])]
  exact kwp_s20 HK i p q ho hL hx hy h
end
/-- Loads and stores of packets beside one another. -/
theorem exec_pkt {o : Oper} {a : Act} {w : World} (x : Operand) (ho : o.op = .load 36 x) {b k : Nat} {p : Lnk.Pkt} (hc : Hid (pktLay.At w b 0 k p)) (hx : a.eval x = .pointer (some ⟨b, k * 7, none⟩)) :
    (execOp a.eval o).run Try.prog w = .ok (.value (.agg (pA p))) w := by
  have h := run_loadVar_mid (P := Try.prog) w b (k * 7) 36 (pktLay.f p) _ (fun j v hv => by
    have := hc.out j v hv
    rw [Nat.zero_add] at this
    exact this) Try.underlying36 rfl info_pC
  unfold execOp
  simp only [ho, hx, Instr.loadAt, Instr.sureAddr, Sem.run_bind, Sem.run_pure, Result.andThen_ok, h]
  rfl
theorem exec_hd {o : Oper} {a : Act} {w : World} (x : Operand) (ho : o.op = .load 25 x) {b k : Nat} {h : Hd} (hc : Hid (hdLay.At w b 0 k h)) (hx : a.eval x = .pointer (some ⟨b, k, none⟩)) :
    (execOp a.eval o).run Try.prog w = .ok (.value (.slice h.A h.n h.c)) w := by
  have hc' := at_hd hc.out
  rw [Nat.zero_add] at hc'
  have hagg : (isAgg 25).run Try.prog w = .ok false w := by
    unfold isAgg
    rw [Sem.run_bind, run_underlying Try.underlying25 w]
    rfl
  have h : (loadVar 25 ⟨b, k, none⟩).run Try.prog w = .ok (.slice h.A h.n h.c) w := by
    simp [loadVar, Sem.run_bind, hagg, hc']
  unfold execOp
  simp only [ho, hx, Instr.loadAt, Instr.sureAddr, Sem.run_bind, Sem.run_pure, Result.andThen_ok, h]
theorem Kn.swap1 {b0 : Nat} {w0 w : World} {R : List RowE} {a b c : Nat × TypeId × Array Value} (h : Kn b0 w0 w [a, b, c] R) : Kn b0 w0 w [a, c, b] R := by
  refine h.pick (fun i => if i = 1 then 2 else if i = 2 then 1 else i) id (fun i j hi hj h => ?_) (fun i j _ _ h => h) (fun i x hx => ?_) (fun i x hx => hx)
  · simp at hi hj; (try dsimp only); split <;> split <;> (try split) <;> (try split) <;> omega
  · match i, hx with
    | 0, hx => exact hx
    | 1, hx => exact hx
    | 2, hx => exact hx
/-- A thing of a known row. -/
theorem Kn.atR {P : Program} {b0 : Nat} {w0 w : World} {L : List (Nat × TypeId × Array Value)} {R : List RowE} (h : Kn b0 w0 w L R) {α : Type} {La : Lay P α} (j : Nat) {g n c : Nat} {l : List α} (hj : R[j]? = some (row La (.slice (some ⟨g, 0, none⟩) n c) l)) {i : Nat} {x : α} (hx : l[i]? = some x) : Hid (La.At w g 0 i x) := by
  have hi := (List.getElem?_eq_some_iff.1 hx).1
  exact Lib.hid (((h.own j hj).reads.2.block (by omega)).2 i x hx)
theorem Kn.someR {P : Program} {b0 : Nat} {w0 w : World} {L : List (Nat × TypeId × Array Value)} {R : List RowE} (h : Kn b0 w0 w L R) {α : Type} {La : Lay P α} (j : Nat) {A : Option Addr} {n c : Nat} {l : List α} (hj : R[j]? = some (row La (.slice A n c) l)) (hl : 0 < l.length) : ∃ g, A = some ⟨g, 0, none⟩ := by
  obtain ⟨g, c3, hv, _⟩ := (h.own j hj).block (List.ne_nil_of_length_pos hl)
  injection hv with e1 _ _
  exact ⟨g, e1⟩
section
variable {b0 : Nat} {w0 w : World} {L : List (Nat × TypeId × Array Value)} {R : List RowE} {ops : Array Oper} {rest : List Oper} {o : Oper} {a : Act} {Q : Exit → Act → World → Prop} {K : Act → World → Prop} {E : Prop}
/-- A slice's header stored into a row of headers. -/
theorem step_shd (HK : Hid (Kn b0 w0 w L R)) (j : Nat) (hgd : o.guard = none) (p q : Operand) (ho : o.op = .store 25 p q) {g n c i : Nat} {l : List Hd} (hR : R[j]? = some (row hdLay (.slice (some ⟨g, 0, none⟩) n c) l)) (hi : Hid (i < l.length)) (hx : a.eval p = .pointer (some ⟨g, i, none⟩))
    {A : Option Addr} {k d : Nat} (hy : a.eval q = .slice A k d) (h : ∀ w', Hid (Kn b0 w0 w' L (R.set j (row hdLay (.slice (some ⟨g, 0, none⟩) n c) (l.set i ⟨A, k, d⟩)))) → K (a.put o.dst undef) w') : if Region.wanted o (yielded ops a.tmps) = true then Oper.wp Try.prog o a w K Q else E := by
  rw [if_pos (by simp [Region.wanted, hgd])]
  have hown := HK.out.own j hR
  have hh : ∃ cur, Blk w g 25 cur ∧ i < cur.size := by
    rcases hown.2 with ⟨h1, _⟩ | ⟨g', cap, cur, h1, hb, hg, hnc, _, hs, _⟩
    · cases h1
    · injection h1 with e1 e2 e3
      injection e1 with e1
      injection e1 with e1
      subst e1 e3
      refine ⟨cur, hg, ?_⟩
      have hk : hdLay.k = 1 := rfl
      rw [hk, Nat.mul_one] at hs
      have := hi.out
      omega
  obtain ⟨cur, hb, hsz⟩ := hh
  have hs := run_storeCells_cells (P := Try.prog) g i [.slice A k d] 0 w (fun j hj => by
      have : j = 0 := by simpa using hj
      subst this
      rw [hb.cell, Array.getElem?_eq_getElem (by omega)]; rfl) (fun j _ => hb.frozen _) (fun u hu => by simp at hu; subst hu; rfl)
  simp only [Nat.add_zero] at hs
  have hr : (storeVar 25 ⟨g, i, none⟩ (.slice A k d)).run Try.prog w = .ok () (w.setCell ⟨g, i, none⟩ (.slice A k d)) := by
    have hi := info_strs1
    cases hq : Try.prog.info? 25 with
    | none => simp [hq] at hi
    | some q =>
      have hs1 : q.size = 1 := by simpa [hq] using hi
      have hc : (Value.slice A k d).cells = #[.slice A k d] := rfl
      simp [storeVar, sizeOf, typeInfo, hq, hc, hs1, hs, World.setCells]
  unfold Oper.wp execOp
  simp only [ho, hx, hy, Instr.storeAt, Instr.sureAddr, Sem.run_bind, Sem.run_pure, Result.andThen_ok, hr]
  exact h _ (Lib.hid (HK.out.storeR hR i ⟨A, k, d⟩ _ rfl rfl))
/-- A slice of one packet made. -/
theorem kwp_mkp (x : Operand) (ho : o.op = .buildSlice 29 1 #[(0, x)]) {fs fc ts tc seq ack : Int} {body : ByteArray} (hx : a.eval x = .agg (pC fs fc ts tc seq ack body))
    (h : K (a.put o.dst (.slice (some ⟨w.heap.size, 0, none⟩) 1 1)) (w.alloc (.cells (pC fs fc ts tc seq ack body) 36))) : o.wp Try.prog a w K Q := by
  unfold Oper.wp execOp
  simp only [ho]
  unfold pC at hx h
  simp only [List.map_toArray, List.map_cons, List.map_nil, hx]
  go_simp
  exact h
theorem step_mkp (hgd : o.guard = none) (x : Operand) (ho : o.op = .buildSlice 29 1 #[(0, x)]) {fs fc ts tc seq ack : Int} {body : ByteArray} (hx : a.eval x = .agg (pC fs fc ts tc seq ack body))
    (h : K (a.put o.dst (.slice (some ⟨w.heap.size, 0, none⟩) 1 1)) (w.alloc (.cells (pC fs fc ts tc seq ack body) 36))) : if Region.wanted o (yielded ops a.tmps) = true then Oper.wp Try.prog o a w K Q else E := by
  rw [if_pos (by simp [Region.wanted, hgd])]
  exact kwp_mkp x ho hx h
theorem wpList_mkp (hgd : o.guard = none) (x : Operand) (ho : o.op = .buildSlice 29 1 #[(0, x)]) {fs fc ts tc seq ack : Int} {body : ByteArray} (hx : a.eval x = .agg (pC fs fc ts tc seq ack body))
    (h : wpList Try.prog ops Q rest (a.put o.dst (.slice (some ⟨w.heap.size, 0, none⟩) 1 1)) (w.alloc (.cells (pC fs fc ts tc seq ack body) 36))) : wpList Try.prog ops Q (o :: rest) a w :=
  wpList_plain hgd fun _ hK => kwp_mkp x ho hx (hK _ _ h)
/-- A packet's block made. -/
theorem step_akp (HK : Hid (Kn b0 w0 w L R)) (hgd : o.guard = none) (ho : o.op = .alloc 36)
    (h : ∀ w' g, Hid (Kn b0 w0 w' (L ++ [(g, 36, pC 0 0 0 0 0 0 ⟨#[]⟩)]) R) → Hid (Below w.heap.size w w') → K (a.put o.dst (.pointer (some ⟨g, 0, none⟩))) w') :
    if Region.wanted o (yielded ops a.tmps) = true then Oper.wp Try.prog o a w K Q else E := by
  rw [if_pos (by simp [Region.wanted, hgd])]
  have h4 := h _ w.heap.size (Lib.hid (HK.out.alloc _ _)) (Lib.hid ((Below.refl _ w).alloc (Nat.le_refl _) _))
  unfold Oper.wp execOp
  simp only [ho]
  unfold pC at h4
  go_simp
  exact h4
theorem step_akl' (HK : Hid (Kn b0 w0 w L R)) (hgd : o.guard = none) (ho : o.op = .alloc 27)
    (h : ∀ w' g, Hid (Kn b0 w0 w' (L ++ [(g, 27, lC (.slice none 0 0) 0 0 0 0 0 0 0)]) R) → Hid (Below w.heap.size w w') → K (a.put o.dst (.pointer (some ⟨g, 0, none⟩))) w') :
    if Region.wanted o (yielded ops a.tmps) = true then Oper.wp Try.prog o a w K Q else E := by
  rw [if_pos (by simp [Region.wanted, hgd])]
  have h4 := h _ w.heap.size (Lib.hid (HK.out.alloc _ _)) (Lib.hid ((Below.refl _ w).alloc (Nat.le_refl _) _))
  unfold Oper.wp execOp
  simp only [ho]
  unfold lC at h4
  go_simp
  exact h4
end
end Go.Proofs.Ytamjcghdebjpjaa
