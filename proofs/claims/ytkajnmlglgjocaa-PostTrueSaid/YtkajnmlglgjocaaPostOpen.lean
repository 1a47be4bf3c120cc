/-
  An argument that is a post: what the form says of it.
  No condition but the form's own.
-/
import Derived.Test.YtkajnmlglgjocaaPost
import Derived.Test.YtkajnmlglgjocaaLayOpen
import Derived.OpenShut
namespace Go.Proofs.Ytkajnmlglgjocaa
open Go.ChangeShapes Go.WideShapes Go.Deep Go.RowKit

section
variable {H : Type} {enc : TypeId × Value → H} {P : Program} {W : World} {base : Nat} {α : Type}
/-- A slice's one cell, read: the things that it holds. -/
theorem things_cells {L : Lay P α} {Good : α → DataW H → Prop} (hop : Opens enc L Good) (hcells : P.cellsOf L.e = L.k) (hbytes : P.bytesOf L.e = L.bytes)
    {fuel : Nat} {cs : List Value} {d : DataW H} {p : List MemPlace} (h0 : DataW.trod enc P W 0 (fun _ => true) true fuel L.t cs = some (d, p)) (hw : (d.weights P L.t).all (· ≤ reachBytes) = true) :
    ∃ (A : Option Addr) (c : Nat) (l : List α), cs = [.slice A l.length c] ∧ L.Reads W W.heap.size A l ∧ (A = none → l = []) ∧ l.length * L.bytes ≤ reachBytes ∧ l.length ≤ c := by
  rcases open_slice L.und h0 with ⟨hcs, hx⟩ | ⟨a, len, cap, m, n, D, Pl, hcs, _, hl, hm, hmm, hx, hi⟩
  · exact ⟨none, 0, [], hcs, Lay.Reads.nil _ _ _, fun _ => rfl, by simp, Nat.le_refl _⟩
  · simp only [if_true] at hmm
    subst hmm
    cases hx
    have hall : ∀ i, i < m → ∃ it : α, (∀ j u, (L.f it)[j]? = some u → W.cell? ((a.add (i * L.k)).add j) = some u) ∧ Good it (D i) := fun i him => by
      obtain ⟨cs, hc, ht⟩ := hi i him
      obtain ⟨it, rfl, hg⟩ := hop W _ _ _ ht
      rw [hcells] at hc
      obtain ⟨_, hcl, hat⟩ := World.cells?_some hc
      refine ⟨it, fun j u hu => ?_, hg⟩
      have hj := (List.getElem?_eq_some_iff.1 hu).1
      rw [L.len] at hj
      rw [hat j hj, hu]
    by_cases h0 : len = 0
    · subst h0
      exact ⟨some a, m, [], hcs, Lay.Reads.nil _ _ _, (fun h => by cases h), by simp, Nat.zero_le _⟩
    have : Inhabited α := ⟨(hall 0 (by omega)).choose⟩
    obtain ⟨f, hf⟩ := choose_lt hall
    have hlen : ((List.range len).map f).length = len := by simp
    have hget : ∀ i x, ((List.range len).map f)[i]? = some x → i < len ∧ x = f i := fun i x hx => by
      rw [List.getElem?_map] at hx
      obtain ⟨j, hj, rfl⟩ := Option.map_eq_some_iff.1 hx
      have hlt : i < len := by
        rcases Nat.lt_or_ge i len with h | h
        · exact h
        · rw [List.getElem?_eq_none (by simpa using h)] at hj; cases hj
      rw [List.getElem?_range hlt] at hj
      cases hj
      exact ⟨hlt, rfl⟩
    have hsome : ∃ u, W.cell? a = some u := by
      have h1 := L.len (f 0)
      have h2 := L.pos
      obtain ⟨u, hu⟩ := Lay.get_of (l := L.f (f 0)) (k := 0) (by omega)
      have h3 := (hf 0 (by omega)).1 0 u hu
      simp only [Nat.zero_mul, Addr.add, if_true] at h3
      exact ⟨u, h3⟩
    obtain ⟨u0, hu0⟩ := hsome
    have ha : a = ⟨a.block, a.off, none⟩ := by
      obtain ⟨b, o, sp⟩ := a
      cases sp with
      | none => rfl
      | some z => unfold World.cell? at hu0; split at hu0 <;> simp at hu0
    have hW : (DataW.weights P L.t (.slice ((List.range len).map D) ((List.range (m - len)).map fun j => D (len + j)) : DataW H)).all (· ≤ reachBytes) = true := hw
    unfold DataW.weights at hW
    rw [L.und] at hW
    simp only [List.all_cons, List.all_append, Bool.and_eq_true, decide_eq_true_eq, List.length_map, List.length_range, hbytes] at hW
    obtain ⟨hW1, _, _⟩ := hW
    refine ⟨some a, m, (List.range len).map f, by rw [hlen]; exact hcs, fun hp => ?_, (fun h => by cases h), ?_, by rw [hlen]; exact hl⟩
    · refine ⟨a.block, a.off, by rw [← ha], World.block_lt_of_cell? W a hu0, fun i x hx j u hu => ?_⟩
      obtain ⟨hlt, rfl⟩ := hget i x hx
      have h1 := (hf i (by omega)).1 j u hu
      rw [ha, Lay.add_at, Lay.add_at] at h1
      exact h1
    · rw [hlen]
      exact Nat.le_trans (Nat.mul_le_mul_right _ (by omega)) hW1
end
section
variable {H : Type} {enc : TypeId × Value → H} {W : World} {base : Nat}
theorem cells_post : Try.prog.cellsOf 25 = 13 := by kernel_rfl
theorem cells_int1 : Try.prog.cellsOf 3 = 1 := by kernel_rfl
theorem cells_arr : Try.prog.cellsOf 23 = 12 := by kernel_rfl
theorem int_cell {m1 : Nat} {L : List Value} {xs : List (DataW H × List MemPlace)} (hel : ∀ i, i < 12 → DataW.trod enc Try.prog W 0 (fun _ => true) true m1 3 ((L.drop (i * 1)).take 1) = xs[i]?) (hxl : xs.length = 12) (i : Nat) (hi : i < 12) (v : Value) (hv : L[i]? = some v) : ∃ k : Int, v = .int .i64 k := by
  have h := hel i hi
  obtain ⟨hl, rfl⟩ := List.getElem?_eq_some_iff.1 hv
  rw [Nat.mul_one, List.drop_eq_getElem_cons hl, List.getElem?_eq_getElem (by omega)] at h
  obtain ⟨k, e, _⟩ := DataW.trod_int Try.underlying3 h
  injection e with e
  exact ⟨k, e⟩
theorem Lift.Given.post {ts : List TypeId} {args : List Value} {ds : List (DataW H)} {before : List MemPlace} (h : Lift.Given enc Try.prog (25 :: ts) W base args ds before) :
    ∃ (A : Option Addr) (c : Nat) (p : Pst.P) (vs : List Value) (d : DataW H) (ds' : List (DataW H)) (q : List MemPlace), args = .agg (pc A p.m.length c p.s) :: vs ∧ ds = d :: ds' ∧ mailLay.Reads W W.heap.size A p.m ∧ (A = none → p.m = []) ∧
      p.m.length * 40 ≤ reachBytes ∧ p.m.length ≤ c ∧ Lift.Given enc Try.prog ts W base vs ds' q := by
  obtain ⟨v, vs, d, ds', p, q, rfl, rfl, rfl, h0, hok, _, hw, hg⟩ := h.cons
  obtain ⟨fuel, h0⟩ := h0
  obtain ⟨cs, rfl, hsz⟩ := okWide_struct Try.underlying25 hok
  obtain ⟨ys, m, _, hx, hlen, hyl, hf⟩ := DataW.trod_struct Try.underlying25 h0
  have hlen : cs.toList.length = Try.prog.cellsOf 25 := hlen
  rw [cells_post] at hlen
  have hcl : (Value.agg cs).cells.toList = cs.toList := by simp [Value.cells]
  match hcc : cs.toList, hlen, ys, hyl with
  | [v0, v1, v2, v3, v4, v5, v6, v7, v8, v9, v10, v11, v12], _, [y0, y1], _ =>
    rw [hcl, hcc] at hf
    have f0 := hf 0 _ rfl
    have f1 := hf 1 _ rfl
    simp only [List.getElem?_cons_zero, List.getElem?_cons_succ] at f0 f1
    obtain ⟨d0, p0⟩ := y0
    obtain ⟨d1, p1⟩ := y1
    have hd : d = .agg [d0, d1] := congrArg Prod.fst hx
    have hw0 : (d0.weights Try.prog mailLay.t).all (· ≤ reachBytes) = true := by
      rw [hd] at hw
      unfold DataW.weights at hw
      rw [Try.underlying25] at hw
      simp only [List.map_cons, List.map_nil, DataW.weightsEach, List.all_append, Bool.and_eq_true] at hw
      exact hw.1
    obtain ⟨A, n, l, hcs, hr, hn, hb, hc⟩ := things_cells (L := mailLay) opens_mail cells_mail bytes_mail (cs := [v0]) f0 hw0
    injection hcs with hcs
    subst hcs
    change DataW.trod enc Try.prog W 0 (fun _ => true) true m 23 (List.take (Try.prog.cellsOf 23) [v1, v2, v3, v4, v5, v6, v7, v8, v9, v10, v11, v12]) = some (d1, p1) at f1
    rw [cells_arr] at f1
    change DataW.trod enc Try.prog W 0 (fun _ => true) true m 23 [v1, v2, v3, v4, v5, v6, v7, v8, v9, v10, v11, v12] = some (d1, p1) at f1
    obtain ⟨xs, m1, _, _, _, hxl, hel⟩ := DataW.trod_array Try.underlying23 f1
    rw [cells_int1] at hel
    obtain ⟨k0, rfl⟩ := int_cell hel hxl 0 (by decide) _ rfl
    obtain ⟨k1, rfl⟩ := int_cell hel hxl 1 (by decide) _ rfl
    obtain ⟨k2, rfl⟩ := int_cell hel hxl 2 (by decide) _ rfl
    obtain ⟨k3, rfl⟩ := int_cell hel hxl 3 (by decide) _ rfl
    obtain ⟨k4, rfl⟩ := int_cell hel hxl 4 (by decide) _ rfl
    obtain ⟨k5, rfl⟩ := int_cell hel hxl 5 (by decide) _ rfl
    obtain ⟨k6, rfl⟩ := int_cell hel hxl 6 (by decide) _ rfl
    obtain ⟨k7, rfl⟩ := int_cell hel hxl 7 (by decide) _ rfl
    obtain ⟨k8, rfl⟩ := int_cell hel hxl 8 (by decide) _ rfl
    obtain ⟨k9, rfl⟩ := int_cell hel hxl 9 (by decide) _ rfl
    obtain ⟨k10, rfl⟩ := int_cell hel hxl 10 (by decide) _ rfl
    obtain ⟨k11, rfl⟩ := int_cell hel hxl 11 (by decide) _ rfl
    refine ⟨A, n, ⟨l, fun i => ([k0, k1, k2, k3, k4, k5, k6, k7, k8, k9, k10, k11] : List Int).getD i 0⟩, vs, d, ds', q, ?_, rfl, hr, hn, hb, hc, hg⟩
    have hcs2 : cs = pc A l.length n (fun i => ([k0, k1, k2, k3, k4, k5, k6, k7, k8, k9, k10, k11] : List Int).getD i 0) := by
      apply Array.toList_inj.1
      rw [hcc]
      rfl
    rw [hcs2]
end
theorem u8_wf {n : Int} (h : (Lit.int .u8 n).wf = true) : 0 ≤ n ∧ n < 256 := by
  simp [Lit.wf, IntKind.wrap] at h
  have h1 : IntKind.u8.min = 0 := rfl
  have h2 : IntKind.u8.max = 255 := rfl
  omega
theorem reach_is : reachBytes = 140737488351232 := rfl
end Go.Proofs.Ytkajnmlglgjocaa
