/- Arguments that are slices of objects, whose own slices lie elsewhere; replies. No condition but those named. -/
import Derived.Test.YtpkodjllljnleaaGreatML
import Derived.Test.YtpkodjllljnleaaGreatMF
import Derived.Test.YtpkodjllljnleaaGreatMH
import Derived.Test.YtpkodjllljnleaaGreatMG
import Derived.OpenShut
set_option maxRecDepth 100000
set_option linter.unusedSimpArgs false
set_option linter.unusedVariables false
namespace Go.Proofs.YtpkodjllljnleaaGreat
open Go.ChangeShapes Go.WideShapes Go.Deep Go.RowKit
section
variable {H : Type} {enc : TypeId × Value → H} {P : Program} {W : World} {base : Nat} {α : Type}
def OpensW (enc : TypeId × Value → H) (W : World) (L : Lay P α) (Good : α → DataW H → Prop) : Prop :=
 ∀ (n : Nat) (cs : List Value) (x : DataW H × List MemPlace), DataW.trod enc P W 0 (fun _ => true) true n L.e cs = some x → ∃ it : α, cs = L.f it ∧ Good it x.1
theorem things_cells2 {L : Lay P α} {Good : α → DataW H → Prop} (hop : Opens enc L Good) (hcells : P.cellsOf L.e = L.k) (hbytes : P.bytesOf L.e = L.bytes)
  {fuel : Nat} {cs : List Value} {d : DataW H} {p : List MemPlace} (h0 : DataW.trod enc P W 0 (fun _ => true) true fuel L.t cs = some (d, p)) (hw : (d.weights P L.t).all (· ≤ reachBytes) = true) :
  ∃ (A : Option Addr) (c : Nat) (l : List α), cs = [.slice A l.length c] ∧ L.Reads W W.heap.size A l ∧ (A = none → l = []) ∧ (∀ x ∈ l, ∃ dx, Good x dx) ∧ l.length * L.bytes ≤ reachBytes ∧ l.length ≤ c := by
 rcases open_slice L.und h0 with ⟨hcs, hx⟩ | ⟨a, len, cap, m, n, D, Pl, hcs, _, hl, hm, hmm, hx, hi⟩
 ·exact ⟨none, 0, [], hcs, Lay.Reads.nil _ _ _, fun _ => rfl, (fun x hx => by cases hx), by simp, Nat.le_refl _⟩
 ·simp only [if_true] at hmm
  subst hmm
  cases hx
  have hall : ∀ i, i < m → ∃ it : α, (∀ j u, (L.f it)[j]? = some u → W.cell? ((a.add (i * L.k)).add j) = some u) ∧ Good it (D i) := fun i him => by
   obtain ⟨cs, hc, ht⟩ := hi i him
   obtain ⟨it, rfl, hg⟩ := hop W _ _ _ ht
   rw [hcells] at hc
   obtain ⟨_, hcl, hat⟩ := World.cells?_some hc
   refine ⟨it, fun j u hu => ?_, hg⟩
   have hj := (List.getElem?_eq_some_iff.1 hu).1
   rw [L.len] at hj
   rw [hat j hj, hu]
  by_cases h0 : len = 0
  ·subst h0
   exact ⟨some a, m, [], hcs, Lay.Reads.nil _ _ _, (fun h => by cases h), (fun x hx => by cases hx), by simp, Nat.zero_le _⟩
  have : Inhabited α := ⟨(hall 0 (by omega)).choose⟩
  obtain ⟨f, hf⟩ := choose_lt hall
  have hlen : ((List.range len).map f).length = len := by simp
  have hget : ∀ i x, ((List.range len).map f)[i]? = some x → i < len ∧ x = f i := fun i x hx => by
   rw [List.getElem?_map] at hx
   obtain ⟨j, hj, rfl⟩ := Option.map_eq_some_iff.1 hx
   have hlt : i < len := by
    rcases Nat.lt_or_ge i len with h | h
    ·exact h
    ·rw [List.getElem?_eq_none (by simpa using h)] at hj; cases hj
   rw [List.getElem?_range hlt] at hj
   cases hj
   exact ⟨hlt, rfl⟩
  have hsome : ∃ u, W.cell? a = some u := by
   have h1 := L.len (f 0)
   have h2 := L.pos
   obtain ⟨u, hu⟩ := Lay.get_of (l := L.f (f 0)) (k := 0) (by omega)
   have h3 := (hf 0 (by omega)).1 0 u hu
   simp only [Nat.zero_mul, Addr.add, if_true] at h3
   exact ⟨u, h3⟩
  obtain ⟨u0, hu0⟩ := hsome
  have ha : a = ⟨a.block, a.off, none⟩ := by
   obtain ⟨b, o, sp⟩ := a
   cases sp with
   | none => rfl
   | some z => unfold World.cell? at hu0; split at hu0 <;> simp at hu0
  have hW : (DataW.weights P L.t (.slice ((List.range len).map D) ((List.range (m - len)).map fun j => D (len + j)) : DataW H)).all (· ≤ reachBytes) = true := hw
  unfold DataW.weights at hW
  rw [L.und] at hW
  simp only [List.all_cons, List.all_append, Bool.and_eq_true, decide_eq_true_eq, List.length_map, List.length_range, hbytes] at hW
  obtain ⟨hW1, _, _⟩ := hW
  refine ⟨some a, m, (List.range len).map f, by rw [hlen]; exact hcs, fun hp => ?_, (fun h => by cases h), (fun x hx => ?_), ?_, by rw [hlen]; exact hl⟩
  ·refine ⟨a.block, a.off, by rw [← ha], World.block_lt_of_cell? W a hu0, fun i x hx j u hu => ?_⟩
   obtain ⟨hlt, rfl⟩ := hget i x hx
   have h1 := (hf i (by omega)).1 j u hu
   rw [ha, Lay.add_at, Lay.add_at] at h1
   exact h1
  ·obtain ⟨i, hi', rfl⟩ := List.mem_map.1 hx
   exact ⟨D i, (hf i (by have := List.mem_range.1 hi'; omega)).2⟩
  ·rw [hlen]
   exact Nat.le_trans (Nat.mul_le_mul_right _ (by omega)) hW1
theorem Lift.Given.thingsW {L : Lay P α} {Good : α → DataW H → Prop} (hop : OpensW enc W L Good) (hcells : P.cellsOf L.e = L.k) (hbytes : P.bytesOf L.e = L.bytes)
  {ts : List TypeId} {args : List Value} {ds : List (DataW H)} {before : List MemPlace} (h : Lift.Given enc P (L.t :: ts) W base args ds before) :
  ∃ (A : Option Addr) (c : Nat) (l : List α) (vs : List Value) (d : DataW H) (ds' : List (DataW H)) (q : List MemPlace), args = .slice A l.length c :: vs ∧ ds = d :: ds' ∧ L.Reads W W.heap.size A l ∧ (A = none → l = []) ∧
   (∀ x ∈ l, ∃ dx, Good x dx ∧ (dx.weights P L.e).all (· ≤ reachBytes) = true ∧ Rows.uptoBulk dx ≤ Rows.uptoBulk d) ∧ l.length * L.bytes ≤ reachBytes ∧ l.length ≤ Rows.uptoBulk d ∧ l.length ≤ c ∧ Lift.Given enc P ts W base vs ds' q := by
 obtain ⟨v, vs, d, ds', p, q, rfl, rfl, rfl, h0, hok, _, hw, hg⟩ := h.cons
 obtain ⟨fuel, h0⟩ := h0
 obtain ⟨a0, len0, cap0, rfl⟩ := okWide_slice L.und hok
 rcases open_slice L.und h0 with ⟨hcs, hx⟩ | ⟨a, len, cap, m, n, D, Pl, hcs, _, hl, hm, hmm, hx, hi⟩
 ·simp [Value.cells] at hcs
  obtain ⟨rfl, rfl, rfl⟩ := hcs
  cases hx
  exact ⟨none, 0, [], vs, _, ds', q, rfl, rfl, Lay.Reads.nil _ _ _, fun _ => rfl, (fun x hx => by cases hx), by simp, Nat.zero_le _, Nat.zero_le _, hg⟩
 ·simp [Value.cells] at hcs
  obtain ⟨rfl, rfl, rfl⟩ := hcs
  simp only [if_true] at hmm
  subst hmm
  cases hx
  have hall : ∀ i, i < m → ∃ it : α, (∀ j u, (L.f it)[j]? = some u → W.cell? ((a.add (i * L.k)).add j) = some u) ∧ Good it (D i) := fun i him => by
   obtain ⟨cs, hc, ht⟩ := hi i him
   obtain ⟨it, rfl, hg⟩ := hop _ _ _ ht
   rw [hcells] at hc
   obtain ⟨_, hcl, hat⟩ := World.cells?_some hc
   refine ⟨it, fun j u hu => ?_, hg⟩
   have hj := (List.getElem?_eq_some_iff.1 hu).1
   rw [L.len] at hj
   rw [hat j hj, hu]
  by_cases h0 : len0 = 0
  ·subst h0
   refine ⟨some a, m, [], vs, _, ds', q, rfl, rfl, Lay.Reads.nil _ _ _, (fun h => by cases h), (fun x hx => by cases hx), by simp, Nat.zero_le _, Nat.zero_le _, hg⟩
  have : Inhabited α := ⟨(hall 0 (by omega)).choose⟩
  obtain ⟨f, hf⟩ := choose_lt hall
  have hlen : ((List.range len0).map f).length = len0 := by simp
  have hget : ∀ i x, ((List.range len0).map f)[i]? = some x → i < len0 ∧ x = f i := fun i x hx => by
   rw [List.getElem?_map] at hx
   obtain ⟨j, hj, rfl⟩ := Option.map_eq_some_iff.1 hx
   have hlt : i < len0 := by
    rcases Nat.lt_or_ge i len0 with h | h
    ·exact h
    ·rw [List.getElem?_eq_none (by simpa using h)] at hj; cases hj
   rw [List.getElem?_range hlt] at hj
   cases hj
   exact ⟨hlt, rfl⟩
  have hmem : ∀ x ∈ (List.range len0).map f, ∃ i, i < len0 ∧ x = f i := fun x hx => by
   obtain ⟨i, hi, rfl⟩ := List.mem_map.1 hx
   exact ⟨i, List.mem_range.1 hi, rfl⟩
  have hsome : ∃ u, W.cell? a = some u := by
   have h1 := L.len (f 0)
   have h2 := L.pos
   obtain ⟨u, hu⟩ := Lay.get_of (l := L.f (f 0)) (k := 0) (by omega)
   have h3 := (hf 0 (by omega)).1 0 u hu
   simp only [Nat.zero_mul, Addr.add, if_true] at h3
   exact ⟨u, h3⟩
  obtain ⟨u0, hu0⟩ := hsome
  have ha : a = ⟨a.block, a.off, none⟩ := by
   obtain ⟨b, o, sp⟩ := a
   cases sp with
   | none => rfl
   | some z => unfold World.cell? at hu0; split at hu0 <;> simp at hu0
  have hW : (DataW.weights P L.t (.slice ((List.range len0).map D) ((List.range (m - len0)).map fun j => D (len0 + j)) : DataW H)).all (· ≤ reachBytes) = true := hw
  unfold DataW.weights at hW
  rw [L.und] at hW
  simp only [List.all_cons, List.all_append, Bool.and_eq_true, decide_eq_true_eq, List.length_map, List.length_range, hbytes] at hW
  obtain ⟨hW1, hW2, _⟩ := hW
  refine ⟨some a, m, (List.range len0).map f, vs, _, ds', q, by rw [hlen], rfl, fun hp => ?_, (fun h => by cases h), fun x hx => ?_, ?_, ?_, by rw [hlen]; exact hl, hg⟩
  ·refine ⟨a.block, a.off, by rw [← ha], World.block_lt_of_cell? W a hu0, fun i x hx j u hu => ?_⟩
   obtain ⟨hlt, rfl⟩ := hget i x hx
   have h1 := (hf i (by omega)).1 j u hu
   rw [ha, Lay.add_at, Lay.add_at] at h1
   exact h1
  ·obtain ⟨i, hi', rfl⟩ := hmem x hx
   have hD : D i ∈ (List.range len0).map D := List.mem_map.2 ⟨i, List.mem_range.2 hi', rfl⟩
   refine ⟨D i, (hf i (by omega)).2, List.all_eq_true.2 fun n hn => List.all_eq_true.1 hW2 n (weightsAll_mem hn hD), ?_⟩
   have := bulkAll_mem hD
   rw [Rows.uptoBulk]
   omega
  ·rw [hlen]
   exact Nat.le_trans (Nat.mul_le_mul_right _ (by omega)) hW1
  ·rw [hlen, Rows.uptoBulk]
   have := bulkAll_length ((List.range len0).map D)
   simp only [List.length_map, List.length_range] at this
   omega
end
section
variable {H : Type} {enc : TypeId × Value → H} {W : World} {base : Nat}
theorem cells_pr : Tryz.prog.cellsOf 92 = 5 := by kernel_rfl
theorem bytes_pr : Tryz.prog.bytesOf 92 = 56 := by kernel_rfl
theorem opens_pr : Opens enc prLay (fun p _ => p.val.f < 18446744073709551616) := fun W n cs x ht => by
 obtain ⟨ys, m, _, hx, hlen, hyl, hf⟩ := DataW.trod_struct Tryz.underlying92 ht
 have hlen : cs.length = Tryz.prog.cellsOf 92 := hlen
 rw [cells_pr] at hlen
 match cs, hlen, ys, hyl with
 | [v0, v1, v2, v3, v4], _, [y0, y1], _ =>
  have f0 := hf 0 _ rfl
  have f1 := hf 1 _ rfl
  simp only [List.getElem?_cons_zero, List.getElem?_cons_succ] at f0 f1
  obtain ⟨a0, e0, _, _⟩ := DataW.trod_string Tryz.underlying9 f0
  obtain ⟨a1, e1, w1⟩ := opens_val (enc := enc) W _ _ _ f1
  cases e0; cases e1
  exact ⟨⟨a0, a1⟩, rfl, w1⟩
theorem cells_ob : Tryz.prog.cellsOf 55 = 11 := by kernel_rfl
theorem bytes_ob : Tryz.prog.bytesOf 55 = 144 := by kernel_rfl
theorem reach_is : reachBytes = 140737488351232 := rfl
theorem opens_ob : OpensW enc W obLay (fun x dx => (dx.weights Tryz.prog 55).all (· ≤ reachBytes) = true → In W x) := fun n cs x ht => by
 obtain ⟨ys, m, _, hx, hlen, hyl, hf⟩ := DataW.trod_struct Tryz.underlying55 ht
 have hlen : cs.length = Tryz.prog.cellsOf 55 := hlen
 rw [cells_ob] at hlen
 match cs, hlen, ys, hyl with
 | [v0, v1, v2, v3, v4, v5, v6, v7, v8, v9, v10], _, [y0, y1, y2, (d3, p3), (d4, p4), (d5, p5), y6, y7], _ =>
  have f0 := hf 0 _ rfl
  have f1 := hf 1 _ rfl
  have f2 := hf 2 _ rfl
  have f3 := hf 3 _ rfl
  have f4 := hf 4 _ rfl
  have f5 := hf 5 _ rfl
  have f6 := hf 6 _ rfl
  have f7 := hf 7 _ rfl
  simp only [List.getElem?_cons_zero, List.getElem?_cons_succ] at f0 f1 f2 f3 f4 f5 f6 f7
  obtain ⟨a0, e0, _, _⟩ := DataW.trod_string Tryz.underlying9 f0
  obtain ⟨a1, e1, _, _⟩ := DataW.trod_int Tryz.underlying3 f1
  obtain ⟨a2, e2, _, _⟩ := DataW.trod_int Tryz.underlying3 f2
  obtain ⟨a6, e6, _, w6⟩ := DataW.trod_int Tryz.underlying3 f6
  obtain ⟨a7, e7, w7⟩ := opens_mt (enc := enc) W _ _ _ f7
  have hd : x.1 = .agg [y0.1, y1.1, y2.1, d3, d4, d5, y6.1, y7.1] := congrArg Prod.fst hx
  by_cases hw : (x.1.weights Tryz.prog 55).all (· ≤ reachBytes) = true
  case neg =>
   have hs3 : ∃ A n c, v3 = .slice A n c := by
    rcases open_slice Tryz.underlying49 f3 with ⟨hcs, _⟩ | ⟨a, len, cap, m, n, D, Pl, hcs, _⟩
    ·injection hcs with h; exact ⟨_, _, _, h⟩
    ·injection hcs with h; exact ⟨_, _, _, h⟩
   have hs4 : ∃ A n c, v4 = .slice A n c := by
    rcases open_slice Tryz.underlying50 f4 with ⟨hcs, _⟩ | ⟨a, len, cap, m, n, D, Pl, hcs, _⟩
    ·injection hcs with h; exact ⟨_, _, _, h⟩
    ·injection hcs with h; exact ⟨_, _, _, h⟩
   have hs5 : ∃ A n c, v5 = .slice A n c := by
    rcases open_slice Tryz.underlying51 f5 with ⟨hcs, _⟩ | ⟨a, len, cap, m, n, D, Pl, hcs, _⟩
    ·injection hcs with h; exact ⟨_, _, _, h⟩
    ·injection hcs with h; exact ⟨_, _, _, h⟩
   obtain ⟨A3, n3, c3, rfl⟩ := hs3
   obtain ⟨A4, n4, c4, rfl⟩ := hs4
   obtain ⟨A5, n5, c5, rfl⟩ := hs5
   cases e0; cases e1; cases e2; cases e6; cases e7
   exact ⟨⟨⟨a0, a1, a2, [], [], [], a6, a7⟩, A3, n3, c3, A4, n4, c4, A5, n5, c5⟩, rfl, fun h => absurd h hw⟩
  case pos =>
   have hw2 := hw
   rw [hd] at hw2
   unfold DataW.weights at hw2
   rw [Tryz.underlying55] at hw2
   simp only [List.map_cons, List.map_nil, DataW.weightsEach, List.all_append, Bool.and_eq_true] at hw2
   obtain ⟨_, _, _, hw3, hw4, hw5, _⟩ := hw2
   obtain ⟨A3, c3, l3, hc3, r3, n3, g3, b3, k3⟩ := things_cells2 (L := prLay) opens_pr cells_pr bytes_pr (cs := [v3]) f3 hw3
   obtain ⟨A4, c4, l4, hc4, r4, n4, g4, b4, k4⟩ := things_cells2 (L := vaLay) opens_vas cells_val bytes_val (cs := [v4]) f4 hw4
   obtain ⟨A5, c5, l5, hc5, r5, n5, g5, b5, k5⟩ := things_cells2 (L := rfLay) opens_rf cells_rf bytes_rf (cs := [v5]) f5 hw5
   injection hc3 with hc3
   injection hc4 with hc4
   injection hc5 with hc5
   subst hc3 hc4 hc5
   cases e0; cases e1; cases e2; cases e6; cases e7
   refine ⟨⟨⟨a0, a1, a2, l3, l4, l5, a6, a7⟩, A3, l3.length, c3, A4, l4.length, c4, A5, l5.length, c5⟩, rfl, fun _ => ⟨?_, ?_, ?_, w7, by have := bounds_i64 w6; show a6 ≤ _; omega⟩⟩
   ·refine Sls.sl ⟨rfl, k3, r3, n3, fun y hy => ?_, ?_⟩
    ·obtain ⟨_, g⟩ := g3 y hy; exact g
    ·have h : l3.length * 56 ≤ reachBytes := b3
     rw [reach_is] at h
     show l3.length * 56 ≤ _
     omega
   ·refine ⟨rfl, k4, r4, n4, fun y hy => ?_, ?_⟩
    ·obtain ⟨_, g⟩ := g4 y hy; exact g
    ·have h : l4.length * 40 ≤ reachBytes := b4
     rw [reach_is] at h
     show l4.length * 40 ≤ _
     omega
   ·refine ⟨rfl, k5, r5, n5, fun y hy => trivial, ?_⟩
    have h : l5.length * 24 ≤ reachBytes := b5
    rw [reach_is] at h
    show l5.length * 24 ≤ _
    omega
theorem Lift.Given.objs {ts : List TypeId} {args : List Value} {ds : List (DataW H)} {before : List MemPlace} (h : Lift.Given enc Tryz.prog (22 :: ts) W base args ds before) :
  ∃ (A : Option Addr) (c : Nat) (l : List Oh) (vs : List Value) (d : DataW H) (ds' : List (DataW H)) (q : List MemPlace), args = .slice A l.length c :: vs ∧ ds = d :: ds' ∧ Obs W A l.length c l ∧ Lift.Given enc Tryz.prog ts W base vs ds' q := by
 obtain ⟨A, c, l, vs, d, ds', q, h1, h2, h3, h4, h5, h6, _, h8, h9⟩ := h.thingsW (L := obLay) opens_ob cells_ob bytes_ob
 have hb : l.length * 144 ≤ reachBytes := h6
 rw [reach_is] at hb
 refine ⟨A, c, l, vs, d, ds', q, h1, h2, ⟨⟨rfl, h8, h3, h4, fun x hx => trivial, ?_⟩, fun x hx => ?_⟩, h9⟩
 ·show l.length * 144 ≤ _
  omega
 ·obtain ⟨dx, g, hw, _⟩ := h5 x hx
  exact g hw
end
end Go.Proofs.YtpkodjllljnleaaGreat
