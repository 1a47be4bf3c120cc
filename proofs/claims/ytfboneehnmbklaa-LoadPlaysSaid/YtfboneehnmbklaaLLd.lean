/-
  Arguments that are loads, pieces, slices of pieces, slices of numbers.
  No condition but the form's own.
-/
import Derived.Test.YtfboneehnmbklaaLdLay
import Derived.OpenShut
import Derived.KernelRfl
set_option linter.unusedSimpArgs false
set_option linter.unusedVariables false
set_option maxRecDepth 100000
namespace Go.Proofs.Ytfboneehnmbklaa
open Go.ChangeShapes Go.WideShapes Go.Deep Go.RowKit

section
variable {H : Type} {enc : TypeId × Value → H} {P : Program} {W : World} {base : Nat} {α : Type}
theorem lthings_cells {L : Lay P α} {Good : α → DataW H → Prop} (hop : Opens enc L Good) (hcells : P.cellsOf L.e = L.k) (hbytes : P.bytesOf L.e = L.bytes)
    {fuel : Nat} {cs : List Value} {d : DataW H} {p : List MemPlace} (h0 : DataW.trod enc P W 0 (fun _ => true) true fuel L.t cs = some (d, p)) (hw : (d.weights P L.t).all (· ≤ reachBytes) = true) :
    ∃ (A : Option Addr) (c : Nat) (l : List α), cs = [.slice A l.length c] ∧ L.Reads W W.heap.size A l ∧ (A = none → l = []) ∧ (∀ x ∈ l, ∃ dx, Good x dx ∧ (dx.weights P L.e).all (· ≤ reachBytes) = true ∧ Rows.uptoBulk dx ≤ Rows.uptoBulk d) ∧ l.length * L.bytes ≤ reachBytes ∧ l.length ≤ Rows.uptoBulk d ∧ l.length ≤ c := by
  rcases open_slice L.und h0 with ⟨hcs, hx⟩ | ⟨a, len0, cap0, m, n, D, Pl, hcs, _, hl, hm, hmm, hx, hi⟩
  · cases hx
    exact ⟨none, 0, [], hcs, Lay.Reads.nil _ _ _, fun _ => rfl, (fun x hx => by cases hx), by simp, Nat.zero_le _, Nat.zero_le _⟩
  · simp only [if_true] at hmm
    subst hmm
    cases hx
    have hall : ∀ i, i < m → ∃ it : α, (∀ j u, (L.f it)[j]? = some u → W.cell? ((a.add (i * L.k)).add j) = some u) ∧ Good it (D i) := fun i him => by
      obtain ⟨cs, hc, ht⟩ := hi i him
      obtain ⟨it, rfl, hg⟩ := hop W _ _ _ ht
      rw [hcells] at hc
      obtain ⟨_, hcl, hat⟩ := World.cells?_some hc
      refine ⟨it, fun j u hu => ?_, hg⟩
      have hj := (List.getElem?_eq_some_iff.1 hu).1
      rw [L.len] at hj
      rw [hat j hj, hu]
    by_cases h0 : len0 = 0
    · subst h0
      exact ⟨some a, m, [], hcs, Lay.Reads.nil _ _ _, (fun h => by cases h), (fun x hx => by cases hx), by simp, Nat.zero_le _, Nat.zero_le _⟩
    have : Inhabited α := ⟨(hall 0 (by omega)).choose⟩
    obtain ⟨f, hf⟩ := choose_lt hall
    have hlen : ((List.range len0).map f).length = len0 := by simp
    have hget : ∀ i x, ((List.range len0).map f)[i]? = some x → i < len0 ∧ x = f i := fun i x hx => by
      rw [List.getElem?_map] at hx
      obtain ⟨j, hj, rfl⟩ := Option.map_eq_some_iff.1 hx
      have hlt : i < len0 := by
        rcases Nat.lt_or_ge i len0 with h | h
        · exact h
        · rw [List.getElem?_eq_none (by simpa using h)] at hj; cases hj
      rw [List.getElem?_range hlt] at hj
      cases hj
      exact ⟨hlt, rfl⟩
    have hmem : ∀ x ∈ (List.range len0).map f, ∃ i, i < len0 ∧ x = f i := fun x hx => by
      obtain ⟨i, hi, rfl⟩ := List.mem_map.1 hx
      exact ⟨i, List.mem_range.1 hi, rfl⟩
    have hsome : ∃ u, W.cell? a = some u := by
      have h1 := L.len (f 0)
      have h2 := L.pos
      obtain ⟨u, hu⟩ := Lay.get_of (l := L.f (f 0)) (k := 0) (by omega)
      have h3 := (hf 0 (by omega)).1 0 u hu
      simp only [Nat.zero_mul, Addr.add, if_true] at h3
      exact ⟨u, h3⟩
    obtain ⟨u0, hu0⟩ := hsome
    have ha : a = ⟨a.block, a.off, none⟩ := by
      obtain ⟨b, o, sp⟩ := a
      cases sp with
      | none => rfl
      | some z => unfold World.cell? at hu0; split at hu0 <;> simp at hu0
    have hW : (DataW.weights P L.t (.slice ((List.range len0).map D) ((List.range (m - len0)).map fun j => D (len0 + j)) : DataW H)).all (· ≤ reachBytes) = true := hw
    unfold DataW.weights at hW
    rw [L.und] at hW
    simp only [List.all_cons, List.all_append, Bool.and_eq_true, decide_eq_true_eq, List.length_map, List.length_range, hbytes] at hW
    obtain ⟨hW1, hW2, _⟩ := hW
    refine ⟨some a, m, (List.range len0).map f, by rw [hlen]; exact hcs, fun hp => ?_, (fun h => by cases h), fun x hx => ?_, ?_, ?_, by rw [hlen]; exact hl⟩
    · refine ⟨a.block, a.off, by rw [← ha], World.block_lt_of_cell? W a hu0, fun i x hx j u hu => ?_⟩
      obtain ⟨hlt, rfl⟩ := hget i x hx
      have h1 := (hf i (by omega)).1 j u hu
      rw [ha, Lay.add_at, Lay.add_at] at h1
      exact h1
    · obtain ⟨i, hi', rfl⟩ := hmem x hx
      have hD : D i ∈ (List.range len0).map D := List.mem_map.2 ⟨i, List.mem_range.2 hi', rfl⟩
      refine ⟨D i, (hf i (by omega)).2, List.all_eq_true.2 fun n hn => List.all_eq_true.1 hW2 n (weightsAll_mem hn hD), ?_⟩
      have := bulkAll_mem hD
      rw [Rows.uptoBulk]
      omega
    · rw [hlen]
      exact Nat.le_trans (Nat.mul_le_mul_right _ (by omega)) hW1
    · rw [hlen, Rows.uptoBulk]
      have := bulkAll_length ((List.range len0).map D)
      simp only [List.length_map, List.length_range] at this
      omega
end
/-- Pieces in a slice. -/
def pcL (x : Lpc) : List Value := [.int .i64 x.n, .int .i64 x.a, .int .i64 x.t, .int .u32 (x.s : Int), .string x.d]
def pcLay : Lay Try.prog Lpc where
  t := 44
  e := 24
  k := 5
  bytes := 48
  z := .agg (pcC 0 0 0 0 ⟨#[]⟩)
  f := pcL
  len := fun _ => rfl
  one := fun x u hu => by
    unfold pcL at hu
    simp only [List.mem_cons, List.not_mem_nil, or_false] at hu
    rcases hu with rfl | rfl | rfl | rfl | rfl <;> rfl
  und := Try.underlying44
  info := info_pcz
  zs := rfl
  pos := by decide
  small := by decide
def pcF (x : Lpc) : Prop := x.d.size ≤ 140737488351232
/-- Numbers in a slice. -/
theorem info_in : (Try.prog.info? 3).map (fun i => (i.zero, i.size, i.bytes)) = some (some (Value.int .i64 0), 1, 8) := by kernel_rfl
def inLay : Lay Try.prog Int where
  t := 47
  e := 3
  k := 1
  bytes := 8
  z := .int .i64 0
  f := fun x => [.int .i64 x]
  len := fun _ => rfl
  one := fun x u hu => by
    simp only [List.mem_cons, List.not_mem_nil, or_false] at hu
    rcases hu with rfl
    rfl
  und := Try.underlying47
  info := info_in
  zs := rfl
  pos := by decide
  small := by decide
def inF (_ : Int) : Prop := True
section
variable {H : Type} {enc : TypeId × Value → H} {W : World} {base : Nat}
theorem cells_ld : Try.prog.cellsOf 35 = 5 := by kernel_rfl
theorem cells_pc : Try.prog.cellsOf 24 = 5 := by kernel_rfl
theorem bytes_pc : Try.prog.bytesOf 24 = 48 := by kernel_rfl
theorem cells_b : Try.prog.cellsOf 4 = 1 := by kernel_rfl
theorem bytes_b : Try.prog.bytesOf 4 = 1 := by kernel_rfl
theorem cells_s : Try.prog.cellsOf 9 = 1 := by kernel_rfl
theorem bytes_s : Try.prog.bytesOf 9 = 16 := by kernel_rfl
theorem cells_in : Try.prog.cellsOf 3 = 1 := by kernel_rfl
theorem bytes_in : Try.prog.bytesOf 3 = 8 := by kernel_rfl
theorem u32_nat {x : Int} (h : (Lit.int .u32 x).wf = true) : ∃ u : Nat, x = (u : Int) ∧ u < 4294967296 := by
  have h1 : (0 ≤ x) ∧ x ≤ 4294967295 := by simpa [Lit.wf, IntKind.min, IntKind.max, IntKind.signed, IntKind.bits] using h
  exact ⟨x.toNat, by omega, by omega⟩
theorem opens_b : Opens enc bLay (fun _ _ => True) := fun W n cs x ht => by
  obtain ⟨b, e0, _⟩ := DataW.trod_bool Try.underlying4 ht
  cases e0
  exact ⟨b, rfl, trivial⟩
theorem opens_s : Opens enc sLay (fun x d => d = .lit (.string x.data.toList)) := fun W n cs x ht => by
  obtain ⟨s, e0, e1, _⟩ := DataW.trod_string Try.underlying9 ht
  cases e0
  exact ⟨s, rfl, by rw [e1]⟩
theorem opens_in : Opens enc inLay (fun _ _ => True) := fun W n cs x ht => by
  obtain ⟨b, e0, _⟩ := DataW.trod_int Try.underlying3 ht
  cases e0
  exact ⟨b, rfl, trivial⟩
theorem str_reach (x : ByteArray) (h : ((.lit (.string x.data.toList) : DataW H).weights Try.prog 9).all (· ≤ reachBytes) = true) : x.size ≤ 140737488351232 := by
  have hs : x.data.toList.length ∈ (.lit (.string x.data.toList) : DataW H).weights Try.prog 9 := by
    simp [DataW.weights, DataW.weightsEach, Try.underlying9]
  have := of_decide_eq_true (List.all_eq_true.1 h _ hs)
  rwa [Array.length_toList] at this
theorem str_bulk (x : ByteArray) : x.size ≤ Rows.uptoBulk (.lit (.string x.data.toList) : DataW H) := by
  simp only [Rows.uptoBulk, Array.length_toList]
  show x.data.size ≤ _
  omega
theorem opens_pc : Opens enc pcLay (fun x d => d = .agg [.lit (.int .i64 x.n), .lit (.int .i64 x.a), .lit (.int .i64 x.t), .lit (.int .u32 (x.s : Int)), .lit (.string x.d.data.toList)]) := fun W n cs x ht => by
  obtain ⟨ys, m, _, hx, hlen, hyl, hf⟩ := DataW.trod_struct Try.underlying24 ht
  have hlen : cs.length = Try.prog.cellsOf 24 := hlen
  rw [cells_pc] at hlen
  match cs, hlen, ys, hyl with
  | [v0, v1, v2, v3, v4], _, [y0, y1, y2, y3, y4], _ =>
    have f0 := hf 0 _ rfl
    have f1 := hf 1 _ rfl
    have f2 := hf 2 _ rfl
    have f3 := hf 3 _ rfl
    have f4 := hf 4 _ rfl
    simp only [List.getElem?_cons_zero, List.getElem?_cons_succ] at f0 f1 f2 f3 f4
    obtain ⟨a0, e0, g0, w0⟩ := DataW.trod_int Try.underlying3 f0
    obtain ⟨a1, e1, g1, w1⟩ := DataW.trod_int Try.underlying3 f1
    obtain ⟨a2, e2, g2, w2⟩ := DataW.trod_int Try.underlying3 f2
    obtain ⟨a3, e3, g3, w3⟩ := DataW.trod_int Try.underlying22 f3
    obtain ⟨a4, e4, g4, _⟩ := DataW.trod_string Try.underlying9 f4
    cases e0; cases e1; cases e2; cases e3; cases e4
    obtain ⟨u, rfl, hu⟩ := u32_nat w3
    subst g0 g1 g2 g3 g4
    exact ⟨⟨a0, a1, a2, u, a4⟩, rfl, by rw [hx]; rfl⟩
theorem pc_reach (x : Lpc) (h : ((.agg [.lit (.int .i64 x.n), .lit (.int .i64 x.a), .lit (.int .i64 x.t), .lit (.int .u32 (x.s : Int)), .lit (.string x.d.data.toList)] : DataW H).weights Try.prog 24).all (· ≤ reachBytes) = true) : x.d.size ≤ 140737488351232 := by
  have hs : x.d.data.toList.length ∈ (.agg [.lit (.int .i64 x.n), .lit (.int .i64 x.a), .lit (.int .i64 x.t), .lit (.int .u32 (x.s : Int)), .lit (.string x.d.data.toList)] : DataW H).weights Try.prog 24 := by
    simp [DataW.weights, DataW.weightsEach, Try.underlying24]
  have := of_decide_eq_true (List.all_eq_true.1 h _ hs)
  rwa [Array.length_toList] at this
theorem Lift.Given.piece {ts : List TypeId} {args : List Value} {ds : List (DataW H)} {before : List MemPlace} (h : Lift.Given enc Try.prog (24 :: ts) W base args ds before) :
    ∃ (x : Lpc) (vs : List Value) (d : DataW H) (ds' : List (DataW H)) (q : List MemPlace), args = .agg (pcL x).toArray :: vs ∧ ds = d :: ds' ∧ pcF x ∧ Lift.Given enc Try.prog ts W base vs ds' q := by
  obtain ⟨x, vs, d, ds', q, h1, h2, h3, gR, h6⟩ := h.thing (L := pcLay) opens_pc Try.underlying24
  subst h3
  exact ⟨x, vs, _, ds', q, h1, h2, pc_reach x gR, h6⟩
theorem Lift.Given.pieces {ts : List TypeId} {args : List Value} {ds : List (DataW H)} {before : List MemPlace} (h : Lift.Given enc Try.prog (44 :: ts) W base args ds before) :
    ∃ (A : Option Addr) (c : Nat) (l : List Lpc) (vs : List Value) (d : DataW H) (ds' : List (DataW H)) (q : List MemPlace), args = .slice A l.length c :: vs ∧ ds = d :: ds' ∧ Sls pcLay pcF W A l.length c l ∧ Lift.Given enc Try.prog ts W base vs ds' q := by
  obtain ⟨A, c, l, vs, d, ds', q, h1, h2, h3, h4, h5, h6, _, h8, h9⟩ := h.things (L := pcLay) opens_pc cells_pc bytes_pc
  have hb : l.length * 48 ≤ 140737488351232 := h6
  refine ⟨A, c, l, vs, d, ds', q, h1, h2, ⟨rfl, h8, h3, h4, fun x hx => ?_, by show l.length * 48 ≤ _; omega⟩, h9⟩
  obtain ⟨dx, g, gR, _⟩ := h5 x hx
  subst g
  exact pc_reach x gR
theorem Lift.Given.ints {ts : List TypeId} {args : List Value} {ds : List (DataW H)} {before : List MemPlace} (h : Lift.Given enc Try.prog (47 :: ts) W base args ds before) :
    ∃ (A : Option Addr) (c : Nat) (l : List Int) (vs : List Value) (d : DataW H) (ds' : List (DataW H)) (q : List MemPlace), args = .slice A l.length c :: vs ∧ ds = d :: ds' ∧ Sls inLay inF W A l.length c l ∧ Lift.Given enc Try.prog ts W base vs ds' q := by
  obtain ⟨A, c, l, vs, d, ds', q, h1, h2, h3, h4, h5, h6, _, h8, h9⟩ := h.things (L := inLay) opens_in cells_in bytes_in
  have hb : l.length * 8 ≤ 140737488351232 := h6
  exact ⟨A, c, l, vs, d, ds', q, h1, h2, ⟨rfl, h8, h3, h4, fun _ _ => trivial, by show l.length * 8 ≤ _; omega⟩, h9⟩
set_option maxHeartbeats 3200000 in
theorem Lift.Given.load {ts : List TypeId} {args : List Value} {ds : List (DataW H)} {before : List MemPlace} (h : Lift.Given enc Try.prog (35 :: ts) W base args ds before) :
    ∃ (x : Ldd) (A : Option Addr) (c : Nat) (A2 : Option Addr) (c2 : Nat) (vs : List Value) (d : DataW H) (ds' : List (DataW H)) (q : List MemPlace), args = .agg (ldC x.n x.t x.s (.slice A x.h.length c) (.slice A2 x.d.length c2)) :: vs ∧ ds = d :: ds' ∧
      Sls bLay bF W A x.h.length c x.h ∧ Sls sLay sF W A2 x.d.length c2 x.d ∧ (x.d.length ≤ Rows.uptoBulk d ∧ ∀ s ∈ x.d, s.size ≤ Rows.uptoBulk d) ∧ Lift.Given enc Try.prog ts W base vs ds' q := by
  obtain ⟨v, vs, d, ds', p, q, rfl, rfl, rfl, h0, hok, _, hw, hg⟩ := h.cons
  obtain ⟨fuel, h0⟩ := h0
  obtain ⟨cs, rfl, hsz⟩ := okWide_struct Try.underlying35 hok
  have hcl : (Value.agg cs).cells.toList = cs.toList := by simp [Value.cells]
  rw [hcl] at h0
  obtain ⟨ys, m, _, hx, hlen, hyl, hf⟩ := DataW.trod_struct Try.underlying35 h0
  have hlen : cs.toList.length = Try.prog.cellsOf 35 := hlen
  rw [cells_ld] at hlen
  obtain ⟨cl⟩ := cs
  match cl, hlen, ys, hyl with
  | [v0, v1, v2, v3, v4], _, [y0, y1, y2, (d3, p3), (d4, p4)], _ =>
    have f0 := hf 0 _ rfl
    have f1 := hf 1 _ rfl
    have f2 := hf 2 _ rfl
    have f3 := hf 3 _ rfl
    have f4 := hf 4 _ rfl
    simp only [List.getElem?_cons_zero, List.getElem?_cons_succ] at f0 f1 f2 f3 f4
    obtain ⟨a0, e0, g0, w0⟩ := DataW.trod_int Try.underlying3 f0
    obtain ⟨a1, e1, g1, w1⟩ := DataW.trod_int Try.underlying3 f1
    obtain ⟨a2, e2, g2, w2⟩ := DataW.trod_int Try.underlying22 f2
    obtain ⟨u, rfl, hu⟩ := u32_nat w2
    have hd : d = .agg [y0.1, y1.1, y2.1, d3, d4] := congrArg Prod.fst hx
    rw [hd] at hw
    unfold DataW.weights at hw
    rw [Try.underlying35] at hw
    simp only [List.map_cons, List.map_nil, DataW.weightsEach, List.all_append, Bool.and_eq_true] at hw
    obtain ⟨_, _, _, hw3, hw4, _⟩ := hw
    obtain ⟨A, c, l, hc, rd, nl, gd, bd, _, kd⟩ := lthings_cells (L := bLay) opens_b cells_b bytes_b (cs := [v3]) f3 hw3
    obtain ⟨A2, c2, l2, hc2, rd2, nl2, gd2, bd2, bk2, kd2⟩ := lthings_cells (L := sLay) opens_s cells_s bytes_s (cs := [v4]) f4 hw4
    injection hc with hc
    injection hc2 with hc2
    cases e0; cases e1; cases e2
    subst hc hc2
    have hb : l.length * 1 ≤ 140737488351232 := bd
    have hb2 : l2.length * 16 ≤ 140737488351232 := bd2
    have hB4 : Rows.uptoBulk d4 ≤ Rows.uptoBulk d := by
      rw [hd, Rows.uptoBulk]
      have := bulkAll_mem (d := d4) (l := [y0.1, y1.1, y2.1, d3, d4]) (by simp)
      omega
    refine ⟨⟨a0, a1, u, l, l2⟩, A, c, A2, c2, vs, d, ds', q, rfl, rfl, ⟨rfl, kd, rd, nl, fun _ _ => trivial, by show l.length * 1 ≤ _; omega⟩, ⟨rfl, kd2, rd2, nl2, fun x hx => ?_, by show l2.length * 16 ≤ _; omega⟩, ⟨Nat.le_trans bk2 hB4, fun x hx => ?_⟩, hg⟩
    · obtain ⟨dx, g, gR, _⟩ := gd2 x hx
      subst g
      exact str_reach x gR
    · obtain ⟨dx, g, _, gB⟩ := gd2 x hx
      subst g
      exact Nat.le_trans (Nat.le_trans (str_bulk x) gB) hB4
theorem cat_bound : ∀ (l : List ByteArray) (B : Nat), (∀ s ∈ l, s.size ≤ B) → (Ldm.cat l).length ≤ l.length * B
  | [], B, _ => by simp [Ldm.cat]
  | x :: r, B, h => by
    have ih := cat_bound r B (fun s hs => h s (List.mem_cons_of_mem _ hs))
    have hx := h x (List.mem_cons_self ..)
    have e : (Ldm.cat (x :: r)).length = x.size + (Ldm.cat r).length := by
      show (Ldm.cat ([x] ++ r)).length = _
      rw [Ldm.cat_append, List.length_append, Ldm.cat_one, Lib.size_eq]
    rw [e, List.length_cons, Nat.succ_mul]
    omega
end
end Go.Proofs.Ytfboneehnmbklaa
