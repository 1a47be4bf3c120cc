/-
  An argument that is a slice of things of one kind: what the form says of it, whatever they are.
  No condition but the form's own.
-/
import Derived.Test.YtakjggmiilkmdaaLay
import Derived.Test.YtakjggmiilkmdaaLift
import Derived.Test.YtakjggmiilkmdaaRows
import Derived.Deep.Slices
import Derived.Deep.Fields
import Derived.Lib.SmallJoins
namespace Go.Proofs.Ytakjggmiilkmdaa
open Go.ChangeShapes Go.WideShapes Go.Deep Go.RowKit

section
variable {H : Type} {enc : TypeId × Value → H} {P : Program} {W : World} {base : Nat} {α : Type}

theorem weightsAll_mem {e : TypeId} {x : DataW H} {n : Nat} (hn : n ∈ x.weights P e) : ∀ {l : List (DataW H)}, x ∈ l → n ∈ DataW.weightsAll P e l
  | d :: r, h => by
    rw [DataW.weightsAll, List.mem_append]
    rcases List.mem_cons.1 h with rfl | h
    · exact .inl hn
    · exact .inr (weightsAll_mem hn h)
mutual
theorem bulk_pos : ∀ (d : DataW H), 1 ≤ Rows.uptoBulk d
  | .lit l => by cases l <;> (unfold Rows.uptoBulk; omega)
  | .nil => by unfold Rows.uptoBulk; omega
  | .ptr d => by unfold Rows.uptoBulk; omega
  | .slice a b => by unfold Rows.uptoBulk; omega
  | .agg a => by unfold Rows.uptoBulk; omega
  | .iface _ d => by unfold Rows.uptoBulk; omega
  | .map _ => by unfold Rows.uptoBulk; omega
  | .held _ => by unfold Rows.uptoBulk; omega
end
theorem bulkAll_length : ∀ (l : List (DataW H)), l.length ≤ Rows.uptoBulkAll l
  | [] => Nat.zero_le _
  | d :: r => by
    rw [Rows.uptoBulkAll, List.length_cons]
    have := bulk_pos d
    have := bulkAll_length r
    omega
theorem bulkAll_mem {d : DataW H} : ∀ {l : List (DataW H)}, d ∈ l → Rows.uptoBulk d ≤ Rows.uptoBulkAll l
  | x :: r, h => by
    rw [Rows.uptoBulkAll]
    rcases List.mem_cons.1 h with rfl | h
    · omega
    · have := bulkAll_mem h
      omega

/-- A thing's cells are read: they are some thing's, and of its datum this holds. -/
def Opens (enc : TypeId × Value → H) (L : Lay P α) (Good : α → DataW H → Prop) : Prop :=
  ∀ (W : World) (n : Nat) (cs : List Value) (x : DataW H × List MemPlace), DataW.trod enc P W 0 (fun _ => true) true n L.e cs = some x → ∃ it : α, cs = L.f it ∧ Good it x.1

theorem Lift.Given.things {L : Lay P α} {Good : α → DataW H → Prop} (hop : Opens enc L Good) (hcells : P.cellsOf L.e = L.k) (hbytes : P.bytesOf L.e = L.bytes)
    {ts : List TypeId} {args : List Value} {ds : List (DataW H)} {before : List MemPlace} (h : Lift.Given enc P (L.t :: ts) W base args ds before) :
    ∃ (A : Option Addr) (c : Nat) (l : List α) (vs : List Value) (d : DataW H) (ds' : List (DataW H)) (q : List MemPlace), args = .slice A l.length c :: vs ∧ ds = d :: ds' ∧ L.Reads W W.heap.size A l ∧ (A = none → l = []) ∧
      (∀ x ∈ l, ∃ dx, Good x dx ∧ (dx.weights P L.e).all (· ≤ reachBytes) = true ∧ Rows.uptoBulk dx ≤ Rows.uptoBulk d) ∧ l.length * L.bytes ≤ reachBytes ∧ l.length ≤ Rows.uptoBulk d ∧ l.length ≤ c ∧ Lift.Given enc P ts W base vs ds' q := by
  obtain ⟨v, vs, d, ds', p, q, rfl, rfl, rfl, h0, hok, _, hw, hg⟩ := h.cons
  obtain ⟨fuel, h0⟩ := h0
  obtain ⟨a0, len0, cap0, rfl⟩ := okWide_slice L.und hok
  rcases open_slice L.und h0 with ⟨hcs, hx⟩ | ⟨a, len, cap, m, n, D, Pl, hcs, _, hl, hm, hmm, hx, hi⟩
  · simp [Value.cells] at hcs
    obtain ⟨rfl, rfl, rfl⟩ := hcs
    cases hx
    exact ⟨none, 0, [], vs, _, ds', q, rfl, rfl, Lay.Reads.nil _ _ _, fun _ => rfl, (fun x hx => by cases hx), by simp, Nat.zero_le _, Nat.zero_le _, hg⟩
  · simp [Value.cells] at hcs
    obtain ⟨rfl, rfl, rfl⟩ := hcs
    simp only [if_true] at hmm
    subst hmm
    cases hx
    have hall : ∀ i, i < m → ∃ it : α, (∀ j u, (L.f it)[j]? = some u → W.cell? ((a.add (i * L.k)).add j) = some u) ∧ Good it (D i) := fun i him => by
      obtain ⟨cs, hc, ht⟩ := hi i him
      obtain ⟨it, rfl, hg⟩ := hop W _ _ _ ht
      rw [hcells] at hc
      obtain ⟨_, hcl, hat⟩ := World.cells?_some hc
      refine ⟨it, fun j u hu => ?_, hg⟩
      have hj := (List.getElem?_eq_some_iff.1 hu).1
      rw [L.len] at hj
      rw [hat j hj, hu]
    by_cases h0 : len0 = 0
    · subst h0
      refine ⟨some a, m, [], vs, _, ds', q, rfl, rfl, Lay.Reads.nil _ _ _, (fun h => by cases h), (fun x hx => by cases hx), by simp, Nat.zero_le _, Nat.zero_le _, hg⟩
    have : Inhabited α := ⟨(hall 0 (by omega)).choose⟩
    obtain ⟨f, hf⟩ := choose_lt hall
    have hlen : ((List.range len0).map f).length = len0 := by simp
    have hget : ∀ i x, ((List.range len0).map f)[i]? = some x → i < len0 ∧ x = f i := fun i x hx => by
      rw [List.getElem?_map] at hx
      obtain ⟨j, hj, rfl⟩ := Option.map_eq_some_iff.1 hx
      have hlt : i < len0 := by
        rcases Nat.lt_or_ge i len0 with h | h
        · exact h
        · rw [List.getElem?_eq_none (by simpa using h)] at hj; cases hj
      rw [List.getElem?_range hlt] at hj
      cases hj
      exact ⟨hlt, rfl⟩
    have hmem : ∀ x ∈ (List.range len0).map f, ∃ i, i < len0 ∧ x = f i := fun x hx => by
      obtain ⟨i, hi, rfl⟩ := List.mem_map.1 hx
      exact ⟨i, List.mem_range.1 hi, rfl⟩
    have hsome : ∃ u, W.cell? a = some u := by
      have h1 := L.len (f 0)
      have h2 := L.pos
      obtain ⟨u, hu⟩ := Lay.get_of (l := L.f (f 0)) (k := 0) (by omega)
      have h3 := (hf 0 (by omega)).1 0 u hu
      simp only [Nat.zero_mul, Addr.add, if_true] at h3
      exact ⟨u, h3⟩
    obtain ⟨u0, hu0⟩ := hsome
    have ha : a = ⟨a.block, a.off, none⟩ := by
      obtain ⟨b, o, sp⟩ := a
      cases sp with
      | none => rfl
      | some z => unfold World.cell? at hu0; split at hu0 <;> simp at hu0
    have hW : (DataW.weights P L.t (.slice ((List.range len0).map D) ((List.range (m - len0)).map fun j => D (len0 + j)) : DataW H)).all (· ≤ reachBytes) = true := hw
    unfold DataW.weights at hW
    rw [L.und] at hW
    simp only [List.all_cons, List.all_append, Bool.and_eq_true, decide_eq_true_eq, List.length_map, List.length_range, hbytes] at hW
    obtain ⟨hW1, hW2, _⟩ := hW
    refine ⟨some a, m, (List.range len0).map f, vs, _, ds', q, by rw [hlen], rfl, fun hp => ?_, (fun h => by cases h), fun x hx => ?_, ?_, ?_, by rw [hlen]; exact hl, hg⟩
    · refine ⟨a.block, a.off, by rw [← ha], World.block_lt_of_cell? W a hu0, fun i x hx j u hu => ?_⟩
      obtain ⟨hlt, rfl⟩ := hget i x hx
      have h1 := (hf i (by omega)).1 j u hu
      rw [ha, Lay.add_at, Lay.add_at] at h1
      exact h1
    · obtain ⟨i, hi', rfl⟩ := hmem x hx
      have hD : D i ∈ (List.range len0).map D := List.mem_map.2 ⟨i, List.mem_range.2 hi', rfl⟩
      refine ⟨D i, (hf i (by omega)).2, List.all_eq_true.2 fun n hn => List.all_eq_true.1 hW2 n (weightsAll_mem hn hD), ?_⟩
      have := bulkAll_mem hD
      rw [Rows.uptoBulk]
      omega
    · rw [hlen]
      exact Nat.le_trans (Nat.mul_le_mul_right _ (by omega)) hW1
    · rw [hlen, Rows.uptoBulk]
      have := bulkAll_length ((List.range len0).map D)
      simp only [List.length_map, List.length_range] at this
      omega
/-- An argument that is one thing, a struct: its value is its cells. -/
theorem Lift.Given.thing {L : Lay P α} {Good : α → DataW H → Prop} (hop : Opens enc L Good) {fs : Array Field} (hs : P.underlying L.e = some (.struct fs))
    {ts : List TypeId} {args : List Value} {ds : List (DataW H)} {before : List MemPlace} (h : Lift.Given enc P (L.e :: ts) W base args ds before) :
    ∃ (x : α) (vs : List Value) (d : DataW H) (ds' : List (DataW H)) (q : List MemPlace), args = .agg (L.f x).toArray :: vs ∧ ds = d :: ds' ∧ Good x d ∧ (d.weights P L.e).all (· ≤ reachBytes) = true ∧ Lift.Given enc P ts W base vs ds' q := by
  obtain ⟨v, vs, d, ds', p, q, rfl, rfl, rfl, h0, hok, _, hw, hg⟩ := h.cons
  obtain ⟨fuel, h0⟩ := h0
  obtain ⟨cs, rfl, hsz⟩ := okWide_struct hs hok
  obtain ⟨it, hit, hgd⟩ := hop W _ _ _ h0
  refine ⟨it, vs, d, ds', q, ?_, rfl, hgd, hw, hg⟩
  have hc : cs.toList = L.f it := by simpa [Value.cells] using hit
  rw [← hc]
end
end Go.Proofs.Ytakjggmiilkmdaa
