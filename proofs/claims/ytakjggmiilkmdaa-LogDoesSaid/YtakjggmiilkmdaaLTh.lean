/-
  A slice's cell inside a struct that was handed in: what the slice reads as.
  No condition but the form's own.
-/
import Derived.Test.YtakjggmiilkmdaaJSl
import Derived.Test.YtakjggmiilkmdaaLayOpen
import Derived.Test.YtakjggmiilkmdaaOpensT
import Derived.OpenShut
set_option linter.unusedSimpArgs false
set_option linter.unusedVariables false
set_option maxRecDepth 100000
namespace Go.Proofs.Ytakjggmiilkmdaa
open Go.ChangeShapes Go.WideShapes Go.Deep Go.RowKit

section
variable {H : Type} {enc : TypeId × Value → H} {P : Program} {W : World} {base : Nat} {α : Type}
theorem lthings_cells {L : Lay P α} {Good : α → DataW H → Prop} (hop : Opens enc L Good) (hcells : P.cellsOf L.e = L.k) (hbytes : P.bytesOf L.e = L.bytes)
    {fuel : Nat} {cs : List Value} {d : DataW H} {p : List MemPlace} (h0 : DataW.trod enc P W 0 (fun _ => true) true fuel L.t cs = some (d, p)) (hw : (d.weights P L.t).all (· ≤ reachBytes) = true) :
    ∃ (A : Option Addr) (c : Nat) (l : List α), cs = [.slice A l.length c] ∧ L.Reads W W.heap.size A l ∧ (A = none → l = []) ∧ (∀ x ∈ l, ∃ dx, Good x dx ∧ (dx.weights P L.e).all (· ≤ reachBytes) = true ∧ Rows.uptoBulk dx ≤ Rows.uptoBulk d) ∧ l.length * L.bytes ≤ reachBytes ∧ l.length ≤ Rows.uptoBulk d ∧ l.length ≤ c := by
  rcases open_slice L.und h0 with ⟨hcs, hx⟩ | ⟨a, len0, cap0, m, n, D, Pl, hcs, _, hl, hm, hmm, hx, hi⟩
  · cases hx
    exact ⟨none, 0, [], hcs, Lay.Reads.nil _ _ _, fun _ => rfl, (fun x hx => by cases hx), by simp, Nat.zero_le _, Nat.zero_le _⟩
  · simp only [if_true] at hmm
    subst hmm
    cases hx
    have hall : ∀ i, i < m → ∃ it : α, (∀ j u, (L.f it)[j]? = some u → W.cell? ((a.add (i * L.k)).add j) = some u) ∧ Good it (D i) := fun i him => by
      obtain ⟨cs, hc, ht⟩ := hi i him
      obtain ⟨it, rfl, hg⟩ := hop W _ _ _ ht
      rw [hcells] at hc
      obtain ⟨_, hcl, hat⟩ := World.cells?_some hc
      refine ⟨it, fun j u hu => ?_, hg⟩
      have hj := (List.getElem?_eq_some_iff.1 hu).1
      rw [L.len] at hj
      rw [hat j hj, hu]
    by_cases h0 : len0 = 0
    · subst h0
      exact ⟨some a, m, [], hcs, Lay.Reads.nil _ _ _, (fun h => by cases h), (fun x hx => by cases hx), by simp, Nat.zero_le _, Nat.zero_le _⟩
    have : Inhabited α := ⟨(hall 0 (by omega)).choose⟩
    obtain ⟨f, hf⟩ := choose_lt hall
    have hlen : ((List.range len0).map f).length = len0 := by simp
    have hget : ∀ i x, ((List.range len0).map f)[i]? = some x → i < len0 ∧ x = f i := fun i x hx => by
      rw [List.getElem?_map] at hx
      obtain ⟨j, hj, rfl⟩ := Option.map_eq_some_iff.1 hx
      have hlt : i < len0 := by
        rcases Nat.lt_or_ge i len0 with h | h
        · exact h
        · rw [List.getElem?_eq_none (by simpa using h)] at hj; cases hj
      rw [List.getElem?_range hlt] at hj
      cases hj
      exact ⟨hlt, rfl⟩
    have hmem : ∀ x ∈ (List.range len0).map f, ∃ i, i < len0 ∧ x = f i := fun x hx => by
      obtain ⟨i, hi, rfl⟩ := List.mem_map.1 hx
      exact ⟨i, List.mem_range.1 hi, rfl⟩
    have hsome : ∃ u, W.cell? a = some u := by
      have h1 := L.len (f 0)
      have h2 := L.pos
      obtain ⟨u, hu⟩ := Lay.get_of (l := L.f (f 0)) (k := 0) (by omega)
      have h3 := (hf 0 (by omega)).1 0 u hu
      simp only [Nat.zero_mul, Addr.add, if_true] at h3
      exact ⟨u, h3⟩
    obtain ⟨u0, hu0⟩ := hsome
    have ha : a = ⟨a.block, a.off, none⟩ := by
      obtain ⟨b, o, sp⟩ := a
      cases sp with
      | none => rfl
      | some z => unfold World.cell? at hu0; split at hu0 <;> simp at hu0
    have hW : (DataW.weights P L.t (.slice ((List.range len0).map D) ((List.range (m - len0)).map fun j => D (len0 + j)) : DataW H)).all (· ≤ reachBytes) = true := hw
    unfold DataW.weights at hW
    rw [L.und] at hW
    simp only [List.all_cons, List.all_append, Bool.and_eq_true, decide_eq_true_eq, List.length_map, List.length_range, hbytes] at hW
    obtain ⟨hW1, hW2, _⟩ := hW
    refine ⟨some a, m, (List.range len0).map f, by rw [hlen]; exact hcs, fun hp => ?_, (fun h => by cases h), fun x hx => ?_, ?_, ?_, by rw [hlen]; exact hl⟩
    · refine ⟨a.block, a.off, by rw [← ha], World.block_lt_of_cell? W a hu0, fun i x hx j u hu => ?_⟩
      obtain ⟨hlt, rfl⟩ := hget i x hx
      have h1 := (hf i (by omega)).1 j u hu
      rw [ha, Lay.add_at, Lay.add_at] at h1
      exact h1
    · obtain ⟨i, hi', rfl⟩ := hmem x hx
      have hD : D i ∈ (List.range len0).map D := List.mem_map.2 ⟨i, List.mem_range.2 hi', rfl⟩
      refine ⟨D i, (hf i (by omega)).2, List.all_eq_true.2 fun n hn => List.all_eq_true.1 hW2 n (weightsAll_mem hn hD), ?_⟩
      have := bulkAll_mem hD
      rw [Rows.uptoBulk]
      omega
    · rw [hlen]
      exact Nat.le_trans (Nat.mul_le_mul_right _ (by omega)) hW1
    · rw [hlen, Rows.uptoBulk]
      have := bulkAll_length ((List.range len0).map D)
      simp only [List.length_map, List.length_range] at this
      omega
end
end Go.Proofs.Ytakjggmiilkmdaa
