/-
  An argument that is a slice of items, or a value: what the form says of it.
  No condition but the form's own.
-/
import Derived.Test.YtdhfmapcggohmaaDoorValIts
import Derived.Lib.SmallJoins
import Derived.Test.YtdhfmapcggohmaaDoorLift
import Derived.Deep.Slices
import Derived.Deep.Fields
namespace Go.Proofs.YtdhfmapcggohmaaDoor
open Go.ChangeShapes Go.WideShapes Go.Deep Go.RowKit

set_option maxRecDepth 100000
section
variable {H : Type} {enc : TypeId × Value → H} {W : World} {base : Nat}

theorem weightsAll_mem {P : Program} {e : TypeId} {x : DataW H} {n : Nat} (hn : n ∈ x.weights P e) : ∀ {l : List (DataW H)}, x ∈ l → n ∈ DataW.weightsAll P e l
  | d :: r, h => by
    rw [DataW.weightsAll, List.mem_append]
    rcases List.mem_cons.1 h with rfl | h
    · exact .inl hn
    · exact .inr (weightsAll_mem hn h)
mutual
theorem bulk_pos : ∀ (d : DataW H), 1 ≤ Rows.uptoBulk d
  | .lit l => by cases l <;> (unfold Rows.uptoBulk; omega)
  | .nil => by unfold Rows.uptoBulk; omega
  | .ptr d => by unfold Rows.uptoBulk; omega
  | .slice a b => by unfold Rows.uptoBulk; omega
  | .agg a => by unfold Rows.uptoBulk; omega
  | .iface _ d => by unfold Rows.uptoBulk; omega
  | .map _ => by unfold Rows.uptoBulk; omega
  | .held _ => by unfold Rows.uptoBulk; omega
end
theorem bulkAll_length : ∀ (l : List (DataW H)), l.length ≤ Rows.uptoBulkAll l
  | [] => Nat.zero_le _
  | d :: r => by
    rw [Rows.uptoBulkAll, List.length_cons]
    have := bulk_pos d
    have := bulkAll_length r
    omega

theorem cells_item : Tryd.prog.cellsOf 50 = 3 := by kernel_rfl
theorem bytes_item : Tryd.prog.bytesOf 50 = 32 := by kernel_rfl
/-- What is known of an item that is read at an address, its datum d. -/
structure ToldIt (W : World) (a : Addr) (d : DataW H) (it : Val.It) : Prop where
  k : W.cell? a = some (.int .i64 it.k)
  n : W.cell? (a.add 1) = some (.int .i64 it.n)
  s : W.cell? (a.add 2) = some (.string it.s)
  wf : (Lit.int .i64 it.n).wf = true
  d : d = .agg [.lit (.int .i64 it.k), .lit (.int .i64 it.n), .lit (.string it.s.data.toList)]
/-- One item's cells. -/
theorem open_item {n : Nat} {cs : List Value} {x : DataW H × List MemPlace} {a : Addr} (hc : W.cells? 0 a (Tryd.prog.cellsOf 50) = some cs) (ht : DataW.trod enc Tryd.prog W 0 (fun _ => true) true n 50 cs = some x) :
    ∃ it : Val.It, ToldIt W a x.1 it := by
  obtain ⟨ys, m, _, hx, hlen, hyl, hf⟩ := DataW.trod_struct Tryd.underlying50 ht
  rw [cells_item] at hc hlen
  obtain ⟨_, hcl, hat⟩ := World.cells?_some hc
  match cs, hcl, ys, hyl with
  | [v0, v1, v2], _, [y0, y1, y2], _ =>
    have f0 := hf 0 _ rfl
    have f1 := hf 1 _ rfl
    have f2 := hf 2 _ rfl
    simp only [List.getElem?_cons_zero, List.getElem?_cons_succ] at f0 f1 f2
    obtain ⟨k, e0, g0, w0⟩ := DataW.trod_int Tryd.underlying3 f0
    obtain ⟨q, e1, g1, w1⟩ := DataW.trod_int Tryd.underlying3 f1
    obtain ⟨s, e2, g2, w2⟩ := DataW.trod_string Tryd.underlying9 f2
    cases e0; cases e1; cases e2
    subst g0 g1 g2
    have h0 := hat 0 (by decide)
    have h1 := hat 1 (by decide)
    have h2 := hat 2 (by decide)
    simp only [Addr.add, if_true] at h0
    exact ⟨⟨k, q, s⟩, h0, h1, h2, w1, by rw [hx]; rfl⟩

theorem Lift.Given.items {ts : List TypeId} {args : List Value} {ds : List (DataW H)} {before : List MemPlace} (h : Lift.Given enc Tryd.prog (31 :: ts) W base args ds before) :
    ∃ (A : Option Addr) (c : Nat) (l : List Val.It) (vs : List Value) (d : DataW H) (ds' : List (DataW H)) (q : List MemPlace), args = .slice A l.length c :: vs ∧ ds = d :: ds' ∧ Items W W.heap.size A l ∧ (A = none → l = []) ∧
      (∀ x ∈ l, x.s.size ≤ reachBytes) ∧ l.length * 32 ≤ reachBytes ∧ l.length ≤ Rows.uptoBulk d ∧ l.length ≤ c ∧ Lift.Given enc Tryd.prog ts W base vs ds' q := by
  obtain ⟨v, vs, d, ds', p, q, rfl, rfl, rfl, h0, hok, _, hw, hg⟩ := h.cons
  obtain ⟨fuel, h0⟩ := h0
  obtain ⟨a0, len0, cap0, rfl⟩ := okWide_slice Tryd.underlying31 hok
  rcases open_slice Tryd.underlying31 h0 with ⟨hcs, hx⟩ | ⟨a, len, cap, m, n, D, Pl, hcs, _, hl, hm, hmm, hx, hi⟩
  · simp [Value.cells] at hcs
    obtain ⟨rfl, rfl, rfl⟩ := hcs
    cases hx
    exact ⟨none, 0, [], vs, _, ds', q, rfl, rfl, Items.nil _ _ _, fun _ => rfl, (fun x hx => by cases hx), Nat.zero_le _, Nat.zero_le _, Nat.zero_le _, hg⟩
  · simp [Value.cells] at hcs
    obtain ⟨rfl, rfl, rfl⟩ := hcs
    simp only [if_true] at hmm
    subst hmm
    cases hx
    have hall : ∀ i, i < m → ∃ it : Val.It, ToldIt W (a.add (i * 3)) (D i) it := fun i him => by
      obtain ⟨cs, hc, ht⟩ := hi i him
      have := open_item (enc := enc) hc ht
      rw [cells_item] at this
      exact this
    have : Inhabited Val.It := ⟨⟨0, 0, ⟨#[]⟩⟩⟩
    obtain ⟨f, hf⟩ := choose_lt hall
    have hlen : ((List.range len0).map f).length = len0 := by simp
    have hget : ∀ i x, ((List.range len0).map f)[i]? = some x → i < len0 ∧ x = f i := fun i x hx => by
      rw [List.getElem?_map] at hx
      obtain ⟨j, hj, rfl⟩ := Option.map_eq_some_iff.1 hx
      have hlt : i < len0 := by
        rcases Nat.lt_or_ge i len0 with h | h
        · exact h
        · rw [List.getElem?_eq_none (by simpa using h)] at hj; cases hj
      rw [List.getElem?_range hlt] at hj
      cases hj
      exact ⟨hlt, rfl⟩
    have hmem : ∀ x ∈ (List.range len0).map f, ∃ i, i < len0 ∧ x = f i := fun x hx => by
      obtain ⟨i, hi, rfl⟩ := List.mem_map.1 hx
      exact ⟨i, List.mem_range.1 hi, rfl⟩
    have hspot : 0 < len0 → a = ⟨a.block, a.off, none⟩ := fun hp => by
      have h1 := (hf 0 (by omega)).k
      simp only [Nat.zero_mul, Addr.add, if_true] at h1
      obtain ⟨b, o, sp⟩ := a
      cases sp with
      | none => rfl
      | some z => unfold World.cell? at h1; split at h1 <;> simp at h1
    have hW : (DataW.weights Tryd.prog 31 (.slice ((List.range len0).map D) ((List.range (m - len0)).map fun j => D (len0 + j)) : DataW H)).all (· ≤ reachBytes) = true := hw
    unfold DataW.weights at hW
    rw [Tryd.underlying31] at hW
    simp only [List.all_cons, List.all_append, Bool.and_eq_true, decide_eq_true_eq, List.length_map, List.length_range, bytes_item] at hW
    obtain ⟨hW1, hW2, _⟩ := hW
    refine ⟨some a, m, (List.range len0).map f, vs, _, ds', q, by rw [hlen], rfl, fun hp => ?_, (fun h => by cases h), fun x hx => ?_, ?_, ?_, by rw [hlen]; exact hl, hg⟩
    · rw [hlen] at hp
      have ha := hspot hp
      refine ⟨a.block, a.off, by rw [← ha], ?_, fun i x hx => ?_⟩
      · have h1 := (hf 0 (by omega)).k
        simp only [Nat.zero_mul, Addr.add, if_true] at h1
        exact World.block_lt_of_cell? W a h1
      · obtain ⟨hlt, rfl⟩ := hget i x hx
        have ht := hf i (by omega)
        have e0 := ht.k
        have e1 := ht.n
        have e2 := ht.s
        rw [ha] at e0 e1 e2
        simp only [add_at] at e0 e1 e2
        exact ⟨e0, e1, e2⟩
    · obtain ⟨i, hi', rfl⟩ := hmem x hx
      have ht := hf i (by omega)
      have hD : D i ∈ (List.range len0).map D := List.mem_map.2 ⟨i, List.mem_range.2 hi', rfl⟩
      have hs : (f i).s.data.toList.length ∈ (D i).weights Tryd.prog 50 := by
        rw [ht.d]
        unfold DataW.weights
        rw [Tryd.underlying50]
        simp [DataW.weightsEach, DataW.weights]
      have := of_decide_eq_true (List.all_eq_true.1 hW2 _ (weightsAll_mem hs hD))
      rwa [Array.length_toList] at this
    · rw [hlen]
      exact Nat.le_trans (Nat.mul_le_mul_right _ (by omega)) hW1
    · rw [hlen, Rows.uptoBulk]
      have := bulkAll_length ((List.range len0).map D)
      simp only [List.length_map, List.length_range] at this
      omega
/-- A value's text is no longer than the value's bulk. -/
theorem bulk_text (k n f : Int) (s : ByteArray) : s.size ≤ Rows.uptoBulk (.agg [.lit (.int .i64 k), .lit (.int .i64 n), .lit (.int .u64 f), .lit (.string s.data.toList)] : DataW H) := by
  simp only [Rows.uptoBulk, Rows.uptoBulkAll, Array.length_toList]
  show s.data.size ≤ _
  omega
theorem Lift.Given.value {ts : List TypeId} {args : List Value} {ds : List (DataW H)} {before : List MemPlace} (h : Lift.Given enc Tryd.prog (24 :: ts) W base args ds before) :
    ∃ (v : Val.V) (vs : List Value) (d : DataW H) (ds' : List (DataW H)) (q : List MemPlace), args = vv v :: vs ∧ ds = d :: ds' ∧ Val.inR v.n ∧ v.f < 18446744073709551616 ∧ v.s.size ≤ reachBytes ∧ v.s.size ≤ Rows.uptoBulk d ∧ Lift.Given enc Tryd.prog ts W base vs ds' q := by
  obtain ⟨v, vs, d, ds', p, q, rfl, rfl, rfl, h0, hok, _, hw, hg⟩ := h.cons
  obtain ⟨v0, v1, v2, v3, y0, y1, y2, y3, n, rfl, rfl, _, f0, f1, f2, f3⟩ := Go.Joins.open_agg4 Tryd.underlying24 (by kernel_rfl) (by kernel_rfl) hok h0
  obtain ⟨k, e0, g0, w0⟩ := DataW.trod_int Tryd.underlying3 f0
  obtain ⟨m, e1, g1, w1⟩ := DataW.trod_int Tryd.underlying3 f1
  obtain ⟨f, e2, g2, w2⟩ := DataW.trod_int Tryd.underlying22 f2
  obtain ⟨s, e3, g3, w3⟩ := DataW.trod_string Tryd.underlying9 f3
  cases e0; cases e1; cases e2; cases e3
  subst g0 g1 g2 g3
  obtain ⟨u, rfl, hu⟩ := u64_lt w2
  refine ⟨⟨k, m, u, s⟩, vs, _, ds', q, rfl, rfl, bounds_i64 w1, hu, ?_, bulk_text k m u s, hg⟩
  have hs : s.data.toList.length ∈ (DataW.agg [.lit (.int .i64 k), .lit (.int .i64 m), .lit (.int .u64 (u : Int)), .lit (.string s.data.toList)] : DataW H).weights Tryd.prog 24 := by
    unfold DataW.weights
    rw [Tryd.underlying24]
    simp [DataW.weightsEach, DataW.weights]
  have := of_decide_eq_true (List.all_eq_true.1 hw _ hs)
  rwa [Array.length_toList] at this
end

end Go.Proofs.YtdhfmapcggohmaaDoor
