/-
  What a strict majority that promises asks for, once a strict majority has accepted.
  Pure. No condition but those named.
-/
import Derived.Test.YtfganmbjaglmiaaBalPm
namespace Go.Proofs.Ytfganmbjaglmiaa
namespace Blt
def fl (l : List Bool) (k : Nat) : List Bool := (List.range k).map fun i => l.getD i true
theorem fl_len (l : List Bool) (k : Nat) : (fl l k).length = k := by simp [fl]
theorem fl_succ (l : List Bool) (k : Nat) : fl l (k + 1) = fl l k ++ [l.getD k true] := by
  unfold fl
  rw [List.range_succ, List.map_append]
  rfl
def px (b : Bal) (y : Bool) : Bpm := if y then ⟨b, ⟨#[118]⟩⟩ else zp
def PP (b : Bal) (Y S : List Bool) (i : Nat) : List Bpm := (((Y.zip S).take i).filter (·.2)).map (fun q => px b q.1)
theorem PP_zero (b : Bal) (Y S : List Bool) : PP b Y S 0 = [] := rfl
theorem PP_more {b : Bal} {Y S : List Bool} {i : Nat} {y s : Bool} (h1 : Y[i]? = some y) (h2 : S[i]? = some s) : PP b Y S (i + 1) = PP b Y S i ++ (if s then [px b y] else []) := by
  have hz : (Y.zip S)[i]? = some (y, s) := by rw [List.getElem?_zip_eq_some]; exact ⟨h1, h2⟩
  unfold PP
  rw [List.take_add_one, hz, Option.toList_some, List.filter_append, List.map_append]
  cases s <;> rfl
theorem PP_len (b : Bal) (Y S : List Bool) (i : Nat) : (PP b Y S i).length ≤ i := by
  unfold PP
  rw [List.length_map]
  refine Nat.le_trans (List.length_filter_le _ _) ?_
  rw [List.length_take]
  omega
theorem PP_mem {b : Bal} {Y S : List Bool} {i : Nat} {x : Bpm} (h : x ∈ PP b Y S i) : x = ⟨b, ⟨#[118]⟩⟩ ∨ x = zp := by
  unfold PP at h
  obtain ⟨q, _, rfl⟩ := List.mem_map.1 h
  unfold px
  cases q.1
  · exact .inr rfl
  · exact .inl rfl
theorem PP_fit {b : Bal} {Y S : List Bool} {i : Nat} : ∀ x ∈ PP b Y S i, pmF x := fun x hx => by
  unfold pmF
  rcases PP_mem hx with rfl | rfl
  · show 1 ≤ _; decide
  · show 0 ≤ _; decide
theorem PP_ch {b : Bal} {Y S : List Bool} (hl : Y.length = S.length) (hY : most Y) (hS : most S) (hb : Rt b) : ch (PP b Y S Y.length) = some ⟨b, ⟨#[118]⟩⟩ := by
  obtain ⟨k, h1, h2⟩ := most_meet hl hY hS
  have hm : (⟨b, ⟨#[118]⟩⟩ : Bpm) ∈ PP b Y S Y.length := by
    unfold PP
    have hz : (Y.zip S)[k]? = some (true, true) := by rw [List.getElem?_zip_eq_some]; exact ⟨h1, h2⟩
    rw [List.take_of_length_le (by rw [List.length_zip]; omega)]
    exact List.mem_map.2 ⟨(true, true), List.mem_filter.2 ⟨List.mem_of_getElem? hz, rfl⟩, rfl⟩
  have hg := ch_told (PP b Y S Y.length)
  cases hc : ch (PP b Y S Y.length) with
  | none =>
    rw [hc] at hg
    exact absurd hb (hg _ hm)
  | some x =>
    rw [hc] at hg
    obtain ⟨h3, h4, _⟩ := hg
    rcases PP_mem h3 with rfl | rfl
    · rfl
    · exact absurd h4 (by unfold Rt zp; decide)
end Blt
end Go.Proofs.Ytfganmbjaglmiaa
