/-
  What holds of voters and tries after each move of BallotOne, and of the value that was chosen; what each move leaves.
  Pure but for where the lists lie. No condition but those named.
-/
import Derived.Test.YtfganmbjaglmiaaBalInv
import Derived.Test.YtfganmbjaglmiaaBalTry
namespace Go.Proofs.Ytfganmbjaglmiaa
namespace Blt
/-- n voters, behind i moves, ch is what was chosen. -/
structure Sta (N i : Nat) (ch : ByteArray) (vs : List Bvo) (F : List Trh) : Prop where
  inv : Inv N vs (F.map (·.t))
  len : F.length ≤ 20
  pml : ∀ x ∈ F, x.t.pm.length ≤ i
  chn : ch = ⟨#[]⟩ ∨ ∃ (j : Nat) (x : Trh), F[j]? = some x ∧ x.t.has = true ∧ most x.t.yes ∧ ch = x.t.v
section
variable {N i : Nat} {ch : ByteArray} {vs : List Bvo} {F : List Trh}
theorem map_at {j : Nat} {x : Trh} (h : F[j]? = some x) : (F.map (·.t))[j]? = some x.t := by rw [List.getElem?_map, h]; rfl
theorem map_put (j : Nat) (x : Trh) : (F.set j x).map (·.t) = (F.map (·.t)).set j x.t := by rw [List.map_set]
theorem Sta.zero (N : Nat) : Sta N 0 ⟨#[]⟩ (List.replicate N zv) [] := ⟨inv_zero N, Nat.zero_le _, (fun x hx => by cases hx), .inl rfl⟩
theorem Sta.up (h : Sta N i ch vs F) : Sta N (i + 1) ch vs F := ⟨h.inv, h.len, fun x hx => Nat.le_succ_of_le (h.pml x hx), h.chn⟩
theorem Sta.begin (h : Sta N i ch vs F) {b : Bal} (hb : Rt b) (hn : ∀ x ∈ F, ¬ x.t.b = b) (hl : F.length < 20) (g1 g2 : Nat) (A : Option Addr) (k c : Nat) : Sta N i ch vs (F ++ [⟨⟨b, List.replicate N false, [], ⟨#[]⟩, false, List.replicate N false⟩, g1, g2, A, k, c⟩]) := by
  refine ⟨?_, by rw [List.length_append]; exact hl, fun x hx => ?_, ?_⟩
  · rw [List.map_append]
    refine inv_begin h.inv hb fun j t ht e => ?_
    rw [List.getElem?_map] at ht
    obtain ⟨x, hx, rfl⟩ := Option.map_eq_some_iff.1 ht
    exact hn x (List.mem_of_getElem? hx) e
  · rcases List.mem_append.1 hx with q | q
    · exact h.pml x q
    · rw [List.mem_singleton.1 q]; exact Nat.zero_le _
  · refine h.chn.imp id ?_
    rintro ⟨j, x, hx, r⟩
    exact ⟨j, x, by rw [List.getElem?_append_left (List.getElem?_eq_some_iff.1 hx).1]; exact hx, r⟩
theorem chn_set (h : ch = ⟨#[]⟩ ∨ ∃ (j : Nat) (x : Trh), F[j]? = some x ∧ x.t.has = true ∧ most x.t.yes ∧ ch = x.t.v) {j : Nat} {x y : Trh} (hx : F[j]? = some x) (hk : x.t.has = true → most x.t.yes → y.t.has = true ∧ most y.t.yes ∧ y.t.v = x.t.v) :
    ch = ⟨#[]⟩ ∨ ∃ (q : Nat) (z : Trh), (F.set j y)[q]? = some z ∧ z.t.has = true ∧ most z.t.yes ∧ ch = z.t.v := by
  refine h.imp id ?_
  rintro ⟨q, z, hz, z1, z2, z3⟩
  by_cases e : q = j
  · subst e
    rw [hx] at hz
    injection hz with hz
    subst hz
    obtain ⟨a1, a2, a3⟩ := hk z1 z2
    exact ⟨q, y, bset_at hx, a1, a2, by rw [a3]; exact z3⟩
  · exact ⟨q, z, by rw [bset_ne e]; exact hz, z1, z2, z3⟩
theorem pml_set (h : ∀ x ∈ F, x.t.pm.length ≤ i) {j : Nat} {y : Trh} (hy : y.t.pm.length ≤ i + 1) : ∀ x ∈ F.set j y, x.t.pm.length ≤ i + 1 := fun x hx => by
  rcases List.mem_or_eq_of_mem_set hx with q | rfl
  · exact Nat.le_succ_of_le (h x q)
  · exact hy
theorem set_self {α : Type} {l : List α} {j : Nat} {x : α} (h : l[j]? = some x) : l.set j x = l := by
  obtain ⟨hj, rfl⟩ := List.getElem?_eq_some_iff.1 h
  exact List.set_getElem_self hj
/-- A voter promises: no more is kept. -/
theorem Sta.raise (h : Sta N i ch vs F) {k : Nat} {y : Bvo} {b : Bal} (hy : vs[k]? = some y) (hb : ok y b) : Sta N i ch (vs.set k ⟨b, y.a, y.v⟩) F := ⟨inv_raise h.inv hy hb.2, h.len, h.pml, h.chn⟩
/-- What it told is kept. -/
theorem Sta.keep (h : Sta N i ch vs F) {k j : Nat} {y : Bvo} {x : Trh} (hy : vs[k]? = some y) (hx : F[j]? = some x) (hb : ok y x.t.b) (hh : x.t.has = false) (A : Option Addr) (n c : Nat) :
    Sta N (i + 1) ch (vs.set k ⟨x.t.b, y.a, y.v⟩) (F.set j ⟨⟨x.t.b, x.t.said.set k true, x.t.pm ++ [⟨y.a, y.v⟩], x.t.v, x.t.has, x.t.yes⟩, x.g1, x.g2, A, n, c⟩) := by
  have hr := inv_raise h.inv hy hb.2
  refine ⟨?_, by rw [List.length_set]; exact h.len, pml_set h.pml (by rw [List.length_append]; have := h.pml x (List.mem_of_getElem? hx); simpa using this), chn_set h.chn hx fun a _ => by rw [hh] at a; cases a⟩
  rw [map_put]
  exact inv_rec hr (x := ⟨x.t.b, y.a, y.v⟩) (bset_at hy) (map_at hx) rfl hh
/-- A try takes its value. -/
theorem Sta.take (h : Sta N i ch vs F) {j : Nat} {x : Trh} (hx : F[j]? = some x) (hm : most x.t.said) (hh : x.t.has = false) {s : ByteArray} (hs : ∀ p, Blt.ch x.t.pm = some p → s = p.v) :
    Sta N i ch vs (F.set j ⟨⟨x.t.b, x.t.said, x.t.pm, s, true, x.t.yes⟩, x.g1, x.g2, x.A, x.k, x.c⟩) := by
  refine ⟨?_, by rw [List.length_set]; exact h.len, fun z hz => ?_, chn_set h.chn hx fun a _ => by rw [hh] at a; cases a⟩
  · rw [map_put]
    exact inv_take h.inv (map_at hx) hm hh hs
  · rcases List.mem_or_eq_of_mem_set hz with q | rfl
    · exact h.pml z q
    · exact h.pml x (List.mem_of_getElem? hx)
theorem most_set {l : List Bool} {k : Nat} (h : most l) : most (l.set k true) := by
  unfold most at *
  rw [List.length_set]
  refine Nat.lt_of_lt_of_le h ?_
  clear h
  induction l generalizing k with
  | nil => exact Nat.le_refl _
  | cons x r ih =>
    cases k with
    | zero =>
      rw [List.set_cons_zero, List.count_cons, List.count_cons]
      cases x <;> simp
    | succ k =>
      rw [List.set_cons_succ, List.count_cons, List.count_cons]
      exact Nat.add_le_add_right ih _
/-- A voter accepts. -/
theorem Sta.acc (h : Sta N i ch vs F) {k j : Nat} {y : Bvo} {x : Trh} (hy : vs[k]? = some y) (hx : F[j]? = some x) (hb : ok y x.t.b) (hh : x.t.has = true) :
    Sta N i ch (vs.set k ⟨x.t.b, x.t.b, x.t.v⟩) (F.set j ⟨⟨x.t.b, x.t.said, x.t.pm, x.t.v, x.t.has, x.t.yes.set k true⟩, x.g1, x.g2, x.A, x.k, x.c⟩) := by
  refine ⟨?_, by rw [List.length_set]; exact h.len, fun z hz => ?_, chn_set h.chn hx fun a q => ⟨a, most_set q, rfl⟩⟩
  · rw [map_put]
    exact inv_acc h.inv hy (map_at hx) hh hb.2
  · rcases List.mem_or_eq_of_mem_set hz with q | rfl
    · exact h.pml z q
    · exact h.pml x (List.mem_of_getElem? hx)
/-- A try whose value is chosen: what was chosen before is it. -/
theorem Sta.chose (h : Sta N i ch vs F) {j : Nat} {x : Trh} (hx : F[j]? = some x) (hh : x.t.has = true) (hm : most x.t.yes) : (ch = ⟨#[]⟩ ∨ ch = x.t.v) ∧ Sta N i x.t.v vs F := by
  refine ⟨h.chn.imp id ?_, h.inv, h.len, h.pml, .inr ⟨j, x, hx, hh, hm, rfl⟩⟩
  rintro ⟨q, z, hz, z1, z2, z3⟩
  rw [z3]
  exact one h.inv (map_at hz) (map_at hx) z1 hh z2 hm
/-- No voter goes back; what it has accepted doesn't stand behind what it has promised. -/
theorem Sta.kept (h : Sta N i ch vs F) {k : Nat} {y : Bvo} (hy : vs[k]? = some y) : ¬ 0 < cm y.a y.p := fun q => (h.inv.va k y hy).1 (cm_pos.1 q)
theorem cm_back {a b : Bal} (h : ¬ lt a b) : ¬ cm a b < 0 := by
  unfold cm
  rw [if_neg h]
  split <;> omega
theorem ok_up {y : Bvo} {b : Bal} (h : ok y b) : ¬ lt b y.p := h.2
end
end Blt
end Go.Proofs.Ytfganmbjaglmiaa
