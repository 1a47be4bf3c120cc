/-
  What is asked of voters and tries, one thing after another: what stays true of them all.
  Pure. No condition but those named.
-/
import Derived.Test.YtfganmbjaglmiaaBalMath
namespace Go.Proofs.Ytfganmbjaglmiaa
namespace Blt
theorem bset {α : Type} {l : List α} {i : Nat} {e : α} {j : Nat} {x : α} (h : (l.set i e)[j]? = some x) : (j = i ∧ x = e) ∨ (j ≠ i ∧ l[j]? = some x) := by
  rw [List.getElem?_set] at h
  split at h
  · rename_i hij
    subst hij
    split at h
    · exact .inl ⟨rfl, by injection h with h; exact h.symm⟩
    · cases h
  · rename_i hij
    exact .inr ⟨fun e => hij e.symm, h⟩
theorem bset_at {α : Type} {l : List α} {i : Nat} {y e : α} (h : l[i]? = some y) : (l.set i e)[i]? = some e := by
  rw [List.getElem?_set, if_pos rfl, if_pos (List.getElem?_eq_some_iff.1 h).1]
theorem bset_ne {α : Type} {l : List α} {i j : Nat} {e : α} (h : j ≠ i) : (l.set i e)[j]? = l[j]? := by
  rw [List.getElem?_set, if_neg (fun q => h q.symm)]
def zv : Bvo := ⟨⟨0, 0⟩, ⟨0, 0⟩, ⟨#[]⟩⟩
theorem inv_zero (n : Nat) : Inv n (List.replicate n zv) [] := by
  have no : ∀ {i : Nat} {t : Btr} {P : Prop}, ([] : List Btr)[i]? = some t → P := fun h => by simp at h
  refine ⟨by simp, fun i t h => no h, fun i j t u h => no h, fun k x h => ?_, fun i t k h => no h, fun i t k h => no h, fun i t k h => no h, fun i t p h => no h, fun i t h => no h⟩
  rw [List.getElem?_replicate] at h
  split at h
  · injection h with h
    subst h
    exact ⟨lt_irr _, .inl rfl⟩
  · cases h
section
variable {n : Nat} {vs : List Bvo} {ts : List Btr}
/-- Somebody tries anew. -/
theorem inv_begin (h : Inv n vs ts) {b : Bal} (hb : Rt b) (hn : ∀ (i : Nat) (t : Btr), ts[i]? = some t → ¬ t.b = b) : Inv n vs (ts ++ [⟨b, List.replicate n false, [], ⟨#[]⟩, false, List.replicate n false⟩]) := by
  have key : ∀ (i : Nat) (t : Btr), (ts ++ [⟨b, List.replicate n false, [], ⟨#[]⟩, false, List.replicate n false⟩])[i]? = some t → ts[i]? = some t ∨ (i = ts.length ∧ t = ⟨b, List.replicate n false, [], ⟨#[]⟩, false, List.replicate n false⟩) := fun i t ht => by
    rcases Nat.lt_trichotomy i ts.length with hi | hi | hi
    · rw [List.getElem?_append_left hi] at ht; exact .inl ht
    · subst hi; simp at ht; exact .inr ⟨rfl, ht.symm⟩
    · rw [List.getElem?_eq_none (by simp; omega)] at ht; cases ht
  have up : ∀ (i : Nat) (t : Btr), ts[i]? = some t → (ts ++ [⟨b, List.replicate n false, [], ⟨#[]⟩, false, List.replicate n false⟩])[i]? = some t := fun i t ht => by
    rw [List.getElem?_append_left (List.getElem?_eq_some_iff.1 ht).1]; exact ht
  have no : ∀ k : Nat, ¬ (List.replicate n false)[k]? = some true := fun k q => by
    rw [List.getElem?_replicate] at q
    split at q <;> cases q
  refine ⟨h.vl, fun i t ht => ?_, fun i j t u ht hu e => ?_, fun k x hx => ?_, fun i t k ht hk => ?_, fun i t k ht hk => ?_, fun i t k ht hk => ?_, fun i t p ht hp => ?_, fun i t ht hh => ?_⟩
  · rcases key i t ht with q | ⟨_, rfl⟩
    · exact h.tl i t q
    · exact ⟨hb, by simp, by simp⟩
  · rcases key i t ht with q | ⟨rfl, rfl⟩ <;> rcases key j u hu with q2 | ⟨rfl, rfl⟩
    · exact h.ds i j t u q q2 e
    · exact absurd e (hn i t q)
    · exact absurd e.symm (hn j u q2)
    · rfl
  · obtain ⟨h1, h2⟩ := h.va k x hx
    refine ⟨h1, h2.imp id ?_⟩
    rintro ⟨i, t, ht, r⟩
    exact ⟨i, t, up i t ht, r⟩
  · rcases key i t ht with q | ⟨_, rfl⟩
    · exact h.ys i t k q hk
    · exact absurd hk (no k)
  · rcases key i t ht with q | ⟨_, rfl⟩
    · exact h.sd i t k q hk
    · exact absurd hk (no k)
  · rcases key i t ht with q | ⟨_, rfl⟩
    · obtain ⟨p, hp, hq⟩ := h.pm i t k q hk
      refine ⟨p, hp, fun j u hu hy hl => ?_⟩
      rcases key j u hu with q2 | ⟨_, rfl⟩
      · exact hq j u q2 hy hl
      · exact absurd hy (no k)
    · exact absurd hk (no k)
  · rcases key i t ht with q | ⟨_, rfl⟩
    · refine (h.pa i t p q hp).imp id ?_
      rintro ⟨j, u, hu, r⟩
      exact ⟨j, u, up j u hu, r⟩
    · cases hp
  · rcases key i t ht with q | ⟨_, rfl⟩
    · exact h.hv i t q hh
    · cases hh
/-- A voter promises. -/
theorem inv_raise (h : Inv n vs ts) {k : Nat} {x : Bvo} {b : Bal} (hx : vs[k]? = some x) (hb : ¬ lt b x.p) : Inv n (vs.set k ⟨b, x.a, x.v⟩) ts := by
  refine ⟨by rw [List.length_set]; exact h.vl, h.tl, h.ds, fun j y hy => ?_, fun i t j ht hj => ⟨(h.ys i t j ht hj).1, fun y hy => ?_⟩, fun i t j ht hj y hy => ?_, h.pm, h.pa, h.hv⟩
  · rcases bset hy with ⟨rfl, rfl⟩ | ⟨_, q⟩
    · obtain ⟨h1, h2⟩ := h.va _ x hx
      exact ⟨le_trans h1 hb, h2⟩
    · exact h.va j y q
  · rcases bset hy with ⟨rfl, rfl⟩ | ⟨_, q⟩
    · exact (h.ys i t _ ht hj).2 x hx
    · exact (h.ys i t j ht hj).2 y q
  · rcases bset hy with ⟨rfl, rfl⟩ | ⟨_, q⟩
    · exact le_trans (h.sd i t _ ht hj x hx) hb
    · exact h.sd i t j ht hj y q
/-- What it told is kept by the try. -/
theorem inv_rec (h : Inv n vs ts) {k j : Nat} {x : Bvo} {t : Btr} (hx : vs[k]? = some x) (ht : ts[j]? = some t) (hp : x.p = t.b) (hh : t.has = false) :
    Inv n vs (ts.set j ⟨t.b, t.said.set k true, t.pm ++ [⟨x.a, x.v⟩], t.v, t.has, t.yes⟩) := by
  have old : ∀ (i : Nat) (u : Btr), (ts.set j ⟨t.b, t.said.set k true, t.pm ++ [⟨x.a, x.v⟩], t.v, t.has, t.yes⟩)[i]? = some u → ∃ w, ts[i]? = some w ∧ u.b = w.b ∧ u.has = w.has ∧ u.v = w.v ∧ u.yes = w.yes ∧ u.said.length = w.said.length := fun i u hu => by
    rcases bset hu with ⟨rfl, rfl⟩ | ⟨_, q⟩
    · exact ⟨t, ht, rfl, rfl, rfl, rfl, by simp⟩
    · exact ⟨u, q, rfl, rfl, rfl, rfl, rfl⟩
  have new : ∀ (i : Nat) (u : Btr), ts[i]? = some u → ∃ w, (ts.set j ⟨t.b, t.said.set k true, t.pm ++ [⟨x.a, x.v⟩], t.v, t.has, t.yes⟩)[i]? = some w ∧ w.b = u.b ∧ w.has = u.has ∧ w.v = u.v := fun i u hu => by
    by_cases e : i = j
    · subst e
      rw [ht] at hu
      injection hu with hu
      subst hu
      exact ⟨_, bset_at ht, rfl, rfl, rfl⟩
    · exact ⟨u, by rw [bset_ne e]; exact hu, rfl, rfl, rfl⟩
  have ev : ∀ {b : Bal} {v : ByteArray}, (∃ (i : Nat) (u : Btr), ts[i]? = some u ∧ u.b = b ∧ u.has = true ∧ u.v = v) → ∃ (i : Nat) (u : Btr), (ts.set j ⟨t.b, t.said.set k true, t.pm ++ [⟨x.a, x.v⟩], t.v, t.has, t.yes⟩)[i]? = some u ∧ u.b = b ∧ u.has = true ∧ u.v = v := fun ⟨i, u, hu, h1, h2, h3⟩ => by
    obtain ⟨w, hw, w1, w2, w3⟩ := new i u hu
    exact ⟨i, w, hw, by rw [w1, h1], by rw [w2, h2], by rw [w3, h3]⟩
  refine ⟨h.vl, fun i u hu => ?_, fun i i' u u' hu hu' e => ?_, fun q y hy => ?_, fun i u q hu hq => ?_, fun i u q hu hq y hy => ?_, fun i u q hu hq => ?_, fun i u p hu hpm => ?_, fun i u hu huh => ?_⟩
  · obtain ⟨w, hw, w1, _, _, w4, w5⟩ := old i u hu
    obtain ⟨a1, a2, a3⟩ := h.tl i w hw
    exact ⟨by rw [w1]; exact a1, by rw [w5]; exact a2, by rw [w4]; exact a3⟩
  · obtain ⟨w, hw, w1, _⟩ := old i u hu
    obtain ⟨w', hw', w1', _⟩ := old i' u' hu'
    exact h.ds i i' w w' hw hw' (by rw [← w1, ← w1']; exact e)
  · obtain ⟨h1, h2⟩ := h.va q y hy
    exact ⟨h1, h2.imp id ev⟩
  · obtain ⟨w, hw, w1, w2, _, w4, _⟩ := old i u hu
    obtain ⟨h1, h2⟩ := h.ys i w q hw (by rw [← w4]; exact hq)
    exact ⟨by rw [w2]; exact h1, fun y hy => by rw [w1]; exact h2 y hy⟩
  · rcases bset hu with ⟨rfl, rfl⟩ | ⟨_, r⟩
    · rcases bset hq with ⟨rfl, _⟩ | ⟨_, r2⟩
      · rw [hx] at hy
        injection hy with hy
        subst hy
        rw [hp]
        exact lt_irr _
      · exact h.sd _ t q ht r2 y hy
    · exact h.sd i u q r hq y hy
  · have lift : ∀ (w : Btr) (p : Bpm), (∀ (j' : Nat) (u' : Btr), ts[j']? = some u' → u'.yes[q]? = some true → lt u'.b w.b → ¬ lt p.a u'.b) → ∀ (j' : Nat) (u' : Btr), (ts.set j ⟨t.b, t.said.set k true, t.pm ++ [⟨x.a, x.v⟩], t.v, t.has, t.yes⟩)[j']? = some u' → u'.yes[q]? = some true → lt u'.b w.b → ¬ lt p.a u'.b := fun w p hw j' u' hu' hy hl => by
      obtain ⟨w', hw', w1, _, _, w4, _⟩ := old j' u' hu'
      rw [w1]
      exact hw j' w' hw' (by rw [← w4]; exact hy) (by rw [← w1]; exact hl)
    rcases bset hu with ⟨rfl, rfl⟩ | ⟨_, r⟩
    · rcases bset hq with ⟨rfl, _⟩ | ⟨_, r2⟩
      · refine ⟨⟨x.a, x.v⟩, by simp, lift t ⟨x.a, x.v⟩ (fun j' u' hu' hy hl => (h.ys j' u' _ hu' hy).2 x hx)⟩
      · obtain ⟨p, hpm, hb⟩ := h.pm _ t q ht r2
        exact ⟨p, List.mem_append_left _ hpm, lift t p hb⟩
    · obtain ⟨p, hpm, hb⟩ := h.pm i u q r hq
      exact ⟨p, hpm, lift u p hb⟩
  · have lift : ∀ {b c : Bal} {v : ByteArray}, (∃ (i : Nat) (u : Btr), ts[i]? = some u ∧ u.b = b ∧ u.has = true ∧ u.v = v ∧ lt u.b c) → ∃ (i : Nat) (u : Btr), (ts.set j ⟨t.b, t.said.set k true, t.pm ++ [⟨x.a, x.v⟩], t.v, t.has, t.yes⟩)[i]? = some u ∧ u.b = b ∧ u.has = true ∧ u.v = v ∧ lt u.b c := fun ⟨i, u, hu, h1, h2, h3, h4⟩ => by
      obtain ⟨w, hw, w1, w2, w3⟩ := new i u hu
      exact ⟨i, w, hw, by rw [w1, h1], by rw [w2, h2], by rw [w3, h3], by rw [w1]; exact h4⟩
    rcases bset hu with ⟨rfl, rfl⟩ | ⟨_, r⟩
    · rcases List.mem_append.1 hpm with q | q
      · exact (h.pa _ t p ht q).imp id lift
      · rw [List.mem_singleton.1 q]
        obtain ⟨h1, h2⟩ := h.va k x hx
        refine h2.imp id ?_
        rintro ⟨i', u', hu', e1, e2, e3⟩
        refine lift ⟨i', u', hu', e1, e2, e3, ?_⟩
        refine Classical.byContradiction fun hc => ?_
        have e4 : u'.b = t.b := by
          refine tri hc ?_
          rw [hp, ← e1] at h1
          exact h1
        have := h.ds i' _ u' t hu' ht e4
        subst this
        rw [ht] at hu'
        injection hu' with hu'
        subst hu'
        rw [hh] at e2
        cases e2
    · exact (h.pa i u p r hpm).imp id lift
  · rcases bset hu with ⟨rfl, rfl⟩ | ⟨_, r⟩
    · rw [show (⟨t.b, t.said.set k true, t.pm ++ [⟨x.a, x.v⟩], t.v, t.has, t.yes⟩ : Btr).has = t.has from rfl, hh] at huh
      cases huh
    · exact h.hv i u r huh
/-- A try takes its value. -/
theorem inv_take (h : Inv n vs ts) {j : Nat} {t : Btr} {s : ByteArray} (ht : ts[j]? = some t) (hm : most t.said) (hh : t.has = false) (hs : ∀ p, ch t.pm = some p → s = p.v) :
    Inv n vs (ts.set j ⟨t.b, t.said, t.pm, s, true, t.yes⟩) := by
  have old : ∀ (i : Nat) (u : Btr), (ts.set j ⟨t.b, t.said, t.pm, s, true, t.yes⟩)[i]? = some u → ∃ w, ts[i]? = some w ∧ u.b = w.b ∧ u.said = w.said ∧ u.pm = w.pm ∧ u.yes = w.yes ∧ (w.has = true → u.has = true) := fun i u hu => by
    rcases bset hu with ⟨rfl, rfl⟩ | ⟨_, q⟩
    · exact ⟨t, ht, rfl, rfl, rfl, rfl, fun _ => rfl⟩
    · exact ⟨u, q, rfl, rfl, rfl, rfl, id⟩
  have new : ∀ (i : Nat) (u : Btr), ts[i]? = some u → u.has = true → (ts.set j ⟨t.b, t.said, t.pm, s, true, t.yes⟩)[i]? = some u := fun i u hu huh => by
    by_cases e : i = j
    · subst e
      rw [ht] at hu
      injection hu with hu
      subst hu
      rw [hh] at huh
      cases huh
    · rw [bset_ne e]; exact hu
  refine ⟨h.vl, fun i u hu => ?_, fun i i' u u' hu hu' e => ?_, fun q y hy => ?_, fun i u q hu hq => ?_, fun i u q hu hq y hy => ?_, fun i u q hu hq => ?_, fun i u p hu hpm => ?_, fun i u hu huh => ?_⟩
  · obtain ⟨w, hw, w1, w2, _, w4, _⟩ := old i u hu
    rw [w1, w2, w4]
    exact h.tl i w hw
  · obtain ⟨w, hw, w1, _⟩ := old i u hu
    obtain ⟨w', hw', w1', _⟩ := old i' u' hu'
    exact h.ds i i' w w' hw hw' (by rw [← w1, ← w1']; exact e)
  · obtain ⟨h1, h2⟩ := h.va q y hy
    refine ⟨h1, h2.imp id ?_⟩
    rintro ⟨i, u, hu, e1, e2, e3⟩
    exact ⟨i, u, new i u hu e2, e1, e2, e3⟩
  · obtain ⟨w, hw, w1, _, _, w4, w5⟩ := old i u hu
    obtain ⟨h1, h2⟩ := h.ys i w q hw (by rw [← w4]; exact hq)
    exact ⟨w5 h1, fun y hy => by rw [w1]; exact h2 y hy⟩
  · obtain ⟨w, hw, w1, w2, _⟩ := old i u hu
    rw [w1]
    exact h.sd i w q hw (by rw [← w2]; exact hq) y hy
  · obtain ⟨w, hw, w1, w2, w3, _⟩ := old i u hu
    obtain ⟨p, hp, hb⟩ := h.pm i w q hw (by rw [← w2]; exact hq)
    refine ⟨p, by rw [w3]; exact hp, fun j' u' hu' hy hl => ?_⟩
    obtain ⟨w', hw', a1, _, _, a4, _⟩ := old j' u' hu'
    rw [a1]
    exact hb j' w' hw' (by rw [← a4]; exact hy) (by rw [← a1, ← w1]; exact hl)
  · obtain ⟨w, hw, w1, _, w3, _⟩ := old i u hu
    refine (h.pa i w p hw (by rw [← w3]; exact hpm)).imp id ?_
    rintro ⟨j', u', hu', e1, e2, e3, e4⟩
    exact ⟨j', u', new j' u' hu' e2, e1, e2, e3, by rw [w1]; exact e4⟩
  · rcases bset hu with ⟨rfl, rfl⟩ | ⟨_, r⟩
    · exact ⟨hm, hs⟩
    · exact h.hv i u r huh
/-- A voter accepts. -/
theorem inv_acc (h : Inv n vs ts) {k j : Nat} {x : Bvo} {t : Btr} (hx : vs[k]? = some x) (ht : ts[j]? = some t) (hh : t.has = true) (hb : ¬ lt t.b x.p) :
    Inv n (vs.set k ⟨t.b, t.b, t.v⟩) (ts.set j ⟨t.b, t.said, t.pm, t.v, t.has, t.yes.set k true⟩) := by
  have old : ∀ (i : Nat) (u : Btr), (ts.set j ⟨t.b, t.said, t.pm, t.v, t.has, t.yes.set k true⟩)[i]? = some u → ∃ w, ts[i]? = some w ∧ u.b = w.b ∧ u.said = w.said ∧ u.pm = w.pm ∧ u.has = w.has ∧ u.v = w.v ∧ u.yes.length = w.yes.length ∧ (∀ q : Nat, u.yes[q]? = some true → w.yes[q]? = some true ∨ (q = k ∧ i = j)) := fun i u hu => by
    rcases bset hu with ⟨rfl, rfl⟩ | ⟨_, r⟩
    · refine ⟨t, ht, rfl, rfl, rfl, rfl, rfl, by simp, fun q hq => ?_⟩
      rcases bset hq with ⟨rfl, _⟩ | ⟨_, r⟩
      · exact .inr ⟨rfl, rfl⟩
      · exact .inl r
    · exact ⟨u, r, rfl, rfl, rfl, rfl, rfl, rfl, fun q hq => .inl hq⟩
  have new : ∀ (i : Nat) (u : Btr), ts[i]? = some u → ∃ w, (ts.set j ⟨t.b, t.said, t.pm, t.v, t.has, t.yes.set k true⟩)[i]? = some w ∧ w.b = u.b ∧ w.has = u.has ∧ w.v = u.v := fun i u hu => by
    by_cases e : i = j
    · subst e
      rw [ht] at hu
      injection hu with hu
      subst hu
      exact ⟨_, bset_at ht, rfl, rfl, rfl⟩
    · exact ⟨u, by rw [bset_ne e]; exact hu, rfl, rfl, rfl⟩
  have hxa := h.va k x hx
  refine ⟨by rw [List.length_set]; exact h.vl, fun i u hu => ?_, fun i i' u u' hu hu' e => ?_, fun q y hy => ?_, fun i u q hu hq => ?_, fun i u q hu hq y hy => ?_, fun i u q hu hq => ?_, fun i u p hu hpm => ?_, fun i u hu huh => ?_⟩
  · obtain ⟨w, hw, w1, w2, _, _, _, w6, _⟩ := old i u hu
    rw [w1, w2, w6]
    exact h.tl i w hw
  · obtain ⟨w, hw, w1, _⟩ := old i u hu
    obtain ⟨w', hw', w1', _⟩ := old i' u' hu'
    exact h.ds i i' w w' hw hw' (by rw [← w1, ← w1']; exact e)
  · rcases bset hy with ⟨rfl, rfl⟩ | ⟨_, r⟩
    · obtain ⟨w, hw, w1, w2, w3⟩ := new j t ht
      exact ⟨lt_irr _, .inr ⟨j, w, hw, w1, by rw [w2]; exact hh, w3⟩⟩
    · obtain ⟨h1, h2⟩ := h.va q y r
      refine ⟨h1, h2.imp id ?_⟩
      rintro ⟨i, u, hu, e1, e2, e3⟩
      obtain ⟨w, hw, w1, w2, w3⟩ := new i u hu
      exact ⟨i, w, hw, by rw [w1, e1], by rw [w2, e2], by rw [w3, e3]⟩
  · obtain ⟨w, hw, w1, _, _, w4, _, _, w7⟩ := old i u hu
    rcases w7 q hq with r | ⟨rfl, rfl⟩
    · obtain ⟨h1, h2⟩ := h.ys i w q hw r
      refine ⟨by rw [w4]; exact h1, fun y hy => ?_⟩
      rcases bset hy with ⟨rfl, rfl⟩ | ⟨_, r2⟩
      · rw [w1]
        exact le_trans (h2 x hx) (le_trans hxa.1 hb)
      · rw [w1]; exact h2 y r2
    · rw [ht] at hw
      injection hw with hw
      subst hw
      refine ⟨by rw [w4]; exact hh, fun y hy => ?_⟩
      rcases bset hy with ⟨_, rfl⟩ | ⟨r2, _⟩
      · rw [w1]; exact lt_irr _
      · exact absurd rfl r2
  · obtain ⟨w, hw, w1, w2, _⟩ := old i u hu
    rcases bset hy with ⟨rfl, rfl⟩ | ⟨_, r⟩
    · rw [w1]
      exact le_trans (h.sd i w _ hw (by rw [← w2]; exact hq) x hx) hb
    · rw [w1]
      exact h.sd i w q hw (by rw [← w2]; exact hq) y r
  · obtain ⟨w, hw, w1, w2, w3, _⟩ := old i u hu
    obtain ⟨p, hp, hbp⟩ := h.pm i w q hw (by rw [← w2]; exact hq)
    refine ⟨p, by rw [w3]; exact hp, fun j' u' hu' hy hl => ?_⟩
    obtain ⟨w', hw', a1, _, _, _, _, _, a7⟩ := old j' u' hu'
    rw [a1, w1] at hl
    rcases a7 q hy with r | ⟨rfl, rfl⟩
    · rw [a1]
      exact hbp j' w' hw' r hl
    · rw [ht] at hw'
      injection hw' with hw'
      subst hw'
      have h1 := h.sd i w _ hw (by rw [← w2]; exact hq) x hx
      exact absurd hl (le_trans h1 hb)
  · obtain ⟨w, hw, w1, _, w3, _⟩ := old i u hu
    refine (h.pa i w p hw (by rw [← w3]; exact hpm)).imp id ?_
    rintro ⟨j', u', hu', e1, e2, e3, e4⟩
    obtain ⟨v, hv, v1, v2, v3⟩ := new j' u' hu'
    exact ⟨j', v, hv, by rw [v1, e1], by rw [v2, e2], by rw [v3, e3], by rw [v1, w1]; exact e4⟩
  · obtain ⟨w, hw, _, w2, w3, w4, w5, _⟩ := old i u hu
    rw [w2, w3, w5]
    exact h.hv i w hw (by rw [← w4]; exact huh)
end
end Blt
end Go.Proofs.Ytfganmbjaglmiaa
