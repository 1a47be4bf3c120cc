/-
  Ballots, voters, promises, tries; why no two values are ever chosen: what stays true of all voters and tries, whatever is asked of whom.
  Pure. No condition but those named.
-/
namespace Go.Proofs.Ytfganmbjaglmiaa
structure Bal where
  r : Int
  s : Int
deriving DecidableEq
/-- A voter; a promise. -/
structure Bvo where
  p : Bal
  a : Bal
  v : ByteArray
structure Bpm where
  a : Bal
  v : ByteArray
/-- A try. -/
structure Btr where
  b : Bal
  said : List Bool
  pm : List Bpm
  v : ByteArray
  has : Bool
  yes : List Bool
namespace Blt
def lt (a b : Bal) : Prop := a.r < b.r ∨ (a.r = b.r ∧ a.s < b.s)
instance (a b : Bal) : Decidable (lt a b) := by unfold lt; infer_instance
def cm (a b : Bal) : Int := if lt a b then -1 else if lt b a then 1 else 0
def Rt (b : Bal) : Prop := 1 ≤ b.r ∧ 0 ≤ b.s ∧ b.s < 7
instance (b : Bal) : Decidable (Rt b) := by unfold Rt; infer_instance
/-- A voter is asked to promise, to accept. -/
def ok (x : Bvo) (b : Bal) : Prop := Rt b ∧ ¬ lt b x.p
instance (x : Bvo) (b : Bal) : Decidable (ok x b) := by unfold ok; infer_instance
def pr (x : Bvo) (b : Bal) : Bvo := if ok x b then ⟨b, x.a, x.v⟩ else x
def ac (x : Bvo) (b : Bal) (v : ByteArray) : Bvo := if ok x b then ⟨b, b, v⟩ else x
/-- What promises ask for. -/
def cs (o : Option Bpm) (x : Bpm) : Option Bpm := match o with
  | none => if Rt x.a then some x else none
  | some y => if Rt x.a ∧ lt y.a x.a then some x else some y
def ch (l : List Bpm) : Option Bpm := l.foldl cs none
def most (l : List Bool) : Prop := l.length / 2 < l.count true
instance (l : List Bool) : Decidable (most l) := by unfold most; infer_instance

theorem lt_irr (a : Bal) : ¬ lt a a := fun h => by unfold lt at h; omega
theorem lt_trans {a b c : Bal} (h : lt a b) (k : lt b c) : lt a c := by unfold lt at *; omega
theorem le_trans {a b c : Bal} (h : ¬ lt b a) (k : ¬ lt c b) : ¬ lt c a := by unfold lt at *; omega
theorem lt_le {a b c : Bal} (h : lt a b) (k : ¬ lt c b) : lt a c := by unfold lt at *; omega
theorem lt_asym {a b : Bal} (h : lt a b) : ¬ lt b a := by unfold lt at *; omega
theorem tri {a b : Bal} (h : ¬ lt a b) (k : ¬ lt b a) : a = b := by
  obtain ⟨r, s⟩ := a
  obtain ⟨r', s'⟩ := b
  unfold lt at h k
  simp only at h k
  have h1 : r = r' := by omega
  have h2 : s = s' := by omega
  rw [h1, h2]
def key (b : Bal) : Nat := (b.r * 7 + b.s).toNat
theorem key_lt {a b : Bal} (ha : Rt a) (hb : Rt b) (h : lt a b) : key a < key b := by
  unfold Rt at ha hb
  unfold lt at h
  unfold key
  omega
theorem zero_lt {b : Bal} (h : Rt b) : lt ⟨0, 0⟩ b := by
  unfold Rt at h
  unfold lt
  simp only
  omega
/-- What is asked for: the one whose ballot stands behind all others'. -/
def G (l : List Bpm) (o : Option Bpm) : Prop := match o with
  | none => ∀ y ∈ l, ¬ Rt y.a
  | some x => x ∈ l ∧ Rt x.a ∧ ∀ y ∈ l, Rt y.a → ¬ lt x.a y.a
theorem G_step {l : List Bpm} {o : Option Bpm} (x : Bpm) (h : G l o) : G (l ++ [x]) (cs o x) := by
  cases o with
  | none =>
    have h : ∀ y ∈ l, ¬ Rt y.a := h
    show G (l ++ [x]) (if Rt x.a then some x else none)
    split
    · rename_i hx
      refine ⟨by simp, hx, fun y hy hr => ?_⟩
      rcases List.mem_append.1 hy with q | q
      · exact absurd hr (h y q)
      · rw [List.mem_singleton.1 q]; exact lt_irr _
    · rename_i hx
      intro y hy
      rcases List.mem_append.1 hy with q | q
      · exact h y q
      · rw [List.mem_singleton.1 q]; exact hx
  | some z =>
    obtain ⟨h1, h2, h3⟩ : z ∈ l ∧ Rt z.a ∧ ∀ y ∈ l, Rt y.a → ¬ lt z.a y.a := h
    show G (l ++ [x]) (if Rt x.a ∧ lt z.a x.a then some x else some z)
    split
    · rename_i hx
      refine ⟨by simp, hx.1, fun y hy hr => ?_⟩
      rcases List.mem_append.1 hy with q | q
      · have := h3 y q hr
        exact fun k => this (lt_trans hx.2 k)
      · rw [List.mem_singleton.1 q]; exact lt_irr _
    · rename_i hx
      refine ⟨by simp [h1], h2, fun y hy hr => ?_⟩
      rcases List.mem_append.1 hy with q | q
      · exact h3 y q hr
      · rw [List.mem_singleton.1 q] at hr ⊢
        exact fun k => hx ⟨hr, k⟩
theorem G_fold : ∀ (l pre : List Bpm) (o : Option Bpm), G pre o → G (pre ++ l) (l.foldl cs o)
  | [], pre, o, h => by simpa using h
  | x :: r, pre, o, h => by
    have := G_fold r (pre ++ [x]) (cs o x) (G_step x h)
    rw [List.append_assoc] at this
    exact this
theorem ch_told (l : List Bpm) : G l (ch l) := by
  have h0 : G [] none := fun y hy => by cases hy
  exact G_fold l [] none h0
/-- Two strict majorities of one row meet. -/
theorem meet : ∀ (a b : List Bool), a.length = b.length → a.length < a.count true + b.count true → ∃ k : Nat, a[k]? = some true ∧ b[k]? = some true
  | [], [], _, h => by simp at h
  | x :: r, y :: s, hl, h => by
    by_cases hxy : x = true ∧ y = true
    · exact ⟨0, by rw [hxy.1]; rfl, by rw [hxy.2]; rfl⟩
    · have hl' : r.length = s.length := by simpa using hl
      have hc : r.length < r.count true + s.count true := by
        rw [List.count_cons, List.count_cons, List.length_cons] at h
        cases x <;> cases y <;> simp at h hxy <;> omega
      obtain ⟨k, h1, h2⟩ := meet r s hl' hc
      exact ⟨k + 1, by simpa using h1, by simpa using h2⟩
theorem most_meet {a b : List Bool} (hl : a.length = b.length) (ha : most a) (hb : most b) : ∃ k : Nat, a[k]? = some true ∧ b[k]? = some true := by
  unfold most at ha hb
  exact meet a b hl (by omega)

/-- What stays true of n voters and the tries. -/
structure Inv (n : Nat) (vs : List Bvo) (ts : List Btr) : Prop where
  vl : vs.length = n
  tl : ∀ (i : Nat) (t : Btr), ts[i]? = some t → Rt t.b ∧ t.said.length = n ∧ t.yes.length = n
  ds : ∀ (i j : Nat) (t u : Btr), ts[i]? = some t → ts[j]? = some u → t.b = u.b → i = j
  va : ∀ (k : Nat) (x : Bvo), vs[k]? = some x → ¬ lt x.p x.a ∧ (x.a = ⟨0, 0⟩ ∨ ∃ (i : Nat) (t : Btr), ts[i]? = some t ∧ t.b = x.a ∧ t.has = true ∧ t.v = x.v)
  ys : ∀ (i : Nat) (t : Btr) (k : Nat), ts[i]? = some t → t.yes[k]? = some true → t.has = true ∧ ∀ x : Bvo, vs[k]? = some x → ¬ lt x.a t.b
  sd : ∀ (i : Nat) (t : Btr) (k : Nat), ts[i]? = some t → t.said[k]? = some true → ∀ x : Bvo, vs[k]? = some x → ¬ lt x.p t.b
  pm : ∀ (i : Nat) (t : Btr) (k : Nat), ts[i]? = some t → t.said[k]? = some true → ∃ p ∈ t.pm, ∀ (j : Nat) (u : Btr), ts[j]? = some u → u.yes[k]? = some true → lt u.b t.b → ¬ lt p.a u.b
  pa : ∀ (i : Nat) (t : Btr) (p : Bpm), ts[i]? = some t → p ∈ t.pm → p.a = ⟨0, 0⟩ ∨ ∃ (j : Nat) (u : Btr), ts[j]? = some u ∧ u.b = p.a ∧ u.has = true ∧ u.v = p.v ∧ lt u.b t.b
  hv : ∀ (i : Nat) (t : Btr), ts[i]? = some t → t.has = true → most t.said ∧ ∀ p, ch t.pm = some p → t.v = p.v
section
variable {n : Nat} {vs : List Bvo} {ts : List Btr}
/-- What one try has had accepted by a strict majority, each later try asks for. -/
theorem later (h : Inv n vs ts) {i : Nat} {t : Btr} (ht : ts[i]? = some t) (hy : most t.yes) : ∀ (m : Nat) (j : Nat) (u : Btr), key u.b = m → ts[j]? = some u → u.has = true → lt t.b u.b → u.v = t.v := by
  intro m
  induction m using Nat.strongRecOn with
  | _ m ih =>
    intro j u hm hu hh hlt
    obtain ⟨hr, _, hyl⟩ := h.tl i t ht
    obtain ⟨hur, hsl, _⟩ := h.tl j u hu
    obtain ⟨hms, hcv⟩ := h.hv j u hu hh
    obtain ⟨k, k1, k2⟩ := most_meet (by rw [hsl, hyl]) hms hy
    obtain ⟨p, hp, hb⟩ := h.pm j u k hu k1
    have hpt := hb i t ht k2 hlt
    have hz : ∀ q : Bal, ¬ lt q t.b → ¬ q = ⟨0, 0⟩ := fun q hq e => hq (by rw [e]; exact zero_lt hr)
    have hpr : Rt p.a := by
      rcases h.pa j u p hu hp with q | ⟨_, w, hw, e, _⟩
      · exact absurd q (hz _ hpt)
      · rw [← e]; exact (h.tl _ w hw).1
    have hg := ch_told u.pm
    cases hch : ch u.pm with
    | none =>
      rw [hch] at hg
      exact absurd hpr (hg p hp)
    | some q =>
      rw [hch] at hg
      obtain ⟨hq, hqr, hqm⟩ : q ∈ u.pm ∧ Rt q.a ∧ ∀ y ∈ u.pm, Rt y.a → ¬ lt q.a y.a := hg
      have hqt : ¬ lt q.a t.b := le_trans hpt (hqm p hp hpr)
      rw [hcv q hch]
      rcases h.pa j u q hu hq with e | ⟨jw, w, hw, e, hwh, hwv, hwl⟩
      · exact absurd e (hz _ hqt)
      · rw [← hwv]
        by_cases hc : lt t.b w.b
        · exact ih (key w.b) (by rw [← hm]; exact key_lt (h.tl _ w hw).1 hur hwl) jw w rfl hw hwh hc
        · rw [← e] at hqt
          have he : w.b = t.b := tri hqt hc
          have := h.ds jw i w t hw ht he
          subst this
          rw [hw] at ht
          injection ht with ht
          rw [ht]
/-- No two values are ever chosen. -/
theorem one (h : Inv n vs ts) {i j : Nat} {t u : Btr} (ht : ts[i]? = some t) (hu : ts[j]? = some u) (hth : t.has = true) (huh : u.has = true) (hty : most t.yes) (huy : most u.yes) : t.v = u.v := by
  by_cases h1 : lt t.b u.b
  · exact (later h ht hty _ j u rfl hu huh h1).symm
  · by_cases h2 : lt u.b t.b
    · exact later h hu huy _ i t rfl ht hth h2
    · have := h.ds i j t u ht hu (tri h1 h2)
      subst this
      rw [ht] at hu
      injection hu with hu
      rw [hu]
end
end Blt
end Go.Proofs.Ytfganmbjaglmiaa
