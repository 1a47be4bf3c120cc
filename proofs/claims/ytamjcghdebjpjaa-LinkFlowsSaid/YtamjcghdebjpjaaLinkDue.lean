/-
  How many calm rounds it takes until all that x has sent is taken, and acknowledged.
  Pure: nothing of the program is read.
-/
import Derived.Test.YtamjcghdebjpjaaLinkFlows
set_option linter.unusedSimpArgs false
set_option linter.unusedVariables false
namespace Go.Proofs.Ytamjcghdebjpjaa
namespace Lnk
/-- What x says while packets come are acknowledgements. -/
theorem Half.mute : ∀ (P : List Pkt) {x y : L} {Q : List Pkt} {S T : List ByteArray}, Half x y (P ++ Q) S T → ∀ q ∈ (del x y T Q P).2.2.2, q.fs = x.ms → q ∈ Q ∨ q.seq = 0
  | [], _, _, _, _, _, _, _, hq, _ => .inl hq
  | p :: P, x, y, Q, S, T, h, q, hq, hqf => by
    have hp : p ∈ p :: (P ++ Q) := List.mem_cons_self
    have hs : ∀ q ∈ P ++ Q, q ∈ p :: (P ++ Q) := fun q hq => List.mem_cons_of_mem _ hq
    have hxy := h.me.2.2.2.2
    by_cases hf : p.fs = x.ms
    · have h1 := Half.comes (way' := P ++ Q) h hp hf hs
      rw [wayOf_app] at h1
      obtain ⟨_, _, t3, _, t5, _⟩ := h.takes hp hf
      simp only [Lnk.del, if_pos hf] at hq
      rcases Half.mute P h1 q hq hqf with h2 | h2
      · unfold wayOf at h2
        split at h2
        · rename_i h4
          rcases List.mem_append.1 h2 with h2 | h2
          · exact .inl h2
          · rcases Int.lt_or_le p.seq 1 with h3 | h3
            · rw [(t3 h3).2] at h4; cases h4
            · obtain ⟨_, q', e1, e2, _⟩ := t5 h3
              have : q = q' := by rw [← e1]; simpa using h2
              subst this
              exact absurd (hqf.symm.trans e2) hxy
        · exact .inl h2
      · exact .inr h2
    · have hf' : p.fs = y.ms := (Half.from h hp).resolve_left hf
      have h1 := (Half.hears (way' := P ++ Q) h hp hf' hs).1
      rw [wayOf_app] at h1
      obtain ⟨_, _, _, _, _, t6⟩ := h.hearsMore hp hf'
      simp only [Lnk.del, if_neg hf] at hq
      rcases Half.mute P h1 q hq (hqf.trans (take_keeps x p).1.symm) with h2 | h2
      · unfold wayOf at h2
        split at h2
        · rename_i h4
          rcases List.mem_append.1 h2 with h2 | h2
          · exact .inl h2
          · have : q = (take x p).2.2.2.1 := by simpa using h2
            subst this
            exact .inr (t6 h4).2
        · exact .inl h2
      · exact .inr h2
/-- The last of y's answers tells what y has taken; where y hasn't answered, it has taken nothing. -/
theorem Half.tells : ∀ (P : List Pkt) {x y : L} {Q : List Pkt} {S T : List ByteArray}, Half x y (P ++ Q) S T →
    ((del x y T Q P).2.2.1 = T ∧ ∀ q ∈ (del x y T Q P).2.2.2, q.fs = y.ms → q ∈ Q) ∨ ∃ q ∈ (del x y T Q P).2.2.2, q.fs = y.ms ∧ q.tc = 1 ∧ q.ack = ((del x y T Q P).2.2.1.length : Nat)
  | [], _, _, _, _, _, _ => .inl ⟨rfl, fun _ hq _ => hq⟩
  | p :: P, x, y, Q, S, T, h => by
    have hp : p ∈ p :: (P ++ Q) := List.mem_cons_self
    have hs : ∀ q ∈ P ++ Q, q ∈ p :: (P ++ Q) := fun q hq => List.mem_cons_of_mem _ hq
    have hxy := h.me.2.2.2.2
    by_cases hf : p.fs = x.ms
    · have h1 := Half.comes (way' := P ++ Q) h hp hf hs
      rw [wayOf_app] at h1
      obtain ⟨_, _, t3, _, t5, _⟩ := h.takes hp hf
      have hm := (take_keeps y p).1
      simp only [Lnk.del, if_pos hf]
      rcases Half.tells P h1 with ⟨h2, h3⟩ | ⟨q, h2, h3, h4, h5⟩
      · rcases Int.lt_or_le p.seq 1 with hs1 | hs1
        · obtain ⟨e1, e2⟩ := t3 hs1
          refine .inl ⟨h2.trans e1, fun q hq hqf => ?_⟩
          have h4 := h3 q hq (hqf.trans hm.symm)
          unfold wayOf at h4
          rw [e2] at h4
          simpa using h4
        · obtain ⟨a1, q, a2, a3, a4, _, a6⟩ := t5 hs1
          refine .inr ⟨q, del_sub _ _ _ _ _ q ?_, a3, a4, ?_⟩
          · unfold wayOf
            rw [if_pos a1, a2]
            exact List.mem_append_right _ List.mem_cons_self
          · rw [h2]; exact a6
      · exact .inr ⟨q, h2, h3.trans hm, h4, h5⟩
    · have hf' : p.fs = y.ms := (Half.from h hp).resolve_left hf
      have h1 := (Half.hears (way' := P ++ Q) h hp hf' hs).1
      rw [wayOf_app] at h1
      obtain ⟨_, _, _, _, _, t6⟩ := h.hearsMore hp hf'
      simp only [Lnk.del, if_neg hf]
      rcases Half.tells P h1 with ⟨h2, h3⟩ | ⟨q, h2, h3, h4, h5⟩
      · refine .inl ⟨h2, fun q hq hqf => ?_⟩
        have h4 := h3 q hq hqf
        unfold wayOf at h4
        split at h4
        · rename_i h5
          rcases List.mem_append.1 h4 with h4 | h4
          · exact h4
          · have : q = (take x p).2.2.2.1 := by simpa using h4
            subst this
            exact absurd ((t6 h5).1.symm.trans hqf) hxy
        · exact h4
      · exact .inr ⟨q, h2, h3, h4, h5⟩
/-- Data of x's is answered. -/
theorem Half.answers : ∀ (P : List Pkt) {x y : L} {Q : List Pkt} {S T : List ByteArray}, Half x y (P ++ Q) S T → (∃ p ∈ P, p.fs = x.ms ∧ 1 ≤ p.seq) → ∃ q ∈ (del x y T Q P).2.2.2, q.fs = y.ms
  | [], _, _, _, _, _, _, h => by obtain ⟨p, hp, _⟩ := h; cases hp
  | p :: P, x, y, Q, S, T, h, hx => by
    have hp : p ∈ p :: (P ++ Q) := List.mem_cons_self
    have hs : ∀ q ∈ P ++ Q, q ∈ p :: (P ++ Q) := fun q hq => List.mem_cons_of_mem _ hq
    have hxy := h.me.2.2.2.2
    by_cases hf : p.fs = x.ms
    · have h1 := Half.comes (way' := P ++ Q) h hp hf hs
      rw [wayOf_app] at h1
      obtain ⟨_, _, _, _, t5, _⟩ := h.takes hp hf
      have hm := (take_keeps y p).1
      simp only [Lnk.del, if_pos hf]
      rcases Int.lt_or_le p.seq 1 with hs1 | hs1
      · obtain ⟨r, hr, hr1, hr2⟩ := hx
        rcases List.mem_cons.1 hr with rfl | hr
        · omega
        · obtain ⟨q, h2, h3⟩ := Half.answers P h1 ⟨r, hr, hr1, hr2⟩
          exact ⟨q, h2, h3.trans hm⟩
      · obtain ⟨a1, q, a2, a3, _⟩ := t5 hs1
        refine ⟨q, del_sub _ _ _ _ _ q ?_, a3⟩
        unfold wayOf
        rw [if_pos a1, a2]
        exact List.mem_append_right _ List.mem_cons_self
    · have hf' : p.fs = y.ms := (Half.from h hp).resolve_left hf
      have h1 := (Half.hears (way' := P ++ Q) h hp hf' hs).1
      rw [wayOf_app] at h1
      simp only [Lnk.del, if_neg hf]
      obtain ⟨r, hr, hr1, hr2⟩ := hx
      rcases List.mem_cons.1 hr with rfl | hr
      · exact absurd hr1 hf
      · exact Half.answers P h1 ⟨r, hr, hr1.trans (take_keeps x p).1.symm, hr2⟩
/-- What y takes only grows. -/
theorem Half.grows : ∀ (P : List Pkt) {x y : L} {Q : List Pkt} {S T : List ByteArray}, Half x y (P ++ Q) S T → T.length ≤ (del x y T Q P).2.2.1.length
  | [], _, _, _, _, _, _ => Nat.le_refl _
  | p :: P, x, y, Q, S, T, h => by
    have hp : p ∈ p :: (P ++ Q) := List.mem_cons_self
    have hs : ∀ q ∈ P ++ Q, q ∈ p :: (P ++ Q) := fun q hq => List.mem_cons_of_mem _ hq
    by_cases hf : p.fs = x.ms
    · have h1 := Half.comes (way' := P ++ Q) h hp hf hs
      rw [wayOf_app] at h1
      have t2 := (h.takes hp hf).2.1
      simp only [Lnk.del, if_pos hf]
      exact Nat.le_trans t2 (Half.grows P h1)
    · have hf' : p.fs = y.ms := (Half.from h hp).resolve_left hf
      have h1 := (Half.hears (way' := P ++ Q) h hp hf' hs).1
      rw [wayOf_app] at h1
      simp only [Lnk.del, if_neg hf]
      exact Half.grows P h1
theorem take_age (l : L) (p : Pkt) : (take l p).1.age = l.age ∨ (take l p).1.age = 0 := by
  have hm : (meet l p.fc).age = l.age ∨ (meet l p.fc).age = 0 := by
    unfold meet
    split
    · exact .inl rfl
    split <;> exact .inr rfl
  have hh : (heard l p).age = l.age ∨ (heard l p).age = 0 := by
    unfold heard acked
    split
    · exact .inr rfl
    · exact hm
  unfold take
  split
  · exact .inl rfl
  split
  · exact hh
  split
  · exact hh
  · exact hh
theorem del_ages : ∀ (P : List Pkt) (x y : L) (T : List ByteArray) (Q : List Pkt), 0 ≤ x.age → 0 ≤ y.age → 0 ≤ (del x y T Q P).1.age ∧ 0 ≤ (del x y T Q P).2.1.age
  | [], _, _, _, _, hx, hy => ⟨hx, hy⟩
  | p :: P, x, y, T, Q, hx, hy => by
    unfold del
    split
    · exact del_ages P _ _ _ _ hx (by rcases take_age y p with h | h <;> rw [h]; exact hy; exact Int.le_refl _)
    · exact del_ages P _ _ _ _ (by rcases take_age x p with h | h <;> rw [h]; exact hx; exact Int.le_refl _) hy
theorem del_pre (Q0 : List Pkt) : ∀ (P : List Pkt) (x y : L) (T : List ByteArray) (Q : List Pkt), del x y T (Q0 ++ Q) P = ((del x y T Q P).1, (del x y T Q P).2.1, (del x y T Q P).2.2.1, Q0 ++ (del x y T Q P).2.2.2)
  | [], _, _, _, _ => rfl
  | p :: P, x, y, T, Q => by
    unfold del
    split
    · rw [wayOf_app]; exact del_pre Q0 P _ _ _ _
    · rw [wayOf_app]; exact del_pre Q0 P _ _ _ _
/-- All that x has not had acknowledged is on its way, sent once more. -/
def Full (x : L) (way : List Pkt) : Prop := ∃ P1 P2, way = P1 ++ again x x.out 0 ++ P2
/-- A boundary of calm rounds, behind the first: one direction. -/
structure Shape (x y : L) (way : List Pkt) (S T : List ByteArray) (ret : Int) : Prop where
  h : Half x y way S T
  a0 : 0 ≤ x.age
  a1 : x.age < ret
  dat : (∀ p ∈ way, p.fs = x.ms → p.seq < 1) ∨ (Full x way ∧ ∀ p ∈ way, p.fs = x.ms → p.seq < 1 ∨ p.tc = x.pc)
  ack : (∃ p ∈ way, p.fs = y.ms) → T = [] ∨ ∃ p ∈ way, p.fs = y.ms ∧ p.tc = 1 ∧ p.ack = (T.length : Nat)
theorem again_age (l : L) (v : Int) : ∀ (r : List ByteArray) (i : Int), again ⟨l.ms, l.mc, l.ps, l.pc, l.out, l.base, l.got, v⟩ r i = again l r i
  | [], _ => rfl
  | b :: r, i => by
    unfold again
    rw [again_age l v r (i + 1)]
    rfl
/-- What a tick is. -/
theorem tick_cases (l : L) (ret : Int) (hr : ret ≤ 1000) (h0 : 0 ≤ l.age) : ∃ v, (tick l ret).1 = ⟨l.ms, l.mc, l.ps, l.pc, l.out, l.base, l.got, v⟩ ∧ 0 ≤ v ∧ (1 ≤ ret → v < ret) ∧
    ((l.out = [] ∧ (tick l ret).2 = []) ∨ (l.out ≠ [] ∧ l.age + 1 < ret ∧ v = l.age + 1 ∧ (tick l ret).2 = []) ∨ (l.out ≠ [] ∧ ret ≤ l.age + 1 ∧ v = 0 ∧ (tick l ret).2 = again l l.out 0)) := by
  unfold tick
  by_cases h : l.out = []
  · rw [if_pos h]
    exact ⟨0, rfl, Int.le_refl _, fun h => by omega, .inl ⟨h, rfl⟩⟩
  · rw [if_neg h]
    by_cases h2 : l.age < 1000 ∧ l.age + 1 < ret
    · rw [if_pos h2]
      exact ⟨l.age + 1, rfl, by omega, fun _ => by omega, .inr (.inl ⟨h, h2.2, rfl, rfl⟩)⟩
    · rw [if_neg h2]
      exact ⟨0, rfl, Int.le_refl _, fun h => by omega, .inr (.inr ⟨h, by omega, rfl, rfl⟩)⟩
theorem again_from {l : L} {q : Pkt} {r : List ByteArray} (h : q ∈ again l r 0) : q.fs = l.ms ∧ q.tc = l.pc ∧ q.ack = l.got := by
  obtain ⟨k, b, _, rfl⟩ := again_mem r 0 (by simpa using h)
  exact ⟨rfl, rfl, rfl⟩
/-- A round: all that is on its way comes, then both tick; way' is what is on its way then. -/
structure Rnd (x y : L) (way : List Pkt) (T : List ByteArray) (ret : Int) (x' y' : L) (way' : List Pkt) (T' : List ByteArray) : Prop where
  ex : x' = (tick (del x y T [] way).1 ret).1
  ey : y' = (tick (del x y T [] way).2.1 ret).1
  et : T' = (del x y T [] way).2.2.1
  ew : way' = (del x y T [] way).2.2.2 ++ (tick (del x y T [] way).1 ret).2 ++ (tick (del x y T [] way).2.1 ret).2 ∨
    way' = (del x y T [] way).2.2.2 ++ (tick (del x y T [] way).2.1 ret).2 ++ (tick (del x y T [] way).1 ret).2
theorem Shape.after {x y x' y' : L} {way way' : List Pkt} {S T T' : List ByteArray} {ret : Int} (h : Half x y way S T) (h0 : 0 ≤ x.age) (hy0 : 0 ≤ y.age) (hr : 1 ≤ ret ∧ ret ≤ 5) (hR : Rnd x y way T ret x' y' way' T') : Shape x' y' way' S T' ret := by
  obtain ⟨ex, ey, et, ew⟩ := hR
  have hh : Half x y (way ++ []) S T := by rw [List.append_nil]; exact h
  obtain ⟨c1, c2, c3⟩ := Half.comesAll way hh
  have hmute := Half.mute way hh
  have htell := Half.tells way hh
  obtain ⟨hage, hd0⟩ := del_ages way x y T [] h0 hy0
  generalize del x y T [] way = d at *
  obtain ⟨X, Y, T1, Q⟩ := d
  simp only at *
  subst et
  obtain ⟨v, tx, v0, v1, vc⟩ := tick_cases X ret (by omega) hage
  obtain ⟨u, ty, _, _, uc⟩ := tick_cases Y ret (by omega) hd0
  have hxm : x'.ms = X.ms := by rw [ex, tx]
  have hym : y'.ms = Y.ms := by rw [ey, ty]
  have hne := c1.me.2.2.2.2
  have hH : Half x' y' (Q ++ (tick X ret).2 ++ (tick Y ret).2) S T' := by
    rw [ex, ey]
    refine (c1.tick ret).says ?_ ?_
    · rw [ty]; exact ⟨rfl, rfl, rfl, rfl, rfl⟩
    · intro q hq
      rcases uc with ⟨_, e⟩ | ⟨_, _, _, e⟩ | ⟨_, _, _, e⟩
      · rw [e] at hq; cases hq
      · rw [e] at hq; cases hq
      · rw [e] at hq
        obtain ⟨k, c, _, rfl⟩ := again_mem Y.out 0 (by simpa using hq)
        exact ⟨_, c, rfl⟩
  have hsub : ∀ q ∈ way', q ∈ Q ++ (tick X ret).2 ++ (tick Y ret).2 := by
    intro q hq
    rcases ew with rfl | rfl
    · exact hq
    · simp only [List.mem_append] at hq ⊢
      rcases hq with (hq | hq) | hq
      · exact .inl (.inl hq)
      · exact .inr hq
      · exact .inl (.inr hq)
  have hsub' : ∀ q, q ∈ Q ∨ q ∈ (tick X ret).2 ∨ q ∈ (tick Y ret).2 → q ∈ way' := by
    intro q hq
    rcases ew with rfl | rfl <;> simp only [List.mem_append] <;> rcases hq with hq | hq | hq <;> simp [hq]
  have hYf : ∀ q ∈ (tick Y ret).2, q.fs = Y.ms ∧ q.tc = Y.pc ∧ q.ack = Y.got := by
    intro q hq
    rcases uc with ⟨_, e⟩ | ⟨_, _, _, e⟩ | ⟨_, _, _, e⟩
    · rw [e] at hq; cases hq
    · rw [e] at hq; cases hq
    · rw [e] at hq; exact again_from hq
  have hXf : ∀ q ∈ (tick X ret).2, q.fs = X.ms := by
    intro q hq
    rcases vc with ⟨_, e⟩ | ⟨_, _, _, e⟩ | ⟨_, _, _, e⟩
    · rw [e] at hq; cases hq
    · rw [e] at hq; cases hq
    · rw [e] at hq; exact (again_from hq).1
  refine ⟨hH.sub hsub, by rw [ex, tx]; exact v0, by rw [ex, tx]; exact v1 hr.1, ?_, ?_⟩
  · have hq : ∀ p, p ∈ Q ∨ p ∈ (tick Y ret).2 → p.fs = x'.ms → p.seq < 1 := by
      intro p hp hf
      rcases hp with hp | hp
      · rcases hmute p hp (hf.trans (hxm.trans c2)) with h1 | h1
        · cases h1
        · omega
      · exact absurd ((hYf p hp).1.symm.trans (hf.trans hxm)).symm hne
    rcases vc with ⟨_, e⟩ | ⟨_, _, _, e⟩ | ⟨_, _, _, e⟩
    · refine .inl fun p hp hf => ?_
      have := hsub p hp
      rw [e, List.append_nil] at this
      exact hq p (List.mem_append.1 this) hf
    · refine .inl fun p hp hf => ?_
      have := hsub p hp
      rw [e, List.append_nil] at this
      exact hq p (List.mem_append.1 this) hf
    · refine .inr ?_
      have ha : again x' x'.out 0 = again X X.out 0 := by rw [ex, tx]; exact again_age X v X.out 0
      have hpc : x'.pc = X.pc := by rw [ex, tx]
      refine ⟨?_, fun p hp hf => ?_⟩
      · rw [e] at ew
        rcases ew with rfl | rfl
        · exact ⟨Q, (tick Y ret).2, by rw [ha]⟩
        · exact ⟨Q ++ (tick Y ret).2, [], by rw [ha, List.append_nil]⟩
      · have hp' := hsub p hp
        rcases List.mem_append.1 hp' with hp' | hp'
        · rcases List.mem_append.1 hp' with hp' | hp'
          · exact .inl (hq p (.inl hp') hf)
          · rw [e] at hp'
            exact .inr ((again_from hp').2.1.trans hpc.symm)
        · exact .inl (hq p (.inr hp') hf)
  · rintro ⟨p, hp, hf⟩
    rcases htell with ⟨h1, h2⟩ | ⟨q, h2, h3, h4, h5⟩
    · have hp' := hsub p hp
      rcases List.mem_append.1 hp' with hp' | hp'
      · rcases List.mem_append.1 hp' with hp' | hp'
        · have := h2 p hp' (hf.trans (hym.trans c3))
          cases this
        · exact absurd ((hXf p hp').symm.trans (hf.trans hym)) hne
      · obtain ⟨f1, f2, f3⟩ := hYf p hp'
        rcases c1.yp with h6 | h6
        · exact .inl (c1.y0 h6)
        · exact .inr ⟨p, hp, hf, f2.trans h6, f3.trans c1.got⟩
    · exact .inr ⟨q, hsub' q (.inl h2), h3.trans (c3.symm.trans hym.symm), h4, h5⟩
/-- So many rounds more are enough. -/
def Due (x y : L) (way : List Pkt) (S T : List ByteArray) (ret m : Int) : Prop :=
  x.out = [] ∨ (1 ≤ m ∧ ∃ p ∈ way, p.fs = y.ms ∧ p.tc = 1 ∧ (S.length : Int) ≤ p.ack) ∨ (2 ≤ m ∧ x.pc = 1 ∧ x.out ≠ [] ∧ Full x way) ∨ (x.pc = 1 ∧ x.base - 1 = T.length ∧ 2 + (ret - x.age) ≤ m) ∨
    ((∃ p ∈ way, p.fs = y.ms) ∧ 3 + ret ≤ m) ∨ (x.out ≠ [] ∧ Full x way ∧ 4 + ret ≤ m) ∨ 4 + ret + (ret - x.age) ≤ m
theorem drop_none {S : List ByteArray} {n : Nat} : S.drop n = [] ↔ S.length ≤ n := List.drop_eq_nil_iff
/-- All of it on its way, to a start that is known: y takes all, and says so. -/
theorem Half.full {x y : L} {way : List Pkt} {S T : List ByteArray} (h : Half x y way S T) (hpc : x.pc = 1) (ho : x.out ≠ []) (hF : Full x way) :
    (del x y T [] way).1.out = [] ∨ ∃ q ∈ (del x y T [] way).2.2.2, q.fs = y.ms ∧ q.tc = 1 ∧ (S.length : Int) ≤ q.ack := by
  obtain ⟨P1, P2, rfl⟩ := hF
  have hh : Half x y ((P1 ++ again x x.out 0 ++ P2) ++ []) S T := by rw [List.append_nil]; exact h
  have hlis := (Half.listens _ hh).2.2.1
  obtain ⟨c1, _, _⟩ := Half.comesAll _ hh
  have hb := h.b1
  have hbT := h.bT
  have hpre := h.pre.length_le
  have hol : x.out.length = S.length - (x.base - 1).toNat := by rw [h.out, List.length_drop]
  -- what stands ahead
  have h1 : Half x y (P1 ++ (again x x.out 0 ++ P2)) S T := by rw [← List.append_assoc]; exact h
  obtain ⟨d1, d2, d3⟩ := Half.comesAll P1 h1
  have hg := Half.grows P1 h1
  have e1 := del_pre (again x x.out 0 ++ P2) P1 x y T []
  rw [List.append_nil] at e1
  rw [e1] at d1 d2 d3 hg
  simp only at d1 d2 d3 hg
  have e2 : (del x y T [] (P1 ++ again x x.out 0 ++ P2)) = del (del x y T [] P1).1 (del x y T [] P1).2.1 (del x y T [] P1).2.2.1 (del x y T [] P1).2.2.2 (again x x.out 0 ++ P2) := by
    rw [List.append_assoc]; exact del_append x y T [] P1 _
  have e3 := del_append (del x y T [] P1).1 (del x y T [] P1).2.1 (del x y T [] P1).2.2.1 (del x y T [] P1).2.2.2 (again x x.out 0) P2
  rw [e2, e3] at hlis c1 ⊢
  generalize del x y T [] P1 = d at *
  obtain ⟨X, Y, T1, Q1⟩ := d
  simp only at *
  have h2 : Half X Y (again x x.out 0 ++ (P2 ++ Q1)) S T1 := by rw [← List.append_assoc]; exact d1
  obtain ⟨_, _, l3⟩ := Half.loud x x.out 0 h2 d2.symm hpc (by omega) (by omega)
  obtain ⟨q, q1, q2, q3, q4⟩ := l3 ho
  rw [del_pre P2] at q1
  simp only at q1
  rcases List.mem_append.1 q1 with q1 | q1
  · left
    have hk := (hlis q (List.mem_append_right _ q1) (q2.trans d3)).2 q3
    rw [c1.out, drop_none]
    omega
  · right
    exact ⟨q, del_sub _ _ _ _ _ q q1, q2.trans d3, q3, by omega⟩
theorem Due.next {x y x' y' : L} {way way' : List Pkt} {S T T' : List ByteArray} {ret m : Int} (h : Shape x y way S T ret) (hy0 : 0 ≤ y.age) (hr : 1 ≤ ret ∧ ret ≤ 5) (hR : Rnd x y way T ret x' y' way' T') (hD : Due x y way S T ret (m + 1)) : Due x' y' way' S T' ret m := by
  have hS := Shape.after h.h h.a0 hy0 hr hR
  obtain ⟨ex, ey, et, ew⟩ := hR
  have hh : Half x y (way ++ []) S T := by rw [List.append_nil]; exact h.h
  obtain ⟨c1, c2, c3⟩ := Half.comesAll way hh
  obtain ⟨l1, l2, l3, l4, l5, _⟩ := Half.listens way hh
  have hfull := Half.full h.h
  have hquiet := Half.quiet way hh
  have hans := Half.answers way hh
  obtain ⟨hage, hd0⟩ := del_ages way x y T [] h.a0 hy0
  have hout := h.h.out
  have hb1 := h.h.b1
  have hbT := h.h.bT
  have ha1 := h.a1
  have ha0 := h.a0
  have hdat := h.dat
  have hack := h.ack
  have hfrom : ∀ p ∈ way, p.fs = x.ms ∨ p.fs = y.ms := fun p hp => Half.from h.h hp
  have hpcs := h.h.xp
  generalize del x y T [] way = d at *
  obtain ⟨X, Y, T1, Q⟩ := d
  simp only at *
  subst et
  obtain ⟨v, tx, v0, v1, vc⟩ := tick_cases X ret (by omega) hage
  obtain ⟨u, ty, _, _, uc⟩ := tick_cases Y ret (by omega) hd0
  have xo : x'.out = X.out := by rw [ex, tx]
  have xp : x'.pc = X.pc := by rw [ex, tx]
  have xb : x'.base = X.base := by rw [ex, tx]
  have xv : x'.age = v := by rw [ex, tx]
  have hym : y'.ms = y.ms := by rw [ey, ty]; exact c3
  have hQ : ∀ q ∈ Q, q ∈ way' := by
    intro q hq
    rcases ew with rfl | rfl <;> simp only [List.mem_append] <;> simp [hq]
  have hco := c1.out
  have hcb := c1.bT
  have hcpre := c1.pre.length_le
  -- all that x has sent is acknowledged
  have done : (S.length : Int) ≤ X.base - 1 → Due x' y' way' S T' ret m := fun hk => by
    refine .inl ?_
    rw [xo, hco, drop_none]
    omega
  have resent : X.out ≠ [] → ret ≤ X.age + 1 → Full x' way' := fun h1 h2 => by
    rcases vc with ⟨e, _⟩ | ⟨_, e, _⟩ | ⟨_, _, _, e⟩
    · exact absurd e h1
    · omega
    · have ha : again x' x'.out 0 = again X X.out 0 := by rw [ex, tx]; exact again_age X v X.out 0
      rw [e] at ew
      rcases ew with rfl | rfl
      · exact ⟨Q, (tick Y ret).2, by rw [ha]⟩
      · exact ⟨Q ++ (tick Y ret).2, [], by rw [ha, List.append_nil]⟩
  -- all of it is on its way, to a start that is known
  have f1 : 1 ≤ m → x.pc = 1 → x.out ≠ [] → Full x way → Due x' y' way' S T' ret m := fun hm h1 h2 h3 => by
    rcases hfull h1 h2 h3 with h4 | ⟨q, q1, q2, q3, q4⟩
    · exact .inl (xo.trans h4)
    · exact .inr (.inl ⟨hm, q, hQ q q1, q2.trans hym.symm, q3, q4⟩)
  -- none of it that y takes
  have still : ¬ (x.pc = 1 ∧ x.out ≠ [] ∧ Full x way) → x.out ≠ [] → T' = T := fun h1 h2 => by
    refine (hquiet fun p hp hf => ?_).1
    rcases hdat with h3 | ⟨h3, h4⟩
    · exact .inl (h3 p hp hf)
    · rcases h4 p hp hf with h5 | h5
      · exact .inl h5
      · rcases hpcs with h6 | h6
        · exact .inr (h5.trans h6)
        · exact absurd ⟨h6, h2, h3⟩ h1
  -- y has been heard
  have heard : 2 + ret ≤ m → X.pc = 1 → X.base - 1 = (T'.length : Nat) → Due x' y' way' S T' ret m := fun hm h1 h2 =>
    .inr (.inr (.inr (.inl ⟨xp.trans h1, by rw [xb]; exact h2, by rw [xv]; omega⟩)))
  by_cases ho : x.out = []
  · rw [hout, drop_none] at ho
    exact done (by omega)
  have caseY : (∃ p ∈ way, p.fs = y.ms) → 3 + ret ≤ m + 1 → Due x' y' way' S T' ret m := fun hp hm => by
    by_cases hf : x.pc = 1 ∧ x.out ≠ [] ∧ Full x way
    · exact f1 (by omega) hf.1 hf.2.1 hf.2.2
    · have eT := still hf ho
      have hk := hack hp
      obtain ⟨p, hp1, hp2⟩ := hp
      obtain ⟨k1, _⟩ := l3 p hp1 hp2
      refine heard (by omega) k1 ?_
      rcases hk with h3 | ⟨q, q1, q2, q3, q4⟩
      · rw [eT] at hcb ⊢
        rw [h3] at hcb ⊢
        simp only [List.length_nil] at hcb ⊢
        omega
      · have := (l3 q q1 q2).2 q3
        rw [eT] at hcb ⊢
        omega
  have caseF : x.out ≠ [] → Full x way → 4 + ret ≤ m + 1 → Due x' y' way' S T' ret m := fun h1 h2 hm => by
    by_cases hp1 : x.pc = 1
    · exact f1 (by omega) hp1 h1 h2
    · obtain ⟨P1, P2, rfl⟩ := h2
      have : ∃ p ∈ P1 ++ again x x.out 0 ++ P2, p.fs = x.ms ∧ 1 ≤ p.seq := by
        match hx : x.out, h1 with
        | b :: r, _ =>
          refine ⟨pkt x (x.base + 0) b, ?_, rfl, by show 1 ≤ x.base + 0; omega⟩
          simp [again]
      obtain ⟨q, q1, q2⟩ := hans this
      exact .inr (.inr (.inr (.inr (.inl ⟨⟨q, hQ q q1, q2.trans hym.symm⟩, by omega⟩))))
  rcases hD with h1 | ⟨_, q, q1, q2, q3, q4⟩ | ⟨hm, h1, h2, h3⟩ | ⟨h1, h2, hm⟩ | ⟨h1, hm⟩ | ⟨h1, h2, hm⟩ | hm
  · exact absurd h1 ho
  · exact done (by have := (l3 q q1 q2).2 q3; omega)
  · exact f1 (by omega) h1 h2 h3
  · by_cases hf : x.pc = 1 ∧ x.out ≠ [] ∧ Full x way
    · exact f1 (by omega) hf.1 hf.2.1 hf.2.2
    · have eT := still hf ho
      have k0 := l2 h1
      have k1 : X.base = x.base := by rw [eT] at hcb; omega
      have k2 := l4 h1 k1
      rcases vc with ⟨e, _⟩ | ⟨_, e1, e2, _⟩ | ⟨e0, e1, e2, _⟩
      · exact .inl (xo.trans e)
      · refine .inr (.inr (.inr (.inl ⟨xp.trans k0, by rw [xb, k1, eT]; exact h2, by rw [xv]; omega⟩)))
      · refine .inr (.inr (.inl ⟨by omega, xp.trans k0, by rw [xo]; exact e0, resent e0 (by omega)⟩))
  · exact caseY h1 hm
  · exact caseF h1 h2 hm
  · by_cases hp : ∃ p ∈ way, p.fs = y.ms
    · exact caseY hp (by omega)
    · by_cases hf : Full x way
      · exact caseF ho hf (by omega)
      · have k1 : X = x := l5 fun p hp' => (hfrom p hp').resolve_right fun e => hp ⟨p, hp', e⟩
        rw [k1] at vc xo
        rcases vc with ⟨e, _⟩ | ⟨_, e1, e2, _⟩ | ⟨e0, e1, e2, _⟩
        · exact absurd e ho
        · exact .inr (.inr (.inr (.inr (.inr (.inr (by rw [xv]; omega))))))
        · exact .inr (.inr (.inr (.inr (.inr (.inl ⟨by rw [xo]; exact e0, resent (by rw [k1]; exact e0) (by rw [k1]; exact e1), by omega⟩)))))
end Lnk
end Go.Proofs.Ytamjcghdebjpjaa
