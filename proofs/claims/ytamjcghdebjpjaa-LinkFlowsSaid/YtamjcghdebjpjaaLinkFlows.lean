/-
  Once all packets come and both ends tick: one direction's reckoning, from x to y. A round: all that is on its way comes, in order; then both tick.
  Pure: nothing of the program is read.
-/
import Derived.Test.YtamjcghdebjpjaaLinkMath
namespace Go.Proofs.Ytamjcghdebjpjaa
namespace Lnk
/-- All of a list of packets comes, in order: the ends, what y has taken, what is sent for it. -/
def del (x y : L) (T : List ByteArray) (Q : List Pkt) : List Pkt → L × L × List ByteArray × List Pkt
  | [] => (x, y, T, Q)
  | p :: r => if p.fs = x.ms then del x (take y p).1 (tookOf T (take y p)) (wayOf Q (take y p)) r else del (take x p).1 y T (wayOf Q (take x p)) r
theorem del_append (x y : L) (T : List ByteArray) (Q P R : List Pkt) : del x y T Q (P ++ R) = del (del x y T Q P).1 (del x y T Q P).2.1 (del x y T Q P).2.2.1 (del x y T Q P).2.2.2 R := by
  induction P generalizing x y T Q with
  | nil => rfl
  | cons p P ih =>
    by_cases hf : p.fs = x.ms
    · simp only [List.cons_append, del, if_pos hf]
      exact ih ..
    · simp only [List.cons_append, del, if_neg hf]
      exact ih ..
theorem take_keeps (x : L) (p : Pkt) : (take x p).1.ms = x.ms ∧ (take x p).1.mc = x.mc ∧ (take x p).1.ps = x.ps := by
  have hh : (heard x p).ms = x.ms ∧ (heard x p).mc = x.mc ∧ (heard x p).ps = x.ps := by
    unfold heard
    obtain ⟨a1, a2, a3, _, _⟩ := acked_me (meet x p.fc) p
    obtain ⟨m1, m2, m3⟩ := meet_me x p.fc
    exact ⟨a1.trans m1, a2.trans m2, a3.trans m3⟩
  unfold take
  split
  · exact ⟨rfl, rfl, rfl⟩
  split
  · exact hh
  split
  · exact hh
  · exact ⟨rfl, rfl, rfl⟩
/-- y takes a packet of x's: what becomes of T, what is answered. -/
theorem Half.takes {x y : L} {way : List Pkt} {S T : List ByteArray} (h : Half x y way S T) {p : Pkt} (hp : p ∈ way) (hf : p.fs = x.ms) :
    (take y p).1.pc = 1 ∧ T.length ≤ (tookOf T (take y p)).length ∧
    (p.seq < 1 → tookOf T (take y p) = T ∧ (take y p).2.2.2.2 = false) ∧ (p.tc = 0 → tookOf T (take y p) = T) ∧
    (1 ≤ p.seq → (take y p).2.2.2.2 = true ∧ ∃ q, (take y p).2.2.2.1 = q ∧ q.fs = y.ms ∧ q.tc = 1 ∧ q.seq = 0 ∧ q.ack = (tookOf T (take y p)).length) ∧
    (1 ≤ p.seq → p.tc = 1 → p.seq ≤ T.length + 1 → p.seq ≤ (tookOf T (take y p)).length) := by
  obtain ⟨f1, f2, _⟩ := h.who p hp
  obtain ⟨e1, e2, e3, e4, e5⟩ := heard_is (p := p) h.yp f1
  have hg : (heard y p).got = T.length := by
    rw [e5]
    split
    · rename_i h0; rw [h.y0 h0]; rfl
    · exact h.got
  unfold take tookOf
  rw [if_neg (h.not_deaf hp hf)]
  by_cases hs : p.seq < 1
  · simp only [if_pos hs]
    exact ⟨e4, by simp, fun _ => ⟨by simp, trivial⟩, fun _ => by simp, fun h => by omega, fun h => by omega⟩
  · simp only [if_neg hs]
    by_cases ht : p.tc = 0 ∨ p.seq - 1 ≠ (heard y p).got
    · simp only [if_pos ht]
      refine ⟨e4, by simp, fun h => absurd h hs, fun _ => by simp, fun _ => ⟨trivial, _, rfl, e1, e4, rfl, by simp [pkt, hg]⟩, fun _ h1 h2 => ?_⟩
      simp
      omega
    · simp only [if_neg ht]
      refine ⟨e4, by simp, fun h => absurd h hs, fun h => absurd (Or.inl h) ht, fun _ => ⟨trivial, _, rfl, rfl, e4, rfl, ?_⟩, fun _ _ _ => ?_⟩
      · simp [pkt]; omega
      · simp; omega
/-- x hears a packet of y's. -/
theorem Half.hearsMore {x y : L} {way : List Pkt} {S T : List ByteArray} (h : Half x y way S T) {p : Pkt} (hp : p ∈ way) (hf : p.fs = y.ms) :
    (take x p).1.pc = 1 ∧ x.base ≤ (take x p).1.base ∧ (p.tc = 1 → p.ack ≤ (take x p).1.base - 1) ∧
    (x.pc = 1 → (take x p).1.base = x.base → (take x p).1.age = x.age) ∧ ((take x p).1.age = x.age ∨ (take x p).1.age = 0) ∧
    ((take x p).2.2.2.2 = true → (take x p).2.2.2.1.fs = x.ms ∧ (take x p).2.2.2.1.seq = 0) := by
  obtain ⟨f1, f2, f3⟩ := h.who p hp
  obtain ⟨m1, m2, m3, m4, m5⟩ := h.me
  have hk := h.acks p hp hf
  have hnd : ¬ deaf x p := by
    have hts : p.ts = x.ms := by
      rcases f3 with f3 | f3
      · exact absurd (f3.1.symm.trans hf) m5
      · exact f3.2
    have hxp := h.xp
    unfold deaf
    rw [hts, hf, m1, m3, f1]
    omega
  obtain ⟨e1, e2, e3, e4, e5⟩ := heard_is (p := p) h.xp f1
  obtain ⟨o1, o2, _, _⟩ := meet_one h.xp
  have hb := h.b1
  have hpre := h.pre.length_le
  have hbt := h.bT
  have hol : x.out.length = S.length - (x.base - 1).toNat := by rw [h.out, List.length_drop]
  have key : x.base ≤ (heard x p).base ∧ (p.tc = 1 → p.ack ≤ (heard x p).base - 1) ∧ (x.pc = 1 → (heard x p).base = x.base → (heard x p).age = x.age) ∧ ((heard x p).age = x.age ∨ (heard x p).age = 0) := by
    have ham : (x.pc = 1 → (meet x 1).age = x.age) ∧ ((meet x 1).age = x.age ∨ (meet x 1).age = 0) := by
      unfold meet
      rcases h.xp with h0 | h0
      · rw [h0]; simp
      · rw [h0]; simp
    unfold heard acked
    rw [f1]
    split
    · rename_i hc
      obtain ⟨_, c2, c3⟩ := hc
      rw [o2] at c2 c3
      refine ⟨by show x.base ≤ p.ack + 1; omega, fun _ => by show p.ack ≤ p.ack + 1 - 1; omega, fun _ hbe => ?_, .inr rfl⟩
      have : p.ack + 1 = x.base := hbe
      omega
    · rename_i hc
      refine ⟨by rw [o2]; exact Int.le_refl _, fun h1 => ?_, fun h1 _ => ham.1 h1, ham.2⟩
      rw [o1, o2] at hc
      rw [o2]
      have : ¬ (x.base ≤ p.ack ∧ p.ack - x.base < x.out.length) := fun hh => hc ⟨by omega, hh.1, hh.2⟩
      omega
  obtain ⟨k1, k2, k3, k4⟩ := key
  unfold take
  rw [if_neg hnd]
  split
  · exact ⟨e4, k1, k2, fun _ hb' => k3 ‹_› hb', k4, fun hh => by cases hh⟩
  split
  · exact ⟨e4, k1, k2, fun _ hb' => k3 ‹_› hb', k4, fun _ => ⟨e1, rfl⟩⟩
  · exact ⟨e4, k1, k2, fun _ hb' => k3 ‹_› hb', k4, fun _ => ⟨rfl, rfl⟩⟩
theorem wayOf_app (P Q : List Pkt) (r : L × ByteArray × Bool × Pkt × Bool) : wayOf (P ++ Q) r = P ++ wayOf Q r := by
  unfold wayOf
  split
  · rw [List.append_assoc]
  · rfl
/-- From whom a packet is. -/
theorem Half.from {x y : L} {way : List Pkt} {S T : List ByteArray} (h : Half x y way S T) {p : Pkt} (hp : p ∈ way) : p.fs = x.ms ∨ p.fs = y.ms := by
  rcases (h.who p hp).2.2 with h1 | h1
  · exact .inl h1.1
  · exact .inr h1.1
/-- All of it comes: what is known of one direction is known still. -/
theorem Half.comesAll : ∀ (P : List Pkt) {x y : L} {Q : List Pkt} {S T : List ByteArray}, Half x y (P ++ Q) S T →
    Half (del x y T Q P).1 (del x y T Q P).2.1 (del x y T Q P).2.2.2 S (del x y T Q P).2.2.1 ∧ (del x y T Q P).1.ms = x.ms ∧ (del x y T Q P).2.1.ms = y.ms
  | [], _, _, _, _, _, h => ⟨h, rfl, rfl⟩
  | p :: P, x, y, Q, S, T, h => by
    have hp : p ∈ p :: (P ++ Q) := List.mem_cons_self
    have hs : ∀ q ∈ P ++ Q, q ∈ p :: (P ++ Q) := fun q hq => List.mem_cons_of_mem _ hq
    by_cases hf : p.fs = x.ms
    · have h1 := Half.comes (way' := P ++ Q) h hp hf hs
      rw [wayOf_app] at h1
      obtain ⟨i1, i2, i3⟩ := Half.comesAll P h1
      simp only [Lnk.del, if_pos hf]
      exact ⟨i1, i2, i3.trans (take_keeps y p).1⟩
    · have hf' : p.fs = y.ms := (Half.from h hp).resolve_left hf
      have h1 := (Half.hears (way' := P ++ Q) h hp hf' hs).1
      rw [wayOf_app] at h1
      obtain ⟨i1, i2, i3⟩ := Half.comesAll P h1
      simp only [Lnk.del, if_neg hf]
      exact ⟨i1, i2.trans (take_keeps x p).1, i3⟩
/-- No data that y would take comes: T stays; each packet that y sends for it carries T's length, and is to a start that is known. -/
theorem Half.quiet : ∀ (P : List Pkt) {x y : L} {Q : List Pkt} {S T : List ByteArray}, Half x y (P ++ Q) S T → (∀ p ∈ P, p.fs = x.ms → p.seq < 1 ∨ p.tc = 0) →
    (del x y T Q P).2.2.1 = T ∧ (∀ q ∈ (del x y T Q P).2.2.2, q.fs = y.ms → q ∈ Q ∨ (q.ack = T.length ∧ q.tc = 1)) ∧ (∀ q ∈ (del x y T Q P).2.2.2, q.fs = x.ms → q ∈ Q ∨ q.seq = 0)
  | [], _, _, _, _, _, _, _ => ⟨rfl, fun q hq _ => .inl hq, fun q hq _ => .inl hq⟩
  | p :: P, x, y, Q, S, T, h, hd => by
    have hp : p ∈ p :: (P ++ Q) := List.mem_cons_self
    have hs : ∀ q ∈ P ++ Q, q ∈ p :: (P ++ Q) := fun q hq => List.mem_cons_of_mem _ hq
    by_cases hf : p.fs = x.ms
    · have h1 := Half.comes (way' := P ++ Q) h hp hf hs
      rw [wayOf_app] at h1
      obtain ⟨_, _, t3, t4, t5, _⟩ := h.takes hp hf
      have hT : tookOf T (take y p) = T := by
        rcases hd p List.mem_cons_self hf with h2 | h2
        · exact (t3 h2).1
        · exact t4 h2
      rw [hT] at h1 t5
      obtain ⟨i1, i2, i3⟩ := Half.quiet P h1 fun q hq hqf => hd q (List.mem_cons_of_mem _ hq) hqf
      simp only [Lnk.del, if_pos hf, hT]
      refine ⟨i1, fun q hq hqf => ?_, fun q hq hqf => ?_⟩
      · rcases i2 q hq (hqf.trans (take_keeps y p).1.symm) with h2 | h2
        · unfold wayOf at h2
          split at h2
          · rename_i h4
            rcases List.mem_append.1 h2 with h2 | h2
            · exact .inl h2
            · rcases Int.lt_or_le p.seq 1 with h3 | h3
              · rw [(t3 h3).2] at h4; cases h4
              · obtain ⟨_, q', e1, _, e3, _, e5⟩ := t5 h3
                have : q = q' := by rw [← e1]; simpa using h2
                subst this
                exact .inr ⟨e5, e3⟩
          · exact .inl h2
        · exact .inr h2
      · rcases i3 q hq hqf with h2 | h2
        · unfold wayOf at h2
          split at h2
          · rename_i h4
            rcases List.mem_append.1 h2 with h2 | h2
            · exact .inl h2
            · rcases Int.lt_or_le p.seq 1 with h3 | h3
              · rw [(t3 h3).2] at h4; cases h4
              · obtain ⟨_, q', e1, _, _, e4, _⟩ := t5 h3
                have : q = q' := by rw [← e1]; simpa using h2
                subst this
                exact .inr e4
          · exact .inl h2
        · exact .inr h2
    · have hf' : p.fs = y.ms := (Half.from h hp).resolve_left hf
      have h1 := (Half.hears (way' := P ++ Q) h hp hf' hs).1
      rw [wayOf_app] at h1
      obtain ⟨_, _, _, _, _, t6⟩ := h.hearsMore hp hf'
      have hm := (take_keeps x p).1
      have hxy := h.me.2.2.2.2
      obtain ⟨i1, i2, i3⟩ := Half.quiet P h1 fun q hq hqf => hd q (List.mem_cons_of_mem _ hq) (hqf.trans hm)
      simp only [Lnk.del, if_neg hf]
      refine ⟨i1, fun q hq hqf => ?_, fun q hq hqf => ?_⟩
      · rcases i2 q hq hqf with h2 | h2
        · unfold wayOf at h2
          split at h2
          · rename_i h4
            rcases List.mem_append.1 h2 with h2 | h2
            · exact .inl h2
            · have : q = (take x p).2.2.2.1 := by simpa using h2
              subst this
              exact absurd ((t6 h4).1.symm.trans hqf) hxy
          · exact .inl h2
        · exact .inr h2
      · rcases i3 q hq (hqf.trans hm.symm) with h2 | h2
        · unfold wayOf at h2
          split at h2
          · rename_i h4
            rcases List.mem_append.1 h2 with h2 | h2
            · exact .inl h2
            · have : q = (take x p).2.2.2.1 := by simpa using h2
              subst this
              exact .inr (t6 h4).2
          · exact .inl h2
        · exact .inr h2
theorem wayOf_sub (Q : List Pkt) (r : L × ByteArray × Bool × Pkt × Bool) : ∀ q ∈ Q, q ∈ wayOf Q r := fun q hq => by
  unfold wayOf
  split
  · exact List.mem_append_left _ hq
  · exact hq
theorem del_sub : ∀ (P : List Pkt) (x y : L) (T : List ByteArray) (Q : List Pkt), ∀ q ∈ Q, q ∈ (del x y T Q P).2.2.2
  | [], _, _, _, _, _, hq => hq
  | p :: P, x, y, T, Q, q, hq => by
    unfold del
    split
    · exact del_sub P _ _ _ _ q (wayOf_sub Q _ q hq)
    · exact del_sub P _ _ _ _ q (wayOf_sub Q _ q hq)
/-- Data of x's, in order, from no further ahead than y has taken: all of it is taken, and acknowledged. -/
theorem Half.loud (x0 : L) : ∀ (R : List ByteArray) (i : Int) {x y : L} {Q : List Pkt} {S T : List ByteArray}, Half x y (again x0 R i ++ Q) S T → x0.ms = x.ms → x0.pc = 1 → x0.base + i - 1 ≤ T.length → 1 ≤ x0.base + i →
    (Lnk.del x y T Q (again x0 R i)).1 = x ∧ x0.base + i - 1 + R.length ≤ (Lnk.del x y T Q (again x0 R i)).2.2.1.length ∧
    (R ≠ [] → ∃ q ∈ (Lnk.del x y T Q (again x0 R i)).2.2.2, q.fs = y.ms ∧ q.tc = 1 ∧ x0.base + i - 1 + R.length ≤ q.ack)
  | [], i, x, y, Q, S, T, _, _, _, h1, _ => ⟨rfl, by simpa [again, Lnk.del] using h1, fun h => absurd rfl h⟩
  | b :: R, i, x, y, Q, S, T, h, hm, hpc, h1, h2 => by
    have e : again x0 (b :: R) i = pkt x0 (x0.base + i) b :: again x0 R (i + 1) := rfl
    rw [e] at h ⊢
    have hp : pkt x0 (x0.base + i) b ∈ pkt x0 (x0.base + i) b :: (again x0 R (i + 1) ++ Q) := List.mem_cons_self
    have hs : ∀ q ∈ again x0 R (i + 1) ++ Q, q ∈ pkt x0 (x0.base + i) b :: (again x0 R (i + 1) ++ Q) := fun q hq => List.mem_cons_of_mem _ hq
    have hf : (pkt x0 (x0.base + i) b).fs = x.ms := hm
    have k1 := Half.comes (way' := again x0 R (i + 1) ++ Q) h hp hf hs
    rw [wayOf_app] at k1
    obtain ⟨_, _, _, _, t5, t6⟩ := h.takes hp hf
    obtain ⟨a1, q, a2, a3, a4, _, a6⟩ := t5 h2
    have a7 := t6 h2 hpc (by show x0.base + i ≤ _; omega)
    have a8 : x0.base + i ≤ (tookOf T (take y (pkt x0 (x0.base + i) b))).length := a7
    obtain ⟨i1, i2, i3⟩ := Half.loud x0 R (i + 1) k1 hm hpc (by omega) (by omega)
    simp only [Lnk.del, if_pos hf, List.length_cons]
    refine ⟨i1, by push_cast; omega, fun _ => ?_⟩
    by_cases hR : R = []
    · subst hR
      refine ⟨q, ?_, a3, a4, by rw [a6]; simp; omega⟩
      have hq : q ∈ wayOf Q (take y (pkt x0 (x0.base + i) b)) := by
        unfold wayOf
        rw [if_pos a1, a2]
        exact List.mem_append_right _ List.mem_cons_self
      exact del_sub _ _ _ _ _ q hq
    · obtain ⟨q', b1, b2, b3, b4⟩ := i3 hR
      exact ⟨q', b1, b2.trans (take_keeps y _).1, b3, by push_cast; omega⟩
/-- What x has heard when all of it has come. -/
theorem Half.listens : ∀ (P : List Pkt) {x y : L} {Q : List Pkt} {S T : List ByteArray}, Half x y (P ++ Q) S T →
    x.base ≤ (Lnk.del x y T Q P).1.base ∧ (x.pc = 1 → (Lnk.del x y T Q P).1.pc = 1) ∧
    (∀ p ∈ P, p.fs = y.ms → (Lnk.del x y T Q P).1.pc = 1 ∧ (p.tc = 1 → p.ack ≤ (Lnk.del x y T Q P).1.base - 1)) ∧
    (x.pc = 1 → (Lnk.del x y T Q P).1.base = x.base → (Lnk.del x y T Q P).1.age = x.age) ∧
    ((∀ p ∈ P, p.fs = x.ms) → (Lnk.del x y T Q P).1 = x) ∧ ((Lnk.del x y T Q P).1.age = x.age ∨ (Lnk.del x y T Q P).1.age = 0)
  | [], _, _, _, _, _, _ => ⟨Int.le_refl _, fun h => h, fun p hp => (by cases hp), fun _ _ => rfl, fun _ => rfl, .inl rfl⟩
  | p :: P, x, y, Q, S, T, h => by
    have hp : p ∈ p :: (P ++ Q) := List.mem_cons_self
    have hs : ∀ q ∈ P ++ Q, q ∈ p :: (P ++ Q) := fun q hq => List.mem_cons_of_mem _ hq
    have hxy := h.me.2.2.2.2
    by_cases hf : p.fs = x.ms
    · have h1 := Half.comes (way' := P ++ Q) h hp hf hs
      rw [wayOf_app] at h1
      obtain ⟨i1, i2, i3, i4, i5, i6⟩ := Half.listens P h1
      simp only [Lnk.del, if_pos hf]
      refine ⟨i1, i2, fun q hq hqf => ?_, i4, fun hall => i5 fun q hq => hall q (List.mem_cons_of_mem _ hq), i6⟩
      rcases List.mem_cons.1 hq with rfl | hq
      · exact absurd (hf.symm.trans hqf) hxy
      · exact i3 q hq (hqf.trans (take_keeps y p).1.symm)
    · have hf' : p.fs = y.ms := (Half.from h hp).resolve_left hf
      have h1 := (Half.hears (way' := P ++ Q) h hp hf' hs).1
      rw [wayOf_app] at h1
      obtain ⟨t1, t2, t3, t4, t5, _⟩ := h.hearsMore hp hf'
      obtain ⟨i1, i2, i3, i4, i5, i6⟩ := Half.listens P h1
      simp only [Lnk.del, if_neg hf]
      refine ⟨by omega, fun _ => i2 t1, fun q hq hqf => ?_, fun hx hb => ?_, fun hall => absurd (hall p List.mem_cons_self) hf, ?_⟩
      · rcases List.mem_cons.1 hq with rfl | hq
        · exact ⟨i2 t1, fun htc => by have := t3 htc; omega⟩
        · exact i3 q hq hqf
      · have hb1 : (take x p).1.base = x.base := by omega
        exact (i4 t1 (by omega)).trans (t4 hx hb1)
      · rcases i6 with i6 | i6
        · rw [i6]; exact t5
        · exact .inr i6
end Lnk
end Go.Proofs.Ytamjcghdebjpjaa
