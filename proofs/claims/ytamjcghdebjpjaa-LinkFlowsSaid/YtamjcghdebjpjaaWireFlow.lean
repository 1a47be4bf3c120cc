/-
  Calm rounds of two ends: all that is on its way comes, then both tick; how many it takes until all is taken and acknowledged.
  No condition but those named.
-/
import Derived.Test.YtamjcghdebjpjaaWireFit
import Derived.Test.YtamjcghdebjpjaaLinkDue
set_option linter.unusedSimpArgs false
set_option linter.unusedVariables false
namespace Go.Proofs.Ytamjcghdebjpjaa
namespace Lnk
namespace Wr
/-- All of a list of packets comes, in order. -/
def delW : Wr → List Pkt → Wr
  | x, [] => x
  | x, p :: P => delW (x.take p x.way) P
/-- So many packets come, the first one each time. -/
def comes : Nat → Wr → Wr
  | 0, x => x
  | n + 1, x => comes n (x.come 0)
def withWay (x : Wr) (w : List Pkt) : Wr := ⟨x.a, x.b, w, x.sent, x.back, x.got, x.gotA, x.win, x.ret⟩
theorem take_app (x : Wr) (p : Pkt) (P Q : List Pkt) : x.take p (P ++ Q) = (x.take p Q).withWay (P ++ (x.take p Q).way) := by
  unfold Wr.take
  split
  · unfold withWay
    simp only
    rw [wayOf_app]
  · unfold withWay
    simp only
    rw [wayOf_app]
theorem take_with (x : Wr) (w : List Pkt) (p : Pkt) (l : List Pkt) : (x.withWay w).take p l = x.take p l := rfl
theorem comes_del : ∀ (P : List Pkt) (x : Wr) (Q : List Pkt), x.way = P ++ Q → comes P.length x = delW (x.withWay Q) P
  | [], x, Q, h => by
    have h' : x.way = Q := by rw [h]; rfl
    unfold delW comes withWay
    rw [← h']
    rfl
  | p :: P, x, Q, h => by
    have hc : x.come 0 = x.take p (P ++ Q) := by
      unfold Wr.come
      rw [h]
      rfl
    have hw : ((x.take p Q).withWay (P ++ (x.take p Q).way)).way = P ++ (x.take p Q).way := rfl
    have ih := comes_del P _ _ hw
    rw [List.length_cons]
    show comes P.length (x.come 0) = _
    rw [hc, take_app, ih]
    rfl
/-- A calm round. -/
def round (x : Wr) : Wr := (comes x.way.length x).tickA.tickB
theorem del_ab : ∀ (P : List Pkt) (x : Wr), x.a.ms = 0 → x.b.ms = 1 → (∀ p ∈ P, (p.fs = 0 ∧ p.ts = 1) ∨ (p.fs = 1 ∧ p.ts = 0)) →
    del x.a x.b x.got x.way P = ((delW x P).a, (delW x P).b, (delW x P).got, (delW x P).way) ∧ del x.b x.a x.gotA x.way P = ((delW x P).b, (delW x P).a, (delW x P).gotA, (delW x P).way)
  | [], _, _, _, _ => ⟨rfl, rfl⟩
  | p :: P, x, ha, hb, hw => by
    have hw' : ∀ q ∈ P, (q.fs = 0 ∧ q.ts = 1) ∨ (q.fs = 1 ∧ q.ts = 0) := fun q hq => hw q (List.mem_cons_of_mem _ hq)
    rcases hw p List.mem_cons_self with ⟨h1, h2⟩ | ⟨h1, h2⟩
    · have e : x.take p x.way = ⟨x.a, (Lnk.take x.b p).1, wayOf x.way (Lnk.take x.b p), x.sent, x.back, tookOf x.got (Lnk.take x.b p), x.gotA, x.win, x.ret⟩ := by
        unfold Wr.take
        rw [if_neg (by omega)]
      have ih := del_ab P (x.take p x.way) (by rw [e]; exact ha) (by rw [e]; exact (take_keeps x.b p).1.trans hb) hw'
      unfold delW
      rw [← ih.1, ← ih.2, e]
      constructor
      · rw [del, if_pos (by omega)]
      · rw [del, if_neg (by omega)]
    · have e : x.take p x.way = ⟨(Lnk.take x.a p).1, x.b, wayOf x.way (Lnk.take x.a p), x.sent, x.back, x.got, tookOf x.gotA (Lnk.take x.a p), x.win, x.ret⟩ := by
        unfold Wr.take
        rw [if_pos h2]
      have ih := del_ab P (x.take p x.way) (by rw [e]; exact (take_keeps x.a p).1.trans ha) (by rw [e]; exact hb) hw'
      unfold delW
      rw [← ih.1, ← ih.2, e]
      constructor
      · rw [del, if_neg (by omega)]
      · rw [del, if_pos (by omega)]
theorem delW_keeps : ∀ (P : List Pkt) (x : Wr), (delW x P).sent = x.sent ∧ (delW x P).back = x.back ∧ (delW x P).win = x.win ∧ (delW x P).ret = x.ret
  | [], _ => ⟨rfl, rfl, rfl, rfl⟩
  | p :: P, x => by
    obtain ⟨h1, h2, h3, h4⟩ := delW_keeps P (x.take p x.way)
    have e : (x.take p x.way).sent = x.sent ∧ (x.take p x.way).back = x.back ∧ (x.take p x.way).win = x.win ∧ (x.take p x.way).ret = x.ret := by
      unfold Wr.take
      split <;> exact ⟨rfl, rfl, rfl, rfl⟩
    unfold delW
    exact ⟨h1.trans e.1, h2.trans e.2.1, h3.trans e.2.2.1, h4.trans e.2.2.2⟩
theorem Fifo.comes {x : Wr} : ∀ (n : Nat) {x : Wr}, Fifo x → Fifo (comes n x)
  | 0, _, h => h
  | n + 1, _, h => Fifo.comes (x := x) n (h.come 0)
/-- A round, seen in each direction. -/
theorem Fifo.rnd {x : Wr} (h : Fifo x) : Rnd x.a x.b x.way x.got x.ret x.round.a x.round.b x.round.way x.round.got ∧ Rnd x.b x.a x.way x.gotA x.ret x.round.b x.round.a x.round.way x.round.gotA ∧ x.round.sent = x.sent ∧ x.round.back = x.back ∧ x.round.ret = x.ret := by
  have hc : Wr.comes x.way.length x = delW (x.withWay []) x.way := comes_del x.way x [] (by rw [List.append_nil])
  have hw : ∀ p ∈ x.way, (p.fs = 0 ∧ p.ts = 1) ∨ (p.fs = 1 ∧ p.ts = 0) := fun p hp => by
    have := (h.inv.ab.who p hp).2.2
    have ha := h.ma
    have hb := h.mb
    omega
  obtain ⟨h1, h2⟩ := del_ab x.way (x.withWay []) h.ma h.mb hw
  obtain ⟨k1, k2, k3, k4⟩ := delW_keeps x.way (x.withWay [])
  have h1' : del x.a x.b x.got [] x.way = _ := h1
  have h2' : del x.b x.a x.gotA [] x.way = _ := h2
  unfold round
  rw [hc]
  generalize delW (x.withWay []) x.way = z at *
  have kr : z.ret = x.ret := k4
  refine ⟨⟨?_, ?_, ?_, .inl ?_⟩, ⟨?_, ?_, ?_, .inr ?_⟩, k1, k2, k4⟩ <;> first | (rw [h1']; rfl) | (rw [h2']; rfl) | (rw [h1', ← kr]; rfl) | (rw [h2', ← kr]; rfl)
/-- What holds behind i calm rounds. -/
structure Flow (i : Int) (x : Wr) : Prop where
  f : Fifo x
  aa : 0 ≤ x.a.age
  ab : 0 ≤ x.b.age
  r : 1 ≤ x.ret ∧ x.ret ≤ 5
  s : 1 ≤ i → Shape x.a x.b x.way (lastOf x.sent) x.got x.ret ∧ Due x.a x.b x.way (lastOf x.sent) x.got x.ret (5 + 2 * x.ret - i) ∧ Shape x.b x.a x.way x.back x.gotA x.ret ∧ Due x.b x.a x.way x.back x.gotA x.ret (5 + 2 * x.ret - i)
theorem Flow.begin {n m : Nat} {x : Wr} (h : Fifo x) (hf : Fits n m x) : Flow 0 x := ⟨h, hf.a.a0, hf.b.a0, ⟨hf.r1, hf.r5⟩, fun h => by omega⟩
theorem Flow.round {i : Int} {x : Wr} (h : Flow i x) (hi : 0 ≤ i) : Flow (i + 1) x.round := by
  obtain ⟨r1, r2, e1, e2, e3⟩ := h.f.rnd
  have s1 := Shape.after h.f.inv.ab h.aa h.ab h.r r1
  have s2 := Shape.after h.f.inv.ba h.ab h.aa h.r r2
  have ff : Fifo x.round := (Fifo.comes (x := x) x.way.length h.f).tickA.tickB
  refine ⟨ff, s1.a0, s2.a0, by rw [e3]; exact h.r, fun _ => ?_⟩
  rw [e1, e2, e3]
  refine ⟨s1, ?_, s2, ?_⟩
  · by_cases hi : 1 ≤ i
    · obtain ⟨a1, a2, _, _⟩ := h.s hi
      refine Due.next a1 h.ab h.r r1 ?_
      rw [show 5 + 2 * x.ret - (i + 1) + 1 = 5 + 2 * x.ret - i from by omega]
      exact a2
    · have h0 := s1.a0
      exact .inr (.inr (.inr (.inr (.inr (.inr (by omega))))))
  · by_cases hi : 1 ≤ i
    · obtain ⟨_, _, a1, a2⟩ := h.s hi
      refine Due.next a1 h.aa h.r r2 ?_
      rw [show 5 + 2 * x.ret - (i + 1) + 1 = 5 + 2 * x.ret - i from by omega]
      exact a2
    · have h0 := s2.a0
      exact .inr (.inr (.inr (.inr (.inr (.inr (by omega))))))
theorem ended {x y : L} {way : List Pkt} {S T : List ByteArray} {ret m : Int} (h : Shape x y way S T ret) (hD : Due x y way S T ret m) (hr : 1 ≤ ret) (hm : m ≤ 0) : x.out = [] ∧ T = S := by
  have ha := h.a1
  have ho : x.out = [] := by
    rcases hD with h1 | ⟨h1, _⟩ | ⟨h1, _⟩ | ⟨_, _, h1⟩ | ⟨_, h1⟩ | ⟨_, _, h1⟩ | h1
    · exact h1
    all_goals omega
  have hb := h.h.b1
  have hT := h.h.bT
  have h1 := h.h.out
  rw [ho] at h1
  have h2 := drop_none.1 h1.symm
  obtain ⟨R, hR⟩ := h.h.pre
  refine ⟨ho, ?_⟩
  have : R = [] := by
    have := congrArg List.length hR
    rw [List.length_append] at this
    exact List.eq_nil_of_length_eq_zero (by omega)
  rw [← hR, this, List.append_nil]
theorem Flow.ends {i : Int} {x : Wr} (h : Flow i x) (hi : 12 + 2 * x.ret ≤ i) : x.a.out = [] ∧ x.got = lastOf x.sent ∧ x.b.out = [] ∧ x.gotA = x.back := by
  have hr := h.r
  obtain ⟨s1, d1, s2, d2⟩ := h.s (by omega)
  obtain ⟨a1, a2⟩ := ended s1 d1 hr.1 (by omega)
  obtain ⟨b1, b2⟩ := ended s2 d2 hr.1 (by omega)
  exact ⟨a1, a2, b1, b2⟩
theorem come_way (x : Wr) (h : 0 < x.way.length) : x.way.length ≤ (x.come 0).way.length + 1 := by
  obtain ⟨p, hp⟩ : ∃ p, x.way[0]? = some p := ⟨_, List.getElem?_eq_getElem h⟩
  unfold Wr.come
  rw [hp]
  have key : ∀ r : L × ByteArray × Bool × Pkt × Bool, x.way.length ≤ (wayOf (x.way.eraseIdx 0) r).length + 1 := fun r => by
    unfold wayOf
    have : (x.way.eraseIdx 0).length = x.way.length - 1 := List.length_eraseIdx_of_lt h
    split
    · rw [List.length_append]; simp; omega
    · omega
  show _ ≤ (x.take p (x.way.eraseIdx 0)).way.length + 1
  unfold Wr.take
  split
  · exact key _
  · exact key _
end Wr
end Lnk
end Go.Proofs.Ytamjcghdebjpjaa
