/-
  Two ends, one of which starts anew again and again: what the other one takes is a beginning of what the first start has sent, then of what the second has, and so on.
  Pure: nothing of the program is read.
-/
import Derived.Test.YtamjcghdebjpjaaLinkMath
namespace Go.Proofs.Ytamjcghdebjpjaa
namespace Lnk
/-- A row of payloads is so many beginnings, one behind the other. -/
inductive Segs (sent : List (List ByteArray)) : Nat → List ByteArray → Prop
  | nil : Segs sent 0 []
  | more {n : Nat} {G P : List ByteArray} (h : Segs sent n G) (hp : P <+: sent.getD n []) : Segs sent (n + 1) (G ++ P)
theorem Segs.mono {sent sent' : List (List ByteArray)} {n : Nat} {G : List ByteArray} (h : Segs sent n G) (hs : ∀ i, sent.getD i [] <+: sent'.getD i []) : Segs sent' n G := by
  induction h with
  | nil => exact .nil
  | more _ hp ih => exact .more ih (hp.trans (hs _))
theorem Segs.pad {sent : List (List ByteArray)} {n : Nat} {G : List ByteArray} (h : Segs sent n G) : ∀ k, Segs sent (n + k) G
  | 0 => h
  | k + 1 => by
    have := Segs.more (P := []) (h.pad k) List.nil_prefix
    rw [List.append_nil] at this
    exact this
/-- What is known while a starts anew: sent has a row for each start of a's. -/
structure Stale (a b : L) (way : List Pkt) (sent : List (List ByteArray)) (got : List ByteArray) : Prop where
  me : a.ms = 0 ∧ a.ps = 1 ∧ b.ms = 1 ∧ b.ps = 0 ∧ b.mc = 1
  n : 1 ≤ sent.length
  mc : a.mc = sent.length
  apc : a.pc = 0 ∨ a.pc = 1
  bpc : 0 ≤ b.pc ∧ b.pc ≤ sent.length
  out : a.out = (sent.getD (sent.length - 1) []).drop (a.base - 1).toNat
  b1 : 1 ≤ a.base
  bS : a.base - 1 ≤ (sent.getD (sent.length - 1) []).length
  b0 : b.pc = 0 → got = [] ∧ b.got = 0
  took : 1 ≤ b.pc → ∃ G P, got = G ++ P ∧ Segs sent (b.pc - 1).toNat G ∧ P <+: sent.getD (b.pc - 1).toNat [] ∧ b.got = P.length
  fromB : ∀ p ∈ way, p.fs = 1 → p.fc = 1 ∧ p.ts = 0
  fromA : ∀ p ∈ way, p.fs = 0 → p.ts = 1 ∧ 1 ≤ p.fc ∧ p.fc ≤ sent.length ∧ (p.tc = 0 ∨ p.tc = 1) ∧ (1 ≤ p.seq → (sent.getD (p.fc - 1).toNat [])[(p.seq - 1).toNat]? = some p.body)
  who : ∀ p ∈ way, p.fs = 0 ∨ p.fs = 1
theorem Stale.sub {a b : L} {way way' : List Pkt} {sent : List (List ByteArray)} {got : List ByteArray} (h : Stale a b way sent got) (hs : ∀ q ∈ way', q ∈ way) : Stale a b way' sent got :=
  ⟨h.me, h.n, h.mc, h.apc, h.bpc, h.out, h.b1, h.bS, h.b0, h.took, fun p hp => h.fromB p (hs p hp), fun p hp => h.fromA p (hs p hp), fun p hp => h.who p (hs p hp)⟩
theorem Stale.begun : Stale (new 0 1 1) (new 1 1 0) [] [[]] [] :=
  ⟨⟨rfl, rfl, rfl, rfl, rfl⟩, by decide, rfl, .inl rfl, ⟨by decide, by decide⟩, rfl, by decide, by decide, fun _ => ⟨rfl, rfl⟩, fun h => absurd h (by decide), fun p hp => (by cases hp), fun p hp => (by cases hp), fun p hp => (by cases hp)⟩
theorem getD_grow {sent : List (List ByteArray)} (x : List ByteArray) (i : Nat) : sent.getD i [] <+: (sent ++ [x]).getD i [] := by
  simp only [List.getD]
  rcases Nat.lt_or_ge i sent.length with h | h
  · rw [List.getElem?_append_left h]; exact List.prefix_refl _
  · rw [List.getElem?_eq_none h]; exact List.nil_prefix
theorem getD_lt {sent : List (List ByteArray)} (x : List ByteArray) {i : Nat} (h : i < sent.length) : (sent ++ [x]).getD i [] = sent.getD i [] := by
  simp only [List.getD, List.getElem?_append_left h]
/-- a starts anew. -/
theorem Stale.anew {a b : L} {way : List Pkt} {sent : List (List ByteArray)} {got : List ByteArray} (h : Stale a b way sent got) : Stale (new 0 (sent.length + 1) 1) b way (sent ++ [[]]) got := by
  have hn := h.n
  have hlen : (sent ++ [([] : List ByteArray)]).length = sent.length + 1 := by simp
  have hlast : (sent ++ [([] : List ByteArray)]).getD ((sent ++ [([] : List ByteArray)]).length - 1) [] = [] := by rw [hlen]; simp [List.getD]
  have hb := h.bpc
  refine ⟨⟨rfl, rfl, h.me.2.2.1, h.me.2.2.2.1, h.me.2.2.2.2⟩, by omega, by rw [hlen]; rfl, .inl rfl, by omega, by rw [hlast]; rfl, (by show (1 : Int) ≤ 1; decide), (by rw [hlast]; show (1 : Int) - 1 ≤ 0; decide), h.b0, fun h1 => ?_, h.fromB, fun p hp hf => ?_, h.who⟩
  · obtain ⟨G, P, e1, e2, e3, e4⟩ := h.took h1
    exact ⟨G, P, e1, e2.mono (getD_grow _), e3.trans (getD_grow _ _), e4⟩
  · obtain ⟨e1, e2, e3, e4, e5⟩ := h.fromA p hp hf
    exact ⟨e1, e2, by omega, e4, fun hs => by rw [getD_lt _ (by omega)]; exact e5 hs⟩
/-- What is sent is put behind the last row. -/
def putLast (sent : List (List ByteArray)) (body : ByteArray) : List (List ByteArray) := sent.set (sent.length - 1) (sent.getD (sent.length - 1) [] ++ [body])
theorem putLast_getD {sent : List (List ByteArray)} (body : ByteArray) (hn : 1 ≤ sent.length) (i : Nat) : (putLast sent body).getD i [] = if i = sent.length - 1 then sent.getD i [] ++ [body] else sent.getD i [] := by
  unfold putLast
  simp only [List.getD]
  by_cases h : i = sent.length - 1
  · subst h
    rw [if_pos rfl, List.getElem?_set_self (by omega)]
    rfl
  · rw [if_neg h, List.getElem?_set_ne (by omega)]
theorem putLast_grow {sent : List (List ByteArray)} (body : ByteArray) (hn : 1 ≤ sent.length) (i : Nat) : sent.getD i [] <+: (putLast sent body).getD i [] := by
  rw [putLast_getD body hn]
  split
  · exact List.prefix_append _ _
  · exact List.prefix_refl _
/-- a sends one more. -/
theorem Stale.send {a b : L} {way : List Pkt} {sent : List (List ByteArray)} {got : List ByteArray} (h : Stale a b way sent got) (body : ByteArray) (win : Int) (h0 : (Lnk.send a body win).2.2 = 0) :
    Stale (Lnk.send a body win).1 b (way ++ [(Lnk.send a body win).2.1]) (putLast sent body) got := by
  have hn := h.n
  have hlen : (putLast sent body).length = sent.length := by unfold putLast; simp
  have hlast := putLast_getD body hn (sent.length - 1)
  rw [if_pos rfl] at hlast
  unfold Lnk.send at h0 ⊢
  split at h0
  · simp at h0
  · rename_i hw
    rw [if_neg hw]
    have hb := h.b1
    have hS := h.bS
    have hout := h.out
    have hol : a.out.length = (sent.getD (sent.length - 1) []).length - (a.base - 1).toNat := by rw [hout, List.length_drop]
    refine ⟨h.me, by omega, by rw [hlen]; exact h.mc, h.apc, by rw [hlen]; exact h.bpc, ?_, hb, ?_, h.b0, fun h1 => ?_, ?_, ?_, ?_⟩
    · show a.out ++ [body] = ((putLast sent body).getD ((putLast sent body).length - 1) []).drop (a.base - 1).toNat
      rw [hlen, hlast, List.drop_append_of_le_length (by omega), ← hout]
    · show a.base - 1 ≤ (((putLast sent body).getD ((putLast sent body).length - 1) []).length : Nat)
      rw [hlen, hlast, List.length_append]
      simp only [List.length_cons, List.length_nil]
      omega
    · obtain ⟨G, P, e1, e2, e3, e4⟩ := h.took h1
      exact ⟨G, P, e1, e2.mono (putLast_grow body hn), e3.trans (putLast_grow body hn _), e4⟩
    · intro p hp hf
      rcases List.mem_append.1 hp with hp | hp
      · exact h.fromB p hp hf
      · simp at hp; subst hp
        exact absurd (h.me.1.symm.trans hf) (by decide)
    · intro p hp hf
      rcases List.mem_append.1 hp with hp | hp
      · obtain ⟨e1, e2, e3, e4, e5⟩ := h.fromA p hp hf
        refine ⟨e1, e2, by omega, e4, fun hs => ?_⟩
        have h1 := e5 hs
        obtain ⟨R, hR⟩ := putLast_grow body hn (p.fc - 1).toNat
        rw [← hR, List.getElem?_append_left (List.getElem?_eq_some_iff.1 h1).1]
        exact h1
      · simp at hp; subst hp
        refine ⟨h.me.2.1, by show 1 ≤ a.mc; rw [h.mc]; omega, by show a.mc ≤ _; rw [h.mc]; omega, h.apc, fun _ => ?_⟩
        show ((putLast sent body).getD (a.mc - 1).toNat [])[(a.base + a.out.length - 1).toNat]? = some body
        have e1 : (a.mc - 1).toNat = sent.length - 1 := by rw [h.mc]; omega
        have e2 : (a.base + a.out.length - 1).toNat = (sent.getD (sent.length - 1) []).length := by omega
        rw [e1, e2, hlast]
        simp
    · intro p hp
      rcases List.mem_append.1 hp with hp | hp
      · exact h.who p hp
      · simp at hp; subst hp
        exact .inl h.me.1
/-- b says something. -/
theorem Stale.says {a b b' : L} {way qs : List Pkt} {sent : List (List ByteArray)} {got : List ByteArray} (h : Stale a b way sent got) (hy : b'.ms = b.ms ∧ b'.mc = b.mc ∧ b'.ps = b.ps ∧ b'.pc = b.pc ∧ b'.got = b.got)
    (hq : ∀ q ∈ qs, ∃ (n : Int) (c : ByteArray), q = pkt b n c) : Stale a b' (way ++ qs) sent got := by
  obtain ⟨e1, e2, e3, e4, e5⟩ := hy
  obtain ⟨m1, m2, m3, m4, m5⟩ := h.me
  refine ⟨⟨m1, m2, e1.trans m3, e3.trans m4, e2.trans m5⟩, h.n, h.mc, h.apc, by rw [e4]; exact h.bpc, h.out, h.b1, h.bS, by rw [e4, e5]; exact h.b0, by rw [e4, e5]; exact h.took, ?_, ?_, ?_⟩
  · intro p hp hf
    rcases List.mem_append.1 hp with hp | hp
    · exact h.fromB p hp hf
    · obtain ⟨n, c, rfl⟩ := hq p hp
      exact ⟨m5, m4⟩
  · intro p hp hf
    rcases List.mem_append.1 hp with hp | hp
    · exact h.fromA p hp hf
    · obtain ⟨n, c, rfl⟩ := hq p hp
      exact absurd (m3.symm.trans hf) (by decide)
  · intro p hp
    rcases List.mem_append.1 hp with hp | hp
    · exact h.who p hp
    · obtain ⟨n, c, rfl⟩ := hq p hp
      exact .inr m3
/-- a ticks. -/
theorem Stale.tick {a b : L} {way : List Pkt} {sent : List (List ByteArray)} {got : List ByteArray} (h : Stale a b way sent got) (retry : Int) : Stale (Lnk.tick a retry).1 b (way ++ (Lnk.tick a retry).2) sent got := by
  unfold Lnk.tick
  split
  · rw [List.append_nil]
    exact ⟨h.me, h.n, h.mc, h.apc, h.bpc, h.out, h.b1, h.bS, h.b0, h.took, h.fromB, h.fromA, h.who⟩
  split
  · rw [List.append_nil]
    exact ⟨h.me, h.n, h.mc, h.apc, h.bpc, h.out, h.b1, h.bS, h.b0, h.took, h.fromB, h.fromA, h.who⟩
  · have hb := h.b1
    have hn := h.n
    refine ⟨h.me, h.n, h.mc, h.apc, h.bpc, h.out, h.b1, h.bS, h.b0, h.took, ?_, ?_, ?_⟩
    · intro p hp hf
      rcases List.mem_append.1 hp with hp | hp
      · exact h.fromB p hp hf
      · obtain ⟨k, c, _, rfl⟩ := again_mem a.out 0 (by simpa using hp)
        exact absurd (h.me.1.symm.trans hf) (by decide)
    · intro p hp hf
      rcases List.mem_append.1 hp with hp | hp
      · exact h.fromA p hp hf
      · obtain ⟨k, c, hk, rfl⟩ := again_mem a.out 0 (by simpa using hp)
        refine ⟨h.me.2.1, by show 1 ≤ a.mc; rw [h.mc]; omega, by show a.mc ≤ _; rw [h.mc]; omega, h.apc, fun _ => ?_⟩
        rw [h.out, List.getElem?_drop] at hk
        show (sent.getD (a.mc - 1).toNat [])[(a.base + ((0 : Nat) : Int) + k - 1).toNat]? = some c
        have e1 : (a.mc - 1).toNat = sent.length - 1 := by rw [h.mc]; omega
        have e2 : (a.base + ((0 : Nat) : Int) + k - 1).toNat = (a.base - 1).toNat + k := by omega
        rw [e1, e2]; exact hk
    · intro p hp
      rcases List.mem_append.1 hp with hp | hp
      · exact h.who p hp
      · obtain ⟨k, c, _, rfl⟩ := again_mem a.out 0 (by simpa using hp)
        exact .inl h.me.1
/-- a takes a packet of b: what isn't acknowledged stays the rest of what this start has sent. -/
theorem Stale.hears {a b : L} {way way' : List Pkt} {sent : List (List ByteArray)} {got : List ByteArray} (h : Stale a b way sent got) {p : Pkt} (hp : p ∈ way) (hf : p.fs = 1) (hs : ∀ q ∈ way', q ∈ way) :
    Stale (take a p).1 b (wayOf way' (take a p)) sent got := by
  have h' := h.sub hs
  obtain ⟨f1, _⟩ := h.fromB p hp hf
  obtain ⟨m1, m2, m3, m4, m5⟩ := h.me
  obtain ⟨e1, e2, e3, e4, e5⟩ := heard_is (p := p) h.apc f1
  obtain ⟨o1, o2, _, _⟩ := meet_one h.apc
  have hn := h.n
  have hout : (heard a p).out = (sent.getD (sent.length - 1) []).drop ((heard a p).base - 1).toNat ∧ 1 ≤ (heard a p).base ∧ (heard a p).base - 1 ≤ (sent.getD (sent.length - 1) []).length := by
    have hb := h.b1
    have hS := h.bS
    have hol : a.out.length = (sent.getD (sent.length - 1) []).length - (a.base - 1).toNat := by rw [h.out, List.length_drop]
    unfold heard acked
    rw [f1]
    split
    · rename_i hc
      obtain ⟨_, c2, c3⟩ := hc
      rw [o2] at c2 c3
      rw [o1] at c3
      refine ⟨?_, by show 1 ≤ p.ack + 1; omega, by show p.ack + 1 - 1 ≤ _; omega⟩
      show ((meet a 1).out).drop (p.ack - (meet a 1).base + 1).toNat = (sent.getD (sent.length - 1) []).drop (p.ack + 1 - 1).toNat
      rw [o1, o2, h.out, List.drop_drop]
      congr 1
      omega
    · rw [o1, o2]
      exact ⟨h.out, hb, hS⟩
  obtain ⟨u1, u2, u3⟩ := hout
  have gen : ∀ (z : L), z.ms = a.ms → z.mc = a.mc → z.ps = a.ps → z.pc = 1 → z.out = (heard a p).out → z.base = (heard a p).base → ∀ qs : List Pkt, (∀ q ∈ qs, ∃ (g : Int), q = ⟨a.ms, a.mc, a.ps, 1, 0, g, emp⟩) → Stale z b (way' ++ qs) sent got := by
    intro z z1 z2 z3 z4 z5 z6 qs hq
    refine ⟨⟨z1.trans m1, z3.trans m2, m3, m4, m5⟩, hn, z2.trans h.mc, .inr z4, h.bpc, by rw [z5, z6]; exact u1, by rw [z6]; exact u2, by rw [z6]; exact u3, h.b0, h.took, ?_, ?_, ?_⟩
    · intro q hq' hqf
      rcases List.mem_append.1 hq' with hq' | hq'
      · exact h'.fromB q hq' hqf
      · obtain ⟨g, rfl⟩ := hq q hq'
        exact absurd (m1.symm.trans hqf) (by decide)
    · intro q hq' hqf
      rcases List.mem_append.1 hq' with hq' | hq'
      · exact h'.fromA q hq' hqf
      · obtain ⟨g, rfl⟩ := hq q hq'
        exact ⟨m2, by show 1 ≤ a.mc; rw [h.mc]; omega, by show a.mc ≤ _; rw [h.mc]; omega, .inr rfl, fun hqs => absurd hqs (by show ¬ (1 : Int) ≤ 0; decide)⟩
    · intro q hq'
      rcases List.mem_append.1 hq' with hq' | hq'
      · exact h'.who q hq'
      · obtain ⟨g, rfl⟩ := hq q hq'
        exact .inl m1
  unfold take
  split
  · exact h'
  split
  · have := gen (heard a p) e1 e2 e3 e4 rfl rfl [] (fun q hq => by cases hq)
    rw [List.append_nil] at this
    exact this
  split
  · refine gen (heard a p) e1 e2 e3 e4 rfl rfl _ (fun q hq => ⟨(heard a p).got, ?_⟩)
    have : q = pkt (heard a p) 0 emp := by simpa using hq
    rw [this]
    unfold pkt
    rw [e1, e2, e3, e4]
  · refine gen ⟨a.ms, a.mc, a.ps, (heard a p).pc, (heard a p).out, (heard a p).base, p.seq, (heard a p).age⟩ rfl rfl rfl e4 rfl rfl _ (fun q hq => ⟨p.seq, ?_⟩)
    have : q = pkt ⟨a.ms, a.mc, a.ps, (heard a p).pc, (heard a p).out, (heard a p).base, p.seq, (heard a p).age⟩ 0 emp := by simpa using hq
    rw [this]
    unfold pkt
    rw [e4]
/-- What is heard of a packet of any start of the other's. -/
theorem heard_any {y : L} {p : Pkt} (hf : y.pc ≤ p.fc) : (heard y p).ms = y.ms ∧ (heard y p).mc = y.mc ∧ (heard y p).ps = y.ps ∧ (heard y p).pc = p.fc ∧ (heard y p).got = (if p.fc ≤ y.pc then y.got else 0) := by
  unfold heard
  obtain ⟨a1, a2, a3, a4, a5⟩ := acked_me (meet y p.fc) p
  obtain ⟨m1, m2, m3⟩ := meet_me y p.fc
  rw [a1, a2, a3, a4, a5, m1, m2, m3]
  refine ⟨rfl, rfl, rfl, ?_, ?_⟩
  · unfold meet
    split
    · omega
    · split <;> rfl
  · unfold meet
    split
    · rfl
    · split <;> rfl
/-- b takes a packet of a. -/
theorem Stale.comes {a b : L} {way way' : List Pkt} {sent : List (List ByteArray)} {got : List ByteArray} (h : Stale a b way sent got) {p : Pkt} (hp : p ∈ way) (hf : p.fs = 0) (hs : ∀ q ∈ way', q ∈ way) :
    Stale a (take b p).1 (wayOf way' (take b p)) sent (tookOf got (take b p)) := by
  have h' := h.sub hs
  obtain ⟨f1, f2, f3, f4, f5⟩ := h.fromA p hp hf
  obtain ⟨m1, m2, m3, m4, m5⟩ := h.me
  by_cases hd : deaf b p
  · unfold take
    rw [if_pos hd]
    exact h'
  have hfc : b.pc ≤ p.fc := by
    unfold deaf at hd
    omega
  obtain ⟨e1, e2, e3, e4, e5⟩ := heard_any hfc
  have hbp := h.bpc
  -- what is taken so far, in the terms of this packet's start
  have hG : ∃ G P, got = G ++ P ∧ Segs sent (p.fc - 1).toNat G ∧ P <+: sent.getD (p.fc - 1).toNat [] ∧ (heard b p).got = P.length := by
    rw [e5]
    by_cases h1 : p.fc ≤ b.pc
    · have h2 : p.fc = b.pc := by omega
      rw [if_pos h1, h2]
      exact h.took (by omega)
    · rw [if_neg h1]
      by_cases h2 : b.pc = 0
      · obtain ⟨h3, _⟩ := h.b0 h2
        refine ⟨[], [], by rw [h3]; rfl, ?_, List.nil_prefix, rfl⟩
        have := (Segs.nil (sent := sent)).pad (p.fc - 1).toNat
        rwa [Nat.zero_add] at this
      · obtain ⟨G, P, g1, g2, g3, _⟩ := h.took (by omega)
        refine ⟨got, [], by rw [List.append_nil], ?_, List.nil_prefix, rfl⟩
        have h4 := (Segs.more g2 g3).pad ((p.fc - 1).toNat - ((b.pc - 1).toNat + 1))
        rw [← g1] at h4
        have h5 : (b.pc - 1).toNat + 1 + ((p.fc - 1).toNat - ((b.pc - 1).toNat + 1)) = (p.fc - 1).toNat := by omega
        rwa [h5] at h4
  have hgen : Stale a (heard b p) way' sent got := by
    refine ⟨⟨m1, m2, e1.trans m3, e3.trans m4, e2.trans m5⟩, h.n, h.mc, h.apc, by rw [e4]; omega, h.out, h.b1, h.bS, fun h0 => ?_, fun _ => ?_, h'.fromB, h'.fromA, h'.who⟩
    · rw [e4] at h0; omega
    · rw [e4]; exact hG
  unfold take
  rw [if_neg hd]
  split
  · exact hgen
  split
  · exact hgen.says ⟨rfl, rfl, rfl, rfl, rfl⟩ fun q hq => ⟨0, emp, by simpa using hq⟩
  · rename_i hq ht
    obtain ⟨G, P, g1, g2, g3, g4⟩ := hG
    have hseq : p.seq = P.length + 1 := by
      have : p.seq - 1 = (heard b p).got := by
        rcases Int.decEq (p.seq - 1) (heard b p).got with h1 | h1
        · exact absurd (.inr h1) ht
        · exact h1
      omega
    have hdt := f5 (by omega)
    have hidx : (p.seq - 1).toNat = P.length := by omega
    rw [hidx] at hdt
    have hpre : P ++ [p.body] <+: sent.getD (p.fc - 1).toNat [] := by
      obtain ⟨R, hR⟩ := g3
      rw [← hR] at hdt
      cases R with
      | nil => simp at hdt
      | cons c R =>
        simp at hdt
        subst hdt
        exact ⟨R, by rw [← hR]; simp⟩
    have hbase : Stale a ⟨b.ms, b.mc, b.ps, (heard b p).pc, (heard b p).out, (heard b p).base, p.seq, (heard b p).age⟩ way' sent (got ++ [p.body]) := by
      refine ⟨⟨m1, m2, m3, m4, m5⟩, h.n, h.mc, h.apc, by show 0 ≤ (heard b p).pc ∧ (heard b p).pc ≤ _; rw [e4]; omega, h.out, h.b1, h.bS, fun h0 => ?_, fun _ => ?_, h'.fromB, h'.fromA, h'.who⟩
      · have : (heard b p).pc = 0 := h0
        omega
      · refine ⟨G, P ++ [p.body], by rw [g1, List.append_assoc], ?_, ?_, ?_⟩
        · show Segs sent ((heard b p).pc - 1).toNat G
          rw [e4]; exact g2
        · show P ++ [p.body] <+: sent.getD ((heard b p).pc - 1).toNat []
          rw [e4]; exact hpre
        · show p.seq = _
          rw [List.length_append]
          simp
          omega
    exact hbase.says ⟨rfl, rfl, rfl, rfl, rfl⟩ fun q hq => ⟨0, emp, by simpa using hq⟩
end Lnk
end Go.Proofs.Ytamjcghdebjpjaa
