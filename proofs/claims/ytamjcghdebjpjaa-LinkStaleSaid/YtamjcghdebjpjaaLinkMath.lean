/-
  What an end of a channel is, what its calls answer; two ends, what is on its way: what each has taken is a beginning of what the other has sent.
  Pure: nothing of the program is read.
-/
import Derived.Lib.Bytealg
namespace Go.Proofs.Ytamjcghdebjpjaa
namespace Lnk
/-- A packet: from (slot, start), to, its number, how many were taken, its payload. -/
structure Pkt where
  fs : Int
  fc : Int
  ts : Int
  tc : Int
  seq : Int
  ack : Int
  body : ByteArray
/-- An end. -/
structure L where
  ms : Int
  mc : Int
  ps : Int
  pc : Int
  out : List ByteArray
  base : Int
  got : Int
  age : Int
def emp : ByteArray := ⟨#[]⟩
def noPkt : Pkt := ⟨0, 0, 0, 0, 0, 0, emp⟩
def new (ms mc slot : Int) : L := ⟨ms, mc, slot, 0, [], 1, 0, 0⟩
def pkt (l : L) (seq : Int) (body : ByteArray) : Pkt := ⟨l.ms, l.mc, l.ps, l.pc, seq, l.got, body⟩
def send (l : L) (body : ByteArray) (window : Int) : L × Pkt × Int :=
  if window ≤ l.out.length then (l, noPkt, 15) else (⟨l.ms, l.mc, l.ps, l.pc, l.out ++ [body], l.base, l.got, l.age⟩, pkt l (l.base + l.out.length) body, 0)
/-- What is sent again, from number i of Out on. -/
def again (l : L) : List ByteArray → Int → List Pkt
  | [], _ => []
  | b :: r, i => pkt l (l.base + i) b :: again l r (i + 1)
def tick (l : L) (retry : Int) : L × List Pkt :=
  if l.out = [] then (⟨l.ms, l.mc, l.ps, l.pc, l.out, l.base, l.got, 0⟩, []) else
  if l.age < 1000 ∧ l.age + 1 < retry then (⟨l.ms, l.mc, l.ps, l.pc, l.out, l.base, l.got, l.age + 1⟩, []) else
  (⟨l.ms, l.mc, l.ps, l.pc, l.out, l.base, l.got, 0⟩, again l l.out 0)
def meet (l : L) (inc : Int) : L :=
  if inc ≤ l.pc then l else if l.pc = 0 then ⟨l.ms, l.mc, l.ps, inc, l.out, l.base, 0, 0⟩ else ⟨l.ms, l.mc, l.ps, inc, [], 1, 0, 0⟩
def acked (l : L) (p : Pkt) : L :=
  if p.tc ≠ 0 ∧ l.base ≤ p.ack ∧ p.ack - l.base < l.out.length then ⟨l.ms, l.mc, l.ps, l.pc, l.out.drop (p.ack - l.base + 1).toNat, p.ack + 1, l.got, 0⟩ else l
def deaf (l : L) (p : Pkt) : Prop := p.ts ≠ l.ms ∨ p.fs ≠ l.ps ∨ (p.tc ≠ 0 ∧ p.tc ≠ l.mc) ∨ p.fc < 1 ∨ p.fc < l.pc
instance (l : L) (p : Pkt) : Decidable (deaf l p) := by unfold deaf; infer_instance
def heard (l : L) (p : Pkt) : L := acked (meet l p.fc) p
def take (l : L) (p : Pkt) : L × ByteArray × Bool × Pkt × Bool :=
  if deaf l p then (l, emp, false, noPkt, false) else
  if p.seq < 1 then (heard l p, emp, false, noPkt, false) else
  if p.tc = 0 ∨ p.seq - 1 ≠ (heard l p).got then (heard l p, emp, false, pkt (heard l p) 0 emp, true) else
  (⟨l.ms, l.mc, l.ps, (heard l p).pc, (heard l p).out, (heard l p).base, p.seq, (heard l p).age⟩, p.body, true,
    pkt ⟨l.ms, l.mc, l.ps, (heard l p).pc, (heard l p).out, (heard l p).base, p.seq, (heard l p).age⟩ 0 emp, true)

theorem meet_me (l : L) (i : Int) : (meet l i).ms = l.ms ∧ (meet l i).mc = l.mc ∧ (meet l i).ps = l.ps := by
  unfold meet
  split
  · exact ⟨rfl, rfl, rfl⟩
  · split <;> exact ⟨rfl, rfl, rfl⟩
theorem acked_me (l : L) (p : Pkt) : (acked l p).ms = l.ms ∧ (acked l p).mc = l.mc ∧ (acked l p).ps = l.ps ∧ (acked l p).pc = l.pc ∧ (acked l p).got = l.got := by
  unfold acked
  split <;> exact ⟨rfl, rfl, rfl, rfl, rfl⟩
/-- Where both have one start alone, a first meeting changes what was taken from (nothing) alone. -/
theorem meet_one {l : L} (h : l.pc = 0 ∨ l.pc = 1) : (meet l 1).out = l.out ∧ (meet l 1).base = l.base ∧ (meet l 1).pc = 1 ∧ (meet l 1).got = (if l.pc = 0 then 0 else l.got) := by
  unfold meet
  rcases h with h | h
  · rw [h]; simp
  · rw [h]; simp [h]

/-- One direction: what x sends, what y takes; both have their first start. -/
structure Half (x y : L) (way : List Pkt) (S T : List ByteArray) : Prop where
  me : x.mc = 1 ∧ y.mc = 1 ∧ x.ps = y.ms ∧ y.ps = x.ms ∧ x.ms ≠ y.ms
  xp : x.pc = 0 ∨ x.pc = 1
  yp : y.pc = 0 ∨ y.pc = 1
  out : x.out = S.drop (x.base - 1).toNat
  b1 : 1 ≤ x.base
  bT : x.base - 1 ≤ T.length
  pre : T <+: S
  got : y.got = T.length
  y0 : y.pc = 0 → T = []
  who : ∀ p ∈ way, p.fc = 1 ∧ (p.tc = 0 ∨ p.tc = 1) ∧ ((p.fs = x.ms ∧ p.ts = y.ms) ∨ (p.fs = y.ms ∧ p.ts = x.ms))
  data : ∀ p ∈ way, p.fs = x.ms → 1 ≤ p.seq → S[(p.seq - 1).toNat]? = some p.body
  acks : ∀ p ∈ way, p.fs = y.ms → p.ack ≤ T.length

theorem again_mem {l : L} {q : Pkt} : ∀ (r : List ByteArray) (i : Nat), q ∈ again l r i → ∃ (k : Nat) (b : ByteArray), r[k]? = some b ∧ q = pkt l (l.base + i + k) b
  | [], _, h => by simp [again] at h
  | b :: r, i, h => by
    unfold again at h
    rcases List.mem_cons.1 h with h | h
    · exact ⟨0, b, rfl, by rw [h]; simp⟩
    · have h' : q ∈ again l r ((i + 1 : Nat) : Int) := by push_cast; exact h
      obtain ⟨k, c, h1, h2⟩ := again_mem r (i + 1) h'
      exact ⟨k + 1, c, by simpa using h1, by rw [h2]; congr 1; push_cast; omega⟩

/-- x sends one more. -/
theorem Half.send {x y : L} {way : List Pkt} {S T : List ByteArray} (h : Half x y way S T) (body : ByteArray) (win : Int) (h0 : (Lnk.send x body win).2.2 = 0) :
    Half (Lnk.send x body win).1 y (way ++ [(Lnk.send x body win).2.1]) (S ++ [body]) T ∧ ((Lnk.send x body win).1.out.length : Int) ≤ win := by
  have hp : T.length ≤ S.length := h.pre.length_le
  unfold Lnk.send at h0 ⊢
  split at h0
  · simp at h0
  · rename_i hw
    rw [if_neg hw]
    have hb := h.b1
    have hT := h.bT
    have hout := h.out
    have hlen : x.out.length = S.length - (x.base - 1).toNat := by rw [hout, List.length_drop]
    refine ⟨⟨h.me, h.xp, h.yp, ?_, hb, hT, h.pre.trans (List.prefix_append _ _), h.got, h.y0, ?_, ?_, ?_⟩, ?_⟩
    · show x.out ++ [body] = (S ++ [body]).drop (x.base - 1).toNat
      rw [List.drop_append_of_le_length (by omega), ← hout]
    · intro p hp'
      rcases List.mem_append.1 hp' with hp' | hp'
      · exact h.who p hp'
      · simp at hp'
        subst hp'
        exact ⟨h.me.1, h.xp, .inl ⟨rfl, h.me.2.2.1⟩⟩
    · intro p hp' hf hs
      rcases List.mem_append.1 hp' with hp' | hp'
      · have := h.data p hp' hf hs
        rw [List.getElem?_append_left (List.getElem?_eq_some_iff.1 this).1]
        exact this
      · simp at hp'
        subst hp'
        show (S ++ [body])[(x.base + x.out.length - 1).toNat]? = some body
        have : (x.base + x.out.length - 1).toNat = S.length := by omega
        rw [this]; simp
    · intro p hp' hf
      rcases List.mem_append.1 hp' with hp' | hp'
      · exact h.acks p hp' hf
      · simp at hp'
        subst hp'
        exact absurd hf h.me.2.2.2.2
    · show (((x.out ++ [body]).length : Nat) : Int) ≤ win
      rw [List.length_append]
      simp
      omega
theorem Half.sub {x y : L} {way way' : List Pkt} {S T : List ByteArray} (h : Half x y way S T) (hs : ∀ q ∈ way', q ∈ way) : Half x y way' S T :=
  ⟨h.me, h.xp, h.yp, h.out, h.b1, h.bT, h.pre, h.got, h.y0, fun p hp => h.who p (hs p hp), fun p hp => h.data p (hs p hp), fun p hp => h.acks p (hs p hp)⟩
/-- y, who takes, says something (a payload of its own, or an acknowledgement). -/
theorem Half.says {x y y' : L} {way qs : List Pkt} {S T : List ByteArray} (h : Half x y way S T) (hy : y'.ms = y.ms ∧ y'.mc = y.mc ∧ y'.ps = y.ps ∧ y'.pc = y.pc ∧ y'.got = y.got)
    (hq : ∀ q ∈ qs, ∃ (n : Int) (b : ByteArray), q = pkt y n b) : Half x y' (way ++ qs) S T := by
  obtain ⟨e1, e2, e3, e4, e5⟩ := hy
  refine ⟨by rw [e1, e2, e3]; exact h.me, h.xp, by rw [e4]; exact h.yp, h.out, h.b1, h.bT, h.pre, by rw [e5]; exact h.got, by rw [e4]; exact h.y0, ?_, ?_, ?_⟩
  · intro p hp
    rw [e1]
    rcases List.mem_append.1 hp with hp | hp
    · exact h.who p hp
    · obtain ⟨n, b, rfl⟩ := hq p hp
      exact ⟨h.me.2.1, h.yp, .inr ⟨rfl, h.me.2.2.2.1⟩⟩
  · intro p hp hf hs
    rcases List.mem_append.1 hp with hp | hp
    · exact h.data p hp hf hs
    · obtain ⟨n, b, rfl⟩ := hq p hp
      exact absurd hf.symm h.me.2.2.2.2
  · intro p hp hf
    rw [e1] at hf
    rcases List.mem_append.1 hp with hp | hp
    · exact h.acks p hp hf
    · obtain ⟨n, b, rfl⟩ := hq p hp
      show y.got ≤ _
      rw [h.got]
      exact Int.le_refl _
/-- x ticks. -/
theorem Half.tick {x y : L} {way : List Pkt} {S T : List ByteArray} (h : Half x y way S T) (retry : Int) : Half (Lnk.tick x retry).1 y (way ++ (Lnk.tick x retry).2) S T := by
  unfold Lnk.tick
  split
  · rw [List.append_nil]
    exact ⟨h.me, h.xp, h.yp, h.out, h.b1, h.bT, h.pre, h.got, h.y0, h.who, h.data, h.acks⟩
  split
  · rw [List.append_nil]
    exact ⟨h.me, h.xp, h.yp, h.out, h.b1, h.bT, h.pre, h.got, h.y0, h.who, h.data, h.acks⟩
  · have hb := h.b1
    refine ⟨h.me, h.xp, h.yp, h.out, h.b1, h.bT, h.pre, h.got, h.y0, ?_, ?_, ?_⟩
    · intro p hp
      rcases List.mem_append.1 hp with hp | hp
      · exact h.who p hp
      · obtain ⟨k, b, _, rfl⟩ := again_mem x.out 0 (by simpa using hp)
        exact ⟨h.me.1, h.xp, .inl ⟨rfl, h.me.2.2.1⟩⟩
    · intro p hp hf hs
      rcases List.mem_append.1 hp with hp | hp
      · exact h.data p hp hf hs
      · obtain ⟨k, b, hk, rfl⟩ := again_mem x.out 0 (by simpa using hp)
        rw [h.out, List.getElem?_drop] at hk
        show S[(x.base + ((0 : Nat) : Int) + k - 1).toNat]? = some b
        have : (x.base + ((0 : Nat) : Int) + k - 1).toNat = (x.base - 1).toNat + k := by omega
        rw [this]; exact hk
    · intro p hp hf
      rcases List.mem_append.1 hp with hp | hp
      · exact h.acks p hp hf
      · obtain ⟨k, b, _, rfl⟩ := again_mem x.out 0 (by simpa using hp)
        exact absurd hf h.me.2.2.2.2
/-- What is heard of a packet of the other's first start. -/
theorem heard_is {y : L} {p : Pkt} (hy : y.pc = 0 ∨ y.pc = 1) (hf : p.fc = 1) : (heard y p).ms = y.ms ∧ (heard y p).mc = y.mc ∧ (heard y p).ps = y.ps ∧ (heard y p).pc = 1 ∧ (heard y p).got = (if y.pc = 0 then 0 else y.got) := by
  unfold heard
  obtain ⟨a1, a2, a3, a4, a5⟩ := acked_me (meet y p.fc) p
  obtain ⟨m1, m2, m3⟩ := meet_me y p.fc
  obtain ⟨_, _, o3, o4⟩ := meet_one hy
  rw [a1, a2, a3, a4, a5, m1, m2, m3, hf]
  exact ⟨rfl, rfl, rfl, o3, o4⟩
/-- The packets and the payloads behind a packet that came. -/
def wayOf (way : List Pkt) (r : L × ByteArray × Bool × Pkt × Bool) : List Pkt := if r.2.2.2.2 = true then way ++ [r.2.2.2.1] else way
def tookOf (T : List ByteArray) (r : L × ByteArray × Bool × Pkt × Bool) : List ByteArray := if r.2.2.1 = true then T ++ [r.2.1] else T
theorem Half.not_deaf {x y : L} {way : List Pkt} {S T : List ByteArray} (h : Half x y way S T) {p : Pkt} (hp : p ∈ way) (hf : p.fs = x.ms) : ¬ deaf y p := by
  obtain ⟨h1, h2, h3⟩ := h.who p hp
  obtain ⟨m1, m2, m3, m4, m5⟩ := h.me
  have hts : p.ts = y.ms := by
    rcases h3 with h3 | h3
    · exact h3.2
    · exact absurd (hf.symm.trans h3.1) m5
  have hyp := h.yp
  unfold deaf
  rw [hts, hf, m2, m4, h1]
  omega
/-- y takes a packet of x: what it has taken stays a beginning. -/
theorem Half.comes {x y : L} {way way' : List Pkt} {S T : List ByteArray} (h : Half x y way S T) {p : Pkt} (hp : p ∈ way) (hf : p.fs = x.ms) (hs : ∀ q ∈ way', q ∈ way) :
    Half x (take y p).1 (wayOf way' (take y p)) S (tookOf T (take y p)) := by
  have h' := h.sub hs
  obtain ⟨f1, _, _⟩ := h.who p hp
  obtain ⟨e1, e2, e3, e4, e5⟩ := heard_is (p := p) h.yp f1
  have hg : (heard y p).got = T.length := by
    rw [e5]
    split
    · rename_i h0; rw [h.y0 h0]; rfl
    · exact h.got
  have hgen : Half x (heard y p) way' S T := ⟨by rw [e1, e2, e3]; exact h.me, h.xp, .inr e4, h.out, h.b1, h.bT, h.pre, hg, fun h0 => by rw [e4] at h0; omega, by rw [e1]; exact h'.who, h'.data, by rw [e1]; exact h'.acks⟩
  unfold take
  rw [if_neg (h.not_deaf hp hf)]
  split
  · exact hgen
  split
  · exact hgen.says ⟨rfl, rfl, rfl, rfl, rfl⟩ fun q hq => ⟨0, emp, by simpa using hq⟩
  · rename_i hq ht
    have hseq : p.seq = T.length + 1 := by
      have : p.seq - 1 = (heard y p).got := by
        rcases Int.decEq (p.seq - 1) (heard y p).got with h1 | h1
        · exact absurd (.inr h1) ht
        · exact h1
      omega
    have hd := h.data p hp hf (by omega)
    have hidx : (p.seq - 1).toNat = T.length := by omega
    rw [hidx] at hd
    have hpre : T ++ [p.body] <+: S := by
      obtain ⟨R, hR⟩ := h.pre
      rw [← hR] at hd
      cases R with
      | nil => simp at hd
      | cons b R =>
        simp at hd
        subst hd
        exact ⟨R, by rw [← hR]; simp⟩
    have hT := h.bT
    have hbase : Half x ⟨y.ms, y.mc, y.ps, (heard y p).pc, (heard y p).out, (heard y p).base, p.seq, (heard y p).age⟩ way' S (T ++ [p.body]) := by
      refine ⟨h.me, h.xp, .inr e4, h.out, h.b1, by rw [List.length_append]; simp; omega, hpre, by rw [List.length_append]; simp; omega, fun h0 => ?_, h'.who, h'.data, fun q hq hqf => ?_⟩
      · have : (heard y p).pc = 0 := h0
        omega
      · have := h'.acks q hq hqf
        rw [List.length_append]; simp; omega
    exact hbase.says ⟨rfl, rfl, rfl, rfl, rfl⟩ fun q hq => ⟨0, emp, by simpa using hq⟩
/-- y, who sends to x, hears an acknowledgement: what isn't acknowledged stays the rest of what it has sent. -/
theorem Half.hears {x y : L} {way way' : List Pkt} {S T : List ByteArray} (h : Half x y way S T) {p : Pkt} (hp : p ∈ way) (hf : p.fs = y.ms) (hs : ∀ q ∈ way', q ∈ way) :
    Half (take x p).1 y (wayOf way' (take x p)) S T ∧ (take x p).1.out.length ≤ x.out.length := by
  obtain ⟨f1, f2, f3⟩ := h.who p hp
  obtain ⟨m1, m2, m3, m4, m5⟩ := h.me
  have hk := h.acks p hp hf
  have hnd : ¬ deaf x p := by
    have hts : p.ts = x.ms := by
      rcases f3 with f3 | f3
      · exact absurd (f3.1.symm.trans hf) m5
      · exact f3.2
    have hxp := h.xp
    unfold deaf
    rw [hts, hf, m1, m3, f1]
    omega
  obtain ⟨e1, e2, e3, e4, e5⟩ := heard_is (p := p) h.xp f1
  obtain ⟨o1, o2, _, _⟩ := meet_one h.xp
  have hout : (heard x p).out = S.drop ((heard x p).base - 1).toNat ∧ 1 ≤ (heard x p).base ∧ (heard x p).base - 1 ≤ T.length ∧ (heard x p).out.length ≤ x.out.length := by
    have hb := h.b1
    have hT := h.bT
    unfold heard acked
    rw [f1]
    split
    · rename_i hc
      obtain ⟨_, c2, c3⟩ := hc
      rw [o2] at c2 c3
      rw [o1] at c3
      refine ⟨?_, by show 1 ≤ p.ack + 1; omega, by show p.ack + 1 - 1 ≤ _; omega, ?_⟩
      · show ((meet x 1).out).drop (p.ack - (meet x 1).base + 1).toNat = S.drop (p.ack + 1 - 1).toNat
        rw [o1, o2, h.out, List.drop_drop]
        congr 1
        omega
      · show (((meet x 1).out).drop (p.ack - (meet x 1).base + 1).toNat).length ≤ _
        rw [o1, List.length_drop]
        omega
    · rw [o1, o2]
      exact ⟨h.out, hb, hT, Nat.le_refl _⟩
  obtain ⟨u1, u2, u3, u4⟩ := hout
  have h' := h.sub hs
  have gen : ∀ (z : L), z.ms = x.ms → z.mc = x.mc → z.ps = x.ps → z.pc = 1 → z.out = (heard x p).out → z.base = (heard x p).base → ∀ qs : List Pkt, (∀ q ∈ qs, ∃ (g : Int), q = ⟨x.ms, x.mc, x.ps, 1, 0, g, emp⟩) → Half z y (way' ++ qs) S T := by
    intro z z1 z2 z3 z4 z5 z6 qs hq
    refine ⟨by rw [z1, z2, z3]; exact h.me, .inr z4, h.yp, by rw [z5, z6]; exact u1, by rw [z6]; exact u2, by rw [z6]; exact u3, h.pre, h.got, h.y0, ?_, ?_, ?_⟩
    · intro q hq'
      rw [z1]
      rcases List.mem_append.1 hq' with hq' | hq'
      · exact h'.who q hq'
      · obtain ⟨g, rfl⟩ := hq q hq'
        exact ⟨m1, .inr rfl, .inl ⟨rfl, m3⟩⟩
    · intro q hq' hqf hqs
      rcases List.mem_append.1 hq' with hq' | hq'
      · rw [z1] at hqf; exact h'.data q hq' hqf hqs
      · obtain ⟨g, rfl⟩ := hq q hq'
        exact absurd hqs (by show ¬ (1 : Int) ≤ 0; decide)
    · intro q hq' hqf
      rcases List.mem_append.1 hq' with hq' | hq'
      · exact h'.acks q hq' hqf
      · obtain ⟨g, rfl⟩ := hq q hq'
        exact absurd hqf m5
  unfold take
  rw [if_neg hnd]
  split
  · refine ⟨?_, u4⟩
    have := gen (heard x p) e1 e2 e3 e4 rfl rfl [] (fun q hq => by cases hq)
    rw [List.append_nil] at this
    exact this
  split
  · refine ⟨gen (heard x p) e1 e2 e3 e4 rfl rfl _ (fun q hq => ⟨(heard x p).got, ?_⟩), u4⟩
    have : q = pkt (heard x p) 0 emp := by simpa using hq
    rw [this]
    unfold pkt
    rw [e1, e2, e3, e4]
  · refine ⟨gen ⟨x.ms, x.mc, x.ps, (heard x p).pc, (heard x p).out, (heard x p).base, p.seq, (heard x p).age⟩ rfl rfl rfl e4 rfl rfl _ (fun q hq => ⟨p.seq, ?_⟩), u4⟩
    have : q = pkt ⟨x.ms, x.mc, x.ps, (heard x p).pc, (heard x p).out, (heard x p).base, p.seq, (heard x p).age⟩ 0 emp := by simpa using hq
    rw [this]
    unfold pkt
    rw [e4]

/-- Both directions, and the window. -/
structure Inv (a b : L) (way : List Pkt) (S T U V : List ByteArray) (win : Int) : Prop where
  ab : Half a b way S T
  ba : Half b a way U V
  wa : (a.out.length : Int) ≤ win
  wb : (b.out.length : Int) ≤ win
theorem Inv.symm {a b : L} {way : List Pkt} {S T U V : List ByteArray} {win : Int} (h : Inv a b way S T U V win) : Inv b a way U V S T win := ⟨h.ba, h.ab, h.wb, h.wa⟩
theorem Inv.sub {a b : L} {way way' : List Pkt} {S T U V : List ByteArray} {win : Int} (h : Inv a b way S T U V win) (hs : ∀ q ∈ way', q ∈ way) : Inv a b way' S T U V win := ⟨h.ab.sub hs, h.ba.sub hs, h.wa, h.wb⟩
theorem Inv.begun (win : Int) (hw : 0 ≤ win) : Inv (new 0 1 1) (new 1 1 0) [] [] [] [] [] win := by
  refine ⟨⟨⟨rfl, rfl, rfl, rfl, by decide⟩, .inl rfl, .inl rfl, rfl, by decide, by decide, List.prefix_refl _, rfl, fun _ => rfl, fun p hp => (by cases hp), fun p hp => (by cases hp), fun p hp => (by cases hp)⟩,
    ⟨⟨rfl, rfl, rfl, rfl, by decide⟩, .inl rfl, .inl rfl, rfl, by decide, by decide, List.prefix_refl _, rfl, fun _ => rfl, fun p hp => (by cases hp), fun p hp => (by cases hp), fun p hp => (by cases hp)⟩, hw, hw⟩
/-- a sends. -/
theorem Inv.send {a b : L} {way : List Pkt} {S T U V : List ByteArray} {win : Int} (h : Inv a b way S T U V win) (body : ByteArray) (h0 : (Lnk.send a body win).2.2 = 0) :
    Inv (Lnk.send a body win).1 b (way ++ [(Lnk.send a body win).2.1]) (S ++ [body]) T U V win := by
  obtain ⟨h1, h2⟩ := h.ab.send body win h0
  refine ⟨h1, ?_, h2, h.wb⟩
  unfold Lnk.send at h0 ⊢
  split at h0
  · simp at h0
  · rename_i hw
    rw [if_neg hw]
    exact h.ba.says ⟨rfl, rfl, rfl, rfl, rfl⟩ fun q hq => ⟨_, body, by simpa using hq⟩
/-- a ticks. -/
theorem Inv.tick {a b : L} {way : List Pkt} {S T U V : List ByteArray} {win : Int} (h : Inv a b way S T U V win) (retry : Int) :
    Inv (Lnk.tick a retry).1 b (way ++ (Lnk.tick a retry).2) S T U V win := by
  refine ⟨h.ab.tick retry, ?_, ?_, h.wb⟩
  · refine h.ba.says ?_ ?_
    · unfold Lnk.tick
      split
      · exact ⟨rfl, rfl, rfl, rfl, rfl⟩
      split <;> exact ⟨rfl, rfl, rfl, rfl, rfl⟩
    · intro q hq
      unfold Lnk.tick at hq
      split at hq
      · cases hq
      split at hq
      · cases hq
      · obtain ⟨k, c, _, rfl⟩ := again_mem a.out 0 (by simpa using hq)
        exact ⟨_, c, rfl⟩
  · have := h.wa
    unfold Lnk.tick
    split
    · exact this
    split <;> exact this
/-- b takes a packet of a. -/
theorem Inv.comes {a b : L} {way way' : List Pkt} {S T U V : List ByteArray} {win : Int} (h : Inv a b way S T U V win) {p : Pkt} (hp : p ∈ way) (hf : p.fs = a.ms) (hs : ∀ q ∈ way', q ∈ way) :
    Inv a (take b p).1 (wayOf way' (take b p)) S (tookOf T (take b p)) U V win := by
  obtain ⟨h1, h2⟩ := h.ba.hears hp hf hs
  refine ⟨h.ab.comes hp hf hs, h1, h.wa, ?_⟩
  have := h.wb
  omega
end Lnk
end Go.Proofs.Ytamjcghdebjpjaa
