/-
  Two ends and what is on its way, as the law's moves change them; what is kept: LinkFifo's, LinkStale's.
  Pure: nothing of the program is read.
-/
import Derived.Test.YtamjcghdebjpjaaLinkStale
import Derived.Test.YtamjcghdebjpjaaLinkFlows
set_option linter.unusedSimpArgs false
set_option linter.unusedVariables false
namespace Go.Proofs.Ytamjcghdebjpjaa
namespace Lnk
/-- Two ends, the way, what each start of a's has sent, what b has, what each has taken, the window, the retry. -/
structure Wr where
  a : L
  b : L
  way : List Pkt
  sent : List (List ByteArray)
  back : List ByteArray
  got : List ByteArray
  gotA : List ByteArray
  win : Int
  ret : Int
/-- A byte of a number's. -/
def u8 (n : Int) : UInt8 := UInt8.ofNat (IntKind.u8.wrap n).toNat
/-- A payload's name. -/
def name (inc n : Int) : ByteArray := ⟨#[u8 (inc.tdiv 256), u8 inc, u8 (n.tdiv 256), u8 n]⟩
def lastOf (sent : List (List ByteArray)) : List ByteArray := sent.getD (sent.length - 1) []
namespace Wr
def begun (win ret : Int) : Wr := ⟨new 0 1 1, new 1 1 0, [], [[]], [], [], [], win, ret⟩
def nameA (x : Wr) : ByteArray := name x.sent.length (lastOf x.sent).length
def nameB (x : Wr) : ByteArray := name 0 x.back.length
def sendA (x : Wr) : Wr :=
  if (send x.a x.nameA x.win).2.2 = 0 then ⟨(send x.a x.nameA x.win).1, x.b, x.way ++ [(send x.a x.nameA x.win).2.1], putLast x.sent x.nameA, x.back, x.got, x.gotA, x.win, x.ret⟩ else x
def sendB (x : Wr) : Wr :=
  if (send x.b x.nameB x.win).2.2 = 0 then ⟨x.a, (send x.b x.nameB x.win).1, x.way ++ [(send x.b x.nameB x.win).2.1], x.sent, x.back ++ [x.nameB], x.got, x.gotA, x.win, x.ret⟩ else x
def take (x : Wr) (p : Pkt) (left : List Pkt) : Wr :=
  if p.ts = 0 then ⟨(Lnk.take x.a p).1, x.b, wayOf left (Lnk.take x.a p), x.sent, x.back, x.got, tookOf x.gotA (Lnk.take x.a p), x.win, x.ret⟩
  else ⟨x.a, (Lnk.take x.b p).1, wayOf left (Lnk.take x.b p), x.sent, x.back, tookOf x.got (Lnk.take x.b p), x.gotA, x.win, x.ret⟩
def come (x : Wr) (i : Nat) : Wr :=
  match x.way[i]? with
  | none => x
  | some p => x.take p (x.way.eraseIdx i)
def tickA (x : Wr) : Wr := ⟨(tick x.a x.ret).1, x.b, x.way ++ (tick x.a x.ret).2, x.sent, x.back, x.got, x.gotA, x.win, x.ret⟩
def tickB (x : Wr) : Wr := ⟨x.a, (tick x.b x.ret).1, x.way ++ (tick x.b x.ret).2, x.sent, x.back, x.got, x.gotA, x.win, x.ret⟩
def lose (x : Wr) (i : Nat) : Wr := ⟨x.a, x.b, x.way.take i ++ x.way.drop (i + 1), x.sent, x.back, x.got, x.gotA, x.win, x.ret⟩
def twice (x : Wr) (i : Nat) : Wr := ⟨x.a, x.b, x.way ++ x.way[i]?.toList, x.sent, x.back, x.got, x.gotA, x.win, x.ret⟩
def anew (x : Wr) : Wr := ⟨new 0 (x.sent.length + 1) 1, x.b, x.way, x.sent ++ [[]], x.back, x.got, [], x.win, x.ret⟩
/-- Which packet is meant. -/
def at_ (x : Wr) (n : Int) : Nat := ((IntKind.u64.wrap n).toNat % x.way.length)
def move (x : Wr) (k n : Int) (an : Bool) : Wr :=
  if k = 1 then x.sendA else if k = 2 then x.sendB else if k = 3 then x.tickA else if k = 4 then x.tickB
  else if k = 5 ∧ 0 < x.way.length then x.come (x.at_ n)
  else if k = 6 ∧ 0 < x.way.length then x.lose (x.at_ n)
  else if k = 7 ∧ 0 < x.way.length ∧ x.way.length < 200 then x.twice (x.at_ n)
  else if k = 8 ∧ an = true then x.anew else x
theorem putLast_one (S : List ByteArray) (b : ByteArray) : putLast [S] b = [S ++ [b]] := rfl
/-- What LinkFifo keeps. -/
structure Fifo (x : Wr) : Prop where
  one : x.sent.length = 1
  ma : x.a.ms = 0
  mb : x.b.ms = 1
  inv : Inv x.a x.b x.way (lastOf x.sent) x.got x.back x.gotA x.win
theorem begun_fifo {win ret : Int} (h : 0 ≤ win) : Fifo (begun win ret) := ⟨rfl, rfl, rfl, Inv.begun win h⟩
theorem erase_sub {l : List Pkt} {i : Nat} : ∀ q ∈ l.eraseIdx i, q ∈ l := fun _ hq => List.mem_of_mem_eraseIdx hq
theorem tick_ms (l : L) (r : Int) : (tick l r).1.ms = l.ms := by
  unfold tick
  split
  · rfl
  split <;> rfl
theorem Fifo.sendA {x : Wr} (h : Fifo x) : Fifo x.sendA := by
  obtain ⟨a, b, way, sent, back, got, gotA, win, ret⟩ := x
  have h1 := h.one
  match sent, h1 with
  | [S], _ =>
    unfold Wr.sendA
    split
    · rename_i h0
      refine ⟨rfl, ?_, h.mb, h.inv.send _ h0⟩
      have := h.ma
      show (Lnk.send a _ win).1.ms = 0
      unfold Lnk.send
      split <;> exact this
    · exact h
theorem Fifo.sendB {x : Wr} (h : Fifo x) : Fifo x.sendB := by
  unfold Wr.sendB
  split
  · rename_i h0
    refine ⟨h.one, h.ma, ?_, (h.inv.symm.send _ h0).symm⟩
    have := h.mb
    show (Lnk.send x.b _ x.win).1.ms = 1
    unfold Lnk.send
    split <;> exact this
  · exact h
theorem Fifo.take {x : Wr} (h : Fifo x) {p : Pkt} (hp : p ∈ x.way) {left : List Pkt} (hs : ∀ q ∈ left, q ∈ x.way) : Fifo (x.take p left) := by
  obtain ⟨_, _, hw⟩ := h.inv.ab.who p hp
  have ha := h.ma
  have hb := h.mb
  unfold Wr.take
  split
  · rename_i h0
    have hf : p.fs = x.b.ms := by omega
    exact ⟨h.one, (take_keeps x.a p).1.trans ha, hb, (h.inv.symm.comes hp hf hs).symm⟩
  · rename_i h0
    have hf : p.fs = x.a.ms := by omega
    exact ⟨h.one, ha, (take_keeps x.b p).1.trans hb, h.inv.comes hp hf hs⟩
theorem Fifo.come {x : Wr} (h : Fifo x) (i : Nat) : Fifo (x.come i) := by
  unfold Wr.come
  split
  · exact h
  · rename_i p hp
    exact h.take (List.mem_of_getElem? hp) erase_sub
theorem Fifo.tickA {x : Wr} (h : Fifo x) : Fifo x.tickA := ⟨h.one, (tick_ms _ _).trans h.ma, h.mb, h.inv.tick x.ret⟩
theorem Fifo.tickB {x : Wr} (h : Fifo x) : Fifo x.tickB := ⟨h.one, h.ma, (tick_ms _ _).trans h.mb, (h.inv.symm.tick x.ret).symm⟩
theorem lose_sub {l : List Pkt} {i : Nat} : ∀ q ∈ l.take i ++ l.drop (i + 1), q ∈ l := fun q hq => by
  rcases List.mem_append.1 hq with hq | hq
  · exact List.mem_of_mem_take hq
  · exact List.mem_of_mem_drop hq
theorem twice_sub {l : List Pkt} {i : Nat} : ∀ q ∈ l ++ l[i]?.toList, q ∈ l := fun q hq => by
  rcases List.mem_append.1 hq with hq | hq
  · exact hq
  · exact List.mem_of_getElem? (Option.mem_toList.1 hq)
theorem Fifo.lose {x : Wr} (h : Fifo x) (i : Nat) : Fifo (x.lose i) := ⟨h.one, h.ma, h.mb, h.inv.sub lose_sub⟩
theorem Fifo.twice {x : Wr} (h : Fifo x) (i : Nat) : Fifo (x.twice i) := ⟨h.one, h.ma, h.mb, h.inv.sub twice_sub⟩
theorem Fifo.move {x : Wr} (h : Fifo x) (k n : Int) : Fifo (x.move k n false) := by
  unfold Wr.move
  split
  · exact h.sendA
  split
  · exact h.sendB
  split
  · exact h.tickA
  split
  · exact h.tickB
  split
  · exact h.come _
  split
  · exact h.lose _
  split
  · exact h.twice _
  split
  · rename_i h8
    exact absurd h8.2 (by decide)
  · exact h
/-- What LinkStale keeps. -/
structure Old (x : Wr) : Prop where
  st : Stale x.a x.b x.way x.sent x.got
  nm : ∀ i S, x.sent[i]? = some S → ∀ b ∈ S, ∃ n : Int, b = name ((i + 1 : Nat) : Int) n
theorem begun_old (win ret : Int) : Old (begun win ret) := ⟨Stale.begun, fun i S hS b hb => by
  match i, hS with
  | 0, hS =>
    have : S = [] := by simpa [begun] using hS.symm
    subst this
    cases hb
  | i + 1, hS => simp [begun] at hS⟩
theorem lastOf_get {sent : List (List ByteArray)} (h : 1 ≤ sent.length) : sent[sent.length - 1]? = some (lastOf sent) := by
  unfold lastOf
  rw [List.getD_eq_getElem?_getD, List.getElem?_eq_getElem (by omega)]
  rfl
theorem Old.sendA {x : Wr} (h : Old x) : Old x.sendA := by
  unfold Wr.sendA
  split
  · rename_i h0
    refine ⟨h.st.send _ _ h0, fun i S hS b hb => ?_⟩
    have hn := h.st.n
    have hS' : (putLast x.sent x.nameA)[i]? = some S := hS
    unfold putLast at hS'
    rw [List.getElem?_set] at hS'
    split at hS'
    · rename_i hi
      split at hS'
      · injection hS' with hS'
        subst hS'
        rcases List.mem_append.1 hb with hb | hb
        · exact h.nm i _ (by rw [← hi]; exact lastOf_get hn) b hb
        · have : b = x.nameA := by simpa using hb
          refine ⟨((lastOf x.sent).length : Int), this.trans ?_⟩
          unfold nameA
          have he : (x.sent.length : Int) = ((i + 1 : Nat) : Int) := by omega
          rw [he]
      · cases hS'
    · exact h.nm i S hS' b hb
  · exact h
theorem Old.sendB {x : Wr} (h : Old x) : Old x.sendB := by
  unfold Wr.sendB
  split
  · rename_i h0
    refine ⟨?_, h.nm⟩
    unfold Lnk.send at h0 ⊢
    split at h0
    · simp at h0
    · rename_i hw
      rw [if_neg hw]
      exact h.st.says ⟨rfl, rfl, rfl, rfl, rfl⟩ fun q hq => ⟨_, _, by simpa using hq⟩
  · exact h
theorem Old.take {x : Wr} (h : Old x) {p : Pkt} (hp : p ∈ x.way) {left : List Pkt} (hs : ∀ q ∈ left, q ∈ x.way) : Old (x.take p left) := by
  unfold Wr.take
  split
  · rename_i h0
    have hf : p.fs = 1 := by
      rcases h.st.who p hp with h1 | h1
      · have := (h.st.fromA p hp h1).1; omega
      · exact h1
    exact ⟨h.st.hears hp hf hs, h.nm⟩
  · rename_i h0
    have hf : p.fs = 0 := by
      rcases h.st.who p hp with h1 | h1
      · exact h1
      · have := (h.st.fromB p hp h1).2; omega
    exact ⟨h.st.comes hp hf hs, h.nm⟩
theorem Old.come {x : Wr} (h : Old x) (i : Nat) : Old (x.come i) := by
  unfold Wr.come
  split
  · exact h
  · rename_i p hp
    exact h.take (List.mem_of_getElem? hp) erase_sub
theorem Old.tickA {x : Wr} (h : Old x) : Old x.tickA := ⟨h.st.tick x.ret, h.nm⟩
theorem Old.tickB {x : Wr} (h : Old x) : Old x.tickB := by
  refine ⟨?_, h.nm⟩
  show Stale x.a (Lnk.tick x.b x.ret).1 (x.way ++ (Lnk.tick x.b x.ret).2) x.sent x.got
  refine h.st.says ?_ ?_
  · unfold Lnk.tick
    split
    · exact ⟨rfl, rfl, rfl, rfl, rfl⟩
    split <;> exact ⟨rfl, rfl, rfl, rfl, rfl⟩
  · intro q hq
    unfold Lnk.tick at hq
    split at hq
    · cases hq
    split at hq
    · cases hq
    · obtain ⟨k, c, _, rfl⟩ := again_mem x.b.out 0 (by simpa using hq)
      exact ⟨_, c, rfl⟩
theorem Old.anew {x : Wr} (h : Old x) : Old x.anew := by
  refine ⟨h.st.anew, fun i S hS b hb => ?_⟩
  have hS' : (x.sent ++ [[]])[i]? = some S := hS
  rcases Nat.lt_trichotomy i x.sent.length with hi | hi | hi
  · rw [List.getElem?_append_left hi] at hS'
    exact h.nm i S hS' b hb
  · subst hi
    have : S = [] := by simpa using hS'.symm
    subst this
    cases hb
  · rw [List.getElem?_eq_none (by simp; omega)] at hS'
    cases hS'
theorem Old.move {x : Wr} (h : Old x) (k n : Int) (an : Bool) : Old (x.move k n an) := by
  unfold Wr.move
  split
  · exact h.sendA
  split
  · exact h.sendB
  split
  · exact h.tickA
  split
  · exact h.tickB
  split
  · exact h.come _
  split
  · exact ⟨h.st.sub lose_sub, h.nm⟩
  split
  · exact ⟨h.st.sub twice_sub, h.nm⟩
  split
  · exact h.anew
  · exact h
/-- How many of one row stand at the head of another one. -/
def common : List ByteArray → List ByteArray → Nat
  | s :: S, g :: G => if g = s then common S G + 1 else 0
  | _, _ => 0
/-- What is gone through, start by start. -/
def greedy : List (List ByteArray) → List ByteArray → Nat → Nat
  | [], _, i => i
  | S :: r, G, i => greedy r G (i + common S (G.drop i))
theorem common_pre : ∀ (P S R : List ByteArray), common (P ++ S) (P ++ R) = P.length + common S R
  | [], S, R => by simp
  | p :: P, S, R => by
    have := common_pre P S R
    simp only [List.cons_append, common, if_true, List.length_cons, this]
    omega
theorem segs_list {sent : List (List ByteArray)} {n : Nat} {G : List ByteArray} (h : Segs sent n G) : ∃ Ps : List (List ByteArray), Ps.length = n ∧ G = Ps.flatten ∧ ∀ i P, Ps[i]? = some P → P <+: sent.getD i [] := by
  induction h with
  | nil => exact ⟨[], rfl, rfl, fun i P h => by simp at h⟩
  | @more n G P h hp ih =>
    obtain ⟨Ps, h1, h2, h3⟩ := ih
    refine ⟨Ps ++ [P], by simp [h1], by simp [h2], fun i Q hQ => ?_⟩
    rcases Nat.lt_trichotomy i Ps.length with hi | hi | hi
    · rw [List.getElem?_append_left hi] at hQ
      exact h3 i Q hQ
    · subst hi
      have : Q = P := by simpa using hQ.symm
      subst this
      rw [h1]; exact hp
    · rw [List.getElem?_eq_none (by simp; omega)] at hQ
      cases hQ
theorem u8_inj {i j : Int} (hi : 0 ≤ i ∧ i < 256) (hj : 0 ≤ j ∧ j < 256) (h : u8 i = u8 j) : i = j := by
  unfold u8 at h
  have e : ∀ k : Int, 0 ≤ k ∧ k < 256 → (IntKind.u8.wrap k).toNat = k.toNat := fun k hk => by
    have : IntKind.u8.wrap k = k := by
      have h1 : IntKind.u8.signed = false := rfl
      have h2 : IntKind.u8.bits = 8 := rfl
      unfold IntKind.wrap
      simp only [h1, h2, Bool.false_and, Bool.false_eq_true, if_false]
      omega
    rw [this]
  rw [e i hi, e j hj] at h
  have := congrArg UInt8.toNat h
  simp only [UInt8.toNat_ofNat'] at this
  omega
theorem name_inc {i j n m : Int} (h : name i n = name j m) : u8 i = u8 j := by
  unfold name at h
  injection h with h
  have := congrArg (fun a : Array UInt8 => a[1]?) h
  simpa using this
/-- The greedy walk ends at the end: the rows' names tell them apart. -/
theorem greedy_all (sent : List (List ByteArray)) (hn : sent.length ≤ 254) (nm : ∀ i S, sent[i]? = some S → ∀ b ∈ S, ∃ n : Int, b = name ((i + 1 : Nat) : Int) n) :
    ∀ (r : List (List ByteArray)) (Ps : List (List ByteArray)) (k : Nat) (G : List ByteArray) (i : Nat), r = sent.drop k → Ps.length = r.length → (∀ j P, Ps[j]? = some P → P <+: sent.getD (k + j) []) → G.drop i = Ps.flatten → i ≤ G.length → greedy r G i = G.length
  | [], Ps, k, G, i, _, hl, _, hd, hi => by
    have : Ps = [] := List.eq_nil_of_length_eq_zero hl
    subst this
    have h1 : G.drop i = [] := by simpa using hd
    have := List.drop_eq_nil_iff.1 h1
    show i = G.length
    omega
  | S :: r, [], k, G, i, _, hl, _, _, _ => by simp at hl
  | S :: r, P :: Ps, k, G, i, hr, hl, hp, hd, hi => by
    have hk : sent[k]? = some S := by
      have : (sent.drop k)[0]? = some S := by rw [← hr]; rfl
      simpa using this
    have hP : P <+: S := by
      have := hp 0 P rfl
      simpa [List.getD_eq_getElem?_getD, hk] using this
    obtain ⟨S', hS'⟩ := hP
    have hd' : G.drop i = P ++ Ps.flatten := by rw [hd]; rfl
    have hz : common S' Ps.flatten = 0 := by
      match S', hS' with
      | [], _ => rfl
      | s :: S'', hS' =>
        match hf : Ps.flatten with
        | [] => rfl
        | g :: R =>
          unfold common
          rw [if_neg]
          intro e
          have hg : g ∈ Ps.flatten := by rw [hf]; exact List.mem_cons_self
          obtain ⟨Q, hQ, hgQ⟩ := List.mem_flatten.1 hg
          obtain ⟨j, hj⟩ := List.mem_iff_getElem?.1 hQ
          have h1 := hp (j + 1) Q (by simpa using hj)
          have hgs : g ∈ sent.getD (k + (j + 1)) [] := h1.subset hgQ
          have hlt : k + (j + 1) < sent.length := by
            rcases Nat.lt_or_ge (k + (j + 1)) sent.length with h2 | h2
            · exact h2
            · rw [List.getD_eq_getElem?_getD, List.getElem?_eq_none h2] at hgs
              cases hgs
          have hget : sent[k + (j + 1)]? = some (sent.getD (k + (j + 1)) []) := by
            rw [List.getD_eq_getElem?_getD, List.getElem?_eq_getElem hlt]; rfl
          obtain ⟨n, hn1⟩ := nm _ _ hget g hgs
          obtain ⟨m, hm1⟩ := nm k S hk s (by rw [← hS']; simp)
          have hu := name_inc (hn1.symm.trans (e.trans hm1))
          have := u8_inj (by omega) (by omega) hu
          omega
    have hc : common S (G.drop i) = P.length := by rw [hd', ← hS', common_pre, hz]; rfl
    unfold greedy
    rw [hc]
    refine greedy_all sent hn nm r Ps (k + 1) G (i + P.length) ?_ ?_ ?_ ?_ ?_
    · have : sent.drop (k + 1) = (sent.drop k).tail := by rw [List.tail_drop]
      rw [this, ← hr]; rfl
    · simpa using hl
    · intro j Q hQ
      have := hp (j + 1) Q (by simpa using hQ)
      rwa [show k + 1 + j = k + (j + 1) from by omega]
    · rw [← List.drop_drop, hd', List.drop_left]
    · have := congrArg List.length hd'
      rw [List.length_drop, List.length_append] at this
      omega
theorem Old.ends {x : Wr} (h : Old x) (hn : x.sent.length ≤ 254) : greedy x.sent x.got 0 = x.got.length := by
  have hs : Segs x.sent x.sent.length x.got := by
    have hb := h.st.bpc
    by_cases h0 : x.b.pc = 0
    · rw [(h.st.b0 h0).1]
      have := (Segs.nil (sent := x.sent)).pad x.sent.length
      rwa [Nat.zero_add] at this
    · obtain ⟨G, P, e1, e2, e3, _⟩ := h.st.took (by omega)
      have h4 := (Segs.more e2 e3).pad (x.sent.length - ((x.b.pc - 1).toNat + 1))
      rw [← e1] at h4
      have h5 : (x.b.pc - 1).toNat + 1 + (x.sent.length - ((x.b.pc - 1).toNat + 1)) = x.sent.length := by omega
      rwa [h5] at h4
  obtain ⟨Ps, h1, h2, h3⟩ := segs_list hs
  exact greedy_all x.sent hn h.nm x.sent Ps 0 x.got 0 rfl h1 (fun j P hP => by rw [Nat.zero_add]; exact h3 j P hP) h2 (Nat.zero_le _)
end Wr
end Lnk
end Go.Proofs.Ytamjcghdebjpjaa
