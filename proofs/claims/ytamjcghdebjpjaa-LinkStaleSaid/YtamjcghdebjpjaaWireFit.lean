/-
  Numbers of two ends and of what is on its way: none grows past the moves.
  No condition but those named.
-/
import Derived.Test.YtamjcghdebjpjaaWireM
import Derived.Test.YtamjcghdebjpjaaLnkTick
import Derived.Test.YtamjcghdebjpjaaLnkTake
set_option linter.unusedSimpArgs false
set_option linter.unusedVariables false
namespace Go.Proofs.Ytamjcghdebjpjaa
namespace Lnk
/-- An end behind so many moves. -/
structure Num (n : Nat) (win : Int) (l : L) : Prop where
  b1 : 1 ≤ l.base
  bn : l.base + l.out.length ≤ 1 + n
  g0 : 0 ≤ l.got
  g1 : l.got ≤ n
  a0 : 0 ≤ l.age
  a1 : l.age ≤ 1000
  ol : (l.out.length : Int) ≤ win
theorem j00 : (0 : Int) ≤ 0 := by decide
theorem j01k : (0 : Int) ≤ 1000 := by decide
theorem Num.more {n k : Nat} {win : Int} {l : L} (h : Num n win l) (hk : n ≤ k) : Num k win l := ⟨h.b1, by have := h.bn; omega, h.g0, by have := h.g1; omega, h.a0, h.a1, h.ol⟩
theorem Num.new (ms mc slot : Int) {n : Nat} {win : Int} (h : 1 ≤ win) : Num n win (Lnk.new ms mc slot) :=
  ⟨by show (1 : Int) ≤ 1; decide, by show (1 : Int) + ((0 : Nat) : Int) ≤ 1 + n; omega, j00, by show (0 : Int) ≤ _; omega, j00, j01k, by show (((0 : Nat) : Int)) ≤ win; omega⟩
theorem Num.meet {n : Nat} {win : Int} {l : L} (h : Num n win l) (hw : 1 ≤ win) (i : Int) : Num n win (Lnk.meet l i) := by
  have hb := h.bn
  rcases meet_is l i with ⟨_, e⟩ | ⟨_, _, e⟩ | ⟨_, _, e⟩ <;> rw [e]
  · exact h
  · exact ⟨h.b1, h.bn, j00, by show (0 : Int) ≤ _; omega, j00, j01k, h.ol⟩
  · exact ⟨by show (1 : Int) ≤ 1; decide, by show (1 : Int) + ((0 : Nat) : Int) ≤ _; omega, j00, by show (0 : Int) ≤ _; omega, j00, j01k, by show (((0 : Nat) : Int)) ≤ win; omega⟩
theorem Num.leave {n : Nat} {win : Int} {l : L} (h : Num n win l) (a : Int) : Num n win (leaveL l a) := by
  unfold leaveL
  split
  · rename_i hc
    have hb := h.b1
    have hn := h.bn
    have ho := h.ol
    refine ⟨by show 1 ≤ a + 1; omega, ?_, h.g0, h.g1, j00, j01k, ?_⟩
    · show a + 1 + (((l.out.drop (a - l.base + 1).toNat).length : Nat) : Int) ≤ _
      rw [List.length_drop]
      omega
    · show (((l.out.drop (a - l.base + 1).toNat).length : Nat) : Int) ≤ _
      rw [List.length_drop]
      omega
  · exact h
theorem Num.heard {n : Nat} {win : Int} {l : L} (h : Num n win l) (hw : 1 ≤ win) (p : Pkt) : Num n win (Lnk.heard l p) := by
  rw [heard_leave]
  split
  · exact h.meet hw _
  · exact (h.meet hw _).leave _
theorem Num.send {n : Nat} {win : Int} {l : L} (h : Num n win l) (b : ByteArray) : Num (n + 1) win (Lnk.send l b win).1 ∧ (0 ≤ (Lnk.send l b win).2.1.ack ∧ (Lnk.send l b win).2.1.ack ≤ (n + 1 : Nat)) := by
  have hb := h.bn
  have hg := h.g1
  have hg0 := h.g0
  rcases send_is l b win with ⟨_, e⟩ | ⟨_, e⟩ <;> rw [e]
  · exact ⟨h.more (by omega), by show (0 : Int) ≤ 0; decide, by show (0 : Int) ≤ _; omega⟩
  · refine ⟨⟨h.b1, ?_, h.g0, by show l.got ≤ _; omega, h.a0, h.a1, ?_⟩, by show 0 ≤ l.got; omega, by show l.got ≤ _; omega⟩
    · show l.base + (((l.out ++ [b]).length : Nat) : Int) ≤ _
      rw [List.length_append]
      simp
      omega
    · show (((l.out ++ [b]).length : Nat) : Int) ≤ _
      rw [List.length_append]
      simp
      omega
theorem Num.tick {n : Nat} {win : Int} {l : L} (h : Num n win l) (r : Int) : Num n win (Lnk.tick l r).1 ∧ ((Lnk.tick l r).2.length : Int) ≤ win ∧ ∀ p ∈ (Lnk.tick l r).2, 0 ≤ p.ack ∧ p.ack ≤ (n : Nat) := by
  have ho := h.ol
  have h0 := h.g0
  have h1 := h.g1
  rcases tick_is l r with ⟨_, ha, _, e⟩ | ⟨_, e⟩ <;> rw [e]
  · have := h.a0
    exact ⟨⟨h.b1, h.bn, h.g0, h.g1, by show 0 ≤ l.age + 1; omega, by show l.age + 1 ≤ 1000; omega, h.ol⟩, by show (((0 : Nat) : Int)) ≤ win; omega, fun p hp => by cases hp⟩
  · refine ⟨⟨h.b1, h.bn, h.g0, h.g1, j00, j01k, h.ol⟩, by show (((Lnk.again l l.out 0).length : Nat) : Int) ≤ _; rw [again_len]; exact ho, fun p hp => ?_⟩
    obtain ⟨k, c, _, rfl⟩ := again_mem l.out 0 (by simpa using hp)
    exact ⟨h0, h1⟩
theorem Num.take {n : Nat} {win : Int} {l : L} (h : Num n win l) (hw : 1 ≤ win) (p : Pkt) : Num (n + 1) win (Lnk.take l p).1 ∧ (0 ≤ (Lnk.take l p).2.2.2.1.ack ∧ (Lnk.take l p).2.2.2.1.ack ≤ (n + 1 : Nat)) := by
  have hh := h.heard hw p
  have h0 := hh.g0
  have h1 := hh.g1
  rcases take_is l p with ⟨_, e⟩ | ⟨_, _, e⟩ | ⟨_, _, _, e⟩ | ⟨_, h2, _, h3, e⟩ <;> rw [e]
  · exact ⟨h.more (by omega), by show (0 : Int) ≤ 0; decide, by show (0 : Int) ≤ _; omega⟩
  · exact ⟨hh.more (by omega), by show (0 : Int) ≤ 0; decide, by show (0 : Int) ≤ _; omega⟩
  · exact ⟨hh.more (by omega), h0, by show (Lnk.heard l p).got ≤ _; omega⟩
  · exact ⟨⟨hh.b1, (hh.more (Nat.le_succ n)).bn, by show 0 ≤ p.seq; omega, by show p.seq ≤ _; omega, hh.a0, hh.a1, hh.ol⟩, by show 0 ≤ p.seq; omega, by show p.seq ≤ _; omega⟩
namespace Wr
/-- Behind n moves, m of which made packets. -/
structure Fits (n m : Nat) (x : Wr) : Prop where
  a : Num n x.win x.a
  b : Num n x.win x.b
  w1 : 1 ≤ x.win
  w8 : x.win ≤ 8
  r1 : 1 ≤ x.ret
  r5 : x.ret ≤ 5
  way : x.way.length ≤ 8 * m
  acks : ∀ p ∈ x.way, 0 ≤ p.ack ∧ p.ack ≤ (n : Nat)
  s1 : 1 ≤ x.sent.length
  sn : x.sent.length ≤ n + 1
  sr : ∀ S ∈ x.sent, S.length ≤ n
  bk : x.back.length ≤ n
  gt : x.got.length ≤ n
  ga : x.gotA.length ≤ n
theorem Fits.begun {win ret : Int} (h1 : 1 ≤ win) (h2 : win ≤ 8) (h3 : 1 ≤ ret) (h4 : ret ≤ 5) : Fits 0 0 (begun win ret) :=
  ⟨Num.new _ _ _ h1, Num.new _ _ _ h1, h1, h2, h3, h4, Nat.le_refl _, fun p hp => (by cases hp), Nat.le_refl 1, Nat.le_refl 1, fun S hS => by
    have : S = [] := by simpa [Wr.begun] using hS
    subst this; exact Nat.le_refl 0, Nat.le_refl 0, Nat.le_refl 0, Nat.le_refl 0⟩
theorem Fits.more {n m n' m' : Nat} {x : Wr} (h : Fits n m x) (hn : n ≤ n') (hm : m ≤ m') : Fits n' m' x :=
  ⟨h.a.more hn, h.b.more hn, h.w1, h.w8, h.r1, h.r5, by have := h.way; omega, fun p hp => ⟨(h.acks p hp).1, by have := (h.acks p hp).2; omega⟩, h.s1, by have := h.sn; omega, fun S hS => Nat.le_trans (h.sr S hS) hn, Nat.le_trans h.bk hn, Nat.le_trans h.gt hn, Nat.le_trans h.ga hn⟩
theorem Fits.sendA {n m : Nat} {x : Wr} (h : Fits n m x) : Fits (n + 1) (m + 1) x.sendA := by
  have h' := h.more (Nat.le_succ n) (Nat.le_succ m)
  unfold Wr.sendA
  split
  · obtain ⟨q1, q2⟩ := h.a.send x.nameA
    have hl : (putLast x.sent x.nameA).length = x.sent.length := by unfold putLast; simp
    refine ⟨q1, h'.b, h.w1, h.w8, h.r1, h.r5, ?_, ?_, by rw [hl]; exact h.s1, by rw [hl]; exact h'.sn, ?_, h'.bk, h'.gt, h'.ga⟩
    · have := h.way
      show (x.way ++ _).length ≤ _
      rw [List.length_append]; simp; omega
    · intro p hp
      rcases List.mem_append.1 hp with hp | hp
      · exact h'.acks p hp
      · obtain rfl := List.mem_singleton.1 hp
        exact q2
    · intro S hS
      have hS' : S ∈ putLast x.sent x.nameA := hS
      unfold putLast at hS'
      rcases List.mem_or_eq_of_mem_set hS' with h1 | h1
      · exact h'.sr S h1
      · rw [h1, List.length_append]
        have hs1 := h.s1
        have := h.sr _ (List.mem_of_getElem? (lastOf_get h.s1))
        unfold lastOf at this
        simp
        simp at this
        omega
  · exact h'
theorem Fits.sendB {n m : Nat} {x : Wr} (h : Fits n m x) : Fits (n + 1) (m + 1) x.sendB := by
  have h' := h.more (Nat.le_succ n) (Nat.le_succ m)
  unfold Wr.sendB
  split
  · obtain ⟨q1, q2⟩ := h.b.send x.nameB
    refine ⟨h'.a, q1, h.w1, h.w8, h.r1, h.r5, ?_, ?_, h.s1, h'.sn, h'.sr, ?_, h'.gt, h'.ga⟩
    · have := h.way
      show (x.way ++ _).length ≤ _
      rw [List.length_append]; simp; omega
    · intro p hp
      rcases List.mem_append.1 hp with hp | hp
      · exact h'.acks p hp
      · obtain rfl := List.mem_singleton.1 hp
        exact q2
    · have := h.bk
      show (x.back ++ _).length ≤ _
      rw [List.length_append]; simp; omega
  · exact h'
theorem wayOf_len (l : List Pkt) (r : L × ByteArray × Bool × Pkt × Bool) : (wayOf l r).length ≤ l.length + 1 := by
  unfold wayOf
  split
  · simp
  · omega
theorem tookOf_len (l : List ByteArray) (r : L × ByteArray × Bool × Pkt × Bool) : (tookOf l r).length ≤ l.length + 1 := by
  unfold tookOf
  split
  · simp
  · omega
theorem wayOf_mem {l : List Pkt} {r : L × ByteArray × Bool × Pkt × Bool} {p : Pkt} (h : p ∈ wayOf l r) : p ∈ l ∨ p = r.2.2.2.1 := by
  unfold wayOf at h
  split at h
  · rcases List.mem_append.1 h with h | h
    · exact .inl h
    · exact .inr (by simpa using h)
  · exact .inl h
theorem Fits.take {n m : Nat} {x : Wr} (h : Fits n m x) {p : Pkt} {left : List Pkt} (hl : left.length + 1 ≤ 8 * m) (hs : ∀ q ∈ left, q ∈ x.way) : Fits (n + 1) m (x.take p left) := by
  have h' := h.more (Nat.le_succ n) (Nat.le_refl m)
  unfold Wr.take
  split
  · obtain ⟨q1, q2⟩ := h.a.take h.w1 p
    refine ⟨q1, h'.b, h.w1, h.w8, h.r1, h.r5, Nat.le_trans (wayOf_len _ _) hl, fun q hq => ?_, h.s1, h'.sn, h'.sr, h'.bk, h'.gt, Nat.le_trans (tookOf_len _ _) (by have := h.ga; omega)⟩
    rcases wayOf_mem hq with hq | rfl
    · exact h'.acks q (hs q hq)
    · exact q2
  · obtain ⟨q1, q2⟩ := h.b.take h.w1 p
    refine ⟨h'.a, q1, h.w1, h.w8, h.r1, h.r5, Nat.le_trans (wayOf_len _ _) hl, fun q hq => ?_, h.s1, h'.sn, h'.sr, h'.bk, Nat.le_trans (tookOf_len _ _) (by have := h.gt; omega), h'.ga⟩
    rcases wayOf_mem hq with hq | rfl
    · exact h'.acks q (hs q hq)
    · exact q2
theorem Fits.come {n m : Nat} {x : Wr} (h : Fits n m x) (i : Nat) : Fits (n + 1) m (x.come i) := by
  unfold Wr.come
  split
  · exact h.more (Nat.le_succ n) (Nat.le_refl m)
  · rename_i p hp
    have hi := (List.getElem?_eq_some_iff.1 hp).1
    have hw := h.way
    exact h.take (by rw [List.length_eraseIdx_of_lt hi]; omega) erase_sub
theorem Fits.tickA {n m : Nat} {x : Wr} (h : Fits n m x) : Fits n (m + 1) x.tickA := by
  have h' := h.more (Nat.le_refl n) (Nat.le_succ m)
  obtain ⟨q1, q2, q3⟩ := h.a.tick x.ret
  have hw := h.way
  have h8 := h.w8
  refine ⟨q1, h'.b, h.w1, h.w8, h.r1, h.r5, ?_, fun p hp => ?_, h.s1, h'.sn, h'.sr, h'.bk, h'.gt, h'.ga⟩
  · show (x.way ++ _).length ≤ _
    rw [List.length_append]; omega
  · rcases List.mem_append.1 hp with hp | hp
    · exact h'.acks p hp
    · exact q3 p hp
theorem Fits.tickB {n m : Nat} {x : Wr} (h : Fits n m x) : Fits n (m + 1) x.tickB := by
  have h' := h.more (Nat.le_refl n) (Nat.le_succ m)
  obtain ⟨q1, q2, q3⟩ := h.b.tick x.ret
  have hw := h.way
  have h8 := h.w8
  refine ⟨h'.a, q1, h.w1, h.w8, h.r1, h.r5, ?_, fun p hp => ?_, h.s1, h'.sn, h'.sr, h'.bk, h'.gt, h'.ga⟩
  · show (x.way ++ _).length ≤ _
    rw [List.length_append]; omega
  · rcases List.mem_append.1 hp with hp | hp
    · exact h'.acks p hp
    · exact q3 p hp
theorem Fits.move {n m : Nat} {x : Wr} (h : Fits n m x) (k j : Int) (an : Bool) : Fits (n + 1) (m + 1) (x.move k j an) := by
  have h' := h.more (Nat.le_succ n) (Nat.le_succ m)
  have hw := h.way
  unfold Wr.move
  split
  · exact h.sendA
  split
  · exact h.sendB
  split
  · exact h.tickA.more (Nat.le_succ n) (Nat.le_refl _)
  split
  · exact h.tickB.more (Nat.le_succ n) (Nat.le_refl _)
  split
  · exact (h.come _).more (Nat.le_refl _) (Nat.le_succ m)
  split
  · exact ⟨h'.a, h'.b, h.w1, h.w8, h.r1, h.r5, by show (_ ++ _ : List Pkt).length ≤ _; rw [List.length_append, List.length_take, List.length_drop]; omega, fun p hp => h'.acks p (lose_sub p hp), h.s1, h'.sn, h'.sr, h'.bk, h'.gt, h'.ga⟩
  split
  · refine ⟨h'.a, h'.b, h.w1, h.w8, h.r1, h.r5, ?_, fun p hp => h'.acks p (twice_sub p hp), h.s1, h'.sn, h'.sr, h'.bk, h'.gt, h'.ga⟩
    show (x.way ++ (x.way[x.at_ j]?).toList).length ≤ _
    rw [List.length_append]
    have : (x.way[x.at_ j]?).toList.length ≤ 1 := by cases x.way[x.at_ j]? <;> simp
    omega
  split
  · have hsn := h.sn
    refine ⟨Num.new _ _ _ h.w1, h'.b, h.w1, h.w8, h.r1, h.r5, h'.way, h'.acks, by show 1 ≤ (x.sent ++ [[]]).length; simp, by show (x.sent ++ [[]]).length ≤ _; simp; omega, fun S hS => ?_, h'.bk, h'.gt, Nat.zero_le _⟩
    rcases List.mem_append.1 hS with hS | hS
    · exact h'.sr S hS
    · have : S = [] := by simpa using hS
      subst this; exact Nat.zero_le _
  · exact h'
end Wr
end Lnk
end Go.Proofs.Ytamjcghdebjpjaa
