/-
  Rows of messages that grow beside one another, and a call of do whose messages' block is known.
  No condition but those named.
-/
import Derived.Test.YtkajnmlglgjocaaPostGood
import Derived.WalkKit
import Derived.WalkSpells
import Derived.WalkLawsBesides
import Derived.Handy
import Derived.Deep.QuietTactic
import Derived.BigQuiet
import Derived.Deep.RegionWith
import Derived.Deep.RegionHeld3
import Derived.Deep.Draws
import Derived.Lib.Hide
import Derived.Lib.LazyBuf
namespace Go.Proofs.Ytkajnmlglgjocaa
open Go.RowKit


/-- Two rows share no block. -/
def Apart (u v : Value) : Prop := ∀ k, u.ownBlock = some k → v.ownBlock ≠ some k
theorem Apart.symm {u v : Value} (h : Apart u v) : Apart v u := fun k hk h' => h k h' hk
/-- What an append onto a row of the law's own leaves. -/
structure Grew (base : Nat) (w : World) (v : Value) (w' : World) (v' : Value) (l : List Pst.Mail) : Prop where
  own : mailLay.Own base w' v' l
  far : ∀ {g : Nat} {t : TypeId} {cs : Array Value}, Blk w g t cs → v.ownBlock ≠ some g → Blk w' g t cs
  blk : v'.ownBlock = v.ownBlock ∨ ∃ j, v'.ownBlock = some j ∧ w.heap.size ≤ j
  below : Below base w w'
theorem Grew.row {base b2 : Nat} {w w' : World} {v v' u : Value} {l lu : List Pst.Mail} (h : Grew base w v w' v' l) (hu : mailLay.Own b2 w u lu) (ha : Apart u v) : mailLay.Own b2 w' u lu := by
  refine ⟨hu.1, ?_⟩
  rcases hu.2 with h0 | ⟨g', cap, cur, hv, hb, hg', hr⟩
  · exact .inl h0
  · exact .inr ⟨g', cap, cur, hv, hb, h.far hg' (ha g' (by rw [hv]; rfl)), hr⟩
theorem Grew.good {base b2 k c : Nat} {w0 w w' : World} {v v' : Value} {l lp : List Pst.Mail} {A : Option Addr} (h : Grew base w v w' v' l) (hg : Good w0 b2 w A c lp k) (ha : v.ownBlock ≠ some k) : Good w0 b2 w' A c lp k := by
  rcases hg with ⟨h1, h2⟩ | h1
  · refine .inl ⟨h.row h1 (fun j hj e => ?_), h2⟩
    rcases h2 with h2 | h2
    · rw [h2] at hj; injection hj with hj; subst hj; exact ha e
    · rw [h2] at hj; cases hj
  · exact .inr h1
theorem Grew.apart {base b2 : Nat} {w w' : World} {v v' u : Value} {l lu : List Pst.Mail} (h : Grew base w v w' v' l) (hu : mailLay.Own b2 w u lu) (ha : Apart u v) : Apart u v' := fun k hk e => by
  rcases h.blk with h1 | ⟨j, h1, h2⟩
  · rw [h1] at e; exact ha k hk e
  · rw [h1] at e; injection e with e
    have := (World.ownsRow.lt hu k hk).2
    omega
theorem Grew.ne {base k : Nat} {w w' : World} {v v' : Value} {l : List Pst.Mail} (h : Grew base w v w' v' l) (hk : k < w.heap.size) (ha : v.ownBlock ≠ some k) : v'.ownBlock ≠ some k := fun e => by
  rcases h.blk with h1 | ⟨j, h1, h2⟩
  · rw [h1] at e; exact ha e
  · rw [h1] at e; injection e with e; omega
theorem Grew.size {base : Nat} {w w' : World} {v v' : Value} {l : List Pst.Mail} (h : Grew base w v w' v' l) : w.heap.size ≤ w'.heap.size := h.below.size
theorem wpList_pushA {ops : Array Oper} {rest : List Oper} {o : Oper} {a : Act} {Q : Exit → Act → World → Prop} (hgd : o.guard = none) (s x : Operand)
    (ho : o.op = .call { callee := .builtin .append, args := #[s, x], argTypes := #[22, 22] })
    (base : Nat) (w : World) (v : Value) (l : List Pst.Mail) (m : Pst.Mail) (C : Array Value) (g : Nat) (hs : a.eval s = v) (hx : a.eval x = .slice (some ⟨g, 0, none⟩) 1 1)
    (hC : C = (mailLay.flat [m]).toArray) (hg : g = w.heap.size) (hrow : Hid (mailLay.Own base w v l)) (hl : Hid (l.length ≤ 1000)) (hb : Hid (base ≤ w.heap.size))
    (h : ∀ v' w', Hid (Grew base w v w' v' (l ++ [m])) → wpList Try.prog ops Q rest (a.put o.dst v') w') :
    wpList Try.prog ops Q (o :: rest) a (w.alloc (.cells C 27)) := by
  obtain ⟨i0, hi, hz0, hz1, hz2⟩ := info_parts mailLay.info
  have hl := hl.out
  have hb := hb.out
  have hrow := hrow.out
  refine wpList_append_src _ hgd s x _ _ ho base _ i0 mailLay.z 4 40 mailLay.und hi hz0 hz1 hz2 mailLay.zs (by decide) (by decide) v l.length (mailLay.flat l) hs (hrow.alloc _) 1 (mailLay.flat [m]) _ hx (mailLay.src_new w [m] C hC 1 1 g hg rfl)
    (by unfold maxLen; omega) (by omega) (by simp; omega) ?_
  intro v' w' hown hgr hal
  refine h v' w' (Lib.hid ⟨?_, fun {g' t cs} hb' hne => ?_, ?_, ?_⟩)
  · unfold Lay.Own
    rw [List.length_append, Lay.flat_append]
    exact hown
  · exact (hgr.block g' (hb'.alloc _).lt (fun e => hne e.symm)).trans (hb'.alloc _)
  · rcases hal with h1 | h1
    · exact .inl h1
    · exact .inr ⟨_, h1, by simp⟩
  · exact ((Below.refl base w).alloc hb _).grown hgr (by simp; omega) (fun k hk => (World.ownsRow.lt (hrow.alloc (.cells C 27)) k hk).1)
theorem wpList_moreA {ops : Array Oper} {rest : List Oper} {o : Oper} {a : Act} {Q : Exit → Act → World → Prop} (hgd : o.guard = none) (s x : Operand)
    (ho : o.op = .call { callee := .builtin .append, args := #[s, x], argTypes := #[22, 22] })
    (base : Nat) (w : World) (v : Value) (l : List Pst.Mail) (A : Option Addr) (c B : Nat) (m : List Pst.Mail) (hs : a.eval s = v) (hx : a.eval x = .slice A m.length c)
    (hrow : Hid (mailLay.Own base w v l)) (hI : Hid (mailLay.Reads w B A m ∧ (A = none → m = []))) (hl : Hid (l.length ≤ 1000 ∧ m.length ≤ 1000)) (hb : Hid (base ≤ w.heap.size))
    (h : ∀ v' w', Hid (Grew base w v w' v' (l ++ m)) → wpList Try.prog ops Q rest (a.put o.dst v') w') :
    wpList Try.prog ops Q (o :: rest) a w := by
  obtain ⟨i0, hi, hz0, hz1, hz2⟩ := info_parts mailLay.info
  obtain ⟨hl1, hl2⟩ := hl.out
  have hb := hb.out
  have hrow := hrow.out
  refine wpList_append_src _ hgd s x _ _ ho base _ i0 mailLay.z 4 40 mailLay.und hi hz0 hz1 hz2 mailLay.zs (by decide) (by decide) v l.length (mailLay.flat l) hs hrow m.length (mailLay.flat m) _ hx (hI.out.1.src c hI.out.2)
    (by unfold maxLen; omega) (by omega) hb ?_
  intro v' w' hown hgr hal
  refine h v' w' (Lib.hid ⟨?_, fun {g' t cs} hb' hne => ?_, ?_, ?_⟩)
  · unfold Lay.Own
    rw [List.length_append, Lay.flat_append]
    exact hown
  · exact (hgr.block g' hb'.lt (fun e => hne e.symm)).trans hb'
  · rcases hal with h1 | h1
    · exact .inl h1
    · exact .inr ⟨_, h1, Nat.le_refl _⟩
  · exact (Below.refl base w).grown hgr hb (fun k hk => (World.ownsRow.lt hrow k hk).1)
/-- What do answers, and in which block its messages are. -/
def IsGoodD (w0 : World) (base k0 : Nat) (r : Pst.P × Pst.Mail × Bool × Int) (W : World) (e : Ending) (W' : World) : Prop := ∃ A c k, e = .returned (.tuple #[pv A r.1.m.length c r.1.s, mailV r.2.1, .bool r.2.2.1, .int .i64 r.2.2.2]) ∧ Good w0 base W' A c r.1.m k ∧ (k = k0 ∨ (W.heap.size ≤ k ∧ k < W'.heap.size)) ∧ Below W.heap.size W W'
theorem do_goodD {w0 W0 : World} {base : Nat} {A : Option Addr} {c k : Nat} {p : Pst.P} (o : Pst.Op) (hb : 0 ≤ o.b ∧ o.b < 256) (h0 : Below w0.heap.size w0 W0) (hbase : base ≤ W0.heap.size) (hg : Good w0 base W0 A c p.m k) (hl : p.m.length ≤ 5000000000000) :
    Hid (∀ W, Below W0.heap.size W0 W → Calls Try.prog 8 #[.agg (pc A p.m.length c p.s), opV o] W (IsGoodD w0 base k (Pst.step p o) W)) := Lib.hid fun W hW => by
  obtain ⟨h1, h2, h3⟩ := (hg.later hW).reads (h0.trans (hW.mono h0.size))
  refine (do_any A c p o W hl h1 h2 h3 hb).mono fun e w' h => ?_
  obtain ⟨A1, c1, he, ho, hb⟩ := h
  rcases ho with ho | ⟨rfl, rfl, hlm⟩
  · have h4 := World.ownsRow.lt ho
    have h5 := ho.mono (Nat.le_trans hbase hW.size)
    cases hv : (Value.slice A1 (Pst.step p o).1.m.length c1).ownBlock with
    | none => exact ⟨A1, c1, k, he, .inl ⟨h5, .inr hv⟩, .inl rfl, hb⟩
    | some k1 => exact ⟨A1, c1, k1, he, .inl ⟨h5, .inl hv⟩, .inr (h4 k1 hv), hb⟩
  · refine ⟨A1, c1, k, he, ?_, .inl rfl, hb⟩
    rw [hlm]
    exact (hg.later hW).later hb
/-- The two rows of PostTrue, apart from each other and from the post's. -/
structure Rows2 (base : Nat) (W : World) (vs ve : Value) (sent seen : List Pst.Mail) (r : Nat) : Prop where
  s : mailLay.Own base W vs sent
  e : mailLay.Own base W ve seen
  se : Apart vs ve
  sp : vs.ownBlock ≠ some r
  ep : ve.ownBlock ≠ some r
theorem Rows2.later {base : Nat} {W W' : World} {vs ve : Value} {sent seen : List Pst.Mail} {r r' : Nat} (h : Rows2 base W vs ve sent seen r) (hb : Below W.heap.size W W') (hr : r' = r ∨ W.heap.size ≤ r') : Rows2 base W' vs ve sent seen r' := by
  refine ⟨h.s.below hb, h.e.below hb, h.se, fun e => ?_, fun e => ?_⟩
  · rcases hr with rfl | hr
    · exact h.sp e
    · have := (World.ownsRow.lt h.s r' e).2; omega
  · rcases hr with rfl | hr
    · exact h.ep e
    · have := (World.ownsRow.lt h.e r' e).2; omega
theorem Rows2.turned {base b : Nat} {W W' : World} {vs ve : Value} {sent seen : List Pst.Mail} {r : Nat} (h : Rows2 base W vs ve sent seen r) (hT : Turns b 25 W W') : Rows2 base W' vs ve sent seen r := ⟨h.s.turned ne_mp hT, h.e.turned ne_mp hT, h.se, h.sp, h.ep⟩
theorem Rows2.sent {base : Nat} {W W' : World} {vs ve v' : Value} {sent seen l : List Pst.Mail} {r : Nat} (h : Rows2 base W vs ve sent seen r) (hG : Grew base W vs W' v' l) (hr : r < W.heap.size) : Rows2 base W' v' ve l seen r :=
  ⟨hG.own, hG.row h.e h.se.symm, (hG.apart h.e h.se.symm).symm, hG.ne hr h.sp, h.ep⟩
theorem Rows2.seen {base : Nat} {W W' : World} {vs ve v' : Value} {sent seen l : List Pst.Mail} {r : Nat} (h : Rows2 base W vs ve sent seen r) (hG : Grew base W ve W' v' l) (hr : r < W.heap.size) : Rows2 base W' vs v' sent l r :=
  ⟨hG.row h.s h.se, hG.own, hG.apart h.s h.se, h.sp, hG.ne hr h.ep⟩
/-- What is known of the messages. -/
structure Mine (sent seen : List Pst.Mail) (p : Pst.P) : Prop where
  p : Pst.Each (Pst.Good sent) p
  e : ∀ x ∈ seen, Pst.Good sent x
  z : ∀ y ∈ sent, y.d.size ≤ 9223372036854775807
theorem Mine.step {sent seen : List Pst.Mail} {p : Pst.P} (h : Mine sent seen p) (o : Pst.Op) (ho : o.m.d.size ≤ 9223372036854775807) : Mine (Pst.sentOf sent p o) (Pst.seenOf seen p o) (Pst.step p o).1 := by
  refine ⟨Pst.good_step h.p o, Pst.good_seen h.p h.e o, fun y hy => ?_⟩
  unfold Pst.sentOf at hy
  split at hy
  · rcases List.mem_append.1 hy with hy | hy
    · exact h.z y hy
    · simp at hy; subst hy; exact ho
  · exact h.z y hy
theorem good_fit {sent : List Pst.Mail} {x : Pst.Mail} (h : Pst.Good sent x) (hz : ∀ y ∈ sent, y.d.size ≤ 9223372036854775807) : x.d.size ≤ 9223372036854775807 := by
  obtain ⟨y, hy, hf⟩ := List.any_eq_true.1 h
  have h1 := hz y hy
  by_cases he : y.d.size = x.d.size
  · omega
  · unfold Pst.fits at hf
    rw [Pst.near_not he] at hf
    simp at hf
theorem any_more {sent : List Pst.Mail} {x y : Pst.Mail} {j : Nat} (h : sent[j]? = some y) : (sent.take (j + 1)).any (fun y => Pst.fits y x) = ((sent.take j).any (fun y => Pst.fits y x) || Pst.fits y x) := by
  rw [Lay.take_succ h, List.any_append]
  simp
theorem own_neP {base g : Nat} {w : World} {v : Value} {l : List Pst.Mail} {cs : Array Value} (h : mailLay.Own base w v l) (hb : Blk w g 25 cs) : v.ownBlock ≠ some g := by
  rcases h.2 with ⟨rfl, _⟩ | ⟨g', cap, cur, rfl, _, hg, _⟩
  · intro e; cases e
  · intro e
    have : g' = g := by simpa [Value.ownBlock] using e
    subst this
    unfold Blk at hb
    rw [hg] at hb
    injection hb with hb
    injection hb with _ h3
    exact absurd h3 (by decide)
theorem cell_drewN (w : World) (m : Nat) (a : Addr) : (w.drewN m).cell? a = w.cell? a := rfl
/-- What a step adds to the two rows, case by case. -/
theorem true_is {p q : Pst.P} {x : Pst.Op} {mm : Pst.Mail} {ar : Bool} {er : Int} (h : Pst.step p x = (q, mm, ar, er)) (sent seen : List Pst.Mail) :
    ((er == 0) = false ∧ Pst.sentOf sent p x = sent ∧ Pst.seenOf seen p x = seen) ∨ (er = 0 ∧ x.k = 1 ∧ Pst.sentOf sent p x = sent ++ [x.m] ∧ Pst.seenOf seen p x = seen) ∨
    (er = 0 ∧ x.k = 2 ∧ Pst.sentOf sent p x = sent ∧ Pst.seenOf seen p x = seen ++ [mm]) ∨ (er = 0 ∧ (x.k == 1) = false ∧ (x.k == 2) = false ∧ Pst.sentOf sent p x = sent ∧ Pst.seenOf seen p x = seen) := by
  unfold Pst.sentOf Pst.seenOf
  rw [h]
  by_cases he : er = 0
  · by_cases k1 : x.k = 1
    · exact .inr (.inl ⟨he, k1, by simp [he, k1], by simp [k1]⟩)
    by_cases k2 : x.k = 2
    · exact .inr (.inr (.inl ⟨he, k2, by simp [k2], by simp [he, k2]⟩))
    exact .inr (.inr (.inr ⟨he, by simpa using k1, by simpa using k2, by simp [k1], by simp [k2]⟩))
  · exact .inl ⟨by simpa using he, by simp [he], by simp [he]⟩
end Go.Proofs.Ytkajnmlglgjocaa
