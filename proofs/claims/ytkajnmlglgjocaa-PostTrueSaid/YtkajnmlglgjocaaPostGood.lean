/-
  A post that a law holds: its messages are the law's own, or those that it was handed; a call of do, of ref, of twin on it.
  No condition but those named.
-/
import Derived.Test.YtkajnmlglgjocaaPostRef
import Derived.Test.YtkajnmlglgjocaaPostAwake
import Derived.Test.YtkajnmlglgjocaaPostSame
import Derived.Deep.MidRow
import Derived.Deep.DeepCutAuto
import Derived.WalkKit
import Derived.WalkSpells
import Derived.WalkLawsBesides
import Derived.Handy
import Derived.Deep.QuietTactic
import Derived.BigQuiet
import Derived.Deep.RegionWith
import Derived.Deep.RegionHeld3
import Derived.Deep.Draws
import Derived.Lib.Hide
import Derived.Lib.LazyBuf
namespace Go.Proofs.Ytkajnmlglgjocaa
open Go.RowKit


/-- The messages are the law's own (in block k, if there are any), or lay there when it was called. -/
def Good (w0 : World) (base : Nat) (W : World) (A : Option Addr) (c : Nat) (l : List Pst.Mail) (k : Nat) : Prop :=
  (mailLay.Own base W (.slice A l.length c) l ∧ ((Value.slice A l.length c).ownBlock = some k ∨ (Value.slice A l.length c).ownBlock = none)) ∨ (mailLay.Reads w0 w0.heap.size A l ∧ (A = none → l = []) ∧ l.length ≤ c)
section
variable {w0 W W' : World} {base k c : Nat} {A : Option Addr} {l : List Pst.Mail}
theorem Good.later (h : Good w0 base W A c l k) (hb : Below W.heap.size W W') : Good w0 base W' A c l k := h.imp (fun ⟨h1, h2⟩ => ⟨h1.below hb, h2⟩) id
theorem Good.turned (h : Good w0 base W A c l k) {b : Nat} (hb : Turns b 25 W W') : Good w0 base W' A c l k := h.imp (fun ⟨h1, h2⟩ => ⟨h1.turned ne_mp hb, h2⟩) id
theorem Good.apart (h : Good w0 base W A c l k) {b g : Nat} {t : TypeId} {cs : Array Value} (hs : Stored b g t cs W W') (hne : k ≠ g) : Good w0 base W' A c l k := h.imp (fun ⟨h1, h2⟩ => ⟨h1.apart hs (fun e => by
  rcases h2 with h2 | h2
  · rw [h2] at e; injection e with e; exact hne e
  · rw [h2] at e; cases e), h2⟩) id
theorem Good.reads (h : Good w0 base W A c l k) (hb : Below w0.heap.size w0 W) : mailLay.Reads W W.heap.size A l ∧ (A = none → l = []) ∧ l.length ≤ c := by
  rcases h with ⟨h, _⟩ | ⟨h1, h2, h3⟩
  · exact ⟨h.reads.2, own_none h, h.cap⟩
  · exact ⟨h1.later hb (Nat.le_refl _), h2, h3⟩
end
/-- What a call answers: its post is good. -/
def IsGood (w0 : World) (base N : Nat) (r : Pst.P × Pst.Mail × Bool × Int) (W : World) (e : Ending) (W' : World) : Prop := ∃ A c k, e = .returned (.tuple #[pv A r.1.m.length c r.1.s, mailV r.2.1, .bool r.2.2.1, .int .i64 r.2.2.2]) ∧ Good w0 base W' A c r.1.m k ∧ (k < N ∨ (W.heap.size ≤ k ∧ k < W'.heap.size)) ∧ Below W.heap.size W W'
theorem good_of {w0 W0 : World} {base : Nat} {A : Option Addr} {c k : Nat} {l : List Pst.Mail} (hbase : base ≤ W0.heap.size) (hg : Good w0 base W0 A c l k) (hk : k < W0.heap.size) {r : Pst.P × Pst.Mail × Bool × Int} {W W' : World} {e : Ending}
    (hW : Below W0.heap.size W0 W) (h : IsTX A c l r W e W') : IsGood w0 base W0.heap.size r W e W' := by
  obtain ⟨A1, c1, he, ho, hb⟩ := h
  rcases ho with ho | ⟨rfl, rfl, h3⟩
  · have h4 := World.ownsRow.lt ho
    have h5 := ho.mono (Nat.le_trans hbase hW.size)
    cases hv : (Value.slice A1 r.1.m.length c1).ownBlock with
    | none => exact ⟨A1, c1, 0, he, .inl ⟨h5, .inr hv⟩, .inl (by omega), hb⟩
    | some k1 => exact ⟨A1, c1, k1, he, .inl ⟨h5, .inl hv⟩, .inr (h4 k1 hv), hb⟩
  · refine ⟨A1, c1, k, he, ?_, .inl hk, hb⟩
    rw [h3]
    exact (hg.later hW).later hb
theorem do_good {w0 W0 : World} {base : Nat} {A : Option Addr} {c k : Nat} {p : Pst.P} (o : Pst.Op) (hb : 0 ≤ o.b ∧ o.b < 256) (h0 : Below w0.heap.size w0 W0) (hbase : base ≤ W0.heap.size) (hg : Good w0 base W0 A c p.m k) (hk : k < W0.heap.size) (hl : p.m.length ≤ 5000000000000) :
    Hid (∀ W, Below W0.heap.size W0 W → Calls Try.prog 8 #[.agg (pc A p.m.length c p.s), opV o] W (IsGood w0 base W0.heap.size (Pst.step p o) W)) := Lib.hid fun W hW => by
  obtain ⟨h1, h2, h3⟩ := (hg.later hW).reads (h0.trans (hW.mono h0.size))
  exact (do_any A c p o W hl h1 h2 h3 hb).mono fun e w' h => good_of hbase hg hk hW h
theorem ref_good {w0 W0 : World} {base : Nat} {A : Option Addr} {c k : Nat} {p : Pst.P} (o : Pst.Op) (hb : 0 ≤ o.b ∧ o.b < 256) (h0 : Below w0.heap.size w0 W0) (hbase : base ≤ W0.heap.size) (hg : Good w0 base W0 A c p.m k) (hk : k < W0.heap.size) (hl : p.m.length ≤ 5000000000000) :
    Hid (∀ W, Below W0.heap.size W0 W → Calls Try.prog 9 #[.agg (pc A p.m.length c p.s), opV o] W (IsGood w0 base W0.heap.size (Pst.step p o) W)) := Lib.hid fun W hW => by
  obtain ⟨h1, h2, h3⟩ := (hg.later hW).reads (h0.trans (hW.mono h0.size))
  exact (ref_any A c p o W hl h1 h2 h3 hb).mono fun e w' h => good_of hbase hg hk hW h
/-- What a load of a call's record yields. -/
theorem exec_lo {o : Oper} {a : Act} {x : Operand} {w : World} {b q k : Nat} {y : Pst.Op} (hc : Hid (opLay.At w b q k y)) (ho : o.op = .load 29 x) (hx : a.eval x = .pointer (some ⟨b, q + k * 8, none⟩)) :
    (execOp a.eval o).run Try.prog w = .ok (.value (opV y)) w := by
  unfold execOp
  have h := run_loadVar_mid (P := Try.prog) w b (q + k * 8) 29 (opLay.f y) _ (fun j u hu => hc.out j u hu) Try.underlying29 rfl (by kernel_rfl)
  simp only [ho, hx, Instr.loadAt, Instr.sureAddr, Sem.run_bind, Sem.run_pure, Result.andThen_ok, h]
  rfl
/-- New blocks, in a region that draws its order. -/
theorem step_ap {ops : Array Oper} {o : Oper} {a : Act} {w : World} {Q : Exit → Act → World → Prop} {K : Act → World → Prop} {E : Prop} (hgd : o.guard = none) (ho : o.op = .alloc 25)
    (h : ∀ w' g, Hid (Blk w' g 25 (pc none 0 0 fun _ => 0)) → Hid (Below w.heap.size w w') → w.heap.size ≤ w'.heap.size → w.heap.size ≤ g → g < w'.heap.size → K (a.put o.dst (.pointer (some ⟨g, 0, none⟩))) w') :
    if Region.wanted o (yielded ops a.tmps) = true then Oper.wp Try.prog o a w K Q else E := by
  rw [if_pos (by simp [Region.wanted, hgd])]
  obtain ⟨h1, h2, h3⟩ := made1 w 25 (pc none 0 0 fun _ => 0)
  have h4 := h _ w.heap.size h1 (Lib.hid h2.out) (by omega) (Nat.le_refl _) (by omega)
  unfold Oper.wp execOp
  simp only [ho]
  unfold pc at h4
  go_simp
  exact h4
theorem step_am {ops : Array Oper} {o : Oper} {a : Act} {w : World} {Q : Exit → Act → World → Prop} {K : Act → World → Prop} {E : Prop} (hgd : o.guard = none) (ho : o.op = .alloc 27)
    (h : ∀ w' g, Hid (Blk w' g 27 (mc Pst.noMail)) → Hid (Below w.heap.size w w') → w.heap.size ≤ w'.heap.size → w.heap.size ≤ g → g < w'.heap.size → K (a.put o.dst (.pointer (some ⟨g, 0, none⟩))) w') :
    if Region.wanted o (yielded ops a.tmps) = true then Oper.wp Try.prog o a w K Q else E := by
  rw [if_pos (by simp [Region.wanted, hgd])]
  obtain ⟨h1, h2, h3⟩ := made1 w 27 (mc Pst.noMail)
  have h4 := h _ w.heap.size h1 (Lib.hid h2.out) (by omega) (Nat.le_refl _) (by omega)
  unfold Oper.wp execOp
  simp only [ho]
  unfold mc Pst.noMail at h4
  go_simp
  exact h4
/-- What stands behind 'q, m, ok, e := do(p, o)', or ref: two blocks, and whose the messages are. -/
structure Done (w0 W0 : World) (base : Nat) (y : Pst.P) (mm : Pst.Mail) (A : Option Addr) (c k gQ gM : Nat) (W : World) : Prop where
  q : Blk W gQ 25 (pc A y.m.length c y.s)
  m : Blk W gM 27 (mc mm)
  g : Good w0 base W A c y.m k
  b : Below W0.heap.size W0 W
  qn : W0.heap.size ≤ gQ
  mn : W0.heap.size ≤ gM
  k : k < W.heap.size
theorem Done.later {w0 W0 : World} {base : Nat} {y : Pst.P} {mm : Pst.Mail} {A : Option Addr} {c k gQ gM : Nat} {W W' : World} (h : Done w0 W0 base y mm A c k gQ gM W) (hb : Below W.heap.size W W') : Done w0 W0 base y mm A c k gQ gM W' :=
  ⟨h.q.below hb h.q.lt, h.m.below hb h.m.lt, h.g.later hb, Lift.then2 h.b hb, h.qn, h.mn, Nat.lt_of_lt_of_le h.k hb.size⟩
end Go.Proofs.Ytkajnmlglgjocaa
