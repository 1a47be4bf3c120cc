/-
  What LinkPlays's loop keeps: numbers of an end, rows after a call; makings where a region draws its order.
  No condition but those named.
-/
import Derived.Test.YtamjcghdebjpjaaLnkDo
namespace Go.Proofs.Ytamjcghdebjpjaa
open Go.RowKit

/-- An end behind k calls. -/
structure Num (k : Nat) (l : Lnk.L) : Prop where
  b1 : 1 ≤ l.base
  bn : l.base + l.out.length ≤ 1 + k
  g0 : 0 ≤ l.got
  g1 : l.got ≤ k
  a0 : 0 ≤ l.age
  a1 : l.age ≤ 1000
theorem i00 : (0 : Int) ≤ 0 := by decide
theorem i01k : (0 : Int) ≤ 1000 := by decide
theorem i11 : (1 : Int) ≤ 1 := by decide
theorem Num.new (ms mc slot : Int) : Num 0 (Lnk.new ms mc slot) := ⟨i11, (by show (1 : Int) + ((0 : Nat) : Int) ≤ 1 + ((0 : Nat) : Int); decide), i00, i00, i00, i01k⟩
theorem Num.more {k : Nat} {l : Lnk.L} (h : Num k l) : Num (k + 1) l := ⟨h.b1, by have := h.bn; omega, h.g0, by have := h.g1; omega, h.a0, h.a1⟩
theorem Num.meet {k : Nat} {l : Lnk.L} (h : Num k l) (i : Int) : Num k (Lnk.meet l i) := by
  rcases meet_is l i with ⟨_, e⟩ | ⟨_, _, e⟩ | ⟨_, _, e⟩ <;> rw [e]
  · exact h
  · exact ⟨h.b1, h.bn, i00, by show (0 : Int) ≤ _; omega, i00, i01k⟩
  · exact ⟨i11, by show (1 : Int) + ((0 : Nat) : Int) ≤ _; omega, i00, by show (0 : Int) ≤ _; omega, i00, i01k⟩
theorem Num.leave {k : Nat} {l : Lnk.L} (h : Num k l) (a : Int) : Num k (leaveL l a) := by
  unfold leaveL
  split
  · rename_i hc
    have hb := h.b1
    have hn := h.bn
    refine ⟨by show 1 ≤ a + 1; omega, ?_, h.g0, h.g1, i00, i01k⟩
    show a + 1 + (((l.out.drop (a - l.base + 1).toNat).length : Nat) : Int) ≤ _
    rw [List.length_drop]
    omega
  · exact h
theorem Num.heard {k : Nat} {l : Lnk.L} (h : Num k l) (p : Lnk.Pkt) : Num k (Lnk.heard l p) := by
  rw [heard_leave]
  split
  · exact h.meet _
  · exact (h.meet _).leave _
theorem Num.step {k : Nat} {l : Lnk.L} (h : Num k l) (o n : Int) (b : ByteArray) (p : Lnk.Pkt) : Num (k + 1) (doM l o n b p).1 := by
  have hb := h.bn
  unfold doM
  split
  · rcases send_is l b n with ⟨_, e⟩ | ⟨_, e⟩ <;> rw [e]
    · exact h.more
    · refine ⟨h.b1, ?_, h.g0, by have := h.g1; show l.got ≤ _; omega, h.a0, h.a1⟩
      show l.base + (((l.out ++ [b]).length : Nat) : Int) ≤ _
      rw [List.length_append]
      simp
      omega
  split
  · rcases tick_is l n with ⟨_, ha, _, e⟩ | ⟨_, e⟩ <;> rw [e]
    · have := h.a0
      exact ⟨h.b1, h.more.bn, h.g0, h.more.g1, by show 0 ≤ l.age + 1; omega, by show l.age + 1 ≤ 1000; omega⟩
    · exact ⟨h.b1, h.more.bn, h.g0, h.more.g1, i00, i01k⟩
  split
  · exact (h.meet n).more
  split
  · have hh := h.heard p
    rcases take_is l p with ⟨_, e⟩ | ⟨_, _, e⟩ | ⟨_, _, _, e⟩ | ⟨_, h1, _, h2, e⟩ <;> rw [e]
    · exact h.more
    · exact hh.more
    · exact hh.more
    · have := hh.g1
      exact ⟨hh.b1, hh.more.bn, by show 0 ≤ p.seq; omega, by show p.seq ≤ _; omega, hh.a0, hh.a1⟩
  · exact h.more
theorem doM_len (l : Lnk.L) (k n : Int) (b : ByteArray) (p : Lnk.Pkt) : (doM l k n b p).2.1.length ≤ l.out.length + 1 := by
  unfold doM
  split
  · simp
  split
  · rcases tick_is l n with ⟨_, _, _, e⟩ | ⟨_, e⟩ <;> rw [e]
    · simp
    · show (Lnk.again l l.out 0).length ≤ _
      rw [again_len]; omega
  split
  · simp
  split
  · dsimp only
    split <;> simp
  · simp

/-- A row after a call, and the packets that it told. -/
theorem next_row {b0 : Nat} {w0 W w1 : World} {L : List (Nat × TypeId × Array Value)} {R : List RowE} (h : Kn b0 w0 W L R) (i : Nat) {A : Option Addr} {c : Nat} {l : List ByteArray} (hi : R[i]? = some (row strLay (.slice A l.length c) l)) (hb : Below W.heap.size W w1)
    {A' : Option Addr} {c' : Nat} {l' : List ByteArray} (hf : From W w1 A c l A' c' l') {v : Value} {ps : List Lnk.Pkt} (hp : pktLay.Own W.heap.size w1 v ps) :
    Kn b0 w0 w1 L (R.set i (row strLay (.slice A' l'.length c') l') ++ [row pktLay v ps]) := by
  have hlt : i < R.length := (List.getElem?_eq_some_iff.1 hi).1
  rcases hf with ho | ⟨rfl, rfl, rfl⟩
  · have h1 := h.called hb ho
    have h2 := h1.addR (y := row pktLay v ps) (World.ownsRow.mono hp h.m) (fun j x hx e => by
        have := (World.ownsRow.lt hp _ e).1
        have := (h.l j x hx).2.lt
        omega) (fun j x hx => by
        rcases Nat.lt_trichotomy j R.length with hj | hj | hj
        · rw [List.getElem?_append_left hj] at hx
          intro k hk hk'
          have := (World.ownsRow.lt hp _ hk').1
          have := (owns_lt (h.r j x hx) hk).2
          omega
        · subst hj
          simp at hx
          subst hx
          exact apart_types (La := strLay) (Lb := pktLay) (by decide) ho hp
        · rw [List.getElem?_eq_none (by simp; omega)] at hx; cases hx)
    refine h2.pick id (fun j => if j = i then R.length else if j < R.length then j else R.length + 1) (fun a b _ _ hab => hab) (fun a b ha hb' hab => ?_) (fun j x hx => hx) (fun j x hx => ?_)
    · simp at ha hb'
      try dsimp only
      split <;> split <;> (try split) <;> (try split) <;> omega
    · try dsimp only
      rcases Nat.lt_trichotomy j R.length with hj | hj | hj
      · rw [List.getElem?_append_left (by simpa using hj), List.getElem?_set] at hx
        by_cases hji : i = j
        · subst hji
          rw [if_pos rfl, if_pos hj] at hx
          rw [if_pos rfl]
          simpa using hx
        · rw [if_neg hji] at hx
          rw [if_neg (fun e => hji e.symm), if_pos hj, List.append_assoc, List.getElem?_append_left hj]
          exact hx
      · subst hj
        rw [if_neg (by omega), if_neg (by omega)]
        simp at hx ⊢
        exact hx
      · rw [List.getElem?_eq_none (by simp; omega)] at hx; cases hx
  · have h1 := h.called hb hp
    have : R.set i (row strLay (.slice A' l'.length c') l') = R := by
      apply List.ext_getElem?
      intro j
      rw [List.getElem?_set]
      by_cases hji : i = j
      · subst hji; rw [if_pos rfl, if_pos hlt, hi]
      · rw [if_neg hji]
    rw [this]
    exact h1
section
variable {b0 : Nat} {w0 w : World} {L : List (Nat × TypeId × Array Value)} {R : List RowE} {ops : Array Oper} {o : Oper} {a : Act} {Q : Exit → Act → World → Prop} {K : Act → World → Prop} {E : Prop}
theorem step_akl (HK : Hid (Kn b0 w0 w L R)) (hgd : o.guard = none) (ho : o.op = .alloc 27)
    (h : ∀ w' g, Hid (Kn b0 w0 w' (L ++ [(g, 27, lC (.slice none 0 0) 0 0 0 0 0 0 0)]) R) → Hid (Below w.heap.size w w') → K (a.put o.dst (.pointer (some ⟨g, 0, none⟩))) w') :
    if Region.wanted o (yielded ops a.tmps) = true then Oper.wp Try.prog o a w K Q else E := by
  rw [if_pos (by simp [Region.wanted, hgd])]
  have h4 := h _ w.heap.size (Lib.hid (HK.out.alloc _ _)) (Lib.hid ((Below.refl _ w).alloc (Nat.le_refl _) _))
  unfold Oper.wp execOp
  simp only [ho]
  unfold lC at h4
  go_simp
  exact h4
theorem step_akt (HK : Hid (Kn b0 w0 w L R)) (hgd : o.guard = none) (ho : o.op = .alloc 32)
    (h : ∀ w' g, Hid (Kn b0 w0 w' (L ++ [(g, 32, tC (.slice none 0 0) ⟨#[]⟩ false 0)]) R) → Hid (Below w.heap.size w w') → K (a.put o.dst (.pointer (some ⟨g, 0, none⟩))) w') :
    if Region.wanted o (yielded ops a.tmps) = true then Oper.wp Try.prog o a w K Q else E := by
  rw [if_pos (by simp [Region.wanted, hgd])]
  have h4 := h _ w.heap.size (Lib.hid (HK.out.alloc _ _)) (Lib.hid ((Below.refl _ w).alloc (Nat.le_refl _) _))
  unfold Oper.wp execOp
  simp only [ho]
  unfold tC at h4
  go_simp
  exact h4
end
section
variable {b0 : Nat} {w0 w : World} {R : List RowE} {a b c d e f : Nat × TypeId × Array Value}
theorem Kn.two (h : Kn b0 w0 w [a, b] R) : Kn b0 w0 w [b, a] R := by
  refine h.pick (fun i => 1 - i) id (fun i j hi hj h => ?_) (fun i j _ _ h => h) (fun i x hx => ?_) (fun i x hx => hx)
  · simp at hi hj; omega
  · match i, hx with
    | 0, hx => exact hx
    | 1, hx => exact hx
theorem Kn.swap3 (h : Kn b0 w0 w [a, b, c, d] R) : Kn b0 w0 w [a, b, d, c] R := by
  refine h.pick (fun i => if i = 2 then 3 else if i = 3 then 2 else i) id (fun i j hi hj h => ?_) (fun i j _ _ h => h) (fun i x hx => ?_) (fun i x hx => hx)
  · simp at hi hj; (try dsimp only); split <;> split <;> (try split) <;> (try split) <;> omega
  · match i, hx with
    | 0, hx => exact hx
    | 1, hx => exact hx
    | 2, hx => exact hx
    | 3, hx => exact hx
theorem Kn.swap5 (h : Kn b0 w0 w [a, b, c, d, e, f] R) : Kn b0 w0 w [a, b, c, d, f, e] R := by
  refine h.pick (fun i => if i = 4 then 5 else if i = 5 then 4 else i) id (fun i j hi hj h => ?_) (fun i j _ _ h => h) (fun i x hx => ?_) (fun i x hx => hx)
  · simp at hi hj; (try dsimp only); split <;> split <;> (try split) <;> (try split) <;> omega
  · match i, hx with
    | 0, hx => exact hx
    | 1, hx => exact hx
    | 2, hx => exact hx
    | 3, hx => exact hx
    | 4, hx => exact hx
    | 5, hx => exact hx
end
/-- A load of an Op that lies in a slice. -/
theorem exec_lop {o : Oper} {a : Act} {w : World} (x : Operand) (ho : o.op = .load 38 x) {b q k : Nat} {y : Lnk.OpS} (hc : Hid (lopLay.At w b q k y)) (hx : a.eval x = .pointer (some ⟨b, q + k * 10, none⟩)) :
    (execOp a.eval o).run Try.prog w = .ok (.value (.agg (oC y.k y.n y.b y.p.f.s y.p.f.c y.p.t.s y.p.t.c y.p.q y.p.a y.p.b))) w := by
  have h := run_loadVar_mid (P := Try.prog) w b (q + k * 10) 38 (lopLay.f y) _ (fun j v hv => by
    have := hc.out j v hv
    exact this) Try.underlying38 rfl (by kernel_rfl)
  unfold execOp
  simp only [ho, hx, Instr.loadAt, Instr.sureAddr, Sem.run_bind, Sem.run_pure, Result.andThen_ok, h]
  rfl
end Go.Proofs.Ytamjcghdebjpjaa
