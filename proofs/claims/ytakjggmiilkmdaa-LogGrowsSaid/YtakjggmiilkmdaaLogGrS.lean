/-
  One call of a row of calls: what it leaves is a part of the row of events; what it tells is of that row.
  Pure. No condition but those named.
-/
import Derived.Test.YtakjggmiilkmdaaLogDoM
import Derived.Test.YtakjggmiilkmdaaLogGrM
namespace Go.Proofs.Ytakjggmiilkmdaa
namespace Lgm
variable {row : List Cmd.E} {l : Lg}
theorem doL_gr (h : Gr row l) (hf : ∀ e ∈ row, Cmd.fits e) (hl : row.length = 40) {k m : Int} {p q : Nat} (hm : m ≤ 16) : Gr row (doL l k (p : Int) m ((row.drop p).take q)).1 := by
  unfold doL
  split
  · exact h.add hf (List.take_prefix _ _) hm
  split
  · exact h.stay _
  split
  · show Gr row (tkL l)
    unfold tkL
    split
    · rename_i hd
      obtain ⟨_, _, _, h3⟩ := h.take hd
      exact h3
    · exact h
  split
  · exact h.trim (by omega) _
  split
  · exact h
  · exact h
theorem doL_tk (h : Gr row l) {k f m : Int} {es : List Cmd.E} (hk : k = 3) (hb : (doL l k f m es).2.2.2 = true) : (doL l k f m es).1.d = l.d + 1 ∧ ∃ e, (doL l k f m es).2.2.1 = [e] ∧ row[l.d.toNat]? = some e := by
  subst hk
  have e : doL l 3 f m es = (tkL l, 0, [(tkE l).getD evZ], (tkE l).isSome) := rfl
  rw [e] at hb ⊢
  have hd : l.d < l.c := by
    refine Classical.byContradiction fun hd => ?_
    have : tkE l = none := if_neg hd
    rw [show ((tkL l, (0 : Int), [(tkE l).getD evZ], (tkE l).isSome) : Lg × Int × List Cmd.E × Bool).2.2.2 = (tkE l).isSome from rfl, this] at hb
    cases hb
  obtain ⟨x, h1, h2, _⟩ := h.take hd
  have e1 : tkE l = some x := (if_pos hd).trans h1
  have e2 : tkL l = { l with d := l.d + 1 } := if_pos hd
  refine ⟨by show (tkL l).d = _; rw [e2], x, ?_, h2⟩
  show [(tkE l).getD evZ] = [x]
  rw [e1]; rfl
theorem doL_d (h : Gr row l) {k f m : Int} {es : List Cmd.E} (hk : ¬ (k = 3 ∧ (doL l k f m es).2.2.2 = true)) : (doL l k f m es).1.d = l.d := by
  by_cases h3 : k = 3
  · subst h3
    have hb : ¬ (tkE l).isSome = true := fun h => hk ⟨rfl, h⟩
    show (tkL l).d = l.d
    unfold tkL
    by_cases hd : l.d < l.c
    · obtain ⟨x, h1, _, _⟩ := h.take hd
      exact absurd (by rw [show tkE l = some x from (if_pos hd).trans h1]; rfl) hb
    · rw [if_neg hd]
  · unfold doL
    split
    · show (add l f es m).d = l.d
      unfold add
      split <;> rfl
    split
    · show (stay l f).d = l.d
      unfold stay
      split <;> rfl
    split
    · show (trim l f).d = l.d
      unfold trim
      split <;> rfl
    split <;> rfl
theorem doL_pt (h : Gr row l) (hl : row.length = 40) {k f m : Int} {es : List Cmd.E} (hk : k = 5) : ∃ a : Nat, (doL l k f m es).2.1 = (a : Int) ∧ a + (doL l k f m es).2.2.1.length ≤ 40 ∧ (doL l k f m es).2.2.1.length ≤ m.toNat ∧ (doL l k f m es).2.2.1 = (row.drop a).take (doL l k f m es).2.2.1.length := by
  subst hk
  have e : doL l 5 f m es = (l, pf l f, part l f m, false) := rfl
  rw [e]
  obtain ⟨h1, h2, h3, h4⟩ := h.part f m
  refine ⟨(pf l f).toNat, by show pf l f = _; omega, ?_, h4, ?_⟩
  · show (pf l f).toNat + (part l f m).length ≤ 40
    omega
  · exact List.prefix_iff_eq_take.1 h1
/-- One call: all that the walk wants. -/
theorem grow (row : List Cmd.E) (hf : ∀ e ∈ row, Cmd.fits e) (hl : row.length = 40) (bn dn : Nat) (lc : Int) (ev : List Cmd.E) (h : Gr row ⟨(bn : Int), lc, (dn : Int), ev⟩) (k : Int) (p r q : Nat) (hr : r ≤ 16) (es : List Cmd.E) (hes : es = (row.drop p).take q) :
    ∃ (bn2 dn2 : Nat) (lc2 : Int) (ev2 : List Cmd.E) (xn : Int) (xe : List Cmd.E) (xb : Bool), doL ⟨(bn : Int), lc, (dn : Int), ev⟩ k (p : Int) (r : Int) es = (⟨(bn2 : Int), lc2, (dn2 : Int), ev2⟩, xn, xe, xb) ∧ Gr row ⟨(bn2 : Int), lc2, (dn2 : Int), ev2⟩ ∧
      (k = 3 ∧ xb = true → dn2 = dn + 1 ∧ ∃ e, xe = [e] ∧ row[dn]? = some e) ∧ (¬ (k = 3 ∧ xb = true) → dn2 = dn) ∧ (k = 5 → ∃ a : Nat, xn = (a : Int) ∧ a + xe.length ≤ 40 ∧ xe.length ≤ r ∧ xe = (row.drop a).take xe.length) := by
  subst hes
  have hg := doL_gr h hf hl (k := k) (m := (r : Int)) (p := p) (q := q) (by omega)
  have ht := doL_tk h (k := k) (f := (p : Int)) (m := (r : Int)) (es := (row.drop p).take q)
  have hd := doL_d h (k := k) (f := (p : Int)) (m := (r : Int)) (es := (row.drop p).take q)
  have hp := doL_pt h hl (k := k) (f := (p : Int)) (m := (r : Int)) (es := (row.drop p).take q)
  generalize doL ⟨(bn : Int), lc, (dn : Int), ev⟩ k (p : Int) (r : Int) ((row.drop p).take q) = X at *
  obtain ⟨⟨xb1, xc, xd, xev⟩, xn, xe, xb⟩ := X
  simp only at hg ht hd hp
  obtain ⟨g1, g2, g3, g4, g5, g6, g7⟩ := hg.rt
  simp only at g1 g4
  have e1 : xb1 = ((xb1.toNat : Nat) : Int) := by omega
  have e2 : xd = ((xd.toNat : Nat) : Int) := by omega
  refine ⟨xb1.toNat, xd.toNat, xc, xev, xn, xe, xb, by rw [← e1, ← e2], by rw [← e1, ← e2]; exact hg, fun hk => ?_, fun hk => ?_, fun hk => ?_⟩
  · obtain ⟨h1, e, h2, h3⟩ := ht hk.1 hk.2
    exact ⟨by omega, e, h2, by simpa using h3⟩
  · have := hd hk; omega
  · obtain ⟨a, h1, h2, h3, h4⟩ := hp hk
    exact ⟨a, h1, h2, by simpa using h3, h4⟩
end Lgm
end Go.Proofs.Ytakjggmiilkmdaa
