/-
  A log that grows by pieces of one row of events: it stays a part of that row.
  Pure. No condition but those named.
-/
import Derived.Test.YtakjggmiilkmdaaLogMath
namespace Go.Proofs.Ytakjggmiilkmdaa
namespace Lgm
structure Gr (row : List Cmd.E) (l : Lg) : Prop where
  rt : Right l
  le : en l ≤ (row.length : Int)
  pc : l.ev <+: row.drop l.b.toNat
section
variable {row : List Cmd.E} {l : Lg}
theorem Gr.zero (row : List Cmd.E) : Gr row ⟨0, 0, 0, []⟩ := by
  refine ⟨⟨by decide, by decide, by decide, by decide, by decide, by unfold en; decide, fun e he => by cases he⟩, ?_, List.nil_prefix⟩
  show (0 : Int) + ((0 : Nat) : Int) ≤ _
  omega
theorem pre_cons {e : Cmd.E} {r : List Cmd.E} {f : Nat} (h : e :: r <+: row.drop f) : row[f]? = some e ∧ r <+: row.drop (f + 1) := by
  obtain ⟨t, ht⟩ := h
  have h1 : (row.drop f)[0]? = some e := by rw [← ht]; rfl
  rw [List.getElem?_drop, Nat.add_zero] at h1
  refine ⟨h1, ⟨t, ?_⟩⟩
  have h2 : (row.drop f).drop 1 = r ++ t := by rw [← ht]; rfl
  rw [List.drop_drop] at h2
  exact h2.symm
theorem pre_more {acc : List Cmd.E} {e : Cmd.E} {b : Nat} (h : acc <+: row.drop b) (he : row[b + acc.length]? = some e) : acc ++ [e] <+: row.drop b := by
  obtain ⟨t, ht⟩ := h
  have h1 : (row.drop b)[acc.length]? = some e := by rw [List.getElem?_drop]; exact he
  rw [← ht, List.getElem?_append_right (Nat.le_refl _), Nat.sub_self] at h1
  cases t with
  | nil => cases h1
  | cons x t =>
    simp only [List.getElem?_cons_zero, Option.some.injEq] at h1
    subst h1
    exact ⟨t, by rw [← ht]; simp⟩
theorem adS_piece {b : Nat} {room : Int} (hr : room ≤ 16) (hf : ∀ e ∈ row, Cmd.fits e) : ∀ (es acc : List Cmd.E) (f : Nat), es <+: row.drop f → acc <+: row.drop b → acc.length ≤ 16 → b + acc.length ≤ row.length →
    (adS (b : Int) room (f : Int) acc es <+: row.drop b ∧ (adS (b : Int) room (f : Int) acc es).length ≤ 16 ∧ b + (adS (b : Int) room (f : Int) acc es).length ≤ row.length ∧ acc.length ≤ (adS (b : Int) room (f : Int) acc es).length)
  | [], acc, f, _, h2, h3, h4 => ⟨h2, h3, h4, Nat.le_refl _⟩
  | e :: r, acc, f, h1, h2, h3, h4 => by
    obtain ⟨he, hr1⟩ := pre_cons h1
    have ec : ((f : Int) + 1) = ((f + 1 : Nat) : Int) := by omega
    rw [adS, ec]
    split
    · rename_i hc
      have hb : f = b + acc.length := by omega
      have hlt := (List.getElem?_eq_some_iff.1 he).1
      have := adS_piece hr hf r (acc ++ [e]) (f + 1) hr1 (pre_more h2 (by rw [← hb]; exact he)) (by rw [List.length_append]; show acc.length + 1 ≤ 16; omega) (by rw [List.length_append]; show b + (acc.length + 1) ≤ _; omega)
      refine ⟨this.1, this.2.1, this.2.2.1, Nat.le_trans ?_ this.2.2.2⟩
      rw [List.length_append]; omega
    · exact adS_piece hr hf r acc (f + 1) hr1 h2 h3 h4
theorem pre_fits {acc : List Cmd.E} {b : Nat} (hf : ∀ e ∈ row, Cmd.fits e) (h : acc <+: row.drop b) : ∀ e ∈ acc, Cmd.fits e := fun e he => hf e (List.mem_of_mem_drop (h.subset he))
theorem Gr.add (h : Gr row l) (hf : ∀ e ∈ row, Cmd.fits e) {f : Nat} {es : List Cmd.E} {room : Int} (hes : es <+: row.drop f) (hr : room ≤ 16) : Gr row (Lgm.add l (f : Int) es room) := by
  unfold Lgm.add
  split
  · exact h
  · obtain ⟨r1, r2, r3, r4, r5, r6, r7⟩ := h.rt
    have hle := h.le
    unfold en at r6 hle
    have eb : l.b = (l.b.toNat : Int) := by omega
    have key := adS_piece (b := l.b.toNat) hr hf es l.ev f hes h.pc r2 (by omega)
    rw [← eb] at key
    obtain ⟨k1, k2, k3, k4⟩ := key
    refine ⟨⟨r1, k2, r3, r4, r5, ?_, pre_fits hf k1⟩, ?_, k1⟩
    · unfold en; simp only; omega
    · unfold en; simp only; omega
theorem Gr.stay (h : Gr row l) (n : Int) : Gr row (Lgm.stay l n) := by
  obtain ⟨r1, r2, r3, r4, r5, r6, r7⟩ := h.rt
  unfold Lgm.stay
  split
  · rename_i hc
    refine ⟨⟨r1, r2, r3, r4, ?_, ?_, r7⟩, h.le, h.pc⟩
    · show l.d ≤ sm l n; omega
    · show sm l n ≤ en l
      unfold sm
      split <;> omega
  · exact h
theorem Gr.trim (h : Gr row l) (hs : row.length ≤ 100) (n : Int) : Gr row (Lgm.trim l n) := by
  obtain ⟨r1, r2, r3, r4, r5, r6, r7⟩ := h.rt
  have hle := h.le
  unfold Lgm.trim
  split
  · exact h
  · rename_i hc
    have ht : tm l n ≤ l.d := by unfold tm; split <;> omega
    unfold en at r6 hle
    have hl : ((l.ev.drop (tm l n - l.b).toNat).length : Int) = (l.ev.length : Int) - (tm l n - l.b) := by rw [List.length_drop]; omega
    refine ⟨⟨?_, ?_, ?_, ht, r5, ?_, fun e he => r7 e (List.mem_of_mem_drop he)⟩, ?_, ?_⟩
    · show 0 ≤ tm l n; omega
    · show (l.ev.drop (tm l n - l.b).toNat).length ≤ 16; omega
    · show tm l n ≤ 4611686018427387904
      omega
    · unfold en; simp only; omega
    · unfold en; simp only; omega
    · show l.ev.drop (tm l n - l.b).toNat <+: row.drop (tm l n).toNat
      obtain ⟨t, ht2⟩ := h.pc
      refine ⟨t, ?_⟩
      have e : (row.drop l.b.toNat).drop (tm l n - l.b).toNat = row.drop (tm l n).toNat := by rw [List.drop_drop]; congr 1; omega
      rw [← e, ← ht2, List.drop_append_of_le_length (by omega)]
/-- The next event that stays. -/
theorem Gr.take (h : Gr row l) (hd : l.d < l.c) : ∃ e, l.ev[(l.d - l.b).toNat]? = some e ∧ row[l.d.toNat]? = some e ∧ Gr row { l with d := l.d + 1 } := by
  obtain ⟨r1, r2, r3, r4, r5, r6, r7⟩ := h.rt
  unfold en at r6
  have hlt : (l.d - l.b).toNat < l.ev.length := by omega
  refine ⟨l.ev[(l.d - l.b).toNat], List.getElem?_eq_getElem hlt, ?_, ⟨⟨r1, r2, r3, ?_, ?_, r6, r7⟩, h.le, h.pc⟩⟩
  · obtain ⟨t, ht⟩ := h.pc
    have h1 : (row.drop l.b.toNat)[(l.d - l.b).toNat]? = some l.ev[(l.d - l.b).toNat] := by
      rw [← ht, List.getElem?_append_left hlt, List.getElem?_eq_getElem hlt]
    rw [List.getElem?_drop, show l.b.toNat + (l.d - l.b).toNat = l.d.toNat by omega] at h1
    exact h1
  · show l.b ≤ l.d + 1; omega
  · show l.d + 1 ≤ l.c; omega
/-- A piece of it. -/
theorem Gr.part (h : Gr row l) (f most : Int) : Lgm.part l f most <+: row.drop (pf l f).toNat ∧ 0 ≤ pf l f ∧ pf l f + ((Lgm.part l f most).length : Int) ≤ (row.length : Int) ∧ (Lgm.part l f most).length ≤ most.toNat := by
  obtain ⟨r1, r2, r3, r4, r5, r6, r7⟩ := h.rt
  have hle := h.le
  unfold en at r6 hle
  have hp : l.b ≤ pf l f ∧ pf l f ≤ l.b + (l.ev.length : Int) := by
    unfold pf en
    split
    · omega
    · split <;> omega
  refine ⟨?_, by omega, ?_, ?_⟩
  · unfold Lgm.part
    refine (List.take_prefix _ _).trans ?_
    obtain ⟨t, ht⟩ := h.pc
    refine ⟨t, ?_⟩
    have e : (row.drop l.b.toNat).drop (pf l f - l.b).toNat = row.drop (pf l f).toNat := by rw [List.drop_drop]; congr 1; omega
    rw [← e, ← ht, List.drop_append_of_le_length (by omega)]
  · have h1 : (Lgm.part l f most).length ≤ l.ev.length - (pf l f - l.b).toNat := by
      unfold Lgm.part
      rw [List.length_take, List.length_drop]
      omega
    omega
  · unfold Lgm.part
    rw [List.length_take]
    omega
end
end Lgm
end Go.Proofs.Ytakjggmiilkmdaa
