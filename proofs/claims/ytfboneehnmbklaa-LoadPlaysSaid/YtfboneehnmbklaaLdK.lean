/-
  The document's own Take, told by rows that are known; what a taken load's lists fit.
  No condition but what the rows read as.
-/
import Derived.Test.YtfboneehnmbklaaLdRTake
set_option linter.unusedSimpArgs false
set_option linter.unusedVariables false
namespace Go.Proofs.Ytfboneehnmbklaa
open Go.RowKit

section
variable {b0 : Nat} {w0 w : World} {L : List (Nat × TypeId × Array Value)} {R : List RowE}
/-- Two rows ahead of the last two are no longer listed. -/
theorem Kn.mid2 {a b c d : RowE} (h : Kn b0 w0 w L (R ++ [a, b] ++ [c, d])) : Kn b0 w0 w L (R ++ [c, d]) := by
  refine h.pick id (fun i => if i < R.length then i else i + 2) (fun i j _ _ h => h) (fun i j hi hj hne => ?_) (fun i x hx => hx) (fun i x hx => ?_)
  · split <;> split <;> omega
  · rcases Nat.lt_or_ge i R.length with hi | hi
    · rw [List.getElem?_append_left hi] at hx
      rw [if_pos hi, List.append_assoc, List.getElem?_append_left hi]
      exact hx
    · rw [List.getElem?_append_right hi] at hx
      rw [if_neg (by omega), List.getElem?_append_right (by simp; omega)]
      have e : i + 2 - (R ++ [a, b]).length = i - R.length := by simp
      rw [e]
      exact hx
end
theorem set_mem {α : Type} {l : List α} {k : Nat} {y x : α} (h : x ∈ l.set k y) : x ∈ l ∨ x = y := List.mem_or_eq_of_mem_set h
theorem pt_fits {l : Ldd} {p : Lpc} (h1 : Fits bLay bF l.h) (h2 : Fits sLay sF l.d) (hd : p.d.size ≤ 140737488351232) : Fits bLay bF (Ldm.pt l p).h ∧ Fits sLay sF (Ldm.pt l p).d := by
  refine ⟨⟨fun _ _ => trivial, ?_⟩, ⟨fun x hx => ?_, ?_⟩⟩
  · show (l.h.set _ _).length * _ ≤ _
    rw [List.length_set]; exact h1.big
  · rcases set_mem hx with h | h
    · exact h2.fs x h
    · rw [h]; exact hd
  · show (l.d.set _ _).length * _ ≤ _
    rw [List.length_set]; exact h2.big
theorem bg_fits {p : Lpc} (hp : Ldm.PR p) : Fits bLay bF (Ldm.bg p).h ∧ Fits sLay sF (Ldm.bg p).d := by
  have h1 := hp.1.2.1
  refine ⟨fits_b _ p.t.toNat (by simp [Ldm.bg]) (by omega), fits_s _ p.t.toNat (by simp [Ldm.bg]) (by omega) (fun x hx => ?_)⟩
  have : x = ⟨#[]⟩ := by simp [Ldm.bg] at hx; exact hx.2
  rw [this]; decide
theorem tk_fits {l : Ldd} {p : Lpc} (h1 : Fits bLay bF l.h) (h2 : Fits sLay sF l.d) (hd : p.d.size ≤ 140737488351232) : Fits bLay bF (Ldm.tk l p).h ∧ Fits sLay sF (Ldm.tk l p).d := by
  unfold Ldm.tk
  split
  · exact ⟨h1, h2⟩
  · rename_i hq
    have hp : Ldm.PR p := (Classical.byContradiction hq).2
    split
    · exact ⟨h1, h2⟩
    · split
      · exact pt_fits (bg_fits hp).1 (bg_fits hp).2 hd
      · split
        · exact ⟨h1, h2⟩
        · exact pt_fits h1 h2 hd
theorem lrtakeK {l : Ldd} {p : Lpc} (hd : p.d.size ≤ 140737488351232) (hfb : Fits bLay bF l.h) (hfs : Fits sLay sF l.d) {b0 : Nat} {w0 : World} {L : List (Nat × TypeId × Array Value)} (R : List RowE) {A : Option Addr} {n c : Nat} {A2 : Option Addr} {n2 c2 : Nat} {W : World}
    (k : Kn b0 w0 W L (R ++ [row bLay (.slice A n c) l.h, row sLay (.slice A2 n2 c2) l.d])) :
    Calls Try.prog 16 #[.agg #[.int .i64 l.n, .int .i64 l.t, .int .u32 (l.s : Int), .slice A n c, .slice A2 n2 c2], .agg #[.int .i64 p.n, .int .i64 p.a, .int .i64 p.t, .int .u32 (p.s : Int), .string p.d]] W fun e W' =>
      ∃ A' n' c' A2' n2' c2', e = .returned (.tuple #[.agg #[.int .i64 (Ldm.tk l p).n, .int .i64 (Ldm.tk l p).t, .int .u32 ((Ldm.tk l p).s : Int), .slice A' n' c', .slice A2' n2' c2'], .int .i64 (Ldm.tkE l p)]) ∧
        Kn b0 w0 W' L (R ++ [row bLay (.slice A' n' c') (Ldm.tk l p).h, row sLay (.slice A2' n2' c2') (Ldm.tk l p).d]) := by
  have o1 : bLay.Own b0 W (.slice A n c) l.h := k.own R.length (by simp)
  have o2 : sLay.Own b0 W (.slice A2 n2 c2) l.d := k.own (R.length + 1) (by rw [List.getElem?_append_right (by omega)]; simp)
  refine (lrtake_any l p A n c A2 n2 c2 W (Sls.own o1 hfb) (Sls.own o2 hfs) hd).mono ?_
  rintro e W' (⟨e1, rfl, b⟩ | ⟨A', n', c', A2', n2', c2', rfl, k2⟩)
  · rw [e1]
    exact ⟨_, _, _, _, _, _, rfl, k.call b⟩
  · exact ⟨_, _, _, _, _, _, rfl, (k.join k2).mid2⟩
end Go.Proofs.Ytfboneehnmbklaa
