/-
  Promises: blocks that hold one, loads and stores of one; places in slices of promises; what Choose's own last one is.
  No condition but those named.
-/
import Derived.Test.YtfganmbjaglmiaaBalLay
set_option linter.unusedSimpArgs false
set_option linter.unusedVariables false
set_option maxRecDepth 100000
namespace Go.Proofs.Ytfganmbjaglmiaa
open Go.ChangeShapes Go.WideShapes Go.Deep Go.RowKit

namespace Blt
def zp : Bpm := ⟨⟨0, 0⟩, ⟨#[]⟩⟩
def lo (o : Option Bpm) : Bpm := o.getD zp
theorem cm_pos {a b : Bal} : 0 < cm a b ↔ lt b a := by
  unfold cm
  constructor
  · intro h
    split at h
    · omega
    · split at h
      · assumption
      · omega
  · intro h
    rw [if_neg (lt_asym h), if_pos h]
    decide
theorem lo_yes {o : Option Bpm} {x : Bpm} (h1 : Rt x.a) (h2 : 0 < cm x.a (lo o).a) : lo (cs o x) = x := by
  rw [cm_pos] at h2
  cases o with
  | none => show lo (if Rt x.a then some x else none) = x; rw [if_pos h1]; rfl
  | some y => show lo (if Rt x.a ∧ lt y.a x.a then some x else some y) = x; rw [if_pos ⟨h1, h2⟩]; rfl
theorem lo_bad {o : Option Bpm} {x : Bpm} (h1 : ¬ Rt x.a) : cs o x = o := by
  cases o with
  | none => show (if Rt x.a then some x else none) = none; rw [if_neg h1]
  | some y => show (if Rt x.a ∧ lt y.a x.a then some x else some y) = some y; rw [if_neg (fun h => h1 h.1)]
theorem lo_no {o : Option Bpm} {x : Bpm} (h1 : Rt x.a) (h2 : ¬ 0 < cm x.a (lo o).a) : cs o x = o := by
  rw [cm_pos] at h2
  cases o with
  | none => exact absurd (zero_lt h1) h2
  | some y => show (if Rt x.a ∧ lt y.a x.a then some x else some y) = some y; rw [if_neg (fun h => h2 h.2)]
theorem ch_take {l : List Bpm} {k : Nat} {x : Bpm} (h : l[k]? = some x) : ch (l.take (k + 1)) = cs (ch (l.take k)) x := by
  unfold ch
  rw [List.take_add_one, h, Option.toList_some, List.foldl_append]
  rfl
theorem ch_right {l : List Bpm} {x : Bpm} (h : ch l = some x) : Rt x.a := by
  have := ch_told l
  rw [h] at this
  exact this.2.1
end Blt
section
variable {b0 : Nat} {w0 w : World} {L : List (Nat × TypeId × Array Value)} {R : List RowE} {ops : Array Oper} {rest : List Oper} {o : Oper} {a : Act} {Q : Exit → Act → World → Prop} {K : Act → World → Prop} {E : Prop} {g : Nat}
variable {b c : Bal} {p q : Bpm}
theorem wpList_apm (HK : Hid (Kn b0 w0 w L R)) (hgd : o.guard = none) (ho : o.op = .alloc 50)
    (h : ∀ w' g, Hid (Kn b0 w0 w' (L ++ [(g, 50, pmA Blt.zp)]) R) → wpList Try.prog ops Q rest (a.put o.dst (.pointer (some ⟨g, 0, none⟩))) w') : wpList Try.prog ops Q (o :: rest) a w :=
  wpList_plain hgd fun _ hK => lkwp_made info_pmz HK ho fun w' g h1 _ => hK _ _ (h w' g h1)
theorem kwp_spm (HK : Hid (Kn b0 w0 w L R)) (i : Nat) (e1 e2 : Operand) (ho : o.op = .store 50 e1 e2) (hL : L[i]? = some (g, 50, pmA p)) (hx : a.eval e1 = .pointer (some ⟨g, 0, none⟩)) (hy : a.eval e2 = .agg #[.int .i64 q.a.r, .int .i64 q.a.s, .string q.v])
    (h : ∀ w', Hid (Kn b0 w0 w' (L.set i (g, 50, pmA q)) R) → K (a.put o.dst undef) w') : o.wp Try.prog a w K Q :=
  kwp_ss HK _ e1 e2 ho i hL hx hy (by show 3 ≤ 3; decide) info_pm (by simp [Value.oneCell']) fun w' h1 _ => h w' (by
    have e : putCells (pmA p) 0 (#[Value.int .i64 q.a.r, .int .i64 q.a.s, .string q.v] : Array Value).toList = pmA q := by
      show putCells (pmA p) 0 (pmA q).toList = pmA q
      rw [putCells_all (vs := (pmA q).toList) (cs := pmA p) rfl, Array.toArray_toList]
    rw [e] at h1
    exact h1)
theorem wpList_spm (HK : Hid (Kn b0 w0 w L R)) (i : Nat) (hgd : o.guard = none) (e1 e2 : Operand) (ho : o.op = .store 50 e1 e2) (hL : L[i]? = some (g, 50, pmA p)) (hx : a.eval e1 = .pointer (some ⟨g, 0, none⟩)) (hy : a.eval e2 = .agg #[.int .i64 q.a.r, .int .i64 q.a.s, .string q.v])
    (h : ∀ w', Hid (Kn b0 w0 w' (L.set i (g, 50, pmA q)) R) → wpList Try.prog ops Q rest (a.put o.dst undef) w') : wpList Try.prog ops Q (o :: rest) a w :=
  wpList_plain hgd fun _ hK => kwp_spm HK i e1 e2 ho hL hx hy fun w' h1 => hK _ _ (h w' h1)
theorem kp_p (HK : Hid (Kn b0 w0 w L R)) (i : Nat) (e : Operand) (ho : o.op = .load 50 e) (hL : L[i]? = some (g, 50, pmA p)) (hx : a.eval e = .pointer (some ⟨g, 0, none⟩)) :
    (execOp a.eval o).run Try.prog w = .ok (.value (.agg #[.int .i64 p.a.r, .int .i64 p.a.s, .string p.v])) w :=
  kexec_ls HK _ e ho i hL hx (pmA p) (fun j _ => by rw [Nat.zero_add]) Try.underlying50 info_pm
theorem kp_a (HK : Hid (Kn b0 w0 w L R)) (i : Nat) (e : Operand) (ho : o.op = .load 23 e) (hL : L[i]? = some (g, 50, pmA p)) (hx : a.eval e = .pointer (some ⟨g, 0, none⟩)) :
    (execOp a.eval o).run Try.prog w = .ok (.value (.agg #[.int .i64 p.a.r, .int .i64 p.a.s])) w :=
  kexec_ls HK _ e ho i hL hx #[.int .i64 p.a.r, .int .i64 p.a.s] (fun j hj => by
    match j, hj with
    | 0, _ => rfl
    | 1, _ => rfl) Try.underlying23 info_bl
theorem kp_s (HK : Hid (Kn b0 w0 w L R)) (i : Nat) (e : Operand) (ho : o.op = .load 9 e) (hL : L[i]? = some (g, 50, pmA p)) (hx : a.eval e = .pointer (some ⟨g, 2, none⟩)) :
    (execOp a.eval o).run Try.prog w = .ok (.value (.string p.v)) w :=
  kexec_lc HK 9 e ho i hL hx (v := .string p.v) rfl Try.underlying9 rfl
theorem exec_ixp {b off n c i : Nat} (x q : Operand) (ho : o.op = .indexAddr 34 x q) (hx : a.eval x = .slice (some ⟨b, off, none⟩) n c) (hq : a.eval q = .int .i64 (i : Int)) (h : i < n) :
    (execOp a.eval o).run Try.prog w = .ok (.value (.pointer (some ⟨b, off + i * 3, none⟩))) w :=
  exec_slx (w := w) pmLay x q ho hx hq h
theorem exec_lpp {b off : Nat} (e : Operand) (ho : o.op = .load 50 e) (hx : a.eval e = .pointer (some ⟨b, off, none⟩)) (hc : ∀ j v, (pmLay.f p)[j]? = some v → w.cell? ⟨b, off + j, none⟩ = some v) :
    (execOp a.eval o).run Try.prog w = .ok (.value (.agg #[.int .i64 p.a.r, .int .i64 p.a.s, .string p.v])) w :=
  exec_slv (w := w) pmLay e ho hx Try.underlying50 hc
theorem exec_lpa {b off : Nat} (e : Operand) (ho : o.op = .load 23 e) (hx : a.eval e = .pointer (some ⟨b, off, none⟩)) (hc : ∀ j v, (pmLay.f p)[j]? = some v → w.cell? ⟨b, off + j, none⟩ = some v) :
    (execOp a.eval o).run Try.prog w = .ok (.value (.agg #[.int .i64 p.a.r, .int .i64 p.a.s])) w := by
  have hr : w.rangeAt b off [.int .i64 p.a.r, .int .i64 p.a.s] := fun j v hj => hc j v (by
    match j, hj with
    | 0, hj => exact hj
    | 1, hj => exact hj)
  have h := run_loadVar_mid (P := Try.prog) w b off 23 [.int .i64 p.a.r, .int .i64 p.a.s] _ hr Try.underlying23 rfl info_bl
  unfold execOp
  simp only [ho, hx, Instr.loadAt, Instr.sureAddr, Sem.run_bind, Sem.run_pure, Result.andThen_ok, h]
theorem exec_lps {b off : Nat} (e : Operand) (ho : o.op = .load 9 e) (hx : a.eval e = .pointer (some ⟨b, off + 2, none⟩)) (hc : ∀ j v, (pmLay.f p)[j]? = some v → w.cell? ⟨b, off + j, none⟩ = some v) :
    (execOp a.eval o).run Try.prog w = .ok (.value (.string p.v)) w :=
  exec_cell e ho hx (hc 2 _ rfl) Try.underlying9 rfl
end
/-- Where it begins, if it isn't empty. -/
theorem Sls.pat {Fp : Bpm → Prop} {w : World} {A : Option Addr} {n c : Nat} {l : List Bpm} (h : Sls pmLay Fp w A n c l) (hn : 0 < n) : ∃ b o, A = some ⟨b, o, Option.none⟩ ∧
    ∀ W, Below w.heap.size w W → ∀ (i : Nat) x, l[i]? = some x → ∀ j v, (pmLay.f x)[j]? = some v → W.cell? ⟨b, o + i * 3 + j, Option.none⟩ = some v := h.at hn
end Go.Proofs.Ytfganmbjaglmiaa
