/-
  What the document's own Take returns; the law's own twin; the document's Same of logs that are the same.
  No condition but what the slices read as.
-/
import Derived.Test.YtakjggmiilkmdaaJTold
import Derived.Test.YtakjggmiilkmdaaEvSm
set_option linter.unusedSimpArgs false
set_option linter.unusedVariables false
namespace Go.Proofs.Ytakjggmiilkmdaa
open Go.RowKit

section
variable {b0 : Nat} {w0 w : World} {L : List (Nat × TypeId × Array Value)} {R : List RowE} {ops : Array Oper} {rest : List Oper} {o : Oper} {a : Act} {Q : Exit → Act → World → Prop} {K : Act → World → Prop} {E : Prop} {g : Nat}
theorem kevA {e : Cmd.E} (HK : Hid (Kn b0 w0 w L R)) (i : Nat) (x : Operand) (ho : o.op = .load 35 x) (hL : L[i]? = some (g, 35, evA e)) (hx : a.eval x = .pointer (some ⟨g, 0, none⟩)) :
    (execOp a.eval o).run Try.prog w = .ok (.value (.agg (evA e))) w := kexec_ee HK i x ho hL hx
theorem step_sevA {e1 e2 : Cmd.E} (HK : Hid (Kn b0 w0 w L R)) (i : Nat) (hgd : o.guard = none) (p q : Operand) (ho : o.op = .store 35 p q) (hL : L[i]? = some (g, 35, evA e1)) (hx : a.eval p = .pointer (some ⟨g, 0, none⟩)) (hy : a.eval q = .agg (evA e2))
    (h : ∀ w', Hid (Kn b0 w0 w' (L.set i (g, 35, evA e2)) R) → K (a.put o.dst undef) w') : if Region.wanted o (yielded ops a.tmps) = true then Oper.wp Try.prog o a w K Q else E :=
  step_ss HK i hgd _ p q ho hL hx hy (by show 16 ≤ 16; decide) info_ev (by simp [evA, evC, Value.oneCell']) fun w' h1 _ => h w' (by
    have e : putCells (evA e1) 0 (evA e2).toList = evA e2 := by
      rw [putCells_all (vs := (evA e2).toList) (cs := evA e1) rfl, Array.toArray_toList]
    rw [e] at h1
    exact h1)
theorem exec_ixev {b off n c i : Nat} (x q : Operand) (ho : o.op = .indexAddr 22 x q) (hx : a.eval x = .slice (some ⟨b, off, none⟩) n c) (hq : a.eval q = .int .i64 (i : Int)) (h : i < n) :
    (execOp a.eval o).run Try.prog w = .ok (.value (.pointer (some ⟨b, off + i * 16, none⟩))) w := exec_slx (w := w) evLay x q ho hx hq h
theorem Sls.eat {Fe : Cmd.E → Prop} {w : World} {A : Option Addr} {n c : Nat} {l : List Cmd.E} (h : Sls evLay Fe w A n c l) (hn : 0 < n) : ∃ b o, A = some ⟨b, o, Option.none⟩ ∧
    ∀ W, Below w.heap.size w W → ∀ (i : Nat) x, l[i]? = some x → ∀ j v, (evL x)[j]? = some v → W.cell? ⟨b, o + i * 16 + j, Option.none⟩ = some v := h.at hn
end
namespace Lgm
/-- The next event that stays. -/
def tkE (l : Lg) : Option Cmd.E := if l.d < l.c then l.ev[(l.d - l.b).toNat]? else none
def tkL (l : Lg) : Lg := if l.d < l.c then { l with d := l.d + 1 } else l
end Lgm
set_option maxRecDepth 100000 in
set_option maxHeartbeats 6400000 in
theorem lrtake_any (G : World → Prop) (l : Lg) (A : Option Addr) (n c : Nat) (w : World) (hG : ∀ W, G W → Sls evLay lvF W A n c l.ev) (hs : Sls evLay lvF w A n c l.ev) (hr : Lgm.Right l) :
    Calls Try.prog 35 #[.agg #[.int .i64 l.b, .int .i64 l.c, .int .i64 l.d, .slice A n c]] w (IsTkT G (Lgm.tkL l) ((Lgm.tkE l).getD evZ) (Lgm.tkE l).isSome w) := by
  have hn := hs.len
  obtain ⟨r1, r2, r3, r4, r5, r6, r7⟩ := hr
  have hn16 : n ≤ 16 := by omega
  have HE := Lib.hid (fun W => lrend_any l A n c W hn r1 r3 (by omega))
  have HT := Lib.hid (Tl.same hG)
  have HK := kn3 w 24 (lgC l.b l.c l.d (.slice A n c)) 24 (lgC 0 0 0 (.slice none 0 0)) 35 (evA evZ)
  have hen : Lgm.en l = l.b + (n : Int) := by unfold Lgm.en; rw [hn]
  unfold IsNm at HE
  unfold IsTkT
  by_cases hd : l.d < l.c
  case neg =>
    have e1 : Lgm.tkE l = none := if_neg hd
    have e2 : Lgm.tkL l = l := if_neg hd
    have hdc : decide (l.c ≤ l.d) = true := decide_eq_true (by omega)
    rw [e1, e2]
    clear e1 e2 hd hG hs hn r1 r2 r3 r4 r5 r6 r7 hen HE
    obtain ⟨b, cc, d, ev⟩ := l
    simp only [Option.getD_none, Option.isSome_none] at *
    go_enter Try.func35, Try.ntmps35
    go_wp2_with fail
    have HK0 := Lib.hid HK.out.drew
    clear HK
    refine wp_region_held_drew (S := (fun W => Hid (Kn w.heap.size w W [(w.heap.size, 24, lgC b cc d (.slice A n c)), (w.heap.size + 1, 24, lgC 0 0 0 (.slice none 0 0)), (w.heap.size + 2, 35, evA evZ)] []))) (by kernel_rfl) ?_ (fun hHeld => ?_)
    · (try dsimp only); exact HK0
    refine wpAnyH_take (i := 0) (oi := ⟨some 6, _, _, _, _, _⟩) (v := ?_) rfl (by kernel_rfl) (by kernel_rfl) (by kernel_rfl) (fun _ _ _ h => h) (Or.inl ⟨by rfl, ?_⟩) (by assumption) ?_
    rotate_left
    · (intro w hSw; (try dsimp only at hSw); go_simp; try with_reducible rfl)
    try simp only [Act.put, List.setIfInBounds_toArray, List.set_cons_zero, List.set_cons_succ]
    refine wpAnyH_take (i := 1) (oi := ⟨some 7, _, _, _, _, _⟩) (v := ?_) rfl (by kernel_rfl) (by kernel_rfl) (by kernel_rfl) (fun _ _ _ h => h) (Or.inl ⟨by rfl, ?_⟩) (by assumption) ?_
    rotate_left
    · (intro w hSw; refine Eq.trans (klg_d hSw 0 _ (by rfl) (by rfl) (by rfl)) ?_; with_reducible rfl)
    try simp only [Act.put, List.setIfInBounds_toArray, List.set_cons_zero, List.set_cons_succ]
    refine wpAnyH_take (i := 2) (oi := ⟨some 8, _, _, _, _, _⟩) (v := ?_) rfl (by kernel_rfl) (by kernel_rfl) (by kernel_rfl) (fun _ _ _ h => h) (Or.inl ⟨by rfl, ?_⟩) (by assumption) ?_
    rotate_left
    · (intro w hSw; (try dsimp only at hSw); go_simp; try with_reducible rfl)
    try simp only [Act.put, List.setIfInBounds_toArray, List.set_cons_zero, List.set_cons_succ]
    refine wpAnyH_take (i := 3) (oi := ⟨some 9, _, _, _, _, _⟩) (v := ?_) rfl (by kernel_rfl) (by kernel_rfl) (by kernel_rfl) (fun _ _ _ h => h) (Or.inl ⟨by rfl, ?_⟩) (by assumption) ?_
    rotate_left
    · (intro w hSw; refine Eq.trans (klg_c hSw 0 _ (by rfl) (by rfl) (by rfl)) ?_; with_reducible rfl)
    try simp only [Act.put, List.setIfInBounds_toArray, List.set_cons_zero, List.set_cons_succ]
    refine wpAnyH_take (i := 4) (oi := ⟨some 10, _, _, _, _, _⟩) (v := ?_) rfl (by kernel_rfl) (by kernel_rfl) (by kernel_rfl) (fun _ _ _ h => h) (Or.inl ⟨by rfl, ?_⟩) (by assumption) ?_
    rotate_left
    · (intro w hSw; (try dsimp only at hSw); go_simp; try with_reducible rfl)
    try simp only [Act.put, List.setIfInBounds_toArray, List.set_cons_zero, List.set_cons_succ]
    refine wpAnyH_take (i := 5) (oi := ⟨some 11, _, _, _, _, _⟩) (v := ?_) rfl (by kernel_rfl) (by kernel_rfl) (by kernel_rfl) (fun _ _ _ h => h) (Or.inl ⟨by rfl, ?_⟩) (by assumption) ?_
    rotate_left
    · (intro w hSw; (try dsimp only at hSw); go_simp; try with_reducible rfl)
    try simp only [Act.put, List.setIfInBounds_toArray, List.set_cons_zero, List.set_cons_succ]
    refine wpAnyH_take (i := 6) (oi := ⟨some 12, _, _, _, _, _⟩) (v := undef) rfl (by kernel_rfl) (by kernel_rfl) (by kernel_rfl) (fun _ _ _ h => h) (Or.inr ⟨by rfl, rfl⟩) (by assumption) ?_
    try simp only [Act.put, List.setIfInBounds_toArray, List.set_cons_zero, List.set_cons_succ]
    refine wpAnyH_take (i := 7) (oi := ⟨some 13, _, _, _, _, _⟩) (v := undef) rfl (by kernel_rfl) (by kernel_rfl) (by kernel_rfl) (fun _ _ _ h => h) (Or.inr ⟨by rfl, rfl⟩) (by assumption) ?_
    try simp only [Act.put, List.setIfInBounds_toArray, List.set_cons_zero, List.set_cons_succ]
    refine wpAnyH_take (i := 8) (oi := ⟨some 14, _, _, _, _, _⟩) (v := undef) rfl (by kernel_rfl) (by kernel_rfl) (by kernel_rfl) (fun _ _ _ h => h) (Or.inr ⟨by rfl, rfl⟩) (by assumption) ?_
    try simp only [Act.put, List.setIfInBounds_toArray, List.set_cons_zero, List.set_cons_succ]
    refine wpAnyH_take (i := 9) (oi := ⟨some 15, _, _, _, _, _⟩) (v := undef) rfl (by kernel_rfl) (by kernel_rfl) (by kernel_rfl) (fun _ _ _ h => h) (Or.inr ⟨by rfl, rfl⟩) (by assumption) ?_
    try simp only [Act.put, List.setIfInBounds_toArray, List.set_cons_zero, List.set_cons_succ]
    refine wpAnyH_take (i := 10) (oi := ⟨some 16, _, _, _, _, _⟩) (v := undef) rfl (by kernel_rfl) (by kernel_rfl) (by kernel_rfl) (fun _ _ _ h => h) (Or.inr ⟨by rfl, rfl⟩) (by assumption) ?_
    try simp only [Act.put, List.setIfInBounds_toArray, List.set_cons_zero, List.set_cons_succ]
    refine wpAnyH_take (i := 11) (oi := ⟨some 17, _, _, _, _, _⟩) (v := ?_) rfl (by kernel_rfl) (by kernel_rfl) (by kernel_rfl) (fun _ _ _ h => h) (Or.inl ⟨by rfl, ?_⟩) (by assumption) ?_
    rotate_left
    · (intro w hSw; (try dsimp only at hSw); go_simp; try with_reducible rfl)
    try simp only [Act.put, List.setIfInBounds_toArray, List.set_cons_zero, List.set_cons_succ]
    refine wpAnyH_take (i := 12) (oi := ⟨some 18, _, _, _, _, _⟩) (v := ?_) rfl (by kernel_rfl) (by kernel_rfl) (by kernel_rfl) (fun _ _ _ h => h) (Or.inl ⟨by rfl, ?_⟩) (by assumption) ?_
    rotate_left
    · (intro w hSw; (try dsimp only at hSw); go_simp; try with_reducible rfl)
    try simp only [Act.put, List.setIfInBounds_toArray, List.set_cons_zero, List.set_cons_succ]
    refine wpAnyH_take (i := 13) (oi := ⟨some 19, _, _, _, _, _⟩) (v := undef) rfl (by kernel_rfl) (by kernel_rfl) (by kernel_rfl) (fun _ _ _ h => h) (Or.inr ⟨by rfl, rfl⟩) (by assumption) ?_
    try simp only [Act.put, List.setIfInBounds_toArray, List.set_cons_zero, List.set_cons_succ]
    refine wpAnyH_take (i := 14) (oi := ⟨some 20, _, _, _, _, _⟩) (v := undef) rfl (by kernel_rfl) (by kernel_rfl) (by kernel_rfl) (fun _ _ _ h => h) (Or.inr ⟨by rfl, rfl⟩) (by assumption) ?_
    try simp only [Act.put, List.setIfInBounds_toArray, List.set_cons_zero, List.set_cons_succ]
    refine wpAnyH_take (i := 15) (oi := ⟨some 21, _, _, _, _, _⟩) (v := undef) rfl (by kernel_rfl) (by kernel_rfl) (by kernel_rfl) (fun _ _ _ h => h) (Or.inr ⟨by rfl, rfl⟩) (by assumption) ?_
    try simp only [Act.put, List.setIfInBounds_toArray, List.set_cons_zero, List.set_cons_succ]
    refine wpAnyH_take (i := 16) (oi := ⟨some 22, _, _, _, _, _⟩) (v := undef) rfl (by kernel_rfl) (by kernel_rfl) (by kernel_rfl) (fun _ _ _ h => h) (Or.inr ⟨by rfl, rfl⟩) (by assumption) ?_
    try simp only [Act.put, List.setIfInBounds_toArray, List.set_cons_zero, List.set_cons_succ]
    refine wpAnyH_take (i := 17) (oi := ⟨some 23, _, _, _, _, _⟩) (v := undef) rfl (by kernel_rfl) (by kernel_rfl) (by kernel_rfl) (fun _ _ _ h => h) (Or.inr ⟨by rfl, rfl⟩) (by assumption) ?_
    try simp only [Act.put, List.setIfInBounds_toArray, List.set_cons_zero, List.set_cons_succ]
    refine wpAnyH_take (i := 18) (oi := ⟨some 24, _, _, _, _, _⟩) (v := ?_) rfl (by kernel_rfl) (by kernel_rfl) (by kernel_rfl) (fun _ _ _ h => h) (Or.inl ⟨by rfl, ?_⟩) (by assumption) ?_
    rotate_left
    · (intro w hSw; (try dsimp only at hSw); go_simp; try with_reducible rfl)
    try simp only [Act.put, List.setIfInBounds_toArray, List.set_cons_zero, List.set_cons_succ]
    refine wpAnyH_done (by kernel_rfl) ?_ _
    all_goals
      have HK := hHeld
      clear HK0 hHeld
      go_wp2_with (first | refine wpList_exe (klg HK 0 _ (by rfl) (by rfl) (by rfl)) (by rfl) ?_ | (refine wpList_slg HK 1 rfl _ _ rfl rfl rfl rfl rfl ?_; intro _ HK'; simp only [List.set] at HK'; replace HK := HK'; clear HK') | (refine wpList_sev (e2 := evZ) HK 2 rfl _ _ rfl rfl rfl rfl ?_; intro _ HK' _; simp only [List.set] at HK'; replace HK := HK'; clear HK'))
      exact ret_lgev Try.results35 rfl rfl rfl rfl (HK.out.blk 1 rfl) (HK.out.blk 2 rfl) ⟨A, n, c, [], rfl, HK.out.takeL 0, HT⟩
  case pos =>
    obtain ⟨p, hp⟩ : ∃ p : Nat, (l.d - l.b).toNat = p := ⟨_, rfl⟩
    have hpn : p < n := by omega
    obtain ⟨x, hx, _⟩ := hs.get hpn
    have e1 : Lgm.tkE l = some x := (if_pos hd).trans (by rw [hp]; exact hx)
    have e2 : Lgm.tkL l = ⟨l.b, l.c, l.d + 1, l.ev⟩ := if_pos hd
    have hdc : decide (l.c ≤ l.d) = false := decide_eq_false (by omega)
    have hdb : decide (l.d < l.b) = false := decide_eq_false (by omega)
    have hde : decide (Lgm.en l ≤ l.d) = false := decide_eq_false (by omega)
    have hsub : IntKind.i64.wrap (l.d - l.b) = (p : Int) := by rw [IntKind.wrap_i64]; omega
    have hadd : IntKind.i64.wrap (l.d + 1) = l.d + 1 := by rw [IntKind.wrap_i64]; omega
    obtain ⟨b', o, rfl, hat⟩ := hs.eat (by omega)
    have HX : Hid (∀ W, Below w.heap.size w W → ∀ j v, (evL x)[j]? = some v → W.cell? ⟨b', o + p * 16 + j, none⟩ = some v) := Lib.hid (fun W hW => hat W hW p x hx)
    rw [e1, e2]
    clear e1 e2 hd hG hs hn r1 r2 r3 r4 r5 r6 r7 hen hat hx hp
    obtain ⟨b, cc, d, ev⟩ := l
    simp only [Option.getD_some, Option.isSome_some] at *
    generalize Lgm.en ⟨b, cc, d, ev⟩ = m at *
    go_enter Try.func35, Try.ntmps35
    go_wp2_with fail
    have HK0 := Lib.hid HK.out.drew
    clear HK
    refine wp_region_held_drew (S := (fun W => Hid (Kn w.heap.size w W [(w.heap.size, 24, lgC b cc d (.slice (some ⟨b', o, none⟩) n c)), (w.heap.size + 1, 24, lgC 0 0 0 (.slice none 0 0)), (w.heap.size + 2, 35, evA evZ)] []))) (by kernel_rfl) ?_ (fun hHeld => ?_)
    · (try dsimp only); exact HK0
    refine wpAnyH_take (i := 0) (oi := ⟨some 6, _, _, _, _, _⟩) (v := ?_) rfl (by kernel_rfl) (by kernel_rfl) (by kernel_rfl) (fun _ _ _ h => h) (Or.inl ⟨by rfl, ?_⟩) (by assumption) ?_
    rotate_left
    · (intro w hSw; (try dsimp only at hSw); go_simp; try with_reducible rfl)
    try simp only [Act.put, List.setIfInBounds_toArray, List.set_cons_zero, List.set_cons_succ]
    refine wpAnyH_take (i := 1) (oi := ⟨some 7, _, _, _, _, _⟩) (v := ?_) rfl (by kernel_rfl) (by kernel_rfl) (by kernel_rfl) (fun _ _ _ h => h) (Or.inl ⟨by rfl, ?_⟩) (by assumption) ?_
    rotate_left
    · (intro w hSw; refine Eq.trans (klg_d hSw 0 _ (by rfl) (by rfl) (by rfl)) ?_; with_reducible rfl)
    try simp only [Act.put, List.setIfInBounds_toArray, List.set_cons_zero, List.set_cons_succ]
    refine wpAnyH_take (i := 2) (oi := ⟨some 8, _, _, _, _, _⟩) (v := ?_) rfl (by kernel_rfl) (by kernel_rfl) (by kernel_rfl) (fun _ _ _ h => h) (Or.inl ⟨by rfl, ?_⟩) (by assumption) ?_
    rotate_left
    · (intro w hSw; (try dsimp only at hSw); go_simp; try with_reducible rfl)
    try simp only [Act.put, List.setIfInBounds_toArray, List.set_cons_zero, List.set_cons_succ]
    refine wpAnyH_take (i := 3) (oi := ⟨some 9, _, _, _, _, _⟩) (v := ?_) rfl (by kernel_rfl) (by kernel_rfl) (by kernel_rfl) (fun _ _ _ h => h) (Or.inl ⟨by rfl, ?_⟩) (by assumption) ?_
    rotate_left
    · (intro w hSw; refine Eq.trans (klg_c hSw 0 _ (by rfl) (by rfl) (by rfl)) ?_; with_reducible rfl)
    try simp only [Act.put, List.setIfInBounds_toArray, List.set_cons_zero, List.set_cons_succ]
    refine wpAnyH_take (i := 4) (oi := ⟨some 10, _, _, _, _, _⟩) (v := ?_) rfl (by kernel_rfl) (by kernel_rfl) (by kernel_rfl) (fun _ _ _ h => h) (Or.inl ⟨by rfl, ?_⟩) (by assumption) ?_
    rotate_left
    · (intro w hSw; (try dsimp only at hSw); go_simp; try with_reducible rfl)
    try simp only [Act.put, List.setIfInBounds_toArray, List.set_cons_zero, List.set_cons_succ]
    refine wpAnyH_take (i := 5) (oi := ⟨some 11, _, _, _, _, _⟩) (v := ?_) rfl (by kernel_rfl) (by kernel_rfl) (by kernel_rfl) (fun _ _ _ h => h) (Or.inl ⟨by rfl, ?_⟩) (by assumption) ?_
    rotate_left
    · (intro w hSw; (try dsimp only at hSw); go_simp; try with_reducible rfl)
    try simp only [Act.put, List.setIfInBounds_toArray, List.set_cons_zero, List.set_cons_succ]
    refine wpAnyH_take (i := 6) (oi := ⟨some 12, _, _, _, _, _⟩) (v := ?_) rfl (by kernel_rfl) (by kernel_rfl) (by kernel_rfl) (fun _ _ _ h => h) (Or.inl ⟨by rfl, ?_⟩) (by assumption) ?_
    rotate_left
    · (intro w hSw; (try dsimp only at hSw); go_simp; try with_reducible rfl)
    try simp only [Act.put, List.setIfInBounds_toArray, List.set_cons_zero, List.set_cons_succ]
    refine wpAnyH_take (i := 7) (oi := ⟨some 13, _, _, _, _, _⟩) (v := ?_) rfl (by kernel_rfl) (by kernel_rfl) (by kernel_rfl) (fun _ _ _ h => h) (Or.inl ⟨by rfl, ?_⟩) (by assumption) ?_
    rotate_left
    · (intro w hSw; refine Eq.trans (klg_d hSw 0 _ (by rfl) (by rfl) (by rfl)) ?_; with_reducible rfl)
    try simp only [Act.put, List.setIfInBounds_toArray, List.set_cons_zero, List.set_cons_succ]
    refine wpAnyH_take (i := 8) (oi := ⟨some 14, _, _, _, _, _⟩) (v := ?_) rfl (by kernel_rfl) (by kernel_rfl) (by kernel_rfl) (fun _ _ _ h => h) (Or.inl ⟨by rfl, ?_⟩) (by assumption) ?_
    rotate_left
    · (intro w hSw; (try dsimp only at hSw); go_simp; try with_reducible rfl)
    try simp only [Act.put, List.setIfInBounds_toArray, List.set_cons_zero, List.set_cons_succ]
    refine wpAnyH_take (i := 9) (oi := ⟨some 15, _, _, _, _, _⟩) (v := ?_) rfl (by kernel_rfl) (by kernel_rfl) (by kernel_rfl) (fun _ _ _ h => h) (Or.inl ⟨by rfl, ?_⟩) (by assumption) ?_
    rotate_left
    · (intro w hSw; refine Eq.trans (klg_b hSw 0 _ (by rfl) (by rfl) (by rfl)) ?_; with_reducible rfl)
    try simp only [Act.put, List.setIfInBounds_toArray, List.set_cons_zero, List.set_cons_succ]
    refine wpAnyH_take (i := 10) (oi := ⟨some 16, _, _, _, _, _⟩) (v := ?_) rfl (by kernel_rfl) (by kernel_rfl) (by kernel_rfl) (fun _ _ _ h => h) (Or.inl ⟨by rfl, ?_⟩) (by assumption) ?_
    rotate_left
    · (intro w hSw; (try dsimp only at hSw); go_simp; try with_reducible rfl)
    try simp only [Act.put, List.setIfInBounds_toArray, List.set_cons_zero, List.set_cons_succ]
    refine wpAnyH_take (i := 11) (oi := ⟨some 17, _, _, _, _, _⟩) (v := ?_) rfl (by kernel_rfl) (by kernel_rfl) (by kernel_rfl) (fun _ _ _ h => h) (Or.inl ⟨by rfl, ?_⟩) (by assumption) ?_
    rotate_left
    · (intro w hSw; (try dsimp only at hSw); go_simp; try with_reducible rfl)
    try simp only [Act.put, List.setIfInBounds_toArray, List.set_cons_zero, List.set_cons_succ]
    refine wpAnyH_take (i := 12) (oi := ⟨some 18, _, _, _, _, _⟩) (v := ?_) rfl (by kernel_rfl) (by kernel_rfl) (by kernel_rfl) (fun _ _ _ h => h) (Or.inl ⟨by rfl, ?_⟩) (by assumption) ?_
    rotate_left
    · (intro w hSw; (try dsimp only at hSw); go_simp; try with_reducible rfl)
    try simp only [Act.put, List.setIfInBounds_toArray, List.set_cons_zero, List.set_cons_succ]
    refine wpAnyH_take (i := 13) (oi := ⟨some 19, _, _, _, _, _⟩) (v := ?_) rfl (by kernel_rfl) (by kernel_rfl) (by kernel_rfl) (fun _ _ _ h => h) (Or.inl ⟨by rfl, ?_⟩) (by assumption) ?_
    rotate_left
    · (intro w hSw; (try dsimp only at hSw); go_simp; try with_reducible rfl)
    try simp only [Act.put, List.setIfInBounds_toArray, List.set_cons_zero, List.set_cons_succ]
    refine wpAnyH_take (i := 14) (oi := ⟨some 20, _, _, _, _, _⟩) (v := ?_) rfl (by kernel_rfl) (by kernel_rfl) (by kernel_rfl) (fun _ _ _ h => h) (Or.inl ⟨by rfl, ?_⟩) (by assumption) ?_
    rotate_left
    · (intro w hSw; refine Eq.trans (klg_d hSw 0 _ (by rfl) (by rfl) (by rfl)) ?_; with_reducible rfl)
    try simp only [Act.put, List.setIfInBounds_toArray, List.set_cons_zero, List.set_cons_succ]
    refine wpAnyH_take (i := 15) (oi := ⟨some 21, _, _, _, _, _⟩) (v := ?_) rfl (by kernel_rfl) (by kernel_rfl) (by kernel_rfl) (fun _ _ _ h => h) (Or.inl ⟨by rfl, ?_⟩) (by assumption) ?_
    rotate_left
    · (intro w hSw; refine Eq.trans (klg hSw 0 _ (by rfl) (by rfl) (by rfl)) ?_; with_reducible rfl)
    try simp only [Act.put, List.setIfInBounds_toArray, List.set_cons_zero, List.set_cons_succ]
    refine wpAnyH_ready (rs := [16]) (by kernel_rfl) (by simp) ?_
    refine AllReadyH.cons (o := ⟨some 22, _, _, _, _, _⟩) rfl (fun K hK => ?_) AllReadyH.nil
    go_simp
    go_at_call 16
    refine (HE.out _).mono ?_; rintro e w5 ⟨rfl, b5⟩; have hs := Lib.hid (hHeld.out.call b5); clear b5
    refine hK.out _ _ hs (fun hHeld => ?_)
    clear hK K
    try simp only [ap1, ap2, ap3, ap4, ap5]
    refine wpAnyH_take (i := 17) (oi := ⟨some 23, _, _, _, _, _⟩) (v := ?_) rfl (by kernel_rfl) (by kernel_rfl) (by kernel_rfl) (fun _ _ _ h => h) (Or.inl ⟨by rfl, ?_⟩) (by assumption) ?_
    rotate_left
    · (intro w hSw; (try dsimp only at hSw); go_simp; try with_reducible rfl)
    try simp only [Act.put, List.setIfInBounds_toArray, List.set_cons_zero, List.set_cons_succ]
    refine wpAnyH_take (i := 18) (oi := ⟨some 24, _, _, _, _, _⟩) (v := ?_) rfl (by kernel_rfl) (by kernel_rfl) (by kernel_rfl) (fun _ _ _ h => h) (Or.inl ⟨by rfl, ?_⟩) (by assumption) ?_
    rotate_left
    · (intro w hSw; (try dsimp only at hSw); go_simp; try with_reducible rfl)
    try simp only [Act.put, List.setIfInBounds_toArray, List.set_cons_zero, List.set_cons_succ]
    refine wpAnyH_done (by kernel_rfl) ?_ _
    all_goals
      have HK := hHeld
      clear HK0 hHeld HE
      go_wp2_with (first | refine wpList_exe (klg_e HK 0 _ (by rfl) (by rfl) (by rfl)) (by rfl) ?_ | refine wpList_exe (klg_d HK 0 _ (by rfl) (by rfl) (by rfl)) (by rfl) ?_ | refine wpList_exe (klg_b HK 0 _ (by rfl) (by rfl) (by rfl)) (by rfl) ?_ | refine wpList_exe (exec_ixev (i := p) _ _ (by rfl) (by rfl) (by rfl) hpn) (by rfl) ?_ | refine wpList_of_exec (v := .agg (evA x)) (by rfl) (exec_lev (off := o + p * 16) _ (by rfl) (by rfl) (HX.out _ HK.out.b)) ?_ | (refine wpList_akev HK rfl rfl ?_; intro _ g5 HK'; simp only [List.cons_append, List.nil_append] at HK'; replace HK := HK'; clear HK') | (refine wpList_sev (e2 := x) HK 3 rfl _ _ rfl rfl rfl rfl ?_; intro _ HK' _; simp only [List.set] at HK'; replace HK := HK'; clear HK') | (refine wpList_slg_d HK 0 rfl _ _ rfl rfl rfl rfl ?_; intro _ HK'; simp only [List.set] at HK'; replace HK := HK'; clear HK'))
      have HK0 := Lib.hid HK.out.drew
      clear HK
      refine wp_region_held_drew (S := (fun W => Hid (Kn w.heap.size w W [(w.heap.size, 24, lgC b cc (d + 1) (.slice (some ⟨b', o, none⟩) n c))] []) ∧ Hid (Kn w.heap.size w W [(g5, 35, evA x)] []))) (by kernel_rfl) ?_ (fun hHeld => ?_)
      · (try dsimp only); exact And.intro (Lib.hid (HK0.out.takeL 1)) (Lib.hid (HK0.out.dropL 3))
      refine wpAnyH_take (i := 0) (oi := ⟨some 40, _, _, _, _, _⟩) (v := ?_) rfl (by kernel_rfl) (by kernel_rfl) (by kernel_rfl) (fun _ _ _ h => h) (Or.inl ⟨by rfl, ?_⟩) (by assumption) ?_
      rotate_left
      · (intro w hSw; refine Eq.trans (klg hSw.1 0 _ (by rfl) (by rfl) (by rfl)) ?_; with_reducible rfl)
      try simp only [Act.put, List.setIfInBounds_toArray, List.set_cons_zero, List.set_cons_succ]
      refine wpAnyH_take (i := 1) (oi := ⟨some 41, _, _, _, _, _⟩) (v := ?_) rfl (by kernel_rfl) (by kernel_rfl) (by kernel_rfl) (fun _ _ _ h => h) (Or.inl ⟨by rfl, ?_⟩) (by assumption) ?_
      rotate_left
      · (intro w hSw; refine Eq.trans (kevA hSw.2 0 _ (by rfl) (by rfl) (by rfl)) ?_; with_reducible rfl)
      try simp only [Act.put, List.setIfInBounds_toArray, List.set_cons_zero, List.set_cons_succ]
      refine wpAnyH_ready (rs := [2]) (by kernel_rfl) (by simp) ?_
      refine AllReadyH.cons (o := ⟨none, _, _, _, _, _⟩) rfl (fun K hK => ?_) AllReadyH.nil
      refine step_slg HK0 1 (by rfl) _ _ (by rfl) (by rfl) (by rfl) (by rfl) (by rfl) ?_; clear HK0; intro wq HK0; simp only [List.set] at HK0; have hs := And.intro (Lib.hid (HK0.out.takeL 1)) (Lib.hid (HK0.out.dropL 3))
      refine hK.out _ _ hs (fun hHeld => ?_)
      clear hK K
      try simp only [ap1, ap2, ap3, ap4, ap5]
      refine wpAnyH_ready (rs := [3]) (by kernel_rfl) (by simp) ?_
      refine AllReadyH.cons (o := ⟨none, _, _, _, _, _⟩) rfl (fun K hK => ?_) AllReadyH.nil
      refine step_sevA (e2 := x) HK0 2 (by rfl) _ _ (by rfl) (by rfl) (by rfl) (by rfl) ?_; clear HK0; intro wq HK0; simp only [List.set] at HK0; have hs := And.intro (Lib.hid (HK0.out.takeL 1)) (Lib.hid (HK0.out.dropL 3))
      refine hK.out _ _ hs (fun hHeld => ?_)
      clear hK K
      try simp only [ap1, ap2, ap3, ap4, ap5]
      refine wpAnyH_take (i := 4) (oi := ⟨some 4, _, _, _, _, _⟩) (v := ?_) rfl (by kernel_rfl) (by kernel_rfl) (by kernel_rfl) (fun _ _ _ h => h) (Or.inl ⟨by rfl, ?_⟩) (by assumption) ?_
      rotate_left
      · (intro w hSw; (try dsimp only at hSw); go_simp; try with_reducible rfl)
      try simp only [Act.put, List.setIfInBounds_toArray, List.set_cons_zero, List.set_cons_succ]
      refine wpAnyH_done (by kernel_rfl) ?_ _
      all_goals
        go_wp2_with fail
        exact ret_lgev Try.results35 rfl rfl rfl rfl (HK0.out.blk 1 rfl) (HK0.out.blk 2 rfl) ⟨_, n, c, [], rfl, HK0.out.takeL 0, HT⟩
set_option maxRecDepth 100000 in
set_option maxHeartbeats 3200000 in
theorem ltwin_any (l : Lg) (A : Option Addr) (n c : Nat) (w : World) (hs : Sls evLay lvF w A n c l.ev) (hn1 : n ≤ 100000) :
    Calls Try.prog 10 #[.agg #[.int .i64 l.b, .int .i64 l.c, .int .i64 l.d, .slice A n c]] w (IsLgT (fun _ => True) l w) := by
  have HT2 : Hid (n = l.ev.length) := Lib.hid hs.len.symm
  have HN2 : Hid ((([] : List Cmd.E) ++ l.ev).length = n) := Lib.hid hs.len
  have HL2 := grow_ok (La := evLay) HN2 (by show n * 160 ≤ _; omega) (by omega)
  have HF : Hid (Fits evLay lvF l.ev) := Lib.hid hs.fit
  have HS := Lib.hid hs
  have HK := kn2 w 24 (lgC l.b l.c l.d (.slice A n c)) 24 (lgC 0 0 0 (.slice none 0 0))
  unfold IsLgT
  clear hs
  obtain ⟨b, cc, d, ev⟩ := l
  simp only at *
  go_enter Try.func10, Try.ntmps10
  go_wp2_with (first | (refine wpList_mk0 evLay HK rfl rfl ?_; intro _ g2 HK'; simp only [List.nil_append] at HK'; replace HK := HK'; clear HK') | refine wpList_exe (klg_e HK 0 _ (by rfl) (by rfl) (by rfl)) (by rfl) ?_ | (at_builtin; refine wpList_kmore HK evLay 0 rfl _ _ rfl rfl rfl ev rfl HT2.out (Lib.hid (let h := HS.out.later HK.out.b; ⟨h.rd, h.nl⟩)) HL2 HN2 ?_; intro A5 c5 _ HK'; simp only [List.set, List.nil_append] at HK'; replace HK := HK'; clear HK') | (refine wpList_slg_e HK 0 rfl _ _ rfl rfl rfl rfl ?_; intro _ HK'; simp only [List.set] at HK'; replace HK := HK'; clear HK') | refine wpList_exe (klg HK 0 _ (by rfl) (by rfl) (by rfl)) (by rfl) ?_ | (refine wpList_slg HK 1 rfl _ _ rfl rfl rfl rfl rfl ?_; intro _ HK'; simp only [List.set] at HK'; replace HK := HK'; clear HK'))
  exact ret_lg Try.results10 rfl rfl (HK.out.blk 1 rfl) ⟨A5, n, c5, [row evLay (.slice A5 n c5) ev], rfl, HK.out.takeL 0, Lib.hid (Tl.own (List.mem_singleton.2 rfl) HF.out)⟩
set_option maxRecDepth 100000 in
set_option maxHeartbeats 3200000 in
theorem lrsame_yes (l : Lg) (A A2 : Option Addr) (n c c2 : Nat) (w : World) (hs : Sls evLay lvF w A n c l.ev) (hs2 : Sls evLay lvF w A2 n c2 l.ev) (hn1 : n ≤ 100000) :
    Calls Try.prog 13 #[.agg #[.int .i64 l.b, .int .i64 l.c, .int .i64 l.d, .slice A n c], .agg #[.int .i64 l.b, .int .i64 l.c, .int .i64 l.d, .slice A2 n c2]] w (IsB true w) := by
  have HM := Lib.hid (fun W (hW : Below w.heap.size w W) => esame_any A A2 c c2 l.ev W (by rw [hs.len]; omega) (hs.later hW).rd (hs2.later hW).rd)
  rw [hs.len] at HM
  have HK := kn2 w 24 (lgC l.b l.c l.d (.slice A n c)) 24 (lgC l.b l.c l.d (.slice A2 n c2))
  have f0 := HK.out.cell 0 rfl 0 (v := .int .i64 l.b) rfl
  have f1 := HK.out.cell 0 rfl 1 (v := .int .i64 l.c) rfl
  have f2 := HK.out.cell 0 rfl 2 (v := .int .i64 l.d) rfl
  have f3 := HK.out.cell 0 rfl 3 (v := .slice A n c) rfl
  have g0 := HK.out.cell 1 rfl 0 (v := .int .i64 l.b) rfl
  have g1 := HK.out.cell 1 rfl 1 (v := .int .i64 l.c) rfl
  have g2 := HK.out.cell 1 rfl 2 (v := .int .i64 l.d) rfl
  have g3 := HK.out.cell 1 rfl 3 (v := .slice A2 n c2) rfl
  unfold IsB
  clear hs hs2
  obtain ⟨b, cc, d, ev⟩ := l
  simp only at *
  go_enter Try.func13, Try.ntmps13
  go_wp2_with fail
  refine (HM.out _ HK.out.b).mono ?_; rintro e w1 ⟨rfl, b1⟩
  clear f0 f1 f2 f3 g0 g1 g2 g3
  replace HK := Lib.hid (HK.out.call b1); clear b1
  go_wp2_with fail
  go_ret
  exact ⟨rfl, HK.out.b⟩
end Go.Proofs.Ytakjggmiilkmdaa
