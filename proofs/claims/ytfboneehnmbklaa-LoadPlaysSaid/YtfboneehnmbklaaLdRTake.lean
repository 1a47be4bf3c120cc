/-
  What the document's own Take returns.
  No condition but what the slices read as, and a piece's greatest size.
-/
import Derived.Test.YtfboneehnmbklaaLdTake
import Derived.Deep.DeepCutAuto
set_option linter.unusedSimpArgs false
set_option linter.unusedVariables false
namespace Go.Proofs.Ytfboneehnmbklaa
open Go.RowKit

/-- Told: the load as it was handed in, or one in rows of its own. -/
def IsRT (l0 : Ldd) (A : Option Addr) (n c : Nat) (A2 : Option Addr) (n2 c2 : Nat) (l : Ldd) (x : Int) (w : World) (e : Ending) (w' : World) : Prop :=
  (l = l0 ∧ e = .returned (.tuple #[.agg #[.int .i64 l0.n, .int .i64 l0.t, .int .u32 (l0.s : Int), .slice A n c, .slice A2 n2 c2], .int .i64 x]) ∧ Below w.heap.size w w') ∨ IsLE l x w e w'
section
variable {w : World} {o : Oper} {a : Act}
theorem exec_ix0b {b n c i : Nat} (x q : Operand) (ho : o.op = .indexAddr 32 x q) (hx : a.eval x = .slice (some ⟨b, 0, none⟩) n c) (hq : a.eval q = .int .i64 (i : Int)) (h : i < n) :
    (execOp a.eval o).run Try.prog w = .ok (.value (.pointer (some ⟨b, i, none⟩))) w := by
  have h1 := exec_ixb (w := w) x q ho hx hq h
  rw [Nat.zero_add] at h1
  exact h1
theorem exec_ix0s {b n c i : Nat} (x q : Operand) (ho : o.op = .indexAddr 33 x q) (hx : a.eval x = .slice (some ⟨b, 0, none⟩) n c) (hq : a.eval q = .int .i64 (i : Int)) (h : i < n) :
    (execOp a.eval o).run Try.prog w = .ok (.value (.pointer (some ⟨b, i, none⟩))) w := by
  have h1 := exec_ixs (w := w) x q ho hx hq h
  rw [Nat.zero_add] at h1
  exact h1
end
set_option maxRecDepth 100000 in
set_option maxHeartbeats 12800000 in
theorem lrtake_any (l : Ldd) (p : Lpc) (A : Option Addr) (n c : Nat) (A2 : Option Addr) (n2 c2 : Nat) (w : World) (h1 : Sls bLay bF w A n c l.h) (h2 : Sls sLay sF w A2 n2 c2 l.d) (hd : p.d.size ≤ 140737488351232) :
    Calls Try.prog 16 #[.agg #[.int .i64 l.n, .int .i64 l.t, .int .u32 (l.s : Int), .slice A n c, .slice A2 n2 c2], .agg #[.int .i64 p.n, .int .i64 p.a, .int .i64 p.t, .int .u32 (p.s : Int), .string p.d]] w (IsRT l A n c A2 n2 c2 (Ldm.tk l p) (Ldm.tkE l p) w) := by
  have HS := Lib.hid (fun W => lfits_any l A n c A2 n2 c2 W h1.len h2.len)
  have HR := Lib.hid (fun W => lrright_any p W hd)
  have HK := kn3 w 35 (ldC l.n l.t l.s (.slice A n c) (.slice A2 n2 c2)) 24 (pcC p.n p.a p.t p.s p.d) 35 (ldC 0 0 0 (.slice none 0 0) (.slice none 0 0))
  unfold IsB at HS HR
  unfold IsRT
  by_cases hl : Ldm.LR l
  case neg =>
    have e1 : Ldm.tk l p = l := by unfold Ldm.tk; rw [if_pos (fun h => hl h.1)]
    have e2 : Ldm.tkE l p = 1 := by unfold Ldm.tkE; rw [if_pos (fun h => hl h.1)]
    rw [decide_eq_false hl] at HS
    rw [e1, e2]
    clear hl e1 e2 h1 h2 HR
    obtain ⟨m, t, s, lh, ld⟩ := l
    obtain ⟨pn, pa, pt, ps, pd⟩ := p
    simp only at *
    go_enter Try.func16, Try.ntmps16
    go_wp2_with (first | refine wpList_exe (kl_l HK 0 _ (by rfl) (by rfl) (by rfl)) (by rfl) ?_)
    refine (HS.out _).mono ?_; rintro e w1 ⟨rfl, b1⟩
    replace HK := Lib.hid (HK.out.call b1); clear b1
    go_wp2_with (first | refine wpList_exe (kl_l HK 0 _ (by rfl) (by rfl) (by rfl)) (by rfl) ?_ | (refine wpList_sl HK 2 rfl _ _ rfl rfl rfl rfl rfl rfl ?_; intro _ HK'; simp only [List.set] at HK'; replace HK := HK'; clear HK'))
    exact ret_le Try.results16 rfl rfl rfl (HK.out.blk 2 rfl) (.inl ⟨by first | rfl | trivial, rfl, HK.out.b⟩)
  rw [decide_eq_true hl] at HS
  by_cases hp : Ldm.PR p
  case neg =>
    have e1 : Ldm.tk l p = l := by unfold Ldm.tk; rw [if_pos (fun h => hp h.2)]
    have e2 : Ldm.tkE l p = 1 := by unfold Ldm.tkE; rw [if_pos (fun h => hp h.2)]
    rw [decide_eq_false hp] at HR
    rw [e1, e2]
    clear hl hp e1 e2 h1 h2
    obtain ⟨m, t, s, lh, ld⟩ := l
    obtain ⟨pn, pa, pt, ps, pd⟩ := p
    simp only at *
    go_enter Try.func16, Try.ntmps16
    go_wp2_with (first | refine wpList_exe (kl_l HK 0 _ (by rfl) (by rfl) (by rfl)) (by rfl) ?_ | refine wpList_exe (kp_p HK 1 _ (by rfl) (by rfl) (by rfl)) (by rfl) ?_)
    refine (HS.out _).mono ?_; rintro e w1 ⟨rfl, b1⟩
    replace HK := Lib.hid (HK.out.call b1); clear b1
    go_wp2_with (first | refine wpList_exe (kl_l HK 0 _ (by rfl) (by rfl) (by rfl)) (by rfl) ?_ | refine wpList_exe (kp_p HK 1 _ (by rfl) (by rfl) (by rfl)) (by rfl) ?_)
    refine (HR.out _).mono ?_; rintro e w1 ⟨rfl, b1⟩
    replace HK := Lib.hid (HK.out.call b1); clear b1
    go_wp2_with (first | refine wpList_exe (kl_l HK 0 _ (by rfl) (by rfl) (by rfl)) (by rfl) ?_ | (refine wpList_sl HK 2 rfl _ _ rfl rfl rfl rfl rfl rfl ?_; intro _ HK'; simp only [List.set] at HK'; replace HK := HK'; clear HK'))
    exact ret_le Try.results16 rfl rfl rfl (HK.out.blk 2 rfl) (.inl ⟨by first | rfl | trivial, rfl, HK.out.b⟩)
  rw [decide_eq_true hp] at HR
  by_cases ha : Ldm.AL l p
  case neg =>
    have e1 : Ldm.tk l p = l := by unfold Ldm.tk; rw [if_neg (fun h => h ⟨hl, hp⟩), if_pos ha]
    have e2 : Ldm.tkE l p = 9 := by unfold Ldm.tkE; rw [if_neg (fun h => h ⟨hl, hp⟩), if_pos ha]
    rw [e1, e2]
    have hc : ((p.n != l.n) = true) ∨ ((p.n != l.n) = false ∧ 0 < l.t ∧ (p.t != l.t) = true) ∨ ((p.n != l.n) = false ∧ 0 < l.t ∧ (p.t != l.t) = false ∧ ((p.s : Int) != (l.s : Int)) = true) := by
      by_cases x1 : p.n = l.n
      · by_cases x2 : p.t = l.t
        · refine .inr (.inr ⟨by simpa using x1, ?_, by simpa using x2, ?_⟩)
          · rcases Int.lt_or_le 0 l.t with h | h
            · exact h
            · exact absurd ⟨x1.symm, .inl (by have := hl.1; omega)⟩ ha
          · have x3 : ¬ (p.s : Int) = (l.s : Int) := fun h => ha ⟨x1.symm, .inr ⟨x2.symm, by omega⟩⟩
            simpa using x3
        · refine .inr (.inl ⟨by simpa using x1, ?_, by simpa using x2⟩)
          rcases Int.lt_or_le 0 l.t with h | h
          · exact h
          · exact absurd ⟨x1.symm, .inl (by have := hl.1; omega)⟩ ha
      · exact .inl (by simpa using x1)
    clear hl hp ha e1 e2 h1 h2
    obtain ⟨m, t, s, lh, ld⟩ := l
    obtain ⟨pn, pa, pt, ps, pd⟩ := p
    simp only at *
    rcases hc with q1 | ⟨q1, q2, q3⟩ | ⟨q1, q2, q3, q4⟩
    all_goals
      go_enter Try.func16, Try.ntmps16
      go_wp2_with (first | refine wpList_exe (kl_l HK 0 _ (by rfl) (by rfl) (by rfl)) (by rfl) ?_ | refine wpList_exe (kp_p HK 1 _ (by rfl) (by rfl) (by rfl)) (by rfl) ?_)
      refine (HS.out _).mono ?_; rintro e w1 ⟨rfl, b1⟩
      replace HK := Lib.hid (HK.out.call b1); clear b1
      go_wp2_with (first | refine wpList_exe (kl_l HK 0 _ (by rfl) (by rfl) (by rfl)) (by rfl) ?_ | refine wpList_exe (kp_p HK 1 _ (by rfl) (by rfl) (by rfl)) (by rfl) ?_)
      refine (HR.out _).mono ?_; rintro e w1 ⟨rfl, b1⟩
      replace HK := Lib.hid (HK.out.call b1); clear b1
      have f0 := HK.out.cell 0 rfl 0 (v := .int .i64 m) rfl
      have f1 := HK.out.cell 0 rfl 1 (v := .int .i64 t) rfl
      have f2 := HK.out.cell 0 rfl 2 (v := .int .u32 (s : Int)) rfl
      have f3 := HK.out.cell 0 rfl 3 (v := .slice A n c) rfl
      have g0 := HK.out.cell 1 rfl 0 (v := .int .i64 pn) rfl
      have g1 := HK.out.cell 1 rfl 1 (v := .int .i64 pa) rfl
      have g2 := HK.out.cell 1 rfl 2 (v := .int .i64 pt) rfl
      have g3 := HK.out.cell 1 rfl 3 (v := .int .u32 (ps : Int)) rfl
      clear HS HR
      go_upto_region 4 with fail
      clear f0 f1 f2 f3 g0 g1 g2 g3
      go_wp2_with (first | refine wpList_exe (kl_l HK 0 _ (by rfl) (by rfl) (by rfl)) (by rfl) ?_ | (refine wpList_sl HK 2 rfl _ _ rfl rfl rfl rfl rfl rfl ?_; intro _ HK'; simp only [List.set] at HK'; replace HK := HK'; clear HK'))
      exact ret_le Try.results16 rfl rfl rfl (HK.out.blk 2 rfl) (.inl ⟨by first | rfl | trivial, rfl, HK.out.b⟩)
  obtain ⟨k, hk⟩ : ∃ k : Nat, p.a = (k : Int) := ⟨p.a.toNat, by have := hp.1.2.2.1; omega⟩
  have q1 : (p.n != l.n) = false := by simpa using ha.1.symm
  by_cases h0 : l.t = 0
  case pos =>
    have e1 : Ldm.tk l p = Ldm.pt (Ldm.bg p) p := by unfold Ldm.tk; rw [if_neg (fun h => h ⟨hl, hp⟩), if_neg (fun h => h ha), if_pos h0]
    have e2 : Ldm.tkE l p = 0 := by unfold Ldm.tkE; rw [if_neg (fun h => h ⟨hl, hp⟩), if_neg (fun h => h ha), if_pos h0]
    obtain ⟨m, hm⟩ : ∃ m : Nat, p.t = (m : Int) := ⟨p.t.toNat, by have := hp.1.1; omega⟩
    have hkm : k < m := by have := hp.1.2.2.2; omega
    have hm6 : m ≤ 65536 := by have := hp.1.2.1; omega
    have HLb : Hid (k < (List.replicate m false).length) := Lib.hid (by simpa using hkm)
    have HLs : Hid (k < (List.replicate m (⟨#[]⟩ : ByteArray)).length) := Lib.hid (by simpa using hkm)
    have HE : Hid (Ldm.pt (Ldm.bg p) p = ⟨l.n, (m : Int), p.s, (List.replicate m false).set k true, (List.replicate m ⟨#[]⟩).set k p.d⟩) := Lib.hid (by simp [Ldm.pt, Ldm.bg, hk, hm, ha.1])
    rw [e1, e2, HE.out]
    clear hl hp ha e1 e2 h1 h2 HE
    obtain ⟨lm, t, s, lh, ld⟩ := l
    obtain ⟨pn, pa, pt, ps, pd⟩ := p
    simp only at *
    subst hk hm h0
    go_enter Try.func16, Try.ntmps16
    go_wp2_with (first | refine wpList_exe (kl_l HK 0 _ (by rfl) (by rfl) (by rfl)) (by rfl) ?_ | refine wpList_exe (kp_p HK 1 _ (by rfl) (by rfl) (by rfl)) (by rfl) ?_)
    refine (HS.out _).mono ?_; rintro e w1 ⟨rfl, b1⟩
    replace HK := Lib.hid (HK.out.call b1); clear b1
    go_wp2_with (first | refine wpList_exe (kl_l HK 0 _ (by rfl) (by rfl) (by rfl)) (by rfl) ?_ | refine wpList_exe (kp_p HK 1 _ (by rfl) (by rfl) (by rfl)) (by rfl) ?_)
    refine (HR.out _).mono ?_; rintro e w1 ⟨rfl, b1⟩
    replace HK := Lib.hid (HK.out.call b1); clear b1
    clear HS HR
    have f0 := HK.out.cell 0 rfl 0 (v := .int .i64 lm) rfl
    have f1 := HK.out.cell 0 rfl 1 (v := .int .i64 0) rfl
    have f2 := HK.out.cell 0 rfl 2 (v := .int .u32 (s : Int)) rfl
    have f3 := HK.out.cell 0 rfl 3 (v := .slice A n c) rfl
    have g0 := HK.out.cell 1 rfl 0 (v := .int .i64 pn) rfl
    have g1 := HK.out.cell 1 rfl 1 (v := .int .i64 k) rfl
    have g2 := HK.out.cell 1 rfl 2 (v := .int .i64 m) rfl
    have g3 := HK.out.cell 1 rfl 3 (v := .int .u32 (ps : Int)) rfl
    go_upto_region 7 with fail
    clear f0 f1 f2 f3 g0 g1 g2 g3
    go_wp2_with (first | refine wpList_exe (kl_l HK 0 _ (by rfl) (by rfl) (by rfl)) (by rfl) ?_ | refine wpList_exe (kl_t_ HK 0 _ (by rfl) (by rfl) (by rfl)) (by rfl) ?_ | refine wpList_exe (kl_h_ HK 0 _ (by rfl) (by rfl) (by rfl)) (by rfl) ?_ | refine wpList_exe (kl_d_ HK 0 _ (by rfl) (by rfl) (by rfl)) (by rfl) ?_ | refine wpList_exe (kp_a_ HK 1 _ (by rfl) (by rfl) (by rfl)) (by rfl) ?_ | refine wpList_exe (kp_t_ HK 1 _ (by rfl) (by rfl) (by rfl)) (by rfl) ?_ | refine wpList_exe (kp_s_ HK 1 _ (by rfl) (by rfl) (by rfl)) (by rfl) ?_ | refine wpList_exe (kp_d_ HK 1 _ (by rfl) (by rfl) (by rfl)) (by rfl) ?_ | (refine wpList_slt HK 0 rfl _ _ rfl rfl rfl rfl ?_; intro _ HK'; simp only [List.set] at HK'; replace HK := HK'; clear HK') | (refine wpList_sls HK 0 rfl _ _ rfl rfl rfl rfl ?_; intro _ HK'; simp only [List.set] at HK'; replace HK := HK'; clear HK') | (refine wpList_slh HK 0 rfl _ _ rfl rfl rfl rfl ?_; intro _ HK'; simp only [List.set] at HK'; replace HK := HK'; clear HK') | (refine wpList_sld HK 0 rfl _ _ rfl rfl rfl rfl ?_; intro _ HK'; simp only [List.set] at HK'; replace HK := HK'; clear HK') | (refine wpList_mnb HK rfl _ rfl rfl hm6 ?_; intro w2 g2 HK'; simp only [List.cons_append, List.nil_append] at HK'; replace HK := HK'; clear HK') | (refine wpList_mns HK rfl _ rfl rfl hm6 ?_; intro w2 g3 HK'; simp only [List.cons_append, List.nil_append] at HK'; replace HK := HK'; clear HK') | refine wpList_exe (exec_ix0b (i := k) _ _ (by rfl) (by rfl) (by rfl) hkm) (by rfl) ?_ | refine wpList_exe (exec_ix0s (i := k) _ _ (by rfl) (by rfl) (by rfl) hkm) (by rfl) ?_ | (refine wpList_ptb HK 0 rfl _ _ rfl rfl k HLb.out rfl true rfl ?_; intro _ HK'; simp only [List.set] at HK'; replace HK := HK'; clear HK') | (refine wpList_pts HK 1 rfl _ _ rfl rfl k HLs.out rfl pd rfl ?_; intro _ HK'; simp only [List.set] at HK'; replace HK := HK'; clear HK') | (refine wpList_sl HK 2 rfl _ _ rfl rfl rfl rfl rfl rfl ?_; intro _ HK'; simp only [List.set] at HK'; replace HK := HK'; clear HK'))
    exact ret_le Try.results16 rfl rfl rfl (HK.out.blk 2 rfl) (.inr ⟨_, _, _, _, _, _, rfl, HK.out.takeL 0⟩)
  have q2 : 0 < l.t := by have := hl.1; omega
  have hlh : (n : Int) = l.t := by rw [← hl.2.2.1, h1.len]
  have hld : (n2 : Int) = l.t := by rw [← hl.2.2.2, h2.len]
  have hpt : l.t = p.t ∧ l.s = p.s := by rcases ha.2 with h | h; exact absurd h h0; exact h
  have q3 : (p.t != l.t) = false := by simpa using hpt.1.symm
  have q4 : ((p.s : Int) != (l.s : Int)) = false := by have := hpt.2; simp; omega
  have hkn : k < n := by have := hp.1.2.2.2; omega
  have hkn2 : k < n2 := by omega
  have hn6 : n ≤ 65536 := by have := hl.2.1; omega
  have hn26 : n2 ≤ 65536 := by have := hl.2.1; omega
  have hkI : (k : Int) < (n : Int) := by omega
  have hkI0 : (0 : Int) ≤ (k : Int) := by omega
  have hz : (l.t == 0) = false := beq_eq_false_iff_ne.2 h0
  obtain ⟨b, o, rfl, hat⟩ := h1.bat (by omega)
  obtain ⟨x, hx, _⟩ := h1.get hkn
  have HX := Lib.hid (fun W hW => hat W hW k x hx)
  have HS1 := Lib.hid h1
  have HS2 := Lib.hid h2
  have hpa : p.a.toNat = k := by omega
  have e1 : Ldm.tk l p = if x = true then l else Ldm.pt l p := by unfold Ldm.tk; rw [if_neg (fun h => h ⟨hl, hp⟩), if_neg (fun h => h ha), if_neg h0, hpa, hx]; cases x <;> rfl
  have e2 : Ldm.tkE l p = if x = true then 8 else 0 := by unfold Ldm.tkE; rw [if_neg (fun h => h ⟨hl, hp⟩), if_neg (fun h => h ha), if_neg h0, hpa, hx]; cases x <;> rfl
  rw [e1, e2]
  clear hl hp ha h0 e1 e2 h1 h2 hat hx hlh hld hpt
  cases x
  case true =>
    simp only [if_true]
    obtain ⟨m, t, s, lh, ld⟩ := l
    obtain ⟨pn, pa, pt, ps, pd⟩ := p
    simp only at *
    subst hk
    clear hpa HS1 HS2
    go_enter Try.func16, Try.ntmps16
    go_wp2_with (first | refine wpList_exe (kl_l HK 0 _ (by rfl) (by rfl) (by rfl)) (by rfl) ?_ | refine wpList_exe (kp_p HK 1 _ (by rfl) (by rfl) (by rfl)) (by rfl) ?_)
    refine (HS.out _).mono ?_; rintro e w1 ⟨rfl, b1⟩
    replace HK := Lib.hid (HK.out.call b1); clear b1
    go_wp2_with (first | refine wpList_exe (kl_l HK 0 _ (by rfl) (by rfl) (by rfl)) (by rfl) ?_ | refine wpList_exe (kp_p HK 1 _ (by rfl) (by rfl) (by rfl)) (by rfl) ?_)
    refine (HR.out _).mono ?_; rintro e w1 ⟨rfl, b1⟩
    replace HK := Lib.hid (HK.out.call b1); clear b1
    have f0 := HK.out.cell 0 rfl 0 (v := .int .i64 m) rfl
    have f1 := HK.out.cell 0 rfl 1 (v := .int .i64 t) rfl
    have f2 := HK.out.cell 0 rfl 2 (v := .int .u32 (s : Int)) rfl
    have f3 := HK.out.cell 0 rfl 3 (v := .slice (some ⟨b, o, none⟩) n c) rfl
    have g0 := HK.out.cell 1 rfl 0 (v := .int .i64 pn) rfl
    have g1 := HK.out.cell 1 rfl 1 (v := .int .i64 k) rfl
    have g2 := HK.out.cell 1 rfl 2 (v := .int .i64 pt) rfl
    have g3 := HK.out.cell 1 rfl 3 (v := .int .u32 (ps : Int)) rfl
    have fx := HX.out _ HK.out.b
    clear HS HR
    go_upto_region 6 with fail
    clear f0 f1 f2 f3 g0 g1 g2 g3 fx
    go_wp2_with (first | refine wpList_exe (kl_l HK 0 _ (by rfl) (by rfl) (by rfl)) (by rfl) ?_ | (refine wpList_sl HK 2 rfl _ _ rfl rfl rfl rfl rfl rfl ?_; intro _ HK'; simp only [List.set] at HK'; replace HK := HK'; clear HK'))
    exact ret_le Try.results16 rfl rfl rfl (HK.out.blk 2 rfl) (.inl ⟨by first | rfl | trivial, rfl, HK.out.b⟩)
  case false =>
    have HE : Hid (Ldm.pt l p = ⟨l.n, l.t, l.s, l.h.set k true, l.d.set k p.d⟩) := Lib.hid (by unfold Ldm.pt; rw [hpa])
    rw [if_neg (by decide), if_neg (by decide), HE.out]
    have HT1 : Hid (n = l.h.length) := Lib.hid HS1.out.len.symm
    have HT2 : Hid (n2 = l.d.length) := Lib.hid HS2.out.len.symm
    have HL1 : Hid (([] : List Bool).length + l.h.length ≤ 9223372036854775807 ∧ (([] : List Bool).length + l.h.length) * Lay.bytes bLay ≤ 211106232532992) := Lib.hid (by rw [← HT1.out]; exact ⟨by simp; omega, by show (0 + n) * 1 ≤ _; omega⟩)
    have HN1 : Hid ((([] : List Bool) ++ l.h).length = n) := Lib.hid (by rw [List.nil_append]; exact HT1.out.symm)
    have HL2 : Hid (([] : List ByteArray).length + l.d.length ≤ 9223372036854775807 ∧ (([] : List ByteArray).length + l.d.length) * Lay.bytes sLay ≤ 211106232532992) := Lib.hid (by rw [← HT2.out]; exact ⟨by simp; omega, by show (0 + n2) * 16 ≤ _; omega⟩)
    have HN2 : Hid ((([] : List ByteArray) ++ l.d).length = n2) := Lib.hid (by rw [List.nil_append]; exact HT2.out.symm)
    have HLb : Hid (k < l.h.length) := Lib.hid (by rw [← HT1.out]; exact hkn)
    have HLs : Hid (k < l.d.length) := Lib.hid (by rw [← HT2.out]; exact hkn2)
    clear HE hpa
    obtain ⟨m, t, s, lh, ld⟩ := l
    obtain ⟨pn, pa, pt, ps, pd⟩ := p
    simp only at *
    subst hk
    go_enter Try.func16, Try.ntmps16
    go_wp2_with (first | refine wpList_exe (kl_l HK 0 _ (by rfl) (by rfl) (by rfl)) (by rfl) ?_ | refine wpList_exe (kp_p HK 1 _ (by rfl) (by rfl) (by rfl)) (by rfl) ?_)
    refine (HS.out _).mono ?_; rintro e w1 ⟨rfl, b1⟩
    replace HK := Lib.hid (HK.out.call b1); clear b1
    go_wp2_with (first | refine wpList_exe (kl_l HK 0 _ (by rfl) (by rfl) (by rfl)) (by rfl) ?_ | refine wpList_exe (kp_p HK 1 _ (by rfl) (by rfl) (by rfl)) (by rfl) ?_)
    refine (HR.out _).mono ?_; rintro e w1 ⟨rfl, b1⟩
    replace HK := Lib.hid (HK.out.call b1); clear b1
    clear HS HR
    have f0 := HK.out.cell 0 rfl 0 (v := .int .i64 m) rfl
    have f1 := HK.out.cell 0 rfl 1 (v := .int .i64 t) rfl
    have f2 := HK.out.cell 0 rfl 2 (v := .int .u32 (s : Int)) rfl
    have f3 := HK.out.cell 0 rfl 3 (v := .slice (some ⟨b, o, none⟩) n c) rfl
    have g0 := HK.out.cell 1 rfl 0 (v := .int .i64 pn) rfl
    have g1 := HK.out.cell 1 rfl 1 (v := .int .i64 k) rfl
    have g2 := HK.out.cell 1 rfl 2 (v := .int .i64 pt) rfl
    have g3 := HK.out.cell 1 rfl 3 (v := .int .u32 (ps : Int)) rfl
    have fx := HX.out _ HK.out.b
    go_upto_region 7 with fail
    clear f0 f1 f2 f3 g0 g1 g2 g3 fx
    go_wp2_with (first | refine wpList_exe (kl_l HK 0 _ (by rfl) (by rfl) (by rfl)) (by rfl) ?_ | refine wpList_exe (kl_t_ HK 0 _ (by rfl) (by rfl) (by rfl)) (by rfl) ?_ | refine wpList_exe (kl_h_ HK 0 _ (by rfl) (by rfl) (by rfl)) (by rfl) ?_ | refine wpList_exe (kl_d_ HK 0 _ (by rfl) (by rfl) (by rfl)) (by rfl) ?_ | refine wpList_exe (kp_a_ HK 1 _ (by rfl) (by rfl) (by rfl)) (by rfl) ?_ | refine wpList_exe (kp_d_ HK 1 _ (by rfl) (by rfl) (by rfl)) (by rfl) ?_ | (refine wpList_mk0 bLay HK rfl rfl ?_; intro _ g2 HK'; simp only [List.cons_append, List.nil_append] at HK'; replace HK := HK'; clear HK') | (refine wpList_mk0 sLay HK rfl rfl ?_; intro _ g3 HK'; simp only [List.cons_append, List.nil_append] at HK'; replace HK := HK'; clear HK') | (at_builtin; refine wpList_kmore HK bLay 0 rfl _ _ rfl rfl rfl lh rfl HT1.out (Lib.hid (let h := HS1.out.later HK.out.b; ⟨h.rd, h.nl⟩)) HL1 HN1 ?_; intro A3 c3 _ HK'; simp only [List.set, List.nil_append] at HK'; replace HK := HK'; clear HK'; obtain ⟨g5, rfl⟩ := HK.out.headR (La := bLay) (j := 0) rfl (Nat.lt_of_le_of_lt (Nat.zero_le _) HLb.out)) | (at_builtin; refine wpList_kmore HK sLay 1 rfl _ _ rfl rfl rfl ld rfl HT2.out (Lib.hid (let h := HS2.out.later HK.out.b; ⟨h.rd, h.nl⟩)) HL2 HN2 ?_; intro A4 c4 _ HK'; simp only [List.set, List.nil_append] at HK'; replace HK := HK'; clear HK'; obtain ⟨g6, rfl⟩ := HK.out.headR (La := sLay) (j := 1) rfl (Nat.lt_of_le_of_lt (Nat.zero_le _) HLs.out)) | (refine wpList_slh HK 0 rfl _ _ rfl rfl rfl rfl ?_; intro _ HK'; simp only [List.set] at HK'; replace HK := HK'; clear HK') | (refine wpList_sld HK 0 rfl _ _ rfl rfl rfl rfl ?_; intro _ HK'; simp only [List.set] at HK'; replace HK := HK'; clear HK') | refine wpList_exe (exec_ix0b (i := k) _ _ (by rfl) (by rfl) (by rfl) hkn) (by rfl) ?_ | refine wpList_exe (exec_ix0s (i := k) _ _ (by rfl) (by rfl) (by rfl) hkn2) (by rfl) ?_ | (refine wpList_ptb HK 0 rfl _ _ rfl rfl k HLb.out rfl true rfl ?_; intro _ HK'; simp only [List.set] at HK'; replace HK := HK'; clear HK') | (refine wpList_pts HK 1 rfl _ _ rfl rfl k HLs.out rfl pd rfl ?_; intro _ HK'; simp only [List.set] at HK'; replace HK := HK'; clear HK') | (refine wpList_sl HK 2 rfl _ _ rfl rfl rfl rfl rfl rfl ?_; intro _ HK'; simp only [List.set] at HK'; replace HK := HK'; clear HK'))
    exact ret_le Try.results16 rfl rfl rfl (HK.out.blk 2 rfl) (.inr ⟨_, _, _, _, _, _, rfl, HK.out.takeL 0⟩)
end Go.Proofs.Ytfboneehnmbklaa
