/-
  What checkNames and cmp.Or return.
  No condition.
-/
import Derived.Test.YtakjggmiilkmdaaCmdFilled
import Derived.Deep.CutBlock
import Derived.Deep.DeepCutAuto
set_option linter.unusedSimpArgs false
set_option linter.unusedVariables false
namespace Go.Proofs.Ytakjggmiilkmdaa
open Go.RowKit

section
variable {b0 : Nat} {w0 w : World} {L : List (Nat × TypeId × Array Value)} {R : List RowE} {ops : Array Oper} {rest : List Oper} {o : Oper} {a : Act} {Q : Exit → Act → World → Prop}
theorem wpList_akF (HK : Hid (Kn b0 w0 w L R)) (hgd : o.guard = none) (ho : o.op = .alloc 72)
    (h : ∀ w' g, Hid (Kn b0 w0 w' (L ++ [(g, 72, fl false false false false false false)]) R) → wpList Try.prog ops Q rest (a.put o.dst (.pointer (some ⟨g, 0, none⟩))) w') : wpList Try.prog ops Q (o :: rest) a w :=
  wpList_plain hgd fun K hK => by
    have h4 := h _ w.heap.size (Lib.hid (HK.out.alloc _ _))
    unfold Oper.wp execOp
    simp only [ho]
    unfold fl at h4
    go_simp
    exact hK _ _ h4
theorem wpList_sfL (HK : Hid (Kn b0 w0 w L R)) (i : Nat) (hgd : o.guard = none) (p q : Operand) (ho : o.op = .store 72 p q) {g : Nat} {x0 x1 x2 x3 x4 x5 y0 y1 y2 y3 y4 y5 : Bool} (hL : L[i]? = some (g, 72, fl x0 x1 x2 x3 x4 x5)) (hx : a.eval p = .pointer (some ⟨g, 0, none⟩)) (hy : a.eval q = .agg (fl y0 y1 y2 y3 y4 y5))
    (h : ∀ w', Hid (Kn b0 w0 w' (L.set i (g, 72, fl y0 y1 y2 y3 y4 y5)) R) → Hid (w'.heap.size = w.heap.size) → wpList Try.prog ops Q rest (a.put o.dst undef) w') : wpList Try.prog ops Q (o :: rest) a w :=
  wpList_ss HK i hgd _ p q ho hL hx hy (by show 6 ≤ 6; decide) info_fl (by simp [fl, Value.oneCell']) fun w' h1 h2 => h w' (by
    have e : putCells (fl x0 x1 x2 x3 x4 x5) 0 (fl y0 y1 y2 y3 y4 y5).toList = fl y0 y1 y2 y3 y4 y5 := by
      rw [putCells_all (vs := (fl y0 y1 y2 y3 y4 y5).toList) (cs := fl x0 x1 x2 x3 x4 x5) rfl, Array.toArray_toList]
    rw [e] at h1
    exact h1) h2
end
/-- The flag at a place. -/
def at6 (b0 b1 b2 b3 b4 b5 : Bool) : Nat → Bool
  | 0 => b0
  | 1 => b1
  | 2 => b2
  | 3 => b3
  | 4 => b4
  | _ => b5
theorem at6_cell {b0 b1 b2 b3 b4 b5 : Bool} {k : Nat} (h : k < 6) : (fl b0 b1 b2 b3 b4 b5)[k]? = some (.bool (at6 b0 b1 b2 b3 b4 b5 k)) := by
  match k, h with
  | 0, _ | 1, _ | 2, _ | 3, _ | 4, _ | 5, _ => rfl
theorem others_at (c : Cmd.C) {b0 b1 b2 b3 b4 b5 : Bool} (h : (b0 = false ↔ c.name.size = 0) ∧ (b1 = false ↔ c.key.size = 0) ∧ (b2 = false ↔ Cmd.nil c.val) ∧ (b3 = false ↔ Cmd.nil c.old) ∧ (b4 = false ↔ c.n = 0) ∧ (b5 = false ↔ c.m = 0)) :
    Cmd.others c ↔ ∀ j, j < 6 → ¬ (at6 b0 b1 b2 b3 b4 b5 j = true ∧ at6 (Cmd.f0 c.k) (Cmd.f1 c.k) (Cmd.f3 c.k) (Cmd.f2 c.k) (Cmd.f4 c.k) (Cmd.f5 c.k) j = false) := by
  obtain ⟨h0, h1, h2, h3, h4, h5⟩ := h
  unfold Cmd.others
  rw [← h0, ← h1, ← h2, ← h3, ← h4, ← h5]
  constructor
  · rintro ⟨g0, g1, g2, g3, g4, g5⟩ j hj ⟨k1, k2⟩
    match j, hj with
    | 0, _ => simp_all [at6]
    | 1, _ => simp_all [at6]
    | 2, _ => simp_all [at6]
    | 3, _ => simp_all [at6]
    | 4, _ => simp_all [at6]
    | 5, _ => simp_all [at6]
  · intro h
    have k0 := h 0 (by decide)
    have k1 := h 1 (by decide)
    have k2 := h 2 (by decide)
    have k3 := h 3 (by decide)
    have k4 := h 4 (by decide)
    have k5 := h 5 (by decide)
    simp only [at6, not_and, Bool.not_eq_false] at k0 k1 k2 k3 k4 k5
    refine ⟨?_, ?_, ?_, ?_, ?_, ?_⟩
    · cases hb : b0 <;> simp_all
    · cases hb : b1 <;> simp_all
    · cases hb : b3 <;> simp_all
    · cases hb : b2 <;> simp_all
    · cases hb : b4 <;> simp_all
    · cases hb : b5 <;> simp_all
set_option maxRecDepth 10000 in
set_option maxHeartbeats 12800000 in
theorem cnames_any (c : Cmd.C) (w : World) : Calls Try.prog 72 #[.agg (cmA c)] w fun en w' => en = .returned (.int .i64 (Cmd.cN c)) ∧ Below w.heap.size w w' := by
  have HN := Lib.hid (fun W => cnamed_any c.k W)
  have HF := Lib.hid (fun W => cfilled_any c W)
  have HOth := Lib.hid (fun b0 b1 b2 b3 b4 b5 h => others_at c (b0 := b0) (b1 := b1) (b2 := b2) (b3 := b3) (b4 := b4) (b5 := b5) h)
  have HE : Hid (∀ x : Int, Cmd.cN c = x → ∀ (en : Ending) (w' : World), (en = .returned (.int .i64 x) ∧ Below w.heap.size w w') → (en = .returned (.int .i64 (Cmd.cN c)) ∧ Below w.heap.size w w')) := Lib.hid fun x hx en w' h => by rw [hx]; exact h
  have h1 : ¬ (1 ≤ c.k ∧ c.k ≤ 18) → Cmd.cN c = 1 := fun h => if_pos (by omega)
  have h2 : Cmd.f0 c.k = true → c.name.size = 0 → Cmd.cN c = 1 := fun h h' => if_pos (.inr (.inr (.inr ⟨h, h'⟩)))
  have h3 : ¬ Cmd.others c → Cmd.cN c = 1 := fun h => if_pos (.inr (.inr (.inl h)))
  have h4 : (1 ≤ c.k ∧ c.k ≤ 18) → (Cmd.f0 c.k = true → ¬ c.name.size = 0) → Cmd.others c → Cmd.cN c = 0 := fun h h' h'' => if_neg (by rintro (g | g | g | g); omega; omega; exact g h''; exact h' g.1 g.2)
  have H1 := Lib.hid h1
  have H2 := Lib.hid h2
  have H3 := Lib.hid h3
  have H4 := Lib.hid h4
  clear h1 h2 h3 h4
  generalize Cmd.cN c = z at *
  generalize Cmd.f0 c.k = a0 at *
  generalize Cmd.f1 c.k = a1 at *
  generalize Cmd.f2 c.k = a2 at *
  generalize Cmd.f3 c.k = a3 at *
  generalize Cmd.f4 c.k = a4 at *
  generalize Cmd.f5 c.k = a5 at *
  generalize hok : decide (1 ≤ c.k ∧ c.k ≤ 18) = ok at *
  have HOK := Lib.hid hok
  clear hok
  obtain ⟨k, name, key, ⟨vk, vn, vf, vs⟩, ⟨o1, on, of, os⟩, n, m⟩ := c
  unfold cmA IsN IsFl at *
  simp only at *
  have HK := kn1 w 33 (cmC k name key vk vn vf vs o1 on of os n m)
  go_enter Try.func72, Try.ntmps72
  go_wp2_with (first | refine wpList_of_exec (by rfl) (kexec_bi HK 0 _ rfl rfl rfl rfl) ?_)
  refine (HN.out _).mono ?_; rintro e w1 ⟨rfl, x1⟩
  replace HK := Lib.hid (HK.out.call x1)
  clear x1
  go_upto_region 2 with (first | (refine wpList_akF HK rfl rfl ?_; intro _ g3 HK'; simp only [List.cons_append, List.nil_append] at HK'; replace HK := HK'; clear HK') | (refine wpList_sfL HK 1 rfl _ _ rfl rfl rfl rfl ?_; intro _ HK' _; simp only [List.set] at HK'; replace HK := HK'; clear HK'))
  go_wp2_with (first | refine wpList_of_exec (by rfl) (kexec_cm HK 0 _ rfl rfl rfl) ?_)
  refine (HF.out _).mono ?_; rintro e w2 ⟨b0, b1, b2, b3, b4, b5, rfl, hb, x2⟩
  replace HK := Lib.hid (HK.out.call x2)
  have HB := Lib.hid hb
  have HO2 := Lib.hid (HOth.out _ _ _ _ _ _ hb)
  clear x2 hb HOth
  go_upto_region 3 with (first | (refine wpList_akF HK rfl rfl ?_; intro _ g4 HK'; simp only [List.cons_append, List.nil_append] at HK'; replace HK := HK'; clear HK') | (refine wpList_sfL HK 2 rfl _ _ rfl rfl rfl rfl ?_; intro wz HK' _; simp only [List.set] at HK'; replace HK := HK'; clear HK'))
  have y0_ := HK.out.cell 1 rfl 0 (v := .bool a0) rfl
  have y1_ := HK.out.cell 2 rfl 0 (v := .bool b0) rfl
  cases ok
  · go_wp2_with fail
    go_ret
    exact HE.out 1 (H1.out (of_decide_eq_false HOK.out)) _ _ ⟨rfl, HK.out.b⟩
  have hq : (a0 = true ∧ b0 = false) ∨ (a0 = false) ∨ (a0 = true ∧ b0 = true) := by cases a0 <;> cases b0 <;> simp
  rcases hq with ⟨rfl, rfl⟩ | hq
  · go_wp2_with fail
    go_ret
    exact HE.out 1 (H2.out (by simp) (HB.out.1.1 (by simp))) _ _ ⟨rfl, HK.out.b⟩
  have HNM : Hid (a0 = true → ¬ name.size = 0) := Lib.hid fun h h' => by
    have := HB.out.1.2 h'
    rcases hq with hq | hq <;> simp_all
  have HG : Hid (∀ j, j < 6 → wz.cell? ⟨g3, j, none⟩ = some (.bool (at6 a0 a1 a3 a2 a4 a5 j)) ∧ wz.cell? ⟨g4, j, none⟩ = some (.bool (at6 b0 b1 b2 b3 b4 b5 j))) := Lib.hid fun j hj => And.intro (HK.out.cell 1 rfl j (at6_cell hj)) (HK.out.cell 2 rfl j (at6_cell hj))
  have HKB := Lib.hid HK.out.b
  clear HK HB
  generalize HA : at6 a0 a1 a3 a2 a4 a5 = fa at *
  generalize HBf : at6 b0 b1 b2 b3 b4 b5 = fb at *
  clear HA HBf
  have hk1 : of_decide_eq_true HOK.out = of_decide_eq_true HOK.out := rfl
  clear hk1
  have HOK2 := Lib.hid (of_decide_eq_true HOK.out)
  clear HOK HN HF
  rcases hq with rfl | ⟨rfl, rfl⟩
  all_goals
    go_wp2_with fail
    go_loopw [26] (fun vi wr => ∃ k : Nat, k ≤ 6 ∧ vi = .int .i64 k ∧ wr = wz ∧ Hid (∀ j, j < k → ¬ (fb j = true ∧ fa j = false))) (fun vi _ => 6 - (intOf vi).toNat)
    case atStart => exact ⟨0, Nat.zero_le _, rfl, rfl, Lib.hid fun j hj => absurd hj (by omega)⟩
    case round =>
      obtain ⟨q, hq, rfl, rfl, hh⟩ := hrel
      by_cases hlt : q < 6
      · obtain ⟨c1, c2⟩ := HG.out q hlt
        have hk1 : (0 : Int) ≤ (q : Int) := by omega
        have hk2 : (q : Int) < 6 := by omega
        have HS : Hid (¬ (fb q = true ∧ fa q = false) → ∀ j, j < q + 1 → ¬ (fb j = true ∧ fa j = false)) := Lib.hid fun h j hj => by
          by_cases e : j = q
          · subst e; exact h
          · exact hh.out j (by omega)
        have HX : Hid ((fb q = true ∧ fa q = false) → z = 1) := Lib.hid fun h => H3.out fun ho => HO2.out.1 ho q hlt h
        generalize fa q = xa at *
        generalize fb q = xb at *
        have hc : xb = false ∨ (xb = true ∧ xa = true) ∨ (xb = true ∧ xa = false) := by cases xa <;> cases xb <;> simp
        rcases hc with rfl | ⟨rfl, rfl⟩ | ⟨rfl, rfl⟩
        · go_wp2_with fail
          exact ⟨⟨q + 1, by omega, by go_num, by simp, Lib.hid (HS.out (by simp))⟩, by simp [intOf]; omega⟩
        · go_wp2_with fail
          exact ⟨⟨q + 1, by omega, by go_num, by simp, Lib.hid (HS.out (by simp))⟩, by simp [intOf]; omega⟩
        · go_wp2_with fail
          go_ret
          exact HE.out 1 (HX.out (by simp)) _ _ ⟨rfl, HKB.out⟩
      · obtain rfl : q = 6 := by omega
        go_wp2_with fail
        go_ret
        exact HE.out 0 (H4.out HOK2.out HNM.out (HO2.out.2 hh.out)) _ _ ⟨rfl, HKB.out⟩
end Go.Proofs.Ytakjggmiilkmdaa
