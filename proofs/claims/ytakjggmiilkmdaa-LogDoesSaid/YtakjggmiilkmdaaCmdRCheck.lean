/-
  What the document's Check returns.
  No condition but that floats' bits fit 64.
-/
import Derived.Test.YtakjggmiilkmdaaCmdRef
import Derived.Deep.CutBlock
import Derived.Deep.DeepCutAuto
set_option linter.unusedSimpArgs false
set_option linter.unusedVariables false
namespace Go.Proofs.Ytakjggmiilkmdaa
open Go.RowKit

theorem emp_list {s : ByteArray} : s.size = 0 ↔ s.toList = [] := by
  constructor
  · intro h
    rw [Cmd.size_emp h, ByteArray.toList_eq]; rfl
  · intro h
    rw [ByteArray.toList_eq] at h
    have := congrArg List.length h
    simpa using this
theorem rothers_any (c : Cmd.C) (w : World) : Calls Try.prog 54 #[.agg (cmA c), .agg (fl (Cmd.f0 c.k) (Cmd.f1 c.k) (Cmd.f2 c.k) (Cmd.f3 c.k) (Cmd.f4 c.k) (Cmd.f5 c.k))] w fun en w' => en = .returned (.bool (decide (Cmd.others c))) ∧ Below w.heap.size w w' := by
  obtain ⟨k, name, key, ⟨vk, vn, vf, vs⟩, ⟨ok, on, of, os⟩, n, m⟩ := c
  have key1 : ∀ {X : Prop} {en : Ending} {w' : World}, ((∃ b, en = .returned (.bool b) ∧ (b = true ↔ X)) ∧ Below w.heap.size w w') → (X ↔ Cmd.others ⟨k, name, key, ⟨vk, vn, vf, vs⟩, ⟨ok, on, of, os⟩, n, m⟩) → en = .returned (.bool (decide (Cmd.others ⟨k, name, key, ⟨vk, vn, vf, vs⟩, ⟨ok, on, of, os⟩, n, m⟩))) ∧ Below w.heap.size w w' := by
    rintro X en w' ⟨⟨b, rfl, hb⟩, hw⟩ hX
    have : b = decide (Cmd.others ⟨k, name, key, ⟨vk, vn, vf, vs⟩, ⟨ok, on, of, os⟩, n, m⟩) := by
      rw [Bool.eq_iff_iff, decide_eq_true_eq, hb, hX]
    rw [this]
    exact ⟨rfl, hw⟩
  unfold cmA
  rcases Cmd.kinds k with rfl | (rfl | rfl | rfl | rfl | rfl | rfl) | (rfl | rfl) | rfl | rfl | (rfl | rfl) | rfl | h
  case inl => exact Calls.mono (rothersA _ name key vk vn vf vs ok on of os n m w) fun en w' h => key1 h (by unfold Cmd.others; simp only [nil_is, emp_list]; simp [Cmd.f0, Cmd.f1, Cmd.f2, Cmd.f3, Cmd.f4, Cmd.f5])
  case inr.inl.inl | inr.inl.inr.inl | inr.inl.inr.inr.inl | inr.inl.inr.inr.inr.inl | inr.inl.inr.inr.inr.inr.inl | inr.inl.inr.inr.inr.inr.inr =>
    exact Calls.mono (rothersB _ name key vk vn vf vs ok on of os n m w) fun en w' h => key1 h (by unfold Cmd.others; simp only [nil_is, emp_list]; simp [Cmd.f0, Cmd.f1, Cmd.f2, Cmd.f3, Cmd.f4, Cmd.f5])
  case inr.inr.inl.inl | inr.inr.inl.inr =>
    exact Calls.mono (rothersC _ name key vk vn vf vs ok on of os n m w) fun en w' h => key1 h (by unfold Cmd.others; simp only [nil_is, emp_list]; simp [Cmd.f0, Cmd.f1, Cmd.f2, Cmd.f3, Cmd.f4, Cmd.f5])
  case inr.inr.inr.inl =>
    exact Calls.mono (rothersD _ name key vk vn vf vs ok on of os n m w) fun en w' h => key1 h (by unfold Cmd.others; simp only [nil_is, emp_list]; simp [Cmd.f0, Cmd.f1, Cmd.f2, Cmd.f3, Cmd.f4, Cmd.f5])
  case inr.inr.inr.inr.inl =>
    exact Calls.mono (rothersE _ name key vk vn vf vs ok on of os n m w) fun en w' h => key1 h (by unfold Cmd.others; simp only [nil_is, emp_list]; simp [Cmd.f0, Cmd.f1, Cmd.f2, Cmd.f3, Cmd.f4, Cmd.f5])
  case inr.inr.inr.inr.inr.inl.inl | inr.inr.inr.inr.inr.inl.inr =>
    exact Calls.mono (rothersF _ name key vk vn vf vs ok on of os n m w) fun en w' h => key1 h (by unfold Cmd.others; simp only [nil_is, emp_list]; simp [Cmd.f0, Cmd.f1, Cmd.f2, Cmd.f3, Cmd.f4, Cmd.f5])
  case inr.inr.inr.inr.inr.inr.inl =>
    exact Calls.mono (rothersG _ name key vk vn vf vs ok on of os n m w) fun en w' h => key1 h (by unfold Cmd.others; simp only [nil_is, emp_list]; simp [Cmd.f0, Cmd.f1, Cmd.f2, Cmd.f3, Cmd.f4, Cmd.f5])
  case inr.inr.inr.inr.inr.inr.inr =>
    obtain ⟨e0, e1, e2, e3, e4, e5⟩ := Cmd.flags_none h
    simp only [e0, e1, e2, e3, e4, e5]
    exact Calls.mono (rothersZ _ name key vk vn vf vs ok on of os n m w) fun en w' h => key1 h (by unfold Cmd.others; simp only [nil_is, emp_list, e0, e1, e2, e3, e4, e5]; simp)
section
variable {b0 : Nat} {w0 w : World} {L : List (Nat × TypeId × Array Value)} {R : List RowE} {ops : Array Oper} {rest : List Oper} {o : Oper} {a : Act} {Q : Exit → Act → World → Prop}
theorem wpList_akf (HK : Hid (Kn b0 w0 w L R)) (hgd : o.guard = none) (ho : o.op = .alloc 72)
    (h : ∀ w' g, Hid (Kn b0 w0 w' (L ++ [(g, 72, fl false false false false false false)]) R) → wpList Try.prog ops Q rest (a.put o.dst (.pointer (some ⟨g, 0, none⟩))) w') : wpList Try.prog ops Q (o :: rest) a w :=
  wpList_plain hgd fun K hK => by
    have h4 := h _ w.heap.size (Lib.hid (HK.out.alloc _ _))
    unfold Oper.wp execOp
    simp only [ho]
    unfold fl at h4
    go_simp
    exact hK _ _ h4
theorem wpList_sfl (HK : Hid (Kn b0 w0 w L R)) (i : Nat) (hgd : o.guard = none) (p q : Operand) (ho : o.op = .store 72 p q) {g : Nat} {x0 x1 x2 x3 x4 x5 y0 y1 y2 y3 y4 y5 : Bool} (hL : L[i]? = some (g, 72, fl x0 x1 x2 x3 x4 x5)) (hx : a.eval p = .pointer (some ⟨g, 0, none⟩)) (hy : a.eval q = .agg (fl y0 y1 y2 y3 y4 y5))
    (h : ∀ w', Hid (Kn b0 w0 w' (L.set i (g, 72, fl y0 y1 y2 y3 y4 y5)) R) → Hid (w'.heap.size = w.heap.size) → wpList Try.prog ops Q rest (a.put o.dst undef) w') : wpList Try.prog ops Q (o :: rest) a w :=
  wpList_ss HK i hgd _ p q ho hL hx hy (by show 6 ≤ 6; decide) info_fl (by simp [fl, Value.oneCell']) fun w' h1 h2 => h w' (by
    have e : putCells (fl x0 x1 x2 x3 x4 x5) 0 (fl y0 y1 y2 y3 y4 y5).toList = fl y0 y1 y2 y3 y4 y5 := by
      rw [putCells_all (vs := (fl y0 y1 y2 y3 y4 y5).toList) (cs := fl x0 x1 x2 x3 x4 x5) rfl, Array.toArray_toList]
    rw [e] at h1
    exact h1) h2
theorem wpList_lcm (HK : Hid (Kn b0 w0 w L R)) (i : Nat) (hw : Region.wanted o (yielded ops a.tmps) = true) (x : Operand) (ho : o.op = .load 33 x) {g : Nat} {k : Int} {name key : ByteArray} {vk vn : Int} {vf : Nat} {vs : ByteArray} {ok on : Int} {of : Nat} {os : ByteArray} {n m : Int} (hL : L[i]? = some (g, 33, cmC k name key vk vn vf vs ok on of os n m)) (hx : a.eval x = .pointer (some ⟨g, 0, none⟩))
    (h : wpList Try.prog ops Q rest (a.put o.dst (.agg (cmC k name key vk vn vf vs ok on of os n m))) w) : wpList Try.prog ops Q (o :: rest) a w :=
  wpList_of_exec hw (kexec_ls HK _ x ho i hL hx (cmC k name key vk vn vf vs ok on of os n m) (fun j _ => by rw [Nat.zero_add]) Try.underlying33 info_cm) h
theorem wpList_lfl (HK : Hid (Kn b0 w0 w L R)) (i : Nat) (hw : Region.wanted o (yielded ops a.tmps) = true) (x : Operand) (ho : o.op = .load 72 x) {g : Nat} {x0 x1 x2 x3 x4 x5 : Bool} (hL : L[i]? = some (g, 72, fl x0 x1 x2 x3 x4 x5)) (hx : a.eval x = .pointer (some ⟨g, 0, none⟩))
    (h : wpList Try.prog ops Q rest (a.put o.dst (.agg (fl x0 x1 x2 x3 x4 x5))) w) : wpList Try.prog ops Q (o :: rest) a w := by
  have hb := HK.out.blk i hL
  have hr := run_loadVar_row (P := Try.prog) w g _ _ _ (0, 0) _ hb Try.underlying72 rfl info_fl
  refine wpList_of_exec hw ?_ h
  unfold execOp
  simp only [ho, hx, Instr.loadAt, Instr.sureAddr, Sem.run_bind, Sem.run_pure, Result.andThen_ok, hr]
end
section
variable {b0 : Nat} {w0 w : World} {L : List (Nat × TypeId × Array Value)} {R : List RowE} {ops : Array Oper} {rest : List Oper} {o : Oper} {a : Act} {Q : Exit → Act → World → Prop}
theorem info_va : (Try.prog.info? 31).map (·.size) = some 4 := by kernel_rfl
theorem wpList_lva (HK : Hid (Kn b0 w0 w L R)) (i : Nat) (hw : Region.wanted o (yielded ops a.tmps) = true) (x : Operand) (ho : o.op = .load 31 x) {g : Nat} {k : Int} {name key : ByteArray} {vk vn : Int} {vf : Nat} {vs : ByteArray} {ok on : Int} {of : Nat} {os : ByteArray} {n m : Int} (hL : L[i]? = some (g, 33, cmC k name key vk vn vf vs ok on of os n m)) (hx : a.eval x = .pointer (some ⟨g, 3, none⟩))
    (h : wpList Try.prog ops Q rest (a.put o.dst (vv ⟨vk, vn, vf, vs⟩)) w) : wpList Try.prog ops Q (o :: rest) a w :=
  wpList_of_exec hw (kexec_ls HK _ x ho i hL hx #[.int .i64 vk, .int .i64 vn, .int .u64 (vf : Int), .string vs] (fun j hj => by
    match j, hj with
    | 0, _ | 1, _ | 2, _ | 3, _ => rfl) Try.underlying31 info_va) h
theorem wpList_lol (HK : Hid (Kn b0 w0 w L R)) (i : Nat) (hw : Region.wanted o (yielded ops a.tmps) = true) (x : Operand) (ho : o.op = .load 31 x) {g : Nat} {k : Int} {name key : ByteArray} {vk vn : Int} {vf : Nat} {vs : ByteArray} {ok on : Int} {of : Nat} {os : ByteArray} {n m : Int} (hL : L[i]? = some (g, 33, cmC k name key vk vn vf vs ok on of os n m)) (hx : a.eval x = .pointer (some ⟨g, 7, none⟩))
    (h : wpList Try.prog ops Q rest (a.put o.dst (vv ⟨ok, on, of, os⟩)) w) : wpList Try.prog ops Q (o :: rest) a w :=
  wpList_of_exec hw (kexec_ls HK _ x ho i hL hx #[.int .i64 ok, .int .i64 on, .int .u64 (of : Int), .string os] (fun j hj => by
    match j, hj with
    | 0, _ | 1, _ | 2, _ | 3, _ => rfl) Try.underlying31 info_va) h
end
theorem Kn.cmd {b0 : Nat} {w0 w : World} {L : List (Nat × TypeId × Array Value)} {R : List RowE} (h : Kn b0 w0 w L R) (i : Nat) {g : Nat} {t : TypeId} {k : Int} {name key : ByteArray} {vk vn : Int} {vf : Nat} {vs : ByteArray} {ok on : Int} {of : Nat} {os : ByteArray} {n m : Int} (hi : L[i]? = some (g, t, cmC k name key vk vn vf vs ok on of os n m)) :
    w.cell? ⟨g, 0, none⟩ = some (.int .i64 k) ∧ w.cell? ⟨g, 1, none⟩ = some (.string name) ∧ w.cell? ⟨g, 2, none⟩ = some (.string key) ∧ w.cell? ⟨g, 3, none⟩ = some (.int .i64 vk) ∧ w.cell? ⟨g, 4, none⟩ = some (.int .i64 vn) ∧ w.cell? ⟨g, 5, none⟩ = some (.int .u64 (vf : Int)) ∧ w.cell? ⟨g, 6, none⟩ = some (.string vs) ∧
    w.cell? ⟨g, 7, none⟩ = some (.int .i64 ok) ∧ w.cell? ⟨g, 8, none⟩ = some (.int .i64 on) ∧ w.cell? ⟨g, 9, none⟩ = some (.int .u64 (of : Int)) ∧ w.cell? ⟨g, 10, none⟩ = some (.string os) ∧ w.cell? ⟨g, 11, none⟩ = some (.int .i64 n) ∧ w.cell? ⟨g, 12, none⟩ = some (.int .i64 m) :=
  ⟨h.cell i hi 0 rfl, h.cell i hi 1 rfl, h.cell i hi 2 rfl, h.cell i hi 3 rfl, h.cell i hi 4 rfl, h.cell i hi 5 rfl, h.cell i hi 6 rfl, h.cell i hi 7 rfl, h.cell i hi 8 rfl, h.cell i hi 9 rfl, h.cell i hi 10 rfl, h.cell i hi 11 rfl, h.cell i hi 12 rfl⟩
theorem Kn.flags {b0 : Nat} {w0 w : World} {L : List (Nat × TypeId × Array Value)} {R : List RowE} (h : Kn b0 w0 w L R) (i : Nat) {g : Nat} {t : TypeId} {y0 y1 y2 y3 y4 y5 : Bool} (hi : L[i]? = some (g, t, fl y0 y1 y2 y3 y4 y5)) :
    w.cell? ⟨g, 0, none⟩ = some (.bool y0) ∧ w.cell? ⟨g, 1, none⟩ = some (.bool y1) ∧ w.cell? ⟨g, 2, none⟩ = some (.bool y2) ∧ w.cell? ⟨g, 3, none⟩ = some (.bool y3) ∧ w.cell? ⟨g, 4, none⟩ = some (.bool y4) ∧ w.cell? ⟨g, 5, none⟩ = some (.bool y5) :=
  ⟨h.cell i hi 0 rfl, h.cell i hi 1 rfl, h.cell i hi 2 rfl, h.cell i hi 3 rfl, h.cell i hi 4 rfl, h.cell i hi 5 rfl⟩
set_option maxRecDepth 100000 in
set_option maxHeartbeats 12800000 in
theorem rchk1 (c : Cmd.C) (w : World) (hv : c.val.f < 18446744073709551616) (ho : c.old.f < 18446744073709551616) (hdef : (c.k < 1 ∨ 18 < c.k) ∧ Cmd.chk c = 1) : Calls Try.prog 44 #[.agg (cmA c)] w (IsE (Cmd.chk c) w) := by
  have HN := Lib.hid (fun W => rnames_any c.k W)
  have HO := Lib.hid (fun W => rothers_any c W)
  have HM := Lib.hid (fun W => rnumbers_any c W)
  have HCo := Lib.hid (fun W => rcheck_any c.old W ho)
  have HCv := Lib.hid (fun W => rcheck_any c.val W hv)
  have HE : Hid (∀ x : Int, Cmd.chk c = x → ∀ en w', (en = .returned (.int .i64 x) ∧ Below w.heap.size w w') → IsE (Cmd.chk c) w en w') := Lib.hid fun x hx en w' h => by rw [hx]; exact h
  clear hv ho
  generalize Cmd.chk c = E at *
  generalize decide (Cmd.others c) = bo at *
  generalize decide (Cmd.nums c) = bn at *
  generalize Val.chk c.old = eo at *
  generalize Val.chk c.val = ev at *
  generalize Cmd.f0 c.k = b0 at *
  generalize Cmd.f1 c.k = b1 at *
  generalize Cmd.f2 c.k = b2 at *
  generalize Cmd.f3 c.k = b3 at *
  generalize Cmd.f4 c.k = b4 at *
  generalize Cmd.f5 c.k = b5 at *
  obtain ⟨k, name, key, ⟨vk, vn, vf, vs⟩, ⟨ok, on, of, os⟩, n, m⟩ := c
  unfold cmA IsF IsE at *
  simp only at *
  have HK := kn1 w 33 (cmC k name key vk vn vf vs ok on of os n m)
  obtain ⟨h1, rfl⟩ := hdef
  have d1 : (decide (k < 1) = true) ∨ (decide (k < 1) = false ∧ decide (18 < k) = true) := by
    rcases h1 with h1 | h1
    · exact .inl (by simpa using h1)
    · by_cases h0 : k < 1
      · exact .inl (by simpa using h0)
      · exact .inr ⟨by simpa using h0, by simpa using h1⟩
  clear h1
  rcases d1 with d1 | ⟨d1, d2⟩
  all_goals
    go_enter Try.func44, Try.ntmps44
    go_wp2_with (first | refine wpList_of_exec (by rfl) (kexec_bi HK 0 _ rfl rfl rfl rfl) ?_)
    refine (HN.out _).mono ?_; rintro e w1 ⟨rfl, x1⟩
    replace HK := Lib.hid (HK.out.call x1)
    clear x1
    go_upto_region 2 with (first | (refine wpList_akf HK rfl rfl ?_; intro _ g3 HK'; simp only [List.cons_append, List.nil_append] at HK'; replace HK := HK'; clear HK') | (refine wpList_sfl HK 1 rfl _ _ rfl rfl rfl rfl ?_; intro _ HK' _; simp only [List.set] at HK'; replace HK := HK'; clear HK'))
    obtain ⟨x0_, x1_, x2_, x3_, x4_, x5_, x6_, x7_, x8_, x9_, x10_, x11_, x12_⟩ := Kn.cmd HK.out 0 rfl
    obtain ⟨y0_, y1_, y2_, y3_, y4_, y5_⟩ := Kn.flags HK.out 1 rfl
    go_wp2_with fail
    go_ret
    exact HE.out 1 rfl _ _ ⟨rfl, HK.out.b⟩
set_option maxRecDepth 100000 in
set_option maxHeartbeats 12800000 in
theorem rchk2 (c : Cmd.C) (w : World) (hv : c.val.f < 18446744073709551616) (ho : c.old.f < 18446744073709551616) (hdef : ¬ (c.k < 1 ∨ 18 < c.k) ∧ decide (Cmd.others c) = false ∧ True ∧ Cmd.chk c = 1) : Calls Try.prog 44 #[.agg (cmA c)] w (IsE (Cmd.chk c) w) := by
  have HN := Lib.hid (fun W => rnames_any c.k W)
  have HO := Lib.hid (fun W => rothers_any c W)
  have HM := Lib.hid (fun W => rnumbers_any c W)
  have HCo := Lib.hid (fun W => rcheck_any c.old W ho)
  have HCv := Lib.hid (fun W => rcheck_any c.val W hv)
  have HE : Hid (∀ x : Int, Cmd.chk c = x → ∀ en w', (en = .returned (.int .i64 x) ∧ Below w.heap.size w w') → IsE (Cmd.chk c) w en w') := Lib.hid fun x hx en w' h => by rw [hx]; exact h
  clear hv ho
  generalize Cmd.chk c = E at *
  generalize decide (Cmd.others c) = bo at *
  generalize decide (Cmd.nums c) = bn at *
  generalize Val.chk c.old = eo at *
  generalize Val.chk c.val = ev at *
  generalize Cmd.f0 c.k = b0 at *
  generalize Cmd.f1 c.k = b1 at *
  generalize Cmd.f2 c.k = b2 at *
  generalize Cmd.f3 c.k = b3 at *
  generalize Cmd.f4 c.k = b4 at *
  generalize Cmd.f5 c.k = b5 at *
  obtain ⟨k, name, key, ⟨vk, vn, vf, vs⟩, ⟨ok, on, of, os⟩, n, m⟩ := c
  unfold cmA IsF IsE at *
  simp only at *
  have HK := kn1 w 33 (cmC k name key vk vn vf vs ok on of os n m)
  obtain ⟨h1, rfl, _, rfl⟩ := hdef
  have d1 : decide (k < 1) = false := by simp; omega
  have d2 : decide (18 < k) = false := by simp; omega
  clear h1
  go_enter Try.func44, Try.ntmps44
  go_wp2_with (first | refine wpList_of_exec (by rfl) (kexec_bi HK 0 _ rfl rfl rfl rfl) ?_)
  refine (HN.out _).mono ?_; rintro e w1 ⟨rfl, x1⟩
  replace HK := Lib.hid (HK.out.call x1)
  clear x1
  go_upto_region 2 with (first | (refine wpList_akf HK rfl rfl ?_; intro _ g3 HK'; simp only [List.cons_append, List.nil_append] at HK'; replace HK := HK'; clear HK') | (refine wpList_sfl HK 1 rfl _ _ rfl rfl rfl rfl ?_; intro _ HK' _; simp only [List.set] at HK'; replace HK := HK'; clear HK'))
  obtain ⟨x0_, x1_, x2_, x3_, x4_, x5_, x6_, x7_, x8_, x9_, x10_, x11_, x12_⟩ := Kn.cmd HK.out 0 rfl
  obtain ⟨y0_, y1_, y2_, y3_, y4_, y5_⟩ := Kn.flags HK.out 1 rfl
  go_wp2_with fail
  refine (HO.out _).mono ?_; rintro e w2 ⟨rfl, x2⟩
  replace HK := Lib.hid (HK.out.call x2)
  clear x2
  clear x0_ x1_ x2_ x3_ x4_ x5_ x6_ x7_ x8_ x9_ x10_ x11_ x12_ y0_ y1_ y2_ y3_ y4_ y5_
  obtain ⟨x0_, x1_, x2_, x3_, x4_, x5_, x6_, x7_, x8_, x9_, x10_, x11_, x12_⟩ := Kn.cmd HK.out 0 rfl
  obtain ⟨y0_, y1_, y2_, y3_, y4_, y5_⟩ := Kn.flags HK.out 1 rfl
  go_wp2_with fail
  go_ret
  exact HE.out 1 rfl _ _ ⟨rfl, HK.out.b⟩
set_option maxRecDepth 100000 in
set_option maxHeartbeats 12800000 in
theorem rchk3 (c : Cmd.C) (w : World) (hv : c.val.f < 18446744073709551616) (ho : c.old.f < 18446744073709551616) (hdef : ¬ (c.k < 1 ∨ 18 < c.k) ∧ decide (Cmd.others c) = true ∧ Cmd.f0 c.k = true ∧ c.name.size = 0 ∧ True ∧ Cmd.chk c = 1) : Calls Try.prog 44 #[.agg (cmA c)] w (IsE (Cmd.chk c) w) := by
  have HN := Lib.hid (fun W => rnames_any c.k W)
  have HO := Lib.hid (fun W => rothers_any c W)
  have HM := Lib.hid (fun W => rnumbers_any c W)
  have HCo := Lib.hid (fun W => rcheck_any c.old W ho)
  have HCv := Lib.hid (fun W => rcheck_any c.val W hv)
  have HE : Hid (∀ x : Int, Cmd.chk c = x → ∀ en w', (en = .returned (.int .i64 x) ∧ Below w.heap.size w w') → IsE (Cmd.chk c) w en w') := Lib.hid fun x hx en w' h => by rw [hx]; exact h
  clear hv ho
  generalize Cmd.chk c = E at *
  generalize decide (Cmd.others c) = bo at *
  generalize decide (Cmd.nums c) = bn at *
  generalize Val.chk c.old = eo at *
  generalize Val.chk c.val = ev at *
  generalize Cmd.f0 c.k = b0 at *
  generalize Cmd.f1 c.k = b1 at *
  generalize Cmd.f2 c.k = b2 at *
  generalize Cmd.f3 c.k = b3 at *
  generalize Cmd.f4 c.k = b4 at *
  generalize Cmd.f5 c.k = b5 at *
  obtain ⟨k, name, key, ⟨vk, vn, vf, vs⟩, ⟨ok, on, of, os⟩, n, m⟩ := c
  unfold cmA IsF IsE at *
  simp only at *
  have HK := kn1 w 33 (cmC k name key vk vn vf vs ok on of os n m)
  obtain ⟨h1, rfl, rfl, h4, _, rfl⟩ := hdef
  have d1 : decide (k < 1) = false := by simp; omega
  have d2 : decide (18 < k) = false := by simp; omega
  clear h1
  have hn : (name.toList == []) = true := by simpa using emp_list.1 h4
  clear h4
  go_enter Try.func44, Try.ntmps44
  go_wp2_with (first | refine wpList_of_exec (by rfl) (kexec_bi HK 0 _ rfl rfl rfl rfl) ?_)
  refine (HN.out _).mono ?_; rintro e w1 ⟨rfl, x1⟩
  replace HK := Lib.hid (HK.out.call x1)
  clear x1
  go_upto_region 2 with (first | (refine wpList_akf HK rfl rfl ?_; intro _ g3 HK'; simp only [List.cons_append, List.nil_append] at HK'; replace HK := HK'; clear HK') | (refine wpList_sfl HK 1 rfl _ _ rfl rfl rfl rfl ?_; intro _ HK' _; simp only [List.set] at HK'; replace HK := HK'; clear HK'))
  obtain ⟨x0_, x1_, x2_, x3_, x4_, x5_, x6_, x7_, x8_, x9_, x10_, x11_, x12_⟩ := Kn.cmd HK.out 0 rfl
  obtain ⟨y0_, y1_, y2_, y3_, y4_, y5_⟩ := Kn.flags HK.out 1 rfl
  go_wp2_with fail
  refine (HO.out _).mono ?_; rintro e w2 ⟨rfl, x2⟩
  replace HK := Lib.hid (HK.out.call x2)
  clear x2
  clear x0_ x1_ x2_ x3_ x4_ x5_ x6_ x7_ x8_ x9_ x10_ x11_ x12_ y0_ y1_ y2_ y3_ y4_ y5_
  obtain ⟨x0_, x1_, x2_, x3_, x4_, x5_, x6_, x7_, x8_, x9_, x10_, x11_, x12_⟩ := Kn.cmd HK.out 0 rfl
  obtain ⟨y0_, y1_, y2_, y3_, y4_, y5_⟩ := Kn.flags HK.out 1 rfl
  go_wp2_with fail
  go_ret
  exact HE.out 1 rfl _ _ ⟨rfl, HK.out.b⟩
set_option maxRecDepth 100000 in
set_option maxHeartbeats 12800000 in
theorem rchk4 (c : Cmd.C) (w : World) (hv : c.val.f < 18446744073709551616) (ho : c.old.f < 18446744073709551616) (hdef : ¬ (c.k < 1 ∨ 18 < c.k) ∧ decide (Cmd.others c) = true ∧ ¬ (Cmd.f0 c.k = true ∧ c.name.size = 0) ∧ (16 < c.name.size ∨ 64 < c.key.size) ∧ True ∧ Cmd.chk c = 2) : Calls Try.prog 44 #[.agg (cmA c)] w (IsE (Cmd.chk c) w) := by
  have HN := Lib.hid (fun W => rnames_any c.k W)
  have HO := Lib.hid (fun W => rothers_any c W)
  have HM := Lib.hid (fun W => rnumbers_any c W)
  have HCo := Lib.hid (fun W => rcheck_any c.old W ho)
  have HCv := Lib.hid (fun W => rcheck_any c.val W hv)
  have HE : Hid (∀ x : Int, Cmd.chk c = x → ∀ en w', (en = .returned (.int .i64 x) ∧ Below w.heap.size w w') → IsE (Cmd.chk c) w en w') := Lib.hid fun x hx en w' h => by rw [hx]; exact h
  clear hv ho
  generalize Cmd.chk c = E at *
  generalize decide (Cmd.others c) = bo at *
  generalize decide (Cmd.nums c) = bn at *
  generalize Val.chk c.old = eo at *
  generalize Val.chk c.val = ev at *
  generalize Cmd.f0 c.k = b0 at *
  generalize Cmd.f1 c.k = b1 at *
  generalize Cmd.f2 c.k = b2 at *
  generalize Cmd.f3 c.k = b3 at *
  generalize Cmd.f4 c.k = b4 at *
  generalize Cmd.f5 c.k = b5 at *
  obtain ⟨k, name, key, ⟨vk, vn, vf, vs⟩, ⟨ok, on, of, os⟩, n, m⟩ := c
  unfold cmA IsF IsE at *
  simp only at *
  have HK := kn1 w 33 (cmC k name key vk vn vf vs ok on of os n m)
  obtain ⟨h1, rfl, h3, h4, _, rfl⟩ := hdef
  have d1 : decide (k < 1) = false := by simp; omega
  have d2 : decide (18 < k) = false := by simp; omega
  clear h1
  have hb : b0 = false ∨ (b0 = true ∧ (name.toList == []) = false) := by
    rcases b0 with _ | _
    · exact .inl rfl
    · refine .inr ⟨rfl, ?_⟩
      have : ¬ name.toList = [] := fun e => h3 ⟨rfl, emp_list.2 e⟩
      simpa using this
  clear h3
  have d3 : decide (16 < (name.size : Int)) = true ∨ (decide (16 < (name.size : Int)) = false ∧ decide (64 < (key.size : Int)) = true) := by
    by_cases h0 : 16 < name.size
    · exact .inl (by simp; omega)
    · exact .inr ⟨by simp; omega, by simp; omega⟩
  clear h4
  rcases hb with rfl | ⟨rfl, hn⟩ <;> rcases d3 with d3 | ⟨d3, d4⟩
  all_goals
    go_enter Try.func44, Try.ntmps44
    go_wp2_with (first | refine wpList_of_exec (by rfl) (kexec_bi HK 0 _ rfl rfl rfl rfl) ?_)
    refine (HN.out _).mono ?_; rintro e w1 ⟨rfl, x1⟩
    replace HK := Lib.hid (HK.out.call x1)
    clear x1
    go_upto_region 2 with (first | (refine wpList_akf HK rfl rfl ?_; intro _ g3 HK'; simp only [List.cons_append, List.nil_append] at HK'; replace HK := HK'; clear HK') | (refine wpList_sfl HK 1 rfl _ _ rfl rfl rfl rfl ?_; intro _ HK' _; simp only [List.set] at HK'; replace HK := HK'; clear HK'))
    obtain ⟨x0_, x1_, x2_, x3_, x4_, x5_, x6_, x7_, x8_, x9_, x10_, x11_, x12_⟩ := Kn.cmd HK.out 0 rfl
    obtain ⟨y0_, y1_, y2_, y3_, y4_, y5_⟩ := Kn.flags HK.out 1 rfl
    go_wp2_with fail
    refine (HO.out _).mono ?_; rintro e w2 ⟨rfl, x2⟩
    replace HK := Lib.hid (HK.out.call x2)
    clear x2
    clear x0_ x1_ x2_ x3_ x4_ x5_ x6_ x7_ x8_ x9_ x10_ x11_ x12_ y0_ y1_ y2_ y3_ y4_ y5_
    obtain ⟨x0_, x1_, x2_, x3_, x4_, x5_, x6_, x7_, x8_, x9_, x10_, x11_, x12_⟩ := Kn.cmd HK.out 0 rfl
    obtain ⟨y0_, y1_, y2_, y3_, y4_, y5_⟩ := Kn.flags HK.out 1 rfl
    go_wp2_with fail
    go_ret
    exact HE.out 2 rfl _ _ ⟨rfl, HK.out.b⟩
set_option maxRecDepth 100000 in
set_option maxHeartbeats 12800000 in
theorem rchk5 (c : Cmd.C) (w : World) (hv : c.val.f < 18446744073709551616) (ho : c.old.f < 18446744073709551616) (hdef : ¬ (c.k < 1 ∨ 18 < c.k) ∧ decide (Cmd.others c) = true ∧ ¬ (Cmd.f0 c.k = true ∧ c.name.size = 0) ∧ ¬ (16 < c.name.size ∨ 64 < c.key.size) ∧ Val.chk c.old ≠ 0 ∧ True ∧ Cmd.chk c = Val.chk c.old) : Calls Try.prog 44 #[.agg (cmA c)] w (IsE (Cmd.chk c) w) := by
  have HN := Lib.hid (fun W => rnames_any c.k W)
  have HO := Lib.hid (fun W => rothers_any c W)
  have HM := Lib.hid (fun W => rnumbers_any c W)
  have HCo := Lib.hid (fun W => rcheck_any c.old W ho)
  have HCv := Lib.hid (fun W => rcheck_any c.val W hv)
  have HE : Hid (∀ x : Int, Cmd.chk c = x → ∀ en w', (en = .returned (.int .i64 x) ∧ Below w.heap.size w w') → IsE (Cmd.chk c) w en w') := Lib.hid fun x hx en w' h => by rw [hx]; exact h
  clear hv ho
  generalize Cmd.chk c = E at *
  generalize decide (Cmd.others c) = bo at *
  generalize decide (Cmd.nums c) = bn at *
  generalize Val.chk c.old = eo at *
  generalize Val.chk c.val = ev at *
  generalize Cmd.f0 c.k = b0 at *
  generalize Cmd.f1 c.k = b1 at *
  generalize Cmd.f2 c.k = b2 at *
  generalize Cmd.f3 c.k = b3 at *
  generalize Cmd.f4 c.k = b4 at *
  generalize Cmd.f5 c.k = b5 at *
  obtain ⟨k, name, key, ⟨vk, vn, vf, vs⟩, ⟨ok, on, of, os⟩, n, m⟩ := c
  unfold cmA IsF IsE at *
  simp only at *
  have HK := kn1 w 33 (cmC k name key vk vn vf vs ok on of os n m)
  obtain ⟨h1, rfl, h3, h4, h5, _, rfl⟩ := hdef
  have d1 : decide (k < 1) = false := by simp; omega
  have d2 : decide (18 < k) = false := by simp; omega
  clear h1
  have hb : b0 = false ∨ (b0 = true ∧ (name.toList == []) = false) := by
    rcases b0 with _ | _
    · exact .inl rfl
    · refine .inr ⟨rfl, ?_⟩
      have : ¬ name.toList = [] := fun e => h3 ⟨rfl, emp_list.2 e⟩
      simpa using this
  clear h3
  have d3 : decide (16 < (name.size : Int)) = false := by simp; omega
  have d4 : decide (64 < (key.size : Int)) = false := by simp; omega
  clear h4
  have f1 : (E == 0) = false := by simpa using h5
  have f2 : (E != 0) = true := by simpa using h5
  clear h5
  rcases hb with rfl | ⟨rfl, hn⟩
  all_goals
    go_enter Try.func44, Try.ntmps44
    go_wp2_with (first | refine wpList_of_exec (by rfl) (kexec_bi HK 0 _ rfl rfl rfl rfl) ?_)
    refine (HN.out _).mono ?_; rintro e w1 ⟨rfl, x1⟩
    replace HK := Lib.hid (HK.out.call x1)
    clear x1
    go_upto_region 2 with (first | (refine wpList_akf HK rfl rfl ?_; intro _ g3 HK'; simp only [List.cons_append, List.nil_append] at HK'; replace HK := HK'; clear HK') | (refine wpList_sfl HK 1 rfl _ _ rfl rfl rfl rfl ?_; intro _ HK' _; simp only [List.set] at HK'; replace HK := HK'; clear HK'))
    obtain ⟨x0_, x1_, x2_, x3_, x4_, x5_, x6_, x7_, x8_, x9_, x10_, x11_, x12_⟩ := Kn.cmd HK.out 0 rfl
    obtain ⟨y0_, y1_, y2_, y3_, y4_, y5_⟩ := Kn.flags HK.out 1 rfl
    go_wp2_with fail
    refine (HO.out _).mono ?_; rintro e w2 ⟨rfl, x2⟩
    replace HK := Lib.hid (HK.out.call x2)
    clear x2
    clear x0_ x1_ x2_ x3_ x4_ x5_ x6_ x7_ x8_ x9_ x10_ x11_ x12_ y0_ y1_ y2_ y3_ y4_ y5_
    obtain ⟨x0_, x1_, x2_, x3_, x4_, x5_, x6_, x7_, x8_, x9_, x10_, x11_, x12_⟩ := Kn.cmd HK.out 0 rfl
    obtain ⟨y0_, y1_, y2_, y3_, y4_, y5_⟩ := Kn.flags HK.out 1 rfl
    go_wp2_with fail
    refine (HCo.out _).mono ?_; rintro e w2 ⟨rfl, x2⟩
    replace HK := Lib.hid (HK.out.call x2)
    clear x2
    clear x0_ x1_ x2_ x3_ x4_ x5_ x6_ x7_ x8_ x9_ x10_ x11_ x12_ y0_ y1_ y2_ y3_ y4_ y5_
    obtain ⟨x0_, x1_, x2_, x3_, x4_, x5_, x6_, x7_, x8_, x9_, x10_, x11_, x12_⟩ := Kn.cmd HK.out 0 rfl
    obtain ⟨y0_, y1_, y2_, y3_, y4_, y5_⟩ := Kn.flags HK.out 1 rfl
    go_wp2_with fail
    go_ret
    exact HE.out _ rfl _ _ ⟨rfl, HK.out.b⟩
set_option maxRecDepth 100000 in
set_option maxHeartbeats 12800000 in
theorem rchk6 (c : Cmd.C) (w : World) (hv : c.val.f < 18446744073709551616) (ho : c.old.f < 18446744073709551616) (hdef : ¬ (c.k < 1 ∨ 18 < c.k) ∧ decide (Cmd.others c) = true ∧ ¬ (Cmd.f0 c.k = true ∧ c.name.size = 0) ∧ ¬ (16 < c.name.size ∨ 64 < c.key.size) ∧ Val.chk c.old = 0 ∧ Val.chk c.val ≠ 0 ∧ True ∧ Cmd.chk c = Val.chk c.val) : Calls Try.prog 44 #[.agg (cmA c)] w (IsE (Cmd.chk c) w) := by
  have HN := Lib.hid (fun W => rnames_any c.k W)
  have HO := Lib.hid (fun W => rothers_any c W)
  have HM := Lib.hid (fun W => rnumbers_any c W)
  have HCo := Lib.hid (fun W => rcheck_any c.old W ho)
  have HCv := Lib.hid (fun W => rcheck_any c.val W hv)
  have HE : Hid (∀ x : Int, Cmd.chk c = x → ∀ en w', (en = .returned (.int .i64 x) ∧ Below w.heap.size w w') → IsE (Cmd.chk c) w en w') := Lib.hid fun x hx en w' h => by rw [hx]; exact h
  clear hv ho
  generalize Cmd.chk c = E at *
  generalize decide (Cmd.others c) = bo at *
  generalize decide (Cmd.nums c) = bn at *
  generalize Val.chk c.old = eo at *
  generalize Val.chk c.val = ev at *
  generalize Cmd.f0 c.k = b0 at *
  generalize Cmd.f1 c.k = b1 at *
  generalize Cmd.f2 c.k = b2 at *
  generalize Cmd.f3 c.k = b3 at *
  generalize Cmd.f4 c.k = b4 at *
  generalize Cmd.f5 c.k = b5 at *
  obtain ⟨k, name, key, ⟨vk, vn, vf, vs⟩, ⟨ok, on, of, os⟩, n, m⟩ := c
  unfold cmA IsF IsE at *
  simp only at *
  have HK := kn1 w 33 (cmC k name key vk vn vf vs ok on of os n m)
  obtain ⟨h1, rfl, h3, h4, rfl, h6, _, rfl⟩ := hdef
  have d1 : decide (k < 1) = false := by simp; omega
  have d2 : decide (18 < k) = false := by simp; omega
  clear h1
  have hb : b0 = false ∨ (b0 = true ∧ (name.toList == []) = false) := by
    rcases b0 with _ | _
    · exact .inl rfl
    · refine .inr ⟨rfl, ?_⟩
      have : ¬ name.toList = [] := fun e => h3 ⟨rfl, emp_list.2 e⟩
      simpa using this
  clear h3
  have d3 : decide (16 < (name.size : Int)) = false := by simp; omega
  have d4 : decide (64 < (key.size : Int)) = false := by simp; omega
  clear h4
  have f2 : (E != 0) = true := by simpa using h6
  clear h6
  rcases hb with rfl | ⟨rfl, hn⟩
  all_goals
    go_enter Try.func44, Try.ntmps44
    go_wp2_with (first | refine wpList_of_exec (by rfl) (kexec_bi HK 0 _ rfl rfl rfl rfl) ?_)
    refine (HN.out _).mono ?_; rintro e w1 ⟨rfl, x1⟩
    replace HK := Lib.hid (HK.out.call x1)
    clear x1
    go_upto_region 2 with (first | (refine wpList_akf HK rfl rfl ?_; intro _ g3 HK'; simp only [List.cons_append, List.nil_append] at HK'; replace HK := HK'; clear HK') | (refine wpList_sfl HK 1 rfl _ _ rfl rfl rfl rfl ?_; intro _ HK' _; simp only [List.set] at HK'; replace HK := HK'; clear HK'))
    obtain ⟨x0_, x1_, x2_, x3_, x4_, x5_, x6_, x7_, x8_, x9_, x10_, x11_, x12_⟩ := Kn.cmd HK.out 0 rfl
    obtain ⟨y0_, y1_, y2_, y3_, y4_, y5_⟩ := Kn.flags HK.out 1 rfl
    go_wp2_with fail
    refine (HO.out _).mono ?_; rintro e w2 ⟨rfl, x2⟩
    replace HK := Lib.hid (HK.out.call x2)
    clear x2
    clear x0_ x1_ x2_ x3_ x4_ x5_ x6_ x7_ x8_ x9_ x10_ x11_ x12_ y0_ y1_ y2_ y3_ y4_ y5_
    obtain ⟨x0_, x1_, x2_, x3_, x4_, x5_, x6_, x7_, x8_, x9_, x10_, x11_, x12_⟩ := Kn.cmd HK.out 0 rfl
    obtain ⟨y0_, y1_, y2_, y3_, y4_, y5_⟩ := Kn.flags HK.out 1 rfl
    go_wp2_with fail
    refine (HCo.out _).mono ?_; rintro e w2 ⟨rfl, x2⟩
    replace HK := Lib.hid (HK.out.call x2)
    clear x2
    clear x0_ x1_ x2_ x3_ x4_ x5_ x6_ x7_ x8_ x9_ x10_ x11_ x12_ y0_ y1_ y2_ y3_ y4_ y5_
    obtain ⟨x0_, x1_, x2_, x3_, x4_, x5_, x6_, x7_, x8_, x9_, x10_, x11_, x12_⟩ := Kn.cmd HK.out 0 rfl
    obtain ⟨y0_, y1_, y2_, y3_, y4_, y5_⟩ := Kn.flags HK.out 1 rfl
    go_wp2_with fail
    refine (HCv.out _).mono ?_; rintro e w2 ⟨rfl, x2⟩
    replace HK := Lib.hid (HK.out.call x2)
    clear x2
    clear x0_ x1_ x2_ x3_ x4_ x5_ x6_ x7_ x8_ x9_ x10_ x11_ x12_ y0_ y1_ y2_ y3_ y4_ y5_
    obtain ⟨x0_, x1_, x2_, x3_, x4_, x5_, x6_, x7_, x8_, x9_, x10_, x11_, x12_⟩ := Kn.cmd HK.out 0 rfl
    obtain ⟨y0_, y1_, y2_, y3_, y4_, y5_⟩ := Kn.flags HK.out 1 rfl
    go_wp2_with fail
    go_ret
    exact HE.out _ rfl _ _ ⟨rfl, HK.out.b⟩
set_option maxRecDepth 100000 in
set_option maxHeartbeats 12800000 in
theorem rchk7a (c : Cmd.C) (w : World) (hv : c.val.f < 18446744073709551616) (ho : c.old.f < 18446744073709551616) (hdef : ¬ (c.k < 1 ∨ 18 < c.k) ∧ decide (Cmd.others c) = true ∧ ¬ (Cmd.f0 c.k = true ∧ c.name.size = 0) ∧ ¬ (16 < c.name.size ∨ 64 < c.key.size) ∧ Val.chk c.old = 0 ∧ Val.chk c.val = 0 ∧ (c.k = 7 ∨ c.k = 10) ∧ c.val.k = 0 ∧ Cmd.chk c = 1) : Calls Try.prog 44 #[.agg (cmA c)] w (IsE (Cmd.chk c) w) := by
  have HN := Lib.hid (fun W => rnames_any c.k W)
  have HO := Lib.hid (fun W => rothers_any c W)
  have HM := Lib.hid (fun W => rnumbers_any c W)
  have HCo := Lib.hid (fun W => rcheck_any c.old W ho)
  have HCv := Lib.hid (fun W => rcheck_any c.val W hv)
  have HE : Hid (∀ x : Int, Cmd.chk c = x → ∀ en w', (en = .returned (.int .i64 x) ∧ Below w.heap.size w w') → IsE (Cmd.chk c) w en w') := Lib.hid fun x hx en w' h => by rw [hx]; exact h
  clear hv ho
  generalize Cmd.chk c = E at *
  generalize decide (Cmd.others c) = bo at *
  generalize decide (Cmd.nums c) = bn at *
  generalize Val.chk c.old = eo at *
  generalize Val.chk c.val = ev at *
  generalize Cmd.f0 c.k = b0 at *
  generalize Cmd.f1 c.k = b1 at *
  generalize Cmd.f2 c.k = b2 at *
  generalize Cmd.f3 c.k = b3 at *
  generalize Cmd.f4 c.k = b4 at *
  generalize Cmd.f5 c.k = b5 at *
  obtain ⟨k, name, key, ⟨vk, vn, vf, vs⟩, ⟨ok, on, of, os⟩, n, m⟩ := c
  unfold cmA IsF IsE at *
  simp only at *
  have HK := kn1 w 33 (cmC k name key vk vn vf vs ok on of os n m)
  obtain ⟨h1, rfl, h3, h4, rfl, rfl, hk, rfl, rfl⟩ := hdef
  have hb : b0 = false ∨ (b0 = true ∧ (name.toList == []) = false) := by
    rcases b0 with _ | _
    · exact .inl rfl
    · refine .inr ⟨rfl, ?_⟩
      have : ¬ name.toList = [] := fun e => h3 ⟨rfl, emp_list.2 e⟩
      simpa using this
  clear h3
  have d3 : decide (16 < (name.size : Int)) = false := by simp; omega
  have d4 : decide (64 < (key.size : Int)) = false := by simp; omega
  clear h4
  clear h1
  rcases hk with rfl | rfl <;> rcases hb with rfl | ⟨rfl, hn⟩
  all_goals
    go_enter Try.func44, Try.ntmps44
    go_wp2_with (first | refine wpList_of_exec (by rfl) (kexec_bi HK 0 _ rfl rfl rfl rfl) ?_)
    refine (HN.out _).mono ?_; rintro e w1 ⟨rfl, x1⟩
    replace HK := Lib.hid (HK.out.call x1)
    clear x1
    go_upto_region 2 with (first | (refine wpList_akf HK rfl rfl ?_; intro _ g3 HK'; simp only [List.cons_append, List.nil_append] at HK'; replace HK := HK'; clear HK') | (refine wpList_sfl HK 1 rfl _ _ rfl rfl rfl rfl ?_; intro _ HK' _; simp only [List.set] at HK'; replace HK := HK'; clear HK'))
    obtain ⟨x0_, x1_, x2_, x3_, x4_, x5_, x6_, x7_, x8_, x9_, x10_, x11_, x12_⟩ := Kn.cmd HK.out 0 rfl
    obtain ⟨y0_, y1_, y2_, y3_, y4_, y5_⟩ := Kn.flags HK.out 1 rfl
    go_wp2_with fail
    refine (HO.out _).mono ?_; rintro e w2 ⟨rfl, x2⟩
    replace HK := Lib.hid (HK.out.call x2)
    clear x2
    clear x0_ x1_ x2_ x3_ x4_ x5_ x6_ x7_ x8_ x9_ x10_ x11_ x12_ y0_ y1_ y2_ y3_ y4_ y5_
    obtain ⟨x0_, x1_, x2_, x3_, x4_, x5_, x6_, x7_, x8_, x9_, x10_, x11_, x12_⟩ := Kn.cmd HK.out 0 rfl
    obtain ⟨y0_, y1_, y2_, y3_, y4_, y5_⟩ := Kn.flags HK.out 1 rfl
    go_wp2_with fail
    refine (HCo.out _).mono ?_; rintro e w2 ⟨rfl, x2⟩
    replace HK := Lib.hid (HK.out.call x2)
    clear x2
    clear x0_ x1_ x2_ x3_ x4_ x5_ x6_ x7_ x8_ x9_ x10_ x11_ x12_ y0_ y1_ y2_ y3_ y4_ y5_
    obtain ⟨x0_, x1_, x2_, x3_, x4_, x5_, x6_, x7_, x8_, x9_, x10_, x11_, x12_⟩ := Kn.cmd HK.out 0 rfl
    obtain ⟨y0_, y1_, y2_, y3_, y4_, y5_⟩ := Kn.flags HK.out 1 rfl
    go_wp2_with fail
    refine (HCv.out _).mono ?_; rintro e w2 ⟨rfl, x2⟩
    replace HK := Lib.hid (HK.out.call x2)
    clear x2
    clear x0_ x1_ x2_ x3_ x4_ x5_ x6_ x7_ x8_ x9_ x10_ x11_ x12_ y0_ y1_ y2_ y3_ y4_ y5_
    obtain ⟨x0_, x1_, x2_, x3_, x4_, x5_, x6_, x7_, x8_, x9_, x10_, x11_, x12_⟩ := Kn.cmd HK.out 0 rfl
    obtain ⟨y0_, y1_, y2_, y3_, y4_, y5_⟩ := Kn.flags HK.out 1 rfl
    go_wp2_with fail
    go_ret
    exact HE.out 1 rfl _ _ ⟨rfl, HK.out.b⟩
set_option maxRecDepth 100000 in
set_option maxHeartbeats 12800000 in
theorem rchk7b (c : Cmd.C) (w : World) (hv : c.val.f < 18446744073709551616) (ho : c.old.f < 18446744073709551616) (hdef : ¬ (c.k < 1 ∨ 18 < c.k) ∧ decide (Cmd.others c) = true ∧ ¬ (Cmd.f0 c.k = true ∧ c.name.size = 0) ∧ ¬ (16 < c.name.size ∨ 64 < c.key.size) ∧ Val.chk c.old = 0 ∧ Val.chk c.val = 0 ∧ ¬ ((c.k = 7 ∨ c.k = 10) ∧ c.val.k = 0) ∧ c.k = 15 ∧ c.val.k ≠ 2 ∧ Cmd.chk c = 7) : Calls Try.prog 44 #[.agg (cmA c)] w (IsE (Cmd.chk c) w) := by
  have HN := Lib.hid (fun W => rnames_any c.k W)
  have HO := Lib.hid (fun W => rothers_any c W)
  have HM := Lib.hid (fun W => rnumbers_any c W)
  have HCo := Lib.hid (fun W => rcheck_any c.old W ho)
  have HCv := Lib.hid (fun W => rcheck_any c.val W hv)
  have HE : Hid (∀ x : Int, Cmd.chk c = x → ∀ en w', (en = .returned (.int .i64 x) ∧ Below w.heap.size w w') → IsE (Cmd.chk c) w en w') := Lib.hid fun x hx en w' h => by rw [hx]; exact h
  clear hv ho
  generalize Cmd.chk c = E at *
  generalize decide (Cmd.others c) = bo at *
  generalize decide (Cmd.nums c) = bn at *
  generalize Val.chk c.old = eo at *
  generalize Val.chk c.val = ev at *
  generalize Cmd.f0 c.k = b0 at *
  generalize Cmd.f1 c.k = b1 at *
  generalize Cmd.f2 c.k = b2 at *
  generalize Cmd.f3 c.k = b3 at *
  generalize Cmd.f4 c.k = b4 at *
  generalize Cmd.f5 c.k = b5 at *
  obtain ⟨k, name, key, ⟨vk, vn, vf, vs⟩, ⟨ok, on, of, os⟩, n, m⟩ := c
  unfold cmA IsF IsE at *
  simp only at *
  have HK := kn1 w 33 (cmC k name key vk vn vf vs ok on of os n m)
  obtain ⟨h1, rfl, h3, h4, rfl, rfl, h7, rfl, h8, rfl⟩ := hdef
  have hb : b0 = false ∨ (b0 = true ∧ (name.toList == []) = false) := by
    rcases b0 with _ | _
    · exact .inl rfl
    · refine .inr ⟨rfl, ?_⟩
      have : ¬ name.toList = [] := fun e => h3 ⟨rfl, emp_list.2 e⟩
      simpa using this
  clear h3
  have d3 : decide (16 < (name.size : Int)) = false := by simp; omega
  have d4 : decide (64 < (key.size : Int)) = false := by simp; omega
  clear h4
  have f3 : (vk != 2) = true := by simpa using h8
  clear h1 h7 h8
  rcases hb with rfl | ⟨rfl, hn⟩
  all_goals
    go_enter Try.func44, Try.ntmps44
    go_wp2_with (first | refine wpList_of_exec (by rfl) (kexec_bi HK 0 _ rfl rfl rfl rfl) ?_)
    refine (HN.out _).mono ?_; rintro e w1 ⟨rfl, x1⟩
    replace HK := Lib.hid (HK.out.call x1)
    clear x1
    go_upto_region 2 with (first | (refine wpList_akf HK rfl rfl ?_; intro _ g3 HK'; simp only [List.cons_append, List.nil_append] at HK'; replace HK := HK'; clear HK') | (refine wpList_sfl HK 1 rfl _ _ rfl rfl rfl rfl ?_; intro _ HK' _; simp only [List.set] at HK'; replace HK := HK'; clear HK'))
    obtain ⟨x0_, x1_, x2_, x3_, x4_, x5_, x6_, x7_, x8_, x9_, x10_, x11_, x12_⟩ := Kn.cmd HK.out 0 rfl
    obtain ⟨y0_, y1_, y2_, y3_, y4_, y5_⟩ := Kn.flags HK.out 1 rfl
    go_wp2_with fail
    refine (HO.out _).mono ?_; rintro e w2 ⟨rfl, x2⟩
    replace HK := Lib.hid (HK.out.call x2)
    clear x2
    clear x0_ x1_ x2_ x3_ x4_ x5_ x6_ x7_ x8_ x9_ x10_ x11_ x12_ y0_ y1_ y2_ y3_ y4_ y5_
    obtain ⟨x0_, x1_, x2_, x3_, x4_, x5_, x6_, x7_, x8_, x9_, x10_, x11_, x12_⟩ := Kn.cmd HK.out 0 rfl
    obtain ⟨y0_, y1_, y2_, y3_, y4_, y5_⟩ := Kn.flags HK.out 1 rfl
    go_wp2_with fail
    refine (HCo.out _).mono ?_; rintro e w2 ⟨rfl, x2⟩
    replace HK := Lib.hid (HK.out.call x2)
    clear x2
    clear x0_ x1_ x2_ x3_ x4_ x5_ x6_ x7_ x8_ x9_ x10_ x11_ x12_ y0_ y1_ y2_ y3_ y4_ y5_
    obtain ⟨x0_, x1_, x2_, x3_, x4_, x5_, x6_, x7_, x8_, x9_, x10_, x11_, x12_⟩ := Kn.cmd HK.out 0 rfl
    obtain ⟨y0_, y1_, y2_, y3_, y4_, y5_⟩ := Kn.flags HK.out 1 rfl
    go_wp2_with fail
    refine (HCv.out _).mono ?_; rintro e w2 ⟨rfl, x2⟩
    replace HK := Lib.hid (HK.out.call x2)
    clear x2
    clear x0_ x1_ x2_ x3_ x4_ x5_ x6_ x7_ x8_ x9_ x10_ x11_ x12_ y0_ y1_ y2_ y3_ y4_ y5_
    obtain ⟨x0_, x1_, x2_, x3_, x4_, x5_, x6_, x7_, x8_, x9_, x10_, x11_, x12_⟩ := Kn.cmd HK.out 0 rfl
    obtain ⟨y0_, y1_, y2_, y3_, y4_, y5_⟩ := Kn.flags HK.out 1 rfl
    go_wp2_with fail
    go_ret
    exact HE.out 7 rfl _ _ ⟨rfl, HK.out.b⟩
set_option maxRecDepth 100000 in
set_option maxHeartbeats 12800000 in
theorem rchk7c (c : Cmd.C) (w : World) (hv : c.val.f < 18446744073709551616) (ho : c.old.f < 18446744073709551616) (hdef : ¬ (c.k < 1 ∨ 18 < c.k) ∧ decide (Cmd.others c) = true ∧ ¬ (Cmd.f0 c.k = true ∧ c.name.size = 0) ∧ ¬ (16 < c.name.size ∨ 64 < c.key.size) ∧ Val.chk c.old = 0 ∧ Val.chk c.val = 0 ∧ ¬ ((c.k = 7 ∨ c.k = 10) ∧ c.val.k = 0) ∧ ¬ (c.k = 15 ∧ c.val.k ≠ 2) ∧ decide (Cmd.nums c) = false ∧ Cmd.chk c = 1) : Calls Try.prog 44 #[.agg (cmA c)] w (IsE (Cmd.chk c) w) := by
  have HN := Lib.hid (fun W => rnames_any c.k W)
  have HO := Lib.hid (fun W => rothers_any c W)
  have HM := Lib.hid (fun W => rnumbers_any c W)
  have HCo := Lib.hid (fun W => rcheck_any c.old W ho)
  have HCv := Lib.hid (fun W => rcheck_any c.val W hv)
  have HE : Hid (∀ x : Int, Cmd.chk c = x → ∀ en w', (en = .returned (.int .i64 x) ∧ Below w.heap.size w w') → IsE (Cmd.chk c) w en w') := Lib.hid fun x hx en w' h => by rw [hx]; exact h
  clear hv ho
  generalize Cmd.chk c = E at *
  generalize decide (Cmd.others c) = bo at *
  generalize decide (Cmd.nums c) = bn at *
  generalize Val.chk c.old = eo at *
  generalize Val.chk c.val = ev at *
  generalize Cmd.f0 c.k = b0 at *
  generalize Cmd.f1 c.k = b1 at *
  generalize Cmd.f2 c.k = b2 at *
  generalize Cmd.f3 c.k = b3 at *
  generalize Cmd.f4 c.k = b4 at *
  generalize Cmd.f5 c.k = b5 at *
  obtain ⟨k, name, key, ⟨vk, vn, vf, vs⟩, ⟨ok, on, of, os⟩, n, m⟩ := c
  unfold cmA IsF IsE at *
  simp only at *
  have HK := kn1 w 33 (cmC k name key vk vn vf vs ok on of os n m)
  obtain ⟨h1, rfl, h3, h4, rfl, rfl, h7, h8, rfl, rfl⟩ := hdef
  have hb : b0 = false ∨ (b0 = true ∧ (name.toList == []) = false) := by
    rcases b0 with _ | _
    · exact .inl rfl
    · refine .inr ⟨rfl, ?_⟩
      have : ¬ name.toList = [] := fun e => h3 ⟨rfl, emp_list.2 e⟩
      simpa using this
  clear h3
  have d3 : decide (16 < (name.size : Int)) = false := by simp; omega
  have d4 : decide (64 < (key.size : Int)) = false := by simp; omega
  clear h4
  have hk : (k = 7 ∧ (vk == 0) = false) ∨ (k = 10 ∧ (vk == 0) = false) ∨ (k = 15 ∧ vk = 2) ∨ ((k == 7) = false ∧ (k == 10) = false ∧ (k == 15) = false) := by
    by_cases k7 : k = 7
    · exact .inl ⟨k7, by simpa using fun e => h7 ⟨.inl k7, e⟩⟩
    by_cases k10 : k = 10
    · exact .inr (.inl ⟨k10, by simpa using fun e => h7 ⟨.inr k10, e⟩⟩)
    by_cases k15 : k = 15
    · exact .inr (.inr (.inl ⟨k15, Decidable.byContradiction fun e => h8 ⟨k15, e⟩⟩))
    · exact .inr (.inr (.inr ⟨by simpa using k7, by simpa using k10, by simpa using k15⟩))
  clear h7 h8
  have d1 : decide (k < 1) = false := by simp; omega
  have d2 : decide (18 < k) = false := by simp; omega
  clear h1
  rcases hb with rfl | ⟨rfl, hn⟩ <;> rcases hk with ⟨rfl, f3⟩ | ⟨rfl, f3⟩ | ⟨rfl, rfl⟩ | ⟨f3, f4, f5⟩
  all_goals
    go_enter Try.func44, Try.ntmps44
    go_wp2_with (first | refine wpList_of_exec (by rfl) (kexec_bi HK 0 _ rfl rfl rfl rfl) ?_)
    refine (HN.out _).mono ?_; rintro e w1 ⟨rfl, x1⟩
    replace HK := Lib.hid (HK.out.call x1)
    clear x1
    go_upto_region 2 with (first | (refine wpList_akf HK rfl rfl ?_; intro _ g3 HK'; simp only [List.cons_append, List.nil_append] at HK'; replace HK := HK'; clear HK') | (refine wpList_sfl HK 1 rfl _ _ rfl rfl rfl rfl ?_; intro _ HK' _; simp only [List.set] at HK'; replace HK := HK'; clear HK'))
    obtain ⟨x0_, x1_, x2_, x3_, x4_, x5_, x6_, x7_, x8_, x9_, x10_, x11_, x12_⟩ := Kn.cmd HK.out 0 rfl
    obtain ⟨y0_, y1_, y2_, y3_, y4_, y5_⟩ := Kn.flags HK.out 1 rfl
    go_wp2_with fail
    refine (HO.out _).mono ?_; rintro e w2 ⟨rfl, x2⟩
    replace HK := Lib.hid (HK.out.call x2)
    clear x2
    clear x0_ x1_ x2_ x3_ x4_ x5_ x6_ x7_ x8_ x9_ x10_ x11_ x12_ y0_ y1_ y2_ y3_ y4_ y5_
    obtain ⟨x0_, x1_, x2_, x3_, x4_, x5_, x6_, x7_, x8_, x9_, x10_, x11_, x12_⟩ := Kn.cmd HK.out 0 rfl
    obtain ⟨y0_, y1_, y2_, y3_, y4_, y5_⟩ := Kn.flags HK.out 1 rfl
    go_wp2_with fail
    refine (HCo.out _).mono ?_; rintro e w2 ⟨rfl, x2⟩
    replace HK := Lib.hid (HK.out.call x2)
    clear x2
    clear x0_ x1_ x2_ x3_ x4_ x5_ x6_ x7_ x8_ x9_ x10_ x11_ x12_ y0_ y1_ y2_ y3_ y4_ y5_
    obtain ⟨x0_, x1_, x2_, x3_, x4_, x5_, x6_, x7_, x8_, x9_, x10_, x11_, x12_⟩ := Kn.cmd HK.out 0 rfl
    obtain ⟨y0_, y1_, y2_, y3_, y4_, y5_⟩ := Kn.flags HK.out 1 rfl
    go_wp2_with fail
    refine (HCv.out _).mono ?_; rintro e w2 ⟨rfl, x2⟩
    replace HK := Lib.hid (HK.out.call x2)
    clear x2
    clear x0_ x1_ x2_ x3_ x4_ x5_ x6_ x7_ x8_ x9_ x10_ x11_ x12_ y0_ y1_ y2_ y3_ y4_ y5_
    obtain ⟨x0_, x1_, x2_, x3_, x4_, x5_, x6_, x7_, x8_, x9_, x10_, x11_, x12_⟩ := Kn.cmd HK.out 0 rfl
    obtain ⟨y0_, y1_, y2_, y3_, y4_, y5_⟩ := Kn.flags HK.out 1 rfl
    go_wp2_with fail
    refine (HM.out _).mono ?_; rintro e w2 ⟨rfl, x2⟩
    replace HK := Lib.hid (HK.out.call x2)
    clear x2
    clear x0_ x1_ x2_ x3_ x4_ x5_ x6_ x7_ x8_ x9_ x10_ x11_ x12_ y0_ y1_ y2_ y3_ y4_ y5_
    obtain ⟨x0_, x1_, x2_, x3_, x4_, x5_, x6_, x7_, x8_, x9_, x10_, x11_, x12_⟩ := Kn.cmd HK.out 0 rfl
    obtain ⟨y0_, y1_, y2_, y3_, y4_, y5_⟩ := Kn.flags HK.out 1 rfl
    go_wp2_with fail
    go_ret
    exact HE.out _ rfl _ _ ⟨rfl, HK.out.b⟩
set_option maxRecDepth 100000 in
set_option maxHeartbeats 12800000 in
theorem rchk7d (c : Cmd.C) (w : World) (hv : c.val.f < 18446744073709551616) (ho : c.old.f < 18446744073709551616) (hdef : ¬ (c.k < 1 ∨ 18 < c.k) ∧ decide (Cmd.others c) = true ∧ ¬ (Cmd.f0 c.k = true ∧ c.name.size = 0) ∧ ¬ (16 < c.name.size ∨ 64 < c.key.size) ∧ Val.chk c.old = 0 ∧ Val.chk c.val = 0 ∧ ¬ ((c.k = 7 ∨ c.k = 10) ∧ c.val.k = 0) ∧ ¬ (c.k = 15 ∧ c.val.k ≠ 2) ∧ decide (Cmd.nums c) = true ∧ Cmd.chk c = 0) : Calls Try.prog 44 #[.agg (cmA c)] w (IsE (Cmd.chk c) w) := by
  have HN := Lib.hid (fun W => rnames_any c.k W)
  have HO := Lib.hid (fun W => rothers_any c W)
  have HM := Lib.hid (fun W => rnumbers_any c W)
  have HCo := Lib.hid (fun W => rcheck_any c.old W ho)
  have HCv := Lib.hid (fun W => rcheck_any c.val W hv)
  have HE : Hid (∀ x : Int, Cmd.chk c = x → ∀ en w', (en = .returned (.int .i64 x) ∧ Below w.heap.size w w') → IsE (Cmd.chk c) w en w') := Lib.hid fun x hx en w' h => by rw [hx]; exact h
  clear hv ho
  generalize Cmd.chk c = E at *
  generalize decide (Cmd.others c) = bo at *
  generalize decide (Cmd.nums c) = bn at *
  generalize Val.chk c.old = eo at *
  generalize Val.chk c.val = ev at *
  generalize Cmd.f0 c.k = b0 at *
  generalize Cmd.f1 c.k = b1 at *
  generalize Cmd.f2 c.k = b2 at *
  generalize Cmd.f3 c.k = b3 at *
  generalize Cmd.f4 c.k = b4 at *
  generalize Cmd.f5 c.k = b5 at *
  obtain ⟨k, name, key, ⟨vk, vn, vf, vs⟩, ⟨ok, on, of, os⟩, n, m⟩ := c
  unfold cmA IsF IsE at *
  simp only at *
  have HK := kn1 w 33 (cmC k name key vk vn vf vs ok on of os n m)
  obtain ⟨h1, rfl, h3, h4, rfl, rfl, h7, h8, rfl, rfl⟩ := hdef
  have hb : b0 = false ∨ (b0 = true ∧ (name.toList == []) = false) := by
    rcases b0 with _ | _
    · exact .inl rfl
    · refine .inr ⟨rfl, ?_⟩
      have : ¬ name.toList = [] := fun e => h3 ⟨rfl, emp_list.2 e⟩
      simpa using this
  clear h3
  have d3 : decide (16 < (name.size : Int)) = false := by simp; omega
  have d4 : decide (64 < (key.size : Int)) = false := by simp; omega
  clear h4
  have hk : (k = 7 ∧ (vk == 0) = false) ∨ (k = 10 ∧ (vk == 0) = false) ∨ (k = 15 ∧ vk = 2) ∨ ((k == 7) = false ∧ (k == 10) = false ∧ (k == 15) = false) := by
    by_cases k7 : k = 7
    · exact .inl ⟨k7, by simpa using fun e => h7 ⟨.inl k7, e⟩⟩
    by_cases k10 : k = 10
    · exact .inr (.inl ⟨k10, by simpa using fun e => h7 ⟨.inr k10, e⟩⟩)
    by_cases k15 : k = 15
    · exact .inr (.inr (.inl ⟨k15, Decidable.byContradiction fun e => h8 ⟨k15, e⟩⟩))
    · exact .inr (.inr (.inr ⟨by simpa using k7, by simpa using k10, by simpa using k15⟩))
  clear h7 h8
  have d1 : decide (k < 1) = false := by simp; omega
  have d2 : decide (18 < k) = false := by simp; omega
  clear h1
  rcases hb with rfl | ⟨rfl, hn⟩ <;> rcases hk with ⟨rfl, f3⟩ | ⟨rfl, f3⟩ | ⟨rfl, rfl⟩ | ⟨f3, f4, f5⟩
  all_goals
    go_enter Try.func44, Try.ntmps44
    go_wp2_with (first | refine wpList_of_exec (by rfl) (kexec_bi HK 0 _ rfl rfl rfl rfl) ?_)
    refine (HN.out _).mono ?_; rintro e w1 ⟨rfl, x1⟩
    replace HK := Lib.hid (HK.out.call x1)
    clear x1
    go_upto_region 2 with (first | (refine wpList_akf HK rfl rfl ?_; intro _ g3 HK'; simp only [List.cons_append, List.nil_append] at HK'; replace HK := HK'; clear HK') | (refine wpList_sfl HK 1 rfl _ _ rfl rfl rfl rfl ?_; intro _ HK' _; simp only [List.set] at HK'; replace HK := HK'; clear HK'))
    obtain ⟨x0_, x1_, x2_, x3_, x4_, x5_, x6_, x7_, x8_, x9_, x10_, x11_, x12_⟩ := Kn.cmd HK.out 0 rfl
    obtain ⟨y0_, y1_, y2_, y3_, y4_, y5_⟩ := Kn.flags HK.out 1 rfl
    go_wp2_with fail
    refine (HO.out _).mono ?_; rintro e w2 ⟨rfl, x2⟩
    replace HK := Lib.hid (HK.out.call x2)
    clear x2
    clear x0_ x1_ x2_ x3_ x4_ x5_ x6_ x7_ x8_ x9_ x10_ x11_ x12_ y0_ y1_ y2_ y3_ y4_ y5_
    obtain ⟨x0_, x1_, x2_, x3_, x4_, x5_, x6_, x7_, x8_, x9_, x10_, x11_, x12_⟩ := Kn.cmd HK.out 0 rfl
    obtain ⟨y0_, y1_, y2_, y3_, y4_, y5_⟩ := Kn.flags HK.out 1 rfl
    go_wp2_with fail
    refine (HCo.out _).mono ?_; rintro e w2 ⟨rfl, x2⟩
    replace HK := Lib.hid (HK.out.call x2)
    clear x2
    clear x0_ x1_ x2_ x3_ x4_ x5_ x6_ x7_ x8_ x9_ x10_ x11_ x12_ y0_ y1_ y2_ y3_ y4_ y5_
    obtain ⟨x0_, x1_, x2_, x3_, x4_, x5_, x6_, x7_, x8_, x9_, x10_, x11_, x12_⟩ := Kn.cmd HK.out 0 rfl
    obtain ⟨y0_, y1_, y2_, y3_, y4_, y5_⟩ := Kn.flags HK.out 1 rfl
    go_wp2_with fail
    refine (HCv.out _).mono ?_; rintro e w2 ⟨rfl, x2⟩
    replace HK := Lib.hid (HK.out.call x2)
    clear x2
    clear x0_ x1_ x2_ x3_ x4_ x5_ x6_ x7_ x8_ x9_ x10_ x11_ x12_ y0_ y1_ y2_ y3_ y4_ y5_
    obtain ⟨x0_, x1_, x2_, x3_, x4_, x5_, x6_, x7_, x8_, x9_, x10_, x11_, x12_⟩ := Kn.cmd HK.out 0 rfl
    obtain ⟨y0_, y1_, y2_, y3_, y4_, y5_⟩ := Kn.flags HK.out 1 rfl
    go_wp2_with fail
    refine (HM.out _).mono ?_; rintro e w2 ⟨rfl, x2⟩
    replace HK := Lib.hid (HK.out.call x2)
    clear x2
    clear x0_ x1_ x2_ x3_ x4_ x5_ x6_ x7_ x8_ x9_ x10_ x11_ x12_ y0_ y1_ y2_ y3_ y4_ y5_
    obtain ⟨x0_, x1_, x2_, x3_, x4_, x5_, x6_, x7_, x8_, x9_, x10_, x11_, x12_⟩ := Kn.cmd HK.out 0 rfl
    obtain ⟨y0_, y1_, y2_, y3_, y4_, y5_⟩ := Kn.flags HK.out 1 rfl
    go_wp2_with fail
    go_ret
    exact HE.out _ rfl _ _ ⟨rfl, HK.out.b⟩
theorem rchk_any (c : Cmd.C) (w : World) (hv : c.val.f < 18446744073709551616) (ho : c.old.f < 18446744073709551616) : Calls Try.prog 44 #[.agg (cmA c)] w (IsE (Cmd.chk c) w) := by
  rcases Cmd.chk_cases c with h | h | h | h | h | h | ⟨h1, h2, h3, h4, h5, h6, h | h | h | h⟩
  · exact rchk1 c w hv ho h
  · exact rchk2 c w hv ho h
  · exact rchk3 c w hv ho h
  · exact rchk4 c w hv ho h
  · exact rchk5 c w hv ho h
  · exact rchk6 c w hv ho h
  · exact rchk7a c w hv ho ⟨h1, h2, h3, h4, h5, h6, h⟩
  · exact rchk7b c w hv ho ⟨h1, h2, h3, h4, h5, h6, h⟩
  · exact rchk7c c w hv ho ⟨h1, h2, h3, h4, h5, h6, h⟩
  · exact rchk7d c w hv ho ⟨h1, h2, h3, h4, h5, h6, h⟩
end Go.Proofs.Ytakjggmiilkmdaa
