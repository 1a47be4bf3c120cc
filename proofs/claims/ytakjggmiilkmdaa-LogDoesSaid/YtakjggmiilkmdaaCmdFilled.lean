/-
  What filled returns: which fields of a command aren't zero.
  No condition.
-/
import Derived.Test.YtakjggmiilkmdaaJNam
import Derived.Deep.RegionWith
import Derived.Deep.RegionHeld3
import Derived.Deep.Draws
import Derived.Lib.Hide
set_option linter.unusedSimpArgs false
set_option linter.unusedVariables false
namespace Go.Proofs.Ytakjggmiilkmdaa
open Go.RowKit

theorem info_va4 : (Try.prog.info? 31).map (·.size) = some 4 := by kernel_rfl
section
variable {b0 : Nat} {w0 w : World} {L : List (Nat × TypeId × Array Value)} {R : List RowE} {ops : Array Oper} {rest : List Oper} {o : Oper} {a : Act} {Q : Exit → Act → World → Prop}
theorem kexec_va (HK : Hid (Kn b0 w0 w L R)) (i : Nat) (x : Operand) (ho : o.op = .load 31 x) {g : Nat} {t : TypeId} {k : Int} {name key : ByteArray} {vk vn : Int} {vf : Nat} {vs : ByteArray} {ok on : Int} {of : Nat} {os : ByteArray} {n m : Int} (hL : L[i]? = some (g, t, cmC k name key vk vn vf vs ok on of os n m)) (hx : a.eval x = .pointer (some ⟨g, 3, none⟩)) :
    (execOp a.eval o).run Try.prog w = .ok (.value (.agg #[.int .i64 vk, .int .i64 vn, .int .u64 (vf : Int), .string vs])) w :=
  kexec_ls HK _ x ho i hL hx #[.int .i64 vk, .int .i64 vn, .int .u64 (vf : Int), .string vs] (fun j hj => by
    match j, hj with
    | 0, _ | 1, _ | 2, _ | 3, _ => rfl) Try.underlying31 info_va4
theorem kexec_ol (HK : Hid (Kn b0 w0 w L R)) (i : Nat) (x : Operand) (ho : o.op = .load 31 x) {g : Nat} {t : TypeId} {k : Int} {name key : ByteArray} {vk vn : Int} {vf : Nat} {vs : ByteArray} {ok on : Int} {of : Nat} {os : ByteArray} {n m : Int} (hL : L[i]? = some (g, t, cmC k name key vk vn vf vs ok on of os n m)) (hx : a.eval x = .pointer (some ⟨g, 7, none⟩)) :
    (execOp a.eval o).run Try.prog w = .ok (.value (.agg #[.int .i64 ok, .int .i64 on, .int .u64 (of : Int), .string os])) w :=
  kexec_ls HK _ x ho i hL hx #[.int .i64 ok, .int .i64 on, .int .u64 (of : Int), .string os] (fun j hj => by
    match j, hj with
    | 0, _ | 1, _ | 2, _ | 3, _ => rfl) Try.underlying31 info_va4
theorem kexec_cm (HK : Hid (Kn b0 w0 w L R)) (i : Nat) (x : Operand) (ho : o.op = .load 33 x) {g : Nat} {t : TypeId} {k : Int} {name key : ByteArray} {vk vn : Int} {vf : Nat} {vs : ByteArray} {ok on : Int} {of : Nat} {os : ByteArray} {n m : Int} (hL : L[i]? = some (g, t, cmC k name key vk vn vf vs ok on of os n m)) (hx : a.eval x = .pointer (some ⟨g, 0, none⟩)) :
    (execOp a.eval o).run Try.prog w = .ok (.value (.agg (cmC k name key vk vn vf vs ok on of os n m))) w :=
  kexec_ls HK _ x ho i hL hx (cmC k name key vk vn vf vs ok on of os n m) (fun j _ => by rw [Nat.zero_add]) Try.underlying33 info_cm
end
/-- Which fields aren't zero. -/
def IsFl (c : Cmd.C) (w : World) (e : Ending) (w' : World) : Prop := ∃ b0 b1 b2 b3 b4 b5, e = .returned (.agg (fl b0 b1 b2 b3 b4 b5)) ∧ ((b0 = false ↔ c.name.size = 0) ∧ (b1 = false ↔ c.key.size = 0) ∧ (b2 = false ↔ Cmd.nil c.val) ∧ (b3 = false ↔ Cmd.nil c.old) ∧ (b4 = false ↔ c.n = 0) ∧ (b5 = false ↔ c.m = 0)) ∧ Below w.heap.size w w'
theorem emp_l {s : ByteArray} : s.size = 0 ↔ s.toList = [] := by
  constructor
  · intro h
    rw [Cmd.size_emp h, ByteArray.toList_eq]; rfl
  · intro h
    rw [ByteArray.toList_eq] at h
    have := congrArg List.length h
    simpa using this
set_option maxRecDepth 10000 in
set_option maxHeartbeats 6400000 in
theorem cfilled_any (c : Cmd.C) (w : World) : Calls Try.prog 84 #[.agg (cmA c)] w (IsFl c w) := by
  obtain ⟨k, name, key, ⟨vk, vn, vf, vs⟩, ⟨ok, on, of, os⟩, n, m⟩ := c
  unfold cmA IsFl
  simp only [nil_is, emp_l]
  have HK := kn2 w 33 (cmC k name key vk vn vf vs ok on of os n m) 72 (fl false false false false false false)
  go_enter Try.func84, Try.ntmps84
  go_wp2_with fail
  replace HK := Lib.hid HK.out.drew
  refine wp_region_held_drew (S := (fun W => Hid (Kn w.heap.size w W [(w.heap.size, 33, cmC k name key vk vn vf vs ok on of os n m)] []))) (by kernel_rfl) ?_ (fun hHeld => ?_)
  · (try dsimp only); exact Lib.hid (HK.out.takeL 1)
  refine wpAnyH_take (i := 0) (oi := ⟨some 3, _, _, _, _, _⟩) (v := ?_) rfl (by kernel_rfl) (by kernel_rfl) (by kernel_rfl) (fun _ _ _ h => h) (Or.inl ⟨by rfl, ?_⟩) (by assumption) ?_
  rotate_left
  · (intro w hSw; (try dsimp only at hSw); go_simp; try with_reducible rfl)
  try simp only [Act.put, List.setIfInBounds_toArray, List.set_cons_zero, List.set_cons_succ]
  refine wpAnyH_take (i := 1) (oi := ⟨some 4, _, _, _, _, _⟩) (v := ?_) rfl (by kernel_rfl) (by kernel_rfl) (by kernel_rfl) (fun _ _ _ h => h) (Or.inl ⟨by rfl, ?_⟩) (by assumption) ?_
  rotate_left
  · (intro w hSw; refine Eq.trans (kexec_bs hSw 0 _ (by rfl) (by rfl) (by rfl) (by rfl)) ?_; with_reducible rfl)
  try simp only [Act.put, List.setIfInBounds_toArray, List.set_cons_zero, List.set_cons_succ]
  refine wpAnyH_take (i := 2) (oi := ⟨some 5, _, _, _, _, _⟩) (v := ?_) rfl (by kernel_rfl) (by kernel_rfl) (by kernel_rfl) (fun _ _ _ h => h) (Or.inl ⟨by rfl, ?_⟩) (by assumption) ?_
  rotate_left
  · (intro w hSw; (try dsimp only at hSw); go_simp; try with_reducible rfl)
  try simp only [Act.put, List.setIfInBounds_toArray, List.set_cons_zero, List.set_cons_succ]
  refine wpAnyH_take (i := 3) (oi := ⟨some 6, _, _, _, _, _⟩) (v := ?_) rfl (by kernel_rfl) (by kernel_rfl) (by kernel_rfl) (fun _ _ _ h => h) (Or.inl ⟨by rfl, ?_⟩) (by assumption) ?_
  rotate_left
  · (intro w hSw; (try dsimp only at hSw); go_simp; try with_reducible rfl)
  try simp only [Act.put, List.setIfInBounds_toArray, List.set_cons_zero, List.set_cons_succ]
  refine wpAnyH_take (i := 4) (oi := ⟨some 7, _, _, _, _, _⟩) (v := ?_) rfl (by kernel_rfl) (by kernel_rfl) (by kernel_rfl) (fun _ _ _ h => h) (Or.inl ⟨by rfl, ?_⟩) (by assumption) ?_
  rotate_left
  · (intro w hSw; refine Eq.trans (kexec_bs hSw 0 _ (by rfl) (by rfl) (by rfl) (by rfl)) ?_; with_reducible rfl)
  try simp only [Act.put, List.setIfInBounds_toArray, List.set_cons_zero, List.set_cons_succ]
  refine wpAnyH_take (i := 5) (oi := ⟨some 8, _, _, _, _, _⟩) (v := ?_) rfl (by kernel_rfl) (by kernel_rfl) (by kernel_rfl) (fun _ _ _ h => h) (Or.inl ⟨by rfl, ?_⟩) (by assumption) ?_
  rotate_left
  · (intro w hSw; (try dsimp only at hSw); go_simp; try with_reducible rfl)
  try simp only [Act.put, List.setIfInBounds_toArray, List.set_cons_zero, List.set_cons_succ]
  refine wpAnyH_take (i := 6) (oi := ⟨some 9, _, _, _, _, _⟩) (v := ?_) rfl (by kernel_rfl) (by kernel_rfl) (by kernel_rfl) (fun _ _ _ h => h) (Or.inl ⟨by rfl, ?_⟩) (by assumption) ?_
  rotate_left
  · (intro w hSw; (try dsimp only at hSw); go_simp; try with_reducible rfl)
  try simp only [Act.put, List.setIfInBounds_toArray, List.set_cons_zero, List.set_cons_succ]
  refine wpAnyH_take (i := 7) (oi := ⟨some 10, _, _, _, _, _⟩) (v := ?_) rfl (by kernel_rfl) (by kernel_rfl) (by kernel_rfl) (fun _ _ _ h => h) (Or.inl ⟨by rfl, ?_⟩) (by assumption) ?_
  rotate_left
  · (intro w hSw; refine Eq.trans (kexec_va hSw 0 _ (by rfl) (by rfl) (by rfl)) ?_; with_reducible rfl)
  try simp only [Act.put, List.setIfInBounds_toArray, List.set_cons_zero, List.set_cons_succ]
  refine wpAnyH_take (i := 8) (oi := ⟨some 11, _, _, _, _, _⟩) (v := ?_) rfl (by kernel_rfl) (by kernel_rfl) (by kernel_rfl) (fun _ _ _ h => h) (Or.inl ⟨by rfl, ?_⟩) (by assumption) ?_
  rotate_left
  · (intro w hSw; (try dsimp only at hSw); go_simp; try with_reducible rfl)
  try simp only [Act.put, List.setIfInBounds_toArray, List.set_cons_zero, List.set_cons_succ]
  refine wpAnyH_take (i := 9) (oi := ⟨some 12, _, _, _, _, _⟩) (v := ?_) rfl (by kernel_rfl) (by kernel_rfl) (by kernel_rfl) (fun _ _ _ h => h) (Or.inl ⟨by rfl, ?_⟩) (by assumption) ?_
  rotate_left
  · (intro w hSw; refine Eq.trans ((show _ = Result.ok (Next.value (Value.bool (!(decide (vk = 0) && decide (vn = 0) && decide (vf = 0) && decide (vs.toList = []))))) w from by go_simp; by_cases h1 : vk = 0 <;> by_cases h2 : vn = 0 <;> by_cases h3 : vf = 0 <;> by_cases h4 : vs.toList = [] <;> simp [h1, h2, h3, h4])) ?_; with_reducible rfl)
  try simp only [Act.put, List.setIfInBounds_toArray, List.set_cons_zero, List.set_cons_succ]
  refine wpAnyH_take (i := 10) (oi := ⟨some 13, _, _, _, _, _⟩) (v := ?_) rfl (by kernel_rfl) (by kernel_rfl) (by kernel_rfl) (fun _ _ _ h => h) (Or.inl ⟨by rfl, ?_⟩) (by assumption) ?_
  rotate_left
  · (intro w hSw; (try dsimp only at hSw); go_simp; try with_reducible rfl)
  try simp only [Act.put, List.setIfInBounds_toArray, List.set_cons_zero, List.set_cons_succ]
  refine wpAnyH_take (i := 11) (oi := ⟨some 14, _, _, _, _, _⟩) (v := ?_) rfl (by kernel_rfl) (by kernel_rfl) (by kernel_rfl) (fun _ _ _ h => h) (Or.inl ⟨by rfl, ?_⟩) (by assumption) ?_
  rotate_left
  · (intro w hSw; refine Eq.trans (kexec_ol hSw 0 _ (by rfl) (by rfl) (by rfl)) ?_; with_reducible rfl)
  try simp only [Act.put, List.setIfInBounds_toArray, List.set_cons_zero, List.set_cons_succ]
  refine wpAnyH_take (i := 12) (oi := ⟨some 15, _, _, _, _, _⟩) (v := ?_) rfl (by kernel_rfl) (by kernel_rfl) (by kernel_rfl) (fun _ _ _ h => h) (Or.inl ⟨by rfl, ?_⟩) (by assumption) ?_
  rotate_left
  · (intro w hSw; (try dsimp only at hSw); go_simp; try with_reducible rfl)
  try simp only [Act.put, List.setIfInBounds_toArray, List.set_cons_zero, List.set_cons_succ]
  refine wpAnyH_take (i := 13) (oi := ⟨some 16, _, _, _, _, _⟩) (v := ?_) rfl (by kernel_rfl) (by kernel_rfl) (by kernel_rfl) (fun _ _ _ h => h) (Or.inl ⟨by rfl, ?_⟩) (by assumption) ?_
  rotate_left
  · (intro w hSw; refine Eq.trans ((show _ = Result.ok (Next.value (Value.bool (!(decide (ok = 0) && decide (on = 0) && decide (of = 0) && decide (os.toList = []))))) w from by go_simp; by_cases h1 : ok = 0 <;> by_cases h2 : on = 0 <;> by_cases h3 : of = 0 <;> by_cases h4 : os.toList = [] <;> simp [h1, h2, h3, h4])) ?_; with_reducible rfl)
  try simp only [Act.put, List.setIfInBounds_toArray, List.set_cons_zero, List.set_cons_succ]
  refine wpAnyH_take (i := 14) (oi := ⟨some 17, _, _, _, _, _⟩) (v := ?_) rfl (by kernel_rfl) (by kernel_rfl) (by kernel_rfl) (fun _ _ _ h => h) (Or.inl ⟨by rfl, ?_⟩) (by assumption) ?_
  rotate_left
  · (intro w hSw; (try dsimp only at hSw); go_simp; try with_reducible rfl)
  try simp only [Act.put, List.setIfInBounds_toArray, List.set_cons_zero, List.set_cons_succ]
  refine wpAnyH_take (i := 15) (oi := ⟨some 18, _, _, _, _, _⟩) (v := ?_) rfl (by kernel_rfl) (by kernel_rfl) (by kernel_rfl) (fun _ _ _ h => h) (Or.inl ⟨by rfl, ?_⟩) (by assumption) ?_
  rotate_left
  · (intro w hSw; refine Eq.trans (kexec_bi hSw 0 _ (by rfl) (by rfl) (by rfl) (by rfl)) ?_; with_reducible rfl)
  try simp only [Act.put, List.setIfInBounds_toArray, List.set_cons_zero, List.set_cons_succ]
  refine wpAnyH_take (i := 16) (oi := ⟨some 19, _, _, _, _, _⟩) (v := ?_) rfl (by kernel_rfl) (by kernel_rfl) (by kernel_rfl) (fun _ _ _ h => h) (Or.inl ⟨by rfl, ?_⟩) (by assumption) ?_
  rotate_left
  · (intro w hSw; (try dsimp only at hSw); go_simp; try with_reducible rfl)
  try simp only [Act.put, List.setIfInBounds_toArray, List.set_cons_zero, List.set_cons_succ]
  refine wpAnyH_take (i := 17) (oi := ⟨some 20, _, _, _, _, _⟩) (v := ?_) rfl (by kernel_rfl) (by kernel_rfl) (by kernel_rfl) (fun _ _ _ h => h) (Or.inl ⟨by rfl, ?_⟩) (by assumption) ?_
  rotate_left
  · (intro w hSw; (try dsimp only at hSw); go_simp; try with_reducible rfl)
  try simp only [Act.put, List.setIfInBounds_toArray, List.set_cons_zero, List.set_cons_succ]
  refine wpAnyH_take (i := 18) (oi := ⟨some 21, _, _, _, _, _⟩) (v := ?_) rfl (by kernel_rfl) (by kernel_rfl) (by kernel_rfl) (fun _ _ _ h => h) (Or.inl ⟨by rfl, ?_⟩) (by assumption) ?_
  rotate_left
  · (intro w hSw; refine Eq.trans (kexec_bi hSw 0 _ (by rfl) (by rfl) (by rfl) (by rfl)) ?_; with_reducible rfl)
  try simp only [Act.put, List.setIfInBounds_toArray, List.set_cons_zero, List.set_cons_succ]
  refine wpAnyH_take (i := 19) (oi := ⟨some 22, _, _, _, _, _⟩) (v := ?_) rfl (by kernel_rfl) (by kernel_rfl) (by kernel_rfl) (fun _ _ _ h => h) (Or.inl ⟨by rfl, ?_⟩) (by assumption) ?_
  rotate_left
  · (intro w hSw; (try dsimp only at hSw); go_simp; try with_reducible rfl)
  try simp only [Act.put, List.setIfInBounds_toArray, List.set_cons_zero, List.set_cons_succ]
  refine wpAnyH_take (i := 20) (oi := ⟨some 23, _, _, _, _, _⟩) (v := ?_) rfl (by kernel_rfl) (by kernel_rfl) (by kernel_rfl) (fun _ _ _ h => h) (Or.inl ⟨by rfl, ?_⟩) (by assumption) ?_
  rotate_left
  · (intro w hSw; (try dsimp only at hSw); go_simp; try with_reducible rfl)
  try simp only [Act.put, List.setIfInBounds_toArray, List.set_cons_zero, List.set_cons_succ]
  refine wpAnyH_ready (rs := [21]) (by kernel_rfl) (by simp) ?_
  refine AllReadyH.cons (o := ⟨none, _, _, _, _, _⟩) rfl (fun K hK => ?_) AllReadyH.nil
  refine step_ss HK 1 (by rfl) _ _ _ (by rfl) (by rfl) (by rfl) (by rfl) (by show 6 ≤ 6; decide) info_fl (by simp [Value.oneCell']) ?_; intro _ HK' _; simp only [List.set] at HK'; replace HK := HK'; clear HK'; have hs := Lib.hid (HK.out.takeL 1)
  refine hK.out _ _ hs (fun hHeld => ?_)
  clear hK K
  try simp only [ap1, ap2, ap3, ap4, ap5]
  refine wpAnyH_done (by kernel_rfl) ?_ _
  go_wp2_with fail
  refine ret_fl Try.results84 rfl rfl (HK.out.blk 1 rfl) ⟨_, _, _, _, _, _, rfl, ?_, HK.out.b⟩
  clear HK hHeld
  refine ⟨?_, ?_, ?_, ?_, ?_, ?_⟩ <;> simp [and_assoc]
end Go.Proofs.Ytakjggmiilkmdaa
