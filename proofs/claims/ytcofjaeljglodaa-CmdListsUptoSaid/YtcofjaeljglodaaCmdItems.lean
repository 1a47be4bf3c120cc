/-
  What number, text, Items return, the program's and the document's.
  No condition but that floats' bits fit 64.
-/
import Derived.Test.YtcofjaeljglodaaConcat
import Derived.Test.YtcofjaeljglodaaEvLay
import Derived.Deep.RegionWith
import Derived.Deep.RegionHeld3
import Derived.Deep.Draws
import Derived.Lib.Hide
set_option linter.unusedSimpArgs false
set_option linter.unusedVariables false
namespace Go.Proofs.Ytcofjaeljglodaa
open Go.RowKit

theorem info_it3 : (Try.prog.info? 57).map (·.size) = some 3 := by kernel_rfl
theorem ret_it {f : Func} {R : Ending → World → Prop} {a : Act} {w : World} {B : Nat} {k n : Int} {s : ByteArray} {q : Tmp} (hf : f.results = #[.cell q 57]) (h2 : a.tmps[q]? = some (.pointer (some ⟨B, 0, none⟩))) (hd : a.defers = []) (hb : Blk w B 57 #[.int .i64 k, .int .i64 n, .string s])
    (hR : R (.returned (.agg #[.int .i64 k, .int .i64 n, .string s])) w) : bodyPost Try.prog f R Exit.ret a w :=
  bodyPost_ret (results_cell_row hf a.tmps w B _ _ (0, 0) _ (by simp [h2]) hb Try.underlying57 rfl info_it3) hd hR
theorem number_any (n : Int) (w : World) : Calls Try.prog 34 #[.int .i64 n] w fun e w' => e = .returned (.agg #[.int .i64 0, .int .i64 n, .string ⟨#[]⟩]) ∧ Below w.heap.size w w' := by
  have HB := Lib.hid ((Below.refl w.heap.size w).alloc (Nat.le_refl _) (.cells #[.int .i64 0, .int .i64 n, .string ⟨#[]⟩] 57))
  go_enter Try.func34, Try.ntmps34
  go_wp2_with fail
  exact ret_it Try.results34 rfl rfl (Blk.new w _ _) ⟨rfl, HB.out⟩
theorem text_any (s : ByteArray) (w : World) : Calls Try.prog 35 #[.string s] w fun e w' => e = .returned (.agg #[.int .i64 1, .int .i64 0, .string s]) ∧ Below w.heap.size w w' := by
  have HB := Lib.hid ((Below.refl w.heap.size w).alloc (Nat.le_refl _) (.cells #[.int .i64 1, .int .i64 0, .string s] 57))
  go_enter Try.func35, Try.ntmps35
  go_wp2_with fail
  exact ret_it Try.results35 rfl rfl (Blk.new w _ _) ⟨rfl, HB.out⟩
def cmZ : Array Value := cmC 0 ⟨#[]⟩ ⟨#[]⟩ 0 0 0 ⟨#[]⟩ 0 0 0 ⟨#[]⟩ 0 0
section
variable {b0 : Nat} {w0 w : World} {L : List (Nat × TypeId × Array Value)} {R : List RowE} {ops : Array Oper} {rest : List Oper} {o : Oper} {a : Act} {Q : Exit → Act → World → Prop}
theorem wpList_akcm (HK : Hid (Kn b0 w0 w L R)) (hgd : o.guard = none) (ho : o.op = .alloc 26)
    (h : ∀ w' g, Hid (Kn b0 w0 w' (L ++ [(g, 26, cmZ)]) R) → wpList Try.prog ops Q rest (a.put o.dst (.pointer (some ⟨g, 0, none⟩))) w') : wpList Try.prog ops Q (o :: rest) a w :=
  wpList_plain hgd fun K hK => by
    have h4 := h _ w.heap.size (Lib.hid (HK.out.alloc _ _))
    unfold Oper.wp execOp
    simp only [ho]
    unfold cmZ cmC at h4
    go_simp
    exact hK _ _ h4
theorem wpList_scm (HK : Hid (Kn b0 w0 w L R)) (i : Nat) (hgd : o.guard = none) (p q : Operand) (ho : o.op = .store 26 p q) {g : Nat} {t : TypeId} {k : Int} {name key : ByteArray} {vk vn : Int} {vf : Nat} {vs : ByteArray} {ok on : Int} {of : Nat} {os : ByteArray} {n m : Int} (hL : L[i]? = some (g, t, cmZ)) (hx : a.eval p = .pointer (some ⟨g, 0, none⟩)) (hy : a.eval q = .agg (cmC k name key vk vn vf vs ok on of os n m))
    (h : ∀ w', Hid (Kn b0 w0 w' (L.set i (g, t, cmC k name key vk vn vf vs ok on of os n m)) R) → wpList Try.prog ops Q rest (a.put o.dst undef) w') : wpList Try.prog ops Q (o :: rest) a w :=
  wpList_ss HK i hgd _ p q ho hL hx hy (by show 13 ≤ 13; decide) info_cm (by simp [cmC, Value.oneCell']) fun w' h1 h2 => h w' (by
    have e : putCells cmZ 0 (cmC k name key vk vn vf vs ok on of os n m).toList = cmC k name key vk vn vf vs ok on of os n m := by
      rw [putCells_all (vs := (cmC k name key vk vn vf vs ok on of os n m).toList) (cs := cmZ) rfl, Array.toArray_toList]
    rw [e] at h1
    exact h1)
theorem kexec_va1 (HK : Hid (Kn b0 w0 w L R)) (i : Nat) (x : Operand) (ho : o.op = .load 24 x) {g : Nat} {t : TypeId} {k : Int} {name key : ByteArray} {vk vn : Int} {vf : Nat} {vs : ByteArray} {ok on : Int} {of : Nat} {os : ByteArray} {n m : Int} (hL : L[i]? = some (g, t, cmC k name key vk vn vf vs ok on of os n m)) (hx : a.eval x = .pointer (some ⟨g, 3, none⟩)) :
    (execOp a.eval o).run Try.prog w = .ok (.value (.agg #[.int .i64 vk, .int .i64 vn, .int .u64 (vf : Int), .string vs])) w :=
  kexec_ls HK _ x ho i hL hx #[.int .i64 vk, .int .i64 vn, .int .u64 (vf : Int), .string vs] (fun j hj => by
    match j, hj with
    | 0, _ | 1, _ | 2, _ | 3, _ => rfl) Try.underlying24 info_val
theorem kexec_ol1 (HK : Hid (Kn b0 w0 w L R)) (i : Nat) (x : Operand) (ho : o.op = .load 24 x) {g : Nat} {t : TypeId} {k : Int} {name key : ByteArray} {vk vn : Int} {vf : Nat} {vs : ByteArray} {ok on : Int} {of : Nat} {os : ByteArray} {n m : Int} (hL : L[i]? = some (g, t, cmC k name key vk vn vf vs ok on of os n m)) (hx : a.eval x = .pointer (some ⟨g, 7, none⟩)) :
    (execOp a.eval o).run Try.prog w = .ok (.value (.agg #[.int .i64 ok, .int .i64 on, .int .u64 (of : Int), .string os])) w :=
  kexec_ls HK _ x ho i hL hx #[.int .i64 ok, .int .i64 on, .int .u64 (of : Int), .string os] (fun j hj => by
    match j, hj with
    | 0, _ | 1, _ | 2, _ | 3, _ => rfl) Try.underlying24 info_val
end
/-- Four slices, one behind the other. -/
theorem concat4 (W : World) (A1 A2 A3 A4 : Option Addr) (c1 c2 c3 c4 n1 n2 n3 n4 : Nat) (l1 l2 l3 l4 : List Itm.It) (g : Nat) (hg : g = W.heap.size) (e1 : n1 = l1.length) (e2 : n2 = l2.length) (e3 : n3 = l3.length) (e4 : n4 = l4.length) (h1 : itemLay.Reads W W.heap.size A1 l1 ∧ (A1 = none → l1 = [])) (h2 : itemLay.Reads W W.heap.size A2 l2 ∧ (A2 = none → l2 = [])) (h3 : itemLay.Reads W W.heap.size A3 l3 ∧ (A3 = none → l3 = [])) (h4 : itemLay.Reads W W.heap.size A4 l4 ∧ (A4 = none → l4 = []))
    (h0 : 0 < n1) (hl : n1 + n2 + n3 + n4 ≤ 1000) :
    Calls Try.prog 33 #[.slice (some ⟨g, 0, none⟩) 4 4] (W.alloc (.cells #[.slice A1 n1 c1, .slice A2 n2 c2, .slice A3 n3 c3, .slice A4 n4 c4] 38)) (IsIt (l1 ++ l2 ++ l3 ++ l4) (W.alloc (.cells #[.slice A1 n1 c1, .slice A2 n2 c2, .slice A3 n3 c3, .slice A4 n4 c4] 38))) := by
  subst e1 e2 e3 e4 hg
  have hb : Below W.heap.size W (W.alloc (.cells #[.slice A1 l1.length c1, .slice A2 l2.length c2, .slice A3 l3.length c3, .slice A4 l4.length c4] 38)) := (Below.refl _ W).alloc (Nat.le_refl _) _
  have hcat : cat [(A1, c1, l1), (A2, c2, l2), (A3, c3, l3), (A4, c4, l4)] = l1 ++ l2 ++ l3 ++ l4 := by
    simp [cat, List.append_assoc]
  rw [← hcat]
  refine concat_any W.heap.size 4 [(A1, c1, l1), (A2, c2, l2), (A3, c3, l3), (A4, c4, l4)] _ rfl (by decide) (by simp) (fun i x hx => ?_) (fun i x hx => ?_) (by rw [hcat]; simp only [List.length_append]; omega) (by rw [hcat]; simp only [List.length_append]; omega)
  · rw [World.cell?_alloc_new]
    match i, hx with
    | 0, hx | 1, hx | 2, hx | 3, hx => simp at hx; subst hx; rfl
  · match i, hx with
    | 0, hx => simp at hx; subst hx; exact ⟨h1.1.later hb (Nat.le_refl _), h1.2⟩
    | 1, hx => simp at hx; subst hx; exact ⟨h2.1.later hb (Nat.le_refl _), h2.2⟩
    | 2, hx => simp at hx; subst hx; exact ⟨h3.1.later hb (Nat.le_refl _), h3.2⟩
    | 3, hx => simp at hx; subst hx; exact ⟨h4.1.later hb (Nat.le_refl _), h4.2⟩
theorem items_len (v : Val.V) : 1 ≤ (Val.items v).length ∧ (Val.items v).length ≤ 2 := by
  rw [items_split]; (repeat' split) <;> simp
theorem own_some {b : Nat} {w : World} {A : Option Addr} {n c : Nat} {l : List Itm.It} (h : itemLay.Own b w (.slice A n c) l) : itemLay.Reads w w.heap.size A l ∧ (A = none → l = []) := by
  refine ⟨h.reads.2, fun e => ?_⟩
  subst e
  by_cases hl : l = []
  · exact hl
  · obtain ⟨g, c', h1, _⟩ := h.block hl
    cases h1
theorem rd_later {w w' : World} {A : Option Addr} {l : List Itm.It} (h : Hid (itemLay.Reads w w.heap.size A l ∧ (A = none → l = []))) (hb : Below w.heap.size w w') : Hid (itemLay.Reads w' w'.heap.size A l ∧ (A = none → l = [])) := Lib.hid ⟨h.out.1.later hb (Nat.le_refl _), h.out.2⟩
theorem rd_new (w : World) (l : List Itm.It) (C : Array Value) (hC : C = (itemLay.flat l).toArray) : Hid (itemLay.Reads (w.alloc (.cells C itemLay.e)) (w.alloc (.cells C itemLay.e)).heap.size (some ⟨w.heap.size, 0, none⟩) l ∧ ((some ⟨w.heap.size, 0, none⟩ : Option Addr) = none → l = [])) := Lib.hid ⟨Lay.Reads.new itemLay w l C hC, fun h => by cases h⟩
set_option maxRecDepth 10000 in
set_option maxHeartbeats 1600000 in
theorem eitems_any (e : Cmd.E) (w : World) (hv : e.cmd.val.f < 18446744073709551616) (ho : e.cmd.old.f < 18446744073709551616) : Calls Try.prog 15 #[.agg (evA e)] w (IsIt (Cmd.items e) w) := by
  obtain ⟨c, ep, r, k, name, key, val, old, n, m⟩ := e
  have HIv := Lib.hid (fun W => vitems_any val W hv)
  have HIo := Lib.hid (fun W => vitems_any old W ho)
  have hlv := items_len val
  have hlo := items_len old
  clear hv ho
  unfold evA Cmd.items Cmd.emp
  simp only at hlv hlo HIv HIo ⊢
  unfold vv at HIv HIo
  obtain ⟨vk, vn, vf, vs⟩ := val
  obtain ⟨ok, on, of, os⟩ := old
  simp only at hlv hlo HIv HIo ⊢
  generalize Val.items ⟨vk, vn, vf, vs⟩ = lv at *
  generalize Val.items ⟨ok, on, of, os⟩ = lo at *
  have HNm := Lib.hid number_any
  have HTx := Lib.hid text_any
  have HK := kn1 w 34 (evC c ep r k name key vk vn vf vs ok on of os n m)
  have HLen : Hid (6 + lv.length + lo.length + 2 ≤ 1000) := Lib.hid (by omega)
  have HCat := Lib.hid (fun (W : World) (A1 A2 Av Ao : Option Addr) (cv co g : Nat) hg h1 h2 h3 h4 => concat4 W A1 Av Ao A2 6 cv co 2 6 lv.length lo.length 2 [⟨0, c, ⟨#[]⟩⟩, ⟨0, ep, ⟨#[]⟩⟩, ⟨0, r, ⟨#[]⟩⟩, ⟨0, k, ⟨#[]⟩⟩, ⟨1, 0, name⟩, ⟨1, 0, key⟩] lv lo [⟨0, n, ⟨#[]⟩⟩, ⟨0, m, ⟨#[]⟩⟩] g hg rfl rfl rfl rfl h1 h2 h3 h4 (by show 0 < 6; decide) HLen.out)
  clear hlv hlo
  unfold IsIt at HCat ⊢
  generalize [⟨0, c, ⟨#[]⟩⟩, ⟨0, ep, ⟨#[]⟩⟩, ⟨0, r, ⟨#[]⟩⟩, ⟨0, k, ⟨#[]⟩⟩, ⟨1, 0, name⟩, ⟨1, 0, key⟩] ++ lv ++ lo ++ [⟨0, n, ⟨#[]⟩⟩, ⟨0, m, ⟨#[]⟩⟩] = F at HCat ⊢
  generalize F.length = NF at HCat ⊢
  go_enter Try.func15, Try.ntmps15
  go_upto_region 2 with (first | (refine wpList_akcm HK rfl rfl ?_; intro _ g3 HK'; simp only [List.cons_append, List.nil_append] at HK'; replace HK := HK'; clear HK') | refine wpList_of_exec (by rfl) (kexec_ecm HK 0 _ rfl rfl rfl) ?_ | (refine wpList_scm HK 1 rfl _ _ rfl rfl rfl rfl ?_; intro wq HK'; simp only [List.set] at HK'; replace HK := HK'; clear HK'))
  replace HK := Lib.hid HK.out.drew
  refine wp_region_held_drew (S := (fun W => Hid (Kn w.heap.size w W [(w.heap.size, 34, evC c ep r k name key vk vn vf vs ok on of os n m), (g3, 26, cmC k name key vk vn vf vs ok on of os n m)] []))) (by kernel_rfl) ?_ (fun hHeld => ?_)
  · (try dsimp only); exact HK
  refine wpAnyH_take (i := 0) (oi := ⟨some 6, _, _, _, _, _⟩) (v := ?_) rfl (by kernel_rfl) (by kernel_rfl) (by kernel_rfl) (fun _ _ _ h => h) (Or.inl ⟨by rfl, ?_⟩) (by assumption) ?_
  rotate_left
  · (intro w hSw; (try dsimp only at hSw); go_simp; try with_reducible rfl)
  try simp only [Act.put, List.setIfInBounds_toArray, List.set_cons_zero, List.set_cons_succ]
  refine wpAnyH_take (i := 1) (oi := ⟨some 7, _, _, _, _, _⟩) (v := ?_) rfl (by kernel_rfl) (by kernel_rfl) (by kernel_rfl) (fun _ _ _ h => h) (Or.inl ⟨by rfl, ?_⟩) (by assumption) ?_
  rotate_left
  · (intro w hSw; (try dsimp only at hSw); go_simp; try with_reducible rfl)
  try simp only [Act.put, List.setIfInBounds_toArray, List.set_cons_zero, List.set_cons_succ]
  refine wpAnyH_take (i := 2) (oi := ⟨some 8, _, _, _, _, _⟩) (v := ?_) rfl (by kernel_rfl) (by kernel_rfl) (by kernel_rfl) (fun _ _ _ h => h) (Or.inl ⟨by rfl, ?_⟩) (by assumption) ?_
  rotate_left
  · (intro w hSw; refine Eq.trans (kexec_bi hSw 0 _ (by rfl) (by rfl) (by rfl) (by rfl)) ?_; with_reducible rfl)
  try simp only [Act.put, List.setIfInBounds_toArray, List.set_cons_zero, List.set_cons_succ]
  refine wpAnyH_take (i := 4) (oi := ⟨some 10, _, _, _, _, _⟩) (v := ?_) rfl (by kernel_rfl) (by kernel_rfl) (by kernel_rfl) (fun _ _ _ h => h) (Or.inl ⟨by rfl, ?_⟩) (by assumption) ?_
  rotate_left
  · (intro w hSw; (try dsimp only at hSw); go_simp; try with_reducible rfl)
  try simp only [Act.put, List.setIfInBounds_toArray, List.set_cons_zero, List.set_cons_succ]
  refine wpAnyH_take (i := 5) (oi := ⟨some 11, _, _, _, _, _⟩) (v := ?_) rfl (by kernel_rfl) (by kernel_rfl) (by kernel_rfl) (fun _ _ _ h => h) (Or.inl ⟨by rfl, ?_⟩) (by assumption) ?_
  rotate_left
  · (intro w hSw; (try dsimp only at hSw); go_simp; try with_reducible rfl)
  try simp only [Act.put, List.setIfInBounds_toArray, List.set_cons_zero, List.set_cons_succ]
  refine wpAnyH_take (i := 6) (oi := ⟨some 12, _, _, _, _, _⟩) (v := ?_) rfl (by kernel_rfl) (by kernel_rfl) (by kernel_rfl) (fun _ _ _ h => h) (Or.inl ⟨by rfl, ?_⟩) (by assumption) ?_
  rotate_left
  · (intro w hSw; refine Eq.trans (kexec_bi hSw 0 _ (by rfl) (by rfl) (by rfl) (by rfl)) ?_; with_reducible rfl)
  try simp only [Act.put, List.setIfInBounds_toArray, List.set_cons_zero, List.set_cons_succ]
  refine wpAnyH_take (i := 8) (oi := ⟨some 14, _, _, _, _, _⟩) (v := ?_) rfl (by kernel_rfl) (by kernel_rfl) (by kernel_rfl) (fun _ _ _ h => h) (Or.inl ⟨by rfl, ?_⟩) (by assumption) ?_
  rotate_left
  · (intro w hSw; (try dsimp only at hSw); go_simp; try with_reducible rfl)
  try simp only [Act.put, List.setIfInBounds_toArray, List.set_cons_zero, List.set_cons_succ]
  refine wpAnyH_take (i := 9) (oi := ⟨some 15, _, _, _, _, _⟩) (v := ?_) rfl (by kernel_rfl) (by kernel_rfl) (by kernel_rfl) (fun _ _ _ h => h) (Or.inl ⟨by rfl, ?_⟩) (by assumption) ?_
  rotate_left
  · (intro w hSw; (try dsimp only at hSw); go_simp; try with_reducible rfl)
  try simp only [Act.put, List.setIfInBounds_toArray, List.set_cons_zero, List.set_cons_succ]
  refine wpAnyH_take (i := 10) (oi := ⟨some 16, _, _, _, _, _⟩) (v := ?_) rfl (by kernel_rfl) (by kernel_rfl) (by kernel_rfl) (fun _ _ _ h => h) (Or.inl ⟨by rfl, ?_⟩) (by assumption) ?_
  rotate_left
  · (intro w hSw; refine Eq.trans (kexec_bi hSw 0 _ (by rfl) (by rfl) (by rfl) (by rfl)) ?_; with_reducible rfl)
  try simp only [Act.put, List.setIfInBounds_toArray, List.set_cons_zero, List.set_cons_succ]
  refine wpAnyH_take (i := 12) (oi := ⟨some 18, _, _, _, _, _⟩) (v := ?_) rfl (by kernel_rfl) (by kernel_rfl) (by kernel_rfl) (fun _ _ _ h => h) (Or.inl ⟨by rfl, ?_⟩) (by assumption) ?_
  rotate_left
  · (intro w hSw; (try dsimp only at hSw); go_simp; try with_reducible rfl)
  try simp only [Act.put, List.setIfInBounds_toArray, List.set_cons_zero, List.set_cons_succ]
  refine wpAnyH_take (i := 13) (oi := ⟨some 19, _, _, _, _, _⟩) (v := ?_) rfl (by kernel_rfl) (by kernel_rfl) (by kernel_rfl) (fun _ _ _ h => h) (Or.inl ⟨by rfl, ?_⟩) (by assumption) ?_
  rotate_left
  · (intro w hSw; refine Eq.trans (kexec_bi hSw 1 _ (by rfl) (by rfl) (by rfl) (by rfl)) ?_; with_reducible rfl)
  try simp only [Act.put, List.setIfInBounds_toArray, List.set_cons_zero, List.set_cons_succ]
  refine wpAnyH_take (i := 15) (oi := ⟨some 21, _, _, _, _, _⟩) (v := ?_) rfl (by kernel_rfl) (by kernel_rfl) (by kernel_rfl) (fun _ _ _ h => h) (Or.inl ⟨by rfl, ?_⟩) (by assumption) ?_
  rotate_left
  · (intro w hSw; (try dsimp only at hSw); go_simp; try with_reducible rfl)
  try simp only [Act.put, List.setIfInBounds_toArray, List.set_cons_zero, List.set_cons_succ]
  refine wpAnyH_take (i := 16) (oi := ⟨some 22, _, _, _, _, _⟩) (v := ?_) rfl (by kernel_rfl) (by kernel_rfl) (by kernel_rfl) (fun _ _ _ h => h) (Or.inl ⟨by rfl, ?_⟩) (by assumption) ?_
  rotate_left
  · (intro w hSw; refine Eq.trans (kexec_bs hSw 1 _ (by rfl) (by rfl) (by rfl) (by rfl)) ?_; with_reducible rfl)
  try simp only [Act.put, List.setIfInBounds_toArray, List.set_cons_zero, List.set_cons_succ]
  refine wpAnyH_take (i := 18) (oi := ⟨some 24, _, _, _, _, _⟩) (v := ?_) rfl (by kernel_rfl) (by kernel_rfl) (by kernel_rfl) (fun _ _ _ h => h) (Or.inl ⟨by rfl, ?_⟩) (by assumption) ?_
  rotate_left
  · (intro w hSw; (try dsimp only at hSw); go_simp; try with_reducible rfl)
  try simp only [Act.put, List.setIfInBounds_toArray, List.set_cons_zero, List.set_cons_succ]
  refine wpAnyH_take (i := 19) (oi := ⟨some 25, _, _, _, _, _⟩) (v := ?_) rfl (by kernel_rfl) (by kernel_rfl) (by kernel_rfl) (fun _ _ _ h => h) (Or.inl ⟨by rfl, ?_⟩) (by assumption) ?_
  rotate_left
  · (intro w hSw; refine Eq.trans (kexec_bs hSw 1 _ (by rfl) (by rfl) (by rfl) (by rfl)) ?_; with_reducible rfl)
  try simp only [Act.put, List.setIfInBounds_toArray, List.set_cons_zero, List.set_cons_succ]
  refine wpAnyH_take (i := 22) (oi := ⟨some 28, _, _, _, _, _⟩) (v := ?_) rfl (by kernel_rfl) (by kernel_rfl) (by kernel_rfl) (fun _ _ _ h => h) (Or.inl ⟨by rfl, ?_⟩) (by assumption) ?_
  rotate_left
  · (intro w hSw; (try dsimp only at hSw); go_simp; try with_reducible rfl)
  try simp only [Act.put, List.setIfInBounds_toArray, List.set_cons_zero, List.set_cons_succ]
  refine wpAnyH_take (i := 23) (oi := ⟨some 29, _, _, _, _, _⟩) (v := ?_) rfl (by kernel_rfl) (by kernel_rfl) (by kernel_rfl) (fun _ _ _ h => h) (Or.inl ⟨by rfl, ?_⟩) (by assumption) ?_
  rotate_left
  · (intro w hSw; refine Eq.trans (kexec_va1 hSw 1 _ (by rfl) (by rfl) (by rfl)) ?_; with_reducible rfl)
  try simp only [Act.put, List.setIfInBounds_toArray, List.set_cons_zero, List.set_cons_succ]
  refine wpAnyH_take (i := 25) (oi := ⟨some 31, _, _, _, _, _⟩) (v := ?_) rfl (by kernel_rfl) (by kernel_rfl) (by kernel_rfl) (fun _ _ _ h => h) (Or.inl ⟨by rfl, ?_⟩) (by assumption) ?_
  rotate_left
  · (intro w hSw; (try dsimp only at hSw); go_simp; try with_reducible rfl)
  try simp only [Act.put, List.setIfInBounds_toArray, List.set_cons_zero, List.set_cons_succ]
  refine wpAnyH_take (i := 26) (oi := ⟨some 32, _, _, _, _, _⟩) (v := ?_) rfl (by kernel_rfl) (by kernel_rfl) (by kernel_rfl) (fun _ _ _ h => h) (Or.inl ⟨by rfl, ?_⟩) (by assumption) ?_
  rotate_left
  · (intro w hSw; refine Eq.trans (kexec_ol1 hSw 1 _ (by rfl) (by rfl) (by rfl)) ?_; with_reducible rfl)
  try simp only [Act.put, List.setIfInBounds_toArray, List.set_cons_zero, List.set_cons_succ]
  refine wpAnyH_take (i := 28) (oi := ⟨some 34, _, _, _, _, _⟩) (v := ?_) rfl (by kernel_rfl) (by kernel_rfl) (by kernel_rfl) (fun _ _ _ h => h) (Or.inl ⟨by rfl, ?_⟩) (by assumption) ?_
  rotate_left
  · (intro w hSw; (try dsimp only at hSw); go_simp; try with_reducible rfl)
  try simp only [Act.put, List.setIfInBounds_toArray, List.set_cons_zero, List.set_cons_succ]
  refine wpAnyH_take (i := 29) (oi := ⟨some 35, _, _, _, _, _⟩) (v := ?_) rfl (by kernel_rfl) (by kernel_rfl) (by kernel_rfl) (fun _ _ _ h => h) (Or.inl ⟨by rfl, ?_⟩) (by assumption) ?_
  rotate_left
  · (intro w hSw; refine Eq.trans (kexec_bi hSw 1 _ (by rfl) (by rfl) (by rfl) (by rfl)) ?_; with_reducible rfl)
  try simp only [Act.put, List.setIfInBounds_toArray, List.set_cons_zero, List.set_cons_succ]
  refine wpAnyH_take (i := 31) (oi := ⟨some 37, _, _, _, _, _⟩) (v := ?_) rfl (by kernel_rfl) (by kernel_rfl) (by kernel_rfl) (fun _ _ _ h => h) (Or.inl ⟨by rfl, ?_⟩) (by assumption) ?_
  rotate_left
  · (intro w hSw; (try dsimp only at hSw); go_simp; try with_reducible rfl)
  try simp only [Act.put, List.setIfInBounds_toArray, List.set_cons_zero, List.set_cons_succ]
  refine wpAnyH_take (i := 32) (oi := ⟨some 38, _, _, _, _, _⟩) (v := ?_) rfl (by kernel_rfl) (by kernel_rfl) (by kernel_rfl) (fun _ _ _ h => h) (Or.inl ⟨by rfl, ?_⟩) (by assumption) ?_
  rotate_left
  · (intro w hSw; refine Eq.trans (kexec_bi hSw 1 _ (by rfl) (by rfl) (by rfl) (by rfl)) ?_; with_reducible rfl)
  try simp only [Act.put, List.setIfInBounds_toArray, List.set_cons_zero, List.set_cons_succ]
  refine wpAnyH_ready (rs := [3]) (by kernel_rfl) (by simp) ?_
  refine AllReadyH.cons (o := ⟨some 9, _, _, _, _, _⟩) rfl (fun K hK => ?_) AllReadyH.nil
  go_simp
  go_at_call 34
  refine (HNm.out _ _).mono ?_; rintro e w5 ⟨rfl, b5⟩; have hs := Lib.hid (hHeld.out.call b5); (try replace HR1 := rd_later HR1 b5); (try replace HRv := rd_later HRv b5); (try replace HRo := rd_later HRo b5); clear b5
  refine hK.out _ _ hs (fun hHeld => ?_)
  clear hK K
  try simp only [Act.put, List.setIfInBounds_toArray, List.set_cons_zero, List.set_cons_succ]
  refine wpAnyH_ready (rs := [7]) (by kernel_rfl) (by simp) ?_
  refine AllReadyH.cons (o := ⟨some 13, _, _, _, _, _⟩) rfl (fun K hK => ?_) AllReadyH.nil
  go_simp
  go_at_call 34
  refine (HNm.out _ _).mono ?_; rintro e w5 ⟨rfl, b5⟩; have hs := Lib.hid (hHeld.out.call b5); (try replace HR1 := rd_later HR1 b5); (try replace HRv := rd_later HRv b5); (try replace HRo := rd_later HRo b5); clear b5
  refine hK.out _ _ hs (fun hHeld => ?_)
  clear hK K
  try simp only [Act.put, List.setIfInBounds_toArray, List.set_cons_zero, List.set_cons_succ]
  refine wpAnyH_ready (rs := [11]) (by kernel_rfl) (by simp) ?_
  refine AllReadyH.cons (o := ⟨some 17, _, _, _, _, _⟩) rfl (fun K hK => ?_) AllReadyH.nil
  go_simp
  go_at_call 34
  refine (HNm.out _ _).mono ?_; rintro e w5 ⟨rfl, b5⟩; have hs := Lib.hid (hHeld.out.call b5); (try replace HR1 := rd_later HR1 b5); (try replace HRv := rd_later HRv b5); (try replace HRo := rd_later HRo b5); clear b5
  refine hK.out _ _ hs (fun hHeld => ?_)
  clear hK K
  try simp only [Act.put, List.setIfInBounds_toArray, List.set_cons_zero, List.set_cons_succ]
  refine wpAnyH_ready (rs := [14]) (by kernel_rfl) (by simp) ?_
  refine AllReadyH.cons (o := ⟨some 20, _, _, _, _, _⟩) rfl (fun K hK => ?_) AllReadyH.nil
  go_simp
  go_at_call 34
  refine (HNm.out _ _).mono ?_; rintro e w5 ⟨rfl, b5⟩; have hs := Lib.hid (hHeld.out.call b5); (try replace HR1 := rd_later HR1 b5); (try replace HRv := rd_later HRv b5); (try replace HRo := rd_later HRo b5); clear b5
  refine hK.out _ _ hs (fun hHeld => ?_)
  clear hK K
  try simp only [Act.put, List.setIfInBounds_toArray, List.set_cons_zero, List.set_cons_succ]
  refine wpAnyH_ready (rs := [17]) (by kernel_rfl) (by simp) ?_
  refine AllReadyH.cons (o := ⟨some 23, _, _, _, _, _⟩) rfl (fun K hK => ?_) AllReadyH.nil
  go_simp
  go_at_call 35
  refine (HTx.out _ _).mono ?_; rintro e w5 ⟨rfl, b5⟩; have hs := Lib.hid (hHeld.out.call b5); (try replace HR1 := rd_later HR1 b5); (try replace HRv := rd_later HRv b5); (try replace HRo := rd_later HRo b5); clear b5
  refine hK.out _ _ hs (fun hHeld => ?_)
  clear hK K
  try simp only [Act.put, List.setIfInBounds_toArray, List.set_cons_zero, List.set_cons_succ]
  refine wpAnyH_ready (rs := [20]) (by kernel_rfl) (by simp) ?_
  refine AllReadyH.cons (o := ⟨some 26, _, _, _, _, _⟩) rfl (fun K hK => ?_) AllReadyH.nil
  go_simp
  go_at_call 35
  refine (HTx.out _ _).mono ?_; rintro e w5 ⟨rfl, b5⟩; have hs := Lib.hid (hHeld.out.call b5); (try replace HR1 := rd_later HR1 b5); (try replace HRv := rd_later HRv b5); (try replace HRo := rd_later HRo b5); clear b5
  refine hK.out _ _ hs (fun hHeld => ?_)
  clear hK K
  try simp only [Act.put, List.setIfInBounds_toArray, List.set_cons_zero, List.set_cons_succ]
  refine wpAnyH_ready (rs := [21, 24]) (by kernel_rfl) (by simp) ?_
  refine AllReadyH.cons (o := ⟨some 27, _, _, _, _, _⟩) rfl (fun K hK => ?_) (AllReadyH.cons (o := ⟨some 30, _, _, _, _, _⟩) rfl (fun K hK => ?_) AllReadyH.nil)
  go_simp; have b5 := (Below.refl w5.heap.size w5).alloc (Nat.le_refl _) (.cells (itemLay.flat [⟨0, c, ⟨#[]⟩⟩, ⟨0, ep, ⟨#[]⟩⟩, ⟨0, r, ⟨#[]⟩⟩, ⟨0, k, ⟨#[]⟩⟩, ⟨1, 0, name⟩, ⟨1, 0, key⟩]).toArray itemLay.e); have hs := Lib.hid (hHeld.out.call b5); (try replace HRv := rd_later HRv b5); (try replace HRo := rd_later HRo b5); (try replace HR2 := rd_later HR2 b5); have HR1 := rd_new w5 [⟨0, c, ⟨#[]⟩⟩, ⟨0, ep, ⟨#[]⟩⟩, ⟨0, r, ⟨#[]⟩⟩, ⟨0, k, ⟨#[]⟩⟩, ⟨1, 0, name⟩, ⟨1, 0, key⟩] _ rfl; clear b5; obtain ⟨A1, hA1⟩ : ∃ A : Option Addr, A = some ⟨w5.heap.size, 0, none⟩ := ⟨_, rfl⟩; rw [← hA1] at HR1 ⊢; clear hA1; change K _ (w5.alloc (.cells (itemLay.flat [⟨0, c, ⟨#[]⟩⟩, ⟨0, ep, ⟨#[]⟩⟩, ⟨0, r, ⟨#[]⟩⟩, ⟨0, k, ⟨#[]⟩⟩, ⟨1, 0, name⟩, ⟨1, 0, key⟩]).toArray itemLay.e)); generalize w5.alloc (.cells (itemLay.flat [⟨0, c, ⟨#[]⟩⟩, ⟨0, ep, ⟨#[]⟩⟩, ⟨0, r, ⟨#[]⟩⟩, ⟨0, k, ⟨#[]⟩⟩, ⟨1, 0, name⟩, ⟨1, 0, key⟩]).toArray itemLay.e) = w5 at *
  refine hK.out _ _ hs (fun hHeld => ?_)
  clear hK K
  try simp only [Act.put, List.setIfInBounds_toArray, List.set_cons_zero, List.set_cons_succ]
  refine wpAnyH_ready (rs := [24]) (by kernel_rfl) (by simp) ?_
  refine AllReadyH.cons (o := ⟨some 30, _, _, _, _, _⟩) rfl (fun K hK => ?_) AllReadyH.nil
  go_simp
  go_at_call 36
  refine (HIv.out _).mono ?_; rintro e w5 ⟨Av, cv, rfl, o5, b5⟩; have hs := Lib.hid (hHeld.out.call b5); (try replace HR1 := rd_later HR1 b5); have HRv := Lib.hid (own_some o5); clear b5 o5
  refine hK.out _ _ hs (fun hHeld => ?_)
  clear hK K
  try simp only [Act.put, List.setIfInBounds_toArray, List.set_cons_zero, List.set_cons_succ]
  refine wpAnyH_ready (rs := [27]) (by kernel_rfl) (by simp) ?_
  refine AllReadyH.cons (o := ⟨some 33, _, _, _, _, _⟩) rfl (fun K hK => ?_) AllReadyH.nil
  go_simp
  go_at_call 36
  refine (HIo.out _).mono ?_; rintro e w5 ⟨Ao, co, rfl, o5, b5⟩; have hs := Lib.hid (hHeld.out.call b5); (try replace HR1 := rd_later HR1 b5); (try replace HRv := rd_later HRv b5); have HRo := Lib.hid (own_some o5); clear b5 o5
  refine hK.out _ _ hs (fun hHeld => ?_)
  clear hK K
  try simp only [Act.put, List.setIfInBounds_toArray, List.set_cons_zero, List.set_cons_succ]
  refine wpAnyH_ready (rs := [30]) (by kernel_rfl) (by simp) ?_
  refine AllReadyH.cons (o := ⟨some 36, _, _, _, _, _⟩) rfl (fun K hK => ?_) AllReadyH.nil
  go_simp
  go_at_call 34
  refine (HNm.out _ _).mono ?_; rintro e w5 ⟨rfl, b5⟩; have hs := Lib.hid (hHeld.out.call b5); (try replace HR1 := rd_later HR1 b5); (try replace HRv := rd_later HRv b5); (try replace HRo := rd_later HRo b5); clear b5
  refine hK.out _ _ hs (fun hHeld => ?_)
  clear hK K
  try simp only [Act.put, List.setIfInBounds_toArray, List.set_cons_zero, List.set_cons_succ]
  refine wpAnyH_ready (rs := [33]) (by kernel_rfl) (by simp) ?_
  refine AllReadyH.cons (o := ⟨some 39, _, _, _, _, _⟩) rfl (fun K hK => ?_) AllReadyH.nil
  go_simp
  go_at_call 34
  refine (HNm.out _ _).mono ?_; rintro e w5 ⟨rfl, b5⟩; have hs := Lib.hid (hHeld.out.call b5); (try replace HR1 := rd_later HR1 b5); (try replace HRv := rd_later HRv b5); (try replace HRo := rd_later HRo b5); clear b5
  refine hK.out _ _ hs (fun hHeld => ?_)
  clear hK K
  try simp only [Act.put, List.setIfInBounds_toArray, List.set_cons_zero, List.set_cons_succ]
  refine wpAnyH_ready (rs := [34]) (by kernel_rfl) (by simp) ?_
  refine AllReadyH.cons (o := ⟨some 40, _, _, _, _, _⟩) rfl (fun K hK => ?_) AllReadyH.nil
  go_simp; have b5 := (Below.refl w5.heap.size w5).alloc (Nat.le_refl _) (.cells (itemLay.flat [⟨0, n, ⟨#[]⟩⟩, ⟨0, m, ⟨#[]⟩⟩]).toArray itemLay.e); have hs := Lib.hid (hHeld.out.call b5); (try replace HR1 := rd_later HR1 b5); (try replace HRv := rd_later HRv b5); (try replace HRo := rd_later HRo b5); have HR2 := rd_new w5 [⟨0, n, ⟨#[]⟩⟩, ⟨0, m, ⟨#[]⟩⟩] _ rfl; clear b5; obtain ⟨A2, hA2⟩ : ∃ A : Option Addr, A = some ⟨w5.heap.size, 0, none⟩ := ⟨_, rfl⟩; rw [← hA2] at HR2 ⊢; clear hA2; change K _ (w5.alloc (.cells (itemLay.flat [⟨0, n, ⟨#[]⟩⟩, ⟨0, m, ⟨#[]⟩⟩]).toArray itemLay.e)); generalize w5.alloc (.cells (itemLay.flat [⟨0, n, ⟨#[]⟩⟩, ⟨0, m, ⟨#[]⟩⟩]).toArray itemLay.e) = w5 at *
  refine hK.out _ _ hs (fun hHeld => ?_)
  clear hK K
  try simp only [Act.put, List.setIfInBounds_toArray, List.set_cons_zero, List.set_cons_succ]
  refine wpAnyH_ready (rs := [35]) (by kernel_rfl) (by simp) ?_
  refine AllReadyH.cons (o := ⟨some 41, _, _, _, _, _⟩) rfl (fun K hK => ?_) AllReadyH.nil
  go_simp; have hs := Lib.hid (hHeld.out.allocO (.cells #[.slice A1 6 6, .slice Av lv.length cv, .slice Ao lo.length co, .slice A2 2 2] 38))
  refine hK.out _ _ hs (fun hHeld => ?_)
  clear hK K
  try simp only [Act.put, List.setIfInBounds_toArray, List.set_cons_zero, List.set_cons_succ]
  refine wpAnyH_ready (rs := [36]) (by kernel_rfl) (by simp) ?_
  refine AllReadyH.cons (o := ⟨some 42, _, _, _, _, _⟩) rfl (fun K hK => ?_) AllReadyH.nil
  go_simp
  go_at_call 33
  refine (HCat.out _ _ _ _ _ _ _ _ rfl HR1.out HRv.out HRo.out HR2.out).mono ?_; rintro e w6 ⟨A6, c6, rfl, o6, b6⟩; have ho6 := Lib.hid (Lay.Own.mono o6 hHeld.out.m); have hs := Lib.hid (hHeld.out.call b6); clear o6 b6
  refine hK.out _ _ hs (fun hHeld => ?_)
  clear hK K
  try simp only [Act.put, List.setIfInBounds_toArray, List.set_cons_zero, List.set_cons_succ]
  refine wpAnyH_take (i := 37) (oi := ⟨some 2, _, _, _, _, _⟩) (v := ?_) rfl (by kernel_rfl) (by kernel_rfl) (by kernel_rfl) (fun _ _ _ h => h) (Or.inl ⟨by rfl, ?_⟩) (by assumption) ?_
  rotate_left
  · (intro w hSw; (try dsimp only at hSw); go_simp; try with_reducible rfl)
  try simp only [Act.put, List.setIfInBounds_toArray, List.set_cons_zero, List.set_cons_succ]
  refine wpAnyH_done (by kernel_rfl) ?_ _
  rotate_left
  go_simp
  go_at_call 36
  refine (HIv.out _).mono ?_; rintro e w5 ⟨Av, cv, rfl, o5, b5⟩; have hs := Lib.hid (hHeld.out.call b5); (try replace HR1 := rd_later HR1 b5); have HRv := Lib.hid (own_some o5); clear b5 o5
  refine hK.out _ _ hs (fun hHeld => ?_)
  clear hK K
  try simp only [Act.put, List.setIfInBounds_toArray, List.set_cons_zero, List.set_cons_succ]
  refine wpAnyH_ready (rs := [21, 27]) (by kernel_rfl) (by simp) ?_
  refine AllReadyH.cons (o := ⟨some 27, _, _, _, _, _⟩) rfl (fun K hK => ?_) (AllReadyH.cons (o := ⟨some 33, _, _, _, _, _⟩) rfl (fun K hK => ?_) AllReadyH.nil)
  go_simp; have b5 := (Below.refl w5.heap.size w5).alloc (Nat.le_refl _) (.cells (itemLay.flat [⟨0, c, ⟨#[]⟩⟩, ⟨0, ep, ⟨#[]⟩⟩, ⟨0, r, ⟨#[]⟩⟩, ⟨0, k, ⟨#[]⟩⟩, ⟨1, 0, name⟩, ⟨1, 0, key⟩]).toArray itemLay.e); have hs := Lib.hid (hHeld.out.call b5); (try replace HRv := rd_later HRv b5); (try replace HRo := rd_later HRo b5); (try replace HR2 := rd_later HR2 b5); have HR1 := rd_new w5 [⟨0, c, ⟨#[]⟩⟩, ⟨0, ep, ⟨#[]⟩⟩, ⟨0, r, ⟨#[]⟩⟩, ⟨0, k, ⟨#[]⟩⟩, ⟨1, 0, name⟩, ⟨1, 0, key⟩] _ rfl; clear b5; obtain ⟨A1, hA1⟩ : ∃ A : Option Addr, A = some ⟨w5.heap.size, 0, none⟩ := ⟨_, rfl⟩; rw [← hA1] at HR1 ⊢; clear hA1; change K _ (w5.alloc (.cells (itemLay.flat [⟨0, c, ⟨#[]⟩⟩, ⟨0, ep, ⟨#[]⟩⟩, ⟨0, r, ⟨#[]⟩⟩, ⟨0, k, ⟨#[]⟩⟩, ⟨1, 0, name⟩, ⟨1, 0, key⟩]).toArray itemLay.e)); generalize w5.alloc (.cells (itemLay.flat [⟨0, c, ⟨#[]⟩⟩, ⟨0, ep, ⟨#[]⟩⟩, ⟨0, r, ⟨#[]⟩⟩, ⟨0, k, ⟨#[]⟩⟩, ⟨1, 0, name⟩, ⟨1, 0, key⟩]).toArray itemLay.e) = w5 at *
  refine hK.out _ _ hs (fun hHeld => ?_)
  clear hK K
  try simp only [Act.put, List.setIfInBounds_toArray, List.set_cons_zero, List.set_cons_succ]
  refine wpAnyH_ready (rs := [27]) (by kernel_rfl) (by simp) ?_
  refine AllReadyH.cons (o := ⟨some 33, _, _, _, _, _⟩) rfl (fun K hK => ?_) AllReadyH.nil
  go_simp
  go_at_call 36
  refine (HIo.out _).mono ?_; rintro e w5 ⟨Ao, co, rfl, o5, b5⟩; have hs := Lib.hid (hHeld.out.call b5); (try replace HR1 := rd_later HR1 b5); (try replace HRv := rd_later HRv b5); have HRo := Lib.hid (own_some o5); clear b5 o5
  refine hK.out _ _ hs (fun hHeld => ?_)
  clear hK K
  try simp only [Act.put, List.setIfInBounds_toArray, List.set_cons_zero, List.set_cons_succ]
  refine wpAnyH_ready (rs := [30]) (by kernel_rfl) (by simp) ?_
  refine AllReadyH.cons (o := ⟨some 36, _, _, _, _, _⟩) rfl (fun K hK => ?_) AllReadyH.nil
  go_simp
  go_at_call 34
  refine (HNm.out _ _).mono ?_; rintro e w5 ⟨rfl, b5⟩; have hs := Lib.hid (hHeld.out.call b5); (try replace HR1 := rd_later HR1 b5); (try replace HRv := rd_later HRv b5); (try replace HRo := rd_later HRo b5); clear b5
  refine hK.out _ _ hs (fun hHeld => ?_)
  clear hK K
  try simp only [Act.put, List.setIfInBounds_toArray, List.set_cons_zero, List.set_cons_succ]
  refine wpAnyH_ready (rs := [33]) (by kernel_rfl) (by simp) ?_
  refine AllReadyH.cons (o := ⟨some 39, _, _, _, _, _⟩) rfl (fun K hK => ?_) AllReadyH.nil
  go_simp
  go_at_call 34
  refine (HNm.out _ _).mono ?_; rintro e w5 ⟨rfl, b5⟩; have hs := Lib.hid (hHeld.out.call b5); (try replace HR1 := rd_later HR1 b5); (try replace HRv := rd_later HRv b5); (try replace HRo := rd_later HRo b5); clear b5
  refine hK.out _ _ hs (fun hHeld => ?_)
  clear hK K
  try simp only [Act.put, List.setIfInBounds_toArray, List.set_cons_zero, List.set_cons_succ]
  refine wpAnyH_ready (rs := [34]) (by kernel_rfl) (by simp) ?_
  refine AllReadyH.cons (o := ⟨some 40, _, _, _, _, _⟩) rfl (fun K hK => ?_) AllReadyH.nil
  go_simp; have b5 := (Below.refl w5.heap.size w5).alloc (Nat.le_refl _) (.cells (itemLay.flat [⟨0, n, ⟨#[]⟩⟩, ⟨0, m, ⟨#[]⟩⟩]).toArray itemLay.e); have hs := Lib.hid (hHeld.out.call b5); (try replace HR1 := rd_later HR1 b5); (try replace HRv := rd_later HRv b5); (try replace HRo := rd_later HRo b5); have HR2 := rd_new w5 [⟨0, n, ⟨#[]⟩⟩, ⟨0, m, ⟨#[]⟩⟩] _ rfl; clear b5; obtain ⟨A2, hA2⟩ : ∃ A : Option Addr, A = some ⟨w5.heap.size, 0, none⟩ := ⟨_, rfl⟩; rw [← hA2] at HR2 ⊢; clear hA2; change K _ (w5.alloc (.cells (itemLay.flat [⟨0, n, ⟨#[]⟩⟩, ⟨0, m, ⟨#[]⟩⟩]).toArray itemLay.e)); generalize w5.alloc (.cells (itemLay.flat [⟨0, n, ⟨#[]⟩⟩, ⟨0, m, ⟨#[]⟩⟩]).toArray itemLay.e) = w5 at *
  refine hK.out _ _ hs (fun hHeld => ?_)
  clear hK K
  try simp only [Act.put, List.setIfInBounds_toArray, List.set_cons_zero, List.set_cons_succ]
  refine wpAnyH_ready (rs := [35]) (by kernel_rfl) (by simp) ?_
  refine AllReadyH.cons (o := ⟨some 41, _, _, _, _, _⟩) rfl (fun K hK => ?_) AllReadyH.nil
  go_simp; have hs := Lib.hid (hHeld.out.allocO (.cells #[.slice A1 6 6, .slice Av lv.length cv, .slice Ao lo.length co, .slice A2 2 2] 38))
  refine hK.out _ _ hs (fun hHeld => ?_)
  clear hK K
  try simp only [Act.put, List.setIfInBounds_toArray, List.set_cons_zero, List.set_cons_succ]
  refine wpAnyH_ready (rs := [36]) (by kernel_rfl) (by simp) ?_
  refine AllReadyH.cons (o := ⟨some 42, _, _, _, _, _⟩) rfl (fun K hK => ?_) AllReadyH.nil
  go_simp
  go_at_call 33
  refine (HCat.out _ _ _ _ _ _ _ _ rfl HR1.out HRv.out HRo.out HR2.out).mono ?_; rintro e w6 ⟨A6, c6, rfl, o6, b6⟩; have ho6 := Lib.hid (Lay.Own.mono o6 hHeld.out.m); have hs := Lib.hid (hHeld.out.call b6); clear o6 b6
  refine hK.out _ _ hs (fun hHeld => ?_)
  clear hK K
  try simp only [Act.put, List.setIfInBounds_toArray, List.set_cons_zero, List.set_cons_succ]
  refine wpAnyH_take (i := 37) (oi := ⟨some 2, _, _, _, _, _⟩) (v := ?_) rfl (by kernel_rfl) (by kernel_rfl) (by kernel_rfl) (fun _ _ _ h => h) (Or.inl ⟨by rfl, ?_⟩) (by assumption) ?_
  rotate_left
  · (intro w hSw; (try dsimp only at hSw); go_simp; try with_reducible rfl)
  try simp only [Act.put, List.setIfInBounds_toArray, List.set_cons_zero, List.set_cons_succ]
  refine wpAnyH_done (by kernel_rfl) ?_ _
  rotate_left
  go_simp
  go_at_call 36
  refine (HIo.out _).mono ?_; rintro e w5 ⟨Ao, co, rfl, o5, b5⟩; have hs := Lib.hid (hHeld.out.call b5); (try replace HR1 := rd_later HR1 b5); (try replace HRv := rd_later HRv b5); have HRo := Lib.hid (own_some o5); clear b5 o5
  refine hK.out _ _ hs (fun hHeld => ?_)
  clear hK K
  try simp only [Act.put, List.setIfInBounds_toArray, List.set_cons_zero, List.set_cons_succ]
  refine wpAnyH_ready (rs := [21, 30]) (by kernel_rfl) (by simp) ?_
  refine AllReadyH.cons (o := ⟨some 27, _, _, _, _, _⟩) rfl (fun K hK => ?_) (AllReadyH.cons (o := ⟨some 36, _, _, _, _, _⟩) rfl (fun K hK => ?_) AllReadyH.nil)
  go_simp; have b5 := (Below.refl w5.heap.size w5).alloc (Nat.le_refl _) (.cells (itemLay.flat [⟨0, c, ⟨#[]⟩⟩, ⟨0, ep, ⟨#[]⟩⟩, ⟨0, r, ⟨#[]⟩⟩, ⟨0, k, ⟨#[]⟩⟩, ⟨1, 0, name⟩, ⟨1, 0, key⟩]).toArray itemLay.e); have hs := Lib.hid (hHeld.out.call b5); (try replace HRv := rd_later HRv b5); (try replace HRo := rd_later HRo b5); (try replace HR2 := rd_later HR2 b5); have HR1 := rd_new w5 [⟨0, c, ⟨#[]⟩⟩, ⟨0, ep, ⟨#[]⟩⟩, ⟨0, r, ⟨#[]⟩⟩, ⟨0, k, ⟨#[]⟩⟩, ⟨1, 0, name⟩, ⟨1, 0, key⟩] _ rfl; clear b5; obtain ⟨A1, hA1⟩ : ∃ A : Option Addr, A = some ⟨w5.heap.size, 0, none⟩ := ⟨_, rfl⟩; rw [← hA1] at HR1 ⊢; clear hA1; change K _ (w5.alloc (.cells (itemLay.flat [⟨0, c, ⟨#[]⟩⟩, ⟨0, ep, ⟨#[]⟩⟩, ⟨0, r, ⟨#[]⟩⟩, ⟨0, k, ⟨#[]⟩⟩, ⟨1, 0, name⟩, ⟨1, 0, key⟩]).toArray itemLay.e)); generalize w5.alloc (.cells (itemLay.flat [⟨0, c, ⟨#[]⟩⟩, ⟨0, ep, ⟨#[]⟩⟩, ⟨0, r, ⟨#[]⟩⟩, ⟨0, k, ⟨#[]⟩⟩, ⟨1, 0, name⟩, ⟨1, 0, key⟩]).toArray itemLay.e) = w5 at *
  refine hK.out _ _ hs (fun hHeld => ?_)
  clear hK K
  try simp only [Act.put, List.setIfInBounds_toArray, List.set_cons_zero, List.set_cons_succ]
  refine wpAnyH_ready (rs := [30]) (by kernel_rfl) (by simp) ?_
  refine AllReadyH.cons (o := ⟨some 36, _, _, _, _, _⟩) rfl (fun K hK => ?_) AllReadyH.nil
  go_simp
  go_at_call 34
  refine (HNm.out _ _).mono ?_; rintro e w5 ⟨rfl, b5⟩; have hs := Lib.hid (hHeld.out.call b5); (try replace HR1 := rd_later HR1 b5); (try replace HRv := rd_later HRv b5); (try replace HRo := rd_later HRo b5); clear b5
  refine hK.out _ _ hs (fun hHeld => ?_)
  clear hK K
  try simp only [Act.put, List.setIfInBounds_toArray, List.set_cons_zero, List.set_cons_succ]
  refine wpAnyH_ready (rs := [33]) (by kernel_rfl) (by simp) ?_
  refine AllReadyH.cons (o := ⟨some 39, _, _, _, _, _⟩) rfl (fun K hK => ?_) AllReadyH.nil
  go_simp
  go_at_call 34
  refine (HNm.out _ _).mono ?_; rintro e w5 ⟨rfl, b5⟩; have hs := Lib.hid (hHeld.out.call b5); (try replace HR1 := rd_later HR1 b5); (try replace HRv := rd_later HRv b5); (try replace HRo := rd_later HRo b5); clear b5
  refine hK.out _ _ hs (fun hHeld => ?_)
  clear hK K
  try simp only [Act.put, List.setIfInBounds_toArray, List.set_cons_zero, List.set_cons_succ]
  refine wpAnyH_ready (rs := [34]) (by kernel_rfl) (by simp) ?_
  refine AllReadyH.cons (o := ⟨some 40, _, _, _, _, _⟩) rfl (fun K hK => ?_) AllReadyH.nil
  go_simp; have b5 := (Below.refl w5.heap.size w5).alloc (Nat.le_refl _) (.cells (itemLay.flat [⟨0, n, ⟨#[]⟩⟩, ⟨0, m, ⟨#[]⟩⟩]).toArray itemLay.e); have hs := Lib.hid (hHeld.out.call b5); (try replace HR1 := rd_later HR1 b5); (try replace HRv := rd_later HRv b5); (try replace HRo := rd_later HRo b5); have HR2 := rd_new w5 [⟨0, n, ⟨#[]⟩⟩, ⟨0, m, ⟨#[]⟩⟩] _ rfl; clear b5; obtain ⟨A2, hA2⟩ : ∃ A : Option Addr, A = some ⟨w5.heap.size, 0, none⟩ := ⟨_, rfl⟩; rw [← hA2] at HR2 ⊢; clear hA2; change K _ (w5.alloc (.cells (itemLay.flat [⟨0, n, ⟨#[]⟩⟩, ⟨0, m, ⟨#[]⟩⟩]).toArray itemLay.e)); generalize w5.alloc (.cells (itemLay.flat [⟨0, n, ⟨#[]⟩⟩, ⟨0, m, ⟨#[]⟩⟩]).toArray itemLay.e) = w5 at *
  refine hK.out _ _ hs (fun hHeld => ?_)
  clear hK K
  try simp only [Act.put, List.setIfInBounds_toArray, List.set_cons_zero, List.set_cons_succ]
  refine wpAnyH_ready (rs := [35]) (by kernel_rfl) (by simp) ?_
  refine AllReadyH.cons (o := ⟨some 41, _, _, _, _, _⟩) rfl (fun K hK => ?_) AllReadyH.nil
  go_simp; have hs := Lib.hid (hHeld.out.allocO (.cells #[.slice A1 6 6, .slice Av lv.length cv, .slice Ao lo.length co, .slice A2 2 2] 38))
  refine hK.out _ _ hs (fun hHeld => ?_)
  clear hK K
  try simp only [Act.put, List.setIfInBounds_toArray, List.set_cons_zero, List.set_cons_succ]
  refine wpAnyH_ready (rs := [36]) (by kernel_rfl) (by simp) ?_
  refine AllReadyH.cons (o := ⟨some 42, _, _, _, _, _⟩) rfl (fun K hK => ?_) AllReadyH.nil
  go_simp
  go_at_call 33
  refine (HCat.out _ _ _ _ _ _ _ _ rfl HR1.out HRv.out HRo.out HR2.out).mono ?_; rintro e w6 ⟨A6, c6, rfl, o6, b6⟩; have ho6 := Lib.hid (Lay.Own.mono o6 hHeld.out.m); have hs := Lib.hid (hHeld.out.call b6); clear o6 b6
  refine hK.out _ _ hs (fun hHeld => ?_)
  clear hK K
  try simp only [Act.put, List.setIfInBounds_toArray, List.set_cons_zero, List.set_cons_succ]
  refine wpAnyH_take (i := 37) (oi := ⟨some 2, _, _, _, _, _⟩) (v := ?_) rfl (by kernel_rfl) (by kernel_rfl) (by kernel_rfl) (fun _ _ _ h => h) (Or.inl ⟨by rfl, ?_⟩) (by assumption) ?_
  rotate_left
  · (intro w hSw; (try dsimp only at hSw); go_simp; try with_reducible rfl)
  try simp only [Act.put, List.setIfInBounds_toArray, List.set_cons_zero, List.set_cons_succ]
  refine wpAnyH_done (by kernel_rfl) ?_ _
  rotate_left
  go_simp
  go_at_call 34
  refine (HNm.out _ _).mono ?_; rintro e w5 ⟨rfl, b5⟩; have hs := Lib.hid (hHeld.out.call b5); (try replace HR1 := rd_later HR1 b5); (try replace HRv := rd_later HRv b5); (try replace HRo := rd_later HRo b5); clear b5
  refine hK.out _ _ hs (fun hHeld => ?_)
  clear hK K
  try simp only [Act.put, List.setIfInBounds_toArray, List.set_cons_zero, List.set_cons_succ]
  refine wpAnyH_ready (rs := [21, 33]) (by kernel_rfl) (by simp) ?_
  refine AllReadyH.cons (o := ⟨some 27, _, _, _, _, _⟩) rfl (fun K hK => ?_) (AllReadyH.cons (o := ⟨some 39, _, _, _, _, _⟩) rfl (fun K hK => ?_) AllReadyH.nil)
  go_simp; have b5 := (Below.refl w5.heap.size w5).alloc (Nat.le_refl _) (.cells (itemLay.flat [⟨0, c, ⟨#[]⟩⟩, ⟨0, ep, ⟨#[]⟩⟩, ⟨0, r, ⟨#[]⟩⟩, ⟨0, k, ⟨#[]⟩⟩, ⟨1, 0, name⟩, ⟨1, 0, key⟩]).toArray itemLay.e); have hs := Lib.hid (hHeld.out.call b5); (try replace HRv := rd_later HRv b5); (try replace HRo := rd_later HRo b5); (try replace HR2 := rd_later HR2 b5); have HR1 := rd_new w5 [⟨0, c, ⟨#[]⟩⟩, ⟨0, ep, ⟨#[]⟩⟩, ⟨0, r, ⟨#[]⟩⟩, ⟨0, k, ⟨#[]⟩⟩, ⟨1, 0, name⟩, ⟨1, 0, key⟩] _ rfl; clear b5; obtain ⟨A1, hA1⟩ : ∃ A : Option Addr, A = some ⟨w5.heap.size, 0, none⟩ := ⟨_, rfl⟩; rw [← hA1] at HR1 ⊢; clear hA1; change K _ (w5.alloc (.cells (itemLay.flat [⟨0, c, ⟨#[]⟩⟩, ⟨0, ep, ⟨#[]⟩⟩, ⟨0, r, ⟨#[]⟩⟩, ⟨0, k, ⟨#[]⟩⟩, ⟨1, 0, name⟩, ⟨1, 0, key⟩]).toArray itemLay.e)); generalize w5.alloc (.cells (itemLay.flat [⟨0, c, ⟨#[]⟩⟩, ⟨0, ep, ⟨#[]⟩⟩, ⟨0, r, ⟨#[]⟩⟩, ⟨0, k, ⟨#[]⟩⟩, ⟨1, 0, name⟩, ⟨1, 0, key⟩]).toArray itemLay.e) = w5 at *
  refine hK.out _ _ hs (fun hHeld => ?_)
  clear hK K
  try simp only [Act.put, List.setIfInBounds_toArray, List.set_cons_zero, List.set_cons_succ]
  refine wpAnyH_ready (rs := [33]) (by kernel_rfl) (by simp) ?_
  refine AllReadyH.cons (o := ⟨some 39, _, _, _, _, _⟩) rfl (fun K hK => ?_) AllReadyH.nil
  go_simp
  go_at_call 34
  refine (HNm.out _ _).mono ?_; rintro e w5 ⟨rfl, b5⟩; have hs := Lib.hid (hHeld.out.call b5); (try replace HR1 := rd_later HR1 b5); (try replace HRv := rd_later HRv b5); (try replace HRo := rd_later HRo b5); clear b5
  refine hK.out _ _ hs (fun hHeld => ?_)
  clear hK K
  try simp only [Act.put, List.setIfInBounds_toArray, List.set_cons_zero, List.set_cons_succ]
  refine wpAnyH_ready (rs := [34]) (by kernel_rfl) (by simp) ?_
  refine AllReadyH.cons (o := ⟨some 40, _, _, _, _, _⟩) rfl (fun K hK => ?_) AllReadyH.nil
  go_simp; have b5 := (Below.refl w5.heap.size w5).alloc (Nat.le_refl _) (.cells (itemLay.flat [⟨0, n, ⟨#[]⟩⟩, ⟨0, m, ⟨#[]⟩⟩]).toArray itemLay.e); have hs := Lib.hid (hHeld.out.call b5); (try replace HR1 := rd_later HR1 b5); (try replace HRv := rd_later HRv b5); (try replace HRo := rd_later HRo b5); have HR2 := rd_new w5 [⟨0, n, ⟨#[]⟩⟩, ⟨0, m, ⟨#[]⟩⟩] _ rfl; clear b5; obtain ⟨A2, hA2⟩ : ∃ A : Option Addr, A = some ⟨w5.heap.size, 0, none⟩ := ⟨_, rfl⟩; rw [← hA2] at HR2 ⊢; clear hA2; change K _ (w5.alloc (.cells (itemLay.flat [⟨0, n, ⟨#[]⟩⟩, ⟨0, m, ⟨#[]⟩⟩]).toArray itemLay.e)); generalize w5.alloc (.cells (itemLay.flat [⟨0, n, ⟨#[]⟩⟩, ⟨0, m, ⟨#[]⟩⟩]).toArray itemLay.e) = w5 at *
  refine hK.out _ _ hs (fun hHeld => ?_)
  clear hK K
  try simp only [Act.put, List.setIfInBounds_toArray, List.set_cons_zero, List.set_cons_succ]
  refine wpAnyH_ready (rs := [35]) (by kernel_rfl) (by simp) ?_
  refine AllReadyH.cons (o := ⟨some 41, _, _, _, _, _⟩) rfl (fun K hK => ?_) AllReadyH.nil
  go_simp; have hs := Lib.hid (hHeld.out.allocO (.cells #[.slice A1 6 6, .slice Av lv.length cv, .slice Ao lo.length co, .slice A2 2 2] 38))
  refine hK.out _ _ hs (fun hHeld => ?_)
  clear hK K
  try simp only [Act.put, List.setIfInBounds_toArray, List.set_cons_zero, List.set_cons_succ]
  refine wpAnyH_ready (rs := [36]) (by kernel_rfl) (by simp) ?_
  refine AllReadyH.cons (o := ⟨some 42, _, _, _, _, _⟩) rfl (fun K hK => ?_) AllReadyH.nil
  go_simp
  go_at_call 33
  refine (HCat.out _ _ _ _ _ _ _ _ rfl HR1.out HRv.out HRo.out HR2.out).mono ?_; rintro e w6 ⟨A6, c6, rfl, o6, b6⟩; have ho6 := Lib.hid (Lay.Own.mono o6 hHeld.out.m); have hs := Lib.hid (hHeld.out.call b6); clear o6 b6
  refine hK.out _ _ hs (fun hHeld => ?_)
  clear hK K
  try simp only [Act.put, List.setIfInBounds_toArray, List.set_cons_zero, List.set_cons_succ]
  refine wpAnyH_take (i := 37) (oi := ⟨some 2, _, _, _, _, _⟩) (v := ?_) rfl (by kernel_rfl) (by kernel_rfl) (by kernel_rfl) (fun _ _ _ h => h) (Or.inl ⟨by rfl, ?_⟩) (by assumption) ?_
  rotate_left
  · (intro w hSw; (try dsimp only at hSw); go_simp; try with_reducible rfl)
  try simp only [Act.put, List.setIfInBounds_toArray, List.set_cons_zero, List.set_cons_succ]
  refine wpAnyH_done (by kernel_rfl) ?_ _
  rotate_left
  go_simp
  go_at_call 34
  refine (HNm.out _ _).mono ?_; rintro e w5 ⟨rfl, b5⟩; have hs := Lib.hid (hHeld.out.call b5); (try replace HR1 := rd_later HR1 b5); (try replace HRv := rd_later HRv b5); (try replace HRo := rd_later HRo b5); clear b5
  refine hK.out _ _ hs (fun hHeld => ?_)
  clear hK K
  try simp only [Act.put, List.setIfInBounds_toArray, List.set_cons_zero, List.set_cons_succ]
  refine wpAnyH_ready (rs := [21, 34]) (by kernel_rfl) (by simp) ?_
  refine AllReadyH.cons (o := ⟨some 27, _, _, _, _, _⟩) rfl (fun K hK => ?_) (AllReadyH.cons (o := ⟨some 40, _, _, _, _, _⟩) rfl (fun K hK => ?_) AllReadyH.nil)
  go_simp; have b5 := (Below.refl w5.heap.size w5).alloc (Nat.le_refl _) (.cells (itemLay.flat [⟨0, c, ⟨#[]⟩⟩, ⟨0, ep, ⟨#[]⟩⟩, ⟨0, r, ⟨#[]⟩⟩, ⟨0, k, ⟨#[]⟩⟩, ⟨1, 0, name⟩, ⟨1, 0, key⟩]).toArray itemLay.e); have hs := Lib.hid (hHeld.out.call b5); (try replace HRv := rd_later HRv b5); (try replace HRo := rd_later HRo b5); (try replace HR2 := rd_later HR2 b5); have HR1 := rd_new w5 [⟨0, c, ⟨#[]⟩⟩, ⟨0, ep, ⟨#[]⟩⟩, ⟨0, r, ⟨#[]⟩⟩, ⟨0, k, ⟨#[]⟩⟩, ⟨1, 0, name⟩, ⟨1, 0, key⟩] _ rfl; clear b5; obtain ⟨A1, hA1⟩ : ∃ A : Option Addr, A = some ⟨w5.heap.size, 0, none⟩ := ⟨_, rfl⟩; rw [← hA1] at HR1 ⊢; clear hA1; change K _ (w5.alloc (.cells (itemLay.flat [⟨0, c, ⟨#[]⟩⟩, ⟨0, ep, ⟨#[]⟩⟩, ⟨0, r, ⟨#[]⟩⟩, ⟨0, k, ⟨#[]⟩⟩, ⟨1, 0, name⟩, ⟨1, 0, key⟩]).toArray itemLay.e)); generalize w5.alloc (.cells (itemLay.flat [⟨0, c, ⟨#[]⟩⟩, ⟨0, ep, ⟨#[]⟩⟩, ⟨0, r, ⟨#[]⟩⟩, ⟨0, k, ⟨#[]⟩⟩, ⟨1, 0, name⟩, ⟨1, 0, key⟩]).toArray itemLay.e) = w5 at *
  refine hK.out _ _ hs (fun hHeld => ?_)
  clear hK K
  try simp only [Act.put, List.setIfInBounds_toArray, List.set_cons_zero, List.set_cons_succ]
  refine wpAnyH_ready (rs := [34]) (by kernel_rfl) (by simp) ?_
  refine AllReadyH.cons (o := ⟨some 40, _, _, _, _, _⟩) rfl (fun K hK => ?_) AllReadyH.nil
  go_simp; have b5 := (Below.refl w5.heap.size w5).alloc (Nat.le_refl _) (.cells (itemLay.flat [⟨0, n, ⟨#[]⟩⟩, ⟨0, m, ⟨#[]⟩⟩]).toArray itemLay.e); have hs := Lib.hid (hHeld.out.call b5); (try replace HR1 := rd_later HR1 b5); (try replace HRv := rd_later HRv b5); (try replace HRo := rd_later HRo b5); have HR2 := rd_new w5 [⟨0, n, ⟨#[]⟩⟩, ⟨0, m, ⟨#[]⟩⟩] _ rfl; clear b5; obtain ⟨A2, hA2⟩ : ∃ A : Option Addr, A = some ⟨w5.heap.size, 0, none⟩ := ⟨_, rfl⟩; rw [← hA2] at HR2 ⊢; clear hA2; change K _ (w5.alloc (.cells (itemLay.flat [⟨0, n, ⟨#[]⟩⟩, ⟨0, m, ⟨#[]⟩⟩]).toArray itemLay.e)); generalize w5.alloc (.cells (itemLay.flat [⟨0, n, ⟨#[]⟩⟩, ⟨0, m, ⟨#[]⟩⟩]).toArray itemLay.e) = w5 at *
  refine hK.out _ _ hs (fun hHeld => ?_)
  clear hK K
  try simp only [Act.put, List.setIfInBounds_toArray, List.set_cons_zero, List.set_cons_succ]
  refine wpAnyH_ready (rs := [35]) (by kernel_rfl) (by simp) ?_
  refine AllReadyH.cons (o := ⟨some 41, _, _, _, _, _⟩) rfl (fun K hK => ?_) AllReadyH.nil
  go_simp; have hs := Lib.hid (hHeld.out.allocO (.cells #[.slice A1 6 6, .slice Av lv.length cv, .slice Ao lo.length co, .slice A2 2 2] 38))
  refine hK.out _ _ hs (fun hHeld => ?_)
  clear hK K
  try simp only [Act.put, List.setIfInBounds_toArray, List.set_cons_zero, List.set_cons_succ]
  refine wpAnyH_ready (rs := [36]) (by kernel_rfl) (by simp) ?_
  refine AllReadyH.cons (o := ⟨some 42, _, _, _, _, _⟩) rfl (fun K hK => ?_) AllReadyH.nil
  go_simp
  go_at_call 33
  refine (HCat.out _ _ _ _ _ _ _ _ rfl HR1.out HRv.out HRo.out HR2.out).mono ?_; rintro e w6 ⟨A6, c6, rfl, o6, b6⟩; have ho6 := Lib.hid (Lay.Own.mono o6 hHeld.out.m); have hs := Lib.hid (hHeld.out.call b6); clear o6 b6
  refine hK.out _ _ hs (fun hHeld => ?_)
  clear hK K
  try simp only [Act.put, List.setIfInBounds_toArray, List.set_cons_zero, List.set_cons_succ]
  refine wpAnyH_take (i := 37) (oi := ⟨some 2, _, _, _, _, _⟩) (v := ?_) rfl (by kernel_rfl) (by kernel_rfl) (by kernel_rfl) (fun _ _ _ h => h) (Or.inl ⟨by rfl, ?_⟩) (by assumption) ?_
  rotate_left
  · (intro w hSw; (try dsimp only at hSw); go_simp; try with_reducible rfl)
  try simp only [Act.put, List.setIfInBounds_toArray, List.set_cons_zero, List.set_cons_succ]
  refine wpAnyH_done (by kernel_rfl) ?_ _
  rotate_left
  go_simp; have b5 := (Below.refl w5.heap.size w5).alloc (Nat.le_refl _) (.cells (itemLay.flat [⟨0, n, ⟨#[]⟩⟩, ⟨0, m, ⟨#[]⟩⟩]).toArray itemLay.e); have hs := Lib.hid (hHeld.out.call b5); (try replace HR1 := rd_later HR1 b5); (try replace HRv := rd_later HRv b5); (try replace HRo := rd_later HRo b5); have HR2 := rd_new w5 [⟨0, n, ⟨#[]⟩⟩, ⟨0, m, ⟨#[]⟩⟩] _ rfl; clear b5; obtain ⟨A2, hA2⟩ : ∃ A : Option Addr, A = some ⟨w5.heap.size, 0, none⟩ := ⟨_, rfl⟩; rw [← hA2] at HR2 ⊢; clear hA2; change K _ (w5.alloc (.cells (itemLay.flat [⟨0, n, ⟨#[]⟩⟩, ⟨0, m, ⟨#[]⟩⟩]).toArray itemLay.e)); generalize w5.alloc (.cells (itemLay.flat [⟨0, n, ⟨#[]⟩⟩, ⟨0, m, ⟨#[]⟩⟩]).toArray itemLay.e) = w5 at *
  refine hK.out _ _ hs (fun hHeld => ?_)
  clear hK K
  try simp only [Act.put, List.setIfInBounds_toArray, List.set_cons_zero, List.set_cons_succ]
  refine wpAnyH_ready (rs := [21]) (by kernel_rfl) (by simp) ?_
  refine AllReadyH.cons (o := ⟨some 27, _, _, _, _, _⟩) rfl (fun K hK => ?_) AllReadyH.nil
  go_simp; have b5 := (Below.refl w5.heap.size w5).alloc (Nat.le_refl _) (.cells (itemLay.flat [⟨0, c, ⟨#[]⟩⟩, ⟨0, ep, ⟨#[]⟩⟩, ⟨0, r, ⟨#[]⟩⟩, ⟨0, k, ⟨#[]⟩⟩, ⟨1, 0, name⟩, ⟨1, 0, key⟩]).toArray itemLay.e); have hs := Lib.hid (hHeld.out.call b5); (try replace HRv := rd_later HRv b5); (try replace HRo := rd_later HRo b5); (try replace HR2 := rd_later HR2 b5); have HR1 := rd_new w5 [⟨0, c, ⟨#[]⟩⟩, ⟨0, ep, ⟨#[]⟩⟩, ⟨0, r, ⟨#[]⟩⟩, ⟨0, k, ⟨#[]⟩⟩, ⟨1, 0, name⟩, ⟨1, 0, key⟩] _ rfl; clear b5; obtain ⟨A1, hA1⟩ : ∃ A : Option Addr, A = some ⟨w5.heap.size, 0, none⟩ := ⟨_, rfl⟩; rw [← hA1] at HR1 ⊢; clear hA1; change K _ (w5.alloc (.cells (itemLay.flat [⟨0, c, ⟨#[]⟩⟩, ⟨0, ep, ⟨#[]⟩⟩, ⟨0, r, ⟨#[]⟩⟩, ⟨0, k, ⟨#[]⟩⟩, ⟨1, 0, name⟩, ⟨1, 0, key⟩]).toArray itemLay.e)); generalize w5.alloc (.cells (itemLay.flat [⟨0, c, ⟨#[]⟩⟩, ⟨0, ep, ⟨#[]⟩⟩, ⟨0, r, ⟨#[]⟩⟩, ⟨0, k, ⟨#[]⟩⟩, ⟨1, 0, name⟩, ⟨1, 0, key⟩]).toArray itemLay.e) = w5 at *
  refine hK.out _ _ hs (fun hHeld => ?_)
  clear hK K
  try simp only [Act.put, List.setIfInBounds_toArray, List.set_cons_zero, List.set_cons_succ]
  refine wpAnyH_ready (rs := [35]) (by kernel_rfl) (by simp) ?_
  refine AllReadyH.cons (o := ⟨some 41, _, _, _, _, _⟩) rfl (fun K hK => ?_) AllReadyH.nil
  go_simp; have hs := Lib.hid (hHeld.out.allocO (.cells #[.slice A1 6 6, .slice Av lv.length cv, .slice Ao lo.length co, .slice A2 2 2] 38))
  refine hK.out _ _ hs (fun hHeld => ?_)
  clear hK K
  try simp only [Act.put, List.setIfInBounds_toArray, List.set_cons_zero, List.set_cons_succ]
  refine wpAnyH_ready (rs := [36]) (by kernel_rfl) (by simp) ?_
  refine AllReadyH.cons (o := ⟨some 42, _, _, _, _, _⟩) rfl (fun K hK => ?_) AllReadyH.nil
  go_simp
  go_at_call 33
  refine (HCat.out _ _ _ _ _ _ _ _ rfl HR1.out HRv.out HRo.out HR2.out).mono ?_; rintro e w6 ⟨A6, c6, rfl, o6, b6⟩; have ho6 := Lib.hid (Lay.Own.mono o6 hHeld.out.m); have hs := Lib.hid (hHeld.out.call b6); clear o6 b6
  refine hK.out _ _ hs (fun hHeld => ?_)
  clear hK K
  try simp only [Act.put, List.setIfInBounds_toArray, List.set_cons_zero, List.set_cons_succ]
  refine wpAnyH_take (i := 37) (oi := ⟨some 2, _, _, _, _, _⟩) (v := ?_) rfl (by kernel_rfl) (by kernel_rfl) (by kernel_rfl) (fun _ _ _ h => h) (Or.inl ⟨by rfl, ?_⟩) (by assumption) ?_
  rotate_left
  · (intro w hSw; (try dsimp only at hSw); go_simp; try with_reducible rfl)
  try simp only [Act.put, List.setIfInBounds_toArray, List.set_cons_zero, List.set_cons_succ]
  refine wpAnyH_done (by kernel_rfl) ?_ _
  rotate_left
  all_goals
    go_wp2_with fail
    go_ret
    exact ⟨A6, c6, rfl, ho6.out, hHeld.out.b⟩
end Go.Proofs.Ytcofjaeljglodaa
