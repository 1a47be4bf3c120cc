/-
  A list with one thing at a place, a list anew, a load anew, a load of a piece's snapshot, a load of nothing: what they return.
  No condition but what the slices read as.
-/
import Derived.Test.YtfboneehnmbklaaLdLay
import Derived.Lib.LazyBuf
set_option linter.unusedSimpArgs false
set_option linter.unusedVariables false
namespace Go.Proofs.Ytfboneehnmbklaa
open Go.RowKit

theorem set_parts {α : Type} (l : List α) (k : Nat) (x : α) (h : k < l.length) : l.take k ++ [x] ++ l.drop (k + 1) = l.set k x := by
  rw [List.set_eq_take_append_cons_drop, if_pos h]; simp
set_option maxRecDepth 100000 in
set_option maxHeartbeats 6400000 in
theorem lputb_any (A : Option Addr) (n c : Nat) (l : List Bool) (k : Nat) (x : Bool) (w : World) (hs : Sls bLay bF w A n c l) (hk : k < n) :
    Calls Try.prog 31 #[.slice A n c, .int .i64 (k : Int), .bool x] w fun e w' => ∃ A' c', e = .returned (.slice A' n c') ∧ bLay.Own w.heap.size w' (.slice A' n c') (l.set k x) ∧ Below w.heap.size w w' := by
  have HB : n * 1 ≤ 140737488355328 := hs.big
  have hlen := hs.len
  have hkc : k ≤ c := Nat.le_trans (Nat.le_of_lt hk) hs.cap
  have hk1n : k + 1 ≤ n := hk
  have hk3 : k < 9223372036854775807 := by omega
  have H1 := Lib.hid (hs.take (hi := k) (by omega))
  have H2 := Lib.hid (hs.drop (lo := k + 1) hk1n)
  have HS := Lib.hid hs
  have HE := Lib.hid (set_parts l k x (by omega))
  have HT1 : Hid (k = (l.take k).length) := Lib.hid H1.out.len.symm
  have HT2 : Hid (n - (k + 1) = (l.drop (k + 1)).length) := Lib.hid H2.out.len.symm
  have HL1 : Hid (([] : List Bool).length + (l.take k).length ≤ 9223372036854775807 ∧ (([] : List Bool).length + (l.take k).length) * Lay.bytes bLay ≤ 211106232532992) := Lib.hid (by rw [← HT1.out]; exact ⟨by simp; omega, by show (0 + k) * 1 ≤ _; omega⟩)
  have HN1 : Hid ((([] : List Bool) ++ l.take k).length = k) := Lib.hid (by rw [List.nil_append]; exact HT1.out.symm)
  have HL2 : Hid ((l.take k).length + ([x] : List Bool).length ≤ 9223372036854775807 ∧ ((l.take k).length + ([x] : List Bool).length) * Lay.bytes bLay ≤ 211106232532992) := Lib.hid (by rw [← HT1.out]; exact ⟨by show k + 1 ≤ _; omega, by show (k + 1) * 1 ≤ _; omega⟩)
  have HN2 : Hid ((l.take k ++ [x]).length = k + 1) := Lib.hid (by rw [List.length_append, ← HT1.out]; rfl)
  have HL3 : Hid ((l.take k ++ [x]).length + (l.drop (k + 1)).length ≤ 9223372036854775807 ∧ ((l.take k ++ [x]).length + (l.drop (k + 1)).length) * Lay.bytes bLay ≤ 211106232532992) := Lib.hid (by rw [HN2.out, ← HT2.out]; exact ⟨by omega, by show (k + 1 + (n - (k + 1))) * 1 ≤ _; omega⟩)
  have HN3 : Hid ((l.take k ++ [x] ++ l.drop (k + 1)).length = n) := Lib.hid (by rw [List.length_append, HN2.out, ← HT2.out]; omega)
  have HK := Lib.hid (Kn.start w)
  clear hs hlen hk HB
  have hk0 : (0 : Int) ≤ (k : Int) := by omega
  go_enter Try.func31, Try.ntmps31
  go_wp2_with (first | (refine wpList_mk0 bLay HK rfl rfl ?_; intro _ g2 HK'; simp only [List.nil_append] at HK'; replace HK := HK'; clear HK') | refine wpList_exe (exec_sls_h bLay (hi := k) _ _ (by rfl) (by rfl) (by rfl) hkc) (by rfl) ?_ | refine wpList_exe (exec_sls_l bLay (lo := k + 1) _ _ (by rfl) (by rfl) (by rfl) hk1n) (by rfl) ?_ | refine wpList_exe (exec_add1 (j := k) _ (by rfl) (by rfl) hk3) (by rfl) ?_ | (at_builtin; refine wpList_kmore HK bLay 0 rfl _ _ rfl rfl rfl (l.take k) rfl HT1.out (Lib.hid (let h := H1.out.later HK.out.b; ⟨h.rd, h.nl⟩)) HL1 HN1 ?_; intro A3 c3 _ HK'; simp only [List.set, List.nil_append] at HK'; replace HK := HK'; clear HK') | (at_builtin; refine wpList_kpush HK bLay 0 rfl _ _ rfl rfl rfl [x] rfl rfl rfl rfl HL2 HN2 ?_; intro A4 c4 _ HK'; simp only [List.set] at HK'; replace HK := HK'; clear HK') | (at_builtin; refine wpList_kmore HK bLay 0 rfl _ _ rfl rfl rfl (l.drop (k + 1)) rfl HT2.out (Lib.hid (let h := H2.out.later HK.out.b; ⟨h.rd, h.nl⟩)) HL3 HN3 ?_; intro A5 c5 _ HK'; simp only [List.set] at HK'; replace HK := HK'; clear HK'))
  rw [HE.out] at HK
  go_ret
  exact ⟨_, _, rfl, HK.out.own 0 rfl, HK.out.b⟩
set_option maxRecDepth 100000 in
set_option maxHeartbeats 6400000 in
theorem lcloneb_any (A : Option Addr) (n c : Nat) (l : List Bool) (w : World) (hs : Sls bLay bF w A n c l) :
    Calls Try.prog 38 #[.slice A n c] w fun e w' => ∃ A' c', e = .returned (.slice A' n c') ∧ bLay.Own w.heap.size w' (.slice A' n c') l ∧ Below w.heap.size w w' := by
  match A, hs with
  | none, hs =>
    have hl := hs.nl rfl
    have hn := hs.len
    subst hl
    rw [List.length_nil] at hn
    subst hn
    clear hs
    have hq := fun W => run_eql_slice_nil (P := Try.prog) W 32 4 none 0 c Try.underlying32
    go_enter Try.func38, Try.ntmps38
    go_wp2_with fail
    go_ret
    exact ⟨_, _, rfl, Lay.Own.none _ _, Below.refl _ _⟩
  | some ad, hs =>
    have HB : n * 1 ≤ 140737488355328 := hs.big
    have HT1 : Hid (n = l.length) := Lib.hid hs.len.symm
    have HL1 : Hid (([] : List Bool).length + l.length ≤ 9223372036854775807 ∧ (([] : List Bool).length + l.length) * Lay.bytes bLay ≤ 211106232532992) := Lib.hid (by rw [← HT1.out]; exact ⟨by simp; omega, by show (0 + n) * 1 ≤ _; omega⟩)
    have HN1 : Hid ((([] : List Bool) ++ l).length = n) := Lib.hid (by rw [List.nil_append]; exact HT1.out.symm)
    have HS := Lib.hid hs
    have HK := Lib.hid (Kn.start w)
    clear hs HB
    have hq := fun W => run_eql_slice_nil (P := Try.prog) W 32 4 (some ad) n c Try.underlying32
    go_enter Try.func38, Try.ntmps38
    go_wp2_with (first | (refine wpList_mk0 bLay HK rfl rfl ?_; intro _ g2 HK'; simp only [List.nil_append] at HK'; replace HK := HK'; clear HK') | (at_builtin; refine wpList_kmore HK bLay 0 rfl _ _ rfl rfl rfl l rfl HT1.out (Lib.hid (let h := HS.out.later HK.out.b; ⟨h.rd, h.nl⟩)) HL1 HN1 ?_; intro A3 c3 _ HK'; simp only [List.set, List.nil_append] at HK'; replace HK := HK'; clear HK'))
    go_ret
    exact ⟨_, _, rfl, HK.out.own 0 rfl, HK.out.b⟩
set_option maxRecDepth 100000 in
set_option maxHeartbeats 6400000 in
theorem lputs_any (A : Option Addr) (n c : Nat) (l : List ByteArray) (k : Nat) (x : ByteArray) (w : World) (hs : Sls sLay sF w A n c l) (hk : k < n) :
    Calls Try.prog 32 #[.slice A n c, .int .i64 (k : Int), .string x] w fun e w' => ∃ A' c', e = .returned (.slice A' n c') ∧ sLay.Own w.heap.size w' (.slice A' n c') (l.set k x) ∧ Below w.heap.size w w' := by
  have HB : n * 16 ≤ 140737488355328 := hs.big
  have hlen := hs.len
  have hkc : k ≤ c := Nat.le_trans (Nat.le_of_lt hk) hs.cap
  have hk1n : k + 1 ≤ n := hk
  have hk3 : k < 9223372036854775807 := by omega
  have H1 := Lib.hid (hs.take (hi := k) (by omega))
  have H2 := Lib.hid (hs.drop (lo := k + 1) hk1n)
  have HS := Lib.hid hs
  have HE := Lib.hid (set_parts l k x (by omega))
  have HT1 : Hid (k = (l.take k).length) := Lib.hid H1.out.len.symm
  have HT2 : Hid (n - (k + 1) = (l.drop (k + 1)).length) := Lib.hid H2.out.len.symm
  have HL1 : Hid (([] : List ByteArray).length + (l.take k).length ≤ 9223372036854775807 ∧ (([] : List ByteArray).length + (l.take k).length) * Lay.bytes sLay ≤ 211106232532992) := Lib.hid (by rw [← HT1.out]; exact ⟨by simp; omega, by show (0 + k) * 16 ≤ _; omega⟩)
  have HN1 : Hid ((([] : List ByteArray) ++ l.take k).length = k) := Lib.hid (by rw [List.nil_append]; exact HT1.out.symm)
  have HL2 : Hid ((l.take k).length + ([x] : List ByteArray).length ≤ 9223372036854775807 ∧ ((l.take k).length + ([x] : List ByteArray).length) * Lay.bytes sLay ≤ 211106232532992) := Lib.hid (by rw [← HT1.out]; exact ⟨by show k + 1 ≤ _; omega, by show (k + 1) * 16 ≤ _; omega⟩)
  have HN2 : Hid ((l.take k ++ [x]).length = k + 1) := Lib.hid (by rw [List.length_append, ← HT1.out]; rfl)
  have HL3 : Hid ((l.take k ++ [x]).length + (l.drop (k + 1)).length ≤ 9223372036854775807 ∧ ((l.take k ++ [x]).length + (l.drop (k + 1)).length) * Lay.bytes sLay ≤ 211106232532992) := Lib.hid (by rw [HN2.out, ← HT2.out]; exact ⟨by omega, by show (k + 1 + (n - (k + 1))) * 16 ≤ _; omega⟩)
  have HN3 : Hid ((l.take k ++ [x] ++ l.drop (k + 1)).length = n) := Lib.hid (by rw [List.length_append, HN2.out, ← HT2.out]; omega)
  have HK := Lib.hid (Kn.start w)
  clear hs hlen hk HB
  have hk0 : (0 : Int) ≤ (k : Int) := by omega
  go_enter Try.func32, Try.ntmps32
  go_wp2_with (first | (refine wpList_mk0 sLay HK rfl rfl ?_; intro _ g2 HK'; simp only [List.nil_append] at HK'; replace HK := HK'; clear HK') | refine wpList_exe (exec_sls_h sLay (hi := k) _ _ (by rfl) (by rfl) (by rfl) hkc) (by rfl) ?_ | refine wpList_exe (exec_sls_l sLay (lo := k + 1) _ _ (by rfl) (by rfl) (by rfl) hk1n) (by rfl) ?_ | refine wpList_exe (exec_add1 (j := k) _ (by rfl) (by rfl) hk3) (by rfl) ?_ | (at_builtin; refine wpList_kmore HK sLay 0 rfl _ _ rfl rfl rfl (l.take k) rfl HT1.out (Lib.hid (let h := H1.out.later HK.out.b; ⟨h.rd, h.nl⟩)) HL1 HN1 ?_; intro A3 c3 _ HK'; simp only [List.set, List.nil_append] at HK'; replace HK := HK'; clear HK') | (at_builtin; refine wpList_kpush HK sLay 0 rfl _ _ rfl rfl rfl [x] rfl rfl rfl rfl HL2 HN2 ?_; intro A4 c4 _ HK'; simp only [List.set] at HK'; replace HK := HK'; clear HK') | (at_builtin; refine wpList_kmore HK sLay 0 rfl _ _ rfl rfl rfl (l.drop (k + 1)) rfl HT2.out (Lib.hid (let h := H2.out.later HK.out.b; ⟨h.rd, h.nl⟩)) HL3 HN3 ?_; intro A5 c5 _ HK'; simp only [List.set] at HK'; replace HK := HK'; clear HK'))
  rw [HE.out] at HK
  go_ret
  exact ⟨_, _, rfl, HK.out.own 0 rfl, HK.out.b⟩
set_option maxRecDepth 100000 in
set_option maxHeartbeats 6400000 in
theorem lclones_any (A : Option Addr) (n c : Nat) (l : List ByteArray) (w : World) (hs : Sls sLay sF w A n c l) :
    Calls Try.prog 39 #[.slice A n c] w fun e w' => ∃ A' c', e = .returned (.slice A' n c') ∧ sLay.Own w.heap.size w' (.slice A' n c') l ∧ Below w.heap.size w w' := by
  match A, hs with
  | none, hs =>
    have hl := hs.nl rfl
    have hn := hs.len
    subst hl
    rw [List.length_nil] at hn
    subst hn
    clear hs
    have hq := fun W => run_eql_slice_nil (P := Try.prog) W 33 9 none 0 c Try.underlying33
    go_enter Try.func39, Try.ntmps39
    go_wp2_with fail
    go_ret
    exact ⟨_, _, rfl, Lay.Own.none _ _, Below.refl _ _⟩
  | some ad, hs =>
    have HB : n * 16 ≤ 140737488355328 := hs.big
    have HT1 : Hid (n = l.length) := Lib.hid hs.len.symm
    have HL1 : Hid (([] : List ByteArray).length + l.length ≤ 9223372036854775807 ∧ (([] : List ByteArray).length + l.length) * Lay.bytes sLay ≤ 211106232532992) := Lib.hid (by rw [← HT1.out]; exact ⟨by simp; omega, by show (0 + n) * 16 ≤ _; omega⟩)
    have HN1 : Hid ((([] : List ByteArray) ++ l).length = n) := Lib.hid (by rw [List.nil_append]; exact HT1.out.symm)
    have HS := Lib.hid hs
    have HK := Lib.hid (Kn.start w)
    clear hs HB
    have hq := fun W => run_eql_slice_nil (P := Try.prog) W 33 9 (some ad) n c Try.underlying33
    go_enter Try.func39, Try.ntmps39
    go_wp2_with (first | (refine wpList_mk0 sLay HK rfl rfl ?_; intro _ g2 HK'; simp only [List.nil_append] at HK'; replace HK := HK'; clear HK') | (at_builtin; refine wpList_kmore HK sLay 0 rfl _ _ rfl rfl rfl l rfl HT1.out (Lib.hid (let h := HS.out.later HK.out.b; ⟨h.rd, h.nl⟩)) HL1 HN1 ?_; intro A3 c3 _ HK'; simp only [List.set, List.nil_append] at HK'; replace HK := HK'; clear HK'))
    go_ret
    exact ⟨_, _, rfl, HK.out.own 0 rfl, HK.out.b⟩
/-- A row of both kinds changed places. -/
theorem Kn.swapR {b0 : Nat} {w0 w : World} {L : List (Nat × TypeId × Array Value)} {a b : RowE} (h : Kn b0 w0 w L [a, b]) : Kn b0 w0 w L [b, a] :=
  h.pick id (fun i => if i = 0 then 1 else 0) (fun i j _ _ h => h) (fun i j hi hj h => by simp at hi hj; split <;> split <;> omega) (fun i x hx => hx) (fun i x hx => by
    match i, hx with
    | 0, hx => exact hx
    | 1, hx => exact hx)
set_option maxRecDepth 100000 in
set_option maxHeartbeats 12800000 in
theorem lown_any (l : Ldd) (A : Option Addr) (n c : Nat) (A2 : Option Addr) (n2 c2 : Nat) (w : World) (h1 : Sls bLay bF w A n c l.h) (h2 : Sls sLay sF w A2 n2 c2 l.d) :
    Calls Try.prog 28 #[.agg #[.int .i64 l.n, .int .i64 l.t, .int .u32 (l.s : Int), .slice A n c, .slice A2 n2 c2]] w (IsLD l w) := by
  obtain ⟨m, t, s, lh, ld⟩ := l
  simp only at h1 h2 ⊢
  have HB := Lib.hid (fun W (hW : Below w.heap.size w W) => lcloneb_any A n c lh W (h1.later hW))
  have HD := Lib.hid (fun W (hW : Below w.heap.size w W) => lclones_any A2 n2 c2 ld W (h2.later hW))
  have HK := kn2 w 35 (ldC m t s (.slice A n c) (.slice A2 n2 c2)) 35 (ldC 0 0 0 (.slice none 0 0) (.slice none 0 0))
  clear h1 h2
  unfold IsLD
  go_enter Try.func28, Try.ntmps28
  go_wp2_with fail
  replace HK := Lib.hid HK.out.drew
  refine wp_region_any (by kernel_rfl) ?_
  change wpAny _ _ _ _ _ _ _ (World.drew _)
  refine wpAny_take (i := 0) (oi := ⟨some 3, _, _, _, _, _⟩) (v := ?_) rfl (by kernel_rfl) (by kernel_rfl) (by kernel_rfl) (fun _ _ _ h => h) (Or.inl ⟨by rfl, ?_⟩) ?_
  rotate_left
  · (intro w; go_simp; try with_reducible rfl)
  try simp only [ap1, ap2, ap3, ap4, ap5]
  refine wpAny_take (i := 3) (oi := ⟨some 6, _, _, _, _, _⟩) (v := ?_) rfl (by kernel_rfl) (by kernel_rfl) (by kernel_rfl) (fun _ _ _ h => h) (Or.inl ⟨by rfl, ?_⟩) ?_
  rotate_left
  · (intro w; go_simp; try with_reducible rfl)
  try simp only [ap1, ap2, ap3, ap4, ap5]
  refine wpAny_ready (rs := [1, 4]) (by kernel_rfl) (by simp) ?_
  refine AllReady.cons (o := ⟨some 4, _, _, _, _, _⟩) rfl (fun K hK => ?_) (AllReady.cons (o := ⟨some 7, _, _, _, _, _⟩) rfl (fun K hK => ?_) AllReady.nil)
  replace hK := Lib.hid hK
  refine step_of_exec (by rfl) (kl_h_ HK 0 _ (by rfl) (by rfl) (by rfl)) ?_
  refine hK.out _ _ ?_
  clear hK K
  try simp only [ap1, ap2, ap3, ap4, ap5]
  refine wpAny_ready (rs := [2, 4]) (by kernel_rfl) (by simp) ?_
  refine AllReady.cons (o := ⟨some 5, _, _, _, _, _⟩) rfl (fun K hK => ?_) (AllReady.cons (o := ⟨some 7, _, _, _, _, _⟩) rfl (fun K hK => ?_) AllReady.nil)
  replace hK := Lib.hid hK
  go_simp
  go_at_call 38
  refine (HB.out _ HK.out.b).mono ?_; rintro e w2 ⟨A3, c3, rfl, o3, b3⟩; replace HK := Lib.hid (HK.out.called b3 o3); simp only [List.cons_append, List.nil_append] at HK; clear o3 b3
  refine hK.out _ _ ?_
  clear hK K
  try simp only [ap1, ap2, ap3, ap4, ap5]
  refine wpAny_ready (rs := [4]) (by kernel_rfl) (by simp) ?_
  refine AllReady.cons (o := ⟨some 7, _, _, _, _, _⟩) rfl (fun K hK => ?_) AllReady.nil
  replace hK := Lib.hid hK
  refine step_of_exec (by rfl) (kl_d_ HK 0 _ (by rfl) (by rfl) (by rfl)) ?_
  refine hK.out _ _ ?_
  clear hK K
  try simp only [ap1, ap2, ap3, ap4, ap5]
  refine wpAny_take (i := 6) (oi := ⟨some 9, _, _, _, _, _⟩) (v := ?_) rfl (by kernel_rfl) (by kernel_rfl) (by kernel_rfl) (fun _ _ _ h => h) (Or.inl ⟨by rfl, ?_⟩) ?_
  rotate_left
  · (intro w; go_simp; try with_reducible rfl)
  try simp only [ap1, ap2, ap3, ap4, ap5]
  refine wpAny_ready (rs := [5]) (by kernel_rfl) (by simp) ?_
  refine AllReady.cons (o := ⟨some 8, _, _, _, _, _⟩) rfl (fun K hK => ?_) AllReady.nil
  replace hK := Lib.hid hK
  go_simp
  go_at_call 39
  refine (HD.out _ HK.out.b).mono ?_; rintro e w2 ⟨A4, c4, rfl, o4, b4⟩; replace HK := Lib.hid (HK.out.called b4 o4); simp only [List.cons_append, List.nil_append] at HK; clear o4 b4
  refine hK.out _ _ ?_
  clear hK K
  try simp only [ap1, ap2, ap3, ap4, ap5]
  refine wpAny_ready (rs := [7]) (by kernel_rfl) (by simp) ?_
  refine AllReady.cons (o := ⟨none, _, _, _, _, _⟩) rfl (fun K hK => ?_) AllReady.nil
  replace hK := Lib.hid hK
  refine step_slh HK 0 (by rfl) _ _ (by rfl) (by rfl) (by rfl) (by rfl) ?_; intro _ HK'; simp only [List.set] at HK'; replace HK := HK'; clear HK'
  refine hK.out _ _ ?_
  clear hK K
  try simp only [ap1, ap2, ap3, ap4, ap5]
  refine wpAny_take (i := 8) (oi := ⟨some 10, _, _, _, _, _⟩) (v := ?_) rfl (by kernel_rfl) (by kernel_rfl) (by kernel_rfl) (fun _ _ _ h => h) (Or.inl ⟨by rfl, ?_⟩) ?_
  rotate_left
  · (intro w; go_simp; try with_reducible rfl)
  try simp only [ap1, ap2, ap3, ap4, ap5]
  refine wpAny_ready (rs := [9]) (by kernel_rfl) (by simp) ?_
  refine AllReady.cons (o := ⟨none, _, _, _, _, _⟩) rfl (fun K hK => ?_) AllReady.nil
  replace hK := Lib.hid hK
  refine step_sld HK 0 (by rfl) _ _ (by rfl) (by rfl) (by rfl) (by rfl) ?_; intro _ HK'; simp only [List.set] at HK'; replace HK := HK'; clear HK'
  refine hK.out _ _ ?_
  clear hK K
  try simp only [ap1, ap2, ap3, ap4, ap5]
  refine wpAny_done (by kernel_rfl) ?_ _
  rotate_left
  replace hK := Lib.hid hK
  refine step_of_exec (by rfl) (kl_d_ HK 0 _ (by rfl) (by rfl) (by rfl)) ?_
  refine hK.out _ _ ?_
  clear hK K
  try simp only [ap1, ap2, ap3, ap4, ap5]
  refine wpAny_ready (rs := [2]) (by kernel_rfl) (by simp) ?_
  refine AllReady.cons (o := ⟨some 5, _, _, _, _, _⟩) rfl (fun K hK => ?_) AllReady.nil
  replace hK := Lib.hid hK
  go_simp
  go_at_call 38
  refine (HB.out _ HK.out.b).mono ?_; rintro e w2 ⟨A3, c3, rfl, o3, b3⟩; replace HK := Lib.hid (HK.out.called b3 o3); simp only [List.cons_append, List.nil_append] at HK; clear o3 b3
  refine hK.out _ _ ?_
  clear hK K
  try simp only [ap1, ap2, ap3, ap4, ap5]
  refine wpAny_take (i := 6) (oi := ⟨some 9, _, _, _, _, _⟩) (v := ?_) rfl (by kernel_rfl) (by kernel_rfl) (by kernel_rfl) (fun _ _ _ h => h) (Or.inl ⟨by rfl, ?_⟩) ?_
  rotate_left
  · (intro w; go_simp; try with_reducible rfl)
  try simp only [ap1, ap2, ap3, ap4, ap5]
  refine wpAny_ready (rs := [5]) (by kernel_rfl) (by simp) ?_
  refine AllReady.cons (o := ⟨some 8, _, _, _, _, _⟩) rfl (fun K hK => ?_) AllReady.nil
  replace hK := Lib.hid hK
  go_simp
  go_at_call 39
  refine (HD.out _ HK.out.b).mono ?_; rintro e w2 ⟨A4, c4, rfl, o4, b4⟩; replace HK := Lib.hid (HK.out.called b4 o4); simp only [List.cons_append, List.nil_append] at HK; clear o4 b4
  refine hK.out _ _ ?_
  clear hK K
  try simp only [ap1, ap2, ap3, ap4, ap5]
  refine wpAny_ready (rs := [7]) (by kernel_rfl) (by simp) ?_
  refine AllReady.cons (o := ⟨none, _, _, _, _, _⟩) rfl (fun K hK => ?_) AllReady.nil
  replace hK := Lib.hid hK
  refine step_slh HK 0 (by rfl) _ _ (by rfl) (by rfl) (by rfl) (by rfl) ?_; intro _ HK'; simp only [List.set] at HK'; replace HK := HK'; clear HK'
  refine hK.out _ _ ?_
  clear hK K
  try simp only [ap1, ap2, ap3, ap4, ap5]
  refine wpAny_take (i := 8) (oi := ⟨some 10, _, _, _, _, _⟩) (v := ?_) rfl (by kernel_rfl) (by kernel_rfl) (by kernel_rfl) (fun _ _ _ h => h) (Or.inl ⟨by rfl, ?_⟩) ?_
  rotate_left
  · (intro w; go_simp; try with_reducible rfl)
  try simp only [ap1, ap2, ap3, ap4, ap5]
  refine wpAny_ready (rs := [9]) (by kernel_rfl) (by simp) ?_
  refine AllReady.cons (o := ⟨none, _, _, _, _, _⟩) rfl (fun K hK => ?_) AllReady.nil
  replace hK := Lib.hid hK
  refine step_sld HK 0 (by rfl) _ _ (by rfl) (by rfl) (by rfl) (by rfl) ?_; intro _ HK'; simp only [List.set] at HK'; replace HK := HK'; clear HK'
  refine hK.out _ _ ?_
  clear hK K
  try simp only [ap1, ap2, ap3, ap4, ap5]
  refine wpAny_done (by kernel_rfl) ?_ _
  rotate_left
  replace hK := Lib.hid hK
  refine step_of_exec (by rfl) (kl_d_ HK 0 _ (by rfl) (by rfl) (by rfl)) ?_
  refine hK.out _ _ ?_
  clear hK K
  try simp only [ap1, ap2, ap3, ap4, ap5]
  refine wpAny_ready (rs := [1]) (by kernel_rfl) (by simp) ?_
  refine AllReady.cons (o := ⟨some 4, _, _, _, _, _⟩) rfl (fun K hK => ?_) AllReady.nil
  replace hK := Lib.hid hK
  refine step_of_exec (by rfl) (kl_h_ HK 0 _ (by rfl) (by rfl) (by rfl)) ?_
  refine hK.out _ _ ?_
  clear hK K
  try simp only [ap1, ap2, ap3, ap4, ap5]
  refine wpAny_ready (rs := [2]) (by kernel_rfl) (by simp) ?_
  refine AllReady.cons (o := ⟨some 5, _, _, _, _, _⟩) rfl (fun K hK => ?_) AllReady.nil
  replace hK := Lib.hid hK
  go_simp
  go_at_call 38
  refine (HB.out _ HK.out.b).mono ?_; rintro e w2 ⟨A3, c3, rfl, o3, b3⟩; replace HK := Lib.hid (HK.out.called b3 o3); simp only [List.cons_append, List.nil_append] at HK; clear o3 b3
  refine hK.out _ _ ?_
  clear hK K
  try simp only [ap1, ap2, ap3, ap4, ap5]
  refine wpAny_take (i := 6) (oi := ⟨some 9, _, _, _, _, _⟩) (v := ?_) rfl (by kernel_rfl) (by kernel_rfl) (by kernel_rfl) (fun _ _ _ h => h) (Or.inl ⟨by rfl, ?_⟩) ?_
  rotate_left
  · (intro w; go_simp; try with_reducible rfl)
  try simp only [ap1, ap2, ap3, ap4, ap5]
  refine wpAny_ready (rs := [5]) (by kernel_rfl) (by simp) ?_
  refine AllReady.cons (o := ⟨some 8, _, _, _, _, _⟩) rfl (fun K hK => ?_) AllReady.nil
  replace hK := Lib.hid hK
  go_simp
  go_at_call 39
  refine (HD.out _ HK.out.b).mono ?_; rintro e w2 ⟨A4, c4, rfl, o4, b4⟩; replace HK := Lib.hid (HK.out.called b4 o4); simp only [List.cons_append, List.nil_append] at HK; clear o4 b4
  refine hK.out _ _ ?_
  clear hK K
  try simp only [ap1, ap2, ap3, ap4, ap5]
  refine wpAny_ready (rs := [7]) (by kernel_rfl) (by simp) ?_
  refine AllReady.cons (o := ⟨none, _, _, _, _, _⟩) rfl (fun K hK => ?_) AllReady.nil
  replace hK := Lib.hid hK
  refine step_slh HK 0 (by rfl) _ _ (by rfl) (by rfl) (by rfl) (by rfl) ?_; intro _ HK'; simp only [List.set] at HK'; replace HK := HK'; clear HK'
  refine hK.out _ _ ?_
  clear hK K
  try simp only [ap1, ap2, ap3, ap4, ap5]
  refine wpAny_take (i := 8) (oi := ⟨some 10, _, _, _, _, _⟩) (v := ?_) rfl (by kernel_rfl) (by kernel_rfl) (by kernel_rfl) (fun _ _ _ h => h) (Or.inl ⟨by rfl, ?_⟩) ?_
  rotate_left
  · (intro w; go_simp; try with_reducible rfl)
  try simp only [ap1, ap2, ap3, ap4, ap5]
  refine wpAny_ready (rs := [9]) (by kernel_rfl) (by simp) ?_
  refine AllReady.cons (o := ⟨none, _, _, _, _, _⟩) rfl (fun K hK => ?_) AllReady.nil
  replace hK := Lib.hid hK
  refine step_sld HK 0 (by rfl) _ _ (by rfl) (by rfl) (by rfl) (by rfl) ?_; intro _ HK'; simp only [List.set] at HK'; replace HK := HK'; clear HK'
  refine hK.out _ _ ?_
  clear hK K
  try simp only [ap1, ap2, ap3, ap4, ap5]
  refine wpAny_done (by kernel_rfl) ?_ _
  rotate_left
  all_goals
    go_wp2_with (first | refine wpList_exe (kl_l HK 0 _ (by rfl) (by rfl) (by rfl)) (by rfl) ?_ | (refine wpList_sl HK 1 rfl _ _ rfl rfl rfl rfl rfl rfl ?_; intro _ HK'; simp only [List.set] at HK'; replace HK := HK'; clear HK'))
    first
      | exact ret_ld Try.results28 rfl rfl (HK.out.blk 1 rfl) ⟨_, _, _, _, _, _, rfl, HK.out.takeL 0⟩
      | exact ret_ld Try.results28 rfl rfl (HK.out.blk 1 rfl) ⟨_, _, _, _, _, _, rfl, (HK.out.takeL 0).swapR⟩
set_option maxRecDepth 100000 in
set_option maxHeartbeats 12800000 in
theorem lbegun_any (p : Lpc) (hp : Ldm.PR p) (w : World) :
    Calls Try.prog 30 #[.agg #[.int .i64 p.n, .int .i64 p.a, .int .i64 p.t, .int .u32 (p.s : Int), .string p.d]] w (IsLD (Ldm.bg p) w) := by
  obtain ⟨n, a, t, s, d⟩ := p
  have ht1 := hp.1.1
  have ht2 := hp.1.2.1
  simp only at ht1 ht2 ⊢
  obtain ⟨m, rfl⟩ : ∃ m : Nat, t = (m : Int) := ⟨t.toNat, by omega⟩
  have hm : m ≤ 65536 := by omega
  have e : Ldm.bg ⟨n, a, (m : Int), s, d⟩ = ⟨n, (m : Int), s, List.replicate m false, List.replicate m ⟨#[]⟩⟩ := by simp [Ldm.bg]
  rw [e]
  unfold IsLD
  simp only
  have HK := kn2 w 24 (pcC n a m s d) 35 (ldC 0 0 0 (.slice none 0 0) (.slice none 0 0))
  clear hp e ht1 ht2
  go_enter Try.func30, Try.ntmps30
  go_wp2_with fail
  have HK0 := Lib.hid HK.out.drew
  clear HK
  refine wp_region_held_drew (S := (fun W => Hid (Kn w.heap.size w W [(w.heap.size, 24, pcC n a m s d)] []))) (by kernel_rfl) ?_ (fun hHeld => ?_)
  · (try dsimp only); exact Lib.hid (HK0.out.takeL 1)
  refine wpAnyH_take (i := 0) (oi := ⟨some 3, _, _, _, _, _⟩) (v := ?_) rfl (by kernel_rfl) (by kernel_rfl) (by kernel_rfl) (fun _ _ _ h => h) (Or.inl ⟨by rfl, ?_⟩) (by assumption) ?_
  rotate_left
  · (intro w hSw; (try dsimp only at hSw); go_simp; try with_reducible rfl)
  try simp only [Act.put, List.setIfInBounds_toArray, List.set_cons_zero, List.set_cons_succ]
  refine wpAnyH_take (i := 1) (oi := ⟨some 4, _, _, _, _, _⟩) (v := ?_) rfl (by kernel_rfl) (by kernel_rfl) (by kernel_rfl) (fun _ _ _ h => h) (Or.inl ⟨by rfl, ?_⟩) (by assumption) ?_
  rotate_left
  · (intro w hSw; refine Eq.trans (kp_n_ hSw 0 _ (by rfl) (by rfl) (by rfl)) ?_; with_reducible rfl)
  try simp only [Act.put, List.setIfInBounds_toArray, List.set_cons_zero, List.set_cons_succ]
  refine wpAnyH_take (i := 2) (oi := ⟨some 5, _, _, _, _, _⟩) (v := ?_) rfl (by kernel_rfl) (by kernel_rfl) (by kernel_rfl) (fun _ _ _ h => h) (Or.inl ⟨by rfl, ?_⟩) (by assumption) ?_
  rotate_left
  · (intro w hSw; (try dsimp only at hSw); go_simp; try with_reducible rfl)
  try simp only [Act.put, List.setIfInBounds_toArray, List.set_cons_zero, List.set_cons_succ]
  refine wpAnyH_take (i := 3) (oi := ⟨some 6, _, _, _, _, _⟩) (v := ?_) rfl (by kernel_rfl) (by kernel_rfl) (by kernel_rfl) (fun _ _ _ h => h) (Or.inl ⟨by rfl, ?_⟩) (by assumption) ?_
  rotate_left
  · (intro w hSw; refine Eq.trans (kp_t_ hSw 0 _ (by rfl) (by rfl) (by rfl)) ?_; with_reducible rfl)
  try simp only [Act.put, List.setIfInBounds_toArray, List.set_cons_zero, List.set_cons_succ]
  refine wpAnyH_take (i := 4) (oi := ⟨some 7, _, _, _, _, _⟩) (v := ?_) rfl (by kernel_rfl) (by kernel_rfl) (by kernel_rfl) (fun _ _ _ h => h) (Or.inl ⟨by rfl, ?_⟩) (by assumption) ?_
  rotate_left
  · (intro w hSw; (try dsimp only at hSw); go_simp; try with_reducible rfl)
  try simp only [Act.put, List.setIfInBounds_toArray, List.set_cons_zero, List.set_cons_succ]
  refine wpAnyH_take (i := 5) (oi := ⟨some 8, _, _, _, _, _⟩) (v := ?_) rfl (by kernel_rfl) (by kernel_rfl) (by kernel_rfl) (fun _ _ _ h => h) (Or.inl ⟨by rfl, ?_⟩) (by assumption) ?_
  rotate_left
  · (intro w hSw; refine Eq.trans (kp_s_ hSw 0 _ (by rfl) (by rfl) (by rfl)) ?_; with_reducible rfl)
  try simp only [Act.put, List.setIfInBounds_toArray, List.set_cons_zero, List.set_cons_succ]
  refine wpAnyH_take (i := 6) (oi := ⟨some 9, _, _, _, _, _⟩) (v := ?_) rfl (by kernel_rfl) (by kernel_rfl) (by kernel_rfl) (fun _ _ _ h => h) (Or.inl ⟨by rfl, ?_⟩) (by assumption) ?_
  rotate_left
  · (intro w hSw; (try dsimp only at hSw); go_simp; try with_reducible rfl)
  try simp only [Act.put, List.setIfInBounds_toArray, List.set_cons_zero, List.set_cons_succ]
  refine wpAnyH_take (i := 7) (oi := ⟨some 10, _, _, _, _, _⟩) (v := ?_) rfl (by kernel_rfl) (by kernel_rfl) (by kernel_rfl) (fun _ _ _ h => h) (Or.inl ⟨by rfl, ?_⟩) (by assumption) ?_
  rotate_left
  · (intro w hSw; refine Eq.trans (kp_t_ hSw 0 _ (by rfl) (by rfl) (by rfl)) ?_; with_reducible rfl)
  try simp only [Act.put, List.setIfInBounds_toArray, List.set_cons_zero, List.set_cons_succ]
  refine wpAnyH_take (i := 9) (oi := ⟨some 12, _, _, _, _, _⟩) (v := ?_) rfl (by kernel_rfl) (by kernel_rfl) (by kernel_rfl) (fun _ _ _ h => h) (Or.inl ⟨by rfl, ?_⟩) (by assumption) ?_
  rotate_left
  · (intro w hSw; (try dsimp only at hSw); go_simp; try with_reducible rfl)
  try simp only [Act.put, List.setIfInBounds_toArray, List.set_cons_zero, List.set_cons_succ]
  refine wpAnyH_take (i := 10) (oi := ⟨some 13, _, _, _, _, _⟩) (v := ?_) rfl (by kernel_rfl) (by kernel_rfl) (by kernel_rfl) (fun _ _ _ h => h) (Or.inl ⟨by rfl, ?_⟩) (by assumption) ?_
  rotate_left
  · (intro w hSw; refine Eq.trans (kp_t_ hSw 0 _ (by rfl) (by rfl) (by rfl)) ?_; with_reducible rfl)
  try simp only [Act.put, List.setIfInBounds_toArray, List.set_cons_zero, List.set_cons_succ]
  refine wpAnyH_ready (rs := [8, 11]) (by kernel_rfl) (by simp) ?_
  refine AllReadyH.cons (o := ⟨some 11, _, _, _, _, _⟩) rfl (fun K hK => ?_) (AllReadyH.cons (o := ⟨some 14, _, _, _, _, _⟩) rfl (fun K hK => ?_) AllReadyH.nil)
  refine step_mnb HK0 (by rfl) _ (by rfl) (by rfl) hm ?_; intro w2 g2 HK' _; simp only [List.cons_append, List.nil_append] at HK'; replace HK0 := HK'; clear HK'; have hs := Lib.hid ((HK0.out.takeL 1).takeR 0)
  refine hK.out _ _ hs (fun hHeld => ?_)
  clear hK K
  try simp only [ap1, ap2, ap3, ap4, ap5]
  refine wpAnyH_ready (rs := [11]) (by kernel_rfl) (by simp) ?_
  refine AllReadyH.cons (o := ⟨some 14, _, _, _, _, _⟩) rfl (fun K hK => ?_) AllReadyH.nil
  refine step_mns HK0 (by rfl) _ (by rfl) (by rfl) hm ?_; intro w2 g3 HK' _; simp only [List.cons_append, List.nil_append] at HK'; replace HK0 := HK'; clear HK'; have hs := Lib.hid ((HK0.out.takeL 1).takeR 0)
  refine hK.out _ _ hs (fun hHeld => ?_)
  clear hK K
  try simp only [ap1, ap2, ap3, ap4, ap5]
  refine wpAnyH_take (i := 12) (oi := ⟨some 15, _, _, _, _, _⟩) (v := ?_) rfl (by kernel_rfl) (by kernel_rfl) (by kernel_rfl) (fun _ _ _ h => h) (Or.inl ⟨by rfl, ?_⟩) (by assumption) ?_
  rotate_left
  · (intro w hSw; (try dsimp only at hSw); go_simp; try with_reducible rfl)
  try simp only [Act.put, List.setIfInBounds_toArray, List.set_cons_zero, List.set_cons_succ]
  refine wpAnyH_ready (rs := [13]) (by kernel_rfl) (by simp) ?_
  refine AllReadyH.cons (o := ⟨none, _, _, _, _, _⟩) rfl (fun K hK => ?_) AllReadyH.nil
  refine step_sl HK0 1 (by rfl) _ _ (by rfl) (by rfl) (by rfl) (by rfl) (by rfl) (by rfl) ?_; intro _ HK'; simp only [List.set] at HK'; replace HK0 := HK'; clear HK'; have hs := Lib.hid ((HK0.out.takeL 1).takeR 0)
  refine hK.out _ _ hs (fun hHeld => ?_)
  clear hK K
  try simp only [ap1, ap2, ap3, ap4, ap5]
  refine wpAnyH_done (by kernel_rfl) ?_ _
  rotate_left
  refine step_mns HK0 (by rfl) _ (by rfl) (by rfl) hm ?_; intro w2 g3 HK' _; simp only [List.cons_append, List.nil_append] at HK'; replace HK0 := HK'; clear HK'; have hs := Lib.hid ((HK0.out.takeL 1).takeR 0)
  refine hK.out _ _ hs (fun hHeld => ?_)
  clear hK K
  try simp only [ap1, ap2, ap3, ap4, ap5]
  refine wpAnyH_ready (rs := [8]) (by kernel_rfl) (by simp) ?_
  refine AllReadyH.cons (o := ⟨some 11, _, _, _, _, _⟩) rfl (fun K hK => ?_) AllReadyH.nil
  refine step_mnb HK0 (by rfl) _ (by rfl) (by rfl) hm ?_; intro w2 g2 HK' _; simp only [List.cons_append, List.nil_append] at HK'; replace HK0 := HK'; clear HK'; have hs := Lib.hid ((HK0.out.takeL 1).takeR 0)
  refine hK.out _ _ hs (fun hHeld => ?_)
  clear hK K
  try simp only [ap1, ap2, ap3, ap4, ap5]
  refine wpAnyH_take (i := 12) (oi := ⟨some 15, _, _, _, _, _⟩) (v := ?_) rfl (by kernel_rfl) (by kernel_rfl) (by kernel_rfl) (fun _ _ _ h => h) (Or.inl ⟨by rfl, ?_⟩) (by assumption) ?_
  rotate_left
  · (intro w hSw; (try dsimp only at hSw); go_simp; try with_reducible rfl)
  try simp only [Act.put, List.setIfInBounds_toArray, List.set_cons_zero, List.set_cons_succ]
  refine wpAnyH_ready (rs := [13]) (by kernel_rfl) (by simp) ?_
  refine AllReadyH.cons (o := ⟨none, _, _, _, _, _⟩) rfl (fun K hK => ?_) AllReadyH.nil
  refine step_sl HK0 1 (by rfl) _ _ (by rfl) (by rfl) (by rfl) (by rfl) (by rfl) (by rfl) ?_; intro _ HK'; simp only [List.set] at HK'; replace HK0 := HK'; clear HK'; have hs := Lib.hid ((HK0.out.takeL 1).takeR 0)
  refine hK.out _ _ hs (fun hHeld => ?_)
  clear hK K
  try simp only [ap1, ap2, ap3, ap4, ap5]
  refine wpAnyH_done (by kernel_rfl) ?_ _
  rotate_left
  all_goals
    have HK := HK0
    clear HK0 hHeld
    go_wp2_with fail
    first
      | exact ret_ld Try.results30 rfl rfl (HK.out.blk 1 rfl) ⟨_, _, _, _, _, _, rfl, HK.out.takeL 0⟩
      | exact ret_ld Try.results30 rfl rfl (HK.out.blk 1 rfl) ⟨_, _, _, _, _, _, rfl, (HK.out.takeL 0).swapR⟩
set_option maxHeartbeats 1600000 in
theorem lnew_any (v : Int) (w : World) : Calls Try.prog 23 #[.int .i64 v] w fun e w' => e = .returned (.agg #[.int .i64 v, .int .i64 0, .int .u32 ((0 : Nat) : Int), .slice none 0 0, .slice none 0 0]) ∧ Below w.heap.size w w' := by
  go_enter Try.func23, Try.ntmps23
  have HK := kn1 w 35 (ldC 0 0 0 (.slice none 0 0) (.slice none 0 0))
  go_wp2_with (first | (refine wpList_sl HK 0 rfl _ _ rfl rfl rfl rfl rfl rfl ?_; intro _ HK'; simp only [List.set] at HK'; replace HK := HK'; clear HK'))
  exact ret_ld Try.results23 rfl rfl (HK.out.blk 0 rfl) ⟨rfl, HK.out.b⟩
set_option maxHeartbeats 1600000 in
theorem lrnew_any (v : Int) (w : World) : Calls Try.prog 24 #[.int .i64 v] w fun e w' => e = .returned (.agg #[.int .i64 v, .int .i64 0, .int .u32 ((0 : Nat) : Int), .slice none 0 0, .slice none 0 0]) ∧ Below w.heap.size w w' := by
  go_enter Try.func24, Try.ntmps24
  have HK := kn1 w 35 (ldC 0 0 0 (.slice none 0 0) (.slice none 0 0))
  go_wp2_with (first | (refine wpList_sl HK 0 rfl _ _ rfl rfl rfl rfl rfl rfl ?_; intro _ HK'; simp only [List.set] at HK'; replace HK := HK'; clear HK'))
  exact ret_ld Try.results24 rfl rfl (HK.out.blk 0 rfl) ⟨rfl, HK.out.b⟩
end Go.Proofs.Ytfboneehnmbklaa
