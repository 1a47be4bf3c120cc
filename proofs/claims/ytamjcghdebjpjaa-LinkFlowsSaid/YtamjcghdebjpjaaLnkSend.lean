/-
  What Send returns.
  No condition but that an end has no more payloads than the form's reach, and a first number of no more.
-/
import Derived.Test.YtamjcghdebjpjaaLnkMeet
namespace Go.Proofs.Ytamjcghdebjpjaa
open Go.RowKit

/-- An end, a packet, an error. -/
def IsS (r : Lnk.L × Lnk.Pkt × Int) (w : World) (e : Ending) (w' : World) : Prop := ∃ A c, e = .returned (.tuple #[.agg (lA (.slice A r.1.out.length c) r.1), .agg (pA r.2.1), .int .i64 r.2.2]) ∧ strLay.Own w.heap.size w' (.slice A r.1.out.length c) r.1.out ∧ Below w.heap.size w w'
theorem send_is (l : Lnk.L) (body : ByteArray) (win : Int) : (win ≤ l.out.length ∧ Lnk.send l body win = (l, Lnk.noPkt, 15)) ∨ ((l.out.length : Int) < win ∧ Lnk.send l body win = (⟨l.ms, l.mc, l.ps, l.pc, l.out ++ [body], l.base, l.got, l.age⟩, Lnk.pkt l (l.base + l.out.length) body, 0)) := by
  unfold Lnk.send
  by_cases h : win ≤ (l.out.length : Int)
  · exact .inl ⟨h, if_pos h⟩
  · exact .inr ⟨by omega, if_neg h⟩
set_option maxHeartbeats 3200000 in
theorem send_any (A : Option Addr) (c : Nat) (l : Lnk.L) (body : ByteArray) (win : Int) (w : World) (hi : In w A l) (hb : 1 ≤ l.base ∧ l.base ≤ 1000000) :
    Calls Try.prog 25 #[.agg (lA (.slice A l.out.length c) l), .string body, .int .i64 win] w (IsS (Lnk.send l body win) w) := by
  have HO := own_pre c hi
  have hs := send_is l body win
  have hL := hi.2.2
  generalize Lnk.send l body win = r at *
  obtain ⟨ms, mc, ps, pc, out, base, got, age⟩ := l
  unfold lA Lnk.pkt at *
  simp only at HO hs hb hL ⊢
  clear hi
  have HK := kn3 w 27 (lC (.slice A out.length c) ms mc ps pc base got age) 27 (lC (.slice none 0 0) 0 0 0 0 0 0 0) 36 (pC 0 0 0 0 0 0 ⟨#[]⟩)
  go_enter Try.func25, Try.ntmps25
  go_wp2_with (first | refine wpList_kll HK 0 rfl _ rfl rfl rfl ?_)
  refine (HO.out _ HK.out.b).mono ?_; rintro e w1 ⟨A1, c1, rfl, o1, b1⟩
  replace HK := Lib.hid (HK.out.called b1 o1)
  clear b1 o1 HO
  unfold lA at *
  simp only [List.nil_append] at HK
  have HLen : Hid ((out ++ [body]).length = out.length + 1) := Lib.hid (by simp)
  rcases hs with ⟨h1, rfl⟩ | ⟨h1, rfl⟩
  · generalize hn : out.length = n at *
    go_wp2_with (first | refine wpList_kll HK 0 rfl _ rfl rfl rfl ?_ | (refine wpList_ksl HK 0 rfl _ _ rfl rfl rfl rfl rfl ?_; intro _ HK' _; simp only [List.set] at HK'; replace HK := HK'; clear HK') | refine wpList_kci HK 0 rfl _ rfl rfl rfl rfl ?_ | refine wpList_kcv HK 0 rfl _ rfl rfl rfl rfl ?_ | (refine wpList_ksl HK 1 rfl _ _ rfl rfl rfl rfl rfl ?_; intro _ HK' _; simp only [List.set] at HK'; replace HK := HK'; clear HK') | (refine wpList_ksp HK 2 rfl _ _ rfl rfl rfl rfl rfl ?_; intro _ HK' _; simp only [List.set] at HK'; replace HK := HK'; clear HK'))
    refine ret_lk Try.results25 rfl rfl rfl rfl (HK.out.blk 1 rfl) (HK.out.blk 2 rfl) ?_
    subst hn
    exact ⟨A1, c1, rfl, HK.out.own 0 rfl, HK.out.b⟩
  · have hk1 : IntKind.i64.wrap (base + (out.length : Int)) = base + (out.length : Int) := IntWalk.i64_in _ (by omega)
    have HP := Lib.hid (fun W => packet_any (.slice A1 out.length c1) ms mc ps pc base got age (base + (out.length : Int)) body W)
    generalize hn : out.length = n at *
    have HN := Lib.hid hn
    clear hn
    have HL1 : Hid (out.length + [body].length ≤ 9223372036854775807 ∧ (out.length + [body].length) * strLay.bytes ≤ 211106232532992) := Lib.hid ⟨by rw [HN.out]; simp; omega, by rw [HN.out]; show _ * 16 ≤ _; simp; omega⟩
    go_wp2_with (first | refine wpList_kll HK 0 rfl _ rfl rfl rfl ?_ | (refine wpList_ksl HK 0 rfl _ _ rfl rfl rfl rfl rfl ?_; intro _ HK' _; simp only [List.set] at HK'; replace HK := HK'; clear HK') | refine wpList_kci HK 0 rfl _ rfl rfl rfl rfl ?_ | refine wpList_kcv HK 0 rfl _ rfl rfl rfl rfl ?_)
    refine (HP.out _).mono ?_; rintro e w2 ⟨rfl, b2⟩
    replace HK := Lib.hid ((HK.out.call b2).alloc 36 (pC 0 0 0 0 0 0 ⟨#[]⟩))
    simp only [List.cons_append, List.nil_append] at HK
    clear b2
    unfold pA
    go_wp2_with (first | (refine wpList_ksp HK 3 rfl _ _ rfl rfl rfl rfl rfl ?_; intro _ HK' _; simp only [List.set] at HK'; replace HK := HK'; clear HK') | refine wpList_kll HK 0 rfl _ rfl rfl rfl ?_ | refine wpList_kcv HK 0 rfl _ rfl rfl rfl rfl ?_ | (at_builtin; refine wpList_kpush HK strLay 0 rfl _ _ rfl rfl rfl [body] rfl rfl rfl rfl HL1 HLen ?_; intro A3 c3 _ HK'; simp only [List.set] at HK'; replace HK := HK'; clear HK') | (refine wpList_k4 HK 0 rfl _ _ rfl rfl rfl rfl ?_; intro _ HK' _; simp only [List.set] at HK'; replace HK := HK'; clear HK'))
    replace HK := Lib.hid HK.out.drew
    refine wp_region_any (by kernel_rfl) ?_
    change wpAny _ _ _ _ _ _ _ (World.drew _)
    refine wpAny_ready (rs := [0, 1]) (by kernel_rfl) (by simp) ?_
    refine AllReady.cons (o := ⟨some 34, _, _, _, _, _⟩) rfl (fun K hK => ?_) (AllReady.cons (o := ⟨some 35, _, _, _, _, _⟩) rfl (fun K hK => ?_) AllReady.nil)
    replace hK := Lib.hid hK
    refine step_kll HK 0 (by rfl) _ (by rfl) (by rfl) (by rfl) ?_
    refine hK.out _ _ ?_
    clear hK K
    try simp only [Act.put, List.setIfInBounds_toArray, List.set_cons_zero, List.set_cons_succ]
    refine wpAny_ready (rs := [1, 2]) (by kernel_rfl) (by simp) ?_
    refine AllReady.cons (o := ⟨some 35, _, _, _, _, _⟩) rfl (fun K hK => ?_) (AllReady.cons (o := ⟨none, _, _, _, _, _⟩) rfl (fun K hK => ?_) AllReady.nil)
    replace hK := Lib.hid hK
    refine step_klp HK 3 (by rfl) _ (by rfl) (by rfl) (by rfl) ?_
    refine hK.out _ _ ?_
    clear hK K
    try simp only [Act.put, List.setIfInBounds_toArray, List.set_cons_zero, List.set_cons_succ]
    refine wpAny_ready (rs := [2]) (by kernel_rfl) (by simp) ?_
    refine AllReady.cons (o := ⟨none, _, _, _, _, _⟩) rfl (fun K hK => ?_) AllReady.nil
    replace hK := Lib.hid hK
    refine step_ksl HK 1 (by rfl) _ _ (by rfl) (by rfl) (by rfl) (by rfl) (by rfl) ?_; intro _ HK' _; simp only [List.set] at HK'; replace HK := HK'; clear HK'
    refine hK.out _ _ ?_
    clear hK K
    try simp only [Act.put]
    refine wpAny_ready (rs := [3]) (by kernel_rfl) (by simp) ?_
    refine AllReady.cons (o := ⟨none, _, _, _, _, _⟩) rfl (fun K hK => ?_) AllReady.nil
    replace hK := Lib.hid hK
    refine step_ksp HK 2 (by rfl) _ _ (by rfl) (by rfl) (by rfl) (by rfl) (by rfl) ?_; intro _ HK' _; simp only [List.set] at HK'; replace HK := HK'; clear HK'
    refine hK.out _ _ ?_
    clear hK K
    try simp only [Act.put]
    refine wpAny_take (i := 4) (oi := ⟨some 8, _, _, _, _, _⟩) (v := ?_) rfl (by kernel_rfl) (by kernel_rfl) (by kernel_rfl) (fun _ _ _ h => h) (Or.inl ⟨by rfl, ?_⟩) ?_
    rotate_left
    · (intro w; go_simp; try with_reducible rfl)
    try simp only [Act.put, List.setIfInBounds_toArray, List.set_cons_zero, List.set_cons_succ]
    refine wpAny_done (by kernel_rfl) ?_ _
    rotate_left
    replace hK := Lib.hid hK
    refine step_ksl HK 1 (by rfl) _ _ (by rfl) (by rfl) (by rfl) (by rfl) (by rfl) ?_; intro _ HK' _; simp only [List.set] at HK'; replace HK := HK'; clear HK'
    refine hK.out _ _ ?_
    clear hK K
    try simp only [Act.put]
    refine wpAny_ready (rs := [1]) (by kernel_rfl) (by simp) ?_
    refine AllReady.cons (o := ⟨some 35, _, _, _, _, _⟩) rfl (fun K hK => ?_) AllReady.nil
    replace hK := Lib.hid hK
    refine step_klp HK 3 (by rfl) _ (by rfl) (by rfl) (by rfl) ?_
    refine hK.out _ _ ?_
    clear hK K
    try simp only [Act.put, List.setIfInBounds_toArray, List.set_cons_zero, List.set_cons_succ]
    refine wpAny_ready (rs := [3]) (by kernel_rfl) (by simp) ?_
    refine AllReady.cons (o := ⟨none, _, _, _, _, _⟩) rfl (fun K hK => ?_) AllReady.nil
    replace hK := Lib.hid hK
    refine step_ksp HK 2 (by rfl) _ _ (by rfl) (by rfl) (by rfl) (by rfl) (by rfl) ?_; intro _ HK' _; simp only [List.set] at HK'; replace HK := HK'; clear HK'
    refine hK.out _ _ ?_
    clear hK K
    try simp only [Act.put]
    refine wpAny_take (i := 4) (oi := ⟨some 8, _, _, _, _, _⟩) (v := ?_) rfl (by kernel_rfl) (by kernel_rfl) (by kernel_rfl) (fun _ _ _ h => h) (Or.inl ⟨by rfl, ?_⟩) ?_
    rotate_left
    · (intro w; go_simp; try with_reducible rfl)
    try simp only [Act.put, List.setIfInBounds_toArray, List.set_cons_zero, List.set_cons_succ]
    refine wpAny_done (by kernel_rfl) ?_ _
    rotate_left
    replace hK := Lib.hid hK
    refine step_klp HK 3 (by rfl) _ (by rfl) (by rfl) (by rfl) ?_
    refine hK.out _ _ ?_
    clear hK K
    try simp only [Act.put, List.setIfInBounds_toArray, List.set_cons_zero, List.set_cons_succ]
    refine wpAny_ready (rs := [0]) (by kernel_rfl) (by simp) ?_
    refine AllReady.cons (o := ⟨some 34, _, _, _, _, _⟩) rfl (fun K hK => ?_) AllReady.nil
    replace hK := Lib.hid hK
    refine step_kll HK 0 (by rfl) _ (by rfl) (by rfl) (by rfl) ?_
    refine hK.out _ _ ?_
    clear hK K
    try simp only [Act.put, List.setIfInBounds_toArray, List.set_cons_zero, List.set_cons_succ]
    refine wpAny_ready (rs := [2]) (by kernel_rfl) (by simp) ?_
    refine AllReady.cons (o := ⟨none, _, _, _, _, _⟩) rfl (fun K hK => ?_) AllReady.nil
    replace hK := Lib.hid hK
    refine step_ksl HK 1 (by rfl) _ _ (by rfl) (by rfl) (by rfl) (by rfl) (by rfl) ?_; intro _ HK' _; simp only [List.set] at HK'; replace HK := HK'; clear HK'
    refine hK.out _ _ ?_
    clear hK K
    try simp only [Act.put]
    refine wpAny_ready (rs := [3]) (by kernel_rfl) (by simp) ?_
    refine AllReady.cons (o := ⟨none, _, _, _, _, _⟩) rfl (fun K hK => ?_) AllReady.nil
    replace hK := Lib.hid hK
    refine step_ksp HK 2 (by rfl) _ _ (by rfl) (by rfl) (by rfl) (by rfl) (by rfl) ?_; intro _ HK' _; simp only [List.set] at HK'; replace HK := HK'; clear HK'
    refine hK.out _ _ ?_
    clear hK K
    try simp only [Act.put]
    refine wpAny_take (i := 4) (oi := ⟨some 8, _, _, _, _, _⟩) (v := ?_) rfl (by kernel_rfl) (by kernel_rfl) (by kernel_rfl) (fun _ _ _ h => h) (Or.inl ⟨by rfl, ?_⟩) ?_
    rotate_left
    · (intro w; go_simp; try with_reducible rfl)
    try simp only [Act.put, List.setIfInBounds_toArray, List.set_cons_zero, List.set_cons_succ]
    refine wpAny_done (by kernel_rfl) ?_ _
    rotate_left
    all_goals
      go_wp2_with fail
      refine ret_lk Try.results25 rfl rfl rfl rfl (HK.out.blk 1 rfl) (HK.out.blk 2 rfl) ⟨A3, c3, ?_, ?_, HK.out.b⟩
      · simp only [HLen.out]; rfl
      · simp only [HLen.out]; exact HK.out.own 0 rfl
end Go.Proofs.Ytamjcghdebjpjaa
