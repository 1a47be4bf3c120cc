/-
  What the document's Meet and Send return.
  No condition but that an end has no more payloads than the form's reach, and a first number of no more.
-/
import Derived.Test.YtamjcghdebjpjaaLnkSend
namespace Go.Proofs.Ytamjcghdebjpjaa
open Go.RowKit

/-- An end whose payloads are those that were handed in, or none. -/
def IsR (A : Option Addr) (c : Nat) (l : Lnk.L) (r : Lnk.L) (w : World) (e : Ending) (w' : World) : Prop := ∃ A' c', e = .returned (.agg (lA (.slice A' r.out.length c') r)) ∧ ((A' = A ∧ c' = c ∧ r.out = l.out) ∨ (A' = none ∧ c' = 0 ∧ r.out = [])) ∧ Below w.heap.size w w'
set_option maxHeartbeats 1600000 in
theorem rmeet_any (A : Option Addr) (c : Nat) (l : Lnk.L) (i : Int) (w : World) : Calls Try.prog 31 #[.agg (lA (.slice A l.out.length c) l), .int .i64 i] w (IsR A c l (Lnk.meet l i) w) := by
  have hm := meet_is l i
  generalize Lnk.meet l i = r at *
  obtain ⟨ms, mc, ps, pc, out, base, got, age⟩ := l
  unfold lA at *
  simp only at hm ⊢
  have HK := kn2 w 27 (lC (.slice A out.length c) ms mc ps pc base got age) 27 (lC (.slice none 0 0) 0 0 0 0 0 0 0)
  rcases hm with ⟨h1, rfl⟩ | ⟨h1, h2, rfl⟩ | ⟨h1, h2, rfl⟩
  · go_enter Try.func31, Try.ntmps31
    go_wp2_with (first | refine wpList_kll HK 0 rfl _ rfl rfl rfl ?_ | (refine wpList_ksl HK 0 rfl _ _ rfl rfl rfl rfl rfl ?_; intro _ HK' _; simp only [List.set] at HK'; replace HK := HK'; clear HK') | refine wpList_kci HK 0 rfl _ rfl rfl rfl rfl ?_ | (refine wpList_ksl HK 1 rfl _ _ rfl rfl rfl rfl rfl ?_; intro _ HK' _; simp only [List.set] at HK'; replace HK := HK'; clear HK'))
    exact ret_l Try.results31 rfl rfl (HK.out.blk 1 rfl) ⟨A, c, rfl, .inl ⟨rfl, rfl, rfl⟩, HK.out.b⟩
  · subst h2
    go_enter Try.func31, Try.ntmps31
    go_wp2_with (first | refine wpList_kll HK 0 rfl _ rfl rfl rfl ?_ | (refine wpList_ksl HK 0 rfl _ _ rfl rfl rfl rfl rfl ?_; intro _ HK' _; simp only [List.set] at HK'; replace HK := HK'; clear HK') | refine wpList_kci HK 0 rfl _ rfl rfl rfl rfl ?_ | (refine wpList_ksl HK 1 rfl _ _ rfl rfl rfl rfl rfl ?_; intro _ HK' _; simp only [List.set] at HK'; replace HK := HK'; clear HK') | (first | (refine wpList_k7 HK 0 rfl _ _ rfl rfl rfl rfl ?_; intro _ HK' _; simp only [List.set] at HK'; replace HK := HK'; clear HK') | (refine wpList_k6 HK 0 rfl _ _ rfl rfl rfl rfl ?_; intro _ HK' _; simp only [List.set] at HK'; replace HK := HK'; clear HK') | (refine wpList_k5 HK 0 rfl _ _ rfl rfl rfl rfl ?_; intro _ HK' _; simp only [List.set] at HK'; replace HK := HK'; clear HK') | (refine wpList_k3 HK 0 rfl _ _ rfl rfl rfl rfl ?_; intro _ HK' _; simp only [List.set] at HK'; replace HK := HK'; clear HK')) | (refine wpList_k4 HK 0 rfl _ _ rfl rfl rfl rfl ?_; intro _ HK' _; simp only [List.set] at HK'; replace HK := HK'; clear HK'))
    exact ret_l Try.results31 rfl rfl (HK.out.blk 1 rfl) ⟨A, c, rfl, .inl ⟨rfl, rfl, rfl⟩, HK.out.b⟩
  · have h3 : (pc != 0) = true := by simpa using h2
    clear h2
    go_enter Try.func31, Try.ntmps31
    go_wp2_with (first | refine wpList_kll HK 0 rfl _ rfl rfl rfl ?_ | (refine wpList_ksl HK 0 rfl _ _ rfl rfl rfl rfl rfl ?_; intro _ HK' _; simp only [List.set] at HK'; replace HK := HK'; clear HK') | refine wpList_kci HK 0 rfl _ rfl rfl rfl rfl ?_ | (refine wpList_ksl HK 1 rfl _ _ rfl rfl rfl rfl rfl ?_; intro _ HK' _; simp only [List.set] at HK'; replace HK := HK'; clear HK') | (first | (refine wpList_k7 HK 0 rfl _ _ rfl rfl rfl rfl ?_; intro _ HK' _; simp only [List.set] at HK'; replace HK := HK'; clear HK') | (refine wpList_k6 HK 0 rfl _ _ rfl rfl rfl rfl ?_; intro _ HK' _; simp only [List.set] at HK'; replace HK := HK'; clear HK') | (refine wpList_k5 HK 0 rfl _ _ rfl rfl rfl rfl ?_; intro _ HK' _; simp only [List.set] at HK'; replace HK := HK'; clear HK') | (refine wpList_k3 HK 0 rfl _ _ rfl rfl rfl rfl ?_; intro _ HK' _; simp only [List.set] at HK'; replace HK := HK'; clear HK')) | (refine wpList_k4 HK 0 rfl _ _ rfl rfl rfl rfl ?_; intro _ HK' _; simp only [List.set] at HK'; replace HK := HK'; clear HK'))
    exact ret_l Try.results31 rfl rfl (HK.out.blk 1 rfl) ⟨none, 0, rfl, .inr ⟨rfl, rfl, rfl⟩, HK.out.b⟩
/-- A row of the call's own, or what was handed in. -/
def From (w w' : World) (A : Option Addr) (c : Nat) (l : List ByteArray) (A' : Option Addr) (c' : Nat) (l' : List ByteArray) : Prop := strLay.Own w.heap.size w' (.slice A' l'.length c') l' ∨ (A' = A ∧ c' = c ∧ l' = l)
/-- An end, a packet, an error. -/
def IsRS (A : Option Addr) (c : Nat) (l : List ByteArray) (r : Lnk.L × Lnk.Pkt × Int) (w : World) (e : Ending) (w' : World) : Prop := ∃ A' c', e = .returned (.tuple #[.agg (lA (.slice A' r.1.out.length c') r.1), .agg (pA r.2.1), .int .i64 r.2.2]) ∧ From w w' A c l A' c' r.1.out ∧ Below w.heap.size w w'
theorem Lay.Own.read {P : Program} {α : Type} {L : Lay P α} {w : World} {base : Nat} {A : Option Addr} {n c : Nat} {l : List α} (h : L.Own base w (.slice A n c) l) : L.Reads w w.heap.size A l ∧ (A = Option.none → l = []) ∧ l.length ≤ c := by
  obtain ⟨h1, h2⟩ := h.reads
  refine ⟨h2, ?_, h.cap⟩
  rintro rfl
  rcases h.2 with ⟨h3, h4⟩ | ⟨g, cap, cur, h3, _⟩
  · exact List.eq_nil_of_length_eq_zero h4
  · cases h3
set_option maxHeartbeats 3200000 in
theorem rsend_any (A : Option Addr) (c : Nat) (l : Lnk.L) (body : ByteArray) (win : Int) (w : World) (hi : In w A l) (hcap : l.out.length ≤ c) (hb : 1 ≤ l.base ∧ l.base ≤ 1000000) :
    Calls Try.prog 29 #[.agg (lA (.slice A l.out.length c) l), .string body, .int .i64 win] w (IsRS A c l.out (Lnk.send l body win) w) := by
  have hs := send_is l body win
  have hL := hi.2.2
  generalize Lnk.send l body win = r at *
  obtain ⟨ms, mc, ps, pc, out, base, got, age⟩ := l
  unfold lA Lnk.pkt at *
  have HI := Lib.hid hi
  have HC := Lib.hid hcap
  simp only at HI HC hs hb hL ⊢
  clear hi hcap
  have HK := kn3 w 27 (lC (.slice A out.length c) ms mc ps pc base got age) 27 (lC (.slice none 0 0) 0 0 0 0 0 0 0) 36 (pC 0 0 0 0 0 0 ⟨#[]⟩)
  have HLen3 : Hid ((out ++ [body]).length = out.length + 1) := Lib.hid (by simp)
  have HLen : Hid (([] ++ out ++ [body]).length = out.length + 1) := Lib.hid (by simp)
  rcases hs with ⟨h1, rfl⟩ | ⟨h1, rfl⟩
  · generalize hn : out.length = n at *
    go_enter Try.func29, Try.ntmps29
    go_wp2_with (first | refine wpList_kll HK 0 rfl _ rfl rfl rfl ?_ | (refine wpList_ksl HK 0 rfl _ _ rfl rfl rfl rfl rfl ?_; intro _ HK' _; simp only [List.set] at HK'; replace HK := HK'; clear HK') | refine wpList_kci HK 0 rfl _ rfl rfl rfl rfl ?_ | refine wpList_kcv HK 0 rfl _ rfl rfl rfl rfl ?_ | (refine wpList_ksl HK 1 rfl _ _ rfl rfl rfl rfl rfl ?_; intro _ HK' _; simp only [List.set] at HK'; replace HK := HK'; clear HK') | (refine wpList_ksp HK 2 rfl _ _ rfl rfl rfl rfl rfl ?_; intro _ HK' _; simp only [List.set] at HK'; replace HK := HK'; clear HK'))
    refine ret_lk Try.results29 rfl rfl rfl rfl (HK.out.blk 1 rfl) (HK.out.blk 2 rfl) ?_
    subst hn
    exact ⟨A, c, rfl, .inr ⟨rfl, rfl, rfl⟩, HK.out.b⟩
  · have hk1 : IntKind.i64.wrap (base + (out.length : Int) + 1) = base + (out.length : Int) + 1 := IntWalk.i64_in _ (by omega)
    have hk5 : IntKind.i64.wrap (base + (out.length : Int)) = base + (out.length : Int) := IntWalk.i64_in _ (by omega)
    have hk2 : IntKind.i64.wrap (base + ((out.length : Int) + 1)) = base + (out.length : Int) + 1 := by rw [← Int.add_assoc]; exact hk1
    have hk3 : IntKind.i64.wrap (base + (out.length : Int) + 1 - 1) = base + (out.length : Int) := by rw [show base + (out.length : Int) + 1 - 1 = base + (out.length : Int) from by omega]; exact IntWalk.i64_in _ (by omega)
    have hk4 : IntKind.i64.wrap (base + ((out.length : Int) + 1) - 1) = base + (out.length : Int) := by rw [show base + ((out.length : Int) + 1) - 1 = base + (out.length : Int) from by omega]; exact IntWalk.i64_in _ (by omega)
    generalize hn : out.length = n at *
    have HN := Lib.hid hn
    clear hn
    have HM : Hid (strLay.Reads w w.heap.size A out ∧ (A = none → out = [])) := Lib.hid ⟨HI.out.1, HI.out.2.1⟩
    have HL1 : Hid (([] : List ByteArray).length + out.length ≤ 9223372036854775807 ∧ (([] : List ByteArray).length + out.length) * strLay.bytes ≤ 211106232532992) := Lib.hid ⟨by rw [HN.out]; simp; omega, by rw [HN.out]; show _ * 16 ≤ _; simp; omega⟩
    have HL2 : Hid (([] ++ out).length + [body].length ≤ 9223372036854775807 ∧ (([] ++ out).length + [body].length) * strLay.bytes ≤ 211106232532992) := Lib.hid ⟨by rw [List.nil_append, HN.out]; simp; omega, by rw [List.nil_append, HN.out]; show _ * 16 ≤ _; simp; omega⟩
    have HN1 : Hid (([] ++ out).length = n) := Lib.hid (by rw [List.nil_append]; exact HN.out)
    have HKl := Lib.hid (HK.out.literalAt strLay (w.heap.size + 3) (by simp))
    simp only [List.nil_append] at HKl
    have HMl : Hid (strLay.Reads _ w.heap.size A out ∧ (A = none → out = [])) := Lib.hid ⟨HM.out.1.below HKl.out.b, HM.out.2⟩
    go_enter Try.func29, Try.ntmps29
    go_wp2_with (first | refine wpList_kcv HK 0 rfl _ rfl rfl rfl rfl ?_ | (refine wpList_kcv HKl 0 rfl _ rfl rfl rfl rfl ?_; replace HK := HKl; clear HKl) | (at_builtin; refine wpList_kmore HK strLay 0 rfl _ _ rfl rfl rfl out rfl HN.out.symm HMl HL1 HN1 ?_; intro A3 c3 _ HK'; simp only [List.set] at HK'; replace HK := HK'; clear HK') | (at_builtin; refine wpList_kpush HK strLay 0 rfl _ _ rfl rfl rfl [body] rfl rfl rfl rfl HL2 HLen ?_; intro A4 c4 _ HK'; simp only [List.set] at HK'; replace HK := HK'; clear HK') | (refine wpList_k4 HK 0 rfl _ _ rfl rfl rfl rfl ?_; intro _ HK' _; simp only [List.set] at HK'; replace HK := HK'; clear HK'))
    replace HK := Lib.hid HK.out.drew
    have HP := Lib.hid (fun W => rpacket_any (.slice A4 (n + 1) c4) ms mc ps pc base got age (base + (n : Int)) body W)
    have HH := Lib.hid ((HK.out.takeL 1).takeR 0)
    refine wp_region_held_drew (S := (fun W => Hid (Kn w.heap.size w W [(w.heap.size, 27, lC (.slice A4 (n + 1) c4) ms mc ps pc base got age)] []))) (by kernel_rfl) ?_ (fun hHeld => ?_)
    · (try dsimp only); exact HH
    refine wpAnyH_take (i := 0) (oi := ⟨some 24, _, _, _, _, _⟩) (v := ?_) rfl (by kernel_rfl) (by kernel_rfl) (by kernel_rfl) (fun _ _ _ h => h) (Or.inl ⟨by rfl, ?_⟩) (by assumption) ?_
    rotate_left
    · (intro w hSw; refine Eq.trans (kexec_ll hSw 0 _ (by rfl) (by rfl) (by rfl)) ?_; with_reducible rfl)
    try simp only [Act.put, List.setIfInBounds_toArray, List.set_cons_zero, List.set_cons_succ]
    refine wpAnyH_take (i := 1) (oi := ⟨some 25, _, _, _, _, _⟩) (v := ?_) rfl (by kernel_rfl) (by kernel_rfl) (by kernel_rfl) (fun _ _ _ h => h) (Or.inl ⟨by rfl, ?_⟩) (by assumption) ?_
    rotate_left
    · (intro w hSw; refine Eq.trans (kexec_ll hSw 0 _ (by rfl) (by rfl) (by rfl)) ?_; with_reducible rfl)
    try simp only [Act.put, List.setIfInBounds_toArray, List.set_cons_zero, List.set_cons_succ]
    refine wpAnyH_take (i := 2) (oi := ⟨some 26, _, _, _, _, _⟩) (v := ?_) rfl (by kernel_rfl) (by kernel_rfl) (by kernel_rfl) (fun _ _ _ h => h) (Or.inl ⟨by rfl, ?_⟩) (by assumption) ?_
    rotate_left
    · (intro w hSw; (try dsimp only at hSw); go_simp; try with_reducible rfl)
    try simp only [Act.put, List.setIfInBounds_toArray, List.set_cons_zero, List.set_cons_succ]
    refine wpAnyH_take (i := 3) (oi := ⟨some 27, _, _, _, _, _⟩) (v := ?_) rfl (by kernel_rfl) (by kernel_rfl) (by kernel_rfl) (fun _ _ _ h => h) (Or.inl ⟨by rfl, ?_⟩) (by assumption) ?_
    rotate_left
    · (intro w hSw; refine Eq.trans (kexec_ci hSw 0 _ (by rfl) (by rfl) (by rfl) (by rfl)) ?_; with_reducible rfl)
    try simp only [Act.put, List.setIfInBounds_toArray, List.set_cons_zero, List.set_cons_succ]
    refine wpAnyH_take (i := 4) (oi := ⟨some 28, _, _, _, _, _⟩) (v := ?_) rfl (by kernel_rfl) (by kernel_rfl) (by kernel_rfl) (fun _ _ _ h => h) (Or.inl ⟨by rfl, ?_⟩) (by assumption) ?_
    rotate_left
    · (intro w hSw; (try dsimp only at hSw); go_simp; try with_reducible rfl)
    try simp only [Act.put, List.setIfInBounds_toArray, List.set_cons_zero, List.set_cons_succ]
    refine wpAnyH_take (i := 5) (oi := ⟨some 29, _, _, _, _, _⟩) (v := ?_) rfl (by kernel_rfl) (by kernel_rfl) (by kernel_rfl) (fun _ _ _ h => h) (Or.inl ⟨by rfl, ?_⟩) (by assumption) ?_
    rotate_left
    · (intro w hSw; refine Eq.trans (kexec_cv hSw 0 _ (by rfl) (by rfl) (by rfl) (by rfl)) ?_; with_reducible rfl)
    try simp only [Act.put, List.setIfInBounds_toArray, List.set_cons_zero, List.set_cons_succ]
    refine wpAnyH_take (i := 6) (oi := ⟨some 30, _, _, _, _, _⟩) (v := ?_) rfl (by kernel_rfl) (by kernel_rfl) (by kernel_rfl) (fun _ _ _ h => h) (Or.inl ⟨by rfl, ?_⟩) (by assumption) ?_
    rotate_left
    · (intro w hSw; (try dsimp only at hSw); go_simp; try with_reducible rfl)
    try simp only [Act.put, List.setIfInBounds_toArray, List.set_cons_zero, List.set_cons_succ]
    refine wpAnyH_take (i := 7) (oi := ⟨some 31, _, _, _, _, _⟩) (v := ?_) rfl (by kernel_rfl) (by kernel_rfl) (by kernel_rfl) (fun _ _ _ h => h) (Or.inl ⟨by rfl, ?_⟩) (by assumption) ?_
    rotate_left
    · (intro w hSw; (try dsimp only at hSw); go_simp; try with_reducible rfl)
    try simp only [Act.put, List.setIfInBounds_toArray, List.set_cons_zero, List.set_cons_succ]
    refine wpAnyH_take (i := 8) (oi := ⟨some 32, _, _, _, _, _⟩) (v := ?_) rfl (by kernel_rfl) (by kernel_rfl) (by kernel_rfl) (fun _ _ _ h => h) (Or.inl ⟨by rfl, ?_⟩) (by assumption) ?_
    rotate_left
    · (intro w hSw; (try dsimp only at hSw); go_simp; try with_reducible rfl)
    try simp only [Act.put, List.setIfInBounds_toArray, List.set_cons_zero, List.set_cons_succ]
    refine wpAnyH_take (i := 9) (oi := ⟨some 33, _, _, _, _, _⟩) (v := ?_) rfl (by kernel_rfl) (by kernel_rfl) (by kernel_rfl) (fun _ _ _ h => h) (Or.inl ⟨by rfl, ?_⟩) (by assumption) ?_
    rotate_left
    · (intro w hSw; (try dsimp only at hSw); go_simp; try with_reducible rfl)
    try simp only [Act.put, List.setIfInBounds_toArray, List.set_cons_zero, List.set_cons_succ]
    refine wpAnyH_ready (rs := [10]) (by kernel_rfl) (by simp) ?_
    refine AllReadyH.cons (o := ⟨some 34, _, _, _, _, _⟩) rfl (fun K hK => ?_) AllReadyH.nil
    go_simp
    go_at_call 43
    refine (HP.out _).mono ?_; rintro e w2 ⟨rfl, b2⟩; replace HK := Lib.hid (HK.out.call b2); have hs := Lib.hid ((HK.out.takeL 1).takeR 0); clear b2; unfold pA
    refine hK.out _ _ hs (fun hHeld => ?_)
    clear hK K
    try simp only 
    refine wpAnyH_ready (rs := [11]) (by kernel_rfl) (by simp) ?_
    refine AllReadyH.cons (o := ⟨none, _, _, _, _, _⟩) rfl (fun K hK => ?_) AllReadyH.nil
    refine step_ksl HK 1 (by rfl) _ _ (by rfl) (by rfl) (by rfl) (by rfl) (by rfl) ?_; intro _ HK' _; simp only [List.set] at HK'; replace HK := HK'; clear HK'; have hs := Lib.hid ((HK.out.takeL 1).takeR 0)
    refine hK.out _ _ hs (fun hHeld => ?_)
    clear hK K
    try simp only [Act.put]
    refine wpAnyH_ready (rs := [12]) (by kernel_rfl) (by simp) ?_
    refine AllReadyH.cons (o := ⟨none, _, _, _, _, _⟩) rfl (fun K hK => ?_) AllReadyH.nil
    refine step_ksp HK 2 (by rfl) _ _ (by rfl) (by rfl) (by rfl) (by rfl) (by rfl) ?_; intro _ HK' _; simp only [List.set] at HK'; replace HK := HK'; clear HK'; have hs := Lib.hid ((HK.out.takeL 1).takeR 0)
    refine hK.out _ _ hs (fun hHeld => ?_)
    clear hK K
    try simp only [Act.put]
    refine wpAnyH_take (i := 13) (oi := ⟨some 8, _, _, _, _, _⟩) (v := ?_) rfl (by kernel_rfl) (by kernel_rfl) (by kernel_rfl) (fun _ _ _ h => h) (Or.inl ⟨by rfl, ?_⟩) (by assumption) ?_
    rotate_left
    · (intro w hSw; (try dsimp only at hSw); go_simp; try with_reducible rfl)
    try simp only [Act.put, List.setIfInBounds_toArray, List.set_cons_zero, List.set_cons_succ]
    refine wpAnyH_done (by kernel_rfl) ?_ _
    go_wp2_with fail
    refine ret_lk Try.results29 rfl rfl rfl rfl (HK.out.blk 1 rfl) (HK.out.blk 2 rfl) ⟨A4, c4, ?_, ?_, HK.out.b⟩
    · simp only [HLen3.out]; rfl
    · refine .inl ?_
      simp only [HLen3.out]; exact HK.out.own 0 rfl
end Go.Proofs.Ytamjcghdebjpjaa
