/-
  The law LinkPlays: it returns true whatever is handed in.
  No condition but the form's own of a node, a number and a slice of calls: their numbers fit their kinds.
-/
import Derived.Test.YtamjcghdebjpjaaLnkPlaysM
import Derived.Test.YtamjcghdebjpjaaLnkRDo
import Derived.Test.YtamjcghdebjpjaaLnkSame
import Derived.Test.YtamjcghdebjpjaaLnkAwake
namespace Go.Proofs.Ytamjcghdebjpjaa
open Go.RowKit

theorem kexec_ki {b0 : Nat} {w0 w : World} {L : List (Nat × TypeId × Array Value)} {R : List RowE} {o : Oper} {a : Act} (HK : Hid (Kn b0 w0 w L R)) (i : Nat) (x : Operand) (ho : o.op = .load 23 x) {g : Nat} {n m : Int} (hL : L[i]? = some (g, 23, #[.int .i64 n, .int .i64 m])) (hx : a.eval x = .pointer (some ⟨g, 0, none⟩)) :
    (execOp a.eval o).run Try.prog w = .ok (.value (.agg #[.int .i64 n, .int .i64 m])) w :=
  kexec_ls HK _ x ho i hL hx _ (fun j _ => by rw [Nat.zero_add]) Try.underlying23 info_idC

set_option maxRecDepth 100000 in
set_option maxHeartbeats 12800000 in
theorem plays_yes (ms mc slot : Int) (A0 : Option Addr) (c0 : Nat) (l0 : List Lnk.OpS) (w : World) (hl : l0.length ≤ 9223372036854775807) (hi : lopLay.Reads w w.heap.size A0 l0)
    (hw : ∀ x ∈ l0, (-9223372036854775808 ≤ x.p.a ∧ x.p.a ≤ 9223372036854775807) ∧ (-9223372036854775808 ≤ x.p.q ∧ x.p.q ≤ 9223372036854775807)) :
    Lift.Yes Try.prog 3 #[.agg #[.int .i64 ms, .int .i64 mc], .int .i64 slot, .slice A0 l0.length c0] w := by
  unfold Lift.Yes
  have HK := kn1 w 23 #[.int .i64 ms, .int .i64 mc]
  have HI := Lib.hid hi
  have HGet : Hid (∀ k, k < l0.length → ∃ x, l0[k]? = some x ∧ (-9223372036854775808 ≤ x.p.a ∧ x.p.a ≤ 9223372036854775807) ∧ (-9223372036854775808 ≤ x.p.q ∧ x.p.q ≤ 9223372036854775807)) := Lib.hid fun k hk => ⟨l0[k], List.getElem?_eq_getElem hk, hw _ (List.getElem_mem hk)⟩
  have H1 := Lib.hid (fun W => new_any ms mc slot W)
  have H2 := Lib.hid (fun W => rnew_any ms mc slot W)
  have HAw := Lib.hid awake_any
  have HN0 := Lib.hid (Num.new ms mc slot)
  clear hi hw
  generalize hn : l0.length = n at *
  have HN := Lib.hid hn
  clear hn
  generalize Lnk.new ms mc slot = li at *
  go_enter Try.func3, Try.ntmps3
  go_wp2_with fail
  go_cut [7, 8] (fun s7 s8 wx => ∃ (g7 g8 : Nat) (A1 A2 : Option Addr) (c1 c2 : Nat), s7 = .pointer (some ⟨g7, 0, none⟩) ∧ s8 = .pointer (some ⟨g8, 0, none⟩) ∧ Hid (Kn w.heap.size w wx [(g7, 27, lC (.slice A1 li.out.length c1) li.ms li.mc li.ps li.pc li.base li.got li.age), (g8, 27, lC (.slice A2 li.out.length c2) li.ms li.mc li.ps li.pc li.base li.got li.age)] [row strLay (.slice A1 li.out.length c1) li.out, row strLay (.slice A2 li.out.length c2) li.out]))
  case first =>
    replace HK := Lib.hid HK.out.drew
    have HH := Lib.hid ((HK.out.takeL 1).takeR 0)
    refine wp_region_held_drew (S := (fun W => Hid (Kn w.heap.size w W [(w.heap.size, 23, #[.int .i64 ms, .int .i64 mc])] []))) (by kernel_rfl) ?_ (fun hHeld => ?_)
    · (try dsimp only); exact HH
    refine wpAnyH_take (i := 0) (oi := ⟨some 14, _, _, _, _, _⟩) (v := ?_) rfl (by kernel_rfl) (by kernel_rfl) (by kernel_rfl) (fun _ _ _ h => h) (Or.inl ⟨by rfl, ?_⟩) (by assumption) ?_
    rotate_left
    · (intro w hSw; refine Eq.trans (kexec_ki hSw 0 _ (by rfl) (by rfl) (by rfl)) ?_; with_reducible rfl)
    try simp only [Act.put, List.setIfInBounds_toArray, List.set_cons_zero, List.set_cons_succ]
    refine wpAnyH_take (i := 1) (oi := ⟨some 15, _, _, _, _, _⟩) (v := ?_) rfl (by kernel_rfl) (by kernel_rfl) (by kernel_rfl) (fun _ _ _ h => h) (Or.inl ⟨by rfl, ?_⟩) (by assumption) ?_
    rotate_left
    · (intro w hSw; (try dsimp only at hSw); go_simp; try with_reducible rfl)
    try simp only [Act.put, List.setIfInBounds_toArray, List.set_cons_zero, List.set_cons_succ]
    refine wpAnyH_take (i := 3) (oi := ⟨some 17, _, _, _, _, _⟩) (v := ?_) rfl (by kernel_rfl) (by kernel_rfl) (by kernel_rfl) (fun _ _ _ h => h) (Or.inl ⟨by rfl, ?_⟩) (by assumption) ?_
    rotate_left
    · (intro w hSw; refine Eq.trans (kexec_ki hSw 0 _ (by rfl) (by rfl) (by rfl)) ?_; with_reducible rfl)
    try simp only [Act.put, List.setIfInBounds_toArray, List.set_cons_zero, List.set_cons_succ]
    refine wpAnyH_take (i := 4) (oi := ⟨some 18, _, _, _, _, _⟩) (v := ?_) rfl (by kernel_rfl) (by kernel_rfl) (by kernel_rfl) (fun _ _ _ h => h) (Or.inl ⟨by rfl, ?_⟩) (by assumption) ?_
    rotate_left
    · (intro w hSw; (try dsimp only at hSw); go_simp; try with_reducible rfl)
    try simp only [Act.put, List.setIfInBounds_toArray, List.set_cons_zero, List.set_cons_succ]
    refine wpAnyH_ready (rs := [2, 6, 7]) (by kernel_rfl) (by simp) ?_
    refine AllReadyH.cons (o := ⟨some 16, _, _, _, _, _⟩) rfl (fun K hK => ?_) (AllReadyH.cons (o := ⟨some 7, _, _, _, _, _⟩) rfl (fun K hK => ?_) (AllReadyH.cons (o := ⟨some 8, _, _, _, _, _⟩) rfl (fun K hK => ?_) AllReadyH.nil))
    go_simp
    go_at_call 8
    refine (H1.out _).mono ?_; rintro e w2 ⟨A1, c1, rfl, o1, b1⟩; replace HK := Lib.hid (HK.out.called b1 o1); simp only [List.nil_append] at HK; clear b1 o1; have hs := Lib.hid ((HK.out.takeL 1).takeR 0)
    refine hK.out _ _ hs (fun hHeld => ?_)
    clear hK K
    try simp only [Act.put, List.setIfInBounds_toArray, List.set_cons_zero, List.set_cons_succ]
    refine wpAnyH_ready (rs := [5, 6, 7]) (by kernel_rfl) (by simp) ?_
    refine AllReadyH.cons (o := ⟨some 19, _, _, _, _, _⟩) rfl (fun K hK => ?_) (AllReadyH.cons (o := ⟨some 7, _, _, _, _, _⟩) rfl (fun K hK => ?_) (AllReadyH.cons (o := ⟨some 8, _, _, _, _, _⟩) rfl (fun K hK => ?_) AllReadyH.nil))
    go_simp
    go_at_call 9
    refine (H2.out _).mono ?_; rintro e w3 ⟨A2, c2, rfl, o2, b2⟩; replace HK := Lib.hid (HK.out.called b2 o2); simp only [List.cons_append, List.nil_append] at HK; clear b2 o2; have hs := Lib.hid ((HK.out.takeL 1).takeR 0)
    refine hK.out _ _ hs (fun hHeld => ?_)
    clear hK K
    try simp only [Act.put, List.setIfInBounds_toArray, List.set_cons_zero, List.set_cons_succ]
    refine wpAnyH_ready (rs := [6, 7]) (by kernel_rfl) (by simp) ?_
    refine AllReadyH.cons (o := ⟨some 7, _, _, _, _, _⟩) rfl (fun K hK => ?_) (AllReadyH.cons (o := ⟨some 8, _, _, _, _, _⟩) rfl (fun K hK => ?_) AllReadyH.nil)
    refine step_akl HK (by rfl) (by rfl) ?_; intro wA g7 HK' _; simp only [List.cons_append, List.nil_append] at HK'; replace HK := HK'; clear HK'; have hs := Lib.hid ((HK.out.takeL 1).takeR 0)
    refine hK.out _ _ hs (fun hHeld => ?_)
    clear hK K
    try simp only [Act.put, List.setIfInBounds_toArray, List.set_cons_zero, List.set_cons_succ]
    refine wpAnyH_ready (rs := [7]) (by kernel_rfl) (by simp) ?_
    refine AllReadyH.cons (o := ⟨some 8, _, _, _, _, _⟩) rfl (fun K hK => ?_) AllReadyH.nil
    refine step_akl HK (by rfl) (by rfl) ?_; intro wA g8 HK' _; simp only [List.cons_append, List.nil_append] at HK'; replace HK := HK'; clear HK'; have hs := Lib.hid ((HK.out.takeL 1).takeR 0)
    refine hK.out _ _ hs (fun hHeld => ?_)
    clear hK K
    try simp only [Act.put, List.setIfInBounds_toArray, List.set_cons_zero, List.set_cons_succ]
    refine wpAnyH_ready (rs := [8]) (by kernel_rfl) (by simp) ?_
    refine AllReadyH.cons (o := ⟨none, _, _, _, _, _⟩) rfl (fun K hK => ?_) AllReadyH.nil
    first | (refine step_ksl HK 1 (by rfl) _ _ (by rfl) (by rfl) (by rfl) (by rfl) (by rfl) ?_; intro _ HK' _; simp only [List.set] at HK'; replace HK := HK'; clear HK'; have hs := Lib.hid ((HK.out.takeL 1).takeR 0)) | (refine step_ksl HK 2 (by rfl) _ _ (by rfl) (by rfl) (by rfl) (by rfl) (by rfl) ?_; intro _ HK' _; simp only [List.set] at HK'; replace HK := HK'; clear HK'; have hs := Lib.hid ((HK.out.takeL 1).takeR 0))
    refine hK.out _ _ hs (fun hHeld => ?_)
    clear hK K
    try simp only [Act.put]
    refine wpAnyH_ready (rs := [9]) (by kernel_rfl) (by simp) ?_
    refine AllReadyH.cons (o := ⟨none, _, _, _, _, _⟩) rfl (fun K hK => ?_) AllReadyH.nil
    first | (refine step_ksl HK 1 (by rfl) _ _ (by rfl) (by rfl) (by rfl) (by rfl) (by rfl) ?_; intro _ HK' _; simp only [List.set] at HK'; replace HK := HK'; clear HK'; have hs := Lib.hid ((HK.out.takeL 1).takeR 0)) | (refine step_ksl HK 2 (by rfl) _ _ (by rfl) (by rfl) (by rfl) (by rfl) (by rfl) ?_; intro _ HK' _; simp only [List.set] at HK'; replace HK := HK'; clear HK'; have hs := Lib.hid ((HK.out.takeL 1).takeR 0))
    refine hK.out _ _ hs (fun hHeld => ?_)
    clear hK K
    try simp only [Act.put]
    refine wpAnyH_done (by kernel_rfl) ?_ _
    rotate_left
    refine step_akl HK (by rfl) (by rfl) ?_; intro wA g8 HK' _; simp only [List.cons_append, List.nil_append] at HK'; replace HK := HK'; clear HK'; have hs := Lib.hid ((HK.out.takeL 1).takeR 0)
    refine hK.out _ _ hs (fun hHeld => ?_)
    clear hK K
    try simp only [Act.put, List.setIfInBounds_toArray, List.set_cons_zero, List.set_cons_succ]
    refine wpAnyH_ready (rs := [6]) (by kernel_rfl) (by simp) ?_
    refine AllReadyH.cons (o := ⟨some 7, _, _, _, _, _⟩) rfl (fun K hK => ?_) AllReadyH.nil
    refine step_akl HK (by rfl) (by rfl) ?_; intro wA g7 HK' _; simp only [List.cons_append, List.nil_append] at HK'; replace HK := HK'; clear HK'; have hs := Lib.hid ((HK.out.takeL 1).takeR 0)
    refine hK.out _ _ hs (fun hHeld => ?_)
    clear hK K
    try simp only [Act.put, List.setIfInBounds_toArray, List.set_cons_zero, List.set_cons_succ]
    refine wpAnyH_ready (rs := [8]) (by kernel_rfl) (by simp) ?_
    refine AllReadyH.cons (o := ⟨none, _, _, _, _, _⟩) rfl (fun K hK => ?_) AllReadyH.nil
    first | (refine step_ksl HK 1 (by rfl) _ _ (by rfl) (by rfl) (by rfl) (by rfl) (by rfl) ?_; intro _ HK' _; simp only [List.set] at HK'; replace HK := HK'; clear HK'; have hs := Lib.hid ((HK.out.takeL 1).takeR 0)) | (refine step_ksl HK 2 (by rfl) _ _ (by rfl) (by rfl) (by rfl) (by rfl) (by rfl) ?_; intro _ HK' _; simp only [List.set] at HK'; replace HK := HK'; clear HK'; have hs := Lib.hid ((HK.out.takeL 1).takeR 0))
    refine hK.out _ _ hs (fun hHeld => ?_)
    clear hK K
    try simp only [Act.put]
    refine wpAnyH_ready (rs := [9]) (by kernel_rfl) (by simp) ?_
    refine AllReadyH.cons (o := ⟨none, _, _, _, _, _⟩) rfl (fun K hK => ?_) AllReadyH.nil
    first | (refine step_ksl HK 1 (by rfl) _ _ (by rfl) (by rfl) (by rfl) (by rfl) (by rfl) ?_; intro _ HK' _; simp only [List.set] at HK'; replace HK := HK'; clear HK'; have hs := Lib.hid ((HK.out.takeL 1).takeR 0)) | (refine step_ksl HK 2 (by rfl) _ _ (by rfl) (by rfl) (by rfl) (by rfl) (by rfl) ?_; intro _ HK' _; simp only [List.set] at HK'; replace HK := HK'; clear HK'; have hs := Lib.hid ((HK.out.takeL 1).takeR 0))
    refine hK.out _ _ hs (fun hHeld => ?_)
    clear hK K
    try simp only [Act.put]
    refine wpAnyH_done (by kernel_rfl) ?_ _
    rotate_left
    refine step_akl HK (by rfl) (by rfl) ?_; intro wA g7 HK' _; simp only [List.cons_append, List.nil_append] at HK'; replace HK := HK'; clear HK'; have hs := Lib.hid ((HK.out.takeL 1).takeR 0)
    refine hK.out _ _ hs (fun hHeld => ?_)
    clear hK K
    try simp only [Act.put, List.setIfInBounds_toArray, List.set_cons_zero, List.set_cons_succ]
    refine wpAnyH_ready (rs := [5, 7]) (by kernel_rfl) (by simp) ?_
    refine AllReadyH.cons (o := ⟨some 19, _, _, _, _, _⟩) rfl (fun K hK => ?_) (AllReadyH.cons (o := ⟨some 8, _, _, _, _, _⟩) rfl (fun K hK => ?_) AllReadyH.nil)
    go_simp
    go_at_call 9
    refine (H2.out _).mono ?_; rintro e w3 ⟨A2, c2, rfl, o2, b2⟩; replace HK := Lib.hid (HK.out.called b2 o2); simp only [List.cons_append, List.nil_append] at HK; clear b2 o2; have hs := Lib.hid ((HK.out.takeL 1).takeR 0)
    refine hK.out _ _ hs (fun hHeld => ?_)
    clear hK K
    try simp only [Act.put, List.setIfInBounds_toArray, List.set_cons_zero, List.set_cons_succ]
    refine wpAnyH_ready (rs := [7]) (by kernel_rfl) (by simp) ?_
    refine AllReadyH.cons (o := ⟨some 8, _, _, _, _, _⟩) rfl (fun K hK => ?_) AllReadyH.nil
    refine step_akl HK (by rfl) (by rfl) ?_; intro wA g8 HK' _; simp only [List.cons_append, List.nil_append] at HK'; replace HK := HK'; clear HK'; have hs := Lib.hid ((HK.out.takeL 1).takeR 0)
    refine hK.out _ _ hs (fun hHeld => ?_)
    clear hK K
    try simp only [Act.put, List.setIfInBounds_toArray, List.set_cons_zero, List.set_cons_succ]
    refine wpAnyH_ready (rs := [8]) (by kernel_rfl) (by simp) ?_
    refine AllReadyH.cons (o := ⟨none, _, _, _, _, _⟩) rfl (fun K hK => ?_) AllReadyH.nil
    first | (refine step_ksl HK 1 (by rfl) _ _ (by rfl) (by rfl) (by rfl) (by rfl) (by rfl) ?_; intro _ HK' _; simp only [List.set] at HK'; replace HK := HK'; clear HK'; have hs := Lib.hid ((HK.out.takeL 1).takeR 0)) | (refine step_ksl HK 2 (by rfl) _ _ (by rfl) (by rfl) (by rfl) (by rfl) (by rfl) ?_; intro _ HK' _; simp only [List.set] at HK'; replace HK := HK'; clear HK'; have hs := Lib.hid ((HK.out.takeL 1).takeR 0))
    refine hK.out _ _ hs (fun hHeld => ?_)
    clear hK K
    try simp only [Act.put]
    refine wpAnyH_ready (rs := [9]) (by kernel_rfl) (by simp) ?_
    refine AllReadyH.cons (o := ⟨none, _, _, _, _, _⟩) rfl (fun K hK => ?_) AllReadyH.nil
    first | (refine step_ksl HK 1 (by rfl) _ _ (by rfl) (by rfl) (by rfl) (by rfl) (by rfl) ?_; intro _ HK' _; simp only [List.set] at HK'; replace HK := HK'; clear HK'; have hs := Lib.hid ((HK.out.takeL 1).takeR 0)) | (refine step_ksl HK 2 (by rfl) _ _ (by rfl) (by rfl) (by rfl) (by rfl) (by rfl) ?_; intro _ HK' _; simp only [List.set] at HK'; replace HK := HK'; clear HK'; have hs := Lib.hid ((HK.out.takeL 1).takeR 0))
    refine hK.out _ _ hs (fun hHeld => ?_)
    clear hK K
    try simp only [Act.put]
    refine wpAnyH_done (by kernel_rfl) ?_ _
    rotate_left
    refine step_akl HK (by rfl) (by rfl) ?_; intro wA g8 HK' _; simp only [List.cons_append, List.nil_append] at HK'; replace HK := HK'; clear HK'; have hs := Lib.hid ((HK.out.takeL 1).takeR 0)
    refine hK.out _ _ hs (fun hHeld => ?_)
    clear hK K
    try simp only [Act.put, List.setIfInBounds_toArray, List.set_cons_zero, List.set_cons_succ]
    refine wpAnyH_ready (rs := [5]) (by kernel_rfl) (by simp) ?_
    refine AllReadyH.cons (o := ⟨some 19, _, _, _, _, _⟩) rfl (fun K hK => ?_) AllReadyH.nil
    go_simp
    go_at_call 9
    refine (H2.out _).mono ?_; rintro e w3 ⟨A2, c2, rfl, o2, b2⟩; replace HK := Lib.hid (HK.out.called b2 o2); simp only [List.cons_append, List.nil_append] at HK; clear b2 o2; have hs := Lib.hid ((HK.out.takeL 1).takeR 0)
    refine hK.out _ _ hs (fun hHeld => ?_)
    clear hK K
    try simp only [Act.put, List.setIfInBounds_toArray, List.set_cons_zero, List.set_cons_succ]
    refine wpAnyH_ready (rs := [8]) (by kernel_rfl) (by simp) ?_
    refine AllReadyH.cons (o := ⟨none, _, _, _, _, _⟩) rfl (fun K hK => ?_) AllReadyH.nil
    first | (refine step_ksl HK 1 (by rfl) _ _ (by rfl) (by rfl) (by rfl) (by rfl) (by rfl) ?_; intro _ HK' _; simp only [List.set] at HK'; replace HK := HK'; clear HK'; have hs := Lib.hid ((HK.out.takeL 1).takeR 0)) | (refine step_ksl HK 2 (by rfl) _ _ (by rfl) (by rfl) (by rfl) (by rfl) (by rfl) ?_; intro _ HK' _; simp only [List.set] at HK'; replace HK := HK'; clear HK'; have hs := Lib.hid ((HK.out.takeL 1).takeR 0))
    refine hK.out _ _ hs (fun hHeld => ?_)
    clear hK K
    try simp only [Act.put]
    refine wpAnyH_ready (rs := [9]) (by kernel_rfl) (by simp) ?_
    refine AllReadyH.cons (o := ⟨none, _, _, _, _, _⟩) rfl (fun K hK => ?_) AllReadyH.nil
    first | (refine step_ksl HK 1 (by rfl) _ _ (by rfl) (by rfl) (by rfl) (by rfl) (by rfl) ?_; intro _ HK' _; simp only [List.set] at HK'; replace HK := HK'; clear HK'; have hs := Lib.hid ((HK.out.takeL 1).takeR 0)) | (refine step_ksl HK 2 (by rfl) _ _ (by rfl) (by rfl) (by rfl) (by rfl) (by rfl) ?_; intro _ HK' _; simp only [List.set] at HK'; replace HK := HK'; clear HK'; have hs := Lib.hid ((HK.out.takeL 1).takeR 0))
    refine hK.out _ _ hs (fun hHeld => ?_)
    clear hK K
    try simp only [Act.put]
    refine wpAnyH_done (by kernel_rfl) ?_ _
    rotate_left
    refine step_akl HK (by rfl) (by rfl) ?_; intro wA g8 HK' _; simp only [List.cons_append, List.nil_append] at HK'; replace HK := HK'; clear HK'; have hs := Lib.hid ((HK.out.takeL 1).takeR 0)
    refine hK.out _ _ hs (fun hHeld => ?_)
    clear hK K
    try simp only [Act.put, List.setIfInBounds_toArray, List.set_cons_zero, List.set_cons_succ]
    refine wpAnyH_ready (rs := [5, 6]) (by kernel_rfl) (by simp) ?_
    refine AllReadyH.cons (o := ⟨some 19, _, _, _, _, _⟩) rfl (fun K hK => ?_) (AllReadyH.cons (o := ⟨some 7, _, _, _, _, _⟩) rfl (fun K hK => ?_) AllReadyH.nil)
    go_simp
    go_at_call 9
    refine (H2.out _).mono ?_; rintro e w3 ⟨A2, c2, rfl, o2, b2⟩; replace HK := Lib.hid (HK.out.called b2 o2); simp only [List.cons_append, List.nil_append] at HK; clear b2 o2; have hs := Lib.hid ((HK.out.takeL 1).takeR 0)
    refine hK.out _ _ hs (fun hHeld => ?_)
    clear hK K
    try simp only [Act.put, List.setIfInBounds_toArray, List.set_cons_zero, List.set_cons_succ]
    refine wpAnyH_ready (rs := [6]) (by kernel_rfl) (by simp) ?_
    refine AllReadyH.cons (o := ⟨some 7, _, _, _, _, _⟩) rfl (fun K hK => ?_) AllReadyH.nil
    refine step_akl HK (by rfl) (by rfl) ?_; intro wA g7 HK' _; simp only [List.cons_append, List.nil_append] at HK'; replace HK := HK'; clear HK'; have hs := Lib.hid ((HK.out.takeL 1).takeR 0)
    refine hK.out _ _ hs (fun hHeld => ?_)
    clear hK K
    try simp only [Act.put, List.setIfInBounds_toArray, List.set_cons_zero, List.set_cons_succ]
    refine wpAnyH_ready (rs := [8]) (by kernel_rfl) (by simp) ?_
    refine AllReadyH.cons (o := ⟨none, _, _, _, _, _⟩) rfl (fun K hK => ?_) AllReadyH.nil
    first | (refine step_ksl HK 1 (by rfl) _ _ (by rfl) (by rfl) (by rfl) (by rfl) (by rfl) ?_; intro _ HK' _; simp only [List.set] at HK'; replace HK := HK'; clear HK'; have hs := Lib.hid ((HK.out.takeL 1).takeR 0)) | (refine step_ksl HK 2 (by rfl) _ _ (by rfl) (by rfl) (by rfl) (by rfl) (by rfl) ?_; intro _ HK' _; simp only [List.set] at HK'; replace HK := HK'; clear HK'; have hs := Lib.hid ((HK.out.takeL 1).takeR 0))
    refine hK.out _ _ hs (fun hHeld => ?_)
    clear hK K
    try simp only [Act.put]
    refine wpAnyH_ready (rs := [9]) (by kernel_rfl) (by simp) ?_
    refine AllReadyH.cons (o := ⟨none, _, _, _, _, _⟩) rfl (fun K hK => ?_) AllReadyH.nil
    first | (refine step_ksl HK 1 (by rfl) _ _ (by rfl) (by rfl) (by rfl) (by rfl) (by rfl) ?_; intro _ HK' _; simp only [List.set] at HK'; replace HK := HK'; clear HK'; have hs := Lib.hid ((HK.out.takeL 1).takeR 0)) | (refine step_ksl HK 2 (by rfl) _ _ (by rfl) (by rfl) (by rfl) (by rfl) (by rfl) ?_; intro _ HK' _; simp only [List.set] at HK'; replace HK := HK'; clear HK'; have hs := Lib.hid ((HK.out.takeL 1).takeR 0))
    refine hK.out _ _ hs (fun hHeld => ?_)
    clear hK K
    try simp only [Act.put]
    refine wpAnyH_done (by kernel_rfl) ?_ _
    rotate_left
    refine step_akl HK (by rfl) (by rfl) ?_; intro wA g7 HK' _; simp only [List.cons_append, List.nil_append] at HK'; replace HK := HK'; clear HK'; have hs := Lib.hid ((HK.out.takeL 1).takeR 0)
    refine hK.out _ _ hs (fun hHeld => ?_)
    clear hK K
    try simp only [Act.put, List.setIfInBounds_toArray, List.set_cons_zero, List.set_cons_succ]
    refine wpAnyH_ready (rs := [5]) (by kernel_rfl) (by simp) ?_
    refine AllReadyH.cons (o := ⟨some 19, _, _, _, _, _⟩) rfl (fun K hK => ?_) AllReadyH.nil
    go_simp
    go_at_call 9
    refine (H2.out _).mono ?_; rintro e w3 ⟨A2, c2, rfl, o2, b2⟩; replace HK := Lib.hid (HK.out.called b2 o2); simp only [List.cons_append, List.nil_append] at HK; clear b2 o2; have hs := Lib.hid ((HK.out.takeL 1).takeR 0)
    refine hK.out _ _ hs (fun hHeld => ?_)
    clear hK K
    try simp only [Act.put, List.setIfInBounds_toArray, List.set_cons_zero, List.set_cons_succ]
    refine wpAnyH_ready (rs := [8]) (by kernel_rfl) (by simp) ?_
    refine AllReadyH.cons (o := ⟨none, _, _, _, _, _⟩) rfl (fun K hK => ?_) AllReadyH.nil
    first | (refine step_ksl HK 1 (by rfl) _ _ (by rfl) (by rfl) (by rfl) (by rfl) (by rfl) ?_; intro _ HK' _; simp only [List.set] at HK'; replace HK := HK'; clear HK'; have hs := Lib.hid ((HK.out.takeL 1).takeR 0)) | (refine step_ksl HK 2 (by rfl) _ _ (by rfl) (by rfl) (by rfl) (by rfl) (by rfl) ?_; intro _ HK' _; simp only [List.set] at HK'; replace HK := HK'; clear HK'; have hs := Lib.hid ((HK.out.takeL 1).takeR 0))
    refine hK.out _ _ hs (fun hHeld => ?_)
    clear hK K
    try simp only [Act.put]
    refine wpAnyH_ready (rs := [9]) (by kernel_rfl) (by simp) ?_
    refine AllReadyH.cons (o := ⟨none, _, _, _, _, _⟩) rfl (fun K hK => ?_) AllReadyH.nil
    first | (refine step_ksl HK 1 (by rfl) _ _ (by rfl) (by rfl) (by rfl) (by rfl) (by rfl) ?_; intro _ HK' _; simp only [List.set] at HK'; replace HK := HK'; clear HK'; have hs := Lib.hid ((HK.out.takeL 1).takeR 0)) | (refine step_ksl HK 2 (by rfl) _ _ (by rfl) (by rfl) (by rfl) (by rfl) (by rfl) ?_; intro _ HK' _; simp only [List.set] at HK'; replace HK := HK'; clear HK'; have hs := Lib.hid ((HK.out.takeL 1).takeR 0))
    refine hK.out _ _ hs (fun hHeld => ?_)
    clear hK K
    try simp only [Act.put]
    refine wpAnyH_done (by kernel_rfl) ?_ _
    rotate_left
    refine step_akl HK (by rfl) (by rfl) ?_; intro wA g7 HK' _; simp only [List.cons_append, List.nil_append] at HK'; replace HK := HK'; clear HK'; have hs := Lib.hid ((HK.out.takeL 1).takeR 0)
    refine hK.out _ _ hs (fun hHeld => ?_)
    clear hK K
    try simp only [Act.put, List.setIfInBounds_toArray, List.set_cons_zero, List.set_cons_succ]
    refine wpAnyH_ready (rs := [2, 7]) (by kernel_rfl) (by simp) ?_
    refine AllReadyH.cons (o := ⟨some 16, _, _, _, _, _⟩) rfl (fun K hK => ?_) (AllReadyH.cons (o := ⟨some 8, _, _, _, _, _⟩) rfl (fun K hK => ?_) AllReadyH.nil)
    go_simp
    go_at_call 8
    refine (H1.out _).mono ?_; rintro e w2 ⟨A1, c1, rfl, o1, b1⟩; replace HK := Lib.hid (HK.out.called b1 o1); simp only [List.nil_append] at HK; clear b1 o1; have hs := Lib.hid ((HK.out.takeL 1).takeR 0)
    refine hK.out _ _ hs (fun hHeld => ?_)
    clear hK K
    try simp only [Act.put, List.setIfInBounds_toArray, List.set_cons_zero, List.set_cons_succ]
    refine wpAnyH_ready (rs := [5, 7]) (by kernel_rfl) (by simp) ?_
    refine AllReadyH.cons (o := ⟨some 19, _, _, _, _, _⟩) rfl (fun K hK => ?_) (AllReadyH.cons (o := ⟨some 8, _, _, _, _, _⟩) rfl (fun K hK => ?_) AllReadyH.nil)
    go_simp
    go_at_call 9
    refine (H2.out _).mono ?_; rintro e w3 ⟨A2, c2, rfl, o2, b2⟩; replace HK := Lib.hid (HK.out.called b2 o2); simp only [List.cons_append, List.nil_append] at HK; clear b2 o2; have hs := Lib.hid ((HK.out.takeL 1).takeR 0)
    refine hK.out _ _ hs (fun hHeld => ?_)
    clear hK K
    try simp only [Act.put, List.setIfInBounds_toArray, List.set_cons_zero, List.set_cons_succ]
    refine wpAnyH_ready (rs := [7]) (by kernel_rfl) (by simp) ?_
    refine AllReadyH.cons (o := ⟨some 8, _, _, _, _, _⟩) rfl (fun K hK => ?_) AllReadyH.nil
    refine step_akl HK (by rfl) (by rfl) ?_; intro wA g8 HK' _; simp only [List.cons_append, List.nil_append] at HK'; replace HK := HK'; clear HK'; have hs := Lib.hid ((HK.out.takeL 1).takeR 0)
    refine hK.out _ _ hs (fun hHeld => ?_)
    clear hK K
    try simp only [Act.put, List.setIfInBounds_toArray, List.set_cons_zero, List.set_cons_succ]
    refine wpAnyH_ready (rs := [8]) (by kernel_rfl) (by simp) ?_
    refine AllReadyH.cons (o := ⟨none, _, _, _, _, _⟩) rfl (fun K hK => ?_) AllReadyH.nil
    first | (refine step_ksl HK 1 (by rfl) _ _ (by rfl) (by rfl) (by rfl) (by rfl) (by rfl) ?_; intro _ HK' _; simp only [List.set] at HK'; replace HK := HK'; clear HK'; have hs := Lib.hid ((HK.out.takeL 1).takeR 0)) | (refine step_ksl HK 2 (by rfl) _ _ (by rfl) (by rfl) (by rfl) (by rfl) (by rfl) ?_; intro _ HK' _; simp only [List.set] at HK'; replace HK := HK'; clear HK'; have hs := Lib.hid ((HK.out.takeL 1).takeR 0))
    refine hK.out _ _ hs (fun hHeld => ?_)
    clear hK K
    try simp only [Act.put]
    refine wpAnyH_ready (rs := [9]) (by kernel_rfl) (by simp) ?_
    refine AllReadyH.cons (o := ⟨none, _, _, _, _, _⟩) rfl (fun K hK => ?_) AllReadyH.nil
    first | (refine step_ksl HK 1 (by rfl) _ _ (by rfl) (by rfl) (by rfl) (by rfl) (by rfl) ?_; intro _ HK' _; simp only [List.set] at HK'; replace HK := HK'; clear HK'; have hs := Lib.hid ((HK.out.takeL 1).takeR 0)) | (refine step_ksl HK 2 (by rfl) _ _ (by rfl) (by rfl) (by rfl) (by rfl) (by rfl) ?_; intro _ HK' _; simp only [List.set] at HK'; replace HK := HK'; clear HK'; have hs := Lib.hid ((HK.out.takeL 1).takeR 0))
    refine hK.out _ _ hs (fun hHeld => ?_)
    clear hK K
    try simp only [Act.put]
    refine wpAnyH_done (by kernel_rfl) ?_ _
    rotate_left
    refine step_akl HK (by rfl) (by rfl) ?_; intro wA g8 HK' _; simp only [List.cons_append, List.nil_append] at HK'; replace HK := HK'; clear HK'; have hs := Lib.hid ((HK.out.takeL 1).takeR 0)
    refine hK.out _ _ hs (fun hHeld => ?_)
    clear hK K
    try simp only [Act.put, List.setIfInBounds_toArray, List.set_cons_zero, List.set_cons_succ]
    refine wpAnyH_ready (rs := [5]) (by kernel_rfl) (by simp) ?_
    refine AllReadyH.cons (o := ⟨some 19, _, _, _, _, _⟩) rfl (fun K hK => ?_) AllReadyH.nil
    go_simp
    go_at_call 9
    refine (H2.out _).mono ?_; rintro e w3 ⟨A2, c2, rfl, o2, b2⟩; replace HK := Lib.hid (HK.out.called b2 o2); simp only [List.cons_append, List.nil_append] at HK; clear b2 o2; have hs := Lib.hid ((HK.out.takeL 1).takeR 0)
    refine hK.out _ _ hs (fun hHeld => ?_)
    clear hK K
    try simp only [Act.put, List.setIfInBounds_toArray, List.set_cons_zero, List.set_cons_succ]
    refine wpAnyH_ready (rs := [8]) (by kernel_rfl) (by simp) ?_
    refine AllReadyH.cons (o := ⟨none, _, _, _, _, _⟩) rfl (fun K hK => ?_) AllReadyH.nil
    first | (refine step_ksl HK 1 (by rfl) _ _ (by rfl) (by rfl) (by rfl) (by rfl) (by rfl) ?_; intro _ HK' _; simp only [List.set] at HK'; replace HK := HK'; clear HK'; have hs := Lib.hid ((HK.out.takeL 1).takeR 0)) | (refine step_ksl HK 2 (by rfl) _ _ (by rfl) (by rfl) (by rfl) (by rfl) (by rfl) ?_; intro _ HK' _; simp only [List.set] at HK'; replace HK := HK'; clear HK'; have hs := Lib.hid ((HK.out.takeL 1).takeR 0))
    refine hK.out _ _ hs (fun hHeld => ?_)
    clear hK K
    try simp only [Act.put]
    refine wpAnyH_ready (rs := [9]) (by kernel_rfl) (by simp) ?_
    refine AllReadyH.cons (o := ⟨none, _, _, _, _, _⟩) rfl (fun K hK => ?_) AllReadyH.nil
    first | (refine step_ksl HK 1 (by rfl) _ _ (by rfl) (by rfl) (by rfl) (by rfl) (by rfl) ?_; intro _ HK' _; simp only [List.set] at HK'; replace HK := HK'; clear HK'; have hs := Lib.hid ((HK.out.takeL 1).takeR 0)) | (refine step_ksl HK 2 (by rfl) _ _ (by rfl) (by rfl) (by rfl) (by rfl) (by rfl) ?_; intro _ HK' _; simp only [List.set] at HK'; replace HK := HK'; clear HK'; have hs := Lib.hid ((HK.out.takeL 1).takeR 0))
    refine hK.out _ _ hs (fun hHeld => ?_)
    clear hK K
    try simp only [Act.put]
    refine wpAnyH_done (by kernel_rfl) ?_ _
    rotate_left
    refine step_akl HK (by rfl) (by rfl) ?_; intro wA g8 HK' _; simp only [List.cons_append, List.nil_append] at HK'; replace HK := HK'; clear HK'; have hs := Lib.hid ((HK.out.takeL 1).takeR 0)
    refine hK.out _ _ hs (fun hHeld => ?_)
    clear hK K
    try simp only [Act.put, List.setIfInBounds_toArray, List.set_cons_zero, List.set_cons_succ]
    refine wpAnyH_ready (rs := [2]) (by kernel_rfl) (by simp) ?_
    refine AllReadyH.cons (o := ⟨some 16, _, _, _, _, _⟩) rfl (fun K hK => ?_) AllReadyH.nil
    go_simp
    go_at_call 8
    refine (H1.out _).mono ?_; rintro e w2 ⟨A1, c1, rfl, o1, b1⟩; replace HK := Lib.hid (HK.out.called b1 o1); simp only [List.nil_append] at HK; clear b1 o1; have hs := Lib.hid ((HK.out.takeL 1).takeR 0)
    refine hK.out _ _ hs (fun hHeld => ?_)
    clear hK K
    try simp only [Act.put, List.setIfInBounds_toArray, List.set_cons_zero, List.set_cons_succ]
    refine wpAnyH_ready (rs := [5]) (by kernel_rfl) (by simp) ?_
    refine AllReadyH.cons (o := ⟨some 19, _, _, _, _, _⟩) rfl (fun K hK => ?_) AllReadyH.nil
    go_simp
    go_at_call 9
    refine (H2.out _).mono ?_; rintro e w3 ⟨A2, c2, rfl, o2, b2⟩; replace HK := Lib.hid (HK.out.called b2 o2); simp only [List.cons_append, List.nil_append] at HK; clear b2 o2; have hs := Lib.hid ((HK.out.takeL 1).takeR 0)
    refine hK.out _ _ hs (fun hHeld => ?_)
    clear hK K
    try simp only [Act.put, List.setIfInBounds_toArray, List.set_cons_zero, List.set_cons_succ]
    refine wpAnyH_ready (rs := [8]) (by kernel_rfl) (by simp) ?_
    refine AllReadyH.cons (o := ⟨none, _, _, _, _, _⟩) rfl (fun K hK => ?_) AllReadyH.nil
    first | (refine step_ksl HK 1 (by rfl) _ _ (by rfl) (by rfl) (by rfl) (by rfl) (by rfl) ?_; intro _ HK' _; simp only [List.set] at HK'; replace HK := HK'; clear HK'; have hs := Lib.hid ((HK.out.takeL 1).takeR 0)) | (refine step_ksl HK 2 (by rfl) _ _ (by rfl) (by rfl) (by rfl) (by rfl) (by rfl) ?_; intro _ HK' _; simp only [List.set] at HK'; replace HK := HK'; clear HK'; have hs := Lib.hid ((HK.out.takeL 1).takeR 0))
    refine hK.out _ _ hs (fun hHeld => ?_)
    clear hK K
    try simp only [Act.put]
    refine wpAnyH_ready (rs := [9]) (by kernel_rfl) (by simp) ?_
    refine AllReadyH.cons (o := ⟨none, _, _, _, _, _⟩) rfl (fun K hK => ?_) AllReadyH.nil
    first | (refine step_ksl HK 1 (by rfl) _ _ (by rfl) (by rfl) (by rfl) (by rfl) (by rfl) ?_; intro _ HK' _; simp only [List.set] at HK'; replace HK := HK'; clear HK'; have hs := Lib.hid ((HK.out.takeL 1).takeR 0)) | (refine step_ksl HK 2 (by rfl) _ _ (by rfl) (by rfl) (by rfl) (by rfl) (by rfl) ?_; intro _ HK' _; simp only [List.set] at HK'; replace HK := HK'; clear HK'; have hs := Lib.hid ((HK.out.takeL 1).takeR 0))
    refine hK.out _ _ hs (fun hHeld => ?_)
    clear hK K
    try simp only [Act.put]
    refine wpAnyH_done (by kernel_rfl) ?_ _
    rotate_left
    refine step_akl HK (by rfl) (by rfl) ?_; intro wA g8 HK' _; simp only [List.cons_append, List.nil_append] at HK'; replace HK := HK'; clear HK'; have hs := Lib.hid ((HK.out.takeL 1).takeR 0)
    refine hK.out _ _ hs (fun hHeld => ?_)
    clear hK K
    try simp only [Act.put, List.setIfInBounds_toArray, List.set_cons_zero, List.set_cons_succ]
    refine wpAnyH_ready (rs := [2, 6]) (by kernel_rfl) (by simp) ?_
    refine AllReadyH.cons (o := ⟨some 16, _, _, _, _, _⟩) rfl (fun K hK => ?_) (AllReadyH.cons (o := ⟨some 7, _, _, _, _, _⟩) rfl (fun K hK => ?_) AllReadyH.nil)
    go_simp
    go_at_call 8
    refine (H1.out _).mono ?_; rintro e w2 ⟨A1, c1, rfl, o1, b1⟩; replace HK := Lib.hid (HK.out.called b1 o1); simp only [List.nil_append] at HK; clear b1 o1; have hs := Lib.hid ((HK.out.takeL 1).takeR 0)
    refine hK.out _ _ hs (fun hHeld => ?_)
    clear hK K
    try simp only [Act.put, List.setIfInBounds_toArray, List.set_cons_zero, List.set_cons_succ]
    refine wpAnyH_ready (rs := [5, 6]) (by kernel_rfl) (by simp) ?_
    refine AllReadyH.cons (o := ⟨some 19, _, _, _, _, _⟩) rfl (fun K hK => ?_) (AllReadyH.cons (o := ⟨some 7, _, _, _, _, _⟩) rfl (fun K hK => ?_) AllReadyH.nil)
    go_simp
    go_at_call 9
    refine (H2.out _).mono ?_; rintro e w3 ⟨A2, c2, rfl, o2, b2⟩; replace HK := Lib.hid (HK.out.called b2 o2); simp only [List.cons_append, List.nil_append] at HK; clear b2 o2; have hs := Lib.hid ((HK.out.takeL 1).takeR 0)
    refine hK.out _ _ hs (fun hHeld => ?_)
    clear hK K
    try simp only [Act.put, List.setIfInBounds_toArray, List.set_cons_zero, List.set_cons_succ]
    refine wpAnyH_ready (rs := [6]) (by kernel_rfl) (by simp) ?_
    refine AllReadyH.cons (o := ⟨some 7, _, _, _, _, _⟩) rfl (fun K hK => ?_) AllReadyH.nil
    refine step_akl HK (by rfl) (by rfl) ?_; intro wA g7 HK' _; simp only [List.cons_append, List.nil_append] at HK'; replace HK := HK'; clear HK'; have hs := Lib.hid ((HK.out.takeL 1).takeR 0)
    refine hK.out _ _ hs (fun hHeld => ?_)
    clear hK K
    try simp only [Act.put, List.setIfInBounds_toArray, List.set_cons_zero, List.set_cons_succ]
    refine wpAnyH_ready (rs := [8]) (by kernel_rfl) (by simp) ?_
    refine AllReadyH.cons (o := ⟨none, _, _, _, _, _⟩) rfl (fun K hK => ?_) AllReadyH.nil
    first | (refine step_ksl HK 1 (by rfl) _ _ (by rfl) (by rfl) (by rfl) (by rfl) (by rfl) ?_; intro _ HK' _; simp only [List.set] at HK'; replace HK := HK'; clear HK'; have hs := Lib.hid ((HK.out.takeL 1).takeR 0)) | (refine step_ksl HK 2 (by rfl) _ _ (by rfl) (by rfl) (by rfl) (by rfl) (by rfl) ?_; intro _ HK' _; simp only [List.set] at HK'; replace HK := HK'; clear HK'; have hs := Lib.hid ((HK.out.takeL 1).takeR 0))
    refine hK.out _ _ hs (fun hHeld => ?_)
    clear hK K
    try simp only [Act.put]
    refine wpAnyH_ready (rs := [9]) (by kernel_rfl) (by simp) ?_
    refine AllReadyH.cons (o := ⟨none, _, _, _, _, _⟩) rfl (fun K hK => ?_) AllReadyH.nil
    first | (refine step_ksl HK 1 (by rfl) _ _ (by rfl) (by rfl) (by rfl) (by rfl) (by rfl) ?_; intro _ HK' _; simp only [List.set] at HK'; replace HK := HK'; clear HK'; have hs := Lib.hid ((HK.out.takeL 1).takeR 0)) | (refine step_ksl HK 2 (by rfl) _ _ (by rfl) (by rfl) (by rfl) (by rfl) (by rfl) ?_; intro _ HK' _; simp only [List.set] at HK'; replace HK := HK'; clear HK'; have hs := Lib.hid ((HK.out.takeL 1).takeR 0))
    refine hK.out _ _ hs (fun hHeld => ?_)
    clear hK K
    try simp only [Act.put]
    refine wpAnyH_done (by kernel_rfl) ?_ _
    rotate_left
    refine step_akl HK (by rfl) (by rfl) ?_; intro wA g7 HK' _; simp only [List.cons_append, List.nil_append] at HK'; replace HK := HK'; clear HK'; have hs := Lib.hid ((HK.out.takeL 1).takeR 0)
    refine hK.out _ _ hs (fun hHeld => ?_)
    clear hK K
    try simp only [Act.put, List.setIfInBounds_toArray, List.set_cons_zero, List.set_cons_succ]
    refine wpAnyH_ready (rs := [5]) (by kernel_rfl) (by simp) ?_
    refine AllReadyH.cons (o := ⟨some 19, _, _, _, _, _⟩) rfl (fun K hK => ?_) AllReadyH.nil
    go_simp
    go_at_call 9
    refine (H2.out _).mono ?_; rintro e w3 ⟨A2, c2, rfl, o2, b2⟩; replace HK := Lib.hid (HK.out.called b2 o2); simp only [List.cons_append, List.nil_append] at HK; clear b2 o2; have hs := Lib.hid ((HK.out.takeL 1).takeR 0)
    refine hK.out _ _ hs (fun hHeld => ?_)
    clear hK K
    try simp only [Act.put, List.setIfInBounds_toArray, List.set_cons_zero, List.set_cons_succ]
    refine wpAnyH_ready (rs := [8]) (by kernel_rfl) (by simp) ?_
    refine AllReadyH.cons (o := ⟨none, _, _, _, _, _⟩) rfl (fun K hK => ?_) AllReadyH.nil
    first | (refine step_ksl HK 1 (by rfl) _ _ (by rfl) (by rfl) (by rfl) (by rfl) (by rfl) ?_; intro _ HK' _; simp only [List.set] at HK'; replace HK := HK'; clear HK'; have hs := Lib.hid ((HK.out.takeL 1).takeR 0)) | (refine step_ksl HK 2 (by rfl) _ _ (by rfl) (by rfl) (by rfl) (by rfl) (by rfl) ?_; intro _ HK' _; simp only [List.set] at HK'; replace HK := HK'; clear HK'; have hs := Lib.hid ((HK.out.takeL 1).takeR 0))
    refine hK.out _ _ hs (fun hHeld => ?_)
    clear hK K
    try simp only [Act.put]
    refine wpAnyH_ready (rs := [9]) (by kernel_rfl) (by simp) ?_
    refine AllReadyH.cons (o := ⟨none, _, _, _, _, _⟩) rfl (fun K hK => ?_) AllReadyH.nil
    first | (refine step_ksl HK 1 (by rfl) _ _ (by rfl) (by rfl) (by rfl) (by rfl) (by rfl) ?_; intro _ HK' _; simp only [List.set] at HK'; replace HK := HK'; clear HK'; have hs := Lib.hid ((HK.out.takeL 1).takeR 0)) | (refine step_ksl HK 2 (by rfl) _ _ (by rfl) (by rfl) (by rfl) (by rfl) (by rfl) ?_; intro _ HK' _; simp only [List.set] at HK'; replace HK := HK'; clear HK'; have hs := Lib.hid ((HK.out.takeL 1).takeR 0))
    refine hK.out _ _ hs (fun hHeld => ?_)
    clear hK K
    try simp only [Act.put]
    refine wpAnyH_done (by kernel_rfl) ?_ _
    rotate_left
    refine step_akl HK (by rfl) (by rfl) ?_; intro wA g7 HK' _; simp only [List.cons_append, List.nil_append] at HK'; replace HK := HK'; clear HK'; have hs := Lib.hid ((HK.out.takeL 1).takeR 0)
    refine hK.out _ _ hs (fun hHeld => ?_)
    clear hK K
    try simp only [Act.put, List.setIfInBounds_toArray, List.set_cons_zero, List.set_cons_succ]
    refine wpAnyH_ready (rs := [2]) (by kernel_rfl) (by simp) ?_
    refine AllReadyH.cons (o := ⟨some 16, _, _, _, _, _⟩) rfl (fun K hK => ?_) AllReadyH.nil
    go_simp
    go_at_call 8
    refine (H1.out _).mono ?_; rintro e w2 ⟨A1, c1, rfl, o1, b1⟩; replace HK := Lib.hid (HK.out.called b1 o1); simp only [List.nil_append] at HK; clear b1 o1; have hs := Lib.hid ((HK.out.takeL 1).takeR 0)
    refine hK.out _ _ hs (fun hHeld => ?_)
    clear hK K
    try simp only [Act.put, List.setIfInBounds_toArray, List.set_cons_zero, List.set_cons_succ]
    refine wpAnyH_ready (rs := [5]) (by kernel_rfl) (by simp) ?_
    refine AllReadyH.cons (o := ⟨some 19, _, _, _, _, _⟩) rfl (fun K hK => ?_) AllReadyH.nil
    go_simp
    go_at_call 9
    refine (H2.out _).mono ?_; rintro e w3 ⟨A2, c2, rfl, o2, b2⟩; replace HK := Lib.hid (HK.out.called b2 o2); simp only [List.cons_append, List.nil_append] at HK; clear b2 o2; have hs := Lib.hid ((HK.out.takeL 1).takeR 0)
    refine hK.out _ _ hs (fun hHeld => ?_)
    clear hK K
    try simp only [Act.put, List.setIfInBounds_toArray, List.set_cons_zero, List.set_cons_succ]
    refine wpAnyH_ready (rs := [8]) (by kernel_rfl) (by simp) ?_
    refine AllReadyH.cons (o := ⟨none, _, _, _, _, _⟩) rfl (fun K hK => ?_) AllReadyH.nil
    first | (refine step_ksl HK 1 (by rfl) _ _ (by rfl) (by rfl) (by rfl) (by rfl) (by rfl) ?_; intro _ HK' _; simp only [List.set] at HK'; replace HK := HK'; clear HK'; have hs := Lib.hid ((HK.out.takeL 1).takeR 0)) | (refine step_ksl HK 2 (by rfl) _ _ (by rfl) (by rfl) (by rfl) (by rfl) (by rfl) ?_; intro _ HK' _; simp only [List.set] at HK'; replace HK := HK'; clear HK'; have hs := Lib.hid ((HK.out.takeL 1).takeR 0))
    refine hK.out _ _ hs (fun hHeld => ?_)
    clear hK K
    try simp only [Act.put]
    refine wpAnyH_ready (rs := [9]) (by kernel_rfl) (by simp) ?_
    refine AllReadyH.cons (o := ⟨none, _, _, _, _, _⟩) rfl (fun K hK => ?_) AllReadyH.nil
    first | (refine step_ksl HK 1 (by rfl) _ _ (by rfl) (by rfl) (by rfl) (by rfl) (by rfl) ?_; intro _ HK' _; simp only [List.set] at HK'; replace HK := HK'; clear HK'; have hs := Lib.hid ((HK.out.takeL 1).takeR 0)) | (refine step_ksl HK 2 (by rfl) _ _ (by rfl) (by rfl) (by rfl) (by rfl) (by rfl) ?_; intro _ HK' _; simp only [List.set] at HK'; replace HK := HK'; clear HK'; have hs := Lib.hid ((HK.out.takeL 1).takeR 0))
    refine hK.out _ _ hs (fun hHeld => ?_)
    clear hK K
    try simp only [Act.put]
    refine wpAnyH_done (by kernel_rfl) ?_ _
    rotate_left
    all_goals
      go_wp2_with fail
      go_meet
      first
        | exact ⟨g7, g8, A1, A2, c1, c2, rfl, rfl, Lib.hid (HK.out.dropL 1)⟩
        | exact ⟨g7, g8, A1, A2, c1, c2, rfl, rfl, Lib.hid (Kn.two (HK.out.dropL 1))⟩
  case rest =>
  clear HK H1 H2
  obtain ⟨g7, g8, A1i, A2i, c1i, c2i, rfl, rfl, HK⟩ := hcut
  go_wp2_with fail
  go_loopw [9, 10, 11, 12, 13] (fun vi _ _ _ _ wr => ∃ (k : Nat) (l : Lnk.L) (A1 A2 : Option Addr) (c1 c2 : Nat), k ≤ n ∧ k ≤ 200 ∧ vi = .int .i64 k ∧ Hid (Num k l) ∧ Hid (Kn w.heap.size w wr [(g7, 27, lC (.slice A1 l.out.length c1) l.ms l.mc l.ps l.pc l.base l.got l.age), (g8, 27, lC (.slice A2 l.out.length c2) l.ms l.mc l.ps l.pc l.base l.got l.age)] [row strLay (.slice A1 l.out.length c1) l.out, row strLay (.slice A2 l.out.length c2) l.out])) (fun vi _ _ _ _ _ => n - (intOf vi).toNat)
  case atStart => exact ⟨0, li, A1i, A2i, c1i, c2i, Nat.zero_le _, by decide, rfl, HN0, HK⟩
  case round =>
    clear HK HN0
    obtain ⟨k, l, A1, A2, c1, c2, hkn, hk200, rfl, HNum, HK⟩ := hrel
    have hln : l.out.length ≤ 300 := by
      have := HNum.out.bn
      have := HNum.out.b1
      omega
    have HSE : Hid (∀ W L', Kn w.heap.size w W L' [row strLay (.slice A1 l.out.length c1) l.out, row strLay (.slice A2 l.out.length c2) l.out] → Calls Try.prog 13 #[.agg (lA (.slice A1 l.out.length c1) l), .agg (lA (.slice A2 l.out.length c2) l)] W fun en w' => en = .returned (.bool true) ∧ Below W.heap.size W w') := Lib.hid fun W L' h => rsame_any A1 A2 c1 c2 l W (by omega) (h.own 0 rfl).read.1 (h.own 1 rfl).read.1
    have hk0 : (0 : Int) ≤ (k : Int) := by omega
    by_cases hc : k < n ∧ k < 200
    · obtain ⟨hlt, hlt3⟩ := hc
      obtain ⟨x, hx, hxa, hxq⟩ := HGet.out k hlt
      obtain ⟨bl, ol, rfl, hbl, hcl⟩ := HI.out (by rw [HN.out]; omega)
      have hk1 : (k : Int) < (n : Int) := by omega
      have hk3 : (k : Int) < 200 := by omega
      have HOf : Hid (∀ W, Below w.heap.size w W → Hid (lopLay.At W bl ol k x)) := Lib.hid fun W hW => Lib.hid ((hcl k x hx).keep fun q hq => hW.cell (by rw [hq]; exact hbl))
      have hbb : 1 ≤ l.base ∧ l.base ≤ 1000000 := ⟨HNum.out.b1, by have := HNum.out.bn; omega⟩
      have hgg : 0 ≤ l.got ∧ l.got ≤ 1000000 := ⟨HNum.out.g0, by have := HNum.out.g1; omega⟩
      have haa : 0 ≤ l.age ∧ l.age ≤ 1000 := ⟨HNum.out.a0, HNum.out.a1⟩
      have HX : Hid (∀ W L', Kn w.heap.size w W L' [row strLay (.slice A1 l.out.length c1) l.out, row strLay (.slice A2 l.out.length c2) l.out] → Calls Try.prog 10 #[.agg (lA (.slice A1 l.out.length c1) l), .agg (oC x.k x.n x.b x.p.f.s x.p.f.c x.p.t.s x.p.t.c x.p.q x.p.a x.p.b)] W (IsD A1 c1 l.out (doM l x.k x.n x.b ⟨x.p.f.s, x.p.f.c, x.p.t.s, x.p.t.c, x.p.q, x.p.a, x.p.b⟩) W)) := Lib.hid fun W L' h => do_any A1 c1 l x.k x.n x.b ⟨x.p.f.s, x.p.f.c, x.p.t.s, x.p.t.c, x.p.q, x.p.a, x.p.b⟩ W ⟨(h.own 0 rfl).read.1, (h.own 0 rfl).read.2.1, by omega⟩ (h.own 0 rfl).read.2.2 hbb hgg haa hxa hxq
      have HY : Hid (∀ W L' A3 c3 l3 R', Kn w.heap.size w W L' (row strLay (.slice A3 l3 c3) R' :: row strLay (.slice A2 l.out.length c2) l.out :: []) → True) := Lib.hid fun _ _ _ _ _ _ _ => trivial
      have HZ : Hid (∀ W, strLay.Own w.heap.size W (.slice A2 l.out.length c2) l.out → Calls Try.prog 11 #[.agg (lA (.slice A2 l.out.length c2) l), .agg (oC x.k x.n x.b x.p.f.s x.p.f.c x.p.t.s x.p.t.c x.p.q x.p.a x.p.b)] W (IsD A2 c2 l.out (doM l x.k x.n x.b ⟨x.p.f.s, x.p.f.c, x.p.t.s, x.p.t.c, x.p.q, x.p.a, x.p.b⟩) W)) := Lib.hid fun W h => rdo_any A2 c2 l x.k x.n x.b ⟨x.p.f.s, x.p.f.c, x.p.t.s, x.p.t.c, x.p.q, x.p.a, x.p.b⟩ W ⟨h.read.1, h.read.2.1, by omega⟩ h.read.2.2 hbb hgg haa hxa hxq
      have HNx := Lib.hid (HNum.out.step x.k x.n x.b ⟨x.p.f.s, x.p.f.c, x.p.t.s, x.p.t.c, x.p.q, x.p.a, x.p.b⟩)
      have hpl := doM_len l x.k x.n x.b ⟨x.p.f.s, x.p.f.c, x.p.t.s, x.p.t.c, x.p.q, x.p.a, x.p.b⟩
      clear HY hxa hxq hcl hx hbl HI HGet hbb hgg haa
      generalize doM l x.k x.n x.b ⟨x.p.f.s, x.p.f.c, x.p.t.s, x.p.t.c, x.p.q, x.p.a, x.p.b⟩ = q at *
      obtain ⟨ql, qp, qb, qt, qe⟩ := q
      simp only at HNx hpl
      have hqn : ql.out.length ≤ 300 := by
        have := HNx.out.bn
        have := HNx.out.b1
        omega
      have hqp : qp.length ≤ 301 := by omega
      have HSm : Hid (∀ A4 c4 A6 c6 W, pktLay.Own w.heap.size W (.slice A4 qp.length c4) qp → pktLay.Own w.heap.size W (.slice A6 qp.length c6) qp → Calls Try.prog 12 #[.agg (tC (.slice A4 qp.length c4) qb qt qe), .agg (tC (.slice A6 qp.length c6) qb qt qe)] W fun en w' => en = .returned (.bool true) ∧ Below W.heap.size W w') := Lib.hid fun A4 c4 A6 c6 W h h' => same_any A4 A6 c4 c6 qp qb qt qe W (by omega) h.read.1 h'.read.1
      have HSq : Hid (∀ A3 c3 A5 c5 W, strLay.Own w.heap.size W (.slice A3 ql.out.length c3) ql.out → strLay.Own w.heap.size W (.slice A5 ql.out.length c5) ql.out → Calls Try.prog 13 #[.agg (lA (.slice A3 ql.out.length c3) ql), .agg (lA (.slice A5 ql.out.length c5) ql)] W fun en w' => en = .returned (.bool true) ∧ Below W.heap.size W w') := Lib.hid fun A3 c3 A5 c5 W h h' => rsame_any A3 A5 c3 c5 ql W (by omega) h.read.1 h'.read.1
      clear hln hqn hpl hqp HNum HSE
      go_wp2_with fail
      go_cut [10, 11] (fun s10 s11 wx => ∃ (gx gt : Nat) (A3 A4 : Option Addr) (c3 c4 : Nat), s10 = .pointer (some ⟨gx, 0, none⟩) ∧ s11 = .pointer (some ⟨gt, 0, none⟩) ∧ Hid (Kn w.heap.size w wx [(g7, 27, lC (.slice A1 l.out.length c1) l.ms l.mc l.ps l.pc l.base l.got l.age), (g8, 27, lC (.slice A2 l.out.length c2) l.ms l.mc l.ps l.pc l.base l.got l.age), (gx, 27, lC (.slice A3 ql.out.length c3) ql.ms ql.mc ql.ps ql.pc ql.base ql.got ql.age), (gt, 32, tC (.slice A4 qp.length c4) qb qt qe)] [row strLay (.slice A3 ql.out.length c3) ql.out, row strLay (.slice A2 l.out.length c2) l.out, row pktLay (.slice A4 qp.length c4) qp]))
      case first =>
        replace HK := Lib.hid HK.out.drew
        have HH := And.intro (Lib.hid ((HK.out.takeL 2).takeR 0)) (HOf.out _ HK.out.b)
        refine wp_region_held_drew (S := (fun W => Hid (Kn w.heap.size w W [(g7, 27, lC (.slice A1 l.out.length c1) l.ms l.mc l.ps l.pc l.base l.got l.age), (g8, 27, lC (.slice A2 l.out.length c2) l.ms l.mc l.ps l.pc l.base l.got l.age)] []) ∧ Hid (lopLay.At W bl ol k x))) (by kernel_rfl) ?_ (fun hHeld => ?_)
        · (try dsimp only); exact HH
        refine wpAnyH_take (i := 0) (oi := ⟨some 31, _, _, _, _, _⟩) (v := ?_) rfl (by kernel_rfl) (by kernel_rfl) (by kernel_rfl) (fun _ _ _ h => h) (Or.inl ⟨by rfl, ?_⟩) (by assumption) ?_
        rotate_left
        · (intro w hSw; refine Eq.trans (kexec_ll hSw.1 0 _ (by rfl) (by rfl) (by rfl)) ?_; with_reducible rfl)
        try simp only [Act.put, List.setIfInBounds_toArray, List.set_cons_zero, List.set_cons_succ]
        refine wpAnyH_take (i := 1) (oi := ⟨some 32, _, _, _, _, _⟩) (v := ?_) rfl (by kernel_rfl) (by kernel_rfl) (by kernel_rfl) (fun _ _ _ h => h) (Or.inl ⟨by rfl, ?_⟩) (by assumption) ?_
        rotate_left
        · (intro w hSw; (try dsimp only at hSw); go_simp; try with_reducible rfl)
        try simp only [Act.put, List.setIfInBounds_toArray, List.set_cons_zero, List.set_cons_succ]
        refine wpAnyH_take (i := 2) (oi := ⟨some 33, _, _, _, _, _⟩) (v := ?_) rfl (by kernel_rfl) (by kernel_rfl) (by kernel_rfl) (fun _ _ _ h => h) (Or.inl ⟨by rfl, ?_⟩) (by assumption) ?_
        rotate_left
        · (intro w hSw; (try dsimp only at hSw); go_simp; try with_reducible rfl)
        try simp only [Act.put, List.setIfInBounds_toArray, List.set_cons_zero, List.set_cons_succ]
        refine wpAnyH_take (i := 3) (oi := ⟨some 34, _, _, _, _, _⟩) (v := ?_) rfl (by kernel_rfl) (by kernel_rfl) (by kernel_rfl) (fun _ _ _ h => h) (Or.inl ⟨by rfl, ?_⟩) (by assumption) ?_
        rotate_left
        · (intro w hSw; (try dsimp only at hSw); go_simp; try with_reducible rfl)
        try simp only [Act.put, List.setIfInBounds_toArray, List.set_cons_zero, List.set_cons_succ]
        refine wpAnyH_take (i := 4) (oi := ⟨some 35, _, _, _, _, _⟩) (v := ?_) rfl (by kernel_rfl) (by kernel_rfl) (by kernel_rfl) (fun _ _ _ h => h) (Or.inl ⟨by rfl, ?_⟩) (by assumption) ?_
        rotate_left
        · (intro w hSw; refine Eq.trans (exec_lop _ (by rfl) hSw.2 (by rfl)) ?_; with_reducible rfl)
        try simp only [Act.put, List.setIfInBounds_toArray, List.set_cons_zero, List.set_cons_succ]
        refine wpAnyH_ready (rs := [5, 9, 10]) (by kernel_rfl) (by simp) ?_
        refine AllReadyH.cons (o := ⟨some 36, _, _, _, _, _⟩) rfl (fun K hK => ?_) (AllReadyH.cons (o := ⟨some 10, _, _, _, _, _⟩) rfl (fun K hK => ?_) (AllReadyH.cons (o := ⟨some 11, _, _, _, _, _⟩) rfl (fun K hK => ?_) AllReadyH.nil))
        go_simp
        go_at_call 10
        refine (HX.out _ _ HK.out).mono ?_; rintro e w2 ⟨A3, c3, A4, c4, rfl, f1, p1, b1⟩; replace HK := Lib.hid (next_row HK.out 0 rfl b1 f1 p1); simp only [List.set, List.cons_append, List.nil_append] at HK; clear f1 p1 b1; have hs := And.intro (Lib.hid ((HK.out.takeL 2).takeR 0)) (HOf.out _ HK.out.b)
        refine hK.out _ _ hs (fun hHeld => ?_)
        clear hK K
        try simp only 
        refine wpAnyH_take (i := 6) (oi := ⟨some 30, _, _, _, _, _⟩) (v := ?_) rfl (by kernel_rfl) (by kernel_rfl) (by kernel_rfl) (fun _ _ _ h => h) (Or.inl ⟨by rfl, ?_⟩) (by assumption) ?_
        rotate_left
        · (intro w hSw; (try dsimp only at hSw); go_simp; try with_reducible rfl)
        try simp only [Act.put, List.setIfInBounds_toArray, List.set_cons_zero, List.set_cons_succ]
        refine wpAnyH_take (i := 7) (oi := ⟨some 37, _, _, _, _, _⟩) (v := ?_) rfl (by kernel_rfl) (by kernel_rfl) (by kernel_rfl) (fun _ _ _ h => h) (Or.inl ⟨by rfl, ?_⟩) (by assumption) ?_
        rotate_left
        · (intro w hSw; (try dsimp only at hSw); go_simp; try with_reducible rfl)
        try simp only [Act.put, List.setIfInBounds_toArray, List.set_cons_zero, List.set_cons_succ]
        refine wpAnyH_take (i := 8) (oi := ⟨some 38, _, _, _, _, _⟩) (v := ?_) rfl (by kernel_rfl) (by kernel_rfl) (by kernel_rfl) (fun _ _ _ h => h) (Or.inl ⟨by rfl, ?_⟩) (by assumption) ?_
        rotate_left
        · (intro w hSw; (try dsimp only at hSw); go_simp; try with_reducible rfl)
        try simp only [Act.put, List.setIfInBounds_toArray, List.set_cons_zero, List.set_cons_succ]
        refine wpAnyH_ready (rs := [9, 10]) (by kernel_rfl) (by simp) ?_
        refine AllReadyH.cons (o := ⟨some 10, _, _, _, _, _⟩) rfl (fun K hK => ?_) (AllReadyH.cons (o := ⟨some 11, _, _, _, _, _⟩) rfl (fun K hK => ?_) AllReadyH.nil)
        refine step_akl HK (by rfl) (by rfl) ?_; intro wA gx HK' _; simp only [List.cons_append, List.nil_append] at HK'; replace HK := HK'; clear HK'; have hs := And.intro (Lib.hid ((HK.out.takeL 2).takeR 0)) (HOf.out _ HK.out.b)
        refine hK.out _ _ hs (fun hHeld => ?_)
        clear hK K
        try simp only [Act.put, List.setIfInBounds_toArray, List.set_cons_zero, List.set_cons_succ]
        refine wpAnyH_ready (rs := [10]) (by kernel_rfl) (by simp) ?_
        refine AllReadyH.cons (o := ⟨some 11, _, _, _, _, _⟩) rfl (fun K hK => ?_) AllReadyH.nil
        refine step_akt HK (by rfl) (by rfl) ?_; intro wA gt HK' _; simp only [List.cons_append, List.nil_append] at HK'; replace HK := HK'; clear HK'; have hs := And.intro (Lib.hid ((HK.out.takeL 2).takeR 0)) (HOf.out _ HK.out.b)
        refine hK.out _ _ hs (fun hHeld => ?_)
        clear hK K
        try simp only [Act.put, List.setIfInBounds_toArray, List.set_cons_zero, List.set_cons_succ]
        refine wpAnyH_ready (rs := [11]) (by kernel_rfl) (by simp) ?_
        refine AllReadyH.cons (o := ⟨none, _, _, _, _, _⟩) rfl (fun K hK => ?_) AllReadyH.nil
        first | (refine step_ksl HK 2 (by rfl) _ _ (by rfl) (by rfl) (by rfl) (by rfl) (by rfl) ?_; intro _ HK' _; simp only [List.set] at HK'; replace HK := HK'; clear HK'; have hs := And.intro (Lib.hid ((HK.out.takeL 2).takeR 0)) (HOf.out _ HK.out.b)) | (refine step_ksl HK 3 (by rfl) _ _ (by rfl) (by rfl) (by rfl) (by rfl) (by rfl) ?_; intro _ HK' _; simp only [List.set] at HK'; replace HK := HK'; clear HK'; have hs := And.intro (Lib.hid ((HK.out.takeL 2).takeR 0)) (HOf.out _ HK.out.b))
        refine hK.out _ _ hs (fun hHeld => ?_)
        clear hK K
        try simp only [Act.put]
        refine wpAnyH_ready (rs := [12]) (by kernel_rfl) (by simp) ?_
        refine AllReadyH.cons (o := ⟨none, _, _, _, _, _⟩) rfl (fun K hK => ?_) AllReadyH.nil
        first | (refine step_kst HK 2 (by rfl) _ _ (by rfl) (by rfl) (by rfl) (by rfl) (by rfl) ?_; intro _ HK' _; simp only [List.set] at HK'; replace HK := HK'; clear HK'; have hs := And.intro (Lib.hid ((HK.out.takeL 2).takeR 0)) (HOf.out _ HK.out.b)) | (refine step_kst HK 3 (by rfl) _ _ (by rfl) (by rfl) (by rfl) (by rfl) (by rfl) ?_; intro _ HK' _; simp only [List.set] at HK'; replace HK := HK'; clear HK'; have hs := And.intro (Lib.hid ((HK.out.takeL 2).takeR 0)) (HOf.out _ HK.out.b))
        refine hK.out _ _ hs (fun hHeld => ?_)
        clear hK K
        try simp only [Act.put]
        refine wpAnyH_done (by kernel_rfl) ?_ _
        rotate_left
        refine step_akt HK (by rfl) (by rfl) ?_; intro wA gt HK' _; simp only [List.cons_append, List.nil_append] at HK'; replace HK := HK'; clear HK'; have hs := And.intro (Lib.hid ((HK.out.takeL 2).takeR 0)) (HOf.out _ HK.out.b)
        refine hK.out _ _ hs (fun hHeld => ?_)
        clear hK K
        try simp only [Act.put, List.setIfInBounds_toArray, List.set_cons_zero, List.set_cons_succ]
        refine wpAnyH_ready (rs := [9]) (by kernel_rfl) (by simp) ?_
        refine AllReadyH.cons (o := ⟨some 10, _, _, _, _, _⟩) rfl (fun K hK => ?_) AllReadyH.nil
        refine step_akl HK (by rfl) (by rfl) ?_; intro wA gx HK' _; simp only [List.cons_append, List.nil_append] at HK'; replace HK := HK'; clear HK'; have hs := And.intro (Lib.hid ((HK.out.takeL 2).takeR 0)) (HOf.out _ HK.out.b)
        refine hK.out _ _ hs (fun hHeld => ?_)
        clear hK K
        try simp only [Act.put, List.setIfInBounds_toArray, List.set_cons_zero, List.set_cons_succ]
        refine wpAnyH_ready (rs := [11]) (by kernel_rfl) (by simp) ?_
        refine AllReadyH.cons (o := ⟨none, _, _, _, _, _⟩) rfl (fun K hK => ?_) AllReadyH.nil
        first | (refine step_ksl HK 2 (by rfl) _ _ (by rfl) (by rfl) (by rfl) (by rfl) (by rfl) ?_; intro _ HK' _; simp only [List.set] at HK'; replace HK := HK'; clear HK'; have hs := And.intro (Lib.hid ((HK.out.takeL 2).takeR 0)) (HOf.out _ HK.out.b)) | (refine step_ksl HK 3 (by rfl) _ _ (by rfl) (by rfl) (by rfl) (by rfl) (by rfl) ?_; intro _ HK' _; simp only [List.set] at HK'; replace HK := HK'; clear HK'; have hs := And.intro (Lib.hid ((HK.out.takeL 2).takeR 0)) (HOf.out _ HK.out.b))
        refine hK.out _ _ hs (fun hHeld => ?_)
        clear hK K
        try simp only [Act.put]
        refine wpAnyH_ready (rs := [12]) (by kernel_rfl) (by simp) ?_
        refine AllReadyH.cons (o := ⟨none, _, _, _, _, _⟩) rfl (fun K hK => ?_) AllReadyH.nil
        first | (refine step_kst HK 2 (by rfl) _ _ (by rfl) (by rfl) (by rfl) (by rfl) (by rfl) ?_; intro _ HK' _; simp only [List.set] at HK'; replace HK := HK'; clear HK'; have hs := And.intro (Lib.hid ((HK.out.takeL 2).takeR 0)) (HOf.out _ HK.out.b)) | (refine step_kst HK 3 (by rfl) _ _ (by rfl) (by rfl) (by rfl) (by rfl) (by rfl) ?_; intro _ HK' _; simp only [List.set] at HK'; replace HK := HK'; clear HK'; have hs := And.intro (Lib.hid ((HK.out.takeL 2).takeR 0)) (HOf.out _ HK.out.b))
        refine hK.out _ _ hs (fun hHeld => ?_)
        clear hK K
        try simp only [Act.put]
        refine wpAnyH_done (by kernel_rfl) ?_ _
        rotate_left
        refine step_akl HK (by rfl) (by rfl) ?_; intro wA gx HK' _; simp only [List.cons_append, List.nil_append] at HK'; replace HK := HK'; clear HK'; have hs := And.intro (Lib.hid ((HK.out.takeL 2).takeR 0)) (HOf.out _ HK.out.b)
        refine hK.out _ _ hs (fun hHeld => ?_)
        clear hK K
        try simp only [Act.put, List.setIfInBounds_toArray, List.set_cons_zero, List.set_cons_succ]
        refine wpAnyH_ready (rs := [5, 10]) (by kernel_rfl) (by simp) ?_
        refine AllReadyH.cons (o := ⟨some 36, _, _, _, _, _⟩) rfl (fun K hK => ?_) (AllReadyH.cons (o := ⟨some 11, _, _, _, _, _⟩) rfl (fun K hK => ?_) AllReadyH.nil)
        go_simp
        go_at_call 10
        refine (HX.out _ _ HK.out).mono ?_; rintro e w2 ⟨A3, c3, A4, c4, rfl, f1, p1, b1⟩; replace HK := Lib.hid (next_row HK.out 0 rfl b1 f1 p1); simp only [List.set, List.cons_append, List.nil_append] at HK; clear f1 p1 b1; have hs := And.intro (Lib.hid ((HK.out.takeL 2).takeR 0)) (HOf.out _ HK.out.b)
        refine hK.out _ _ hs (fun hHeld => ?_)
        clear hK K
        try simp only 
        refine wpAnyH_take (i := 6) (oi := ⟨some 30, _, _, _, _, _⟩) (v := ?_) rfl (by kernel_rfl) (by kernel_rfl) (by kernel_rfl) (fun _ _ _ h => h) (Or.inl ⟨by rfl, ?_⟩) (by assumption) ?_
        rotate_left
        · (intro w hSw; (try dsimp only at hSw); go_simp; try with_reducible rfl)
        try simp only [Act.put, List.setIfInBounds_toArray, List.set_cons_zero, List.set_cons_succ]
        refine wpAnyH_take (i := 7) (oi := ⟨some 37, _, _, _, _, _⟩) (v := ?_) rfl (by kernel_rfl) (by kernel_rfl) (by kernel_rfl) (fun _ _ _ h => h) (Or.inl ⟨by rfl, ?_⟩) (by assumption) ?_
        rotate_left
        · (intro w hSw; (try dsimp only at hSw); go_simp; try with_reducible rfl)
        try simp only [Act.put, List.setIfInBounds_toArray, List.set_cons_zero, List.set_cons_succ]
        refine wpAnyH_take (i := 8) (oi := ⟨some 38, _, _, _, _, _⟩) (v := ?_) rfl (by kernel_rfl) (by kernel_rfl) (by kernel_rfl) (fun _ _ _ h => h) (Or.inl ⟨by rfl, ?_⟩) (by assumption) ?_
        rotate_left
        · (intro w hSw; (try dsimp only at hSw); go_simp; try with_reducible rfl)
        try simp only [Act.put, List.setIfInBounds_toArray, List.set_cons_zero, List.set_cons_succ]
        refine wpAnyH_ready (rs := [10]) (by kernel_rfl) (by simp) ?_
        refine AllReadyH.cons (o := ⟨some 11, _, _, _, _, _⟩) rfl (fun K hK => ?_) AllReadyH.nil
        refine step_akt HK (by rfl) (by rfl) ?_; intro wA gt HK' _; simp only [List.cons_append, List.nil_append] at HK'; replace HK := HK'; clear HK'; have hs := And.intro (Lib.hid ((HK.out.takeL 2).takeR 0)) (HOf.out _ HK.out.b)
        refine hK.out _ _ hs (fun hHeld => ?_)
        clear hK K
        try simp only [Act.put, List.setIfInBounds_toArray, List.set_cons_zero, List.set_cons_succ]
        refine wpAnyH_ready (rs := [11]) (by kernel_rfl) (by simp) ?_
        refine AllReadyH.cons (o := ⟨none, _, _, _, _, _⟩) rfl (fun K hK => ?_) AllReadyH.nil
        first | (refine step_ksl HK 2 (by rfl) _ _ (by rfl) (by rfl) (by rfl) (by rfl) (by rfl) ?_; intro _ HK' _; simp only [List.set] at HK'; replace HK := HK'; clear HK'; have hs := And.intro (Lib.hid ((HK.out.takeL 2).takeR 0)) (HOf.out _ HK.out.b)) | (refine step_ksl HK 3 (by rfl) _ _ (by rfl) (by rfl) (by rfl) (by rfl) (by rfl) ?_; intro _ HK' _; simp only [List.set] at HK'; replace HK := HK'; clear HK'; have hs := And.intro (Lib.hid ((HK.out.takeL 2).takeR 0)) (HOf.out _ HK.out.b))
        refine hK.out _ _ hs (fun hHeld => ?_)
        clear hK K
        try simp only [Act.put]
        refine wpAnyH_ready (rs := [12]) (by kernel_rfl) (by simp) ?_
        refine AllReadyH.cons (o := ⟨none, _, _, _, _, _⟩) rfl (fun K hK => ?_) AllReadyH.nil
        first | (refine step_kst HK 2 (by rfl) _ _ (by rfl) (by rfl) (by rfl) (by rfl) (by rfl) ?_; intro _ HK' _; simp only [List.set] at HK'; replace HK := HK'; clear HK'; have hs := And.intro (Lib.hid ((HK.out.takeL 2).takeR 0)) (HOf.out _ HK.out.b)) | (refine step_kst HK 3 (by rfl) _ _ (by rfl) (by rfl) (by rfl) (by rfl) (by rfl) ?_; intro _ HK' _; simp only [List.set] at HK'; replace HK := HK'; clear HK'; have hs := And.intro (Lib.hid ((HK.out.takeL 2).takeR 0)) (HOf.out _ HK.out.b))
        refine hK.out _ _ hs (fun hHeld => ?_)
        clear hK K
        try simp only [Act.put]
        refine wpAnyH_done (by kernel_rfl) ?_ _
        rotate_left
        refine step_akt HK (by rfl) (by rfl) ?_; intro wA gt HK' _; simp only [List.cons_append, List.nil_append] at HK'; replace HK := HK'; clear HK'; have hs := And.intro (Lib.hid ((HK.out.takeL 2).takeR 0)) (HOf.out _ HK.out.b)
        refine hK.out _ _ hs (fun hHeld => ?_)
        clear hK K
        try simp only [Act.put, List.setIfInBounds_toArray, List.set_cons_zero, List.set_cons_succ]
        refine wpAnyH_ready (rs := [5]) (by kernel_rfl) (by simp) ?_
        refine AllReadyH.cons (o := ⟨some 36, _, _, _, _, _⟩) rfl (fun K hK => ?_) AllReadyH.nil
        go_simp
        go_at_call 10
        refine (HX.out _ _ HK.out).mono ?_; rintro e w2 ⟨A3, c3, A4, c4, rfl, f1, p1, b1⟩; replace HK := Lib.hid (next_row HK.out 0 rfl b1 f1 p1); simp only [List.set, List.cons_append, List.nil_append] at HK; clear f1 p1 b1; have hs := And.intro (Lib.hid ((HK.out.takeL 2).takeR 0)) (HOf.out _ HK.out.b)
        refine hK.out _ _ hs (fun hHeld => ?_)
        clear hK K
        try simp only 
        refine wpAnyH_take (i := 6) (oi := ⟨some 30, _, _, _, _, _⟩) (v := ?_) rfl (by kernel_rfl) (by kernel_rfl) (by kernel_rfl) (fun _ _ _ h => h) (Or.inl ⟨by rfl, ?_⟩) (by assumption) ?_
        rotate_left
        · (intro w hSw; (try dsimp only at hSw); go_simp; try with_reducible rfl)
        try simp only [Act.put, List.setIfInBounds_toArray, List.set_cons_zero, List.set_cons_succ]
        refine wpAnyH_take (i := 7) (oi := ⟨some 37, _, _, _, _, _⟩) (v := ?_) rfl (by kernel_rfl) (by kernel_rfl) (by kernel_rfl) (fun _ _ _ h => h) (Or.inl ⟨by rfl, ?_⟩) (by assumption) ?_
        rotate_left
        · (intro w hSw; (try dsimp only at hSw); go_simp; try with_reducible rfl)
        try simp only [Act.put, List.setIfInBounds_toArray, List.set_cons_zero, List.set_cons_succ]
        refine wpAnyH_take (i := 8) (oi := ⟨some 38, _, _, _, _, _⟩) (v := ?_) rfl (by kernel_rfl) (by kernel_rfl) (by kernel_rfl) (fun _ _ _ h => h) (Or.inl ⟨by rfl, ?_⟩) (by assumption) ?_
        rotate_left
        · (intro w hSw; (try dsimp only at hSw); go_simp; try with_reducible rfl)
        try simp only [Act.put, List.setIfInBounds_toArray, List.set_cons_zero, List.set_cons_succ]
        refine wpAnyH_ready (rs := [11]) (by kernel_rfl) (by simp) ?_
        refine AllReadyH.cons (o := ⟨none, _, _, _, _, _⟩) rfl (fun K hK => ?_) AllReadyH.nil
        first | (refine step_ksl HK 2 (by rfl) _ _ (by rfl) (by rfl) (by rfl) (by rfl) (by rfl) ?_; intro _ HK' _; simp only [List.set] at HK'; replace HK := HK'; clear HK'; have hs := And.intro (Lib.hid ((HK.out.takeL 2).takeR 0)) (HOf.out _ HK.out.b)) | (refine step_ksl HK 3 (by rfl) _ _ (by rfl) (by rfl) (by rfl) (by rfl) (by rfl) ?_; intro _ HK' _; simp only [List.set] at HK'; replace HK := HK'; clear HK'; have hs := And.intro (Lib.hid ((HK.out.takeL 2).takeR 0)) (HOf.out _ HK.out.b))
        refine hK.out _ _ hs (fun hHeld => ?_)
        clear hK K
        try simp only [Act.put]
        refine wpAnyH_ready (rs := [12]) (by kernel_rfl) (by simp) ?_
        refine AllReadyH.cons (o := ⟨none, _, _, _, _, _⟩) rfl (fun K hK => ?_) AllReadyH.nil
        first | (refine step_kst HK 2 (by rfl) _ _ (by rfl) (by rfl) (by rfl) (by rfl) (by rfl) ?_; intro _ HK' _; simp only [List.set] at HK'; replace HK := HK'; clear HK'; have hs := And.intro (Lib.hid ((HK.out.takeL 2).takeR 0)) (HOf.out _ HK.out.b)) | (refine step_kst HK 3 (by rfl) _ _ (by rfl) (by rfl) (by rfl) (by rfl) (by rfl) ?_; intro _ HK' _; simp only [List.set] at HK'; replace HK := HK'; clear HK'; have hs := And.intro (Lib.hid ((HK.out.takeL 2).takeR 0)) (HOf.out _ HK.out.b))
        refine hK.out _ _ hs (fun hHeld => ?_)
        clear hK K
        try simp only [Act.put]
        refine wpAnyH_done (by kernel_rfl) ?_ _
        rotate_left
        refine step_akt HK (by rfl) (by rfl) ?_; intro wA gt HK' _; simp only [List.cons_append, List.nil_append] at HK'; replace HK := HK'; clear HK'; have hs := And.intro (Lib.hid ((HK.out.takeL 2).takeR 0)) (HOf.out _ HK.out.b)
        refine hK.out _ _ hs (fun hHeld => ?_)
        clear hK K
        try simp only [Act.put, List.setIfInBounds_toArray, List.set_cons_zero, List.set_cons_succ]
        refine wpAnyH_ready (rs := [5, 9]) (by kernel_rfl) (by simp) ?_
        refine AllReadyH.cons (o := ⟨some 36, _, _, _, _, _⟩) rfl (fun K hK => ?_) (AllReadyH.cons (o := ⟨some 10, _, _, _, _, _⟩) rfl (fun K hK => ?_) AllReadyH.nil)
        go_simp
        go_at_call 10
        refine (HX.out _ _ HK.out).mono ?_; rintro e w2 ⟨A3, c3, A4, c4, rfl, f1, p1, b1⟩; replace HK := Lib.hid (next_row HK.out 0 rfl b1 f1 p1); simp only [List.set, List.cons_append, List.nil_append] at HK; clear f1 p1 b1; have hs := And.intro (Lib.hid ((HK.out.takeL 2).takeR 0)) (HOf.out _ HK.out.b)
        refine hK.out _ _ hs (fun hHeld => ?_)
        clear hK K
        try simp only 
        refine wpAnyH_take (i := 6) (oi := ⟨some 30, _, _, _, _, _⟩) (v := ?_) rfl (by kernel_rfl) (by kernel_rfl) (by kernel_rfl) (fun _ _ _ h => h) (Or.inl ⟨by rfl, ?_⟩) (by assumption) ?_
        rotate_left
        · (intro w hSw; (try dsimp only at hSw); go_simp; try with_reducible rfl)
        try simp only [Act.put, List.setIfInBounds_toArray, List.set_cons_zero, List.set_cons_succ]
        refine wpAnyH_take (i := 7) (oi := ⟨some 37, _, _, _, _, _⟩) (v := ?_) rfl (by kernel_rfl) (by kernel_rfl) (by kernel_rfl) (fun _ _ _ h => h) (Or.inl ⟨by rfl, ?_⟩) (by assumption) ?_
        rotate_left
        · (intro w hSw; (try dsimp only at hSw); go_simp; try with_reducible rfl)
        try simp only [Act.put, List.setIfInBounds_toArray, List.set_cons_zero, List.set_cons_succ]
        refine wpAnyH_take (i := 8) (oi := ⟨some 38, _, _, _, _, _⟩) (v := ?_) rfl (by kernel_rfl) (by kernel_rfl) (by kernel_rfl) (fun _ _ _ h => h) (Or.inl ⟨by rfl, ?_⟩) (by assumption) ?_
        rotate_left
        · (intro w hSw; (try dsimp only at hSw); go_simp; try with_reducible rfl)
        try simp only [Act.put, List.setIfInBounds_toArray, List.set_cons_zero, List.set_cons_succ]
        refine wpAnyH_ready (rs := [9]) (by kernel_rfl) (by simp) ?_
        refine AllReadyH.cons (o := ⟨some 10, _, _, _, _, _⟩) rfl (fun K hK => ?_) AllReadyH.nil
        refine step_akl HK (by rfl) (by rfl) ?_; intro wA gx HK' _; simp only [List.cons_append, List.nil_append] at HK'; replace HK := HK'; clear HK'; have hs := And.intro (Lib.hid ((HK.out.takeL 2).takeR 0)) (HOf.out _ HK.out.b)
        refine hK.out _ _ hs (fun hHeld => ?_)
        clear hK K
        try simp only [Act.put, List.setIfInBounds_toArray, List.set_cons_zero, List.set_cons_succ]
        refine wpAnyH_ready (rs := [11]) (by kernel_rfl) (by simp) ?_
        refine AllReadyH.cons (o := ⟨none, _, _, _, _, _⟩) rfl (fun K hK => ?_) AllReadyH.nil
        first | (refine step_ksl HK 2 (by rfl) _ _ (by rfl) (by rfl) (by rfl) (by rfl) (by rfl) ?_; intro _ HK' _; simp only [List.set] at HK'; replace HK := HK'; clear HK'; have hs := And.intro (Lib.hid ((HK.out.takeL 2).takeR 0)) (HOf.out _ HK.out.b)) | (refine step_ksl HK 3 (by rfl) _ _ (by rfl) (by rfl) (by rfl) (by rfl) (by rfl) ?_; intro _ HK' _; simp only [List.set] at HK'; replace HK := HK'; clear HK'; have hs := And.intro (Lib.hid ((HK.out.takeL 2).takeR 0)) (HOf.out _ HK.out.b))
        refine hK.out _ _ hs (fun hHeld => ?_)
        clear hK K
        try simp only [Act.put]
        refine wpAnyH_ready (rs := [12]) (by kernel_rfl) (by simp) ?_
        refine AllReadyH.cons (o := ⟨none, _, _, _, _, _⟩) rfl (fun K hK => ?_) AllReadyH.nil
        first | (refine step_kst HK 2 (by rfl) _ _ (by rfl) (by rfl) (by rfl) (by rfl) (by rfl) ?_; intro _ HK' _; simp only [List.set] at HK'; replace HK := HK'; clear HK'; have hs := And.intro (Lib.hid ((HK.out.takeL 2).takeR 0)) (HOf.out _ HK.out.b)) | (refine step_kst HK 3 (by rfl) _ _ (by rfl) (by rfl) (by rfl) (by rfl) (by rfl) ?_; intro _ HK' _; simp only [List.set] at HK'; replace HK := HK'; clear HK'; have hs := And.intro (Lib.hid ((HK.out.takeL 2).takeR 0)) (HOf.out _ HK.out.b))
        refine hK.out _ _ hs (fun hHeld => ?_)
        clear hK K
        try simp only [Act.put]
        refine wpAnyH_done (by kernel_rfl) ?_ _
        rotate_left
        refine step_akl HK (by rfl) (by rfl) ?_; intro wA gx HK' _; simp only [List.cons_append, List.nil_append] at HK'; replace HK := HK'; clear HK'; have hs := And.intro (Lib.hid ((HK.out.takeL 2).takeR 0)) (HOf.out _ HK.out.b)
        refine hK.out _ _ hs (fun hHeld => ?_)
        clear hK K
        try simp only [Act.put, List.setIfInBounds_toArray, List.set_cons_zero, List.set_cons_succ]
        refine wpAnyH_ready (rs := [5]) (by kernel_rfl) (by simp) ?_
        refine AllReadyH.cons (o := ⟨some 36, _, _, _, _, _⟩) rfl (fun K hK => ?_) AllReadyH.nil
        go_simp
        go_at_call 10
        refine (HX.out _ _ HK.out).mono ?_; rintro e w2 ⟨A3, c3, A4, c4, rfl, f1, p1, b1⟩; replace HK := Lib.hid (next_row HK.out 0 rfl b1 f1 p1); simp only [List.set, List.cons_append, List.nil_append] at HK; clear f1 p1 b1; have hs := And.intro (Lib.hid ((HK.out.takeL 2).takeR 0)) (HOf.out _ HK.out.b)
        refine hK.out _ _ hs (fun hHeld => ?_)
        clear hK K
        try simp only 
        refine wpAnyH_take (i := 6) (oi := ⟨some 30, _, _, _, _, _⟩) (v := ?_) rfl (by kernel_rfl) (by kernel_rfl) (by kernel_rfl) (fun _ _ _ h => h) (Or.inl ⟨by rfl, ?_⟩) (by assumption) ?_
        rotate_left
        · (intro w hSw; (try dsimp only at hSw); go_simp; try with_reducible rfl)
        try simp only [Act.put, List.setIfInBounds_toArray, List.set_cons_zero, List.set_cons_succ]
        refine wpAnyH_take (i := 7) (oi := ⟨some 37, _, _, _, _, _⟩) (v := ?_) rfl (by kernel_rfl) (by kernel_rfl) (by kernel_rfl) (fun _ _ _ h => h) (Or.inl ⟨by rfl, ?_⟩) (by assumption) ?_
        rotate_left
        · (intro w hSw; (try dsimp only at hSw); go_simp; try with_reducible rfl)
        try simp only [Act.put, List.setIfInBounds_toArray, List.set_cons_zero, List.set_cons_succ]
        refine wpAnyH_take (i := 8) (oi := ⟨some 38, _, _, _, _, _⟩) (v := ?_) rfl (by kernel_rfl) (by kernel_rfl) (by kernel_rfl) (fun _ _ _ h => h) (Or.inl ⟨by rfl, ?_⟩) (by assumption) ?_
        rotate_left
        · (intro w hSw; (try dsimp only at hSw); go_simp; try with_reducible rfl)
        try simp only [Act.put, List.setIfInBounds_toArray, List.set_cons_zero, List.set_cons_succ]
        refine wpAnyH_ready (rs := [11]) (by kernel_rfl) (by simp) ?_
        refine AllReadyH.cons (o := ⟨none, _, _, _, _, _⟩) rfl (fun K hK => ?_) AllReadyH.nil
        first | (refine step_ksl HK 2 (by rfl) _ _ (by rfl) (by rfl) (by rfl) (by rfl) (by rfl) ?_; intro _ HK' _; simp only [List.set] at HK'; replace HK := HK'; clear HK'; have hs := And.intro (Lib.hid ((HK.out.takeL 2).takeR 0)) (HOf.out _ HK.out.b)) | (refine step_ksl HK 3 (by rfl) _ _ (by rfl) (by rfl) (by rfl) (by rfl) (by rfl) ?_; intro _ HK' _; simp only [List.set] at HK'; replace HK := HK'; clear HK'; have hs := And.intro (Lib.hid ((HK.out.takeL 2).takeR 0)) (HOf.out _ HK.out.b))
        refine hK.out _ _ hs (fun hHeld => ?_)
        clear hK K
        try simp only [Act.put]
        refine wpAnyH_ready (rs := [12]) (by kernel_rfl) (by simp) ?_
        refine AllReadyH.cons (o := ⟨none, _, _, _, _, _⟩) rfl (fun K hK => ?_) AllReadyH.nil
        first | (refine step_kst HK 2 (by rfl) _ _ (by rfl) (by rfl) (by rfl) (by rfl) (by rfl) ?_; intro _ HK' _; simp only [List.set] at HK'; replace HK := HK'; clear HK'; have hs := And.intro (Lib.hid ((HK.out.takeL 2).takeR 0)) (HOf.out _ HK.out.b)) | (refine step_kst HK 3 (by rfl) _ _ (by rfl) (by rfl) (by rfl) (by rfl) (by rfl) ?_; intro _ HK' _; simp only [List.set] at HK'; replace HK := HK'; clear HK'; have hs := And.intro (Lib.hid ((HK.out.takeL 2).takeR 0)) (HOf.out _ HK.out.b))
        refine hK.out _ _ hs (fun hHeld => ?_)
        clear hK K
        try simp only [Act.put]
        refine wpAnyH_done (by kernel_rfl) ?_ _
        rotate_left
        all_goals
          go_wp2_with fail
          go_meet
          first
            | exact ⟨gx, gt, A3, A4, c3, c4, rfl, rfl, HK⟩
            | exact ⟨gx, gt, A3, A4, c3, c4, rfl, rfl, Lib.hid (Kn.swap3 HK.out)⟩
      case rest =>
      clear HK HX
      obtain ⟨gx, gt, A3, A4, c3, c4, rfl, rfl, HK⟩ := hcut
      go_wp2_with fail
      go_cut [12, 13] (fun s12 s13 wx => ∃ (gy gu : Nat) (A5 A6 : Option Addr) (c5 c6 : Nat), s12 = .pointer (some ⟨gy, 0, none⟩) ∧ s13 = .pointer (some ⟨gu, 0, none⟩) ∧ Hid (Kn w.heap.size w wx [(g7, 27, lC (.slice A1 l.out.length c1) l.ms l.mc l.ps l.pc l.base l.got l.age), (g8, 27, lC (.slice A2 l.out.length c2) l.ms l.mc l.ps l.pc l.base l.got l.age), (gx, 27, lC (.slice A3 ql.out.length c3) ql.ms ql.mc ql.ps ql.pc ql.base ql.got ql.age), (gt, 32, tC (.slice A4 qp.length c4) qb qt qe), (gy, 27, lC (.slice A5 ql.out.length c5) ql.ms ql.mc ql.ps ql.pc ql.base ql.got ql.age), (gu, 32, tC (.slice A6 qp.length c6) qb qt qe)] [row strLay (.slice A3 ql.out.length c3) ql.out, row strLay (.slice A5 ql.out.length c5) ql.out, row pktLay (.slice A4 qp.length c4) qp, row pktLay (.slice A6 qp.length c6) qp]))
      case first =>
        replace HK := Lib.hid HK.out.drew
        have HH := And.intro (Lib.hid ((HK.out.takeL 2).takeR 0)) (HOf.out _ HK.out.b)
        refine wp_region_held_drew (S := (fun W => Hid (Kn w.heap.size w W [(g7, 27, lC (.slice A1 l.out.length c1) l.ms l.mc l.ps l.pc l.base l.got l.age), (g8, 27, lC (.slice A2 l.out.length c2) l.ms l.mc l.ps l.pc l.base l.got l.age)] []) ∧ Hid (lopLay.At W bl ol k x))) (by kernel_rfl) ?_ (fun hHeld => ?_)
        · (try dsimp only); exact HH
        refine wpAnyH_take (i := 0) (oi := ⟨some 40, _, _, _, _, _⟩) (v := ?_) rfl (by kernel_rfl) (by kernel_rfl) (by kernel_rfl) (fun _ _ _ h => h) (Or.inl ⟨by rfl, ?_⟩) (by assumption) ?_
        rotate_left
        · (intro w hSw; refine Eq.trans (kexec_ll hSw.1 1 _ (by rfl) (by rfl) (by rfl)) ?_; with_reducible rfl)
        try simp only [Act.put, List.setIfInBounds_toArray, List.set_cons_zero, List.set_cons_succ]
        refine wpAnyH_take (i := 1) (oi := ⟨some 41, _, _, _, _, _⟩) (v := ?_) rfl (by kernel_rfl) (by kernel_rfl) (by kernel_rfl) (fun _ _ _ h => h) (Or.inl ⟨by rfl, ?_⟩) (by assumption) ?_
        rotate_left
        · (intro w hSw; (try dsimp only at hSw); go_simp; try with_reducible rfl)
        try simp only [Act.put, List.setIfInBounds_toArray, List.set_cons_zero, List.set_cons_succ]
        refine wpAnyH_take (i := 2) (oi := ⟨some 42, _, _, _, _, _⟩) (v := ?_) rfl (by kernel_rfl) (by kernel_rfl) (by kernel_rfl) (fun _ _ _ h => h) (Or.inl ⟨by rfl, ?_⟩) (by assumption) ?_
        rotate_left
        · (intro w hSw; (try dsimp only at hSw); go_simp; try with_reducible rfl)
        try simp only [Act.put, List.setIfInBounds_toArray, List.set_cons_zero, List.set_cons_succ]
        refine wpAnyH_take (i := 3) (oi := ⟨some 43, _, _, _, _, _⟩) (v := ?_) rfl (by kernel_rfl) (by kernel_rfl) (by kernel_rfl) (fun _ _ _ h => h) (Or.inl ⟨by rfl, ?_⟩) (by assumption) ?_
        rotate_left
        · (intro w hSw; (try dsimp only at hSw); go_simp; try with_reducible rfl)
        try simp only [Act.put, List.setIfInBounds_toArray, List.set_cons_zero, List.set_cons_succ]
        refine wpAnyH_take (i := 4) (oi := ⟨some 44, _, _, _, _, _⟩) (v := ?_) rfl (by kernel_rfl) (by kernel_rfl) (by kernel_rfl) (fun _ _ _ h => h) (Or.inl ⟨by rfl, ?_⟩) (by assumption) ?_
        rotate_left
        · (intro w hSw; refine Eq.trans (exec_lop _ (by rfl) hSw.2 (by rfl)) ?_; with_reducible rfl)
        try simp only [Act.put, List.setIfInBounds_toArray, List.set_cons_zero, List.set_cons_succ]
        refine wpAnyH_ready (rs := [5, 9, 10]) (by kernel_rfl) (by simp) ?_
        refine AllReadyH.cons (o := ⟨some 45, _, _, _, _, _⟩) rfl (fun K hK => ?_) (AllReadyH.cons (o := ⟨some 12, _, _, _, _, _⟩) rfl (fun K hK => ?_) (AllReadyH.cons (o := ⟨some 13, _, _, _, _, _⟩) rfl (fun K hK => ?_) AllReadyH.nil))
        go_simp
        go_at_call 11
        refine (HZ.out _ (HK.out.own 1 rfl)).mono ?_; rintro e w2 ⟨A5, c5, A6, c6, rfl, f1, p1, b1⟩; replace HK := Lib.hid (next_row HK.out 1 rfl b1 f1 p1); simp only [List.set, List.cons_append, List.nil_append] at HK; clear f1 p1 b1; have hs := And.intro (Lib.hid ((HK.out.takeL 2).takeR 0)) (HOf.out _ HK.out.b)
        refine hK.out _ _ hs (fun hHeld => ?_)
        clear hK K
        try simp only 
        refine wpAnyH_take (i := 6) (oi := ⟨some 39, _, _, _, _, _⟩) (v := ?_) rfl (by kernel_rfl) (by kernel_rfl) (by kernel_rfl) (fun _ _ _ h => h) (Or.inl ⟨by rfl, ?_⟩) (by assumption) ?_
        rotate_left
        · (intro w hSw; (try dsimp only at hSw); go_simp; try with_reducible rfl)
        try simp only [Act.put, List.setIfInBounds_toArray, List.set_cons_zero, List.set_cons_succ]
        refine wpAnyH_take (i := 7) (oi := ⟨some 46, _, _, _, _, _⟩) (v := ?_) rfl (by kernel_rfl) (by kernel_rfl) (by kernel_rfl) (fun _ _ _ h => h) (Or.inl ⟨by rfl, ?_⟩) (by assumption) ?_
        rotate_left
        · (intro w hSw; (try dsimp only at hSw); go_simp; try with_reducible rfl)
        try simp only [Act.put, List.setIfInBounds_toArray, List.set_cons_zero, List.set_cons_succ]
        refine wpAnyH_take (i := 8) (oi := ⟨some 47, _, _, _, _, _⟩) (v := ?_) rfl (by kernel_rfl) (by kernel_rfl) (by kernel_rfl) (fun _ _ _ h => h) (Or.inl ⟨by rfl, ?_⟩) (by assumption) ?_
        rotate_left
        · (intro w hSw; (try dsimp only at hSw); go_simp; try with_reducible rfl)
        try simp only [Act.put, List.setIfInBounds_toArray, List.set_cons_zero, List.set_cons_succ]
        refine wpAnyH_ready (rs := [9, 10]) (by kernel_rfl) (by simp) ?_
        refine AllReadyH.cons (o := ⟨some 12, _, _, _, _, _⟩) rfl (fun K hK => ?_) (AllReadyH.cons (o := ⟨some 13, _, _, _, _, _⟩) rfl (fun K hK => ?_) AllReadyH.nil)
        refine step_akl HK (by rfl) (by rfl) ?_; intro wA gy HK' _; simp only [List.cons_append, List.nil_append] at HK'; replace HK := HK'; clear HK'; have hs := And.intro (Lib.hid ((HK.out.takeL 2).takeR 0)) (HOf.out _ HK.out.b)
        refine hK.out _ _ hs (fun hHeld => ?_)
        clear hK K
        try simp only [Act.put, List.setIfInBounds_toArray, List.set_cons_zero, List.set_cons_succ]
        refine wpAnyH_ready (rs := [10]) (by kernel_rfl) (by simp) ?_
        refine AllReadyH.cons (o := ⟨some 13, _, _, _, _, _⟩) rfl (fun K hK => ?_) AllReadyH.nil
        refine step_akt HK (by rfl) (by rfl) ?_; intro wA gu HK' _; simp only [List.cons_append, List.nil_append] at HK'; replace HK := HK'; clear HK'; have hs := And.intro (Lib.hid ((HK.out.takeL 2).takeR 0)) (HOf.out _ HK.out.b)
        refine hK.out _ _ hs (fun hHeld => ?_)
        clear hK K
        try simp only [Act.put, List.setIfInBounds_toArray, List.set_cons_zero, List.set_cons_succ]
        refine wpAnyH_ready (rs := [11]) (by kernel_rfl) (by simp) ?_
        refine AllReadyH.cons (o := ⟨none, _, _, _, _, _⟩) rfl (fun K hK => ?_) AllReadyH.nil
        first | (refine step_ksl HK 4 (by rfl) _ _ (by rfl) (by rfl) (by rfl) (by rfl) (by rfl) ?_; intro _ HK' _; simp only [List.set] at HK'; replace HK := HK'; clear HK'; have hs := And.intro (Lib.hid ((HK.out.takeL 2).takeR 0)) (HOf.out _ HK.out.b)) | (refine step_ksl HK 5 (by rfl) _ _ (by rfl) (by rfl) (by rfl) (by rfl) (by rfl) ?_; intro _ HK' _; simp only [List.set] at HK'; replace HK := HK'; clear HK'; have hs := And.intro (Lib.hid ((HK.out.takeL 2).takeR 0)) (HOf.out _ HK.out.b))
        refine hK.out _ _ hs (fun hHeld => ?_)
        clear hK K
        try simp only [Act.put]
        refine wpAnyH_ready (rs := [12]) (by kernel_rfl) (by simp) ?_
        refine AllReadyH.cons (o := ⟨none, _, _, _, _, _⟩) rfl (fun K hK => ?_) AllReadyH.nil
        first | (refine step_kst HK 4 (by rfl) _ _ (by rfl) (by rfl) (by rfl) (by rfl) (by rfl) ?_; intro _ HK' _; simp only [List.set] at HK'; replace HK := HK'; clear HK'; have hs := And.intro (Lib.hid ((HK.out.takeL 2).takeR 0)) (HOf.out _ HK.out.b)) | (refine step_kst HK 5 (by rfl) _ _ (by rfl) (by rfl) (by rfl) (by rfl) (by rfl) ?_; intro _ HK' _; simp only [List.set] at HK'; replace HK := HK'; clear HK'; have hs := And.intro (Lib.hid ((HK.out.takeL 2).takeR 0)) (HOf.out _ HK.out.b))
        refine hK.out _ _ hs (fun hHeld => ?_)
        clear hK K
        try simp only [Act.put]
        refine wpAnyH_done (by kernel_rfl) ?_ _
        rotate_left
        refine step_akt HK (by rfl) (by rfl) ?_; intro wA gu HK' _; simp only [List.cons_append, List.nil_append] at HK'; replace HK := HK'; clear HK'; have hs := And.intro (Lib.hid ((HK.out.takeL 2).takeR 0)) (HOf.out _ HK.out.b)
        refine hK.out _ _ hs (fun hHeld => ?_)
        clear hK K
        try simp only [Act.put, List.setIfInBounds_toArray, List.set_cons_zero, List.set_cons_succ]
        refine wpAnyH_ready (rs := [9]) (by kernel_rfl) (by simp) ?_
        refine AllReadyH.cons (o := ⟨some 12, _, _, _, _, _⟩) rfl (fun K hK => ?_) AllReadyH.nil
        refine step_akl HK (by rfl) (by rfl) ?_; intro wA gy HK' _; simp only [List.cons_append, List.nil_append] at HK'; replace HK := HK'; clear HK'; have hs := And.intro (Lib.hid ((HK.out.takeL 2).takeR 0)) (HOf.out _ HK.out.b)
        refine hK.out _ _ hs (fun hHeld => ?_)
        clear hK K
        try simp only [Act.put, List.setIfInBounds_toArray, List.set_cons_zero, List.set_cons_succ]
        refine wpAnyH_ready (rs := [11]) (by kernel_rfl) (by simp) ?_
        refine AllReadyH.cons (o := ⟨none, _, _, _, _, _⟩) rfl (fun K hK => ?_) AllReadyH.nil
        first | (refine step_ksl HK 4 (by rfl) _ _ (by rfl) (by rfl) (by rfl) (by rfl) (by rfl) ?_; intro _ HK' _; simp only [List.set] at HK'; replace HK := HK'; clear HK'; have hs := And.intro (Lib.hid ((HK.out.takeL 2).takeR 0)) (HOf.out _ HK.out.b)) | (refine step_ksl HK 5 (by rfl) _ _ (by rfl) (by rfl) (by rfl) (by rfl) (by rfl) ?_; intro _ HK' _; simp only [List.set] at HK'; replace HK := HK'; clear HK'; have hs := And.intro (Lib.hid ((HK.out.takeL 2).takeR 0)) (HOf.out _ HK.out.b))
        refine hK.out _ _ hs (fun hHeld => ?_)
        clear hK K
        try simp only [Act.put]
        refine wpAnyH_ready (rs := [12]) (by kernel_rfl) (by simp) ?_
        refine AllReadyH.cons (o := ⟨none, _, _, _, _, _⟩) rfl (fun K hK => ?_) AllReadyH.nil
        first | (refine step_kst HK 4 (by rfl) _ _ (by rfl) (by rfl) (by rfl) (by rfl) (by rfl) ?_; intro _ HK' _; simp only [List.set] at HK'; replace HK := HK'; clear HK'; have hs := And.intro (Lib.hid ((HK.out.takeL 2).takeR 0)) (HOf.out _ HK.out.b)) | (refine step_kst HK 5 (by rfl) _ _ (by rfl) (by rfl) (by rfl) (by rfl) (by rfl) ?_; intro _ HK' _; simp only [List.set] at HK'; replace HK := HK'; clear HK'; have hs := And.intro (Lib.hid ((HK.out.takeL 2).takeR 0)) (HOf.out _ HK.out.b))
        refine hK.out _ _ hs (fun hHeld => ?_)
        clear hK K
        try simp only [Act.put]
        refine wpAnyH_done (by kernel_rfl) ?_ _
        rotate_left
        refine step_akl HK (by rfl) (by rfl) ?_; intro wA gy HK' _; simp only [List.cons_append, List.nil_append] at HK'; replace HK := HK'; clear HK'; have hs := And.intro (Lib.hid ((HK.out.takeL 2).takeR 0)) (HOf.out _ HK.out.b)
        refine hK.out _ _ hs (fun hHeld => ?_)
        clear hK K
        try simp only [Act.put, List.setIfInBounds_toArray, List.set_cons_zero, List.set_cons_succ]
        refine wpAnyH_ready (rs := [5, 10]) (by kernel_rfl) (by simp) ?_
        refine AllReadyH.cons (o := ⟨some 45, _, _, _, _, _⟩) rfl (fun K hK => ?_) (AllReadyH.cons (o := ⟨some 13, _, _, _, _, _⟩) rfl (fun K hK => ?_) AllReadyH.nil)
        go_simp
        go_at_call 11
        refine (HZ.out _ (HK.out.own 1 rfl)).mono ?_; rintro e w2 ⟨A5, c5, A6, c6, rfl, f1, p1, b1⟩; replace HK := Lib.hid (next_row HK.out 1 rfl b1 f1 p1); simp only [List.set, List.cons_append, List.nil_append] at HK; clear f1 p1 b1; have hs := And.intro (Lib.hid ((HK.out.takeL 2).takeR 0)) (HOf.out _ HK.out.b)
        refine hK.out _ _ hs (fun hHeld => ?_)
        clear hK K
        try simp only 
        refine wpAnyH_take (i := 6) (oi := ⟨some 39, _, _, _, _, _⟩) (v := ?_) rfl (by kernel_rfl) (by kernel_rfl) (by kernel_rfl) (fun _ _ _ h => h) (Or.inl ⟨by rfl, ?_⟩) (by assumption) ?_
        rotate_left
        · (intro w hSw; (try dsimp only at hSw); go_simp; try with_reducible rfl)
        try simp only [Act.put, List.setIfInBounds_toArray, List.set_cons_zero, List.set_cons_succ]
        refine wpAnyH_take (i := 7) (oi := ⟨some 46, _, _, _, _, _⟩) (v := ?_) rfl (by kernel_rfl) (by kernel_rfl) (by kernel_rfl) (fun _ _ _ h => h) (Or.inl ⟨by rfl, ?_⟩) (by assumption) ?_
        rotate_left
        · (intro w hSw; (try dsimp only at hSw); go_simp; try with_reducible rfl)
        try simp only [Act.put, List.setIfInBounds_toArray, List.set_cons_zero, List.set_cons_succ]
        refine wpAnyH_take (i := 8) (oi := ⟨some 47, _, _, _, _, _⟩) (v := ?_) rfl (by kernel_rfl) (by kernel_rfl) (by kernel_rfl) (fun _ _ _ h => h) (Or.inl ⟨by rfl, ?_⟩) (by assumption) ?_
        rotate_left
        · (intro w hSw; (try dsimp only at hSw); go_simp; try with_reducible rfl)
        try simp only [Act.put, List.setIfInBounds_toArray, List.set_cons_zero, List.set_cons_succ]
        refine wpAnyH_ready (rs := [10]) (by kernel_rfl) (by simp) ?_
        refine AllReadyH.cons (o := ⟨some 13, _, _, _, _, _⟩) rfl (fun K hK => ?_) AllReadyH.nil
        refine step_akt HK (by rfl) (by rfl) ?_; intro wA gu HK' _; simp only [List.cons_append, List.nil_append] at HK'; replace HK := HK'; clear HK'; have hs := And.intro (Lib.hid ((HK.out.takeL 2).takeR 0)) (HOf.out _ HK.out.b)
        refine hK.out _ _ hs (fun hHeld => ?_)
        clear hK K
        try simp only [Act.put, List.setIfInBounds_toArray, List.set_cons_zero, List.set_cons_succ]
        refine wpAnyH_ready (rs := [11]) (by kernel_rfl) (by simp) ?_
        refine AllReadyH.cons (o := ⟨none, _, _, _, _, _⟩) rfl (fun K hK => ?_) AllReadyH.nil
        first | (refine step_ksl HK 4 (by rfl) _ _ (by rfl) (by rfl) (by rfl) (by rfl) (by rfl) ?_; intro _ HK' _; simp only [List.set] at HK'; replace HK := HK'; clear HK'; have hs := And.intro (Lib.hid ((HK.out.takeL 2).takeR 0)) (HOf.out _ HK.out.b)) | (refine step_ksl HK 5 (by rfl) _ _ (by rfl) (by rfl) (by rfl) (by rfl) (by rfl) ?_; intro _ HK' _; simp only [List.set] at HK'; replace HK := HK'; clear HK'; have hs := And.intro (Lib.hid ((HK.out.takeL 2).takeR 0)) (HOf.out _ HK.out.b))
        refine hK.out _ _ hs (fun hHeld => ?_)
        clear hK K
        try simp only [Act.put]
        refine wpAnyH_ready (rs := [12]) (by kernel_rfl) (by simp) ?_
        refine AllReadyH.cons (o := ⟨none, _, _, _, _, _⟩) rfl (fun K hK => ?_) AllReadyH.nil
        first | (refine step_kst HK 4 (by rfl) _ _ (by rfl) (by rfl) (by rfl) (by rfl) (by rfl) ?_; intro _ HK' _; simp only [List.set] at HK'; replace HK := HK'; clear HK'; have hs := And.intro (Lib.hid ((HK.out.takeL 2).takeR 0)) (HOf.out _ HK.out.b)) | (refine step_kst HK 5 (by rfl) _ _ (by rfl) (by rfl) (by rfl) (by rfl) (by rfl) ?_; intro _ HK' _; simp only [List.set] at HK'; replace HK := HK'; clear HK'; have hs := And.intro (Lib.hid ((HK.out.takeL 2).takeR 0)) (HOf.out _ HK.out.b))
        refine hK.out _ _ hs (fun hHeld => ?_)
        clear hK K
        try simp only [Act.put]
        refine wpAnyH_done (by kernel_rfl) ?_ _
        rotate_left
        refine step_akt HK (by rfl) (by rfl) ?_; intro wA gu HK' _; simp only [List.cons_append, List.nil_append] at HK'; replace HK := HK'; clear HK'; have hs := And.intro (Lib.hid ((HK.out.takeL 2).takeR 0)) (HOf.out _ HK.out.b)
        refine hK.out _ _ hs (fun hHeld => ?_)
        clear hK K
        try simp only [Act.put, List.setIfInBounds_toArray, List.set_cons_zero, List.set_cons_succ]
        refine wpAnyH_ready (rs := [5]) (by kernel_rfl) (by simp) ?_
        refine AllReadyH.cons (o := ⟨some 45, _, _, _, _, _⟩) rfl (fun K hK => ?_) AllReadyH.nil
        go_simp
        go_at_call 11
        refine (HZ.out _ (HK.out.own 1 rfl)).mono ?_; rintro e w2 ⟨A5, c5, A6, c6, rfl, f1, p1, b1⟩; replace HK := Lib.hid (next_row HK.out 1 rfl b1 f1 p1); simp only [List.set, List.cons_append, List.nil_append] at HK; clear f1 p1 b1; have hs := And.intro (Lib.hid ((HK.out.takeL 2).takeR 0)) (HOf.out _ HK.out.b)
        refine hK.out _ _ hs (fun hHeld => ?_)
        clear hK K
        try simp only 
        refine wpAnyH_take (i := 6) (oi := ⟨some 39, _, _, _, _, _⟩) (v := ?_) rfl (by kernel_rfl) (by kernel_rfl) (by kernel_rfl) (fun _ _ _ h => h) (Or.inl ⟨by rfl, ?_⟩) (by assumption) ?_
        rotate_left
        · (intro w hSw; (try dsimp only at hSw); go_simp; try with_reducible rfl)
        try simp only [Act.put, List.setIfInBounds_toArray, List.set_cons_zero, List.set_cons_succ]
        refine wpAnyH_take (i := 7) (oi := ⟨some 46, _, _, _, _, _⟩) (v := ?_) rfl (by kernel_rfl) (by kernel_rfl) (by kernel_rfl) (fun _ _ _ h => h) (Or.inl ⟨by rfl, ?_⟩) (by assumption) ?_
        rotate_left
        · (intro w hSw; (try dsimp only at hSw); go_simp; try with_reducible rfl)
        try simp only [Act.put, List.setIfInBounds_toArray, List.set_cons_zero, List.set_cons_succ]
        refine wpAnyH_take (i := 8) (oi := ⟨some 47, _, _, _, _, _⟩) (v := ?_) rfl (by kernel_rfl) (by kernel_rfl) (by kernel_rfl) (fun _ _ _ h => h) (Or.inl ⟨by rfl, ?_⟩) (by assumption) ?_
        rotate_left
        · (intro w hSw; (try dsimp only at hSw); go_simp; try with_reducible rfl)
        try simp only [Act.put, List.setIfInBounds_toArray, List.set_cons_zero, List.set_cons_succ]
        refine wpAnyH_ready (rs := [11]) (by kernel_rfl) (by simp) ?_
        refine AllReadyH.cons (o := ⟨none, _, _, _, _, _⟩) rfl (fun K hK => ?_) AllReadyH.nil
        first | (refine step_ksl HK 4 (by rfl) _ _ (by rfl) (by rfl) (by rfl) (by rfl) (by rfl) ?_; intro _ HK' _; simp only [List.set] at HK'; replace HK := HK'; clear HK'; have hs := And.intro (Lib.hid ((HK.out.takeL 2).takeR 0)) (HOf.out _ HK.out.b)) | (refine step_ksl HK 5 (by rfl) _ _ (by rfl) (by rfl) (by rfl) (by rfl) (by rfl) ?_; intro _ HK' _; simp only [List.set] at HK'; replace HK := HK'; clear HK'; have hs := And.intro (Lib.hid ((HK.out.takeL 2).takeR 0)) (HOf.out _ HK.out.b))
        refine hK.out _ _ hs (fun hHeld => ?_)
        clear hK K
        try simp only [Act.put]
        refine wpAnyH_ready (rs := [12]) (by kernel_rfl) (by simp) ?_
        refine AllReadyH.cons (o := ⟨none, _, _, _, _, _⟩) rfl (fun K hK => ?_) AllReadyH.nil
        first | (refine step_kst HK 4 (by rfl) _ _ (by rfl) (by rfl) (by rfl) (by rfl) (by rfl) ?_; intro _ HK' _; simp only [List.set] at HK'; replace HK := HK'; clear HK'; have hs := And.intro (Lib.hid ((HK.out.takeL 2).takeR 0)) (HOf.out _ HK.out.b)) | (refine step_kst HK 5 (by rfl) _ _ (by rfl) (by rfl) (by rfl) (by rfl) (by rfl) ?_; intro _ HK' _; simp only [List.set] at HK'; replace HK := HK'; clear HK'; have hs := And.intro (Lib.hid ((HK.out.takeL 2).takeR 0)) (HOf.out _ HK.out.b))
        refine hK.out _ _ hs (fun hHeld => ?_)
        clear hK K
        try simp only [Act.put]
        refine wpAnyH_done (by kernel_rfl) ?_ _
        rotate_left
        refine step_akt HK (by rfl) (by rfl) ?_; intro wA gu HK' _; simp only [List.cons_append, List.nil_append] at HK'; replace HK := HK'; clear HK'; have hs := And.intro (Lib.hid ((HK.out.takeL 2).takeR 0)) (HOf.out _ HK.out.b)
        refine hK.out _ _ hs (fun hHeld => ?_)
        clear hK K
        try simp only [Act.put, List.setIfInBounds_toArray, List.set_cons_zero, List.set_cons_succ]
        refine wpAnyH_ready (rs := [5, 9]) (by kernel_rfl) (by simp) ?_
        refine AllReadyH.cons (o := ⟨some 45, _, _, _, _, _⟩) rfl (fun K hK => ?_) (AllReadyH.cons (o := ⟨some 12, _, _, _, _, _⟩) rfl (fun K hK => ?_) AllReadyH.nil)
        go_simp
        go_at_call 11
        refine (HZ.out _ (HK.out.own 1 rfl)).mono ?_; rintro e w2 ⟨A5, c5, A6, c6, rfl, f1, p1, b1⟩; replace HK := Lib.hid (next_row HK.out 1 rfl b1 f1 p1); simp only [List.set, List.cons_append, List.nil_append] at HK; clear f1 p1 b1; have hs := And.intro (Lib.hid ((HK.out.takeL 2).takeR 0)) (HOf.out _ HK.out.b)
        refine hK.out _ _ hs (fun hHeld => ?_)
        clear hK K
        try simp only 
        refine wpAnyH_take (i := 6) (oi := ⟨some 39, _, _, _, _, _⟩) (v := ?_) rfl (by kernel_rfl) (by kernel_rfl) (by kernel_rfl) (fun _ _ _ h => h) (Or.inl ⟨by rfl, ?_⟩) (by assumption) ?_
        rotate_left
        · (intro w hSw; (try dsimp only at hSw); go_simp; try with_reducible rfl)
        try simp only [Act.put, List.setIfInBounds_toArray, List.set_cons_zero, List.set_cons_succ]
        refine wpAnyH_take (i := 7) (oi := ⟨some 46, _, _, _, _, _⟩) (v := ?_) rfl (by kernel_rfl) (by kernel_rfl) (by kernel_rfl) (fun _ _ _ h => h) (Or.inl ⟨by rfl, ?_⟩) (by assumption) ?_
        rotate_left
        · (intro w hSw; (try dsimp only at hSw); go_simp; try with_reducible rfl)
        try simp only [Act.put, List.setIfInBounds_toArray, List.set_cons_zero, List.set_cons_succ]
        refine wpAnyH_take (i := 8) (oi := ⟨some 47, _, _, _, _, _⟩) (v := ?_) rfl (by kernel_rfl) (by kernel_rfl) (by kernel_rfl) (fun _ _ _ h => h) (Or.inl ⟨by rfl, ?_⟩) (by assumption) ?_
        rotate_left
        · (intro w hSw; (try dsimp only at hSw); go_simp; try with_reducible rfl)
        try simp only [Act.put, List.setIfInBounds_toArray, List.set_cons_zero, List.set_cons_succ]
        refine wpAnyH_ready (rs := [9]) (by kernel_rfl) (by simp) ?_
        refine AllReadyH.cons (o := ⟨some 12, _, _, _, _, _⟩) rfl (fun K hK => ?_) AllReadyH.nil
        refine step_akl HK (by rfl) (by rfl) ?_; intro wA gy HK' _; simp only [List.cons_append, List.nil_append] at HK'; replace HK := HK'; clear HK'; have hs := And.intro (Lib.hid ((HK.out.takeL 2).takeR 0)) (HOf.out _ HK.out.b)
        refine hK.out _ _ hs (fun hHeld => ?_)
        clear hK K
        try simp only [Act.put, List.setIfInBounds_toArray, List.set_cons_zero, List.set_cons_succ]
        refine wpAnyH_ready (rs := [11]) (by kernel_rfl) (by simp) ?_
        refine AllReadyH.cons (o := ⟨none, _, _, _, _, _⟩) rfl (fun K hK => ?_) AllReadyH.nil
        first | (refine step_ksl HK 4 (by rfl) _ _ (by rfl) (by rfl) (by rfl) (by rfl) (by rfl) ?_; intro _ HK' _; simp only [List.set] at HK'; replace HK := HK'; clear HK'; have hs := And.intro (Lib.hid ((HK.out.takeL 2).takeR 0)) (HOf.out _ HK.out.b)) | (refine step_ksl HK 5 (by rfl) _ _ (by rfl) (by rfl) (by rfl) (by rfl) (by rfl) ?_; intro _ HK' _; simp only [List.set] at HK'; replace HK := HK'; clear HK'; have hs := And.intro (Lib.hid ((HK.out.takeL 2).takeR 0)) (HOf.out _ HK.out.b))
        refine hK.out _ _ hs (fun hHeld => ?_)
        clear hK K
        try simp only [Act.put]
        refine wpAnyH_ready (rs := [12]) (by kernel_rfl) (by simp) ?_
        refine AllReadyH.cons (o := ⟨none, _, _, _, _, _⟩) rfl (fun K hK => ?_) AllReadyH.nil
        first | (refine step_kst HK 4 (by rfl) _ _ (by rfl) (by rfl) (by rfl) (by rfl) (by rfl) ?_; intro _ HK' _; simp only [List.set] at HK'; replace HK := HK'; clear HK'; have hs := And.intro (Lib.hid ((HK.out.takeL 2).takeR 0)) (HOf.out _ HK.out.b)) | (refine step_kst HK 5 (by rfl) _ _ (by rfl) (by rfl) (by rfl) (by rfl) (by rfl) ?_; intro _ HK' _; simp only [List.set] at HK'; replace HK := HK'; clear HK'; have hs := And.intro (Lib.hid ((HK.out.takeL 2).takeR 0)) (HOf.out _ HK.out.b))
        refine hK.out _ _ hs (fun hHeld => ?_)
        clear hK K
        try simp only [Act.put]
        refine wpAnyH_done (by kernel_rfl) ?_ _
        rotate_left
        refine step_akl HK (by rfl) (by rfl) ?_; intro wA gy HK' _; simp only [List.cons_append, List.nil_append] at HK'; replace HK := HK'; clear HK'; have hs := And.intro (Lib.hid ((HK.out.takeL 2).takeR 0)) (HOf.out _ HK.out.b)
        refine hK.out _ _ hs (fun hHeld => ?_)
        clear hK K
        try simp only [Act.put, List.setIfInBounds_toArray, List.set_cons_zero, List.set_cons_succ]
        refine wpAnyH_ready (rs := [5]) (by kernel_rfl) (by simp) ?_
        refine AllReadyH.cons (o := ⟨some 45, _, _, _, _, _⟩) rfl (fun K hK => ?_) AllReadyH.nil
        go_simp
        go_at_call 11
        refine (HZ.out _ (HK.out.own 1 rfl)).mono ?_; rintro e w2 ⟨A5, c5, A6, c6, rfl, f1, p1, b1⟩; replace HK := Lib.hid (next_row HK.out 1 rfl b1 f1 p1); simp only [List.set, List.cons_append, List.nil_append] at HK; clear f1 p1 b1; have hs := And.intro (Lib.hid ((HK.out.takeL 2).takeR 0)) (HOf.out _ HK.out.b)
        refine hK.out _ _ hs (fun hHeld => ?_)
        clear hK K
        try simp only 
        refine wpAnyH_take (i := 6) (oi := ⟨some 39, _, _, _, _, _⟩) (v := ?_) rfl (by kernel_rfl) (by kernel_rfl) (by kernel_rfl) (fun _ _ _ h => h) (Or.inl ⟨by rfl, ?_⟩) (by assumption) ?_
        rotate_left
        · (intro w hSw; (try dsimp only at hSw); go_simp; try with_reducible rfl)
        try simp only [Act.put, List.setIfInBounds_toArray, List.set_cons_zero, List.set_cons_succ]
        refine wpAnyH_take (i := 7) (oi := ⟨some 46, _, _, _, _, _⟩) (v := ?_) rfl (by kernel_rfl) (by kernel_rfl) (by kernel_rfl) (fun _ _ _ h => h) (Or.inl ⟨by rfl, ?_⟩) (by assumption) ?_
        rotate_left
        · (intro w hSw; (try dsimp only at hSw); go_simp; try with_reducible rfl)
        try simp only [Act.put, List.setIfInBounds_toArray, List.set_cons_zero, List.set_cons_succ]
        refine wpAnyH_take (i := 8) (oi := ⟨some 47, _, _, _, _, _⟩) (v := ?_) rfl (by kernel_rfl) (by kernel_rfl) (by kernel_rfl) (fun _ _ _ h => h) (Or.inl ⟨by rfl, ?_⟩) (by assumption) ?_
        rotate_left
        · (intro w hSw; (try dsimp only at hSw); go_simp; try with_reducible rfl)
        try simp only [Act.put, List.setIfInBounds_toArray, List.set_cons_zero, List.set_cons_succ]
        refine wpAnyH_ready (rs := [11]) (by kernel_rfl) (by simp) ?_
        refine AllReadyH.cons (o := ⟨none, _, _, _, _, _⟩) rfl (fun K hK => ?_) AllReadyH.nil
        first | (refine step_ksl HK 4 (by rfl) _ _ (by rfl) (by rfl) (by rfl) (by rfl) (by rfl) ?_; intro _ HK' _; simp only [List.set] at HK'; replace HK := HK'; clear HK'; have hs := And.intro (Lib.hid ((HK.out.takeL 2).takeR 0)) (HOf.out _ HK.out.b)) | (refine step_ksl HK 5 (by rfl) _ _ (by rfl) (by rfl) (by rfl) (by rfl) (by rfl) ?_; intro _ HK' _; simp only [List.set] at HK'; replace HK := HK'; clear HK'; have hs := And.intro (Lib.hid ((HK.out.takeL 2).takeR 0)) (HOf.out _ HK.out.b))
        refine hK.out _ _ hs (fun hHeld => ?_)
        clear hK K
        try simp only [Act.put]
        refine wpAnyH_ready (rs := [12]) (by kernel_rfl) (by simp) ?_
        refine AllReadyH.cons (o := ⟨none, _, _, _, _, _⟩) rfl (fun K hK => ?_) AllReadyH.nil
        first | (refine step_kst HK 4 (by rfl) _ _ (by rfl) (by rfl) (by rfl) (by rfl) (by rfl) ?_; intro _ HK' _; simp only [List.set] at HK'; replace HK := HK'; clear HK'; have hs := And.intro (Lib.hid ((HK.out.takeL 2).takeR 0)) (HOf.out _ HK.out.b)) | (refine step_kst HK 5 (by rfl) _ _ (by rfl) (by rfl) (by rfl) (by rfl) (by rfl) ?_; intro _ HK' _; simp only [List.set] at HK'; replace HK := HK'; clear HK'; have hs := And.intro (Lib.hid ((HK.out.takeL 2).takeR 0)) (HOf.out _ HK.out.b))
        refine hK.out _ _ hs (fun hHeld => ?_)
        clear hK K
        try simp only [Act.put]
        refine wpAnyH_done (by kernel_rfl) ?_ _
        rotate_left
        all_goals
          go_wp2_with fail
          go_meet
          first
            | exact ⟨gy, gu, A5, A6, c5, c6, rfl, rfl, HK⟩
            | exact ⟨gy, gu, A5, A6, c5, c6, rfl, rfl, Lib.hid (Kn.swap5 HK.out)⟩
      case rest =>
      clear HK HZ
      obtain ⟨gy, gu, A5, A6, c5, c6, rfl, rfl, HK⟩ := hcut
      go_wp2_with (first | refine wpList_of_exec (by rfl) (kexec_lt HK 3 _ (by rfl) (by rfl) (by rfl)) ?_ | refine wpList_of_exec (by rfl) (kexec_lt HK 5 _ (by rfl) (by rfl) (by rfl)) ?_)
      refine (HSm.out _ _ _ _ _ (HK.out.own 2 rfl) (HK.out.own 3 rfl)).mono ?_; rintro e w5 ⟨rfl, b5⟩
      replace HK := Lib.hid (HK.out.call b5)
      clear b5 HSm
      go_wp2_with (first | refine wpList_of_exec (by rfl) (kexec_ll HK 2 _ (by rfl) (by rfl) (by rfl)) ?_ | refine wpList_of_exec (by rfl) (kexec_ll HK 4 _ (by rfl) (by rfl) (by rfl)) ?_)
      refine (HSq.out _ _ _ _ _ (HK.out.own 0 rfl) (HK.out.own 1 rfl)).mono ?_; rintro e w6 ⟨rfl, b6⟩
      replace HK := Lib.hid (HK.out.call b6)
      clear b6 HSq
      go_wp2_with fail
      replace HK := Lib.hid HK.out.drew
      refine wp_region_any (by kernel_rfl) ?_
      change wpAny _ _ _ _ _ _ _ (World.drew _)
      refine wpAny_ready (rs := [0, 1]) (by kernel_rfl) (by simp) ?_
      refine AllReady.cons (o := ⟨some 58, _, _, _, _, _⟩) rfl (fun K hK => ?_) (AllReady.cons (o := ⟨some 59, _, _, _, _, _⟩) rfl (fun K hK => ?_) AllReady.nil)
      replace hK := Lib.hid hK
      refine step_kll HK 2 (by rfl) _ (by rfl) (by rfl) (by rfl) ?_
      refine hK.out _ _ ?_
      clear hK K
      try simp only [Act.put, List.setIfInBounds_toArray, List.set_cons_zero, List.set_cons_succ]
      refine wpAny_ready (rs := [1, 2]) (by kernel_rfl) (by simp) ?_
      refine AllReady.cons (o := ⟨some 59, _, _, _, _, _⟩) rfl (fun K hK => ?_) (AllReady.cons (o := ⟨none, _, _, _, _, _⟩) rfl (fun K hK => ?_) AllReady.nil)
      replace hK := Lib.hid hK
      refine step_kll HK 4 (by rfl) _ (by rfl) (by rfl) (by rfl) ?_
      refine hK.out _ _ ?_
      clear hK K
      try simp only [Act.put, List.setIfInBounds_toArray, List.set_cons_zero, List.set_cons_succ]
      refine wpAny_ready (rs := [2]) (by kernel_rfl) (by simp) ?_
      refine AllReady.cons (o := ⟨none, _, _, _, _, _⟩) rfl (fun K hK => ?_) AllReady.nil
      replace hK := Lib.hid hK
      refine step_ksl HK 0 (by rfl) _ _ (by rfl) (by rfl) (by rfl) (by rfl) (by rfl) ?_; intro _ HK' _; simp only [List.set] at HK'; replace HK := HK'; clear HK'
      refine hK.out _ _ ?_
      clear hK K
      try simp only [Act.put]
      refine wpAny_ready (rs := [3]) (by kernel_rfl) (by simp) ?_
      refine AllReady.cons (o := ⟨none, _, _, _, _, _⟩) rfl (fun K hK => ?_) AllReady.nil
      replace hK := Lib.hid hK
      refine step_ksl HK 1 (by rfl) _ _ (by rfl) (by rfl) (by rfl) (by rfl) (by rfl) ?_; intro _ HK' _; simp only [List.set] at HK'; replace HK := HK'; clear HK'
      refine hK.out _ _ ?_
      clear hK K
      try simp only [Act.put]
      refine wpAny_done (by kernel_rfl) ?_ _
      rotate_left
      replace hK := Lib.hid hK
      refine step_ksl HK 0 (by rfl) _ _ (by rfl) (by rfl) (by rfl) (by rfl) (by rfl) ?_; intro _ HK' _; simp only [List.set] at HK'; replace HK := HK'; clear HK'
      refine hK.out _ _ ?_
      clear hK K
      try simp only [Act.put]
      refine wpAny_ready (rs := [1]) (by kernel_rfl) (by simp) ?_
      refine AllReady.cons (o := ⟨some 59, _, _, _, _, _⟩) rfl (fun K hK => ?_) AllReady.nil
      replace hK := Lib.hid hK
      refine step_kll HK 4 (by rfl) _ (by rfl) (by rfl) (by rfl) ?_
      refine hK.out _ _ ?_
      clear hK K
      try simp only [Act.put, List.setIfInBounds_toArray, List.set_cons_zero, List.set_cons_succ]
      refine wpAny_ready (rs := [3]) (by kernel_rfl) (by simp) ?_
      refine AllReady.cons (o := ⟨none, _, _, _, _, _⟩) rfl (fun K hK => ?_) AllReady.nil
      replace hK := Lib.hid hK
      refine step_ksl HK 1 (by rfl) _ _ (by rfl) (by rfl) (by rfl) (by rfl) (by rfl) ?_; intro _ HK' _; simp only [List.set] at HK'; replace HK := HK'; clear HK'
      refine hK.out _ _ ?_
      clear hK K
      try simp only [Act.put]
      refine wpAny_done (by kernel_rfl) ?_ _
      rotate_left
      replace hK := Lib.hid hK
      refine step_kll HK 4 (by rfl) _ (by rfl) (by rfl) (by rfl) ?_
      refine hK.out _ _ ?_
      clear hK K
      try simp only [Act.put, List.setIfInBounds_toArray, List.set_cons_zero, List.set_cons_succ]
      refine wpAny_ready (rs := [0]) (by kernel_rfl) (by simp) ?_
      refine AllReady.cons (o := ⟨some 58, _, _, _, _, _⟩) rfl (fun K hK => ?_) AllReady.nil
      replace hK := Lib.hid hK
      refine step_kll HK 2 (by rfl) _ (by rfl) (by rfl) (by rfl) ?_
      refine hK.out _ _ ?_
      clear hK K
      try simp only [Act.put, List.setIfInBounds_toArray, List.set_cons_zero, List.set_cons_succ]
      refine wpAny_ready (rs := [2]) (by kernel_rfl) (by simp) ?_
      refine AllReady.cons (o := ⟨none, _, _, _, _, _⟩) rfl (fun K hK => ?_) AllReady.nil
      replace hK := Lib.hid hK
      refine step_ksl HK 0 (by rfl) _ _ (by rfl) (by rfl) (by rfl) (by rfl) (by rfl) ?_; intro _ HK' _; simp only [List.set] at HK'; replace HK := HK'; clear HK'
      refine hK.out _ _ ?_
      clear hK K
      try simp only [Act.put]
      refine wpAny_ready (rs := [3]) (by kernel_rfl) (by simp) ?_
      refine AllReady.cons (o := ⟨none, _, _, _, _, _⟩) rfl (fun K hK => ?_) AllReady.nil
      replace hK := Lib.hid hK
      refine step_ksl HK 1 (by rfl) _ _ (by rfl) (by rfl) (by rfl) (by rfl) (by rfl) ?_; intro _ HK' _; simp only [List.set] at HK'; replace HK := HK'; clear HK'
      refine hK.out _ _ ?_
      clear hK K
      try simp only [Act.put]
      refine wpAny_done (by kernel_rfl) ?_ _
      rotate_left
      all_goals
        go_wp2_with fail
        exact ⟨⟨k + 1, ql, A3, A5, c3, c5, by omega, by omega, by go_num, HNx, Lib.hid ((HK.out.takeL 2).takeR 2)⟩, by simp [intOf]; omega⟩
    · rcases Nat.lt_or_ge k n with hlt | hlt
      · have hk1 : (k : Int) < (n : Int) := by omega
        have hk3 : ¬ (k : Int) < 200 := by omega
        clear HI HGet hc
        go_wp2_with fail
        refine (HAw.out _).mono ?_; rintro e w3 ⟨rfl, b3⟩
        replace HK := Lib.hid (HK.out.call b3)
        clear b3
        go_wp2_with (first | refine wpList_of_exec (by rfl) (kexec_ll HK 0 _ (by rfl) (by rfl) (by rfl)) ?_ | refine wpList_of_exec (by rfl) (kexec_ll HK 1 _ (by rfl) (by rfl) (by rfl)) ?_)
        refine (HSE.out _ _ HK.out).mono ?_; rintro e w4 ⟨rfl, b4⟩
        replace HK := Lib.hid (HK.out.call b4)
        go_wp2_with fail
        go_ret
        exact ⟨rfl, HK.out.b⟩
      · have hk1 : ¬ (k : Int) < (n : Int) := by omega
        clear HI HGet hc
        go_wp2_with fail
        refine (HAw.out _).mono ?_; rintro e w3 ⟨rfl, b3⟩
        replace HK := Lib.hid (HK.out.call b3)
        clear b3
        go_wp2_with (first | refine wpList_of_exec (by rfl) (kexec_ll HK 0 _ (by rfl) (by rfl) (by rfl)) ?_ | refine wpList_of_exec (by rfl) (kexec_ll HK 1 _ (by rfl) (by rfl) (by rfl)) ?_)
        refine (HSE.out _ _ HK.out).mono ?_; rintro e w4 ⟨rfl, b4⟩
        replace HK := Lib.hid (HK.out.call b4)
        go_wp2_with fail
        go_ret
        exact ⟨rfl, HK.out.b⟩
end Go.Proofs.Ytamjcghdebjpjaa
