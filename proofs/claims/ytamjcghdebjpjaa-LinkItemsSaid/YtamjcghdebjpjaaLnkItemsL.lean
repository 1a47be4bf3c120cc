/-
  The law LinkItems: it returns true whatever is handed in. No condition.
-/
import Derived.Test.YtamjcghdebjpjaaLnkFrom
import Derived.Test.YtamjcghdebjpjaaLnkAwake
namespace Go.Proofs.Ytamjcghdebjpjaa
open Go.RowKit

set_option maxRecDepth 10000 in
set_option maxHeartbeats 6400000 in
theorem items_yes (p : Lnk.Pkt) (w : World) : Lift.Yes Try.prog 7 #[.agg (pA p)] w := by
  unfold Lift.Yes
  have HI : Hid (∀ W, Calls Try.prog 20 #[.agg (pA p)] W fun e w' => ∃ A c, e = .returned (.slice A 7 c) ∧ itemLay.Own W.heap.size w' (.slice A 7 c) (itemsP p) ∧ Below W.heap.size W w') := Lib.hid fun W => items_any p W
  have HRI : Hid (∀ W, Calls Try.prog 23 #[.agg (pA p)] W fun e w' => ∃ A c, e = .returned (.slice A 7 c) ∧ itemLay.Own W.heap.size w' (.slice A 7 c) (itemsP p) ∧ Below W.heap.size W w') := Lib.hid fun W => ritems_any p W
  have HF : Hid (∀ W A c b, itemLay.Own b W (.slice A 7 c) (itemsP p) → Calls Try.prog 21 #[.slice A 7 c] W (IsF p W)) := Lib.hid fun W A c b h => from_any A c p W h.reads.2
  have HRF : Hid (∀ W A c b, itemLay.Own b W (.slice A 7 c) (itemsP p) → Calls Try.prog 22 #[.slice A 7 c] W (IsF p W)) := Lib.hid fun W A c b h => rfrom_any A c p W h.reads.2
  have HS : Hid (∀ W A c b A' c' b', itemLay.Own b W (.slice A 7 c) (itemsP p) → itemLay.Own b' W (.slice A' 7 c') (itemsP p) → Calls Try.prog 24 #[.slice A 7 c, .slice A' 7 c'] W fun en w' => en = .returned (.bool true) ∧ ∃ q, w' = W.drewN q) := Lib.hid fun W A c b A' c' b' h h' => isame_any A A' c c' (itemsP p) W (by show (7 : Nat) ≤ _; decide) h.reads.2 h'.reads.2
  have HAw := Lib.hid awake_any
  have HK := kn1 w 36 (pA p)
  unfold IsF at HF HRF
  generalize itemsP p = its at *
  generalize hdr : decide (Right p) = dr at *
  have HDR : Hid (dr = true → Right p) := Lib.hid fun h => of_decide_eq_true (hdr.trans h)
  clear hdr
  obtain ⟨fs, fc, ts, tc, seq, ack, body⟩ := p
  unfold pA at *
  simp only at HK HI HRI HF HRF ⊢
  go_enter Try.func7, Try.ntmps7
  go_wp2_with (first | refine wpList_klp HK 0 rfl _ rfl rfl rfl ?_)
  refine (HI.out _).mono ?_; rintro e w1 ⟨A1, c1, rfl, o1, b1⟩
  replace HK := Lib.hid (HK.out.called b1 o1)
  simp only [List.nil_append] at HK
  clear b1 o1 HI
  go_wp2_with fail
  refine (HF.out _ _ _ _ (HK.out.own 0 rfl)).mono ?_; rintro e w2 ⟨⟨qs, qc, qt, qd, qn, qa, qb⟩, rfl, hq, b2⟩
  have HQ := Lib.hid hq
  replace HK := Lib.hid ((HK.out.call b2).alloc 36 (pC 0 0 0 0 0 0 ⟨#[]⟩))
  simp only [List.cons_append, List.nil_append] at HK
  clear b2 hq HF
  go_wp2_with (first | (refine wpList_ksp HK 1 rfl _ _ rfl rfl rfl rfl rfl ?_; intro _ HK' _; simp only [List.set] at HK'; replace HK := HK'; clear HK') | refine wpList_klp HK 0 rfl _ rfl rfl rfl ?_)
  refine (HRI.out _).mono ?_; rintro e w3 ⟨A2, c2, rfl, o3, b3⟩
  replace HK := Lib.hid (HK.out.called b3 o3)
  simp only [List.cons_append, List.nil_append] at HK
  clear b3 o3
  go_wp2_with fail
  refine (HRF.out _ _ _ _ (HK.out.own 1 rfl)).mono ?_; rintro e w4 ⟨⟨rs, rc, rt, rd, rn, ra, rb⟩, rfl, _, b4⟩
  replace HK := Lib.hid ((HK.out.call b4).alloc 36 (pC 0 0 0 0 0 0 ⟨#[]⟩))
  simp only [List.cons_append, List.nil_append] at HK
  clear b4 HRF
  go_wp2_with (first | (refine wpList_ksp HK 2 rfl _ _ rfl rfl rfl rfl rfl ?_; intro _ HK' _; simp only [List.set] at HK'; replace HK := HK'; clear HK'))
  refine (HAw.out _).mono ?_; rintro e w5 ⟨rfl, b5⟩
  replace HK := Lib.hid (HK.out.call b5)
  clear b5 HAw
  cases dr
  · go_wp2_with (first | refine wpList_of_exec (by rfl) (kexec_lp HK 0 _ (by rfl) (by rfl) (by rfl)) ?_)
    refine (HRI.out _).mono ?_; rintro e w6 ⟨A3, c3, rfl, o6, b6⟩
    replace HK := Lib.hid (HK.out.called b6 o6)
    simp only [List.cons_append, List.nil_append] at HK
    clear b6 o6
    go_wp2_with fail
    refine (HS.out _ _ _ _ _ _ _ (HK.out.own 0 rfl) (HK.out.own 2 rfl)).mono ?_; rintro e w7 ⟨rfl, q, rfl⟩
    replace HK := Lib.hid (HK.out.drewN q)
    go_wp2_with fail
    go_ret
    exact ⟨rfl, HK.out.b⟩
  · have hq := HQ.out (HDR.out rfl)
    injection hq with e1 e2 e3 e4 e5 e6 e7
    subst e1 e2 e3 e4 e5 e6 e7
    go_wp2_with (first | refine wpList_of_exec (by rfl) (kexec_lp HK 0 _ (by rfl) (by rfl) (by rfl)) ?_)
    refine (HRI.out _).mono ?_; rintro e w6 ⟨A3, c3, rfl, o6, b6⟩
    replace HK := Lib.hid (HK.out.called b6 o6)
    simp only [List.cons_append, List.nil_append] at HK
    clear b6 o6
    go_wp2_with fail
    refine (HS.out _ _ _ _ _ _ _ (HK.out.own 0 rfl) (HK.out.own 2 rfl)).mono ?_; rintro e w7 ⟨rfl, q, rfl⟩
    replace HK := Lib.hid (HK.out.drewN q)
    go_wp2_with (first | refine wpList_of_exec (v := .agg #[.int .i64 qs, .int .i64 qc, .int .i64 qt, .int .i64 qd, .int .i64 qn, .int .i64 qa, .string qb]) (by rfl) (kexec_lp HK 0 _ (by rfl) (by rfl) (by rfl)) ?_ | refine wpList_of_exec (v := .agg #[.int .i64 qs, .int .i64 qc, .int .i64 qt, .int .i64 qd, .int .i64 qn, .int .i64 qa, .string qb]) (by rfl) (kexec_lp HK 1 _ (by rfl) (by rfl) (by rfl)) ?_)
    go_ret
    exact ⟨rfl, HK.out.b⟩
end Go.Proofs.Ytamjcghdebjpjaa
