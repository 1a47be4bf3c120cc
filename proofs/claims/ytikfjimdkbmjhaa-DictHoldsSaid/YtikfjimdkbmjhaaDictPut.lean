/-
  What Put returns.
  No condition but what the slice reads as, and that floats' bits fit 64.
-/
import Derived.Test.YtikfjimdkbmjhaaDictGet
import Derived.Deep.CutBlock
import Derived.Deep.DeepCutAuto
set_option linter.unusedSimpArgs false
set_option linter.unusedVariables false
namespace Go.Proofs.Ytikfjimdkbmjhaa
open Go.RowKit

theorem or2a_any (a b : Int) (W : World) (t : TypeId) (g : Nat) (hg : g = W.heap.size) : Calls Try.prog 23 #[.slice (some ⟨g, 0, none⟩) 2 2] (W.alloc (.cells #[.int .i64 a, .int .i64 b] t)) fun en w' => en = .returned (.int .i64 (nz2 a b)) ∧ w' = W.alloc (.cells #[.int .i64 a, .int .i64 b] t) := by
  subst hg
  exact or2_any _ a b _ (by rw [World.cell?_alloc_new]; rfl) (by rw [World.cell?_alloc_new]; rfl)
/-- A new slice told, and an error. -/
def IsPE (r : List Dct.Pr) (x : Int) (w : World) (e : Ending) (w' : World) : Prop := ∃ A n c, e = .returned (.tuple #[.slice A n c, .int .i64 x]) ∧ prLay.Own w.heap.size w' (.slice A n c) r ∧ Below w.heap.size w w'
set_option maxRecDepth 100000 in
set_option maxHeartbeats 12800000 in
theorem put_any (A : Option Addr) (c n : Nat) (l : List Dct.Pr) (key : ByteArray) (v : Val.V) (w : World) (hs : Sl w A n c l) (hv : v.f < 18446744073709551616) :
    Calls Try.prog 10 #[.slice A n c, .string key, vv v] w (IsPE (Dct.ptL l key v) (Dct.ptE l key v) w) := by
  have HM := Lib.hid (fun W (hW : Below w.heap.size w W) => mchk_any A c n l W (hs.later hW))
  have HC := Lib.hid (fun W => pchk_any key v W hv)
  have HP := Lib.hid (fun W (hW : Below w.heap.size w W) => parts_any A c n l key w W hs hW)
  have HS := Lib.hid hs
  have HOr := Lib.hid (fun a b W t g hg => or2a_any a b W t g hg)
  -- what is answered, by cases
  have HBad : Hid (¬ nz2 (Dct.mchk l) (Dct.pchk key v) = 0 → Dct.ptE l key v = nz2 (Dct.mchk l) (Dct.pchk key v) ∧ Dct.ptL l key v = l) := Lib.hid fun h => by
    by_cases hr : Dct.Right l
    · rw [Dct.mchk_ok hr] at h ⊢
      exact Dct.pt_chk hr h
    · rw [Dct.mchk_one hr] at h ⊢
      exact Dct.pt_bad hr key v
  have HGood : Hid (nz2 (Dct.mchk l) (Dct.pchk key v) = 0 → Dct.Right l ∧ Dct.pchk key v = 0) := Lib.hid fun h => by
    by_cases hr : Dct.Right l
    · rw [Dct.mchk_ok hr] at h; exact ⟨hr, h⟩
    · rw [Dct.mchk_one hr] at h; cases h
  have HFull : Hid (nz2 (Dct.mchk l) (Dct.pchk key v) = 0 → 8 ≤ (l.take (Dct.idx l key)).length + (l.drop (Dct.fin l key)).length → Dct.ptE l key v = 6 ∧ Dct.ptL l key v = l) := Lib.hid fun h h8 => by
    obtain ⟨hr, hk⟩ := HGood.out h
    have hw := congrArg List.length (Dct.wo_parts hr.up key).1
    rw [List.length_append] at hw
    exact Dct.pt_full hr hk (by omega)
  have HOk : Hid (nz2 (Dct.mchk l) (Dct.pchk key v) = 0 → ¬ 8 ≤ (l.take (Dct.idx l key)).length + (l.drop (Dct.fin l key)).length → Dct.ptE l key v = 0 ∧ Dct.ptL l key v = l.take (Dct.idx l key) ++ [⟨key, v⟩] ++ l.drop (Dct.fin l key)) := Lib.hid fun h h8 => by
    obtain ⟨hr, hk⟩ := HGood.out h
    have hw := congrArg List.length (Dct.wo_parts hr.up key).1
    rw [List.length_append] at hw
    exact Dct.pt_ok hr hk (by omega)
  have HFit : Hid (Fit [(⟨key, v⟩ : Dct.Pr)]) := Lib.hid ⟨fun x hx => by rw [List.mem_singleton] at hx; subst hx; exact hv, by show 1 ≤ _; decide⟩
  clear hs hv HGood
  generalize Dct.ptE l key v = X at *
  generalize Dct.ptL l key v = r at *
  generalize hE : nz2 (Dct.mchk l) (Dct.pchk key v) = E at *
  have HE := Lib.hid hE
  clear hE
  generalize Dct.mchk l = em at *
  generalize Dct.pchk key v = ek at *
  generalize l.take (Dct.idx l key) = l1 at *
  generalize (l.drop (Dct.idx l key)).take (Dct.fin l key - Dct.idx l key) = l2 at *
  generalize l.drop (Dct.fin l key) = l3 at *
  obtain ⟨k, m, f, s⟩ := v
  unfold vv IsE at *
  simp only at HC ⊢
  have HK := kn1 w 25 (vC k m f s)
  unfold vC at HK
  go_enter Try.func10, Try.ntmps10
  go_wp2_with fail
  refine wp_region_held_drew (S := (fun W => Hid (Kn w.heap.size w W [(w.heap.size, 25, #[.int .i64 k, .int .i64 m, .int .u64 (f : Int), .string s])] []))) (by kernel_rfl) ?_ (fun hHeld => ?_)
  · (try dsimp only); exact Lib.hid HK.out.drew
  refine wpAnyH_take (i := 0) (oi := ⟨some 12, _, _, _, _, _⟩) (v := ?_) rfl (by kernel_rfl) (by kernel_rfl) (by kernel_rfl) (fun _ _ _ h => h) (Or.inl ⟨by rfl, ?_⟩) (by assumption) ?_
  rotate_left
  · (intro w hSw; (try dsimp only at hSw); go_simp; try with_reducible rfl)
  try simp only [Act.put, List.setIfInBounds_toArray, List.set_cons_zero, List.set_cons_succ]
  refine wpAnyH_take (i := 2) (oi := ⟨some 14, _, _, _, _, _⟩) (v := ?_) rfl (by kernel_rfl) (by kernel_rfl) (by kernel_rfl) (fun _ _ _ h => h) (Or.inl ⟨by rfl, ?_⟩) (by assumption) ?_
  rotate_left
  · (intro w hSw; (try dsimp only at hSw); go_simp; try with_reducible rfl)
  try simp only [Act.put, List.setIfInBounds_toArray, List.set_cons_zero, List.set_cons_succ]
  refine wpAnyH_take (i := 3) (oi := ⟨some 15, _, _, _, _, _⟩) (v := ?_) rfl (by kernel_rfl) (by kernel_rfl) (by kernel_rfl) (fun _ _ _ h => h) (Or.inl ⟨by rfl, ?_⟩) (by assumption) ?_
  rotate_left
  · (intro w hSw; refine Eq.trans (kexec_vv hSw 0 _ (by rfl) (by rfl) (by rfl)) ?_; with_reducible rfl)
  try simp only [Act.put, List.setIfInBounds_toArray, List.set_cons_zero, List.set_cons_succ]
  refine wpAnyH_ready (rs := [1]) (by kernel_rfl) (by simp) ?_
  refine AllReadyH.cons (o := ⟨some 13, _, _, _, _, _⟩) rfl (fun K hK => ?_) AllReadyH.nil
  go_simp
  go_at_call 21
  refine (HM.out _ hHeld.out.b).mono ?_; rintro e w5 ⟨rfl, b5⟩; have hs := Lib.hid (hHeld.out.call b5); clear b5
  refine hK.out _ _ hs (fun hHeld => ?_)
  clear hK K
  try simp only [Act.put, List.setIfInBounds_toArray, List.set_cons_zero, List.set_cons_succ]
  refine wpAnyH_ready (rs := [4]) (by kernel_rfl) (by simp) ?_
  refine AllReadyH.cons (o := ⟨some 16, _, _, _, _, _⟩) rfl (fun K hK => ?_) AllReadyH.nil
  go_simp
  go_at_call 24
  refine (HC.out _).mono ?_; rintro e w5 ⟨rfl, b5⟩; have hs := Lib.hid (hHeld.out.call b5); clear b5
  refine hK.out _ _ hs (fun hHeld => ?_)
  clear hK K
  try simp only [Act.put, List.setIfInBounds_toArray, List.set_cons_zero, List.set_cons_succ]
  refine wpAnyH_ready (rs := [5]) (by kernel_rfl) (by simp) ?_
  refine AllReadyH.cons (o := ⟨some 17, _, _, _, _, _⟩) rfl (fun K hK => ?_) AllReadyH.nil
  go_simp; have hs := Lib.hid (hHeld.out.allocO (.cells #[.int .i64 em, .int .i64 ek] 27))
  refine hK.out _ _ hs (fun hHeld => ?_)
  clear hK K
  try simp only [Act.put, List.setIfInBounds_toArray, List.set_cons_zero, List.set_cons_succ]
  refine wpAnyH_ready (rs := [6]) (by kernel_rfl) (by simp) ?_
  refine AllReadyH.cons (o := ⟨some 18, _, _, _, _, _⟩) rfl (fun K hK => ?_) AllReadyH.nil
  go_simp
  go_at_call 23
  refine (HOr.out _ _ _ _ _ rfl).mono ?_; rintro e w6 ⟨rfl, rfl⟩; have hs := hHeld
  refine hK.out _ _ hs (fun hHeld => ?_)
  clear hK K
  try simp only [Act.put, List.setIfInBounds_toArray, List.set_cons_zero, List.set_cons_succ]
  refine wpAnyH_take (i := 7) (oi := ⟨some 8, _, _, _, _, _⟩) (v := ?_) rfl (by kernel_rfl) (by kernel_rfl) (by kernel_rfl) (fun _ _ _ h => h) (Or.inl ⟨by rfl, ?_⟩) (by assumption) ?_
  rotate_left
  · (intro w hSw; (try dsimp only at hSw); go_simp; try with_reducible rfl)
  try simp only [Act.put, List.setIfInBounds_toArray, List.set_cons_zero, List.set_cons_succ]
  refine wpAnyH_done (by kernel_rfl) ?_ _
  rw [HE.out]
  replace HK := hHeld
  clear hHeld HM HC HOr HE
  generalize World.alloc _ _ = w7 at *
  by_cases hz : E = 0
  · subst hz
    replace HFull := Lib.hid (HFull.out rfl)
    replace HOk := Lib.hid (HOk.out rfl)
    clear HBad
    go_wp2_with fail
    refine (HP.out _ HK.out.b).mono ?_; rintro e w1 ⟨A1, n1, c1, A2, n2, c2, A3, n3, c3, rfl, s1, s2, s3, b1⟩
    replace HK := Lib.hid (HK.out.call b1)
    rw [s1.len, s3.len] at HFull HOk
    have S1 := Lib.hid s1
    have S3 := Lib.hid s3
    have hb1 := s1.big
    have hb3 := s3.big
    have hsum : wrap64 ((n1 : Int) + (n3 : Int)) = (n1 : Int) + (n3 : Int) := by unfold wrap64; omega
    clear s1 s2 s3 b1 HP
    by_cases h8 : 8 ≤ n1 + n3
    · have h82 : 8 ≤ (n1 : Int) + (n3 : Int) := by omega
      obtain ⟨rfl, rfl⟩ := HFull.out h8
      go_wp2_with (first | (refine wpList_ms1 HK rfl _ rfl rfl ?_; intro w2 g2 HK' _; simp only [List.cons_append, List.nil_append] at HK'; replace HK := HK'; clear HK'))
      refine (join1_any HK 1 rfl (HS.out.later HK.out.b)).mono ?_; rintro e w3 ⟨A4, n4, c4, rfl, o4, b4⟩
      replace HK := Lib.hid (HK.out.called b4 o4)
      clear o4 b4
      go_wp2_with fail
      exact ret_t2 Try.results10 rfl rfl rfl ⟨A4, n4, c4, rfl, HK.out.own 0 rfl, HK.out.b⟩
    · have h82 : ¬ 8 ≤ (n1 : Int) + (n3 : Int) := by omega
      obtain ⟨rfl, rfl⟩ := HOk.out h8
      go_wp2_with (first | refine wpList_of_exec (by rfl) (kexec_vv HK 0 _ (by rfl) (by rfl) (by rfl)) ?_ | (refine wpList_mp1 (p := ⟨key, ⟨k, m, f, s⟩⟩) HK rfl _ rfl rfl ?_; intro w2 g2 HK'; simp only [List.nil_append] at HK'; replace HK := HK'; clear HK') | (refine wpList_ms3 HK rfl _ _ _ rfl rfl rfl rfl ?_; intro w2 g3 HK' _; simp only [List.cons_append, List.nil_append] at HK'; replace HK := HK'; clear HK'))
      refine (join3_any HK 1 rfl (S1.out.later HK.out.b) (Sl.own (HK.out.own 0 rfl) HFit.out) (S3.out.later HK.out.b) (by omega)).mono ?_; rintro e w3 ⟨A4, n4, c4, rfl, o4, b4⟩
      replace HK := Lib.hid (HK.out.called b4 o4)
      clear o4 b4
      go_wp2_with fail
      exact ret_t2 Try.results10 rfl rfl rfl ⟨A4, n4, c4, rfl, HK.out.own 1 rfl, HK.out.b⟩
  · obtain ⟨rfl, rfl⟩ := HBad.out hz
    have hz2 : (X != 0) = true := by simpa using hz
    clear HBad HFull HOk HP HFit
    go_wp2_with (first | (refine wpList_ms1 HK rfl _ rfl rfl ?_; intro w2 g2 HK' _; simp only [List.cons_append, List.nil_append] at HK'; replace HK := HK'; clear HK'))
    refine (join1_any HK 1 rfl (HS.out.later HK.out.b)).mono ?_; rintro e w3 ⟨A4, n4, c4, rfl, o4, b4⟩
    replace HK := Lib.hid (HK.out.called b4 o4)
    clear o4 b4
    go_wp2_with fail
    exact ret_t2 Try.results10 rfl rfl rfl ⟨A4, n4, c4, rfl, HK.out.own 0 rfl, HK.out.b⟩
end Go.Proofs.Ytikfjimdkbmjhaa
