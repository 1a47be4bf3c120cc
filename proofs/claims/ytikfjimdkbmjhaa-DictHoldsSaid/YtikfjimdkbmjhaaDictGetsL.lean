/-
  The law DictGets: it returns true, and leaves what came in as it was.
  No condition but what the slice reads as, and that floats' bits fit 64.
-/
import Derived.Test.YtikfjimdkbmjhaaDictSwapsL
set_option linter.unusedSimpArgs false
set_option linter.unusedVariables false
namespace Go.Proofs.Ytikfjimdkbmjhaa
open Go.RowKit

namespace Dct
theorem pt_zero {l : List Pr} {k : ByteArray} {v : Val.V} (h : ptE l k v = 0) : Right l ∧ pchk k v = 0 ∧ (wo l k).length < 8 := by
  unfold ptE at h
  split at h
  next hr =>
    split at h
    next hp =>
      split at h
      next hn => exact ⟨hr, hp, hn⟩
      next => cases h
    next hp => exact absurd h hp
  next => cases h
theorem pt_ne {l : List Pr} {k : ByteArray} {v : Val.V} (h : ¬ ptE l k v = 0) : ptL l k v = l := if_neg h
theorem gt_fnd {a b : List Pr} (ha : Right a) (hb : Right b) {k : ByteArray} (h : fnd a k = fnd b k) : gtV a k = gtV b k ∧ gtE a k = gtE b k := by
  cases hf : fnd b k with
  | none =>
    obtain ⟨h1, h2⟩ := gt_none hb hf
    obtain ⟨h3, h4⟩ := gt_none ha (h.trans hf)
    rw [h1, h2, h3, h4]; exact ⟨rfl, rfl⟩
  | some v =>
    obtain ⟨h1, h2⟩ := gt_some hb hf
    obtain ⟨h3, h4⟩ := gt_some ha (h.trans hf)
    rw [h1, h2, h3, h4]; exact ⟨rfl, rfl⟩
/-- What follows of a put. -/
theorem put_then {l : List Pr} {k : ByteArray} {v : Val.V} (h : ptE l k v = 0) : ptL l k v = ins l k v ∧ Right (ins l k v) ∧ gtV (ins l k v) k = v ∧ gtE (ins l k v) k = 0 ∧ ctL (ins l k v) k = wo l k ∧ Right (wo l k) ∧ gtV (wo l k) k = emp ∧ gtE (wo l k) k = 5 ∧
    ∀ j, ¬ k = j → (gtV (ins l k v) j = gtV l j ∧ gtE (ins l k v) j = gtE l j) ∧ (gtV (wo l k) j = gtV l j ∧ gtE (wo l k) j = gtE l j) := by
  obtain ⟨hr, hp, hn⟩ := pt_zero h
  have hi := ins_right hr hp hn
  have hw := wo_right hr k
  obtain ⟨g1, g2⟩ := gt_some hi (fnd_ins hr.up k v)
  obtain ⟨g3, g4⟩ := gt_none hw (fnd_wo l k)
  refine ⟨(pt_ok hr hp hn).2, hi, g1, g2, ?_, hw, g3, g4, fun j hj => ⟨gt_fnd hi hr (fnd_ins_ne hr.up hj v), gt_fnd hw hr (fnd_wo_ne hj l)⟩⟩
  unfold ctL
  rw [if_pos g2]
  exact wo_ins hr.up k v
end Dct
theorem right_true {A : Option Addr} {c n : Nat} {l : List Dct.Pr} {w : World} (hr : Dct.Right l) (hs : Sl w A n c l) : Calls Try.prog 15 #[.slice A n c] w (fun e w' => e = .returned (.bool true) ∧ Below w.heap.size w w') := by
  have h := right_any A c n l w hs
  rw [decide_eq_true hr] at h
  exact h
set_option maxRecDepth 100000 in
set_option maxHeartbeats 6400000 in
theorem gets_yes (A : Option Addr) (c n : Nat) (l : List Dct.Pr) (k0 k1 : ByteArray) (v : Val.V) (w : World) (hs : Sl w A n c l) (hv : v.f < 18446744073709551616) :
    Calls Try.prog 5 #[.slice A n c, .agg #[.string k0, .string k1], .agg #[.int .i64 v.k, .int .i64 v.n, .int .u64 (v.f : Int), .string v.s]] w (fun e w' => e = .returned (.bool true) ∧ Below w.heap.size w w') := by
  have HS := Lib.hid hs
  have HFp := Lib.hid (hs.fit.pt (k := k0) hv)
  have HP := Lib.hid (fun W (hW : Below w.heap.size w W) => put_any A c n l k0 v W (hs.later hW) hv)
  have HAw := Lib.hid (fun W => awake_any W)
  unfold IsPE IsB at *
  by_cases hE : Dct.ptE l k0 v = 0
  case neg =>
    rw [Dct.pt_ne hE] at HP HFp
    generalize Dct.ptE l k0 v = E at *
    have hE2 : (E != 0) = true := by simpa using hE
    clear hs hv
    obtain ⟨k, m, f, s⟩ := v
    unfold vv at *
    simp only at HP ⊢
    have HK := kn2 w 41 #[.string k0, .string k1] 25 (vC k m f s)
    unfold vC at HK
    go_enter Try.func5, Try.ntmps5
    go_wp2_with (first | refine wpList_of_exec (by rfl) (kexec_lc HK 9 _ (by rfl) 0 (by rfl) (by rfl) (v := .string k0) (by rfl) Try.underlying9 rfl) ?_ | refine wpList_of_exec (by rfl) (kexec_vv HK 1 _ (by rfl) (by rfl) (by rfl)) ?_)
    refine (HP.out _ HK.out.b).mono ?_; rintro e w1 ⟨A1, n1, c1, rfl, o1, b1⟩
    replace HK := Lib.hid (HK.out.called b1 o1)
    simp only [List.nil_append] at HK
    clear b1 o1
    go_wp2_with fail
    refine (HAw.out _).mono ?_; rintro e w1 ⟨rfl, b1⟩
    replace HK := Lib.hid (HK.out.call b1); clear b1
    go_wp2_with fail
    refine (same_self _ _ _ _ _ _ l _ (Sl.own (HK.out.own 0 rfl) HFp.out) (HS.out.later HK.out.b)).mono ?_; rintro e w1 ⟨rfl, b1⟩
    replace HK := Lib.hid (HK.out.call b1); clear b1
    go_wp2_with fail
    go_ret
    exact ⟨rfl, HK.out.b⟩
  case pos =>
  obtain ⟨p1, p2, p3, p4, p5, p6, p7, p8, p9⟩ := Dct.put_then hE
  have HFw := Lib.hid (hs.fit.wo k0)
  have hfl : ∀ j, (Dct.gtV l j).f < 18446744073709551616 := fnd_f hs.fit
  have HG1 := Lib.hid (fun W (hW : Below w.heap.size w W) => get_any A c n l k1 W (hs.later hW))
  rw [p1, hE] at HP
  rw [p1] at HFp
  have HGm : Hid (∀ W A n c, Sl W A n c (Dct.ins l k0 v) → Calls Try.prog 8 #[.slice A n c, .string k0] W (IsVE v 0 W)) := Lib.hid fun W A n c h => by
    have := get_any A c n _ k0 W h
    rw [p3, p4] at this
    exact this
  have HCm : Hid (∀ W A n c, Sl W A n c (Dct.ins l k0 v) → Calls Try.prog 12 #[.slice A n c, .string k0] W (IsPVE (Dct.wo l k0) v 0 W)) := Lib.hid fun W A n c h => by
    have := cut_any A c n _ k0 W h
    rw [p3, p4, p5] at this
    exact this
  have HGc : Hid (∀ W A n c, Sl W A n c (Dct.wo l k0) → Calls Try.prog 8 #[.slice A n c, .string k0] W (IsVE Dct.emp 5 W)) := Lib.hid fun W A n c h => by
    have := get_any A c n _ k0 W h
    rw [p7, p8] at this
    exact this
  have HRm := Lib.hid (fun W A n c (h : Sl W A n c (Dct.ins l k0 v)) => right_true p2 h)
  have HRc := Lib.hid (fun W A n c (h : Sl W A n c (Dct.wo l k0)) => right_true p6 h)
  have HGm1 : Hid (¬ k0 = k1 → ∀ W A n c, Sl W A n c (Dct.ins l k0 v) → Calls Try.prog 8 #[.slice A n c, .string k1] W (IsVE (Dct.gtV l k1) (Dct.gtE l k1) W)) := Lib.hid fun hne W A n c h => by
    have := get_any A c n _ k1 W h
    rw [(p9 k1 hne).1.1, (p9 k1 hne).1.2] at this
    exact this
  have HGc1 : Hid (¬ k0 = k1 → ∀ W A n c, Sl W A n c (Dct.wo l k0) → Calls Try.prog 8 #[.slice A n c, .string k1] W (IsVE (Dct.gtV l k1) (Dct.gtE l k1) W)) := Lib.hid fun hne W A n c h => by
    have := get_any A c n _ k1 W h
    rw [(p9 k1 hne).2.1, (p9 k1 hne).2.2] at this
    exact this
  clear hs hv hE p1 p2 p3 p4 p5 p6 p7 p8 p9 hfl
  generalize Dct.ins l k0 v = m at *
  generalize Dct.wo l k0 = x at *
  generalize Dct.gtV l k1 = gv at *
  generalize Dct.gtE l k1 = ge at *
  obtain ⟨k, q, f, s⟩ := v
  obtain ⟨gk, gm, gf, gs⟩ := gv
  unfold IsVE IsPVE vv Dct.emp at *
  simp only at HP HGm HCm HGc HG1 HGm1 HGc1 ⊢
  have HV := Lib.hid (show (!decide ((⟨k, q, f, s⟩ : Val.V) = ⟨k, q, f, s⟩)) = false by simp)
  have HW := Lib.hid (show decide ((⟨gk, gm, gf, gs⟩ : Val.V) = ⟨gk, gm, gf, gs⟩) = true by simp)
  have HK := kn2 w 41 #[.string k0, .string k1] 25 (vC k q f s)
  unfold vC at HK
  go_enter Try.func5, Try.ntmps5
  go_wp2_with (first | refine wpList_of_exec (by rfl) (kexec_lc HK 9 _ (by rfl) 0 (by rfl) (by rfl) (v := .string k0) (by rfl) Try.underlying9 rfl) ?_ | refine wpList_of_exec (by rfl) (kexec_vv HK 1 _ (by rfl) (by rfl) (by rfl)) ?_)
  refine (HP.out _ HK.out.b).mono ?_; rintro e w1 ⟨A1, n1, c1, rfl, o1, b1⟩
  replace HK := Lib.hid (HK.out.called b1 o1)
  simp only [List.nil_append] at HK
  clear b1 o1 HP
  go_wp2_with (first | refine wpList_of_exec (by rfl) (kexec_lc HK 9 _ (by rfl) 0 (by rfl) (by rfl) (v := .string k0) (by rfl) Try.underlying9 rfl) ?_)
  refine (HGm.out _ _ _ _ (Sl.own (HK.out.own 0 rfl) HFp.out)).mono ?_; rintro e w1 ⟨rfl, b1⟩
  replace HK := Lib.hid (HK.out.call b1); clear b1
  go_wp2_with (first | refine wpList_of_exec (by rfl) (kexec_lc HK 9 _ (by rfl) 0 (by rfl) (by rfl) (v := .string k0) (by rfl) Try.underlying9 rfl) ?_ | (refine wpList_akv HK rfl rfl ?_; intro _ g1 HK'; simp only [List.cons_append, List.nil_append] at HK'; replace HK := HK'; clear HK') | (refine wpList_sv (f2 := f) HK 2 rfl _ _ rfl rfl rfl rfl ?_; intro _ HK'; simp only [List.set] at HK'; replace HK := HK'; clear HK'))
  refine (HCm.out _ _ _ _ (Sl.own (HK.out.own 0 rfl) HFp.out)).mono ?_; rintro e w1 ⟨A2, n2, c2, rfl, o1, b1⟩
  replace HK := Lib.hid (HK.out.called b1 o1)
  simp only [List.cons_append, List.nil_append] at HK
  clear b1 o1 HGm HCm
  go_wp2_with (first | refine wpList_of_exec (by rfl) (kexec_lc HK 9 _ (by rfl) 0 (by rfl) (by rfl) (v := .string k0) (by rfl) Try.underlying9 rfl) ?_ | (refine wpList_akv HK rfl rfl ?_; intro _ g2 HK'; simp only [List.cons_append, List.nil_append] at HK'; replace HK := HK'; clear HK') | (refine wpList_sv (f2 := f) HK 3 rfl _ _ rfl rfl rfl rfl ?_; intro _ HK'; simp only [List.set] at HK'; replace HK := HK'; clear HK'))
  refine (HGc.out _ _ _ _ (Sl.own (HK.out.own 1 rfl) HFw.out)).mono ?_; rintro e w1 ⟨rfl, b1⟩
  replace HK := Lib.hid (HK.out.call b1); clear b1
  clear HGc
  go_wp2_with (first | (refine wpList_akv HK rfl rfl ?_; intro _ g3 HK'; simp only [List.cons_append, List.nil_append] at HK'; replace HK := HK'; clear HK') | (refine wpList_sv (f2 := 0) HK 4 rfl _ _ rfl rfl rfl rfl ?_; intro _ HK'; simp only [List.set] at HK'; replace HK := HK'; clear HK') | refine wpList_of_exec (by rfl) (kexec_vv HK 1 _ (by rfl) (by rfl) (by rfl)) ?_ | refine wpList_of_exec (by rfl) (kexec_vv HK 2 _ (by rfl) (by rfl) (by rfl)) ?_ | refine wpList_of_exec (by rfl) (kexec_vv HK 3 _ (by rfl) (by rfl) (by rfl)) ?_ | refine wpList_of_exec (by rfl) (exec_vne (v := ⟨k, q, f, s⟩) (u := ⟨k, q, f, s⟩) _ _ (by rfl) (by rfl) (by rfl) HV.out) ?_)
  refine (HRm.out _ _ _ _ (Sl.own (HK.out.own 0 rfl) HFp.out)).mono ?_; rintro e w1 ⟨rfl, b1⟩
  replace HK := Lib.hid (HK.out.call b1); clear b1
  go_wp2_with fail
  refine (HRc.out _ _ _ _ (Sl.own (HK.out.own 1 rfl) HFw.out)).mono ?_; rintro e w1 ⟨rfl, b1⟩
  replace HK := Lib.hid (HK.out.call b1); clear b1
  clear HRm HRc
  by_cases hk : k0 = k1
  · have HE := Lib.hid (show decide (k0 = k1) = true from decide_eq_true hk)
    clear hk HGm1 HGc1 HG1
    go_wp2_with (first | refine wpList_of_exec (by rfl) (kexec_lc HK 9 _ (by rfl) 0 (by rfl) (by rfl) (v := .string k0) (by rfl) Try.underlying9 rfl) ?_ | refine wpList_of_exec (by rfl) (kexec_lc HK 9 _ (by rfl) 0 (by rfl) (by rfl) (v := .string k1) (by rfl) Try.underlying9 rfl) ?_ | refine wpList_of_exec (by rfl) (exec_seq (x := k0) (y := k1) _ _ (by rfl) (by rfl) (by rfl) HE.out) ?_)
    refine (HAw.out _).mono ?_; rintro e w1 ⟨rfl, b1⟩
    replace HK := Lib.hid (HK.out.call b1); clear b1
    go_wp2_with fail
    go_ret
    exact ⟨rfl, HK.out.b⟩
  · have HE := Lib.hid (show decide (k0 = k1) = false from decide_eq_false hk)
    replace HGm1 := Lib.hid (HGm1.out hk)
    replace HGc1 := Lib.hid (HGc1.out hk)
    clear hk
    go_wp2_with (first | refine wpList_of_exec (by rfl) (kexec_lc HK 9 _ (by rfl) 0 (by rfl) (by rfl) (v := .string k0) (by rfl) Try.underlying9 rfl) ?_ | refine wpList_of_exec (by rfl) (kexec_lc HK 9 _ (by rfl) 0 (by rfl) (by rfl) (v := .string k1) (by rfl) Try.underlying9 rfl) ?_ | refine wpList_of_exec (by rfl) (exec_seq (x := k0) (y := k1) _ _ (by rfl) (by rfl) (by rfl) HE.out) ?_)
    refine (HG1.out _ HK.out.b).mono ?_; rintro e w1 ⟨rfl, b1⟩
    replace HK := Lib.hid (HK.out.call b1); clear b1
    go_wp2_with (first | refine wpList_of_exec (by rfl) (kexec_lc HK 9 _ (by rfl) 0 (by rfl) (by rfl) (v := .string k1) (by rfl) Try.underlying9 rfl) ?_ | (refine wpList_akv HK rfl rfl ?_; intro _ g4 HK'; simp only [List.cons_append, List.nil_append] at HK'; replace HK := HK'; clear HK') | (refine wpList_sv (f2 := gf) HK 5 rfl _ _ rfl rfl rfl rfl ?_; intro _ HK'; simp only [List.set] at HK'; replace HK := HK'; clear HK'))
    refine (HGm1.out _ _ _ _ (Sl.own (HK.out.own 0 rfl) HFp.out)).mono ?_; rintro e w1 ⟨rfl, b1⟩
    replace HK := Lib.hid (HK.out.call b1); clear b1
    go_wp2_with (first | refine wpList_of_exec (by rfl) (kexec_lc HK 9 _ (by rfl) 0 (by rfl) (by rfl) (v := .string k1) (by rfl) Try.underlying9 rfl) ?_ | (refine wpList_akv HK rfl rfl ?_; intro _ g5 HK'; simp only [List.cons_append, List.nil_append] at HK'; replace HK := HK'; clear HK') | (refine wpList_sv (f2 := gf) HK 6 rfl _ _ rfl rfl rfl rfl ?_; intro _ HK'; simp only [List.set] at HK'; replace HK := HK'; clear HK'))
    refine (HGc1.out _ _ _ _ (Sl.own (HK.out.own 1 rfl) HFw.out)).mono ?_; rintro e w1 ⟨rfl, b1⟩
    replace HK := Lib.hid (HK.out.call b1); clear b1
    go_wp2_with (first | refine wpList_of_exec (by rfl) (kexec_lc HK 9 _ (by rfl) 0 (by rfl) (by rfl) (v := .string k1) (by rfl) Try.underlying9 rfl) ?_ | (refine wpList_akv HK rfl rfl ?_; intro _ g6 HK'; simp only [List.cons_append, List.nil_append] at HK'; replace HK := HK'; clear HK') | (refine wpList_sv (f2 := gf) HK 7 rfl _ _ rfl rfl rfl rfl ?_; intro _ HK'; simp only [List.set] at HK'; replace HK := HK'; clear HK'))
    refine (HAw.out _).mono ?_; rintro e w1 ⟨rfl, b1⟩
    replace HK := Lib.hid (HK.out.call b1); clear b1
    go_wp2_with (first | refine wpList_of_exec (by rfl) (kexec_vv HK 5 _ (by rfl) (by rfl) (by rfl)) ?_ | refine wpList_of_exec (by rfl) (kexec_vv HK 6 _ (by rfl) (by rfl) (by rfl)) ?_ | refine wpList_of_exec (by rfl) (kexec_vv HK 7 _ (by rfl) (by rfl) (by rfl)) ?_ | refine wpList_of_exec (by rfl) (exec_veq (v := ⟨gk, gm, gf, gs⟩) (u := ⟨gk, gm, gf, gs⟩) _ _ (by rfl) (by rfl) (by rfl) HW.out) ?_)
    go_ret
    exact ⟨rfl, HK.out.b⟩
end Go.Proofs.Ytikfjimdkbmjhaa
