/-
  The law DictDoes: it returns true, and leaves what came in as it was.
  No condition but what the slice reads as, and that floats' bits fit 64.
-/
import Derived.Test.YtikfjimdkbmjhaaDictAwake
import Derived.Test.YtikfjimdkbmjhaaDictRSwap
set_option linter.unusedSimpArgs false
set_option linter.unusedVariables false
namespace Go.Proofs.Ytikfjimdkbmjhaa
open Go.RowKit

theorem get_app {α : Type} {R : List α} {i : Nat} {y z : α} (h : R[i]? = some y) : (R ++ [z])[i]? = some y := by
  rw [List.getElem?_append_left (List.getElem?_eq_some_iff.1 h).1]; exact h
/-- What is told is new, or is the row that was handed in: in either way it is a row that is known. -/
theorem Kn.told {b0 : Nat} {w0 w w' : World} {L : List (Nat × TypeId × Array Value)} {R : List RowE} {A A' : Option Addr} {n c n' c' : Nat} {l r : List Dct.Pr} (h : Kn b0 w0 w L R) (hb : Below w.heap.size w w') {i : Nat} (hi : R[i]? = some (row prLay (.slice A n c) l))
    (ho : prLay.Own w.heap.size w' (.slice A' n' c') r ∨ (A' = A ∧ n' = n ∧ c' = c ∧ r = l)) : ∃ R' : List RowE, Hid (Kn b0 w0 w' L R') ∧ (∀ (j : Nat) (y : RowE), R[j]? = some y → R'[j]? = some y) ∧ ∃ j : Nat, R'[j]? = some (row prLay (.slice A' n' c') r) := by
  rcases ho with ho | ⟨rfl, rfl, rfl, rfl⟩
  · exact ⟨_, Lib.hid (h.called hb ho), fun j y hj => get_app hj, R.length, by simp⟩
  · exact ⟨R, Lib.hid (h.call hb), fun j y hj => hj, i, hi⟩
theorem Fit.pt {l : List Dct.Pr} (h : Fit l) {k : ByteArray} {v : Val.V} (hv : v.f < 18446744073709551616) : Fit (Dct.ptL l k v) := by
  unfold Dct.ptL
  split
  next h0 =>
    unfold Dct.ptE at h0
    split at h0
    next hr =>
      split at h0
      next hp =>
        split at h0
        next hn => exact h.ins hr.up k hv hn
        next => cases h0
      next hp => exact absurd h0 hp
    next => cases h0
  next => exact h
theorem Fit.ct {l : List Dct.Pr} (h : Fit l) (k : ByteArray) : Fit (Dct.ctL l k) := by
  unfold Dct.ctL
  split
  · exact h.wo k
  · exact h
theorem fnd_f {l : List Dct.Pr} (h : Fit l) (k : ByteArray) : (Dct.gtV l k).f < 18446744073709551616 := by
  unfold Dct.gtV
  split
  · cases hf : Dct.fnd l k with
    | none => show (0 : Nat) < _; decide
    | some v =>
      obtain ⟨x, hx, _, rfl⟩ := Dct.fnd_some hf
      exact h.fs x hx
  · show (0 : Nat) < _; decide
theorem same_self (A B : Option Addr) (c n d m : Nat) (a : List Dct.Pr) (w : World) (hs : Sl w A n c a) (ht : Sl w B m d a) : Calls Try.prog 17 #[.slice A n c, .slice B m d] w (fun e w' => e = .returned (.bool true) ∧ Below w.heap.size w w') := by
  have h := same_any A B c n d m a a w hs ht
  rw [decide_eq_true rfl] at h
  exact h
set_option maxRecDepth 100000 in
set_option maxHeartbeats 6400000 in
theorem does_yes (A : Option Addr) (c n : Nat) (l : List Dct.Pr) (key : ByteArray) (v : Val.V) (w : World) (hs : Sl w A n c l) (hv : v.f < 18446744073709551616) :
    Calls Try.prog 3 #[.slice A n c, .string key, .agg #[.int .i64 v.k, .int .i64 v.n, .int .u64 (v.f : Int), .string v.s]] w (fun e w' => e = .returned (.bool true) ∧ Below w.heap.size w w') := by
  have HS := Lib.hid hs
  have HFl := Lib.hid hs.fit
  have HFp := Lib.hid (hs.fit.pt (k := key) hv)
  have HFc := Lib.hid (hs.fit.ct key)
  have HTw := Lib.hid (twin_any A c n l w hs)
  have HTw2 := Lib.hid (fun W (hW : Below w.heap.size w W) => twin_any A c n l W (hs.later hW))
  have HG := Lib.hid (fun W (hW : Below w.heap.size w W) => get_any A c n l key W (hs.later hW))
  have HRG := Lib.hid (fun W A c n (h : Sl W A n c l) => rget_any A c n l key W h)
  have HP := Lib.hid (fun W (hW : Below w.heap.size w W) => put_any A c n l key v W (hs.later hW) hv)
  have HRP := Lib.hid (fun W A c n (h : Sl W A n c l) => rput_any A c n l key v W h hv)
  have HC := Lib.hid (fun W (hW : Below w.heap.size w W) => cut_any A c n l key W (hs.later hW))
  have HRC := Lib.hid (fun W A c n (h : Sl W A n c l) => rcut_any A c n l key W h)
  have HR := Lib.hid (fun W (hW : Below w.heap.size w W) => right_any A c n l W (hs.later hW))
  have HRR := Lib.hid (fun W A c n (h : Sl W A n c l) => rright_any A c n l W h)
  have HAw := Lib.hid (fun W => awake_any W)
  clear hs hv
  generalize Dct.ptL l key v = p at *
  generalize Dct.ptE l key v = pe at *
  generalize Dct.ctL l key = x at *
  generalize Dct.gtV l key = gv at *
  generalize Dct.gtE l key = ge at *
  generalize decide (Dct.Right l) = r at *
  obtain ⟨k, m, f, s⟩ := v
  obtain ⟨gk, gm, gf, gs⟩ := gv
  unfold IsVE IsPE IsPEr IsPVE IsPVEr IsB IsL vv at *
  simp only at HG HRG HP HRP HC HRC ⊢
  have HV := Lib.hid (show decide ((⟨gk, gm, gf, gs⟩ : Val.V) = ⟨gk, gm, gf, gs⟩) = true by simp)
  have HK := kn1 w 25 (vC k m f s)
  unfold vC at HK
  go_enter Try.func3, Try.ntmps3
  go_wp2_with fail
  refine (HTw2.out _ HK.out.b).mono ?_; rintro e w1 ⟨A0, n0, c0, rfl, o1, b1⟩
  replace HK := Lib.hid (HK.out.called b1 o1)
  simp only [List.nil_append] at HK
  clear b1 o1 HTw HTw2
  go_wp2_with fail
  refine (HG.out _ HK.out.b).mono ?_; rintro e w1 ⟨rfl, b1⟩
  replace HK := Lib.hid (HK.out.call b1); clear b1
  go_wp2_with (first | (refine wpList_akv HK rfl rfl ?_; intro _ g1 HK'; simp only [List.cons_append, List.nil_append] at HK'; replace HK := HK'; clear HK') | (refine wpList_sv (f2 := gf) HK 1 rfl _ _ rfl rfl rfl rfl ?_; intro _ HK'; simp only [List.set] at HK'; replace HK := HK'; clear HK'))
  refine (HRG.out _ _ _ _ (Sl.own (HK.out.own 0 rfl) HFl.out)).mono ?_; rintro e w1 ⟨rfl, b1⟩
  replace HK := Lib.hid (HK.out.call b1); clear b1
  go_wp2_with (first | (refine wpList_akv HK rfl rfl ?_; intro _ g2 HK'; simp only [List.cons_append, List.nil_append] at HK'; replace HK := HK'; clear HK') | (refine wpList_sv (f2 := gf) HK 2 rfl _ _ rfl rfl rfl rfl ?_; intro _ HK'; simp only [List.set] at HK'; replace HK := HK'; clear HK') | refine wpList_of_exec (by rfl) (kexec_vv HK 0 _ (by rfl) (by rfl) (by rfl)) ?_)
  refine (HP.out _ HK.out.b).mono ?_; rintro e w1 ⟨A1, n1, c1, rfl, o1, b1⟩
  replace HK := Lib.hid (HK.out.called b1 o1)
  simp only [List.cons_append, List.nil_append] at HK
  clear b1 o1
  go_wp2_with (first | refine wpList_of_exec (by rfl) (kexec_vv HK 0 _ (by rfl) (by rfl) (by rfl)) ?_)
  refine (HRP.out _ _ _ _ (Sl.own (HK.out.own 0 rfl) HFl.out)).mono ?_; rintro e w1 ⟨A2, n2, c2, rfl, o1, b1⟩
  obtain ⟨R1, HK1, hkeep, i2, hi2⟩ := HK.out.told b1 (i := 0) rfl o1
  replace HK := HK1
  have hi0 := Lib.hid (hkeep 0 _ rfl)
  have hi1 := Lib.hid (hkeep 1 _ rfl)
  replace hi2 := Lib.hid hi2
  clear b1 o1 HK1 hkeep
  go_wp2_with fail
  refine (HC.out _ HK.out.b).mono ?_; rintro e w1 ⟨A3, n3, c3, rfl, o1, b1⟩
  replace HK := Lib.hid (HK.out.called b1 o1)
  replace hi0 := Lib.hid (get_app (z := row prLay (.slice A3 n3 c3) x) hi0.out)
  replace hi1 := Lib.hid (get_app (z := row prLay (.slice A3 n3 c3) x) hi1.out)
  replace hi2 := Lib.hid (get_app (z := row prLay (.slice A3 n3 c3) x) hi2.out)
  have hi3 : Hid ((R1 ++ [row prLay (.slice A3 n3 c3) x])[R1.length]? = some (row prLay (.slice A3 n3 c3) x)) := Lib.hid (by simp)
  clear b1 o1
  generalize R1.length = i3 at *
  generalize R1 ++ [row prLay (.slice A3 n3 c3) x] = R2 at *
  go_wp2_with (first | (refine wpList_akv HK rfl rfl ?_; intro _ g3 HK'; simp only [List.cons_append, List.nil_append] at HK'; replace HK := HK'; clear HK') | (refine wpList_sv (f2 := gf) HK 3 rfl _ _ rfl rfl rfl rfl ?_; intro _ HK'; simp only [List.set] at HK'; replace HK := HK'; clear HK'))
  refine (HRC.out _ _ _ _ (Sl.own (HK.out.own 0 hi0.out) HFl.out)).mono ?_; rintro e w1 ⟨A4, n4, c4, rfl, o1, b1⟩
  obtain ⟨R3, HK1, hkeep, i4, hi4⟩ := HK.out.told b1 (i := 0) hi0.out o1
  replace HK := HK1
  replace hi0 := Lib.hid (hkeep 0 _ hi0.out)
  replace hi1 := Lib.hid (hkeep 1 _ hi1.out)
  replace hi2 := Lib.hid (hkeep i2 _ hi2.out)
  replace hi3 := Lib.hid (hkeep i3 _ hi3.out)
  replace hi4 := Lib.hid hi4
  clear b1 o1 HK1 hkeep
  go_wp2_with (first | (refine wpList_akv HK rfl rfl ?_; intro _ g4 HK'; simp only [List.cons_append, List.nil_append] at HK'; replace HK := HK'; clear HK') | (refine wpList_sv (f2 := gf) HK 4 rfl _ _ rfl rfl rfl rfl ?_; intro _ HK'; simp only [List.set] at HK'; replace HK := HK'; clear HK'))
  refine (HAw.out _).mono ?_; rintro e w1 ⟨rfl, b1⟩
  replace HK := Lib.hid (HK.out.call b1); clear b1
  go_wp2_with fail
  refine (HR.out _ HK.out.b).mono ?_; rintro e w1 ⟨rfl, b1⟩
  replace HK := Lib.hid (HK.out.call b1); clear b1
  go_wp2_with fail
  refine (HRR.out _ _ _ _ (Sl.own (HK.out.own 0 hi0.out) HFl.out)).mono ?_; rintro e w1 ⟨rfl, b1⟩
  replace HK := Lib.hid (HK.out.call b1); clear b1
  go_wp2_with (first | refine wpList_of_exec (by rfl) (kexec_vv HK 1 _ (by rfl) (by rfl) (by rfl)) ?_ | refine wpList_of_exec (by rfl) (kexec_vv HK 2 _ (by rfl) (by rfl) (by rfl)) ?_ | refine wpList_of_exec (by rfl) (exec_veq (v := ⟨gk, gm, gf, gs⟩) (u := ⟨gk, gm, gf, gs⟩) _ _ (by rfl) (by rfl) (by rfl) HV.out) ?_)
  refine (same_self _ _ _ _ _ _ p _ (Sl.own (HK.out.own 1 hi1.out) HFp.out) (Sl.own (HK.out.own i2 hi2.out) HFp.out)).mono ?_; rintro e w1 ⟨rfl, b1⟩
  replace HK := Lib.hid (HK.out.call b1); clear b1
  go_wp2_with fail
  refine (same_self _ _ _ _ _ _ x _ (Sl.own (HK.out.own i3 hi3.out) HFc.out) (Sl.own (HK.out.own i4 hi4.out) HFc.out)).mono ?_; rintro e w1 ⟨rfl, b1⟩
  replace HK := Lib.hid (HK.out.call b1); clear b1
  go_wp2_with (first | refine wpList_of_exec (by rfl) (kexec_vv HK 3 _ (by rfl) (by rfl) (by rfl)) ?_ | refine wpList_of_exec (by rfl) (kexec_vv HK 4 _ (by rfl) (by rfl) (by rfl)) ?_ | refine wpList_of_exec (by rfl) (exec_veq (v := ⟨gk, gm, gf, gs⟩) (u := ⟨gk, gm, gf, gs⟩) _ _ (by rfl) (by rfl) (by rfl) HV.out) ?_)
  refine (same_self _ _ _ _ _ _ l _ (HS.out.later HK.out.b) (Sl.own (HK.out.own 0 hi0.out) HFl.out)).mono ?_; rintro e w1 ⟨rfl, b1⟩
  replace HK := Lib.hid (HK.out.call b1); clear b1
  go_wp2_with fail
  go_ret
  exact ⟨rfl, HK.out.b⟩
end Go.Proofs.Ytikfjimdkbmjhaa
