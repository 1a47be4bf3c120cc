/- What the document's Get and without return. No condition but those named. -/
import Derived.Test.YtpkodjllljnleaaGreatTk
import Derived.Test.YtpkodjllljnleaaGreatMS
import Derived.Test.YtpkodjllljnleaaGreatMI
set_option linter.unusedSimpArgs false
set_option linter.unusedVariables false
namespace Go.Proofs.YtpkodjllljnleaaGreat
open Go.RowKit
theorem own_rd {w : World} {b : Nat} {A : Option Addr} {n c : Nat} {l : List Dct.Pr} (h : prLay.Own b w (.slice A n c) l) : prLay.Reads w w.heap.size A l ∧ (A = none → l = []) := by
 have hr := h.reads
 refine ⟨hr.2, fun hA => ?_⟩
 subst hA
 rcases h.2 with ⟨_, h0⟩ | ⟨g, cap, cur, e, _⟩
 ·exact List.length_eq_zero_iff.1 h0
 ·cases e
set_option maxRecDepth 100000 in
set_option maxHeartbeats 6400000 in
theorem rget_any (A : Option Addr) (c n : Nat) (l : List Dct.Pr) (key : ByteArray) (w : World) (hs : Sl w A n c l) :
  Calls Tryz.prog 72 #[.slice A n c, .string key] w (IsVE (Dct.gtV l key) (Dct.gtE l key) w) := by
 have HM := zH (fun W (hW : Below w.heap.size w W) => rright_any A c n l W (hs.later hW))
 have HS := zH hs
 unfold IsVE IsB at *
 have HK := zH (Kn.start w)
 by_cases hr : Dct.Right l
 ·rw [decide_eq_true hr] at HM
  have HG : Hid (∀ k, k < n → ∃ x, l[k]? = some x) := zH fun k hk => Lay.get_of (l := l) (k := k) (by rw [hs.len]; exact hk)
  have HEnd : Hid (l.drop n = []) := zH (List.drop_of_length_le (by rw [hs.len]; exact Nat.le_refl _))
  have HSome : Hid (∀ v, Dct.fnd l key = some v → Dct.gtV l key = v ∧ Dct.gtE l key = 0) := zH fun v hv => Dct.gt_some hr hv
  have HNone : Hid (Dct.fnd l key = none → Dct.gtV l key = Dct.emp ∧ Dct.gtE l key = 5) := zH fun hv => Dct.gt_none hr hv
  have hn63 : n < 9223372036854775807 := Nat.lt_of_le_of_lt hs.big (by decide)
  clear hr hs
  generalize Dct.gtV l key = V at *
  generalize Dct.gtE l key = X at *
  go_enter Tryz.func72, Tryz.ntmps72
  go_wp2_with (first | (refine wpList_akv HK rfl rfl ?_; intro _ g1 HK'; simp only [lcA, lnA] at HK'; replace HK := HK'; clear HK'))
  refine (HM.out _ HK.out.b).mono ?_; rintro e w1 ⟨rfl, b1⟩
  replace HK := hkC HK b1
  clear b1 HM
  go_wp2_with fail
  go_loop [6] (fun vi => ∃ k : Nat, k ≤ n ∧ vi = .int .i64 k ∧ Hid (Dct.fnd l key = Dct.fnd (l.drop k) key)) (fun vi => n - (intOf vi).toNat)
  case atStart => exact ⟨0, Nat.zero_le _, rfl, zH rfl⟩
  case round =>
   obtain ⟨k, hk, rfl, HF⟩ := hrel
   have hk1 : (0 : Int) ≤ (k : Int) := by omega
   by_cases hlt : k < n
   ·have hk2 : (k : Int) < (n : Int) := by omega
    have hk3 : k < 9223372036854775807 := by omega
    obtain ⟨x, hx⟩ := HG.out k hlt
    obtain ⟨b, o, rfl, hat⟩ := HS.out.at (Nat.lt_of_le_of_lt (Nat.zero_le _) hlt)
    have HX := zH (fun W hW => hat W hW k x hx)
    have HFx := zH (HF.out.trans (Dct.fnd_drop hx key))
    clear hat hx HF
    by_cases he : x.key = key
    ·have hv := HFx.out
     rw [if_pos he] at hv
     obtain ⟨rfl, rfl⟩ := HSome.out _ hv
     have HE := zH (show decide (x.key = key) = true from decide_eq_true he)
     clear he hv HFx HNone HSome
     obtain ⟨xk, k', m, f, s⟩ := x
     simp only at HE
     go_wp2_with (first | refine wpList_of_exec (by rfl) (exec_lpk (off := o + k * 5) _ (by rfl) (by rfl) (HX.out _ HK.out.b)) ?_ | refine wpList_of_exec (by rfl) (exec_seq _ _ (by rfl) (by rfl) (by rfl) HE.out) ?_ | refine wpList_of_exec (by rfl) (exec_lpv (off := o + k * 5) _ (by rfl) (by rfl) rfl (HX.out _ HK.out.b)) ?_ | (refine wpList_sv (f2 := f) HK 0 rfl _ _ rfl rfl rfl rfl ?_; intro _ HK'; simp only [List.set] at HK'; replace HK := HK'; clear HK'))
     exact ret_ve Tryz.results72 rfl rfl rfl (HK.out.blk 0 rfl) ⟨rfl, HK.out.b⟩
    ·have hv := HFx.out
     rw [if_neg he] at hv
     have HFn := zH hv
     have HE := zH (show decide (x.key = key) = false from decide_eq_false he)
     clear he hv HFx
     go_wp2_with (first | refine wpList_of_exec (by rfl) (exec_lpk (off := o + k * 5) _ (by rfl) (by rfl) (HX.out _ HK.out.b)) ?_ | refine wpList_of_exec (by rfl) (exec_seq _ _ (by rfl) (by rfl) (by rfl) HE.out) ?_ | refine wpList_of_exec (by rfl) (exec_add1 (j := k) _ (by rfl) (by rfl) hk3) ?_)
     exact ⟨⟨k + 1, hlt, rfl, HFn⟩, by simp [intOf]; omega⟩
   ·obtain rfl : k = n := by omega
    have hv := HF.out
    rw [HEnd.out] at hv
    obtain ⟨rfl, rfl⟩ := HNone.out hv
    clear hv HSome HNone HF
    go_wp2_with (first | (refine wpList_sv (f2 := 0) HK 0 rfl _ _ rfl rfl rfl rfl ?_; intro _ HK'; simp only [List.set] at HK'; replace HK := HK'; clear HK'))
    exact ret_ve Tryz.results72 rfl rfl rfl (HK.out.blk 0 rfl) ⟨rfl, HK.out.b⟩
 ·rw [decide_eq_false hr] at HM
  obtain ⟨e1, e2⟩ := Dct.gt_bad hr key
  rw [e1, e2]
  clear e1 e2 hr
  unfold Dct.emp vv
  simp only
  go_enter Tryz.func72, Tryz.ntmps72
  go_wp2_with (first | (refine wpList_akv HK rfl rfl ?_; intro _ g1 HK'; simp only [lcA, lnA] at HK'; replace HK := HK'; clear HK'))
  refine (HM.out _ HK.out.b).mono ?_; rintro e w1 ⟨rfl, b1⟩
  replace HK := hkC HK b1
  clear b1
  go_wp2_with (first | (refine wpList_sv (f2 := 0) HK 0 rfl _ _ rfl rfl rfl rfl ?_; intro _ HK'; simp only [List.set] at HK'; replace HK := HK'; clear HK'))
  exact ret_ve Tryz.results72 rfl rfl rfl (HK.out.blk 0 rfl) ⟨rfl, HK.out.b⟩
set_option maxRecDepth 100000 in
set_option maxHeartbeats 6400000 in
theorem rwo_any (A : Option Addr) (c n : Nat) (l : List Dct.Pr) (key : ByteArray) (w : World) (hs : Sl w A n c l) :
  Calls Tryz.prog 126 #[.slice A n c, .string key] w (IsL (Dct.wo l key) w) := by
 have HS := zH hs
 have HG : Hid (∀ k, k < n → ∃ x, l[k]? = some x) := zH fun k hk => Lay.get_of (l := l) (k := k) (by rw [hs.len]; exact hk)
 have HTake : Hid (l.take n = l) := zH (List.take_of_length_le (by rw [hs.len]; exact Nat.le_refl _))
 have HLen : Hid (∀ k, (Dct.wo (l.take k) key).length ≤ 2513169434916) := zH fun k => by
  have h1 : (Dct.wo (l.take k) key).length ≤ (l.take k).length := List.length_filter_le _ _
  have h2 : (l.take k).length ≤ l.length := by rw [List.length_take]; omega
  have h3 := hs.big
  have h4 := hs.len
  omega
 have hn63 : n < 9223372036854775807 := Nat.lt_of_le_of_lt hs.big (by decide)
 clear hs
 have HK := zH ((Kn.start w).nilR prLay)
 simp only [lnA] at HK
 go_enter Tryz.func126, Tryz.ntmps126
 go_wp2_with fail
 go_loopw [5, 6] (fun vs vi wr => ∃ (k : Nat) (A1 : Option Addr) (c1 N : Nat), k ≤ n ∧ vs = .slice A1 N c1 ∧ vi = .int .i64 k ∧ Hid ((Dct.wo (l.take k) key).length = N) ∧ Hid (Kn w.heap.size w wr [] [row prLay (.slice A1 N c1) (Dct.wo (l.take k) key)])) (fun _ vi _ => n - (intOf vi).toNat)
 case atStart => exact ⟨0, _, _, 0, Nat.zero_le _, rfl, rfl, zH rfl, HK⟩
 case round =>
  clear HK
  obtain ⟨k, A1, c1, N, hk, rfl, rfl, hN, HK⟩ := hrel
  have hk1 : (0 : Int) ≤ (k : Int) := by omega
  by_cases hlt : k < n
  ·have hk2 : (k : Int) < (n : Int) := by omega
   have hk3 : k < 9223372036854775807 := by omega
   obtain ⟨x, hx⟩ := HG.out k hlt
   obtain ⟨b, o, rfl, hat⟩ := HS.out.at (Nat.lt_of_le_of_lt (Nat.zero_le _) hlt)
   have HX := zH (fun W hW => hat W hW k x hx)
   have HW := zH (Dct.wo_take_more hx key)
   have hlen := HLen.out k
   rw [hN.out] at hlen
   clear hat hx
   by_cases he : x.key = key
   ·have hw := HW.out
    rw [if_pos he] at hw
    have HE := zH (show (!decide (x.key = key)) = false by rw [decide_eq_true he]; rfl)
    have HW2 := zH hw
    clear he hw HW
    go_wp2_with (first | refine wpList_of_exec (by rfl) (exec_lpk (off := o + k * 5) _ (by rfl) (by rfl) (HX.out _ HK.out.b)) ?_ | refine wpList_of_exec (by rfl) (exec_sne _ _ (by rfl) (by rfl) (by rfl) HE.out) ?_ | refine wpList_of_exec (by rfl) (exec_add1 (j := k) _ (by rfl) (by rfl) hk3) ?_)
    exact ⟨⟨k + 1, A1, c1, N, hlt, rfl, rfl, zH (by rw [HW2.out]; exact hN.out), by rw [HW2.out]; exact HK⟩, by simp [intOf]; omega⟩
   ·have hw := HW.out
    rw [if_neg he] at hw
    have HE := zH (show (!decide (x.key = key)) = true by rw [decide_eq_false he]; rfl)
    have HW2 := zH hw
    have HL : Hid ((Dct.wo (l.take k) key).length + [x].length ≤ 9223372036854775807 ∧ ((Dct.wo (l.take k) key).length + [x].length) * prLay.bytes ≤ 211106232532992) := zH (by
     rw [hN.out]
     show N + 1 ≤ _ ∧ (N + 1) * 56 ≤ _
     omega)
    have HN2 : Hid ((Dct.wo (l.take k) key ++ [x]).length = N + 1) := zH (by rw [List.length_append, hN.out]; rfl)
    clear he hw HW
    go_wp2_with (first | refine wpList_of_exec (by rfl) (exec_lpk (off := o + k * 5) _ (by rfl) (by rfl) (HX.out _ HK.out.b)) ?_ | refine wpList_of_exec (by rfl) (exec_sne _ _ (by rfl) (by rfl) (by rfl) HE.out) ?_ | refine wpList_of_exec (by rfl) (exec_add1 (j := k) _ (by rfl) (by rfl) hk3) ?_ | refine wpList_of_exec (v := .agg (prA x)) (by rfl) (exec_lpr (off := o + k * 5) _ (by rfl) (by rfl) (HX.out _ HK.out.b)) ?_ | (refine wpList_mp1 (p := x) HK rfl _ rfl rfl ?_; intro w2 g2 HK'; simp only [lcA, lnA] at HK'; have HR := zH (own_rd (HK'.out.own 1 rfl)); replace HK := HK'; clear HK') | (at_builtin; refine wpList_kmore HK prLay 0 rfl _ _ rfl rfl rfl [x] rfl rfl HR HL (N := N + 1) HN2 ?_; intro A4 c4 _ HK'; simp only [List.set] at HK'; replace HK := HK'; clear HK'))
    exact ⟨⟨k + 1, A4, c4, N + 1, hlt, rfl, rfl, zH (by rw [HW2.out]; exact HN2.out), by rw [HW2.out]; exact zH (HK.out.takeR 1)⟩, by simp [intOf]; omega⟩
  ·obtain rfl : k = n := by omega
   rw [HTake.out] at HK hN
   obtain rfl := hN.out
   go_wp2_with fail
   go_ret
   exact ⟨A1, _, c1, rfl, HK.out.own 0 rfl, HK.out.b⟩
end Go.Proofs.YtpkodjllljnleaaGreat
namespace Go.Proofs.YtpkodjllljnleaaGreat
open Go.RowKit
def IsPEr (A : Option Addr) (n c : Nat) (l r : List Dct.Pr) (x : Int) (w : World) (e : Ending) (w' : World) : Prop := ∃ A' n' c', e = .returned (.tuple #[.slice A' n' c', .int .i64 x]) ∧ (prLay.Own w.heap.size w' (.slice A' n' c') r ∨ (A' = A ∧ n' = n ∧ c' = c ∧ r = l)) ∧ Below w.heap.size w w'
theorem per_same {A : Option Addr} {n c : Nat} {l : List Dct.Pr} {x : Int} {w w' : World} (hb : Below w.heap.size w w') : IsPEr A n c l l x w (.returned (.tuple #[.slice A n c, .int .i64 x])) w' := ⟨A, n, c, rfl, .inr ⟨rfl, rfl, rfl, rfl⟩, hb⟩
theorem per_own {A A' : Option Addr} {n c n' c' : Nat} {l r r' : List Dct.Pr} {x : Int} {w w' : World} (ho : prLay.Own w.heap.size w' (.slice A' n' c') r') (he : r' = r) (hb : Below w.heap.size w w') : IsPEr A n c l r x w (.returned (.tuple #[.slice A' n' c', .int .i64 x])) w' := ⟨A', n', c', rfl, .inl (he ▸ ho), hb⟩
set_option maxRecDepth 100000 in
set_option maxHeartbeats 12800000 in
theorem rput_any (A : Option Addr) (c n : Nat) (l : List Dct.Pr) (key : ByteArray) (v : Val.V) (w : World) (hs : Sl w A n c l) (hv : v.f < 18446744073709551616) :
  Calls Tryz.prog 73 #[.slice A n c, .string key, vv v] w (IsPEr A n c l (Dct.ptL l key v) (Dct.ptE l key v) w) := by
 have HM := zH (fun W (hW : Below w.heap.size w W) => rright_any A c n l W (hs.later hW))
 have HC := zH (fun W => rcheck_any v W hv)
 have HW := zH (fun W (hW : Below w.heap.size w W) => rwo_any A c n l key W (hs.later hW))
 by_cases hr : Dct.Right l
 case neg =>
  obtain ⟨e1, e2⟩ := Dct.pt_bad hr key v
  rw [decide_eq_false hr] at HM
  rw [e1, e2]
  clear e1 e2 hr hs hv HC HW
  obtain ⟨k, m, f, s⟩ := v
  unfold vv IsB at *
  simp only
  have HK := kn1 w 27 (vC k m f s)
  unfold vC at HK
  go_enter Tryz.func73, Tryz.ntmps73
  go_wp2_with fail
  refine (HM.out _ HK.out.b).mono ?_; rintro e w1 ⟨rfl, b1⟩
  replace HK := hkC HK b1
  clear b1
  go_wp2_with fail
  exact ret_t2 Tryz.results73 rfl rfl rfl (per_same HK.out.b)
 case pos =>
 rw [decide_eq_true hr] at HM
 have HBad : Hid (∀ x, Dct.pchk key v = x → ¬ x = 0 → Dct.ptE l key v = x ∧ Dct.ptL l key v = l) := zH fun x hx h => by
  subst hx
  exact Dct.pt_chk hr h
 have HOk : Hid (Dct.pchk key v = 0 → ((Dct.wo l key).length = 8 → Dct.ptE l key v = 6 ∧ Dct.ptL l key v = l) ∧ (¬ (Dct.wo l key).length = 8 → Dct.ptE l key v = 0 ∧ Dct.ptL l key v = (Dct.wo l key).take (Dct.idx (Dct.wo l key) key) ++ [⟨key, v⟩] ++ (Dct.wo l key).drop (Dct.idx (Dct.wo l key) key))) := zH fun h => by
  have h8 := (Dct.wo_right hr key).len
  refine ⟨fun h2 => Dct.pt_full hr h (by omega), fun h2 => ?_⟩
  rw [Dct.ins_wo hr.up]
  exact Dct.pt_ok hr h (by omega)
 have HFL : Hid (Fit (Dct.wo l key)) := zH (hs.fit.wo key)
 have HPc : Hid (Dct.pchk key v = if v.k = 0 then 1 else if 64 < key.size then 2 else Val.chk v) := zH rfl
 have hl8 := (Dct.wo_right hr key).len
 have hple := Dct.idx_le (Dct.wo l key) key
 have HB : Hid (∀ k x, k < Dct.idx (Dct.wo l key) key → (Dct.wo l key)[k]? = some x → Dct.lt x.key key = true) := zH fun k x hk hx => Dct.idx_lt hk hx
 have HA : Hid (∀ x, (Dct.wo l key)[Dct.idx (Dct.wo l key) key]? = some x → Dct.lt x.key key = false) := zH fun x hx => Dct.idx_at hx
 clear hr hs hv
 generalize Dct.ptE l key v = X at *
 generalize Dct.ptL l key v = r at *
 generalize Dct.wo l key = left at *
 generalize Dct.idx left key = p at *
 generalize Dct.pchk key v = z at *
 generalize Val.chk v = zc at *
 obtain ⟨k, m, f, s⟩ := v
 unfold vv IsE IsB IsL at *
 simp only at HC HPc ⊢
 have HK := kn1 w 27 (vC k m f s)
 unfold vC at HK
 go_enter Tryz.func73, Tryz.ntmps73
 go_wp2_with fail
 refine (HM.out _ HK.out.b).mono ?_; rintro e w1 ⟨rfl, b1⟩
 replace HK := hkC HK b1
 clear b1
 by_cases hk : k = 0
 ·have hz := HPc.out
  rw [if_pos hk] at hz
  obtain ⟨rfl, rfl⟩ := HBad.out 1 hz (by decide)
  clear HBad HOk HPc hz
  subst hk
  go_wp2_with (first | refine wpList_of_exec (by rfl) (kexec_lc HK 3 _ (by rfl) 0 (by rfl) (by rfl) (v := .int .i64 0) (by rfl) Tryz.underlying3 rfl) ?_)
  exact ret_t2 Tryz.results73 rfl rfl rfl (per_same HK.out.b)
 have hz := HPc.out
 rw [if_neg hk] at hz
 clear HPc
 have hk2 : (k == 0) = false := by simpa using hk
 by_cases h64 : 64 < key.size
 ·rw [if_pos h64] at hz
  obtain ⟨rfl, rfl⟩ := HBad.out 2 hz (by decide)
  have h642 : 64 < (key.size : Int) := by omega
  clear HBad HOk hz
  go_wp2_with (first | refine wpList_of_exec (by rfl) (kexec_lc HK 3 _ (by rfl) 0 (by rfl) (by rfl) (v := .int .i64 k) (by rfl) Tryz.underlying3 rfl) ?_)
  exact ret_t2 Tryz.results73 rfl rfl rfl (per_same HK.out.b)
 have h642 : ¬ 64 < (key.size : Int) := by omega
 rw [if_neg h64] at hz
 go_wp2_with (first | refine wpList_of_exec (by rfl) (kexec_lc HK 3 _ (by rfl) 0 (by rfl) (by rfl) (v := .int .i64 k) (by rfl) Tryz.underlying3 rfl) ?_ | refine wpList_of_exec (by rfl) (kexec_vv HK 0 _ (by rfl) (by rfl) (by rfl)) ?_)
 refine (HC.out _).mono ?_; rintro e w1 ⟨rfl, b1⟩
 replace HK := hkC HK b1
 clear b1 HC
 by_cases hzc : zc = 0
 case neg =>
  obtain ⟨rfl, rfl⟩ := HBad.out _ hz hzc
  have hz2 : (X != 0) = true := by simpa using hzc
  clear HBad HOk hz
  go_wp2_with fail
  exact ret_t2 Tryz.results73 rfl rfl rfl (per_same HK.out.b)
 case pos =>
 obtain ⟨hfull, hok⟩ := HOk.out (hz.trans hzc)
 subst hzc
 clear HBad HOk hz HM
 go_wp2_with fail
 refine (HW.out _ HK.out.b).mono ?_; rintro e w1 ⟨AL, nL, cL, rfl, oL, b1⟩
 replace HK := zH (HK.out.called b1 oL)
 have hnL := (Lay.Own.reads oL).1
 simp only [lnA] at HK
 clear b1 oL HW
 rw [← hnL] at hfull hok hple hl8
 have HNL := zH hnL
 clear hnL
 by_cases h8 : nL = 8
 ·obtain ⟨rfl, rfl⟩ := hfull h8
  subst h8
  clear hok hfull
  go_wp2_with fail
  exact ret_t2 Tryz.results73 rfl rfl rfl (per_same HK.out.b)
 obtain ⟨rfl, rfl⟩ := hok h8
 have h82 : ((nL : Int) == 8) = false := by simp; omega
 clear hok hfull
 have HTk : Hid (∀ k, k ≤ p → (left.take k).length = k) := zH fun k hk => by rw [List.length_take, ← HNL.out]; omega
 have HG : Hid (∀ k, k < nL → ∃ x, left[k]? = some x) := zH fun k hk => Lay.get_of (l := left) (k := k) (by rw [← HNL.out]; exact hk)
 replace HK := zH (HK.out.nilR prLay)
 simp only [lcA, lnA] at HK
 go_wp2_with fail
 go_loopw [10, 11] (fun vs vi wr => ∃ (q : Nat) (A1 : Option Addr) (c1 : Nat), q ≤ p ∧ vs = .slice A1 q c1 ∧ vi = .int .i64 q ∧ Hid (Kn w.heap.size w wr [(w.heap.size, 27, #[.int .i64 k, .int .i64 m, .int .u64 (f : Int), .string s])] [row prLay (.slice AL nL cL) left, row prLay (.slice A1 q c1) (left.take q)])) (fun _ vi _ => p + 1 - (intOf vi).toNat)
 case atStart => exact ⟨0, _, _, Nat.zero_le _, rfl, rfl, HK⟩
 case round =>
  clear HK
  obtain ⟨q, A1, c1, hq, rfl, rfl, HK⟩ := hrel
  have hq1 : (0 : Int) ≤ (q : Int) := by omega
  have HSl := zH (Sl.own (HK.out.own 0 rfl) HFL.out)
  by_cases hlt : q < p
  ·have hqn : q < nL := by omega
   have hq2 : (q : Int) < (nL : Int) := by omega
   have hq3 : q < 9223372036854775807 := by omega
   obtain ⟨x, hx⟩ := HG.out q hqn
   obtain ⟨b, o, rfl, hat⟩ := HSl.out.at (Nat.lt_of_le_of_lt (Nat.zero_le _) hqn)
   have HX := zH (hat wr (Below.refl _ wr) q x hx)
   have HLt := zH (HB.out q x hlt hx)
   have HE := zH (Lay.take_succ hx)
   have hln := HTk.out q hq
   have HL : Hid ((left.take q).length + [x].length ≤ 9223372036854775807 ∧ ((left.take q).length + [x].length) * prLay.bytes ≤ 211106232532992) := zH (by
    rw [hln]
    show q + 1 ≤ _ ∧ (q + 1) * 56 ≤ _
    omega)
   have HN2 : Hid ((left.take q ++ [x]).length = q + 1) := zH (by rw [List.length_append, hln]; rfl)
   clear hat hx hln HSl HA
   go_wp2_with (first | refine wpList_of_exec (by rfl) (exec_lpk (off := o + q * 5) _ (by rfl) (by rfl) HX.out) ?_ | refine wpList_of_exec (by rfl) (exec_slt _ _ (by rfl) (by rfl) (by rfl) HLt.out) ?_ | refine wpList_of_exec (by rfl) (exec_add1 (j := q) _ (by rfl) (by rfl) hq3) ?_ | refine wpList_of_exec (v := .agg (prA x)) (by rfl) (exec_lpr (off := o + q * 5) _ (by rfl) (by rfl) HX.out) ?_ | (refine wpList_mp1 (p := x) HK rfl _ rfl rfl ?_; intro w2 g2 HK'; simp only [lcA, lnA] at HK'; have HR := zH (own_rd (HK'.out.own 2 rfl)); replace HK := HK'; clear HK') | (at_builtin; refine wpList_kmore HK prLay 1 rfl _ _ rfl rfl rfl [x] rfl rfl HR HL (N := q + 1) HN2 ?_; intro A4 c4 _ HK'; simp only [List.set] at HK'; replace HK := HK'; clear HK'))
   exact ⟨⟨q + 1, A4, c4, hlt, rfl, rfl, by rw [HE.out]; exact zH (HK.out.takeR 2)⟩, by simp [intOf]; omega⟩
  ·obtain rfl : q = p := by omega
   have hpn : q ≤ nL := hple
   have hln := HTk.out q hq
   have hld : (left.drop q).take (nL - q) = left.drop q := List.take_of_length_le (by rw [List.length_drop, ← HNL.out]; exact Nat.le_refl _)
   have hld2 : (left.drop q).length = nL - q := by rw [List.length_drop, ← HNL.out]
   have HL1 : Hid ((left.take q).length + [(⟨key, ⟨k, m, f, s⟩⟩ : Dct.Pr)].length ≤ 9223372036854775807 ∧ ((left.take q).length + [(⟨key, ⟨k, m, f, s⟩⟩ : Dct.Pr)].length) * prLay.bytes ≤ 211106232532992) := zH (by
    rw [hln]
    show q + 1 ≤ _ ∧ (q + 1) * 56 ≤ _
    omega)
   have HN1 : Hid ((left.take q ++ [(⟨key, ⟨k, m, f, s⟩⟩ : Dct.Pr)]).length = q + 1) := zH (by rw [List.length_append, hln]; rfl)
   have HL2 : Hid ((left.take q ++ [(⟨key, ⟨k, m, f, s⟩⟩ : Dct.Pr)]).length + ((left.drop q).take (nL - q)).length ≤ 9223372036854775807 ∧ ((left.take q ++ [(⟨key, ⟨k, m, f, s⟩⟩ : Dct.Pr)]).length + ((left.drop q).take (nL - q)).length) * prLay.bytes ≤ 211106232532992) := zH (by
    rw [HN1.out, hld, hld2]
    show q + 1 + (nL - q) ≤ _ ∧ (q + 1 + (nL - q)) * 56 ≤ _
    omega)
   have HN3 : Hid ((left.take q ++ [(⟨key, ⟨k, m, f, s⟩⟩ : Dct.Pr)] ++ (left.drop q).take (nL - q)).length = q + 1 + (nL - q)) := zH (by rw [List.length_append, HN1.out, hld, hld2])
   have HLd := zH hld
   clear hln hld hld2
   by_cases hqn : q < nL
   ·have hq2 : (q : Int) < (nL : Int) := by omega
    obtain ⟨x, hx⟩ := HG.out q hqn
    obtain ⟨b, o, rfl, hat⟩ := HSl.out.at (Nat.lt_of_le_of_lt (Nat.zero_le _) hqn)
    have HX := zH (hat wr (Below.refl _ wr) q x hx)
    have HLt := zH (HA.out x hx)
    clear hat hx HSl HB
    go_wp2_with (first | refine wpList_of_exec (by rfl) (exec_lpk (off := o + q * 5) _ (by rfl) (by rfl) HX.out) ?_ | refine wpList_of_exec (by rfl) (exec_slt _ _ (by rfl) (by rfl) (by rfl) HLt.out) ?_ | refine wpList_of_exec (by rfl) (kexec_vv HK 0 _ (by rfl) (by rfl) (by rfl)) ?_ | (refine wpList_mp1 (p := ⟨key, ⟨k, m, f, s⟩⟩) HK rfl _ rfl rfl ?_; intro w2 g2 HK'; simp only [lcA, lnA] at HK'; have HR := zH (own_rd (HK'.out.own 2 rfl)); replace HK := HK'; clear HK') | (at_builtin; refine wpList_kmore HK prLay 1 rfl _ _ rfl rfl rfl [⟨key, ⟨k, m, f, s⟩⟩] rfl rfl HR HL1 (N := q + 1) HN1 ?_; intro A4 c4 w4 HK'; simp only [List.set] at HK'; have HS2 := zH ((Sl.own (HK'.out.own 0 rfl) HFL.out).sub hpn (Nat.le_refl _)); have HR2 := zH (And.intro HS2.out.rd HS2.out.nl); replace HK := HK'; clear HK' HR) | refine wpList_of_exec (by rfl) (exec_sl_l (lo := q) _ _ (by rfl) (by rfl) (by rfl) hpn) ?_ | (at_builtin; refine wpList_kmore HK prLay 1 rfl _ _ rfl rfl rfl ((left.drop q).take (nL - q)) rfl HS2.out.len.symm HR2 HL2 (N := q + 1 + (nL - q)) HN3 ?_; intro A5 c5 w5 HK'; simp only [List.set] at HK'; replace HK := HK'; clear HK'))
    exact ret_t2 Tryz.results73 rfl rfl rfl (per_own (HK.out.own 1 rfl) (by rw [HLd.out] <;> simp) HK.out.b)
   ·have hq2 : ¬ (q : Int) < (nL : Int) := by omega
    clear HSl HB
    go_wp2_with (first | refine wpList_of_exec (by rfl) (kexec_vv HK 0 _ (by rfl) (by rfl) (by rfl)) ?_ | (refine wpList_mp1 (p := ⟨key, ⟨k, m, f, s⟩⟩) HK rfl _ rfl rfl ?_; intro w2 g2 HK'; simp only [lcA, lnA] at HK'; have HR := zH (own_rd (HK'.out.own 2 rfl)); replace HK := HK'; clear HK') | (at_builtin; refine wpList_kmore HK prLay 1 rfl _ _ rfl rfl rfl [⟨key, ⟨k, m, f, s⟩⟩] rfl rfl HR HL1 (N := q + 1) HN1 ?_; intro A4 c4 w4 HK'; simp only [List.set] at HK'; have HS2 := zH ((Sl.own (HK'.out.own 0 rfl) HFL.out).sub hpn (Nat.le_refl _)); have HR2 := zH (And.intro HS2.out.rd HS2.out.nl); replace HK := HK'; clear HK' HR) | refine wpList_of_exec (by rfl) (exec_sl_l (lo := q) _ _ (by rfl) (by rfl) (by rfl) hpn) ?_ | (at_builtin; refine wpList_kmore HK prLay 1 rfl _ _ rfl rfl rfl ((left.drop q).take (nL - q)) rfl HS2.out.len.symm HR2 HL2 (N := q + 1 + (nL - q)) HN3 ?_; intro A5 c5 w5 HK'; simp only [List.set] at HK'; replace HK := HK'; clear HK'))
    exact ret_t2 Tryz.results73 rfl rfl rfl (per_own (HK.out.own 1 rfl) (by rw [HLd.out] <;> simp) HK.out.b)
end Go.Proofs.YtpkodjllljnleaaGreat
namespace Go.Proofs.YtpkodjllljnleaaGreat
open Go.RowKit
def IsPVEr (A : Option Addr) (n c : Nat) (l r : List Dct.Pr) (v : Val.V) (x : Int) (w : World) (e : Ending) (w' : World) : Prop := ∃ A' n' c', e = .returned (.tuple #[.slice A' n' c', vv v, .int .i64 x]) ∧ (prLay.Own w.heap.size w' (.slice A' n' c') r ∨ (A' = A ∧ n' = n ∧ c' = c ∧ r = l)) ∧ Below w.heap.size w w'
theorem pver_same {A : Option Addr} {n c : Nat} {l : List Dct.Pr} {k m : Int} {f : Nat} {s : ByteArray} {x : Int} {w w' : World} (hb : Below w.heap.size w w') : IsPVEr A n c l l ⟨k, m, f, s⟩ x w (.returned (.tuple #[.slice A n c, .agg #[.int .i64 k, .int .i64 m, .int .u64 (f : Int), .string s], .int .i64 x])) w' := ⟨A, n, c, rfl, .inr ⟨rfl, rfl, rfl, rfl⟩, hb⟩
theorem pver_own {A A' : Option Addr} {n c n' c' : Nat} {l r : List Dct.Pr} {k m : Int} {f : Nat} {s : ByteArray} {x : Int} {w w' : World} (ho : prLay.Own w.heap.size w' (.slice A' n' c') r) (hb : Below w.heap.size w w') : IsPVEr A n c l r ⟨k, m, f, s⟩ x w (.returned (.tuple #[.slice A' n' c', .agg #[.int .i64 k, .int .i64 m, .int .u64 (f : Int), .string s], .int .i64 x])) w' := ⟨A', n', c', rfl, .inl ho, hb⟩
set_option maxRecDepth 100000 in
set_option maxHeartbeats 12800000 in
theorem rcut_any (A : Option Addr) (c n : Nat) (l : List Dct.Pr) (key : ByteArray) (w : World) (hs : Sl w A n c l) :
  Calls Tryz.prog 74 #[.slice A n c, .string key] w (IsPVEr A n c l (Dct.ctL l key) (Dct.gtV l key) (Dct.gtE l key) w) := by
 have HG := zH (fun W (hW : Below w.heap.size w W) => rget_any A c n l key W (hs.later hW))
 have HW := zH (fun W (hW : Below w.heap.size w W) => rwo_any A c n l key W (hs.later hW))
 unfold Dct.ctL
 by_cases hz : Dct.gtE l key = 0
 ·rw [if_pos hz]
  rw [hz] at HG ⊢
  clear hz hs
  generalize Dct.gtV l key = v at *
  generalize Dct.wo l key = r at *
  obtain ⟨k, m, f, s⟩ := v
  unfold IsVE vv at *
  simp only at HG
  have HK := zH (Kn.start w)
  go_enter Tryz.func74, Tryz.ntmps74
  go_wp2_with (first | (refine wpList_akv HK rfl rfl ?_; intro _ g1 HK'; simp only [lcA, lnA] at HK'; replace HK := HK'; clear HK'))
  refine (HG.out _ HK.out.b).mono ?_; rintro e w1 ⟨rfl, b1⟩
  replace HK := hkC HK b1
  clear b1
  go_wp2_with (first | (refine wpList_akv HK rfl rfl ?_; intro _ g2 HK'; simp only [lcA, lnA] at HK'; replace HK := HK'; clear HK') | (refine wpList_sv (f2 := f) HK 1 rfl _ _ rfl rfl rfl rfl ?_; intro _ HK'; simp only [List.set] at HK'; replace HK := HK'; clear HK'))
  have HK0 := zH HK.out.drew
  clear HG
  refine wp_region_held_drew (S := (fun W => Hid (Kn w.heap.size w W [(g2, 27, vC k m f s)] []))) (by kernel_rfl) ?_ (fun hHeld => ?_)
  ·(try dsimp only); exact zH (HK.out.drew.dropL 1)
  refine stk 0 20 rfl ?_
  refine stk 1 21 rfl ?_
  refine stk 3 23 rfl ?_ (fun w hSw => kexec_vv hSw 0 _ (by rfl) (by rfl) (by rfl))
  refine srd1 2 (some 22) rfl (fun K hK => ?_)
  go_simp
  go_at_call 126
  refine (HW.out _ hHeld.out.b).mono ?_; rintro e w5 ⟨A4, n4, c4, rfl, o4, b5⟩; have hs := zH (hHeld.out.call b5); replace HK0 := zH (HK0.out.called b5 o4); clear b5 o4
  refine hK.out _ _ hs (fun hHeld => ?_)
  clear hK K
  try simp only [ap1, ap2, ap3, ap4, ap5]
  refine stk 4 4 rfl ?_
  refine srd1 5 none rfl (fun K hK => ?_)
  refine step_sv (f2 := f) HK0 0 (by rfl) _ _ (by rfl) (by rfl) (by rfl) (by rfl) ?_; intro wq HK'; simp only [List.set] at HK'; replace HK0 := HK'; clear HK'; have hs := zH ((HK0.out.dropL 1).takeR 0)
  refine hK.out _ _ hs (fun hHeld => ?_)
  clear hK K
  try simp only [ap1, ap2, ap3, ap4, ap5]
  refine stk 6 6 rfl ?_
  refine wpAnyH_done (by kernel_rfl) ?_ _
  all_goals
   go_wp2_with fail
   exact ret_pve Tryz.results74 rfl rfl rfl rfl (HK0.out.blk 0 rfl) (pver_own (HK0.out.own 0 rfl) HK0.out.b)
 ·rw [if_neg hz]
  have hv := Dct.gt_ne hz
  rw [hv] at HG ⊢
  generalize Dct.gtE l key = X at *
  have hz2 : (X != 0) = true := by simpa using hz
  clear hv hs HW
  unfold IsVE vv Dct.emp at *
  simp only at HG
  have HK := zH (Kn.start w)
  go_enter Tryz.func74, Tryz.ntmps74
  go_wp2_with (first | (refine wpList_akv HK rfl rfl ?_; intro _ g1 HK'; simp only [lcA, lnA] at HK'; replace HK := HK'; clear HK'))
  refine (HG.out _ HK.out.b).mono ?_; rintro e w1 ⟨rfl, b1⟩
  replace HK := hkC HK b1
  clear b1
  go_wp2_with (first | (refine wpList_akv HK rfl rfl ?_; intro _ g2 HK'; simp only [lcA, lnA] at HK'; replace HK := HK'; clear HK') | (refine wpList_sv (f2 := 0) HK 1 rfl _ _ rfl rfl rfl rfl ?_; intro _ HK'; simp only [List.set] at HK'; replace HK := HK'; clear HK') | (refine wpList_sv (f2 := 0) HK 0 rfl _ _ rfl rfl rfl rfl ?_; intro _ HK'; simp only [List.set] at HK'; replace HK := HK'; clear HK'))
  exact ret_pve Tryz.results74 rfl rfl rfl rfl (HK.out.blk 0 rfl) (pver_same HK.out.b)
set_option maxRecDepth 100000 in
set_option maxHeartbeats 12800000 in
theorem rswap_any (A : Option Addr) (c n : Nat) (l : List Dct.Pr) (key : ByteArray) (o v : Val.V) (w : World) (hs : Sl w A n c l) (hv : v.f < 18446744073709551616) :
  Calls Tryz.prog 75 #[.slice A n c, .string key, vv o, vv v] w (IsPVEr A n c l (Dct.swL l key o v) (Dct.swV l key o) (Dct.swE l key o v) w) := by
 have HG := zH (fun W (hW : Below w.heap.size w W) => rget_any A c n l key W (hs.later hW))
 by_cases hr : Dct.Right l
 case neg =>
  obtain ⟨e1, e2, e3⟩ := Dct.sw_bad hr key o v
  obtain ⟨g1, g2⟩ := Dct.gt_bad hr key
  rw [g1, g2] at HG
  rw [e1, e2, e3]
  clear e1 e2 e3 g1 g2 hr hs
  obtain ⟨ok, om, of, os⟩ := o
  obtain ⟨vk, vm, vf, vs⟩ := v
  unfold IsVE vv Dct.emp at *
  simp only at HG
  have HK := kn2 w 27 (vC ok om of os) 27 (vC vk vm vf vs)
  unfold vC at HK
  go_enter Tryz.func75, Tryz.ntmps75
  go_wp2_with (first | (refine wpList_akv HK rfl rfl ?_; intro _ ga HK'; simp only [lcA, lnA] at HK'; replace HK := HK'; clear HK'))
  refine (HG.out _ HK.out.b).mono ?_; rintro e w1 ⟨rfl, b1⟩
  replace HK := hkC HK b1
  clear b1
  go_wp2_with (first | (refine wpList_akv HK rfl rfl ?_; intro _ gb HK'; simp only [lcA, lnA] at HK'; replace HK := HK'; clear HK') | (refine wpList_sv (f2 := 0) HK 3 rfl _ _ rfl rfl rfl rfl ?_; intro _ HK'; simp only [List.set] at HK'; replace HK := HK'; clear HK') | (refine wpList_sv (f2 := 0) HK 2 rfl _ _ rfl rfl rfl rfl ?_; intro _ HK'; simp only [List.set] at HK'; replace HK := HK'; clear HK'))
  exact ret_pve Tryz.results75 rfl rfl rfl rfl (HK.out.blk 2 rfl) (pver_same HK.out.b)
 case pos =>
 have hnb := Dct.gt_nb hr key
 by_cases ho : Dct.gtV l key = o
 case neg =>
  obtain ⟨e1, e2, e3⟩ := Dct.sw_unlike hr v ho
  rw [e1, e2, e3]
  clear e1 e2 e3 hr hs
  generalize Dct.gtV l key = t at *
  generalize Dct.gtE l key = X at *
  have hne := zH (show (!decide (t = o)) = true by rw [decide_eq_false ho]; rfl)
  clear ho
  have hx2 : (X == 1) = false := by simpa using hnb
  obtain ⟨ok, om, of, os⟩ := o
  obtain ⟨vk, vm, vf, vs⟩ := v
  obtain ⟨tk, tm, tf, ts⟩ := t
  unfold IsVE vv at *
  simp only at HG
  have HK := kn2 w 27 (vC ok om of os) 27 (vC vk vm vf vs)
  unfold vC at HK
  go_enter Tryz.func75, Tryz.ntmps75
  go_wp2_with (first | (refine wpList_akv HK rfl rfl ?_; intro _ ga HK'; simp only [lcA, lnA] at HK'; replace HK := HK'; clear HK'))
  refine (HG.out _ HK.out.b).mono ?_; rintro e w1 ⟨rfl, b1⟩
  replace HK := hkC HK b1
  clear b1
  go_wp2_with (first | (refine wpList_akv HK rfl rfl ?_; intro _ gb HK'; simp only [lcA, lnA] at HK'; replace HK := HK'; clear HK') | (refine wpList_sv (f2 := tf) HK 3 rfl _ _ rfl rfl rfl rfl ?_; intro _ HK'; simp only [List.set] at HK'; replace HK := HK'; clear HK') | refine wpList_of_exec (by rfl) (kexec_vv HK 3 _ (by rfl) (by rfl) (by rfl)) ?_ | refine wpList_of_exec (by rfl) (kexec_vv HK 0 _ (by rfl) (by rfl) (by rfl)) ?_ | refine wpList_of_exec (by rfl) (exec_vne (v := ⟨tk, tm, tf, ts⟩) (u := ⟨ok, om, of, os⟩) _ _ (by rfl) (by rfl) (by rfl) hne.out) ?_)
  have HK0 := zH HK.out.drew
  refine wp_region_held_drew (S := (fun W => Hid (Kn w.heap.size w W [(gb, 27, vC tk tm tf ts)] []))) (by kernel_rfl) ?_ (fun hHeld => ?_)
  ·(try dsimp only); exact zH (HK.out.drew.dropL 3)
  refine stk 0 27 rfl ?_
  refine stk 1 28 rfl ?_ (fun w hSw => kexec_vv hSw 0 _ (by rfl) (by rfl) (by rfl))
  refine stk 2 8 rfl ?_
  refine srd1 3 none rfl (fun K hK => ?_)
  refine step_sv (f2 := tf) HK0 2 (by rfl) _ _ (by rfl) (by rfl) (by rfl) (by rfl) ?_; intro wq HK'; simp only [List.set] at HK'; replace HK0 := HK'; clear HK'; have hs := zH ((HK0.out.dropL 3).takeR 0)
  refine hK.out _ _ hs (fun hHeld => ?_)
  clear hK K
  try simp only [ap1, ap2, ap3, ap4, ap5]
  refine stk 4 10 rfl ?_
  refine wpAnyH_done (by kernel_rfl) ?_ _
  all_goals
   go_wp2_with fail
   exact ret_pve Tryz.results75 rfl rfl rfl rfl (HK0.out.blk 2 rfl) (pver_same HK0.out.b)
 case pos =>
 by_cases hve : v = Dct.emp
 case pos =>
  obtain ⟨e1, e2, e3⟩ := Dct.sw_cut hr ho
  have HW := zH (fun W (hW : Below w.heap.size w W) => rwo_any A c n l key W (hs.later hW))
  rw [hve, e1, e2, e3]
  rw [ho] at HG
  clear e1 e2 e3 hr hs ho
  generalize Dct.gtE l key = X at *
  generalize Dct.wo l key = r at *
  have hne := zH (show (!decide (o = o)) = false by simp)
  have hve2 := zH (show (!decide ((⟨0, 0, 0, ⟨#[]⟩⟩ : Val.V) = ⟨0, 0, 0, ⟨#[]⟩⟩)) = false by simp)
  clear hve
  have hx2 : (X == 1) = false := by simpa using hnb
  obtain ⟨ok, om, of, os⟩ := o
  unfold IsVE IsL vv Dct.emp at *
  simp only at HG
  have HK := kn2 w 27 (vC ok om of os) 27 (vC 0 0 0 ⟨#[]⟩)
  unfold vC at HK
  go_enter Tryz.func75, Tryz.ntmps75
  go_wp2_with (first | (refine wpList_akv HK rfl rfl ?_; intro _ ga HK'; simp only [lcA, lnA] at HK'; replace HK := HK'; clear HK'))
  refine (HG.out _ HK.out.b).mono ?_; rintro e w1 ⟨rfl, b1⟩
  replace HK := hkC HK b1
  clear b1
  go_wp2_with (first | (refine wpList_akv HK rfl rfl ?_; intro _ gb HK'; simp only [lcA, lnA] at HK'; replace HK := HK'; clear HK') | (refine wpList_sv (f2 := of) HK 3 rfl _ _ rfl rfl rfl rfl ?_; intro _ HK'; simp only [List.set] at HK'; replace HK := HK'; clear HK') | refine wpList_of_exec (by rfl) (kexec_vv HK 3 _ (by rfl) (by rfl) (by rfl)) ?_ | refine wpList_of_exec (by rfl) (kexec_vv HK 0 _ (by rfl) (by rfl) (by rfl)) ?_ | refine wpList_of_exec (by rfl) (kexec_vv HK 1 _ (by rfl) (by rfl) (by rfl)) ?_ | refine wpList_of_exec (by rfl) (kexec_lc HK 3 _ (by rfl) 1 (by rfl) (by rfl) (v := .int .i64 0) (by rfl) Tryz.underlying3 rfl) ?_ | refine wpList_of_exec (by rfl) (exec_vne (v := ⟨ok, om, of, os⟩) (u := ⟨ok, om, of, os⟩) _ _ (by rfl) (by rfl) (by rfl) hne.out) ?_ | refine wpList_of_exec (by rfl) (exec_vne (v := ⟨0, 0, 0, ⟨#[]⟩⟩) (u := ⟨0, 0, 0, ⟨#[]⟩⟩) _ _ (by rfl) (by rfl) (by rfl) hve2.out) ?_)
  refine (HW.out _ HK.out.b).mono ?_; rintro e w3 ⟨A4, n4, c4, rfl, o4, b4⟩
  replace HK := zH (HK.out.called b4 o4)
  clear o4 b4
  go_wp2_with (first | (refine wpList_sv (f2 := 0) HK 2 rfl _ _ rfl rfl rfl rfl ?_; intro _ HK'; simp only [List.set] at HK'; replace HK := HK'; clear HK'))
  exact ret_pve Tryz.results75 rfl rfl rfl rfl (HK.out.blk 2 rfl) (pver_own (HK.out.own 0 rfl) HK.out.b)
 case neg =>
  obtain ⟨e1, e2, e3⟩ := Dct.sw_put hr ho hve
  by_cases hk0 : v.k = 0
  case pos =>
   have hpc : Dct.pchk key v = 1 := if_pos hk0
   obtain ⟨p1, p2⟩ := Dct.pt_chk hr (k := key) (v := v) (by rw [hpc]; decide)
   rw [e1, e2, e3, p1, p2, hpc]
   rw [ho] at HG
   clear e1 e2 e3 hr hs ho hv p1 p2 hpc
   generalize Dct.gtE l key = X at *
   have hne := zH (show (!decide (o = o)) = false by simp)
   have hve2 := zH (show (!decide (v = ⟨0, 0, 0, ⟨#[]⟩⟩)) = true by rw [show decide (v = ⟨0, 0, 0, ⟨#[]⟩⟩) = false from decide_eq_false hve]; rfl)
   clear hve
   have hx2 : (X == 1) = false := by simpa using hnb
   obtain ⟨ok, om, of, os⟩ := o
   obtain ⟨vk, vm, vf, vs⟩ := v
   unfold IsVE vv Dct.emp at *
   simp only at HG hk0
   subst hk0
   have HK := kn2 w 27 (vC ok om of os) 27 (vC 0 vm vf vs)
   unfold vC at HK
   go_enter Tryz.func75, Tryz.ntmps75
   go_wp2_with (first | (refine wpList_akv HK rfl rfl ?_; intro _ ga HK'; simp only [lcA, lnA] at HK'; replace HK := HK'; clear HK'))
   refine (HG.out _ HK.out.b).mono ?_; rintro e w1 ⟨rfl, b1⟩
   replace HK := hkC HK b1
   clear b1
   go_wp2_with (first | (refine wpList_akv HK rfl rfl ?_; intro _ gb HK'; simp only [lcA, lnA] at HK'; replace HK := HK'; clear HK') | (refine wpList_sv (f2 := of) HK 3 rfl _ _ rfl rfl rfl rfl ?_; intro _ HK'; simp only [List.set] at HK'; replace HK := HK'; clear HK') | refine wpList_of_exec (by rfl) (kexec_vv HK 3 _ (by rfl) (by rfl) (by rfl)) ?_ | refine wpList_of_exec (by rfl) (kexec_vv HK 0 _ (by rfl) (by rfl) (by rfl)) ?_ | refine wpList_of_exec (by rfl) (kexec_vv HK 1 _ (by rfl) (by rfl) (by rfl)) ?_ | refine wpList_of_exec (by rfl) (kexec_lc HK 3 _ (by rfl) 1 (by rfl) (by rfl) (v := .int .i64 0) (by rfl) Tryz.underlying3 rfl) ?_ | (refine wpList_sv (f2 := 0) HK 2 rfl _ _ rfl rfl rfl rfl ?_; intro _ HK'; simp only [List.set] at HK'; replace HK := HK'; clear HK') | refine wpList_of_exec (by rfl) (exec_vne (v := ⟨ok, om, of, os⟩) (u := ⟨ok, om, of, os⟩) _ _ (by rfl) (by rfl) (by rfl) hne.out) ?_ | refine wpList_of_exec (by rfl) (exec_vne (v := ⟨0, vm, vf, vs⟩) (u := ⟨0, 0, 0, ⟨#[]⟩⟩) _ _ (by rfl) (by rfl) (by rfl) hve2.out) ?_)
   exact ret_pve Tryz.results75 rfl rfl rfl rfl (HK.out.blk 2 rfl) (pver_same HK.out.b)
  case neg =>
   have HP := zH (fun W (hW : Below w.heap.size w W) => rput_any A c n l key v W (hs.later hW) hv)
   rw [e1, e2, e3]
   rw [ho] at HG
   clear e1 e2 e3 hr hs ho hv
   generalize Dct.gtE l key = X at *
   generalize Dct.ptE l key v = y at *
   generalize Dct.ptL l key v = r at *
   have hne := zH (show (!decide (o = o)) = false by simp)
   clear hve
   have hx2 : (X == 1) = false := by simpa using hnb
   obtain ⟨ok, om, of, os⟩ := o
   obtain ⟨vk, vm, vf, vs⟩ := v
   unfold IsVE IsPEr vv Dct.emp at *
   simp only at HG HP hk0
   have hk02 : (vk == 0) = false := by simpa using hk0
   have HK := kn2 w 27 (vC ok om of os) 27 (vC vk vm vf vs)
   unfold vC at HK
   go_enter Tryz.func75, Tryz.ntmps75
   go_wp2_with (first | (refine wpList_akv HK rfl rfl ?_; intro _ ga HK'; simp only [lcA, lnA] at HK'; replace HK := HK'; clear HK'))
   refine (HG.out _ HK.out.b).mono ?_; rintro e w1 ⟨rfl, b1⟩
   replace HK := hkC HK b1
   clear b1
   go_wp2_with (first | (refine wpList_akv HK rfl rfl ?_; intro _ gb HK'; simp only [lcA, lnA] at HK'; replace HK := HK'; clear HK') | (refine wpList_sv (f2 := of) HK 3 rfl _ _ rfl rfl rfl rfl ?_; intro _ HK'; simp only [List.set] at HK'; replace HK := HK'; clear HK') | refine wpList_of_exec (by rfl) (kexec_vv HK 3 _ (by rfl) (by rfl) (by rfl)) ?_ | refine wpList_of_exec (by rfl) (kexec_vv HK 0 _ (by rfl) (by rfl) (by rfl)) ?_ | refine wpList_of_exec (by rfl) (kexec_vv HK 1 _ (by rfl) (by rfl) (by rfl)) ?_ | refine wpList_of_exec (by rfl) (kexec_lc HK 3 _ (by rfl) 1 (by rfl) (by rfl) (v := .int .i64 vk) (by rfl) Tryz.underlying3 rfl) ?_ | refine wpList_of_exec (by rfl) (exec_vne (v := ⟨ok, om, of, os⟩) (u := ⟨ok, om, of, os⟩) _ _ (by rfl) (by rfl) (by rfl) hne.out) ?_)
   refine (HP.out _ HK.out.b).mono ?_; rintro e w3 ⟨A4, n4, c4, rfl, o4, b4⟩
   rcases o4 with o4 | ⟨rfl, rfl, rfl, rfl⟩
   ·replace HK := zH (HK.out.called b4 o4)
    clear o4 b4
    go_wp2_with (first | (refine wpList_sv (f2 := 0) HK 2 rfl _ _ rfl rfl rfl rfl ?_; intro _ HK'; simp only [List.set] at HK'; replace HK := HK'; clear HK'))
    exact ret_pve Tryz.results75 rfl rfl rfl rfl (HK.out.blk 2 rfl) (pver_own (HK.out.own 0 rfl) HK.out.b)
   ·replace HK := hkC HK b4
    clear b4
    go_wp2_with (first | (refine wpList_sv (f2 := 0) HK 2 rfl _ _ rfl rfl rfl rfl ?_; intro _ HK'; simp only [List.set] at HK'; replace HK := HK'; clear HK'))
    exact ret_pve Tryz.results75 rfl rfl rfl rfl (HK.out.blk 2 rfl) (pver_same HK.out.b)
end Go.Proofs.YtpkodjllljnleaaGreat
namespace Go.Proofs.YtpkodjllljnleaaGreat
open Go.RowKit
def IsQPr (A : Option Addr) (n c : Nat) (l r : List Val.V) (x : Int) (w : World) (e : Ending) (w' : World) : Prop := ∃ A' n' c', e = .returned (.tuple #[.slice A' n' c', .int .i64 x]) ∧ OwnOr vaLay w.heap.size w' A n c l A' n' c' r ∧ Below w.heap.size w w'
def IsQVr (A : Option Addr) (n c : Nat) (l r : List Val.V) (v : Val.V) (x : Int) (w : World) (e : Ending) (w' : World) : Prop := ∃ A' n' c', e = .returned (.tuple #[.slice A' n' c', vv v, .int .i64 x]) ∧ OwnOr vaLay w.heap.size w' A n c l A' n' c' r ∧ Below w.heap.size w w'
theorem qpr_same {A : Option Addr} {n c : Nat} {l : List Val.V} {x : Int} {w w' : World} (hb : Below w.heap.size w w') : IsQPr A n c l l x w (.returned (.tuple #[.slice A n c, .int .i64 x])) w' := ⟨A, n, c, rfl, .inr ⟨rfl, rfl, rfl, rfl⟩, hb⟩
set_option maxRecDepth 100000 in
set_option maxHeartbeats 12800000 in
theorem rpush_any (N : Int) (A : Option Addr) (c n : Nat) (l : List Val.V) (v : Val.V) (w : World) (hs : Sls vaLay vF w A n c l) (hv : vF v) :
  Calls Tryz.prog 76 #[.int .i64 N, .slice A n c, vv v] w (IsQPr A n c l (Que.psL N l v) (Que.psE N l v) w) := by
 have HM := zH (fun W (hW : Below w.heap.size w W) => rqright_any N A c n l W (hs.later hW))
 have HC := zH (fun W => rcheck_any v W hv)
 have HS := zH hs
 have hlen := hs.len
 by_cases hr : Que.Right N l
 case neg =>
  rw [decide_eq_false hr] at HM
  obtain ⟨e1, e2⟩ := Que.ps_bad hr v
  rw [e1, e2]
  clear e1 e2 hr hs hv HC hlen
  obtain ⟨k, m, f, s⟩ := v
  unfold vv IsB at *
  simp only
  have HK := kn1 w 27 (vC k m f s)
  unfold vC at HK
  go_enter Tryz.func76, Tryz.ntmps76
  go_wp2_with fail
  refine (HM.out _ HK.out.b).mono ?_; rintro e w1 ⟨rfl, b1⟩
  replace HK := hkC HK b1; clear b1
  go_wp2_with fail
  exact ret_t2 Tryz.results76 rfl rfl rfl (qpr_same HK.out.b)
 case pos =>
 rw [decide_eq_true hr] at HM
 have h9 : n < 9 := by have h1 := hr.len; have h2 := hr.hi; omega
 by_cases hkind : v.k = 0
 ·have hz : ¬ Que.vchk v = 0 := by rw [Que.vchk_none hkind]; decide
  obtain ⟨e1, e2⟩ := Que.ps_chk hr hz
  rw [e1, e2, Que.vchk_none hkind]
  clear e1 e2 hr hs hv HC hlen hz
  obtain ⟨k, m, f, s⟩ := v
  obtain rfl : k = 0 := hkind
  unfold vv IsB at *
  simp only
  have HK := kn1 w 27 (vC 0 m f s)
  unfold vC at HK
  go_enter Tryz.func76, Tryz.ntmps76
  go_wp2_with fail
  refine (HM.out _ HK.out.b).mono ?_; rintro e w1 ⟨rfl, b1⟩
  replace HK := hkC HK b1; clear b1
  go_wp2_with (first | refine wpList_of_exec (by rfl) (kexec_lc HK 3 _ (by rfl) 0 (by rfl) (by rfl) (v := .int .i64 0) (by rfl) Tryz.underlying3 rfl) ?_)
  exact ret_t2 Tryz.results76 rfl rfl rfl (qpr_same HK.out.b)
 have hvc := Que.vchk_some hkind
 have HBad : Hid (¬ Val.chk v = 0 → Que.psE N l v = Val.chk v ∧ Que.psL N l v = l) := zH fun h => by
  rw [← hvc] at h ⊢
  exact Que.ps_chk hr h
 have HFull : Hid (Val.chk v = 0 → (n : Int) = N → Que.psE N l v = 6 ∧ Que.psL N l v = l) := zH fun h h8 => Que.ps_full hr (hvc.trans h) (by rw [hlen]; exact h8)
 have HOk : Hid (Val.chk v = 0 → ¬ (n : Int) = N → Que.psE N l v = 0 ∧ Que.psL N l v = l ++ [v]) := zH fun h h8 => Que.ps_ok hr (hvc.trans h) (by rw [hlen]; exact h8)
 have HLn := zH hlen.symm
 have HN1 : Hid ((([] : List Val.V) ++ l).length = n) := zH (by rw [lnA]; exact hlen)
 have HN2 : Hid ((l ++ [v]).length = n + 1) := zH (by rw [List.length_append, hlen]; rfl)
 have HG1 := grow_ok (La := vaLay) HN1 (by show n * 40 ≤ _; omega) (by omega)
 have HG2 := grow_ok (La := vaLay) HN2 (by show (n + 1) * 40 ≤ _; omega) (by omega)
 clear hs hv hlen hvc hr
 generalize Que.psE N l v = X at *
 generalize Que.psL N l v = r at *
 generalize Val.chk v = z at *
 obtain ⟨k, m, f, s⟩ := v
 have hkind2 : (k == 0) = false := by simpa using hkind
 unfold vv IsE IsB at *
 simp only at HC ⊢
 clear hkind
 have HK := kn1 w 27 (vC k m f s)
 unfold vC at HK
 go_enter Tryz.func76, Tryz.ntmps76
 go_wp2_with fail
 refine (HM.out _ HK.out.b).mono ?_; rintro e w1 ⟨rfl, b1⟩
 replace HK := hkC HK b1; clear b1
 go_wp2_with (first | refine wpList_of_exec (by rfl) (kexec_lc HK 3 _ (by rfl) 0 (by rfl) (by rfl) (v := .int .i64 k) (by rfl) Tryz.underlying3 rfl) ?_ | refine wpList_of_exec (by rfl) (kexec_vv HK 0 _ (by rfl) (by rfl) (by rfl)) ?_)
 refine (HC.out _).mono ?_; rintro e w1 ⟨rfl, b1⟩
 replace HK := hkC HK b1; clear b1
 by_cases hz : z = 0
 case neg =>
  obtain ⟨rfl, rfl⟩ := HBad.out hz
  have hz2 : (X != 0) = true := by simpa using hz
  clear HBad HFull HOk
  go_wp2_with fail
  exact ret_t2 Tryz.results76 rfl rfl rfl (qpr_same HK.out.b)
 case pos =>
 subst hz
 replace HFull := zH (HFull.out rfl)
 replace HOk := zH (HOk.out rfl)
 clear HBad
 by_cases h8 : (n : Int) = N
 ·have h82 : ((n : Int) == N) = true := by simpa using h8
  obtain ⟨rfl, rfl⟩ := HFull.out h8
  clear h8 HFull HOk
  go_wp2_with fail
  exact ret_t2 Tryz.results76 rfl rfl rfl (qpr_same HK.out.b)
 ·have h82 : ((n : Int) == N) = false := by simpa using h8
  obtain ⟨rfl, rfl⟩ := HOk.out h8
  clear h8 HFull HOk HM HC
  go_wp2_with fail
  have HK0 := zH HK.out.drew
  refine wp_region_held_drew (S := (fun W => Hid (Kn w.heap.size w W [(w.heap.size, 27, vC k m f s)] []))) (by kernel_rfl) ?_ (fun hHeld => ?_)
  ·(try dsimp only); exact zH HK.out.drew
  refine stk 1 31 rfl ?_
  refine stk 3 33 rfl ?_ (fun w hSw => kexec_vv hSw 0 _ (by rfl) (by rfl) (by rfl))
  refine srd2 0 (some 30) 4 (some 34) rfl rfl (fun K hK => ?_) (fun K hK => ?_)
  refine step_mk0 vaLay HK0 (by rfl) (by rfl) ?_; intro w2 g2 HK' _; simp only [lcA, lnA] at HK'; replace HK0 := HK'; clear HK'; have hs := zH (HK0.out.takeR 0)
  refine hK.out _ _ hs (fun hHeld => ?_)
  clear hK K
  try simp only [ap1, ap2, ap3, ap4, ap5]
  refine srd2 2 (some 32) 4 (some 34) rfl rfl (fun K hK => ?_) (fun K hK => ?_)
  (first | refine step_more2 vaLay HK0 0 (by rfl) _ _ (by rfl) (by rfl) (by rfl) l (by rfl) HLn.out (zH (let h := HS.out.later HK0.out.b; And.intro h.rd h.nl)) HG1 (N := n) HN1 ?_ | refine step_more2 vaLay HK0 1 (by rfl) _ _ (by rfl) (by rfl) (by rfl) l (by rfl) HLn.out (zH (let h := HS.out.later HK0.out.b; And.intro h.rd h.nl)) HG1 (N := n) HN1 ?_); intro A4 c4 w4 HK'; simp only [List.set, lnA] at HK'; replace HK0 := HK'; clear HK'; have hs := zH (HK0.out.takeR 0)
  refine hK.out _ _ hs (fun hHeld => ?_)
  clear hK K
  try simp only [ap1, ap2, ap3, ap4, ap5]
  refine srd1 4 (some 34) rfl (fun K hK => ?_)
  refine step_mk1 vaLay (p := ⟨k, m, f, s⟩) HK0 (by decide) (by rfl) _ (by rfl) (by rfl) (by rfl) ?_; intro w5 g5 HK' _; simp only [lcA, lnA] at HK'; replace HK0 := HK'; clear HK'; have hs := zH (HK0.out.takeR 0)
  refine hK.out _ _ hs (fun hHeld => ?_)
  clear hK K
  try simp only [ap1, ap2, ap3, ap4, ap5]
  refine srd1 5 (some 35) rfl (fun K hK => ?_)
  (first | refine step_more2 vaLay HK0 0 (by rfl) _ _ (by rfl) (by rfl) (by rfl) [⟨k, m, f, s⟩] (by rfl) (by rfl) (zH (HK0.out.own 1 rfl).rd) HG2 (N := n + 1) HN2 ?_ | refine step_more2 vaLay HK0 1 (by rfl) _ _ (by rfl) (by rfl) (by rfl) [⟨k, m, f, s⟩] (by rfl) (by rfl) (zH (HK0.out.own 0 rfl).rd) HG2 (N := n + 1) HN2 ?_); intro A6 c6 w6 HK'; simp only [List.set] at HK'; replace HK0 := HK'; clear HK'; have hs := zH (HK0.out.takeR 0)
  refine hK.out _ _ hs (fun hHeld => ?_)
  clear hK K
  try simp only [ap1, ap2, ap3, ap4, ap5]
  refine stk 6 6 rfl ?_
  refine stk 7 7 rfl ?_
  refine wpAnyH_done (by kernel_rfl) ?_ _
  rotate_left
  refine step_mk1 vaLay (p := ⟨k, m, f, s⟩) HK0 (by decide) (by rfl) _ (by rfl) (by rfl) (by rfl) ?_; intro w5 g5 HK' _; simp only [lcA, lnA] at HK'; replace HK0 := HK'; clear HK'; have hs := zH (HK0.out.takeR 0)
  refine hK.out _ _ hs (fun hHeld => ?_)
  clear hK K
  try simp only [ap1, ap2, ap3, ap4, ap5]
  refine srd1 2 (some 32) rfl (fun K hK => ?_)
  (first | refine step_more2 vaLay HK0 0 (by rfl) _ _ (by rfl) (by rfl) (by rfl) l (by rfl) HLn.out (zH (let h := HS.out.later HK0.out.b; And.intro h.rd h.nl)) HG1 (N := n) HN1 ?_ | refine step_more2 vaLay HK0 1 (by rfl) _ _ (by rfl) (by rfl) (by rfl) l (by rfl) HLn.out (zH (let h := HS.out.later HK0.out.b; And.intro h.rd h.nl)) HG1 (N := n) HN1 ?_); intro A4 c4 w4 HK'; simp only [List.set, lnA] at HK'; replace HK0 := HK'; clear HK'; have hs := zH (HK0.out.takeR 0)
  refine hK.out _ _ hs (fun hHeld => ?_)
  clear hK K
  try simp only [ap1, ap2, ap3, ap4, ap5]
  refine srd1 5 (some 35) rfl (fun K hK => ?_)
  (first | refine step_more2 vaLay HK0 0 (by rfl) _ _ (by rfl) (by rfl) (by rfl) [⟨k, m, f, s⟩] (by rfl) (by rfl) (zH (HK0.out.own 1 rfl).rd) HG2 (N := n + 1) HN2 ?_ | refine step_more2 vaLay HK0 1 (by rfl) _ _ (by rfl) (by rfl) (by rfl) [⟨k, m, f, s⟩] (by rfl) (by rfl) (zH (HK0.out.own 0 rfl).rd) HG2 (N := n + 1) HN2 ?_); intro A6 c6 w6 HK'; simp only [List.set] at HK'; replace HK0 := HK'; clear HK'; have hs := zH (HK0.out.takeR 0)
  refine hK.out _ _ hs (fun hHeld => ?_)
  clear hK K
  try simp only [ap1, ap2, ap3, ap4, ap5]
  refine stk 6 6 rfl ?_
  refine stk 7 7 rfl ?_
  refine wpAnyH_done (by kernel_rfl) ?_ _
  rotate_left
  refine step_mk1 vaLay (p := ⟨k, m, f, s⟩) HK0 (by decide) (by rfl) _ (by rfl) (by rfl) (by rfl) ?_; intro w5 g5 HK' _; simp only [lcA, lnA] at HK'; replace HK0 := HK'; clear HK'; have hs := zH (HK0.out.takeR 0)
  refine hK.out _ _ hs (fun hHeld => ?_)
  clear hK K
  try simp only [ap1, ap2, ap3, ap4, ap5]
  refine srd1 0 (some 30) rfl (fun K hK => ?_)
  refine step_mk0 vaLay HK0 (by rfl) (by rfl) ?_; intro w2 g2 HK' _; simp only [lcA, lnA] at HK'; replace HK0 := HK'; clear HK'; have hs := zH (HK0.out.takeR 0)
  refine hK.out _ _ hs (fun hHeld => ?_)
  clear hK K
  try simp only [ap1, ap2, ap3, ap4, ap5]
  refine srd1 2 (some 32) rfl (fun K hK => ?_)
  (first | refine step_more2 vaLay HK0 0 (by rfl) _ _ (by rfl) (by rfl) (by rfl) l (by rfl) HLn.out (zH (let h := HS.out.later HK0.out.b; And.intro h.rd h.nl)) HG1 (N := n) HN1 ?_ | refine step_more2 vaLay HK0 1 (by rfl) _ _ (by rfl) (by rfl) (by rfl) l (by rfl) HLn.out (zH (let h := HS.out.later HK0.out.b; And.intro h.rd h.nl)) HG1 (N := n) HN1 ?_); intro A4 c4 w4 HK'; simp only [List.set, lnA] at HK'; replace HK0 := HK'; clear HK'; have hs := zH (HK0.out.takeR 0)
  refine hK.out _ _ hs (fun hHeld => ?_)
  clear hK K
  try simp only [ap1, ap2, ap3, ap4, ap5]
  refine srd1 5 (some 35) rfl (fun K hK => ?_)
  (first | refine step_more2 vaLay HK0 0 (by rfl) _ _ (by rfl) (by rfl) (by rfl) [⟨k, m, f, s⟩] (by rfl) (by rfl) (zH (HK0.out.own 1 rfl).rd) HG2 (N := n + 1) HN2 ?_ | refine step_more2 vaLay HK0 1 (by rfl) _ _ (by rfl) (by rfl) (by rfl) [⟨k, m, f, s⟩] (by rfl) (by rfl) (zH (HK0.out.own 0 rfl).rd) HG2 (N := n + 1) HN2 ?_); intro A6 c6 w6 HK'; simp only [List.set] at HK'; replace HK0 := HK'; clear HK'; have hs := zH (HK0.out.takeR 0)
  refine hK.out _ _ hs (fun hHeld => ?_)
  clear hK K
  try simp only [ap1, ap2, ap3, ap4, ap5]
  refine stk 6 6 rfl ?_
  refine stk 7 7 rfl ?_
  refine wpAnyH_done (by kernel_rfl) ?_ _
  rotate_left
  all_goals
   go_wp2_with fail
   first
    | exact ret_t2 Tryz.results76 rfl rfl rfl ⟨A6, _, c6, rfl, .inl (HK0.out.own 0 rfl), HK0.out.b⟩
    | exact ret_t2 Tryz.results76 rfl rfl rfl ⟨A6, _, c6, rfl, .inl (HK0.out.own 1 rfl), HK0.out.b⟩
set_option maxRecDepth 100000 in
set_option maxHeartbeats 12800000 in
theorem rpop_any (N : Int) (A : Option Addr) (c n : Nat) (l : List Val.V) (w : World) (hs : Sls vaLay vF w A n c l) :
  Calls Tryz.prog 77 #[.int .i64 N, .slice A n c] w (IsQVr A n c l (Que.ppL N l) (Que.ppV N l) (Que.ppE N l) w) := by
 have HM := zH (fun W (hW : Below w.heap.size w W) => rqright_any N A c n l W (hs.later hW))
 have hlen := hs.len
 have HK := zH (Kn.start w)
 by_cases hr : Que.Right N l
 case neg =>
  rw [decide_eq_false hr] at HM
  obtain ⟨e1, e2, e3⟩ := Que.pp_bad hr
  rw [e1, e2, e3]
  clear e1 e2 e3 hr hs hlen
  unfold Que.emp IsQVr IsB vv at *
  simp only
  go_enter Tryz.func77, Tryz.ntmps77
  go_wp2_with (first | (refine wpList_akv HK rfl rfl ?_; intro _ g1 HK'; simp only [lcA, lnA] at HK'; replace HK := HK'; clear HK'))
  refine (HM.out _ HK.out.b).mono ?_; rintro e w1 ⟨rfl, b1⟩
  replace HK := hkC HK b1; clear b1
  go_wp2_with (first | (refine wpList_sv (f2 := 0) HK 0 rfl _ _ rfl rfl rfl rfl ?_; intro _ HK'; simp only [List.set] at HK'; replace HK := HK'; clear HK'))
  exact ret_pve Tryz.results77 rfl rfl rfl rfl (HK.out.blk 0 rfl) ⟨A, n, c, rfl, .inr ⟨rfl, rfl, rfl, rfl⟩, HK.out.b⟩
 case pos =>
 rw [decide_eq_true hr] at HM
 have h9 : n < 9 := by have h1 := hr.len; have h2 := hr.hi; omega
 by_cases h0 : n = 0
 ·subst h0
  obtain ⟨e1, e2, e3⟩ := Que.pp_none hr hlen
  have hl0 : l = [] := List.length_eq_zero_iff.1 hlen
  rw [e1, e2, e3]
  subst hl0
  clear e1 e2 e3 hr hs hlen h9
  unfold Que.emp IsQVr IsB vv at *
  simp only
  go_enter Tryz.func77, Tryz.ntmps77
  go_wp2_with (first | (refine wpList_akv HK rfl rfl ?_; intro _ g1 HK'; simp only [lcA, lnA] at HK'; replace HK := HK'; clear HK'))
  refine (HM.out _ HK.out.b).mono ?_; rintro e w1 ⟨rfl, b1⟩
  replace HK := hkC HK b1; clear b1
  go_wp2_with (first | (refine wpList_sv (f2 := 0) HK 0 rfl _ _ rfl rfl rfl rfl ?_; intro _ HK'; simp only [List.set] at HK'; replace HK := HK'; clear HK'))
  exact ret_pve Tryz.results77 rfl rfl rfl rfl (HK.out.blk 0 rfl) ⟨A, 0, c, rfl, .inr ⟨rfl, rfl, rfl, rfl⟩, HK.out.b⟩
 ·have hpos : 0 < n := by omega
  obtain ⟨x, hx, hf⟩ := hs.get hpos
  obtain ⟨b, o, rfl, hat⟩ := hs.at hpos
  obtain ⟨e1, e2, e3⟩ := Que.pp_ok hr hx
  rw [e1, e2, e3]
  have HX := zH (fun W hW => hat W hW 0 x hx)
  have HD := zH (hs.drop (lo := 1) hpos)
  have HLn := zH HD.out.len.symm
  have HN1 : Hid ((([] : List Val.V) ++ l.drop 1).length = n - 1) := zH (by rw [lnA]; exact HD.out.len)
  have HG1 := grow_ok (La := vaLay) HN1 (by show (n - 1) * 40 ≤ _; omega) (by omega)
  have hz : ((n : Int) == 0) = false := by simp; omega
  clear e1 e2 e3 hr hs hlen h9 h0 hat hx hf
  obtain ⟨k, m, f, s⟩ := x
  unfold IsQVr IsB vv at *
  simp only
  go_enter Tryz.func77, Tryz.ntmps77
  go_wp2_with (first | (refine wpList_akv HK rfl rfl ?_; intro _ g1 HK'; simp only [lcA, lnA] at HK'; replace HK := HK'; clear HK'))
  refine (HM.out _ HK.out.b).mono ?_; rintro e w1 ⟨rfl, b1⟩
  replace HK := hkC HK b1; clear b1
  go_wp2_with fail
  have HK0 := zH HK.out.drew
  clear HM
  refine wp_region_held_drew (S := (fun W => Hid (Below w.heap.size w W))) (by kernel_rfl) ?_ (fun hHeld => ?_)
  ·(try dsimp only); exact zH HK0.out.b
  refine stk 1 19 rfl ?_
  refine stk 2 20 rfl ?_ (fun w hSw => exec_svl (lo := 1) _ _ (by rfl) (by rfl) (by rfl) hpos)
  refine stk 4 22 rfl ?_
  refine stk 5 23 rfl ?_ (fun w hSw => exec_ixv (i := 0) _ _ (by rfl) (by rfl) (by rfl) hpos)
  refine stk 6 24 rfl ?_ (fun w hSw => exec_lva (off := o + 0 * 4) _ (by rfl) (by rfl) (HX.out _ hSw.out))
  refine srd1 0 (some 18) rfl (fun K hK => ?_)
  refine step_mk0 vaLay HK0 (by rfl) (by rfl) ?_; intro w2 g2 HK' _; simp only [lcA, lnA] at HK'; replace HK0 := HK'; clear HK'; have hs := zH HK0.out.b
  refine hK.out _ _ hs (fun hHeld => ?_)
  clear hK K
  try simp only [ap1, ap2, ap3, ap4, ap5]
  refine srd1 3 (some 21) rfl (fun K hK => ?_)
  refine step_more2 vaLay HK0 0 (by rfl) _ _ (by rfl) (by rfl) (by rfl) (l.drop 1) (by rfl) HLn.out (zH (let h := HD.out.later HK0.out.b; And.intro h.rd h.nl)) HG1 (N := n - 1) HN1 ?_; intro A4 c4 w4 HK'; simp only [List.set, lnA] at HK'; replace HK0 := HK'; clear HK'; have hs := zH HK0.out.b
  refine hK.out _ _ hs (fun hHeld => ?_)
  clear hK K
  try simp only [ap1, ap2, ap3, ap4, ap5]
  refine stk 7 4 rfl ?_
  refine srd1 8 none rfl (fun K hK => ?_)
  refine step_sv (f2 := f) HK0 0 (by rfl) _ _ (by rfl) (by rfl) (by rfl) (by rfl) ?_; intro wq HK'; simp only [List.set] at HK'; replace HK0 := HK'; clear HK'; have hs := zH HK0.out.b
  refine hK.out _ _ hs (fun hHeld => ?_)
  clear hK K
  try simp only [ap1, ap2, ap3, ap4, ap5]
  refine stk 9 6 rfl ?_
  refine wpAnyH_done (by kernel_rfl) ?_ _
  all_goals
   go_wp2_with fail
   exact ret_pve Tryz.results77 rfl rfl rfl rfl (HK0.out.blk 0 rfl) ⟨A4, _, c4, rfl, .inl (HK0.out.own 0 rfl), HK0.out.b⟩
end Go.Proofs.YtpkodjllljnleaaGreat
