/-
  What the document's Put returns.
  No condition but what the slice reads as, and that floats' bits fit 64.
-/
import Derived.Test.YtikfjimdkbmjhaaDictRef
import Derived.Test.YtikfjimdkbmjhaaDictCut
set_option linter.unusedSimpArgs false
set_option linter.unusedVariables false
namespace Go.Proofs.Ytikfjimdkbmjhaa
open Go.RowKit

/-- A slice told, new or the one that was handed in, and an error. -/
def IsPEr (A : Option Addr) (n c : Nat) (l r : List Dct.Pr) (x : Int) (w : World) (e : Ending) (w' : World) : Prop := ∃ A' n' c', e = .returned (.tuple #[.slice A' n' c', .int .i64 x]) ∧ (prLay.Own w.heap.size w' (.slice A' n' c') r ∨ (A' = A ∧ n' = n ∧ c' = c ∧ r = l)) ∧ Below w.heap.size w w'
theorem per_same {A : Option Addr} {n c : Nat} {l : List Dct.Pr} {x : Int} {w w' : World} (hb : Below w.heap.size w w') : IsPEr A n c l l x w (.returned (.tuple #[.slice A n c, .int .i64 x])) w' := ⟨A, n, c, rfl, .inr ⟨rfl, rfl, rfl, rfl⟩, hb⟩
theorem per_own {A A' : Option Addr} {n c n' c' : Nat} {l r r' : List Dct.Pr} {x : Int} {w w' : World} (ho : prLay.Own w.heap.size w' (.slice A' n' c') r') (he : r' = r) (hb : Below w.heap.size w w') : IsPEr A n c l r x w (.returned (.tuple #[.slice A' n' c', .int .i64 x])) w' := ⟨A', n', c', rfl, .inl (he ▸ ho), hb⟩
set_option maxRecDepth 100000 in
set_option maxHeartbeats 12800000 in
theorem rput_any (A : Option Addr) (c n : Nat) (l : List Dct.Pr) (key : ByteArray) (v : Val.V) (w : World) (hs : Sl w A n c l) (hv : v.f < 18446744073709551616) :
    Calls Try.prog 11 #[.slice A n c, .string key, vv v] w (IsPEr A n c l (Dct.ptL l key v) (Dct.ptE l key v) w) := by
  have HM := Lib.hid (fun W (hW : Below w.heap.size w W) => rright_any A c n l W (hs.later hW))
  have HC := Lib.hid (fun W => rcheck_any v W hv)
  have HW := Lib.hid (fun W (hW : Below w.heap.size w W) => rwo_any A c n l key W (hs.later hW))
  by_cases hr : Dct.Right l
  case neg =>
    obtain ⟨e1, e2⟩ := Dct.pt_bad hr key v
    rw [decide_eq_false hr] at HM
    rw [e1, e2]
    clear e1 e2 hr hs hv HC HW
    obtain ⟨k, m, f, s⟩ := v
    unfold vv IsB at *
    simp only
    have HK := kn1 w 25 (vC k m f s)
    unfold vC at HK
    go_enter Try.func11, Try.ntmps11
    go_wp2_with fail
    refine (HM.out _ HK.out.b).mono ?_; rintro e w1 ⟨rfl, b1⟩
    replace HK := Lib.hid (HK.out.call b1)
    clear b1
    go_wp2_with fail
    exact ret_t2 Try.results11 rfl rfl rfl (per_same HK.out.b)
  case pos =>
  rw [decide_eq_true hr] at HM
  have HBad : Hid (∀ x, Dct.pchk key v = x → ¬ x = 0 → Dct.ptE l key v = x ∧ Dct.ptL l key v = l) := Lib.hid fun x hx h => by
    subst hx
    exact Dct.pt_chk hr h
  have HOk : Hid (Dct.pchk key v = 0 → ((Dct.wo l key).length = 8 → Dct.ptE l key v = 6 ∧ Dct.ptL l key v = l) ∧ (¬ (Dct.wo l key).length = 8 → Dct.ptE l key v = 0 ∧ Dct.ptL l key v = (Dct.wo l key).take (Dct.idx (Dct.wo l key) key) ++ [⟨key, v⟩] ++ (Dct.wo l key).drop (Dct.idx (Dct.wo l key) key))) := Lib.hid fun h => by
    have h8 := (Dct.wo_right hr key).len
    refine ⟨fun h2 => Dct.pt_full hr h (by omega), fun h2 => ?_⟩
    rw [Dct.ins_wo hr.up]
    exact Dct.pt_ok hr h (by omega)
  have HFL : Hid (Fit (Dct.wo l key)) := Lib.hid (hs.fit.wo key)
  have HPc : Hid (Dct.pchk key v = if v.k = 0 then 1 else if 64 < key.size then 2 else Val.chk v) := Lib.hid rfl
  have hl8 := (Dct.wo_right hr key).len
  have hple := Dct.idx_le (Dct.wo l key) key
  have HB : Hid (∀ k x, k < Dct.idx (Dct.wo l key) key → (Dct.wo l key)[k]? = some x → Dct.lt x.key key = true) := Lib.hid fun k x hk hx => Dct.idx_lt hk hx
  have HA : Hid (∀ x, (Dct.wo l key)[Dct.idx (Dct.wo l key) key]? = some x → Dct.lt x.key key = false) := Lib.hid fun x hx => Dct.idx_at hx
  clear hr hs hv
  generalize Dct.ptE l key v = X at *
  generalize Dct.ptL l key v = r at *
  generalize Dct.wo l key = left at *
  generalize Dct.idx left key = p at *
  generalize Dct.pchk key v = z at *
  generalize Val.chk v = zc at *
  obtain ⟨k, m, f, s⟩ := v
  unfold vv IsE IsB IsL at *
  simp only at HC HPc ⊢
  have HK := kn1 w 25 (vC k m f s)
  unfold vC at HK
  go_enter Try.func11, Try.ntmps11
  go_wp2_with fail
  refine (HM.out _ HK.out.b).mono ?_; rintro e w1 ⟨rfl, b1⟩
  replace HK := Lib.hid (HK.out.call b1)
  clear b1
  by_cases hk : k = 0
  · have hz := HPc.out
    rw [if_pos hk] at hz
    obtain ⟨rfl, rfl⟩ := HBad.out 1 hz (by decide)
    clear HBad HOk HPc hz
    subst hk
    go_wp2_with (first | refine wpList_of_exec (by rfl) (kexec_lc HK 3 _ (by rfl) 0 (by rfl) (by rfl) (v := .int .i64 0) (by rfl) Try.underlying3 rfl) ?_)
    exact ret_t2 Try.results11 rfl rfl rfl (per_same HK.out.b)
  have hz := HPc.out
  rw [if_neg hk] at hz
  clear HPc
  have hk2 : (k == 0) = false := by simpa using hk
  by_cases h64 : 64 < key.size
  · rw [if_pos h64] at hz
    obtain ⟨rfl, rfl⟩ := HBad.out 2 hz (by decide)
    have h642 : 64 < (key.size : Int) := by omega
    clear HBad HOk hz
    go_wp2_with (first | refine wpList_of_exec (by rfl) (kexec_lc HK 3 _ (by rfl) 0 (by rfl) (by rfl) (v := .int .i64 k) (by rfl) Try.underlying3 rfl) ?_)
    exact ret_t2 Try.results11 rfl rfl rfl (per_same HK.out.b)
  have h642 : ¬ 64 < (key.size : Int) := by omega
  rw [if_neg h64] at hz
  go_wp2_with (first | refine wpList_of_exec (by rfl) (kexec_lc HK 3 _ (by rfl) 0 (by rfl) (by rfl) (v := .int .i64 k) (by rfl) Try.underlying3 rfl) ?_ | refine wpList_of_exec (by rfl) (kexec_vv HK 0 _ (by rfl) (by rfl) (by rfl)) ?_)
  refine (HC.out _).mono ?_; rintro e w1 ⟨rfl, b1⟩
  replace HK := Lib.hid (HK.out.call b1)
  clear b1 HC
  by_cases hzc : zc = 0
  case neg =>
    obtain ⟨rfl, rfl⟩ := HBad.out _ hz hzc
    have hz2 : (X != 0) = true := by simpa using hzc
    clear HBad HOk hz
    go_wp2_with fail
    exact ret_t2 Try.results11 rfl rfl rfl (per_same HK.out.b)
  case pos =>
  obtain ⟨hfull, hok⟩ := HOk.out (hz.trans hzc)
  subst hzc
  clear HBad HOk hz HM
  go_wp2_with fail
  refine (HW.out _ HK.out.b).mono ?_; rintro e w1 ⟨AL, nL, cL, rfl, oL, b1⟩
  replace HK := Lib.hid (HK.out.called b1 oL)
  have hnL := (Lay.Own.reads oL).1
  simp only [List.nil_append] at HK
  clear b1 oL HW
  rw [← hnL] at hfull hok hple hl8
  have HNL := Lib.hid hnL
  clear hnL
  by_cases h8 : nL = 8
  · obtain ⟨rfl, rfl⟩ := hfull h8
    subst h8
    clear hok hfull
    go_wp2_with fail
    exact ret_t2 Try.results11 rfl rfl rfl (per_same HK.out.b)
  obtain ⟨rfl, rfl⟩ := hok h8
  have h82 : ((nL : Int) == 8) = false := by simp; omega
  clear hok hfull
  have HTk : Hid (∀ k, k ≤ p → (left.take k).length = k) := Lib.hid fun k hk => by rw [List.length_take, ← HNL.out]; omega
  have HG : Hid (∀ k, k < nL → ∃ x, left[k]? = some x) := Lib.hid fun k hk => Lay.get_of (l := left) (k := k) (by rw [← HNL.out]; exact hk)
  replace HK := Lib.hid (HK.out.nilR prLay)
  simp only [List.cons_append, List.nil_append] at HK
  go_wp2_with fail
  go_loopw [10, 11] (fun vs vi wr => ∃ (q : Nat) (A1 : Option Addr) (c1 : Nat), q ≤ p ∧ vs = .slice A1 q c1 ∧ vi = .int .i64 q ∧ Hid (Kn w.heap.size w wr [(w.heap.size, 25, #[.int .i64 k, .int .i64 m, .int .u64 (f : Int), .string s])] [row prLay (.slice AL nL cL) left, row prLay (.slice A1 q c1) (left.take q)])) (fun _ vi _ => p + 1 - (intOf vi).toNat)
  case atStart => exact ⟨0, _, _, Nat.zero_le _, rfl, rfl, HK⟩
  case round =>
    clear HK
    obtain ⟨q, A1, c1, hq, rfl, rfl, HK⟩ := hrel
    have hq1 : (0 : Int) ≤ (q : Int) := by omega
    have HSl := Lib.hid (Sl.own (HK.out.own 0 rfl) HFL.out)
    by_cases hlt : q < p
    · have hqn : q < nL := by omega
      have hq2 : (q : Int) < (nL : Int) := by omega
      have hq3 : q < 9223372036854775807 := by omega
      obtain ⟨x, hx⟩ := HG.out q hqn
      obtain ⟨b, o, rfl, hat⟩ := HSl.out.at (Nat.lt_of_le_of_lt (Nat.zero_le _) hqn)
      have HX := Lib.hid (hat wr (Below.refl _ wr) q x hx)
      have HLt := Lib.hid (HB.out q x hlt hx)
      have HE := Lib.hid (Lay.take_succ hx)
      have hln := HTk.out q hq
      have HL : Hid ((left.take q).length + [x].length ≤ 9223372036854775807 ∧ ((left.take q).length + [x].length) * prLay.bytes ≤ 211106232532992) := Lib.hid (by
        rw [hln]
        show q + 1 ≤ _ ∧ (q + 1) * 56 ≤ _
        omega)
      have HN2 : Hid ((left.take q ++ [x]).length = q + 1) := Lib.hid (by rw [List.length_append, hln]; rfl)
      clear hat hx hln HSl HA
      go_wp2_with (first | refine wpList_of_exec (by rfl) (exec_lpk (off := o + q * 5) _ (by rfl) (by rfl) HX.out) ?_ | refine wpList_of_exec (by rfl) (exec_slt _ _ (by rfl) (by rfl) (by rfl) HLt.out) ?_ | refine wpList_of_exec (by rfl) (exec_add1 (j := q) _ (by rfl) (by rfl) hq3) ?_ | refine wpList_of_exec (v := .agg (prA x)) (by rfl) (exec_lpr (off := o + q * 5) _ (by rfl) (by rfl) HX.out) ?_ | (refine wpList_mp1 (p := x) HK rfl _ rfl rfl ?_; intro w2 g2 HK'; simp only [List.cons_append, List.nil_append] at HK'; have HR := Lib.hid (own_rd (HK'.out.own 2 rfl)); replace HK := HK'; clear HK') | (at_builtin; refine wpList_kmore HK prLay 1 rfl _ _ rfl rfl rfl [x] rfl rfl HR HL (N := q + 1) HN2 ?_; intro A4 c4 _ HK'; simp only [List.set] at HK'; replace HK := HK'; clear HK'))
      exact ⟨⟨q + 1, A4, c4, hlt, rfl, rfl, by rw [HE.out]; exact Lib.hid (HK.out.takeR 2)⟩, by simp [intOf]; omega⟩
    · obtain rfl : q = p := by omega
      have hpn : q ≤ nL := hple
      have hln := HTk.out q hq
      have hld : (left.drop q).take (nL - q) = left.drop q := List.take_of_length_le (by rw [List.length_drop, ← HNL.out]; exact Nat.le_refl _)
      have hld2 : (left.drop q).length = nL - q := by rw [List.length_drop, ← HNL.out]
      have HL1 : Hid ((left.take q).length + [(⟨key, ⟨k, m, f, s⟩⟩ : Dct.Pr)].length ≤ 9223372036854775807 ∧ ((left.take q).length + [(⟨key, ⟨k, m, f, s⟩⟩ : Dct.Pr)].length) * prLay.bytes ≤ 211106232532992) := Lib.hid (by
        rw [hln]
        show q + 1 ≤ _ ∧ (q + 1) * 56 ≤ _
        omega)
      have HN1 : Hid ((left.take q ++ [(⟨key, ⟨k, m, f, s⟩⟩ : Dct.Pr)]).length = q + 1) := Lib.hid (by rw [List.length_append, hln]; rfl)
      have HL2 : Hid ((left.take q ++ [(⟨key, ⟨k, m, f, s⟩⟩ : Dct.Pr)]).length + ((left.drop q).take (nL - q)).length ≤ 9223372036854775807 ∧ ((left.take q ++ [(⟨key, ⟨k, m, f, s⟩⟩ : Dct.Pr)]).length + ((left.drop q).take (nL - q)).length) * prLay.bytes ≤ 211106232532992) := Lib.hid (by
        rw [HN1.out, hld, hld2]
        show q + 1 + (nL - q) ≤ _ ∧ (q + 1 + (nL - q)) * 56 ≤ _
        omega)
      have HN3 : Hid ((left.take q ++ [(⟨key, ⟨k, m, f, s⟩⟩ : Dct.Pr)] ++ (left.drop q).take (nL - q)).length = q + 1 + (nL - q)) := Lib.hid (by rw [List.length_append, HN1.out, hld, hld2])
      have HLd := Lib.hid hld
      clear hln hld hld2
      by_cases hqn : q < nL
      · have hq2 : (q : Int) < (nL : Int) := by omega
        obtain ⟨x, hx⟩ := HG.out q hqn
        obtain ⟨b, o, rfl, hat⟩ := HSl.out.at (Nat.lt_of_le_of_lt (Nat.zero_le _) hqn)
        have HX := Lib.hid (hat wr (Below.refl _ wr) q x hx)
        have HLt := Lib.hid (HA.out x hx)
        clear hat hx HSl HB
        go_wp2_with (first | refine wpList_of_exec (by rfl) (exec_lpk (off := o + q * 5) _ (by rfl) (by rfl) HX.out) ?_ | refine wpList_of_exec (by rfl) (exec_slt _ _ (by rfl) (by rfl) (by rfl) HLt.out) ?_ | refine wpList_of_exec (by rfl) (kexec_vv HK 0 _ (by rfl) (by rfl) (by rfl)) ?_ | (refine wpList_mp1 (p := ⟨key, ⟨k, m, f, s⟩⟩) HK rfl _ rfl rfl ?_; intro w2 g2 HK'; simp only [List.cons_append, List.nil_append] at HK'; have HR := Lib.hid (own_rd (HK'.out.own 2 rfl)); replace HK := HK'; clear HK') | (at_builtin; refine wpList_kmore HK prLay 1 rfl _ _ rfl rfl rfl [⟨key, ⟨k, m, f, s⟩⟩] rfl rfl HR HL1 (N := q + 1) HN1 ?_; intro A4 c4 w4 HK'; simp only [List.set] at HK'; have HS2 := Lib.hid ((Sl.own (HK'.out.own 0 rfl) HFL.out).sub hpn (Nat.le_refl _)); have HR2 := Lib.hid (And.intro HS2.out.rd HS2.out.nl); replace HK := HK'; clear HK' HR) | refine wpList_of_exec (by rfl) (exec_sl_l (lo := q) _ _ (by rfl) (by rfl) (by rfl) hpn) ?_ | (at_builtin; refine wpList_kmore HK prLay 1 rfl _ _ rfl rfl rfl ((left.drop q).take (nL - q)) rfl HS2.out.len.symm HR2 HL2 (N := q + 1 + (nL - q)) HN3 ?_; intro A5 c5 w5 HK'; simp only [List.set] at HK'; replace HK := HK'; clear HK'))
        exact ret_t2 Try.results11 rfl rfl rfl (per_own (HK.out.own 1 rfl) (by rw [HLd.out] <;> simp) HK.out.b)
      · have hq2 : ¬ (q : Int) < (nL : Int) := by omega
        clear HSl HB
        go_wp2_with (first | refine wpList_of_exec (by rfl) (kexec_vv HK 0 _ (by rfl) (by rfl) (by rfl)) ?_ | (refine wpList_mp1 (p := ⟨key, ⟨k, m, f, s⟩⟩) HK rfl _ rfl rfl ?_; intro w2 g2 HK'; simp only [List.cons_append, List.nil_append] at HK'; have HR := Lib.hid (own_rd (HK'.out.own 2 rfl)); replace HK := HK'; clear HK') | (at_builtin; refine wpList_kmore HK prLay 1 rfl _ _ rfl rfl rfl [⟨key, ⟨k, m, f, s⟩⟩] rfl rfl HR HL1 (N := q + 1) HN1 ?_; intro A4 c4 w4 HK'; simp only [List.set] at HK'; have HS2 := Lib.hid ((Sl.own (HK'.out.own 0 rfl) HFL.out).sub hpn (Nat.le_refl _)); have HR2 := Lib.hid (And.intro HS2.out.rd HS2.out.nl); replace HK := HK'; clear HK' HR) | refine wpList_of_exec (by rfl) (exec_sl_l (lo := q) _ _ (by rfl) (by rfl) (by rfl) hpn) ?_ | (at_builtin; refine wpList_kmore HK prLay 1 rfl _ _ rfl rfl rfl ((left.drop q).take (nL - q)) rfl HS2.out.len.symm HR2 HL2 (N := q + 1 + (nL - q)) HN3 ?_; intro A5 c5 w5 HK'; simp only [List.set] at HK'; replace HK := HK'; clear HK'))
        exact ret_t2 Try.results11 rfl rfl rfl (per_own (HK.out.own 1 rfl) (by rw [HLd.out] <;> simp) HK.out.b)
end Go.Proofs.Ytikfjimdkbmjhaa
