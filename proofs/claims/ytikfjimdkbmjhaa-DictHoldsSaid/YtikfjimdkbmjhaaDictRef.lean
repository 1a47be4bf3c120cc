/-
  What the document's Get and without return.
  No condition but what the slice reads as.
-/
import Derived.Test.YtikfjimdkbmjhaaDictRRight
import Derived.Test.YtikfjimdkbmjhaaDictGet
set_option linter.unusedSimpArgs false
set_option linter.unusedVariables false
namespace Go.Proofs.Ytikfjimdkbmjhaa
open Go.RowKit

theorem own_rd {w : World} {b : Nat} {A : Option Addr} {n c : Nat} {l : List Dct.Pr} (h : prLay.Own b w (.slice A n c) l) : prLay.Reads w w.heap.size A l ∧ (A = none → l = []) := by
  have hr := h.reads
  refine ⟨hr.2, fun hA => ?_⟩
  subst hA
  rcases h.2 with ⟨_, h0⟩ | ⟨g, cap, cur, e, _⟩
  · exact List.length_eq_zero_iff.1 h0
  · cases e
set_option maxRecDepth 100000 in
set_option maxHeartbeats 6400000 in
theorem rget_any (A : Option Addr) (c n : Nat) (l : List Dct.Pr) (key : ByteArray) (w : World) (hs : Sl w A n c l) :
    Calls Try.prog 9 #[.slice A n c, .string key] w (IsVE (Dct.gtV l key) (Dct.gtE l key) w) := by
  have HM := Lib.hid (fun W (hW : Below w.heap.size w W) => rright_any A c n l W (hs.later hW))
  have HS := Lib.hid hs
  unfold IsVE IsB at *
  have HK := Lib.hid (Kn.start w)
  by_cases hr : Dct.Right l
  · rw [decide_eq_true hr] at HM
    have HG : Hid (∀ k, k < n → ∃ x, l[k]? = some x) := Lib.hid fun k hk => Lay.get_of (l := l) (k := k) (by rw [hs.len]; exact hk)
    have HEnd : Hid (l.drop n = []) := Lib.hid (List.drop_of_length_le (by rw [hs.len]; exact Nat.le_refl _))
    have HSome : Hid (∀ v, Dct.fnd l key = some v → Dct.gtV l key = v ∧ Dct.gtE l key = 0) := Lib.hid fun v hv => Dct.gt_some hr hv
    have HNone : Hid (Dct.fnd l key = none → Dct.gtV l key = Dct.emp ∧ Dct.gtE l key = 5) := Lib.hid fun hv => Dct.gt_none hr hv
    have hn63 : n < 9223372036854775807 := Nat.lt_of_le_of_lt hs.big (by decide)
    clear hr hs
    generalize Dct.gtV l key = V at *
    generalize Dct.gtE l key = X at *
    go_enter Try.func9, Try.ntmps9
    go_wp2_with (first | (refine wpList_akv HK rfl rfl ?_; intro _ g1 HK'; simp only [List.cons_append, List.nil_append] at HK'; replace HK := HK'; clear HK'))
    refine (HM.out _ HK.out.b).mono ?_; rintro e w1 ⟨rfl, b1⟩
    replace HK := Lib.hid (HK.out.call b1)
    clear b1 HM
    go_wp2_with fail
    go_loop [6] (fun vi => ∃ k : Nat, k ≤ n ∧ vi = .int .i64 k ∧ Hid (Dct.fnd l key = Dct.fnd (l.drop k) key)) (fun vi => n - (intOf vi).toNat)
    case atStart => exact ⟨0, Nat.zero_le _, rfl, Lib.hid rfl⟩
    case round =>
      obtain ⟨k, hk, rfl, HF⟩ := hrel
      have hk1 : (0 : Int) ≤ (k : Int) := by omega
      by_cases hlt : k < n
      · have hk2 : (k : Int) < (n : Int) := by omega
        have hk3 : k < 9223372036854775807 := by omega
        obtain ⟨x, hx⟩ := HG.out k hlt
        obtain ⟨b, o, rfl, hat⟩ := HS.out.at (Nat.lt_of_le_of_lt (Nat.zero_le _) hlt)
        have HX := Lib.hid (fun W hW => hat W hW k x hx)
        have HFx := Lib.hid (HF.out.trans (Dct.fnd_drop hx key))
        clear hat hx HF
        by_cases he : x.key = key
        · have hv := HFx.out
          rw [if_pos he] at hv
          obtain ⟨rfl, rfl⟩ := HSome.out _ hv
          have HE := Lib.hid (show decide (x.key = key) = true from decide_eq_true he)
          clear he hv HFx HNone HSome
          obtain ⟨xk, k', m, f, s⟩ := x
          simp only at HE
          go_wp2_with (first | refine wpList_of_exec (by rfl) (exec_lpk (off := o + k * 5) _ (by rfl) (by rfl) (HX.out _ HK.out.b)) ?_ | refine wpList_of_exec (by rfl) (exec_seq _ _ (by rfl) (by rfl) (by rfl) HE.out) ?_ | refine wpList_of_exec (by rfl) (exec_lpv (off := o + k * 5) _ (by rfl) (by rfl) rfl (HX.out _ HK.out.b)) ?_ | (refine wpList_sv (f2 := f) HK 0 rfl _ _ rfl rfl rfl rfl ?_; intro _ HK'; simp only [List.set] at HK'; replace HK := HK'; clear HK'))
          exact ret_ve Try.results9 rfl rfl rfl (HK.out.blk 0 rfl) ⟨rfl, HK.out.b⟩
        · have hv := HFx.out
          rw [if_neg he] at hv
          have HFn := Lib.hid hv
          have HE := Lib.hid (show decide (x.key = key) = false from decide_eq_false he)
          clear he hv HFx
          go_wp2_with (first | refine wpList_of_exec (by rfl) (exec_lpk (off := o + k * 5) _ (by rfl) (by rfl) (HX.out _ HK.out.b)) ?_ | refine wpList_of_exec (by rfl) (exec_seq _ _ (by rfl) (by rfl) (by rfl) HE.out) ?_ | refine wpList_of_exec (by rfl) (exec_add1 (j := k) _ (by rfl) (by rfl) hk3) ?_)
          exact ⟨⟨k + 1, hlt, rfl, HFn⟩, by simp [intOf]; omega⟩
      · obtain rfl : k = n := by omega
        have hv := HF.out
        rw [HEnd.out] at hv
        obtain ⟨rfl, rfl⟩ := HNone.out hv
        clear hv HSome HNone HF
        go_wp2_with (first | (refine wpList_sv (f2 := 0) HK 0 rfl _ _ rfl rfl rfl rfl ?_; intro _ HK'; simp only [List.set] at HK'; replace HK := HK'; clear HK'))
        exact ret_ve Try.results9 rfl rfl rfl (HK.out.blk 0 rfl) ⟨rfl, HK.out.b⟩
  · rw [decide_eq_false hr] at HM
    obtain ⟨e1, e2⟩ := Dct.gt_bad hr key
    rw [e1, e2]
    clear e1 e2 hr
    unfold Dct.emp vv
    simp only
    go_enter Try.func9, Try.ntmps9
    go_wp2_with (first | (refine wpList_akv HK rfl rfl ?_; intro _ g1 HK'; simp only [List.cons_append, List.nil_append] at HK'; replace HK := HK'; clear HK'))
    refine (HM.out _ HK.out.b).mono ?_; rintro e w1 ⟨rfl, b1⟩
    replace HK := Lib.hid (HK.out.call b1)
    clear b1
    go_wp2_with (first | (refine wpList_sv (f2 := 0) HK 0 rfl _ _ rfl rfl rfl rfl ?_; intro _ HK'; simp only [List.set] at HK'; replace HK := HK'; clear HK'))
    exact ret_ve Try.results9 rfl rfl rfl (HK.out.blk 0 rfl) ⟨rfl, HK.out.b⟩
set_option maxRecDepth 100000 in
set_option maxHeartbeats 6400000 in
theorem rwo_any (A : Option Addr) (c n : Nat) (l : List Dct.Pr) (key : ByteArray) (w : World) (hs : Sl w A n c l) :
    Calls Try.prog 26 #[.slice A n c, .string key] w (IsL (Dct.wo l key) w) := by
  have HS := Lib.hid hs
  have HG : Hid (∀ k, k < n → ∃ x, l[k]? = some x) := Lib.hid fun k hk => Lay.get_of (l := l) (k := k) (by rw [hs.len]; exact hk)
  have HTake : Hid (l.take n = l) := Lib.hid (List.take_of_length_le (by rw [hs.len]; exact Nat.le_refl _))
  have HLen : Hid (∀ k, (Dct.wo (l.take k) key).length ≤ 2513169434916) := Lib.hid fun k => by
    have h1 : (Dct.wo (l.take k) key).length ≤ (l.take k).length := List.length_filter_le _ _
    have h2 : (l.take k).length ≤ l.length := by rw [List.length_take]; omega
    have h3 := hs.big
    have h4 := hs.len
    omega
  have hn63 : n < 9223372036854775807 := Nat.lt_of_le_of_lt hs.big (by decide)
  clear hs
  have HK := Lib.hid ((Kn.start w).nilR prLay)
  simp only [List.nil_append] at HK
  go_enter Try.func26, Try.ntmps26
  go_wp2_with fail
  go_loopw [5, 6] (fun vs vi wr => ∃ (k : Nat) (A1 : Option Addr) (c1 N : Nat), k ≤ n ∧ vs = .slice A1 N c1 ∧ vi = .int .i64 k ∧ Hid ((Dct.wo (l.take k) key).length = N) ∧ Hid (Kn w.heap.size w wr [] [row prLay (.slice A1 N c1) (Dct.wo (l.take k) key)])) (fun _ vi _ => n - (intOf vi).toNat)
  case atStart => exact ⟨0, _, _, 0, Nat.zero_le _, rfl, rfl, Lib.hid rfl, HK⟩
  case round =>
    clear HK
    obtain ⟨k, A1, c1, N, hk, rfl, rfl, hN, HK⟩ := hrel
    have hk1 : (0 : Int) ≤ (k : Int) := by omega
    by_cases hlt : k < n
    · have hk2 : (k : Int) < (n : Int) := by omega
      have hk3 : k < 9223372036854775807 := by omega
      obtain ⟨x, hx⟩ := HG.out k hlt
      obtain ⟨b, o, rfl, hat⟩ := HS.out.at (Nat.lt_of_le_of_lt (Nat.zero_le _) hlt)
      have HX := Lib.hid (fun W hW => hat W hW k x hx)
      have HW := Lib.hid (Dct.wo_take_more hx key)
      have hlen := HLen.out k
      rw [hN.out] at hlen
      clear hat hx
      by_cases he : x.key = key
      · have hw := HW.out
        rw [if_pos he] at hw
        have HE := Lib.hid (show (!decide (x.key = key)) = false by rw [decide_eq_true he]; rfl)
        have HW2 := Lib.hid hw
        clear he hw HW
        go_wp2_with (first | refine wpList_of_exec (by rfl) (exec_lpk (off := o + k * 5) _ (by rfl) (by rfl) (HX.out _ HK.out.b)) ?_ | refine wpList_of_exec (by rfl) (exec_sne _ _ (by rfl) (by rfl) (by rfl) HE.out) ?_ | refine wpList_of_exec (by rfl) (exec_add1 (j := k) _ (by rfl) (by rfl) hk3) ?_)
        exact ⟨⟨k + 1, A1, c1, N, hlt, rfl, rfl, Lib.hid (by rw [HW2.out]; exact hN.out), by rw [HW2.out]; exact HK⟩, by simp [intOf]; omega⟩
      · have hw := HW.out
        rw [if_neg he] at hw
        have HE := Lib.hid (show (!decide (x.key = key)) = true by rw [decide_eq_false he]; rfl)
        have HW2 := Lib.hid hw
        have HL : Hid ((Dct.wo (l.take k) key).length + [x].length ≤ 9223372036854775807 ∧ ((Dct.wo (l.take k) key).length + [x].length) * prLay.bytes ≤ 211106232532992) := Lib.hid (by
          rw [hN.out]
          show N + 1 ≤ _ ∧ (N + 1) * 56 ≤ _
          omega)
        have HN2 : Hid ((Dct.wo (l.take k) key ++ [x]).length = N + 1) := Lib.hid (by rw [List.length_append, hN.out]; rfl)
        clear he hw HW
        go_wp2_with (first | refine wpList_of_exec (by rfl) (exec_lpk (off := o + k * 5) _ (by rfl) (by rfl) (HX.out _ HK.out.b)) ?_ | refine wpList_of_exec (by rfl) (exec_sne _ _ (by rfl) (by rfl) (by rfl) HE.out) ?_ | refine wpList_of_exec (by rfl) (exec_add1 (j := k) _ (by rfl) (by rfl) hk3) ?_ | refine wpList_of_exec (v := .agg (prA x)) (by rfl) (exec_lpr (off := o + k * 5) _ (by rfl) (by rfl) (HX.out _ HK.out.b)) ?_ | (refine wpList_mp1 (p := x) HK rfl _ rfl rfl ?_; intro w2 g2 HK'; simp only [List.cons_append, List.nil_append] at HK'; have HR := Lib.hid (own_rd (HK'.out.own 1 rfl)); replace HK := HK'; clear HK') | (at_builtin; refine wpList_kmore HK prLay 0 rfl _ _ rfl rfl rfl [x] rfl rfl HR HL (N := N + 1) HN2 ?_; intro A4 c4 _ HK'; simp only [List.set] at HK'; replace HK := HK'; clear HK'))
        exact ⟨⟨k + 1, A4, c4, N + 1, hlt, rfl, rfl, Lib.hid (by rw [HW2.out]; exact HN2.out), by rw [HW2.out]; exact Lib.hid (HK.out.takeR 1)⟩, by simp [intOf]; omega⟩
    · obtain rfl : k = n := by omega
      rw [HTake.out] at HK hN
      obtain rfl := hN.out
      go_wp2_with fail
      go_ret
      exact ⟨A1, _, c1, rfl, HK.out.own 0 rfl, HK.out.b⟩
end Go.Proofs.Ytikfjimdkbmjhaa
