/-
  What log's Agreed and All return.
  No condition but what the slice reads as.
-/
import Derived.Test.YtakjggmiilkmdaaSortLib
import Derived.Test.YtakjggmiilkmdaaJTold
import Derived.Test.YtakjggmiilkmdaaLIn
import Derived.Sort.OwnSortedInts
import Derived.Lib.LazyBuf
set_option linter.unusedSimpArgs false
set_option linter.unusedVariables false
namespace Go.Proofs.Ytakjggmiilkmdaa
open Go.RowKit

namespace Lgm
/-- The middle one of what is sorted is what more than half come to. -/
theorem ag_sorted {l s : List Int} (hp : s.Perm l) (hs : s.Pairwise (fun x y => x ≤ y)) {v : Int} (hv : s[(l.length - 1) / 2]? = some v) : IsAg l (max v 0) := by
  have hlen := hp.length_eq
  obtain ⟨hk, hkv⟩ := List.getElem?_eq_some_iff.1 hv
  have hpw := List.pairwise_iff_getElem.1 hs
  have hat : ∀ c, at_ l c = s.countP (fun x => decide (c ≤ x)) := fun c => (hp.countP_eq _).symm
  have hup : ∀ c, v < c → s.countP (fun x => decide (c ≤ x)) ≤ s.length - ((l.length - 1) / 2 + 1) := fun c hc => by
    have e : s = s.take ((l.length - 1) / 2 + 1) ++ s.drop ((l.length - 1) / 2 + 1) := (List.take_append_drop _ _).symm
    have h0 : (s.take ((l.length - 1) / 2 + 1)).countP (fun x => decide (c ≤ x)) = 0 := by
      rw [List.countP_eq_zero]
      intro x hx hcx
      obtain ⟨i, hi⟩ := List.mem_iff_getElem?.1 hx
      rw [List.getElem?_take] at hi
      split at hi
      · rename_i hil
        obtain ⟨hi1, hi2⟩ := List.getElem?_eq_some_iff.1 hi
        have hcx := of_decide_eq_true hcx
        rcases Nat.lt_or_ge i ((l.length - 1) / 2) with h | h
        · have := hpw i _ hi1 hk h
          omega
        · have h1 : i = (l.length - 1) / 2 := by omega
          subst h1
          omega
      · cases hi
    have h1 : s.countP (fun x => decide (c ≤ x)) = (s.take ((l.length - 1) / 2 + 1)).countP (fun x => decide (c ≤ x)) + (s.drop ((l.length - 1) / 2 + 1)).countP (fun x => decide (c ≤ x)) := by
      rw [← List.countP_append, List.take_append_drop]
    have h2 := List.countP_le_length (p := fun x => decide (c ≤ x)) (l := s.drop ((l.length - 1) / 2 + 1))
    rw [List.length_drop] at h2
    omega
  have hlo : s.length - (l.length - 1) / 2 ≤ s.countP (fun x => decide (v ≤ x)) := by
    have h1 : s.countP (fun x => decide (v ≤ x)) = (s.take ((l.length - 1) / 2)).countP (fun x => decide (v ≤ x)) + (s.drop ((l.length - 1) / 2)).countP (fun x => decide (v ≤ x)) := by
      rw [← List.countP_append, List.take_append_drop]
    have h2 : (s.drop ((l.length - 1) / 2)).countP (fun x => decide (v ≤ x)) = (s.drop ((l.length - 1) / 2)).length := by
      rw [List.countP_eq_length]
      intro x hx
      obtain ⟨i, hi⟩ := List.mem_iff_getElem?.1 hx
      rw [List.getElem?_drop] at hi
      obtain ⟨hi1, hi2⟩ := List.getElem?_eq_some_iff.1 hi
      refine decide_eq_true ?_
      rcases Nat.eq_zero_or_pos i with h | h
      · subst h
        simp only [Nat.add_zero] at hi2
        omega
      · have := hpw _ _ hk hi1 (by omega)
        omega
    rw [List.length_drop] at h2
    omega
  refine ⟨by omega, ?_, fun c hc hm => ?_⟩
  · by_cases h : v ≤ 0
    · left; omega
    · right
      rw [show max v 0 = v by omega]
      refine ⟨hp.mem_iff.1 (hkv ▸ List.getElem_mem hk), ?_⟩
      unfold maj
      rw [hat]
      omega
  · by_cases h : v < c
    · unfold maj at hm
      rw [hat] at hm
      have := hup c h
      omega
    · omega
theorem minOf_al {l : List Int} (h : 0 < l.length) : max (Lib.minOf l) 0 = al l := by
  match l, h with
  | x :: r, _ =>
    show max ((x :: r).foldl min x) 0 = max 0 (r.foldl min x)
    rw [List.foldl_cons, Int.min_self]
    omega
end Lgm
set_option maxRecDepth 100000 in
set_option maxHeartbeats 3200000 in
theorem lccloni_any (A : Option Addr) (n c : Nat) (l : List Int) (w : World) (hs : Sls inLay inF w A n c l) :
    Calls Try.prog 40 #[.slice A n c] w fun e w' => ∃ A' c', e = .returned (.slice A' n c') ∧ inLay.Own w.heap.size w' (.slice A' n c') l ∧ Below w.heap.size w w' := by
  match A, hs with
  | none, hs =>
    have hl := hs.nl rfl
    have hn := hs.len
    subst hl
    rw [List.length_nil] at hn
    subst hn
    clear hs
    have hq := fun W => run_eql_slice_nil (P := Try.prog) W 46 3 none 0 c Try.underlying46
    go_enter Try.func40, Try.ntmps40
    go_wp2_with fail
    go_ret
    exact ⟨_, _, rfl, Lay.Own.none _ _, Below.refl _ _⟩
  | some ad, hs =>
    have HB : n * 8 ≤ 140737488355328 := hs.big
    have HT1 : Hid (n = l.length) := Lib.hid hs.len.symm
    have HL1 : Hid (([] : List Int).length + l.length ≤ 9223372036854775807 ∧ (([] : List Int).length + l.length) * Lay.bytes inLay ≤ 211106232532992) := Lib.hid (by rw [← HT1.out]; exact ⟨by simp; omega, by show (0 + n) * 8 ≤ _; omega⟩)
    have HN1 : Hid ((([] : List Int) ++ l).length = n) := Lib.hid (by rw [List.nil_append]; exact HT1.out.symm)
    have HS := Lib.hid hs
    have HK := Lib.hid (Kn.start w)
    clear hs HB
    have hq := fun W => run_eql_slice_nil (P := Try.prog) W 46 3 (some ad) n c Try.underlying46
    go_enter Try.func40, Try.ntmps40
    go_wp2_with (first | (refine wpList_mk0 inLay HK rfl rfl ?_; intro _ g2 HK'; simp only [List.nil_append] at HK'; replace HK := HK'; clear HK') | (at_builtin; refine wpList_kmore HK inLay 0 rfl _ _ rfl rfl rfl l rfl HT1.out (Lib.hid (let h := HS.out.later HK.out.b; ⟨h.rd, h.nl⟩)) HL1 HN1 ?_; intro A3 c3 _ HK'; simp only [List.set, List.nil_append] at HK'; replace HK := HK'; clear HK'))
    go_ret
    exact ⟨_, _, rfl, HK.out.own 0 rfl, HK.out.b⟩
theorem flat_in (l : List Int) : inLay.flat l = l.map (Value.int .i64) := by
  induction l with
  | nil => rfl
  | cons x l ih => rw [Lay.flat_cons, ih]; rfl
/-- A row of the call's own, sorted. -/
theorem lcsort_any (b0 : Nat) (w0 : World) (A : Option Addr) (n c : Nat) (l : List Int) (w : World) (HK : Kn b0 w0 w [] [row inLay (.slice A n c) l]) (hl : l.length = n) (hn : 0 < n) (hn2 : n ≤ 140737488355328) :
    Calls Try.prog 41 #[.slice A n c] w fun e w' => e = .returned (.tuple #[]) ∧ Kn b0 w0 w' [] [row inLay (.slice A n c) (l.mergeSort fun x y => decide (x ≤ y))] := by
  have own : w.ownsRow b0 3 1 (.slice A n c) l.length (inLay.flat l) := HK.own 0 rfl
  rcases own.2 with ⟨h, _⟩ | ⟨g, cap, cur, hv, hbase, hb, h1, h2, h3, h4⟩
  · cases h; exact absurd hn (Nat.lt_irrefl _)
  · have ev : A = some ⟨g, 0, none⟩ ∧ n = l.length ∧ c = cap := by
      injection hv with e1 e2 e3
      exact ⟨e1, e2, e3⟩
    obtain ⟨rfl, rfl, rfl⟩ := ev
    rw [flat_in, Nat.mul_one] at h4
    have hH := holds_of_blockI hb h4
    refine (slices_Sort_int g 0 c l w hH (Array.getElem?_eq_some_iff.1 hb).1 (by omega)).mono ?_
    rintro e w' ⟨rfl, n', os, rfl⟩
    have hlm : (l.mergeSort fun x y => decide (x ≤ y)).length = l.length := List.length_mergeSort _
    have ho := ownsRow_sortedI (n := n') (os := os) hlm hbase hb h1 h2 h3
    have hg := grownBy_sortedI (w := w) (g := g) (n := n') (os := os) (l.mergeSort fun x y => decide (x ≤ y)).toArray
    have K0 : Kn b0 w0 (Sort.grow (Sort.putRow (Value.int .i64) (Sort.ahead w n') g 0 (l.mergeSort fun x y => decide (x ≤ y)).toArray) os) [] [] :=
      ⟨HK.b.grown hg HK.m (fun j hj => by cases hj; exact hbase), Nat.le_trans HK.m hg.size, fun i x h => by simp at h, fun i x h => by simp at h, fun i j x y h => by simp at h, fun i j x y h => by simp at h, fun i j x y h => by simp at h⟩
    refine ⟨rfl, ?_⟩
    refine K0.addR (y := row inLay (.slice (some ⟨g, 0, none⟩) l.length c) (l.mergeSort fun x y => decide (x ≤ y))) ?_ (fun i x h => by simp at h) (fun i x h => by simp at h)
    show World.ownsRow _ b0 3 1 (.slice (some ⟨g, 0, none⟩) l.length c) (l.mergeSort fun x y => decide (x ≤ y)).length (inLay.flat (l.mergeSort fun x y => decide (x ≤ y)))
    rw [flat_in, hlm]
    exact ho
set_option maxRecDepth 100000 in
set_option maxHeartbeats 6400000 in
theorem lcag_any (A : Option Addr) (n c : Nat) (l : List Int) (w : World) (hs : Sls inLay inF w A n c l) :
    Calls Try.prog 19 #[.slice A n c] w (IsNm (Lgm.ag l) w) := by
  unfold IsNm
  have hl := hs.len
  have hn2 : n ≤ 140737488355328 := by have h : n * 8 ≤ 140737488355328 := hs.big; omega
  by_cases h0 : n = 0
  · have e : Lgm.ag l = 0 := by
      rw [show l = [] from List.eq_nil_of_length_eq_zero (by omega)]
      rfl
    rw [e]
    subst h0
    clear e hl hs hn2
    go_enter Try.func19, Try.ntmps19
    go_wp2_with fail
    go_ret
    exact ⟨rfl, Below.refl _ _⟩
  · have HC := Lib.hid (lccloni_any A n c l w hs)
    have hpos : 0 < n := by omega
    have HSo : Hid (∀ (A5 : Option Addr) (c5 : Nat) (W : World), Kn w.heap.size w W [] [row inLay (.slice A5 n c5) l] → Calls Try.prog 41 #[.slice A5 n c5] W fun e w' => e = .returned (.tuple #[]) ∧ Kn w.heap.size w w' [] [row inLay (.slice A5 n c5) (l.mergeSort fun x y => decide (x ≤ y))]) :=
      Lib.hid (fun A5 c5 W K => lcsort_any w.heap.size w A5 n c5 l W K hl hpos hn2)
    obtain ⟨s, hs2⟩ : ∃ s, (l.mergeSort fun x y => decide (x ≤ y)) = s := ⟨_, rfl⟩
    have hsl : s.length = n := by rw [← hs2, List.length_mergeSort]; exact hl
    obtain ⟨k, hk⟩ : ∃ k, (n - 1) / 2 = k := ⟨_, rfl⟩
    have hkn : k < n := by omega
    obtain ⟨v, hv⟩ : ∃ v, s[k]? = some v := ⟨_, List.getElem?_eq_getElem (by omega)⟩
    have HV := Lib.hid hv
    have HR : Hid (Lgm.ag l = max v 0) := Lib.hid (by
      refine (Lgm.ag_told l).one (Lgm.ag_sorted (s := s) ?_ ?_ (by rw [hl, hk]; exact hv))
      · rw [← hs2]; exact List.mergeSort_perm _ _
      · rw [← hs2]
        refine (List.pairwise_mergeSort (le := fun x y => decide (x ≤ y)) (fun a b c h1 h2 => ?_) (fun a b => ?_) l).imp (fun h => of_decide_eq_true h)
        · simp only [decide_eq_true_eq] at h1 h2 ⊢; omega
        · simp only [Bool.or_eq_true, decide_eq_true_eq]; omega)
    rw [hs2] at HSo
    rw [HR.out]
    have HSl := Lib.hid hsl
    have HB8 : Hid (n * 8 ≤ 140737488355328) := Lib.hid hs.big
    have hsub : IntKind.i64.wrap ((n : Int) - 1) = (n : Int) - 1 := by rw [IntKind.wrap_i64]; omega
    have hq : ((n : Int) - 1).tdiv 2 = (k : Int) := by rw [Int.tdiv_eq_ediv_of_nonneg (by omega)]; omega
    have hwk : IntKind.i64.wrap (k : Int) = (k : Int) := by rw [IntKind.wrap_i64]; omega
    have hz : ((n : Int) == 0) = false := by rw [beq_eq_false_iff_ne]; omega
    have HK := Lib.hid (Kn.start w)
    have hkn2 : (k : Int) < (n : Int) := by omega
    clear hs hl hs2 hsl hv HR h0
    clear hk
    go_enter Try.func19, Try.ntmps19
    go_wp2_with fail
    refine HC.out.mono ?_; rintro e w1 ⟨A5, c5, rfl, ho, b1⟩
    replace HK := Lib.hid (HK.out.called b1 ho)
    simp only [List.nil_append] at HK
    clear HC b1 ho
    go_wp2_with fail
    refine (HSo.out A5 c5 _ HK.out).mono ?_; rintro e w2 ⟨rfl, hK2⟩
    replace HK := Lib.hid hK2
    clear HSo hK2
    have HS2 : Hid (Sls inLay inF w2 A5 n c5 s) := Lib.hid (Sls.own (HK.out.own 0 rfl) ⟨fun _ _ => trivial, by show s.length * 8 ≤ _; rw [HSl.out]; exact HB8.out⟩)
    obtain ⟨b', o', rfl, hat⟩ := HS2.out.iat hpos
    have hc := hat w2 (Below.refl _ w2) k v HV.out
    clear hat
    go_wp2_with fail
    all_goals
      go_ret
      exact ⟨by congr 2 <;> omega, HK.out.b⟩
set_option maxRecDepth 100000 in
set_option maxHeartbeats 6400000 in
theorem lcal_any (A : Option Addr) (n c : Nat) (l : List Int) (w : World) (hs : Sls inLay inF w A n c l) :
    Calls Try.prog 21 #[.slice A n c] w (IsNm (Lgm.al l) w) := by
  unfold IsNm
  have hl := hs.len
  have hn2 : n ≤ 140737488355328 := by have h : n * 8 ≤ 140737488355328 := hs.big; omega
  by_cases h0 : n = 0
  · have e : Lgm.al l = 0 := by
      rw [show l = [] from List.eq_nil_of_length_eq_zero (by omega)]
      rfl
    rw [e]
    subst h0
    clear e hl hs hn2
    go_enter Try.func21, Try.ntmps21
    go_wp2_with fail
    go_ret
    exact ⟨rfl, Below.refl _ _⟩
  · obtain ⟨b', o', rfl, hat⟩ := hs.iat (by omega)
    have HM := Lib.hid (fun W (hW : Below w.heap.size w W) => slices_Min_int b' o' n c l W (by omega) (by omega) (by omega) (fun j hj => hat W hW j _ (by rw [List.getD_eq_getElem?_getD, List.getElem?_eq_getElem hj]; rfl)))
    rw [List.take_of_length_le (by omega)] at HM
    rw [← Lgm.minOf_al (by omega)]
    generalize Lib.minOf l = v at *
    have hz : ((n : Int) == 0) = false := by rw [beq_eq_false_iff_ne]; omega
    clear hs hl hat h0 hn2
    go_enter Try.func21, Try.ntmps21
    go_wp2_with fail
    refine (HM.out _ (Below.refl _ w)).mono ?_; rintro e w1 ⟨rfl, rfl⟩
    go_wp2_with fail
    all_goals
      go_ret
      exact ⟨by congr 2 <;> omega, Below.refl _ _⟩
end Go.Proofs.Ytakjggmiilkmdaa
