/-
  What slices.Grow of the nil slice, slices.Concat of requests return.
  No condition but what the slices read as, and a bound on how many.
-/
import Derived.Test.YtbdfmfegmfmghaaRfLay
import Derived.Lib.AppendZeros
set_option linter.unusedSimpArgs false
set_option linter.unusedVariables false
namespace Go.Proofs.Ytbdfmfegmfmghaa
open Go.RowKit

set_option maxRecDepth 100000 in
set_option maxHeartbeats 3200000 in
theorem rgrow_any (n : Nat) (w : World) (h24 : n * 24 ≤ 140737488355328) : Calls Try.prog 22 #[.slice none 0 0, .int .i64 n] w fun e w' => ∃ A c, e = .returned (.slice A 0 c) ∧ rfLay.Own w.heap.size w' (.slice A 0 c) [] ∧ Below w.heap.size w w' := by
  by_cases h0 : n = 0
  · subst h0
    have HK := Lib.hid (Kn.start w)
    clear h24
    go_enter Try.func22, Try.ntmps22
    go_wp2_with fail
    go_ret
    exact ⟨_, _, rfl, Lay.Own.none _ _, HK.out.b⟩
  obtain ⟨i0, hi, hz0, hz1, hz2⟩ := info_parts rfLay.info
  have hc1 := grownCap_ge w n 0 24
  have hr := Lib.run_append_nil_zeros (P := Try.prog) w 22 3 22 24 i0 rfLay.z .i64 .i64 rfLay.und Try.underlying3 hi hz0 n (by omega) (by rw [hz1]; decide) (by omega) (by rw [hz2]; show n * 24 ≤ _; omega)
  have HR := Lib.hid hr
  have hc2 := grownCap_le_maxLen w n 0 24 (by unfold maxLen; omega)
  generalize grownCap w n 0 24 = G at *
  have HO : Hid (rfLay.Own w.heap.size (w.drew.alloc (.cells (Builtin.zeroCells rfLay.z.cells n ++ Builtin.zeroCells rfLay.z.cells (G - n)) 24)) (.slice (some ⟨w.heap.size, 0, none⟩) 0 G) []) := by
    have := World.ownsRow_made (base := w.heap.size) (e := 24) (size := 3) w.drew (Builtin.zeroCells rfLay.z.cells n ++ Builtin.zeroCells rfLay.z.cells (G - n)) G (Nat.le_refl _) hc2 (by
      rw [Array.size_append, size_zeroCells, size_zeroCells]
      have : rfLay.z.cells.size = 3 := rfl
      rw [this]; omega)
    exact Lib.hid this
  have HB : Hid (Below w.heap.size w (w.drew.alloc (.cells (Builtin.zeroCells rfLay.z.cells n ++ Builtin.zeroCells rfLay.z.cells (G - n)) 24))) := Lib.hid ((Below.refl _ w).drew.alloc (Nat.le_refl _) _)
  generalize w.drew.alloc (.cells (Builtin.zeroCells rfLay.z.cells n ++ Builtin.zeroCells rfLay.z.cells (G - n)) 24) = wz at *
  clear hr hi hz0 hz1 hz2 hc1 hc2
  have h1 : ¬ ((n : Int) < 0) := by omega
  have h2 : (0 : Int) < (n : Int) := by omega
  have h3 : wrap64 (n : Int) = (n : Int) := by unfold wrap64; omega
  go_enter Try.func22, Try.ntmps22
  go_wp2_with (first | (at_builtin; refine Lib.wpList_append_run _ rfl _ _ _ _ rfl _ _ rfl rfl _ _ HR.out ?_))
  go_ret
  exact ⟨_, _, rfl, HO.out, HB.out⟩
set_option maxRecDepth 100000 in
set_option maxHeartbeats 6400000 in
theorem rconcat_any : Joins Try.prog 15 rfLay rF := by
  intro g m ps w hm hb hg hc hs ht
  replace ht : (catP ps).length * 24 ≤ 140737488355328 := ht
  have HGo : Hid (∀ k, k < m → ∃ p, ps[k]? = some p ∧ Sls rfLay rF w p.A p.n p.c p.l ∧ ∀ W, Below w.heap.size w W → W.cell? ⟨g, k, none⟩ = some (.slice p.A p.n p.c)) := Lib.hid fun k hk => by
    obtain ⟨p, hp⟩ := Lay.get_of (l := ps) (k := k) (by rw [hm]; exact hk)
    exact ⟨p, hp, hs p (List.mem_of_getElem? hp), fun W hW => (hW.cell (p := ⟨g, k, none⟩) hg).trans (hc k p hp)⟩
  have HLen : Hid (∀ k, (catP (ps.take k)).length * 24 ≤ 140737488355328) := Lib.hid fun k => Nat.le_trans (Nat.mul_le_mul_right _ (catP_le ps k)) ht
  have HTake : Hid (ps.take m = ps) := Lib.hid (by rw [← hm]; exact List.take_length)
  have HG := Lib.hid (fun W => rgrow_any (catP ps).length W ht)
  clear hc hs ht hm hg
  go_enter Try.func15, Try.ntmps15
  go_wp2_with fail
  go_loopw [3, 11] (fun vs vi wr => ∃ k : Nat, k ≤ m ∧ vs = .int .i64 ((catP (ps.take k)).length : Nat) ∧ vi = .int .i64 k ∧ w = wr) (fun _ vi _ => m - (intOf vi).toNat)
  case atStart => exact ⟨0, Nat.zero_le _, rfl, rfl, rfl⟩
  case round =>
    obtain ⟨k, hk, rfl, rfl, rfl⟩ := hrel
    by_cases hlt : k < m
    · obtain ⟨p, hp, hsl, hcl⟩ := HGo.out k hlt
      have hcell := hcl _ (Below.refl _ _)
      have ht := HLen.out (k + 1)
      have he := catP_more hp
      have hpn := hsl.len
      rw [he, List.length_append] at ht
      have HE : Hid ((catP (ps.take (k + 1))).length = (catP (ps.take k)).length + p.n) := Lib.hid (by rw [he, List.length_append, hpn])
      rw [hpn] at ht
      clear he hp hsl hcl hpn
      obtain ⟨A, n, c, l⟩ := p
      simp only at hcell ht HE
      generalize (catP (ps.take k)).length = q at *
      have h1 : wrap64 ((q : Int) + (n : Int)) = ((q + n : Nat) : Int) := by unfold wrap64; omega
      have h2 : ¬ (((q + n : Nat) : Int) < 0) := by omega
      have h3 : ¬ ((q : Int) + (n : Int) < 0) := by omega
      go_wp2_with fail
      exact ⟨⟨k + 1, by omega, by rw [HE.out]; go_num, by go_num, by simp⟩, by simp [intOf]; omega⟩
    · obtain rfl : k = m := by omega
      rw [HTake.out]
      go_wp2_with fail
      refine (HG.out _).mono ?_; rintro e w1 ⟨A0, c0, rfl, o1, b1⟩
      have HK := Lib.hid ((Kn.start _).called b1 o1)
      simp only [List.nil_append] at HK
      clear b1 o1
      go_wp2_with fail
      go_loopw [6, 27] (fun vs vi wr => ∃ (q : Nat) (A : Option Addr) (c N : Nat), q ≤ k ∧ Hid ((catP (ps.take q)).length = N) ∧ vs = .slice A N c ∧ vi = .int .i64 q ∧ Hid (Kn w.heap.size w wr [] [row rfLay (.slice A N c) (catP (ps.take q))])) (fun _ vi _ => k - (intOf vi).toNat)
      case atStart => exact ⟨0, A0, c0, 0, Nat.zero_le _, Lib.hid rfl, rfl, rfl, HK⟩
      case round =>
        clear HK
        obtain ⟨q, A, c, N, hq, hN, rfl, rfl, HK⟩ := hrel
        by_cases hlt : q < k
        · obtain ⟨p, hp, hsl, hcl⟩ := HGo.out q hlt
          have hcell := hcl _ HK.out.b
          have HR := Lib.hid (let h := hsl.later HK.out.b; And.intro h.rd h.nl)
          have hlen := HLen.out (q + 1)
          have he := catP_more hp
          rw [he, List.length_append, hN.out] at hlen
          have HE := Lib.hid he
          have HPl : Hid (p.n = p.l.length) := Lib.hid hsl.len.symm
          have HL : Hid ((catP (ps.take q)).length + p.l.length ≤ 9223372036854775807 ∧ ((catP (ps.take q)).length + p.l.length) * rfLay.bytes ≤ 211106232532992) := Lib.hid ⟨by rw [hN.out]; omega, by show _ * 24 ≤ _; rw [hN.out]; omega⟩
          have HN2 : Hid ((catP (ps.take q) ++ p.l).length = N + p.l.length) := Lib.hid (by rw [List.length_append, hN.out])
          clear he hp hlen hsl hcl
          obtain ⟨Ap, np, cp, lp⟩ := p
          simp only at hcell HR HPl HL HN2 HE
          go_wp2_with (first | (at_builtin; refine wpList_kmore HK rfLay 0 rfl _ _ rfl rfl rfl lp rfl HPl.out HR HL (N := N + lp.length) HN2 ?_; intro A4 c4 _ HK'; simp only [List.set] at HK'; replace HK := HK'; clear HK'))
          refine ⟨⟨q + 1, A4, c4, N + lp.length, by omega, Lib.hid (by rw [HE.out, HN2.out]), rfl, by go_num, ?_⟩, by simp [intOf]; omega⟩
          rw [HE.out]
          exact HK
        · obtain rfl : q = k := by omega
          rw [HTake.out] at HK hN
          obtain rfl := hN.out
          go_wp2_with fail
          go_ret
          exact ⟨A, _, c, rfl, HK.out.own 0 rfl, HK.out.b⟩
end Go.Proofs.Ytbdfmfegmfmghaa
