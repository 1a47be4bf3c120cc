/-
  What phalanx/queue.join returns: the pieces' things, one piece behind the other.
  No condition but what the slices read as, and a bound on how many.
-/
import Derived.Test.YtieegdlphjkbdaaVaLay
set_option linter.unusedSimpArgs false
set_option linter.unusedVariables false
namespace Go.Proofs.Ytieegdlphjkbdaa
open Go.RowKit

set_option maxRecDepth 100000 in
set_option maxHeartbeats 6400000 in
theorem qjoin_any : Joins Try.prog 19 vaLay vF := by
  intro g m ps w hm hb hg hc hs ht
  replace ht : (catP ps).length * 40 ≤ 140737488355328 := ht
  have HGo : Hid (∀ k, k < m → ∃ p, ps[k]? = some p ∧ Sls vaLay vF w p.A p.n p.c p.l ∧ ∀ W, Below w.heap.size w W → W.cell? ⟨g, k, none⟩ = some (.slice p.A p.n p.c)) := Lib.hid fun k hk => by
    obtain ⟨p, hp⟩ := Lay.get_of (l := ps) (k := k) (by rw [hm]; exact hk)
    exact ⟨p, hp, hs p (List.mem_of_getElem? hp), fun W hW => (hW.cell (p := ⟨g, k, none⟩) hg).trans (hc k p hp)⟩
  have HLen : Hid (∀ k, (catP (ps.take k)).length * 40 ≤ 140737488355328) := Lib.hid fun k => Nat.le_trans (Nat.mul_le_mul_right _ (catP_le ps k)) ht
  have HTake : Hid (ps.take m = ps) := Lib.hid (by rw [← hm]; exact List.take_length)
  clear hc hs ht hm hg
  have HK := Lib.hid (Kn.start w)
  go_enter Try.func19, Try.ntmps19
  go_wp2_with (first | (refine wpList_mk0 vaLay HK rfl rfl ?_; intro _ g2 HK'; simp only [List.nil_append] at HK'; replace HK := HK'; clear HK'))
  go_loopw [3, 9] (fun vs vi wr => ∃ (k : Nat) (A1 : Option Addr) (c1 N : Nat), k ≤ m ∧ vs = .slice A1 N c1 ∧ vi = .int .i64 k ∧ Hid ((catP (ps.take k)).length = N) ∧ Hid (Kn w.heap.size w wr [] [row vaLay (.slice A1 N c1) (catP (ps.take k))])) (fun _ vi _ => m - (intOf vi).toNat)
  case atStart => exact ⟨0, _, _, 0, Nat.zero_le _, rfl, rfl, Lib.hid rfl, HK⟩
  case round =>
    clear HK
    obtain ⟨k, A1, c1, N, hk, rfl, rfl, hN, HK⟩ := hrel
    by_cases hlt : k < m
    · obtain ⟨p, hp, hsl, hcell⟩ := HGo.out k hlt
      have HC := Lib.hid hcell
      have hlen := HLen.out (k + 1)
      have he := catP_more hp
      rw [he, List.length_append, hN.out] at hlen
      have HE := Lib.hid he
      have HSl := Lib.hid hsl
      have HPl : Hid (p.n = p.l.length) := Lib.hid hsl.len.symm
      have HL : Hid ((catP (ps.take k)).length + p.l.length ≤ 9223372036854775807 ∧ ((catP (ps.take k)).length + p.l.length) * Lay.bytes vaLay ≤ 211106232532992) := Lib.hid ⟨by rw [hN.out]; omega, by show _ * 40 ≤ _; rw [hN.out]; omega⟩
      have HN2 : Hid ((catP (ps.take k) ++ p.l).length = N + p.l.length) := Lib.hid (by rw [List.length_append, hN.out])
      clear hlen he hcell hsl hp
      have hk1 : (0 : Int) ≤ (k : Int) := by omega
      have hk2 : (k : Int) < (m : Int) := by omega
      obtain ⟨Ap, np, cp, lp⟩ := p
      simp only at HC HSl HL HN2 HE HPl
      have HR : Hid (Lay.Reads vaLay wr wr.heap.size Ap lp ∧ (Ap = none → lp = [])) := Lib.hid (let h := HSl.out.later HK.out.b; ⟨h.rd, h.nl⟩)
      go_wp2_with (first | refine wpList_of_exec (v := .slice Ap np cp) (by rfl) (exec_cell _ (by rfl) (by rfl) (HC.out _ HK.out.b) Try.underlying22 rfl) ?_ | (at_builtin; refine wpList_kmore HK vaLay 0 rfl _ _ rfl rfl rfl lp rfl HPl.out HR HL (N := N + lp.length) HN2 ?_; intro A4 c4 _ HK'; simp only [List.set] at HK'; replace HK := HK'; clear HK'))
      refine ⟨⟨k + 1, A4, c4, N + lp.length, by omega, rfl, by go_num, Lib.hid (by rw [HE.out, HN2.out]), ?_⟩, by simp [intOf]; omega⟩
      rw [HE.out]
      exact HK
    · obtain rfl : k = m := by omega
      rw [HTake.out] at HK hN
      obtain rfl := hN.out
      go_wp2_with fail
      go_ret
      exact ⟨A1, _, c1, rfl, HK.out.own 0 rfl, HK.out.b⟩
end Go.Proofs.Ytieegdlphjkbdaa
