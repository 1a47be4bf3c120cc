/-
  What join returns: the pieces' pairs, one piece behind the other; and without.
  No condition but what the slices read as, and a bound on how many.
-/
import Derived.Test.YtikfjimdkbmjhaaDictParts
set_option linter.unusedSimpArgs false
set_option linter.unusedVariables false
namespace Go.Proofs.Ytikfjimdkbmjhaa
open Go.RowKit

/-- A piece: a slice, and what it reads as. -/
structure Pc where
  A : Option Addr
  n : Nat
  c : Nat
  l : List Dct.Pr
def cat (ps : List Pc) : List Dct.Pr := ps.flatMap (·.l)
theorem cat_more {ps : List Pc} {k : Nat} {p : Pc} (h : ps[k]? = some p) : cat (ps.take (k + 1)) = cat (ps.take k) ++ p.l := by
  unfold cat
  rw [Lay.take_succ h, List.flatMap_append, List.flatMap_cons, List.flatMap_nil, List.append_nil]
theorem cat_le (ps : List Pc) (k : Nat) : (cat (ps.take k)).length ≤ (cat ps).length := by
  have h : cat ps = cat (ps.take k) ++ cat (ps.drop k) := by unfold cat; rw [← List.flatMap_append, List.take_append_drop]
  rw [h, List.length_append]; omega
set_option maxRecDepth 100000 in
set_option maxHeartbeats 6400000 in
theorem join_any (g m : Nat) (ps : List Pc) (w : World) (hm : ps.length = m) (hb : m ≤ 8) (hg : g < w.heap.size) (hc : ∀ i p, ps[i]? = some p → w.cell? ⟨g, i, none⟩ = some (.slice p.A p.n p.c)) (hs : ∀ p ∈ ps, Sl w p.A p.n p.c p.l) (ht : (cat ps).length ≤ 2513169434916) :
    Calls Try.prog 25 #[.slice (some ⟨g, 0, none⟩) m m] w (IsL (cat ps) w) := by
  have HGo : Hid (∀ k, k < m → ∃ p, ps[k]? = some p ∧ Sl w p.A p.n p.c p.l ∧ ∀ W, Below w.heap.size w W → W.cell? ⟨g, k, none⟩ = some (.slice p.A p.n p.c)) := Lib.hid fun k hk => by
    obtain ⟨p, hp⟩ := Lay.get_of (l := ps) (k := k) (by rw [hm]; exact hk)
    exact ⟨p, hp, hs p (List.mem_of_getElem? hp), fun W hW => (hW.cell (p := ⟨g, k, none⟩) hg).trans (hc k p hp)⟩
  have HLen : Hid (∀ k, (cat (ps.take k)).length ≤ 2513169434916) := Lib.hid fun k => Nat.le_trans (cat_le ps k) ht
  have HTake : Hid (ps.take m = ps) := Lib.hid (by rw [← hm]; exact List.take_length)
  clear hc hs ht hm hg
  have HK := Lib.hid (Kn.start w)
  go_enter Try.func25, Try.ntmps25
  go_wp2_with (first | (refine wpList_mp0 HK rfl rfl ?_; intro _ g2 HK'; simp only [List.nil_append] at HK'; replace HK := HK'; clear HK'))
  go_loopw [3, 9] (fun vs vi wr => ∃ (k : Nat) (A1 : Option Addr) (c1 N : Nat), k ≤ m ∧ vs = .slice A1 N c1 ∧ vi = .int .i64 k ∧ Hid ((cat (ps.take k)).length = N) ∧ Hid (Kn w.heap.size w wr [] [row prLay (.slice A1 N c1) (cat (ps.take k))])) (fun _ vi _ => m - (intOf vi).toNat)
  case atStart => exact ⟨0, _, _, 0, Nat.zero_le _, rfl, rfl, Lib.hid rfl, HK⟩
  case round =>
    clear HK
    obtain ⟨k, A1, c1, N, hk, rfl, rfl, hN, HK⟩ := hrel
    by_cases hlt : k < m
    · obtain ⟨p, hp, hsl, hcell⟩ := HGo.out k hlt
      have HC := Lib.hid hcell
      have hlen := HLen.out (k + 1)
      have he := cat_more hp
      rw [he, List.length_append, hN.out] at hlen
      have HE := Lib.hid he
      have HSl := Lib.hid hsl
      have HPl : Hid (p.n = p.l.length) := Lib.hid hsl.len.symm
      have HL : Hid ((cat (ps.take k)).length + p.l.length ≤ 9223372036854775807 ∧ ((cat (ps.take k)).length + p.l.length) * prLay.bytes ≤ 211106232532992) := Lib.hid ⟨by rw [hN.out]; omega, by show _ * 56 ≤ _; rw [hN.out]; omega⟩
      have HN2 : Hid ((cat (ps.take k) ++ p.l).length = N + p.l.length) := Lib.hid (by rw [List.length_append, hN.out])
      clear hlen he hcell hsl hp
      have hk1 : (0 : Int) ≤ (k : Int) := by omega
      have hk2 : (k : Int) < (m : Int) := by omega
      obtain ⟨Ap, np, cp, lp⟩ := p
      simp only at HC HSl HL HN2 HE HPl
      have HR : Hid (prLay.Reads wr wr.heap.size Ap lp ∧ (Ap = none → lp = [])) := Lib.hid (let h := HSl.out.later HK.out.b; ⟨h.rd, h.nl⟩)
      go_wp2_with (first | refine wpList_of_exec (v := .slice Ap np cp) (by rfl) (exec_cell _ (by rfl) (by rfl) (HC.out _ HK.out.b) Try.underlying22 rfl) ?_ | (at_builtin; refine wpList_kmore HK prLay 0 rfl _ _ rfl rfl rfl lp rfl HPl.out HR HL (N := N + lp.length) HN2 ?_; intro A4 c4 _ HK'; simp only [List.set] at HK'; replace HK := HK'; clear HK'))
      refine ⟨⟨k + 1, A4, c4, N + lp.length, by omega, rfl, by go_num, Lib.hid (by rw [HE.out, HN2.out]), ?_⟩, by simp [intOf]; omega⟩
      rw [HE.out]
      exact HK
    · obtain rfl : k = m := by omega
      rw [HTake.out] at HK hN
      obtain rfl := hN.out
      go_wp2_with fail
      go_ret
      exact ⟨A1, _, c1, rfl, HK.out.own 0 rfl, HK.out.b⟩
section
variable {b0 : Nat} {w0 w : World} {L : List (Nat × TypeId × Array Value)} {R : List RowE} {g : Nat} {A1 A2 A3 : Option Addr} {n1 c1 n2 c2 n3 c3 : Nat} {l1 l2 l3 : List Dct.Pr}
theorem join1_any (HK : Hid (Kn b0 w0 w L R)) (i : Nat) (hL : L[i]? = some (g, 22, #[.slice A1 n1 c1])) (h1 : Sl w A1 n1 c1 l1) :
    Calls Try.prog 25 #[.slice (some ⟨g, 0, none⟩) 1 1] w (IsL l1 w) := by
  have h := join_any g 1 [⟨A1, n1, c1, l1⟩] w rfl (by decide) (HK.out.blk i hL).lt (fun j p hp => by
    match j, hp with
    | 0, hp => simp at hp; subst hp; exact HK.out.cell i hL 0 rfl) (fun p hp => by
      rw [List.mem_singleton] at hp; subst hp; exact h1) (by
      show (l1 ++ []).length ≤ _
      rw [List.append_nil, h1.len]; exact h1.big)
  have e : cat [⟨A1, n1, c1, l1⟩] = l1 := by show l1 ++ [] = l1; rw [List.append_nil]
  rw [e] at h
  exact h
theorem join2_any (HK : Hid (Kn b0 w0 w L R)) (i : Nat) (hL : L[i]? = some (g, 22, #[.slice A1 n1 c1, .slice A2 n2 c2])) (h1 : Sl w A1 n1 c1 l1) (h2 : Sl w A2 n2 c2 l2) (ht : n1 + n2 ≤ 2513169434916) :
    Calls Try.prog 25 #[.slice (some ⟨g, 0, none⟩) 2 2] w (IsL (l1 ++ l2) w) := by
  have h := join_any g 2 [⟨A1, n1, c1, l1⟩, ⟨A2, n2, c2, l2⟩] w rfl (by decide) (HK.out.blk i hL).lt (fun j p hp => by
    match j, hp with
    | 0, hp => simp at hp; subst hp; exact HK.out.cell i hL 0 rfl
    | 1, hp => simp at hp; subst hp; exact HK.out.cell i hL 1 rfl) (fun p hp => by
      simp only [List.mem_cons, List.not_mem_nil, or_false] at hp
      rcases hp with rfl | rfl
      · exact h1
      · exact h2) (by
      show (l1 ++ (l2 ++ [])).length ≤ _
      rw [List.append_nil, List.length_append, h1.len, h2.len]; exact ht)
  have e : cat [⟨A1, n1, c1, l1⟩, ⟨A2, n2, c2, l2⟩] = l1 ++ l2 := by show l1 ++ (l2 ++ []) = _; rw [List.append_nil]
  rw [e] at h
  exact h
theorem join3_any (HK : Hid (Kn b0 w0 w L R)) (i : Nat) (hL : L[i]? = some (g, 22, #[.slice A1 n1 c1, .slice A2 n2 c2, .slice A3 n3 c3])) (h1 : Sl w A1 n1 c1 l1) (h2 : Sl w A2 n2 c2 l2) (h3 : Sl w A3 n3 c3 l3) (ht : n1 + n2 + n3 ≤ 2513169434916) :
    Calls Try.prog 25 #[.slice (some ⟨g, 0, none⟩) 3 3] w (IsL (l1 ++ l2 ++ l3) w) := by
  have h := join_any g 3 [⟨A1, n1, c1, l1⟩, ⟨A2, n2, c2, l2⟩, ⟨A3, n3, c3, l3⟩] w rfl (by decide) (HK.out.blk i hL).lt (fun j p hp => by
    match j, hp with
    | 0, hp => simp at hp; subst hp; exact HK.out.cell i hL 0 rfl
    | 1, hp => simp at hp; subst hp; exact HK.out.cell i hL 1 rfl
    | 2, hp => simp at hp; subst hp; exact HK.out.cell i hL 2 rfl) (fun p hp => by
      simp only [List.mem_cons, List.not_mem_nil, or_false] at hp
      rcases hp with rfl | rfl | rfl
      · exact h1
      · exact h2
      · exact h3) (by
      show (l1 ++ (l2 ++ (l3 ++ []))).length ≤ _
      rw [List.append_nil, List.length_append, List.length_append, h1.len, h2.len, h3.len]; omega)
  have e : cat [⟨A1, n1, c1, l1⟩, ⟨A2, n2, c2, l2⟩, ⟨A3, n3, c3, l3⟩] = l1 ++ l2 ++ l3 := by show l1 ++ (l2 ++ (l3 ++ [])) = _; rw [List.append_nil, List.append_assoc]
  rw [e] at h
  exact h
end
set_option maxHeartbeats 3200000 in
theorem dwo_any (A : Option Addr) (c n : Nat) (l : List Dct.Pr) (key : ByteArray) (w : World) (hs : Sl w A n c l) (hu : Dct.Up l) :
    Calls Try.prog 27 #[.slice A n c, .string key] w (IsL (Dct.wo l key) w) := by
  have HP := Lib.hid (parts_any A c n l key w w hs (Below.refl _ w))
  have HW := Lib.hid (Dct.wo_parts hu key).1
  have hpl : (l.take (Dct.idx l key)).length + (l.drop (Dct.fin l key)).length ≤ 2513169434916 := by
    have h := congrArg List.length HW.out
    rw [List.length_append] at h
    rw [h]
    exact (hs.fit.wo key).big
  have HB := Lib.hid hpl
  clear hs hu hpl
  generalize l.take (Dct.idx l key) = l1 at *
  generalize (l.drop (Dct.idx l key)).take (Dct.fin l key - Dct.idx l key) = l2 at *
  generalize l.drop (Dct.fin l key) = l3 at *
  have HK := Lib.hid (Kn.start w)
  go_enter Try.func27, Try.ntmps27
  go_wp2_with fail
  refine HP.out.mono ?_; rintro e w1 ⟨A1, n1, c1, A2, n2, c2, A3, n3, c3, rfl, s1, s2, s3, b1⟩
  replace HK := Lib.hid (HK.out.call b1)
  have S1 := Lib.hid s1
  have S3 := Lib.hid s3
  clear HP s1 s2 s3 b1
  go_wp2_with (first | (refine wpList_ms2 HK rfl _ _ rfl rfl rfl ?_; intro w2 g2 HK' _; simp only [List.nil_append] at HK'; replace HK := HK'; clear HK'))
  refine (join2_any HK 0 rfl (S1.out.later HK.out.b) (S3.out.later HK.out.b) (by rw [← S1.out.len, ← S3.out.len]; exact HB.out)).mono ?_; rintro e w3 ⟨A4, n4, c4, rfl, o4, b4⟩
  rw [HW.out] at o4
  replace HK := Lib.hid (HK.out.called b4 o4)
  clear o4 b4
  go_wp2_with fail
  go_ret
  exact ⟨A4, n4, c4, rfl, HK.out.own 0 rfl, HK.out.b⟩
end Go.Proofs.Ytikfjimdkbmjhaa
