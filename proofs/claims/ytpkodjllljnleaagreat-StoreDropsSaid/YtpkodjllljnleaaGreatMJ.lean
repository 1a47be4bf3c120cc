/- What checkValue, Right and checkQueue return, and the document's Right. No condition but those named. -/
import Derived.Test.YtpkodjllljnleaaGreatTk
import Derived.Test.YtpkodjllljnleaaGreatMF
import Derived.Test.YtpkodjllljnleaaGreatMA
import Derived.Test.YtpkodjllljnleaaGreatME
set_option linter.unusedSimpArgs false
set_option linter.unusedVariables false
namespace Go.Proofs.YtpkodjllljnleaaGreat
open Go.RowKit
set_option maxHeartbeats 3200000 in
theorem vchk_any (v : Val.V) (w : World) (hf : vF v) :
  Calls Tryz.prog 114 #[vv v] w (IsE (Que.vchk v) w) := by
 have HC := zH (fun W => check_any v W hf)
 clear hf
 unfold Que.vchk
 obtain ⟨k, n, f, s⟩ := v
 unfold vv IsE at *
 simp only at HC ⊢
 generalize Val.chk ⟨k, n, f, s⟩ = z at *
 have HK := kn1 w 27 (vC k n f s)
 unfold vC at HK
 by_cases hk : k = 0
 ·subst hk
  rw [if_pos rfl]
  go_enter Tryz.func114, Tryz.ntmps114
  go_wp2_with fail
  go_ret
  exact ⟨rfl, HK.out.b⟩
 ·rw [if_neg hk]
  have hk2 : (k == 0) = false := by simpa using hk
  go_enter Tryz.func114, Tryz.ntmps114
  go_wp2_with (first | refine wpList_of_exec (by rfl) (kexec_vv HK 0 _ rfl rfl rfl) ?_)
  refine (HC.out _).mono ?_; rintro e w1 ⟨rfl, b1⟩
  replace HK := hkC HK b1
  go_wp2_with fail
  go_ret
  exact ⟨rfl, HK.out.b⟩
set_option maxRecDepth 100000 in
set_option maxHeartbeats 6400000 in
theorem qright_any (N : Int) (A : Option Addr) (c n : Nat) (l : List Val.V) (w : World) (hs : Sls vaLay vF w A n c l) :
  Calls Tryz.prog 92 #[.int .i64 N, .slice A n c] w (IsB (decide (Que.Right N l)) w) := by
 have HK := zH (Kn.start w)
 by_cases h1 : N < 1
 ·have hd : decide (Que.Right N l) = false := decide_eq_false fun h => by have := h.lo; omega
  rw [hd]
  clear hs hd
  go_enter Tryz.func92, Tryz.ntmps92
  go_wp2_with fail
  go_ret
  exact ⟨rfl, HK.out.b⟩
 by_cases h2 : 8 < N
 ·have hd : decide (Que.Right N l) = false := decide_eq_false fun h => by have := h.hi; omega
  rw [hd]
  clear hs hd
  go_enter Tryz.func92, Tryz.ntmps92
  go_wp2_with fail
  go_ret
  exact ⟨rfl, HK.out.b⟩
 by_cases h3 : N < (n : Int)
 ·have hd : decide (Que.Right N l) = false := decide_eq_false fun h => by have := h.len; rw [hs.len] at this; omega
  rw [hd]
  clear hs hd
  go_enter Tryz.func92, Tryz.ntmps92
  go_wp2_with fail
  go_ret
  exact ⟨rfl, HK.out.b⟩
 obtain ⟨hno, hyes⟩ := Que.right_told (n := N) (l := l) hs.len (by omega) (by omega) (by omega)
 have HNo := zH hno
 have HYes := zH hyes
 have HS := zH hs
 have hn9 : n < 9 := by omega
 clear hs hno hyes
 generalize decide (Que.Right N l) = r at *
 go_enter Tryz.func92, Tryz.ntmps92
 go_wp2_with fail
 go_loopw [21] (fun vi wr => ∃ k : Nat, k ≤ n ∧ vi = .int .i64 k ∧ Hid (∀ (i : Nat) v, i < k → l[i]? = some v → Que.vchk v = 0) ∧ Hid (Kn w.heap.size w wr [] [])) (fun vi _ => n - (intOf vi).toNat)
 case atStart => exact ⟨0, Nat.zero_le _, rfl, zH (fun i v hi => by omega), HK⟩
 case round =>
  clear HK
  obtain ⟨k, hk, rfl, HGo, HK⟩ := hrel
  have hk1 : (0 : Int) ≤ (k : Int) := by omega
  by_cases hlt : k < n
  ·have hk2 : (k : Int) < (n : Int) := by omega
   have hk3 : k < 9223372036854775807 := by omega
   obtain ⟨x, hx, hf⟩ := HS.out.get hlt
   obtain ⟨b, o, rfl, hat⟩ := HS.out.at (Nat.lt_of_le_of_lt (Nat.zero_le _) hlt)
   have HX := zH (fun W hW => hat W hW k x hx)
   have HV := zH (fun W => vchk_any x W hf)
   have HN := zH (HNo.out k x hx)
   have HGk : Hid (Que.vchk x = 0 → ∀ (i : Nat) v, i < k + 1 → l[i]? = some v → Que.vchk v = 0) := zH fun h i v hi hv => by
    by_cases hik : i = k
    ·subst hik; rw [hx] at hv; injection hv with hv; subst hv; exact h
    ·exact HGo.out i v (by omega) hv
   clear hat hx hf
   obtain ⟨vk, vn, vf, vs⟩ := x
   unfold vv IsE at HV
   simp only at HV
   generalize Que.vchk ⟨vk, vn, vf, vs⟩ = z at *
   go_wp2_with (first | refine wpList_of_exec (by rfl) (exec_lva (off := o + k * 4) _ (by rfl) (by rfl) (HX.out _ HK.out.b)) ?_ | (refine wpList_akv HK rfl rfl ?_; intro _ g2 HK'; simp only [lcA, lnA] at HK'; replace HK := HK'; clear HK') | (refine wpList_sv (f2 := vf) HK 0 rfl _ _ rfl rfl rfl rfl ?_; intro _ HK'; simp only [List.set] at HK'; replace HK := HK'; clear HK') | refine wpList_of_exec (by rfl) (kexec_vv HK 0 _ (by rfl) (by rfl) (by rfl)) ?_)
   refine (HV.out _).mono ?_; rintro e w1 ⟨rfl, b1⟩
   replace HK := hkC HK b1; clear b1
   by_cases hz : z = 0
   ·subst hz
    replace HGk := zH (HGk.out rfl)
    go_wp2_with (first | refine wpList_of_exec (by rfl) (exec_add1 (j := k) _ (by rfl) (by rfl) hk3) ?_)
    exact ⟨⟨k + 1, hlt, rfl, HGk, zH (HK.out.takeL 0)⟩, by simp [intOf]; omega⟩
   ·have hz2 : (z != 0) = true := by simpa using hz
    have HR := zH (HN.out hz)
    go_wp2_with fail
    go_ret
    exact ⟨by rw [HR.out] <;> rfl, HK.out.b⟩
  ·obtain rfl : k = n := by omega
   have HR : Hid (r = true) := zH (HYes.out HGo.out)
   go_wp2_with fail
   go_ret
   exact ⟨by rw [HR.out] <;> rfl, HK.out.b⟩
set_option maxHeartbeats 1600000 in
theorem qchk_any (N : Int) (A : Option Addr) (c n : Nat) (l : List Val.V) (w : World) (hs : Sls vaLay vF w A n c l) :
  Calls Tryz.prog 113 #[.int .i64 N, .slice A n c] w (IsE (Que.qchk N l) w) := by
 have HR := zH (qright_any N A c n l w hs)
 clear hs
 unfold IsE IsB at *
 by_cases h : Que.Right N l
 ·rw [decide_eq_true h] at HR
  rw [Que.qchk_ok h]
  clear h
  go_enter Tryz.func113, Tryz.ntmps113
  go_wp2_with fail
  refine HR.out.mono ?_; rintro e w1 ⟨rfl, b1⟩
  go_wp2_with fail
  go_ret
  exact ⟨rfl, b1⟩
 ·rw [decide_eq_false h] at HR
  rw [Que.qchk_bad h]
  clear h
  go_enter Tryz.func113, Tryz.ntmps113
  go_wp2_with fail
  refine HR.out.mono ?_; rintro e w1 ⟨rfl, b1⟩
  go_wp2_with fail
  go_ret
  exact ⟨rfl, b1⟩
end Go.Proofs.YtpkodjllljnleaaGreat
namespace Go.Proofs.YtpkodjllljnleaaGreat
open Go.RowKit
set_option maxRecDepth 100000 in
set_option maxHeartbeats 6400000 in
theorem qjoin_any : Joins Tryz.prog 115 vaLay vF := by
 intro g m ps w hm hb hg hc hs ht
 replace ht : (catP ps).length * 40 ≤ 140737488355328 := ht
 have HGo : Hid (∀ k, k < m → ∃ p, ps[k]? = some p ∧ Sls vaLay vF w p.A p.n p.c p.l ∧ ∀ W, Below w.heap.size w W → W.cell? ⟨g, k, none⟩ = some (.slice p.A p.n p.c)) := zH fun k hk => by
  obtain ⟨p, hp⟩ := Lay.get_of (l := ps) (k := k) (by rw [hm]; exact hk)
  exact ⟨p, hp, hs p (List.mem_of_getElem? hp), fun W hW => (hW.cell (p := ⟨g, k, none⟩) hg).trans (hc k p hp)⟩
 have HLen : Hid (∀ k, (catP (ps.take k)).length * 40 ≤ 140737488355328) := zH fun k => Nat.le_trans (Nat.mul_le_mul_right _ (catP_le ps k)) ht
 have HTake : Hid (ps.take m = ps) := zH (by rw [← hm]; exact List.take_length)
 clear hc hs ht hm hg
 have HK := zH (Kn.start w)
 go_enter Tryz.func115, Tryz.ntmps115
 go_wp2_with (first | (refine wpList_mk0 vaLay HK rfl rfl ?_; intro _ g2 HK'; simp only [lnA] at HK'; replace HK := HK'; clear HK'))
 go_loopw [3, 9] (fun vs vi wr => ∃ (k : Nat) (A1 : Option Addr) (c1 N : Nat), k ≤ m ∧ vs = .slice A1 N c1 ∧ vi = .int .i64 k ∧ Hid ((catP (ps.take k)).length = N) ∧ Hid (Kn w.heap.size w wr [] [row vaLay (.slice A1 N c1) (catP (ps.take k))])) (fun _ vi _ => m - (intOf vi).toNat)
 case atStart => exact ⟨0, _, _, 0, Nat.zero_le _, rfl, rfl, zH rfl, HK⟩
 case round =>
  clear HK
  obtain ⟨k, A1, c1, N, hk, rfl, rfl, hN, HK⟩ := hrel
  by_cases hlt : k < m
  ·obtain ⟨p, hp, hsl, hcell⟩ := HGo.out k hlt
   have HC := zH hcell
   have hlen := HLen.out (k + 1)
   have he := catP_more hp
   rw [he, List.length_append, hN.out] at hlen
   have HE := zH he
   have HSl := zH hsl
   have HPl : Hid (p.n = p.l.length) := zH hsl.len.symm
   have HL : Hid ((catP (ps.take k)).length + p.l.length ≤ 9223372036854775807 ∧ ((catP (ps.take k)).length + p.l.length) * Lay.bytes vaLay ≤ 211106232532992) := zH ⟨by rw [hN.out]; omega, by show _ * 40 ≤ _; rw [hN.out]; omega⟩
   have HN2 : Hid ((catP (ps.take k) ++ p.l).length = N + p.l.length) := zH (by rw [List.length_append, hN.out])
   clear hlen he hcell hsl hp
   have hk1 : (0 : Int) ≤ (k : Int) := by omega
   have hk2 : (k : Int) < (m : Int) := by omega
   obtain ⟨Ap, np, cp, lp⟩ := p
   simp only at HC HSl HL HN2 HE HPl
   have HR : Hid (Lay.Reads vaLay wr wr.heap.size Ap lp ∧ (Ap = none → lp = [])) := zH (let h := HSl.out.later HK.out.b; ⟨h.rd, h.nl⟩)
   go_wp2_with (first | refine wpList_of_exec (v := .slice Ap np cp) (by rfl) (exec_cell _ (by rfl) (by rfl) (HC.out _ HK.out.b) Tryz.underlying50 rfl) ?_ | (at_builtin; refine wpList_kmore HK vaLay 0 rfl _ _ rfl rfl rfl lp rfl HPl.out HR HL (N := N + lp.length) HN2 ?_; intro A4 c4 _ HK'; simp only [List.set] at HK'; replace HK := HK'; clear HK'))
   refine ⟨⟨k + 1, A4, c4, N + lp.length, by omega, rfl, by go_num, zH (by rw [HE.out, HN2.out]), ?_⟩, by simp [intOf]; omega⟩
   rw [HE.out]
   exact HK
  ·obtain rfl : k = m := by omega
   rw [HTake.out] at HK hN
   obtain rfl := hN.out
   go_wp2_with fail
   go_ret
   exact ⟨A1, _, c1, rfl, HK.out.own 0 rfl, HK.out.b⟩
end Go.Proofs.YtpkodjllljnleaaGreat
namespace Go.Proofs.YtpkodjllljnleaaGreat
open Go.RowKit
set_option maxRecDepth 100000 in
set_option maxHeartbeats 12800000 in
theorem push_any (N : Int) (A : Option Addr) (c n : Nat) (l : List Val.V) (v : Val.V) (w : World) (hs : Sls vaLay vF w A n c l) (hv : vF v) :
  Calls Tryz.prog 58 #[.int .i64 N, .slice A n c, vv v] w (IsLEg vaLay (Que.psL N l v) (Que.psE N l v) w) := by
 have HM := zH (fun W (hW : Below w.heap.size w W) => qchk_any N A c n l W (hs.later hW))
 have HC := zH (fun W => vchk_any v W hv)
 have HS := zH hs
 have HJ := zH qjoin_any
 have HOr := zH (fun a b W t g hg => or2a_any a b W t g hg)
 have hlen := hs.len
 have HBad : Hid (¬ nz2 (Que.qchk N l) (Que.vchk v) = 0 → Que.psE N l v = nz2 (Que.qchk N l) (Que.vchk v) ∧ Que.psL N l v = l) := zH fun h => by
  by_cases hr : Que.Right N l
  ·rw [Que.qchk_ok hr] at h ⊢
   exact Que.ps_chk hr h
  ·rw [Que.qchk_bad hr] at h ⊢
   exact Que.ps_bad hr v
 have HGood : Hid (nz2 (Que.qchk N l) (Que.vchk v) = 0 → Que.Right N l ∧ Que.vchk v = 0) := zH fun h => by
  by_cases hr : Que.Right N l
  ·rw [Que.qchk_ok hr] at h; exact ⟨hr, h⟩
  ·rw [Que.qchk_bad hr] at h; cases h
 have HFull : Hid (nz2 (Que.qchk N l) (Que.vchk v) = 0 → (n : Int) = N → Que.psE N l v = 6 ∧ Que.psL N l v = l) := zH fun h h8 => by
  obtain ⟨hr, hk⟩ := HGood.out h
  exact Que.ps_full hr hk (by rw [hlen]; exact h8)
 have HOk : Hid (nz2 (Que.qchk N l) (Que.vchk v) = 0 → ¬ (n : Int) = N → n ≤ 8 ∧ Que.psE N l v = 0 ∧ Que.psL N l v = l ++ [v]) := zH fun h h8 => by
  obtain ⟨hr, hk⟩ := HGood.out h
  have h1 := hr.len
  have h2 := hr.hi
  rw [hlen] at h1
  exact ⟨by omega, Que.ps_ok hr hk (by rw [hlen]; exact h8)⟩
 have HFit : Hid (Fits vaLay vF [v]) := zH ⟨fun x hx => by rw [List.mem_singleton] at hx; subst hx; exact hv, by show 1 * 40 ≤ _; decide⟩
 clear hs hv HGood hlen
 generalize Que.psE N l v = X at *
 generalize Que.psL N l v = r at *
 generalize hE : nz2 (Que.qchk N l) (Que.vchk v) = E at *
 have HE := zH hE
 clear hE
 generalize Que.qchk N l = em at *
 generalize Que.vchk v = ek at *
 obtain ⟨k, m, f, s⟩ := v
 unfold vv IsE IsLEg at *
 simp only at HC ⊢
 have HK := kn1 w 27 (vC k m f s)
 unfold vC at HK
 go_enter Tryz.func58, Tryz.ntmps58
 go_wp2_with fail
 refine wp_region_held_drew (S := (fun W => Hid (Kn w.heap.size w W [(w.heap.size, 27, #[.int .i64 k, .int .i64 m, .int .u64 (f : Int), .string s])] []))) (by kernel_rfl) ?_ (fun hHeld => ?_)
 ·(try dsimp only); exact zH HK.out.drew
 refine wpAnyH_take (i := 0) (oi := ⟨some 9, _, _, _, _, _⟩) (v := ?_) rfl (by kernel_rfl) (by kernel_rfl) (by kernel_rfl) (fun _ _ _ h => h) (Or.inl ⟨by rfl, ?_⟩) (by assumption) ?_
 rotate_left
 ·(intro w hSw; (try dsimp only at hSw); go_simp; try with_reducible rfl)
 try simp only [Act.put, List.setIfInBounds_toArray, List.set_cons_zero, List.set_cons_succ]
 refine wpAnyH_take (i := 1) (oi := ⟨some 10, _, _, _, _, _⟩) (v := ?_) rfl (by kernel_rfl) (by kernel_rfl) (by kernel_rfl) (fun _ _ _ h => h) (Or.inl ⟨by rfl, ?_⟩) (by assumption) ?_
 rotate_left
 ·(intro w hSw; (try dsimp only at hSw); go_simp; try with_reducible rfl)
 try simp only [Act.put, List.setIfInBounds_toArray, List.set_cons_zero, List.set_cons_succ]
 refine wpAnyH_take (i := 3) (oi := ⟨some 12, _, _, _, _, _⟩) (v := ?_) rfl (by kernel_rfl) (by kernel_rfl) (by kernel_rfl) (fun _ _ _ h => h) (Or.inl ⟨by rfl, ?_⟩) (by assumption) ?_
 rotate_left
 ·(intro w hSw; refine Eq.trans (kexec_vv hSw 0 _ (by rfl) (by rfl) (by rfl)) ?_; with_reducible rfl)
 try simp only [Act.put, List.setIfInBounds_toArray, List.set_cons_zero, List.set_cons_succ]
 refine wpAnyH_ready (rs := [2]) (by kernel_rfl) (by simp) ?_
 refine AllReadyH.cons (o := ⟨some 11, _, _, _, _, _⟩) rfl (fun K hK => ?_) AllReadyH.nil
 go_simp
 go_at_call 113
 refine (HM.out _ hHeld.out.b).mono ?_; rintro e w5 ⟨rfl, b5⟩; have hs := zH (hHeld.out.call b5); clear b5
 refine hK.out _ _ hs (fun hHeld => ?_)
 clear hK K
 try simp only [ap1, ap2, ap3, ap4, ap5]
 refine wpAnyH_ready (rs := [4]) (by kernel_rfl) (by simp) ?_
 refine AllReadyH.cons (o := ⟨some 13, _, _, _, _, _⟩) rfl (fun K hK => ?_) AllReadyH.nil
 go_simp
 go_at_call 114
 refine (HC.out _).mono ?_; rintro e w5 ⟨rfl, b5⟩; have hs := zH (hHeld.out.call b5); clear b5
 refine hK.out _ _ hs (fun hHeld => ?_)
 clear hK K
 try simp only [ap1, ap2, ap3, ap4, ap5]
 refine wpAnyH_ready (rs := [5]) (by kernel_rfl) (by simp) ?_
 refine AllReadyH.cons (o := ⟨some 14, _, _, _, _, _⟩) rfl (fun K hK => ?_) AllReadyH.nil
 go_simp; have hs := zH (hHeld.out.allocO (.cells #[.int .i64 em, .int .i64 ek] 31))
 refine hK.out _ _ hs (fun hHeld => ?_)
 clear hK K
 try simp only [ap1, ap2, ap3, ap4, ap5]
 refine wpAnyH_ready (rs := [6]) (by kernel_rfl) (by simp) ?_
 refine AllReadyH.cons (o := ⟨some 15, _, _, _, _, _⟩) rfl (fun K hK => ?_) AllReadyH.nil
 go_simp
 go_at_call 94
 refine (HOr.out _ _ _ _ _ rfl).mono ?_; rintro e w6 ⟨rfl, rfl⟩; have hs := hHeld
 refine hK.out _ _ hs (fun hHeld => ?_)
 clear hK K
 try simp only [ap1, ap2, ap3, ap4, ap5]
 refine wpAnyH_take (i := 7) (oi := ⟨some 8, _, _, _, _, _⟩) (v := ?_) rfl (by kernel_rfl) (by kernel_rfl) (by kernel_rfl) (fun _ _ _ h => h) (Or.inl ⟨by rfl, ?_⟩) (by assumption) ?_
 rotate_left
 ·(intro w hSw; (try dsimp only at hSw); go_simp; try with_reducible rfl)
 try simp only [Act.put, List.setIfInBounds_toArray, List.set_cons_zero, List.set_cons_succ]
 refine wpAnyH_done (by kernel_rfl) ?_ _
 rw [HE.out]
 replace HK := hHeld
 clear hHeld HM HC HOr HE
 generalize World.alloc _ _ = w7 at *
 by_cases hz : E = 0
 ·subst hz
  replace HFull := zH (HFull.out rfl)
  replace HOk := zH (HOk.out rfl)
  clear HBad
  by_cases h8 : (n : Int) = N
  ·have h82 : ((n : Int) == N) = true := by simpa using h8
   obtain ⟨rfl, rfl⟩ := HFull.out h8
   clear h8
   go_wp2_with (first | (refine wpList_mks1 vaLay vaNest HK rfl _ rfl rfl ?_; intro w2 g2 HK' _; simp only [lcA, lnA] at HK'; replace HK := HK'; clear HK'))
   refine (HJ.out.one HK 1 rfl (HS.out.later HK.out.b)).mono ?_; rintro e w3 ⟨A4, n4, c4, rfl, o4, b4⟩
   replace HK := zH (HK.out.called b4 o4)
   clear o4 b4
   go_wp2_with fail
   exact ret_t2 Tryz.results58 rfl rfl rfl ⟨A4, n4, c4, rfl, HK.out.own 0 rfl, HK.out.b⟩
  ·have h82 : ((n : Int) == N) = false := by simpa using h8
   obtain ⟨hn8, rfl, rfl⟩ := HOk.out h8
   clear h8
   go_wp2_with (first | refine wpList_of_exec (by rfl) (kexec_vv HK 0 _ (by rfl) (by rfl) (by rfl)) ?_ | (refine wpList_mk1 vaLay (p := ⟨k, m, f, s⟩) HK (by decide) rfl _ rfl rfl rfl ?_; intro w2 g2 HK'; simp only [lnA] at HK'; replace HK := HK'; clear HK') | (refine wpList_mks2 vaLay vaNest HK rfl _ _ rfl rfl rfl ?_; intro w2 g3 HK' _; simp only [lcA, lnA] at HK'; replace HK := HK'; clear HK'))
   refine (HJ.out.two HK 1 rfl (HS.out.later HK.out.b) (Sls.own (HK.out.own 0 rfl) HFit.out) (by show (n + 1) * 40 ≤ _; omega)).mono ?_; rintro e w3 ⟨A4, n4, c4, rfl, o4, b4⟩
   replace HK := zH (HK.out.called b4 o4)
   clear o4 b4
   go_wp2_with fail
   exact ret_t2 Tryz.results58 rfl rfl rfl ⟨A4, n4, c4, rfl, HK.out.own 1 rfl, HK.out.b⟩
 ·obtain ⟨rfl, rfl⟩ := HBad.out hz
  have hz2 : (X != 0) = true := by simpa using hz
  clear HBad HFull HOk HFit
  go_wp2_with (first | (refine wpList_mks1 vaLay vaNest HK rfl _ rfl rfl ?_; intro w2 g2 HK' _; simp only [lcA, lnA] at HK'; replace HK := HK'; clear HK'))
  refine (HJ.out.one HK 1 rfl (HS.out.later HK.out.b)).mono ?_; rintro e w3 ⟨A4, n4, c4, rfl, o4, b4⟩
  replace HK := zH (HK.out.called b4 o4)
  clear o4 b4
  go_wp2_with fail
  exact ret_t2 Tryz.results58 rfl rfl rfl ⟨A4, n4, c4, rfl, HK.out.own 0 rfl, HK.out.b⟩
def IsQP (r : List Val.V) (v : Val.V) (x : Int) (w : World) (e : Ending) (w' : World) : Prop := ∃ A n c, e = .returned (.tuple #[.slice A n c, vv v, .int .i64 x]) ∧ vaLay.Own w.heap.size w' (.slice A n c) r ∧ Below w.heap.size w w'
set_option maxRecDepth 100000 in
set_option maxHeartbeats 12800000 in
theorem pop_any (N : Int) (A : Option Addr) (c n : Nat) (l : List Val.V) (w : World) (hs : Sls vaLay vF w A n c l) :
  Calls Tryz.prog 59 #[.int .i64 N, .slice A n c] w (IsQP (Que.ppL N l) (Que.ppV N l) (Que.ppE N l) w) := by
 have HM := zH (fun W (hW : Below w.heap.size w W) => qchk_any N A c n l W (hs.later hW))
 have HS := zH hs
 have HJ := zH qjoin_any
 have hlen := hs.len
 have HK := zH (Kn.start w)
 by_cases hr : Que.Right N l
 case neg =>
  rw [Que.qchk_bad hr] at HM
  obtain ⟨e1, e2, e3⟩ := Que.pp_bad hr
  rw [e1, e2, e3]
  clear e1 e2 e3 hr hs hlen
  unfold Que.emp IsQP IsE vv at *
  simp only
  go_enter Tryz.func59, Tryz.ntmps59
  go_wp2_with (first | (refine wpList_akv HK rfl rfl ?_; intro _ g1 HK'; simp only [lcA, lnA] at HK'; replace HK := HK'; clear HK'))
  refine (HM.out _ HK.out.b).mono ?_; rintro e w1 ⟨rfl, b1⟩
  replace HK := hkC HK b1; clear b1
  go_wp2_with (first | (refine wpList_mks1 vaLay vaNest HK rfl _ rfl rfl ?_; intro w2 g2 HK' _; simp only [lcA, lnA] at HK'; replace HK := HK'; clear HK'))
  refine (HJ.out.one HK 1 rfl (HS.out.later HK.out.b)).mono ?_; rintro e w3 ⟨A4, n4, c4, rfl, o4, b4⟩
  replace HK := zH (HK.out.called b4 o4)
  clear o4 b4
  go_wp2_with (first | (refine wpList_sv (f2 := 0) HK 0 rfl _ _ rfl rfl rfl rfl ?_; intro _ HK'; simp only [List.set] at HK'; replace HK := HK'; clear HK'))
  exact ret_pve Tryz.results59 rfl rfl rfl rfl (HK.out.blk 0 rfl) ⟨A4, n4, c4, rfl, HK.out.own 0 rfl, HK.out.b⟩
 case pos =>
 rw [Que.qchk_ok hr] at HM
 have h9 : n < 9 := by have h1 := hr.len; have h2 := hr.hi; omega
 by_cases h0 : n = 0
 ·subst h0
  obtain ⟨e1, e2, e3⟩ := Que.pp_none hr hlen
  rw [e1, e2, e3]
  clear e1 e2 e3 hr hs hlen h9
  unfold Que.emp IsQP IsE vv at *
  simp only
  go_enter Tryz.func59, Tryz.ntmps59
  go_wp2_with (first | (refine wpList_akv HK rfl rfl ?_; intro _ g1 HK'; simp only [lcA, lnA] at HK'; replace HK := HK'; clear HK'))
  refine (HM.out _ HK.out.b).mono ?_; rintro e w1 ⟨rfl, b1⟩
  replace HK := hkC HK b1; clear b1
  go_wp2_with (first | (refine wpList_sv (f2 := 0) HK 0 rfl _ _ rfl rfl rfl rfl ?_; intro _ HK'; simp only [List.set] at HK'; replace HK := HK'; clear HK'))
  exact ret_pve Tryz.results59 rfl rfl rfl rfl (HK.out.blk 0 rfl) ⟨_, _, _, rfl, Lay.Own.none _ _, HK.out.b⟩
 ·have hpos : 0 < n := by omega
  obtain ⟨x, hx, hf⟩ := hs.get hpos
  obtain ⟨b, o, rfl, hat⟩ := hs.at hpos
  obtain ⟨e1, e2, e3⟩ := Que.pp_ok hr hx
  rw [e1, e2, e3]
  have HX := zH (fun W hW => hat W hW 0 x hx)
  have HD := zH (hs.drop (lo := 1) hpos)
  have hz : ((n : Int) == 0) = false := by simp; omega
  clear e1 e2 e3 hr hs hlen h9 h0 hat hx hf
  obtain ⟨k, m, f, s⟩ := x
  unfold IsQP IsE vv at *
  simp only
  go_enter Tryz.func59, Tryz.ntmps59
  go_wp2_with (first | (refine wpList_akv HK rfl rfl ?_; intro _ g1 HK'; simp only [lcA, lnA] at HK'; replace HK := HK'; clear HK'))
  refine (HM.out _ HK.out.b).mono ?_; rintro e w1 ⟨rfl, b1⟩
  replace HK := hkC HK b1; clear b1
  go_wp2_with fail
  have HK0 := zH HK.out.drew
  clear HM HS
  refine wp_region_held_drew (S := (fun W => Hid (Below w.heap.size w W))) (by kernel_rfl) ?_ (fun hHeld => ?_)
  ·(try dsimp only); exact zH HK0.out.b
  refine wpAnyH_take (i := 0) (oi := ⟨some 22, _, _, _, _, _⟩) (v := ?_) rfl (by kernel_rfl) (by kernel_rfl) (by kernel_rfl) (fun _ _ _ h => h) (Or.inl ⟨by rfl, ?_⟩) (by assumption) ?_
  rotate_left
  ·(intro w hSw; (try dsimp only at hSw); go_simp; try with_reducible rfl)
  try simp only [Act.put, List.setIfInBounds_toArray, List.set_cons_zero, List.set_cons_succ]
  refine wpAnyH_take (i := 1) (oi := ⟨some 23, _, _, _, _, _⟩) (v := ?_) rfl (by kernel_rfl) (by kernel_rfl) (by kernel_rfl) (fun _ _ _ h => h) (Or.inl ⟨by rfl, ?_⟩) (by assumption) ?_
  rotate_left
  ·(intro w hSw; refine Eq.trans (exec_svl (lo := 1) _ _ (by rfl) (by rfl) (by rfl) hpos) ?_; with_reducible rfl)
  try simp only [Act.put, List.setIfInBounds_toArray, List.set_cons_zero, List.set_cons_succ]
  refine wpAnyH_take (i := 4) (oi := ⟨some 26, _, _, _, _, _⟩) (v := ?_) rfl (by kernel_rfl) (by kernel_rfl) (by kernel_rfl) (fun _ _ _ h => h) (Or.inl ⟨by rfl, ?_⟩) (by assumption) ?_
  rotate_left
  ·(intro w hSw; (try dsimp only at hSw); go_simp; try with_reducible rfl)
  try simp only [Act.put, List.setIfInBounds_toArray, List.set_cons_zero, List.set_cons_succ]
  refine wpAnyH_take (i := 5) (oi := ⟨some 27, _, _, _, _, _⟩) (v := ?_) rfl (by kernel_rfl) (by kernel_rfl) (by kernel_rfl) (fun _ _ _ h => h) (Or.inl ⟨by rfl, ?_⟩) (by assumption) ?_
  rotate_left
  ·(intro w hSw; refine Eq.trans (exec_ixv (i := 0) _ _ (by rfl) (by rfl) (by rfl) hpos) ?_; with_reducible rfl)
  try simp only [Act.put, List.setIfInBounds_toArray, List.set_cons_zero, List.set_cons_succ]
  refine wpAnyH_take (i := 6) (oi := ⟨some 28, _, _, _, _, _⟩) (v := ?_) rfl (by kernel_rfl) (by kernel_rfl) (by kernel_rfl) (fun _ _ _ h => h) (Or.inl ⟨by rfl, ?_⟩) (by assumption) ?_
  rotate_left
  ·(intro w hSw; refine Eq.trans (exec_lva (off := o + 0 * 4) _ (by rfl) (by rfl) (HX.out _ hSw.out)) ?_; with_reducible rfl)
  try simp only [Act.put, List.setIfInBounds_toArray, List.set_cons_zero, List.set_cons_succ]
  refine wpAnyH_ready (rs := [2]) (by kernel_rfl) (by simp) ?_
  refine AllReadyH.cons (o := ⟨some 24, _, _, _, _, _⟩) rfl (fun K hK => ?_) AllReadyH.nil
  refine step_mks1 vaLay vaNest HK0 (by rfl) _ (by rfl) (by rfl) ?_; intro w2 g2 HK' _; simp only [lcA, lnA] at HK'; replace HK0 := HK'; clear HK'; have hs := zH HK0.out.b
  refine hK.out _ _ hs (fun hHeld => ?_)
  clear hK K
  try simp only [ap1, ap2, ap3, ap4, ap5]
  refine wpAnyH_ready (rs := [3]) (by kernel_rfl) (by simp) ?_
  refine AllReadyH.cons (o := ⟨some 25, _, _, _, _, _⟩) rfl (fun K hK => ?_) AllReadyH.nil
  go_simp
  go_at_call 115
  refine (HJ.out.one HK0 1 rfl (HD.out.later HK0.out.b)).mono ?_; rintro e w5 ⟨A4, n4, c4, rfl, o4, b5⟩; replace HK0 := zH (HK0.out.called b5 o4); clear b5 o4; have hs := zH HK0.out.b
  refine hK.out _ _ hs (fun hHeld => ?_)
  clear hK K
  try simp only [ap1, ap2, ap3, ap4, ap5]
  refine wpAnyH_take (i := 7) (oi := ⟨some 4, _, _, _, _, _⟩) (v := ?_) rfl (by kernel_rfl) (by kernel_rfl) (by kernel_rfl) (fun _ _ _ h => h) (Or.inl ⟨by rfl, ?_⟩) (by assumption) ?_
  rotate_left
  ·(intro w hSw; (try dsimp only at hSw); go_simp; try with_reducible rfl)
  try simp only [Act.put, List.setIfInBounds_toArray, List.set_cons_zero, List.set_cons_succ]
  refine wpAnyH_ready (rs := [8]) (by kernel_rfl) (by simp) ?_
  refine AllReadyH.cons (o := ⟨none, _, _, _, _, _⟩) rfl (fun K hK => ?_) AllReadyH.nil
  refine step_sv (f2 := f) HK0 0 (by rfl) _ _ (by rfl) (by rfl) (by rfl) (by rfl) ?_; intro wq HK'; simp only [List.set] at HK'; replace HK0 := HK'; clear HK'; have hs := zH HK0.out.b
  refine hK.out _ _ hs (fun hHeld => ?_)
  clear hK K
  try simp only [ap1, ap2, ap3, ap4, ap5]
  refine wpAnyH_take (i := 9) (oi := ⟨some 6, _, _, _, _, _⟩) (v := ?_) rfl (by kernel_rfl) (by kernel_rfl) (by kernel_rfl) (fun _ _ _ h => h) (Or.inl ⟨by rfl, ?_⟩) (by assumption) ?_
  rotate_left
  ·(intro w hSw; (try dsimp only at hSw); go_simp; try with_reducible rfl)
  try simp only [Act.put, List.setIfInBounds_toArray, List.set_cons_zero, List.set_cons_succ]
  refine wpAnyH_done (by kernel_rfl) ?_ _
  all_goals
   go_wp2_with fail
   exact ret_pve Tryz.results59 rfl rfl rfl rfl (HK0.out.blk 0 rfl) ⟨A4, n4, c4, rfl, HK0.out.own 0 rfl, HK0.out.b⟩
end Go.Proofs.YtpkodjllljnleaaGreat
