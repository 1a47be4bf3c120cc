/- What checkPair and cmp.Or of two errors return. No condition but those named. -/
import Derived.Test.YtpkodjllljnleaaGreatTk
import Derived.Test.YtpkodjllljnleaaGreatME
import Derived.Deep.CutBlock
import Derived.Deep.DeepCutAuto
set_option linter.unusedSimpArgs false
set_option linter.unusedVariables false
namespace Go.Proofs.YtpkodjllljnleaaGreat
open Go.RowKit
set_option maxHeartbeats 3200000 in
theorem pchk_any (key : ByteArray) (v : Val.V) (w : World) (hf : v.f < 18446744073709551616) :
  Calls Tryz.prog 110 #[.string key, vv v] w (IsE (Dct.pchk key v) w) := by
 have HC := zH (fun W => check_any v W hf)
 clear hf
 unfold Dct.pchk
 obtain ⟨k, n, f, s⟩ := v
 unfold vv IsE at *
 simp only at HC ⊢
 generalize Val.chk ⟨k, n, f, s⟩ = z at *
 have HK := kn1 w 27 (vC k n f s)
 unfold vC at HK
 by_cases hk : k = 0
 ·subst hk
  rw [if_pos rfl]
  go_enter Tryz.func110, Tryz.ntmps110
  go_wp2_with fail
  go_ret
  exact ⟨rfl, HK.out.b⟩
 ·rw [if_neg hk]
  have hk2 : (k == 0) = false := by simpa using hk
  by_cases hl : 64 < key.size
  ·rw [if_pos hl]
   have hl2 : 64 < (key.size : Int) := by omega
   go_enter Tryz.func110, Tryz.ntmps110
   go_wp2_with fail
   go_ret
   exact ⟨rfl, HK.out.b⟩
  ·rw [if_neg hl]
   have hl2 : ¬ 64 < (key.size : Int) := by omega
   go_enter Tryz.func110, Tryz.ntmps110
   go_wp2_with (first | refine wpList_of_exec (by rfl) (kexec_vv HK 0 _ rfl rfl rfl) ?_)
   refine (HC.out _).mono ?_; rintro e w1 ⟨rfl, b1⟩
   replace HK := hkC HK b1
   go_wp2_with fail
   go_ret
   exact ⟨rfl, HK.out.b⟩
end Go.Proofs.YtpkodjllljnleaaGreat
namespace Go.Proofs.YtpkodjllljnleaaGreat
open Go.RowKit
theorem right_told {l : List Dct.Pr} {n : Nat} (hl : l.length = n) (hn : n ≤ 8) : (∀ i, i < n → ¬ Dct.Good l i → decide (Dct.Right l) = false) ∧ ((∀ i, i < n → Dct.Good l i) → decide (Dct.Right l) = true) := by
 subst hl
 exact ⟨fun i hi hg => decide_eq_false fun h => hg (((Dct.right_iff l).1 h).2 i hi), fun h => decide_eq_true ((Dct.right_iff l).2 ⟨hn, h⟩)⟩
set_option maxRecDepth 100000 in
set_option maxHeartbeats 6400000 in
theorem right_any (A : Option Addr) (c n : Nat) (l : List Dct.Pr) (w : World) (hs : Sl w A n c l) :
  Calls Tryz.prog 91 #[.slice A n c] w (IsB (decide (Dct.Right l)) w) := by
 by_cases hn : 8 < n
 ·have hd : decide (Dct.Right l) = false := decide_eq_false fun h => by have := h.len; rw [hs.len] at this; omega
  rw [hd]
  have hn2 : 8 < (n : Int) := by omega
  clear hs hd
  go_enter Tryz.func91, Tryz.ntmps91
  go_wp2_with fail
  go_ret
  exact ⟨rfl, Below.refl _ w⟩
 have HS := zH hs
 obtain ⟨hno, hyes⟩ := right_told hs.len (by omega : n ≤ 8)
 have HNo := zH hno
 have HYes := zH hyes
 have HG : Hid (∀ k, k < n → ∃ x, l[k]? = some x ∧ x.val.f < 18446744073709551616) := zH fun k hk => by
  obtain ⟨x, hx⟩ := Lay.get_of (l := l) (k := k) (by rw [hs.len]; exact hk)
  exact ⟨x, hx, hs.fs x (List.mem_of_getElem? hx)⟩
 clear hs hno hyes
 generalize decide (Dct.Right l) = r at *
 have hn2 : ¬ 8 < (n : Int) := by omega
 have HK := zH (Kn.start w)
 go_enter Tryz.func91, Tryz.ntmps91
 go_wp2_with fail
 go_loopw [10] (fun vi wr => ∃ k : Nat, k ≤ n ∧ vi = .int .i64 k ∧ Hid (∀ i, i < k → Dct.Good l i) ∧ Hid (Kn w.heap.size w wr [] [])) (fun vi _ => n - (intOf vi).toNat)
 case atStart => exact ⟨0, Nat.zero_le _, rfl, zH (fun i hi => by omega), HK⟩
 case round =>
  clear HK
  obtain ⟨k, hk, rfl, HGo, HK⟩ := hrel
  by_cases hlt : k < n
  ·obtain ⟨x, hx, hf⟩ := HG.out k hlt
   obtain ⟨b, o, rfl, hat⟩ := HS.out.at (Nat.lt_of_le_of_lt (Nat.zero_le _) hlt)
   have HX := zH (fun W hW => hat W hW k x hx)
   have HPrev : Hid (∀ j, k = j + 1 → ∃ y, l[j]? = some y ∧ ∀ W, Below w.heap.size w W → ∀ i v, (prL y)[i]? = some v → W.cell? ⟨b, o + j * 5 + i, none⟩ = some v) := zH fun j hj => by
    obtain ⟨y, hy, _⟩ := HG.out j (by omega)
    exact ⟨y, hy, fun W hW => hat W hW j y hy⟩
   have HCk := zH (fun W => pchk_any x.key x.val W hf)
   have HIf : Hid (Dct.Good l k ↔ (Dct.pchk x.key x.val = 0 ∧ ∀ j y, k = j + 1 → l[j]? = some y → Dct.lt y.key x.key = true)) := zH ⟨fun h => h x hx, fun h x' hx' => by rw [hx] at hx'; injection hx' with hx'; subst hx'; exact h⟩
   clear hat hf hx
   obtain ⟨key, vk, vn, vf, vs⟩ := x
   unfold vv IsE at HCk
   simp only at HCk HIf
   generalize Dct.pchk key ⟨vk, vn, vf, vs⟩ = z at *
   have hk1 : (0 : Int) ≤ (k : Int) := by omega
   have hk2 : (k : Int) < (n : Int) := by omega
   go_wp2_with (first | (refine wpList_of_exec (v := .agg (prA ⟨key, vk, vn, vf, vs⟩)) (by rfl) (exec_lpr (off := o + k * 5) _ (by rfl) (by rfl) (HX.out _ HK.out.b)) ?_) | (refine wpList_akp HK rfl rfl ?_; intro _ g2 HK'; simp only [lnA] at HK'; replace HK := HK'; clear HK') | (refine wpList_sp (p1 := ⟨⟨#[]⟩, ⟨0, 0, 0, ⟨#[]⟩⟩⟩) HK 0 rfl _ _ rfl rfl rfl rfl ?_; intro _ HK'; simp only [List.set] at HK'; replace HK := HK'; clear HK'))
   unfold prA at HK
   simp only at HK
   by_cases hz : z = 0
   ·subst hz
    rcases Nat.eq_zero_or_pos k with rfl | hpos
    ·clear HPrev
     refine wp_region_held_drew (S := (fun W => Hid (Kn w.heap.size w W [(g2, 92, prC key vk vn vf vs)] []))) (by kernel_rfl) ?_ (fun hHeld => ?_)
     ·(try dsimp only); exact zH HK.out.drew
     refine wpAnyH_take (i := 0) (oi := ⟨some 15, _, _, _, _, _⟩) (v := ?_) rfl (by kernel_rfl) (by kernel_rfl) (by kernel_rfl) (fun _ _ _ h => h) (Or.inl ⟨by rfl, ?_⟩) (by assumption) ?_
     rotate_left
     ·(intro w hSw; (try dsimp only at hSw); go_simp; try with_reducible rfl)
     try simp only [Act.put, List.setIfInBounds_toArray, List.set_cons_zero, List.set_cons_succ]
     refine wpAnyH_take (i := 1) (oi := ⟨some 16, _, _, _, _, _⟩) (v := ?_) rfl (by kernel_rfl) (by kernel_rfl) (by kernel_rfl) (fun _ _ _ h => h) (Or.inl ⟨by rfl, ?_⟩) (by assumption) ?_
     rotate_left
     ·(intro w hSw; refine Eq.trans (kexec_ppk hSw 0 _ (by rfl) (by rfl) (by rfl)) ?_; with_reducible rfl)
     try simp only [Act.put, List.setIfInBounds_toArray, List.set_cons_zero, List.set_cons_succ]
     refine wpAnyH_take (i := 2) (oi := ⟨some 17, _, _, _, _, _⟩) (v := ?_) rfl (by kernel_rfl) (by kernel_rfl) (by kernel_rfl) (fun _ _ _ h => h) (Or.inl ⟨by rfl, ?_⟩) (by assumption) ?_
     rotate_left
     ·(intro w hSw; (try dsimp only at hSw); go_simp; try with_reducible rfl)
     try simp only [Act.put, List.setIfInBounds_toArray, List.set_cons_zero, List.set_cons_succ]
     refine wpAnyH_take (i := 3) (oi := ⟨some 18, _, _, _, _, _⟩) (v := ?_) rfl (by kernel_rfl) (by kernel_rfl) (by kernel_rfl) (fun _ _ _ h => h) (Or.inl ⟨by rfl, ?_⟩) (by assumption) ?_
     rotate_left
     ·(intro w hSw; refine Eq.trans (kexec_ppv hSw 0 _ (by rfl) (by rfl) (by rfl)) ?_; with_reducible rfl)
     try simp only [Act.put, List.setIfInBounds_toArray, List.set_cons_zero, List.set_cons_succ]
     refine wpAnyH_ready (rs := [4]) (by kernel_rfl) (by simp) ?_
     refine AllReadyH.cons (o := ⟨some 19, _, _, _, _, _⟩) rfl (fun K hK => ?_) AllReadyH.nil
     go_simp
     go_at_call 110
     refine (HCk.out _).mono ?_; rintro e w5 ⟨rfl, b5⟩; have hs := zH (hHeld.out.call b5); clear b5
     refine hK.out _ _ hs (fun hHeld => ?_)
     clear hK K
     try simp only [ap1, ap2, ap3, ap4, ap5]
     refine wpAnyH_take (i := 5) (oi := ⟨some 20, _, _, _, _, _⟩) (v := ?_) rfl (by kernel_rfl) (by kernel_rfl) (by kernel_rfl) (fun _ _ _ h => h) (Or.inl ⟨by rfl, ?_⟩) (by assumption) ?_
     rotate_left
     ·(intro w hSw; (try dsimp only at hSw); go_simp; try with_reducible rfl)
     try simp only [Act.put, List.setIfInBounds_toArray, List.set_cons_zero, List.set_cons_succ]
     refine wpAnyH_take (i := 6) (oi := ⟨some 21, _, _, _, _, _⟩) (v := ?_) rfl (by kernel_rfl) (by kernel_rfl) (by kernel_rfl) (fun _ _ _ h => h) (Or.inl ⟨by rfl, ?_⟩) (by assumption) ?_
     rotate_left
     ·(intro w hSw; (try dsimp only at hSw); go_simp; try with_reducible rfl)
     try simp only [Act.put, List.setIfInBounds_toArray, List.set_cons_zero, List.set_cons_succ]
     refine wpAnyH_take (i := 7) (oi := ⟨some 22, _, _, _, _, _⟩) (v := ?_) rfl (by kernel_rfl) (by kernel_rfl) (by kernel_rfl) (fun _ _ _ h => h) (Or.inl ⟨by rfl, ?_⟩) (by assumption) ?_
     rotate_left
     ·(intro w hSw; (try dsimp only at hSw); go_simp; try with_reducible rfl)
     try simp only [Act.put, List.setIfInBounds_toArray, List.set_cons_zero, List.set_cons_succ]
     refine wpAnyH_take (i := 8) (oi := ⟨some 23, _, _, _, _, _⟩) (v := ?_) rfl (by kernel_rfl) (by kernel_rfl) (by kernel_rfl) (fun _ _ _ h => h) (Or.inl ⟨by rfl, ?_⟩) (by assumption) ?_
     rotate_left
     ·(intro w hSw; (try dsimp only at hSw); go_simp; try with_reducible rfl)
     try simp only [Act.put, List.setIfInBounds_toArray, List.set_cons_zero, List.set_cons_succ]
     refine wpAnyH_take (i := 9) (oi := ⟨some 24, _, _, _, _, _⟩) (v := ?_) rfl (by kernel_rfl) (by kernel_rfl) (by kernel_rfl) (fun _ _ _ h => h) (Or.inl ⟨by rfl, ?_⟩) (by assumption) ?_
     rotate_left
     ·(intro w hSw; (try dsimp only at hSw); go_simp; try with_reducible rfl)
     try simp only [Act.put, List.setIfInBounds_toArray, List.set_cons_zero, List.set_cons_succ]
     refine wpAnyH_take (i := 10) (oi := ⟨some 25, _, _, _, _, _⟩) (v := undef) rfl (by kernel_rfl) (by kernel_rfl) (by kernel_rfl) (fun _ _ _ h => h) (Or.inr ⟨by rfl, rfl⟩) (by assumption) ?_
     try simp only [Act.put, List.setIfInBounds_toArray, List.set_cons_zero, List.set_cons_succ]
     refine wpAnyH_take (i := 11) (oi := ⟨some 26, _, _, _, _, _⟩) (v := undef) rfl (by kernel_rfl) (by kernel_rfl) (by kernel_rfl) (fun _ _ _ h => h) (Or.inr ⟨by rfl, rfl⟩) (by assumption) ?_
     try simp only [Act.put, List.setIfInBounds_toArray, List.set_cons_zero, List.set_cons_succ]
     refine wpAnyH_take (i := 12) (oi := ⟨some 27, _, _, _, _, _⟩) (v := undef) rfl (by kernel_rfl) (by kernel_rfl) (by kernel_rfl) (fun _ _ _ h => h) (Or.inr ⟨by rfl, rfl⟩) (by assumption) ?_
     try simp only [Act.put, List.setIfInBounds_toArray, List.set_cons_zero, List.set_cons_succ]
     refine wpAnyH_take (i := 13) (oi := ⟨some 28, _, _, _, _, _⟩) (v := undef) rfl (by kernel_rfl) (by kernel_rfl) (by kernel_rfl) (fun _ _ _ h => h) (Or.inr ⟨by rfl, rfl⟩) (by assumption) ?_
     try simp only [Act.put, List.setIfInBounds_toArray, List.set_cons_zero, List.set_cons_succ]
     refine wpAnyH_take (i := 14) (oi := ⟨some 29, _, _, _, _, _⟩) (v := undef) rfl (by kernel_rfl) (by kernel_rfl) (by kernel_rfl) (fun _ _ _ h => h) (Or.inr ⟨by rfl, rfl⟩) (by assumption) ?_
     try simp only [Act.put, List.setIfInBounds_toArray, List.set_cons_zero, List.set_cons_succ]
     refine wpAnyH_take (i := 15) (oi := ⟨some 30, _, _, _, _, _⟩) (v := undef) rfl (by kernel_rfl) (by kernel_rfl) (by kernel_rfl) (fun _ _ _ h => h) (Or.inr ⟨by rfl, rfl⟩) (by assumption) ?_
     try simp only [Act.put, List.setIfInBounds_toArray, List.set_cons_zero, List.set_cons_succ]
     refine wpAnyH_take (i := 16) (oi := ⟨some 31, _, _, _, _, _⟩) (v := undef) rfl (by kernel_rfl) (by kernel_rfl) (by kernel_rfl) (fun _ _ _ h => h) (Or.inr ⟨by rfl, rfl⟩) (by assumption) ?_
     try simp only [Act.put, List.setIfInBounds_toArray, List.set_cons_zero, List.set_cons_succ]
     refine wpAnyH_take (i := 17) (oi := ⟨some 32, _, _, _, _, _⟩) (v := undef) rfl (by kernel_rfl) (by kernel_rfl) (by kernel_rfl) (fun _ _ _ h => h) (Or.inr ⟨by rfl, rfl⟩) (by assumption) ?_
     try simp only [Act.put, List.setIfInBounds_toArray, List.set_cons_zero, List.set_cons_succ]
     refine wpAnyH_take (i := 18) (oi := ⟨some 33, _, _, _, _, _⟩) (v := undef) rfl (by kernel_rfl) (by kernel_rfl) (by kernel_rfl) (fun _ _ _ h => h) (Or.inr ⟨by rfl, rfl⟩) (by assumption) ?_
     try simp only [Act.put, List.setIfInBounds_toArray, List.set_cons_zero, List.set_cons_succ]
     refine wpAnyH_take (i := 19) (oi := ⟨some 34, _, _, _, _, _⟩) (v := ?_) rfl (by kernel_rfl) (by kernel_rfl) (by kernel_rfl) (fun _ _ _ h => h) (Or.inl ⟨by rfl, ?_⟩) (by assumption) ?_
     rotate_left
     ·(intro w hSw; (try dsimp only at hSw); go_simp; try with_reducible rfl)
     try simp only [Act.put, List.setIfInBounds_toArray, List.set_cons_zero, List.set_cons_succ]
     refine wpAnyH_take (i := 20) (oi := ⟨some 35, _, _, _, _, _⟩) (v := ?_) rfl (by kernel_rfl) (by kernel_rfl) (by kernel_rfl) (fun _ _ _ h => h) (Or.inl ⟨by rfl, ?_⟩) (by assumption) ?_
     rotate_left
     ·(intro w hSw; (try dsimp only at hSw); go_simp; try with_reducible rfl)
     try simp only [Act.put, List.setIfInBounds_toArray, List.set_cons_zero, List.set_cons_succ]
     refine wpAnyH_done (by kernel_rfl) ?_ _
     go_wp2_with fail
     exact ⟨⟨1, by omega, by go_num, zH (fun i hi => by
      obtain rfl : i = 0 := by omega
      exact HIf.out.2 ⟨rfl, fun j y h _ => by omega⟩), zH (hHeld.out.takeL 0)⟩, by simp [intOf]; omega⟩
    ·obtain ⟨j, rfl⟩ : ∃ j, k = j + 1 := ⟨k - 1, by omega⟩
     clear hpos
     obtain ⟨y, hy, hyc⟩ := HPrev.out j rfl
     have HY := zH hyc
     have HYl := zH hy
     clear hy hyc HPrev
     have hj : j < n := by omega
     have hj2 : j < 9223372036854775807 := by omega
     have hj3 : ((j + 1 : Nat) : Int) > 0 := by omega
     cases hlt2 : Dct.lt y.key key with
     | true =>
      have hb : (!Dct.lt y.key key) = false := by rw [hlt2]; rfl
      refine wp_region_held_drew (S := (fun W => Hid (Kn w.heap.size w W [(g2, 92, prC key vk vn vf vs)] []))) (by kernel_rfl) ?_ (fun hHeld => ?_)
      ·(try dsimp only); exact zH HK.out.drew
      refine wpAnyH_take (i := 0) (oi := ⟨some 15, _, _, _, _, _⟩) (v := ?_) rfl (by kernel_rfl) (by kernel_rfl) (by kernel_rfl) (fun _ _ _ h => h) (Or.inl ⟨by rfl, ?_⟩) (by assumption) ?_
      rotate_left
      ·(intro w hSw; (try dsimp only at hSw); go_simp; try with_reducible rfl)
      try simp only [Act.put, List.setIfInBounds_toArray, List.set_cons_zero, List.set_cons_succ]
      refine wpAnyH_take (i := 1) (oi := ⟨some 16, _, _, _, _, _⟩) (v := ?_) rfl (by kernel_rfl) (by kernel_rfl) (by kernel_rfl) (fun _ _ _ h => h) (Or.inl ⟨by rfl, ?_⟩) (by assumption) ?_
      rotate_left
      ·(intro w hSw; refine Eq.trans (kexec_ppk hSw 0 _ (by rfl) (by rfl) (by rfl)) ?_; with_reducible rfl)
      try simp only [Act.put, List.setIfInBounds_toArray, List.set_cons_zero, List.set_cons_succ]
      refine wpAnyH_take (i := 2) (oi := ⟨some 17, _, _, _, _, _⟩) (v := ?_) rfl (by kernel_rfl) (by kernel_rfl) (by kernel_rfl) (fun _ _ _ h => h) (Or.inl ⟨by rfl, ?_⟩) (by assumption) ?_
      rotate_left
      ·(intro w hSw; (try dsimp only at hSw); go_simp; try with_reducible rfl)
      try simp only [Act.put, List.setIfInBounds_toArray, List.set_cons_zero, List.set_cons_succ]
      refine wpAnyH_take (i := 3) (oi := ⟨some 18, _, _, _, _, _⟩) (v := ?_) rfl (by kernel_rfl) (by kernel_rfl) (by kernel_rfl) (fun _ _ _ h => h) (Or.inl ⟨by rfl, ?_⟩) (by assumption) ?_
      rotate_left
      ·(intro w hSw; refine Eq.trans (kexec_ppv hSw 0 _ (by rfl) (by rfl) (by rfl)) ?_; with_reducible rfl)
      try simp only [Act.put, List.setIfInBounds_toArray, List.set_cons_zero, List.set_cons_succ]
      refine wpAnyH_ready (rs := [4]) (by kernel_rfl) (by simp) ?_
      refine AllReadyH.cons (o := ⟨some 19, _, _, _, _, _⟩) rfl (fun K hK => ?_) AllReadyH.nil
      go_simp
      go_at_call 110
      refine (HCk.out _).mono ?_; rintro e w5 ⟨rfl, b5⟩; have hs := zH (hHeld.out.call b5); clear b5
      refine hK.out _ _ hs (fun hHeld => ?_)
      clear hK K
      try simp only [ap1, ap2, ap3, ap4, ap5]
      refine wpAnyH_take (i := 5) (oi := ⟨some 20, _, _, _, _, _⟩) (v := ?_) rfl (by kernel_rfl) (by kernel_rfl) (by kernel_rfl) (fun _ _ _ h => h) (Or.inl ⟨by rfl, ?_⟩) (by assumption) ?_
      rotate_left
      ·(intro w hSw; (try dsimp only at hSw); go_simp; try with_reducible rfl)
      try simp only [Act.put, List.setIfInBounds_toArray, List.set_cons_zero, List.set_cons_succ]
      refine wpAnyH_take (i := 6) (oi := ⟨some 21, _, _, _, _, _⟩) (v := ?_) rfl (by kernel_rfl) (by kernel_rfl) (by kernel_rfl) (fun _ _ _ h => h) (Or.inl ⟨by rfl, ?_⟩) (by assumption) ?_
      rotate_left
      ·(intro w hSw; (try dsimp only at hSw); go_simp; try with_reducible rfl)
      try simp only [Act.put, List.setIfInBounds_toArray, List.set_cons_zero, List.set_cons_succ]
      refine wpAnyH_take (i := 7) (oi := ⟨some 22, _, _, _, _, _⟩) (v := ?_) rfl (by kernel_rfl) (by kernel_rfl) (by kernel_rfl) (fun _ _ _ h => h) (Or.inl ⟨by rfl, ?_⟩) (by assumption) ?_
      rotate_left
      ·(intro w hSw; (try dsimp only at hSw); go_simp; try with_reducible rfl)
      try simp only [Act.put, List.setIfInBounds_toArray, List.set_cons_zero, List.set_cons_succ]
      refine wpAnyH_take (i := 8) (oi := ⟨some 23, _, _, _, _, _⟩) (v := ?_) rfl (by kernel_rfl) (by kernel_rfl) (by kernel_rfl) (fun _ _ _ h => h) (Or.inl ⟨by rfl, ?_⟩) (by assumption) ?_
      rotate_left
      ·(intro w hSw; (try dsimp only at hSw); go_simp; try with_reducible rfl)
      try simp only [Act.put, List.setIfInBounds_toArray, List.set_cons_zero, List.set_cons_succ]
      refine wpAnyH_take (i := 9) (oi := ⟨some 24, _, _, _, _, _⟩) (v := ?_) rfl (by kernel_rfl) (by kernel_rfl) (by kernel_rfl) (fun _ _ _ h => h) (Or.inl ⟨by rfl, ?_⟩) (by assumption) ?_
      rotate_left
      ·(intro w hSw; (try dsimp only at hSw); go_simp; try with_reducible rfl)
      try simp only [Act.put, List.setIfInBounds_toArray, List.set_cons_zero, List.set_cons_succ]
      refine wpAnyH_take (i := 10) (oi := ⟨some 25, _, _, _, _, _⟩) (v := ?_) rfl (by kernel_rfl) (by kernel_rfl) (by kernel_rfl) (fun _ _ _ h => h) (Or.inl ⟨by rfl, ?_⟩) (by assumption) ?_
      rotate_left
      ·(intro w hSw; (try dsimp only at hSw); go_simp; try with_reducible rfl)
      try simp only [Act.put, List.setIfInBounds_toArray, List.set_cons_zero, List.set_cons_succ]
      refine wpAnyH_take (i := 11) (oi := ⟨some 26, _, _, _, _, _⟩) (v := ?_) rfl (by kernel_rfl) (by kernel_rfl) (by kernel_rfl) (fun _ _ _ h => h) (Or.inl ⟨by rfl, ?_⟩) (by assumption) ?_
      rotate_left
      ·(intro w hSw; refine Eq.trans (kexec_ppk hSw 0 _ (by rfl) (by rfl) (by rfl)) ?_; with_reducible rfl)
      try simp only [Act.put, List.setIfInBounds_toArray, List.set_cons_zero, List.set_cons_succ]
      refine wpAnyH_take (i := 12) (oi := ⟨some 27, _, _, _, _, _⟩) (v := ?_) rfl (by kernel_rfl) (by kernel_rfl) (by kernel_rfl) (fun _ _ _ h => h) (Or.inl ⟨by rfl, ?_⟩) (by assumption) ?_
      rotate_left
      ·(intro w hSw; (try dsimp only at hSw); go_simp; try with_reducible rfl)
      try simp only [Act.put, List.setIfInBounds_toArray, List.set_cons_zero, List.set_cons_succ]
      refine wpAnyH_take (i := 13) (oi := ⟨some 28, _, _, _, _, _⟩) (v := ?_) rfl (by kernel_rfl) (by kernel_rfl) (by kernel_rfl) (fun _ _ _ h => h) (Or.inl ⟨by rfl, ?_⟩) (by assumption) ?_
      rotate_left
      ·(intro w hSw; (try dsimp only at hSw); go_simp; try with_reducible rfl)
      try simp only [Act.put, List.setIfInBounds_toArray, List.set_cons_zero, List.set_cons_succ]
      refine wpAnyH_take (i := 14) (oi := ⟨some 29, _, _, _, _, _⟩) (v := ?_) rfl (by kernel_rfl) (by kernel_rfl) (by kernel_rfl) (fun _ _ _ h => h) (Or.inl ⟨by rfl, ?_⟩) (by assumption) ?_
      rotate_left
      ·(intro w hSw; refine Eq.trans (exec_sub1 (j := j) _ (by rfl) (by rfl) hj2) ?_; with_reducible rfl)
      try simp only [Act.put, List.setIfInBounds_toArray, List.set_cons_zero, List.set_cons_succ]
      refine wpAnyH_take (i := 15) (oi := ⟨some 30, _, _, _, _, _⟩) (v := ?_) rfl (by kernel_rfl) (by kernel_rfl) (by kernel_rfl) (fun _ _ _ h => h) (Or.inl ⟨by rfl, ?_⟩) (by assumption) ?_
      rotate_left
      ·(intro w hSw; refine Eq.trans (exec_ix (i := j) _ _ (by rfl) (by rfl) (by rfl) hj) ?_; with_reducible rfl)
      try simp only [Act.put, List.setIfInBounds_toArray, List.set_cons_zero, List.set_cons_succ]
      refine wpAnyH_take (i := 16) (oi := ⟨some 31, _, _, _, _, _⟩) (v := ?_) rfl (by kernel_rfl) (by kernel_rfl) (by kernel_rfl) (fun _ _ _ h => h) (Or.inl ⟨by rfl, ?_⟩) (by assumption) ?_
      rotate_left
      ·(intro w hSw; (try dsimp only at hSw); go_simp; try with_reducible rfl)
      try simp only [Act.put, List.setIfInBounds_toArray, List.set_cons_zero, List.set_cons_succ]
      refine wpAnyH_take (i := 17) (oi := ⟨some 32, _, _, _, _, _⟩) (v := ?_) rfl (by kernel_rfl) (by kernel_rfl) (by kernel_rfl) (fun _ _ _ h => h) (Or.inl ⟨by rfl, ?_⟩) (by assumption) ?_
      rotate_left
      ·(intro w hSw; refine Eq.trans (exec_lpk (off := o + j * 5) _ (by rfl) (by rfl) (HY.out _ hSw.out.b)) ?_; with_reducible rfl)
      try simp only [Act.put, List.setIfInBounds_toArray, List.set_cons_zero, List.set_cons_succ]
      refine wpAnyH_take (i := 18) (oi := ⟨some 33, _, _, _, _, _⟩) (v := ?_) rfl (by kernel_rfl) (by kernel_rfl) (by kernel_rfl) (fun _ _ _ h => h) (Or.inl ⟨by rfl, ?_⟩) (by assumption) ?_
      rotate_left
      ·(intro w hSw; refine Eq.trans (exec_sle _ _ (by rfl) (by rfl) (by rfl) hb) ?_; with_reducible rfl)
      try simp only [Act.put, List.setIfInBounds_toArray, List.set_cons_zero, List.set_cons_succ]
      refine wpAnyH_take (i := 19) (oi := ⟨some 34, _, _, _, _, _⟩) (v := ?_) rfl (by kernel_rfl) (by kernel_rfl) (by kernel_rfl) (fun _ _ _ h => h) (Or.inl ⟨by rfl, ?_⟩) (by assumption) ?_
      rotate_left
      ·(intro w hSw; (try dsimp only at hSw); go_simp; try with_reducible rfl)
      try simp only [Act.put, List.setIfInBounds_toArray, List.set_cons_zero, List.set_cons_succ]
      refine wpAnyH_take (i := 20) (oi := ⟨some 35, _, _, _, _, _⟩) (v := ?_) rfl (by kernel_rfl) (by kernel_rfl) (by kernel_rfl) (fun _ _ _ h => h) (Or.inl ⟨by rfl, ?_⟩) (by assumption) ?_
      rotate_left
      ·(intro w hSw; (try dsimp only at hSw); go_simp; try with_reducible rfl)
      try simp only [Act.put, List.setIfInBounds_toArray, List.set_cons_zero, List.set_cons_succ]
      refine wpAnyH_done (by kernel_rfl) ?_ _
      go_wp2_with fail
      exact ⟨⟨j + 2, by omega, by go_num, zH (fun i hi => by
       by_cases hij : i = j + 1
       ·subst hij
        refine HIf.out.2 ⟨rfl, fun j' y' h h' => ?_⟩
        obtain rfl : j = j' := by omega
        rw [HYl.out] at h'
        injection h' with h'
        subst h'
        exact hlt2
       ·exact HGo.out i (by omega)), zH (hHeld.out.takeL 0)⟩, by simp [intOf]; omega⟩
     | false =>
      have hb : (!Dct.lt y.key key) = true := by rw [hlt2]; rfl
      have HR : Hid (r = false) := zH (HNo.out _ hlt fun h => by
       have := (HIf.out.1 h).2 j y rfl HYl.out
       rw [hlt2] at this; cases this)
      refine wp_region_held_drew (S := (fun W => Hid (Kn w.heap.size w W [(g2, 92, prC key vk vn vf vs)] []))) (by kernel_rfl) ?_ (fun hHeld => ?_)
      ·(try dsimp only); exact zH HK.out.drew
      refine wpAnyH_take (i := 0) (oi := ⟨some 15, _, _, _, _, _⟩) (v := ?_) rfl (by kernel_rfl) (by kernel_rfl) (by kernel_rfl) (fun _ _ _ h => h) (Or.inl ⟨by rfl, ?_⟩) (by assumption) ?_
      rotate_left
      ·(intro w hSw; (try dsimp only at hSw); go_simp; try with_reducible rfl)
      try simp only [Act.put, List.setIfInBounds_toArray, List.set_cons_zero, List.set_cons_succ]
      refine wpAnyH_take (i := 1) (oi := ⟨some 16, _, _, _, _, _⟩) (v := ?_) rfl (by kernel_rfl) (by kernel_rfl) (by kernel_rfl) (fun _ _ _ h => h) (Or.inl ⟨by rfl, ?_⟩) (by assumption) ?_
      rotate_left
      ·(intro w hSw; refine Eq.trans (kexec_ppk hSw 0 _ (by rfl) (by rfl) (by rfl)) ?_; with_reducible rfl)
      try simp only [Act.put, List.setIfInBounds_toArray, List.set_cons_zero, List.set_cons_succ]
      refine wpAnyH_take (i := 2) (oi := ⟨some 17, _, _, _, _, _⟩) (v := ?_) rfl (by kernel_rfl) (by kernel_rfl) (by kernel_rfl) (fun _ _ _ h => h) (Or.inl ⟨by rfl, ?_⟩) (by assumption) ?_
      rotate_left
      ·(intro w hSw; (try dsimp only at hSw); go_simp; try with_reducible rfl)
      try simp only [Act.put, List.setIfInBounds_toArray, List.set_cons_zero, List.set_cons_succ]
      refine wpAnyH_take (i := 3) (oi := ⟨some 18, _, _, _, _, _⟩) (v := ?_) rfl (by kernel_rfl) (by kernel_rfl) (by kernel_rfl) (fun _ _ _ h => h) (Or.inl ⟨by rfl, ?_⟩) (by assumption) ?_
      rotate_left
      ·(intro w hSw; refine Eq.trans (kexec_ppv hSw 0 _ (by rfl) (by rfl) (by rfl)) ?_; with_reducible rfl)
      try simp only [Act.put, List.setIfInBounds_toArray, List.set_cons_zero, List.set_cons_succ]
      refine wpAnyH_ready (rs := [4]) (by kernel_rfl) (by simp) ?_
      refine AllReadyH.cons (o := ⟨some 19, _, _, _, _, _⟩) rfl (fun K hK => ?_) AllReadyH.nil
      go_simp
      go_at_call 110
      refine (HCk.out _).mono ?_; rintro e w5 ⟨rfl, b5⟩; have hs := zH (hHeld.out.call b5); clear b5
      refine hK.out _ _ hs (fun hHeld => ?_)
      clear hK K
      try simp only [ap1, ap2, ap3, ap4, ap5]
      refine wpAnyH_take (i := 5) (oi := ⟨some 20, _, _, _, _, _⟩) (v := ?_) rfl (by kernel_rfl) (by kernel_rfl) (by kernel_rfl) (fun _ _ _ h => h) (Or.inl ⟨by rfl, ?_⟩) (by assumption) ?_
      rotate_left
      ·(intro w hSw; (try dsimp only at hSw); go_simp; try with_reducible rfl)
      try simp only [Act.put, List.setIfInBounds_toArray, List.set_cons_zero, List.set_cons_succ]
      refine wpAnyH_take (i := 6) (oi := ⟨some 21, _, _, _, _, _⟩) (v := ?_) rfl (by kernel_rfl) (by kernel_rfl) (by kernel_rfl) (fun _ _ _ h => h) (Or.inl ⟨by rfl, ?_⟩) (by assumption) ?_
      rotate_left
      ·(intro w hSw; (try dsimp only at hSw); go_simp; try with_reducible rfl)
      try simp only [Act.put, List.setIfInBounds_toArray, List.set_cons_zero, List.set_cons_succ]
      refine wpAnyH_take (i := 7) (oi := ⟨some 22, _, _, _, _, _⟩) (v := ?_) rfl (by kernel_rfl) (by kernel_rfl) (by kernel_rfl) (fun _ _ _ h => h) (Or.inl ⟨by rfl, ?_⟩) (by assumption) ?_
      rotate_left
      ·(intro w hSw; (try dsimp only at hSw); go_simp; try with_reducible rfl)
      try simp only [Act.put, List.setIfInBounds_toArray, List.set_cons_zero, List.set_cons_succ]
      refine wpAnyH_take (i := 8) (oi := ⟨some 23, _, _, _, _, _⟩) (v := ?_) rfl (by kernel_rfl) (by kernel_rfl) (by kernel_rfl) (fun _ _ _ h => h) (Or.inl ⟨by rfl, ?_⟩) (by assumption) ?_
      rotate_left
      ·(intro w hSw; (try dsimp only at hSw); go_simp; try with_reducible rfl)
      try simp only [Act.put, List.setIfInBounds_toArray, List.set_cons_zero, List.set_cons_succ]
      refine wpAnyH_take (i := 9) (oi := ⟨some 24, _, _, _, _, _⟩) (v := ?_) rfl (by kernel_rfl) (by kernel_rfl) (by kernel_rfl) (fun _ _ _ h => h) (Or.inl ⟨by rfl, ?_⟩) (by assumption) ?_
      rotate_left
      ·(intro w hSw; (try dsimp only at hSw); go_simp; try with_reducible rfl)
      try simp only [Act.put, List.setIfInBounds_toArray, List.set_cons_zero, List.set_cons_succ]
      refine wpAnyH_take (i := 10) (oi := ⟨some 25, _, _, _, _, _⟩) (v := ?_) rfl (by kernel_rfl) (by kernel_rfl) (by kernel_rfl) (fun _ _ _ h => h) (Or.inl ⟨by rfl, ?_⟩) (by assumption) ?_
      rotate_left
      ·(intro w hSw; (try dsimp only at hSw); go_simp; try with_reducible rfl)
      try simp only [Act.put, List.setIfInBounds_toArray, List.set_cons_zero, List.set_cons_succ]
      refine wpAnyH_take (i := 11) (oi := ⟨some 26, _, _, _, _, _⟩) (v := ?_) rfl (by kernel_rfl) (by kernel_rfl) (by kernel_rfl) (fun _ _ _ h => h) (Or.inl ⟨by rfl, ?_⟩) (by assumption) ?_
      rotate_left
      ·(intro w hSw; refine Eq.trans (kexec_ppk hSw 0 _ (by rfl) (by rfl) (by rfl)) ?_; with_reducible rfl)
      try simp only [Act.put, List.setIfInBounds_toArray, List.set_cons_zero, List.set_cons_succ]
      refine wpAnyH_take (i := 12) (oi := ⟨some 27, _, _, _, _, _⟩) (v := ?_) rfl (by kernel_rfl) (by kernel_rfl) (by kernel_rfl) (fun _ _ _ h => h) (Or.inl ⟨by rfl, ?_⟩) (by assumption) ?_
      rotate_left
      ·(intro w hSw; (try dsimp only at hSw); go_simp; try with_reducible rfl)
      try simp only [Act.put, List.setIfInBounds_toArray, List.set_cons_zero, List.set_cons_succ]
      refine wpAnyH_take (i := 13) (oi := ⟨some 28, _, _, _, _, _⟩) (v := ?_) rfl (by kernel_rfl) (by kernel_rfl) (by kernel_rfl) (fun _ _ _ h => h) (Or.inl ⟨by rfl, ?_⟩) (by assumption) ?_
      rotate_left
      ·(intro w hSw; (try dsimp only at hSw); go_simp; try with_reducible rfl)
      try simp only [Act.put, List.setIfInBounds_toArray, List.set_cons_zero, List.set_cons_succ]
      refine wpAnyH_take (i := 14) (oi := ⟨some 29, _, _, _, _, _⟩) (v := ?_) rfl (by kernel_rfl) (by kernel_rfl) (by kernel_rfl) (fun _ _ _ h => h) (Or.inl ⟨by rfl, ?_⟩) (by assumption) ?_
      rotate_left
      ·(intro w hSw; refine Eq.trans (exec_sub1 (j := j) _ (by rfl) (by rfl) hj2) ?_; with_reducible rfl)
      try simp only [Act.put, List.setIfInBounds_toArray, List.set_cons_zero, List.set_cons_succ]
      refine wpAnyH_take (i := 15) (oi := ⟨some 30, _, _, _, _, _⟩) (v := ?_) rfl (by kernel_rfl) (by kernel_rfl) (by kernel_rfl) (fun _ _ _ h => h) (Or.inl ⟨by rfl, ?_⟩) (by assumption) ?_
      rotate_left
      ·(intro w hSw; refine Eq.trans (exec_ix (i := j) _ _ (by rfl) (by rfl) (by rfl) hj) ?_; with_reducible rfl)
      try simp only [Act.put, List.setIfInBounds_toArray, List.set_cons_zero, List.set_cons_succ]
      refine wpAnyH_take (i := 16) (oi := ⟨some 31, _, _, _, _, _⟩) (v := ?_) rfl (by kernel_rfl) (by kernel_rfl) (by kernel_rfl) (fun _ _ _ h => h) (Or.inl ⟨by rfl, ?_⟩) (by assumption) ?_
      rotate_left
      ·(intro w hSw; (try dsimp only at hSw); go_simp; try with_reducible rfl)
      try simp only [Act.put, List.setIfInBounds_toArray, List.set_cons_zero, List.set_cons_succ]
      refine wpAnyH_take (i := 17) (oi := ⟨some 32, _, _, _, _, _⟩) (v := ?_) rfl (by kernel_rfl) (by kernel_rfl) (by kernel_rfl) (fun _ _ _ h => h) (Or.inl ⟨by rfl, ?_⟩) (by assumption) ?_
      rotate_left
      ·(intro w hSw; refine Eq.trans (exec_lpk (off := o + j * 5) _ (by rfl) (by rfl) (HY.out _ hSw.out.b)) ?_; with_reducible rfl)
      try simp only [Act.put, List.setIfInBounds_toArray, List.set_cons_zero, List.set_cons_succ]
      refine wpAnyH_take (i := 18) (oi := ⟨some 33, _, _, _, _, _⟩) (v := ?_) rfl (by kernel_rfl) (by kernel_rfl) (by kernel_rfl) (fun _ _ _ h => h) (Or.inl ⟨by rfl, ?_⟩) (by assumption) ?_
      rotate_left
      ·(intro w hSw; refine Eq.trans (exec_sle _ _ (by rfl) (by rfl) (by rfl) hb) ?_; with_reducible rfl)
      try simp only [Act.put, List.setIfInBounds_toArray, List.set_cons_zero, List.set_cons_succ]
      refine wpAnyH_take (i := 19) (oi := ⟨some 34, _, _, _, _, _⟩) (v := ?_) rfl (by kernel_rfl) (by kernel_rfl) (by kernel_rfl) (fun _ _ _ h => h) (Or.inl ⟨by rfl, ?_⟩) (by assumption) ?_
      rotate_left
      ·(intro w hSw; (try dsimp only at hSw); go_simp; try with_reducible rfl)
      try simp only [Act.put, List.setIfInBounds_toArray, List.set_cons_zero, List.set_cons_succ]
      refine wpAnyH_take (i := 20) (oi := ⟨some 35, _, _, _, _, _⟩) (v := ?_) rfl (by kernel_rfl) (by kernel_rfl) (by kernel_rfl) (fun _ _ _ h => h) (Or.inl ⟨by rfl, ?_⟩) (by assumption) ?_
      rotate_left
      ·(intro w hSw; (try dsimp only at hSw); go_simp; try with_reducible rfl)
      try simp only [Act.put, List.setIfInBounds_toArray, List.set_cons_zero, List.set_cons_succ]
      refine wpAnyH_done (by kernel_rfl) ?_ _
      go_wp2_with fail
      go_ret
      exact ⟨by rw [HR.out] <;> rfl, hHeld.out.b⟩
   ·have HR : Hid (r = false) := zH (HNo.out k hlt fun h => hz (HIf.out.1 h).1)
    have hz2 : (z != 0) = true := by simpa using hz
    refine wp_region_held_drew (S := (fun W => Hid (Kn w.heap.size w W [(g2, 92, prC key vk vn vf vs)] []))) (by kernel_rfl) ?_ (fun hHeld => ?_)
    ·(try dsimp only); exact zH HK.out.drew
    refine wpAnyH_take (i := 0) (oi := ⟨some 15, _, _, _, _, _⟩) (v := ?_) rfl (by kernel_rfl) (by kernel_rfl) (by kernel_rfl) (fun _ _ _ h => h) (Or.inl ⟨by rfl, ?_⟩) (by assumption) ?_
    rotate_left
    ·(intro w hSw; (try dsimp only at hSw); go_simp; try with_reducible rfl)
    try simp only [Act.put, List.setIfInBounds_toArray, List.set_cons_zero, List.set_cons_succ]
    refine wpAnyH_take (i := 1) (oi := ⟨some 16, _, _, _, _, _⟩) (v := ?_) rfl (by kernel_rfl) (by kernel_rfl) (by kernel_rfl) (fun _ _ _ h => h) (Or.inl ⟨by rfl, ?_⟩) (by assumption) ?_
    rotate_left
    ·(intro w hSw; refine Eq.trans (kexec_ppk hSw 0 _ (by rfl) (by rfl) (by rfl)) ?_; with_reducible rfl)
    try simp only [Act.put, List.setIfInBounds_toArray, List.set_cons_zero, List.set_cons_succ]
    refine wpAnyH_take (i := 2) (oi := ⟨some 17, _, _, _, _, _⟩) (v := ?_) rfl (by kernel_rfl) (by kernel_rfl) (by kernel_rfl) (fun _ _ _ h => h) (Or.inl ⟨by rfl, ?_⟩) (by assumption) ?_
    rotate_left
    ·(intro w hSw; (try dsimp only at hSw); go_simp; try with_reducible rfl)
    try simp only [Act.put, List.setIfInBounds_toArray, List.set_cons_zero, List.set_cons_succ]
    refine wpAnyH_take (i := 3) (oi := ⟨some 18, _, _, _, _, _⟩) (v := ?_) rfl (by kernel_rfl) (by kernel_rfl) (by kernel_rfl) (fun _ _ _ h => h) (Or.inl ⟨by rfl, ?_⟩) (by assumption) ?_
    rotate_left
    ·(intro w hSw; refine Eq.trans (kexec_ppv hSw 0 _ (by rfl) (by rfl) (by rfl)) ?_; with_reducible rfl)
    try simp only [Act.put, List.setIfInBounds_toArray, List.set_cons_zero, List.set_cons_succ]
    refine wpAnyH_ready (rs := [4]) (by kernel_rfl) (by simp) ?_
    refine AllReadyH.cons (o := ⟨some 19, _, _, _, _, _⟩) rfl (fun K hK => ?_) AllReadyH.nil
    go_simp
    go_at_call 110
    refine (HCk.out _).mono ?_; rintro e w5 ⟨rfl, b5⟩; have hs := zH (hHeld.out.call b5); clear b5
    refine hK.out _ _ hs (fun hHeld => ?_)
    clear hK K
    try simp only [ap1, ap2, ap3, ap4, ap5]
    refine wpAnyH_take (i := 5) (oi := ⟨some 20, _, _, _, _, _⟩) (v := ?_) rfl (by kernel_rfl) (by kernel_rfl) (by kernel_rfl) (fun _ _ _ h => h) (Or.inl ⟨by rfl, ?_⟩) (by assumption) ?_
    rotate_left
    ·(intro w hSw; (try dsimp only at hSw); go_simp; try with_reducible rfl)
    try simp only [Act.put, List.setIfInBounds_toArray, List.set_cons_zero, List.set_cons_succ]
    refine wpAnyH_take (i := 6) (oi := ⟨some 21, _, _, _, _, _⟩) (v := ?_) rfl (by kernel_rfl) (by kernel_rfl) (by kernel_rfl) (fun _ _ _ h => h) (Or.inl ⟨by rfl, ?_⟩) (by assumption) ?_
    rotate_left
    ·(intro w hSw; (try dsimp only at hSw); go_simp; try with_reducible rfl)
    try simp only [Act.put, List.setIfInBounds_toArray, List.set_cons_zero, List.set_cons_succ]
    refine wpAnyH_take (i := 7) (oi := ⟨some 22, _, _, _, _, _⟩) (v := undef) rfl (by kernel_rfl) (by kernel_rfl) (by kernel_rfl) (fun _ _ _ h => h) (Or.inr ⟨by rfl, rfl⟩) (by assumption) ?_
    try simp only [Act.put, List.setIfInBounds_toArray, List.set_cons_zero, List.set_cons_succ]
    refine wpAnyH_take (i := 8) (oi := ⟨some 23, _, _, _, _, _⟩) (v := undef) rfl (by kernel_rfl) (by kernel_rfl) (by kernel_rfl) (fun _ _ _ h => h) (Or.inr ⟨by rfl, rfl⟩) (by assumption) ?_
    try simp only [Act.put, List.setIfInBounds_toArray, List.set_cons_zero, List.set_cons_succ]
    refine wpAnyH_take (i := 9) (oi := ⟨some 24, _, _, _, _, _⟩) (v := undef) rfl (by kernel_rfl) (by kernel_rfl) (by kernel_rfl) (fun _ _ _ h => h) (Or.inr ⟨by rfl, rfl⟩) (by assumption) ?_
    try simp only [Act.put, List.setIfInBounds_toArray, List.set_cons_zero, List.set_cons_succ]
    refine wpAnyH_take (i := 10) (oi := ⟨some 25, _, _, _, _, _⟩) (v := undef) rfl (by kernel_rfl) (by kernel_rfl) (by kernel_rfl) (fun _ _ _ h => h) (Or.inr ⟨by rfl, rfl⟩) (by assumption) ?_
    try simp only [Act.put, List.setIfInBounds_toArray, List.set_cons_zero, List.set_cons_succ]
    refine wpAnyH_take (i := 11) (oi := ⟨some 26, _, _, _, _, _⟩) (v := undef) rfl (by kernel_rfl) (by kernel_rfl) (by kernel_rfl) (fun _ _ _ h => h) (Or.inr ⟨by rfl, rfl⟩) (by assumption) ?_
    try simp only [Act.put, List.setIfInBounds_toArray, List.set_cons_zero, List.set_cons_succ]
    refine wpAnyH_take (i := 12) (oi := ⟨some 27, _, _, _, _, _⟩) (v := undef) rfl (by kernel_rfl) (by kernel_rfl) (by kernel_rfl) (fun _ _ _ h => h) (Or.inr ⟨by rfl, rfl⟩) (by assumption) ?_
    try simp only [Act.put, List.setIfInBounds_toArray, List.set_cons_zero, List.set_cons_succ]
    refine wpAnyH_take (i := 13) (oi := ⟨some 28, _, _, _, _, _⟩) (v := undef) rfl (by kernel_rfl) (by kernel_rfl) (by kernel_rfl) (fun _ _ _ h => h) (Or.inr ⟨by rfl, rfl⟩) (by assumption) ?_
    try simp only [Act.put, List.setIfInBounds_toArray, List.set_cons_zero, List.set_cons_succ]
    refine wpAnyH_take (i := 14) (oi := ⟨some 29, _, _, _, _, _⟩) (v := undef) rfl (by kernel_rfl) (by kernel_rfl) (by kernel_rfl) (fun _ _ _ h => h) (Or.inr ⟨by rfl, rfl⟩) (by assumption) ?_
    try simp only [Act.put, List.setIfInBounds_toArray, List.set_cons_zero, List.set_cons_succ]
    refine wpAnyH_take (i := 15) (oi := ⟨some 30, _, _, _, _, _⟩) (v := undef) rfl (by kernel_rfl) (by kernel_rfl) (by kernel_rfl) (fun _ _ _ h => h) (Or.inr ⟨by rfl, rfl⟩) (by assumption) ?_
    try simp only [Act.put, List.setIfInBounds_toArray, List.set_cons_zero, List.set_cons_succ]
    refine wpAnyH_take (i := 16) (oi := ⟨some 31, _, _, _, _, _⟩) (v := undef) rfl (by kernel_rfl) (by kernel_rfl) (by kernel_rfl) (fun _ _ _ h => h) (Or.inr ⟨by rfl, rfl⟩) (by assumption) ?_
    try simp only [Act.put, List.setIfInBounds_toArray, List.set_cons_zero, List.set_cons_succ]
    refine wpAnyH_take (i := 17) (oi := ⟨some 32, _, _, _, _, _⟩) (v := undef) rfl (by kernel_rfl) (by kernel_rfl) (by kernel_rfl) (fun _ _ _ h => h) (Or.inr ⟨by rfl, rfl⟩) (by assumption) ?_
    try simp only [Act.put, List.setIfInBounds_toArray, List.set_cons_zero, List.set_cons_succ]
    refine wpAnyH_take (i := 18) (oi := ⟨some 33, _, _, _, _, _⟩) (v := undef) rfl (by kernel_rfl) (by kernel_rfl) (by kernel_rfl) (fun _ _ _ h => h) (Or.inr ⟨by rfl, rfl⟩) (by assumption) ?_
    try simp only [Act.put, List.setIfInBounds_toArray, List.set_cons_zero, List.set_cons_succ]
    refine wpAnyH_take (i := 19) (oi := ⟨some 34, _, _, _, _, _⟩) (v := undef) rfl (by kernel_rfl) (by kernel_rfl) (by kernel_rfl) (fun _ _ _ h => h) (Or.inr ⟨by rfl, rfl⟩) (by assumption) ?_
    try simp only [Act.put, List.setIfInBounds_toArray, List.set_cons_zero, List.set_cons_succ]
    refine wpAnyH_take (i := 20) (oi := ⟨some 35, _, _, _, _, _⟩) (v := ?_) rfl (by kernel_rfl) (by kernel_rfl) (by kernel_rfl) (fun _ _ _ h => h) (Or.inl ⟨by rfl, ?_⟩) (by assumption) ?_
    rotate_left
    ·(intro w hSw; (try dsimp only at hSw); go_simp; try with_reducible rfl)
    try simp only [Act.put, List.setIfInBounds_toArray, List.set_cons_zero, List.set_cons_succ]
    refine wpAnyH_done (by kernel_rfl) ?_ _
    go_wp2_with fail
    go_ret
    exact ⟨by rw [HR.out] <;> rfl, hHeld.out.b⟩
  ·obtain rfl : k = n := by omega
   have HR : Hid (r = true) := zH (HYes.out HGo.out)
   go_wp2_with fail
   go_ret
   exact ⟨by rw [HR.out] <;> rfl, HK.out.b⟩
set_option maxHeartbeats 1600000 in
theorem mchk_any (A : Option Addr) (c n : Nat) (l : List Dct.Pr) (w : World) (hs : Sl w A n c l) :
  Calls Tryz.prog 108 #[.slice A n c] w (IsE (Dct.mchk l) w) := by
 have HR := zH (right_any A c n l w hs)
 clear hs
 unfold IsE IsB at *
 by_cases h : Dct.Right l
 ·rw [decide_eq_true h] at HR
  rw [Dct.mchk_ok h]
  clear h
  go_enter Tryz.func108, Tryz.ntmps108
  go_wp2_with fail
  refine HR.out.mono ?_; rintro e w1 ⟨rfl, b1⟩
  go_wp2_with fail
  go_ret
  exact ⟨rfl, b1⟩
 ·rw [decide_eq_false h] at HR
  rw [Dct.mchk_one h]
  clear h
  go_enter Tryz.func108, Tryz.ntmps108
  go_wp2_with fail
  refine HR.out.mono ?_; rintro e w1 ⟨rfl, b1⟩
  go_wp2_with fail
  go_ret
  exact ⟨rfl, b1⟩
end Go.Proofs.YtpkodjllljnleaaGreat
namespace Go.Proofs.YtpkodjllljnleaaGreat
open Go.RowKit
def IsParts (w0 : World) (l1 l2 l3 : List Dct.Pr) (w : World) (e : Ending) (w' : World) : Prop :=
 ∃ A1 n1 c1 A2 n2 c2 A3 n3 c3, e = .returned (.tuple #[.slice A1 n1 c1, .slice A2 n2 c2, .slice A3 n3 c3]) ∧ Sl w0 A1 n1 c1 l1 ∧ Sl w0 A2 n2 c2 l2 ∧ Sl w0 A3 n3 c3 l3 ∧ Below w.heap.size w w'
set_option maxRecDepth 100000 in
set_option maxHeartbeats 6400000 in
theorem parts_any (A : Option Addr) (c n : Nat) (l : List Dct.Pr) (key : ByteArray) (w0 w : World) (hs : Sl w0 A n c l) (hw : Below w0.heap.size w0 w) :
  Calls Tryz.prog 109 #[.slice A n c, .string key] w (IsParts w0 (l.take (Dct.idx l key)) ((l.drop (Dct.idx l key)).take (Dct.fin l key - Dct.idx l key)) (l.drop (Dct.fin l key)) w) := by
 have HS := zH hs
 have HW := zH hw
 have HG : Hid (∀ k, k < n → ∃ x, l[k]? = some x) := zH fun k hk => Lay.get_of (l := l) (k := k) (by rw [hs.len]; exact hk)
 have hp := Dct.idx_le l key
 obtain ⟨hpq, hq⟩ := Dct.fin_le l key
 rw [hs.len] at hp hq
 have hnc := hs.cap
 have hbig := hs.big
 have HB : Hid (∀ k x, k < Dct.idx l key → l[k]? = some x → Dct.lt x.key key = true) := zH fun k x hk hx => Dct.idx_lt hk hx
 have HA : Hid (∀ x, l[Dct.idx l key]? = some x → Dct.lt x.key key = false) := zH fun x hx => Dct.idx_at hx
 have HF1 : Hid (∀ x, l[Dct.idx l key]? = some x → Dct.fin l key = if x.key = key then Dct.idx l key + 1 else Dct.idx l key) := zH fun x hx => by unfold Dct.fin; rw [hx]
 have HF0 : Hid (Dct.idx l key = n → Dct.fin l key = n) := zH fun h => by omega
 have HEnd : Hid (∀ W, Below w.heap.size w W → IsParts w0 (l.take (Dct.idx l key)) ((l.drop (Dct.idx l key)).take (Dct.fin l key - Dct.idx l key)) (l.drop (Dct.fin l key)) w (.returned (.tuple #[.slice A (Dct.idx l key) c, .slice (sub A (Dct.idx l key) c) (Dct.fin l key - Dct.idx l key) (c - Dct.idx l key), .slice (sub A (Dct.fin l key) c) (n - Dct.fin l key) (c - Dct.fin l key)])) W) :=
  zH fun W hW => by
   have h := hs
   refine ⟨_, _, _, _, _, _, _, _, _, rfl, h.take hp, h.sub hpq hq, ?_, hW⟩
   have h3 := h.sub hq (Nat.le_refl n)
   rw [List.take_of_length_le (by rw [List.length_drop, h.len]; exact Nat.le_refl _)] at h3
   exact h3
 clear hs hw
 generalize Dct.idx l key = p at *
 generalize Dct.fin l key = q at *
 have HK := zH (Kn.start w)
 go_enter Tryz.func109, Tryz.ntmps109
 go_wp2_with fail
 go_loop [7] (fun vi => ∃ k : Nat, k ≤ p ∧ vi = .int .i64 k) (fun vi => p + 1 - (intOf vi).toNat)
 case atStart => exact ⟨0, Nat.zero_le _, rfl⟩
 case round =>
  obtain ⟨k, hk, rfl⟩ := hrel
  have hk1 : (0 : Int) ≤ (k : Int) := by omega
  by_cases hlt : k < p
  ·have hkn : k < n := by omega
   have hk2 : (k : Int) < (n : Int) := by omega
   have hk3 : k < 9223372036854775807 := by omega
   obtain ⟨x, hx⟩ := HG.out k hkn
   obtain ⟨b, o, rfl, hat⟩ := HS.out.at (Nat.lt_of_le_of_lt (Nat.zero_le _) hkn)
   have HX := zH (hat w HW.out k x hx)
   have HL := zH (HB.out k x hlt hx)
   clear hat hx HS HEnd HB HA HF1 HF0 HG
   go_wp2_with (first | refine wpList_of_exec (by rfl) (exec_lpk (off := o + k * 5) _ (by rfl) (by rfl) HX.out) ?_ | refine wpList_of_exec (by rfl) (exec_slt _ _ (by rfl) (by rfl) (by rfl) HL.out) ?_ | refine wpList_of_exec (by rfl) (exec_add1 (j := k) _ (by rfl) (by rfl) hk3) ?_)
   exact ⟨⟨k + 1, hlt, rfl⟩, by simp [intOf]; omega⟩
  ·obtain rfl : k = p := by omega
   clear hlt hk
   by_cases hkn : k < n
   ·have hk2 : (k : Int) < (n : Int) := by omega
    have hk3 : k < 9223372036854775807 := by omega
    obtain ⟨x, hx⟩ := HG.out k hkn
    obtain ⟨b, o, rfl, hat⟩ := HS.out.at (Nat.lt_of_le_of_lt (Nat.zero_le _) hkn)
    have HX := zH (hat w HW.out k x hx)
    have HL := zH (HA.out x hx)
    have hq2 := HF1.out x hx
    clear hat hx HS HB HA HF1 HF0 HG
    by_cases he : x.key = key
    ·rw [if_pos he] at hq2
     subst hq2
     have HE := zH (show decide (x.key = key) = true from decide_eq_true he)
     clear he
     have hqc : k + 1 ≤ c := by omega
     go_wp2_with (first | refine wpList_of_exec (by rfl) (exec_lpk (off := o + k * 5) _ (by rfl) (by rfl) HX.out) ?_ | refine wpList_of_exec (by rfl) (exec_slt _ _ (by rfl) (by rfl) (by rfl) HL.out) ?_ | refine wpList_of_exec (by rfl) (exec_seq _ _ (by rfl) (by rfl) (by rfl) HE.out) ?_ | refine wpList_of_exec (by rfl) (exec_add1 (j := k) _ (by rfl) (by rfl) hk3) ?_)
     have hkc : k ≤ c := by omega
     refine wp_region_held_drew (S := (fun W => Hid (Kn w.heap.size w W [] []))) (by kernel_rfl) ?_ (fun hHeld => ?_)
     ·(try dsimp only); exact zH HK.out.drew
     refine wpAnyH_take (i := 0) (oi := ⟨some 40, _, _, _, _, _⟩) (v := ?_) rfl (by kernel_rfl) (by kernel_rfl) (by kernel_rfl) (fun _ _ _ h => h) (Or.inl ⟨by rfl, ?_⟩) (by assumption) ?_
     rotate_left
     ·(intro w hSw; (try dsimp only at hSw); go_simp; try with_reducible rfl)
     try simp only [Act.put, List.setIfInBounds_toArray, List.set_cons_zero, List.set_cons_succ]
     refine wpAnyH_take (i := 1) (oi := ⟨some 41, _, _, _, _, _⟩) (v := ?_) rfl (by kernel_rfl) (by kernel_rfl) (by kernel_rfl) (fun _ _ _ h => h) (Or.inl ⟨by rfl, ?_⟩) (by assumption) ?_
     rotate_left
     ·(intro w hSw; (try dsimp only at hSw); go_simp; try with_reducible rfl)
     try simp only [Act.put, List.setIfInBounds_toArray, List.set_cons_zero, List.set_cons_succ]
     refine wpAnyH_take (i := 2) (oi := ⟨some 42, _, _, _, _, _⟩) (v := ?_) rfl (by kernel_rfl) (by kernel_rfl) (by kernel_rfl) (fun _ _ _ h => h) (Or.inl ⟨by rfl, ?_⟩) (by assumption) ?_
     rotate_left
     ·(intro w hSw; refine Eq.trans (exec_sl_h (hi := k) _ _ (by rfl) (by rfl) (by rfl) hkc) ?_; with_reducible rfl)
     try simp only [Act.put, List.setIfInBounds_toArray, List.set_cons_zero, List.set_cons_succ]
     refine wpAnyH_take (i := 3) (oi := ⟨some 43, _, _, _, _, _⟩) (v := ?_) rfl (by kernel_rfl) (by kernel_rfl) (by kernel_rfl) (fun _ _ _ h => h) (Or.inl ⟨by rfl, ?_⟩) (by assumption) ?_
     rotate_left
     ·(intro w hSw; (try dsimp only at hSw); go_simp; try with_reducible rfl)
     try simp only [Act.put, List.setIfInBounds_toArray, List.set_cons_zero, List.set_cons_succ]
     refine wpAnyH_take (i := 4) (oi := ⟨some 44, _, _, _, _, _⟩) (v := ?_) rfl (by kernel_rfl) (by kernel_rfl) (by kernel_rfl) (fun _ _ _ h => h) (Or.inl ⟨by rfl, ?_⟩) (by assumption) ?_
     rotate_left
     ·(intro w hSw; (try dsimp only at hSw); go_simp; try with_reducible rfl)
     try simp only [Act.put, List.setIfInBounds_toArray, List.set_cons_zero, List.set_cons_succ]
     refine wpAnyH_take (i := 5) (oi := ⟨some 45, _, _, _, _, _⟩) (v := ?_) rfl (by kernel_rfl) (by kernel_rfl) (by kernel_rfl) (fun _ _ _ h => h) (Or.inl ⟨by rfl, ?_⟩) (by assumption) ?_
     rotate_left
     ·(intro w hSw; (try dsimp only at hSw); go_simp; try with_reducible rfl)
     try simp only [Act.put, List.setIfInBounds_toArray, List.set_cons_zero, List.set_cons_succ]
     refine wpAnyH_take (i := 6) (oi := ⟨some 46, _, _, _, _, _⟩) (v := ?_) rfl (by kernel_rfl) (by kernel_rfl) (by kernel_rfl) (fun _ _ _ h => h) (Or.inl ⟨by rfl, ?_⟩) (by assumption) ?_
     rotate_left
     ·(intro w hSw; refine Eq.trans (exec_sl_lh (lo := k) (hi := k + 1) _ _ _ (by rfl) (by rfl) (by rfl) (by rfl) hpq hqc) ?_; with_reducible rfl)
     try simp only [Act.put, List.setIfInBounds_toArray, List.set_cons_zero, List.set_cons_succ]
     refine wpAnyH_take (i := 7) (oi := ⟨some 47, _, _, _, _, _⟩) (v := ?_) rfl (by kernel_rfl) (by kernel_rfl) (by kernel_rfl) (fun _ _ _ h => h) (Or.inl ⟨by rfl, ?_⟩) (by assumption) ?_
     rotate_left
     ·(intro w hSw; (try dsimp only at hSw); go_simp; try with_reducible rfl)
     try simp only [Act.put, List.setIfInBounds_toArray, List.set_cons_zero, List.set_cons_succ]
     refine wpAnyH_take (i := 8) (oi := ⟨some 48, _, _, _, _, _⟩) (v := ?_) rfl (by kernel_rfl) (by kernel_rfl) (by kernel_rfl) (fun _ _ _ h => h) (Or.inl ⟨by rfl, ?_⟩) (by assumption) ?_
     rotate_left
     ·(intro w hSw; (try dsimp only at hSw); go_simp; try with_reducible rfl)
     try simp only [Act.put, List.setIfInBounds_toArray, List.set_cons_zero, List.set_cons_succ]
     refine wpAnyH_take (i := 9) (oi := ⟨some 49, _, _, _, _, _⟩) (v := ?_) rfl (by kernel_rfl) (by kernel_rfl) (by kernel_rfl) (fun _ _ _ h => h) (Or.inl ⟨by rfl, ?_⟩) (by assumption) ?_
     rotate_left
     ·(intro w hSw; refine Eq.trans (exec_sl_l (lo := k + 1) _ _ (by rfl) (by rfl) (by rfl) hq) ?_; with_reducible rfl)
     try simp only [Act.put, List.setIfInBounds_toArray, List.set_cons_zero, List.set_cons_succ]
     refine wpAnyH_take (i := 10) (oi := ⟨some 4, _, _, _, _, _⟩) (v := ?_) rfl (by kernel_rfl) (by kernel_rfl) (by kernel_rfl) (fun _ _ _ h => h) (Or.inl ⟨by rfl, ?_⟩) (by assumption) ?_
     rotate_left
     ·(intro w hSw; (try dsimp only at hSw); go_simp; try with_reducible rfl)
     try simp only [Act.put, List.setIfInBounds_toArray, List.set_cons_zero, List.set_cons_succ]
     refine wpAnyH_take (i := 11) (oi := ⟨some 5, _, _, _, _, _⟩) (v := ?_) rfl (by kernel_rfl) (by kernel_rfl) (by kernel_rfl) (fun _ _ _ h => h) (Or.inl ⟨by rfl, ?_⟩) (by assumption) ?_
     rotate_left
     ·(intro w hSw; (try dsimp only at hSw); go_simp; try with_reducible rfl)
     try simp only [Act.put, List.setIfInBounds_toArray, List.set_cons_zero, List.set_cons_succ]
     refine wpAnyH_take (i := 12) (oi := ⟨some 6, _, _, _, _, _⟩) (v := ?_) rfl (by kernel_rfl) (by kernel_rfl) (by kernel_rfl) (fun _ _ _ h => h) (Or.inl ⟨by rfl, ?_⟩) (by assumption) ?_
     rotate_left
     ·(intro w hSw; (try dsimp only at hSw); go_simp; try with_reducible rfl)
     try simp only [Act.put, List.setIfInBounds_toArray, List.set_cons_zero, List.set_cons_succ]
     refine wpAnyH_done (by kernel_rfl) ?_ _
     go_wp2_with fail
     exact ret_t3 Tryz.results109 rfl rfl rfl rfl (by have h := HEnd.out _ hHeld.out.b; rw [show k + 1 - k = 1 from by omega] at h ⊢; exact h)
    ·rw [if_neg he] at hq2
     subst hq2
     have HE := zH (show decide (x.key = key) = false from decide_eq_false he)
     clear he
     go_wp2_with (first | refine wpList_of_exec (by rfl) (exec_lpk (off := o + q * 5) _ (by rfl) (by rfl) HX.out) ?_ | refine wpList_of_exec (by rfl) (exec_slt _ _ (by rfl) (by rfl) (by rfl) HL.out) ?_ | refine wpList_of_exec (by rfl) (exec_seq _ _ (by rfl) (by rfl) (by rfl) HE.out) ?_)
     have hkc : q ≤ c := by omega
     refine wp_region_held_drew (S := (fun W => Hid (Kn w.heap.size w W [] []))) (by kernel_rfl) ?_ (fun hHeld => ?_)
     ·(try dsimp only); exact zH HK.out.drew
     refine wpAnyH_take (i := 0) (oi := ⟨some 40, _, _, _, _, _⟩) (v := ?_) rfl (by kernel_rfl) (by kernel_rfl) (by kernel_rfl) (fun _ _ _ h => h) (Or.inl ⟨by rfl, ?_⟩) (by assumption) ?_
     rotate_left
     ·(intro w hSw; (try dsimp only at hSw); go_simp; try with_reducible rfl)
     try simp only [Act.put, List.setIfInBounds_toArray, List.set_cons_zero, List.set_cons_succ]
     refine wpAnyH_take (i := 1) (oi := ⟨some 41, _, _, _, _, _⟩) (v := ?_) rfl (by kernel_rfl) (by kernel_rfl) (by kernel_rfl) (fun _ _ _ h => h) (Or.inl ⟨by rfl, ?_⟩) (by assumption) ?_
     rotate_left
     ·(intro w hSw; (try dsimp only at hSw); go_simp; try with_reducible rfl)
     try simp only [Act.put, List.setIfInBounds_toArray, List.set_cons_zero, List.set_cons_succ]
     refine wpAnyH_take (i := 2) (oi := ⟨some 42, _, _, _, _, _⟩) (v := ?_) rfl (by kernel_rfl) (by kernel_rfl) (by kernel_rfl) (fun _ _ _ h => h) (Or.inl ⟨by rfl, ?_⟩) (by assumption) ?_
     rotate_left
     ·(intro w hSw; refine Eq.trans (exec_sl_h (hi := q) _ _ (by rfl) (by rfl) (by rfl) hkc) ?_; with_reducible rfl)
     try simp only [Act.put, List.setIfInBounds_toArray, List.set_cons_zero, List.set_cons_succ]
     refine wpAnyH_take (i := 3) (oi := ⟨some 43, _, _, _, _, _⟩) (v := ?_) rfl (by kernel_rfl) (by kernel_rfl) (by kernel_rfl) (fun _ _ _ h => h) (Or.inl ⟨by rfl, ?_⟩) (by assumption) ?_
     rotate_left
     ·(intro w hSw; (try dsimp only at hSw); go_simp; try with_reducible rfl)
     try simp only [Act.put, List.setIfInBounds_toArray, List.set_cons_zero, List.set_cons_succ]
     refine wpAnyH_take (i := 4) (oi := ⟨some 44, _, _, _, _, _⟩) (v := ?_) rfl (by kernel_rfl) (by kernel_rfl) (by kernel_rfl) (fun _ _ _ h => h) (Or.inl ⟨by rfl, ?_⟩) (by assumption) ?_
     rotate_left
     ·(intro w hSw; (try dsimp only at hSw); go_simp; try with_reducible rfl)
     try simp only [Act.put, List.setIfInBounds_toArray, List.set_cons_zero, List.set_cons_succ]
     refine wpAnyH_take (i := 5) (oi := ⟨some 45, _, _, _, _, _⟩) (v := ?_) rfl (by kernel_rfl) (by kernel_rfl) (by kernel_rfl) (fun _ _ _ h => h) (Or.inl ⟨by rfl, ?_⟩) (by assumption) ?_
     rotate_left
     ·(intro w hSw; (try dsimp only at hSw); go_simp; try with_reducible rfl)
     try simp only [Act.put, List.setIfInBounds_toArray, List.set_cons_zero, List.set_cons_succ]
     refine wpAnyH_take (i := 6) (oi := ⟨some 46, _, _, _, _, _⟩) (v := ?_) rfl (by kernel_rfl) (by kernel_rfl) (by kernel_rfl) (fun _ _ _ h => h) (Or.inl ⟨by rfl, ?_⟩) (by assumption) ?_
     rotate_left
     ·(intro w hSw; refine Eq.trans (exec_sl_lh (lo := q) (hi := q) _ _ _ (by rfl) (by rfl) (by rfl) (by rfl) hpq hkc) ?_; with_reducible rfl)
     try simp only [Act.put, List.setIfInBounds_toArray, List.set_cons_zero, List.set_cons_succ]
     refine wpAnyH_take (i := 7) (oi := ⟨some 47, _, _, _, _, _⟩) (v := ?_) rfl (by kernel_rfl) (by kernel_rfl) (by kernel_rfl) (fun _ _ _ h => h) (Or.inl ⟨by rfl, ?_⟩) (by assumption) ?_
     rotate_left
     ·(intro w hSw; (try dsimp only at hSw); go_simp; try with_reducible rfl)
     try simp only [Act.put, List.setIfInBounds_toArray, List.set_cons_zero, List.set_cons_succ]
     refine wpAnyH_take (i := 8) (oi := ⟨some 48, _, _, _, _, _⟩) (v := ?_) rfl (by kernel_rfl) (by kernel_rfl) (by kernel_rfl) (fun _ _ _ h => h) (Or.inl ⟨by rfl, ?_⟩) (by assumption) ?_
     rotate_left
     ·(intro w hSw; (try dsimp only at hSw); go_simp; try with_reducible rfl)
     try simp only [Act.put, List.setIfInBounds_toArray, List.set_cons_zero, List.set_cons_succ]
     refine wpAnyH_take (i := 9) (oi := ⟨some 49, _, _, _, _, _⟩) (v := ?_) rfl (by kernel_rfl) (by kernel_rfl) (by kernel_rfl) (fun _ _ _ h => h) (Or.inl ⟨by rfl, ?_⟩) (by assumption) ?_
     rotate_left
     ·(intro w hSw; refine Eq.trans (exec_sl_l (lo := q) _ _ (by rfl) (by rfl) (by rfl) hq) ?_; with_reducible rfl)
     try simp only [Act.put, List.setIfInBounds_toArray, List.set_cons_zero, List.set_cons_succ]
     refine wpAnyH_take (i := 10) (oi := ⟨some 4, _, _, _, _, _⟩) (v := ?_) rfl (by kernel_rfl) (by kernel_rfl) (by kernel_rfl) (fun _ _ _ h => h) (Or.inl ⟨by rfl, ?_⟩) (by assumption) ?_
     rotate_left
     ·(intro w hSw; (try dsimp only at hSw); go_simp; try with_reducible rfl)
     try simp only [Act.put, List.setIfInBounds_toArray, List.set_cons_zero, List.set_cons_succ]
     refine wpAnyH_take (i := 11) (oi := ⟨some 5, _, _, _, _, _⟩) (v := ?_) rfl (by kernel_rfl) (by kernel_rfl) (by kernel_rfl) (fun _ _ _ h => h) (Or.inl ⟨by rfl, ?_⟩) (by assumption) ?_
     rotate_left
     ·(intro w hSw; (try dsimp only at hSw); go_simp; try with_reducible rfl)
     try simp only [Act.put, List.setIfInBounds_toArray, List.set_cons_zero, List.set_cons_succ]
     refine wpAnyH_take (i := 12) (oi := ⟨some 6, _, _, _, _, _⟩) (v := ?_) rfl (by kernel_rfl) (by kernel_rfl) (by kernel_rfl) (fun _ _ _ h => h) (Or.inl ⟨by rfl, ?_⟩) (by assumption) ?_
     rotate_left
     ·(intro w hSw; (try dsimp only at hSw); go_simp; try with_reducible rfl)
     try simp only [Act.put, List.setIfInBounds_toArray, List.set_cons_zero, List.set_cons_succ]
     refine wpAnyH_done (by kernel_rfl) ?_ _
     go_wp2_with fail
     exact ret_t3 Tryz.results109 rfl rfl rfl rfl (by have h := HEnd.out _ hHeld.out.b; rw [Nat.sub_self] at h ⊢; exact h)
   ·obtain rfl : k = n := by omega
    obtain rfl := HF0.out rfl
    have hk2 : ¬ (q : Int) < (q : Int) := by omega
    clear HS HB HA HF1 HF0 HG hkn
    go_wp2_with fail
    have hkc : q ≤ c := by omega
    refine wp_region_held_drew (S := (fun W => Hid (Kn w.heap.size w W [] []))) (by kernel_rfl) ?_ (fun hHeld => ?_)
    ·(try dsimp only); exact zH HK.out.drew
    refine wpAnyH_take (i := 0) (oi := ⟨some 40, _, _, _, _, _⟩) (v := ?_) rfl (by kernel_rfl) (by kernel_rfl) (by kernel_rfl) (fun _ _ _ h => h) (Or.inl ⟨by rfl, ?_⟩) (by assumption) ?_
    rotate_left
    ·(intro w hSw; (try dsimp only at hSw); go_simp; try with_reducible rfl)
    try simp only [Act.put, List.setIfInBounds_toArray, List.set_cons_zero, List.set_cons_succ]
    refine wpAnyH_take (i := 1) (oi := ⟨some 41, _, _, _, _, _⟩) (v := ?_) rfl (by kernel_rfl) (by kernel_rfl) (by kernel_rfl) (fun _ _ _ h => h) (Or.inl ⟨by rfl, ?_⟩) (by assumption) ?_
    rotate_left
    ·(intro w hSw; (try dsimp only at hSw); go_simp; try with_reducible rfl)
    try simp only [Act.put, List.setIfInBounds_toArray, List.set_cons_zero, List.set_cons_succ]
    refine wpAnyH_take (i := 2) (oi := ⟨some 42, _, _, _, _, _⟩) (v := ?_) rfl (by kernel_rfl) (by kernel_rfl) (by kernel_rfl) (fun _ _ _ h => h) (Or.inl ⟨by rfl, ?_⟩) (by assumption) ?_
    rotate_left
    ·(intro w hSw; refine Eq.trans (exec_sl_h (hi := q) _ _ (by rfl) (by rfl) (by rfl) hkc) ?_; with_reducible rfl)
    try simp only [Act.put, List.setIfInBounds_toArray, List.set_cons_zero, List.set_cons_succ]
    refine wpAnyH_take (i := 3) (oi := ⟨some 43, _, _, _, _, _⟩) (v := ?_) rfl (by kernel_rfl) (by kernel_rfl) (by kernel_rfl) (fun _ _ _ h => h) (Or.inl ⟨by rfl, ?_⟩) (by assumption) ?_
    rotate_left
    ·(intro w hSw; (try dsimp only at hSw); go_simp; try with_reducible rfl)
    try simp only [Act.put, List.setIfInBounds_toArray, List.set_cons_zero, List.set_cons_succ]
    refine wpAnyH_take (i := 4) (oi := ⟨some 44, _, _, _, _, _⟩) (v := ?_) rfl (by kernel_rfl) (by kernel_rfl) (by kernel_rfl) (fun _ _ _ h => h) (Or.inl ⟨by rfl, ?_⟩) (by assumption) ?_
    rotate_left
    ·(intro w hSw; (try dsimp only at hSw); go_simp; try with_reducible rfl)
    try simp only [Act.put, List.setIfInBounds_toArray, List.set_cons_zero, List.set_cons_succ]
    refine wpAnyH_take (i := 5) (oi := ⟨some 45, _, _, _, _, _⟩) (v := ?_) rfl (by kernel_rfl) (by kernel_rfl) (by kernel_rfl) (fun _ _ _ h => h) (Or.inl ⟨by rfl, ?_⟩) (by assumption) ?_
    rotate_left
    ·(intro w hSw; (try dsimp only at hSw); go_simp; try with_reducible rfl)
    try simp only [Act.put, List.setIfInBounds_toArray, List.set_cons_zero, List.set_cons_succ]
    refine wpAnyH_take (i := 6) (oi := ⟨some 46, _, _, _, _, _⟩) (v := ?_) rfl (by kernel_rfl) (by kernel_rfl) (by kernel_rfl) (fun _ _ _ h => h) (Or.inl ⟨by rfl, ?_⟩) (by assumption) ?_
    rotate_left
    ·(intro w hSw; refine Eq.trans (exec_sl_lh (lo := q) (hi := q) _ _ _ (by rfl) (by rfl) (by rfl) (by rfl) hpq hkc) ?_; with_reducible rfl)
    try simp only [Act.put, List.setIfInBounds_toArray, List.set_cons_zero, List.set_cons_succ]
    refine wpAnyH_take (i := 7) (oi := ⟨some 47, _, _, _, _, _⟩) (v := ?_) rfl (by kernel_rfl) (by kernel_rfl) (by kernel_rfl) (fun _ _ _ h => h) (Or.inl ⟨by rfl, ?_⟩) (by assumption) ?_
    rotate_left
    ·(intro w hSw; (try dsimp only at hSw); go_simp; try with_reducible rfl)
    try simp only [Act.put, List.setIfInBounds_toArray, List.set_cons_zero, List.set_cons_succ]
    refine wpAnyH_take (i := 8) (oi := ⟨some 48, _, _, _, _, _⟩) (v := ?_) rfl (by kernel_rfl) (by kernel_rfl) (by kernel_rfl) (fun _ _ _ h => h) (Or.inl ⟨by rfl, ?_⟩) (by assumption) ?_
    rotate_left
    ·(intro w hSw; (try dsimp only at hSw); go_simp; try with_reducible rfl)
    try simp only [Act.put, List.setIfInBounds_toArray, List.set_cons_zero, List.set_cons_succ]
    refine wpAnyH_take (i := 9) (oi := ⟨some 49, _, _, _, _, _⟩) (v := ?_) rfl (by kernel_rfl) (by kernel_rfl) (by kernel_rfl) (fun _ _ _ h => h) (Or.inl ⟨by rfl, ?_⟩) (by assumption) ?_
    rotate_left
    ·(intro w hSw; refine Eq.trans (exec_sl_l (lo := q) _ _ (by rfl) (by rfl) (by rfl) hq) ?_; with_reducible rfl)
    try simp only [Act.put, List.setIfInBounds_toArray, List.set_cons_zero, List.set_cons_succ]
    refine wpAnyH_take (i := 10) (oi := ⟨some 4, _, _, _, _, _⟩) (v := ?_) rfl (by kernel_rfl) (by kernel_rfl) (by kernel_rfl) (fun _ _ _ h => h) (Or.inl ⟨by rfl, ?_⟩) (by assumption) ?_
    rotate_left
    ·(intro w hSw; (try dsimp only at hSw); go_simp; try with_reducible rfl)
    try simp only [Act.put, List.setIfInBounds_toArray, List.set_cons_zero, List.set_cons_succ]
    refine wpAnyH_take (i := 11) (oi := ⟨some 5, _, _, _, _, _⟩) (v := ?_) rfl (by kernel_rfl) (by kernel_rfl) (by kernel_rfl) (fun _ _ _ h => h) (Or.inl ⟨by rfl, ?_⟩) (by assumption) ?_
    rotate_left
    ·(intro w hSw; (try dsimp only at hSw); go_simp; try with_reducible rfl)
    try simp only [Act.put, List.setIfInBounds_toArray, List.set_cons_zero, List.set_cons_succ]
    refine wpAnyH_take (i := 12) (oi := ⟨some 6, _, _, _, _, _⟩) (v := ?_) rfl (by kernel_rfl) (by kernel_rfl) (by kernel_rfl) (fun _ _ _ h => h) (Or.inl ⟨by rfl, ?_⟩) (by assumption) ?_
    rotate_left
    ·(intro w hSw; (try dsimp only at hSw); go_simp; try with_reducible rfl)
    try simp only [Act.put, List.setIfInBounds_toArray, List.set_cons_zero, List.set_cons_succ]
    refine wpAnyH_done (by kernel_rfl) ?_ _
    go_wp2_with fail
    exact ret_t3 Tryz.results109 rfl rfl rfl rfl (by have h := HEnd.out _ hHeld.out.b; rw [Nat.sub_self] at h ⊢; exact h)
end Go.Proofs.YtpkodjllljnleaaGreat
namespace Go.Proofs.YtpkodjllljnleaaGreat
open Go.RowKit
structure Pc where
 A : Option Addr
 n : Nat
 c : Nat
 l : List Dct.Pr
def cat (ps : List Pc) : List Dct.Pr := ps.flatMap (·.l)
theorem cat_more {ps : List Pc} {k : Nat} {p : Pc} (h : ps[k]? = some p) : cat (ps.take (k + 1)) = cat (ps.take k) ++ p.l := by
 unfold cat
 rw [Lay.take_succ h, List.flatMap_append, List.flatMap_cons, List.flatMap_nil, List.append_nil]
theorem cat_le (ps : List Pc) (k : Nat) : (cat (ps.take k)).length ≤ (cat ps).length := by
 have h : cat ps = cat (ps.take k) ++ cat (ps.drop k) := by unfold cat; rw [← List.flatMap_append, List.take_append_drop]
 rw [h, List.length_append]; omega
set_option maxRecDepth 100000 in
set_option maxHeartbeats 6400000 in
theorem join_any (g m : Nat) (ps : List Pc) (w : World) (hm : ps.length = m) (hb : m ≤ 8) (hg : g < w.heap.size) (hc : ∀ i p, ps[i]? = some p → w.cell? ⟨g, i, none⟩ = some (.slice p.A p.n p.c)) (hs : ∀ p ∈ ps, Sl w p.A p.n p.c p.l) (ht : (cat ps).length ≤ 2513169434916) :
  Calls Tryz.prog 111 #[.slice (some ⟨g, 0, none⟩) m m] w (IsL (cat ps) w) := by
 have HGo : Hid (∀ k, k < m → ∃ p, ps[k]? = some p ∧ Sl w p.A p.n p.c p.l ∧ ∀ W, Below w.heap.size w W → W.cell? ⟨g, k, none⟩ = some (.slice p.A p.n p.c)) := zH fun k hk => by
  obtain ⟨p, hp⟩ := Lay.get_of (l := ps) (k := k) (by rw [hm]; exact hk)
  exact ⟨p, hp, hs p (List.mem_of_getElem? hp), fun W hW => (hW.cell (p := ⟨g, k, none⟩) hg).trans (hc k p hp)⟩
 have HLen : Hid (∀ k, (cat (ps.take k)).length ≤ 2513169434916) := zH fun k => Nat.le_trans (cat_le ps k) ht
 have HTake : Hid (ps.take m = ps) := zH (by rw [← hm]; exact List.take_length)
 clear hc hs ht hm hg
 have HK := zH (Kn.start w)
 go_enter Tryz.func111, Tryz.ntmps111
 go_wp2_with (first | (refine wpList_mp0 HK rfl rfl ?_; intro _ g2 HK'; simp only [lnA] at HK'; replace HK := HK'; clear HK'))
 go_loopw [3, 9] (fun vs vi wr => ∃ (k : Nat) (A1 : Option Addr) (c1 N : Nat), k ≤ m ∧ vs = .slice A1 N c1 ∧ vi = .int .i64 k ∧ Hid ((cat (ps.take k)).length = N) ∧ Hid (Kn w.heap.size w wr [] [row prLay (.slice A1 N c1) (cat (ps.take k))])) (fun _ vi _ => m - (intOf vi).toNat)
 case atStart => exact ⟨0, _, _, 0, Nat.zero_le _, rfl, rfl, zH rfl, HK⟩
 case round =>
  clear HK
  obtain ⟨k, A1, c1, N, hk, rfl, rfl, hN, HK⟩ := hrel
  by_cases hlt : k < m
  ·obtain ⟨p, hp, hsl, hcell⟩ := HGo.out k hlt
   have HC := zH hcell
   have hlen := HLen.out (k + 1)
   have he := cat_more hp
   rw [he, List.length_append, hN.out] at hlen
   have HE := zH he
   have HSl := zH hsl
   have HPl : Hid (p.n = p.l.length) := zH hsl.len.symm
   have HL : Hid ((cat (ps.take k)).length + p.l.length ≤ 9223372036854775807 ∧ ((cat (ps.take k)).length + p.l.length) * prLay.bytes ≤ 211106232532992) := zH ⟨by rw [hN.out]; omega, by show _ * 56 ≤ _; rw [hN.out]; omega⟩
   have HN2 : Hid ((cat (ps.take k) ++ p.l).length = N + p.l.length) := zH (by rw [List.length_append, hN.out])
   clear hlen he hcell hsl hp
   have hk1 : (0 : Int) ≤ (k : Int) := by omega
   have hk2 : (k : Int) < (m : Int) := by omega
   obtain ⟨Ap, np, cp, lp⟩ := p
   simp only at HC HSl HL HN2 HE HPl
   have HR : Hid (prLay.Reads wr wr.heap.size Ap lp ∧ (Ap = none → lp = [])) := zH (let h := HSl.out.later HK.out.b; ⟨h.rd, h.nl⟩)
   go_wp2_with (first | refine wpList_of_exec (v := .slice Ap np cp) (by rfl) (exec_cell _ (by rfl) (by rfl) (HC.out _ HK.out.b) Tryz.underlying49 rfl) ?_ | (at_builtin; refine wpList_kmore HK prLay 0 rfl _ _ rfl rfl rfl lp rfl HPl.out HR HL (N := N + lp.length) HN2 ?_; intro A4 c4 _ HK'; simp only [List.set] at HK'; replace HK := HK'; clear HK'))
   refine ⟨⟨k + 1, A4, c4, N + lp.length, by omega, rfl, by go_num, zH (by rw [HE.out, HN2.out]), ?_⟩, by simp [intOf]; omega⟩
   rw [HE.out]
   exact HK
  ·obtain rfl : k = m := by omega
   rw [HTake.out] at HK hN
   obtain rfl := hN.out
   go_wp2_with fail
   go_ret
   exact ⟨A1, _, c1, rfl, HK.out.own 0 rfl, HK.out.b⟩
section
variable {b0 : Nat} {w0 w : World} {L : List (Nat × TypeId × Array Value)} {R : List RowE} {g : Nat} {A1 A2 A3 : Option Addr} {n1 c1 n2 c2 n3 c3 : Nat} {l1 l2 l3 : List Dct.Pr}
theorem join1_any (HK : Hid (Kn b0 w0 w L R)) (i : Nat) (hL : L[i]? = some (g, 49, #[.slice A1 n1 c1])) (h1 : Sl w A1 n1 c1 l1) :
  Calls Tryz.prog 111 #[.slice (some ⟨g, 0, none⟩) 1 1] w (IsL l1 w) := by
 have h := join_any g 1 [⟨A1, n1, c1, l1⟩] w rfl (by decide) (HK.out.blk i hL).lt (fun j p hp => by
  match j, hp with
  | 0, hp => simp at hp; subst hp; exact HK.out.cell i hL 0 rfl) (fun p hp => by
   rw [List.mem_singleton] at hp; subst hp; exact h1) (by
   show (l1 ++ []).length ≤ _
   rw [List.append_nil, h1.len]; exact h1.big)
 have e : cat [⟨A1, n1, c1, l1⟩] = l1 := by show l1 ++ [] = l1; rw [List.append_nil]
 rw [e] at h
 exact h
theorem join2_any (HK : Hid (Kn b0 w0 w L R)) (i : Nat) (hL : L[i]? = some (g, 49, #[.slice A1 n1 c1, .slice A2 n2 c2])) (h1 : Sl w A1 n1 c1 l1) (h2 : Sl w A2 n2 c2 l2) (ht : n1 + n2 ≤ 2513169434916) :
  Calls Tryz.prog 111 #[.slice (some ⟨g, 0, none⟩) 2 2] w (IsL (l1 ++ l2) w) := by
 have h := join_any g 2 [⟨A1, n1, c1, l1⟩, ⟨A2, n2, c2, l2⟩] w rfl (by decide) (HK.out.blk i hL).lt (fun j p hp => by
  match j, hp with
  | 0, hp => simp at hp; subst hp; exact HK.out.cell i hL 0 rfl
  | 1, hp => simp at hp; subst hp; exact HK.out.cell i hL 1 rfl) (fun p hp => by
   simp only [List.mem_cons, List.not_mem_nil, or_false] at hp
   rcases hp with rfl | rfl
   ·exact h1
   ·exact h2) (by
   show (l1 ++ (l2 ++ [])).length ≤ _
   rw [List.append_nil, List.length_append, h1.len, h2.len]; exact ht)
 have e : cat [⟨A1, n1, c1, l1⟩, ⟨A2, n2, c2, l2⟩] = l1 ++ l2 := by show l1 ++ (l2 ++ []) = _; rw [List.append_nil]
 rw [e] at h
 exact h
theorem join3_any (HK : Hid (Kn b0 w0 w L R)) (i : Nat) (hL : L[i]? = some (g, 49, #[.slice A1 n1 c1, .slice A2 n2 c2, .slice A3 n3 c3])) (h1 : Sl w A1 n1 c1 l1) (h2 : Sl w A2 n2 c2 l2) (h3 : Sl w A3 n3 c3 l3) (ht : n1 + n2 + n3 ≤ 2513169434916) :
  Calls Tryz.prog 111 #[.slice (some ⟨g, 0, none⟩) 3 3] w (IsL (l1 ++ l2 ++ l3) w) := by
 have h := join_any g 3 [⟨A1, n1, c1, l1⟩, ⟨A2, n2, c2, l2⟩, ⟨A3, n3, c3, l3⟩] w rfl (by decide) (HK.out.blk i hL).lt (fun j p hp => by
  match j, hp with
  | 0, hp => simp at hp; subst hp; exact HK.out.cell i hL 0 rfl
  | 1, hp => simp at hp; subst hp; exact HK.out.cell i hL 1 rfl
  | 2, hp => simp at hp; subst hp; exact HK.out.cell i hL 2 rfl) (fun p hp => by
   simp only [List.mem_cons, List.not_mem_nil, or_false] at hp
   rcases hp with rfl | rfl | rfl
   ·exact h1
   ·exact h2
   ·exact h3) (by
   show (l1 ++ (l2 ++ (l3 ++ []))).length ≤ _
   rw [List.append_nil, List.length_append, List.length_append, h1.len, h2.len, h3.len]; omega)
 have e : cat [⟨A1, n1, c1, l1⟩, ⟨A2, n2, c2, l2⟩, ⟨A3, n3, c3, l3⟩] = l1 ++ l2 ++ l3 := by show l1 ++ (l2 ++ (l3 ++ [])) = _; rw [List.append_nil, List.append_assoc]
 rw [e] at h
 exact h
end
set_option maxHeartbeats 3200000 in
theorem dwo_any (A : Option Addr) (c n : Nat) (l : List Dct.Pr) (key : ByteArray) (w : World) (hs : Sl w A n c l) (hu : Dct.Up l) :
  Calls Tryz.prog 112 #[.slice A n c, .string key] w (IsL (Dct.wo l key) w) := by
 have HP := zH (parts_any A c n l key w w hs (Below.refl _ w))
 have HW := zH (Dct.wo_parts hu key).1
 have hpl : (l.take (Dct.idx l key)).length + (l.drop (Dct.fin l key)).length ≤ 2513169434916 := by
  have h := congrArg List.length HW.out
  rw [List.length_append] at h
  rw [h]
  exact (hs.fit.wo key).big
 have HB := zH hpl
 clear hs hu hpl
 generalize l.take (Dct.idx l key) = l1 at *
 generalize (l.drop (Dct.idx l key)).take (Dct.fin l key - Dct.idx l key) = l2 at *
 generalize l.drop (Dct.fin l key) = l3 at *
 have HK := zH (Kn.start w)
 go_enter Tryz.func112, Tryz.ntmps112
 go_wp2_with fail
 refine HP.out.mono ?_; rintro e w1 ⟨A1, n1, c1, A2, n2, c2, A3, n3, c3, rfl, s1, s2, s3, b1⟩
 replace HK := hkC HK b1
 have S1 := zH s1
 have S3 := zH s3
 clear HP s1 s2 s3 b1
 go_wp2_with (first | (refine wpList_ms2 HK rfl _ _ rfl rfl rfl ?_; intro w2 g2 HK' _; simp only [lnA] at HK'; replace HK := HK'; clear HK'))
 refine (join2_any HK 0 rfl (S1.out.later HK.out.b) (S3.out.later HK.out.b) (by rw [← S1.out.len, ← S3.out.len]; exact HB.out)).mono ?_; rintro e w3 ⟨A4, n4, c4, rfl, o4, b4⟩
 rw [HW.out] at o4
 replace HK := zH (HK.out.called b4 o4)
 clear o4 b4
 go_wp2_with fail
 go_ret
 exact ⟨A4, n4, c4, rfl, HK.out.own 0 rfl, HK.out.b⟩
end Go.Proofs.YtpkodjllljnleaaGreat
namespace Go.Proofs.YtpkodjllljnleaaGreat
open Go.RowKit
def IsVE (v : Val.V) (x : Int) (w : World) (e : Ending) (w' : World) : Prop := e = .returned (.tuple #[vv v, .int .i64 x]) ∧ Below w.heap.size w w'
theorem at_one {w : World} {A : Option Addr} {c : Nat} {x : Dct.Pr} (h : Sl w A 1 c [x]) : ∃ b o, A = some ⟨b, o, none⟩ ∧ ∀ W, Below w.heap.size w W → ∀ j v, (prL x)[j]? = some v → W.cell? ⟨b, o + j, none⟩ = some v := by
 obtain ⟨b, o, rfl, hc⟩ := h.at (by decide)
 refine ⟨b, o, rfl, fun W hW j v hv => ?_⟩
 have := hc W hW 0 x rfl j v hv
 rw [Nat.zero_mul, Nat.add_zero] at this
 exact this
set_option maxRecDepth 100000 in
set_option maxHeartbeats 6400000 in
theorem get_any (A : Option Addr) (c n : Nat) (l : List Dct.Pr) (key : ByteArray) (w : World) (hs : Sl w A n c l) :
  Calls Tryz.prog 54 #[.slice A n c, .string key] w (IsVE (Dct.gtV l key) (Dct.gtE l key) w) := by
 have HM := zH (fun W (hW : Below w.heap.size w W) => mchk_any A c n l W (hs.later hW))
 have HP := zH (fun W (hW : Below w.heap.size w W) => parts_any A c n l key w W hs hW)
 clear hs
 unfold IsVE IsE at *
 have HK := zH (Kn.start w)
 by_cases hr : Dct.Right l
 ·rw [Dct.mchk_ok hr] at HM
  rcases Dct.fnd_parts hr.up key with ⟨hf, hn⟩ | ⟨hf, x, hx, hn⟩
  ·obtain ⟨e1, e2⟩ := Dct.gt_none hr hn
   rw [e1, e2]
   rw [hf, Nat.sub_self] at HP
   unfold Dct.emp vv
   simp only
   generalize l.take (Dct.idx l key) = l1 at *
   generalize l.drop (Dct.idx l key) = l3 at *
   clear e1 e2 hf hn hr
   go_enter Tryz.func54, Tryz.ntmps54
   go_wp2_with (first | (refine wpList_akv HK rfl rfl ?_; intro _ g1 HK'; simp only [lcA, lnA] at HK'; replace HK := HK'; clear HK'))
   refine (HM.out _ HK.out.b).mono ?_; rintro e w1 ⟨rfl, b1⟩
   replace HK := hkC HK b1
   clear b1
   go_wp2_with fail
   refine (HP.out _ HK.out.b).mono ?_; rintro e w1 ⟨A1, n1, c1, A2, n2, c2, A3, n3, c3, rfl, s1, s2, s3, b1⟩
   replace HK := hkC HK b1
   obtain rfl : n2 = 0 := by have := s2.len; simpa using this.symm
   clear s1 s2 s3 b1
   go_wp2_with (first | (refine wpList_sv (f2 := 0) HK 0 rfl _ _ rfl rfl rfl rfl ?_; intro _ HK'; simp only [List.set] at HK'; replace HK := HK'; clear HK'))
   exact ret_ve Tryz.results54 rfl rfl rfl (HK.out.blk 0 rfl) ⟨rfl, HK.out.b⟩
  ·obtain ⟨e1, e2⟩ := Dct.gt_some hr hn
   have hl2 : (l.drop (Dct.idx l key)).take (Dct.fin l key - Dct.idx l key) = [x] := by
    rw [hf, Nat.add_sub_cancel_left]
    have h1 := (List.getElem?_eq_some_iff.1 hx)
    obtain ⟨h1, h2⟩ := h1
    rw [List.drop_eq_getElem_cons h1, h2]
    rfl
   rw [e1, e2]
   rw [hl2] at HP
   generalize l.take (Dct.idx l key) = l1 at *
   generalize l.drop (Dct.fin l key) = l3 at *
   clear e1 e2 hf hn hr hl2 hx
   obtain ⟨key', k, m, f, s⟩ := x
   unfold vv
   simp only
   go_enter Tryz.func54, Tryz.ntmps54
   go_wp2_with (first | (refine wpList_akv HK rfl rfl ?_; intro _ g1 HK'; simp only [lcA, lnA] at HK'; replace HK := HK'; clear HK'))
   refine (HM.out _ HK.out.b).mono ?_; rintro e w1 ⟨rfl, b1⟩
   replace HK := hkC HK b1
   clear b1
   go_wp2_with fail
   refine (HP.out _ HK.out.b).mono ?_; rintro e w1 ⟨A1, n1, c1, A2, n2, c2, A3, n3, c3, rfl, s1, s2, s3, b1⟩
   replace HK := hkC HK b1
   obtain rfl : n2 = 1 := by have := s2.len; simpa using this.symm
   obtain ⟨b, o, rfl, hc⟩ := at_one s2
   have HX := zH hc
   clear s1 s2 s3 b1 hc
   go_wp2_with (first | refine wpList_of_exec (by rfl) (exec_lpv (off := o) _ (by rfl) (by rfl) rfl (HX.out _ HK.out.b)) ?_ | (refine wpList_sv (f2 := f) HK 0 rfl _ _ rfl rfl rfl rfl ?_; intro _ HK'; simp only [List.set] at HK'; replace HK := HK'; clear HK'))
   exact ret_ve Tryz.results54 rfl rfl rfl (HK.out.blk 0 rfl) ⟨rfl, HK.out.b⟩
 ·rw [Dct.mchk_one hr] at HM
  obtain ⟨e1, e2⟩ := Dct.gt_bad hr key
  rw [e1, e2]
  clear e1 e2 hr HP
  unfold Dct.emp vv
  simp only
  go_enter Tryz.func54, Tryz.ntmps54
  go_wp2_with (first | (refine wpList_akv HK rfl rfl ?_; intro _ g1 HK'; simp only [lcA, lnA] at HK'; replace HK := HK'; clear HK'))
  refine (HM.out _ HK.out.b).mono ?_; rintro e w1 ⟨rfl, b1⟩
  replace HK := hkC HK b1
  clear b1
  go_wp2_with (first | (refine wpList_sv (f2 := 0) HK 0 rfl _ _ rfl rfl rfl rfl ?_; intro _ HK'; simp only [List.set] at HK'; replace HK := HK'; clear HK'))
  exact ret_ve Tryz.results54 rfl rfl rfl (HK.out.blk 0 rfl) ⟨rfl, HK.out.b⟩
end Go.Proofs.YtpkodjllljnleaaGreat
namespace Go.Proofs.YtpkodjllljnleaaGreat
open Go.RowKit
def IsPE (r : List Dct.Pr) (x : Int) (w : World) (e : Ending) (w' : World) : Prop := ∃ A n c, e = .returned (.tuple #[.slice A n c, .int .i64 x]) ∧ prLay.Own w.heap.size w' (.slice A n c) r ∧ Below w.heap.size w w'
set_option maxRecDepth 100000 in
set_option maxHeartbeats 12800000 in
theorem put_any (A : Option Addr) (c n : Nat) (l : List Dct.Pr) (key : ByteArray) (v : Val.V) (w : World) (hs : Sl w A n c l) (hv : v.f < 18446744073709551616) :
  Calls Tryz.prog 55 #[.slice A n c, .string key, vv v] w (IsPE (Dct.ptL l key v) (Dct.ptE l key v) w) := by
 have HM := zH (fun W (hW : Below w.heap.size w W) => mchk_any A c n l W (hs.later hW))
 have HC := zH (fun W => pchk_any key v W hv)
 have HP := zH (fun W (hW : Below w.heap.size w W) => parts_any A c n l key w W hs hW)
 have HS := zH hs
 have HOr := zH (fun a b W t g hg => or2a_any a b W t g hg)
 -- what is answered, by cases
 have HBad : Hid (¬ nz2 (Dct.mchk l) (Dct.pchk key v) = 0 → Dct.ptE l key v = nz2 (Dct.mchk l) (Dct.pchk key v) ∧ Dct.ptL l key v = l) := zH fun h => by
  by_cases hr : Dct.Right l
  ·rw [Dct.mchk_ok hr] at h ⊢
   exact Dct.pt_chk hr h
  ·rw [Dct.mchk_one hr] at h ⊢
   exact Dct.pt_bad hr key v
 have HGood : Hid (nz2 (Dct.mchk l) (Dct.pchk key v) = 0 → Dct.Right l ∧ Dct.pchk key v = 0) := zH fun h => by
  by_cases hr : Dct.Right l
  ·rw [Dct.mchk_ok hr] at h; exact ⟨hr, h⟩
  ·rw [Dct.mchk_one hr] at h; cases h
 have HFull : Hid (nz2 (Dct.mchk l) (Dct.pchk key v) = 0 → 8 ≤ (l.take (Dct.idx l key)).length + (l.drop (Dct.fin l key)).length → Dct.ptE l key v = 6 ∧ Dct.ptL l key v = l) := zH fun h h8 => by
  obtain ⟨hr, hk⟩ := HGood.out h
  have hw := congrArg List.length (Dct.wo_parts hr.up key).1
  rw [List.length_append] at hw
  exact Dct.pt_full hr hk (by omega)
 have HOk : Hid (nz2 (Dct.mchk l) (Dct.pchk key v) = 0 → ¬ 8 ≤ (l.take (Dct.idx l key)).length + (l.drop (Dct.fin l key)).length → Dct.ptE l key v = 0 ∧ Dct.ptL l key v = l.take (Dct.idx l key) ++ [⟨key, v⟩] ++ l.drop (Dct.fin l key)) := zH fun h h8 => by
  obtain ⟨hr, hk⟩ := HGood.out h
  have hw := congrArg List.length (Dct.wo_parts hr.up key).1
  rw [List.length_append] at hw
  exact Dct.pt_ok hr hk (by omega)
 have HFit : Hid (Fit [(⟨key, v⟩ : Dct.Pr)]) := zH ⟨fun x hx => by rw [List.mem_singleton] at hx; subst hx; exact hv, by show 1 ≤ _; decide⟩
 clear hs hv HGood
 generalize Dct.ptE l key v = X at *
 generalize Dct.ptL l key v = r at *
 generalize hE : nz2 (Dct.mchk l) (Dct.pchk key v) = E at *
 have HE := zH hE
 clear hE
 generalize Dct.mchk l = em at *
 generalize Dct.pchk key v = ek at *
 generalize l.take (Dct.idx l key) = l1 at *
 generalize (l.drop (Dct.idx l key)).take (Dct.fin l key - Dct.idx l key) = l2 at *
 generalize l.drop (Dct.fin l key) = l3 at *
 obtain ⟨k, m, f, s⟩ := v
 unfold vv IsE at *
 simp only at HC ⊢
 have HK := kn1 w 27 (vC k m f s)
 unfold vC at HK
 go_enter Tryz.func55, Tryz.ntmps55
 go_wp2_with fail
 refine wp_region_held_drew (S := (fun W => Hid (Kn w.heap.size w W [(w.heap.size, 27, #[.int .i64 k, .int .i64 m, .int .u64 (f : Int), .string s])] []))) (by kernel_rfl) ?_ (fun hHeld => ?_)
 ·(try dsimp only); exact zH HK.out.drew
 refine wpAnyH_take (i := 0) (oi := ⟨some 12, _, _, _, _, _⟩) (v := ?_) rfl (by kernel_rfl) (by kernel_rfl) (by kernel_rfl) (fun _ _ _ h => h) (Or.inl ⟨by rfl, ?_⟩) (by assumption) ?_
 rotate_left
 ·(intro w hSw; (try dsimp only at hSw); go_simp; try with_reducible rfl)
 try simp only [Act.put, List.setIfInBounds_toArray, List.set_cons_zero, List.set_cons_succ]
 refine wpAnyH_take (i := 2) (oi := ⟨some 14, _, _, _, _, _⟩) (v := ?_) rfl (by kernel_rfl) (by kernel_rfl) (by kernel_rfl) (fun _ _ _ h => h) (Or.inl ⟨by rfl, ?_⟩) (by assumption) ?_
 rotate_left
 ·(intro w hSw; (try dsimp only at hSw); go_simp; try with_reducible rfl)
 try simp only [Act.put, List.setIfInBounds_toArray, List.set_cons_zero, List.set_cons_succ]
 refine wpAnyH_take (i := 3) (oi := ⟨some 15, _, _, _, _, _⟩) (v := ?_) rfl (by kernel_rfl) (by kernel_rfl) (by kernel_rfl) (fun _ _ _ h => h) (Or.inl ⟨by rfl, ?_⟩) (by assumption) ?_
 rotate_left
 ·(intro w hSw; refine Eq.trans (kexec_vv hSw 0 _ (by rfl) (by rfl) (by rfl)) ?_; with_reducible rfl)
 try simp only [Act.put, List.setIfInBounds_toArray, List.set_cons_zero, List.set_cons_succ]
 refine wpAnyH_ready (rs := [1]) (by kernel_rfl) (by simp) ?_
 refine AllReadyH.cons (o := ⟨some 13, _, _, _, _, _⟩) rfl (fun K hK => ?_) AllReadyH.nil
 go_simp
 go_at_call 108
 refine (HM.out _ hHeld.out.b).mono ?_; rintro e w5 ⟨rfl, b5⟩; have hs := zH (hHeld.out.call b5); clear b5
 refine hK.out _ _ hs (fun hHeld => ?_)
 clear hK K
 try simp only [ap1, ap2, ap3, ap4, ap5]
 refine wpAnyH_ready (rs := [4]) (by kernel_rfl) (by simp) ?_
 refine AllReadyH.cons (o := ⟨some 16, _, _, _, _, _⟩) rfl (fun K hK => ?_) AllReadyH.nil
 go_simp
 go_at_call 110
 refine (HC.out _).mono ?_; rintro e w5 ⟨rfl, b5⟩; have hs := zH (hHeld.out.call b5); clear b5
 refine hK.out _ _ hs (fun hHeld => ?_)
 clear hK K
 try simp only [ap1, ap2, ap3, ap4, ap5]
 refine wpAnyH_ready (rs := [5]) (by kernel_rfl) (by simp) ?_
 refine AllReadyH.cons (o := ⟨some 17, _, _, _, _, _⟩) rfl (fun K hK => ?_) AllReadyH.nil
 go_simp; have hs := zH (hHeld.out.allocO (.cells #[.int .i64 em, .int .i64 ek] 31))
 refine hK.out _ _ hs (fun hHeld => ?_)
 clear hK K
 try simp only [ap1, ap2, ap3, ap4, ap5]
 refine wpAnyH_ready (rs := [6]) (by kernel_rfl) (by simp) ?_
 refine AllReadyH.cons (o := ⟨some 18, _, _, _, _, _⟩) rfl (fun K hK => ?_) AllReadyH.nil
 go_simp
 go_at_call 94
 refine (HOr.out _ _ _ _ _ rfl).mono ?_; rintro e w6 ⟨rfl, rfl⟩; have hs := hHeld
 refine hK.out _ _ hs (fun hHeld => ?_)
 clear hK K
 try simp only [ap1, ap2, ap3, ap4, ap5]
 refine wpAnyH_take (i := 7) (oi := ⟨some 8, _, _, _, _, _⟩) (v := ?_) rfl (by kernel_rfl) (by kernel_rfl) (by kernel_rfl) (fun _ _ _ h => h) (Or.inl ⟨by rfl, ?_⟩) (by assumption) ?_
 rotate_left
 ·(intro w hSw; (try dsimp only at hSw); go_simp; try with_reducible rfl)
 try simp only [Act.put, List.setIfInBounds_toArray, List.set_cons_zero, List.set_cons_succ]
 refine wpAnyH_done (by kernel_rfl) ?_ _
 rw [HE.out]
 replace HK := hHeld
 clear hHeld HM HC HOr HE
 generalize World.alloc _ _ = w7 at *
 by_cases hz : E = 0
 ·subst hz
  replace HFull := zH (HFull.out rfl)
  replace HOk := zH (HOk.out rfl)
  clear HBad
  go_wp2_with fail
  refine (HP.out _ HK.out.b).mono ?_; rintro e w1 ⟨A1, n1, c1, A2, n2, c2, A3, n3, c3, rfl, s1, s2, s3, b1⟩
  replace HK := hkC HK b1
  rw [s1.len, s3.len] at HFull HOk
  have S1 := zH s1
  have S3 := zH s3
  have hb1 := s1.big
  have hb3 := s3.big
  have hsum : wrap64 ((n1 : Int) + (n3 : Int)) = (n1 : Int) + (n3 : Int) := by unfold wrap64; omega
  clear s1 s2 s3 b1 HP
  by_cases h8 : 8 ≤ n1 + n3
  ·have h82 : 8 ≤ (n1 : Int) + (n3 : Int) := by omega
   obtain ⟨rfl, rfl⟩ := HFull.out h8
   go_wp2_with (first | (refine wpList_ms1 HK rfl _ rfl rfl ?_; intro w2 g2 HK' _; simp only [lcA, lnA] at HK'; replace HK := HK'; clear HK'))
   refine (join1_any HK 1 rfl (HS.out.later HK.out.b)).mono ?_; rintro e w3 ⟨A4, n4, c4, rfl, o4, b4⟩
   replace HK := zH (HK.out.called b4 o4)
   clear o4 b4
   go_wp2_with fail
   exact ret_t2 Tryz.results55 rfl rfl rfl ⟨A4, n4, c4, rfl, HK.out.own 0 rfl, HK.out.b⟩
  ·have h82 : ¬ 8 ≤ (n1 : Int) + (n3 : Int) := by omega
   obtain ⟨rfl, rfl⟩ := HOk.out h8
   go_wp2_with (first | refine wpList_of_exec (by rfl) (kexec_vv HK 0 _ (by rfl) (by rfl) (by rfl)) ?_ | (refine wpList_mp1 (p := ⟨key, ⟨k, m, f, s⟩⟩) HK rfl _ rfl rfl ?_; intro w2 g2 HK'; simp only [lnA] at HK'; replace HK := HK'; clear HK') | (refine wpList_ms3 HK rfl _ _ _ rfl rfl rfl rfl ?_; intro w2 g3 HK' _; simp only [lcA, lnA] at HK'; replace HK := HK'; clear HK'))
   refine (join3_any HK 1 rfl (S1.out.later HK.out.b) (Sl.own (HK.out.own 0 rfl) HFit.out) (S3.out.later HK.out.b) (by omega)).mono ?_; rintro e w3 ⟨A4, n4, c4, rfl, o4, b4⟩
   replace HK := zH (HK.out.called b4 o4)
   clear o4 b4
   go_wp2_with fail
   exact ret_t2 Tryz.results55 rfl rfl rfl ⟨A4, n4, c4, rfl, HK.out.own 1 rfl, HK.out.b⟩
 ·obtain ⟨rfl, rfl⟩ := HBad.out hz
  have hz2 : (X != 0) = true := by simpa using hz
  clear HBad HFull HOk HP HFit
  go_wp2_with (first | (refine wpList_ms1 HK rfl _ rfl rfl ?_; intro w2 g2 HK' _; simp only [lcA, lnA] at HK'; replace HK := HK'; clear HK'))
  refine (join1_any HK 1 rfl (HS.out.later HK.out.b)).mono ?_; rintro e w3 ⟨A4, n4, c4, rfl, o4, b4⟩
  replace HK := zH (HK.out.called b4 o4)
  clear o4 b4
  go_wp2_with fail
  exact ret_t2 Tryz.results55 rfl rfl rfl ⟨A4, n4, c4, rfl, HK.out.own 0 rfl, HK.out.b⟩
end Go.Proofs.YtpkodjllljnleaaGreat
namespace Go.Proofs.YtpkodjllljnleaaGreat
open Go.RowKit
def IsPVE (r : List Dct.Pr) (v : Val.V) (x : Int) (w : World) (e : Ending) (w' : World) : Prop := ∃ A n c, e = .returned (.tuple #[.slice A n c, vv v, .int .i64 x]) ∧ prLay.Own w.heap.size w' (.slice A n c) r ∧ Below w.heap.size w w'
set_option maxRecDepth 100000 in
set_option maxHeartbeats 12800000 in
theorem cut_any (A : Option Addr) (c n : Nat) (l : List Dct.Pr) (key : ByteArray) (w : World) (hs : Sl w A n c l) :
  Calls Tryz.prog 56 #[.slice A n c, .string key] w (IsPVE (Dct.ctL l key) (Dct.gtV l key) (Dct.gtE l key) w) := by
 have HG := zH (fun W (hW : Below w.heap.size w W) => get_any A c n l key W (hs.later hW))
 have HS := zH hs
 unfold Dct.ctL
 by_cases hz : Dct.gtE l key = 0
 ·have hu := (Dct.gt_ok hz).up
  have HW := zH (fun W (hW : Below w.heap.size w W) => dwo_any A c n l key W (hs.later hW) hu)
  rw [if_pos hz]
  rw [hz] at HG ⊢
  clear hz hu hs
  generalize Dct.gtV l key = v at *
  generalize Dct.wo l key = r at *
  obtain ⟨k, m, f, s⟩ := v
  unfold IsVE IsPVE vv at *
  simp only at HG ⊢
  have HK := zH (Kn.start w)
  go_enter Tryz.func56, Tryz.ntmps56
  go_wp2_with (first | (refine wpList_akv HK rfl rfl ?_; intro _ g1 HK'; simp only [lcA, lnA] at HK'; replace HK := HK'; clear HK'))
  refine (HG.out _ HK.out.b).mono ?_; rintro e w1 ⟨rfl, b1⟩
  replace HK := hkC HK b1
  clear b1
  go_wp2_with (first | (refine wpList_akv HK rfl rfl ?_; intro _ g2 HK'; simp only [lcA, lnA] at HK'; replace HK := HK'; clear HK') | (refine wpList_sv (f2 := f) HK 1 rfl _ _ rfl rfl rfl rfl ?_; intro _ HK'; simp only [List.set] at HK'; replace HK := HK'; clear HK'))
  have HK0 := zH HK.out.drew
  clear HG HS
  refine wp_region_held_drew (S := (fun W => Hid (Kn w.heap.size w W [(g2, 27, vC k m f s)] []))) (by kernel_rfl) ?_ (fun hHeld => ?_)
  ·(try dsimp only); exact zH (HK.out.drew.dropL 1)
  refine wpAnyH_take (i := 0) (oi := ⟨some 22, _, _, _, _, _⟩) (v := ?_) rfl (by kernel_rfl) (by kernel_rfl) (by kernel_rfl) (fun _ _ _ h => h) (Or.inl ⟨by rfl, ?_⟩) (by assumption) ?_
  rotate_left
  ·(intro w hSw; (try dsimp only at hSw); go_simp; try with_reducible rfl)
  try simp only [Act.put, List.setIfInBounds_toArray, List.set_cons_zero, List.set_cons_succ]
  refine wpAnyH_take (i := 1) (oi := ⟨some 23, _, _, _, _, _⟩) (v := ?_) rfl (by kernel_rfl) (by kernel_rfl) (by kernel_rfl) (fun _ _ _ h => h) (Or.inl ⟨by rfl, ?_⟩) (by assumption) ?_
  rotate_left
  ·(intro w hSw; (try dsimp only at hSw); go_simp; try with_reducible rfl)
  try simp only [Act.put, List.setIfInBounds_toArray, List.set_cons_zero, List.set_cons_succ]
  refine wpAnyH_take (i := 3) (oi := ⟨some 25, _, _, _, _, _⟩) (v := ?_) rfl (by kernel_rfl) (by kernel_rfl) (by kernel_rfl) (fun _ _ _ h => h) (Or.inl ⟨by rfl, ?_⟩) (by assumption) ?_
  rotate_left
  ·(intro w hSw; refine Eq.trans (kexec_vv hSw 0 _ (by rfl) (by rfl) (by rfl)) ?_; with_reducible rfl)
  try simp only [Act.put, List.setIfInBounds_toArray, List.set_cons_zero, List.set_cons_succ]
  refine wpAnyH_ready (rs := [2]) (by kernel_rfl) (by simp) ?_
  refine AllReadyH.cons (o := ⟨some 24, _, _, _, _, _⟩) rfl (fun K hK => ?_) AllReadyH.nil
  go_simp
  go_at_call 112
  refine (HW.out _ hHeld.out.b).mono ?_; rintro e w5 ⟨A4, n4, c4, rfl, o4, b5⟩; have hs := zH (hHeld.out.call b5); replace HK0 := zH (HK0.out.called b5 o4); clear b5 o4
  refine hK.out _ _ hs (fun hHeld => ?_)
  clear hK K
  try simp only [ap1, ap2, ap3, ap4, ap5]
  refine wpAnyH_take (i := 4) (oi := ⟨some 4, _, _, _, _, _⟩) (v := ?_) rfl (by kernel_rfl) (by kernel_rfl) (by kernel_rfl) (fun _ _ _ h => h) (Or.inl ⟨by rfl, ?_⟩) (by assumption) ?_
  rotate_left
  ·(intro w hSw; (try dsimp only at hSw); go_simp; try with_reducible rfl)
  try simp only [Act.put, List.setIfInBounds_toArray, List.set_cons_zero, List.set_cons_succ]
  refine wpAnyH_ready (rs := [5]) (by kernel_rfl) (by simp) ?_
  refine AllReadyH.cons (o := ⟨none, _, _, _, _, _⟩) rfl (fun K hK => ?_) AllReadyH.nil
  refine step_sv (f2 := f) HK0 0 (by rfl) _ _ (by rfl) (by rfl) (by rfl) (by rfl) ?_; intro wq HK'; simp only [List.set] at HK'; replace HK0 := HK'; clear HK'; have hs := zH ((HK0.out.dropL 1).takeR 0)
  refine hK.out _ _ hs (fun hHeld => ?_)
  clear hK K
  try simp only [ap1, ap2, ap3, ap4, ap5]
  refine wpAnyH_take (i := 6) (oi := ⟨some 6, _, _, _, _, _⟩) (v := ?_) rfl (by kernel_rfl) (by kernel_rfl) (by kernel_rfl) (fun _ _ _ h => h) (Or.inl ⟨by rfl, ?_⟩) (by assumption) ?_
  rotate_left
  ·(intro w hSw; (try dsimp only at hSw); go_simp; try with_reducible rfl)
  try simp only [Act.put, List.setIfInBounds_toArray, List.set_cons_zero, List.set_cons_succ]
  refine wpAnyH_done (by kernel_rfl) ?_ _
  all_goals
   go_wp2_with fail
   exact ret_pve Tryz.results56 rfl rfl rfl rfl (HK0.out.blk 0 rfl) ⟨A4, n4, c4, rfl, HK0.out.own 0 rfl, HK0.out.b⟩
 ·rw [if_neg hz]
  have hv := Dct.gt_ne hz
  rw [hv] at HG ⊢
  generalize Dct.gtE l key = X at *
  have hz2 : (X != 0) = true := by simpa using hz
  clear hv hs
  unfold IsVE IsPVE vv Dct.emp at *
  simp only at HG ⊢
  have HK := zH (Kn.start w)
  go_enter Tryz.func56, Tryz.ntmps56
  go_wp2_with (first | (refine wpList_akv HK rfl rfl ?_; intro _ g1 HK'; simp only [lcA, lnA] at HK'; replace HK := HK'; clear HK'))
  refine (HG.out _ HK.out.b).mono ?_; rintro e w1 ⟨rfl, b1⟩
  replace HK := hkC HK b1
  clear b1
  go_wp2_with (first | (refine wpList_akv HK rfl rfl ?_; intro _ g2 HK'; simp only [lcA, lnA] at HK'; replace HK := HK'; clear HK') | (refine wpList_sv (f2 := 0) HK 1 rfl _ _ rfl rfl rfl rfl ?_; intro _ HK'; simp only [List.set] at HK'; replace HK := HK'; clear HK') | (refine wpList_ms1 HK rfl _ rfl rfl ?_; intro w2 g3 HK' _; simp only [lcA, lnA] at HK'; replace HK := HK'; clear HK'))
  refine (join1_any HK 2 rfl (HS.out.later HK.out.b)).mono ?_; rintro e w3 ⟨A4, n4, c4, rfl, o4, b4⟩
  replace HK := zH (HK.out.called b4 o4)
  clear o4 b4
  go_wp2_with (first | (refine wpList_sv (f2 := 0) HK 0 rfl _ _ rfl rfl rfl rfl ?_; intro _ HK'; simp only [List.set] at HK'; replace HK := HK'; clear HK'))
  exact ret_pve Tryz.results56 rfl rfl rfl rfl (HK.out.blk 0 rfl) ⟨A4, n4, c4, rfl, HK.out.own 0 rfl, HK.out.b⟩
end Go.Proofs.YtpkodjllljnleaaGreat
namespace Go.Proofs.YtpkodjllljnleaaGreat
open Go.RowKit
set_option maxRecDepth 100000 in
set_option maxHeartbeats 12800000 in
theorem swap_any (A : Option Addr) (c n : Nat) (l : List Dct.Pr) (key : ByteArray) (o v : Val.V) (w : World) (hs : Sl w A n c l) (hv : v.f < 18446744073709551616) :
  Calls Tryz.prog 57 #[.slice A n c, .string key, vv o, vv v] w (IsPVE (Dct.swL l key o v) (Dct.swV l key o) (Dct.swE l key o v) w) := by
 have HG := zH (fun W (hW : Below w.heap.size w W) => get_any A c n l key W (hs.later hW))
 have HS := zH hs
 by_cases hr : Dct.Right l
 case neg =>
  obtain ⟨e1, e2, e3⟩ := Dct.sw_bad hr key o v
  obtain ⟨g1, g2⟩ := Dct.gt_bad hr key
  rw [g1, g2] at HG
  rw [e1, e2, e3]
  clear e1 e2 e3 g1 g2 hr hs
  obtain ⟨ok, om, of, os⟩ := o
  obtain ⟨vk, vm, vf, vs⟩ := v
  unfold IsVE IsPVE vv Dct.emp at *
  simp only at HG ⊢
  have HK := kn2 w 27 (vC ok om of os) 27 (vC vk vm vf vs)
  unfold vC at HK
  go_enter Tryz.func57, Tryz.ntmps57
  go_wp2_with (first | (refine wpList_akv HK rfl rfl ?_; intro _ ga HK'; simp only [lcA, lnA] at HK'; replace HK := HK'; clear HK'))
  refine (HG.out _ HK.out.b).mono ?_; rintro e w1 ⟨rfl, b1⟩
  replace HK := hkC HK b1
  clear b1
  go_wp2_with (first | (refine wpList_akv HK rfl rfl ?_; intro _ gb HK'; simp only [lcA, lnA] at HK'; replace HK := HK'; clear HK') | (refine wpList_sv (f2 := 0) HK 3 rfl _ _ rfl rfl rfl rfl ?_; intro _ HK'; simp only [List.set] at HK'; replace HK := HK'; clear HK') | (refine wpList_ms1 HK rfl _ rfl rfl ?_; intro w2 g3 HK' _; simp only [lcA, lnA] at HK'; replace HK := HK'; clear HK'))
  refine (join1_any HK 4 rfl (HS.out.later HK.out.b)).mono ?_; rintro e w3 ⟨A4, n4, c4, rfl, o4, b4⟩
  replace HK := zH (HK.out.called b4 o4)
  clear o4 b4
  go_wp2_with (first | (refine wpList_sv (f2 := 0) HK 2 rfl _ _ rfl rfl rfl rfl ?_; intro _ HK'; simp only [List.set] at HK'; replace HK := HK'; clear HK'))
  exact ret_pve Tryz.results57 rfl rfl rfl rfl (HK.out.blk 2 rfl) ⟨A4, n4, c4, rfl, HK.out.own 0 rfl, HK.out.b⟩
 case pos =>
 have hnb := Dct.gt_nb hr key
 by_cases ho : Dct.gtV l key = o
 case neg =>
  obtain ⟨e1, e2, e3⟩ := Dct.sw_unlike hr v ho
  rw [e1, e2, e3]
  clear e1 e2 e3 hr hs
  generalize Dct.gtV l key = t at *
  generalize Dct.gtE l key = X at *
  have hne := zH (show (!decide (t = o)) = true by rw [decide_eq_false ho]; rfl)
  clear ho
  have hx2 : (X == 1) = false := by simpa using hnb
  obtain ⟨ok, om, of, os⟩ := o
  obtain ⟨vk, vm, vf, vs⟩ := v
  obtain ⟨tk, tm, tf, ts⟩ := t
  unfold IsVE IsPVE vv at *
  simp only at HG ⊢
  have HK := kn2 w 27 (vC ok om of os) 27 (vC vk vm vf vs)
  unfold vC at HK
  go_enter Tryz.func57, Tryz.ntmps57
  go_wp2_with (first | (refine wpList_akv HK rfl rfl ?_; intro _ ga HK'; simp only [lcA, lnA] at HK'; replace HK := HK'; clear HK'))
  refine (HG.out _ HK.out.b).mono ?_; rintro e w1 ⟨rfl, b1⟩
  replace HK := hkC HK b1
  clear b1
  go_wp2_with (first | (refine wpList_akv HK rfl rfl ?_; intro _ gb HK'; simp only [lcA, lnA] at HK'; replace HK := HK'; clear HK') | (refine wpList_sv (f2 := tf) HK 3 rfl _ _ rfl rfl rfl rfl ?_; intro _ HK'; simp only [List.set] at HK'; replace HK := HK'; clear HK') | refine wpList_of_exec (by rfl) (kexec_vv HK 3 _ (by rfl) (by rfl) (by rfl)) ?_ | refine wpList_of_exec (by rfl) (kexec_vv HK 0 _ (by rfl) (by rfl) (by rfl)) ?_ | refine wpList_of_exec (by rfl) (exec_vne (v := ⟨tk, tm, tf, ts⟩) (u := ⟨ok, om, of, os⟩) _ _ (by rfl) (by rfl) (by rfl) hne.out) ?_)
  have HK0 := zH HK.out.drew
  refine wp_region_held_drew (S := (fun W => Hid (Kn w.heap.size w W [(gb, 27, vC tk tm tf ts)] []))) (by kernel_rfl) ?_ (fun hHeld => ?_)
  ·(try dsimp only); exact zH (HK.out.drew.dropL 3)
  refine wpAnyH_take (i := 0) (oi := ⟨some 32, _, _, _, _, _⟩) (v := ?_) rfl (by kernel_rfl) (by kernel_rfl) (by kernel_rfl) (fun _ _ _ h => h) (Or.inl ⟨by rfl, ?_⟩) (by assumption) ?_
  rotate_left
  ·(intro w hSw; (try dsimp only at hSw); go_simp; try with_reducible rfl)
  try simp only [Act.put, List.setIfInBounds_toArray, List.set_cons_zero, List.set_cons_succ]
  refine wpAnyH_take (i := 3) (oi := ⟨some 35, _, _, _, _, _⟩) (v := ?_) rfl (by kernel_rfl) (by kernel_rfl) (by kernel_rfl) (fun _ _ _ h => h) (Or.inl ⟨by rfl, ?_⟩) (by assumption) ?_
  rotate_left
  ·(intro w hSw; refine Eq.trans (kexec_vv hSw 0 _ (by rfl) (by rfl) (by rfl)) ?_; with_reducible rfl)
  try simp only [Act.put, List.setIfInBounds_toArray, List.set_cons_zero, List.set_cons_succ]
  refine wpAnyH_ready (rs := [1]) (by kernel_rfl) (by simp) ?_
  refine AllReadyH.cons (o := ⟨some 33, _, _, _, _, _⟩) rfl (fun K hK => ?_) AllReadyH.nil
  refine step_ms1 HK0 (by rfl) _ (by rfl) (by rfl) ?_; intro w2 g3 HK' bb; simp only [lcA, lnA] at HK'; have hs := zH (hHeld.out.call bb.out); replace HK0 := HK'; clear HK' bb
  refine hK.out _ _ hs (fun hHeld => ?_)
  clear hK K
  try simp only [ap1, ap2, ap3, ap4, ap5]
  refine wpAnyH_ready (rs := [2]) (by kernel_rfl) (by simp) ?_
  refine AllReadyH.cons (o := ⟨some 34, _, _, _, _, _⟩) rfl (fun K hK => ?_) AllReadyH.nil
  go_simp
  go_at_call 111
  refine (join1_any HK0 4 rfl (HS.out.later HK0.out.b)).mono ?_; rintro e w5 ⟨A4, n4, c4, rfl, o4, b5⟩; have hs := zH (hHeld.out.call b5); replace HK0 := zH (HK0.out.called b5 o4); clear b5 o4
  refine hK.out _ _ hs (fun hHeld => ?_)
  clear hK K
  try simp only [ap1, ap2, ap3, ap4, ap5]
  refine wpAnyH_take (i := 4) (oi := ⟨some 8, _, _, _, _, _⟩) (v := ?_) rfl (by kernel_rfl) (by kernel_rfl) (by kernel_rfl) (fun _ _ _ h => h) (Or.inl ⟨by rfl, ?_⟩) (by assumption) ?_
  rotate_left
  ·(intro w hSw; (try dsimp only at hSw); go_simp; try with_reducible rfl)
  try simp only [Act.put, List.setIfInBounds_toArray, List.set_cons_zero, List.set_cons_succ]
  refine wpAnyH_ready (rs := [5]) (by kernel_rfl) (by simp) ?_
  refine AllReadyH.cons (o := ⟨none, _, _, _, _, _⟩) rfl (fun K hK => ?_) AllReadyH.nil
  refine step_sv (f2 := tf) HK0 2 (by rfl) _ _ (by rfl) (by rfl) (by rfl) (by rfl) ?_; intro wq HK'; simp only [List.set] at HK'; replace HK0 := HK'; clear HK'; have hs := zH (((HK0.out.dropL 3).takeL 1).takeR 0)
  refine hK.out _ _ hs (fun hHeld => ?_)
  clear hK K
  try simp only [ap1, ap2, ap3, ap4, ap5]
  refine wpAnyH_take (i := 6) (oi := ⟨some 10, _, _, _, _, _⟩) (v := ?_) rfl (by kernel_rfl) (by kernel_rfl) (by kernel_rfl) (fun _ _ _ h => h) (Or.inl ⟨by rfl, ?_⟩) (by assumption) ?_
  rotate_left
  ·(intro w hSw; (try dsimp only at hSw); go_simp; try with_reducible rfl)
  try simp only [Act.put, List.setIfInBounds_toArray, List.set_cons_zero, List.set_cons_succ]
  refine wpAnyH_done (by kernel_rfl) ?_ _
  all_goals
   go_wp2_with fail
   exact ret_pve Tryz.results57 rfl rfl rfl rfl (HK0.out.blk 2 rfl) ⟨A4, n4, c4, rfl, HK0.out.own 0 rfl, HK0.out.b⟩
 case pos =>
 by_cases hve : v = Dct.emp
 case pos =>
  obtain ⟨e1, e2, e3⟩ := Dct.sw_cut hr ho
  have HW := zH (fun W (hW : Below w.heap.size w W) => dwo_any A c n l key W (hs.later hW) hr.up)
  rw [hve, e1, e2, e3]
  rw [ho] at HG
  clear e1 e2 e3 hr hs ho
  generalize Dct.gtE l key = X at *
  generalize Dct.wo l key = r at *
  have hne := zH (show (!decide (o = o)) = false by simp)
  have hve2 := zH (show decide ((⟨0, 0, 0, ⟨#[]⟩⟩ : Val.V) = ⟨0, 0, 0, ⟨#[]⟩⟩) = true by simp)
  clear hve
  have hx2 : (X == 1) = false := by simpa using hnb
  obtain ⟨ok, om, of, os⟩ := o
  unfold IsVE IsPVE vv Dct.emp at *
  simp only at HG ⊢
  have HK := kn2 w 27 (vC ok om of os) 27 (vC 0 0 0 ⟨#[]⟩)
  unfold vC at HK
  go_enter Tryz.func57, Tryz.ntmps57
  go_wp2_with (first | (refine wpList_akv HK rfl rfl ?_; intro _ ga HK'; simp only [lcA, lnA] at HK'; replace HK := HK'; clear HK'))
  refine (HG.out _ HK.out.b).mono ?_; rintro e w1 ⟨rfl, b1⟩
  replace HK := hkC HK b1
  clear b1
  go_wp2_with (first | (refine wpList_akv HK rfl rfl ?_; intro _ gb HK'; simp only [lcA, lnA] at HK'; replace HK := HK'; clear HK') | (refine wpList_sv (f2 := of) HK 3 rfl _ _ rfl rfl rfl rfl ?_; intro _ HK'; simp only [List.set] at HK'; replace HK := HK'; clear HK') | refine wpList_of_exec (by rfl) (kexec_vv HK 3 _ (by rfl) (by rfl) (by rfl)) ?_ | refine wpList_of_exec (by rfl) (kexec_vv HK 0 _ (by rfl) (by rfl) (by rfl)) ?_ | refine wpList_of_exec (by rfl) (kexec_vv HK 1 _ (by rfl) (by rfl) (by rfl)) ?_ | refine wpList_of_exec (by rfl) (exec_vne (v := ⟨ok, om, of, os⟩) (u := ⟨ok, om, of, os⟩) _ _ (by rfl) (by rfl) (by rfl) hne.out) ?_ | refine wpList_of_exec (by rfl) (exec_veq (v := ⟨0, 0, 0, ⟨#[]⟩⟩) (u := ⟨0, 0, 0, ⟨#[]⟩⟩) _ _ (by rfl) (by rfl) (by rfl) hve2.out) ?_)
  refine (HW.out _ HK.out.b).mono ?_; rintro e w3 ⟨A4, n4, c4, rfl, o4, b4⟩
  replace HK := zH (HK.out.called b4 o4)
  clear o4 b4
  go_wp2_with (first | (refine wpList_sv (f2 := 0) HK 2 rfl _ _ rfl rfl rfl rfl ?_; intro _ HK'; simp only [List.set] at HK'; replace HK := HK'; clear HK'))
  exact ret_pve Tryz.results57 rfl rfl rfl rfl (HK.out.blk 2 rfl) ⟨A4, n4, c4, rfl, HK.out.own 0 rfl, HK.out.b⟩
 case neg =>
  obtain ⟨e1, e2, e3⟩ := Dct.sw_put hr ho hve
  have HP := zH (fun W (hW : Below w.heap.size w W) => put_any A c n l key v W (hs.later hW) hv)
  rw [e1, e2, e3]
  rw [ho] at HG
  clear e1 e2 e3 hr hs ho hv
  generalize Dct.gtE l key = X at *
  generalize Dct.ptE l key v = y at *
  generalize Dct.ptL l key v = r at *
  have hne := zH (show (!decide (o = o)) = false by simp)
  have hve2 := zH (show decide (v = ⟨0, 0, 0, ⟨#[]⟩⟩) = false from decide_eq_false hve)
  clear hve
  have hx2 : (X == 1) = false := by simpa using hnb
  obtain ⟨ok, om, of, os⟩ := o
  obtain ⟨vk, vm, vf, vs⟩ := v
  unfold IsVE IsPVE IsPE vv Dct.emp at *
  simp only at HG HP ⊢
  have HK := kn2 w 27 (vC ok om of os) 27 (vC vk vm vf vs)
  unfold vC at HK
  go_enter Tryz.func57, Tryz.ntmps57
  go_wp2_with (first | (refine wpList_akv HK rfl rfl ?_; intro _ ga HK'; simp only [lcA, lnA] at HK'; replace HK := HK'; clear HK'))
  refine (HG.out _ HK.out.b).mono ?_; rintro e w1 ⟨rfl, b1⟩
  replace HK := hkC HK b1
  clear b1
  go_wp2_with (first | (refine wpList_akv HK rfl rfl ?_; intro _ gb HK'; simp only [lcA, lnA] at HK'; replace HK := HK'; clear HK') | (refine wpList_sv (f2 := of) HK 3 rfl _ _ rfl rfl rfl rfl ?_; intro _ HK'; simp only [List.set] at HK'; replace HK := HK'; clear HK') | refine wpList_of_exec (by rfl) (kexec_vv HK 3 _ (by rfl) (by rfl) (by rfl)) ?_ | refine wpList_of_exec (by rfl) (kexec_vv HK 0 _ (by rfl) (by rfl) (by rfl)) ?_ | refine wpList_of_exec (by rfl) (kexec_vv HK 1 _ (by rfl) (by rfl) (by rfl)) ?_ | refine wpList_of_exec (by rfl) (exec_vne (v := ⟨ok, om, of, os⟩) (u := ⟨ok, om, of, os⟩) _ _ (by rfl) (by rfl) (by rfl) hne.out) ?_ | refine wpList_of_exec (by rfl) (exec_veq (v := ⟨vk, vm, vf, vs⟩) (u := ⟨0, 0, 0, ⟨#[]⟩⟩) _ _ (by rfl) (by rfl) (by rfl) hve2.out) ?_)
  refine (HP.out _ HK.out.b).mono ?_; rintro e w3 ⟨A4, n4, c4, rfl, o4, b4⟩
  replace HK := zH (HK.out.called b4 o4)
  clear o4 b4
  go_wp2_with (first | (refine wpList_sv (f2 := 0) HK 2 rfl _ _ rfl rfl rfl rfl ?_; intro _ HK'; simp only [List.set] at HK'; replace HK := HK'; clear HK'))
  exact ret_pve Tryz.results57 rfl rfl rfl rfl (HK.out.blk 2 rfl) ⟨A4, n4, c4, rfl, HK.out.own 0 rfl, HK.out.b⟩
end Go.Proofs.YtpkodjllljnleaaGreat
