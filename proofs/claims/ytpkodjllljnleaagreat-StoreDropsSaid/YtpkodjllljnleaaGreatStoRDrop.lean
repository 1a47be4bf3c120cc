/- What the document's Drop returns: the objects without a session, and replies of others. No condition but those named. -/
import Derived.Test.YtpkodjllljnleaaGreatTk
import Derived.Test.YtpkodjllljnleaaGreatStoDrM
import Derived.Test.YtpkodjllljnleaaGreatMZ
import Derived.Test.YtpkodjllljnleaaGreatMT
import Derived.Test.YtpkodjllljnleaaGreatMW
set_option linter.unusedSimpArgs false
set_option linter.unusedVariables false
namespace Go.Proofs.YtpkodjllljnleaaGreat
open Go.RowKit
theorem get_set {l : List Oh} {k : Nat} {x : Oh} (y : Oh) (h : l[k]? = some x) : (l.set k y)[k]? = some y := by
 have hk := (List.getElem?_eq_some_iff.1 h).1
 rw [List.getElem?_set_self hk]
theorem vs_set2 (l : List Oh) (i : Nat) (y : Oh) : vs (l.set i y) = (vs l).set i y.v := by
 unfold vs
 rw [List.map_set]
set_option maxRecDepth 100000 in
set_option maxHeartbeats 25600000 in
theorem rdrop_any (G : World → Prop) (A : Option Addr) (cp n : Nat) (l : List Oh) (r : Rf) (w : World) (hG : ∀ W, G W → Obs W A n cp l) (hs : Obs w A n cp l) :
  Calls Tryz.prog 13 #[.slice A n cp, .agg #[.int .i64 r.c, .int .i64 r.e, .int .i64 r.r]] w (IsDp G (Sto.dropL (vs l) r) (Sto.dropO (vs l) r) w) := by
 have HGd := zH hG
 have HM := zH (fun W (hW : Below w.heap.size w W) => roright_any A cp n l W (hs.later hW))
 unfold IsB at HM
 have HK := kn1 w 24 #[.int .i64 r.c, .int .i64 r.e, .int .i64 r.r]
 unfold Sto.dropL Sto.dropO
 by_cases hr : Sto.Right (vs l)
 case neg =>
  rw [decide_eq_false hr] at HM
  rw [if_neg hr, if_neg hr]
  clear hs hr hG
  go_enter Tryz.func13, Tryz.ntmps13
  go_wp2_with fail
  (refine (HM.out _ HK.out.b).mono ?_; rintro e w1 ⟨rfl, b1⟩)
  replace HK := hkC HK b1; clear b1
  go_wp2_with fail
  exact ret_t2 Tryz.results13 rfl rfl rfl (by unfold IsDp; exact ⟨_, _, _, l, _, _, _, _, rfl, rfl, HK.out.takeL 0, fun _ _ _ _ _ K hm hb => ⟨HGd.out _ hb, Sls.none _⟩⟩)
 rw [decide_eq_true hr] at HM
 rw [if_pos hr, if_pos hr]
 have hlen : l.length = n := hs.len
 have hn8 : n ≤ 8 := by have := hr.len; rw [vs_len, hlen] at this; exact this
 have HVl : Hid ((vs l).length ≤ n) := zH (by rw [vs_len, hlen]; exact Nat.le_refl _)
 rw [← Sto.drk_all (r := r) HVl.out, ← Sto.osk_all (r := r) HVl.out]
 have HS := zH hs
 have HNl := zH hlen
 have HRd : Hid (∀ W, Below w.heap.size w W → obLay.Reads W W.heap.size A l ∧ (A = none → l = [])) := zH fun W hW => ⟨(hs.later hW).s.rd, (hs.later hW).s.nl⟩
 have HL0 : Hid (([] : List Oh).length + l.length ≤ 9223372036854775807 ∧ (([] : List Oh).length + l.length) * obLay.bytes ≤ 211106232532992) := zH (by
  rw [List.length_nil, Nat.zero_add, hlen]
  refine ⟨by omega, ?_⟩
  show n * 144 ≤ _
  omega)
 have HN0 : Hid ((([] : List Oh) ++ l).length = n) := zH hlen
 have HDr := zH (fun (x : Oh) (hx : x ∈ l) W (hW : Below w.heap.size w W) => rgdrop_any x.v.cap x.rA x.rc x.rn x.v.refs r W ((hs.i x hx).r.later hW))
 have HDl := zH (fun (x : Oh) (hx : x ∈ l) W (hW : Below w.heap.size w W) => rldrop_any x.rA x.rc x.rn x.v.refs r W ((hs.i x hx).r.later hW))
 unfold IsLgr at HDr
 unfold IsDrr at HDl
 clear hs hr hG hlen
 go_enter Tryz.func13, Tryz.ntmps13
 go_wp2_with fail
 (refine (HM.out _ HK.out.b).mono ?_; rintro e w1 ⟨rfl, b1⟩)
 replace HK := hkC HK b1; clear b1
 go_wp2_with (first | (refine wpList_mk0 obLay HK rfl rfl ?_; intro _ g2 HK'; simp only [lnA] at HK'; replace HK := HK'; clear HK'; have HR := zH (HRd.out _ HK.out.b)) | (at_builtin; refine wpList_kmore HK obLay 0 rfl _ _ rfl rfl rfl l rfl HNl.out.symm HR HL0 (N := n) HN0 ?_; intro A8 c8 _ HK'; simp only [List.set, lnA] at HK'; replace HK := HK'; clear HK'))
 replace HK := zH (HK.out.nilR otLay)
 simp only [lcA, lnA] at HK
 go_loopw [6, 7] (fun vo vi wr => ∃ (k : Nat) (A7 : Option Addr) (m7 c7 : Nat) (lk : List Oh) (Rk : List RowE), k ≤ n ∧ vo = .slice A7 m7 c7 ∧ vi = .int .i64 k ∧ Hid (lk.length = n) ∧ Hid (vs lk = Sto.drk (vs l) r k) ∧ Hid (∀ j, k ≤ j → lk[j]? = l[j]?) ∧ Hid ((Sto.osk (vs l) r k).length = m7) ∧ Hid (∀ (b : Nat) (W0 W : World) L R, Kn b W0 W L R → (∀ z ∈ Rk, z ∈ R) → G W → ∀ x ∈ lk, In W x) ∧ Hid (Kn w.heap.size w wr [(w.heap.size, 24, #[.int .i64 r.c, .int .i64 r.e, .int .i64 r.r])] (row obLay (.slice A8 n c8) lk :: row otLay (.slice A7 m7 c7) (Sto.osk (vs l) r k) :: Rk))) (fun _ vi _ => n - (intOf vi).toNat)
 case atStart => exact ⟨0, _, _, _, l, [], Nat.zero_le _, rfl, rfl, HNl, zH rfl, zH (fun _ _ => rfl), zH rfl, zH (fun _ _ _ _ _ _ _ hb => (HGd.out _ hb).i), HK⟩
 case round =>
  clear HK
  obtain ⟨k, A7, m7, c7, lk, Rk, hk, rfl, rfl, HLk, HVk, HSm, HOl, HIn, HK⟩ := hrel
  have hk1 : (0 : Int) ≤ (k : Int) := by omega
  have hk3 : k < 9223372036854775807 := by omega
  by_cases hkn : k < n
  case neg =>
   obtain rfl : k = n := by omega
   have hk2 : ¬ (k : Int) < (k : Int) := by omega
   have HO7 := Sto.osk_len (vs l) r k
   go_wp2_with fail
   exact ret_t2 Tryz.results13 rfl rfl rfl (by unfold IsDp; exact ⟨A8, k, c8, lk, A7, m7, c7, _, rfl, HVk, HK.out.takeL 0, fun _ _ _ _ _ K hm hb => ⟨⟨Sls.own (K.mem (hm _ (List.mem_cons_self ..))) ⟨fun y hy => trivial, by rw [HLk.out]; show k * 144 ≤ _; omega⟩, HIn.out _ _ _ _ _ K (fun z hz => hm _ (List.mem_cons_of_mem _ (List.mem_cons_of_mem _ hz))) hb⟩, Sls.own (K.mem (hm _ (List.mem_cons_of_mem _ (List.mem_cons_self ..)))) ⟨fun _ _ => trivial, by show _ * 72 ≤ 140737488355328; omega⟩⟩⟩)
  case pos =>
  have hk2 : (k : Int) < (n : Int) := by omega
  obtain ⟨x, hx⟩ := Lay.get_of (l := l) (k := k) (by rw [HNl.out]; exact hkn)
  have hxk : lk[k]? = some x := by rw [HSm.out k (Nat.le_refl _)]; exact hx
  have hml := List.mem_of_getElem? hx
  obtain ⟨g8, rfl⟩ := HK.out.headR (La := obLay) (j := 0) rfl (by rw [HLk.out]; omega)
  have HDrx := zH (HDr.out x hml)
  have HDlx := zH (HDl.out x hml)
  have HFr : Hid (Fits rfLay rF x.v.refs) := zH (HS.out.i x hml).r.fit
  have HDk := zH (Sto.drk_succ (r := r) (vs_get hx))
  have HOk := zH (Sto.osk_succ (r := r) (vs_get hx))
  have HSk : Hid (Sto.dr x.v r = x.v → Sto.drk (vs l) r (k + 1) = Sto.drk (vs l) r k) := zH (Sto.drk_same (vs_get hx))
  have HXl := zH hxk
  clear hx hml hxk
  by_cases h4 : x.v.kind = 4
  ·have K4 : Hid (decide (x.v.kind = 4) = true) := zH (decide_eq_true h4)
   have K3 : Hid (decide (x.v.kind = 3) = false) := zH (decide_eq_false (by omega))
   have HDd : Hid (Sto.dr x.v r = { x.v with refs := Gt.drL x.v.cap x.v.refs r }) := zH (by unfold Sto.dr; rw [if_neg (by omega), if_pos h4])
   have HOd : Hid (Sto.drO x.v r = []) := zH (by unfold Sto.drO; rw [if_neg (by omega)])
   have HFd := zH (fits_gdr (m := x.v.cap) (r := r) HFr.out)
   clear h4
   generalize Gt.drL x.v.cap x.v.refs r = m at *
   go_wp2_with (first | refine wpList_exe (exec_ixo0 (b := g8) (i := k) _ _ (by rfl) (by rfl) (by rfl) hkn) (by rfl) ?_ | refine wpList_exe (exec_obk (x := x) (off := k * 11) _ (by rfl) (by rfl) (HK.out.atR0 (La := obLay) (j := 0) rfl HXl.out)) (by rfl) ?_ | refine wpList_exe (exec_ier (x := x.v.kind) (k := 4) _ (by rfl) (by rfl) K4.out) (by rfl) ?_)
   have HK0 := zH HK.out.drew
   refine wp_region_held_drew (S := (fun W => Hid (Kn w.heap.size w W [(w.heap.size, 24, #[.int .i64 r.c, .int .i64 r.e, .int .i64 r.r])] []) ∧ Hid (W.cell? ⟨g8, k * 11 + 2, none⟩ = some (.int .i64 x.v.cap)))) (by kernel_rfl) ?_ (fun hHeld => ?_)
   ·(try dsimp only); exact And.intro (zH (HK0.out.takeR 0)) (zH (HK0.out.atR0 (La := obLay) (j := 0) rfl HXl.out 2 _ rfl))
   refine wpAnyH_take (i := 0) (oi := ⟨some 30, _, _, _, _, _⟩) (v := ?_) rfl (by kernel_rfl) (by kernel_rfl) (by kernel_rfl) (fun _ _ _ h => h) (Or.inl ⟨by rfl, ?_⟩) (by assumption) ?_
   rotate_left
   ·(intro w hSw; (try dsimp only at hSw); go_simp; try with_reducible rfl)
   try simp only [Act.put, List.setIfInBounds_toArray, List.set_cons_zero, List.set_cons_succ]
   refine wpAnyH_take (i := 1) (oi := ⟨some 31, _, _, _, _, _⟩) (v := ?_) rfl (by kernel_rfl) (by kernel_rfl) (by kernel_rfl) (fun _ _ _ h => h) (Or.inl ⟨by rfl, ?_⟩) (by assumption) ?_
   rotate_left
   ·(intro w hSw; (try dsimp only at hSw); go_simp; try with_reducible rfl)
   try simp only [Act.put, List.setIfInBounds_toArray, List.set_cons_zero, List.set_cons_succ]
   refine wpAnyH_take (i := 2) (oi := ⟨some 32, _, _, _, _, _⟩) (v := ?_) rfl (by kernel_rfl) (by kernel_rfl) (by kernel_rfl) (fun _ _ _ h => h) (Or.inl ⟨by rfl, ?_⟩) (by assumption) ?_
   rotate_left
   ·(intro w hSw; (try dsimp only at hSw); go_simp; try with_reducible rfl)
   try simp only [Act.put, List.setIfInBounds_toArray, List.set_cons_zero, List.set_cons_succ]
   refine wpAnyH_take (i := 3) (oi := ⟨some 33, _, _, _, _, _⟩) (v := ?_) rfl (by kernel_rfl) (by kernel_rfl) (by kernel_rfl) (fun _ _ _ h => h) (Or.inl ⟨by rfl, ?_⟩) (by assumption) ?_
   rotate_left
   ·(intro w hSw; (try dsimp only at hSw); go_simp; try with_reducible rfl)
   try simp only [Act.put, List.setIfInBounds_toArray, List.set_cons_zero, List.set_cons_succ]
   refine wpAnyH_take (i := 4) (oi := ⟨some 34, _, _, _, _, _⟩) (v := ?_) rfl (by kernel_rfl) (by kernel_rfl) (by kernel_rfl) (fun _ _ _ h => h) (Or.inl ⟨by rfl, ?_⟩) (by assumption) ?_
   rotate_left
   ·(intro w hSw; refine Eq.trans (exec_ixo0 (b := g8) (i := k) _ _ (by rfl) (by rfl) (by rfl) hkn) ?_; with_reducible rfl)
   try simp only [Act.put, List.setIfInBounds_toArray, List.set_cons_zero, List.set_cons_succ]
   refine wpAnyH_take (i := 5) (oi := ⟨some 35, _, _, _, _, _⟩) (v := ?_) rfl (by kernel_rfl) (by kernel_rfl) (by kernel_rfl) (fun _ _ _ h => h) (Or.inl ⟨by rfl, ?_⟩) (by assumption) ?_
   rotate_left
   ·(intro w hSw; (try dsimp only at hSw); go_simp; try with_reducible rfl)
   try simp only [Act.put, List.setIfInBounds_toArray, List.set_cons_zero, List.set_cons_succ]
   refine wpAnyH_take (i := 6) (oi := ⟨some 36, _, _, _, _, _⟩) (v := ?_) rfl (by kernel_rfl) (by kernel_rfl) (by kernel_rfl) (fun _ _ _ h => h) (Or.inl ⟨by rfl, ?_⟩) (by assumption) ?_
   rotate_left
   ·(intro w hSw; refine Eq.trans (exec_cell (ad := ⟨g8, k * 11 + 2, none⟩) _ (by rfl) (by rfl) hSw.2.out Tryz.underlying3 rfl) ?_; with_reducible rfl)
   try simp only [Act.put, List.setIfInBounds_toArray, List.set_cons_zero, List.set_cons_succ]
   refine wpAnyH_take (i := 7) (oi := ⟨some 37, _, _, _, _, _⟩) (v := ?_) rfl (by kernel_rfl) (by kernel_rfl) (by kernel_rfl) (fun _ _ _ h => h) (Or.inl ⟨by rfl, ?_⟩) (by assumption) ?_
   rotate_left
   ·(intro w hSw; (try dsimp only at hSw); go_simp; try with_reducible rfl)
   try simp only [Act.put, List.setIfInBounds_toArray, List.set_cons_zero, List.set_cons_succ]
   refine wpAnyH_take (i := 8) (oi := ⟨some 38, _, _, _, _, _⟩) (v := ?_) rfl (by kernel_rfl) (by kernel_rfl) (by kernel_rfl) (fun _ _ _ h => h) (Or.inl ⟨by rfl, ?_⟩) (by assumption) ?_
   rotate_left
   ·(intro w hSw; (try dsimp only at hSw); go_simp; try with_reducible rfl)
   try simp only [Act.put, List.setIfInBounds_toArray, List.set_cons_zero, List.set_cons_succ]
   refine wpAnyH_take (i := 9) (oi := ⟨some 39, _, _, _, _, _⟩) (v := ?_) rfl (by kernel_rfl) (by kernel_rfl) (by kernel_rfl) (fun _ _ _ h => h) (Or.inl ⟨by rfl, ?_⟩) (by assumption) ?_
   rotate_left
   ·(intro w hSw; refine Eq.trans (exec_ixo0 (b := g8) (i := k) _ _ (by rfl) (by rfl) (by rfl) hkn) ?_; with_reducible rfl)
   try simp only [Act.put, List.setIfInBounds_toArray, List.set_cons_zero, List.set_cons_succ]
   refine wpAnyH_take (i := 10) (oi := ⟨some 40, _, _, _, _, _⟩) (v := ?_) rfl (by kernel_rfl) (by kernel_rfl) (by kernel_rfl) (fun _ _ _ h => h) (Or.inl ⟨by rfl, ?_⟩) (by assumption) ?_
   rotate_left
   ·(intro w hSw; (try dsimp only at hSw); go_simp; try with_reducible rfl)
   try simp only [Act.put, List.setIfInBounds_toArray, List.set_cons_zero, List.set_cons_succ]
   refine wpAnyH_take (i := 12) (oi := ⟨some 42, _, _, _, _, _⟩) (v := ?_) rfl (by kernel_rfl) (by kernel_rfl) (by kernel_rfl) (fun _ _ _ h => h) (Or.inl ⟨by rfl, ?_⟩) (by assumption) ?_
   rotate_left
   ·(intro w hSw; refine Eq.trans (kexec_lr hSw.1 0 _ (by rfl) (by rfl) (by rfl)) ?_; with_reducible rfl)
   try simp only [Act.put, List.setIfInBounds_toArray, List.set_cons_zero, List.set_cons_succ]
   refine wpAnyH_ready (rs := [11]) (by kernel_rfl) (by simp) ?_
   refine AllReadyH.cons (o := ⟨some 41, _, _, _, _, _⟩) rfl (fun K hK => ?_) AllReadyH.nil
   refine step_of_exec (by rfl) (exec_obr (x := x) (off := k * 11) _ (by rfl) (by rfl) (HK0.out.atR0 (La := obLay) (j := 0) rfl HXl.out)) ?_; have hs := hHeld
   refine hK.out _ _ hs (fun hHeld => ?_)
   clear hK K
   try simp only [ap1, ap2, ap3, ap4, ap5]
   refine wpAnyH_ready (rs := [13]) (by kernel_rfl) (by simp) ?_
   refine AllReadyH.cons (o := ⟨some 43, _, _, _, _, _⟩) rfl (fun K hK => ?_) AllReadyH.nil
   go_simp
   go_at_call 38
   refine (HDrx.out _ HK0.out.b).mono ?_; rintro e w5 ⟨A4, n4, c4, rfl, o4, b4⟩; obtain ⟨Rn, k4, HIr⟩ := o4.kn b4 HFd.out; replace HK0 := zH (HK0.out.join k4); clear o4 b4 k4; have hs := And.intro (zH ((HK0.out.takeL 1).takeR 0)) (zH (HK0.out.atR0 (La := obLay) (j := 0) rfl HXl.out 2 _ rfl))
   refine hK.out _ _ hs (fun hHeld => ?_)
   clear hK K
   try simp only [ap1, ap2, ap3, ap4, ap5]
   refine wpAnyH_take (i := 14) (oi := ⟨some 44, _, _, _, _, _⟩) (v := ?_) rfl (by kernel_rfl) (by kernel_rfl) (by kernel_rfl) (fun _ _ _ h => h) (Or.inl ⟨by rfl, ?_⟩) (by assumption) ?_
   rotate_left
   ·(intro w hSw; refine Eq.trans (exec_ixo0 (b := g8) (i := k) _ _ (by rfl) (by rfl) (by rfl) hkn) ?_; with_reducible rfl)
   try simp only [Act.put, List.setIfInBounds_toArray, List.set_cons_zero, List.set_cons_succ]
   refine wpAnyH_take (i := 15) (oi := ⟨some 45, _, _, _, _, _⟩) (v := ?_) rfl (by kernel_rfl) (by kernel_rfl) (by kernel_rfl) (fun _ _ _ h => h) (Or.inl ⟨by rfl, ?_⟩) (by assumption) ?_
   rotate_left
   ·(intro w hSw; (try dsimp only at hSw); go_simp; try with_reducible rfl)
   try simp only [Act.put, List.setIfInBounds_toArray, List.set_cons_zero, List.set_cons_succ]
   refine wpAnyH_ready (rs := [16]) (by kernel_rfl) (by simp) ?_
   refine AllReadyH.cons (o := ⟨none, _, _, _, _, _⟩) rfl (fun K hK => ?_) AllReadyH.nil
   refine step_putF (La := obLay) HK0 0 (by rfl) 51 _ _ (by rfl) (by rfl) k x (x.sr A4 n4 c4 m) HXl.out 5 (by decide) (by rfl) (by rfl) (by rfl) (by rfl) info_rf1 (by rfl) ?_; clear HK0; intro wq HK0; simp only [lcA, List.set_cons_zero] at HK0; have hs := And.intro (zH ((HK0.out.takeL 1).takeR 0)) (zH (HK0.out.atR0 (La := obLay) (j := 0) rfl (get_set (x.sr A4 n4 c4 m) HXl.out) 2 _ rfl))
   refine hK.out _ _ hs (fun hHeld => ?_)
   clear hK K
   try simp only [ap1, ap2, ap3, ap4, ap5]
   refine wpAnyH_done (by kernel_rfl) ?_ _
   replace HK := HK0
   clear HK0 hHeld
   have HXs := zH (get_set (x.sr A4 n4 c4 m) HXl.out)
   go_wp2_with (first | refine wpList_exe (exec_ixo0 (b := g8) (i := k) _ _ (by rfl) (by rfl) (by rfl) hkn) (by rfl) ?_ | refine wpList_exe (exec_obk (x := x.sr A4 n4 c4 m) (off := k * 11) _ (by rfl) (by rfl) (HK.out.atR0 (La := obLay) (j := 0) rfl HXs.out)) (by rfl) ?_ | refine wpList_exe (exec_ier (x := x.v.kind) (k := 3) _ (by rfl) (by rfl) K3.out) (by rfl) ?_ | refine wpList_exe (exec_add1 (j := k) _ (by rfl) (by rfl) hk3) (by rfl) ?_)
   refine ⟨⟨k + 1, A7, m7, c7, lk.set k (x.sr A4 n4 c4 m), Rk ++ Rn, by omega, rfl, by go_num, zH (by rw [List.length_set]; exact HLk.out), zH (by rw [vs_set2, HVk.out, HDk.out, HDd.out]; rfl), zH (fun j hj => by rw [List.getElem?_set_ne (by omega)]; exact HSm.out j (by omega)), zH (by rw [HOk.out, HOd.out, List.append_nil]; exact HOl.out), zH (fun _ _ _ _ _ K hm hb z hz => ?_), ?_⟩, by simp [intOf]; omega⟩
   ·have h1 := HIn.out _ _ _ _ _ K (fun z hz => hm _ (List.mem_append_left _ hz)) hb
    rcases List.mem_or_eq_of_mem_set hz with h2 | rfl
    ·exact h1 z h2
    ·have h3 := h1 x (List.mem_of_getElem? HXl.out)
     exact h3.sr (HIr.out _ _ _ _ _ K (fun z hz => hm _ (List.mem_append_right _ hz)) h3.r)
   ·rw [HOk.out, HOd.out, List.append_nil]
    exact HK
  have K4 : Hid (decide (x.v.kind = 4) = false) := zH (decide_eq_false h4)
  by_cases h3 : x.v.kind = 3
  ·have K3 : Hid (decide (x.v.kind = 3) = true) := zH (decide_eq_true h3)
   have HDd : Hid (Sto.dr x.v r = { x.v with refs := Lck.drL x.v.refs r }) := zH (by unfold Sto.dr; rw [if_pos h3])
   have HOd : Hid (Sto.drO x.v r = Sto.held (Lck.drN x.v.refs r) (Lck.drS x.v.refs r)) := zH (by unfold Sto.drO; rw [if_pos h3])
   have HFd := zH (fits_dr (r := r) HFr.out)
   have HOb := Sto.osk_len (vs l) r k
   have HOm : Hid (m7 ≤ 8) := zH (by have := HOl.out; omega)
   clear h3 h4 HOb
   generalize Lck.drL x.v.refs r = m at *
   generalize Lck.drN x.v.refs r = y at *
   generalize Lck.drS x.v.refs r = h at *
   go_wp2_with (first | refine wpList_exe (exec_ixo0 (b := g8) (i := k) _ _ (by rfl) (by rfl) (by rfl) hkn) (by rfl) ?_ | refine wpList_exe (exec_obk (x := x) (off := k * 11) _ (by rfl) (by rfl) (HK.out.atR0 (La := obLay) (j := 0) rfl HXl.out)) (by rfl) ?_ | refine wpList_exe (exec_ier (x := x.v.kind) (k := 4) _ (by rfl) (by rfl) K4.out) (by rfl) ?_ | refine wpList_exe (exec_ier (x := x.v.kind) (k := 3) _ (by rfl) (by rfl) K3.out) (by rfl) ?_)
   have HK0 := zH HK.out.drew
   refine wp_region_held_drew (S := (fun W => Hid (Kn w.heap.size w W [(w.heap.size, 24, #[.int .i64 r.c, .int .i64 r.e, .int .i64 r.r])] [row obLay (.slice (some ⟨g8, 0, none⟩) n c8) lk]))) (by kernel_rfl) ?_ (fun hHeld => ?_)
   ·(try dsimp only); exact zH (HK0.out.takeR 1)
   refine wpAnyH_take (i := 0) (oi := ⟨some 53, _, _, _, _, _⟩) (v := ?_) rfl (by kernel_rfl) (by kernel_rfl) (by kernel_rfl) (fun _ _ _ h => h) (Or.inl ⟨by rfl, ?_⟩) (by assumption) ?_
   rotate_left
   ·(intro w hSw; (try dsimp only at hSw); go_simp; try with_reducible rfl)
   try simp only [Act.put, List.setIfInBounds_toArray, List.set_cons_zero, List.set_cons_succ]
   refine wpAnyH_take (i := 1) (oi := ⟨some 54, _, _, _, _, _⟩) (v := ?_) rfl (by kernel_rfl) (by kernel_rfl) (by kernel_rfl) (fun _ _ _ h => h) (Or.inl ⟨by rfl, ?_⟩) (by assumption) ?_
   rotate_left
   ·(intro w hSw; (try dsimp only at hSw); go_simp; try with_reducible rfl)
   try simp only [Act.put, List.setIfInBounds_toArray, List.set_cons_zero, List.set_cons_succ]
   refine wpAnyH_take (i := 2) (oi := ⟨some 55, _, _, _, _, _⟩) (v := ?_) rfl (by kernel_rfl) (by kernel_rfl) (by kernel_rfl) (fun _ _ _ h => h) (Or.inl ⟨by rfl, ?_⟩) (by assumption) ?_
   rotate_left
   ·(intro w hSw; refine Eq.trans (exec_ixo0 (b := g8) (i := k) _ _ (by rfl) (by rfl) (by rfl) hkn) ?_; with_reducible rfl)
   try simp only [Act.put, List.setIfInBounds_toArray, List.set_cons_zero, List.set_cons_succ]
   refine wpAnyH_take (i := 3) (oi := ⟨some 56, _, _, _, _, _⟩) (v := ?_) rfl (by kernel_rfl) (by kernel_rfl) (by kernel_rfl) (fun _ _ _ h => h) (Or.inl ⟨by rfl, ?_⟩) (by assumption) ?_
   rotate_left
   ·(intro w hSw; (try dsimp only at hSw); go_simp; try with_reducible rfl)
   try simp only [Act.put, List.setIfInBounds_toArray, List.set_cons_zero, List.set_cons_succ]
   refine wpAnyH_take (i := 4) (oi := ⟨some 57, _, _, _, _, _⟩) (v := ?_) rfl (by kernel_rfl) (by kernel_rfl) (by kernel_rfl) (fun _ _ _ h => h) (Or.inl ⟨by rfl, ?_⟩) (by assumption) ?_
   rotate_left
   ·(intro w hSw; refine Eq.trans (exec_obr (x := x) (off := k * 11) _ (by rfl) (by rfl) (hSw.out.atR0 (La := obLay) (j := 0) rfl HXl.out)) ?_; with_reducible rfl)
   try simp only [Act.put, List.setIfInBounds_toArray, List.set_cons_zero, List.set_cons_succ]
   refine wpAnyH_take (i := 5) (oi := ⟨some 58, _, _, _, _, _⟩) (v := ?_) rfl (by kernel_rfl) (by kernel_rfl) (by kernel_rfl) (fun _ _ _ h => h) (Or.inl ⟨by rfl, ?_⟩) (by assumption) ?_
   rotate_left
   ·(intro w hSw; refine Eq.trans (kexec_lr hSw 0 _ (by rfl) (by rfl) (by rfl)) ?_; with_reducible rfl)
   try simp only [Act.put, List.setIfInBounds_toArray, List.set_cons_zero, List.set_cons_succ]
   refine wpAnyH_ready (rs := [6, 11]) (by kernel_rfl) (by simp) ?_
   refine AllReadyH.cons (o := ⟨some 59, _, _, _, _, _⟩) rfl (fun K hK => ?_) (AllReadyH.cons (o := ⟨some 9, _, _, _, _, _⟩) rfl (fun K hK => ?_) AllReadyH.nil)
   go_simp
   go_at_call 39
   refine (HDlx.out _ HK0.out.b).mono ?_; rintro e w5 ⟨A4, n4, c4, rfl, o4, b4⟩; obtain ⟨Rn, k4, HIr⟩ := o4.kn b4 HFd.out; replace HK0 := zH (HK0.out.join k4); clear o4 b4 k4; have hs := zH ((HK0.out.takeL 1).takeR 1)
   refine hK.out _ _ hs (fun hHeld => ?_)
   clear hK K
   try simp only [ap1, ap2, ap3, ap4, ap5]
   refine wpAnyH_take (i := 7) (oi := ⟨some 52, _, _, _, _, _⟩) (v := ?_) rfl (by kernel_rfl) (by kernel_rfl) (by kernel_rfl) (fun _ _ _ h => h) (Or.inl ⟨by rfl, ?_⟩) (by assumption) ?_
   rotate_left
   ·(intro w hSw; (try dsimp only at hSw); go_simp; try with_reducible rfl)
   try simp only [Act.put, List.setIfInBounds_toArray, List.set_cons_zero, List.set_cons_succ]
   refine wpAnyH_take (i := 8) (oi := ⟨some 60, _, _, _, _, _⟩) (v := ?_) rfl (by kernel_rfl) (by kernel_rfl) (by kernel_rfl) (fun _ _ _ h => h) (Or.inl ⟨by rfl, ?_⟩) (by assumption) ?_
   rotate_left
   ·(intro w hSw; (try dsimp only at hSw); go_simp; try with_reducible rfl)
   try simp only [Act.put, List.setIfInBounds_toArray, List.set_cons_zero, List.set_cons_succ]
   refine wpAnyH_take (i := 9) (oi := ⟨some 61, _, _, _, _, _⟩) (v := ?_) rfl (by kernel_rfl) (by kernel_rfl) (by kernel_rfl) (fun _ _ _ h => h) (Or.inl ⟨by rfl, ?_⟩) (by assumption) ?_
   rotate_left
   ·(intro w hSw; (try dsimp only at hSw); go_simp; try with_reducible rfl)
   try simp only [Act.put, List.setIfInBounds_toArray, List.set_cons_zero, List.set_cons_succ]
   refine wpAnyH_take (i := 10) (oi := ⟨some 62, _, _, _, _, _⟩) (v := ?_) rfl (by kernel_rfl) (by kernel_rfl) (by kernel_rfl) (fun _ _ _ h => h) (Or.inl ⟨by rfl, ?_⟩) (by assumption) ?_
   rotate_left
   ·(intro w hSw; (try dsimp only at hSw); go_simp; try with_reducible rfl)
   try simp only [Act.put, List.setIfInBounds_toArray, List.set_cons_zero, List.set_cons_succ]
   refine wpAnyH_ready (rs := [11]) (by kernel_rfl) (by simp) ?_
   refine AllReadyH.cons (o := ⟨some 9, _, _, _, _, _⟩) rfl (fun K hK => ?_) AllReadyH.nil
   refine step_akrd HK0 (by rfl) (by rfl) ?_; clear HK0; intro wq g9 HK0; simp only [lcA, lnA] at HK0; have hs := zH ((HK0.out.takeL 1).takeR 1)
   refine hK.out _ _ hs (fun hHeld => ?_)
   clear hK K
   try simp only [ap1, ap2, ap3, ap4, ap5]
   refine wpAnyH_take (i := 12) (oi := ⟨some 8, _, _, _, _, _⟩) (v := ?_) rfl (by kernel_rfl) (by kernel_rfl) (by kernel_rfl) (fun _ _ _ h => h) (Or.inl ⟨by rfl, ?_⟩) (by assumption) ?_
   rotate_left
   ·(intro w hSw; (try dsimp only at hSw); go_simp; try with_reducible rfl)
   try simp only [Act.put, List.setIfInBounds_toArray, List.set_cons_zero, List.set_cons_succ]
   refine wpAnyH_ready (rs := [13]) (by kernel_rfl) (by simp) ?_
   refine AllReadyH.cons (o := ⟨none, _, _, _, _, _⟩) rfl (fun K hK => ?_) AllReadyH.nil
   refine step_sr HK0 1 (by rfl) _ _ (by rfl) (by rfl) (by rfl) (by rfl) ?_; clear HK0; intro wq HK0; simp only [List.set] at HK0; have hs := zH ((HK0.out.takeL 1).takeR 1)
   refine hK.out _ _ hs (fun hHeld => ?_)
   clear hK K
   try simp only [ap1, ap2, ap3, ap4, ap5]
   refine wpAnyH_take (i := 14) (oi := ⟨some 10, _, _, _, _, _⟩) (v := ?_) rfl (by kernel_rfl) (by kernel_rfl) (by kernel_rfl) (fun _ _ _ h => h) (Or.inl ⟨by rfl, ?_⟩) (by assumption) ?_
   rotate_left
   ·(intro w hSw; (try dsimp only at hSw); go_simp; try with_reducible rfl)
   try simp only [Act.put, List.setIfInBounds_toArray, List.set_cons_zero, List.set_cons_succ]
   refine wpAnyH_done (by kernel_rfl) ?_ _
   rotate_left
   refine step_akrd HK0 (by rfl) (by rfl) ?_; clear HK0; intro wq g9 HK0; simp only [lcA, lnA] at HK0; have hs := zH ((HK0.out.takeL 1).takeR 1)
   refine hK.out _ _ hs (fun hHeld => ?_)
   clear hK K
   try simp only [ap1, ap2, ap3, ap4, ap5]
   refine wpAnyH_ready (rs := [6]) (by kernel_rfl) (by simp) ?_
   refine AllReadyH.cons (o := ⟨some 59, _, _, _, _, _⟩) rfl (fun K hK => ?_) AllReadyH.nil
   go_simp
   go_at_call 39
   refine (HDlx.out _ HK0.out.b).mono ?_; rintro e w5 ⟨A4, n4, c4, rfl, o4, b4⟩; obtain ⟨Rn, k4, HIr⟩ := o4.kn b4 HFd.out; replace HK0 := zH (HK0.out.join k4); clear o4 b4 k4; have hs := zH ((HK0.out.takeL 1).takeR 1)
   refine hK.out _ _ hs (fun hHeld => ?_)
   clear hK K
   try simp only [ap1, ap2, ap3, ap4, ap5]
   refine wpAnyH_take (i := 7) (oi := ⟨some 52, _, _, _, _, _⟩) (v := ?_) rfl (by kernel_rfl) (by kernel_rfl) (by kernel_rfl) (fun _ _ _ h => h) (Or.inl ⟨by rfl, ?_⟩) (by assumption) ?_
   rotate_left
   ·(intro w hSw; (try dsimp only at hSw); go_simp; try with_reducible rfl)
   try simp only [Act.put, List.setIfInBounds_toArray, List.set_cons_zero, List.set_cons_succ]
   refine wpAnyH_take (i := 8) (oi := ⟨some 60, _, _, _, _, _⟩) (v := ?_) rfl (by kernel_rfl) (by kernel_rfl) (by kernel_rfl) (fun _ _ _ h => h) (Or.inl ⟨by rfl, ?_⟩) (by assumption) ?_
   rotate_left
   ·(intro w hSw; (try dsimp only at hSw); go_simp; try with_reducible rfl)
   try simp only [Act.put, List.setIfInBounds_toArray, List.set_cons_zero, List.set_cons_succ]
   refine wpAnyH_take (i := 9) (oi := ⟨some 61, _, _, _, _, _⟩) (v := ?_) rfl (by kernel_rfl) (by kernel_rfl) (by kernel_rfl) (fun _ _ _ h => h) (Or.inl ⟨by rfl, ?_⟩) (by assumption) ?_
   rotate_left
   ·(intro w hSw; (try dsimp only at hSw); go_simp; try with_reducible rfl)
   try simp only [Act.put, List.setIfInBounds_toArray, List.set_cons_zero, List.set_cons_succ]
   refine wpAnyH_take (i := 10) (oi := ⟨some 62, _, _, _, _, _⟩) (v := ?_) rfl (by kernel_rfl) (by kernel_rfl) (by kernel_rfl) (fun _ _ _ h => h) (Or.inl ⟨by rfl, ?_⟩) (by assumption) ?_
   rotate_left
   ·(intro w hSw; (try dsimp only at hSw); go_simp; try with_reducible rfl)
   try simp only [Act.put, List.setIfInBounds_toArray, List.set_cons_zero, List.set_cons_succ]
   refine wpAnyH_take (i := 12) (oi := ⟨some 8, _, _, _, _, _⟩) (v := ?_) rfl (by kernel_rfl) (by kernel_rfl) (by kernel_rfl) (fun _ _ _ h => h) (Or.inl ⟨by rfl, ?_⟩) (by assumption) ?_
   rotate_left
   ·(intro w hSw; (try dsimp only at hSw); go_simp; try with_reducible rfl)
   try simp only [Act.put, List.setIfInBounds_toArray, List.set_cons_zero, List.set_cons_succ]
   refine wpAnyH_ready (rs := [13]) (by kernel_rfl) (by simp) ?_
   refine AllReadyH.cons (o := ⟨none, _, _, _, _, _⟩) rfl (fun K hK => ?_) AllReadyH.nil
   refine step_sr HK0 1 (by rfl) _ _ (by rfl) (by rfl) (by rfl) (by rfl) ?_; clear HK0; intro wq HK0; simp only [List.set] at HK0; have hs := zH ((HK0.out.takeL 1).takeR 1)
   refine hK.out _ _ hs (fun hHeld => ?_)
   clear hK K
   try simp only [ap1, ap2, ap3, ap4, ap5]
   refine wpAnyH_take (i := 14) (oi := ⟨some 10, _, _, _, _, _⟩) (v := ?_) rfl (by kernel_rfl) (by kernel_rfl) (by kernel_rfl) (fun _ _ _ h => h) (Or.inl ⟨by rfl, ?_⟩) (by assumption) ?_
   rotate_left
   ·(intro w hSw; (try dsimp only at hSw); go_simp; try with_reducible rfl)
   try simp only [Act.put, List.setIfInBounds_toArray, List.set_cons_zero, List.set_cons_succ]
   refine wpAnyH_done (by kernel_rfl) ?_ _
   rotate_left
   all_goals
    replace HK : Hid (Kn w.heap.size w _ [(w.heap.size, 24, #[.int .i64 r.c, .int .i64 r.e, .int .i64 r.r]), (g9, 24, #[.int .i64 y.c, .int .i64 y.e, .int .i64 y.r])] (row obLay (.slice (some ⟨g8, 0, none⟩) n c8) lk :: row otLay (.slice A7 m7 c7) (Sto.osk (vs l) r k) :: (Rk ++ Rn))) := HK0
    clear HK0 hHeld
    have HXs := zH (get_set (x.sr A4 n4 c4 m) HXl.out)
    have HInS : Hid (∀ (b : Nat) (W0 W : World) L R, Kn b W0 W L R → (∀ z ∈ Rk ++ Rn, z ∈ R) → G W → ∀ z ∈ lk.set k (x.sr A4 n4 c4 m), In W z) := zH (fun _ _ _ _ _ K hm hb z hz => by
     have h1 := HIn.out _ _ _ _ _ K (fun z hz => hm _ (List.mem_append_left _ hz)) hb
     rcases List.mem_or_eq_of_mem_set hz with h2 | rfl
     ·exact h1 z h2
     ·have h3 := h1 x (List.mem_of_getElem? HXl.out)
      exact h3.sr (HIr.out _ _ _ _ _ K (fun z hz => hm _ (List.mem_append_right _ hz)) h3.r))
    cases h
    case false =>
     go_wp2_with (first | refine wpList_exe (exec_ixo0 (b := g8) (i := k) _ _ (by rfl) (by rfl) (by rfl) hkn) (by rfl) ?_ | (refine wpList_putF (La := obLay) HK 0 rfl 51 _ _ rfl rfl k x (x.sr A4 n4 c4 m) HXl.out 5 (by decide) rfl rfl rfl rfl info_rf1 rfl ?_; clear HK; intro wq HK; simp only [List.set_cons_zero] at HK) | refine wpList_exe (exec_add1 (j := k) _ (by rfl) (by rfl) hk3) (by rfl) ?_)
     refine ⟨⟨k + 1, A7, m7, c7, lk.set k (x.sr A4 n4 c4 m), Rk ++ Rn, by omega, rfl, by go_num, zH (by rw [List.length_set]; exact HLk.out), zH (by rw [vs_set2, HVk.out, HDk.out, HDd.out]; rfl), zH (fun j hj => by rw [List.getElem?_set_ne (by omega)]; exact HSm.out j (by omega)), zH (by rw [HOk.out, HOd.out]; exact (congrArg List.length (List.append_nil _)).trans HOl.out), HInS, ?_⟩, by simp [intOf]; omega⟩
     rw [HOk.out, HOd.out]
     refine zH ?_
     have h1 := HK.out.takeL 1
     rw [show Sto.osk (vs l) r k ++ Sto.held y false = Sto.osk (vs l) r k from List.append_nil _]
     exact h1
    case true =>
     have HL : Hid ((Sto.osk (vs l) r k).length + 1 ≤ 9223372036854775807 ∧ ((Sto.osk (vs l) r k).length + 1) * otLay.bytes ≤ 211106232532992) := zH (by
      rw [HOl.out]
      have := HOm.out
      refine ⟨by omega, ?_⟩
      show (m7 + 1) * 72 ≤ _
      omega)
     have HN3 : Hid ((Sto.osk (vs l) r k ++ [(⟨y, Sto.rz⟩ : Sto.Ot)]).length = m7 + 1) := zH (by rw [List.length_append, HOl.out]; rfl)
     generalize hos : Sto.osk (vs l) r k = os at *
     have HOs := zH hos
     clear hos
     go_wp2_with (first | refine wpList_exe (exec_ixo0 (b := g8) (i := k) _ _ (by rfl) (by rfl) (by rfl) hkn) (by rfl) ?_ | (refine wpList_putF (La := obLay) HK 0 rfl 51 _ _ rfl rfl k x (x.sr A4 n4 c4 m) HXl.out 5 (by decide) rfl rfl rfl rfl info_rf1 rfl ?_; clear HK; intro wq HK; simp only [List.set_cons_zero] at HK) | refine wpList_exe (kexec_lr HK 1 _ (by rfl) (by rfl) (by rfl)) (by rfl) ?_ | refine wpList_exe (exec_bo1 (r := y) _ (by rfl) (by rfl)) (by rfl) ?_ | (refine wpList_mk1 otLay (p := ⟨y, Sto.rz⟩) HK (by decide) rfl _ rfl rfl rfl ?_; intro _ g11 HK'; have HR := zH (Kn.lastOwn HK'.out).rd; simp only [lcA, lnA] at HK'; replace HK := HK'; clear HK') | (at_builtin; refine wpList_kmore HK otLay 1 rfl _ _ rfl rfl rfl [⟨y, Sto.rz⟩] rfl rfl HR HL (N := m7 + 1) HN3 ?_; intro A9 c9 _ HK'; simp only [List.set] at HK'; replace HK := HK'; clear HK') | refine wpList_exe (exec_add1 (j := k) _ (by rfl) (by rfl) hk3) (by rfl) ?_)
     refine ⟨⟨k + 1, A9, m7 + 1, c9, lk.set k (x.sr A4 n4 c4 m), Rk ++ Rn, by omega, rfl, by go_num, zH (by rw [List.length_set]; exact HLk.out), zH (by rw [vs_set2, HVk.out, HDk.out, HDd.out]; rfl), zH (fun j hj => by rw [List.getElem?_set_ne (by omega)]; exact HSm.out j (by omega)), zH (by rw [HOk.out, HOd.out]; exact HN3.out), HInS, ?_⟩, by simp [intOf]; omega⟩
     rw [HOk.out, HOd.out]
     exact zH (Kn.cutR (HK.out.takeL 1))
  ·have K3 : Hid (decide (x.v.kind = 3) = false) := zH (decide_eq_false h3)
   have HDd : Hid (Sto.dr x.v r = x.v) := zH (by unfold Sto.dr; rw [if_neg h3, if_neg h4])
   have HOd : Hid (Sto.drO x.v r = []) := zH (by unfold Sto.drO; rw [if_neg h3])
   clear h3 h4
   go_wp2_with (first | refine wpList_exe (exec_ixo0 (b := g8) (i := k) _ _ (by rfl) (by rfl) (by rfl) hkn) (by rfl) ?_ | refine wpList_exe (exec_obk (x := x) (off := k * 11) _ (by rfl) (by rfl) (HK.out.atR0 (La := obLay) (j := 0) rfl HXl.out)) (by rfl) ?_ | refine wpList_exe (exec_ier (x := x.v.kind) (k := 4) _ (by rfl) (by rfl) K4.out) (by rfl) ?_ | refine wpList_exe (exec_ier (x := x.v.kind) (k := 3) _ (by rfl) (by rfl) K3.out) (by rfl) ?_ | refine wpList_exe (exec_add1 (j := k) _ (by rfl) (by rfl) hk3) (by rfl) ?_)
   refine ⟨⟨k + 1, A7, m7, c7, lk, Rk, by omega, rfl, by go_num, HLk, zH (by rw [HSk.out HDd.out]; exact HVk.out), zH (fun j hj => HSm.out j (by omega)), zH (by rw [HOk.out, HOd.out, List.append_nil]; exact HOl.out), HIn, ?_⟩, by simp [intOf]; omega⟩
   rw [HOk.out, HOd.out, List.append_nil]
   exact HK
end Go.Proofs.YtpkodjllljnleaaGreat
