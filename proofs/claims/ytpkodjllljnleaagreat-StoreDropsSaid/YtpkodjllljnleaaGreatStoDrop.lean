/- What Drop returns: the objects without a session, and replies of others. No condition but those named. -/
import Derived.Test.YtpkodjllljnleaaGreatTk
import Derived.Test.YtpkodjllljnleaaGreatStoDrM
import Derived.Test.YtpkodjllljnleaaGreatMZ
import Derived.Test.YtpkodjllljnleaaGreatMM
import Derived.Test.YtpkodjllljnleaaGreatMN
import Derived.Test.YtpkodjllljnleaaGreatMO
import Derived.Test.YtpkodjllljnleaaGreatMW
set_option linter.unusedSimpArgs false
set_option linter.unusedVariables false
namespace Go.Proofs.YtpkodjllljnleaaGreat
open Go.RowKit
theorem get_setS {l : List Oh} {k : Nat} {x : Oh} (y : Oh) (h : l[k]? = some x) : (l.set k y)[k]? = some y := by
 have hk := (List.getElem?_eq_some_iff.1 h).1
 rw [List.getElem?_set_self hk]
theorem vs_setS (l : List Oh) (i : Nat) (y : Oh) : vs (l.set i y) = (vs l).set i y.v := by
 unfold vs
 rw [List.map_set]
theorem Kn.ins {b0 : Nat} {w0 w : World} {L : List (Nat × TypeId × Array Value)} {R : List RowE} {l : List Oh} (h : Kn b0 w0 w L R) (h2 : ∀ y ∈ l.flatMap rows3, y ∈ R) (hf : ∀ o ∈ vs l, Fo o) : ∀ x ∈ l, In w x := fun x hx => by
 have hfo := hf x.v (List.mem_map.2 ⟨x, hx, rfl⟩)
 have hm : ∀ y ∈ rows3 x, y ∈ R := fun y hy => h2 y (List.mem_flatMap.2 ⟨x, hx, hy⟩)
 have m0 : row prLay (.slice x.pA x.pn x.pc) x.v.prs ∈ rows3 x := List.mem_cons_self ..
 have m1 : row vaLay (.slice x.vA x.vn x.vc) x.v.vals ∈ rows3 x := List.mem_cons_of_mem _ (List.mem_cons_self ..)
 have m2 : row rfLay (.slice x.rA x.rn x.rc) x.v.refs ∈ rows3 x := List.mem_cons_of_mem _ (List.mem_cons_of_mem _ (List.mem_cons_self ..))
 exact ⟨Sl.own (h.mem (hm _ m0)) hfo.p, Sls.own (h.mem (hm _ m1)) hfo.v, Sls.own (h.mem (hm _ m2)) hfo.r, hfo.m, hfo.d⟩
set_option maxRecDepth 100000 in
set_option maxHeartbeats 25600000 in
theorem sdrop_any (A : Option Addr) (cp n : Nat) (l : List Oh) (r : Rf) (w : World) (hs : Obs w A n cp l) :
  Calls Tryz.prog 12 #[.slice A n cp, .agg #[.int .i64 r.c, .int .i64 r.e, .int .i64 r.r]] w (IsDp (fun _ => True) (Sto.dropL (vs l) r) (Sto.dropO (vs l) r) w) := by
 have HS := zH hs
 have HJ := zH ojoin_any
 have HM := zH (fun W (hW : Below w.heap.size w W) => oright_any A cp n l W (hs.later hW))
 unfold IsB at HM
 have HK := kn1 w 24 #[.int .i64 r.c, .int .i64 r.e, .int .i64 r.r]
 have hlen : (vs l).length = n := by rw [vs_len]; exact hs.len
 have hbig : n * 144 ≤ 140737488355328 := hs.s.big
 unfold Sto.dropL Sto.dropO
 generalize hv : vs l = V at *
 have HV := zH hv
 clear hv
 by_cases hr : Sto.Right V
 case neg =>
  rw [decide_eq_false hr] at HM
  rw [if_neg hr, if_neg hr]
  clear hs hr
  go_enter Tryz.func12, Tryz.ntmps12
  go_wp2_with (first | (refine wpList_mks1 obLay obNest HK rfl _ rfl rfl ?_; intro w2 g7 HK' _; simp only [lcA, lnA] at HK'; replace HK := HK'; clear HK'))
  refine (OJoins.one HJ.out HK 1 rfl (HS.out.later HK.out.b)).mono ?_; rintro e w3 ⟨A4, n4, c4, l4, rfl, v4, k4, o4⟩
  replace HK := zH (HK.out.join k4)
  have HFo := zH o4.fo
  have HBg := zH o4.s.big
  have HV4 := zH (v4.trans HV.out)
  clear v4 k4 o4
  simp only [lnA] at HK
  go_wp2_with fail
  (refine (HM.out _ HK.out.b).mono ?_; rintro e w1 ⟨rfl, b1⟩)
  replace HK := hkC HK b1; clear b1
  go_wp2_with fail
  exact ret_t2 Tryz.results12 rfl rfl rfl (by unfold IsDp; exact ⟨A4, n4, c4, l4, _, _, _, _, rfl, HV4, HK.out.takeL 0, fun _ _ _ _ _ K hm _ => ⟨K.obs (hm _ (List.mem_cons_self ..)) (fun y hy => hm _ (List.mem_cons_of_mem _ hy)) HFo.out HBg.out, Sls.none _⟩⟩)
 rw [decide_eq_true hr] at HM
 rw [if_pos hr, if_pos hr]
 have hn8 : n ≤ 8 := by have := hr.len; rw [hlen] at this; exact this
 have HVl : Hid (V.length ≤ n) := zH (by rw [hlen]; exact Nat.le_refl _)
 have HVn := zH hlen
 rw [← Sto.drk_all (r := r) HVl.out, ← Sto.osk_all (r := r) HVl.out]
 clear hs hr hlen hbig
 go_enter Tryz.func12, Tryz.ntmps12
 go_wp2_with (first | (refine wpList_mks1 obLay obNest HK rfl _ rfl rfl ?_; intro w2 g7 HK' _; simp only [lcA, lnA] at HK'; replace HK := HK'; clear HK'))
 refine (OJoins.one HJ.out HK 1 rfl (HS.out.later HK.out.b)).mono ?_; rintro e w3 ⟨A4, n4, c4, l4, rfl, v4, k4, o4⟩
 replace HK := zH (HK.out.join k4)
 have HFo := zH o4.fo
 have HV4 := zH (v4.trans HV.out)
 have HNl := zH o4.len
 obtain rfl : n = n4 := by
  have h1 := congrArg List.length HV4.out
  rw [vs_len, HNl.out, HVn.out] at h1
  exact h1.symm
 clear v4 k4 o4
 simp only [lnA] at HK
 replace HK := zH (HK.out.takeL 1)
 go_wp2_with fail
 (refine (HM.out _ HK.out.b).mono ?_; rintro e w1 ⟨rfl, b1⟩)
 replace HK := hkC HK b1; clear b1
 go_wp2_with (first | (refine wpList_mk0 otLay HK rfl rfl ?_; intro _ g2 HK'; replace HK := HK'; clear HK'))
 replace HK := zH (Kn.rot HK.out)
 have HIn0 : Hid (∀ (b : Nat) (W0 W : World) L R, Kn b W0 W L R → (∀ z ∈ l4.flatMap rows3, z ∈ R) → ∀ x ∈ l4, In W x) := zH fun _ _ _ _ _ K hm => K.ins hm HFo.out
 go_loopw [7, 23] (fun vo vi wr => ∃ (k : Nat) (A7 : Option Addr) (m7 c7 : Nat) (lk : List Oh) (Rk : List RowE), k ≤ n ∧ vo = .slice A7 m7 c7 ∧ vi = .int .i64 k ∧ Hid (lk.length = n) ∧ Hid (vs lk = Sto.drk V r k) ∧ Hid (∀ j, k ≤ j → lk[j]? = l4[j]?) ∧ Hid ((Sto.osk V r k).length = m7) ∧ Hid (∀ (b : Nat) (W0 W : World) L R, Kn b W0 W L R → (∀ z ∈ Rk, z ∈ R) → ∀ x ∈ lk, In W x) ∧ Hid (Kn w.heap.size w wr [(w.heap.size, 24, #[.int .i64 r.c, .int .i64 r.e, .int .i64 r.r])] (row obLay (.slice A4 n c4) lk :: row otLay (.slice A7 m7 c7) (Sto.osk V r k) :: Rk))) (fun _ vi _ => n - (intOf vi).toNat)
 case atStart => exact ⟨0, _, _, _, l4, _, Nat.zero_le _, rfl, rfl, HNl, HV4, zH (fun _ _ => rfl), zH rfl, HIn0, HK⟩
 case round =>
  clear HK HIn0
  obtain ⟨k, A7, m7, c7, lk, Rk, hk, rfl, rfl, HLk, HVk, HSm, HOl, HIn, HK⟩ := hrel
  have hk1 : (0 : Int) ≤ (k : Int) := by omega
  have hk3 : k < 9223372036854775807 := by omega
  by_cases hkn : k < n
  case neg =>
   obtain rfl : k = n := by omega
   have hk2 : ¬ (k : Int) < (k : Int) := by omega
   have HO7 := Sto.osk_len V r k
   go_wp2_with fail
   exact ret_t2 Tryz.results12 rfl rfl rfl (by unfold IsDp; exact ⟨A4, k, c4, lk, A7, m7, c7, _, rfl, HVk, HK.out.takeL 0, fun _ _ _ _ _ K hm _ => ⟨⟨Sls.own (K.mem (hm _ (List.mem_cons_self ..))) ⟨fun y hy => trivial, by rw [HLk.out]; show k * 144 ≤ _; omega⟩, HIn.out _ _ _ _ _ K (fun z hz => hm _ (List.mem_cons_of_mem _ (List.mem_cons_of_mem _ hz)))⟩, Sls.own (K.mem (hm _ (List.mem_cons_of_mem _ (List.mem_cons_self ..)))) ⟨fun _ _ => trivial, by show _ * 72 ≤ 140737488355328; omega⟩⟩⟩)
  case pos =>
  have hk2 : (k : Int) < (n : Int) := by omega
  obtain ⟨x, hx⟩ := Lay.get_of (l := l4) (k := k) (by rw [HNl.out]; exact hkn)
  have hxk : lk[k]? = some x := by rw [HSm.out k (Nat.le_refl _)]; exact hx
  have hvx : V[k]? = some x.v := by rw [← HV4.out]; exact vs_get hx
  have hml := List.mem_of_getElem? hxk
  obtain ⟨g4, rfl⟩ := HK.out.headR (La := obLay) (j := 0) rfl (by rw [HLk.out]; omega)
  have HIx : Hid (∀ (b : Nat) (W0 W : World) L R, Kn b W0 W L R → (∀ z ∈ Rk, z ∈ R) → In W x) := zH fun _ _ _ _ _ K hm => HIn.out _ _ _ _ _ K hm x hml
  have HFr : Hid (Fits rfLay rF x.v.refs) := zH (HIx.out _ _ _ _ _ HK.out (fun z hz => List.mem_cons_of_mem _ (List.mem_cons_of_mem _ hz))).r.fit
  have HDk := zH (Sto.drk_succ (r := r) hvx)
  have HOk := zH (Sto.osk_succ (r := r) hvx)
  have HSk : Hid (Sto.dr x.v r = x.v → Sto.drk V r (k + 1) = Sto.drk V r k) := zH (Sto.drk_same hvx)
  have HXl := zH hxk
  have HOb := Sto.osk_len V r k
  have HOm : Hid (m7 ≤ 8) := zH (by have := HOl.out; omega)
  clear hx hml hxk hvx HOb
  by_cases h3 : x.v.kind = 3
  ·have K3 : Hid (decide (x.v.kind = 3) = true) := zH (decide_eq_true h3)
   have HDd : Hid (Sto.dr x.v r = { x.v with refs := Lck.drL x.v.refs r }) := zH (by unfold Sto.dr; rw [if_pos h3])
   have HOd : Hid (Sto.drO x.v r = Sto.held (Lck.drN x.v.refs r) (Lck.drS x.v.refs r)) := zH (by unfold Sto.drO; rw [if_pos h3])
   have HFd := zH (fits_dr (r := r) HFr.out)
   have HD : Hid (∀ W, In W x → Calls Tryz.prog 35 #[.slice x.rA x.rn x.rc, .agg #[.int .i64 r.c, .int .i64 r.e, .int .i64 r.r]] W (IsDr (Lck.drL x.v.refs r) (Lck.drN x.v.refs r) (Lck.drS x.v.refs r) W)) := zH fun W h => ldrop_any x.rA x.rc x.rn x.v.refs r W h.r
   unfold IsDr at HD
   clear h3
   generalize Lck.drL x.v.refs r = m at *
   generalize Lck.drN x.v.refs r = y at *
   generalize Lck.drS x.v.refs r = h at *
   have HHl := Sto.held_len y h
   have HH := zH (fun W => sheld_any y h W)
   unfold IsOt at HH
   go_wp2_with (first | refine wpList_exe (exec_ixo0 (b := g4) (i := k) _ _ (by rfl) (by rfl) (by rfl) hkn) (by rfl) ?_ | refine wpList_of_exec (v := .agg (obA x)) (by rfl) (exec_obx (off := k * 11) _ (by rfl) (by rfl) (HK.out.atR0 (La := obLay) (j := 0) rfl HXl.out)) ?_ | (refine wpList_aob HK rfl rfl ?_; intro _ g9 HK'; simp only [lcA, lnA] at HK'; replace HK := HK'; clear HK') | (refine wpList_sob (y := x) HK 1 rfl _ _ rfl rfl rfl rfl ?_; intro _ HK'; simp only [List.set] at HK'; replace HK := HK'; clear HK') | refine wpList_exe (kob_k HK 1 _ (by rfl) (by rfl) (by rfl)) (by rfl) ?_ | refine wpList_exe (exec_ier (x := x.v.kind) (k := 3) _ (by rfl) (by rfl) K3.out) (by rfl) ?_ | refine wpList_exe (kob_r HK 1 _ (by rfl) (by rfl) (by rfl)) (by rfl) ?_ | refine wpList_exe (kob_c HK 1 _ (by rfl) (by rfl) (by rfl)) (by rfl) ?_ | refine wpList_exe (kexec_lr HK 0 _ (by rfl) (by rfl) (by rfl)) (by rfl) ?_ | refine wpList_exe (exec_add1 (j := k) _ (by rfl) (by rfl) hk3) (by rfl) ?_)
   refine (HD.out _ (HIx.out _ _ _ _ _ HK.out (fun z hz => List.mem_cons_of_mem _ (List.mem_cons_of_mem _ hz)))).mono ?_; rintro e w5 ⟨A5, n5, c5, rfl, o5, b5⟩
   replace HK := zH (HK.out.called b5 o5)
   simp only [lcA, lnA] at HK
   clear o5 b5
   have HXs := zH (get_setS (x.sr A5 n5 c5 m) HXl.out)
   go_wp2_with (first | (refine wpList_akr HK rfl rfl ?_; intro _ g11 HK'; simp only [lcA, lnA] at HK'; replace HK := HK'; clear HK') | (refine wpList_sr HK 2 rfl _ _ rfl rfl rfl rfl ?_; intro _ HK'; simp only [List.set] at HK'; replace HK := HK'; clear HK') | refine wpList_exe (exec_ixo0 (b := g4) (i := k) _ _ (by rfl) (by rfl) (by rfl) hkn) (by rfl) ?_ | (refine wpList_putF (La := obLay) HK 0 rfl 51 _ _ rfl rfl k x (x.sr A5 n5 c5 m) HXl.out 5 (by decide) rfl rfl rfl rfl info_rf1 rfl ?_; clear HK; intro wq HK; simp only [List.set_cons_zero] at HK) | refine wpList_exe (kexec_lr HK 2 _ (by rfl) (by rfl) (by rfl)) (by rfl) ?_)
   refine (HH.out _).mono ?_; rintro e w6 ⟨A6, n6, c6, rfl, k6, b6⟩
   replace HK := zH (k6 _ _ _ _ HK.out)
   have HOn := zH (Kn.lastOwn HK.out)
   clear k6 b6
   simp only [lcA] at HK
   obtain rfl : n6 = (Sto.held y h).length := HOn.out.reads.1
   have HR := zH HOn.out.rd
   have HL : Hid ((Sto.osk V r k).length + (Sto.held y h).length ≤ 9223372036854775807 ∧ ((Sto.osk V r k).length + (Sto.held y h).length) * otLay.bytes ≤ 211106232532992) := zH (by
    rw [HOl.out]
    have := HOm.out
    refine ⟨by omega, ?_⟩
    show (m7 + _) * 72 ≤ _
    omega)
   have HN3 : Hid ((Sto.osk V r k ++ Sto.held y h).length = m7 + (Sto.held y h).length) := zH (by rw [List.length_append, HOl.out])
   clear HHl HOn
   generalize hos : Sto.osk V r k = os at *
   have HOs := zH hos
   clear hos
   generalize hhs : Sto.held y h = q at *
   have HHs := zH hhs
   clear hhs
   generalize hn7 : m7 + q.length = N7 at *
   have HN7 := zH hn7
   clear hn7
   go_wp2_with (first | (at_builtin; refine wpList_kmore HK otLay 1 rfl _ _ rfl rfl rfl q rfl rfl HR HL (N := N7) HN3 ?_; intro A9 c9 _ HK'; simp only [List.set] at HK'; replace HK := HK'; clear HK') | refine wpList_exe (exec_add1 (j := k) _ (by rfl) (by rfl) hk3) (by rfl) ?_)
   refine ⟨⟨k + 1, A9, N7, c9, lk.set k (x.sr A5 n5 c5 m), Rk ++ [row rfLay (.slice A5 n5 c5) m], by omega, rfl, by go_num, zH (by rw [List.length_set]; exact HLk.out), zH (by rw [vs_setS, HVk.out, HDk.out, HDd.out]; rfl), zH (fun j hj => by rw [List.getElem?_set_ne (by omega)]; exact HSm.out j (by omega)), zH (by rw [HOk.out, HOd.out]; exact HN3.out), zH (fun _ _ _ _ _ K hm z hz => ?_), ?_⟩, by simp [intOf]; omega⟩
   ·have h1 := HIn.out _ _ _ _ _ K (fun z hz => hm _ (List.mem_append_left _ hz))
    rcases List.mem_or_eq_of_mem_set hz with h2 | rfl
    ·exact h1 z h2
    ·exact (h1 x (List.mem_of_getElem? HXl.out)).sr (Sls.own (K.mem (hm _ (List.mem_append_right _ (List.mem_cons_self ..)))) HFd.out)
   ·rw [HOk.out, HOd.out]
    exact zH (Kn.cutR (HK.out.takeL 1))
  have K3 : Hid (decide (x.v.kind = 3) = false) := zH (decide_eq_false h3)
  by_cases h4 : x.v.kind = 4
  ·have K4 : Hid (decide (x.v.kind = 4) = true) := zH (decide_eq_true h4)
   have HDd : Hid (Sto.dr x.v r = { x.v with refs := Gt.drL x.v.cap x.v.refs r }) := zH (by unfold Sto.dr; rw [if_neg (by omega), if_pos h4])
   have HOd : Hid (Sto.drO x.v r = []) := zH (by unfold Sto.drO; rw [if_neg (by omega)])
   have HFd := zH (fits_gdr (m := x.v.cap) (r := r) HFr.out)
   have HD : Hid (∀ W, In W x → Calls Tryz.prog 37 #[.int .i64 x.v.cap, .slice x.rA x.rn x.rc, .agg #[.int .i64 r.c, .int .i64 r.e, .int .i64 r.r]] W (IsLg rfLay (Gt.drL x.v.cap x.v.refs r) W)) := zH fun W h => gdrop_any x.v.cap x.rA x.rc x.rn x.v.refs r W h.r
   unfold IsLg at HD
   clear h3 h4
   generalize Gt.drL x.v.cap x.v.refs r = m at *
   go_wp2_with (first | refine wpList_exe (exec_ixo0 (b := g4) (i := k) _ _ (by rfl) (by rfl) (by rfl) hkn) (by rfl) ?_ | refine wpList_of_exec (v := .agg (obA x)) (by rfl) (exec_obx (off := k * 11) _ (by rfl) (by rfl) (HK.out.atR0 (La := obLay) (j := 0) rfl HXl.out)) ?_ | (refine wpList_aob HK rfl rfl ?_; intro _ g9 HK'; simp only [lcA, lnA] at HK'; replace HK := HK'; clear HK') | (refine wpList_sob (y := x) HK 1 rfl _ _ rfl rfl rfl rfl ?_; intro _ HK'; simp only [List.set] at HK'; replace HK := HK'; clear HK') | refine wpList_exe (kob_k HK 1 _ (by rfl) (by rfl) (by rfl)) (by rfl) ?_ | refine wpList_exe (exec_ier (x := x.v.kind) (k := 3) _ (by rfl) (by rfl) K3.out) (by rfl) ?_ | refine wpList_exe (exec_ier (x := x.v.kind) (k := 4) _ (by rfl) (by rfl) K4.out) (by rfl) ?_ | refine wpList_exe (kob_r HK 1 _ (by rfl) (by rfl) (by rfl)) (by rfl) ?_ | refine wpList_exe (kob_c HK 1 _ (by rfl) (by rfl) (by rfl)) (by rfl) ?_ | refine wpList_exe (kexec_lr HK 0 _ (by rfl) (by rfl) (by rfl)) (by rfl) ?_ | refine wpList_exe (exec_add1 (j := k) _ (by rfl) (by rfl) hk3) (by rfl) ?_)
   refine (HD.out _ (HIx.out _ _ _ _ _ HK.out (fun z hz => List.mem_cons_of_mem _ (List.mem_cons_of_mem _ hz)))).mono ?_; rintro e w5 ⟨A5, n5, c5, rfl, o5, b5⟩
   replace HK := zH (HK.out.called b5 o5)
   simp only [lcA, lnA] at HK
   clear o5 b5
   go_wp2_with (first | refine wpList_exe (exec_ixo0 (b := g4) (i := k) _ _ (by rfl) (by rfl) (by rfl) hkn) (by rfl) ?_ | (refine wpList_putF (La := obLay) HK 0 rfl 51 _ _ rfl rfl k x (x.sr A5 n5 c5 m) HXl.out 5 (by decide) rfl rfl rfl rfl info_rf1 rfl ?_; clear HK; intro wq HK; simp only [List.set_cons_zero] at HK) | refine wpList_exe (exec_add1 (j := k) _ (by rfl) (by rfl) hk3) (by rfl) ?_)
   refine ⟨⟨k + 1, A7, m7, c7, lk.set k (x.sr A5 n5 c5 m), Rk ++ [row rfLay (.slice A5 n5 c5) m], by omega, rfl, by go_num, zH (by rw [List.length_set]; exact HLk.out), zH (by rw [vs_setS, HVk.out, HDk.out, HDd.out]; rfl), zH (fun j hj => by rw [List.getElem?_set_ne (by omega)]; exact HSm.out j (by omega)), zH (by rw [HOk.out, HOd.out, List.append_nil]; exact HOl.out), zH (fun _ _ _ _ _ K hm z hz => ?_), ?_⟩, by simp [intOf]; omega⟩
   ·have h1 := HIn.out _ _ _ _ _ K (fun z hz => hm _ (List.mem_append_left _ hz))
    rcases List.mem_or_eq_of_mem_set hz with h2 | rfl
    ·exact h1 z h2
    ·exact (h1 x (List.mem_of_getElem? HXl.out)).sr (Sls.own (K.mem (hm _ (List.mem_append_right _ (List.mem_cons_self ..)))) HFd.out)
   ·rw [HOk.out, HOd.out, List.append_nil]
    exact zH (HK.out.takeL 1)
  ·have K4 : Hid (decide (x.v.kind = 4) = false) := zH (decide_eq_false h4)
   have HDd : Hid (Sto.dr x.v r = x.v) := zH (by unfold Sto.dr; rw [if_neg h3, if_neg h4])
   have HOd : Hid (Sto.drO x.v r = []) := zH (by unfold Sto.drO; rw [if_neg h3])
   clear h3 h4
   go_wp2_with (first | refine wpList_exe (exec_ixo0 (b := g4) (i := k) _ _ (by rfl) (by rfl) (by rfl) hkn) (by rfl) ?_ | refine wpList_of_exec (v := .agg (obA x)) (by rfl) (exec_obx (off := k * 11) _ (by rfl) (by rfl) (HK.out.atR0 (La := obLay) (j := 0) rfl HXl.out)) ?_ | (refine wpList_aob HK rfl rfl ?_; intro _ g9 HK'; simp only [lcA, lnA] at HK'; replace HK := HK'; clear HK') | (refine wpList_sob (y := x) HK 1 rfl _ _ rfl rfl rfl rfl ?_; intro _ HK'; simp only [List.set] at HK'; replace HK := HK'; clear HK') | refine wpList_exe (kob_k HK 1 _ (by rfl) (by rfl) (by rfl)) (by rfl) ?_ | refine wpList_exe (exec_ier (x := x.v.kind) (k := 3) _ (by rfl) (by rfl) K3.out) (by rfl) ?_ | refine wpList_exe (exec_ier (x := x.v.kind) (k := 4) _ (by rfl) (by rfl) K4.out) (by rfl) ?_ | refine wpList_exe (kob_r HK 1 _ (by rfl) (by rfl) (by rfl)) (by rfl) ?_ | refine wpList_exe (kob_c HK 1 _ (by rfl) (by rfl) (by rfl)) (by rfl) ?_ | refine wpList_exe (kexec_lr HK 0 _ (by rfl) (by rfl) (by rfl)) (by rfl) ?_ | refine wpList_exe (exec_add1 (j := k) _ (by rfl) (by rfl) hk3) (by rfl) ?_)
   refine ⟨⟨k + 1, A7, m7, c7, lk, Rk, by omega, rfl, by go_num, HLk, zH (by rw [HSk.out HDd.out]; exact HVk.out), zH (fun j hj => HSm.out j (by omega)), zH (by rw [HOk.out, HOd.out, List.append_nil]; exact HOl.out), HIn, ?_⟩, by simp [intOf]; omega⟩
   rw [HOk.out, HOd.out, List.append_nil]
   exact zH (HK.out.takeL 1)
end Go.Proofs.YtpkodjllljnleaaGreat
