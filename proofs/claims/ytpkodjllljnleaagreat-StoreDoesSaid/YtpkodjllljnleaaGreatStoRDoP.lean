/- What the document's Do returns: what an object does. No condition but those named. -/
import Derived.Test.YtpkodjllljnleaaGreatTk
import Derived.Test.YtpkodjllljnleaaGreatStoRDoC
import Derived.Deep.DeepCutAuto
set_option linter.unusedSimpArgs false
set_option linter.unusedVariables false
namespace Go.Proofs.YtpkodjllljnleaaGreat
open Go.RowKit
set_option maxRecDepth 100000 in
set_option maxHeartbeats 25600000 in
theorem rdo_plain (G : World → Prop) (A : Option Addr) (cp n : Nat) (l : List Oh) (r : Rf) (c : Cmd.C) (w : World) (hG : ∀ W, G W → Obs W A n cp l) (hs : Obs w A n cp l) (hv : c.val.f < 18446744073709551616) (ho : c.old.f < 18446744073709551616) (hall0 : Sto.All (vs l) r c) (he : Cmd.chk c = 0) (h4 : ¬ c.k = 4) (h5 : ¬ c.k = 5) (o : Sto.Ob) (hf : Sto.fnd (vs l) c.name = some o) (hft : Sto.fits c.k o.kind = true) (h12 : ¬ c.k = 12) (h13 : ¬ c.k = 13) (h14 : ¬ c.k = 14) :
  Calls Tryz.prog 8 #[.slice A n cp, .agg #[.int .i64 r.c, .int .i64 r.e, .int .i64 r.r], .agg (cmA c)] w (IsRD G (Sto.doo (vs l) r c) w) := by
 have HGd := zH hG
 have HFl := zH rfail_any
 have HK := kn3 w 24 #[.int .i64 r.c, .int .i64 r.e, .int .i64 r.r] 29 (cmA c) 33 (rpA Sto.rz)
 have HM := zH (fun W (hW : Below w.heap.size w W) => roright_any A cp n l W (hs.later hW))
 unfold IsB at HM
 have HC := zH (fun W => rmr_any r W)
 unfold IsB at HC
 have HE := zH (fun W => rchk_any c W hv ho)
 unfold IsE at HE
 have hall := hall0
 rw [decide_eq_true hall.1] at HM
 rw [decide_eq_true hall.2.1] at HC
 have D4 : Hid (decide (c.k < 4) = false) := zH (decide_eq_false (by have := hall.2.2.1; omega))
 have D17 : Hid (decide (17 < c.k) = false) := zH (decide_eq_false (by have := hall.2.2.2; omega))
 rw [he] at HE
 have HFi := zH (fun W (hW : Below w.heap.size w W) => rfind_any A cp n l c.name W (hs.later hW))
 have HYe : Hid (¬ ∀ (j : Nat) (y : Oh), l[j]? = some y → ¬ y.v.name = c.name) := zH (fun h => by have := (Sto.no_idx (l := vs l) (k := c.name) (fun j y hj => by obtain ⟨z, hz, rfl⟩ := vs_at hj; exact h j z hz)).2; rw [hf] at this; cases this)
 have HVo : Hid (∀ (i : Nat) (x : Oh), l[i]? = some x → x.v.name = c.name → x.v = o) := zH (fun i x h1 h2 => by have := (Sto.at_idx hall.1.up (vs_get h1) h2).2.2; rw [hf] at this; injection this with this; exact this.symm)
 have hpos : 0 < n := by
  rcases Nat.eq_zero_or_pos n with h0 | h0
  ·subst h0
   rw [List.length_eq_zero_iff.1 hs.len] at hf
   cases hf
  ·exact h0
 have hl := hs.len
 obtain ⟨b, ofs, rfl, hat0⟩ := hs.s.at hpos
 have HAt := zH hat0
 have HI := zH hs.i
 clear hat0
 have HDo : Hid (∀ (i : Nat) (x : Oh), l[i]? = some x → x.v.name = c.name → x.v = o → Sto.doo (vs l) r c = ⟨(vs l).set i (Sto.act o r c).o, (Sto.act o r c).p, (Sto.act o r c).later, (Sto.act o r c).outs⟩) := zH (fun i x h1 h2 h3 => by have h := Sto.doo_set hall he h4 h5 (vs_get h1) h2 (by rw [h3]; exact hft); rw [h3] at h; exact h)
 have HW := zH (fun (W : World) (hW : Below w.heap.size w W) (i : Nat) (y : Oh) (hi : i < n) => rwith_any _ cp n l i y W (hs.later hW) hi)
 have HBig : Hid (n * 144 ≤ 140737488355328) := zH hs.s.big
 have hst := act_still (o := o) (r := r) h12 h13 h14
 have hkn : o.kind = 3 → c.k = 17 := fun g3 => by
  have h := hft
  rw [g3] at h
  rcases Sto.act_kinds hall.2.2 h4 h5 with q | q | q | q | q | q | q | q | q | q | q | q
  ·rw [q] at h; exact absurd h (by decide)
  ·rw [q] at h; exact absurd h (by decide)
  ·rw [q] at h; exact absurd h (by decide)
  ·rw [q] at h; exact absurd h (by decide)
  ·rw [q] at h; exact absurd h (by decide)
  ·rw [q] at h; exact absurd h (by decide)
  ·exact absurd q h12
  ·exact absurd q h13
  ·exact absurd q h14
  ·rw [q] at h; exact absurd h (by decide)
  ·rw [q] at h; exact absurd h (by decide)
  ·exact q
 have E14 : Hid (decide (c.k = 14) = false) := zH (decide_eq_false h14)
 have HFt := zH (fun W => rfits_any c.k o.kind (by have := hall.2.2.1; omega) hall.2.2.2 W)
 unfold IsB at HFt
 rw [hft] at HFt
 have E4 : Hid (decide (c.k = 4) = false) := zH (decide_eq_false h4)
 have E5 : Hid (decide (c.k = 5) = false) := zH (decide_eq_false h5)
 have HTh : Hid (∀ (x : Oh), x.v = o → x ∈ l → ∀ W, Below w.heap.size w W → Calls Tryz.prog 29 #[.agg (obA x), .agg (cmA c)] W (IsRP G (Sto.act o r c) W)) := zH (fun x h1 h2 W hW => by have h := rplain_any G x r c W (fun W h => (HGd.out W h).i x h2) ((hs.i x h2).later hW) hv hall.2.2 h4 h5 h12 h13 h14; rw [h1] at h; exact h)
 unfold IsRO at HW
 unfold IsRP at HTh
 clear hs hv ho hall hall0 hG he h4 h5 hf hft
 generalize hds : Sto.doo (vs l) r c = ds at *
 clear hds
 generalize Sto.act o r c = Y at *
 obtain ⟨yo, yp, yt, ys⟩ := Y
 simp only at HTh HDo hst
 obtain ⟨rfl, rfl⟩ := hst
 obtain ⟨b4, K4⟩ : ∃ b4 : Bool, Hid (decide (o.kind = 4) = b4) := ⟨_, zH rfl⟩
 obtain ⟨b3, q, K3, N17, hcs⟩ : ∃ b3 q : Bool, Hid (decide (o.kind = 3) = b3) ∧ Hid ((!decide (c.k = 17)) = q) ∧ Hid (b3 = true → q = false) := ⟨_, _, zH rfl, zH rfl, zH fun h => by rw [hkn (of_decide_eq_true h)]; rfl⟩
 clear hkn h12 h13 h14
 go_enter Tryz.func8, Tryz.ntmps8
 go_wp2_with fail
 (refine (HM.out _ HK.out.b).mono ?_; rintro e w1 ⟨rfl, b1⟩)
 replace HK := hkC HK b1; clear b1
 go_wp2_with (first | refine zX (kexec_lr HK 0 _ (by rfl) (by rfl) (by rfl)) ?_)
 refine (HC.out _).mono ?_; rintro e w1 ⟨rfl, b1⟩
 replace HK := hkC HK b1; clear b1
 go_wp2_with (first | refine zX (kcm_k HK 1 _ (by rfl) (by rfl) (by rfl)) ?_ | refine zX (exec_lti (x := c.k) (k := 4) _ (by rfl) (by rfl) D4.out) ?_ | refine zX (exec_gt (x := c.k) (k := 17) _ (by rfl) (by rfl) D17.out) ?_ | refine zX (kcm HK 1 _ (by rfl) (by rfl) (by rfl)) ?_)
 refine (HE.out _).mono ?_; rintro e w1 ⟨rfl, b1⟩
 replace HK := hkC HK b1; clear b1
 go_wp2_with (first | refine zX (kcm_n HK 1 _ (by rfl) (by rfl) (by rfl)) ?_)
 refine (HFi.out _ HK.out.b).mono ?_; rintro e w1 ⟨z, hat, rfl, b1⟩
 replace HK := hkC HK b1; clear b1
 rcases hat with ⟨i, x, rfl, hx, hn, _⟩ | ⟨rfl, hno⟩
 case inr => exact absurd hno HYe.out
 obtain rfl := HVo.out i x hx hn
 have HX : Hid (∀ W, Below w.heap.size w W → ∀ j v, (obL x)[j]? = some v → W.cell? ⟨b, ofs + i * 11 + j, none⟩ = some v) := zH fun W hW => HAt.out W hW i x hx
 have hin : i < n := by have := (List.getElem?_eq_some_iff.1 hx).1; omega
 have hi0 : (0 : Int) ≤ (i : Int) := by omega
 have hi1 : (i : Int) < (n : Int) := by omega
 have G0 : Hid (decide ((0 : Int) ≤ (i : Int)) = true) := zH (decide_eq_true hi0)
 have L0 : Hid (decide ((i : Int) < 0) = false) := zH (decide_eq_false (by omega))
 have HTx := zH (HTh.out x rfl (List.mem_of_getElem? hx))
 have HDx := zH (HDo.out i x hx hn rfl)
 have HNl : Hid (l.length = n) := zH hl
 have hil : i < l.length := by rw [hl]; exact hin
 clear HAt hx hn HVo HYe HTh HDo hl HI
 go_upto_block 0 with fail
 go_cut [11] (fun v wx => v = .int .i64 i ∧ Hid (Kn w.heap.size w wx [(w.heap.size, 24, #[.int .i64 r.c, .int .i64 r.e, .int .i64 r.r]), (w.heap.size + 1, 29, cmA c), (w.heap.size + 2, 33, rpA Sto.rz)] []))
 case first =>
  go_wp2_with (first | refine zX (kcm_k HK 1 _ (by rfl) (by rfl) (by rfl)) ?_ | refine zX (exec_ier (x := c.k) (k := 4) _ (by rfl) (by rfl) E4.out) ?_ | refine zX (exec_lti (x := (i : Int)) (k := 0) _ (by rfl) (by rfl) L0.out) ?_)
  have HK0 := zH HK.out.drew
  refine wp_region_held_drew (S := (fun W => Hid (Kn w.heap.size w W [(w.heap.size, 24, #[.int .i64 r.c, .int .i64 r.e, .int .i64 r.r]), (w.heap.size + 1, 29, cmA c), (w.heap.size + 2, 33, rpA Sto.rz)] []))) (by kernel_rfl) ?_ (fun hHeld => ?_)
  ·(try dsimp only); exact HK0
  refine stk 0 88 rfl ?_
  refine stk 1 89 rfl ?_ (fun w hSw => kcm_k hSw 1 _ (by rfl) (by rfl) (by rfl))
  refine stk 2 90 rfl ?_
  refine stk 3 91 rfl ?_
  refine stk 4 92 rfl ?_ (fun w hSw => exec_ixo (i := i) _ _ (by rfl) (by rfl) (by rfl) hin)
  refine stk 5 93 rfl ?_
  refine stk 6 94 rfl ?_ (fun w hSw => exec_obk (x := x) (off := ofs + i * 11) _ (by rfl) (by rfl) (HX.out _ hSw.out.b))
  refine srd1 7 (some 95) rfl (fun K hK => ?_)
  go_simp
  go_at_call 25
  refine (HFt.out _).mono ?_; rintro e w5 ⟨rfl, b5⟩; have hs := zH (hHeld.out.call b5); clear b5
  refine hK.out _ _ hs (fun hHeld => ?_)
  clear hK K
  try simp only [ap1, ap2, ap3, ap4, ap5]
  refine stk 8 96 rfl ?_
  refine stk 9 87 rfl ?_
  refine wpAnyH_done (by kernel_rfl) ?_ _
  replace HK := hHeld
  clear hHeld HK0
  go_wp2_with (first | refine zX (kcm_k HK 1 _ (by rfl) (by rfl) (by rfl)) ?_ | refine zX (exec_ier (x := c.k) (k := 5) _ (by rfl) (by rfl) E5.out) ?_ | refine zX (exec_ixo (i := i) _ _ (by rfl) (by rfl) (by rfl) hin) ?_ | refine zX (exec_obr (x := x) (off := ofs + i * 11) _ (by rfl) (by rfl) (HX.out _ HK.out.b)) ?_)
  go_meet
  exact ⟨rfl, HK⟩
 case rest =>
 clear HK
 obtain ⟨rfl, HK⟩ := hcut
 go_upto_region 21 with fail
 go_cut [139, 11] (fun t v wx => t = .bool false ∧ v = .int .i64 i ∧ Hid (Kn w.heap.size w wx [(w.heap.size, 24, #[.int .i64 r.c, .int .i64 r.e, .int .i64 r.r]), (w.heap.size + 1, 29, cmA c), (w.heap.size + 2, 33, rpA Sto.rz)] []))
 case first =>
  cases b4
  all_goals
   go_wp2_with (first | refine zX (kcm_k HK 1 _ (by rfl) (by rfl) (by rfl)) ?_ | refine zX (exec_ixo (i := i) _ _ (by rfl) (by rfl) (by rfl) hin) ?_ | refine zX (exec_obk (x := x) (off := ofs + i * 11) _ (by rfl) (by rfl) (HX.out _ HK.out.b)) ?_ | refine zX (exec_ier (x := x.v.kind) (k := 4) _ (by rfl) (by rfl) K4.out) ?_ | refine zX (exec_ier (x := c.k) (k := 14) _ (by rfl) (by rfl) E14.out) ?_)
   go_meet
   exact ⟨rfl, rfl, HK⟩
 case rest =>
 clear HK
 obtain ⟨rfl, rfl, HK⟩ := hcut
 go_upto_region 24 with fail
 go_cut [168, 11] (fun t v wx => t = .bool false ∧ v = .int .i64 i ∧ Hid (Kn w.heap.size w wx [(w.heap.size, 24, #[.int .i64 r.c, .int .i64 r.e, .int .i64 r.r]), (w.heap.size + 1, 29, cmA c), (w.heap.size + 2, 33, rpA Sto.rz)] []))
 case first =>
  cases b3
  case false =>
   go_wp2_with (first | refine zX (kcm_k HK 1 _ (by rfl) (by rfl) (by rfl)) ?_ | refine zX (exec_ixo (i := i) _ _ (by rfl) (by rfl) (by rfl) hin) ?_ | refine zX (exec_obk (x := x) (off := ofs + i * 11) _ (by rfl) (by rfl) (HX.out _ HK.out.b)) ?_ | refine zX (exec_ier (x := x.v.kind) (k := 3) _ (by rfl) (by rfl) K3.out) ?_)
   go_meet
   exact ⟨rfl, rfl, HK⟩
  case true =>
   obtain rfl := hcs.out rfl
   go_wp2_with (first | refine zX (kcm_k HK 1 _ (by rfl) (by rfl) (by rfl)) ?_ | refine zX (exec_ixo (i := i) _ _ (by rfl) (by rfl) (by rfl) hin) ?_ | refine zX (exec_obk (x := x) (off := ofs + i * 11) _ (by rfl) (by rfl) (HX.out _ HK.out.b)) ?_ | refine zX (exec_ier (x := x.v.kind) (k := 3) _ (by rfl) (by rfl) K3.out) ?_ | refine zX (exec_ner (x := c.k) (k := 17) _ (by rfl) (by rfl) N17.out) ?_)
   go_meet
   exact ⟨rfl, rfl, HK⟩
 case rest =>
 clear HK
 obtain ⟨rfl, rfl, HK⟩ := hcut
 go_wp2_with fail
 go_cut [20, 21] (fun s20 s21 wx => ∃ (y : Oh) (Rn : List RowE) (g12 g13 : Nat), s20 = .pointer (some ⟨g12, 0, none⟩) ∧ s21 = .pointer (some ⟨g13, 0, none⟩) ∧ Hid (y.v = yo) ∧ Hid (Kn w.heap.size w wx [(w.heap.size, 24, #[.int .i64 r.c, .int .i64 r.e, .int .i64 r.r]), (w.heap.size + 1, 29, cmA c), (w.heap.size + 2, 33, rpA Sto.rz), (g12, 55, obA y), (g13, 33, rpA yp)] Rn) ∧ Hid (∀ (b : Nat) (W0 W : World) L R, Kn b W0 W L R → (∀ z ∈ Rn, z ∈ R) → G W → In W y))
 case first =>
  have HK0 := zH HK.out.drew
  refine wp_region_held_drew (S := (fun W => Hid (Kn w.heap.size w W [(w.heap.size, 24, #[.int .i64 r.c, .int .i64 r.e, .int .i64 r.r]), (w.heap.size + 1, 29, cmA c)] []))) (by kernel_rfl) ?_ (fun hHeld => ?_)
  ·(try dsimp only); exact kp2 HK0
  refine stk 0 189 rfl ?_
  refine stk 1 190 rfl ?_
  refine stk 2 191 rfl ?_ (fun w hSw => exec_ixo (i := i) _ _ (by rfl) (by rfl) (by rfl) hin)
  refine stk 3 192 rfl ?_ (fun w hSw => exec_obx (x := x) (off := ofs + i * 11) _ (by rfl) (by rfl) (HX.out _ hSw.out.b))
  refine stk 4 193 rfl ?_ (fun w hSw => kcm hSw 1 _ (by rfl) (by rfl) (by rfl))
  refine srd3 5 (some 194) 9 (some 20) 10 (some 21) rfl rfl rfl (fun K hK => ?_) (fun K hK => ?_) (fun K hK => ?_)
  go_simp
  go_at_call 29
  refine (HTx.out _ HK0.out.b).mono ?_; rintro e w5 ⟨y, Rn, rfl, HVy, k5, HIy⟩; replace HK0 := zH (HK0.out.join k5); clear k5; have hs := kp2 HK0
  refine hK.out _ _ hs (fun hHeld => ?_)
  clear hK K
  try simp only [ap1, ap2, ap3, ap4, ap5]
  refine stk 6 188 rfl ?_
  refine stk 7 195 rfl ?_
  refine stk 8 196 rfl ?_
  refine srd2 9 (some 20) 10 (some 21) rfl rfl (fun K hK => ?_) (fun K hK => ?_)
  refine zaob HK0 ?_; clear HK0; intro wq g12 HK0; have hs := kp2 HK0
  refine hK.out _ _ hs (fun hHeld => ?_)
  clear hK K
  try simp only [ap1, ap2, ap3, ap4, ap5]
  refine srd1 10 (some 21) rfl (fun K hK => ?_)
  refine zarp HK0 ?_; clear HK0; intro wq g13 HK0; have hs := kp2 HK0
  refine hK.out _ _ hs (fun hHeld => ?_)
  clear hK K
  try simp only [ap1, ap2, ap3, ap4, ap5]
  refine srd1 11 none rfl (fun K hK => ?_)
  (first | refine zsob y HK0 3 ?_ | refine zsob y HK0 4 ?_); clear HK0; intro wq HK0; simp only [lcA, lnA, List.set] at HK0; have hs := kp2 HK0
  refine hK.out _ _ hs (fun hHeld => ?_)
  clear hK K
  try simp only [ap1, ap2, ap3, ap4, ap5]
  refine srd1 12 none rfl (fun K hK => ?_)
  (first | refine zsrp yp HK0 3 ?_ | refine zsrp yp HK0 4 ?_); clear HK0; intro wq HK0; simp only [lcA, lnA, List.set] at HK0; have hs := kp2 HK0
  refine hK.out _ _ hs (fun hHeld => ?_)
  clear hK K
  try simp only [ap1, ap2, ap3, ap4, ap5]
  refine wpAnyH_done (by kernel_rfl) ?_ _
  rotate_left
  refine zarp HK0 ?_; clear HK0; intro wq g13 HK0; have hs := kp2 HK0
  refine hK.out _ _ hs (fun hHeld => ?_)
  clear hK K
  try simp only [ap1, ap2, ap3, ap4, ap5]
  refine srd1 9 (some 20) rfl (fun K hK => ?_)
  refine zaob HK0 ?_; clear HK0; intro wq g12 HK0; have hs := kp2 HK0
  refine hK.out _ _ hs (fun hHeld => ?_)
  clear hK K
  try simp only [ap1, ap2, ap3, ap4, ap5]
  refine srd1 11 none rfl (fun K hK => ?_)
  (first | refine zsob y HK0 3 ?_ | refine zsob y HK0 4 ?_); clear HK0; intro wq HK0; simp only [lcA, lnA, List.set] at HK0; have hs := kp2 HK0
  refine hK.out _ _ hs (fun hHeld => ?_)
  clear hK K
  try simp only [ap1, ap2, ap3, ap4, ap5]
  refine srd1 12 none rfl (fun K hK => ?_)
  (first | refine zsrp yp HK0 3 ?_ | refine zsrp yp HK0 4 ?_); clear HK0; intro wq HK0; simp only [lcA, lnA, List.set] at HK0; have hs := kp2 HK0
  refine hK.out _ _ hs (fun hHeld => ?_)
  clear hK K
  try simp only [ap1, ap2, ap3, ap4, ap5]
  refine wpAnyH_done (by kernel_rfl) ?_ _
  rotate_left
  refine zaob HK0 ?_; clear HK0; intro wq g12 HK0; have hs := kp2 HK0
  refine hK.out _ _ hs (fun hHeld => ?_)
  clear hK K
  try simp only [ap1, ap2, ap3, ap4, ap5]
  refine srd2 5 (some 194) 10 (some 21) rfl rfl (fun K hK => ?_) (fun K hK => ?_)
  go_simp
  go_at_call 29
  refine (HTx.out _ HK0.out.b).mono ?_; rintro e w5 ⟨y, Rn, rfl, HVy, k5, HIy⟩; replace HK0 := zH (HK0.out.join k5); clear k5; have hs := kp2 HK0
  refine hK.out _ _ hs (fun hHeld => ?_)
  clear hK K
  try simp only [ap1, ap2, ap3, ap4, ap5]
  refine stk 6 188 rfl ?_
  refine stk 7 195 rfl ?_
  refine stk 8 196 rfl ?_
  refine srd1 10 (some 21) rfl (fun K hK => ?_)
  refine zarp HK0 ?_; clear HK0; intro wq g13 HK0; have hs := kp2 HK0
  refine hK.out _ _ hs (fun hHeld => ?_)
  clear hK K
  try simp only [ap1, ap2, ap3, ap4, ap5]
  refine srd1 11 none rfl (fun K hK => ?_)
  (first | refine zsob y HK0 3 ?_ | refine zsob y HK0 4 ?_); clear HK0; intro wq HK0; simp only [lcA, lnA, List.set] at HK0; have hs := kp2 HK0
  refine hK.out _ _ hs (fun hHeld => ?_)
  clear hK K
  try simp only [ap1, ap2, ap3, ap4, ap5]
  refine srd1 12 none rfl (fun K hK => ?_)
  (first | refine zsrp yp HK0 3 ?_ | refine zsrp yp HK0 4 ?_); clear HK0; intro wq HK0; simp only [lcA, lnA, List.set] at HK0; have hs := kp2 HK0
  refine hK.out _ _ hs (fun hHeld => ?_)
  clear hK K
  try simp only [ap1, ap2, ap3, ap4, ap5]
  refine wpAnyH_done (by kernel_rfl) ?_ _
  rotate_left
  refine zarp HK0 ?_; clear HK0; intro wq g13 HK0; have hs := kp2 HK0
  refine hK.out _ _ hs (fun hHeld => ?_)
  clear hK K
  try simp only [ap1, ap2, ap3, ap4, ap5]
  refine srd1 5 (some 194) rfl (fun K hK => ?_)
  go_simp
  go_at_call 29
  refine (HTx.out _ HK0.out.b).mono ?_; rintro e w5 ⟨y, Rn, rfl, HVy, k5, HIy⟩; replace HK0 := zH (HK0.out.join k5); clear k5; have hs := kp2 HK0
  refine hK.out _ _ hs (fun hHeld => ?_)
  clear hK K
  try simp only [ap1, ap2, ap3, ap4, ap5]
  refine stk 6 188 rfl ?_
  refine stk 7 195 rfl ?_
  refine stk 8 196 rfl ?_
  refine srd1 11 none rfl (fun K hK => ?_)
  (first | refine zsob y HK0 3 ?_ | refine zsob y HK0 4 ?_); clear HK0; intro wq HK0; simp only [lcA, lnA, List.set] at HK0; have hs := kp2 HK0
  refine hK.out _ _ hs (fun hHeld => ?_)
  clear hK K
  try simp only [ap1, ap2, ap3, ap4, ap5]
  refine srd1 12 none rfl (fun K hK => ?_)
  (first | refine zsrp yp HK0 3 ?_ | refine zsrp yp HK0 4 ?_); clear HK0; intro wq HK0; simp only [lcA, lnA, List.set] at HK0; have hs := kp2 HK0
  refine hK.out _ _ hs (fun hHeld => ?_)
  clear hK K
  try simp only [ap1, ap2, ap3, ap4, ap5]
  refine wpAnyH_done (by kernel_rfl) ?_ _
  rotate_left
  refine zarp HK0 ?_; clear HK0; intro wq g13 HK0; have hs := kp2 HK0
  refine hK.out _ _ hs (fun hHeld => ?_)
  clear hK K
  try simp only [ap1, ap2, ap3, ap4, ap5]
  refine srd2 5 (some 194) 9 (some 20) rfl rfl (fun K hK => ?_) (fun K hK => ?_)
  go_simp
  go_at_call 29
  refine (HTx.out _ HK0.out.b).mono ?_; rintro e w5 ⟨y, Rn, rfl, HVy, k5, HIy⟩; replace HK0 := zH (HK0.out.join k5); clear k5; have hs := kp2 HK0
  refine hK.out _ _ hs (fun hHeld => ?_)
  clear hK K
  try simp only [ap1, ap2, ap3, ap4, ap5]
  refine stk 6 188 rfl ?_
  refine stk 7 195 rfl ?_
  refine stk 8 196 rfl ?_
  refine srd1 9 (some 20) rfl (fun K hK => ?_)
  refine zaob HK0 ?_; clear HK0; intro wq g12 HK0; have hs := kp2 HK0
  refine hK.out _ _ hs (fun hHeld => ?_)
  clear hK K
  try simp only [ap1, ap2, ap3, ap4, ap5]
  refine srd1 11 none rfl (fun K hK => ?_)
  (first | refine zsob y HK0 3 ?_ | refine zsob y HK0 4 ?_); clear HK0; intro wq HK0; simp only [lcA, lnA, List.set] at HK0; have hs := kp2 HK0
  refine hK.out _ _ hs (fun hHeld => ?_)
  clear hK K
  try simp only [ap1, ap2, ap3, ap4, ap5]
  refine srd1 12 none rfl (fun K hK => ?_)
  (first | refine zsrp yp HK0 3 ?_ | refine zsrp yp HK0 4 ?_); clear HK0; intro wq HK0; simp only [lcA, lnA, List.set] at HK0; have hs := kp2 HK0
  refine hK.out _ _ hs (fun hHeld => ?_)
  clear hK K
  try simp only [ap1, ap2, ap3, ap4, ap5]
  refine wpAnyH_done (by kernel_rfl) ?_ _
  rotate_left
  refine zaob HK0 ?_; clear HK0; intro wq g12 HK0; have hs := kp2 HK0
  refine hK.out _ _ hs (fun hHeld => ?_)
  clear hK K
  try simp only [ap1, ap2, ap3, ap4, ap5]
  refine srd1 5 (some 194) rfl (fun K hK => ?_)
  go_simp
  go_at_call 29
  refine (HTx.out _ HK0.out.b).mono ?_; rintro e w5 ⟨y, Rn, rfl, HVy, k5, HIy⟩; replace HK0 := zH (HK0.out.join k5); clear k5; have hs := kp2 HK0
  refine hK.out _ _ hs (fun hHeld => ?_)
  clear hK K
  try simp only [ap1, ap2, ap3, ap4, ap5]
  refine stk 6 188 rfl ?_
  refine stk 7 195 rfl ?_
  refine stk 8 196 rfl ?_
  refine srd1 11 none rfl (fun K hK => ?_)
  (first | refine zsob y HK0 3 ?_ | refine zsob y HK0 4 ?_); clear HK0; intro wq HK0; simp only [lcA, lnA, List.set] at HK0; have hs := kp2 HK0
  refine hK.out _ _ hs (fun hHeld => ?_)
  clear hK K
  try simp only [ap1, ap2, ap3, ap4, ap5]
  refine srd1 12 none rfl (fun K hK => ?_)
  (first | refine zsrp yp HK0 3 ?_ | refine zsrp yp HK0 4 ?_); clear HK0; intro wq HK0; simp only [lcA, lnA, List.set] at HK0; have hs := kp2 HK0
  refine hK.out _ _ hs (fun hHeld => ?_)
  clear hK K
  try simp only [ap1, ap2, ap3, ap4, ap5]
  refine wpAnyH_done (by kernel_rfl) ?_ _
  rotate_left
  all_goals
   go_wp2_with fail
   go_meet
   first | exact ⟨y, Rn, g12, g13, rfl, rfl, HVy, HK0, HIy⟩ | exact ⟨y, Rn, g12, g13, rfl, rfl, HVy, zH HK0.out.sw34, HIy⟩
 case rest =>
 clear HK
 obtain ⟨y, Rn, g12, g13, rfl, rfl, HVy, HK, HIy⟩ := hcut
 go_wp2_with fail
 have HK0 := zH HK.out.drew
 refine wp_region_held_drew (S := (fun W => Hid (Kn w.heap.size w W [(g12, 55, obA y), (g13, 33, rpA yp)] []))) (by kernel_rfl) ?_ (fun hHeld => ?_)
 ·(try dsimp only); exact kp3 HK0
 refine stk 0 197 rfl ?_
 refine stk 1 198 rfl ?_
 refine stk 2 199 rfl ?_ (fun w hSw => kob hSw 0 _ (by rfl) (by rfl) (by rfl))
 refine stk 4 201 rfl ?_ (fun w hSw => krp hSw 1 _ (by rfl) (by rfl) (by rfl))
 refine srd1 3 (some 200) rfl (fun K hK => ?_)
 go_simp
 go_at_call 27
 refine (HW.out _ HK0.out.b i y hin).mono ?_; rintro e w6 ⟨A6, n6, c6, rfl, o6, b6⟩; replace HK0 := zH (HK0.out.called b6 o6); clear o6 b6; have hs := kp3 HK0
 refine hK.out _ _ hs (fun hHeld => ?_)
 clear hK K
 try simp only [ap1, ap2, ap3, ap4, ap5]
 refine stk 5 6 rfl ?_
 refine srd1 6 none rfl (fun K hK => ?_)
 refine zsrp yp HK0 2 ?_; clear HK0; intro wq HK0; simp only [List.set] at HK0; have hs := kp3 HK0
 refine hK.out _ _ hs (fun hHeld => ?_)
 clear hK K
 try simp only [ap1, ap2, ap3, ap4, ap5]
 refine stk 7 8 rfl ?_
 refine stk 8 9 rfl ?_
 refine wpAnyH_done (by kernel_rfl) ?_ _
 all_goals
  simp only [Exit.then]
  refine ‹∀ (a : Act) (w1 : World), Code.wp Tryz.prog Code.ret _ a w1 → _› _ _ ?_
  refine wp_ret ?_
  rw [HDx.out]
  exact ret_do Tryz.results8 rfl rfl rfl rfl rfl (HK0.out.blk 2 rfl) (by unfold IsRD; exact ⟨A6, n6, c6, l.set i y, _, _, _, _, rfl, by rw [vs_set, HVy.out], HK0.out.takeL 0, fun _ _ _ _ _ K hm hb => ⟨⟨Sls.own (K.mem (hm _ (List.mem_append_right _ (List.mem_cons_self ..)))) ⟨fun z hz => trivial, by rw [List.length_set, HNl.out]; exact HBig.out⟩, fun z hz => in_set (HGd.out _ hb).i (HIy.out _ _ _ _ _ K (fun z hz => hm _ (List.mem_append_left _ hz)) hb) hz⟩, Sls.none _⟩⟩)
end Go.Proofs.YtpkodjllljnleaaGreat
