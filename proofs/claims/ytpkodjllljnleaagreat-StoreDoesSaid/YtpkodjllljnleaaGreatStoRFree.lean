/- What the document's hold returns: a request that gives a lock up. No condition but those named. -/
import Derived.Test.YtpkodjllljnleaaGreatTk
import Derived.Test.YtpkodjllljnleaaGreatStoRHold
set_option linter.unusedSimpArgs false
set_option linter.unusedVariables false
namespace Go.Proofs.YtpkodjllljnleaaGreat
open Go.RowKit
set_option maxRecDepth 100000 in
set_option maxHeartbeats 25600000 in
theorem rhold_13 (G : World → Prop) (x : Oh) (r : Rf) (c : Cmd.C) (w : World) (hG : ∀ W, G W → In W x) (hx : In w x) (hk : c.k = 13) : Calls Tryz.prog 28 #[.agg (obA x), .agg #[.int .i64 r.c, .int .i64 r.e, .int .i64 r.r], .agg (cmA c)] w (IsRH G (Sto.free x.v r) w) := by
 have HI := zH hG
 have HT := zH (fun W (hW : Below w.heap.size w W) => rlfree_any x.rA x.rc x.rn x.v.refs r W (hx.r.later hW))
 have HFl := zH rfail_any
 have HF := zH (fits_fr (r := r) hx.r.fit)
 have HK := kn5 w 55 (obA x) 24 #[.int .i64 r.c, .int .i64 r.e, .int .i64 r.r] 29 (cmA c) 55 (obA ohZ) 33 (rpA Sto.rz)
 clear hx hG
 unfold IsRH Sto.free Sto.err
 unfold IsFrr at HT
 simp only
 generalize Lck.frL x.v.refs r = m at *
 generalize Lck.frE x.v.refs r = z at *
 generalize Lck.frN x.v.refs r = q at *
 generalize Lck.frS x.v.refs r = h at *
 go_enter Tryz.func28, Tryz.ntmps28
 go_wp2_with (first | refine zX (kcm_k HK 2 _ (by rfl) (by rfl) (by rfl)) ?_ | refine zX (kob_r HK 0 _ (by rfl) (by rfl) (by rfl)) ?_ | refine zX (kexec_lr HK 1 _ (by rfl) (by rfl) (by rfl)) ?_)
 refine (HT.out _ HK.out.b).mono ?_; rintro e w1 ⟨A4, n4, c4, rfl, o4, b4⟩
 rcases o4 with o4 | ⟨rfl, rfl, rfl, hm⟩
 ·replace HK := zH (HK.out.called b4 o4)
  simp only [lnA] at HK
  clear o4 b4
  cases h
  case false =>
   go_wp2_with (first | (refine wpList_akr HK rfl rfl ?_; intro _ g14 HK'; simp only [lcA, lnA] at HK'; replace HK := HK'; clear HK') | (refine wpList_sr HK 5 rfl _ _ rfl rfl rfl rfl ?_; intro _ HK'; simp only [List.set] at HK'; replace HK := HK'; clear HK') | (refine wpList_sor HK 0 rfl _ _ rfl rfl rfl rfl m ?_; intro _ HK'; simp only [List.set] at HK'; replace HK := HK'; clear HK'))
   have HK0 := zH HK.out.drew
   refine wp_region_held_drew (S := (fun W => Hid (Kn w.heap.size w W [(w.heap.size, 55, obA (x.sr A4 n4 c4 m)), (w.heap.size + 1, 24, #[.int .i64 r.c, .int .i64 r.e, .int .i64 r.r]), (w.heap.size + 1 + 1, 29, cmA c)] []) ∧ Hid (Kn w.heap.size w W [(g14, 24, #[.int .i64 q.c, .int .i64 q.e, .int .i64 q.r])] []))) (by kernel_rfl) ?_ (fun hHeld => ?_)
   ·(try dsimp only); exact And.intro (zH ((HK0.out.takeL 3).takeR 0)) (zH ((HK0.out.dropL 5).takeR 0))
   refine stk 0 57 rfl ?_ (fun w hSw => kob hSw.1 0 _ (by rfl) (by rfl) (by rfl))
   refine stk 1 58 rfl ?_
   refine srd1 2 (some 59) rfl (fun K hK => ?_)
   go_simp
   go_at_call 21
   refine (HFl.out z _).mono ?_; rintro e w5 ⟨rfl, b5⟩; have hs := And.intro (zH (hHeld.1.out.call b5)) (zH (hHeld.2.out.call b5)); replace HK0 := zH (HK0.out.call b5); clear b5
   refine hK.out _ _ hs (fun hHeld => ?_)
   clear hK K
   try simp only [ap1, ap2, ap3, ap4, ap5]
   refine srd1 3 none rfl (fun K hK => ?_)
   refine step_sob (y := x.sr A4 n4 c4 m) HK0 3 (by rfl) _ _ (by rfl) (by rfl) (by rfl) (by rfl) ?_; intro wq HK'; simp only [List.set] at HK'; replace HK0 := HK'; clear HK'; have hs := And.intro (zH ((HK0.out.takeL 3).takeR 0)) (zH ((HK0.out.dropL 5).takeR 0))
   refine hK.out _ _ hs (fun hHeld => ?_)
   clear hK K
   try simp only [ap1, ap2, ap3, ap4, ap5]
   refine srd1 4 none rfl (fun K hK => ?_)
   refine step_srp (q := ⟨z, Sto.vn⟩) HK0 4 (by rfl) _ _ (by rfl) (by rfl) (by rfl) (by rfl) ?_; intro wq HK'; simp only [List.set] at HK'; replace HK0 := HK'; clear HK'; have hs := And.intro (zH ((HK0.out.takeL 3).takeR 0)) (zH ((HK0.out.dropL 5).takeR 0))
   refine hK.out _ _ hs (fun hHeld => ?_)
   clear hK K
   try simp only [ap1, ap2, ap3, ap4, ap5]
   refine stk 5 8 rfl ?_
   refine stk 6 9 rfl ?_
   refine wpAnyH_done (by kernel_rfl) ?_ _
   all_goals
    go_wp2_with fail
    exact ret_th Tryz.results28 rfl rfl rfl rfl rfl (HK0.out.blk 3 rfl) (HK0.out.blk 4 rfl) ⟨x.sr A4 n4 c4 m, _, _, _, _, rfl, rfl, HK0.out.takeL 0, fun _ _ _ _ _ K hm hb => ⟨(HI.out _ hb).sr (Sls.own (K.mem (hm _ (List.mem_cons_self ..))) HF.out), Sls.none _⟩⟩
  case true =>
   go_wp2_with (first | (refine wpList_akr HK rfl rfl ?_; intro _ g14 HK'; simp only [lcA, lnA] at HK'; replace HK := HK'; clear HK') | (refine wpList_sr HK 5 rfl _ _ rfl rfl rfl rfl ?_; intro _ HK'; simp only [List.set] at HK'; replace HK := HK'; clear HK') | (refine wpList_sor HK 0 rfl _ _ rfl rfl rfl rfl m ?_; intro _ HK'; simp only [List.set] at HK'; replace HK := HK'; clear HK'))
   have HK0 := zH HK.out.drew
   refine wp_region_held_drew (S := (fun W => Hid (Kn w.heap.size w W [(w.heap.size, 55, obA (x.sr A4 n4 c4 m)), (w.heap.size + 1, 24, #[.int .i64 r.c, .int .i64 r.e, .int .i64 r.r]), (w.heap.size + 1 + 1, 29, cmA c)] []) ∧ Hid (Kn w.heap.size w W [(g14, 24, #[.int .i64 q.c, .int .i64 q.e, .int .i64 q.r])] []))) (by kernel_rfl) ?_ (fun hHeld => ?_)
   ·(try dsimp only); exact And.intro (zH ((HK0.out.takeL 3).takeR 0)) (zH ((HK0.out.dropL 5).takeR 0))
   refine stk 0 51 rfl ?_ (fun w hSw => kob hSw.1 0 _ (by rfl) (by rfl) (by rfl))
   refine stk 1 52 rfl ?_
   refine stk 3 54 rfl ?_ (fun w hSw => kexec_lr hSw.2 0 _ (by rfl) (by rfl) (by rfl))
   refine stk 4 55 rfl ?_ (fun w hSw => exec_bo1 (r := q) _ (by rfl) (by rfl))
   refine srd2 2 (some 53) 5 (some 56) rfl rfl (fun K hK => ?_) (fun K hK => ?_)
   go_simp
   go_at_call 21
   refine (HFl.out z _).mono ?_; rintro e w5 ⟨rfl, b5⟩; have hs := And.intro (zH (hHeld.1.out.call b5)) (zH (hHeld.2.out.call b5)); replace HK0 := zH (HK0.out.call b5); clear b5
   refine hK.out _ _ hs (fun hHeld => ?_)
   clear hK K
   try simp only [ap1, ap2, ap3, ap4, ap5]
   refine srd2 5 (some 56) 6 none rfl rfl (fun K hK => ?_) (fun K hK => ?_)
   refine step_mk1 otLay (p := ⟨q, Sto.rz⟩) HK0 (by decide) (by rfl) _ (by rfl) (by rfl) (by rfl) ?_; intro w6 g6 HK' _; simp only [lcA, lnA] at HK'; replace HK0 := HK'; clear HK'; have hs := And.intro (zH ((HK0.out.takeL 3).takeR 0)) (zH ((HK0.out.dropL 5).takeR 0))
   refine hK.out _ _ hs (fun hHeld => ?_)
   clear hK K
   try simp only [ap1, ap2, ap3, ap4, ap5]
   refine srd1 6 none rfl (fun K hK => ?_)
   refine step_sob (y := x.sr A4 n4 c4 m) HK0 3 (by rfl) _ _ (by rfl) (by rfl) (by rfl) (by rfl) ?_; intro wq HK'; simp only [List.set] at HK'; replace HK0 := HK'; clear HK'; have hs := And.intro (zH ((HK0.out.takeL 3).takeR 0)) (zH ((HK0.out.dropL 5).takeR 0))
   refine hK.out _ _ hs (fun hHeld => ?_)
   clear hK K
   try simp only [ap1, ap2, ap3, ap4, ap5]
   refine srd1 7 none rfl (fun K hK => ?_)
   refine step_srp (q := ⟨z, Sto.vn⟩) HK0 4 (by rfl) _ _ (by rfl) (by rfl) (by rfl) (by rfl) ?_; intro wq HK'; simp only [List.set] at HK'; replace HK0 := HK'; clear HK'; have hs := And.intro (zH ((HK0.out.takeL 3).takeR 0)) (zH ((HK0.out.dropL 5).takeR 0))
   refine hK.out _ _ hs (fun hHeld => ?_)
   clear hK K
   try simp only [ap1, ap2, ap3, ap4, ap5]
   refine stk 8 8 rfl ?_
   refine stk 9 9 rfl ?_
   refine wpAnyH_done (by kernel_rfl) ?_ _
   rotate_left
   refine step_sob (y := x.sr A4 n4 c4 m) HK0 3 (by rfl) _ _ (by rfl) (by rfl) (by rfl) (by rfl) ?_; intro wq HK'; simp only [List.set] at HK'; replace HK0 := HK'; clear HK'; have hs := And.intro (zH ((HK0.out.takeL 3).takeR 0)) (zH ((HK0.out.dropL 5).takeR 0))
   refine hK.out _ _ hs (fun hHeld => ?_)
   clear hK K
   try simp only [ap1, ap2, ap3, ap4, ap5]
   refine srd2 5 (some 56) 7 none rfl rfl (fun K hK => ?_) (fun K hK => ?_)
   refine step_mk1 otLay (p := ⟨q, Sto.rz⟩) HK0 (by decide) (by rfl) _ (by rfl) (by rfl) (by rfl) ?_; intro w6 g6 HK' _; simp only [lcA, lnA] at HK'; replace HK0 := HK'; clear HK'; have hs := And.intro (zH ((HK0.out.takeL 3).takeR 0)) (zH ((HK0.out.dropL 5).takeR 0))
   refine hK.out _ _ hs (fun hHeld => ?_)
   clear hK K
   try simp only [ap1, ap2, ap3, ap4, ap5]
   refine srd1 7 none rfl (fun K hK => ?_)
   refine step_srp (q := ⟨z, Sto.vn⟩) HK0 4 (by rfl) _ _ (by rfl) (by rfl) (by rfl) (by rfl) ?_; intro wq HK'; simp only [List.set] at HK'; replace HK0 := HK'; clear HK'; have hs := And.intro (zH ((HK0.out.takeL 3).takeR 0)) (zH ((HK0.out.dropL 5).takeR 0))
   refine hK.out _ _ hs (fun hHeld => ?_)
   clear hK K
   try simp only [ap1, ap2, ap3, ap4, ap5]
   refine stk 8 8 rfl ?_
   refine stk 9 9 rfl ?_
   refine wpAnyH_done (by kernel_rfl) ?_ _
   rotate_left
   refine step_srp (q := ⟨z, Sto.vn⟩) HK0 4 (by rfl) _ _ (by rfl) (by rfl) (by rfl) (by rfl) ?_; intro wq HK'; simp only [List.set] at HK'; replace HK0 := HK'; clear HK'; have hs := And.intro (zH ((HK0.out.takeL 3).takeR 0)) (zH ((HK0.out.dropL 5).takeR 0))
   refine hK.out _ _ hs (fun hHeld => ?_)
   clear hK K
   try simp only [ap1, ap2, ap3, ap4, ap5]
   refine stk 8 8 rfl ?_
   refine srd1 5 (some 56) rfl (fun K hK => ?_)
   refine step_mk1 otLay (p := ⟨q, Sto.rz⟩) HK0 (by decide) (by rfl) _ (by rfl) (by rfl) (by rfl) ?_; intro w6 g6 HK' _; simp only [lcA, lnA] at HK'; replace HK0 := HK'; clear HK'; have hs := And.intro (zH ((HK0.out.takeL 3).takeR 0)) (zH ((HK0.out.dropL 5).takeR 0))
   refine hK.out _ _ hs (fun hHeld => ?_)
   clear hK K
   try simp only [ap1, ap2, ap3, ap4, ap5]
   refine stk 9 9 rfl ?_
   refine wpAnyH_done (by kernel_rfl) ?_ _
   rotate_left
   refine step_mk1 otLay (p := ⟨q, Sto.rz⟩) HK0 (by decide) (by rfl) _ (by rfl) (by rfl) (by rfl) ?_; intro w6 g6 HK' _; simp only [lcA, lnA] at HK'; replace HK0 := HK'; clear HK'; have hs := And.intro (zH ((HK0.out.takeL 3).takeR 0)) (zH ((HK0.out.dropL 5).takeR 0))
   refine hK.out _ _ hs (fun hHeld => ?_)
   clear hK K
   try simp only [ap1, ap2, ap3, ap4, ap5]
   refine srd1 2 (some 53) rfl (fun K hK => ?_)
   go_simp
   go_at_call 21
   refine (HFl.out z _).mono ?_; rintro e w5 ⟨rfl, b5⟩; have hs := And.intro (zH (hHeld.1.out.call b5)) (zH (hHeld.2.out.call b5)); replace HK0 := zH (HK0.out.call b5); clear b5
   refine hK.out _ _ hs (fun hHeld => ?_)
   clear hK K
   try simp only [ap1, ap2, ap3, ap4, ap5]
   refine srd1 6 none rfl (fun K hK => ?_)
   refine step_sob (y := x.sr A4 n4 c4 m) HK0 3 (by rfl) _ _ (by rfl) (by rfl) (by rfl) (by rfl) ?_; intro wq HK'; simp only [List.set] at HK'; replace HK0 := HK'; clear HK'; have hs := And.intro (zH ((HK0.out.takeL 3).takeR 0)) (zH ((HK0.out.dropL 5).takeR 0))
   refine hK.out _ _ hs (fun hHeld => ?_)
   clear hK K
   try simp only [ap1, ap2, ap3, ap4, ap5]
   refine srd1 7 none rfl (fun K hK => ?_)
   refine step_srp (q := ⟨z, Sto.vn⟩) HK0 4 (by rfl) _ _ (by rfl) (by rfl) (by rfl) (by rfl) ?_; intro wq HK'; simp only [List.set] at HK'; replace HK0 := HK'; clear HK'; have hs := And.intro (zH ((HK0.out.takeL 3).takeR 0)) (zH ((HK0.out.dropL 5).takeR 0))
   refine hK.out _ _ hs (fun hHeld => ?_)
   clear hK K
   try simp only [ap1, ap2, ap3, ap4, ap5]
   refine stk 8 8 rfl ?_
   refine stk 9 9 rfl ?_
   refine wpAnyH_done (by kernel_rfl) ?_ _
   rotate_left
   all_goals
    go_wp2_with fail
    exact ret_th Tryz.results28 rfl rfl rfl rfl rfl (HK0.out.blk 3 rfl) (HK0.out.blk 4 rfl) ⟨x.sr A4 n4 c4 m, _, _, _, _, rfl, rfl, HK0.out.takeL 0, fun _ _ _ _ _ K hm hb => ⟨(HI.out _ hb).sr (Sls.own (K.mem (hm _ (List.mem_cons_self ..))) HF.out), Sls.own (K.mem (hm _ (List.mem_cons_of_mem _ (List.mem_cons_self ..)))) ⟨fun _ _ => trivial, by show 1 * 72 ≤ 140737488355328; decide⟩⟩⟩
 ·subst hm
  replace HK := hkC HK b4
  clear b4
  cases h
  case false =>
   go_wp2_with (first | (refine wpList_akr HK rfl rfl ?_; intro _ g14 HK'; simp only [lcA, lnA] at HK'; replace HK := HK'; clear HK') | (refine wpList_sr HK 5 rfl _ _ rfl rfl rfl rfl ?_; intro _ HK'; simp only [List.set] at HK'; replace HK := HK'; clear HK') | (refine wpList_sor HK 0 rfl _ _ rfl rfl rfl rfl x.v.refs ?_; intro _ HK'; simp only [List.set] at HK'; replace HK := HK'; clear HK'))
   have HK0 := zH HK.out.drew
   refine wp_region_held_drew (S := (fun W => Hid (Kn w.heap.size w W [(w.heap.size, 55, obA (x.sr x.rA x.rn x.rc x.v.refs)), (w.heap.size + 1, 24, #[.int .i64 r.c, .int .i64 r.e, .int .i64 r.r]), (w.heap.size + 1 + 1, 29, cmA c)] []) ∧ Hid (Kn w.heap.size w W [(g14, 24, #[.int .i64 q.c, .int .i64 q.e, .int .i64 q.r])] []))) (by kernel_rfl) ?_ (fun hHeld => ?_)
   ·(try dsimp only); exact And.intro (zH ((HK0.out.takeL 3).takeR 0)) (zH ((HK0.out.dropL 5).takeR 0))
   refine stk 0 57 rfl ?_ (fun w hSw => kob hSw.1 0 _ (by rfl) (by rfl) (by rfl))
   refine stk 1 58 rfl ?_
   refine srd1 2 (some 59) rfl (fun K hK => ?_)
   go_simp
   go_at_call 21
   refine (HFl.out z _).mono ?_; rintro e w5 ⟨rfl, b5⟩; have hs := And.intro (zH (hHeld.1.out.call b5)) (zH (hHeld.2.out.call b5)); replace HK0 := zH (HK0.out.call b5); clear b5
   refine hK.out _ _ hs (fun hHeld => ?_)
   clear hK K
   try simp only [ap1, ap2, ap3, ap4, ap5]
   refine srd1 3 none rfl (fun K hK => ?_)
   refine step_sob (y := x.sr x.rA x.rn x.rc x.v.refs) HK0 3 (by rfl) _ _ (by rfl) (by rfl) (by rfl) (by rfl) ?_; intro wq HK'; simp only [List.set] at HK'; replace HK0 := HK'; clear HK'; have hs := And.intro (zH ((HK0.out.takeL 3).takeR 0)) (zH ((HK0.out.dropL 5).takeR 0))
   refine hK.out _ _ hs (fun hHeld => ?_)
   clear hK K
   try simp only [ap1, ap2, ap3, ap4, ap5]
   refine srd1 4 none rfl (fun K hK => ?_)
   refine step_srp (q := ⟨z, Sto.vn⟩) HK0 4 (by rfl) _ _ (by rfl) (by rfl) (by rfl) (by rfl) ?_; intro wq HK'; simp only [List.set] at HK'; replace HK0 := HK'; clear HK'; have hs := And.intro (zH ((HK0.out.takeL 3).takeR 0)) (zH ((HK0.out.dropL 5).takeR 0))
   refine hK.out _ _ hs (fun hHeld => ?_)
   clear hK K
   try simp only [ap1, ap2, ap3, ap4, ap5]
   refine stk 5 8 rfl ?_
   refine stk 6 9 rfl ?_
   refine wpAnyH_done (by kernel_rfl) ?_ _
   all_goals
    go_wp2_with fail
    exact ret_th Tryz.results28 rfl rfl rfl rfl rfl (HK0.out.blk 3 rfl) (HK0.out.blk 4 rfl) ⟨x.sr x.rA x.rn x.rc x.v.refs, _, _, _, _, rfl, rfl, HK0.out.takeL 0, fun _ _ _ _ _ K hm hb => ⟨(HI.out _ hb).sr (HI.out _ hb).r, Sls.none _⟩⟩
  case true =>
   go_wp2_with (first | (refine wpList_akr HK rfl rfl ?_; intro _ g14 HK'; simp only [lcA, lnA] at HK'; replace HK := HK'; clear HK') | (refine wpList_sr HK 5 rfl _ _ rfl rfl rfl rfl ?_; intro _ HK'; simp only [List.set] at HK'; replace HK := HK'; clear HK') | (refine wpList_sor HK 0 rfl _ _ rfl rfl rfl rfl x.v.refs ?_; intro _ HK'; simp only [List.set] at HK'; replace HK := HK'; clear HK'))
   have HK0 := zH HK.out.drew
   refine wp_region_held_drew (S := (fun W => Hid (Kn w.heap.size w W [(w.heap.size, 55, obA (x.sr x.rA x.rn x.rc x.v.refs)), (w.heap.size + 1, 24, #[.int .i64 r.c, .int .i64 r.e, .int .i64 r.r]), (w.heap.size + 1 + 1, 29, cmA c)] []) ∧ Hid (Kn w.heap.size w W [(g14, 24, #[.int .i64 q.c, .int .i64 q.e, .int .i64 q.r])] []))) (by kernel_rfl) ?_ (fun hHeld => ?_)
   ·(try dsimp only); exact And.intro (zH ((HK0.out.takeL 3).takeR 0)) (zH ((HK0.out.dropL 5).takeR 0))
   refine stk 0 51 rfl ?_ (fun w hSw => kob hSw.1 0 _ (by rfl) (by rfl) (by rfl))
   refine stk 1 52 rfl ?_
   refine stk 3 54 rfl ?_ (fun w hSw => kexec_lr hSw.2 0 _ (by rfl) (by rfl) (by rfl))
   refine stk 4 55 rfl ?_ (fun w hSw => exec_bo1 (r := q) _ (by rfl) (by rfl))
   refine srd2 2 (some 53) 5 (some 56) rfl rfl (fun K hK => ?_) (fun K hK => ?_)
   go_simp
   go_at_call 21
   refine (HFl.out z _).mono ?_; rintro e w5 ⟨rfl, b5⟩; have hs := And.intro (zH (hHeld.1.out.call b5)) (zH (hHeld.2.out.call b5)); replace HK0 := zH (HK0.out.call b5); clear b5
   refine hK.out _ _ hs (fun hHeld => ?_)
   clear hK K
   try simp only [ap1, ap2, ap3, ap4, ap5]
   refine srd2 5 (some 56) 6 none rfl rfl (fun K hK => ?_) (fun K hK => ?_)
   refine step_mk1 otLay (p := ⟨q, Sto.rz⟩) HK0 (by decide) (by rfl) _ (by rfl) (by rfl) (by rfl) ?_; intro w6 g6 HK' _; simp only [lcA, lnA] at HK'; replace HK0 := HK'; clear HK'; have hs := And.intro (zH ((HK0.out.takeL 3).takeR 0)) (zH ((HK0.out.dropL 5).takeR 0))
   refine hK.out _ _ hs (fun hHeld => ?_)
   clear hK K
   try simp only [ap1, ap2, ap3, ap4, ap5]
   refine srd1 6 none rfl (fun K hK => ?_)
   refine step_sob (y := x.sr x.rA x.rn x.rc x.v.refs) HK0 3 (by rfl) _ _ (by rfl) (by rfl) (by rfl) (by rfl) ?_; intro wq HK'; simp only [List.set] at HK'; replace HK0 := HK'; clear HK'; have hs := And.intro (zH ((HK0.out.takeL 3).takeR 0)) (zH ((HK0.out.dropL 5).takeR 0))
   refine hK.out _ _ hs (fun hHeld => ?_)
   clear hK K
   try simp only [ap1, ap2, ap3, ap4, ap5]
   refine srd1 7 none rfl (fun K hK => ?_)
   refine step_srp (q := ⟨z, Sto.vn⟩) HK0 4 (by rfl) _ _ (by rfl) (by rfl) (by rfl) (by rfl) ?_; intro wq HK'; simp only [List.set] at HK'; replace HK0 := HK'; clear HK'; have hs := And.intro (zH ((HK0.out.takeL 3).takeR 0)) (zH ((HK0.out.dropL 5).takeR 0))
   refine hK.out _ _ hs (fun hHeld => ?_)
   clear hK K
   try simp only [ap1, ap2, ap3, ap4, ap5]
   refine stk 8 8 rfl ?_
   refine stk 9 9 rfl ?_
   refine wpAnyH_done (by kernel_rfl) ?_ _
   rotate_left
   refine step_sob (y := x.sr x.rA x.rn x.rc x.v.refs) HK0 3 (by rfl) _ _ (by rfl) (by rfl) (by rfl) (by rfl) ?_; intro wq HK'; simp only [List.set] at HK'; replace HK0 := HK'; clear HK'; have hs := And.intro (zH ((HK0.out.takeL 3).takeR 0)) (zH ((HK0.out.dropL 5).takeR 0))
   refine hK.out _ _ hs (fun hHeld => ?_)
   clear hK K
   try simp only [ap1, ap2, ap3, ap4, ap5]
   refine srd2 5 (some 56) 7 none rfl rfl (fun K hK => ?_) (fun K hK => ?_)
   refine step_mk1 otLay (p := ⟨q, Sto.rz⟩) HK0 (by decide) (by rfl) _ (by rfl) (by rfl) (by rfl) ?_; intro w6 g6 HK' _; simp only [lcA, lnA] at HK'; replace HK0 := HK'; clear HK'; have hs := And.intro (zH ((HK0.out.takeL 3).takeR 0)) (zH ((HK0.out.dropL 5).takeR 0))
   refine hK.out _ _ hs (fun hHeld => ?_)
   clear hK K
   try simp only [ap1, ap2, ap3, ap4, ap5]
   refine srd1 7 none rfl (fun K hK => ?_)
   refine step_srp (q := ⟨z, Sto.vn⟩) HK0 4 (by rfl) _ _ (by rfl) (by rfl) (by rfl) (by rfl) ?_; intro wq HK'; simp only [List.set] at HK'; replace HK0 := HK'; clear HK'; have hs := And.intro (zH ((HK0.out.takeL 3).takeR 0)) (zH ((HK0.out.dropL 5).takeR 0))
   refine hK.out _ _ hs (fun hHeld => ?_)
   clear hK K
   try simp only [ap1, ap2, ap3, ap4, ap5]
   refine stk 8 8 rfl ?_
   refine stk 9 9 rfl ?_
   refine wpAnyH_done (by kernel_rfl) ?_ _
   rotate_left
   refine step_srp (q := ⟨z, Sto.vn⟩) HK0 4 (by rfl) _ _ (by rfl) (by rfl) (by rfl) (by rfl) ?_; intro wq HK'; simp only [List.set] at HK'; replace HK0 := HK'; clear HK'; have hs := And.intro (zH ((HK0.out.takeL 3).takeR 0)) (zH ((HK0.out.dropL 5).takeR 0))
   refine hK.out _ _ hs (fun hHeld => ?_)
   clear hK K
   try simp only [ap1, ap2, ap3, ap4, ap5]
   refine stk 8 8 rfl ?_
   refine srd1 5 (some 56) rfl (fun K hK => ?_)
   refine step_mk1 otLay (p := ⟨q, Sto.rz⟩) HK0 (by decide) (by rfl) _ (by rfl) (by rfl) (by rfl) ?_; intro w6 g6 HK' _; simp only [lcA, lnA] at HK'; replace HK0 := HK'; clear HK'; have hs := And.intro (zH ((HK0.out.takeL 3).takeR 0)) (zH ((HK0.out.dropL 5).takeR 0))
   refine hK.out _ _ hs (fun hHeld => ?_)
   clear hK K
   try simp only [ap1, ap2, ap3, ap4, ap5]
   refine stk 9 9 rfl ?_
   refine wpAnyH_done (by kernel_rfl) ?_ _
   rotate_left
   refine step_mk1 otLay (p := ⟨q, Sto.rz⟩) HK0 (by decide) (by rfl) _ (by rfl) (by rfl) (by rfl) ?_; intro w6 g6 HK' _; simp only [lcA, lnA] at HK'; replace HK0 := HK'; clear HK'; have hs := And.intro (zH ((HK0.out.takeL 3).takeR 0)) (zH ((HK0.out.dropL 5).takeR 0))
   refine hK.out _ _ hs (fun hHeld => ?_)
   clear hK K
   try simp only [ap1, ap2, ap3, ap4, ap5]
   refine srd1 2 (some 53) rfl (fun K hK => ?_)
   go_simp
   go_at_call 21
   refine (HFl.out z _).mono ?_; rintro e w5 ⟨rfl, b5⟩; have hs := And.intro (zH (hHeld.1.out.call b5)) (zH (hHeld.2.out.call b5)); replace HK0 := zH (HK0.out.call b5); clear b5
   refine hK.out _ _ hs (fun hHeld => ?_)
   clear hK K
   try simp only [ap1, ap2, ap3, ap4, ap5]
   refine srd1 6 none rfl (fun K hK => ?_)
   refine step_sob (y := x.sr x.rA x.rn x.rc x.v.refs) HK0 3 (by rfl) _ _ (by rfl) (by rfl) (by rfl) (by rfl) ?_; intro wq HK'; simp only [List.set] at HK'; replace HK0 := HK'; clear HK'; have hs := And.intro (zH ((HK0.out.takeL 3).takeR 0)) (zH ((HK0.out.dropL 5).takeR 0))
   refine hK.out _ _ hs (fun hHeld => ?_)
   clear hK K
   try simp only [ap1, ap2, ap3, ap4, ap5]
   refine srd1 7 none rfl (fun K hK => ?_)
   refine step_srp (q := ⟨z, Sto.vn⟩) HK0 4 (by rfl) _ _ (by rfl) (by rfl) (by rfl) (by rfl) ?_; intro wq HK'; simp only [List.set] at HK'; replace HK0 := HK'; clear HK'; have hs := And.intro (zH ((HK0.out.takeL 3).takeR 0)) (zH ((HK0.out.dropL 5).takeR 0))
   refine hK.out _ _ hs (fun hHeld => ?_)
   clear hK K
   try simp only [ap1, ap2, ap3, ap4, ap5]
   refine stk 8 8 rfl ?_
   refine stk 9 9 rfl ?_
   refine wpAnyH_done (by kernel_rfl) ?_ _
   rotate_left
   all_goals
    go_wp2_with fail
    exact ret_th Tryz.results28 rfl rfl rfl rfl rfl (HK0.out.blk 3 rfl) (HK0.out.blk 4 rfl) ⟨x.sr x.rA x.rn x.rc x.v.refs, _, _, _, _, rfl, rfl, HK0.out.takeL 0, fun _ _ _ _ _ K hm hb => ⟨(HI.out _ hb).sr (HI.out _ hb).r, Sls.own (K.mem (hm _ (List.mem_cons_self ..))) ⟨fun _ _ => trivial, by show 1 * 72 ≤ 140737488355328; decide⟩⟩⟩
end Go.Proofs.YtpkodjllljnleaaGreat
