/- What the document's plain returns: what an object does at a command that never waits. No condition but those named. -/
import Derived.Test.YtpkodjllljnleaaGreatTk
import Derived.Test.YtpkodjllljnleaaGreatMR
import Derived.Test.YtpkodjllljnleaaGreatMZ
import Derived.Test.YtpkodjllljnleaaGreatStoAct
import Derived.Test.YtpkodjllljnleaaGreatMV
import Derived.Test.YtpkodjllljnleaaGreatMX
set_option linter.unusedSimpArgs false
set_option linter.unusedVariables false
namespace Go.Proofs.YtpkodjllljnleaaGreat
open Go.RowKit
def IsRP (G : World → Prop) (oc : Sto.Oc) (w : World) (e : Ending) (w' : World) : Prop := ∃ (y : Oh) (Rn : List RowE), e = .returned (.tuple #[.agg (obA y), .agg (rpA oc.p)]) ∧ Hid (y.v = oc.o) ∧ Kn w.heap.size w w' [] Rn ∧ Hid (∀ (b : Nat) (W0 W : World) L R, Kn b W0 W L R → (∀ z ∈ Rn, z ∈ R) → G W → In W y)
theorem ret_pl {fn : Func} {R : Ending → World → Prop} {a : Act} {w : World} {B D : Nat} {x : Oh} {p : Sto.Rp} {q q2 : Tmp} (hf : fn.results = #[.cell q 55, .cell q2 33]) (h2 : a.tmps[q]? = some (.pointer (some ⟨B, 0, none⟩))) (h3 : a.tmps[q2]? = some (.pointer (some ⟨D, 0, none⟩))) (hd : a.defers = []) (hb : Blk w B 55 (obA x)) (hc : Blk w D 33 (rpA p))
  (hR : R (.returned (.tuple #[.agg (obA x), .agg (rpA p)])) w) : bodyPost Tryz.prog fn R Exit.ret a w := by
 refine bodyPost_ret (v := .tuple #[.agg (obA x), .agg (rpA p)]) ?_ hd hR
 have h : (loadVar 55 ⟨B, 0, none⟩).run Tryz.prog w = .ok (.agg (obA x)) w := run_loadVar_row (P := Tryz.prog) w B _ _ _ (0, 0) _ hb Tryz.underlying55 rfl info_ob
 have h' : (loadVar 33 ⟨D, 0, none⟩).run Tryz.prog w = .ok (.agg (rpA p)) w := run_loadVar_row (P := Tryz.prog) w D _ _ _ (0, 0) _ hc Tryz.underlying33 rfl info_rp
 simp [results, hf, asAddr, Sem.run_bind, h2, h3, h, h']
theorem exec_brp {w : World} {o : Oper} {a : Act} {z : Int} {v : Val.V} (p q : Operand) (ho : o.op = .build 33 #[(0, p), (1, q)]) (hp : a.eval p = .int .i64 z) (hq : a.eval q = .agg #[.int .i64 v.k, .int .i64 v.n, .int .u64 (v.f : Int), .string v.s]) :
  (execOp a.eval o).run Tryz.prog w = .ok (.value (.agg (rpA ⟨z, v⟩))) w := by
 have h : (Instr.build 33 #[(0, .int .i64 z), (1, .agg #[.int .i64 v.k, .int .i64 v.n, .int .u64 (v.f : Int), .string v.s])]).run Tryz.prog w = .ok (.agg (rpA ⟨z, v⟩)) w := by
  unfold rpA
  go_simp
 unfold execOp
 simp only [ho, Sem.run_bind, Sem.run_pure, Result.andThen_ok, List.map_toArray, List.map_cons, List.map_nil, hp, hq, h]
set_option maxRecDepth 100000 in
set_option maxHeartbeats 25600000 in
theorem rplain_6 (G : World → Prop) (x : Oh) (r : Rf) (c : Cmd.C) (w : World) (hG : ∀ W, G W → In W x) (hx : In w x) (hv : c.val.f < 18446744073709551616) (hk : c.k = 6) : Calls Tryz.prog 29 #[.agg (obA x), .agg (cmA c)] w (IsRP G (Sto.act x.v r c) w) := by
 have he : Sto.act x.v r c = ⟨x.v, ⟨Dct.gtE x.v.prs c.key, Dct.gtV x.v.prs c.key⟩, false, []⟩ := by
  unfold Sto.act
  simp [hk]
 rw [he]
 clear he
 have HI := zH hG
 have HT := zH (fun W (hW : Below w.heap.size w W) => rget_any x.pA x.pc x.pn x.v.prs c.key W (hx.p.later hW))
 have HK := kn4 w 55 (obA x) 29 (cmA c) 55 (obA ohZ) 33 (rpA Sto.rz)
 clear hx hv hG
 unfold IsRP
 unfold IsVE vv at HT
 simp only
 generalize Dct.gtV x.v.prs c.key = v at *
 generalize Dct.gtE x.v.prs c.key = z at *
 go_enter Tryz.func29, Tryz.ntmps29
 go_wp2_with (first | (refine wpList_akv HK rfl rfl ?_; intro _ g7 HK'; simp only [lcA, lnA] at HK'; replace HK := HK'; clear HK') | refine zX (kcm_k HK 1 _ (by rfl) (by rfl) (by rfl)) ?_ | refine zX (kob_p HK 0 _ (by rfl) (by rfl) (by rfl)) ?_ | refine zX (kcm_y HK 1 _ (by rfl) (by rfl) (by rfl)) ?_)
 refine (HT.out _ HK.out.b).mono ?_; rintro e w1 ⟨rfl, b1⟩
 replace HK := hkC HK b1; clear b1
 go_wp2_with (first | (refine wpList_sv (f2 := v.f) HK 4 rfl _ _ rfl rfl rfl rfl ?_; intro _ HK'; simp only [List.set] at HK'; replace HK := HK'; clear HK'))
 have HK0 := zH HK.out.drew
 refine wp_region_held_drew (S := (fun W => Hid (Kn w.heap.size w W [(w.heap.size, 55, obA (x)), (w.heap.size + 1, 29, cmA c)] []) ∧ Hid (Kn w.heap.size w W [(g7, 27, vC v.k v.n v.f v.s)] []))) (by kernel_rfl) ?_ (fun hHeld => ?_)
 ·(try dsimp only); exact And.intro (zH ((HK0.out.takeL 2).takeR 0)) (zH ((HK0.out.dropL 4).takeR 0))
 refine stk 0 111 rfl ?_ (fun w hSw => kob hSw.1 0 _ (by rfl) (by rfl) (by rfl))
 refine stk 1 112 rfl ?_
 refine stk 2 113 rfl ?_ (fun w hSw => kexec_vv hSw.2 0 _ (by rfl) (by rfl) (by rfl))
 refine stk 3 114 rfl ?_ (fun w hSw => exec_brp (z := z) (v := v) _ _ (by rfl) (by rfl) (by rfl))
 refine srd1 4 none rfl (fun K hK => ?_)
 refine step_sob (y := x) HK0 2 (by rfl) _ _ (by rfl) (by rfl) (by rfl) (by rfl) ?_; intro wq HK'; simp only [List.set] at HK'; replace HK0 := HK'; clear HK'; have hs := And.intro (zH ((HK0.out.takeL 2).takeR 0)) (zH ((HK0.out.dropL 4).takeR 0))
 refine hK.out _ _ hs (fun hHeld => ?_)
 clear hK K
 try simp only [ap1, ap2, ap3, ap4, ap5]
 refine srd1 5 none rfl (fun K hK => ?_)
 refine step_srp (q := ⟨z, v⟩) HK0 3 (by rfl) _ _ (by rfl) (by rfl) (by rfl) (by rfl) ?_; intro wq HK'; simp only [List.set] at HK'; replace HK0 := HK'; clear HK'; have hs := And.intro (zH ((HK0.out.takeL 2).takeR 0)) (zH ((HK0.out.dropL 4).takeR 0))
 refine hK.out _ _ hs (fun hHeld => ?_)
 clear hK K
 try simp only [ap1, ap2, ap3, ap4, ap5]
 refine wpAnyH_done (by kernel_rfl) ?_ _
 go_wp2_with fail
 exact ret_pl Tryz.results29 rfl rfl rfl (HK0.out.blk 2 rfl) (HK0.out.blk 3 rfl) ⟨x, _, rfl, rfl, HK0.out.takeL 0, fun _ _ _ _ _ K hm hb => HI.out _ hb⟩
set_option maxRecDepth 100000 in
set_option maxHeartbeats 25600000 in
theorem rplain_7 (G : World → Prop) (x : Oh) (r : Rf) (c : Cmd.C) (w : World) (hG : ∀ W, G W → In W x) (hx : In w x) (hv : c.val.f < 18446744073709551616) (hk : c.k = 7) : Calls Tryz.prog 29 #[.agg (obA x), .agg (cmA c)] w (IsRP G (Sto.act x.v r c) w) := by
 have he : Sto.act x.v r c = ⟨{ x.v with prs := Dct.ptL x.v.prs c.key c.val }, Sto.err (Dct.ptE x.v.prs c.key c.val), false, []⟩ := by
  unfold Sto.act
  simp [hk]
 rw [he]
 clear he
 have HI := zH hG
 have HT := zH (fun W (hW : Below w.heap.size w W) => rput_any x.pA x.pc x.pn x.v.prs c.key c.val W (hx.p.later hW) hv)
 have HF := zH (hx.p.fit.pt (k := c.key) hv)
 have HK := kn4 w 55 (obA x) 29 (cmA c) 55 (obA ohZ) 33 (rpA Sto.rz)
 clear hx hv hG
 unfold IsRP
 unfold IsPEr vv at HT
 simp only
 generalize Dct.ptL x.v.prs c.key c.val = m at *
 generalize Dct.ptE x.v.prs c.key c.val = z at *
 go_enter Tryz.func29, Tryz.ntmps29
 go_wp2_with (first | (refine wpList_akv HK rfl rfl ?_; intro _ g7 HK'; simp only [lcA, lnA] at HK'; replace HK := HK'; clear HK') | refine zX (kcm_k HK 1 _ (by rfl) (by rfl) (by rfl)) ?_ | refine zX (kob_p HK 0 _ (by rfl) (by rfl) (by rfl)) ?_ | refine zX (kcm_y HK 1 _ (by rfl) (by rfl) (by rfl)) ?_ | refine zX (kcm_v HK 1 _ (by rfl) (by rfl) (by rfl)) ?_)
 refine (HT.out _ HK.out.b).mono ?_; rintro e w1 ⟨A4, n4, c4, rfl, o4, b4⟩
 rcases o4 with o4 | ⟨rfl, rfl, rfl, hm⟩
 ·replace HK := zH (HK.out.called b4 o4)
  simp only [lnA] at HK
  clear o4 b4
  go_wp2_with (first | (refine wpList_sop HK 0 rfl _ _ rfl rfl rfl rfl m ?_; intro _ HK'; simp only [List.set] at HK'; replace HK := HK'; clear HK'))
  have HK0 := zH HK.out.drew
  refine wp_region_held_drew (S := (fun W => Hid (Kn w.heap.size w W [(w.heap.size, 55, obA (x.sp A4 n4 c4 m)), (w.heap.size + 1, 29, cmA c)] []) ∧ Hid (Kn w.heap.size w W [(g7, 27, vC 0 0 0 ⟨#[]⟩)] []))) (by kernel_rfl) ?_ (fun hHeld => ?_)
  ·(try dsimp only); exact And.intro (zH ((HK0.out.takeL 2).takeR 0)) (zH ((HK0.out.dropL 4).takeR 0))
  refine stk 0 111 rfl ?_ (fun w hSw => kob hSw.1 0 _ (by rfl) (by rfl) (by rfl))
  refine stk 1 112 rfl ?_
  refine stk 2 113 rfl ?_ (fun w hSw => kexec_vv hSw.2 0 _ (by rfl) (by rfl) (by rfl))
  refine stk 3 114 rfl ?_ (fun w hSw => exec_brp (z := z) (v := Sto.vn) _ _ (by rfl) (by rfl) (by rfl))
  refine srd1 4 none rfl (fun K hK => ?_)
  refine step_sob (y := x.sp A4 n4 c4 m) HK0 2 (by rfl) _ _ (by rfl) (by rfl) (by rfl) (by rfl) ?_; intro wq HK'; simp only [List.set] at HK'; replace HK0 := HK'; clear HK'; have hs := And.intro (zH ((HK0.out.takeL 2).takeR 0)) (zH ((HK0.out.dropL 4).takeR 0))
  refine hK.out _ _ hs (fun hHeld => ?_)
  clear hK K
  try simp only [ap1, ap2, ap3, ap4, ap5]
  refine srd1 5 none rfl (fun K hK => ?_)
  refine step_srp (q := Sto.err z) HK0 3 (by rfl) _ _ (by rfl) (by rfl) (by rfl) (by rfl) ?_; intro wq HK'; simp only [List.set] at HK'; replace HK0 := HK'; clear HK'; have hs := And.intro (zH ((HK0.out.takeL 2).takeR 0)) (zH ((HK0.out.dropL 4).takeR 0))
  refine hK.out _ _ hs (fun hHeld => ?_)
  clear hK K
  try simp only [ap1, ap2, ap3, ap4, ap5]
  refine wpAnyH_done (by kernel_rfl) ?_ _
  go_wp2_with fail
  exact ret_pl Tryz.results29 rfl rfl rfl (HK0.out.blk 2 rfl) (HK0.out.blk 3 rfl) ⟨x.sp A4 n4 c4 m, _, rfl, rfl, HK0.out.takeL 0, fun _ _ _ _ _ K hm hb => (HI.out _ hb).sp (Sl.own (K.mem (hm _ (List.mem_cons_self ..))) HF.out)⟩
 ·subst hm
  replace HK := hkC HK b4
  clear b4
  go_wp2_with (first | (refine wpList_sop HK 0 rfl _ _ rfl rfl rfl rfl x.v.prs ?_; intro _ HK'; simp only [List.set] at HK'; replace HK := HK'; clear HK'))
  have HK0 := zH HK.out.drew
  refine wp_region_held_drew (S := (fun W => Hid (Kn w.heap.size w W [(w.heap.size, 55, obA (x.sp x.pA x.pn x.pc x.v.prs)), (w.heap.size + 1, 29, cmA c)] []) ∧ Hid (Kn w.heap.size w W [(g7, 27, vC 0 0 0 ⟨#[]⟩)] []))) (by kernel_rfl) ?_ (fun hHeld => ?_)
  ·(try dsimp only); exact And.intro (zH ((HK0.out.takeL 2).takeR 0)) (zH ((HK0.out.dropL 4).takeR 0))
  refine stk 0 111 rfl ?_ (fun w hSw => kob hSw.1 0 _ (by rfl) (by rfl) (by rfl))
  refine stk 1 112 rfl ?_
  refine stk 2 113 rfl ?_ (fun w hSw => kexec_vv hSw.2 0 _ (by rfl) (by rfl) (by rfl))
  refine stk 3 114 rfl ?_ (fun w hSw => exec_brp (z := z) (v := Sto.vn) _ _ (by rfl) (by rfl) (by rfl))
  refine srd1 4 none rfl (fun K hK => ?_)
  refine step_sob (y := x.sp x.pA x.pn x.pc x.v.prs) HK0 2 (by rfl) _ _ (by rfl) (by rfl) (by rfl) (by rfl) ?_; intro wq HK'; simp only [List.set] at HK'; replace HK0 := HK'; clear HK'; have hs := And.intro (zH ((HK0.out.takeL 2).takeR 0)) (zH ((HK0.out.dropL 4).takeR 0))
  refine hK.out _ _ hs (fun hHeld => ?_)
  clear hK K
  try simp only [ap1, ap2, ap3, ap4, ap5]
  refine srd1 5 none rfl (fun K hK => ?_)
  refine step_srp (q := Sto.err z) HK0 3 (by rfl) _ _ (by rfl) (by rfl) (by rfl) (by rfl) ?_; intro wq HK'; simp only [List.set] at HK'; replace HK0 := HK'; clear HK'; have hs := And.intro (zH ((HK0.out.takeL 2).takeR 0)) (zH ((HK0.out.dropL 4).takeR 0))
  refine hK.out _ _ hs (fun hHeld => ?_)
  clear hK K
  try simp only [ap1, ap2, ap3, ap4, ap5]
  refine wpAnyH_done (by kernel_rfl) ?_ _
  go_wp2_with fail
  exact ret_pl Tryz.results29 rfl rfl rfl (HK0.out.blk 2 rfl) (HK0.out.blk 3 rfl) ⟨x.sp x.pA x.pn x.pc x.v.prs, _, rfl, rfl, HK0.out.takeL 0, fun _ _ _ _ _ K hm hb => (HI.out _ hb).sp (HI.out _ hb).p⟩
set_option maxRecDepth 100000 in
set_option maxHeartbeats 25600000 in
theorem rplain_8 (G : World → Prop) (x : Oh) (r : Rf) (c : Cmd.C) (w : World) (hG : ∀ W, G W → In W x) (hx : In w x) (hv : c.val.f < 18446744073709551616) (hk : c.k = 8) : Calls Tryz.prog 29 #[.agg (obA x), .agg (cmA c)] w (IsRP G (Sto.act x.v r c) w) := by
 have he : Sto.act x.v r c = ⟨{ x.v with prs := Dct.ctL x.v.prs c.key }, ⟨Dct.gtE x.v.prs c.key, Dct.gtV x.v.prs c.key⟩, false, []⟩ := by
  unfold Sto.act
  simp [hk]
 rw [he]
 clear he
 have HI := zH hG
 have HT := zH (fun W (hW : Below w.heap.size w W) => rcut_any x.pA x.pc x.pn x.v.prs c.key W (hx.p.later hW))
 have HF := zH (hx.p.fit.ct c.key)
 have HK := kn4 w 55 (obA x) 29 (cmA c) 55 (obA ohZ) 33 (rpA Sto.rz)
 clear hx hv hG
 unfold IsRP
 unfold IsPVEr vv at HT
 simp only
 generalize Dct.ctL x.v.prs c.key = m at *
 generalize Dct.gtV x.v.prs c.key = v at *
 generalize Dct.gtE x.v.prs c.key = z at *
 go_enter Tryz.func29, Tryz.ntmps29
 go_wp2_with (first | (refine wpList_akv HK rfl rfl ?_; intro _ g7 HK'; simp only [lcA, lnA] at HK'; replace HK := HK'; clear HK') | refine zX (kcm_k HK 1 _ (by rfl) (by rfl) (by rfl)) ?_ | refine zX (kob_p HK 0 _ (by rfl) (by rfl) (by rfl)) ?_ | refine zX (kcm_y HK 1 _ (by rfl) (by rfl) (by rfl)) ?_)
 refine (HT.out _ HK.out.b).mono ?_; rintro e w1 ⟨A4, n4, c4, rfl, o4, b4⟩
 rcases o4 with o4 | ⟨rfl, rfl, rfl, hm⟩
 ·replace HK := zH (HK.out.called b4 o4)
  simp only [lnA] at HK
  clear o4 b4
  go_wp2_with (first | (refine wpList_sop HK 0 rfl _ _ rfl rfl rfl rfl m ?_; intro _ HK'; simp only [List.set] at HK'; replace HK := HK'; clear HK') | (refine wpList_sv (f2 := v.f) HK 4 rfl _ _ rfl rfl rfl rfl ?_; intro _ HK'; simp only [List.set] at HK'; replace HK := HK'; clear HK'))
  have HK0 := zH HK.out.drew
  refine wp_region_held_drew (S := (fun W => Hid (Kn w.heap.size w W [(w.heap.size, 55, obA (x.sp A4 n4 c4 m)), (w.heap.size + 1, 29, cmA c)] []) ∧ Hid (Kn w.heap.size w W [(g7, 27, vC v.k v.n v.f v.s)] []))) (by kernel_rfl) ?_ (fun hHeld => ?_)
  ·(try dsimp only); exact And.intro (zH ((HK0.out.takeL 2).takeR 0)) (zH ((HK0.out.dropL 4).takeR 0))
  refine stk 0 111 rfl ?_ (fun w hSw => kob hSw.1 0 _ (by rfl) (by rfl) (by rfl))
  refine stk 1 112 rfl ?_
  refine stk 2 113 rfl ?_ (fun w hSw => kexec_vv hSw.2 0 _ (by rfl) (by rfl) (by rfl))
  refine stk 3 114 rfl ?_ (fun w hSw => exec_brp (z := z) (v := v) _ _ (by rfl) (by rfl) (by rfl))
  refine srd1 4 none rfl (fun K hK => ?_)
  refine step_sob (y := x.sp A4 n4 c4 m) HK0 2 (by rfl) _ _ (by rfl) (by rfl) (by rfl) (by rfl) ?_; intro wq HK'; simp only [List.set] at HK'; replace HK0 := HK'; clear HK'; have hs := And.intro (zH ((HK0.out.takeL 2).takeR 0)) (zH ((HK0.out.dropL 4).takeR 0))
  refine hK.out _ _ hs (fun hHeld => ?_)
  clear hK K
  try simp only [ap1, ap2, ap3, ap4, ap5]
  refine srd1 5 none rfl (fun K hK => ?_)
  refine step_srp (q := ⟨z, v⟩) HK0 3 (by rfl) _ _ (by rfl) (by rfl) (by rfl) (by rfl) ?_; intro wq HK'; simp only [List.set] at HK'; replace HK0 := HK'; clear HK'; have hs := And.intro (zH ((HK0.out.takeL 2).takeR 0)) (zH ((HK0.out.dropL 4).takeR 0))
  refine hK.out _ _ hs (fun hHeld => ?_)
  clear hK K
  try simp only [ap1, ap2, ap3, ap4, ap5]
  refine wpAnyH_done (by kernel_rfl) ?_ _
  go_wp2_with fail
  exact ret_pl Tryz.results29 rfl rfl rfl (HK0.out.blk 2 rfl) (HK0.out.blk 3 rfl) ⟨x.sp A4 n4 c4 m, _, rfl, rfl, HK0.out.takeL 0, fun _ _ _ _ _ K hm hb => (HI.out _ hb).sp (Sl.own (K.mem (hm _ (List.mem_cons_self ..))) HF.out)⟩
 ·subst hm
  replace HK := hkC HK b4
  clear b4
  go_wp2_with (first | (refine wpList_sop HK 0 rfl _ _ rfl rfl rfl rfl x.v.prs ?_; intro _ HK'; simp only [List.set] at HK'; replace HK := HK'; clear HK') | (refine wpList_sv (f2 := v.f) HK 4 rfl _ _ rfl rfl rfl rfl ?_; intro _ HK'; simp only [List.set] at HK'; replace HK := HK'; clear HK'))
  have HK0 := zH HK.out.drew
  refine wp_region_held_drew (S := (fun W => Hid (Kn w.heap.size w W [(w.heap.size, 55, obA (x.sp x.pA x.pn x.pc x.v.prs)), (w.heap.size + 1, 29, cmA c)] []) ∧ Hid (Kn w.heap.size w W [(g7, 27, vC v.k v.n v.f v.s)] []))) (by kernel_rfl) ?_ (fun hHeld => ?_)
  ·(try dsimp only); exact And.intro (zH ((HK0.out.takeL 2).takeR 0)) (zH ((HK0.out.dropL 4).takeR 0))
  refine stk 0 111 rfl ?_ (fun w hSw => kob hSw.1 0 _ (by rfl) (by rfl) (by rfl))
  refine stk 1 112 rfl ?_
  refine stk 2 113 rfl ?_ (fun w hSw => kexec_vv hSw.2 0 _ (by rfl) (by rfl) (by rfl))
  refine stk 3 114 rfl ?_ (fun w hSw => exec_brp (z := z) (v := v) _ _ (by rfl) (by rfl) (by rfl))
  refine srd1 4 none rfl (fun K hK => ?_)
  refine step_sob (y := x.sp x.pA x.pn x.pc x.v.prs) HK0 2 (by rfl) _ _ (by rfl) (by rfl) (by rfl) (by rfl) ?_; intro wq HK'; simp only [List.set] at HK'; replace HK0 := HK'; clear HK'; have hs := And.intro (zH ((HK0.out.takeL 2).takeR 0)) (zH ((HK0.out.dropL 4).takeR 0))
  refine hK.out _ _ hs (fun hHeld => ?_)
  clear hK K
  try simp only [ap1, ap2, ap3, ap4, ap5]
  refine srd1 5 none rfl (fun K hK => ?_)
  refine step_srp (q := ⟨z, v⟩) HK0 3 (by rfl) _ _ (by rfl) (by rfl) (by rfl) (by rfl) ?_; intro wq HK'; simp only [List.set] at HK'; replace HK0 := HK'; clear HK'; have hs := And.intro (zH ((HK0.out.takeL 2).takeR 0)) (zH ((HK0.out.dropL 4).takeR 0))
  refine hK.out _ _ hs (fun hHeld => ?_)
  clear hK K
  try simp only [ap1, ap2, ap3, ap4, ap5]
  refine wpAnyH_done (by kernel_rfl) ?_ _
  go_wp2_with fail
  exact ret_pl Tryz.results29 rfl rfl rfl (HK0.out.blk 2 rfl) (HK0.out.blk 3 rfl) ⟨x.sp x.pA x.pn x.pc x.v.prs, _, rfl, rfl, HK0.out.takeL 0, fun _ _ _ _ _ K hm hb => (HI.out _ hb).sp (HI.out _ hb).p⟩
set_option maxRecDepth 100000 in
set_option maxHeartbeats 25600000 in
theorem rplain_9 (G : World → Prop) (x : Oh) (r : Rf) (c : Cmd.C) (w : World) (hG : ∀ W, G W → In W x) (hx : In w x) (hv : c.val.f < 18446744073709551616) (hk : c.k = 9) : Calls Tryz.prog 29 #[.agg (obA x), .agg (cmA c)] w (IsRP G (Sto.act x.v r c) w) := by
 have he : Sto.act x.v r c = ⟨{ x.v with prs := Dct.swL x.v.prs c.key c.old c.val }, ⟨Dct.swE x.v.prs c.key c.old c.val, Dct.swV x.v.prs c.key c.old⟩, false, []⟩ := by
  unfold Sto.act
  simp [hk]
 rw [he]
 clear he
 have HI := zH hG
 have HT := zH (fun W (hW : Below w.heap.size w W) => rswap_any x.pA x.pc x.pn x.v.prs c.key c.old c.val W (hx.p.later hW) hv)
 have HF := zH (hx.p.fit.sw (k := c.key) (o := c.old) hv)
 have HK := kn4 w 55 (obA x) 29 (cmA c) 55 (obA ohZ) 33 (rpA Sto.rz)
 clear hx hv hG
 unfold IsRP
 unfold IsPVEr vv at HT
 simp only
 generalize Dct.swL x.v.prs c.key c.old c.val = m at *
 generalize Dct.swV x.v.prs c.key c.old = v at *
 generalize Dct.swE x.v.prs c.key c.old c.val = z at *
 go_enter Tryz.func29, Tryz.ntmps29
 go_wp2_with (first | (refine wpList_akv HK rfl rfl ?_; intro _ g7 HK'; simp only [lcA, lnA] at HK'; replace HK := HK'; clear HK') | refine zX (kcm_k HK 1 _ (by rfl) (by rfl) (by rfl)) ?_ | refine zX (kob_p HK 0 _ (by rfl) (by rfl) (by rfl)) ?_ | refine zX (kcm_y HK 1 _ (by rfl) (by rfl) (by rfl)) ?_ | refine zX (kcm_v HK 1 _ (by rfl) (by rfl) (by rfl)) ?_ | refine zX (kcm_o HK 1 _ (by rfl) (by rfl) (by rfl)) ?_)
 refine (HT.out _ HK.out.b).mono ?_; rintro e w1 ⟨A4, n4, c4, rfl, o4, b4⟩
 rcases o4 with o4 | ⟨rfl, rfl, rfl, hm⟩
 ·replace HK := zH (HK.out.called b4 o4)
  simp only [lnA] at HK
  clear o4 b4
  go_wp2_with (first | (refine wpList_sop HK 0 rfl _ _ rfl rfl rfl rfl m ?_; intro _ HK'; simp only [List.set] at HK'; replace HK := HK'; clear HK') | (refine wpList_sv (f2 := v.f) HK 4 rfl _ _ rfl rfl rfl rfl ?_; intro _ HK'; simp only [List.set] at HK'; replace HK := HK'; clear HK'))
  have HK0 := zH HK.out.drew
  refine wp_region_held_drew (S := (fun W => Hid (Kn w.heap.size w W [(w.heap.size, 55, obA (x.sp A4 n4 c4 m)), (w.heap.size + 1, 29, cmA c)] []) ∧ Hid (Kn w.heap.size w W [(g7, 27, vC v.k v.n v.f v.s)] []))) (by kernel_rfl) ?_ (fun hHeld => ?_)
  ·(try dsimp only); exact And.intro (zH ((HK0.out.takeL 2).takeR 0)) (zH ((HK0.out.dropL 4).takeR 0))
  refine stk 0 111 rfl ?_ (fun w hSw => kob hSw.1 0 _ (by rfl) (by rfl) (by rfl))
  refine stk 1 112 rfl ?_
  refine stk 2 113 rfl ?_ (fun w hSw => kexec_vv hSw.2 0 _ (by rfl) (by rfl) (by rfl))
  refine stk 3 114 rfl ?_ (fun w hSw => exec_brp (z := z) (v := v) _ _ (by rfl) (by rfl) (by rfl))
  refine srd1 4 none rfl (fun K hK => ?_)
  refine step_sob (y := x.sp A4 n4 c4 m) HK0 2 (by rfl) _ _ (by rfl) (by rfl) (by rfl) (by rfl) ?_; intro wq HK'; simp only [List.set] at HK'; replace HK0 := HK'; clear HK'; have hs := And.intro (zH ((HK0.out.takeL 2).takeR 0)) (zH ((HK0.out.dropL 4).takeR 0))
  refine hK.out _ _ hs (fun hHeld => ?_)
  clear hK K
  try simp only [ap1, ap2, ap3, ap4, ap5]
  refine srd1 5 none rfl (fun K hK => ?_)
  refine step_srp (q := ⟨z, v⟩) HK0 3 (by rfl) _ _ (by rfl) (by rfl) (by rfl) (by rfl) ?_; intro wq HK'; simp only [List.set] at HK'; replace HK0 := HK'; clear HK'; have hs := And.intro (zH ((HK0.out.takeL 2).takeR 0)) (zH ((HK0.out.dropL 4).takeR 0))
  refine hK.out _ _ hs (fun hHeld => ?_)
  clear hK K
  try simp only [ap1, ap2, ap3, ap4, ap5]
  refine wpAnyH_done (by kernel_rfl) ?_ _
  go_wp2_with fail
  exact ret_pl Tryz.results29 rfl rfl rfl (HK0.out.blk 2 rfl) (HK0.out.blk 3 rfl) ⟨x.sp A4 n4 c4 m, _, rfl, rfl, HK0.out.takeL 0, fun _ _ _ _ _ K hm hb => (HI.out _ hb).sp (Sl.own (K.mem (hm _ (List.mem_cons_self ..))) HF.out)⟩
 ·subst hm
  replace HK := hkC HK b4
  clear b4
  go_wp2_with (first | (refine wpList_sop HK 0 rfl _ _ rfl rfl rfl rfl x.v.prs ?_; intro _ HK'; simp only [List.set] at HK'; replace HK := HK'; clear HK') | (refine wpList_sv (f2 := v.f) HK 4 rfl _ _ rfl rfl rfl rfl ?_; intro _ HK'; simp only [List.set] at HK'; replace HK := HK'; clear HK'))
  have HK0 := zH HK.out.drew
  refine wp_region_held_drew (S := (fun W => Hid (Kn w.heap.size w W [(w.heap.size, 55, obA (x.sp x.pA x.pn x.pc x.v.prs)), (w.heap.size + 1, 29, cmA c)] []) ∧ Hid (Kn w.heap.size w W [(g7, 27, vC v.k v.n v.f v.s)] []))) (by kernel_rfl) ?_ (fun hHeld => ?_)
  ·(try dsimp only); exact And.intro (zH ((HK0.out.takeL 2).takeR 0)) (zH ((HK0.out.dropL 4).takeR 0))
  refine stk 0 111 rfl ?_ (fun w hSw => kob hSw.1 0 _ (by rfl) (by rfl) (by rfl))
  refine stk 1 112 rfl ?_
  refine stk 2 113 rfl ?_ (fun w hSw => kexec_vv hSw.2 0 _ (by rfl) (by rfl) (by rfl))
  refine stk 3 114 rfl ?_ (fun w hSw => exec_brp (z := z) (v := v) _ _ (by rfl) (by rfl) (by rfl))
  refine srd1 4 none rfl (fun K hK => ?_)
  refine step_sob (y := x.sp x.pA x.pn x.pc x.v.prs) HK0 2 (by rfl) _ _ (by rfl) (by rfl) (by rfl) (by rfl) ?_; intro wq HK'; simp only [List.set] at HK'; replace HK0 := HK'; clear HK'; have hs := And.intro (zH ((HK0.out.takeL 2).takeR 0)) (zH ((HK0.out.dropL 4).takeR 0))
  refine hK.out _ _ hs (fun hHeld => ?_)
  clear hK K
  try simp only [ap1, ap2, ap3, ap4, ap5]
  refine srd1 5 none rfl (fun K hK => ?_)
  refine step_srp (q := ⟨z, v⟩) HK0 3 (by rfl) _ _ (by rfl) (by rfl) (by rfl) (by rfl) ?_; intro wq HK'; simp only [List.set] at HK'; replace HK0 := HK'; clear HK'; have hs := And.intro (zH ((HK0.out.takeL 2).takeR 0)) (zH ((HK0.out.dropL 4).takeR 0))
  refine hK.out _ _ hs (fun hHeld => ?_)
  clear hK K
  try simp only [ap1, ap2, ap3, ap4, ap5]
  refine wpAnyH_done (by kernel_rfl) ?_ _
  go_wp2_with fail
  exact ret_pl Tryz.results29 rfl rfl rfl (HK0.out.blk 2 rfl) (HK0.out.blk 3 rfl) ⟨x.sp x.pA x.pn x.pc x.v.prs, _, rfl, rfl, HK0.out.takeL 0, fun _ _ _ _ _ K hm hb => (HI.out _ hb).sp (HI.out _ hb).p⟩
set_option maxRecDepth 100000 in
set_option maxHeartbeats 25600000 in
theorem rplain_10 (G : World → Prop) (x : Oh) (r : Rf) (c : Cmd.C) (w : World) (hG : ∀ W, G W → In W x) (hx : In w x) (hv : c.val.f < 18446744073709551616) (hk : c.k = 10) : Calls Tryz.prog 29 #[.agg (obA x), .agg (cmA c)] w (IsRP G (Sto.act x.v r c) w) := by
 have he : Sto.act x.v r c = ⟨{ x.v with vals := Que.psL x.v.cap x.v.vals c.val }, Sto.err (Que.psE x.v.cap x.v.vals c.val), false, []⟩ := by
  unfold Sto.act
  simp [hk]
 rw [he]
 clear he
 have HI := zH hG
 have HT := zH (fun W (hW : Below w.heap.size w W) => rpush_any x.v.cap x.vA x.vc x.vn x.v.vals c.val W (hx.v.later hW) hv)
 have HF := zH (fits_ps (N := x.v.cap) hx.v.fit hv)
 have HK := kn4 w 55 (obA x) 29 (cmA c) 55 (obA ohZ) 33 (rpA Sto.rz)
 clear hx hv hG
 unfold IsRP
 unfold IsQPr vv at HT
 simp only
 generalize Que.psL x.v.cap x.v.vals c.val = m at *
 generalize Que.psE x.v.cap x.v.vals c.val = z at *
 go_enter Tryz.func29, Tryz.ntmps29
 go_wp2_with (first | (refine wpList_akv HK rfl rfl ?_; intro _ g7 HK'; simp only [lcA, lnA] at HK'; replace HK := HK'; clear HK') | refine zX (kcm_k HK 1 _ (by rfl) (by rfl) (by rfl)) ?_ | refine zX (kob_c HK 0 _ (by rfl) (by rfl) (by rfl)) ?_ | refine zX (kob_v HK 0 _ (by rfl) (by rfl) (by rfl)) ?_ | refine zX (kcm_v HK 1 _ (by rfl) (by rfl) (by rfl)) ?_)
 refine (HT.out _ HK.out.b).mono ?_; rintro e w1 ⟨A4, n4, c4, rfl, o4, b4⟩
 rcases o4 with o4 | ⟨rfl, rfl, rfl, hm⟩
 ·replace HK := zH (HK.out.called b4 o4)
  simp only [lnA] at HK
  clear o4 b4
  go_wp2_with (first | (refine wpList_sov HK 0 rfl _ _ rfl rfl rfl rfl m ?_; intro _ HK'; simp only [List.set] at HK'; replace HK := HK'; clear HK'))
  have HK0 := zH HK.out.drew
  refine wp_region_held_drew (S := (fun W => Hid (Kn w.heap.size w W [(w.heap.size, 55, obA (x.sv A4 n4 c4 m)), (w.heap.size + 1, 29, cmA c)] []) ∧ Hid (Kn w.heap.size w W [(g7, 27, vC 0 0 0 ⟨#[]⟩)] []))) (by kernel_rfl) ?_ (fun hHeld => ?_)
  ·(try dsimp only); exact And.intro (zH ((HK0.out.takeL 2).takeR 0)) (zH ((HK0.out.dropL 4).takeR 0))
  refine stk 0 111 rfl ?_ (fun w hSw => kob hSw.1 0 _ (by rfl) (by rfl) (by rfl))
  refine stk 1 112 rfl ?_
  refine stk 2 113 rfl ?_ (fun w hSw => kexec_vv hSw.2 0 _ (by rfl) (by rfl) (by rfl))
  refine stk 3 114 rfl ?_ (fun w hSw => exec_brp (z := z) (v := Sto.vn) _ _ (by rfl) (by rfl) (by rfl))
  refine srd1 4 none rfl (fun K hK => ?_)
  refine step_sob (y := x.sv A4 n4 c4 m) HK0 2 (by rfl) _ _ (by rfl) (by rfl) (by rfl) (by rfl) ?_; intro wq HK'; simp only [List.set] at HK'; replace HK0 := HK'; clear HK'; have hs := And.intro (zH ((HK0.out.takeL 2).takeR 0)) (zH ((HK0.out.dropL 4).takeR 0))
  refine hK.out _ _ hs (fun hHeld => ?_)
  clear hK K
  try simp only [ap1, ap2, ap3, ap4, ap5]
  refine srd1 5 none rfl (fun K hK => ?_)
  refine step_srp (q := Sto.err z) HK0 3 (by rfl) _ _ (by rfl) (by rfl) (by rfl) (by rfl) ?_; intro wq HK'; simp only [List.set] at HK'; replace HK0 := HK'; clear HK'; have hs := And.intro (zH ((HK0.out.takeL 2).takeR 0)) (zH ((HK0.out.dropL 4).takeR 0))
  refine hK.out _ _ hs (fun hHeld => ?_)
  clear hK K
  try simp only [ap1, ap2, ap3, ap4, ap5]
  refine wpAnyH_done (by kernel_rfl) ?_ _
  go_wp2_with fail
  exact ret_pl Tryz.results29 rfl rfl rfl (HK0.out.blk 2 rfl) (HK0.out.blk 3 rfl) ⟨x.sv A4 n4 c4 m, _, rfl, rfl, HK0.out.takeL 0, fun _ _ _ _ _ K hm hb => (HI.out _ hb).sv (Sls.own (K.mem (hm _ (List.mem_cons_self ..))) HF.out)⟩
 ·subst hm
  replace HK := hkC HK b4
  clear b4
  go_wp2_with (first | (refine wpList_sov HK 0 rfl _ _ rfl rfl rfl rfl x.v.vals ?_; intro _ HK'; simp only [List.set] at HK'; replace HK := HK'; clear HK'))
  have HK0 := zH HK.out.drew
  refine wp_region_held_drew (S := (fun W => Hid (Kn w.heap.size w W [(w.heap.size, 55, obA (x.sv x.vA x.vn x.vc x.v.vals)), (w.heap.size + 1, 29, cmA c)] []) ∧ Hid (Kn w.heap.size w W [(g7, 27, vC 0 0 0 ⟨#[]⟩)] []))) (by kernel_rfl) ?_ (fun hHeld => ?_)
  ·(try dsimp only); exact And.intro (zH ((HK0.out.takeL 2).takeR 0)) (zH ((HK0.out.dropL 4).takeR 0))
  refine stk 0 111 rfl ?_ (fun w hSw => kob hSw.1 0 _ (by rfl) (by rfl) (by rfl))
  refine stk 1 112 rfl ?_
  refine stk 2 113 rfl ?_ (fun w hSw => kexec_vv hSw.2 0 _ (by rfl) (by rfl) (by rfl))
  refine stk 3 114 rfl ?_ (fun w hSw => exec_brp (z := z) (v := Sto.vn) _ _ (by rfl) (by rfl) (by rfl))
  refine srd1 4 none rfl (fun K hK => ?_)
  refine step_sob (y := x.sv x.vA x.vn x.vc x.v.vals) HK0 2 (by rfl) _ _ (by rfl) (by rfl) (by rfl) (by rfl) ?_; intro wq HK'; simp only [List.set] at HK'; replace HK0 := HK'; clear HK'; have hs := And.intro (zH ((HK0.out.takeL 2).takeR 0)) (zH ((HK0.out.dropL 4).takeR 0))
  refine hK.out _ _ hs (fun hHeld => ?_)
  clear hK K
  try simp only [ap1, ap2, ap3, ap4, ap5]
  refine srd1 5 none rfl (fun K hK => ?_)
  refine step_srp (q := Sto.err z) HK0 3 (by rfl) _ _ (by rfl) (by rfl) (by rfl) (by rfl) ?_; intro wq HK'; simp only [List.set] at HK'; replace HK0 := HK'; clear HK'; have hs := And.intro (zH ((HK0.out.takeL 2).takeR 0)) (zH ((HK0.out.dropL 4).takeR 0))
  refine hK.out _ _ hs (fun hHeld => ?_)
  clear hK K
  try simp only [ap1, ap2, ap3, ap4, ap5]
  refine wpAnyH_done (by kernel_rfl) ?_ _
  go_wp2_with fail
  exact ret_pl Tryz.results29 rfl rfl rfl (HK0.out.blk 2 rfl) (HK0.out.blk 3 rfl) ⟨x.sv x.vA x.vn x.vc x.v.vals, _, rfl, rfl, HK0.out.takeL 0, fun _ _ _ _ _ K hm hb => (HI.out _ hb).sv (HI.out _ hb).v⟩
set_option maxRecDepth 100000 in
set_option maxHeartbeats 25600000 in
theorem rplain_11 (G : World → Prop) (x : Oh) (r : Rf) (c : Cmd.C) (w : World) (hG : ∀ W, G W → In W x) (hx : In w x) (hv : c.val.f < 18446744073709551616) (hk : c.k = 11) : Calls Tryz.prog 29 #[.agg (obA x), .agg (cmA c)] w (IsRP G (Sto.act x.v r c) w) := by
 have he : Sto.act x.v r c = ⟨{ x.v with vals := Que.ppL x.v.cap x.v.vals }, ⟨Que.ppE x.v.cap x.v.vals, Que.ppV x.v.cap x.v.vals⟩, false, []⟩ := by
  unfold Sto.act
  simp [hk]
 rw [he]
 clear he
 have HI := zH hG
 have HT := zH (fun W (hW : Below w.heap.size w W) => rpop_any x.v.cap x.vA x.vc x.vn x.v.vals W (hx.v.later hW))
 have HF := zH (fits_pp (N := x.v.cap) hx.v.fit)
 have HK := kn4 w 55 (obA x) 29 (cmA c) 55 (obA ohZ) 33 (rpA Sto.rz)
 clear hx hv hG
 unfold IsRP
 unfold IsQVr vv at HT
 simp only
 generalize Que.ppL x.v.cap x.v.vals = m at *
 generalize Que.ppV x.v.cap x.v.vals = v at *
 generalize Que.ppE x.v.cap x.v.vals = z at *
 go_enter Tryz.func29, Tryz.ntmps29
 go_wp2_with (first | (refine wpList_akv HK rfl rfl ?_; intro _ g7 HK'; simp only [lcA, lnA] at HK'; replace HK := HK'; clear HK') | refine zX (kcm_k HK 1 _ (by rfl) (by rfl) (by rfl)) ?_ | refine zX (kob_c HK 0 _ (by rfl) (by rfl) (by rfl)) ?_ | refine zX (kob_v HK 0 _ (by rfl) (by rfl) (by rfl)) ?_)
 refine (HT.out _ HK.out.b).mono ?_; rintro e w1 ⟨A4, n4, c4, rfl, o4, b4⟩
 rcases o4 with o4 | ⟨rfl, rfl, rfl, hm⟩
 ·replace HK := zH (HK.out.called b4 o4)
  simp only [lnA] at HK
  clear o4 b4
  go_wp2_with (first | (refine wpList_sov HK 0 rfl _ _ rfl rfl rfl rfl m ?_; intro _ HK'; simp only [List.set] at HK'; replace HK := HK'; clear HK') | (refine wpList_sv (f2 := v.f) HK 4 rfl _ _ rfl rfl rfl rfl ?_; intro _ HK'; simp only [List.set] at HK'; replace HK := HK'; clear HK'))
  have HK0 := zH HK.out.drew
  refine wp_region_held_drew (S := (fun W => Hid (Kn w.heap.size w W [(w.heap.size, 55, obA (x.sv A4 n4 c4 m)), (w.heap.size + 1, 29, cmA c)] []) ∧ Hid (Kn w.heap.size w W [(g7, 27, vC v.k v.n v.f v.s)] []))) (by kernel_rfl) ?_ (fun hHeld => ?_)
  ·(try dsimp only); exact And.intro (zH ((HK0.out.takeL 2).takeR 0)) (zH ((HK0.out.dropL 4).takeR 0))
  refine stk 0 111 rfl ?_ (fun w hSw => kob hSw.1 0 _ (by rfl) (by rfl) (by rfl))
  refine stk 1 112 rfl ?_
  refine stk 2 113 rfl ?_ (fun w hSw => kexec_vv hSw.2 0 _ (by rfl) (by rfl) (by rfl))
  refine stk 3 114 rfl ?_ (fun w hSw => exec_brp (z := z) (v := v) _ _ (by rfl) (by rfl) (by rfl))
  refine srd1 4 none rfl (fun K hK => ?_)
  refine step_sob (y := x.sv A4 n4 c4 m) HK0 2 (by rfl) _ _ (by rfl) (by rfl) (by rfl) (by rfl) ?_; intro wq HK'; simp only [List.set] at HK'; replace HK0 := HK'; clear HK'; have hs := And.intro (zH ((HK0.out.takeL 2).takeR 0)) (zH ((HK0.out.dropL 4).takeR 0))
  refine hK.out _ _ hs (fun hHeld => ?_)
  clear hK K
  try simp only [ap1, ap2, ap3, ap4, ap5]
  refine srd1 5 none rfl (fun K hK => ?_)
  refine step_srp (q := ⟨z, v⟩) HK0 3 (by rfl) _ _ (by rfl) (by rfl) (by rfl) (by rfl) ?_; intro wq HK'; simp only [List.set] at HK'; replace HK0 := HK'; clear HK'; have hs := And.intro (zH ((HK0.out.takeL 2).takeR 0)) (zH ((HK0.out.dropL 4).takeR 0))
  refine hK.out _ _ hs (fun hHeld => ?_)
  clear hK K
  try simp only [ap1, ap2, ap3, ap4, ap5]
  refine wpAnyH_done (by kernel_rfl) ?_ _
  go_wp2_with fail
  exact ret_pl Tryz.results29 rfl rfl rfl (HK0.out.blk 2 rfl) (HK0.out.blk 3 rfl) ⟨x.sv A4 n4 c4 m, _, rfl, rfl, HK0.out.takeL 0, fun _ _ _ _ _ K hm hb => (HI.out _ hb).sv (Sls.own (K.mem (hm _ (List.mem_cons_self ..))) HF.out)⟩
 ·subst hm
  replace HK := hkC HK b4
  clear b4
  go_wp2_with (first | (refine wpList_sov HK 0 rfl _ _ rfl rfl rfl rfl x.v.vals ?_; intro _ HK'; simp only [List.set] at HK'; replace HK := HK'; clear HK') | (refine wpList_sv (f2 := v.f) HK 4 rfl _ _ rfl rfl rfl rfl ?_; intro _ HK'; simp only [List.set] at HK'; replace HK := HK'; clear HK'))
  have HK0 := zH HK.out.drew
  refine wp_region_held_drew (S := (fun W => Hid (Kn w.heap.size w W [(w.heap.size, 55, obA (x.sv x.vA x.vn x.vc x.v.vals)), (w.heap.size + 1, 29, cmA c)] []) ∧ Hid (Kn w.heap.size w W [(g7, 27, vC v.k v.n v.f v.s)] []))) (by kernel_rfl) ?_ (fun hHeld => ?_)
  ·(try dsimp only); exact And.intro (zH ((HK0.out.takeL 2).takeR 0)) (zH ((HK0.out.dropL 4).takeR 0))
  refine stk 0 111 rfl ?_ (fun w hSw => kob hSw.1 0 _ (by rfl) (by rfl) (by rfl))
  refine stk 1 112 rfl ?_
  refine stk 2 113 rfl ?_ (fun w hSw => kexec_vv hSw.2 0 _ (by rfl) (by rfl) (by rfl))
  refine stk 3 114 rfl ?_ (fun w hSw => exec_brp (z := z) (v := v) _ _ (by rfl) (by rfl) (by rfl))
  refine srd1 4 none rfl (fun K hK => ?_)
  refine step_sob (y := x.sv x.vA x.vn x.vc x.v.vals) HK0 2 (by rfl) _ _ (by rfl) (by rfl) (by rfl) (by rfl) ?_; intro wq HK'; simp only [List.set] at HK'; replace HK0 := HK'; clear HK'; have hs := And.intro (zH ((HK0.out.takeL 2).takeR 0)) (zH ((HK0.out.dropL 4).takeR 0))
  refine hK.out _ _ hs (fun hHeld => ?_)
  clear hK K
  try simp only [ap1, ap2, ap3, ap4, ap5]
  refine srd1 5 none rfl (fun K hK => ?_)
  refine step_srp (q := ⟨z, v⟩) HK0 3 (by rfl) _ _ (by rfl) (by rfl) (by rfl) (by rfl) ?_; intro wq HK'; simp only [List.set] at HK'; replace HK0 := HK'; clear HK'; have hs := And.intro (zH ((HK0.out.takeL 2).takeR 0)) (zH ((HK0.out.dropL 4).takeR 0))
  refine hK.out _ _ hs (fun hHeld => ?_)
  clear hK K
  try simp only [ap1, ap2, ap3, ap4, ap5]
  refine wpAnyH_done (by kernel_rfl) ?_ _
  go_wp2_with fail
  exact ret_pl Tryz.results29 rfl rfl rfl (HK0.out.blk 2 rfl) (HK0.out.blk 3 rfl) ⟨x.sv x.vA x.vn x.vc x.v.vals, _, rfl, rfl, HK0.out.takeL 0, fun _ _ _ _ _ K hm hb => (HI.out _ hb).sv (HI.out _ hb).v⟩
set_option maxRecDepth 100000 in
set_option maxHeartbeats 25600000 in
theorem rplain_15 (G : World → Prop) (x : Oh) (r : Rf) (c : Cmd.C) (w : World) (hG : ∀ W, G W → In W x) (hx : In w x) (hv : c.val.f < 18446744073709551616) (hk : c.k = 15) : Calls Tryz.prog 29 #[.agg (obA x), .agg (cmA c)] w (IsRP G (Sto.act x.v r c) w) := by
 have he : Sto.act x.v r c = ⟨{ x.v with mt := Mt.ad x.v.mt c.val.f }, Sto.err (Mt.adE x.v.mt), false, []⟩ := by
  unfold Sto.act
  simp [hk]
 rw [he]
 clear he
 have HI := zH hG
 have HT := zH (fun W (hW : Below w.heap.size w W) => radd14_any x.v.mt hx.m c.val.f hv W)
 have HF := zH (Mt.fit_ad hx.m hv)
 have HK := kn4 w 55 (obA x) 29 (cmA c) 55 (obA ohZ) 33 (rpA Sto.rz)
 clear hx hv hG
 unfold IsRP
 unfold IsMe at HT
 simp only
 generalize Mt.ad x.v.mt c.val.f = m at *
 generalize Mt.adE x.v.mt = z at *
 go_enter Tryz.func29, Tryz.ntmps29
 go_wp2_with (first | (refine wpList_akv HK rfl rfl ?_; intro _ g7 HK'; simp only [lcA, lnA] at HK'; replace HK := HK'; clear HK') | refine zX (kcm_k HK 1 _ (by rfl) (by rfl) (by rfl)) ?_ | refine zX (kob_m HK 0 _ (by rfl) (by rfl) (by rfl)) ?_ | refine zX (kcm_f HK 1 _ (by rfl) (by rfl) (by rfl)) ?_)
 refine (HT.out _ HK.out.b).mono ?_; rintro e w1 ⟨rfl, b1⟩
 replace HK := hkC HK b1; clear b1
 go_wp2_with (first | (refine wpList_som (m := m) HK 0 rfl _ _ rfl rfl rfl rfl ?_; intro _ HK'; simp only [List.set] at HK'; replace HK := HK'; clear HK'))
 have HK0 := zH HK.out.drew
 refine wp_region_held_drew (S := (fun W => Hid (Kn w.heap.size w W [(w.heap.size, 55, obA (x.sm m)), (w.heap.size + 1, 29, cmA c)] []) ∧ Hid (Kn w.heap.size w W [(g7, 27, vC 0 0 0 ⟨#[]⟩)] []))) (by kernel_rfl) ?_ (fun hHeld => ?_)
 ·(try dsimp only); exact And.intro (zH ((HK0.out.takeL 2).takeR 0)) (zH ((HK0.out.dropL 4).takeR 0))
 refine stk 0 111 rfl ?_ (fun w hSw => kob hSw.1 0 _ (by rfl) (by rfl) (by rfl))
 refine stk 1 112 rfl ?_
 refine stk 2 113 rfl ?_ (fun w hSw => kexec_vv hSw.2 0 _ (by rfl) (by rfl) (by rfl))
 refine stk 3 114 rfl ?_ (fun w hSw => exec_brp (z := z) (v := Sto.vn) _ _ (by rfl) (by rfl) (by rfl))
 refine srd1 4 none rfl (fun K hK => ?_)
 refine step_sob (y := x.sm m) HK0 2 (by rfl) _ _ (by rfl) (by rfl) (by rfl) (by rfl) ?_; intro wq HK'; simp only [List.set] at HK'; replace HK0 := HK'; clear HK'; have hs := And.intro (zH ((HK0.out.takeL 2).takeR 0)) (zH ((HK0.out.dropL 4).takeR 0))
 refine hK.out _ _ hs (fun hHeld => ?_)
 clear hK K
 try simp only [ap1, ap2, ap3, ap4, ap5]
 refine srd1 5 none rfl (fun K hK => ?_)
 refine step_srp (q := Sto.err z) HK0 3 (by rfl) _ _ (by rfl) (by rfl) (by rfl) (by rfl) ?_; intro wq HK'; simp only [List.set] at HK'; replace HK0 := HK'; clear HK'; have hs := And.intro (zH ((HK0.out.takeL 2).takeR 0)) (zH ((HK0.out.dropL 4).takeR 0))
 refine hK.out _ _ hs (fun hHeld => ?_)
 clear hK K
 try simp only [ap1, ap2, ap3, ap4, ap5]
 refine wpAnyH_done (by kernel_rfl) ?_ _
 go_wp2_with fail
 exact ret_pl Tryz.results29 rfl rfl rfl (HK0.out.blk 2 rfl) (HK0.out.blk 3 rfl) ⟨x.sm m, _, rfl, rfl, HK0.out.takeL 0, fun _ _ _ _ _ K hm hb => (HI.out _ hb).sm HF.out⟩
set_option maxRecDepth 100000 in
set_option maxHeartbeats 25600000 in
theorem rplain_16 (G : World → Prop) (x : Oh) (r : Rf) (c : Cmd.C) (w : World) (hG : ∀ W, G W → In W x) (hx : In w x) (hv : c.val.f < 18446744073709551616) (hk : c.k = 16) : Calls Tryz.prog 29 #[.agg (obA x), .agg (cmA c)] w (IsRP G (Sto.act x.v r c) w) := by
 have he : Sto.act x.v r c = ⟨x.v, ⟨(Mt.rd x.v.mt c.n).e, ⟨(Mt.rd x.v.mt c.n).k, (Mt.rd x.v.mt c.n).n, (Mt.rd x.v.mt c.n).f, ⟨#[]⟩⟩⟩, false, []⟩ := by
  unfold Sto.act
  simp [hk]
 rw [he]
 clear he
 have HI := zH hG
 have HT := zH (fun W (hW : Below w.heap.size w W) => rread_any x.v.mt hx.m c.n W)
 have HK := kn4 w 55 (obA x) 29 (cmA c) 55 (obA ohZ) 33 (rpA Sto.rz)
 clear hx hv hG
 unfold IsRP
 unfold IsVe at HT
 simp only
 generalize Mt.rd x.v.mt c.n = d at *
 go_enter Tryz.func29, Tryz.ntmps29
 go_wp2_with (first | (refine wpList_akv HK rfl rfl ?_; intro _ g7 HK'; simp only [lcA, lnA] at HK'; replace HK := HK'; clear HK') | refine zX (kcm_k HK 1 _ (by rfl) (by rfl) (by rfl)) ?_ | refine zX (kob_m HK 0 _ (by rfl) (by rfl) (by rfl)) ?_ | refine zX (kcm_N HK 1 _ (by rfl) (by rfl) (by rfl)) ?_)
 refine (HT.out _ HK.out.b).mono ?_; rintro e w1 ⟨rfl, b1⟩
 replace HK := hkC HK b1; clear b1
 go_wp2_with (first | (refine wpList_sv (f2 := d.f) HK 4 rfl _ _ rfl rfl rfl rfl ?_; intro _ HK'; simp only [List.set] at HK'; replace HK := HK'; clear HK'))
 have HK0 := zH HK.out.drew
 refine wp_region_held_drew (S := (fun W => Hid (Kn w.heap.size w W [(w.heap.size, 55, obA (x)), (w.heap.size + 1, 29, cmA c)] []) ∧ Hid (Kn w.heap.size w W [(g7, 27, vC d.k d.n d.f ⟨#[]⟩)] []))) (by kernel_rfl) ?_ (fun hHeld => ?_)
 ·(try dsimp only); exact And.intro (zH ((HK0.out.takeL 2).takeR 0)) (zH ((HK0.out.dropL 4).takeR 0))
 refine stk 0 111 rfl ?_ (fun w hSw => kob hSw.1 0 _ (by rfl) (by rfl) (by rfl))
 refine stk 1 112 rfl ?_
 refine stk 2 113 rfl ?_ (fun w hSw => kexec_vv hSw.2 0 _ (by rfl) (by rfl) (by rfl))
 refine stk 3 114 rfl ?_ (fun w hSw => exec_brp (z := d.e) (v := ⟨d.k, d.n, d.f, ⟨#[]⟩⟩) _ _ (by rfl) (by rfl) (by rfl))
 refine srd1 4 none rfl (fun K hK => ?_)
 refine step_sob (y := x) HK0 2 (by rfl) _ _ (by rfl) (by rfl) (by rfl) (by rfl) ?_; intro wq HK'; simp only [List.set] at HK'; replace HK0 := HK'; clear HK'; have hs := And.intro (zH ((HK0.out.takeL 2).takeR 0)) (zH ((HK0.out.dropL 4).takeR 0))
 refine hK.out _ _ hs (fun hHeld => ?_)
 clear hK K
 try simp only [ap1, ap2, ap3, ap4, ap5]
 refine srd1 5 none rfl (fun K hK => ?_)
 refine step_srp (q := ⟨d.e, ⟨d.k, d.n, d.f, ⟨#[]⟩⟩⟩) HK0 3 (by rfl) _ _ (by rfl) (by rfl) (by rfl) (by rfl) ?_; intro wq HK'; simp only [List.set] at HK'; replace HK0 := HK'; clear HK'; have hs := And.intro (zH ((HK0.out.takeL 2).takeR 0)) (zH ((HK0.out.dropL 4).takeR 0))
 refine hK.out _ _ hs (fun hHeld => ?_)
 clear hK K
 try simp only [ap1, ap2, ap3, ap4, ap5]
 refine wpAnyH_done (by kernel_rfl) ?_ _
 go_wp2_with fail
 exact ret_pl Tryz.results29 rfl rfl rfl (HK0.out.blk 2 rfl) (HK0.out.blk 3 rfl) ⟨x, _, rfl, rfl, HK0.out.takeL 0, fun _ _ _ _ _ K hm hb => HI.out _ hb⟩
set_option maxRecDepth 100000 in
set_option maxHeartbeats 25600000 in
theorem rplain_17 (G : World → Prop) (x : Oh) (r : Rf) (c : Cmd.C) (w : World) (hG : ∀ W, G W → In W x) (hx : In w x) (hv : c.val.f < 18446744073709551616) (hk : c.k = 17) : Calls Tryz.prog 29 #[.agg (obA x), .agg (cmA c)] w (IsRP G (Sto.act x.v r c) w) := by
 have he : Sto.act x.v r c = ⟨x.v, ⟨0, Sto.num (Sto.size x.v)⟩, false, []⟩ := by
  unfold Sto.act
  simp [hk]
 rw [he]
 clear he
 have HI := zH hG
 have HT := zH (fun W (hW : Below w.heap.size w W) => rsize_any x W (hx.later hW))
 have HK := kn4 w 55 (obA x) 29 (cmA c) 55 (obA ohZ) 33 (rpA Sto.rz)
 clear hx hv hG
 unfold IsRP
 simp only
 generalize Sto.size x.v = z at *
 go_enter Tryz.func29, Tryz.ntmps29
 go_wp2_with (first | (refine wpList_akv HK rfl rfl ?_; intro _ g7 HK'; simp only [lcA, lnA] at HK'; replace HK := HK'; clear HK') | refine zX (kcm_k HK 1 _ (by rfl) (by rfl) (by rfl)) ?_ | refine zX (kob HK 0 _ (by rfl) (by rfl) (by rfl)) ?_)
 refine (HT.out _ HK.out.b).mono ?_; rintro e w1 ⟨rfl, b1⟩
 replace HK := hkC HK b1; clear b1
 go_wp2_with (first | (refine wpList_sv (f2 := 0) HK 4 rfl _ _ rfl rfl rfl rfl ?_; intro _ HK'; simp only [List.set] at HK'; replace HK := HK'; clear HK'))
 have HK0 := zH HK.out.drew
 refine wp_region_held_drew (S := (fun W => Hid (Kn w.heap.size w W [(w.heap.size, 55, obA (x)), (w.heap.size + 1, 29, cmA c)] []) ∧ Hid (Kn w.heap.size w W [(g7, 27, vC 1 z 0 ⟨#[]⟩)] []))) (by kernel_rfl) ?_ (fun hHeld => ?_)
 ·(try dsimp only); exact And.intro (zH ((HK0.out.takeL 2).takeR 0)) (zH ((HK0.out.dropL 4).takeR 0))
 refine stk 0 111 rfl ?_ (fun w hSw => kob hSw.1 0 _ (by rfl) (by rfl) (by rfl))
 refine stk 1 112 rfl ?_
 refine stk 2 113 rfl ?_ (fun w hSw => kexec_vv hSw.2 0 _ (by rfl) (by rfl) (by rfl))
 refine stk 3 114 rfl ?_ (fun w hSw => exec_brp (z := 0) (v := Sto.num z) _ _ (by rfl) (by rfl) (by rfl))
 refine srd1 4 none rfl (fun K hK => ?_)
 refine step_sob (y := x) HK0 2 (by rfl) _ _ (by rfl) (by rfl) (by rfl) (by rfl) ?_; intro wq HK'; simp only [List.set] at HK'; replace HK0 := HK'; clear HK'; have hs := And.intro (zH ((HK0.out.takeL 2).takeR 0)) (zH ((HK0.out.dropL 4).takeR 0))
 refine hK.out _ _ hs (fun hHeld => ?_)
 clear hK K
 try simp only [ap1, ap2, ap3, ap4, ap5]
 refine srd1 5 none rfl (fun K hK => ?_)
 refine step_srp (q := ⟨0, Sto.num z⟩) HK0 3 (by rfl) _ _ (by rfl) (by rfl) (by rfl) (by rfl) ?_; intro wq HK'; simp only [List.set] at HK'; replace HK0 := HK'; clear HK'; have hs := And.intro (zH ((HK0.out.takeL 2).takeR 0)) (zH ((HK0.out.dropL 4).takeR 0))
 refine hK.out _ _ hs (fun hHeld => ?_)
 clear hK K
 try simp only [ap1, ap2, ap3, ap4, ap5]
 refine wpAnyH_done (by kernel_rfl) ?_ _
 go_wp2_with fail
 exact ret_pl Tryz.results29 rfl rfl rfl (HK0.out.blk 2 rfl) (HK0.out.blk 3 rfl) ⟨x, _, rfl, rfl, HK0.out.takeL 0, fun _ _ _ _ _ K hm hb => HI.out _ hb⟩
end Go.Proofs.YtpkodjllljnleaaGreat
