/- What the document's hold returns: a request for a lock, or one that gives it up. No condition but those named. -/
import Derived.Test.YtpkodjllljnleaaGreatTk
import Derived.Test.YtpkodjllljnleaaGreatStoRPlain
import Derived.Test.YtpkodjllljnleaaGreatMW
set_option linter.unusedSimpArgs false
set_option linter.unusedVariables false
namespace Go.Proofs.YtpkodjllljnleaaGreat
open Go.RowKit
def IsRH (G : World → Prop) (oc : Sto.Oc) (w : World) (e : Ending) (w' : World) : Prop := ∃ (y : Oh) (O : Option Addr) (k d : Nat) (Rn : List RowE), e = .returned (.tuple #[.agg (obA y), .agg (rpA oc.p), .bool oc.later, .slice O k d]) ∧ Hid (y.v = oc.o) ∧ Kn w.heap.size w w' [] Rn ∧ Hid (∀ (b : Nat) (W0 W : World) L R, Kn b W0 W L R → (∀ z ∈ Rn, z ∈ R) → G W → In W y ∧ Sls otLay tF W O k d oc.outs)
theorem ret_th {fn : Func} {R : Ending → World → Prop} {a : Act} {w : World} {B D : Nat} {x : Oh} {p : Sto.Rp} {u z : Value} {q q2 q3 q4 : Tmp} (hf : fn.results = #[.cell q 55, .cell q2 33, .tmp q3, .tmp q4]) (h2 : a.tmps[q]? = some (.pointer (some ⟨B, 0, none⟩))) (h3 : a.tmps[q2]? = some (.pointer (some ⟨D, 0, none⟩))) (h4 : a.tmps[q3]? = some u) (h5 : a.tmps[q4]? = some z) (hd : a.defers = []) (hb : Blk w B 55 (obA x)) (hc : Blk w D 33 (rpA p))
  (hR : R (.returned (.tuple #[.agg (obA x), .agg (rpA p), u, z])) w) : bodyPost Tryz.prog fn R Exit.ret a w := by
 refine bodyPost_ret (v := .tuple #[.agg (obA x), .agg (rpA p), u, z]) ?_ hd hR
 have h : (loadVar 55 ⟨B, 0, none⟩).run Tryz.prog w = .ok (.agg (obA x)) w := run_loadVar_row (P := Tryz.prog) w B _ _ _ (0, 0) _ hb Tryz.underlying55 rfl info_ob
 have h' : (loadVar 33 ⟨D, 0, none⟩).run Tryz.prog w = .ok (.agg (rpA p)) w := run_loadVar_row (P := Tryz.prog) w D _ _ _ (0, 0) _ hc Tryz.underlying33 rfl info_rp
 simp [results, hf, asAddr, Sem.run_bind, h2, h3, h4, h5, h, h']
theorem exec_ez {w : World} {o : Oper} {a : Act} {x : Int} {b : Bool} (p : Operand) (ho : o.op = .binOp .eql 31 p (.const (.int .i64 0)) 31) (hp : a.eval p = .int .i64 x) (hb : decide (x = 0) = b) :
  (execOp a.eval o).run Tryz.prog w = .ok (.value (.bool b)) w := by
 have he : a.eval (.const (.int .i64 0)) = .int .i64 0 := rfl
 subst hb
 unfold execOp
 simp only [ho, hp, he]
 go_simp
 try rfl
theorem kn5 (w : World) (t1 : TypeId) (c1 : Array Value) (t2 : TypeId) (c2 : Array Value) (t3 : TypeId) (c3 : Array Value) (t4 : TypeId) (c4 : Array Value) (t5 : TypeId) (c5 : Array Value) :
  Hid (Kn w.heap.size w (((((w.alloc (.cells c1 t1)).alloc (.cells c2 t2)).alloc (.cells c3 t3)).alloc (.cells c4 t4)).alloc (.cells c5 t5)) [(w.heap.size, t1, c1), (w.heap.size + 1, t2, c2), (w.heap.size + 1 + 1, t3, c3), (w.heap.size + 1 + 1 + 1, t4, c4), (w.heap.size + 1 + 1 + 1 + 1, t5, c5)] []) := by
 have h := (kn4 w t1 c1 t2 c2 t3 c3 t4 c4).out.alloc t5 c5
 simp only [lcA, lnA, World.size_alloc] at h
 exact zH h
set_option maxRecDepth 100000 in
set_option maxHeartbeats 25600000 in
theorem rhold_12 (G : World → Prop) (x : Oh) (r : Rf) (c : Cmd.C) (w : World) (hG : ∀ W, G W → In W x) (hx : In w x) (hk : c.k = 12) : Calls Tryz.prog 28 #[.agg (obA x), .agg #[.int .i64 r.c, .int .i64 r.e, .int .i64 r.r], .agg (cmA c)] w (IsRH G (Sto.take x.v r) w) := by
 have HI := zH hG
 have HT := zH (fun W (hW : Below w.heap.size w W) => rltake_any x.rA x.rc x.rn x.v.refs r W (hx.r.later hW))
 have HFl := zH rfail_any
 have HF := zH (fits_tk (r := r) hx.r.fit)
 have HK := kn5 w 55 (obA x) 24 #[.int .i64 r.c, .int .i64 r.e, .int .i64 r.r] 29 (cmA c) 55 (obA ohZ) 33 (rpA Sto.rz)
 clear hx hG
 unfold IsRH Sto.take Sto.err
 unfold IsTkr at HT
 simp only
 generalize Lck.tkL x.v.refs r = m at *
 generalize Lck.tkE x.v.refs r = z at *
 generalize Lck.tkH x.v.refs r = h at *
 go_enter Tryz.func28, Tryz.ntmps28
 go_wp2_with (first | refine zX (kcm_k HK 2 _ (by rfl) (by rfl) (by rfl)) ?_ | refine zX (kob_r HK 0 _ (by rfl) (by rfl) (by rfl)) ?_ | refine zX (kexec_lr HK 1 _ (by rfl) (by rfl) (by rfl)) ?_)
 refine (HT.out _ HK.out.b).mono ?_; rintro e w1 ⟨A4, n4, c4, rfl, o4, b4⟩
 rcases o4 with o4 | ⟨rfl, rfl, rfl, hm⟩
 ·replace HK := zH (HK.out.called b4 o4)
  simp only [lnA] at HK
  clear o4 b4
  by_cases hz0 : z = 0
  ·have hz : decide (z = 0) = true := decide_eq_true hz0
   clear hz0
   go_wp2_with (first | (refine wpList_sor HK 0 rfl _ _ rfl rfl rfl rfl m ?_; intro _ HK'; simp only [List.set] at HK'; replace HK := HK'; clear HK'))
   have HK0 := zH HK.out.drew
   refine wp_region_held_drew (S := (fun W => Hid (Kn w.heap.size w W [(w.heap.size, 55, obA (x.sr A4 n4 c4 m)), (w.heap.size + 1, 24, #[.int .i64 r.c, .int .i64 r.e, .int .i64 r.r]), (w.heap.size + 1 + 1, 29, cmA c)] []))) (by kernel_rfl) ?_ (fun hHeld => ?_)
   ·(try dsimp only); exact zH ((HK0.out.takeL 3).takeR 0)
   refine stk 0 30 rfl ?_ (fun w hSw => kob hSw 0 _ (by rfl) (by rfl) (by rfl))
   refine stk 1 31 rfl ?_
   refine stk 3 33 rfl ?_
   refine stk 4 34 rfl ?_ (fun w hSw => exec_ez (x := z) _ (by rfl) (by rfl) hz)
   refine srd1 2 (some 32) rfl (fun K hK => ?_)
   go_simp
   go_at_call 21
   refine (HFl.out z _).mono ?_; rintro e w5 ⟨rfl, b5⟩; have hs := zH (hHeld.out.call b5); replace HK0 := zH (HK0.out.call b5); clear b5
   refine hK.out _ _ hs (fun hHeld => ?_)
   clear hK K
   try simp only [ap1, ap2, ap3, ap4, ap5]
   refine stk 5 35 rfl ?_
   refine stk 6 36 rfl ?_
   refine stk 7 37 rfl ?_
   refine stk 8 38 rfl ?_
   refine srd1 9 none rfl (fun K hK => ?_)
   refine step_sob (y := x.sr A4 n4 c4 m) HK0 3 (by rfl) _ _ (by rfl) (by rfl) (by rfl) (by rfl) ?_; intro wq HK'; simp only [List.set] at HK'; replace HK0 := HK'; clear HK'; have hs := zH ((HK0.out.takeL 3).takeR 0)
   refine hK.out _ _ hs (fun hHeld => ?_)
   clear hK K
   try simp only [ap1, ap2, ap3, ap4, ap5]
   refine srd1 10 none rfl (fun K hK => ?_)
   refine step_srp (q := ⟨z, Sto.vn⟩) HK0 4 (by rfl) _ _ (by rfl) (by rfl) (by rfl) (by rfl) ?_; intro wq HK'; simp only [List.set] at HK'; replace HK0 := HK'; clear HK'; have hs := zH ((HK0.out.takeL 3).takeR 0)
   refine hK.out _ _ hs (fun hHeld => ?_)
   clear hK K
   try simp only [ap1, ap2, ap3, ap4, ap5]
   refine stk 11 8 rfl ?_
   refine stk 12 9 rfl ?_
   refine wpAnyH_done (by kernel_rfl) ?_ _
   go_wp2_with fail
   exact ret_th Tryz.results28 rfl rfl rfl rfl rfl (HK0.out.blk 3 rfl) (HK0.out.blk 4 rfl) ⟨x.sr A4 n4 c4 m, _, _, _, _, by rw [hz] <;> rfl, rfl, HK0.out.takeL 0, fun _ _ _ _ _ K hm hb => ⟨(HI.out _ hb).sr (Sls.own (K.mem (hm _ (List.mem_cons_self ..))) HF.out), Sls.none _⟩⟩
  ·have hz : decide (z = 0) = false := decide_eq_false hz0
   clear hz0
   go_wp2_with (first | (refine wpList_sor HK 0 rfl _ _ rfl rfl rfl rfl m ?_; intro _ HK'; simp only [List.set] at HK'; replace HK := HK'; clear HK'))
   have HK0 := zH HK.out.drew
   refine wp_region_held_drew (S := (fun W => Hid (Kn w.heap.size w W [(w.heap.size, 55, obA (x.sr A4 n4 c4 m)), (w.heap.size + 1, 24, #[.int .i64 r.c, .int .i64 r.e, .int .i64 r.r]), (w.heap.size + 1 + 1, 29, cmA c)] []))) (by kernel_rfl) ?_ (fun hHeld => ?_)
   ·(try dsimp only); exact zH ((HK0.out.takeL 3).takeR 0)
   refine stk 0 30 rfl ?_ (fun w hSw => kob hSw 0 _ (by rfl) (by rfl) (by rfl))
   refine stk 1 31 rfl ?_
   refine stk 3 33 rfl ?_
   refine stk 4 34 rfl ?_ (fun w hSw => exec_ez (x := z) _ (by rfl) (by rfl) hz)
   refine srd1 2 (some 32) rfl (fun K hK => ?_)
   go_simp
   go_at_call 21
   refine (HFl.out z _).mono ?_; rintro e w5 ⟨rfl, b5⟩; have hs := zH (hHeld.out.call b5); replace HK0 := zH (HK0.out.call b5); clear b5
   refine hK.out _ _ hs (fun hHeld => ?_)
   clear hK K
   try simp only [ap1, ap2, ap3, ap4, ap5]
   refine stk 5 35 rfl ?_
   refine stu 6 36 rfl ?_
   refine stu 7 37 rfl ?_
   refine stk 8 38 rfl ?_
   refine srd1 9 none rfl (fun K hK => ?_)
   refine step_sob (y := x.sr A4 n4 c4 m) HK0 3 (by rfl) _ _ (by rfl) (by rfl) (by rfl) (by rfl) ?_; intro wq HK'; simp only [List.set] at HK'; replace HK0 := HK'; clear HK'; have hs := zH ((HK0.out.takeL 3).takeR 0)
   refine hK.out _ _ hs (fun hHeld => ?_)
   clear hK K
   try simp only [ap1, ap2, ap3, ap4, ap5]
   refine srd1 10 none rfl (fun K hK => ?_)
   refine step_srp (q := ⟨z, Sto.vn⟩) HK0 4 (by rfl) _ _ (by rfl) (by rfl) (by rfl) (by rfl) ?_; intro wq HK'; simp only [List.set] at HK'; replace HK0 := HK'; clear HK'; have hs := zH ((HK0.out.takeL 3).takeR 0)
   refine hK.out _ _ hs (fun hHeld => ?_)
   clear hK K
   try simp only [ap1, ap2, ap3, ap4, ap5]
   refine stk 11 8 rfl ?_
   refine stk 12 9 rfl ?_
   refine wpAnyH_done (by kernel_rfl) ?_ _
   go_wp2_with fail
   exact ret_th Tryz.results28 rfl rfl rfl rfl rfl (HK0.out.blk 3 rfl) (HK0.out.blk 4 rfl) ⟨x.sr A4 n4 c4 m, _, _, _, _, by rw [hz] <;> rfl, rfl, HK0.out.takeL 0, fun _ _ _ _ _ K hm hb => ⟨(HI.out _ hb).sr (Sls.own (K.mem (hm _ (List.mem_cons_self ..))) HF.out), Sls.none _⟩⟩
 ·subst hm
  replace HK := hkC HK b4
  clear b4
  by_cases hz0 : z = 0
  ·have hz : decide (z = 0) = true := decide_eq_true hz0
   clear hz0
   go_wp2_with (first | (refine wpList_sor HK 0 rfl _ _ rfl rfl rfl rfl x.v.refs ?_; intro _ HK'; simp only [List.set] at HK'; replace HK := HK'; clear HK'))
   have HK0 := zH HK.out.drew
   refine wp_region_held_drew (S := (fun W => Hid (Kn w.heap.size w W [(w.heap.size, 55, obA (x.sr x.rA x.rn x.rc x.v.refs)), (w.heap.size + 1, 24, #[.int .i64 r.c, .int .i64 r.e, .int .i64 r.r]), (w.heap.size + 1 + 1, 29, cmA c)] []))) (by kernel_rfl) ?_ (fun hHeld => ?_)
   ·(try dsimp only); exact zH ((HK0.out.takeL 3).takeR 0)
   refine stk 0 30 rfl ?_ (fun w hSw => kob hSw 0 _ (by rfl) (by rfl) (by rfl))
   refine stk 1 31 rfl ?_
   refine stk 3 33 rfl ?_
   refine stk 4 34 rfl ?_ (fun w hSw => exec_ez (x := z) _ (by rfl) (by rfl) hz)
   refine srd1 2 (some 32) rfl (fun K hK => ?_)
   go_simp
   go_at_call 21
   refine (HFl.out z _).mono ?_; rintro e w5 ⟨rfl, b5⟩; have hs := zH (hHeld.out.call b5); replace HK0 := zH (HK0.out.call b5); clear b5
   refine hK.out _ _ hs (fun hHeld => ?_)
   clear hK K
   try simp only [ap1, ap2, ap3, ap4, ap5]
   refine stk 5 35 rfl ?_
   refine stk 6 36 rfl ?_
   refine stk 7 37 rfl ?_
   refine stk 8 38 rfl ?_
   refine srd1 9 none rfl (fun K hK => ?_)
   refine step_sob (y := x.sr x.rA x.rn x.rc x.v.refs) HK0 3 (by rfl) _ _ (by rfl) (by rfl) (by rfl) (by rfl) ?_; intro wq HK'; simp only [List.set] at HK'; replace HK0 := HK'; clear HK'; have hs := zH ((HK0.out.takeL 3).takeR 0)
   refine hK.out _ _ hs (fun hHeld => ?_)
   clear hK K
   try simp only [ap1, ap2, ap3, ap4, ap5]
   refine srd1 10 none rfl (fun K hK => ?_)
   refine step_srp (q := ⟨z, Sto.vn⟩) HK0 4 (by rfl) _ _ (by rfl) (by rfl) (by rfl) (by rfl) ?_; intro wq HK'; simp only [List.set] at HK'; replace HK0 := HK'; clear HK'; have hs := zH ((HK0.out.takeL 3).takeR 0)
   refine hK.out _ _ hs (fun hHeld => ?_)
   clear hK K
   try simp only [ap1, ap2, ap3, ap4, ap5]
   refine stk 11 8 rfl ?_
   refine stk 12 9 rfl ?_
   refine wpAnyH_done (by kernel_rfl) ?_ _
   go_wp2_with fail
   exact ret_th Tryz.results28 rfl rfl rfl rfl rfl (HK0.out.blk 3 rfl) (HK0.out.blk 4 rfl) ⟨x.sr x.rA x.rn x.rc x.v.refs, _, _, _, _, by rw [hz] <;> rfl, rfl, HK0.out.takeL 0, fun _ _ _ _ _ K hm hb => ⟨(HI.out _ hb).sr (HI.out _ hb).r, Sls.none _⟩⟩
  ·have hz : decide (z = 0) = false := decide_eq_false hz0
   clear hz0
   go_wp2_with (first | (refine wpList_sor HK 0 rfl _ _ rfl rfl rfl rfl x.v.refs ?_; intro _ HK'; simp only [List.set] at HK'; replace HK := HK'; clear HK'))
   have HK0 := zH HK.out.drew
   refine wp_region_held_drew (S := (fun W => Hid (Kn w.heap.size w W [(w.heap.size, 55, obA (x.sr x.rA x.rn x.rc x.v.refs)), (w.heap.size + 1, 24, #[.int .i64 r.c, .int .i64 r.e, .int .i64 r.r]), (w.heap.size + 1 + 1, 29, cmA c)] []))) (by kernel_rfl) ?_ (fun hHeld => ?_)
   ·(try dsimp only); exact zH ((HK0.out.takeL 3).takeR 0)
   refine stk 0 30 rfl ?_ (fun w hSw => kob hSw 0 _ (by rfl) (by rfl) (by rfl))
   refine stk 1 31 rfl ?_
   refine stk 3 33 rfl ?_
   refine stk 4 34 rfl ?_ (fun w hSw => exec_ez (x := z) _ (by rfl) (by rfl) hz)
   refine srd1 2 (some 32) rfl (fun K hK => ?_)
   go_simp
   go_at_call 21
   refine (HFl.out z _).mono ?_; rintro e w5 ⟨rfl, b5⟩; have hs := zH (hHeld.out.call b5); replace HK0 := zH (HK0.out.call b5); clear b5
   refine hK.out _ _ hs (fun hHeld => ?_)
   clear hK K
   try simp only [ap1, ap2, ap3, ap4, ap5]
   refine stk 5 35 rfl ?_
   refine stu 6 36 rfl ?_
   refine stu 7 37 rfl ?_
   refine stk 8 38 rfl ?_
   refine srd1 9 none rfl (fun K hK => ?_)
   refine step_sob (y := x.sr x.rA x.rn x.rc x.v.refs) HK0 3 (by rfl) _ _ (by rfl) (by rfl) (by rfl) (by rfl) ?_; intro wq HK'; simp only [List.set] at HK'; replace HK0 := HK'; clear HK'; have hs := zH ((HK0.out.takeL 3).takeR 0)
   refine hK.out _ _ hs (fun hHeld => ?_)
   clear hK K
   try simp only [ap1, ap2, ap3, ap4, ap5]
   refine srd1 10 none rfl (fun K hK => ?_)
   refine step_srp (q := ⟨z, Sto.vn⟩) HK0 4 (by rfl) _ _ (by rfl) (by rfl) (by rfl) (by rfl) ?_; intro wq HK'; simp only [List.set] at HK'; replace HK0 := HK'; clear HK'; have hs := zH ((HK0.out.takeL 3).takeR 0)
   refine hK.out _ _ hs (fun hHeld => ?_)
   clear hK K
   try simp only [ap1, ap2, ap3, ap4, ap5]
   refine stk 11 8 rfl ?_
   refine stk 12 9 rfl ?_
   refine wpAnyH_done (by kernel_rfl) ?_ _
   go_wp2_with fail
   exact ret_th Tryz.results28 rfl rfl rfl rfl rfl (HK0.out.blk 3 rfl) (HK0.out.blk 4 rfl) ⟨x.sr x.rA x.rn x.rc x.v.refs, _, _, _, _, by rw [hz] <;> rfl, rfl, HK0.out.takeL 0, fun _ _ _ _ _ K hm hb => ⟨(HI.out _ hb).sr (HI.out _ hb).r, Sls.none _⟩⟩
end Go.Proofs.YtpkodjllljnleaaGreat
