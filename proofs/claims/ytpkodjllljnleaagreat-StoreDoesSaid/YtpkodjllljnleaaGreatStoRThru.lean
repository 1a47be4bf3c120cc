/- What the document's through returns: a request at a gate. No condition but those named. -/
import Derived.Test.YtpkodjllljnleaaGreatTk
import Derived.Test.YtpkodjllljnleaaGreatStoRFree
import Derived.Test.YtpkodjllljnleaaGreatMW
import Derived.Test.YtpkodjllljnleaaGreatMY
set_option linter.unusedSimpArgs false
set_option linter.unusedVariables false
namespace Go.Proofs.YtpkodjllljnleaaGreat
open Go.RowKit
theorem exec_nz {w : World} {o : Oper} {a : Act} {x : Int} {b : Bool} (p : Operand) (ho : o.op = .binOp .neq 31 p (.const (.int .i64 0)) 31) (hp : a.eval p = .int .i64 x) (hb : (!decide (x = 0)) = b) :
  (execOp a.eval o).run Tryz.prog w = .ok (.value (.bool b)) w := by
 have he : a.eval (.const (.int .i64 0)) = .int .i64 0 := rfl
 subst hb
 unfold execOp
 simp only [ho, hp, he]
 go_simp
 by_cases h : x = 0 <;> simp [h]
set_option maxRecDepth 100000 in
set_option maxHeartbeats 25600000 in
theorem rthru_any (G : World → Prop) (x : Oh) (r : Rf) (w : World) (hG : ∀ W, G W → In W x) (hx : In w x) (hd : 0 ≤ x.v.round) : Calls Tryz.prog 26 #[.agg (obA x), .agg #[.int .i64 r.c, .int .i64 r.e, .int .i64 r.r]] w (IsRH G (Sto.wait x.v r) w) := by
 have HI := zH hG
 have HT := zH (fun W (hW : Below w.heap.size w W) => rgwait_any x.v.cap x.rA x.rc x.rn x.v.refs r W (hx.r.later hW))
 have HFt := zH (fits_wt (m := x.v.cap) (r := r) hx.r.fit)
 have HLn : Hid (∀ r' : Rf, (Gt.wtA x.v.cap x.v.refs r).length ≤ 6) := zH fun _ => by
  by_cases he : Gt.wtE x.v.cap x.v.refs r = 0
  ·obtain ⟨h1, h2, h3⟩ := Gt.wt_is he
   have h5 := Lck.right_len h1.2.2.2
   by_cases hf : (x.v.refs.length : Int) + 1 = x.v.cap
   ·rw [(Gt.wt_full h1 h2 h3 hf).2.2, List.length_append]; show _ + 1 ≤ 6; omega
   ·rw [(Gt.wt_more h1 h2 h3 hf).2.2]; exact Nat.zero_le _
  ·rw [(Gt.wt_no (z := Gt.wtE x.v.cap x.v.refs r) rfl he).2.2]; exact Nat.zero_le _
 have HNo : Hid (¬ Gt.wtE x.v.cap x.v.refs r = 0 → Gt.wtL x.v.cap x.v.refs r = x.v.refs ∧ Gt.wtA x.v.cap x.v.refs r = []) := zH fun he => (Gt.wt_no (z := Gt.wtE x.v.cap x.v.refs r) rfl he).2
 have HFl := zH rfail_any
 have HK := kn4 w 55 (obA x) 24 #[.int .i64 r.c, .int .i64 r.e, .int .i64 r.r] 55 (obA ohZ) 33 (rpA Sto.rz)
 have hmax := hx.d
 unfold IsRH Sto.wait
 unfold IsWtr at HT
 clear hx hG
 generalize Gt.wtL x.v.cap x.v.refs r = m at *
 generalize Gt.wtA x.v.cap x.v.refs r = s at *
 generalize Gt.wtE x.v.cap x.v.refs r = z at *
 by_cases hz0 : z = 0
 case neg =>
  obtain ⟨hm, hs⟩ := HNo.out hz0
  subst hm hs
  have hz : decide (z = 0) = false := decide_eq_false hz0
  have hz2 : (!decide (z = 0)) = true := by rw [hz]; rfl
  rw [if_pos List.length_nil]
  simp only [hz]
  clear HNo HLn hz0 hmax hd HFt
  go_enter Tryz.func26, Tryz.ntmps26
  go_wp2_with (first | refine zX (kob_c HK 0 _ (by rfl) (by rfl) (by rfl)) ?_ | refine zX (kob_r HK 0 _ (by rfl) (by rfl) (by rfl)) ?_ | refine zX (kexec_lr HK 1 _ (by rfl) (by rfl) (by rfl)) ?_)
  refine (HT.out _ HK.out.b).mono ?_; rintro e w1 ⟨A4, n4, c4, A5, n5, c5, rfl, k4, b4⟩
  replace HK := hkC HK b4
  clear k4 b4
  go_wp2_with (first | refine zX (exec_ez (x := z) _ (by rfl) (by rfl) hz) ?_ | refine zX (exec_nz (x := z) _ (by rfl) (by rfl) hz2) ?_)
  have HK0 := zH HK.out.drew
  refine wp_region_held_drew (S := (fun W => Hid (Kn w.heap.size w W [(w.heap.size, 55, obA x)] []))) (by kernel_rfl) ?_ (fun hHeld => ?_)
  ·(try dsimp only); exact zH ((HK0.out.takeL 1).takeR 0)
  refine stk 0 38 rfl ?_ (fun w hSw => kob hSw 0 _ (by rfl) (by rfl) (by rfl))
  refine stk 1 39 rfl ?_
  refine srd1 2 (some 40) rfl (fun K hK => ?_)
  go_simp
  go_at_call 21
  refine (HFl.out z _).mono ?_; rintro e w5 ⟨rfl, b5⟩; have hs := zH (hHeld.out.call b5); replace HK0 := zH (HK0.out.call b5); clear b5
  refine hK.out _ _ hs (fun hHeld => ?_)
  clear hK K
  try simp only [ap1, ap2, ap3, ap4, ap5]
  refine srd1 3 none rfl (fun K hK => ?_)
  refine step_sob (y := x) HK0 2 (by rfl) _ _ (by rfl) (by rfl) (by rfl) (by rfl) ?_; intro wq HK'; simp only [List.set] at HK'; replace HK0 := HK'; clear HK'; have hs := zH ((HK0.out.takeL 1).takeR 0)
  refine hK.out _ _ hs (fun hHeld => ?_)
  clear hK K
  try simp only [ap1, ap2, ap3, ap4, ap5]
  refine srd1 4 none rfl (fun K hK => ?_)
  refine step_srp (q := ⟨z, Sto.vn⟩) HK0 3 (by rfl) _ _ (by rfl) (by rfl) (by rfl) (by rfl) ?_; intro wq HK'; simp only [List.set] at HK'; replace HK0 := HK'; clear HK'; have hs := zH ((HK0.out.takeL 1).takeR 0)
  refine hK.out _ _ hs (fun hHeld => ?_)
  clear hK K
  try simp only [ap1, ap2, ap3, ap4, ap5]
  refine stk 5 6 rfl ?_
  refine stk 6 7 rfl ?_
  refine wpAnyH_done (by kernel_rfl) ?_ _
  all_goals
   go_wp2_with fail
   exact ret_th Tryz.results26 rfl rfl rfl rfl rfl (HK0.out.blk 2 rfl) (HK0.out.blk 3 rfl) ⟨x, _, _, _, _, rfl, rfl, HK0.out.takeL 0, fun _ _ _ _ _ K hm hb => ⟨HI.out _ hb, Sls.none _⟩⟩
 subst hz0
 clear HNo
 by_cases hs : s.length = 0
 case pos =>
  rw [if_pos hs]
  obtain rfl : s = [] := List.length_eq_zero_iff.1 hs
  clear hs hd hmax HLn HFl
  go_enter Tryz.func26, Tryz.ntmps26
  go_wp2_with (first | refine zX (kob_c HK 0 _ (by rfl) (by rfl) (by rfl)) ?_ | refine zX (kob_r HK 0 _ (by rfl) (by rfl) (by rfl)) ?_ | refine zX (kexec_lr HK 1 _ (by rfl) (by rfl) (by rfl)) ?_)
  refine (HT.out _ HK.out.b).mono ?_; rintro e w1 ⟨A4, n4, c4, A5, n5, c5, rfl, k4, b4⟩
  unfold WtOr at k4
  rcases k4 with ⟨⟨rfl, rfl, rfl, -⟩, o4 | ⟨rfl, rfl, rfl, hm⟩⟩ | ⟨⟨rfl, rfl, rfl, hm⟩, o4⟩
  ·replace HK := zH (HK.out.called b4 o4)
   simp only [lnA] at HK
   clear o4 b4
   go_wp2_with (first | (refine wpList_sor HK 0 rfl _ _ rfl rfl rfl rfl m ?_; intro _ HK'; simp only [List.set] at HK'; replace HK := HK'; clear HK') | refine zX (kob HK 0 _ (by rfl) (by rfl) (by rfl)) ?_ | (refine wpList_sob (y := x.sr A4 n4 c4 m) HK 2 rfl _ _ rfl rfl rfl rfl ?_; intro _ HK'; simp only [List.set] at HK'; replace HK := HK'; clear HK') | (refine wpList_srp (q := ⟨0, Sto.vn⟩) HK 3 rfl _ _ rfl rfl rfl rfl ?_; intro _ HK'; simp only [List.set] at HK'; replace HK := HK'; clear HK'))
   exact ret_th Tryz.results26 rfl rfl rfl rfl rfl (HK.out.blk 2 rfl) (HK.out.blk 3 rfl) ⟨x.sr A4 n4 c4 m, _, _, _, _, rfl, rfl, HK.out.takeL 0, fun _ _ _ _ _ K hm hb => ⟨(HI.out _ hb).sr (Sls.own (K.mem (hm _ (List.mem_cons_self ..))) HFt.out.1), Sls.none _⟩⟩
  ·subst hm
   replace HK := hkC HK b4
   clear b4
   go_wp2_with (first | (refine wpList_sor HK 0 rfl _ _ rfl rfl rfl rfl x.v.refs ?_; intro _ HK'; simp only [List.set] at HK'; replace HK := HK'; clear HK') | refine zX (kob HK 0 _ (by rfl) (by rfl) (by rfl)) ?_ | (refine wpList_sob (y := x.sr x.rA x.rn x.rc x.v.refs) HK 2 rfl _ _ rfl rfl rfl rfl ?_; intro _ HK'; simp only [List.set] at HK'; replace HK := HK'; clear HK') | (refine wpList_srp (q := ⟨0, Sto.vn⟩) HK 3 rfl _ _ rfl rfl rfl rfl ?_; intro _ HK'; simp only [List.set] at HK'; replace HK := HK'; clear HK'))
   exact ret_th Tryz.results26 rfl rfl rfl rfl rfl (HK.out.blk 2 rfl) (HK.out.blk 3 rfl) ⟨x.sr x.rA x.rn x.rc x.v.refs, _, _, _, _, rfl, rfl, HK.out.takeL 0, fun _ _ _ _ _ K hm hb => ⟨(HI.out _ hb).sr (HI.out _ hb).r, Sls.none _⟩⟩
  ·subst hm
   obtain rfl : n5 = 0 := o4.reads.1
   replace HK := hkC HK b4
   clear o4 b4
   go_wp2_with (first | (refine wpList_sor HK 0 rfl _ _ rfl rfl rfl rfl ([] : List Rf) ?_; intro _ HK'; simp only [List.set] at HK'; replace HK := HK'; clear HK') | refine zX (kob HK 0 _ (by rfl) (by rfl) (by rfl)) ?_ | (refine wpList_sob (y := x.sr none 0 0 []) HK 2 rfl _ _ rfl rfl rfl rfl ?_; intro _ HK'; simp only [List.set] at HK'; replace HK := HK'; clear HK') | (refine wpList_srp (q := ⟨0, Sto.vn⟩) HK 3 rfl _ _ rfl rfl rfl rfl ?_; intro _ HK'; simp only [List.set] at HK'; replace HK := HK'; clear HK'))
   exact ret_th Tryz.results26 rfl rfl rfl rfl rfl (HK.out.blk 2 rfl) (HK.out.blk 3 rfl) ⟨x.sr none 0 0 [], _, _, _, _, rfl, rfl, HK.out.takeL 0, fun _ _ _ _ _ K hm hb => ⟨(HI.out _ hb).sr (Sls.none _), Sls.none _⟩⟩
 rw [if_neg hs]
 have hlen := HLn.out r
 obtain ⟨M, hN⟩ : ∃ M, s.length = M + 1 := ⟨s.length - 1, by omega⟩
 have hM3 : M ≤ 6 := by omega
 rw [hN]
 have HNl := zH hN
 have HSn : Hid (¬ s = []) := zH fun h => hs (by rw [h]; rfl)
 have hM2 : M < 9223372036854775807 := by omega
 have hgt : decide ((0 : Int) < (M : Int) + 1) = true := decide_eq_true (by omega)
 clear hN hs hlen HLn
 by_cases hm : x.v.round = 9223372036854775807
 case pos =>
  rw [if_pos hm]
  have hmb : (x.v.round == 9223372036854775807) = true := by simpa using hm
  clear hm hd hmax
  go_enter Tryz.func26, Tryz.ntmps26
  go_wp2_with (first | refine zX (kob_c HK 0 _ (by rfl) (by rfl) (by rfl)) ?_ | refine zX (kob_r HK 0 _ (by rfl) (by rfl) (by rfl)) ?_ | refine zX (kexec_lr HK 1 _ (by rfl) (by rfl) (by rfl)) ?_)
  refine (HT.out _ HK.out.b).mono ?_; rintro e w1 ⟨A4, n4, c4, A5, n5, c5, rfl, k4, b4⟩
  unfold WtOr at k4
  rcases k4 with ⟨⟨_, _, _, h0⟩, _⟩ | ⟨_, o4⟩
  ·exact absurd h0 HSn.out
  obtain rfl : n5 = M + 1 := o4.reads.1.trans HNl.out
  replace HK := hkC HK b4
  clear o4 b4
  go_wp2_with (first | refine zX (kob_d HK 0 _ (by rfl) (by rfl) (by rfl)) ?_ | refine zX (exec_gt (x := (M : Int) + 1) (k := 0) _ (by rfl) (by rfl) hgt) ?_)
  have HK0 := zH HK.out.drew
  refine wp_region_held_drew (S := (fun W => Hid (Kn w.heap.size w W [(w.heap.size, 55, obA x)] []))) (by kernel_rfl) ?_ (fun hHeld => ?_)
  ·(try dsimp only); exact zH ((HK0.out.takeL 1).takeR 0)
  refine stk 0 38 rfl ?_ (fun w hSw => kob hSw 0 _ (by rfl) (by rfl) (by rfl))
  refine stk 1 39 rfl ?_
  refine srd1 2 (some 40) rfl (fun K hK => ?_)
  go_simp
  go_at_call 21
  refine (HFl.out 6 _).mono ?_; rintro e w5 ⟨rfl, b5⟩; have hs := zH (hHeld.out.call b5); replace HK0 := zH (HK0.out.call b5); clear b5
  refine hK.out _ _ hs (fun hHeld => ?_)
  clear hK K
  try simp only [ap1, ap2, ap3, ap4, ap5]
  refine srd1 3 none rfl (fun K hK => ?_)
  refine step_sob (y := x) HK0 2 (by rfl) _ _ (by rfl) (by rfl) (by rfl) (by rfl) ?_; intro wq HK'; simp only [List.set] at HK'; replace HK0 := HK'; clear HK'; have hs := zH ((HK0.out.takeL 1).takeR 0)
  refine hK.out _ _ hs (fun hHeld => ?_)
  clear hK K
  try simp only [ap1, ap2, ap3, ap4, ap5]
  refine srd1 4 none rfl (fun K hK => ?_)
  refine step_srp (q := ⟨6, Sto.vn⟩) HK0 3 (by rfl) _ _ (by rfl) (by rfl) (by rfl) (by rfl) ?_; intro wq HK'; simp only [List.set] at HK'; replace HK0 := HK'; clear HK'; have hs := zH ((HK0.out.takeL 1).takeR 0)
  refine hK.out _ _ hs (fun hHeld => ?_)
  clear hK K
  try simp only [ap1, ap2, ap3, ap4, ap5]
  refine stk 5 6 rfl ?_
  refine stk 6 7 rfl ?_
  refine wpAnyH_done (by kernel_rfl) ?_ _
  all_goals
   go_wp2_with fail
   exact ret_th Tryz.results26 rfl rfl rfl rfl rfl (HK0.out.blk 2 rfl) (HK0.out.blk 3 rfl) ⟨x, _, _, _, _, rfl, rfl, HK0.out.takeL 0, fun _ _ _ _ _ K hm hb => ⟨HI.out _ hb, Sls.none _⟩⟩
 rw [if_neg hm]
 have hmb : (x.v.round == 9223372036854775807) = false := by simpa using hm
 have HInc : Hid (IntKind.i64.wrap (x.v.round + 1) = x.v.round + 1) := zH (by rw [IntKind.wrap_i64]; omega)
 have HMx : Hid (x.v.round + 1 ≤ 9223372036854775807) := zH (by omega)
 clear hm hd hmax
 have HFa := zH HFt.out.2
 rw [Nat.add_sub_cancel]
 go_enter Tryz.func26, Tryz.ntmps26
 go_wp2_with (first | refine zX (kob_c HK 0 _ (by rfl) (by rfl) (by rfl)) ?_ | refine zX (kob_r HK 0 _ (by rfl) (by rfl) (by rfl)) ?_ | refine zX (kexec_lr HK 1 _ (by rfl) (by rfl) (by rfl)) ?_)
 refine (HT.out _ HK.out.b).mono ?_; rintro e w1 ⟨A4, n4, c4, A5, n5, c5, rfl, k4, b4⟩
 unfold WtOr at k4
 rcases k4 with ⟨⟨_, _, _, h0⟩, _⟩ | ⟨⟨rfl, rfl, rfl, rfl⟩, o4⟩
 ·exact absurd h0 HSn.out
 obtain rfl : n5 = M + 1 := o4.reads.1.trans HNl.out
 replace HK := zH (HK.out.called b4 o4)
 simp only [lnA] at HK
 clear o4 b4
 obtain ⟨g5, rfl⟩ := HK.out.headR (La := rfLay) (j := 0) rfl (by rw [HNl.out]; omega)
 go_wp2_with (first | refine zX (kob_d HK 0 _ (by rfl) (by rfl) (by rfl)) ?_ | refine zX (exec_gt (x := (M : Int) + 1) (k := 0) _ (by rfl) (by rfl) hgt) ?_ | (refine wpList_sor HK 0 rfl _ _ rfl rfl rfl rfl ([] : List Rf) ?_; intro _ HK'; simp only [List.set] at HK'; replace HK := HK'; clear HK') | (refine wpList_arp HK rfl rfl ?_; intro _ g8 HK'; simp only [lcA, lnA] at HK'; replace HK := HK'; clear HK') | (refine wpList_srp (q := ⟨0, Sto.num x.v.round⟩) HK 4 rfl _ _ rfl rfl rfl rfl ?_; intro _ HK'; simp only [List.set] at HK'; replace HK := HK'; clear HK') | refine zX (exec_incw (x := x.v.round) (y := x.v.round + 1) _ (by rfl) (by rfl) HInc.out) ?_ | (refine wpList_sod HK 0 rfl _ _ rfl rfl rfl (d := x.v.round + 1) rfl ?_; intro _ HK'; simp only [List.set] at HK'; replace HK := HK'; clear HK'))
 replace HK := zH (HK.out.nilR otLay)
 simp only [lcA, lnA] at HK
 go_loopw [12, 13] (fun vo vi wr => ∃ (k : Nat) (A7 : Option Addr) (c7 : Nat), k ≤ M ∧ vo = .slice A7 k c7 ∧ vi = .int .i64 k ∧ Hid ((Sto.thru (s.take k) ⟨0, Sto.num x.v.round⟩).length = k) ∧ Hid (Kn w.heap.size w wr [(w.heap.size, 55, obA ((x.sr none 0 0 []).sd (x.v.round + 1))), (w.heap.size + 1, 24, #[.int .i64 r.c, .int .i64 r.e, .int .i64 r.r]), (w.heap.size + 1 + 1, 55, obA ohZ), (w.heap.size + 1 + 1 + 1, 33, rpA Sto.rz), (g8, 33, rpA ⟨0, Sto.num x.v.round⟩)] [row rfLay (.slice (some ⟨g5, 0, none⟩) (M + 1) c5) s, row otLay (.slice A7 k c7) (Sto.thru (s.take k) ⟨0, Sto.num x.v.round⟩)])) (fun _ vi _ => M + 1 - (intOf vi).toNat)
 case atStart => exact ⟨0, _, _, Nat.zero_le _, rfl, rfl, zH rfl, HK⟩
 case round =>
  clear HK
  obtain ⟨k, A7, c7, hk, rfl, rfl, hL7, HK⟩ := hrel
  have hk1 : (0 : Int) ≤ (k : Int) := by omega
  have hk3 : k < 9223372036854775807 := by omega
  by_cases hlt : k < M
  ·obtain ⟨y, hy⟩ := Lay.get_of (l := s) (k := k) (by rw [HNl.out]; omega)
   have HY := zH hy
   have HTk := zH (thru_snoc ⟨0, Sto.num x.v.round⟩ hy)
   clear hy
   have hk2 : (k : Int) < (M : Int) := by omega
   have hkM : k < M + 1 := by omega
   generalize Sto.thru (s.take k) ⟨0, Sto.num x.v.round⟩ = os at *
   have HL : Hid (os.length + 1 ≤ 9223372036854775807 ∧ (os.length + 1) * otLay.bytes ≤ 211106232532992) := zH (by
    rw [hL7.out]
    refine ⟨by omega, ?_⟩
    show (k + 1) * 72 ≤ _
    omega)
   have HN3 : Hid ((os ++ [(⟨y, ⟨0, Sto.num x.v.round⟩⟩ : Sto.Ot)]).length = k + 1) := zH (by rw [List.length_append, hL7.out]; rfl)
   go_wp2_with (first | refine zX (exec_sub1 (j := M) _ (by rfl) (by rfl) hM2) ?_)
   have HK0 := zH HK.out.drew
   refine wp_region_held_drew (S := (fun W => Hid (Kn w.heap.size w W [(g8, 33, rpA ⟨0, Sto.num x.v.round⟩)] [row rfLay (.slice (some ⟨g5, 0, none⟩) (M + 1) c5) s]))) (by kernel_rfl) ?_ (fun hHeld => ?_)
   ·(try dsimp only); exact zH ((HK0.out.dropL 4).takeR 1)
   refine stk 0 63 rfl ?_
   refine stk 1 64 rfl ?_
   refine stk 2 65 rfl ?_
   refine stk 3 66 rfl ?_ (fun w hSw => exec_ixr (i := k) _ _ (by rfl) (by rfl) (by rfl) hkM)
   refine stk 4 67 rfl ?_ (fun w hSw => exec_lr (x := y) (off := 0 + k * 3) _ (by rfl) (by rfl) (hSw.out.atR (La := rfLay) (j := 0) rfl HY.out))
   refine stk 5 68 rfl ?_ (fun w hSw => krp hSw 0 _ (by rfl) (by rfl) (by rfl))
   refine stk 6 69 rfl ?_ (fun w hSw => exec_bo2 (r := y) (p := ⟨0, Sto.num x.v.round⟩) _ _ (by rfl) (by rfl) (by rfl))
   refine srd1 7 (some 70) rfl (fun K hK => ?_)
   refine step_mk1 otLay (p := ⟨y, ⟨0, Sto.num x.v.round⟩⟩) HK0 (by decide) (by rfl) _ (by rfl) (by rfl) (by rfl) ?_; intro w6 g6 HK' _; simp only [lcA, lnA] at HK'; replace HK0 := HK'; clear HK'; have hs := zH ((HK0.out.dropL 4).takeR 1)
   refine hK.out _ _ hs (fun hHeld => ?_)
   clear hK K
   try simp only [ap1, ap2, ap3, ap4, ap5]
   refine srd1 8 (some 71) rfl (fun K hK => ?_)
   refine step_more2 otLay HK0 1 (by rfl) _ _ (by rfl) (by rfl) (by rfl) [⟨y, ⟨0, Sto.num x.v.round⟩⟩] (by rfl) (by rfl) (zH (HK0.out.own 2 rfl).rd) HL (N := k + 1) HN3 ?_; intro A8 c8 w8 HK'; simp only [List.set] at HK'; replace HK0 := HK'; clear HK'; have hs := zH ((HK0.out.dropL 4).takeR 1)
   refine hK.out _ _ hs (fun hHeld => ?_)
   clear hK K
   try simp only [ap1, ap2, ap3, ap4, ap5]
   refine stk 9 12 rfl ?_
   refine wpAnyH_done (by kernel_rfl) ?_ _
   go_wp2_with (first | refine zX (exec_add1 (j := k) _ (by rfl) (by rfl) hk3) ?_)
   refine ⟨⟨k + 1, A8, c8, by omega, rfl, by go_num, zH (by rw [HTk.out]; exact HN3.out), zH ?_⟩, by simp [intOf]; omega⟩
   rw [HTk.out]
   exact HK0.out.takeR 2
  ·obtain rfl : k = M := by omega
   have HFo : Hid (Fits otLay tF (Sto.thru (s.take k) ⟨0, Sto.num x.v.round⟩)) := zH (fits_ot (by rw [hL7.out]; exact hM3))
   have hk2 : ¬ (k : Int) < (k : Int) := by omega
   generalize hos : Sto.thru (s.take k) ⟨0, Sto.num x.v.round⟩ = os at *
   have HOs := zH hos
   clear hos
   go_wp2_with (first | refine zX (exec_sub1 (j := k) _ (by rfl) (by rfl) hM2) ?_)
   have HK0 := zH HK.out.drew
   refine wp_region_held_drew (S := (fun W => Hid (Kn w.heap.size w W [(w.heap.size, 55, obA ((x.sr none 0 0 []).sd (x.v.round + 1)))] []) ∧ Hid (Kn w.heap.size w W [(g8, 33, rpA ⟨0, Sto.num x.v.round⟩)] []))) (by kernel_rfl) ?_ (fun hHeld => ?_)
   ·(try dsimp only); exact And.intro (zH ((HK0.out.takeL 1).takeR 0)) (zH ((HK0.out.dropL 4).takeR 0))
   refine stk 0 72 rfl ?_ (fun w hSw => kob hSw.1 0 _ (by rfl) (by rfl) (by rfl))
   refine stk 1 73 rfl ?_ (fun w hSw => krp hSw.2 0 _ (by rfl) (by rfl) (by rfl))
   refine stk 2 74 rfl ?_
   refine srd1 3 none rfl (fun K hK => ?_)
   refine step_sob (y := (x.sr none 0 0 []).sd (x.v.round + 1)) HK0 2 (by rfl) _ _ (by rfl) (by rfl) (by rfl) (by rfl) ?_; intro wq HK'; simp only [List.set] at HK'; replace HK0 := HK'; clear HK'; have hs := And.intro (zH ((HK0.out.takeL 1).takeR 0)) (zH ((HK0.out.dropL 4).takeR 0))
   refine hK.out _ _ hs (fun hHeld => ?_)
   clear hK K
   try simp only [ap1, ap2, ap3, ap4, ap5]
   refine srd1 4 none rfl (fun K hK => ?_)
   refine step_srp (q := ⟨0, Sto.num x.v.round⟩) HK0 3 (by rfl) _ _ (by rfl) (by rfl) (by rfl) (by rfl) ?_; intro wq HK'; simp only [List.set] at HK'; replace HK0 := HK'; clear HK'; have hs := And.intro (zH ((HK0.out.takeL 1).takeR 0)) (zH ((HK0.out.dropL 4).takeR 0))
   refine hK.out _ _ hs (fun hHeld => ?_)
   clear hK K
   try simp only [ap1, ap2, ap3, ap4, ap5]
   refine stk 5 6 rfl ?_
   refine stk 6 7 rfl ?_
   refine wpAnyH_done (by kernel_rfl) ?_ _
   all_goals
    go_wp2_with fail
    exact ret_th Tryz.results26 rfl rfl rfl rfl rfl (HK0.out.blk 2 rfl) (HK0.out.blk 3 rfl) ⟨(x.sr none 0 0 []).sd (x.v.round + 1), _, _, _, _, rfl, rfl, HK0.out.takeL 0, fun _ _ _ _ _ K hm hb => ⟨((HI.out _ hb).sr (Sls.none _)).sd HMx.out, by rw [HOs.out]; exact Sls.own (K.mem (hm _ (List.mem_cons_of_mem _ (List.mem_cons_self ..)))) HFo.out⟩⟩
end Go.Proofs.YtpkodjllljnleaaGreat
