/- What the sum of layer 2, Least and Most return, the document. No condition but those named. -/
import Derived.Test.YtpkodjllljnleaaGreatTk
import Derived.Test.YtpkodjllljnleaaGreatMB
import Derived.Test.YtpkodjllljnleaaGreatMG
import Derived.Test.YtpkodjllljnleaaGreatMS
import Derived.WalkKit
import Derived.WalkSpells
import Derived.WalkLawsBesides
import Derived.Handy
import Derived.Deep.QuietTactic
import Derived.BigQuiet
import Derived.Deep.Draws
import Derived.Lib.Hide
set_option linter.unusedSimpArgs false
set_option linter.unusedVariables false
namespace Go.Proofs.YtpkodjllljnleaaGreat
open Go.RowKit
set_option maxHeartbeats 400000 in
theorem rleast_any (a b : Nat) (w : World) (ha : a < 18446744073709551616) (hb : b < 18446744073709551616) :
  Calls Tryz.prog 128 #[.int .u64 a, .int .u64 b] w fun e w' => e = .returned (.int .u64 (least a b : Nat)) ∧ w = w' := by
 have H := zH (fun w => rcmp_any a b w ha hb)
 have H1 := zH (fun w => rmake_any a w ha)
 have H2 := zH (fun w => rmake_any b w hb)
 by_cases h : Num.rank b < Num.rank a
 ·have hl : Hid (least a b = Num.M b) := zH (if_pos h)
  rw [cmp_gt h] at H
  clear h
  generalize least a b = l at *
  go_enter Tryz.func128, Tryz.ntmps128
  go_wp2_with fail
  refine (H.out _).mono ?_; rintro e w' ⟨rfl, rfl⟩
  go_wp2_with fail
  refine (H2.out _).mono ?_; rintro e w' ⟨rfl, rfl⟩
  go_wp2_with fail
  go_ret
  exact ⟨by rw [hl.out]; rfl, rfl⟩
 ·have hl : Hid (least a b = Num.M a) := zH (if_neg h)
  have hc : Num.cmp a b ≤ 0 := (Num.cmp_le (a := a) (b := b)).2 (by omega)
  generalize Num.cmp a b = c at *
  clear h
  generalize least a b = l at *
  go_enter Tryz.func128, Tryz.ntmps128
  go_wp2_with fail
  refine (H.out _).mono ?_; rintro e w' ⟨rfl, rfl⟩
  go_wp2_with fail
  refine (H1.out _).mono ?_; rintro e w' ⟨rfl, rfl⟩
  go_wp2_with fail
  go_ret
  exact ⟨by rw [hl.out]; rfl, rfl⟩
set_option maxHeartbeats 400000 in
theorem rmost_any (a b : Nat) (w : World) (ha : a < 18446744073709551616) (hb : b < 18446744073709551616) :
  Calls Tryz.prog 129 #[.int .u64 a, .int .u64 b] w fun e w' => e = .returned (.int .u64 (most a b : Nat)) ∧ w = w' := by
 have H := zH (fun w => rcmp_any a b w ha hb)
 have H1 := zH (fun w => rmake_any a w ha)
 have H2 := zH (fun w => rmake_any b w hb)
 by_cases h : Num.rank a < Num.rank b
 ·have hl : Hid (most a b = Num.M b) := zH (if_pos h)
  rw [cmp_lt h] at H
  clear h
  generalize most a b = l at *
  go_enter Tryz.func129, Tryz.ntmps129
  go_wp2_with fail
  refine (H.out _).mono ?_; rintro e w' ⟨rfl, rfl⟩
  go_wp2_with fail
  refine (H2.out _).mono ?_; rintro e w' ⟨rfl, rfl⟩
  go_wp2_with fail
  go_ret
  exact ⟨by rw [hl.out]; rfl, rfl⟩
 ·have hl : Hid (most a b = Num.M a) := zH (if_neg h)
  have hc : 0 ≤ Num.cmp a b := by have h2 := Num.cmp_turn a b; have h3 := (Num.cmp_le (a := b) (b := a)).2 (by omega); omega
  generalize Num.cmp a b = c at *
  clear h
  generalize most a b = l at *
  go_enter Tryz.func129, Tryz.ntmps129
  go_wp2_with fail
  refine (H.out _).mono ?_; rintro e w' ⟨rfl, rfl⟩
  go_wp2_with fail
  refine (H1.out _).mono ?_; rintro e w' ⟨rfl, rfl⟩
  go_wp2_with fail
  go_ret
  exact ⟨by rw [hl.out]; rfl, rfl⟩
set_option maxHeartbeats 400000 in
theorem radd_any (a b : Nat) (w : World)  :
  Calls Tryz.prog 127 #[.int .u64 a, .int .u64 b] w fun e w' => e = .returned (.int .u64 (Num.S a b : Nat)) ∧ ∃ n, w' = w.drewN n := by
 have HM := zH (fun (c : Nat) (hc : c < 18446744073709551616) w => rmake_any c w hc)
 obtain ⟨r, n, hr, hs, hrun⟩ := run_add a b w
 have he := hs.eq
 have hE := zH he
 clear hs he
 have hf := frombits
 have hb2 := tobits
 go_enter Tryz.func127, Tryz.ntmps127
 go_wp2_with fail
 refine (HM.out r hr _).mono ?_; rintro e w' ⟨rfl, rfl⟩
 go_wp2_with fail
 go_ret
 exact ⟨by rw [hE.out]; rfl, n, rfl⟩
end Go.Proofs.YtpkodjllljnleaaGreat
namespace Go.Proofs.YtpkodjllljnleaaGreat
open Go.ChangeShapes Go.WideShapes Go.Deep Go.RowKit
theorem ix_th0 (s l m : Nat) (w : World) : (Instr.index 154 (.agg #[.int .u64 (s : Int), .int .u64 (l : Int), .int .u64 (m : Int)]) (.int .i64 0)).run Tryz.prog w = .ok (.int .u64 (s : Int)) w := by kernel_rfl
theorem ix_th1 (s l m : Nat) (w : World) : (Instr.index 154 (.agg #[.int .u64 (s : Int), .int .u64 (l : Int), .int .u64 (m : Int)]) (.int .i64 1)).run Tryz.prog w = .ok (.int .u64 (l : Int)) w := by kernel_rfl
theorem ix_th2 (s l m : Nat) (w : World) : (Instr.index 154 (.agg #[.int .u64 (s : Int), .int .u64 (l : Int), .int .u64 (m : Int)]) (.int .i64 2)).run Tryz.prog w = .ok (.int .u64 (m : Int)) w := by kernel_rfl
theorem radd_below (a b : Nat) (w : World) :
  Calls Tryz.prog 127 #[.int .u64 a, .int .u64 b] w fun e w' => e = .returned (.int .u64 (Num.S a b : Nat)) ∧ Below w.heap.size w w' :=
 (radd_any a b w).mono fun e w' ⟨h1, n, h2⟩ => ⟨h1, by subst h2; exact ⟨rfl, rfl, rfl, Nat.le_refl _, fun _ _ => rfl⟩⟩
end Go.Proofs.YtpkodjllljnleaaGreat
namespace Go.Proofs.YtpkodjllljnleaaGreat
open Go.RowKit
set_option maxRecDepth 100000 in
set_option maxHeartbeats 3200000 in
theorem radd14_any (x : Mtr) (hf : Mt.Fit x) (b : Nat) (hb : b < 18446744073709551616) (w : World) :
  Calls Tryz.prog 78 #[.agg #[.int .i64 x.n, .int .u64 (x.s : Int), .int .u64 (x.l : Int), .int .u64 (x.m : Int)], .int .u64 (b : Int)] w (IsMe (Mt.ad x b) (Mt.adE x) w) := by
 obtain ⟨n, s, l, m⟩ := x
 have HM := zH (fun W => mrright_any ⟨n, s, l, m⟩ hf W)
 have hfn : n ≤ 9223372036854775807 := hf.1
 have HMk := zH (fun W => rmake_any b W hb)
 have HK := kn2 w 53 (mC n s l m) 53 (mC 0 0 0 0)
 unfold IsB IsMe at *
 by_cases hok : Mt.Ok ⟨n, s, l, m⟩
 case neg =>
  rw [Mt.ad_bad hok, Mt.adE_bad hok]
  rw [decide_eq_false hok] at HM
  clear hok hf hfn HMk
  go_enter Tryz.func78, Tryz.ntmps78
  go_wp2_with (first | refine zX (kexec_lm HK 0 _ (by rfl) (by rfl) (by rfl)) ?_)
  refine (HM.out _).mono ?_; rintro e w1 ⟨rfl, b1⟩
  replace HK := hkC HK b1; clear b1
  go_wp2_with (first | refine zX (kexec_lm HK 0 _ (by rfl) (by rfl) (by rfl)) ?_ | (refine wpList_sm HK 1 rfl _ _ rfl rfl rfl rfl ?_; intro _ HK'; simp only [List.set] at HK'; replace HK := HK'; clear HK') | refine zX (kexec_mn HK 0 _ (by rfl) (by rfl) (by rfl)) ?_)
  exact ret_me Tryz.results78 rfl rfl rfl (HK.out.blk 1 rfl) ⟨rfl, HK.out.b⟩
 case pos =>
 rw [decide_eq_true hok] at HM
 by_cases hmx : n = 9223372036854775807
 ·rw [Mt.ad_full hok hmx, Mt.adE_full hok hmx]
  clear hok hf hfn HMk
  subst hmx
  go_enter Tryz.func78, Tryz.ntmps78
  go_wp2_with (first | refine zX (kexec_lm HK 0 _ (by rfl) (by rfl) (by rfl)) ?_)
  refine (HM.out _).mono ?_; rintro e w1 ⟨rfl, b1⟩
  replace HK := hkC HK b1; clear b1
  go_wp2_with (first | refine zX (kexec_lm HK 0 _ (by rfl) (by rfl) (by rfl)) ?_ | (refine wpList_sm HK 1 rfl _ _ rfl rfl rfl rfl ?_; intro _ HK'; simp only [List.set] at HK'; replace HK := HK'; clear HK') | refine zX (kexec_mn HK 0 _ (by rfl) (by rfl) (by rfl)) ?_)
  exact ret_me Tryz.results78 rfl rfl rfl (HK.out.blk 1 rfl) ⟨rfl, HK.out.b⟩
 have hne : (n == 9223372036854775807) = false := by rw [beq_eq_false_iff_ne]; exact hmx
 rw [Mt.adE_one hok hmx]
 by_cases h0 : n = 0
 ·rw [Mt.ad_one hok h0]
  clear hok hf hfn hmx
  subst h0
  generalize Num.M b = t at *
  go_enter Tryz.func78, Tryz.ntmps78
  go_wp2_with (first | refine zX (kexec_lm HK 0 _ (by rfl) (by rfl) (by rfl)) ?_)
  refine (HM.out _).mono ?_; rintro e w1 ⟨rfl, b1⟩
  replace HK := hkC HK b1; clear b1
  go_wp2_with (first | refine zX (kexec_lm HK 0 _ (by rfl) (by rfl) (by rfl)) ?_ | (refine wpList_sm HK 1 rfl _ _ rfl rfl rfl rfl ?_; intro _ HK'; simp only [List.set] at HK'; replace HK := HK'; clear HK') | refine zX (kexec_mn HK 0 _ (by rfl) (by rfl) (by rfl)) ?_)
  refine (HMk.out _).mono ?_; rintro e w1 ⟨rfl, rfl⟩
  go_wp2_with (first | refine zX (kexec_mn HK 0 _ (by rfl) (by rfl) (by rfl)) ?_ | (refine wpList_sm HK 1 rfl _ _ rfl rfl rfl rfl ?_; intro _ HK'; simp only [List.set] at HK'; replace HK := HK'; clear HK'))
  exact ret_me Tryz.results78 rfl rfl rfl (HK.out.blk 1 rfl) ⟨rfl, HK.out.b⟩
 ·have hz : (n == 0) = false := by rw [beq_eq_false_iff_ne]; exact h0
  rw [Mt.ad_more hok hmx h0]
  have HW : Hid (IntKind.i64.wrap (n + 1) = n + 1) := zH (by
   have hp : 0 ≤ n := Mt.ok_pos hok
   rw [IntKind.wrap_i64]; omega)
  have hs := hf.2.1
  have hl := hf.2.2.1
  have hm := hf.2.2.2
  have hb2 := Num.M_lt hb
  have HA := zH (fun W => radd_below s (Num.M b) W)
  have HL := zH (fun W => rleast_any l (Num.M b) W hl hb2)
  have HG := zH (fun W => rmost_any m (Num.M b) W hm hb2)
  clear hok hf hfn hmx h0 hs hl hm hb2
  generalize Num.M b = t at *
  generalize Num.S s t = s2 at *
  generalize least l t = l2 at *
  generalize most m t = m2 at *
  go_enter Tryz.func78, Tryz.ntmps78
  go_wp2_with (first | refine zX (kexec_lm HK 0 _ (by rfl) (by rfl) (by rfl)) ?_)
  refine (HM.out _).mono ?_; rintro e w1 ⟨rfl, b1⟩
  replace HK := hkC HK b1; clear b1
  go_wp2_with (first | refine zX (kexec_lm HK 0 _ (by rfl) (by rfl) (by rfl)) ?_ | (refine wpList_sm HK 1 rfl _ _ rfl rfl rfl rfl ?_; intro _ HK'; simp only [List.set] at HK'; replace HK := HK'; clear HK') | refine zX (kexec_mn HK 0 _ (by rfl) (by rfl) (by rfl)) ?_)
  refine (HMk.out _).mono ?_; rintro e w1 ⟨rfl, rfl⟩
  go_wp2_with (first | refine zX (kexec_mn HK 0 _ (by rfl) (by rfl) (by rfl)) ?_)
  have HK0 := zH HK.out.drew
  clear HK
  refine wp_region_held_drew (S := (fun W => Hid (Kn w.heap.size w W [(w.heap.size, 53, mC n s l m)] []))) (by kernel_rfl) ?_ (fun hHeld => ?_)
  ·(try dsimp only); exact zH (HK0.out.takeL 1)
  refine stk 0 23 rfl ?_
  refine stk 1 24 rfl ?_ (fun w hSw => kexec_mn hSw 0 _ (by rfl) (by rfl) (by rfl))
  refine stk 2 25 rfl ?_ (fun w hSw => exec_inc _ (by rfl) (by rfl) HW.out)
  refine stk 3 26 rfl ?_
  refine stk 4 27 rfl ?_ (fun w hSw => kexec_ms hSw 0 _ (by rfl) (by rfl) (by rfl))
  refine stk 5 28 rfl ?_
  refine stk 7 30 rfl ?_
  refine stk 8 31 rfl ?_ (fun w hSw => kexec_ml hSw 0 _ (by rfl) (by rfl) (by rfl))
  refine stk 9 32 rfl ?_
  refine stk 11 34 rfl ?_
  refine stk 12 35 rfl ?_ (fun w hSw => kexec_mm hSw 0 _ (by rfl) (by rfl) (by rfl))
  refine stk 13 36 rfl ?_
  refine srd1 6 (some 29) rfl (fun K hK => ?_)
  go_simp
  go_at_call 127
  refine (HA.out _).mono ?_; rintro e w5 ⟨rfl, b5⟩; have hs := zH (hHeld.out.call b5); replace HK0 := zH (HK0.out.call b5); clear b5
  refine hK.out _ _ hs (fun hHeld => ?_)
  clear hK K
  try simp only [ap1, ap2, ap3, ap4, ap5]
  refine srd1 10 (some 33) rfl (fun K hK => ?_)
  go_simp
  go_at_call 128
  refine (HL.out _).mono ?_; rintro e w5 ⟨rfl, rfl⟩; have hs := hHeld
  refine hK.out _ _ hs (fun hHeld => ?_)
  clear hK K
  try simp only [ap1, ap2, ap3, ap4, ap5]
  refine srd1 14 (some 37) rfl (fun K hK => ?_)
  go_simp
  go_at_call 129
  refine (HG.out _).mono ?_; rintro e w5 ⟨rfl, rfl⟩; have hs := hHeld
  refine hK.out _ _ hs (fun hHeld => ?_)
  clear hK K
  try simp only [ap1, ap2, ap3, ap4, ap5]
  refine stk 15 38 rfl ?_
  refine srd1 16 none rfl (fun K hK => ?_)
  refine step_sm HK0 1 (by rfl) _ _ (by rfl) (by rfl) (by rfl) (by rfl) ?_; intro w6 HK'; simp only [List.set] at HK'; replace HK0 := HK'; clear HK'; have hs := zH (HK0.out.takeL 1)
  refine hK.out _ _ hs (fun hHeld => ?_)
  clear hK K
  try simp only [ap1, ap2, ap3, ap4, ap5]
  refine stk 17 5 rfl ?_
  refine wpAnyH_done (by kernel_rfl) ?_ _
  all_goals
   have HK := HK0
   clear HK0 hHeld
   go_wp2_with fail
   exact ret_me Tryz.results78 rfl rfl rfl (HK.out.blk 1 rfl) ⟨rfl, HK.out.b⟩
end Go.Proofs.YtpkodjllljnleaaGreat
namespace Go.Proofs.YtpkodjllljnleaaGreat
open Go.RowKit
set_option maxRecDepth 100000 in
set_option maxHeartbeats 3200000 in
theorem rread_any (x : Mtr) (hf : Mt.Fit x) (q : Int) (w : World) :
  Calls Tryz.prog 79 #[.agg #[.int .i64 x.n, .int .u64 (x.s : Int), .int .u64 (x.l : Int), .int .u64 (x.m : Int)], .int .i64 q] w (IsVe (Mt.rd x q) w) := by
 obtain ⟨n, s, l, m⟩ := x
 have HM := zH (fun W => mrright_any ⟨n, s, l, m⟩ hf W)
 have HK := kn2 w 53 (mC n s l m) 27 (vC 0 0 0 ⟨#[]⟩)
 clear hf
 unfold IsB IsVe at *
 by_cases hok : Mt.Ok ⟨n, s, l, m⟩
 case neg =>
  rw [Mt.rd_bad (.inl hok)]
  rw [decide_eq_false hok] at HM
  clear hok
  go_enter Tryz.func79, Tryz.ntmps79
  go_wp2_with (first | refine zX (kexec_lm HK 0 _ (by rfl) (by rfl) (by rfl)) ?_)
  refine (HM.out _).mono ?_; rintro e w1 ⟨rfl, b1⟩
  replace HK := hkC HK b1; clear b1
  go_wp2_with (first | refine zX (kexec_mn HK 0 _ (by rfl) (by rfl) (by rfl)) ?_ | refine zX (kexec_lm HK 0 _ (by rfl) (by rfl) (by rfl)) ?_ | (refine wpList_sv (f2 := 0) HK 1 rfl _ _ rfl rfl rfl rfl ?_; intro _ HK'; simp only [List.set] at HK'; replace HK := HK'; clear HK'))
  exact ret_va Tryz.results79 rfl rfl rfl (HK.out.blk 1 rfl) ⟨rfl, HK.out.b⟩
 case pos =>
 rw [decide_eq_true hok] at HM
 by_cases hlo : q < 0
 ·rw [Mt.rd_bad (.inr (.inl hlo))]
  clear hok
  go_enter Tryz.func79, Tryz.ntmps79
  go_wp2_with (first | refine zX (kexec_lm HK 0 _ (by rfl) (by rfl) (by rfl)) ?_)
  refine (HM.out _).mono ?_; rintro e w1 ⟨rfl, b1⟩
  replace HK := hkC HK b1; clear b1
  go_wp2_with (first | refine zX (kexec_mn HK 0 _ (by rfl) (by rfl) (by rfl)) ?_ | refine zX (kexec_lm HK 0 _ (by rfl) (by rfl) (by rfl)) ?_ | (refine wpList_sv (f2 := 0) HK 1 rfl _ _ rfl rfl rfl rfl ?_; intro _ HK'; simp only [List.set] at HK'; replace HK := HK'; clear HK'))
  exact ret_va Tryz.results79 rfl rfl rfl (HK.out.blk 1 rfl) ⟨rfl, HK.out.b⟩
 by_cases hhi : 3 < q
 ·rw [Mt.rd_bad (.inr (.inr hhi))]
  have hhi2 : 4 ≤ q := by omega
  clear hok
  go_enter Tryz.func79, Tryz.ntmps79
  go_wp2_with (first | refine zX (kexec_lm HK 0 _ (by rfl) (by rfl) (by rfl)) ?_)
  refine (HM.out _).mono ?_; rintro e w1 ⟨rfl, b1⟩
  replace HK := hkC HK b1; clear b1
  go_wp2_with (first | refine zX (kexec_mn HK 0 _ (by rfl) (by rfl) (by rfl)) ?_ | refine zX (kexec_lm HK 0 _ (by rfl) (by rfl) (by rfl)) ?_ | (refine wpList_sv (f2 := 0) HK 1 rfl _ _ rfl rfl rfl rfl ?_; intro _ HK'; simp only [List.set] at HK'; replace HK := HK'; clear HK'))
  exact ret_va Tryz.results79 rfl rfl rfl (HK.out.blk 1 rfl) ⟨rfl, HK.out.b⟩
 by_cases hq0 : q = 0
 ·subst hq0
  rw [Mt.rd_0 hok]
  clear hok hlo hhi
  dsimp only
  by_cases h0 : (n == 0) = true
  ·go_enter Tryz.func79, Tryz.ntmps79
   go_wp2_with (first | refine zX (kexec_lm HK 0 _ (by rfl) (by rfl) (by rfl)) ?_)
   refine (HM.out _).mono ?_; rintro e w1 ⟨rfl, b1⟩
   replace HK := hkC HK b1; clear b1
   go_wp2_with (first | refine zX (kexec_mn HK 0 _ (by rfl) (by rfl) (by rfl)) ?_ | refine zX (kexec_lm HK 0 _ (by rfl) (by rfl) (by rfl)) ?_ | (refine wpList_sv (f2 := 0) HK 1 rfl _ _ rfl rfl rfl rfl ?_; intro _ HK'; simp only [List.set] at HK'; replace HK := HK'; clear HK') | refine zX (kexec_ms HK 0 _ (by rfl) (by rfl) (by rfl)) ?_ | refine zX (kexec_ml HK 0 _ (by rfl) (by rfl) (by rfl)) ?_ | refine zX (kexec_mm HK 0 _ (by rfl) (by rfl) (by rfl)) ?_)
   exact ret_va Tryz.results79 rfl rfl rfl (HK.out.blk 1 rfl) ⟨rfl, HK.out.b⟩
  ·have h0 : (n == 0) = false := Bool.eq_false_iff.2 h0
   go_enter Tryz.func79, Tryz.ntmps79
   go_wp2_with (first | refine zX (kexec_lm HK 0 _ (by rfl) (by rfl) (by rfl)) ?_)
   refine (HM.out _).mono ?_; rintro e w1 ⟨rfl, b1⟩
   replace HK := hkC HK b1; clear b1
   go_wp2_with (first | refine zX (kexec_mn HK 0 _ (by rfl) (by rfl) (by rfl)) ?_ | refine zX (kexec_lm HK 0 _ (by rfl) (by rfl) (by rfl)) ?_ | (refine wpList_sv (f2 := 0) HK 1 rfl _ _ rfl rfl rfl rfl ?_; intro _ HK'; simp only [List.set] at HK'; replace HK := HK'; clear HK') | refine zX (kexec_ms HK 0 _ (by rfl) (by rfl) (by rfl)) ?_ | refine zX (kexec_ml HK 0 _ (by rfl) (by rfl) (by rfl)) ?_ | refine zX (kexec_mm HK 0 _ (by rfl) (by rfl) (by rfl)) ?_)
   exact ret_va Tryz.results79 rfl rfl rfl (HK.out.blk 1 rfl) ⟨rfl, HK.out.b⟩
 have hq1 : (q == 0) = false := by rw [beq_eq_false_iff_ne]; exact hq0
 have hq2 : ¬ 4 ≤ q := by omega
 by_cases hn : n = 0
 ·rw [Mt.rd_no hok (by omega) (by omega) hq0 hn]
  subst hn
  clear hok hq0
  go_enter Tryz.func79, Tryz.ntmps79
  go_wp2_with (first | refine zX (kexec_lm HK 0 _ (by rfl) (by rfl) (by rfl)) ?_)
  refine (HM.out _).mono ?_; rintro e w1 ⟨rfl, b1⟩
  replace HK := hkC HK b1; clear b1
  go_wp2_with (first | refine zX (kexec_mn HK 0 _ (by rfl) (by rfl) (by rfl)) ?_ | refine zX (kexec_lm HK 0 _ (by rfl) (by rfl) (by rfl)) ?_ | (refine wpList_sv (f2 := 0) HK 1 rfl _ _ rfl rfl rfl rfl ?_; intro _ HK'; simp only [List.set] at HK'; replace HK := HK'; clear HK'))
  exact ret_va Tryz.results79 rfl rfl rfl (HK.out.blk 1 rfl) ⟨rfl, HK.out.b⟩
 have h0 : (n == 0) = false := by rw [beq_eq_false_iff_ne]; exact hn
 have hcase : q = 1 ∨ q = 2 ∨ q = 3 := by omega
 clear hlo hhi hq0 hq1 hq2
 rcases hcase with rfl | rfl | rfl
 ·rw [Mt.rd_1 hok hn]
  have hix := ix_th0 s l m
  clear hok hn
  dsimp only
  go_enter Tryz.func79, Tryz.ntmps79
  go_wp2_with (first | refine zX (kexec_lm HK 0 _ (by rfl) (by rfl) (by rfl)) ?_)
  refine (HM.out _).mono ?_; rintro e w1 ⟨rfl, b1⟩
  replace HK := hkC HK b1; clear b1
  go_wp2_with (first | refine zX (kexec_mn HK 0 _ (by rfl) (by rfl) (by rfl)) ?_ | refine zX (kexec_lm HK 0 _ (by rfl) (by rfl) (by rfl)) ?_ | (refine wpList_sv (f2 := s) HK 1 rfl _ _ rfl rfl rfl rfl ?_; intro _ HK'; simp only [List.set] at HK'; replace HK := HK'; clear HK') | refine zX (kexec_ms HK 0 _ (by rfl) (by rfl) (by rfl)) ?_ | refine zX (kexec_ml HK 0 _ (by rfl) (by rfl) (by rfl)) ?_ | refine zX (kexec_mm HK 0 _ (by rfl) (by rfl) (by rfl)) ?_)
  exact ret_va Tryz.results79 rfl rfl rfl (HK.out.blk 1 rfl) ⟨rfl, HK.out.b⟩
 ·rw [Mt.rd_2 hok hn]
  have hix := ix_th1 s l m
  clear hok hn
  dsimp only
  go_enter Tryz.func79, Tryz.ntmps79
  go_wp2_with (first | refine zX (kexec_lm HK 0 _ (by rfl) (by rfl) (by rfl)) ?_)
  refine (HM.out _).mono ?_; rintro e w1 ⟨rfl, b1⟩
  replace HK := hkC HK b1; clear b1
  go_wp2_with (first | refine zX (kexec_mn HK 0 _ (by rfl) (by rfl) (by rfl)) ?_ | refine zX (kexec_lm HK 0 _ (by rfl) (by rfl) (by rfl)) ?_ | (refine wpList_sv (f2 := l) HK 1 rfl _ _ rfl rfl rfl rfl ?_; intro _ HK'; simp only [List.set] at HK'; replace HK := HK'; clear HK') | refine zX (kexec_ms HK 0 _ (by rfl) (by rfl) (by rfl)) ?_ | refine zX (kexec_ml HK 0 _ (by rfl) (by rfl) (by rfl)) ?_ | refine zX (kexec_mm HK 0 _ (by rfl) (by rfl) (by rfl)) ?_)
  exact ret_va Tryz.results79 rfl rfl rfl (HK.out.blk 1 rfl) ⟨rfl, HK.out.b⟩
 ·rw [Mt.rd_3 hok hn]
  have hix := ix_th2 s l m
  clear hok hn
  dsimp only
  go_enter Tryz.func79, Tryz.ntmps79
  go_wp2_with (first | refine zX (kexec_lm HK 0 _ (by rfl) (by rfl) (by rfl)) ?_)
  refine (HM.out _).mono ?_; rintro e w1 ⟨rfl, b1⟩
  replace HK := hkC HK b1; clear b1
  go_wp2_with (first | refine zX (kexec_mn HK 0 _ (by rfl) (by rfl) (by rfl)) ?_ | refine zX (kexec_lm HK 0 _ (by rfl) (by rfl) (by rfl)) ?_ | (refine wpList_sv (f2 := m) HK 1 rfl _ _ rfl rfl rfl rfl ?_; intro _ HK'; simp only [List.set] at HK'; replace HK := HK'; clear HK') | refine zX (kexec_ms HK 0 _ (by rfl) (by rfl) (by rfl)) ?_ | refine zX (kexec_ml HK 0 _ (by rfl) (by rfl) (by rfl)) ?_ | refine zX (kexec_mm HK 0 _ (by rfl) (by rfl) (by rfl)) ?_)
  exact ret_va Tryz.results79 rfl rfl rfl (HK.out.blk 1 rfl) ⟨rfl, HK.out.b⟩
end Go.Proofs.YtpkodjllljnleaaGreat
