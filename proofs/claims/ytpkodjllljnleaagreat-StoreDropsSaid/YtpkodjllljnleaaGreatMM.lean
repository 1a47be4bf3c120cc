/- What named, fits, size, number, held, having, checkNew return. No condition but those named. -/
import Derived.Test.YtpkodjllljnleaaGreatTk
import Derived.Test.YtpkodjllljnleaaGreatML
import Derived.Test.YtpkodjllljnleaaGreatMH
import Derived.Test.YtpkodjllljnleaaGreatMI
import Derived.Test.YtpkodjllljnleaaGreatMJ
import Derived.Test.YtpkodjllljnleaaGreatMK
import Derived.Test.YtpkodjllljnleaaGreatMG
import Derived.Deep.CutBlock
import Derived.Deep.DeepCutAuto
set_option linter.unusedSimpArgs false
set_option linter.unusedVariables false
namespace Go.Proofs.YtpkodjllljnleaaGreat
open Go.RowKit
set_option maxRecDepth 100000 in
set_option maxHeartbeats 3200000 in
theorem snamed_any (s : ByteArray) (w : World) : Calls Tryz.prog 40 #[.string s] w (IsB (decide (Sto.named s)) w) := by
 unfold IsB
 by_cases h : s.size = 0
 ·have h1 : s.toList = [] := emp_l.1 h
  have hd : decide (Sto.named s) = false := decide_eq_false fun g => g.1 h
  rw [hd]
  clear hd h
  go_enter Tryz.func40, Tryz.ntmps40
  go_wp2_with fail
  go_ret
  exact ⟨rfl, Below.refl _ _⟩
 ·have h1 : ¬ s.toList = [] := fun g => h (emp_l.2 g)
  by_cases h2 : s.size ≤ 16
  ·have hd : decide (Sto.named s) = true := decide_eq_true ⟨h, h2⟩
   rw [hd]
   clear hd
   go_enter Tryz.func40, Tryz.ntmps40
   go_wp2_with fail
   go_ret
   exact ⟨by simp [h1]; omega, Below.refl _ _⟩
  ·have hd : decide (Sto.named s) = false := decide_eq_false fun g => h2 g.2
   rw [hd]
   clear hd
   go_enter Tryz.func40, Tryz.ntmps40
   go_wp2_with fail
   go_ret
   exact ⟨by simp [h1]; omega, Below.refl _ _⟩
theorem fits_none {k z : Int} (h : ¬ (5 ≤ k ∧ k ≤ 17)) : Sto.fits k z = false := by
 unfold Sto.fits
 rw [if_neg (by omega), if_neg (by omega), if_neg (by omega), if_neg (by omega), if_neg (by omega), if_neg (by omega)]
set_option maxRecDepth 100000 in
set_option maxHeartbeats 3200000 in
theorem sfits_any (k z : Int) (w : World) : Calls Tryz.prog 100 #[.int .i64 k, .int .i64 z] w (IsB (Sto.fits k z) w) := by
 unfold IsB
 have hk : k = 5 ∨ k = 17 ∨ k = 6 ∨ k = 7 ∨ k = 8 ∨ k = 9 ∨ k = 10 ∨ k = 11 ∨ k = 12 ∨ k = 13 ∨ k = 14 ∨ k = 15 ∨ k = 16 ∨ ¬ (5 ≤ k ∧ k ≤ 17) := by omega
 rcases hk with rfl | rfl | rfl | rfl | rfl | rfl | rfl | rfl | rfl | rfl | rfl | rfl | rfl | h
 case inr.inr.inr.inr.inr.inr.inr.inr.inr.inr.inr.inr.inr =>
  rw [fits_none h]
  have n5 : ¬ k = 5 := by omega
  have n6 : ¬ k = 6 := by omega
  have n7 : ¬ k = 7 := by omega
  have n8 : ¬ k = 8 := by omega
  have n9 : ¬ k = 9 := by omega
  have n10 : ¬ k = 10 := by omega
  have n11 : ¬ k = 11 := by omega
  have n12 : ¬ k = 12 := by omega
  have n13 : ¬ k = 13 := by omega
  have n14 : ¬ k = 14 := by omega
  have n15 : ¬ k = 15 := by omega
  have n16 : ¬ k = 16 := by omega
  have n17 : ¬ k = 17 := by omega
  clear h
  go_enter Tryz.func100, Tryz.ntmps100
  go_wp2_with fail
  go_ret
  exact ⟨rfl, Below.refl _ _⟩
 all_goals
  unfold Sto.fits
  simp only [reduceCtorEq, Int.reduceEq, or_true, true_or, or_false, false_or, if_true, if_false]
  go_enter Tryz.func100, Tryz.ntmps100
  go_wp2_with fail
  go_ret
  exact ⟨rfl, Below.refl _ _⟩
set_option maxRecDepth 100000 in
set_option maxHeartbeats 3200000 in
theorem snumber_any (n : Int) (w : World) : Calls Tryz.prog 62 #[.int .i64 n] w (fun e w' => e = .returned (.agg #[.int .i64 1, .int .i64 n, .int .u64 ((0 : Nat) : Int), .string ⟨#[]⟩]) ∧ Below w.heap.size w w') := by
 have HK := kn1 w 27 (vC 0 0 0 ⟨#[]⟩)
 go_enter Tryz.func62, Tryz.ntmps62
 go_wp2_with (first | (refine wpList_sv (f2 := 0) HK 0 rfl _ _ rfl rfl rfl rfl ?_; intro _ HK'; simp only [List.set] at HK'; replace HK := HK'; clear HK'))
 exact ret_v Tryz.results62 rfl rfl (HK.out.blk 0 rfl) ⟨rfl, HK.out.b⟩
def IsOt (l : List Sto.Ot) (w : World) (e : Ending) (w' : World) : Prop := ∃ A n c, e = .returned (.slice A n c) ∧ (∀ (b0 : Nat) (w0 : World) L R, Kn b0 w0 w L R → Kn b0 w0 w' L (R ++ [row otLay (.slice A n c) l])) ∧ Below w.heap.size w w'
set_option maxRecDepth 100000 in
set_option maxHeartbeats 3200000 in
theorem sheld_any (y : Rf) (h : Bool) (w : World) : Calls Tryz.prog 36 #[.agg #[.int .i64 y.c, .int .i64 y.e, .int .i64 y.r], .bool h] w (IsOt (Sto.held y h) w) := by
 have HK := kn1 w 24 #[.int .i64 y.c, .int .i64 y.e, .int .i64 y.r]
 cases h
 ·show Calls _ _ _ _ (IsOt [] w)
  unfold IsOt
  go_enter Tryz.func36, Tryz.ntmps36
  go_wp2_with fail
  go_ret
  exact ⟨_, _, _, rfl, fun b0 w0 L R h => ((h.call HK.out.b).nilR otLay), HK.out.b⟩
 ·show Calls _ _ _ _ (IsOt [⟨y, Sto.rz⟩] w)
  unfold IsOt
  go_enter Tryz.func36, Tryz.ntmps36
  go_wp2_with (first | refine wpList_exe (kexec_lr HK 0 _ (by rfl) (by rfl) (by rfl)) (by rfl) ?_ | refine wpList_exe (exec_bo1 (r := y) _ (by rfl) (by rfl)) (by rfl) ?_ | (refine wpList_mk1 otLay (p := ⟨y, Sto.rz⟩) HK (by decide) rfl _ rfl rfl rfl ?_; intro w2 g5 HK'; simp only [lcA, lnA] at HK'; replace HK := HK'; clear HK'))
  go_ret
  exact ⟨_, _, _, rfl, fun b0 w0 L R h => h.called HK.out.b (HK.out.own 0 rfl), HK.out.b⟩
set_option maxRecDepth 100000 in
set_option maxHeartbeats 3200000 in
theorem checkNew_any (A B : Option Addr) (n c m d : Nat) (k : Bool) (w : World) (hk : k = decide (0 < m)) :
  Calls Tryz.prog 45 #[.slice A n c, .slice B m d] w (fun e w' => e = .returned (.int .i64 (if k = true then 8 else if n = 8 then 6 else 0)) ∧ Below w.heap.size w w') := by
 subst hk
 by_cases h : 0 < m
 ·rw [if_pos (decide_eq_true h)]
  go_enter Tryz.func45, Tryz.ntmps45
  go_wp2_with fail
  go_ret
  exact ⟨rfl, Below.refl _ _⟩
 ·rw [if_neg (by simpa using h)]
  by_cases h2 : n = 8
  ·subst h2
   rw [if_pos rfl]
   go_enter Tryz.func45, Tryz.ntmps45
   go_wp2_with fail
   go_ret
   exact ⟨rfl, Below.refl _ _⟩
  ·rw [if_neg h2]
   have h3 : ((n : Int) == 8) = false := by simpa using (by omega : ¬ (n : Int) = 8)
   clear h2
   go_enter Tryz.func45, Tryz.ntmps45
   go_wp2_with fail
   go_ret
   exact ⟨rfl, Below.refl _ _⟩
set_option maxRecDepth 100000 in
set_option maxHeartbeats 3200000 in
theorem ssize_any (x : Oh) (w : World) (hx : In w x) : Calls Tryz.prog 63 #[.agg (obA x)] w (fun e w' => e = .returned (.int .i64 (Sto.size x.v)) ∧ Below w.heap.size w w') := by
 have hp := hx.p.len
 have hv := hx.v.len
 have hr := hx.r.len
 have HK := kn1 w 55 (obA x)
 unfold Sto.size
 rw [hp, hv, hr]
 clear hp hv hr hx
 by_cases h1 : x.v.kind = 1
 ·rw [if_pos h1]
  go_enter Tryz.func63, Tryz.ntmps63
  go_wp2_with (first | refine wpList_exe (kob_k HK 0 _ (by rfl) (by rfl) (by rfl)) (by rfl) ?_ | refine wpList_exe (kob_p HK 0 _ (by rfl) (by rfl) (by rfl)) (by rfl) ?_)
  go_ret
  exact ⟨rfl, HK.out.b⟩
 rw [if_neg h1]
 by_cases h2 : x.v.kind = 2
 ·rw [if_pos h2]
  go_enter Tryz.func63, Tryz.ntmps63
  go_wp2_with (first | refine wpList_exe (kob_k HK 0 _ (by rfl) (by rfl) (by rfl)) (by rfl) ?_ | refine wpList_exe (kob_v HK 0 _ (by rfl) (by rfl) (by rfl)) (by rfl) ?_)
  go_ret
  exact ⟨rfl, HK.out.b⟩
 rw [if_neg h2]
 by_cases h5 : x.v.kind = 5
 ·rw [if_pos h5]
  go_enter Tryz.func63, Tryz.ntmps63
  go_wp2_with (first | refine wpList_exe (kob_k HK 0 _ (by rfl) (by rfl) (by rfl)) (by rfl) ?_ | refine wpList_exe (kob_mn HK 0 _ (by rfl) (by rfl) (by rfl)) (by rfl) ?_)
  go_ret
  exact ⟨rfl, HK.out.b⟩
 ·rw [if_neg h5]
  go_enter Tryz.func63, Tryz.ntmps63
  go_wp2_with (first | refine wpList_exe (kob_k HK 0 _ (by rfl) (by rfl) (by rfl)) (by rfl) ?_ | refine wpList_exe (kob_r HK 0 _ (by rfl) (by rfl) (by rfl)) (by rfl) ?_)
  go_ret
  exact ⟨rfl, HK.out.b⟩
end Go.Proofs.YtpkodjllljnleaaGreat
namespace Go.Proofs.YtpkodjllljnleaaGreat
open Go.RowKit
theorem isH {k : Int} {b0 b1 b2 b3 b4 b5 ok : Bool} {w : World} {e : Ending} {w' : World} (h : IsN b0 b1 b2 b3 b4 b5 ok w e w') (e0 : Sto.h0 k = b0) (e1 : Sto.h1 k = b1) (e2 : Sto.h2 k = b2) (e3 : Sto.h3 k = b3) (e4 : Sto.h4 k = b4) (e5 : Sto.h5 k = b5) (e6 : Sto.is k = ok) :
  IsN (Sto.h0 k) (Sto.h1 k) (Sto.h2 k) (Sto.h3 k) (Sto.h4 k) (Sto.h5 k) (Sto.is k) w e w' := by
 rw [e0, e1, e2, e3, e4, e5, e6]; exact h
set_option maxRecDepth 100000 in
set_option maxHeartbeats 3200000 in
theorem having_any (k : Int) (w : World) : Calls Tryz.prog 89 #[.int .i64 k] w (IsN (Sto.h0 k) (Sto.h1 k) (Sto.h2 k) (Sto.h3 k) (Sto.h4 k) (Sto.h5 k) (Sto.is k) w) := by
 have hk : k = 1 ∨ k = 2 ∨ k = 3 ∨ k = 4 ∨ k = 5 ∨ ¬ (1 ≤ k ∧ k ≤ 5) := by omega
 rcases hk with rfl | rfl | rfl | rfl | rfl | h
 case inr.inr.inr.inr.inr =>
  have n1 : ¬ k = 1 := by omega
  have n2 : ¬ k = 2 := by omega
  have n3 : ¬ k = 3 := by omega
  have n4 : ¬ k = 4 := by omega
  have n5 : ¬ k = 5 := by omega
  refine Calls.mono (R := IsN false false false false false false false w) ?_ fun e w' hh => isH hh (by unfold Sto.h0; simp [n2, n4]) (by unfold Sto.h1; simp [n1]) (by unfold Sto.h2; simp [n2]) (by unfold Sto.h3; simp [n3, n4]) (by unfold Sto.h4; simp [n4]) (by unfold Sto.h5; simp [n5]) (by unfold Sto.is; simp; omega)
  clear h
  go_enter Tryz.func89, Tryz.ntmps89
  go_wp2_with fail
  exact ret_fln Tryz.results89 rfl rfl rfl (Blk.new w _ _) ⟨rfl, (Below.refl _ w).alloc (Nat.le_refl _) _⟩
 all_goals
  go_enter Tryz.func89, Tryz.ntmps89
  go_wp2_with fail
  exact ret_fln Tryz.results89 rfl rfl rfl (Blk.new w _ _) ⟨rfl, (Below.refl _ w).alloc (Nat.le_refl _) _⟩
theorem exec_mne {w : World} {o : Oper} {a : Act} {x y : Mtr} {b : Bool} (p q : Operand) (ho : o.op = .binOp .neq 53 p q 53) (hx : a.eval p = .agg #[.int .i64 x.n, .int .u64 (x.s : Int), .int .u64 (x.l : Int), .int .u64 (x.m : Int)]) (hy : a.eval q = .agg #[.int .i64 y.n, .int .u64 (y.s : Int), .int .u64 (y.l : Int), .int .u64 (y.m : Int)]) (hb : (!decide (x = y)) = b) :
  (execOp a.eval o).run Tryz.prog w = .ok (.value (.bool b)) w := by
 rw [meq_all] at hb
 subst hb
 unfold execOp
 simp only [ho, hx, hy]
 go_simp
 by_cases h1 : x.n = y.n <;> by_cases h2 : (x.s : Int) = (y.s : Int) <;> by_cases h3 : (x.l : Int) = (y.l : Int) <;> by_cases h4 : (x.m : Int) = (y.m : Int) <;> simp [h1, h2, h3, h4]
set_option maxRecDepth 100000 in
set_option maxHeartbeats 6400000 in
theorem sfilled_any (x : Oh) (w : World) (hx : In w x) : Calls Tryz.prog 90 #[.agg (obA x)] w (IsF (Sto.f0 x.v) (Sto.f1 x.v) (Sto.f2 x.v) (Sto.f3 x.v) (Sto.f4 x.v) (Sto.f5 x.v) w) := by
 have hp := hx.p.len
 have hv := hx.v.len
 have hr := hx.r.len
 unfold IsF Sto.f0 Sto.f1 Sto.f2 Sto.f3 Sto.f4 Sto.f5
 rw [hp, hv, hr]
 clear hp hv hr hx
 have HK := kn2 w 55 (obA x) 112 (fl false false false false false false)
 go_enter Tryz.func90, Tryz.ntmps90
 go_wp2_with fail
 replace HK := zH HK.out.drew
 refine wp_region_held_drew (S := (fun W => Hid (Kn w.heap.size w W [(w.heap.size, 55, obA x)] []))) (by kernel_rfl) ?_ (fun hHeld => ?_)
 ·(try dsimp only); exact zH (HK.out.takeL 1)
 refine wpAnyH_take (i := 0) (oi := ⟨some 3, _, _, _, _, _⟩) (v := ?_) rfl (by kernel_rfl) (by kernel_rfl) (by kernel_rfl) (fun _ _ _ h => h) (Or.inl ⟨by rfl, ?_⟩) (by assumption) ?_
 rotate_left
 ·(intro w hSw; (try dsimp only at hSw); go_simp; try with_reducible rfl)
 try simp only [Act.put, List.setIfInBounds_toArray, List.set_cons_zero, List.set_cons_succ]
 refine wpAnyH_take (i := 1) (oi := ⟨some 4, _, _, _, _, _⟩) (v := ?_) rfl (by kernel_rfl) (by kernel_rfl) (by kernel_rfl) (fun _ _ _ h => h) (Or.inl ⟨by rfl, ?_⟩) (by assumption) ?_
 rotate_left
 ·(intro w hSw; refine Eq.trans (kob_c hSw 0 _ (by rfl) (by rfl) (by rfl)) ?_; with_reducible rfl)
 try simp only [Act.put, List.setIfInBounds_toArray, List.set_cons_zero, List.set_cons_succ]
 refine wpAnyH_take (i := 2) (oi := ⟨some 5, _, _, _, _, _⟩) (v := ?_) rfl (by kernel_rfl) (by kernel_rfl) (by kernel_rfl) (fun _ _ _ h => h) (Or.inl ⟨by rfl, ?_⟩) (by assumption) ?_
 rotate_left
 ·(intro w hSw; (try dsimp only at hSw); go_simp; try with_reducible rfl)
 try simp only [Act.put, List.setIfInBounds_toArray, List.set_cons_zero, List.set_cons_succ]
 refine wpAnyH_take (i := 3) (oi := ⟨some 6, _, _, _, _, _⟩) (v := ?_) rfl (by kernel_rfl) (by kernel_rfl) (by kernel_rfl) (fun _ _ _ h => h) (Or.inl ⟨by rfl, ?_⟩) (by assumption) ?_
 rotate_left
 ·(intro w hSw; (try dsimp only at hSw); go_simp; try with_reducible rfl)
 try simp only [Act.put, List.setIfInBounds_toArray, List.set_cons_zero, List.set_cons_succ]
 refine wpAnyH_take (i := 4) (oi := ⟨some 7, _, _, _, _, _⟩) (v := ?_) rfl (by kernel_rfl) (by kernel_rfl) (by kernel_rfl) (fun _ _ _ h => h) (Or.inl ⟨by rfl, ?_⟩) (by assumption) ?_
 rotate_left
 ·(intro w hSw; refine Eq.trans (kob_p hSw 0 _ (by rfl) (by rfl) (by rfl)) ?_; with_reducible rfl)
 try simp only [Act.put, List.setIfInBounds_toArray, List.set_cons_zero, List.set_cons_succ]
 refine wpAnyH_take (i := 5) (oi := ⟨some 8, _, _, _, _, _⟩) (v := ?_) rfl (by kernel_rfl) (by kernel_rfl) (by kernel_rfl) (fun _ _ _ h => h) (Or.inl ⟨by rfl, ?_⟩) (by assumption) ?_
 rotate_left
 ·(intro w hSw; (try dsimp only at hSw); go_simp; try with_reducible rfl)
 try simp only [Act.put, List.setIfInBounds_toArray, List.set_cons_zero, List.set_cons_succ]
 refine wpAnyH_take (i := 6) (oi := ⟨some 9, _, _, _, _, _⟩) (v := ?_) rfl (by kernel_rfl) (by kernel_rfl) (by kernel_rfl) (fun _ _ _ h => h) (Or.inl ⟨by rfl, ?_⟩) (by assumption) ?_
 rotate_left
 ·(intro w hSw; (try dsimp only at hSw); go_simp; try with_reducible rfl)
 try simp only [Act.put, List.setIfInBounds_toArray, List.set_cons_zero, List.set_cons_succ]
 refine wpAnyH_take (i := 7) (oi := ⟨some 10, _, _, _, _, _⟩) (v := ?_) rfl (by kernel_rfl) (by kernel_rfl) (by kernel_rfl) (fun _ _ _ h => h) (Or.inl ⟨by rfl, ?_⟩) (by assumption) ?_
 rotate_left
 ·(intro w hSw; (try dsimp only at hSw); go_simp; try with_reducible rfl)
 try simp only [Act.put, List.setIfInBounds_toArray, List.set_cons_zero, List.set_cons_succ]
 refine wpAnyH_take (i := 8) (oi := ⟨some 11, _, _, _, _, _⟩) (v := ?_) rfl (by kernel_rfl) (by kernel_rfl) (by kernel_rfl) (fun _ _ _ h => h) (Or.inl ⟨by rfl, ?_⟩) (by assumption) ?_
 rotate_left
 ·(intro w hSw; refine Eq.trans (kob_v hSw 0 _ (by rfl) (by rfl) (by rfl)) ?_; with_reducible rfl)
 try simp only [Act.put, List.setIfInBounds_toArray, List.set_cons_zero, List.set_cons_succ]
 refine wpAnyH_take (i := 9) (oi := ⟨some 12, _, _, _, _, _⟩) (v := ?_) rfl (by kernel_rfl) (by kernel_rfl) (by kernel_rfl) (fun _ _ _ h => h) (Or.inl ⟨by rfl, ?_⟩) (by assumption) ?_
 rotate_left
 ·(intro w hSw; (try dsimp only at hSw); go_simp; try with_reducible rfl)
 try simp only [Act.put, List.setIfInBounds_toArray, List.set_cons_zero, List.set_cons_succ]
 refine wpAnyH_take (i := 10) (oi := ⟨some 13, _, _, _, _, _⟩) (v := ?_) rfl (by kernel_rfl) (by kernel_rfl) (by kernel_rfl) (fun _ _ _ h => h) (Or.inl ⟨by rfl, ?_⟩) (by assumption) ?_
 rotate_left
 ·(intro w hSw; (try dsimp only at hSw); go_simp; try with_reducible rfl)
 try simp only [Act.put, List.setIfInBounds_toArray, List.set_cons_zero, List.set_cons_succ]
 refine wpAnyH_take (i := 11) (oi := ⟨some 14, _, _, _, _, _⟩) (v := ?_) rfl (by kernel_rfl) (by kernel_rfl) (by kernel_rfl) (fun _ _ _ h => h) (Or.inl ⟨by rfl, ?_⟩) (by assumption) ?_
 rotate_left
 ·(intro w hSw; (try dsimp only at hSw); go_simp; try with_reducible rfl)
 try simp only [Act.put, List.setIfInBounds_toArray, List.set_cons_zero, List.set_cons_succ]
 refine wpAnyH_take (i := 12) (oi := ⟨some 15, _, _, _, _, _⟩) (v := ?_) rfl (by kernel_rfl) (by kernel_rfl) (by kernel_rfl) (fun _ _ _ h => h) (Or.inl ⟨by rfl, ?_⟩) (by assumption) ?_
 rotate_left
 ·(intro w hSw; refine Eq.trans (kob_r hSw 0 _ (by rfl) (by rfl) (by rfl)) ?_; with_reducible rfl)
 try simp only [Act.put, List.setIfInBounds_toArray, List.set_cons_zero, List.set_cons_succ]
 refine wpAnyH_take (i := 13) (oi := ⟨some 16, _, _, _, _, _⟩) (v := ?_) rfl (by kernel_rfl) (by kernel_rfl) (by kernel_rfl) (fun _ _ _ h => h) (Or.inl ⟨by rfl, ?_⟩) (by assumption) ?_
 rotate_left
 ·(intro w hSw; (try dsimp only at hSw); go_simp; try with_reducible rfl)
 try simp only [Act.put, List.setIfInBounds_toArray, List.set_cons_zero, List.set_cons_succ]
 refine wpAnyH_take (i := 14) (oi := ⟨some 17, _, _, _, _, _⟩) (v := ?_) rfl (by kernel_rfl) (by kernel_rfl) (by kernel_rfl) (fun _ _ _ h => h) (Or.inl ⟨by rfl, ?_⟩) (by assumption) ?_
 rotate_left
 ·(intro w hSw; (try dsimp only at hSw); go_simp; try with_reducible rfl)
 try simp only [Act.put, List.setIfInBounds_toArray, List.set_cons_zero, List.set_cons_succ]
 refine wpAnyH_take (i := 15) (oi := ⟨some 18, _, _, _, _, _⟩) (v := ?_) rfl (by kernel_rfl) (by kernel_rfl) (by kernel_rfl) (fun _ _ _ h => h) (Or.inl ⟨by rfl, ?_⟩) (by assumption) ?_
 rotate_left
 ·(intro w hSw; (try dsimp only at hSw); go_simp; try with_reducible rfl)
 try simp only [Act.put, List.setIfInBounds_toArray, List.set_cons_zero, List.set_cons_succ]
 refine wpAnyH_take (i := 16) (oi := ⟨some 19, _, _, _, _, _⟩) (v := ?_) rfl (by kernel_rfl) (by kernel_rfl) (by kernel_rfl) (fun _ _ _ h => h) (Or.inl ⟨by rfl, ?_⟩) (by assumption) ?_
 rotate_left
 ·(intro w hSw; refine Eq.trans (kob_d hSw 0 _ (by rfl) (by rfl) (by rfl)) ?_; with_reducible rfl)
 try simp only [Act.put, List.setIfInBounds_toArray, List.set_cons_zero, List.set_cons_succ]
 refine wpAnyH_take (i := 17) (oi := ⟨some 20, _, _, _, _, _⟩) (v := ?_) rfl (by kernel_rfl) (by kernel_rfl) (by kernel_rfl) (fun _ _ _ h => h) (Or.inl ⟨by rfl, ?_⟩) (by assumption) ?_
 rotate_left
 ·(intro w hSw; (try dsimp only at hSw); go_simp; try with_reducible rfl)
 try simp only [Act.put, List.setIfInBounds_toArray, List.set_cons_zero, List.set_cons_succ]
 refine wpAnyH_take (i := 18) (oi := ⟨some 21, _, _, _, _, _⟩) (v := ?_) rfl (by kernel_rfl) (by kernel_rfl) (by kernel_rfl) (fun _ _ _ h => h) (Or.inl ⟨by rfl, ?_⟩) (by assumption) ?_
 rotate_left
 ·(intro w hSw; (try dsimp only at hSw); go_simp; try with_reducible rfl)
 try simp only [Act.put, List.setIfInBounds_toArray, List.set_cons_zero, List.set_cons_succ]
 refine wpAnyH_take (i := 19) (oi := ⟨some 22, _, _, _, _, _⟩) (v := ?_) rfl (by kernel_rfl) (by kernel_rfl) (by kernel_rfl) (fun _ _ _ h => h) (Or.inl ⟨by rfl, ?_⟩) (by assumption) ?_
 rotate_left
 ·(intro w hSw; refine Eq.trans (kob_m hSw 0 _ (by rfl) (by rfl) (by rfl)) ?_; with_reducible rfl)
 try simp only [Act.put, List.setIfInBounds_toArray, List.set_cons_zero, List.set_cons_succ]
 refine wpAnyH_take (i := 20) (oi := ⟨some 23, _, _, _, _, _⟩) (v := ?_) rfl (by kernel_rfl) (by kernel_rfl) (by kernel_rfl) (fun _ _ _ h => h) (Or.inl ⟨by rfl, ?_⟩) (by assumption) ?_
 rotate_left
 ·(intro w hSw; (try dsimp only at hSw); go_simp; try with_reducible rfl)
 try simp only [Act.put, List.setIfInBounds_toArray, List.set_cons_zero, List.set_cons_succ]
 refine wpAnyH_take (i := 21) (oi := ⟨some 24, _, _, _, _, _⟩) (v := ?_) rfl (by kernel_rfl) (by kernel_rfl) (by kernel_rfl) (fun _ _ _ h => h) (Or.inl ⟨by rfl, ?_⟩) (by assumption) ?_
 rotate_left
 ·(intro w hSw; refine Eq.trans (exec_mne (x := x.v.mt) (y := Mt.zero) _ _ (by rfl) (by rfl) (by rfl) (b := !decide (x.v.mt = Mt.zero)) rfl) ?_; with_reducible rfl)
 try simp only [Act.put, List.setIfInBounds_toArray, List.set_cons_zero, List.set_cons_succ]
 refine wpAnyH_take (i := 22) (oi := ⟨some 25, _, _, _, _, _⟩) (v := ?_) rfl (by kernel_rfl) (by kernel_rfl) (by kernel_rfl) (fun _ _ _ h => h) (Or.inl ⟨by rfl, ?_⟩) (by assumption) ?_
 rotate_left
 ·(intro w hSw; (try dsimp only at hSw); go_simp; try with_reducible rfl)
 try simp only [Act.put, List.setIfInBounds_toArray, List.set_cons_zero, List.set_cons_succ]
 refine wpAnyH_ready (rs := [23]) (by kernel_rfl) (by simp) ?_
 refine AllReadyH.cons (o := ⟨none, _, _, _, _, _⟩) rfl (fun K hK => ?_) AllReadyH.nil
 refine step_ss HK 1 (by rfl) _ _ _ (by rfl) (by rfl) (by rfl) (by rfl) (by show 6 ≤ 6; decide) info_fl (by simp [Value.oneCell']) ?_; intro _ HK' _; simp only [List.set] at HK'; replace HK := HK'; clear HK'; have hs := zH (HK.out.takeL 1)
 refine hK.out _ _ hs (fun hHeld => ?_)
 clear hK K
 try simp only [ap1, ap2, ap3, ap4, ap5]
 refine wpAnyH_done (by kernel_rfl) ?_ _
 go_wp2_with fail
 refine ret_fl (b0 := !decide (x.v.cap = 0)) (b1 := decide (0 < x.pn)) (b2 := decide (0 < x.vn)) (b3 := decide (0 < x.rn)) (b4 := !decide (x.v.round = 0)) Tryz.results90 rfl rfl ?_ ⟨rfl, HK.out.b⟩
 have hb := HK.out.blk 1 rfl
 clear HK hHeld
 simp [putCells, fl] at hb ⊢
 exact hb
theorem clean_at (o : Sto.Ob) : Sto.clean o = true ↔ Sto.is o.kind = true ∧ ∀ j, j < 6 → ¬ (at6 (Sto.f0 o) (Sto.f1 o) (Sto.f2 o) (Sto.f3 o) (Sto.f4 o) (Sto.f5 o) j = true ∧ at6 (Sto.h0 o.kind) (Sto.h1 o.kind) (Sto.h2 o.kind) (Sto.h3 o.kind) (Sto.h4 o.kind) (Sto.h5 o.kind) j = false) := by
 unfold Sto.clean
 generalize Sto.f0 o = b0
 generalize Sto.f1 o = b1
 generalize Sto.f2 o = b2
 generalize Sto.f3 o = b3
 generalize Sto.f4 o = b4
 generalize Sto.f5 o = b5
 generalize Sto.h0 o.kind = a0
 generalize Sto.h1 o.kind = a1
 generalize Sto.h2 o.kind = a2
 generalize Sto.h3 o.kind = a3
 generalize Sto.h4 o.kind = a4
 generalize Sto.h5 o.kind = a5
 have key : ∀ b a : Bool, (!b || a) = true ↔ ¬ (b = true ∧ a = false) := fun b a => by cases b <;> cases a <;> simp
 simp only [Bool.and_eq_true, key]
 constructor
 ·rintro ⟨h, ⟨⟨⟨⟨⟨g0, g1⟩, g2⟩, g3⟩, g4⟩, g5⟩⟩
  refine ⟨h, fun j hj => ?_⟩
  match j, hj with
  | 0, _ => exact g0
  | 1, _ => exact g1
  | 2, _ => exact g2
  | 3, _ => exact g3
  | 4, _ => exact g4
  | 5, _ => exact g5
 ·rintro ⟨h, g⟩
  exact ⟨h, ⟨⟨⟨⟨⟨g 0 (by decide), g 1 (by decide)⟩, g 2 (by decide)⟩, g 3 (by decide)⟩, g 4 (by decide)⟩, g 5 (by decide)⟩⟩
set_option maxRecDepth 100000 in
set_option maxHeartbeats 12800000 in
theorem clean_any (x : Oh) (w : World) (hx : In w x) : Calls Tryz.prog 41 #[.agg (obA x)] w (IsB (Sto.clean x.v) w) := by
 have HN := zH (fun W => having_any x.v.kind W)
 have HF := zH (fun W (hW : Below w.heap.size w W) => sfilled_any x W (hx.later hW))
 have H0 := zH (clean_at x.v)
 clear hx
 unfold IsB IsN IsF at *
 generalize Sto.clean x.v = z at *
 generalize Sto.h0 x.v.kind = a0 at *
 generalize Sto.h1 x.v.kind = a1 at *
 generalize Sto.h2 x.v.kind = a2 at *
 generalize Sto.h3 x.v.kind = a3 at *
 generalize Sto.h4 x.v.kind = a4 at *
 generalize Sto.h5 x.v.kind = a5 at *
 generalize Sto.is x.v.kind = ok at *
 generalize Sto.f0 x.v = b0 at *
 generalize Sto.f1 x.v = b1 at *
 generalize Sto.f2 x.v = b2 at *
 generalize Sto.f3 x.v = b3 at *
 generalize Sto.f4 x.v = b4 at *
 generalize Sto.f5 x.v = b5 at *
 have HK := kn1 w 55 (obA x)
 go_enter Tryz.func41, Tryz.ntmps41
 go_wp2_with (first | refine wpList_exe (kob_k HK 0 _ (by rfl) (by rfl) (by rfl)) (by rfl) ?_)
 refine (HN.out _).mono ?_; rintro e w1 ⟨rfl, x1⟩
 replace HK := hkC HK x1
 clear x1
 go_upto_region 2 with (first | (refine wpList_akF HK rfl rfl ?_; intro _ g3 HK'; simp only [lcA, lnA] at HK'; replace HK := HK'; clear HK') | (refine wpList_sfL HK 1 rfl _ _ rfl rfl rfl rfl ?_; intro _ HK' _; simp only [List.set] at HK'; replace HK := HK'; clear HK'))
 go_wp2_with (first | refine wpList_exe (kob HK 0 _ (by rfl) (by rfl) (by rfl)) (by rfl) ?_)
 refine (HF.out _ HK.out.b).mono ?_; rintro e w2 ⟨rfl, x2⟩
 replace HK := hkC HK x2
 clear x2
 go_upto_region 3 with (first | (refine wpList_akF HK rfl rfl ?_; intro _ g4 HK'; simp only [lcA, lnA] at HK'; replace HK := HK'; clear HK') | (refine wpList_sfL HK 2 rfl _ _ rfl rfl rfl rfl ?_; intro wz HK' _; simp only [List.set] at HK'; replace HK := HK'; clear HK'))
 have HG : Hid (∀ j, j < 6 → wz.cell? ⟨g3, j, none⟩ = some (.bool (at6 a0 a1 a2 a3 a4 a5 j)) ∧ wz.cell? ⟨g4, j, none⟩ = some (.bool (at6 b0 b1 b2 b3 b4 b5 j))) := zH fun j hj => And.intro (HK.out.cell 1 rfl j (at6_cell hj)) (HK.out.cell 2 rfl j (at6_cell hj))
 have HKB := zH HK.out.b
 clear HK HN HF
 generalize HA : at6 a0 a1 a2 a3 a4 a5 = fa at *
 generalize HBf : at6 b0 b1 b2 b3 b4 b5 = fb at *
 clear HA HBf
 go_wp2_with fail
 go_loopw [15] (fun vi wr => ∃ k : Nat, k ≤ 6 ∧ vi = .int .i64 k ∧ wr = wz ∧ Hid (∀ j, j < k → ¬ (fb j = true ∧ fa j = false))) (fun vi _ => 6 - (intOf vi).toNat)
 case atStart => exact ⟨0, Nat.zero_le _, rfl, rfl, zH fun j hj => absurd hj (by omega)⟩
 case round =>
  obtain ⟨q, hq, rfl, rfl, hh⟩ := hrel
  by_cases hlt : q < 6
  ·obtain ⟨c1, c2⟩ := HG.out q hlt
   have hk1 : (0 : Int) ≤ (q : Int) := by omega
   have hk2 : (q : Int) < 6 := by omega
   have HS : Hid (¬ (fb q = true ∧ fa q = false) → ∀ j, j < q + 1 → ¬ (fb j = true ∧ fa j = false)) := zH fun h j hj => by
    by_cases e : j = q
    ·subst e; exact h
    ·exact hh.out j (by omega)
   have HX : Hid ((fb q = true ∧ fa q = false) → z = false) := zH fun h => Bool.eq_false_iff.2 fun hz => (H0.out.1 hz).2 q hlt h
   generalize fa q = xa at *
   generalize fb q = xb at *
   have hc : xb = false ∨ (xb = true ∧ xa = true) ∨ (xb = true ∧ xa = false) := by cases xa <;> cases xb <;> simp
   rcases hc with rfl | ⟨rfl, rfl⟩ | ⟨rfl, rfl⟩
   ·go_wp2_with fail
    exact ⟨⟨q + 1, by omega, by go_num, by simp, zH (HS.out (by simp))⟩, by simp [intOf]; omega⟩
   ·go_wp2_with fail
    exact ⟨⟨q + 1, by omega, by go_num, by simp, zH (HS.out (by simp))⟩, by simp [intOf]; omega⟩
   ·go_wp2_with fail
    go_ret
    have hz := HX.out (by simp)
    subst hz
    exact ⟨rfl, HKB.out⟩
  ·obtain rfl : q = 6 := by omega
   have hz : z = ok := by
    cases ok
    ·exact Bool.eq_false_iff.2 fun hz => by cases (H0.out.1 hz).1
    ·exact H0.out.2 ⟨rfl, hh.out⟩
   subst hz
   go_wp2_with fail
   go_ret
   exact ⟨rfl, HKB.out⟩
end Go.Proofs.YtpkodjllljnleaaGreat
namespace Go.Proofs.YtpkodjllljnleaaGreat
open Go.RowKit
set_option maxRecDepth 100000 in
set_option maxHeartbeats 6400000 in
theorem sound_any (x : Oh) (w : World) (hx : In w x) : Calls Tryz.prog 42 #[.agg (obA x)] w (IsB (Sto.sound x.v) w) := by
 have HI := zH hx
 have HK := kn1 w 55 (obA x)
 have HD := zH right_any
 have HQ := zH qright_any
 have HL := zH lright_any
 have HG := zH gright_any
 have HM := zH mright_any
 clear hx
 unfold IsB Sto.sound at *
 by_cases h1 : x.v.kind = 1
 ·rw [if_pos h1]
  go_enter Tryz.func42, Tryz.ntmps42
  go_wp2_with (first | refine wpList_exe (kob_k HK 0 _ (by rfl) (by rfl) (by rfl)) (by rfl) ?_ | refine wpList_exe (kob_p HK 0 _ (by rfl) (by rfl) (by rfl)) (by rfl) ?_)
  refine (HD.out _ _ _ _ _ (HI.out.p.later HK.out.b)).mono ?_; rintro e w1 ⟨rfl, b1⟩
  replace HK := hkC HK b1; clear b1
  go_wp2_with fail
  go_ret
  exact ⟨rfl, HK.out.b⟩
 rw [if_neg h1]
 by_cases h2 : x.v.kind = 2
 ·rw [if_pos h2]
  go_enter Tryz.func42, Tryz.ntmps42
  go_wp2_with (first | refine wpList_exe (kob_k HK 0 _ (by rfl) (by rfl) (by rfl)) (by rfl) ?_ | refine wpList_exe (kob_c HK 0 _ (by rfl) (by rfl) (by rfl)) (by rfl) ?_ | refine wpList_exe (kob_v HK 0 _ (by rfl) (by rfl) (by rfl)) (by rfl) ?_)
  refine (HQ.out _ _ _ _ _ _ (HI.out.v.later HK.out.b)).mono ?_; rintro e w1 ⟨rfl, b1⟩
  replace HK := hkC HK b1; clear b1
  go_wp2_with fail
  go_ret
  exact ⟨rfl, HK.out.b⟩
 rw [if_neg h2]
 by_cases h3 : x.v.kind = 3
 ·rw [if_pos h3]
  go_enter Tryz.func42, Tryz.ntmps42
  go_wp2_with (first | refine wpList_exe (kob_k HK 0 _ (by rfl) (by rfl) (by rfl)) (by rfl) ?_ | refine wpList_exe (kob_r HK 0 _ (by rfl) (by rfl) (by rfl)) (by rfl) ?_)
  refine (HL.out _ _ _ _ _ (HI.out.r.later HK.out.b)).mono ?_; rintro e w1 ⟨rfl, b1⟩
  replace HK := hkC HK b1; clear b1
  go_wp2_with fail
  go_ret
  exact ⟨rfl, HK.out.b⟩
 rw [if_neg h3]
 by_cases h4 : x.v.kind = 4
 ·rw [if_pos h4]
  generalize hg : decide (Gt.Right x.v.cap x.v.refs) = gb
  have HGb := zH hg
  clear hg
  cases gb
  ·go_enter Tryz.func42, Tryz.ntmps42
   go_wp2_with (first | refine wpList_exe (kob_k HK 0 _ (by rfl) (by rfl) (by rfl)) (by rfl) ?_ | refine wpList_exe (kob_c HK 0 _ (by rfl) (by rfl) (by rfl)) (by rfl) ?_ | refine wpList_exe (kob_r HK 0 _ (by rfl) (by rfl) (by rfl)) (by rfl) ?_)
   refine (HG.out _ _ _ _ _ _ (HI.out.r.later HK.out.b)).mono ?_; rintro e w1 ⟨rfl, b1⟩
   rw [HGb.out]
   replace HK := hkC HK b1; clear b1
   go_wp2_with fail
   go_ret
   exact ⟨rfl, HK.out.b⟩
  ·go_enter Tryz.func42, Tryz.ntmps42
   go_wp2_with (first | refine wpList_exe (kob_k HK 0 _ (by rfl) (by rfl) (by rfl)) (by rfl) ?_ | refine wpList_exe (kob_c HK 0 _ (by rfl) (by rfl) (by rfl)) (by rfl) ?_ | refine wpList_exe (kob_r HK 0 _ (by rfl) (by rfl) (by rfl)) (by rfl) ?_)
   refine (HG.out _ _ _ _ _ _ (HI.out.r.later HK.out.b)).mono ?_; rintro e w1 ⟨rfl, b1⟩
   rw [HGb.out]
   replace HK := hkC HK b1; clear b1
   go_wp2_with (first | refine wpList_exe (kob_d HK 0 _ (by rfl) (by rfl) (by rfl)) (by rfl) ?_)
   go_ret
   exact ⟨rfl, HK.out.b⟩
 rw [if_neg h4]
 by_cases h5 : x.v.kind = 5
 ·rw [if_pos h5]
  go_enter Tryz.func42, Tryz.ntmps42
  go_wp2_with (first | refine wpList_exe (kob_k HK 0 _ (by rfl) (by rfl) (by rfl)) (by rfl) ?_ | refine wpList_exe (kob_m HK 0 _ (by rfl) (by rfl) (by rfl)) (by rfl) ?_)
  refine (HM.out x.v.mt HI.out.m _).mono ?_; rintro e w1 ⟨rfl, b1⟩
  replace HK := hkC HK b1; clear b1
  go_wp2_with fail
  go_ret
  exact ⟨rfl, HK.out.b⟩
 ·rw [if_neg h5]
  go_enter Tryz.func42, Tryz.ntmps42
  go_wp2_with (first | refine wpList_exe (kob_k HK 0 _ (by rfl) (by rfl) (by rfl)) (by rfl) ?_)
  go_ret
  exact ⟨rfl, HK.out.b⟩
end Go.Proofs.YtpkodjllljnleaaGreat
