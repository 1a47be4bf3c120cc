/- The document's SameOuts of two rows of replies that read alike: true. No condition but those named. -/
import Derived.Test.YtpkodjllljnleaaGreatTk
import Derived.Test.YtpkodjllljnleaaGreatMO
set_option linter.unusedSimpArgs false
set_option linter.unusedVariables false
namespace Go.Proofs.YtpkodjllljnleaaGreat
open Go.RowKit
theorem exec_one {w : World} {o : Oper} {a : Act} {x : Sto.Ot} (i j : Operand) (ho : o.op = .binOp .neq 77 i j 77) (hx : a.eval i = .agg (otA x)) (hy : a.eval j = .agg (otA x)) :
  (execOp a.eval o).run Tryz.prog w = .ok (.value (.bool false)) w := by
 unfold execOp
 simp only [ho, hx, hy]
 unfold otA
 go_simp
theorem exec_lot {w : World} {o : Oper} {a : Act} {b off : Nat} {x : Sto.Ot} (p : Operand) (ho : o.op = .load 77 p) (hx : a.eval p = .pointer (some ⟨b, off, none⟩)) (hc : ∀ j v, (otL x)[j]? = some v → w.cell? ⟨b, off + j, none⟩ = some v) :
  (execOp a.eval o).run Tryz.prog w = .ok (.value (.agg (otA x))) w := exec_slv otLay (x := x) p ho hx Tryz.underlying77 hc
set_option maxRecDepth 100000 in
set_option maxHeartbeats 12800000 in
theorem outs_yes (A B : Option Addr) (n c d : Nat) (l : List Sto.Ot) (w : World) (hs : Sls otLay tF w A n c l) (ht : Sls otLay tF w B n d l) :
  Calls Tryz.prog 11 #[.slice A n c, .slice B n d] w (IsB true w) := by
 unfold IsB
 have HS := zH hs
 have HT := zH ht
 have hbig : n * 72 ≤ 140737488355328 := hs.big
 have hnm2 : ((n : Int) != (n : Int)) = false := by simp
 have HK := zH (Kn.start w)
 clear hs ht
 go_enter Tryz.func11, Tryz.ntmps11
 go_wp2_with fail
 go_loopw [5] (fun vi wr => ∃ k : Nat, k ≤ n ∧ vi = .int .i64 k ∧ Hid (Kn w.heap.size w wr [] [])) (fun vi _ => n - (intOf vi).toNat)
 case atStart => exact ⟨0, Nat.zero_le _, rfl, HK⟩
 case round =>
  clear HK
  obtain ⟨k, hk, rfl, HK⟩ := hrel
  have hk1 : (0 : Int) ≤ (k : Int) := by omega
  by_cases hlt : k < n
  case pos =>
   have hk2 : (k : Int) < (n : Int) := by omega
   have hk3 : k < 9223372036854775807 := by omega
   obtain ⟨x, hx, _⟩ := HS.out.get hlt
   obtain ⟨b1, o1, rfl, hat1⟩ := HS.out.at (Nat.lt_of_le_of_lt (Nat.zero_le _) hlt)
   obtain ⟨b2, o2, rfl, hat2⟩ := HT.out.at (Nat.lt_of_le_of_lt (Nat.zero_le _) hlt)
   have HX : Hid (∀ W, Below w.heap.size w W → ∀ j v, (otL x)[j]? = some v → W.cell? ⟨b1, o1 + k * 8 + j, none⟩ = some v) := zH (fun W hW => hat1 W hW k x hx)
   have HY : Hid (∀ W, Below w.heap.size w W → ∀ j v, (otL x)[j]? = some v → W.cell? ⟨b2, o2 + k * 8 + j, none⟩ = some v) := zH (fun W hW => hat2 W hW k x hx)
   clear hat1 hat2 hx
   go_wp2_with fail
   replace HK := zH HK.out.drew
   refine wp_region_held_drew (S := (fun W => Hid (Kn w.heap.size w W [] []))) (by kernel_rfl) ?_ (fun hHeld => ?_)
   ·(try dsimp only); exact HK
   refine wpAnyH_take (i := 0) (oi := ⟨some 17, _, _, _, _, _⟩) (v := ?_) rfl (by kernel_rfl) (by kernel_rfl) (by kernel_rfl) (fun _ _ _ h => h) (Or.inl ⟨by rfl, ?_⟩) (by assumption) ?_
   rotate_left
   ·(intro w hSw; (try dsimp only at hSw); go_simp; try with_reducible rfl)
   try simp only [Act.put, List.setIfInBounds_toArray, List.set_cons_zero, List.set_cons_succ]
   refine wpAnyH_take (i := 1) (oi := ⟨some 18, _, _, _, _, _⟩) (v := ?_) rfl (by kernel_rfl) (by kernel_rfl) (by kernel_rfl) (fun _ _ _ h => h) (Or.inl ⟨by rfl, ?_⟩) (by assumption) ?_
   rotate_left
   ·(intro w hSw; (try dsimp only at hSw); go_simp; try with_reducible rfl)
   try simp only [Act.put, List.setIfInBounds_toArray, List.set_cons_zero, List.set_cons_succ]
   refine wpAnyH_take (i := 2) (oi := ⟨some 19, _, _, _, _, _⟩) (v := ?_) rfl (by kernel_rfl) (by kernel_rfl) (by kernel_rfl) (fun _ _ _ h => h) (Or.inl ⟨by rfl, ?_⟩) (by assumption) ?_
   rotate_left
   ·(intro w hSw; refine Eq.trans (exec_slx otLay (i := k) _ _ (by rfl) (by rfl) (by rfl) hlt) ?_; with_reducible rfl)
   try simp only [Act.put, List.setIfInBounds_toArray, List.set_cons_zero, List.set_cons_succ]
   refine wpAnyH_take (i := 3) (oi := ⟨some 20, _, _, _, _, _⟩) (v := ?_) rfl (by kernel_rfl) (by kernel_rfl) (by kernel_rfl) (fun _ _ _ h => h) (Or.inl ⟨by rfl, ?_⟩) (by assumption) ?_
   rotate_left
   ·(intro w hSw; refine Eq.trans (exec_lot (x := x) (off := o1 + k * 8) _ (by rfl) (by rfl) (HX.out _ hSw.out.b)) ?_; with_reducible rfl)
   try simp only [Act.put, List.setIfInBounds_toArray, List.set_cons_zero, List.set_cons_succ]
   refine wpAnyH_take (i := 4) (oi := ⟨some 21, _, _, _, _, _⟩) (v := ?_) rfl (by kernel_rfl) (by kernel_rfl) (by kernel_rfl) (fun _ _ _ h => h) (Or.inl ⟨by rfl, ?_⟩) (by assumption) ?_
   rotate_left
   ·(intro w hSw; (try dsimp only at hSw); go_simp; try with_reducible rfl)
   try simp only [Act.put, List.setIfInBounds_toArray, List.set_cons_zero, List.set_cons_succ]
   refine wpAnyH_take (i := 5) (oi := ⟨some 22, _, _, _, _, _⟩) (v := ?_) rfl (by kernel_rfl) (by kernel_rfl) (by kernel_rfl) (fun _ _ _ h => h) (Or.inl ⟨by rfl, ?_⟩) (by assumption) ?_
   rotate_left
   ·(intro w hSw; (try dsimp only at hSw); go_simp; try with_reducible rfl)
   try simp only [Act.put, List.setIfInBounds_toArray, List.set_cons_zero, List.set_cons_succ]
   refine wpAnyH_take (i := 6) (oi := ⟨some 23, _, _, _, _, _⟩) (v := ?_) rfl (by kernel_rfl) (by kernel_rfl) (by kernel_rfl) (fun _ _ _ h => h) (Or.inl ⟨by rfl, ?_⟩) (by assumption) ?_
   rotate_left
   ·(intro w hSw; refine Eq.trans (exec_slx otLay (i := k) _ _ (by rfl) (by rfl) (by rfl) hlt) ?_; with_reducible rfl)
   try simp only [Act.put, List.setIfInBounds_toArray, List.set_cons_zero, List.set_cons_succ]
   refine wpAnyH_take (i := 7) (oi := ⟨some 24, _, _, _, _, _⟩) (v := ?_) rfl (by kernel_rfl) (by kernel_rfl) (by kernel_rfl) (fun _ _ _ h => h) (Or.inl ⟨by rfl, ?_⟩) (by assumption) ?_
   rotate_left
   ·(intro w hSw; refine Eq.trans (exec_lot (x := x) (off := o2 + k * 8) _ (by rfl) (by rfl) (HY.out _ hSw.out.b)) ?_; with_reducible rfl)
   try simp only [Act.put, List.setIfInBounds_toArray, List.set_cons_zero, List.set_cons_succ]
   refine wpAnyH_take (i := 8) (oi := ⟨some 25, _, _, _, _, _⟩) (v := ?_) rfl (by kernel_rfl) (by kernel_rfl) (by kernel_rfl) (fun _ _ _ h => h) (Or.inl ⟨by rfl, ?_⟩) (by assumption) ?_
   rotate_left
   ·(intro w hSw; refine Eq.trans (exec_one (x := x) _ _ (by rfl) (by rfl) (by rfl)) ?_; with_reducible rfl)
   try simp only [Act.put, List.setIfInBounds_toArray, List.set_cons_zero, List.set_cons_succ]
   refine wpAnyH_done (by kernel_rfl) ?_ _
   replace HK := hHeld
   go_wp2_with (first | refine wpList_exe (exec_add1 (j := k) _ (by rfl) (by rfl) hk3) (by rfl) ?_)
   exact ⟨⟨k + 1, by omega, by go_num, HK⟩, by simp [intOf]; omega⟩
  case neg =>
  have hk2 : ¬ (k : Int) < (n : Int) := by omega
  go_wp2_with fail
  go_ret
  exact ⟨rfl, HK.out.b⟩
end Go.Proofs.YtpkodjllljnleaaGreat
