/-
  awake returns true. No condition.
-/
import Derived.Test.YtamjcghdebjpjaaLnkTake
namespace Go.Proofs.Ytamjcghdebjpjaa
open Go.RowKit

def bA : ByteArray := ⟨#[97]⟩
theorem bA_list : bA.toList = [97] := by kernel_rfl
theorem In.nil (w : World) (A : Option Addr) (ms mc ps pc base got age : Int) : In w A ⟨ms, mc, ps, pc, [], base, got, age⟩ := ⟨Lay.Reads.nil _ _ _, fun _ => rfl, by simp⟩
set_option maxRecDepth 100000 in
set_option maxHeartbeats 6400000 in
theorem awake_any (w : World) : Calls Try.prog 14 #[] w fun e w' => e = .returned (.bool true) ∧ Below w.heap.size w w' := by
  have H1 : Hid (∀ W, Calls Try.prog 8 #[.agg #[.int .i64 0, .int .i64 1], .int .i64 2] W (IsL ⟨0, 1, 2, 0, [], 1, 0, 0⟩ W)) := Lib.hid fun W => new_any 0 1 2 W
  have H2 : Hid (∀ W, Calls Try.prog 8 #[.agg #[.int .i64 2, .int .i64 1], .int .i64 0] W (IsL ⟨2, 1, 0, 0, [], 1, 0, 0⟩ W)) := Lib.hid fun W => new_any 2 1 0 W
  have H3 : Hid (∀ A c W, Calls Try.prog 27 #[.agg (lC (.slice A 0 c) 0 1 2 0 1 0 0), .int .i64 1] W (IsL ⟨0, 1, 2, 1, [], 1, 0, 0⟩ W)) := Lib.hid fun A c W => meet_any A c ⟨0, 1, 2, 0, [], 1, 0, 0⟩ 1 W (In.nil _ _ _ _ _ _ _ _ _)
  have H4 : Hid (∀ A c W, Calls Try.prog 25 #[.agg (lC (.slice A 0 c) 0 1 2 1 1 0 0), .string bA, .int .i64 2] W (IsS (⟨0, 1, 2, 1, [bA], 1, 0, 0⟩, ⟨0, 1, 2, 1, 1, 0, bA⟩, 0) W)) := Lib.hid fun A c W => send_any A c ⟨0, 1, 2, 1, [], 1, 0, 0⟩ bA 2 W (In.nil _ _ _ _ _ _ _ _ _) (by decide)
  have H5 : Hid (∀ A c W, Calls Try.prog 28 #[.agg (lC (.slice A 0 c) 2 1 0 0 1 0 0), .agg (pC 0 1 2 1 1 0 bA)] W (IsTk (⟨2, 1, 0, 1, [], 1, 1, 0⟩, bA, true, ⟨2, 1, 0, 1, 0, 1, Lnk.emp⟩, true) W)) := Lib.hid fun A c W => take_any A c ⟨2, 1, 0, 0, [], 1, 0, 0⟩ ⟨0, 1, 2, 1, 1, 0, bA⟩ W (In.nil _ _ _ _ _ _ _ _ _) (by decide) (by decide) (by decide)
  have H6 : Hid (∀ A c W b, strLay.Own b W (.slice A 1 c) [bA] → Calls Try.prog 28 #[.agg (lC (.slice A 1 c) 0 1 2 1 1 0 0), .agg (pC 2 1 0 1 0 1 ⟨#[]⟩)] W (IsTk (⟨0, 1, 2, 1, [], 2, 0, 0⟩, Lnk.emp, false, Lnk.noPkt, false) W)) := Lib.hid fun A c W b ho => take_any A c ⟨0, 1, 2, 1, [bA], 1, 0, 0⟩ ⟨2, 1, 0, 1, 0, 1, ⟨#[]⟩⟩ W ⟨ho.read.1, ho.read.2.1, by simp⟩ (by decide) (by decide) (by decide)
  have HK0 := Lib.hid (Kn.start w)
  have hbA : bA.toList = [97] := bA_list
  go_enter Try.func14, Try.ntmps14
  go_wp2_with fail
  refine (H1.out _).mono ?_; rintro e w1 ⟨A1, c1, rfl, _, b1⟩
  have HK := Lib.hid (HK0.out.call b1)
  clear b1 HK0 H1
  go_wp2_with fail
  refine (H2.out _).mono ?_; rintro e w2 ⟨A2, c2, rfl, _, b2⟩
  replace HK := Lib.hid ((HK.out.call b2).alloc2 27 (lC (.slice none 0 0) 0 0 0 0 0 0 0) 27 (lC (.slice none 0 0) 0 0 0 0 0 0 0))
  clear b2 H2
  simp only [List.cons_append, List.nil_append] at HK
  unfold lA
  simp only [List.length_nil]
  go_wp2_with (first | (refine wpList_ksl HK 0 rfl _ _ rfl rfl rfl rfl rfl ?_; intro _ HK' _; simp only [List.set] at HK'; replace HK := HK'; clear HK') | (refine wpList_ksl HK 1 rfl _ _ rfl rfl rfl rfl rfl ?_; intro _ HK' _; simp only [List.set] at HK'; replace HK := HK'; clear HK') | refine wpList_kll HK 0 rfl _ rfl rfl rfl ?_)
  refine (H3.out _ _ _).mono ?_; rintro e w3 ⟨A3, c3, rfl, _, b3⟩
  replace HK := Lib.hid (HK.out.call b3)
  clear b3 H3
  unfold lA
  simp only [List.length_nil]
  go_wp2_with (first | (refine wpList_ksl HK 0 rfl _ _ rfl rfl rfl rfl rfl ?_; intro _ HK' _; simp only [List.set] at HK'; replace HK := HK'; clear HK') | refine wpList_kll HK 0 rfl _ rfl rfl rfl ?_)
  refine (H4.out _ _ _).mono ?_; rintro e w4 ⟨A4, c4, rfl, o4, b4⟩
  replace HK := Lib.hid ((HK.out.called b4 o4).alloc 36 (pC 0 0 0 0 0 0 ⟨#[]⟩))
  clear b4 H4 o4
  simp only [List.cons_append, List.nil_append, List.length_cons, List.length_nil, Nat.zero_add] at HK
  unfold lA pA
  simp only [List.length_cons, List.length_nil, Nat.zero_add]
  go_wp2_with (first | (refine wpList_ksl HK 0 rfl _ _ rfl rfl rfl rfl rfl ?_; intro _ HK' _; simp only [List.set] at HK'; replace HK := HK'; clear HK') | (refine wpList_ksp HK 2 rfl _ _ rfl rfl rfl rfl rfl ?_; intro _ HK' _; simp only [List.set] at HK'; replace HK := HK'; clear HK') | refine wpList_kll HK 1 rfl _ rfl rfl rfl ?_ | refine wpList_klp HK 2 rfl _ rfl rfl rfl ?_)
  refine (H5.out _ _ _).mono ?_; rintro e w5 ⟨A5, c5, rfl, _, b5⟩
  replace HK := Lib.hid ((HK.out.call b5).alloc 36 (pC 0 0 0 0 0 0 ⟨#[]⟩))
  clear b5 H5
  simp only [List.cons_append, List.nil_append] at HK
  unfold lA pA Lnk.emp
  simp only [List.length_nil]
  go_wp2_with (first | (refine wpList_ksl HK 1 rfl _ _ rfl rfl rfl rfl rfl ?_; intro _ HK' _; simp only [List.set] at HK'; replace HK := HK'; clear HK') | (refine wpList_ksp HK 3 rfl _ _ rfl rfl rfl rfl rfl ?_; intro _ HK' _; simp only [List.set] at HK'; replace HK := HK'; clear HK') | refine wpList_kll HK 0 rfl _ rfl rfl rfl ?_ | refine wpList_klp HK 3 rfl _ rfl rfl rfl ?_)
  refine (H6.out _ _ _ _ (HK.out.own 0 rfl)).mono ?_; rintro e w6 ⟨A6, c6, rfl, _, b6⟩
  replace HK := Lib.hid (HK.out.call b6)
  clear b6 H6
  unfold lA pA
  simp only [List.length_nil]
  go_wp2_with (first | (refine wpList_ksl HK 0 rfl _ _ rfl rfl rfl rfl rfl ?_; intro _ HK' _; simp only [List.set] at HK'; replace HK := HK'; clear HK') | refine wpList_kci HK 0 rfl _ rfl rfl rfl rfl ?_ | refine wpList_kci HK 1 rfl _ rfl rfl rfl rfl ?_ | refine wpList_kcv HK 0 rfl _ rfl rfl rfl rfl ?_)
  go_ret
  exact ⟨rfl, HK.out.b⟩
end Go.Proofs.Ytamjcghdebjpjaa
