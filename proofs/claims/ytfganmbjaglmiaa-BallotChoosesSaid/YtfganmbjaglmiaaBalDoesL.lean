/-
  The laws BallotDoes and BallotChooses: each returns true, and leaves what came in as it was.
  No condition but what the slice reads as.
-/
import Derived.Test.YtfganmbjaglmiaaBalAwake
import Derived.Test.YtfganmbjaglmiaaBalRChoose
set_option linter.unusedSimpArgs false
set_option linter.unusedVariables false
namespace Go.Proofs.Ytfganmbjaglmiaa
open Go.RowKit

set_option maxRecDepth 100000 in
set_option maxHeartbeats 6400000 in
theorem bdoes_yes (x : Bvo) (b : Bal) (s : ByteArray) (w : World) : Calls Try.prog 4 #[.agg #[.int .i64 x.p.r, .int .i64 x.p.s, .int .i64 x.a.r, .int .i64 x.a.s, .string x.v], .agg #[.int .i64 b.r, .int .i64 b.s], .string s] w (fun e w' => e = .returned (.bool true) ∧ Below w.heap.size w w') := by
  have HA := Lib.hid (fun W => b20awake_any W)
  have H1 := Lib.hid (fun W => b20cprep_any x b W)
  have H2 := Lib.hid (fun W => b20rprep_any x b W)
  have H3 := Lib.hid (fun W => b20cacc_any x b s W)
  have H4 := Lib.hid (fun W => b20racc_any x b s W)
  unfold IsVB at H1 H2 H3 H4
  unfold IsB at HA
  have HK := kn2 w 29 (voA x) 23 (blA b)
  generalize Blt.pr x b = y at *
  generalize Blt.ac x b s = z at *
  generalize decide (Blt.ok x b) = d at *
  go_enter Try.func4, Try.ntmps4
  go_wp2_with (first | refine wpList_exe (kb_b HK 1 _ (by rfl) (by rfl) (by rfl)) (by rfl) ?_ | refine wpList_exe (kv_v HK 0 _ (by rfl) (by rfl) (by rfl)) (by rfl) ?_)
  refine (H1.out _).mono ?_; rintro e w1 ⟨rfl, b1⟩
  replace HK := Lib.hid (HK.out.call b1); clear b1
  go_wp2_with (first | (refine wpList_avo HK rfl rfl ?_; intro _ g1 HK'; simp only [List.cons_append, List.nil_append] at HK'; replace HK := HK'; clear HK') | (refine wpList_svo (x := zvo) (y := y) HK 2 rfl _ _ rfl rfl rfl rfl ?_; intro _ HK'; simp only [List.set] at HK'; replace HK := HK'; clear HK') | refine wpList_exe (kb_b HK 1 _ (by rfl) (by rfl) (by rfl)) (by rfl) ?_ | refine wpList_exe (kv_v HK 0 _ (by rfl) (by rfl) (by rfl)) (by rfl) ?_)
  refine (H2.out _).mono ?_; rintro e w1 ⟨rfl, b1⟩
  replace HK := Lib.hid (HK.out.call b1); clear b1
  go_wp2_with (first | (refine wpList_avo HK rfl rfl ?_; intro _ g2 HK'; simp only [List.cons_append, List.nil_append] at HK'; replace HK := HK'; clear HK') | (refine wpList_svo (x := zvo) (y := y) HK 3 rfl _ _ rfl rfl rfl rfl ?_; intro _ HK'; simp only [List.set] at HK'; replace HK := HK'; clear HK') | refine wpList_exe (kb_b HK 1 _ (by rfl) (by rfl) (by rfl)) (by rfl) ?_ | refine wpList_exe (kv_v HK 0 _ (by rfl) (by rfl) (by rfl)) (by rfl) ?_)
  refine (H3.out _).mono ?_; rintro e w1 ⟨rfl, b1⟩
  replace HK := Lib.hid (HK.out.call b1); clear b1
  go_wp2_with (first | (refine wpList_avo HK rfl rfl ?_; intro _ g3 HK'; simp only [List.cons_append, List.nil_append] at HK'; replace HK := HK'; clear HK') | (refine wpList_svo (x := zvo) (y := z) HK 4 rfl _ _ rfl rfl rfl rfl ?_; intro _ HK'; simp only [List.set] at HK'; replace HK := HK'; clear HK') | refine wpList_exe (kb_b HK 1 _ (by rfl) (by rfl) (by rfl)) (by rfl) ?_ | refine wpList_exe (kv_v HK 0 _ (by rfl) (by rfl) (by rfl)) (by rfl) ?_)
  refine (H4.out _).mono ?_; rintro e w1 ⟨rfl, b1⟩
  replace HK := Lib.hid (HK.out.call b1); clear b1
  go_wp2_with (first | (refine wpList_avo HK rfl rfl ?_; intro _ g4 HK'; simp only [List.cons_append, List.nil_append] at HK'; replace HK := HK'; clear HK') | (refine wpList_svo (x := zvo) (y := z) HK 5 rfl _ _ rfl rfl rfl rfl ?_; intro _ HK'; simp only [List.set] at HK'; replace HK := HK'; clear HK'))
  refine (HA.out _).mono ?_; rintro e w1 ⟨rfl, b1⟩
  replace HK := Lib.hid (HK.out.call b1); clear b1
  go_wp2_with (first | refine wpList_exe (kv_v HK 2 _ (by rfl) (by rfl) (by rfl)) (by rfl) ?_ | refine wpList_exe (kv_v HK 3 _ (by rfl) (by rfl) (by rfl)) (by rfl) ?_ | refine wpList_exe (kv_v HK 4 _ (by rfl) (by rfl) (by rfl)) (by rfl) ?_ | refine wpList_exe (kv_v HK 5 _ (by rfl) (by rfl) (by rfl)) (by rfl) ?_)
  go_ret
  exact ⟨rfl, HK.out.b⟩
set_option maxRecDepth 100000 in
set_option maxHeartbeats 6400000 in
theorem bchooses_yes (A : Option Addr) (n c : Nat) (l : List Bpm) (w : World) (hs : Sls pmLay pmF w A n c l) : Calls Try.prog 5 #[.slice A n c] w (fun e w' => e = .returned (.bool true) ∧ Below w.heap.size w w') := by
  have HA := Lib.hid (fun W => b20awake_any W)
  have H1 := Lib.hid (fun W (hW : Below w.heap.size w W) => bchoose_any A n c l W (hs.later hW))
  have H2 := Lib.hid (fun W (hW : Below w.heap.size w W) => brchoose_any A n c l W (hs.later hW))
  unfold IsSB at H1 H2
  unfold IsB at HA
  have HK := Lib.hid (Kn.start w)
  clear hs
  generalize (Blt.lo (Blt.ch l)).v = s at *
  generalize (Blt.ch l).isSome = d at *
  go_enter Try.func5, Try.ntmps5
  go_wp2_with fail
  refine (H1.out _ HK.out.b).mono ?_; rintro e w1 ⟨rfl, b1⟩
  replace HK := Lib.hid (HK.out.call b1); clear b1
  go_wp2_with fail
  refine (H2.out _ HK.out.b).mono ?_; rintro e w1 ⟨rfl, b1⟩
  replace HK := Lib.hid (HK.out.call b1); clear b1
  go_wp2_with fail
  refine (HA.out _).mono ?_; rintro e w1 ⟨rfl, b1⟩
  replace HK := Lib.hid (HK.out.call b1); clear b1
  go_wp2_with fail
  go_ret
  exact ⟨rfl, HK.out.b⟩
end Go.Proofs.Ytfganmbjaglmiaa
