/-
  The laws LogCounts and LogAgrees: each returns true, and leaves what came in as it was.
  No condition but what the slice reads as.
-/
import Derived.Test.YtakjggmiilkmdaaLogCode
import Derived.Test.YtakjggmiilkmdaaLogAg
set_option linter.unusedSimpArgs false
set_option linter.unusedVariables false
namespace Go.Proofs.Ytakjggmiilkmdaa
open Go.RowKit

set_option maxRecDepth 100000 in
set_option maxHeartbeats 6400000 in
theorem lcounts_yes (A : Option Addr) (n c : Nat) (l : List Int) (w : World) (hs : Sls inLay inF w A n c l) : Calls Try.prog 4 #[.slice A n c] w (fun e w' => e = .returned (.bool true) ∧ Below w.heap.size w w') := by
  have HAw := Lib.hid (fun W => lawake_any W)
  have H1 := Lib.hid (fun W (hW : Below w.heap.size w W) => lcag_any A n c l W (hs.later hW))
  have H2 := Lib.hid (fun W (hW : Below w.heap.size w W) => lrag_any A n c l W (hs.later hW))
  have H3 := Lib.hid (fun W (hW : Below w.heap.size w W) => lcal_any A n c l W (hs.later hW))
  have H4 := Lib.hid (fun W (hW : Below w.heap.size w W) => lral_any A n c l W (hs.later hW))
  have HK := Lib.hid (Kn.start w)
  unfold IsB at HAw
  unfold IsNm at H1 H3
  clear hs
  generalize Lgm.ag l = g at *
  generalize Lgm.al l = a at *
  by_cases h1 : 100 < n
  · have h1i : decide ((100 : Int) < (n : Int)) = true := decide_eq_true (by omega)
    clear h1 H1 H2 H3 H4
    go_enter Try.func4, Try.ntmps4
    go_wp2_with fail
    refine (HAw.out _).mono ?_; rintro e w1 ⟨rfl, b1⟩
    replace HK := Lib.hid (HK.out.call b1); clear b1
    go_wp2_with fail
    go_ret
    exact ⟨rfl, HK.out.b⟩
  · have h1i : decide ((100 : Int) < (n : Int)) = false := decide_eq_false (by omega)
    clear h1
    go_enter Try.func4, Try.ntmps4
    go_wp2_with fail
    refine (HAw.out _).mono ?_; rintro e w1 ⟨rfl, b1⟩
    replace HK := Lib.hid (HK.out.call b1); clear b1
    go_wp2_with fail
    refine (H1.out _ HK.out.b).mono ?_; rintro e w1 ⟨rfl, b1⟩
    replace HK := Lib.hid (HK.out.call b1); clear b1
    go_wp2_with fail
    refine (H2.out _ HK.out.b).mono ?_; rintro e w1 ⟨rfl, b1⟩
    replace HK := Lib.hid (HK.out.call b1); clear b1
    go_wp2_with fail
    refine (H3.out _ HK.out.b).mono ?_; rintro e w1 ⟨rfl, b1⟩
    replace HK := Lib.hid (HK.out.call b1); clear b1
    go_wp2_with fail
    refine (H4.out _ HK.out.b).mono ?_; rintro e w1 ⟨rfl, rfl⟩
    go_wp2_with fail
    go_ret
    exact ⟨rfl, HK.out.b⟩
end Go.Proofs.Ytakjggmiilkmdaa
