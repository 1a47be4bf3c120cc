/-
  What the laws' example returns: true.
  No condition.
-/
import Derived.Test.YtahmcgnlpogfaaaLockTake
import Derived.Test.YtahmcgnlpogfaaaLockSame
set_option linter.unusedSimpArgs false
set_option linter.unusedVariables false
namespace Go.Proofs.Ytahmcgnlpogfaaa
open Go.RowKit

namespace Lck
def ra : Rf := ⟨0, 1, 1⟩
def rb : Rf := ⟨1, 1, 1⟩
theorem ok_a : ok ra := ⟨by decide, by decide, by decide, by decide⟩
theorem ok_b : ok rb := ⟨by decide, by decide, by decide, by decide⟩
theorem right_a : Right [ra] := right_cons.2 ⟨ok_a, rfl, right_nil⟩
theorem right_ab : Right [ra, rb] := right_cons.2 ⟨ok_a, rfl, right_cons.2 ⟨ok_b, rfl, right_nil⟩⟩
end Lck
theorem fits_two (a b : Rf) : Fits rfLay rF [a, b] := ⟨fun x hx => trivial, by show 2 * 24 ≤ _; decide⟩
set_option maxRecDepth 100000 in
set_option maxHeartbeats 6400000 in
theorem awake_any (w : World) : Calls Try.prog 14 #[] w (IsB true w) := by
  have HT1 : Hid (∀ W, Calls Try.prog 7 #[.slice none 0 0, .agg #[.int .i64 0, .int .i64 1, .int .i64 1]] W (IsTk [Lck.ra] true 0 W)) := Lib.hid fun W => by
    have h := ltake_any none 0 0 [] Lck.ra W (Sls.none W)
    obtain ⟨e1, e2, e3⟩ := Lck.tk_ok Lck.right_nil Lck.ok_a (l := []) rfl
    rw [e1, e2, e3] at h
    exact h
  have HT2 : Hid (∀ W A n c, Sls rfLay rF W A n c [Lck.ra] → Calls Try.prog 7 #[.slice A n c, .agg #[.int .i64 1, .int .i64 1, .int .i64 1]] W (IsTk [Lck.ra, Lck.rb] false 0 W)) := Lib.hid fun W A n c hs => by
    have h := ltake_any A c n _ Lck.rb W hs
    obtain ⟨e1, e2, e3⟩ := Lck.tk_ok Lck.right_a Lck.ok_b rfl
    rw [e1, e2, e3] at h
    exact h
  have HFr : Hid (∀ W A n c, Sls rfLay rF W A n c [Lck.ra, Lck.rb] → Calls Try.prog 9 #[.slice A n c, .agg #[.int .i64 0, .int .i64 1, .int .i64 1]] W (fun e w' => ∃ A n c, e = .returned (.tuple #[.slice A n c, .agg #[.int .i64 1, .int .i64 1, .int .i64 1], .bool true, .int .i64 0]) ∧ Below W.heap.size W w')) := Lib.hid fun W A n c hs => by
    have h := lfree_any A c n _ Lck.ra W hs
    obtain ⟨e1, e2, e3, e4⟩ := Lck.fr_next (r := Lck.ra) Lck.right_ab (x := Lck.ra) (y := Lck.rb) rfl ⟨rfl, rfl⟩ rfl
    rw [e1, e2, e3, e4] at h
    exact h.mono fun e w' ⟨A, n, c, h1, h2, h3⟩ => ⟨A, n, c, h1, h3⟩
  have HF1 := Lib.hid (fits_one Lck.ra)
  have HF2 := Lib.hid (fits_two Lck.ra Lck.rb)
  have HE := Lib.hid (req_self Lck.rb)
  unfold IsTk at *
  have HK := Lib.hid (Kn.start w)
  go_enter Try.func14, Try.ntmps14
  go_wp2_with (first | (refine wpList_akr HK rfl rfl ?_; intro _ g1 HK'; simp only [List.cons_append, List.nil_append] at HK'; replace HK := HK'; clear HK') | (refine wpList_sr HK 0 rfl _ _ rfl rfl rfl rfl ?_; intro _ HK'; simp only [List.set] at HK'; replace HK := HK'; clear HK') | (refine wpList_sr HK 1 rfl _ _ rfl rfl rfl rfl ?_; intro _ HK'; simp only [List.set] at HK'; replace HK := HK'; clear HK') | refine wpList_exe (kexec_lr HK 0 _ (by rfl) (by rfl) (by rfl)) (by rfl) ?_ | refine wpList_exe (kexec_lr HK 1 _ (by rfl) (by rfl) (by rfl)) (by rfl) ?_)
  refine (HT1.out _).mono ?_; rintro e w2 ⟨A1, n1, c1, rfl, o1, b1⟩
  replace HK := Lib.hid (HK.out.called b1 o1)
  simp only [List.nil_append] at HK
  clear b1 o1
  go_wp2_with (first | refine wpList_exe (kexec_lr HK 0 _ (by rfl) (by rfl) (by rfl)) (by rfl) ?_ | refine wpList_exe (kexec_lr HK 1 _ (by rfl) (by rfl) (by rfl)) (by rfl) ?_)
  refine (HT2.out _ _ _ _ (Sls.own (HK.out.own 0 rfl) HF1.out)).mono ?_; rintro e w2 ⟨A2, n2, c2, rfl, o2, b2⟩
  obtain rfl : n2 = 2 := (Lay.Own.reads o2).1
  replace HK := Lib.hid (HK.out.called b2 o2)
  simp only [List.cons_append, List.nil_append] at HK
  clear b2 o2
  go_wp2_with (first | refine wpList_exe (kexec_lr HK 0 _ (by rfl) (by rfl) (by rfl)) (by rfl) ?_ | refine wpList_exe (kexec_lr HK 1 _ (by rfl) (by rfl) (by rfl)) (by rfl) ?_)
  refine (HFr.out _ _ _ _ (Sls.own (HK.out.own 1 rfl) HF2.out)).mono ?_; rintro e w2 ⟨A3, n3, c3, rfl, b1⟩
  replace HK := Lib.hid (HK.out.call b1); clear b1
  go_wp2_with (first | (refine wpList_akr HK rfl rfl ?_; intro _ g2 HK'; simp only [List.cons_append, List.nil_append] at HK'; replace HK := HK'; clear HK') | (refine wpList_sr HK 2 rfl _ _ rfl rfl rfl rfl ?_; intro _ HK'; simp only [List.set] at HK'; replace HK := HK'; clear HK') | refine wpList_exe (kexec_lr HK 2 _ (by rfl) (by rfl) (by rfl)) (by rfl) ?_ | refine wpList_exe (kexec_lr HK 1 _ (by rfl) (by rfl) (by rfl)) (by rfl) ?_ | refine wpList_exe (exec_req (v := Lck.rb) (u := Lck.rb) _ _ (by rfl) (by rfl) (by rfl) HE.out) (by rfl) ?_)
  go_ret
  exact ⟨rfl, HK.out.b⟩
end Go.Proofs.Ytahmcgnlpogfaaa
