/-
  What the laws' example returns: true.
  No condition.
-/
import Derived.Test.YtieegdlphjkbdaaQuePush
import Derived.Test.YtieegdlphjkbdaaQueSame
set_option linter.unusedSimpArgs false
set_option linter.unusedVariables false
namespace Go.Proofs.Ytieegdlphjkbdaa
open Go.RowKit

namespace Que
def one : Val.V := ⟨1, 1, 0, ⟨#[]⟩⟩
theorem chk_one : vchk one = 0 := by
  unfold vchk
  rw [if_neg (by show ¬ (1 : Int) = 0; decide)]
  exact Val.chk_int 1
theorem right_one : Right 1 [one] := ⟨by decide, by decide, by decide, fun v hv => by rw [List.mem_singleton] at hv; subst hv; exact chk_one⟩
end Que
theorem fits_one : Fits vaLay vF [Que.one] := ⟨fun x hx => by rw [List.mem_singleton] at hx; subst hx; show (0 : Nat) < _; decide, by show 1 * 40 ≤ _; decide⟩
set_option maxRecDepth 100000 in
set_option maxHeartbeats 6400000 in
theorem awake_any (w : World) : Calls Try.prog 11 #[] w (IsB true w) := by
  have HP1 : Hid (∀ W, Calls Try.prog 7 #[.int .i64 1, .slice none 0 0, .agg #[.int .i64 1, .int .i64 1, .int .u64 ((0 : Nat) : Int), .string ⟨#[]⟩]] W (IsLEg vaLay [Que.one] 0 W)) := Lib.hid fun W => by
    have h := push_any 1 none 0 0 [] Que.one W (Sls.none W) (by show (0 : Nat) < _; decide)
    obtain ⟨e1, e2⟩ := Que.ps_ok (Que.right_nil (n := 1) (by decide) (by decide)) Que.chk_one (by decide)
    rw [e1, e2] at h
    exact h
  have HP2 : Hid (∀ W A n c, Sls vaLay vF W A n c [Que.one] → Calls Try.prog 7 #[.int .i64 1, .slice A n c, .agg #[.int .i64 1, .int .i64 1, .int .u64 ((0 : Nat) : Int), .string ⟨#[]⟩]] W (IsLEg vaLay [Que.one] 6 W)) := Lib.hid fun W A n c hs => by
    have h := push_any 1 A c n _ Que.one W hs (by show (0 : Nat) < _; decide)
    obtain ⟨e1, e2⟩ := Que.ps_full Que.right_one Que.chk_one (by decide)
    rw [e1, e2] at h
    exact h
  have HPp : Hid (∀ W A n c, Sls vaLay vF W A n c [Que.one] → Calls Try.prog 9 #[.int .i64 1, .slice A n c] W (fun e w' => ∃ A n c, e = .returned (.tuple #[.slice A n c, .agg #[.int .i64 1, .int .i64 1, .int .u64 ((0 : Nat) : Int), .string ⟨#[]⟩], .int .i64 0]) ∧ n = 0 ∧ Below W.heap.size W w')) := Lib.hid fun W A n c hs => by
    have h := pop_any 1 A c n _ W hs
    obtain ⟨e1, e2, e3⟩ := Que.pp_ok Que.right_one (v := Que.one) rfl
    rw [e1, e2, e3] at h
    exact h.mono fun e w' ⟨A, n, c, h1, h2, h3⟩ => ⟨A, n, c, h1, (Lay.Own.reads h2).1, h3⟩
  have HF := Lib.hid fits_one
  unfold IsLEg at *
  have HK := Lib.hid (Kn.start w)
  have HE := Lib.hid (show decide (Que.one = Que.one) = true from decide_eq_true rfl)
  go_enter Try.func11, Try.ntmps11
  go_wp2_with (first | (refine wpList_akv HK rfl rfl ?_; intro _ g1 HK'; simp only [List.cons_append, List.nil_append] at HK'; replace HK := HK'; clear HK') | (refine wpList_sv (f2 := 0) HK 0 rfl _ _ rfl rfl rfl rfl ?_; intro _ HK'; simp only [List.set] at HK'; replace HK := HK'; clear HK') | refine wpList_of_exec (by rfl) (kexec_vv HK 0 _ (by rfl) (by rfl) (by rfl)) ?_)
  refine (HP1.out _).mono ?_; rintro e w2 ⟨A1, n1, c1, rfl, o1, b1⟩
  replace HK := Lib.hid (HK.out.called b1 o1)
  simp only [List.nil_append] at HK
  clear b1 o1
  go_wp2_with (first | refine wpList_of_exec (by rfl) (kexec_vv HK 0 _ (by rfl) (by rfl) (by rfl)) ?_)
  refine (HP2.out _ _ _ _ (Sls.own (HK.out.own 0 rfl) HF.out)).mono ?_; rintro e w2 ⟨A2, n2, c2, rfl, o1, b1⟩
  replace HK := Lib.hid (HK.out.call b1); clear b1
  clear o1
  go_wp2_with fail
  refine (HPp.out _ _ _ _ (Sls.own (HK.out.own 0 rfl) HF.out)).mono ?_; rintro e w2 ⟨A3, n3, c3, rfl, rfl, b1⟩
  replace HK := Lib.hid (HK.out.call b1); clear b1
  go_wp2_with (first | (refine wpList_akv HK rfl rfl ?_; intro _ g2 HK'; simp only [List.cons_append, List.nil_append] at HK'; replace HK := HK'; clear HK') | (refine wpList_sv (f2 := 0) HK 1 rfl _ _ rfl rfl rfl rfl ?_; intro _ HK'; simp only [List.set] at HK'; replace HK := HK'; clear HK') | refine wpList_of_exec (by rfl) (kexec_vv HK 0 _ (by rfl) (by rfl) (by rfl)) ?_ | refine wpList_of_exec (by rfl) (kexec_vv HK 1 _ (by rfl) (by rfl) (by rfl)) ?_ | refine wpList_of_exec (by rfl) (exec_veq (v := Que.one) (u := Que.one) _ _ (by rfl) (by rfl) (by rfl) HE.out) ?_)
  go_ret
  exact ⟨rfl, HK.out.b⟩
end Go.Proofs.Ytieegdlphjkbdaa
