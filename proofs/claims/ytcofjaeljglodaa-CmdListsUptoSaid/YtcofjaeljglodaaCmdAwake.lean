/-
  What the laws' example returns: true.
  No condition.
-/
import Derived.Test.YtcofjaeljglodaaEvFrom
set_option linter.unusedSimpArgs false
set_option linter.unusedVariables false
namespace Go.Proofs.Ytcofjaeljglodaa
open Go.RowKit

def awC : Cmd.C := ⟨7, ⟨#[109]⟩, ⟨#[97]⟩, ⟨1, 1, 0, ⟨#[]⟩⟩, ⟨0, 0, 0, ⟨#[]⟩⟩, 0, 0⟩
def awD : Cmd.C := ⟨7, ⟨#[109]⟩, ⟨#[97]⟩, ⟨0, 0, 0, ⟨#[]⟩⟩, ⟨0, 0, 0, ⟨#[]⟩⟩, 0, 0⟩
def awE : Cmd.E := ⟨0, 1, 1, awC⟩
theorem awC_chk : Cmd.chk awC = 0 := by decide
theorem awD_chk : Cmd.chk awD = 1 := by decide
theorem awE_fits : Cmd.fits awE := by decide
theorem aw_vals : Val.chk awE.cmd.val = 0 ∧ Val.chk awE.cmd.old = 0 := by decide
theorem kexec_cmx {b0 : Nat} {w0 w : World} {L : List (Nat × TypeId × Array Value)} {R : List RowE} {o : Oper} {a : Act} (HK : Hid (Kn b0 w0 w L R)) (i : Nat) (x : Operand) (ho : o.op = .load 26 x) {g : Nat} {t : TypeId} {k : Int} {name key : ByteArray} {vk vn : Int} {vf : Nat} {vs : ByteArray} {ok on : Int} {of : Nat} {os : ByteArray} {n m : Int} (hL : L[i]? = some (g, t, cmC k name key vk vn vf vs ok on of os n m)) (hx : a.eval x = .pointer (some ⟨g, 0, none⟩)) :
    (execOp a.eval o).run Try.prog w = .ok (.value (.agg (cmC k name key vk vn vf vs ok on of os n m))) w :=
  kexec_ls HK _ x ho i hL hx (cmC k name key vk vn vf vs ok on of os n m) (fun j _ => by rw [Nat.zero_add]) Try.underlying26 info_cm
set_option maxRecDepth 100000 in
set_option maxHeartbeats 3200000 in
theorem awake_any (w : World) : Calls Try.prog 8 #[] w fun en w' => en = .returned (.bool true) ∧ Below w.heap.size w w' := by
  have HI : Hid (∀ W, Calls Try.prog 15 #[.agg (evA awE)] W fun en w' => ∃ A c, en = .returned (.slice A 11 c) ∧ (itemLay.Own W.heap.size w' (.slice A 11 c) (Cmd.items awE)) ∧ Below W.heap.size W w') := Lib.hid fun W => eitems_any awE W (by decide) (by decide)
  have HF : Hid (∀ W A c b, itemLay.Own b W (.slice A 11 c) (Cmd.items awE) → Calls Try.prog 18 #[.slice A 11 c, .int .i64 0] W fun en w' => en = .returned (.tuple #[.agg (evA awE), .int .i64 11, .bool true]) ∧ Below W.heap.size W w') := Lib.hid fun W A c b h =>
    (efrom_any A c 11 0 (Cmd.items awE) awE W rfl (by decide) (by have := h.cap; exact this) (by decide) h.reads.2).mono fun en w' q => by
      obtain ⟨u, y, bb, rfl, q1, _, _, q2⟩ := q
      obtain ⟨rfl, rfl, rfl⟩ := q1 ⟨⟨⟨[], by rw [List.append_nil]; rfl⟩, aw_vals.1, aw_vals.2, by decide, by decide⟩, awE_fits⟩
      exact ⟨rfl, q2⟩
  have HC1 : Hid (∀ W, Calls Try.prog 9 #[.agg (cmA awC)] W (IsE 0 W)) := Lib.hid fun W => by
    have := chk_any awC W (by decide) (by decide)
    rwa [awC_chk] at this
  have HC2 : Hid (∀ W, Calls Try.prog 9 #[.agg (cmA awD)] W (IsE 1 W)) := Lib.hid fun W => by
    have := chk_any awD W (by decide) (by decide)
    rwa [awD_chk] at this
  have HK := Lib.hid (Kn.start w)
  go_enter Try.func8, Try.ntmps8
  go_wp2_with (first | (refine wpList_akcm HK rfl rfl ?_; intro _ g1 HK'; simp only [List.cons_append, List.nil_append] at HK'; replace HK := HK'; clear HK') | (refine wpList_scm (k := 7) (name := ⟨#[109]⟩) (key := ⟨#[97]⟩) (vk := 1) (vn := 1) (vf := 0) (vs := ⟨#[]⟩) (ok := 0) (on := 0) (of := 0) (os := ⟨#[]⟩) (n := 0) (m := 0) HK 0 rfl _ _ rfl rfl rfl rfl ?_; intro _ HK'; simp only [List.set] at HK'; replace HK := HK'; clear HK') | refine wpList_of_exec (v := .agg #[.int .i64 7, .string ⟨#[109]⟩, .string ⟨#[97]⟩, .int .i64 1, .int .i64 1, .int .u64 0, .string ⟨#[]⟩, .int .i64 0, .int .i64 0, .int .u64 0, .string ⟨#[]⟩, .int .i64 0, .int .i64 0]) (by rfl) (kexec_cmx HK 0 _ rfl rfl rfl) ?_)
  refine (HI.out _).mono ?_; rintro en w1 ⟨A1, c1, rfl, o1, b1⟩
  replace HK := Lib.hid (HK.out.called b1 o1)
  simp only [List.nil_append] at HK
  clear b1 o1 HI
  generalize Cmd.items awE = its at *
  go_wp2_with fail
  refine (HF.out _ _ _ _ (HK.out.own 0 rfl)).mono ?_; rintro en w2 ⟨rfl, b2⟩
  replace HK := Lib.hid (HK.out.call b2)
  clear b2 HF
  go_wp2_with (first | (refine wpList_akev HK rfl rfl ?_; intro _ g2 HK'; simp only [List.cons_append, List.nil_append] at HK'; replace HK := HK'; clear HK') | (refine wpList_sev HK 1 rfl _ _ rfl rfl rfl rfl ?_; intro _ HK' _; simp only [List.set] at HK'; replace HK := HK'; clear HK') | refine wpList_of_exec (by rfl) (kexec_cmx HK 0 _ rfl rfl rfl) ?_)
  refine (HC1.out _).mono ?_; rintro en w3 ⟨rfl, b3⟩
  replace HK := Lib.hid (HK.out.call b3)
  clear b3 HC1
  go_wp2_with fail
  refine (HC2.out _).mono ?_; rintro en w4 ⟨rfl, b4⟩
  replace HK := Lib.hid (HK.out.call b4)
  clear b4 HC2
  go_wp2_with (first | refine wpList_of_exec (v := .agg #[.int .i64 7, .string ⟨#[109]⟩, .string ⟨#[97]⟩, .int .i64 1, .int .i64 1, .int .u64 0, .string ⟨#[]⟩, .int .i64 0, .int .i64 0, .int .u64 0, .string ⟨#[]⟩, .int .i64 0, .int .i64 0]) (by rfl) (kexec_cmx HK 0 _ (by rfl) (by rfl) (by rfl)) ?_ | refine wpList_of_exec (v := .agg #[.int .i64 7, .string ⟨#[109]⟩, .string ⟨#[97]⟩, .int .i64 1, .int .i64 1, .int .u64 0, .string ⟨#[]⟩, .int .i64 0, .int .i64 0, .int .u64 0, .string ⟨#[]⟩, .int .i64 0, .int .i64 0]) (by rfl) (kexec_ecm HK 1 _ (by rfl) (by rfl) (by rfl)) ?_)
  go_ret
  exact ⟨rfl, HK.out.b⟩
end Go.Proofs.Ytcofjaeljglodaa
