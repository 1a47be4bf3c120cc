/-
  What Reply returns, and the document's: whether a reply may be.
  No condition but that the float is of 64 bits.
-/
import Derived.Test.YtbcdmmhbmjjooaaRpLay
import Derived.Test.YtbcdmmhbmjjooaaValRChk
set_option linter.unusedSimpArgs false
set_option linter.unusedVariables false
namespace Go.Proofs.Ytbcdmmhbmjjooaa
open Go.RowKit

section
variable {b0 : Nat} {w0 w : World} {L : List (Nat × TypeId × Array Value)} {R : List RowE} {o : Oper} {a : Act} {g : Nat} {p : Sto.Rp}
theorem krp_e (HK : Hid (Kn b0 w0 w L R)) (i : Nat) (r : Operand) (ho : o.op = .load 22 r) (hL : L[i]? = some (g, 27, rpA p)) (hx : a.eval r = .pointer (some ⟨g, 0, none⟩)) :
    (execOp a.eval o).run Try.prog w = .ok (.value (.int .i64 p.e)) w := kexec_lc HK _ r ho i hL hx rfl Try.underlying22 rfl
theorem krp_v (HK : Hid (Kn b0 w0 w L R)) (i : Nat) (r : Operand) (ho : o.op = .load 25 r) (hL : L[i]? = some (g, 27, rpA p)) (hx : a.eval r = .pointer (some ⟨g, 1, none⟩)) :
    (execOp a.eval o).run Try.prog w = .ok (.value (.agg #[.int .i64 p.v.k, .int .i64 p.v.n, .int .u64 (p.v.f : Int), .string p.v.s])) w :=
  kexec_ls HK _ r ho i hL hx #[.int .i64 p.v.k, .int .i64 p.v.n, .int .u64 (p.v.f : Int), .string p.v.s] (fun j hj => by
    match j, hj with
    | 0, _ | 1, _ | 2, _ | 3, _ => rfl) Try.underlying25 info_v4
theorem exec_e0l {x : Int} {b : Bool} (q : Operand) (ho : o.op = .binOp .leq 22 (.const (.int .i64 0)) q 22) (hq : a.eval q = .int .i64 x) (hb : decide (0 ≤ x) = b) :
    (execOp a.eval o).run Try.prog w = .ok (.value (.bool b)) w := by
  have he : a.eval (.const (.int .i64 0)) = .int .i64 0 := rfl
  subst hb
  unfold execOp
  simp only [ho, hq, he]
  go_simp
theorem exec_e0g {x : Int} {b : Bool} (q : Operand) (ho : o.op = .binOp .geq 22 q (.const (.int .i64 0)) 22) (hq : a.eval q = .int .i64 x) (hb : decide (0 ≤ x) = b) :
    (execOp a.eval o).run Try.prog w = .ok (.value (.bool b)) w := by
  have he : a.eval (.const (.int .i64 0)) = .int .i64 0 := rfl
  subst hb
  unfold execOp
  simp only [ho, hq, he]
  go_simp
theorem exec_e18 {x : Int} {b : Bool} (q : Operand) (ho : o.op = .binOp .leq 22 q (.const (.int .i64 18)) 22) (hq : a.eval q = .int .i64 x) (hb : decide (x ≤ 18) = b) :
    (execOp a.eval o).run Try.prog w = .ok (.value (.bool b)) w := by
  have he : a.eval (.const (.int .i64 18)) = .int .i64 18 := rfl
  subst hb
  unfold execOp
  simp only [ho, hq, he]
  go_simp
end
set_option maxRecDepth 100000 in
set_option maxHeartbeats 6400000 in
theorem sreply_any (p : Sto.Rp) (w : World) (hf : p.v.f < 18446744073709551616) : Calls Try.prog 28 #[.agg (rpA p)] w (IsB (Sto.rep p) w) := by
  have HC := Lib.hid (fun W => check_any p.v W hf)
  have HK := kn1 w 27 (rpA p)
  unfold IsB Sto.rep
  unfold IsE vv at HC
  generalize h1 : decide (0 ≤ p.e) = b1
  have H1 := Lib.hid h1
  generalize h2 : decide (p.e ≤ 18) = b2
  have H2 := Lib.hid h2
  generalize Val.chk p.v = z at *
  clear h1 h2 hf
  cases b1
  · go_enter Try.func28, Try.ntmps28
    go_wp2_with (first | refine wpList_exe (krp_e HK 0 _ (by rfl) (by rfl) (by rfl)) (by rfl) ?_ | refine wpList_exe (krp_v HK 0 _ (by rfl) (by rfl) (by rfl)) (by rfl) ?_ | refine wpList_exe (exec_e0l (x := p.e) _ (by rfl) (by rfl) H1.out) (by rfl) ?_ | refine wpList_exe (exec_e0g (x := p.e) _ (by rfl) (by rfl) H1.out) (by rfl) ?_ | refine wpList_exe (exec_e18 (x := p.e) _ (by rfl) (by rfl) H2.out) (by rfl) ?_)
    go_ret
    exact ⟨rfl, HK.out.b⟩
  cases b2
  · go_enter Try.func28, Try.ntmps28
    go_wp2_with (first | refine wpList_exe (krp_e HK 0 _ (by rfl) (by rfl) (by rfl)) (by rfl) ?_ | refine wpList_exe (krp_v HK 0 _ (by rfl) (by rfl) (by rfl)) (by rfl) ?_ | refine wpList_exe (exec_e0l (x := p.e) _ (by rfl) (by rfl) H1.out) (by rfl) ?_ | refine wpList_exe (exec_e0g (x := p.e) _ (by rfl) (by rfl) H1.out) (by rfl) ?_ | refine wpList_exe (exec_e18 (x := p.e) _ (by rfl) (by rfl) H2.out) (by rfl) ?_)
    go_ret
    exact ⟨rfl, HK.out.b⟩
  · go_enter Try.func28, Try.ntmps28
    go_wp2_with (first | refine wpList_exe (krp_e HK 0 _ (by rfl) (by rfl) (by rfl)) (by rfl) ?_ | refine wpList_exe (krp_v HK 0 _ (by rfl) (by rfl) (by rfl)) (by rfl) ?_ | refine wpList_exe (exec_e0l (x := p.e) _ (by rfl) (by rfl) H1.out) (by rfl) ?_ | refine wpList_exe (exec_e0g (x := p.e) _ (by rfl) (by rfl) H1.out) (by rfl) ?_ | refine wpList_exe (exec_e18 (x := p.e) _ (by rfl) (by rfl) H2.out) (by rfl) ?_)
    refine (HC.out _).mono ?_; rintro e w1 ⟨rfl, x1⟩
    replace HK := Lib.hid (HK.out.call x1)
    clear x1
    go_wp2_with fail
    go_ret
    exact ⟨rfl, HK.out.b⟩
set_option maxRecDepth 100000 in
set_option maxHeartbeats 6400000 in
theorem rreply_any (p : Sto.Rp) (w : World) (hf : p.v.f < 18446744073709551616) : Calls Try.prog 30 #[.agg (rpA p)] w (IsB (Sto.rep p) w) := by
  have HC := Lib.hid (fun W => rcheck_any p.v W hf)
  have HK := kn1 w 27 (rpA p)
  unfold IsB Sto.rep
  unfold IsE vv at HC
  generalize h1 : decide (0 ≤ p.e) = b1
  have H1 := Lib.hid h1
  generalize h2 : decide (p.e ≤ 18) = b2
  have H2 := Lib.hid h2
  generalize Val.chk p.v = z at *
  clear h1 h2 hf
  cases b1
  · go_enter Try.func30, Try.ntmps30
    go_wp2_with (first | refine wpList_exe (krp_e HK 0 _ (by rfl) (by rfl) (by rfl)) (by rfl) ?_ | refine wpList_exe (krp_v HK 0 _ (by rfl) (by rfl) (by rfl)) (by rfl) ?_ | refine wpList_exe (exec_e0l (x := p.e) _ (by rfl) (by rfl) H1.out) (by rfl) ?_ | refine wpList_exe (exec_e0g (x := p.e) _ (by rfl) (by rfl) H1.out) (by rfl) ?_ | refine wpList_exe (exec_e18 (x := p.e) _ (by rfl) (by rfl) H2.out) (by rfl) ?_)
    go_ret
    exact ⟨rfl, HK.out.b⟩
  cases b2
  · go_enter Try.func30, Try.ntmps30
    go_wp2_with (first | refine wpList_exe (krp_e HK 0 _ (by rfl) (by rfl) (by rfl)) (by rfl) ?_ | refine wpList_exe (krp_v HK 0 _ (by rfl) (by rfl) (by rfl)) (by rfl) ?_ | refine wpList_exe (exec_e0l (x := p.e) _ (by rfl) (by rfl) H1.out) (by rfl) ?_ | refine wpList_exe (exec_e0g (x := p.e) _ (by rfl) (by rfl) H1.out) (by rfl) ?_ | refine wpList_exe (exec_e18 (x := p.e) _ (by rfl) (by rfl) H2.out) (by rfl) ?_)
    go_ret
    exact ⟨rfl, HK.out.b⟩
  · go_enter Try.func30, Try.ntmps30
    go_wp2_with (first | refine wpList_exe (krp_e HK 0 _ (by rfl) (by rfl) (by rfl)) (by rfl) ?_ | refine wpList_exe (krp_v HK 0 _ (by rfl) (by rfl) (by rfl)) (by rfl) ?_ | refine wpList_exe (exec_e0l (x := p.e) _ (by rfl) (by rfl) H1.out) (by rfl) ?_ | refine wpList_exe (exec_e0g (x := p.e) _ (by rfl) (by rfl) H1.out) (by rfl) ?_ | refine wpList_exe (exec_e18 (x := p.e) _ (by rfl) (by rfl) H2.out) (by rfl) ?_)
    refine (HC.out _).mono ?_; rintro e w1 ⟨rfl, x1⟩
    replace HK := Lib.hid (HK.out.call x1)
    clear x1
    go_wp2_with fail
    go_ret
    exact ⟨rfl, HK.out.b⟩
end Go.Proofs.Ytbcdmmhbmjjooaa
