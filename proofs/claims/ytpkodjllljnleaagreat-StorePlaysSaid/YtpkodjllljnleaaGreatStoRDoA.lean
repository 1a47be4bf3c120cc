/- What the document's Do returns: the ways that change nothing, a new object, one that is dropped. No condition but those named. -/
import Derived.Test.YtpkodjllljnleaaGreatTk
import Derived.Test.YtpkodjllljnleaaGreatMZ
import Derived.Test.YtpkodjllljnleaaGreatMT
import Derived.Test.YtpkodjllljnleaaGreatStoRDoM
import Derived.Test.YtpkodjllljnleaaGreatMU
import Derived.Test.YtpkodjllljnleaaGreatMK
import Derived.Test.YtpkodjllljnleaaGreatMP
import Derived.Test.YtpkodjllljnleaaGreatMR
set_option linter.unusedSimpArgs false
set_option linter.unusedVariables false
namespace Go.Proofs.YtpkodjllljnleaaGreat
open Go.RowKit
def IsRD (G : World → Prop) (y : Sto.Rs) (w : World) (e : Ending) (w' : World) : Prop := ∃ (A : Option Addr) (n c : Nat) (l : List Oh) (O : Option Addr) (k d : Nat) (Rn : List RowE), e = .returned (.tuple #[.slice A n c, .agg (rpA y.p), .bool y.later, .slice O k d]) ∧ vs l = y.l ∧ Kn w.heap.size w w' [] Rn ∧
 ∀ (b : Nat) (W0 W : World) L R, Kn b W0 W L R → (∀ z ∈ Rn, z ∈ R) → G W → Obs W A n c l ∧ Sls otLay tF W O k d y.outs
section
variable {b0 : Nat} {w0 w : World} {L : List (Nat × TypeId × Array Value)} {R : List RowE} {ops : Array Oper} {rest : List Oper} {o : Oper} {a : Act} {Q : Exit → Act → World → Prop} {K : Act → World → Prop} {E : Prop}
theorem step_arq (HK : Hid (Kn b0 w0 w L R)) (hgd : o.guard = none) (ho : o.op = .alloc 33)
  (h : ∀ w' g, Hid (Kn b0 w0 w' (L ++ [(g, 33, rpA Sto.rz)]) R) → K (a.put o.dst (.pointer (some ⟨g, 0, none⟩))) w') : if Region.wanted o (yielded ops a.tmps) = true then Oper.wp Tryz.prog o a w K Q else E := by
 rw [if_pos (by simp [Region.wanted, hgd])]
 have h4 := h _ w.heap.size (zH (HK.out.alloc _ _))
 unfold Oper.wp execOp
 simp only [ho]
 unfold rpA Sto.rz at h4
 go_simp
 exact h4
theorem kp2 {x y : Nat × TypeId × Array Value} {L : List (Nat × TypeId × Array Value)} (h : Hid (Kn b0 w0 w (x :: y :: L) R)) : Hid (Kn b0 w0 w [x, y] []) := zH ((h.out.takeL 2).takeR 0)
theorem kp3 {x y z : Nat × TypeId × Array Value} {L : List (Nat × TypeId × Array Value)} (h : Hid (Kn b0 w0 w (x :: y :: z :: L) R)) : Hid (Kn b0 w0 w L []) := zH ((h.out.dropL 3).takeR 0)
theorem zaob (HK : Hid (Kn b0 w0 w L R)) (h : ∀ w' g, Hid (Kn b0 w0 w' (L ++ [(g, 55, obA ohZ)]) R) → K (a.put o.dst (.pointer (some ⟨g, 0, none⟩))) w') (hgd : o.guard = none := by rfl) (ho : o.op = .alloc 55 := by rfl) : if Region.wanted o (yielded ops a.tmps) = true then Oper.wp Tryz.prog o a w K Q else E :=
 step_aob HK hgd ho fun w' g h1 _ => h w' g h1
theorem zarp (HK : Hid (Kn b0 w0 w L R)) (h : ∀ w' g, Hid (Kn b0 w0 w' (L ++ [(g, 33, rpA Sto.rz)]) R) → K (a.put o.dst (.pointer (some ⟨g, 0, none⟩))) w') (hgd : o.guard = none := by rfl) (ho : o.op = .alloc 33 := by rfl) : if Region.wanted o (yielded ops a.tmps) = true then Oper.wp Tryz.prog o a w K Q else E :=
 step_arq HK hgd ho h
theorem zsob {g : Nat} {x : Oh} (y : Oh) (HK : Hid (Kn b0 w0 w L R)) (i : Nat) {p q : Operand} (h : ∀ w', Hid (Kn b0 w0 w' (L.set i (g, 55, obA y)) R) → K (a.put o.dst undef) w')
  (hgd : o.guard = none := by rfl) (ho : o.op = .store 55 p q := by rfl) (hL : L[i]? = some (g, 55, obA x) := by rfl) (hx : a.eval p = .pointer (some ⟨g, 0, none⟩) := by rfl) (hy : a.eval q = .agg (obA y) := by rfl) : if Region.wanted o (yielded ops a.tmps) = true then Oper.wp Tryz.prog o a w K Q else E :=
 step_sob HK i hgd p q ho hL hx hy h
theorem zsrp {g : Nat} {x : Sto.Rp} (y : Sto.Rp) (HK : Hid (Kn b0 w0 w L R)) (i : Nat) {p q : Operand} (h : ∀ w', Hid (Kn b0 w0 w' (L.set i (g, 33, rpA y)) R) → K (a.put o.dst undef) w')
  (hgd : o.guard = none := by rfl) (ho : o.op = .store 33 p q := by rfl) (hL : L[i]? = some (g, 33, rpA x) := by rfl) (hx : a.eval p = .pointer (some ⟨g, 0, none⟩) := by rfl) (hy : a.eval q = .agg (rpA y) := by rfl) : if Region.wanted o (yielded ops a.tmps) = true then Oper.wp Tryz.prog o a w K Q else E :=
 step_srp HK i hgd p q ho hL hx hy h
theorem exec_ger {x k : Int} {b : Bool} (p : Operand) (ho : o.op = .binOp .geq 3 p (.const (.int .i64 k)) 3) (hp : a.eval p = .int .i64 x) (hb : decide (k ≤ x) = b) :
  (execOp a.eval o).run Tryz.prog w = .ok (.value (.bool b)) w := by
 have he : a.eval (.const (.int .i64 k)) = .int .i64 k := rfl
 subst hb
 unfold execOp
 simp only [ho, hp, he]
 go_simp
theorem exec_ner {x k : Int} {b : Bool} (p : Operand) (ho : o.op = .binOp .neq 3 p (.const (.int .i64 k)) 3) (hp : a.eval p = .int .i64 x) (hb : (!decide (x = k)) = b) :
  (execOp a.eval o).run Tryz.prog w = .ok (.value (.bool b)) w := by
 have he : a.eval (.const (.int .i64 k)) = .int .i64 k := rfl
 subst hb
 unfold execOp
 simp only [ho, hp, he]
 go_simp
 by_cases h : x = k <;> simp [h]
end
theorem in_made {W : World} {l : List Oh} (c : Cmd.C) {p q : Nat} (h : ∀ x ∈ l, In W x) {y : Oh} (hy : y ∈ l.take p ++ [frO c] ++ l.drop q) : In W y := by
 rcases List.mem_append.1 hy with hy | hy
 ·rcases List.mem_append.1 hy with hy | hy
  ·exact h y (List.mem_of_mem_take hy)
  ·rw [List.mem_singleton.1 hy]
   exact In.fr _ c
 ·exact h y (List.mem_of_mem_drop hy)
theorem in_wo {W : World} {l : List Oh} {p q : Nat} (h : ∀ x ∈ l, In W x) {y : Oh} (hy : y ∈ l.take p ++ l.drop q) : In W y := by
 rcases List.mem_append.1 hy with hy | hy
 ·exact h y (List.mem_of_mem_take hy)
 ·exact h y (List.mem_of_mem_drop hy)
theorem vs_at {l : List Oh} {j : Nat} {y : Sto.Ob} (h : (vs l)[j]? = some y) : ∃ z, l[j]? = some z ∧ z.v = y := by
 unfold vs at h
 rw [List.getElem?_map] at h
 obtain ⟨z, hz, hy⟩ := Option.map_eq_some_iff.1 h
 exact ⟨z, hz, hy⟩
set_option maxRecDepth 100000 in
set_option maxHeartbeats 25600000 in
theorem rdo_a1 (G : World → Prop) (A : Option Addr) (cp n : Nat) (l : List Oh) (r : Rf) (c : Cmd.C) (w : World) (hG : ∀ W, G W → Obs W A n cp l) (hs : Obs w A n cp l) (hv : c.val.f < 18446744073709551616) (ho : c.old.f < 18446744073709551616) (hr : ¬ Sto.Right (vs l)) :
  Calls Tryz.prog 8 #[.slice A n cp, .agg #[.int .i64 r.c, .int .i64 r.e, .int .i64 r.r], .agg (cmA c)] w (IsRD G ⟨vs l, Sto.err 1, false, []⟩ w) := by
 have HGd := zH hG
 have HFl := zH rfail_any
 have HK := kn3 w 24 #[.int .i64 r.c, .int .i64 r.e, .int .i64 r.r] 29 (cmA c) 33 (rpA Sto.rz)
 have HM := zH (fun W (hW : Below w.heap.size w W) => roright_any A cp n l W (hs.later hW))
 unfold IsB at HM
 rw [decide_eq_false hr] at HM
 clear hs hv ho hr hG
 go_enter Tryz.func8, Tryz.ntmps8
 go_wp2_with fail
 (refine (HM.out _ HK.out.b).mono ?_; rintro e w1 ⟨rfl, b1⟩)
 replace HK := hkC HK b1; clear b1
 go_wp2_with fail
 refine (HFl.out 1 _).mono ?_; rintro e w1 ⟨rfl, b1⟩
 replace HK := hkC HK b1; clear b1
 go_wp2_with (first | (refine wpList_srp (q := ⟨1, Sto.vn⟩) HK 2 rfl _ _ rfl rfl rfl rfl ?_; intro _ HK'; simp only [List.set] at HK'; replace HK := HK'; clear HK'))
 exact ret_do Tryz.results8 rfl rfl rfl rfl rfl (HK.out.blk 2 rfl) (by unfold IsRD; exact ⟨_, _, _, l, _, _, _, _, rfl, rfl, HK.out.takeL 0, fun _ _ _ _ _ K hm hb => ⟨HGd.out _ hb, Sls.none _⟩⟩)
set_option maxRecDepth 100000 in
set_option maxHeartbeats 25600000 in
theorem rdo_a2 (G : World → Prop) (A : Option Addr) (cp n : Nat) (l : List Oh) (r : Rf) (c : Cmd.C) (w : World) (hG : ∀ W, G W → Obs W A n cp l) (hs : Obs w A n cp l) (hv : c.val.f < 18446744073709551616) (ho : c.old.f < 18446744073709551616) (hr : Sto.Right (vs l)) (hk : ¬ Lck.ok r) :
  Calls Tryz.prog 8 #[.slice A n cp, .agg #[.int .i64 r.c, .int .i64 r.e, .int .i64 r.r], .agg (cmA c)] w (IsRD G ⟨vs l, Sto.err 1, false, []⟩ w) := by
 have HGd := zH hG
 have HFl := zH rfail_any
 have HK := kn3 w 24 #[.int .i64 r.c, .int .i64 r.e, .int .i64 r.r] 29 (cmA c) 33 (rpA Sto.rz)
 have HM := zH (fun W (hW : Below w.heap.size w W) => roright_any A cp n l W (hs.later hW))
 unfold IsB at HM
 have HC := zH (fun W => rmr_any r W)
 unfold IsB at HC
 rw [decide_eq_true hr] at HM
 rw [decide_eq_false hk] at HC
 clear hs hv ho hr hk hG
 go_enter Tryz.func8, Tryz.ntmps8
 go_wp2_with fail
 (refine (HM.out _ HK.out.b).mono ?_; rintro e w1 ⟨rfl, b1⟩)
 replace HK := hkC HK b1; clear b1
 go_wp2_with (first | refine zX (kexec_lr HK 0 _ (by rfl) (by rfl) (by rfl)) ?_)
 refine (HC.out _).mono ?_; rintro e w1 ⟨rfl, b1⟩
 replace HK := hkC HK b1; clear b1
 go_wp2_with fail
 refine (HFl.out 1 _).mono ?_; rintro e w1 ⟨rfl, b1⟩
 replace HK := hkC HK b1; clear b1
 go_wp2_with (first | (refine wpList_srp (q := ⟨1, Sto.vn⟩) HK 2 rfl _ _ rfl rfl rfl rfl ?_; intro _ HK'; simp only [List.set] at HK'; replace HK := HK'; clear HK'))
 exact ret_do Tryz.results8 rfl rfl rfl rfl rfl (HK.out.blk 2 rfl) (by unfold IsRD; exact ⟨_, _, _, l, _, _, _, _, rfl, rfl, HK.out.takeL 0, fun _ _ _ _ _ K hm hb => ⟨HGd.out _ hb, Sls.none _⟩⟩)
set_option maxRecDepth 100000 in
set_option maxHeartbeats 25600000 in
theorem rdo_a3 (G : World → Prop) (A : Option Addr) (cp n : Nat) (l : List Oh) (r : Rf) (c : Cmd.C) (w : World) (hG : ∀ W, G W → Obs W A n cp l) (hs : Obs w A n cp l) (hv : c.val.f < 18446744073709551616) (ho : c.old.f < 18446744073709551616) (hr : Sto.Right (vs l)) (hk : Lck.ok r) (h4 : c.k < 4) :
  Calls Tryz.prog 8 #[.slice A n cp, .agg #[.int .i64 r.c, .int .i64 r.e, .int .i64 r.r], .agg (cmA c)] w (IsRD G ⟨vs l, Sto.err 1, false, []⟩ w) := by
 have HGd := zH hG
 have HFl := zH rfail_any
 have HK := kn3 w 24 #[.int .i64 r.c, .int .i64 r.e, .int .i64 r.r] 29 (cmA c) 33 (rpA Sto.rz)
 have HM := zH (fun W (hW : Below w.heap.size w W) => roright_any A cp n l W (hs.later hW))
 unfold IsB at HM
 have HC := zH (fun W => rmr_any r W)
 unfold IsB at HC
 rw [decide_eq_true hr] at HM
 rw [decide_eq_true hk] at HC
 have D4 : Hid (decide (c.k < 4) = true) := zH (decide_eq_true h4)
 have D17 : Hid (decide (17 < c.k) = decide (17 < c.k)) := zH rfl
 clear hs hv ho hr hk hG h4
 go_enter Tryz.func8, Tryz.ntmps8
 go_wp2_with fail
 (refine (HM.out _ HK.out.b).mono ?_; rintro e w1 ⟨rfl, b1⟩)
 replace HK := hkC HK b1; clear b1
 go_wp2_with (first | refine zX (kexec_lr HK 0 _ (by rfl) (by rfl) (by rfl)) ?_)
 refine (HC.out _).mono ?_; rintro e w1 ⟨rfl, b1⟩
 replace HK := hkC HK b1; clear b1
 go_wp2_with (first | refine zX (kcm_k HK 1 _ (by rfl) (by rfl) (by rfl)) ?_ | refine zX (exec_lti (x := c.k) (k := 4) _ (by rfl) (by rfl) D4.out) ?_ | refine zX (exec_gt (x := c.k) (k := 17) _ (by rfl) (by rfl) D17.out) ?_)
 refine (HFl.out 1 _).mono ?_; rintro e w1 ⟨rfl, b1⟩
 replace HK := hkC HK b1; clear b1
 go_wp2_with (first | (refine wpList_srp (q := ⟨1, Sto.vn⟩) HK 2 rfl _ _ rfl rfl rfl rfl ?_; intro _ HK'; simp only [List.set] at HK'; replace HK := HK'; clear HK'))
 exact ret_do Tryz.results8 rfl rfl rfl rfl rfl (HK.out.blk 2 rfl) (by unfold IsRD; exact ⟨_, _, _, l, _, _, _, _, rfl, rfl, HK.out.takeL 0, fun _ _ _ _ _ K hm hb => ⟨HGd.out _ hb, Sls.none _⟩⟩)
set_option maxRecDepth 100000 in
set_option maxHeartbeats 25600000 in
theorem rdo_a4 (G : World → Prop) (A : Option Addr) (cp n : Nat) (l : List Oh) (r : Rf) (c : Cmd.C) (w : World) (hG : ∀ W, G W → Obs W A n cp l) (hs : Obs w A n cp l) (hv : c.val.f < 18446744073709551616) (ho : c.old.f < 18446744073709551616) (hr : Sto.Right (vs l)) (hk : Lck.ok r) (h4 : ¬ c.k < 4) (h17 : 17 < c.k) :
  Calls Tryz.prog 8 #[.slice A n cp, .agg #[.int .i64 r.c, .int .i64 r.e, .int .i64 r.r], .agg (cmA c)] w (IsRD G ⟨vs l, Sto.err 1, false, []⟩ w) := by
 have HGd := zH hG
 have HFl := zH rfail_any
 have HK := kn3 w 24 #[.int .i64 r.c, .int .i64 r.e, .int .i64 r.r] 29 (cmA c) 33 (rpA Sto.rz)
 have HM := zH (fun W (hW : Below w.heap.size w W) => roright_any A cp n l W (hs.later hW))
 unfold IsB at HM
 have HC := zH (fun W => rmr_any r W)
 unfold IsB at HC
 rw [decide_eq_true hr] at HM
 rw [decide_eq_true hk] at HC
 have D4 : Hid (decide (c.k < 4) = false) := zH (decide_eq_false h4)
 have D17 : Hid (decide (17 < c.k) = true) := zH (decide_eq_true h17)
 clear hs hv ho hr hk hG h4 h17
 go_enter Tryz.func8, Tryz.ntmps8
 go_wp2_with fail
 (refine (HM.out _ HK.out.b).mono ?_; rintro e w1 ⟨rfl, b1⟩)
 replace HK := hkC HK b1; clear b1
 go_wp2_with (first | refine zX (kexec_lr HK 0 _ (by rfl) (by rfl) (by rfl)) ?_)
 refine (HC.out _).mono ?_; rintro e w1 ⟨rfl, b1⟩
 replace HK := hkC HK b1; clear b1
 go_wp2_with (first | refine zX (kcm_k HK 1 _ (by rfl) (by rfl) (by rfl)) ?_ | refine zX (exec_lti (x := c.k) (k := 4) _ (by rfl) (by rfl) D4.out) ?_ | refine zX (exec_gt (x := c.k) (k := 17) _ (by rfl) (by rfl) D17.out) ?_)
 refine (HFl.out 1 _).mono ?_; rintro e w1 ⟨rfl, b1⟩
 replace HK := hkC HK b1; clear b1
 go_wp2_with (first | (refine wpList_srp (q := ⟨1, Sto.vn⟩) HK 2 rfl _ _ rfl rfl rfl rfl ?_; intro _ HK'; simp only [List.set] at HK'; replace HK := HK'; clear HK'))
 exact ret_do Tryz.results8 rfl rfl rfl rfl rfl (HK.out.blk 2 rfl) (by unfold IsRD; exact ⟨_, _, _, l, _, _, _, _, rfl, rfl, HK.out.takeL 0, fun _ _ _ _ _ K hm hb => ⟨HGd.out _ hb, Sls.none _⟩⟩)
set_option maxRecDepth 100000 in
set_option maxHeartbeats 25600000 in
theorem rdo_chk (G : World → Prop) (A : Option Addr) (cp n : Nat) (l : List Oh) (r : Rf) (c : Cmd.C) (w : World) (hG : ∀ W, G W → Obs W A n cp l) (hs : Obs w A n cp l) (hv : c.val.f < 18446744073709551616) (ho : c.old.f < 18446744073709551616) (hall0 : Sto.All (vs l) r c) (he : Cmd.chk c ≠ 0) :
  Calls Tryz.prog 8 #[.slice A n cp, .agg #[.int .i64 r.c, .int .i64 r.e, .int .i64 r.r], .agg (cmA c)] w (IsRD G ⟨vs l, Sto.err (Cmd.chk c), false, []⟩ w) := by
 have HGd := zH hG
 have HFl := zH rfail_any
 have HK := kn3 w 24 #[.int .i64 r.c, .int .i64 r.e, .int .i64 r.r] 29 (cmA c) 33 (rpA Sto.rz)
 have HM := zH (fun W (hW : Below w.heap.size w W) => roright_any A cp n l W (hs.later hW))
 unfold IsB at HM
 have HC := zH (fun W => rmr_any r W)
 unfold IsB at HC
 have HE := zH (fun W => rchk_any c W hv ho)
 unfold IsE at HE
 have hall := hall0
 rw [decide_eq_true hall.1] at HM
 rw [decide_eq_true hall.2.1] at HC
 have D4 : Hid (decide (c.k < 4) = false) := zH (decide_eq_false (by have := hall.2.2.1; omega))
 have D17 : Hid (decide (17 < c.k) = false) := zH (decide_eq_false (by have := hall.2.2.2; omega))
 have he2 : (Cmd.chk c != 0) = true := by simpa using he
 clear hs hv ho hall hall0 hG he
 generalize Cmd.chk c = z at *
 go_enter Tryz.func8, Tryz.ntmps8
 go_wp2_with fail
 (refine (HM.out _ HK.out.b).mono ?_; rintro e w1 ⟨rfl, b1⟩)
 replace HK := hkC HK b1; clear b1
 go_wp2_with (first | refine zX (kexec_lr HK 0 _ (by rfl) (by rfl) (by rfl)) ?_)
 refine (HC.out _).mono ?_; rintro e w1 ⟨rfl, b1⟩
 replace HK := hkC HK b1; clear b1
 go_wp2_with (first | refine zX (kcm_k HK 1 _ (by rfl) (by rfl) (by rfl)) ?_ | refine zX (exec_lti (x := c.k) (k := 4) _ (by rfl) (by rfl) D4.out) ?_ | refine zX (exec_gt (x := c.k) (k := 17) _ (by rfl) (by rfl) D17.out) ?_ | refine zX (kcm HK 1 _ (by rfl) (by rfl) (by rfl)) ?_)
 refine (HE.out _).mono ?_; rintro e w1 ⟨rfl, b1⟩
 replace HK := hkC HK b1; clear b1
 go_wp2_with fail
 refine (HFl.out z _).mono ?_; rintro e w1 ⟨rfl, b1⟩
 replace HK := hkC HK b1; clear b1
 go_wp2_with (first | (refine wpList_srp (q := ⟨z, Sto.vn⟩) HK 2 rfl _ _ rfl rfl rfl rfl ?_; intro _ HK'; simp only [List.set] at HK'; replace HK := HK'; clear HK'))
 exact ret_do Tryz.results8 rfl rfl rfl rfl rfl (HK.out.blk 2 rfl) (by unfold IsRD; exact ⟨_, _, _, l, _, _, _, _, rfl, rfl, HK.out.takeL 0, fun _ _ _ _ _ K hm hb => ⟨HGd.out _ hb, Sls.none _⟩⟩)
set_option maxRecDepth 100000 in
set_option maxHeartbeats 25600000 in
theorem rdo_8 (G : World → Prop) (A : Option Addr) (cp n : Nat) (l : List Oh) (r : Rf) (c : Cmd.C) (w : World) (hG : ∀ W, G W → Obs W A n cp l) (hs : Obs w A n cp l) (hv : c.val.f < 18446744073709551616) (ho : c.old.f < 18446744073709551616) (hall0 : Sto.All (vs l) r c) (he : Cmd.chk c = 0) (h4 : c.k = 4) (o : Sto.Ob) (hf : Sto.fnd (vs l) c.name = some o) :
  Calls Tryz.prog 8 #[.slice A n cp, .agg #[.int .i64 r.c, .int .i64 r.e, .int .i64 r.r], .agg (cmA c)] w (IsRD G ⟨vs l, Sto.err 8, false, []⟩ w) := by
 have HGd := zH hG
 have HFl := zH rfail_any
 have HK := kn3 w 24 #[.int .i64 r.c, .int .i64 r.e, .int .i64 r.r] 29 (cmA c) 33 (rpA Sto.rz)
 have HM := zH (fun W (hW : Below w.heap.size w W) => roright_any A cp n l W (hs.later hW))
 unfold IsB at HM
 have HC := zH (fun W => rmr_any r W)
 unfold IsB at HC
 have HE := zH (fun W => rchk_any c W hv ho)
 unfold IsE at HE
 have hall := hall0
 rw [decide_eq_true hall.1] at HM
 rw [decide_eq_true hall.2.1] at HC
 have D4 : Hid (decide (c.k < 4) = false) := zH (decide_eq_false (by have := hall.2.2.1; omega))
 have D17 : Hid (decide (17 < c.k) = false) := zH (decide_eq_false (by have := hall.2.2.2; omega))
 rw [he] at HE
 have HFi := zH (fun W (hW : Below w.heap.size w W) => rfind_any A cp n l c.name W (hs.later hW))
 have HYe : Hid (¬ ∀ (j : Nat) (y : Oh), l[j]? = some y → ¬ y.v.name = c.name) := zH (fun h => by have := (Sto.no_idx (l := vs l) (k := c.name) (fun j y hj => by obtain ⟨z, hz, rfl⟩ := vs_at hj; exact h j z hz)).2; rw [hf] at this; cases this)
 have HVo : Hid (∀ (i : Nat) (x : Oh), l[i]? = some x → x.v.name = c.name → x.v = o) := zH (fun i x h1 h2 => by have := (Sto.at_idx hall.1.up (vs_get h1) h2).2.2; rw [hf] at this; injection this with this; exact this.symm)
 have hpos : 0 < n := by
  rcases Nat.eq_zero_or_pos n with h0 | h0
  ·subst h0
   rw [List.length_eq_zero_iff.1 hs.len] at hf
   cases hf
  ·exact h0
 have hl := hs.len
 obtain ⟨b, ofs, rfl, hat0⟩ := hs.s.at hpos
 have HAt := zH hat0
 have HI := zH hs.i
 clear hat0
 have E4 : Hid (decide (c.k = 4) = true) := zH (decide_eq_true h4)
 clear hs hv ho hall hall0 hG he h4 hf
 go_enter Tryz.func8, Tryz.ntmps8
 go_wp2_with fail
 (refine (HM.out _ HK.out.b).mono ?_; rintro e w1 ⟨rfl, b1⟩)
 replace HK := hkC HK b1; clear b1
 go_wp2_with (first | refine zX (kexec_lr HK 0 _ (by rfl) (by rfl) (by rfl)) ?_)
 refine (HC.out _).mono ?_; rintro e w1 ⟨rfl, b1⟩
 replace HK := hkC HK b1; clear b1
 go_wp2_with (first | refine zX (kcm_k HK 1 _ (by rfl) (by rfl) (by rfl)) ?_ | refine zX (exec_lti (x := c.k) (k := 4) _ (by rfl) (by rfl) D4.out) ?_ | refine zX (exec_gt (x := c.k) (k := 17) _ (by rfl) (by rfl) D17.out) ?_ | refine zX (kcm HK 1 _ (by rfl) (by rfl) (by rfl)) ?_)
 refine (HE.out _).mono ?_; rintro e w1 ⟨rfl, b1⟩
 replace HK := hkC HK b1; clear b1
 go_wp2_with (first | refine zX (kcm_n HK 1 _ (by rfl) (by rfl) (by rfl)) ?_)
 refine (HFi.out _ HK.out.b).mono ?_; rintro e w1 ⟨z, hat, rfl, b1⟩
 replace HK := hkC HK b1; clear b1
 rcases hat with ⟨i, x, rfl, hx, hn, _⟩ | ⟨rfl, hno⟩
 case inr => exact absurd hno HYe.out
 obtain rfl := HVo.out i x hx hn
 have HX : Hid (∀ W, Below w.heap.size w W → ∀ j v, (obL x)[j]? = some v → W.cell? ⟨b, ofs + i * 11 + j, none⟩ = some v) := zH fun W hW => HAt.out W hW i x hx
 have hin : i < n := by have := (List.getElem?_eq_some_iff.1 hx).1; omega
 have hi0 : (0 : Int) ≤ (i : Int) := by omega
 have hi1 : (i : Int) < (n : Int) := by omega
 have G0 : Hid (decide ((0 : Int) ≤ (i : Int)) = true) := zH (decide_eq_true hi0)
 have L0 : Hid (decide ((i : Int) < 0) = false) := zH (decide_eq_false (by omega))
 clear HAt hl hx hn HVo HYe HX
 go_wp2_with (first | refine zX (kcm_k HK 1 _ (by rfl) (by rfl) (by rfl)) ?_ | refine zX (exec_ier (x := c.k) (k := 4) _ (by rfl) (by rfl) E4.out) ?_ | refine zX (exec_ger (x := (i : Int)) (k := 0) _ (by rfl) (by rfl) G0.out) ?_)
 refine (HFl.out 8 _).mono ?_; rintro e w1 ⟨rfl, b1⟩
 replace HK := hkC HK b1; clear b1
 go_wp2_with (first | (refine wpList_srp (q := ⟨8, Sto.vn⟩) HK 2 rfl _ _ rfl rfl rfl rfl ?_; intro _ HK'; simp only [List.set] at HK'; replace HK := HK'; clear HK'))
 exact ret_do Tryz.results8 rfl rfl rfl rfl rfl (HK.out.blk 2 rfl) (by unfold IsRD; exact ⟨_, _, _, l, _, _, _, _, rfl, rfl, HK.out.takeL 0, fun _ _ _ _ _ K hm hb => ⟨HGd.out _ hb, Sls.none _⟩⟩)
set_option maxRecDepth 100000 in
set_option maxHeartbeats 25600000 in
theorem rdo_6 (G : World → Prop) (A : Option Addr) (cp n : Nat) (l : List Oh) (r : Rf) (c : Cmd.C) (w : World) (hG : ∀ W, G W → Obs W A n cp l) (hs : Obs w A n cp l) (hv : c.val.f < 18446744073709551616) (ho : c.old.f < 18446744073709551616) (hall0 : Sto.All (vs l) r c) (he : Cmd.chk c = 0) (h4 : c.k = 4) (hf : Sto.fnd (vs l) c.name = none) (h8 : n = 8) :
  Calls Tryz.prog 8 #[.slice A n cp, .agg #[.int .i64 r.c, .int .i64 r.e, .int .i64 r.r], .agg (cmA c)] w (IsRD G ⟨vs l, Sto.err 6, false, []⟩ w) := by
 have HGd := zH hG
 have HFl := zH rfail_any
 have HK := kn3 w 24 #[.int .i64 r.c, .int .i64 r.e, .int .i64 r.r] 29 (cmA c) 33 (rpA Sto.rz)
 have HM := zH (fun W (hW : Below w.heap.size w W) => roright_any A cp n l W (hs.later hW))
 unfold IsB at HM
 have HC := zH (fun W => rmr_any r W)
 unfold IsB at HC
 have HE := zH (fun W => rchk_any c W hv ho)
 unfold IsE at HE
 have hall := hall0
 rw [decide_eq_true hall.1] at HM
 rw [decide_eq_true hall.2.1] at HC
 have D4 : Hid (decide (c.k < 4) = false) := zH (decide_eq_false (by have := hall.2.2.1; omega))
 have D17 : Hid (decide (17 < c.k) = false) := zH (decide_eq_false (by have := hall.2.2.2; omega))
 rw [he] at HE
 have HFi := zH (fun W (hW : Below w.heap.size w W) => rfind_any A cp n l c.name W (hs.later hW))
 have HNo : Hid (¬ ∃ (i : Nat) (x : Oh), l[i]? = some x ∧ x.v.name = c.name) := zH (by rintro ⟨i, x, h1, h2⟩; have := (Sto.at_idx hall.1.up (vs_get h1) h2).2.2; rw [hf] at this; cases this)
 have E4 : Hid (decide (c.k = 4) = true) := zH (decide_eq_true h4)
 have E8 : Hid (decide ((n : Int) = 8) = true) := zH (decide_eq_true (by omega))
 clear hs hv ho hall hall0 hG he h4 hf h8
 go_enter Tryz.func8, Tryz.ntmps8
 go_wp2_with fail
 (refine (HM.out _ HK.out.b).mono ?_; rintro e w1 ⟨rfl, b1⟩)
 replace HK := hkC HK b1; clear b1
 go_wp2_with (first | refine zX (kexec_lr HK 0 _ (by rfl) (by rfl) (by rfl)) ?_)
 refine (HC.out _).mono ?_; rintro e w1 ⟨rfl, b1⟩
 replace HK := hkC HK b1; clear b1
 go_wp2_with (first | refine zX (kcm_k HK 1 _ (by rfl) (by rfl) (by rfl)) ?_ | refine zX (exec_lti (x := c.k) (k := 4) _ (by rfl) (by rfl) D4.out) ?_ | refine zX (exec_gt (x := c.k) (k := 17) _ (by rfl) (by rfl) D17.out) ?_ | refine zX (kcm HK 1 _ (by rfl) (by rfl) (by rfl)) ?_)
 refine (HE.out _).mono ?_; rintro e w1 ⟨rfl, b1⟩
 replace HK := hkC HK b1; clear b1
 go_wp2_with (first | refine zX (kcm_n HK 1 _ (by rfl) (by rfl) (by rfl)) ?_)
 refine (HFi.out _ HK.out.b).mono ?_; rintro e w1 ⟨z, hat, rfl, b1⟩
 replace HK := hkC HK b1; clear b1
 rcases hat with ⟨i, x, rfl, hx, hn, _⟩ | ⟨rfl, hno⟩
 ·exact absurd ⟨i, x, hx, hn⟩ HNo.out
 clear hno
 go_wp2_with (first | refine zX (kcm_k HK 1 _ (by rfl) (by rfl) (by rfl)) ?_ | refine zX (exec_ier (x := c.k) (k := 4) _ (by rfl) (by rfl) E4.out) ?_ | refine zX (exec_ier (x := (n : Int)) (k := 8) _ (by rfl) (by rfl) E8.out) ?_)
 refine (HFl.out 6 _).mono ?_; rintro e w1 ⟨rfl, b1⟩
 replace HK := hkC HK b1; clear b1
 go_wp2_with (first | (refine wpList_srp (q := ⟨6, Sto.vn⟩) HK 2 rfl _ _ rfl rfl rfl rfl ?_; intro _ HK'; simp only [List.set] at HK'; replace HK := HK'; clear HK'))
 exact ret_do Tryz.results8 rfl rfl rfl rfl rfl (HK.out.blk 2 rfl) (by unfold IsRD; exact ⟨_, _, _, l, _, _, _, _, rfl, rfl, HK.out.takeL 0, fun _ _ _ _ _ K hm hb => ⟨HGd.out _ hb, Sls.none _⟩⟩)
set_option maxRecDepth 100000 in
set_option maxHeartbeats 25600000 in
theorem rdo_made (G : World → Prop) (A : Option Addr) (cp n : Nat) (l : List Oh) (r : Rf) (c : Cmd.C) (w : World) (hG : ∀ W, G W → Obs W A n cp l) (hs : Obs w A n cp l) (hv : c.val.f < 18446744073709551616) (ho : c.old.f < 18446744073709551616) (hall0 : Sto.All (vs l) r c) (he : Cmd.chk c = 0) (h4 : c.k = 4) (hf : Sto.fnd (vs l) c.name = none) (h8 : ¬ n = 8) :
  Calls Tryz.prog 8 #[.slice A n cp, .agg #[.int .i64 r.c, .int .i64 r.e, .int .i64 r.r], .agg (cmA c)] w (IsRD G ⟨(vs l).take (Sto.idx (vs l) c.name) ++ [Sto.fresh c] ++ (vs l).drop (Sto.idx (vs l) c.name), Sto.rz, false, []⟩ w) := by
 have HGd := zH hG
 have HFl := zH rfail_any
 have HK := kn3 w 24 #[.int .i64 r.c, .int .i64 r.e, .int .i64 r.r] 29 (cmA c) 33 (rpA Sto.rz)
 have HM := zH (fun W (hW : Below w.heap.size w W) => roright_any A cp n l W (hs.later hW))
 unfold IsB at HM
 have HC := zH (fun W => rmr_any r W)
 unfold IsB at HC
 have HE := zH (fun W => rchk_any c W hv ho)
 unfold IsE at HE
 have hall := hall0
 rw [decide_eq_true hall.1] at HM
 rw [decide_eq_true hall.2.1] at HC
 have D4 : Hid (decide (c.k < 4) = false) := zH (decide_eq_false (by have := hall.2.2.1; omega))
 have D17 : Hid (decide (17 < c.k) = false) := zH (decide_eq_false (by have := hall.2.2.2; omega))
 rw [he] at HE
 have HFi := zH (fun W (hW : Below w.heap.size w W) => rfind_any A cp n l c.name W (hs.later hW))
 have HNo : Hid (¬ ∃ (i : Nat) (x : Oh), l[i]? = some x ∧ x.v.name = c.name) := zH (by rintro ⟨i, x, h1, h2⟩; have := (Sto.at_idx hall.1.up (vs_get h1) h2).2.2; rw [hf] at this; cases this)
 have E4 : Hid (decide (c.k = 4) = true) := zH (decide_eq_true h4)
 have E8 : Hid (decide ((n : Int) = 8) = false) := zH (decide_eq_false (by omega))
 have hn8 : n ≤ 8 := by have := hall.1.len; rw [vs_len, hs.len] at this; exact this
 have HN8 := zH hn8
 have HLn := zH hs.len
 have HMa := zH (fun W (hW : Below w.heap.size w W) => rmade_any A cp n l c W (hs.later hW) hn8)
 unfold IsRO at HMa
 clear hs hv ho hall hall0 hG he h4 hf h8 hn8
 go_enter Tryz.func8, Tryz.ntmps8
 go_wp2_with fail
 (refine (HM.out _ HK.out.b).mono ?_; rintro e w1 ⟨rfl, b1⟩)
 replace HK := hkC HK b1; clear b1
 go_wp2_with (first | refine zX (kexec_lr HK 0 _ (by rfl) (by rfl) (by rfl)) ?_)
 refine (HC.out _).mono ?_; rintro e w1 ⟨rfl, b1⟩
 replace HK := hkC HK b1; clear b1
 go_wp2_with (first | refine zX (kcm_k HK 1 _ (by rfl) (by rfl) (by rfl)) ?_ | refine zX (exec_lti (x := c.k) (k := 4) _ (by rfl) (by rfl) D4.out) ?_ | refine zX (exec_gt (x := c.k) (k := 17) _ (by rfl) (by rfl) D17.out) ?_ | refine zX (kcm HK 1 _ (by rfl) (by rfl) (by rfl)) ?_)
 refine (HE.out _).mono ?_; rintro e w1 ⟨rfl, b1⟩
 replace HK := hkC HK b1; clear b1
 go_wp2_with (first | refine zX (kcm_n HK 1 _ (by rfl) (by rfl) (by rfl)) ?_)
 refine (HFi.out _ HK.out.b).mono ?_; rintro e w1 ⟨z, hat, rfl, b1⟩
 replace HK := hkC HK b1; clear b1
 rcases hat with ⟨i, x, rfl, hx, hn, _⟩ | ⟨rfl, hno⟩
 ·exact absurd ⟨i, x, hx, hn⟩ HNo.out
 clear hno
 go_wp2_with (first | refine zX (kcm_k HK 1 _ (by rfl) (by rfl) (by rfl)) ?_ | refine zX (exec_ier (x := c.k) (k := 4) _ (by rfl) (by rfl) E4.out) ?_ | refine zX (exec_ier (x := (n : Int)) (k := 8) _ (by rfl) (by rfl) E8.out) ?_ | refine zX (kcm HK 1 _ (by rfl) (by rfl) (by rfl)) ?_)
 refine (HMa.out _ HK.out.b).mono ?_; rintro e w1 ⟨A4, n4, c4, rfl, o4, b4⟩
 replace HK := zH (HK.out.called b4 o4)
 simp only [lnA] at HK
 clear o4 b4
 go_wp2_with (first | (refine wpList_srp (q := Sto.rz) HK 2 rfl _ _ rfl rfl rfl rfl ?_; intro _ HK'; simp only [List.set] at HK'; replace HK := HK'; clear HK'))
 exact ret_do Tryz.results8 rfl rfl rfl rfl rfl (HK.out.blk 2 rfl) (by unfold IsRD; exact ⟨_, _, _, _, _, _, _, _, rfl, vs_put l _ _ (frO c), HK.out.takeL 0, fun _ _ _ _ _ K hm hb => ⟨⟨Sls.own (K.mem (hm _ (List.mem_cons_self ..))) ⟨fun y hy => trivial, by rw [List.length_append, List.length_append, List.length_take, List.length_drop, HLn.out]; show (min _ n + 1 + (n - _)) * 144 ≤ _; have := HN8.out; omega⟩, fun y hy => in_made c (HGd.out _ hb).i hy⟩, Sls.none _⟩⟩)
set_option maxRecDepth 100000 in
set_option maxHeartbeats 25600000 in
theorem rdo_5 (G : World → Prop) (A : Option Addr) (cp n : Nat) (l : List Oh) (r : Rf) (c : Cmd.C) (w : World) (hG : ∀ W, G W → Obs W A n cp l) (hs : Obs w A n cp l) (hv : c.val.f < 18446744073709551616) (ho : c.old.f < 18446744073709551616) (hall0 : Sto.All (vs l) r c) (he : Cmd.chk c = 0) (h4 : ¬ c.k = 4) (hf : Sto.fnd (vs l) c.name = none) :
  Calls Tryz.prog 8 #[.slice A n cp, .agg #[.int .i64 r.c, .int .i64 r.e, .int .i64 r.r], .agg (cmA c)] w (IsRD G ⟨vs l, Sto.err 5, false, []⟩ w) := by
 have HGd := zH hG
 have HFl := zH rfail_any
 have HK := kn3 w 24 #[.int .i64 r.c, .int .i64 r.e, .int .i64 r.r] 29 (cmA c) 33 (rpA Sto.rz)
 have HM := zH (fun W (hW : Below w.heap.size w W) => roright_any A cp n l W (hs.later hW))
 unfold IsB at HM
 have HC := zH (fun W => rmr_any r W)
 unfold IsB at HC
 have HE := zH (fun W => rchk_any c W hv ho)
 unfold IsE at HE
 have hall := hall0
 rw [decide_eq_true hall.1] at HM
 rw [decide_eq_true hall.2.1] at HC
 have D4 : Hid (decide (c.k < 4) = false) := zH (decide_eq_false (by have := hall.2.2.1; omega))
 have D17 : Hid (decide (17 < c.k) = false) := zH (decide_eq_false (by have := hall.2.2.2; omega))
 rw [he] at HE
 have HFi := zH (fun W (hW : Below w.heap.size w W) => rfind_any A cp n l c.name W (hs.later hW))
 have HNo : Hid (¬ ∃ (i : Nat) (x : Oh), l[i]? = some x ∧ x.v.name = c.name) := zH (by rintro ⟨i, x, h1, h2⟩; have := (Sto.at_idx hall.1.up (vs_get h1) h2).2.2; rw [hf] at this; cases this)
 have E4 : Hid (decide (c.k = 4) = false) := zH (decide_eq_false h4)
 clear hs hv ho hall hall0 hG he h4 hf
 go_enter Tryz.func8, Tryz.ntmps8
 go_wp2_with fail
 (refine (HM.out _ HK.out.b).mono ?_; rintro e w1 ⟨rfl, b1⟩)
 replace HK := hkC HK b1; clear b1
 go_wp2_with (first | refine zX (kexec_lr HK 0 _ (by rfl) (by rfl) (by rfl)) ?_)
 refine (HC.out _).mono ?_; rintro e w1 ⟨rfl, b1⟩
 replace HK := hkC HK b1; clear b1
 go_wp2_with (first | refine zX (kcm_k HK 1 _ (by rfl) (by rfl) (by rfl)) ?_ | refine zX (exec_lti (x := c.k) (k := 4) _ (by rfl) (by rfl) D4.out) ?_ | refine zX (exec_gt (x := c.k) (k := 17) _ (by rfl) (by rfl) D17.out) ?_ | refine zX (kcm HK 1 _ (by rfl) (by rfl) (by rfl)) ?_)
 refine (HE.out _).mono ?_; rintro e w1 ⟨rfl, b1⟩
 replace HK := hkC HK b1; clear b1
 go_wp2_with (first | refine zX (kcm_n HK 1 _ (by rfl) (by rfl) (by rfl)) ?_)
 refine (HFi.out _ HK.out.b).mono ?_; rintro e w1 ⟨z, hat, rfl, b1⟩
 replace HK := hkC HK b1; clear b1
 rcases hat with ⟨i, x, rfl, hx, hn, _⟩ | ⟨rfl, hno⟩
 ·exact absurd ⟨i, x, hx, hn⟩ HNo.out
 clear hno
 go_wp2_with (first | refine zX (kcm_k HK 1 _ (by rfl) (by rfl) (by rfl)) ?_ | refine zX (exec_ier (x := c.k) (k := 4) _ (by rfl) (by rfl) E4.out) ?_)
 refine (HFl.out 5 _).mono ?_; rintro e w1 ⟨rfl, b1⟩
 replace HK := hkC HK b1; clear b1
 go_wp2_with (first | (refine wpList_srp (q := ⟨5, Sto.vn⟩) HK 2 rfl _ _ rfl rfl rfl rfl ?_; intro _ HK'; simp only [List.set] at HK'; replace HK := HK'; clear HK'))
 exact ret_do Tryz.results8 rfl rfl rfl rfl rfl (HK.out.blk 2 rfl) (by unfold IsRD; exact ⟨_, _, _, l, _, _, _, _, rfl, rfl, HK.out.takeL 0, fun _ _ _ _ _ K hm hb => ⟨HGd.out _ hb, Sls.none _⟩⟩)
set_option maxRecDepth 100000 in
set_option maxHeartbeats 25600000 in
theorem rdo_7 (G : World → Prop) (A : Option Addr) (cp n : Nat) (l : List Oh) (r : Rf) (c : Cmd.C) (w : World) (hG : ∀ W, G W → Obs W A n cp l) (hs : Obs w A n cp l) (hv : c.val.f < 18446744073709551616) (ho : c.old.f < 18446744073709551616) (hall0 : Sto.All (vs l) r c) (he : Cmd.chk c = 0) (h4 : ¬ c.k = 4) (o : Sto.Ob) (hf : Sto.fnd (vs l) c.name = some o) (hft : Sto.fits c.k o.kind = false) :
  Calls Tryz.prog 8 #[.slice A n cp, .agg #[.int .i64 r.c, .int .i64 r.e, .int .i64 r.r], .agg (cmA c)] w (IsRD G ⟨vs l, Sto.err 7, false, []⟩ w) := by
 have HGd := zH hG
 have HFl := zH rfail_any
 have HK := kn3 w 24 #[.int .i64 r.c, .int .i64 r.e, .int .i64 r.r] 29 (cmA c) 33 (rpA Sto.rz)
 have HM := zH (fun W (hW : Below w.heap.size w W) => roright_any A cp n l W (hs.later hW))
 unfold IsB at HM
 have HC := zH (fun W => rmr_any r W)
 unfold IsB at HC
 have HE := zH (fun W => rchk_any c W hv ho)
 unfold IsE at HE
 have hall := hall0
 rw [decide_eq_true hall.1] at HM
 rw [decide_eq_true hall.2.1] at HC
 have D4 : Hid (decide (c.k < 4) = false) := zH (decide_eq_false (by have := hall.2.2.1; omega))
 have D17 : Hid (decide (17 < c.k) = false) := zH (decide_eq_false (by have := hall.2.2.2; omega))
 rw [he] at HE
 have HFi := zH (fun W (hW : Below w.heap.size w W) => rfind_any A cp n l c.name W (hs.later hW))
 have HYe : Hid (¬ ∀ (j : Nat) (y : Oh), l[j]? = some y → ¬ y.v.name = c.name) := zH (fun h => by have := (Sto.no_idx (l := vs l) (k := c.name) (fun j y hj => by obtain ⟨z, hz, rfl⟩ := vs_at hj; exact h j z hz)).2; rw [hf] at this; cases this)
 have HVo : Hid (∀ (i : Nat) (x : Oh), l[i]? = some x → x.v.name = c.name → x.v = o) := zH (fun i x h1 h2 => by have := (Sto.at_idx hall.1.up (vs_get h1) h2).2.2; rw [hf] at this; injection this with this; exact this.symm)
 have hpos : 0 < n := by
  rcases Nat.eq_zero_or_pos n with h0 | h0
  ·subst h0
   rw [List.length_eq_zero_iff.1 hs.len] at hf
   cases hf
  ·exact h0
 have hl := hs.len
 obtain ⟨b, ofs, rfl, hat0⟩ := hs.s.at hpos
 have HAt := zH hat0
 have HI := zH hs.i
 clear hat0
 have HFt := zH (fun W => rfits_any c.k o.kind (by have := hall.2.2.1; omega) hall.2.2.2 W)
 unfold IsB at HFt
 rw [hft] at HFt
 have E4 : Hid (decide (c.k = 4) = false) := zH (decide_eq_false h4)
 clear hs hv ho hall hall0 hG he h4 hf hft
 go_enter Tryz.func8, Tryz.ntmps8
 go_wp2_with fail
 (refine (HM.out _ HK.out.b).mono ?_; rintro e w1 ⟨rfl, b1⟩)
 replace HK := hkC HK b1; clear b1
 go_wp2_with (first | refine zX (kexec_lr HK 0 _ (by rfl) (by rfl) (by rfl)) ?_)
 refine (HC.out _).mono ?_; rintro e w1 ⟨rfl, b1⟩
 replace HK := hkC HK b1; clear b1
 go_wp2_with (first | refine zX (kcm_k HK 1 _ (by rfl) (by rfl) (by rfl)) ?_ | refine zX (exec_lti (x := c.k) (k := 4) _ (by rfl) (by rfl) D4.out) ?_ | refine zX (exec_gt (x := c.k) (k := 17) _ (by rfl) (by rfl) D17.out) ?_ | refine zX (kcm HK 1 _ (by rfl) (by rfl) (by rfl)) ?_)
 refine (HE.out _).mono ?_; rintro e w1 ⟨rfl, b1⟩
 replace HK := hkC HK b1; clear b1
 go_wp2_with (first | refine zX (kcm_n HK 1 _ (by rfl) (by rfl) (by rfl)) ?_)
 refine (HFi.out _ HK.out.b).mono ?_; rintro e w1 ⟨z, hat, rfl, b1⟩
 replace HK := hkC HK b1; clear b1
 rcases hat with ⟨i, x, rfl, hx, hn, _⟩ | ⟨rfl, hno⟩
 case inr => exact absurd hno HYe.out
 obtain rfl := HVo.out i x hx hn
 have HX : Hid (∀ W, Below w.heap.size w W → ∀ j v, (obL x)[j]? = some v → W.cell? ⟨b, ofs + i * 11 + j, none⟩ = some v) := zH fun W hW => HAt.out W hW i x hx
 have hin : i < n := by have := (List.getElem?_eq_some_iff.1 hx).1; omega
 have hi0 : (0 : Int) ≤ (i : Int) := by omega
 have hi1 : (i : Int) < (n : Int) := by omega
 have G0 : Hid (decide ((0 : Int) ≤ (i : Int)) = true) := zH (decide_eq_true hi0)
 have L0 : Hid (decide ((i : Int) < 0) = false) := zH (decide_eq_false (by omega))
 clear HAt hl hx hn HVo HYe
 go_wp2_with (first | refine zX (kcm_k HK 1 _ (by rfl) (by rfl) (by rfl)) ?_ | refine zX (exec_ier (x := c.k) (k := 4) _ (by rfl) (by rfl) E4.out) ?_ | refine zX (exec_lti (x := (i : Int)) (k := 0) _ (by rfl) (by rfl) L0.out) ?_)
 have HK0 := zH HK.out.drew
 refine wp_region_held_drew (S := (fun W => Hid (Kn w.heap.size w W [(w.heap.size, 24, #[.int .i64 r.c, .int .i64 r.e, .int .i64 r.r]), (w.heap.size + 1, 29, cmA c), (w.heap.size + 2, 33, rpA Sto.rz)] []))) (by kernel_rfl) ?_ (fun hHeld => ?_)
 ·(try dsimp only); exact HK0
 refine stk 0 88 rfl ?_
 refine stk 1 89 rfl ?_ (fun w hSw => kcm_k hSw 1 _ (by rfl) (by rfl) (by rfl))
 refine stk 2 90 rfl ?_
 refine stk 3 91 rfl ?_
 refine stk 4 92 rfl ?_ (fun w hSw => exec_ixo (i := i) _ _ (by rfl) (by rfl) (by rfl) hin)
 refine stk 5 93 rfl ?_
 refine stk 6 94 rfl ?_ (fun w hSw => exec_obk (x := x) (off := ofs + i * 11) _ (by rfl) (by rfl) (HX.out _ hSw.out.b))
 refine srd1 7 (some 95) rfl (fun K hK => ?_)
 go_simp
 go_at_call 25
 refine (HFt.out _).mono ?_; rintro e w5 ⟨rfl, b5⟩; have hs := zH (hHeld.out.call b5); clear b5
 refine hK.out _ _ hs (fun hHeld => ?_)
 clear hK K
 try simp only [ap1, ap2, ap3, ap4, ap5]
 refine stk 8 96 rfl ?_
 refine stk 9 87 rfl ?_
 refine wpAnyH_done (by kernel_rfl) ?_ _
 replace HK := hHeld
 clear hHeld HK0
 go_wp2_with fail
 refine (HFl.out 7 _).mono ?_; rintro e w1 ⟨rfl, b1⟩
 replace HK := hkC HK b1; clear b1
 go_wp2_with (first | (refine wpList_srp (q := ⟨7, Sto.vn⟩) HK 2 rfl _ _ rfl rfl rfl rfl ?_; intro _ HK'; simp only [List.set] at HK'; replace HK := HK'; clear HK'))
 exact ret_do Tryz.results8 rfl rfl rfl rfl rfl (HK.out.blk 2 rfl) (by unfold IsRD; exact ⟨_, _, _, l, _, _, _, _, rfl, rfl, HK.out.takeL 0, fun _ _ _ _ _ K hm hb => ⟨HGd.out _ hb, Sls.none _⟩⟩)
set_option maxRecDepth 100000 in
set_option maxHeartbeats 25600000 in
theorem rdo_13 (G : World → Prop) (A : Option Addr) (cp n : Nat) (l : List Oh) (r : Rf) (c : Cmd.C) (w : World) (hG : ∀ W, G W → Obs W A n cp l) (hs : Obs w A n cp l) (hv : c.val.f < 18446744073709551616) (ho : c.old.f < 18446744073709551616) (hall0 : Sto.All (vs l) r c) (he : Cmd.chk c = 0) (h5 : c.k = 5) (o : Sto.Ob) (hf : Sto.fnd (vs l) c.name = some o) (hrl : 0 < o.refs.length) :
  Calls Tryz.prog 8 #[.slice A n cp, .agg #[.int .i64 r.c, .int .i64 r.e, .int .i64 r.r], .agg (cmA c)] w (IsRD G ⟨vs l, Sto.err 13, false, []⟩ w) := by
 have HGd := zH hG
 have HFl := zH rfail_any
 have HK := kn3 w 24 #[.int .i64 r.c, .int .i64 r.e, .int .i64 r.r] 29 (cmA c) 33 (rpA Sto.rz)
 have HM := zH (fun W (hW : Below w.heap.size w W) => roright_any A cp n l W (hs.later hW))
 unfold IsB at HM
 have HC := zH (fun W => rmr_any r W)
 unfold IsB at HC
 have HE := zH (fun W => rchk_any c W hv ho)
 unfold IsE at HE
 have hall := hall0
 rw [decide_eq_true hall.1] at HM
 rw [decide_eq_true hall.2.1] at HC
 have D4 : Hid (decide (c.k < 4) = false) := zH (decide_eq_false (by have := hall.2.2.1; omega))
 have D17 : Hid (decide (17 < c.k) = false) := zH (decide_eq_false (by have := hall.2.2.2; omega))
 rw [he] at HE
 have HFi := zH (fun W (hW : Below w.heap.size w W) => rfind_any A cp n l c.name W (hs.later hW))
 have HYe : Hid (¬ ∀ (j : Nat) (y : Oh), l[j]? = some y → ¬ y.v.name = c.name) := zH (fun h => by have := (Sto.no_idx (l := vs l) (k := c.name) (fun j y hj => by obtain ⟨z, hz, rfl⟩ := vs_at hj; exact h j z hz)).2; rw [hf] at this; cases this)
 have HVo : Hid (∀ (i : Nat) (x : Oh), l[i]? = some x → x.v.name = c.name → x.v = o) := zH (fun i x h1 h2 => by have := (Sto.at_idx hall.1.up (vs_get h1) h2).2.2; rw [hf] at this; injection this with this; exact this.symm)
 have hpos : 0 < n := by
  rcases Nat.eq_zero_or_pos n with h0 | h0
  ·subst h0
   rw [List.length_eq_zero_iff.1 hs.len] at hf
   cases hf
  ·exact h0
 have hl := hs.len
 obtain ⟨b, ofs, rfl, hat0⟩ := hs.s.at hpos
 have HAt := zH hat0
 have HI := zH hs.i
 clear hat0
 have hft : Sto.fits c.k o.kind = true := by rw [h5]; rfl
 have HRl := zH hrl
 have HFt := zH (fun W => rfits_any c.k o.kind (by have := hall.2.2.1; omega) hall.2.2.2 W)
 unfold IsB at HFt
 rw [hft] at HFt
 have E4 : Hid (decide (c.k = 4) = false) := zH (decide_eq_false (by omega))
 have E5 : Hid (decide (c.k = 5) = true) := zH (decide_eq_true h5)
 clear hs hv ho hall hall0 hG he h5 hf hft hrl
 go_enter Tryz.func8, Tryz.ntmps8
 go_wp2_with fail
 (refine (HM.out _ HK.out.b).mono ?_; rintro e w1 ⟨rfl, b1⟩)
 replace HK := hkC HK b1; clear b1
 go_wp2_with (first | refine zX (kexec_lr HK 0 _ (by rfl) (by rfl) (by rfl)) ?_)
 refine (HC.out _).mono ?_; rintro e w1 ⟨rfl, b1⟩
 replace HK := hkC HK b1; clear b1
 go_wp2_with (first | refine zX (kcm_k HK 1 _ (by rfl) (by rfl) (by rfl)) ?_ | refine zX (exec_lti (x := c.k) (k := 4) _ (by rfl) (by rfl) D4.out) ?_ | refine zX (exec_gt (x := c.k) (k := 17) _ (by rfl) (by rfl) D17.out) ?_ | refine zX (kcm HK 1 _ (by rfl) (by rfl) (by rfl)) ?_)
 refine (HE.out _).mono ?_; rintro e w1 ⟨rfl, b1⟩
 replace HK := hkC HK b1; clear b1
 go_wp2_with (first | refine zX (kcm_n HK 1 _ (by rfl) (by rfl) (by rfl)) ?_)
 refine (HFi.out _ HK.out.b).mono ?_; rintro e w1 ⟨z, hat, rfl, b1⟩
 replace HK := hkC HK b1; clear b1
 rcases hat with ⟨i, x, rfl, hx, hn, _⟩ | ⟨rfl, hno⟩
 case inr => exact absurd hno HYe.out
 obtain rfl := HVo.out i x hx hn
 have HX : Hid (∀ W, Below w.heap.size w W → ∀ j v, (obL x)[j]? = some v → W.cell? ⟨b, ofs + i * 11 + j, none⟩ = some v) := zH fun W hW => HAt.out W hW i x hx
 have hin : i < n := by have := (List.getElem?_eq_some_iff.1 hx).1; omega
 have hi0 : (0 : Int) ≤ (i : Int) := by omega
 have hi1 : (i : Int) < (n : Int) := by omega
 have G0 : Hid (decide ((0 : Int) ≤ (i : Int)) = true) := zH (decide_eq_true hi0)
 have L0 : Hid (decide ((i : Int) < 0) = false) := zH (decide_eq_false (by omega))
 have R0 : Hid (decide ((0 : Int) < (x.rn : Int)) = true) := zH (decide_eq_true (by have h1 := (HI.out x (List.mem_of_getElem? hx)).r.len; have h2 := HRl.out; omega))
 clear HAt hl hx hn HVo HYe HRl
 go_wp2_with (first | refine zX (kcm_k HK 1 _ (by rfl) (by rfl) (by rfl)) ?_ | refine zX (exec_ier (x := c.k) (k := 4) _ (by rfl) (by rfl) E4.out) ?_ | refine zX (exec_lti (x := (i : Int)) (k := 0) _ (by rfl) (by rfl) L0.out) ?_)
 have HK0 := zH HK.out.drew
 refine wp_region_held_drew (S := (fun W => Hid (Kn w.heap.size w W [(w.heap.size, 24, #[.int .i64 r.c, .int .i64 r.e, .int .i64 r.r]), (w.heap.size + 1, 29, cmA c), (w.heap.size + 2, 33, rpA Sto.rz)] []))) (by kernel_rfl) ?_ (fun hHeld => ?_)
 ·(try dsimp only); exact HK0
 refine stk 0 88 rfl ?_
 refine stk 1 89 rfl ?_ (fun w hSw => kcm_k hSw 1 _ (by rfl) (by rfl) (by rfl))
 refine stk 2 90 rfl ?_
 refine stk 3 91 rfl ?_
 refine stk 4 92 rfl ?_ (fun w hSw => exec_ixo (i := i) _ _ (by rfl) (by rfl) (by rfl) hin)
 refine stk 5 93 rfl ?_
 refine stk 6 94 rfl ?_ (fun w hSw => exec_obk (x := x) (off := ofs + i * 11) _ (by rfl) (by rfl) (HX.out _ hSw.out.b))
 refine srd1 7 (some 95) rfl (fun K hK => ?_)
 go_simp
 go_at_call 25
 refine (HFt.out _).mono ?_; rintro e w5 ⟨rfl, b5⟩; have hs := zH (hHeld.out.call b5); clear b5
 refine hK.out _ _ hs (fun hHeld => ?_)
 clear hK K
 try simp only [ap1, ap2, ap3, ap4, ap5]
 refine stk 8 96 rfl ?_
 refine stk 9 87 rfl ?_
 refine wpAnyH_done (by kernel_rfl) ?_ _
 replace HK := hHeld
 clear hHeld HK0
 go_wp2_with (first | refine zX (kcm_k HK 1 _ (by rfl) (by rfl) (by rfl)) ?_ | refine zX (exec_ier (x := c.k) (k := 5) _ (by rfl) (by rfl) E5.out) ?_ | refine zX (exec_ixo (i := i) _ _ (by rfl) (by rfl) (by rfl) hin) ?_ | refine zX (exec_obr (x := x) (off := ofs + i * 11) _ (by rfl) (by rfl) (HX.out _ HK.out.b)) ?_ | refine zX (exec_gt (x := (x.rn : Int)) (k := 0) _ (by rfl) (by rfl) R0.out) ?_)
 refine (HFl.out 13 _).mono ?_; rintro e w1 ⟨rfl, b1⟩
 replace HK := hkC HK b1; clear b1
 go_wp2_with (first | (refine wpList_srp (q := ⟨13, Sto.vn⟩) HK 2 rfl _ _ rfl rfl rfl rfl ?_; intro _ HK'; simp only [List.set] at HK'; replace HK := HK'; clear HK'))
 exact ret_do Tryz.results8 rfl rfl rfl rfl rfl (HK.out.blk 2 rfl) (by unfold IsRD; exact ⟨_, _, _, l, _, _, _, _, rfl, rfl, HK.out.takeL 0, fun _ _ _ _ _ K hm hb => ⟨HGd.out _ hb, Sls.none _⟩⟩)
set_option maxRecDepth 100000 in
set_option maxHeartbeats 25600000 in
theorem rdo_wo (G : World → Prop) (A : Option Addr) (cp n : Nat) (l : List Oh) (r : Rf) (c : Cmd.C) (w : World) (hG : ∀ W, G W → Obs W A n cp l) (hs : Obs w A n cp l) (hv : c.val.f < 18446744073709551616) (ho : c.old.f < 18446744073709551616) (hall0 : Sto.All (vs l) r c) (he : Cmd.chk c = 0) (h5 : c.k = 5) (o : Sto.Ob) (hf : Sto.fnd (vs l) c.name = some o) (hrl : ¬ 0 < o.refs.length) :
  Calls Tryz.prog 8 #[.slice A n cp, .agg #[.int .i64 r.c, .int .i64 r.e, .int .i64 r.r], .agg (cmA c)] w (IsRD G (Sto.doo (vs l) r c) w) := by
 have HGd := zH hG
 have HFl := zH rfail_any
 have HK := kn3 w 24 #[.int .i64 r.c, .int .i64 r.e, .int .i64 r.r] 29 (cmA c) 33 (rpA Sto.rz)
 have HM := zH (fun W (hW : Below w.heap.size w W) => roright_any A cp n l W (hs.later hW))
 unfold IsB at HM
 have HC := zH (fun W => rmr_any r W)
 unfold IsB at HC
 have HE := zH (fun W => rchk_any c W hv ho)
 unfold IsE at HE
 have hall := hall0
 rw [decide_eq_true hall.1] at HM
 rw [decide_eq_true hall.2.1] at HC
 have D4 : Hid (decide (c.k < 4) = false) := zH (decide_eq_false (by have := hall.2.2.1; omega))
 have D17 : Hid (decide (17 < c.k) = false) := zH (decide_eq_false (by have := hall.2.2.2; omega))
 rw [he] at HE
 have HFi := zH (fun W (hW : Below w.heap.size w W) => rfind_any A cp n l c.name W (hs.later hW))
 have HYe : Hid (¬ ∀ (j : Nat) (y : Oh), l[j]? = some y → ¬ y.v.name = c.name) := zH (fun h => by have := (Sto.no_idx (l := vs l) (k := c.name) (fun j y hj => by obtain ⟨z, hz, rfl⟩ := vs_at hj; exact h j z hz)).2; rw [hf] at this; cases this)
 have HVo : Hid (∀ (i : Nat) (x : Oh), l[i]? = some x → x.v.name = c.name → x.v = o) := zH (fun i x h1 h2 => by have := (Sto.at_idx hall.1.up (vs_get h1) h2).2.2; rw [hf] at this; injection this with this; exact this.symm)
 have hpos : 0 < n := by
  rcases Nat.eq_zero_or_pos n with h0 | h0
  ·subst h0
   rw [List.length_eq_zero_iff.1 hs.len] at hf
   cases hf
  ·exact h0
 have hl := hs.len
 obtain ⟨b, ofs, rfl, hat0⟩ := hs.s.at hpos
 have HAt := zH hat0
 have HI := zH hs.i
 clear hat0
 have hft : Sto.fits c.k o.kind = true := by rw [h5]; rfl
 have HRl := zH hrl
 have HDo : Hid (∀ (i : Nat) (x : Oh), l[i]? = some x → x.v.name = c.name → x.v = o → Sto.doo (vs l) r c = ⟨(vs l).take i ++ (vs l).drop (i + 1), Sto.rz, false, []⟩) := zH (fun i x h1 h2 h3 => Sto.doo_wo hall he h5 (vs_get h1) h2 (by rw [h3]; exact hrl))
 have HS := zH hs
 have hn8 : n ≤ 8 := by have := hall.1.len; rw [vs_len, hs.len] at this; exact this
 have HFt := zH (fun W => rfits_any c.k o.kind (by have := hall.2.2.1; omega) hall.2.2.2 W)
 unfold IsB at HFt
 rw [hft] at HFt
 have E4 : Hid (decide (c.k = 4) = false) := zH (decide_eq_false (by omega))
 have E5 : Hid (decide (c.k = 5) = true) := zH (decide_eq_true h5)
 clear hs hv ho hall hall0 hG he h5 hf hft hrl
 generalize hds : Sto.doo (vs l) r c = ds at *
 clear hds
 go_enter Tryz.func8, Tryz.ntmps8
 go_wp2_with fail
 (refine (HM.out _ HK.out.b).mono ?_; rintro e w1 ⟨rfl, b1⟩)
 replace HK := hkC HK b1; clear b1
 go_wp2_with (first | refine zX (kexec_lr HK 0 _ (by rfl) (by rfl) (by rfl)) ?_)
 refine (HC.out _).mono ?_; rintro e w1 ⟨rfl, b1⟩
 replace HK := hkC HK b1; clear b1
 go_wp2_with (first | refine zX (kcm_k HK 1 _ (by rfl) (by rfl) (by rfl)) ?_ | refine zX (exec_lti (x := c.k) (k := 4) _ (by rfl) (by rfl) D4.out) ?_ | refine zX (exec_gt (x := c.k) (k := 17) _ (by rfl) (by rfl) D17.out) ?_ | refine zX (kcm HK 1 _ (by rfl) (by rfl) (by rfl)) ?_)
 refine (HE.out _).mono ?_; rintro e w1 ⟨rfl, b1⟩
 replace HK := hkC HK b1; clear b1
 go_wp2_with (first | refine zX (kcm_n HK 1 _ (by rfl) (by rfl) (by rfl)) ?_)
 refine (HFi.out _ HK.out.b).mono ?_; rintro e w1 ⟨z, hat, rfl, b1⟩
 replace HK := hkC HK b1; clear b1
 rcases hat with ⟨i, x, rfl, hx, hn, _⟩ | ⟨rfl, hno⟩
 case inr => exact absurd hno HYe.out
 obtain rfl := HVo.out i x hx hn
 have HX : Hid (∀ W, Below w.heap.size w W → ∀ j v, (obL x)[j]? = some v → W.cell? ⟨b, ofs + i * 11 + j, none⟩ = some v) := zH fun W hW => HAt.out W hW i x hx
 have hin : i < n := by have := (List.getElem?_eq_some_iff.1 hx).1; omega
 have hi0 : (0 : Int) ≤ (i : Int) := by omega
 have hi1 : (i : Int) < (n : Int) := by omega
 have G0 : Hid (decide ((0 : Int) ≤ (i : Int)) = true) := zH (decide_eq_true hi0)
 have L0 : Hid (decide ((i : Int) < 0) = false) := zH (decide_eq_false (by omega))
 have R0 : Hid (decide ((0 : Int) < (x.rn : Int)) = false) := zH (decide_eq_false (by have h1 := (HI.out x (List.mem_of_getElem? hx)).r.len; have h2 := HRl.out; omega))
 obtain rfl := HDo.out i x hx hn rfl
 have HNl := zH hl
 clear HAt hx hn HVo HYe HRl HDo hl
 have hin1 : i + 1 ≤ n := hin
 have hinc : i ≤ cp := Nat.le_trans (Nat.le_of_lt hin) HS.out.s.cap
 have hi3 : i < 9223372036854775807 := by omega
 have HTk : Hid (i = (l.take i).length) := zH (by rw [List.length_take, HNl.out]; omega)
 have HDr : Hid (n - (i + 1) = (l.drop (i + 1)).length) := zH (by rw [List.length_drop, HNl.out])
 have HG1 : Hid (([] : List Oh).length + (l.take i).length ≤ 9223372036854775807 ∧ (([] : List Oh).length + (l.take i).length) * obLay.bytes ≤ 211106232532992) := zH (by
  rw [← HTk.out, List.length_nil, Nat.zero_add]
  refine ⟨by omega, ?_⟩
  show i * 144 ≤ _
  omega)
 have HN1 : Hid ((([] : List Oh) ++ l.take i).length = i) := zH HTk.out.symm
 have HG2 : Hid ((l.take i).length + (l.drop (i + 1)).length ≤ 9223372036854775807 ∧ ((l.take i).length + (l.drop (i + 1)).length) * obLay.bytes ≤ 211106232532992) := zH (by
  rw [← HTk.out, ← HDr.out]
  refine ⟨by omega, ?_⟩
  show (i + (n - (i + 1))) * 144 ≤ _
  omega)
 have HN2 : Hid ((l.take i ++ l.drop (i + 1)).length = n - 1) := zH (by rw [List.length_append, ← HTk.out, ← HDr.out]; omega)
 go_wp2_with (first | refine zX (kcm_k HK 1 _ (by rfl) (by rfl) (by rfl)) ?_ | refine zX (exec_ier (x := c.k) (k := 4) _ (by rfl) (by rfl) E4.out) ?_ | refine zX (exec_lti (x := (i : Int)) (k := 0) _ (by rfl) (by rfl) L0.out) ?_)
 have HK0 := zH HK.out.drew
 refine wp_region_held_drew (S := (fun W => Hid (Kn w.heap.size w W [(w.heap.size, 24, #[.int .i64 r.c, .int .i64 r.e, .int .i64 r.r]), (w.heap.size + 1, 29, cmA c), (w.heap.size + 2, 33, rpA Sto.rz)] []))) (by kernel_rfl) ?_ (fun hHeld => ?_)
 ·(try dsimp only); exact HK0
 refine stk 0 88 rfl ?_
 refine stk 1 89 rfl ?_ (fun w hSw => kcm_k hSw 1 _ (by rfl) (by rfl) (by rfl))
 refine stk 2 90 rfl ?_
 refine stk 3 91 rfl ?_
 refine stk 4 92 rfl ?_ (fun w hSw => exec_ixo (i := i) _ _ (by rfl) (by rfl) (by rfl) hin)
 refine stk 5 93 rfl ?_
 refine stk 6 94 rfl ?_ (fun w hSw => exec_obk (x := x) (off := ofs + i * 11) _ (by rfl) (by rfl) (HX.out _ hSw.out.b))
 refine srd1 7 (some 95) rfl (fun K hK => ?_)
 go_simp
 go_at_call 25
 refine (HFt.out _).mono ?_; rintro e w5 ⟨rfl, b5⟩; have hs := zH (hHeld.out.call b5); clear b5
 refine hK.out _ _ hs (fun hHeld => ?_)
 clear hK K
 try simp only [ap1, ap2, ap3, ap4, ap5]
 refine stk 8 96 rfl ?_
 refine stk 9 87 rfl ?_
 refine wpAnyH_done (by kernel_rfl) ?_ _
 replace HK := hHeld
 clear hHeld HK0
 go_wp2_with (first | refine zX (kcm_k HK 1 _ (by rfl) (by rfl) (by rfl)) ?_ | refine zX (exec_ier (x := c.k) (k := 5) _ (by rfl) (by rfl) E5.out) ?_ | refine zX (exec_ixo (i := i) _ _ (by rfl) (by rfl) (by rfl) hin) ?_ | refine zX (exec_obr (x := x) (off := ofs + i * 11) _ (by rfl) (by rfl) (HX.out _ HK.out.b)) ?_ | refine zX (exec_gt (x := (x.rn : Int)) (k := 0) _ (by rfl) (by rfl) R0.out) ?_)
 have HK0 := zH HK.out.drew
 refine wp_region_held_drew (S := (fun W => Hid (Kn w.heap.size w W [] []))) (by kernel_rfl) ?_ (fun hHeld => ?_)
 ·(try dsimp only); exact zH ((HK0.out.takeL 0).takeR 0)
 refine stk 1 119 rfl ?_
 refine stk 2 120 rfl ?_
 refine stk 3 121 rfl ?_ (fun w hSw => exec_sls_h obLay (hi := i) _ _ (by rfl) (by rfl) (by rfl) hinc)
 refine stk 5 123 rfl ?_
 refine stk 6 124 rfl ?_
 refine stk 7 125 rfl ?_ (fun w hSw => exec_add1 (j := i) _ (by rfl) (by rfl) hi3)
 refine stk 8 126 rfl ?_ (fun w hSw => exec_sls_l obLay (lo := i + 1) _ _ (by rfl) (by rfl) (by rfl) hin1)
 refine stk 10 128 rfl ?_
 refine srd1 0 (some 118) rfl (fun K hK => ?_)
 refine step_mk0 obLay HK0 (by rfl) (by rfl) ?_; intro w6 g6 HK' _; simp only [lnA] at HK'; replace HK0 := HK'; clear HK'; have hs := zH ((HK0.out.takeL 0).takeR 0)
 refine hK.out _ _ hs (fun hHeld => ?_)
 clear hK K
 try simp only [ap1, ap2, ap3, ap4, ap5]
 refine srd1 4 (some 122) rfl (fun K hK => ?_)
 refine step_more2 obLay HK0 0 (by rfl) _ _ (by rfl) (by rfl) (by rfl) (l.take i) (by rfl) HTk.out (zH (let h := (HS.out.s.take (Nat.le_of_lt hin)).later HK0.out.b; And.intro h.rd h.nl)) HG1 (N := i) HN1 ?_; intro A8 c8 w8 HK'; simp only [List.set, lnA] at HK'; replace HK0 := HK'; clear HK'; have hs := zH ((HK0.out.takeL 0).takeR 0)
 refine hK.out _ _ hs (fun hHeld => ?_)
 clear hK K
 try simp only [ap1, ap2, ap3, ap4, ap5]
 refine srd1 9 (some 127) rfl (fun K hK => ?_)
 refine step_more2 obLay HK0 0 (by rfl) _ _ (by rfl) (by rfl) (by rfl) (l.drop (i + 1)) (by rfl) HDr.out (zH (let h := (HS.out.s.drop hin1).later HK0.out.b; And.intro h.rd h.nl)) HG2 (N := n - 1) HN2 ?_; intro A9 c9 w9 HK'; simp only [List.set] at HK'; replace HK0 := HK'; clear HK'; have hs := zH ((HK0.out.takeL 0).takeR 0)
 refine hK.out _ _ hs (fun hHeld => ?_)
 clear hK K
 try simp only [ap1, ap2, ap3, ap4, ap5]
 refine stk 11 6 rfl ?_
 refine srd1 12 none rfl (fun K hK => ?_)
 refine step_srp (q := Sto.rz) HK0 2 (by rfl) _ _ (by rfl) (by rfl) (by rfl) (by rfl) ?_; intro wq HK'; simp only [List.set] at HK'; replace HK0 := HK'; clear HK'; have hs := zH ((HK0.out.takeL 0).takeR 0)
 refine hK.out _ _ hs (fun hHeld => ?_)
 clear hK K
 try simp only [ap1, ap2, ap3, ap4, ap5]
 refine stk 13 8 rfl ?_
 refine stk 14 9 rfl ?_
 refine wpAnyH_done (by kernel_rfl) ?_ _
 all_goals
  go_wp2_with fail
  exact ret_do Tryz.results8 rfl rfl rfl rfl rfl (HK0.out.blk 2 rfl) (by unfold IsRD; exact ⟨_, _, _, _, _, _, _, _, rfl, vs_wo l i (i + 1), HK0.out.takeL 0, fun _ _ _ _ _ K hm hb => ⟨⟨Sls.own (K.mem (hm _ (List.mem_cons_self ..))) ⟨fun y hy => trivial, by rw [HN2.out]; show (n - 1) * 144 ≤ _; omega⟩, fun y hy => in_wo (HGd.out _ hb).i hy⟩, Sls.none _⟩⟩)
end Go.Proofs.YtpkodjllljnleaaGreat
