/- What checkOwn and check return: the error ahead of a command. No condition but those named. -/
import Derived.Test.YtpkodjllljnleaaGreatTk
import Derived.Test.YtpkodjllljnleaaGreatMN
import Derived.Test.YtpkodjllljnleaaGreatMB
import Derived.Test.YtpkodjllljnleaaGreatMH
import Derived.Test.YtpkodjllljnleaaGreatMK
import Derived.Test.YtpkodjllljnleaaGreatML
import Derived.Test.YtpkodjllljnleaaGreatMM
import Derived.Deep.CutBlock
import Derived.Deep.DeepCutAuto
set_option linter.unusedSimpArgs false
set_option linter.unusedVariables false
namespace Go.Proofs.YtpkodjllljnleaaGreat
open Go.RowKit
section
variable {b0 : Nat} {w0 w : World} {L : List (Nat × TypeId × Array Value)} {R : List RowE} {o : Oper} {a : Act} {g : Nat} {c : Cmd.C}
theorem kcm (HK : Hid (Kn b0 w0 w L R)) (i : Nat) (p : Operand) (ho : o.op = .load 29 p) (hL : L[i]? = some (g, 29, cmA c)) (hx : a.eval p = .pointer (some ⟨g, 0, none⟩)) :
  (execOp a.eval o).run Tryz.prog w = .ok (.value (.agg (cmA c))) w := kexec_ls HK _ p ho i hL hx (cmA c) (fun j _ => by rw [Nat.zero_add]) Tryz.underlying29 info_cm
theorem kcm_k (HK : Hid (Kn b0 w0 w L R)) (i : Nat) (p : Operand) (ho : o.op = .load 3 p) (hL : L[i]? = some (g, 29, cmA c)) (hx : a.eval p = .pointer (some ⟨g, 0, none⟩)) :
  (execOp a.eval o).run Tryz.prog w = .ok (.value (.int .i64 c.k)) w := kexec_lc HK _ p ho i hL hx rfl Tryz.underlying3 rfl
theorem kcm_n (HK : Hid (Kn b0 w0 w L R)) (i : Nat) (p : Operand) (ho : o.op = .load 9 p) (hL : L[i]? = some (g, 29, cmA c)) (hx : a.eval p = .pointer (some ⟨g, 1, none⟩)) :
  (execOp a.eval o).run Tryz.prog w = .ok (.value (.string c.name)) w := kexec_lc HK _ p ho i hL hx rfl Tryz.underlying9 rfl
theorem kcm_y (HK : Hid (Kn b0 w0 w L R)) (i : Nat) (p : Operand) (ho : o.op = .load 9 p) (hL : L[i]? = some (g, 29, cmA c)) (hx : a.eval p = .pointer (some ⟨g, 2, none⟩)) :
  (execOp a.eval o).run Tryz.prog w = .ok (.value (.string c.key)) w := kexec_lc HK _ p ho i hL hx rfl Tryz.underlying9 rfl
theorem kcm_f (HK : Hid (Kn b0 w0 w L R)) (i : Nat) (p : Operand) (ho : o.op = .load 25 p) (hL : L[i]? = some (g, 29, cmA c)) (hx : a.eval p = .pointer (some ⟨g, 5, none⟩)) :
  (execOp a.eval o).run Tryz.prog w = .ok (.value (.int .u64 (c.val.f : Int))) w := kexec_lc HK _ p ho i hL hx rfl Tryz.underlying25 rfl
theorem kcm_N (HK : Hid (Kn b0 w0 w L R)) (i : Nat) (p : Operand) (ho : o.op = .load 3 p) (hL : L[i]? = some (g, 29, cmA c)) (hx : a.eval p = .pointer (some ⟨g, 11, none⟩)) :
  (execOp a.eval o).run Tryz.prog w = .ok (.value (.int .i64 c.n)) w := kexec_lc HK _ p ho i hL hx rfl Tryz.underlying3 rfl
theorem kcm_M (HK : Hid (Kn b0 w0 w L R)) (i : Nat) (p : Operand) (ho : o.op = .load 3 p) (hL : L[i]? = some (g, 29, cmA c)) (hx : a.eval p = .pointer (some ⟨g, 12, none⟩)) :
  (execOp a.eval o).run Tryz.prog w = .ok (.value (.int .i64 c.m)) w := kexec_lc HK _ p ho i hL hx rfl Tryz.underlying3 rfl
theorem kcm_v (HK : Hid (Kn b0 w0 w L R)) (i : Nat) (p : Operand) (ho : o.op = .load 27 p) (hL : L[i]? = some (g, 29, cmA c)) (hx : a.eval p = .pointer (some ⟨g, 3, none⟩)) :
  (execOp a.eval o).run Tryz.prog w = .ok (.value (.agg #[.int .i64 c.val.k, .int .i64 c.val.n, .int .u64 (c.val.f : Int), .string c.val.s])) w :=
 kexec_ls HK _ p ho i hL hx #[.int .i64 c.val.k, .int .i64 c.val.n, .int .u64 (c.val.f : Int), .string c.val.s] (fun j hj => by
  match j, hj with
  | 0, _ | 1, _ | 2, _ | 3, _ => rfl) Tryz.underlying27 info_v4
theorem kcm_o (HK : Hid (Kn b0 w0 w L R)) (i : Nat) (p : Operand) (ho : o.op = .load 27 p) (hL : L[i]? = some (g, 29, cmA c)) (hx : a.eval p = .pointer (some ⟨g, 7, none⟩)) :
  (execOp a.eval o).run Tryz.prog w = .ok (.value (.agg #[.int .i64 c.old.k, .int .i64 c.old.n, .int .u64 (c.old.f : Int), .string c.old.s])) w :=
 kexec_ls HK _ p ho i hL hx #[.int .i64 c.old.k, .int .i64 c.old.n, .int .u64 (c.old.f : Int), .string c.old.s] (fun j hj => by
  match j, hj with
  | 0, _ | 1, _ | 2, _ | 3, _ => rfl) Tryz.underlying27 info_v4
end
theorem exec_lti {w : World} {o : Oper} {a : Act} {x k : Int} {b : Bool} (p : Operand) (ho : o.op = .binOp .lss 3 p (.const (.int .i64 k)) 3) (hp : a.eval p = .int .i64 x) (hb : decide (x < k) = b) :
  (execOp a.eval o).run Tryz.prog w = .ok (.value (.bool b)) w := by
 have he : a.eval (.const (.int .i64 k)) = .int .i64 k := rfl
 subst hb
 unfold execOp
 simp only [ho, hp, he]
 go_simp
def IsN1 (x : Int) (w : World) (e : Ending) (w' : World) : Prop := e = .returned (.int .i64 x) ∧ Below w.heap.size w w'
set_option maxRecDepth 100000 in
set_option maxHeartbeats 6400000 in
theorem checkOwn_any (A : Option Addr) (c n : Nat) (l : List Oh) (k : Int) (w : World) (hs : Obs w A n c l) :
  Calls Tryz.prog 46 #[.slice A n c, .int .i64 k] w (IsN1 (Sto.chkO (l[0]?.map (·.v)) k) w) := by
 unfold IsN1
 have HK := zH (Kn.start w)
 have HF := zH sfits_any
 unfold IsB at HF
 rcases Nat.eq_zero_or_pos n with h0 | hpos
 ·subst h0
  obtain rfl : l = [] := List.length_eq_zero_iff.1 hs.len
  show Calls _ _ _ _ fun e w' => e = .returned (.int .i64 5) ∧ Below w.heap.size w w'
  clear hs
  go_enter Tryz.func46, Tryz.ntmps46
  go_wp2_with fail
  go_ret
  exact ⟨rfl, HK.out.b⟩
 obtain ⟨x, hx, hin⟩ := hs.get hpos
 obtain ⟨b, o, rfl, hat⟩ := hs.s.at hpos
 have HX : Hid (∀ W, Below w.heap.size w W → ∀ j v, (obL x)[j]? = some v → W.cell? ⟨b, o + j, none⟩ = some v) := zH fun W hW j v hv => by
  have h := hat W hW 0 x hx j v hv
  rwa [Nat.zero_mul, Nat.add_zero] at h
 have hr : x.v.refs.length = x.rn := hin.r.len
 rw [hx, Option.map_some]
 unfold Sto.chkO
 simp only
 rw [hr]
 have h1 : ((n : Int) == 0) = false := by simpa using (by omega : ¬ (n : Int) = 0)
 have h2 : (0 : Int) < (n : Int) := by omega
 clear hs hx hin hat hr
 generalize hq : Sto.fits k x.v.kind = q
 have HQ := zH hq
 clear hq
 cases q
 ·rw [if_pos rfl]
  go_enter Tryz.func46, Tryz.ntmps46
  go_wp2_with (first | refine wpList_exe (exec_obk (x := x) (off := o) _ (by rfl) (by rfl) (HX.out _ HK.out.b)) (by rfl) ?_)
  refine (HF.out _ _ _).mono ?_; rintro e w1 ⟨rfl, b1⟩
  rw [HQ.out]
  replace HK := hkC HK b1; clear b1
  go_wp2_with fail
  go_ret
  exact ⟨rfl, HK.out.b⟩
 rw [if_neg (by simp)]
 by_cases h5 : k = 5
 ·subst h5
  by_cases h6 : 0 < x.rn
  ·rw [if_pos ⟨rfl, h6⟩]
   go_enter Tryz.func46, Tryz.ntmps46
   go_wp2_with (first | refine wpList_exe (exec_obk (x := x) (off := o) _ (by rfl) (by rfl) (HX.out _ HK.out.b)) (by rfl) ?_)
   refine (HF.out _ _ _).mono ?_; rintro e w1 ⟨rfl, b1⟩
   rw [HQ.out]
   replace HK := hkC HK b1; clear b1
   go_wp2_with (first | refine wpList_exe (exec_obr (x := x) (off := o) _ (by rfl) (by rfl) (HX.out _ HK.out.b)) (by rfl) ?_)
   go_ret
   exact ⟨rfl, HK.out.b⟩
  ·rw [if_neg (fun g => h6 g.2)]
   go_enter Tryz.func46, Tryz.ntmps46
   go_wp2_with (first | refine wpList_exe (exec_obk (x := x) (off := o) _ (by rfl) (by rfl) (HX.out _ HK.out.b)) (by rfl) ?_)
   refine (HF.out _ _ _).mono ?_; rintro e w1 ⟨rfl, b1⟩
   rw [HQ.out]
   replace HK := hkC HK b1; clear b1
   go_wp2_with (first | refine wpList_exe (exec_obr (x := x) (off := o) _ (by rfl) (by rfl) (HX.out _ HK.out.b)) (by rfl) ?_)
   go_ret
   exact ⟨rfl, HK.out.b⟩
 ·rw [if_neg (fun g => h5 g.1)]
  go_enter Tryz.func46, Tryz.ntmps46
  go_wp2_with (first | refine wpList_exe (exec_obk (x := x) (off := o) _ (by rfl) (by rfl) (HX.out _ HK.out.b)) (by rfl) ?_)
  refine (HF.out _ _ _).mono ?_; rintro e w1 ⟨rfl, b1⟩
  rw [HQ.out]
  replace HK := hkC HK b1; clear b1
  go_wp2_with (first | refine wpList_exe (exec_obr (x := x) (off := o) _ (by rfl) (by rfl) (HX.out _ HK.out.b)) (by rfl) ?_)
  go_ret
  exact ⟨rfl, HK.out.b⟩
theorem vs_sub (l : List Oh) (p q : Nat) : (((l.drop p).take q)[0]?).map (·.v) = (((vs l).drop p).take q)[0]? := by
 unfold vs
 rw [← List.map_drop, ← List.map_take, List.getElem?_map]
set_option maxRecDepth 100000 in
set_option maxHeartbeats 12800000 in
theorem scheck_any (A : Option Addr) (cp n : Nat) (l : List Oh) (r : Rf) (c : Cmd.C) (w : World) (hs : Obs w A n cp l) (hv : c.val.f < 18446744073709551616) (ho : c.old.f < 18446744073709551616) :
  Calls Tryz.prog 15 #[.slice A n cp, .agg #[.int .i64 r.c, .int .i64 r.e, .int .i64 r.r], .agg (cmA c)] w (IsN1 (Sto.chk (vs l) r c) w) := by
 unfold IsN1
 have HM := zH (fun W (hW : Below w.heap.size w W) => oright_any A cp n l W (hs.later hW))
 have HC := zH (fun W => cmr_any r W)
 have HE := zH (fun W => chk_any c W hv ho)
 have HP := zH (fun W (hW : Below w.heap.size w W) => oparts_any A cp n l c.name w W hs hW)
 have HN := zH checkNew_any
 have HO := zH checkOwn_any
 have hlen : (vs l).length = n := by rw [vs_len]; exact hs.len
 have HK := kn2 w 24 #[.int .i64 r.c, .int .i64 r.e, .int .i64 r.r] 29 (cmA c)
 have HSub := zH (vs_sub l)
 clear hs hv ho
 unfold IsB at HM HC
 unfold IsE at HE
 unfold IsN1 at HO
 unfold IsOParts at HP
 by_cases hr : Sto.Right (vs l)
 case neg =>
  rw [decide_eq_false hr] at HM
  rw [Sto.chk_arg (fun g => hr g.1)]
  clear hr HC HE HP HN HO HSub
  go_enter Tryz.func15, Tryz.ntmps15
  go_wp2_with fail
  (refine (HM.out _ HK.out.b).mono ?_; rintro e w1 ⟨rfl, b1⟩)
  replace HK := hkC HK b1; clear b1
  go_wp2_with fail
  go_ret
  exact ⟨rfl, HK.out.b⟩
 case pos =>
 rw [decide_eq_true hr] at HM
 by_cases hk : Lck.ok r
 case neg =>
  rw [decide_eq_false hk] at HC
  rw [Sto.chk_arg (fun g => hk g.2.1)]
  clear hr hk HE HP HN HO HSub
  go_enter Tryz.func15, Tryz.ntmps15
  go_wp2_with fail
  (refine (HM.out _ HK.out.b).mono ?_; rintro e w1 ⟨rfl, b1⟩)
  replace HK := hkC HK b1; clear b1
  go_wp2_with (first | refine wpList_exe (kexec_lr HK 0 _ (by rfl) (by rfl) (by rfl)) (by rfl) ?_)
  refine (HC.out _).mono ?_; rintro e w1 ⟨rfl, b1⟩
  replace HK := hkC HK b1; clear b1
  go_wp2_with fail
  go_ret
  exact ⟨rfl, HK.out.b⟩
 case pos =>
 rw [decide_eq_true hk] at HC
 by_cases h4 : c.k < 4
 ·rw [Sto.chk_arg (fun g => by omega)]
  have D4 := zH (decide_eq_true h4)
  have D17 : Hid (decide (17 < c.k) = decide (17 < c.k)) := zH rfl
  clear hr hk HE HP HN HO HSub h4
  go_enter Tryz.func15, Tryz.ntmps15
  go_wp2_with fail
  (refine (HM.out _ HK.out.b).mono ?_; rintro e w1 ⟨rfl, b1⟩)
  replace HK := hkC HK b1; clear b1
  go_wp2_with (first | refine wpList_exe (kexec_lr HK 0 _ (by rfl) (by rfl) (by rfl)) (by rfl) ?_)
  refine (HC.out _).mono ?_; rintro e w1 ⟨rfl, b1⟩
  replace HK := hkC HK b1; clear b1
  go_wp2_with (first | refine wpList_exe (kcm_k HK 1 _ (by rfl) (by rfl) (by rfl)) (by rfl) ?_ | refine wpList_exe (exec_lti (x := c.k) (k := 4) _ (by rfl) (by rfl) D4.out) (by rfl) ?_ | refine wpList_exe (exec_gt (x := c.k) (k := 17) _ (by rfl) (by rfl) D17.out) (by rfl) ?_)
  go_ret
  exact ⟨rfl, HK.out.b⟩
 by_cases h17 : 17 < c.k
 ·rw [Sto.chk_arg (fun g => by omega)]
  have D4 := zH (decide_eq_false h4)
  have D17 := zH (decide_eq_true h17)
  clear hr hk HE HP HN HO HSub h4 h17
  go_enter Tryz.func15, Tryz.ntmps15
  go_wp2_with fail
  (refine (HM.out _ HK.out.b).mono ?_; rintro e w1 ⟨rfl, b1⟩)
  replace HK := hkC HK b1; clear b1
  go_wp2_with (first | refine wpList_exe (kexec_lr HK 0 _ (by rfl) (by rfl) (by rfl)) (by rfl) ?_)
  refine (HC.out _).mono ?_; rintro e w1 ⟨rfl, b1⟩
  replace HK := hkC HK b1; clear b1
  go_wp2_with (first | refine wpList_exe (kcm_k HK 1 _ (by rfl) (by rfl) (by rfl)) (by rfl) ?_ | refine wpList_exe (exec_lti (x := c.k) (k := 4) _ (by rfl) (by rfl) D4.out) (by rfl) ?_ | refine wpList_exe (exec_gt (x := c.k) (k := 17) _ (by rfl) (by rfl) D17.out) (by rfl) ?_)
  go_ret
  exact ⟨rfl, HK.out.b⟩
 have hall : Sto.Right (vs l) ∧ Lck.ok r ∧ 4 ≤ c.k ∧ c.k ≤ 17 := ⟨hr, hk, by omega, by omega⟩
 have D4 := zH (decide_eq_false h4)
 have D17 := zH (decide_eq_false h17)
 clear h4 h17
 by_cases he : Cmd.chk c = 0
 case neg =>
  rw [Sto.chk_cmd hall he]
  have he2 : (Cmd.chk c != 0) = true := by simpa using he
  clear hr hk hall HP HN HO HSub he
  generalize Cmd.chk c = z at *
  go_enter Tryz.func15, Tryz.ntmps15
  go_wp2_with fail
  (refine (HM.out _ HK.out.b).mono ?_; rintro e w1 ⟨rfl, b1⟩)
  replace HK := hkC HK b1; clear b1
  go_wp2_with (first | refine wpList_exe (kexec_lr HK 0 _ (by rfl) (by rfl) (by rfl)) (by rfl) ?_)
  refine (HC.out _).mono ?_; rintro e w1 ⟨rfl, b1⟩
  replace HK := hkC HK b1; clear b1
  go_wp2_with (first | refine wpList_exe (kcm_k HK 1 _ (by rfl) (by rfl) (by rfl)) (by rfl) ?_ | refine wpList_exe (exec_lti (x := c.k) (k := 4) _ (by rfl) (by rfl) D4.out) (by rfl) ?_ | refine wpList_exe (exec_gt (x := c.k) (k := 17) _ (by rfl) (by rfl) D17.out) (by rfl) ?_ | refine wpList_exe (kcm HK 1 _ (by rfl) (by rfl) (by rfl)) (by rfl) ?_)
  refine (HE.out _).mono ?_; rintro e w1 ⟨rfl, b1⟩
  replace HK := hkC HK b1; clear b1
  go_wp2_with fail
  go_ret
  exact ⟨rfl, HK.out.b⟩
 case pos =>
 rw [he] at HE
 have hown := Sto.own_is hr.up c.name
 have hsome := Sto.own_some hr.up c.name
 by_cases h44 : c.k = 4
 ·rw [Sto.chk_new hall he h44]
  unfold Sto.chkN
  rw [hsome, hlen]
  have hk4 : (c.k == 4) = true := by simpa using h44
  clear hr hk hall HO HSub he hown hsome hlen h44
  have HQn := zH (Sto.fin_le (vs l) c.name)
  generalize Sto.fin (vs l) c.name = q at *
  generalize Sto.idx (vs l) c.name = p at *
  have HNz := zH (fun (B : Option Addr) (m d : Nat) (W : World) (h : decide (0 < q - p) = decide (0 < m)) => checkNew_any A B n cp m d _ W h)
  clear HN
  generalize (if decide (0 < q - p) = true then (8 : Int) else if n = 8 then 6 else 0) = z at *
  go_enter Tryz.func15, Tryz.ntmps15
  go_wp2_with fail
  (refine (HM.out _ HK.out.b).mono ?_; rintro e w1 ⟨rfl, b1⟩)
  replace HK := hkC HK b1; clear b1
  go_wp2_with (first | refine wpList_exe (kexec_lr HK 0 _ (by rfl) (by rfl) (by rfl)) (by rfl) ?_)
  refine (HC.out _).mono ?_; rintro e w1 ⟨rfl, b1⟩
  replace HK := hkC HK b1; clear b1
  go_wp2_with (first | refine wpList_exe (kcm_k HK 1 _ (by rfl) (by rfl) (by rfl)) (by rfl) ?_ | refine wpList_exe (exec_lti (x := c.k) (k := 4) _ (by rfl) (by rfl) D4.out) (by rfl) ?_ | refine wpList_exe (exec_gt (x := c.k) (k := 17) _ (by rfl) (by rfl) D17.out) (by rfl) ?_ | refine wpList_exe (kcm HK 1 _ (by rfl) (by rfl) (by rfl)) (by rfl) ?_)
  refine (HE.out _).mono ?_; rintro e w1 ⟨rfl, b1⟩
  replace HK := hkC HK b1; clear b1
  go_wp2_with (first | refine wpList_exe (kcm_n HK 1 _ (by rfl) (by rfl) (by rfl)) (by rfl) ?_)
  refine (HP.out _ HK.out.b).mono ?_; rintro e w1 ⟨A1, n1, c1, A2, n2, c2, A3, n3, c3, rfl, s1, s2, s3, b1⟩
  replace HK := hkC HK b1; clear b1
  have HN2 : Hid (decide (0 < q - p) = decide (0 < n2)) := zH (by
   have h1 := s2.len
   rw [List.length_take, List.length_drop, ← vs_len] at h1
   rw [← h1]
   have := HQn.out
   congr 1
   rw [eq_iff_iff]
   omega)
  clear s1 s2 s3 HP
  go_wp2_with (first | refine wpList_exe (kcm_k HK 1 _ (by rfl) (by rfl) (by rfl)) (by rfl) ?_)
  refine (HNz.out A2 n2 c2 _ HN2.out).mono ?_; rintro e w1 ⟨rfl, b1⟩
  replace HK := hkC HK b1; clear b1
  go_wp2_with fail
  go_ret
  exact ⟨rfl, HK.out.b⟩
 ·rw [Sto.chk_own hall he h44]
  rw [← hown, ← HSub.out]
  have hk4 : (c.k == 4) = false := by simpa using h44
  clear hr hk hall HN HSub he hown hsome hlen h44
  generalize Sto.fin (vs l) c.name = q at *
  generalize Sto.idx (vs l) c.name = p at *
  go_enter Tryz.func15, Tryz.ntmps15
  go_wp2_with fail
  (refine (HM.out _ HK.out.b).mono ?_; rintro e w1 ⟨rfl, b1⟩)
  replace HK := hkC HK b1; clear b1
  go_wp2_with (first | refine wpList_exe (kexec_lr HK 0 _ (by rfl) (by rfl) (by rfl)) (by rfl) ?_)
  refine (HC.out _).mono ?_; rintro e w1 ⟨rfl, b1⟩
  replace HK := hkC HK b1; clear b1
  go_wp2_with (first | refine wpList_exe (kcm_k HK 1 _ (by rfl) (by rfl) (by rfl)) (by rfl) ?_ | refine wpList_exe (exec_lti (x := c.k) (k := 4) _ (by rfl) (by rfl) D4.out) (by rfl) ?_ | refine wpList_exe (exec_gt (x := c.k) (k := 17) _ (by rfl) (by rfl) D17.out) (by rfl) ?_ | refine wpList_exe (kcm HK 1 _ (by rfl) (by rfl) (by rfl)) (by rfl) ?_)
  refine (HE.out _).mono ?_; rintro e w1 ⟨rfl, b1⟩
  replace HK := hkC HK b1; clear b1
  go_wp2_with (first | refine wpList_exe (kcm_n HK 1 _ (by rfl) (by rfl) (by rfl)) (by rfl) ?_)
  refine (HP.out _ HK.out.b).mono ?_; rintro e w1 ⟨A1, n1, c1, A2, n2, c2, A3, n3, c3, rfl, s1, s2, s3, b1⟩
  replace HK := hkC HK b1; clear b1
  have HS2 := zH s2
  clear s1 s2 s3 HP
  go_wp2_with (first | refine wpList_exe (kcm_k HK 1 _ (by rfl) (by rfl) (by rfl)) (by rfl) ?_)
  refine (HO.out _ _ _ _ _ _ (HS2.out.later HK.out.b)).mono ?_; rintro e w1 ⟨rfl, b1⟩
  replace HK := hkC HK b1; clear b1
  go_wp2_with fail
  go_ret
  exact ⟨rfl, HK.out.b⟩
end Go.Proofs.YtpkodjllljnleaaGreat
namespace Go.Proofs.YtpkodjllljnleaaGreat
open Go.RowKit
theorem Fit.pt {l : List Dct.Pr} (h : Fit l) {k : ByteArray} {v : Val.V} (hv : v.f < 18446744073709551616) : Fit (Dct.ptL l k v) := by
 unfold Dct.ptL
 split
 next h0 =>
  unfold Dct.ptE at h0
  split at h0
  next hr =>
   split at h0
   next hp =>
    split at h0
    next hn => exact h.ins hr.up k hv hn
    next => cases h0
   next hp => exact absurd h0 hp
  next => cases h0
 next => exact h
theorem Fit.ct {l : List Dct.Pr} (h : Fit l) (k : ByteArray) : Fit (Dct.ctL l k) := by
 unfold Dct.ctL
 split
 ·exact h.wo k
 ·exact h
theorem Fit.sw {l : List Dct.Pr} (h : Fit l) {k : ByteArray} {o v : Val.V} (hv : v.f < 18446744073709551616) : Fit (Dct.swL l k o v) := by
 by_cases hr : Dct.Right l
 ·by_cases ho : Dct.gtV l k = o
  ·by_cases hve : v = Dct.emp
   ·subst hve; rw [(Dct.sw_cut hr ho).2.1]; exact h.wo k
   ·rw [(Dct.sw_put hr ho hve).2.1]; exact h.pt hv
  ·rw [(Dct.sw_unlike hr v ho).2.1]; exact h
 ·rw [(Dct.sw_bad hr k o v).2.1]; exact h
theorem fits_tk {l : List Rf} {r : Rf} (h : Fits rfLay rF l) : Fits rfLay rF (Lck.tkL l r) := by
 unfold Lck.tkL
 split
 next h0 =>
  unfold Lck.tkE at h0
  split at h0
  next hr =>
   have h1 := Lck.right_len hr.1
   refine ⟨fun x hx => trivial, ?_⟩
   rw [List.length_append]
   show (l.length + 1) * 24 ≤ _
   omega
  next => cases h0
 next => exact h
theorem fits_fr {l : List Rf} {r : Rf} (h : Fits rfLay rF l) : Fits rfLay rF (Lck.frL l r) := by
 unfold Lck.frL
 split
 ·exact h.sub (fun x hx => List.mem_of_mem_drop hx) (by rw [List.length_drop]; omega)
 ·exact h
theorem fits_dr {l : List Rf} {r : Rf} (h : Fits rfLay rF l) : Fits rfLay rF (Lck.drL l r) := by
 unfold Lck.drL
 split
 ·exact h.sub (fun x hx => (List.mem_filter.1 hx).1) (Lck.wo_le l r)
 ·exact h
theorem fits_five {l : List Rf} (h : l.length ≤ 6) : Fits rfLay rF l := ⟨fun x hx => trivial, by show l.length * 24 ≤ _; omega⟩
theorem fits_wt {m : Int} {l : List Rf} {r : Rf} (h : Fits rfLay rF l) : Fits rfLay rF (Gt.wtL m l r) ∧ Fits rfLay rF (Gt.wtA m l r) := by
 by_cases he : Gt.wtE m l r = 0
 ·obtain ⟨h1, h2, h3⟩ := Gt.wt_is he
  have h5 := Lck.right_len h1.2.2.2
  have h6 : (l ++ [r]).length ≤ 6 := by rw [List.length_append]; show l.length + 1 ≤ 6; omega
  by_cases hf : (l.length : Int) + 1 = m
  ·obtain ⟨_, e2, e3⟩ := Gt.wt_full h1 h2 h3 hf
   rw [e2, e3]
   exact ⟨fits_five (Nat.zero_le _), fits_five h6⟩
  ·obtain ⟨_, e2, e3⟩ := Gt.wt_more h1 h2 h3 hf
   rw [e2, e3]
   exact ⟨fits_five h6, fits_five (Nat.zero_le _)⟩
 ·obtain ⟨_, e2, e3⟩ := Gt.wt_no (z := Gt.wtE m l r) rfl he
  rw [e2, e3]
  exact ⟨h, fits_five (Nat.zero_le _)⟩
theorem fits_gdr {m : Int} {l : List Rf} {r : Rf} (h : Fits rfLay rF l) : Fits rfLay rF (Gt.drL m l r) := by
 unfold Gt.drL
 split
 ·exact h.sub (fun x hx => (List.mem_filter.1 hx).1) (Lck.wo_le l r)
 ·exact h
theorem fits_ps {N : Int} {l : List Val.V} {v : Val.V} (h : Fits vaLay vF l) (hv : vF v) : Fits vaLay vF (Que.psL N l v) := by
 unfold Que.psL
 split
 next h0 =>
  unfold Que.psE at h0
  split at h0
  next hr =>
   have h1 := hr.len
   have h2 := hr.hi
   refine ⟨fun x hx => ?_, ?_⟩
   ·rcases List.mem_append.1 hx with hx | hx
    ·exact h.fs x hx
    ·rw [List.mem_singleton] at hx; subst hx; exact hv
   ·rw [List.length_append]
    show (l.length + 1) * 40 ≤ _
    omega
  next => cases h0
 next => exact h
theorem fits_pp {N : Int} {l : List Val.V} (h : Fits vaLay vF l) : Fits vaLay vF (Que.ppL N l) := by
 unfold Que.ppL
 split
 ·exact h.sub (fun x hx => List.mem_of_mem_drop hx) (by rw [List.length_drop]; omega)
 ·exact h
end Go.Proofs.YtpkodjllljnleaaGreat
namespace Go.Proofs.YtpkodjllljnleaaGreat
open Go.RowKit
def rows3 (x : Oh) : List RowE := [row prLay (.slice x.pA x.pn x.pc) x.v.prs, row vaLay (.slice x.vA x.vn x.vc) x.v.vals, row rfLay (.slice x.rA x.rn x.rc) x.v.refs]
theorem rows3_snoc (l : List Oh) (x : Oh) : (l ++ [x]).flatMap rows3 = l.flatMap rows3 ++ [row prLay (.slice x.pA x.pn x.pc) x.v.prs] ++ [row vaLay (.slice x.vA x.vn x.vc) x.v.vals] ++ [row rfLay (.slice x.rA x.rn x.rc) x.v.refs] := by
 rw [List.flatMap_append, List.flatMap_cons, List.flatMap_nil, List.append_nil, List.append_assoc, List.append_assoc]
 rfl
section
variable {b0 : Nat} {w0 w : World} {L : List (Nat × TypeId × Array Value)} {R : List RowE}
theorem Kn.init {y : RowE} (h : Kn b0 w0 w L (R ++ [y])) : Kn b0 w0 w L R := by
 have h2 := h.takeR R.length
 rw [List.take_left' rfl] at h2
 exact h2
theorem Kn.lastOwn {P : Program} {α : Type} {La : Lay P α} {v : Value} {l : List α} (h : Kn b0 w0 w L (R ++ [row La v l])) : La.Own b0 w v l := h.own R.length (by simp)
theorem Kn.drop1 {r0 r1 : RowE} (h : Kn b0 w0 w L (r0 :: r1 :: R)) : Kn b0 w0 w L (r0 :: R) := by
 refine h.pick (fun i => i) (fun i => if i = 0 then 0 else i + 1) (fun i j _ _ hij => hij) (fun i j _ _ hij => ?_) (fun i x hx => hx) (fun i x hx => ?_)
 ·split <;> split <;> omega
 ·match i, hx with
  | 0, hx => exact hx
  | i + 1, hx => exact hx
theorem Kn.join {w' : World} {Rn : List RowE} (h : Kn b0 w0 w L R) (k : Kn w.heap.size w w' [] Rn) : Kn b0 w0 w' L (R ++ Rn) := by
 have hc := h.call k.b
 have key : ∀ (i : Nat) x, (R ++ Rn)[i]? = some x → (i < R.length ∧ R[i]? = some x) ∨ (R.length ≤ i ∧ Rn[i - R.length]? = some x) := fun i x hx => by
  rcases Nat.lt_or_ge i R.length with hi | hi
  ·rw [List.getElem?_append_left hi] at hx; exact .inl ⟨hi, hx⟩
  ·rw [List.getElem?_append_right hi] at hx; exact .inr ⟨hi, hx⟩
 refine ⟨hc.b, hc.m, hc.l, fun i y hy => ?_, hc.ll, fun i j x y hx hy => ?_, fun i j x y hx hy hij => ?_⟩
 ·rcases key i y hy with ⟨_, hy⟩ | ⟨_, hy⟩
  ·exact hc.r i y hy
  ·exact World.ownsRow.mono (k.r _ y hy) h.m
 ·rcases key j y hy with ⟨_, hy⟩ | ⟨_, hy⟩
  ·exact hc.lr i j x y hx hy
  ·intro e
   have h1 := (owns_lt (k.r _ y hy) e).1
   have h2 := (h.l i x hx).2.lt
   omega
 ·rcases key i x hx with ⟨h1, hx⟩ | ⟨h1, hx⟩ <;> rcases key j y hy with ⟨h2, hy⟩ | ⟨h2, hy⟩
  ·exact hc.rr i j x y hx hy hij
  ·intro g hg e
   have h3 := (owns_lt (h.r i x hx) hg).2
   have h4 := (owns_lt (k.r _ y hy) e).1
   omega
  ·intro g hg e
   have h3 := (owns_lt (h.r j y hy) e).2
   have h4 := (owns_lt (k.r _ x hx) hg).1
   omega
  ·exact k.rr _ _ x y hx hy (by omega)
theorem Kn.mem {P : Program} {α : Type} {La : Lay P α} {v : Value} {l : List α} (h : Kn b0 w0 w L R) (hm : row La v l ∈ R) : La.Own b0 w v l := by
 obtain ⟨i, hi⟩ := List.mem_iff_getElem?.1 hm
 exact h.own i hi
end
structure Fo (o : Sto.Ob) : Prop where
 p : Fit o.prs
 v : Fits vaLay vF o.vals
 r : Fits rfLay rF o.refs
 m : Mt.Fit o.mt
 d : o.round ≤ 9223372036854775807
theorem In.fo {w : World} {x : Oh} (h : In w x) : Fo x.v := ⟨h.p.fit, h.v.fit, h.r.fit, h.m, h.d⟩
theorem Obs.fo {w : World} {A : Option Addr} {n c : Nat} {l : List Oh} (h : Obs w A n c l) : ∀ o ∈ vs l, Fo o := fun o ho => by
 obtain ⟨x, hx, rfl⟩ := List.mem_map.1 ho
 exact (h.i x hx).fo
theorem Kn.obs {b0 : Nat} {w0 w : World} {L : List (Nat × TypeId × Array Value)} {R : List RowE} {A : Option Addr} {n c : Nat} {l : List Oh} (h : Kn b0 w0 w L R) (h1 : row obLay (.slice A n c) l ∈ R) (h2 : ∀ y ∈ l.flatMap rows3, y ∈ R) (hf : ∀ o ∈ vs l, Fo o) (hn : n * 144 ≤ 140737488355328) : Obs w A n c l := by
 have ho := h.mem h1
 have hl := ho.reads.1
 refine ⟨Sls.own ho ⟨fun x hx => trivial, ?_⟩, fun x hx => ?_⟩
 ·show l.length * 144 ≤ _
  rw [← hl]; exact hn
 ·have hfo := hf x.v (List.mem_map.2 ⟨x, hx, rfl⟩)
  have hm : ∀ y ∈ rows3 x, y ∈ R := fun y hy => h2 y (List.mem_flatMap.2 ⟨x, hx, hy⟩)
  have m0 : row prLay (.slice x.pA x.pn x.pc) x.v.prs ∈ rows3 x := List.mem_cons_self ..
  have m1 : row vaLay (.slice x.vA x.vn x.vc) x.v.vals ∈ rows3 x := List.mem_cons_of_mem _ (List.mem_cons_self ..)
  have m2 : row rfLay (.slice x.rA x.rn x.rc) x.v.refs ∈ rows3 x := List.mem_cons_of_mem _ (List.mem_cons_of_mem _ (List.mem_cons_self ..))
  exact ⟨Sl.own (h.mem (hm _ m0)) hfo.p, Sls.own (h.mem (hm _ m1)) hfo.v, Sls.own (h.mem (hm _ m2)) hfo.r, hfo.m, hfo.d⟩
def IsOJ (r : List Sto.Ob) (w : World) (e : Ending) (w' : World) : Prop := ∃ A n c l, e = .returned (.slice A n c) ∧ vs l = r ∧ Kn w.heap.size w w' [] (row obLay (.slice A n c) l :: l.flatMap rows3) ∧ Obs w' A n c l
def OJoins : Prop := ∀ (g m : Nat) (ps : List (Pce Oh)) (w : World), ps.length = m → m ≤ 8 → g < w.heap.size → (∀ i p, ps[i]? = some p → w.cell? ⟨g, i, none⟩ = some (.slice p.A p.n p.c)) →
 (∀ p ∈ ps, Obs w p.A p.n p.c p.l) → (catP ps).length * 144 ≤ 140737488355328 → Calls Tryz.prog 16 #[.slice (some ⟨g, 0, none⟩) m m] w (IsOJ (vs (catP ps)) w)
set_option maxRecDepth 100000 in
set_option maxHeartbeats 12800000 in
theorem ojoin_any : OJoins := by
 intro g m ps w hm hb hg hc hs ht
 have HC := zH (oconcat_any g m ps)
 have HCa : Hid (∀ W, Below w.heap.size w W → Calls Tryz.prog 47 #[.slice (some ⟨g, 0, none⟩) m m] W (IsLg obLay (catP ps) W)) := zH fun W hW =>
  oconcat_any g m ps W hm hb (Nat.lt_of_lt_of_le hg hW.size) (fun i p hp => (hW.cell (p := ⟨g, i, none⟩) hg).trans (hc i p hp)) (fun p hp => ((hs p hp).later hW).s) ht
 have HI : Hid (∀ x ∈ catP ps, In w x) := zH fun x hx => by
  obtain ⟨p, hp, hxp⟩ := List.mem_flatMap.1 hx
  exact (hs p hp).i x hxp
 clear HC hc hs hm hb hg
 generalize catP ps = src at *
 have HP := zH pconcat_any
 have HV := zH vconcat_any
 have HRf := zH rconcat_any
 have HK := zH (Kn.start w)
 unfold IsLg at HCa
 go_enter Tryz.func16, Tryz.ntmps16
 go_wp2_with (first | (refine wpList_mk0 obLay HK rfl rfl ?_; intro _ g2 HK'; simp only [lnA] at HK'; replace HK := HK'; clear HK'))
 refine (HCa.out _ HK.out.b).mono ?_; rintro e w1 ⟨A2, n2, c2, rfl, o2, b2⟩
 obtain rfl : n2 = src.length := o2.reads.1
 replace HK := zH (HK.out.called b2 o2)
 simp only [lcA, lnA] at HK
 clear o2 b2 HCa
 have HFs : Hid (Fits obLay oF src) := zH ⟨fun x hx => trivial, ht⟩
 generalize hN : src.length = N at *
 have HNl := zH hN
 clear hN
 go_wp2_with fail
 go_loopw [3, 10] (fun vl vi wr => ∃ (k : Nat) (A1 : Option Addr) (c1 : Nat) (l1 : List Oh), k ≤ N ∧ vl = .slice A1 k c1 ∧ vi = .int .i64 k ∧ Hid (vs l1 = vs (src.take k)) ∧ Hid (l1.length = k) ∧ Hid (Kn w.heap.size w wr [] (row obLay (.slice A1 k c1) l1 :: row obLay (.slice A2 N c2) src :: l1.flatMap rows3))) (fun _ vi _ => N - (intOf vi).toNat)
 case atStart => exact ⟨0, _, _, [], Nat.zero_le _, rfl, rfl, zH rfl, zH rfl, HK⟩
 case round =>
  clear HK
  obtain ⟨k, A1, c1, l1, hk, rfl, rfl, HVs, HLen, HK⟩ := hrel
  by_cases hlt : k < N
  ·obtain ⟨x, hx⟩ := Lay.get_of (l := src) (k := k) (by rw [HNl.out]; exact hlt)
   have hsl : Sls obLay oF wr A2 N c2 src := Sls.own (HK.out.own 1 rfl) HFs.out
   obtain ⟨b, o, rfl, hat⟩ := hsl.at (Nat.lt_of_le_of_lt (Nat.zero_le _) hlt)
   have HX : Hid (∀ j v, (obL x)[j]? = some v → wr.cell? ⟨b, o + k * 11 + j, none⟩ = some v) := zH (hat wr (Below.refl _ _) k x hx)
   have HIx := zH (HI.out x (List.mem_of_getElem? hx))
   have HTk : Hid (vs (src.take (k + 1)) = vs (src.take k) ++ [x.v]) := zH (by rw [Lay.take_succ hx]; unfold vs; rw [List.map_append]; rfl)
   have HL : Hid (l1.length + 1 ≤ 9223372036854775807 ∧ (l1.length + 1) * obLay.bytes ≤ 211106232532992) := zH (by
    rw [HLen.out]
    refine ⟨by omega, ?_⟩
    show (k + 1) * 144 ≤ _
    omega)
   have HN2 : Hid (∀ y : Oh, (l1 ++ [y]).length = k + 1) := zH fun y => by rw [List.length_append, HLen.out]; rfl
   clear hsl hat hx
   have hk1 : (0 : Int) ≤ (k : Int) := by omega
   have hk2 : (k : Int) < (N : Int) := by omega
   go_wp2_with (first | (refine wpList_of_exec (v := .agg (obA x)) (by rfl) (exec_obx (off := o + k * 11) _ (by rfl) (by rfl) HX.out) ?_) | (refine wpList_aob HK rfl rfl ?_; intro _ g5 HK'; simp only [lnA] at HK'; replace HK := HK'; clear HK') | (refine wpList_sob HK 0 rfl _ _ rfl rfl rfl rfl ?_; intro _ HK'; simp only [List.set] at HK'; replace HK := HK'; clear HK') | refine wpList_exe (kob_p HK 0 _ (by rfl) (by rfl) (by rfl)) (by rfl) ?_ | (refine wpList_mks1 prLay prNest HK rfl _ rfl rfl ?_; intro w3 g6 HK' _; simp only [lcA, lnA] at HK'; replace HK := HK'; clear HK'))
   refine (HP.out.one HK 1 rfl (HIx.out.p.later HK.out.b).sls).mono ?_; rintro e w4 ⟨A4, n4, c4, rfl, o4, b4⟩
   replace HK := zH (HK.out.called b4 o4)
   simp only [lcA] at HK
   clear o4 b4
   go_wp2_with (first | (refine wpList_sop HK 0 rfl _ _ rfl rfl rfl rfl x.v.prs ?_; intro _ HK'; simp only [List.set] at HK'; replace HK := HK'; clear HK') | refine wpList_exe (kob_v HK 0 _ (by rfl) (by rfl) (by rfl)) (by rfl) ?_ | (refine wpList_mks1 vaLay vaNest HK rfl _ rfl rfl ?_; intro w5 g7 HK' _; simp only [lcA, lnA] at HK'; replace HK := HK'; clear HK'))
   refine (HV.out.one HK 2 rfl (HIx.out.v.later HK.out.b)).mono ?_; rintro e w6 ⟨A5, n5, c5, rfl, o5, b5⟩
   replace HK := zH (HK.out.called b5 o5)
   simp only [lcA] at HK
   clear o5 b5
   go_wp2_with (first | (refine wpList_sov HK 0 rfl _ _ rfl rfl rfl rfl x.v.vals ?_; intro _ HK'; simp only [List.set] at HK'; replace HK := HK'; clear HK') | refine wpList_exe (kob_r HK 0 _ (by rfl) (by rfl) (by rfl)) (by rfl) ?_ | (refine wpList_mks1 rfLay rfNest HK rfl _ rfl rfl ?_; intro w7 g8 HK' _; simp only [lcA, lnA] at HK'; replace HK := HK'; clear HK'))
   refine (HRf.out.one HK 3 rfl (HIx.out.r.later HK.out.b)).mono ?_; rintro e w8 ⟨A6, n6, c6, rfl, o6, b6⟩
   replace HK := zH (HK.out.called b6 o6)
   simp only [lcA] at HK
   clear o6 b6
   have HN3 : Hid ((l1 ++ [((x.sp A4 n4 c4 x.v.prs).sv A5 n5 c5 x.v.vals).sr A6 n6 c6 x.v.refs]).length = k + 1) := zH (HN2.out _)
   go_wp2_with (first | (refine wpList_sor HK 0 rfl _ _ rfl rfl rfl rfl x.v.refs ?_; intro _ HK'; simp only [List.set] at HK'; replace HK := HK'; clear HK') | refine wpList_exe (kob HK 0 _ (by rfl) (by rfl) (by rfl)) (by rfl) ?_ | (refine wpList_mk1 obLay (p := ((x.sp A4 n4 c4 x.v.prs).sv A5 n5 c5 x.v.vals).sr A6 n6 c6 x.v.refs) HK (by decide) rfl _ rfl rfl rfl ?_; intro _ g9 HK'; have HR := zH (Kn.lastOwn HK'.out).rd; simp only [lcA] at HK'; replace HK := HK'; clear HK') | (at_builtin; refine wpList_kmore HK obLay 0 rfl _ _ rfl rfl rfl [((x.sp A4 n4 c4 x.v.prs).sv A5 n5 c5 x.v.vals).sr A6 n6 c6 x.v.refs] rfl rfl HR HL (N := k + 1) HN3 ?_; intro A7 c7 _ HK'; simp only [List.set] at HK'; replace HK := HK'; clear HK'))
   refine ⟨⟨k + 1, A7, c7, l1 ++ [((x.sp A4 n4 c4 x.v.prs).sv A5 n5 c5 x.v.vals).sr A6 n6 c6 x.v.refs], by omega, rfl, by go_num, zH ?_, HN3, zH ?_⟩, by simp [intOf]; omega⟩
   ·rw [HTk.out, ← HVs.out]
    unfold vs
    rw [List.map_append]
    rfl
   ·rw [rows3_snoc]
    have h := HK.out.takeL 0
    rw [← lcA, ← lcA] at h
    exact h.init
  ·obtain rfl : k = N := by omega
   have hnb : k * 144 ≤ 140737488355328 := by rw [← HNl.out]; exact HFs.out.big
   have HEq : Hid (vs l1 = vs src) := zH (by rw [HVs.out, ← HNl.out, List.take_length])
   have HFo : Hid (∀ y ∈ vs l1, Fo y) := zH fun y hy => by
    rw [HEq.out] at hy
    obtain ⟨x, hx, rfl⟩ := List.mem_map.1 hy
    exact (HI.out x hx).fo
   go_wp2_with fail
   go_ret
   exact ⟨A1, k, c1, l1, rfl, HEq.out, HK.out.drop1, HK.out.obs (List.mem_cons_self ..) (fun y hy => List.mem_cons_of_mem _ (List.mem_cons_of_mem _ hy)) HFo.out hnb⟩
section
variable {b0 : Nat} {w0 w : World} {L : List (Nat × TypeId × Array Value)} {R : List RowE} {g : Nat} {A1 A2 A3 : Option Addr} {n1 c1 n2 c2 n3 c3 : Nat} {l1 l2 l3 : List Oh}
theorem OJoins.one (J : OJoins) (HK : Hid (Kn b0 w0 w L R)) (i : Nat) (hL : L[i]? = some (g, 22, #[.slice A1 n1 c1])) (h1 : Obs w A1 n1 c1 l1) :
  Calls Tryz.prog 16 #[.slice (some ⟨g, 0, none⟩) 1 1] w (IsOJ (vs l1) w) := by
 have h := J g 1 [⟨A1, n1, c1, l1⟩] w rfl (by decide) (HK.out.blk i hL).lt (fun j p hp => by
  match j, hp with
  | 0, hp => simp at hp; subst hp; exact HK.out.cell i hL 0 rfl) (fun p hp => by
   rw [List.mem_singleton] at hp; subst hp; exact h1) (by
   show (l1 ++ []).length * _ ≤ _
   rw [List.append_nil]; exact h1.s.fit.big)
 have e : catP [(⟨A1, n1, c1, l1⟩ : Pce Oh)] = l1 := by show l1 ++ [] = l1; rw [List.append_nil]
 rw [e] at h
 exact h
theorem OJoins.two (J : OJoins) (HK : Hid (Kn b0 w0 w L R)) (i : Nat) (hL : L[i]? = some (g, 22, #[.slice A1 n1 c1, .slice A2 n2 c2])) (h1 : Obs w A1 n1 c1 l1) (h2 : Obs w A2 n2 c2 l2) (ht : (n1 + n2) * 144 ≤ 140737488355328) :
  Calls Tryz.prog 16 #[.slice (some ⟨g, 0, none⟩) 2 2] w (IsOJ (vs (l1 ++ l2)) w) := by
 have h := J g 2 [⟨A1, n1, c1, l1⟩, ⟨A2, n2, c2, l2⟩] w rfl (by decide) (HK.out.blk i hL).lt (fun j p hp => by
  match j, hp with
  | 0, hp => simp at hp; subst hp; exact HK.out.cell i hL 0 rfl
  | 1, hp => simp at hp; subst hp; exact HK.out.cell i hL 1 rfl) (fun p hp => by
   simp only [List.mem_cons, List.not_mem_nil, or_false] at hp
   rcases hp with rfl | rfl
   ·exact h1
   ·exact h2) (by
   show (l1 ++ (l2 ++ [])).length * _ ≤ _
   rw [List.append_nil, List.length_append, h1.len, h2.len]; exact ht)
 have e : catP [(⟨A1, n1, c1, l1⟩ : Pce Oh), ⟨A2, n2, c2, l2⟩] = l1 ++ l2 := by show l1 ++ (l2 ++ []) = _; rw [List.append_nil]
 rw [e] at h
 exact h
theorem OJoins.three (J : OJoins) (HK : Hid (Kn b0 w0 w L R)) (i : Nat) (hL : L[i]? = some (g, 22, #[.slice A1 n1 c1, .slice A2 n2 c2, .slice A3 n3 c3])) (h1 : Obs w A1 n1 c1 l1) (h2 : Obs w A2 n2 c2 l2) (h3 : Obs w A3 n3 c3 l3) (ht : (n1 + n2 + n3) * 144 ≤ 140737488355328) :
  Calls Tryz.prog 16 #[.slice (some ⟨g, 0, none⟩) 3 3] w (IsOJ (vs (l1 ++ l2 ++ l3)) w) := by
 have h := J g 3 [⟨A1, n1, c1, l1⟩, ⟨A2, n2, c2, l2⟩, ⟨A3, n3, c3, l3⟩] w rfl (by decide) (HK.out.blk i hL).lt (fun j p hp => by
  match j, hp with
  | 0, hp => simp at hp; subst hp; exact HK.out.cell i hL 0 rfl
  | 1, hp => simp at hp; subst hp; exact HK.out.cell i hL 1 rfl
  | 2, hp => simp at hp; subst hp; exact HK.out.cell i hL 2 rfl) (fun p hp => by
   simp only [List.mem_cons, List.not_mem_nil, or_false] at hp
   rcases hp with rfl | rfl | rfl
   ·exact h1
   ·exact h2
   ·exact h3) (by
   show (l1 ++ (l2 ++ (l3 ++ []))).length * _ ≤ _
   rw [List.append_nil, List.length_append, List.length_append, h1.len, h2.len, h3.len, ← Nat.add_assoc]; exact ht)
 have e : catP [(⟨A1, n1, c1, l1⟩ : Pce Oh), ⟨A2, n2, c2, l2⟩, ⟨A3, n3, c3, l3⟩] = l1 ++ l2 ++ l3 := by show l1 ++ (l2 ++ (l3 ++ [])) = _; rw [List.append_nil, List.append_assoc]
 rw [e] at h
 exact h
end
end Go.Proofs.YtpkodjllljnleaaGreat
namespace Go.Proofs.YtpkodjllljnleaaGreat
open Go.RowKit
def IsOc (w0 : World) (y : Sto.Oc) (w : World) (e : Ending) (w' : World) : Prop := ∃ x A n c Rn, e = .returned (.agg (ocA x y.p y.later A n c)) ∧ x.v = y.o ∧ Kn w.heap.size w w' [] Rn ∧
 ∀ (b : Nat) (W0 W : World) L R, Kn b W0 W L R → (∀ y ∈ Rn, y ∈ R) → (Below w0.heap.size w0 W → In W x) ∧ Sls otLay tF W A n c y.outs
theorem fits_ot {l : List Sto.Ot} (h : l.length ≤ 6) : Fits otLay tF l := ⟨fun x hx => trivial, by show l.length * 72 ≤ _; omega⟩
set_option maxRecDepth 100000 in
set_option maxHeartbeats 12800000 in
theorem stake_any (w0 : World) (x : Oh) (r : Rf) (w : World) (hx0 : In w0 x) (hw : Below w0.heap.size w0 w) : Calls Tryz.prog 51 #[.agg (obA x), .agg #[.int .i64 r.c, .int .i64 r.e, .int .i64 r.r]] w (IsOc w0 (Sto.take x.v r) w) := by
 have hx := hx0.later hw
 have HI := zH hx0
 have HT := zH (fun W (hW : Below w.heap.size w W) => ltake_any x.rA x.rc x.rn x.v.refs r W (hx.r.later hW))
 have HFt := zH (fits_tk (r := r) hx.r.fit)
 have HK := kn3 w 55 (obA x) 24 #[.int .i64 r.c, .int .i64 r.e, .int .i64 r.r] 61 (ocA ohZ Sto.rz false none 0 0)
 unfold IsOc Sto.take
 unfold IsTk at HT
 simp only
 clear hx hx0 hw
 generalize Lck.tkL x.v.refs r = m at *
 generalize Lck.tkH x.v.refs r = h at *
 generalize Lck.tkE x.v.refs r = z at *
 by_cases hz : z = 0
 ·subst hz
  cases h
  all_goals
   go_enter Tryz.func51, Tryz.ntmps51
   go_wp2_with (first | refine wpList_exe (kob_r HK 0 _ (by rfl) (by rfl) (by rfl)) (by rfl) ?_ | refine wpList_exe (kexec_lr HK 1 _ (by rfl) (by rfl) (by rfl)) (by rfl) ?_)
   refine (HT.out _ HK.out.b).mono ?_; rintro e w1 ⟨A4, n4, c4, rfl, o4, b4⟩
   replace HK := zH (HK.out.called b4 o4)
   simp only [lnA] at HK
   clear o4 b4
   go_wp2_with (first | (refine wpList_sor HK 0 rfl _ _ rfl rfl rfl rfl m ?_; intro _ HK'; simp only [List.set] at HK'; replace HK := HK'; clear HK') | refine wpList_exe (kob HK 0 _ (by rfl) (by rfl) (by rfl)) (by rfl) ?_ | refine wpList_exe (exec_b3 (p := Sto.err 0) _ _ _ (by rfl) (by rfl) (by rfl) (by rfl)) (by rfl) ?_ | (refine wpList_soc HK 2 rfl _ _ rfl rfl rfl rfl ?_; intro _ HK'; simp only [List.set] at HK'; replace HK := HK'; clear HK'))
   exact ret_oc Tryz.results51 rfl rfl (HK.out.blk 2 rfl) ⟨_, _, _, _, _, rfl, rfl, HK.out.takeL 0, fun _ _ _ _ _ K hm => ⟨fun hb => (HI.out.later hb).sr (Sls.own (K.mem (hm _ (by simp))) HFt.out), Sls.none _⟩⟩
 ·have hz2 : (z == 0) = false := by simpa using hz
  have hd : (decide (z = 0) && !h) = false := by rw [decide_eq_false hz]; rfl
  rw [hd]
  clear hd hz
  go_enter Tryz.func51, Tryz.ntmps51
  go_wp2_with (first | refine wpList_exe (kob_r HK 0 _ (by rfl) (by rfl) (by rfl)) (by rfl) ?_ | refine wpList_exe (kexec_lr HK 1 _ (by rfl) (by rfl) (by rfl)) (by rfl) ?_)
  refine (HT.out _ HK.out.b).mono ?_; rintro e w1 ⟨A4, n4, c4, rfl, o4, b4⟩
  replace HK := zH (HK.out.called b4 o4)
  simp only [lnA] at HK
  clear o4 b4
  go_wp2_with (first | (refine wpList_sor HK 0 rfl _ _ rfl rfl rfl rfl m ?_; intro _ HK'; simp only [List.set] at HK'; replace HK := HK'; clear HK') | refine wpList_exe (kob HK 0 _ (by rfl) (by rfl) (by rfl)) (by rfl) ?_ | refine wpList_exe (exec_b3 (p := Sto.err z) _ _ _ (by rfl) (by rfl) (by rfl) (by rfl)) (by rfl) ?_ | (refine wpList_soc HK 2 rfl _ _ rfl rfl rfl rfl ?_; intro _ HK'; simp only [List.set] at HK'; replace HK := HK'; clear HK'))
  exact ret_oc Tryz.results51 rfl rfl (HK.out.blk 2 rfl) ⟨_, _, _, _, _, rfl, rfl, HK.out.takeL 0, fun _ _ _ _ _ K hm => ⟨fun hb => (HI.out.later hb).sr (Sls.own (K.mem (hm _ (by simp))) HFt.out), Sls.none _⟩⟩
theorem held_len (y : Rf) (h : Bool) : (Sto.held y h).length ≤ 6 := by cases h <;> (unfold Sto.held; simp)
set_option maxRecDepth 100000 in
set_option maxHeartbeats 12800000 in
theorem sfree_any (w0 : World) (x : Oh) (r : Rf) (w : World) (hx0 : In w0 x) (hw : Below w0.heap.size w0 w) : Calls Tryz.prog 52 #[.agg (obA x), .agg #[.int .i64 r.c, .int .i64 r.e, .int .i64 r.r]] w (IsOc w0 (Sto.free x.v r) w) := by
 have hx := hx0.later hw
 have HI := zH hx0
 have HT := zH (fun W (hW : Below w.heap.size w W) => lfree_any x.rA x.rc x.rn x.v.refs r W (hx.r.later hW))
 have HFt := zH (fits_fr (r := r) hx.r.fit)
 have HFo := zH (fits_ot (held_len (Lck.frN x.v.refs r) (Lck.frS x.v.refs r)))
 have HH := zH (fun W => sheld_any (Lck.frN x.v.refs r) (Lck.frS x.v.refs r) W)
 have HK := kn3 w 55 (obA x) 24 #[.int .i64 r.c, .int .i64 r.e, .int .i64 r.r] 61 (ocA ohZ Sto.rz false none 0 0)
 unfold IsOc Sto.free
 unfold IsFr at HT
 unfold IsOt at HH
 simp only
 clear hx hx0 hw
 generalize Lck.frL x.v.refs r = m at *
 generalize Sto.held (Lck.frN x.v.refs r) (Lck.frS x.v.refs r) = os at *
 generalize Lck.frS x.v.refs r = h at *
 generalize Lck.frE x.v.refs r = z at *
 generalize Lck.frN x.v.refs r = y at *
 go_enter Tryz.func52, Tryz.ntmps52
 go_wp2_with (first | refine wpList_exe (kob_r HK 0 _ (by rfl) (by rfl) (by rfl)) (by rfl) ?_ | refine wpList_exe (kexec_lr HK 1 _ (by rfl) (by rfl) (by rfl)) (by rfl) ?_)
 refine (HT.out _ HK.out.b).mono ?_; rintro e w1 ⟨A4, n4, c4, rfl, o4, b4⟩
 replace HK := zH (HK.out.called b4 o4)
 simp only [lnA] at HK
 clear o4 b4
 go_upto_region 3 with (first | (refine wpList_akr HK rfl rfl ?_; intro _ g5 HK'; simp only [lcA, lnA] at HK'; replace HK := HK'; clear HK') | (refine wpList_sr HK 3 rfl _ _ rfl rfl rfl rfl ?_; intro _ HK'; simp only [List.set] at HK'; replace HK := HK'; clear HK') | (refine wpList_sor HK 0 rfl _ _ rfl rfl rfl rfl m ?_; intro _ HK'; simp only [List.set] at HK'; replace HK := HK'; clear HK') )
 replace HK := zH HK.out.drew
 refine wp_region_any (by kernel_rfl) ?_
 change wpAny _ _ _ _ _ _ _ (World.drew _)
 refine wpAny_take (i := 1) (oi := ⟨some 21, _, _, _, _, _⟩) (v := ?_) rfl (by kernel_rfl) (by kernel_rfl) (by kernel_rfl) (fun _ _ _ h => h) (Or.inl ⟨by rfl, ?_⟩) ?_
 rotate_left
 ·(intro w; go_simp; try with_reducible rfl)
 try simp only [ap1, ap2, ap3, ap4, ap5]
 refine wpAny_take (i := 2) (oi := ⟨some 22, _, _, _, _, _⟩) (v := ?_) rfl (by kernel_rfl) (by kernel_rfl) (by kernel_rfl) (fun _ _ _ h => h) (Or.inl ⟨by rfl, ?_⟩) ?_
 rotate_left
 ·(intro w; go_simp; try with_reducible rfl)
 try simp only [ap1, ap2, ap3, ap4, ap5]
 refine wpAny_take (i := 4) (oi := ⟨some 24, _, _, _, _, _⟩) (v := ?_) rfl (by kernel_rfl) (by kernel_rfl) (by kernel_rfl) (fun _ _ _ h => h) (Or.inl ⟨by rfl, ?_⟩) ?_
 rotate_left
 ·(intro w; go_simp; try with_reducible rfl)
 try simp only [ap1, ap2, ap3, ap4, ap5]
 refine wpAny_ready (rs := [0, 3]) (by kernel_rfl) (by simp) ?_
 refine AllReady.cons (o := ⟨some 20, _, _, _, _, _⟩) rfl (fun K hK => ?_) (AllReady.cons (o := ⟨some 23, _, _, _, _, _⟩) rfl (fun K hK => ?_) AllReady.nil)
 replace hK := zH hK
 refine step_of_exec (by rfl) (kob HK 0 _ (by rfl) (by rfl) (by rfl)) ?_
 refine hK.out _ _ ?_
 clear hK K
 try simp only [ap1, ap2, ap3, ap4, ap5]
 refine wpAny_ready (rs := [3]) (by kernel_rfl) (by simp) ?_
 refine AllReady.cons (o := ⟨some 23, _, _, _, _, _⟩) rfl (fun K hK => ?_) AllReady.nil
 replace hK := zH hK
 refine step_of_exec (by rfl) (kexec_lr HK 3 _ (by rfl) (by rfl) (by rfl)) ?_
 refine hK.out _ _ ?_
 clear hK K
 try simp only [ap1, ap2, ap3, ap4, ap5]
 refine wpAny_ready (rs := [5]) (by kernel_rfl) (by simp) ?_
 refine AllReady.cons (o := ⟨some 25, _, _, _, _, _⟩) rfl (fun K hK => ?_) AllReady.nil
 replace hK := zH hK
 go_simp
 go_at_call 36
 refine (HH.out _).mono ?_; rintro e w2 ⟨A6, n6, c6, rfl, k6, b6⟩; replace HK := zH (k6 _ _ _ _ HK.out); simp only [lcA, lnA] at HK; clear k6 b6
 refine hK.out _ _ ?_
 clear hK K
 try simp only [ap1, ap2, ap3, ap4, ap5]
 refine wpAny_take (i := 6) (oi := ⟨some 26, _, _, _, _, _⟩) (v := ?_) rfl (by kernel_rfl) (by kernel_rfl) (by kernel_rfl) (fun _ _ _ h => h) (Or.inl ⟨by rfl, ?_⟩) ?_
 rotate_left
 ·(intro w; refine Eq.trans (exec_b4 (p := Sto.err z) _ _ _ (by rfl) (by rfl) (by rfl) (by rfl)) ?_; with_reducible rfl)
 try simp only [ap1, ap2, ap3, ap4, ap5]
 refine wpAny_ready (rs := [7]) (by kernel_rfl) (by simp) ?_
 refine AllReady.cons (o := ⟨none, _, _, _, _, _⟩) rfl (fun K hK => ?_) AllReady.nil
 replace hK := zH hK
 refine step_soc HK 2 (by rfl) _ _ (by rfl) (by rfl) (by rfl) (by rfl) ?_; intro _ HK'; simp only [List.set] at HK'; replace HK := HK'; clear HK'
 refine hK.out _ _ ?_
 clear hK K
 try simp only [ap1, ap2, ap3, ap4, ap5]
 refine wpAny_done (by kernel_rfl) ?_ _
 rotate_left
 replace hK := zH hK
 refine step_of_exec (by rfl) (kexec_lr HK 3 _ (by rfl) (by rfl) (by rfl)) ?_
 refine hK.out _ _ ?_
 clear hK K
 try simp only [ap1, ap2, ap3, ap4, ap5]
 refine wpAny_ready (rs := [0, 5]) (by kernel_rfl) (by simp) ?_
 refine AllReady.cons (o := ⟨some 20, _, _, _, _, _⟩) rfl (fun K hK => ?_) (AllReady.cons (o := ⟨some 25, _, _, _, _, _⟩) rfl (fun K hK => ?_) AllReady.nil)
 replace hK := zH hK
 refine step_of_exec (by rfl) (kob HK 0 _ (by rfl) (by rfl) (by rfl)) ?_
 refine hK.out _ _ ?_
 clear hK K
 try simp only [ap1, ap2, ap3, ap4, ap5]
 refine wpAny_ready (rs := [5]) (by kernel_rfl) (by simp) ?_
 refine AllReady.cons (o := ⟨some 25, _, _, _, _, _⟩) rfl (fun K hK => ?_) AllReady.nil
 replace hK := zH hK
 go_simp
 go_at_call 36
 refine (HH.out _).mono ?_; rintro e w2 ⟨A6, n6, c6, rfl, k6, b6⟩; replace HK := zH (k6 _ _ _ _ HK.out); simp only [lcA, lnA] at HK; clear k6 b6
 refine hK.out _ _ ?_
 clear hK K
 try simp only [ap1, ap2, ap3, ap4, ap5]
 refine wpAny_take (i := 6) (oi := ⟨some 26, _, _, _, _, _⟩) (v := ?_) rfl (by kernel_rfl) (by kernel_rfl) (by kernel_rfl) (fun _ _ _ h => h) (Or.inl ⟨by rfl, ?_⟩) ?_
 rotate_left
 ·(intro w; refine Eq.trans (exec_b4 (p := Sto.err z) _ _ _ (by rfl) (by rfl) (by rfl) (by rfl)) ?_; with_reducible rfl)
 try simp only [ap1, ap2, ap3, ap4, ap5]
 refine wpAny_ready (rs := [7]) (by kernel_rfl) (by simp) ?_
 refine AllReady.cons (o := ⟨none, _, _, _, _, _⟩) rfl (fun K hK => ?_) AllReady.nil
 replace hK := zH hK
 refine step_soc HK 2 (by rfl) _ _ (by rfl) (by rfl) (by rfl) (by rfl) ?_; intro _ HK'; simp only [List.set] at HK'; replace HK := HK'; clear HK'
 refine hK.out _ _ ?_
 clear hK K
 try simp only [ap1, ap2, ap3, ap4, ap5]
 refine wpAny_done (by kernel_rfl) ?_ _
 rotate_left
 replace hK := zH hK
 go_simp
 go_at_call 36
 refine (HH.out _).mono ?_; rintro e w2 ⟨A6, n6, c6, rfl, k6, b6⟩; replace HK := zH (k6 _ _ _ _ HK.out); simp only [lcA, lnA] at HK; clear k6 b6
 refine hK.out _ _ ?_
 clear hK K
 try simp only [ap1, ap2, ap3, ap4, ap5]
 refine wpAny_ready (rs := [0]) (by kernel_rfl) (by simp) ?_
 refine AllReady.cons (o := ⟨some 20, _, _, _, _, _⟩) rfl (fun K hK => ?_) AllReady.nil
 replace hK := zH hK
 refine step_of_exec (by rfl) (kob HK 0 _ (by rfl) (by rfl) (by rfl)) ?_
 refine hK.out _ _ ?_
 clear hK K
 try simp only [ap1, ap2, ap3, ap4, ap5]
 refine wpAny_take (i := 6) (oi := ⟨some 26, _, _, _, _, _⟩) (v := ?_) rfl (by kernel_rfl) (by kernel_rfl) (by kernel_rfl) (fun _ _ _ h => h) (Or.inl ⟨by rfl, ?_⟩) ?_
 rotate_left
 ·(intro w; refine Eq.trans (exec_b4 (p := Sto.err z) _ _ _ (by rfl) (by rfl) (by rfl) (by rfl)) ?_; with_reducible rfl)
 try simp only [ap1, ap2, ap3, ap4, ap5]
 refine wpAny_ready (rs := [7]) (by kernel_rfl) (by simp) ?_
 refine AllReady.cons (o := ⟨none, _, _, _, _, _⟩) rfl (fun K hK => ?_) AllReady.nil
 replace hK := zH hK
 refine step_soc HK 2 (by rfl) _ _ (by rfl) (by rfl) (by rfl) (by rfl) ?_; intro _ HK'; simp only [List.set] at HK'; replace HK := HK'; clear HK'
 refine hK.out _ _ ?_
 clear hK K
 try simp only [ap1, ap2, ap3, ap4, ap5]
 refine wpAny_done (by kernel_rfl) ?_ _
 rotate_left
 all_goals
  go_wp2_with fail
  exact ret_oc Tryz.results52 rfl rfl (HK.out.blk 2 rfl) ⟨_, _, _, _, _, rfl, rfl, HK.out.takeL 0, fun _ _ _ _ _ K hm => ⟨fun hb => (HI.out.later hb).sr (Sls.own (K.mem (hm _ (by simp))) HFt.out), Sls.own (K.mem (hm _ (by simp))) HFo.out⟩⟩
end Go.Proofs.YtpkodjllljnleaaGreat
namespace Go.Proofs.YtpkodjllljnleaaGreat
open Go.RowKit
theorem exec_incw {w : World} {o : Oper} {a : Act} {x y : Int} (p : Operand) (ho : o.op = .binOp .add 3 p (.const (.int .i64 1)) 3) (hp : a.eval p = .int .i64 x) (hy : IntKind.i64.wrap (x + 1) = y) :
  (execOp a.eval o).run Tryz.prog w = .ok (.value (.int .i64 y)) w := exec_inc p ho hp hy
theorem thru_snoc {s : List Rf} {k : Nat} {y : Rf} (p : Sto.Rp) (h : s[k]? = some y) : Sto.thru (s.take (k + 1)) p = Sto.thru (s.take k) p ++ [⟨y, p⟩] := by
 unfold Sto.thru
 rw [Lay.take_succ h, List.map_append]
 rfl
set_option maxRecDepth 100000 in
set_option maxHeartbeats 25600000 in
theorem swait_any (w0 : World) (x : Oh) (r : Rf) (w : World) (hx0 : In w0 x) (hw : Below w0.heap.size w0 w) (hd : 0 ≤ x.v.round) : Calls Tryz.prog 53 #[.agg (obA x), .agg #[.int .i64 r.c, .int .i64 r.e, .int .i64 r.r]] w (IsOc w0 (Sto.wait x.v r) w) := by
 have hx := hx0.later hw
 have HI := zH hx0
 have HT := zH (fun W (hW : Below w.heap.size w W) => gwait_any x.v.cap x.rA x.rc x.rn x.v.refs r W (hx.r.later hW))
 have HFt := zH (fits_wt (m := x.v.cap) (r := r) hx.r.fit)
 have HLn : Hid (∀ r' : Rf, (Gt.wtA x.v.cap x.v.refs r).length ≤ 6) := zH fun _ => by
  by_cases he : Gt.wtE x.v.cap x.v.refs r = 0
  ·obtain ⟨h1, h2, h3⟩ := Gt.wt_is he
   have h5 := Lck.right_len h1.2.2.2
   by_cases hf : (x.v.refs.length : Int) + 1 = x.v.cap
   ·rw [(Gt.wt_full h1 h2 h3 hf).2.2, List.length_append]; show _ + 1 ≤ 6; omega
   ·rw [(Gt.wt_more h1 h2 h3 hf).2.2]; exact Nat.zero_le _
  ·rw [(Gt.wt_no (z := Gt.wtE x.v.cap x.v.refs r) rfl he).2.2]; exact Nat.zero_le _
 have HNu := zH snumber_any
 have HK := kn3 w 55 (obA x) 24 #[.int .i64 r.c, .int .i64 r.e, .int .i64 r.r] 61 (ocA ohZ Sto.rz false none 0 0)
 have hmax := hx.d
 unfold IsOc Sto.wait
 unfold IsWt at HT
 clear hx hx0 hw
 generalize Gt.wtL x.v.cap x.v.refs r = m at *
 generalize Gt.wtA x.v.cap x.v.refs r = s at *
 generalize Gt.wtE x.v.cap x.v.refs r = z at *
 by_cases hs : s.length = 0
 ·rw [if_pos hs]
  obtain rfl : s = [] := List.length_eq_zero_iff.1 hs
  clear hs hd hmax HLn HNu
  by_cases hz : z = 0
  ·subst hz
   go_enter Tryz.func53, Tryz.ntmps53
   go_wp2_with (first | refine wpList_exe (kob_c HK 0 _ (by rfl) (by rfl) (by rfl)) (by rfl) ?_ | refine wpList_exe (kob_r HK 0 _ (by rfl) (by rfl) (by rfl)) (by rfl) ?_ | refine wpList_exe (kexec_lr HK 1 _ (by rfl) (by rfl) (by rfl)) (by rfl) ?_)
   refine (HT.out _ HK.out.b).mono ?_; rintro e w1 ⟨A4, n4, c4, A5, n5, c5, rfl, k4, b4⟩
   replace HK := zH (k4 _ _ _ _ HK.out)
   simp only [lnA] at HK
   clear k4 b4
   obtain rfl : n5 = 0 := (HK.out.own 1 rfl).reads.1
   go_wp2_with (first | (refine wpList_sor HK 0 rfl _ _ rfl rfl rfl rfl m ?_; intro _ HK'; simp only [List.set] at HK'; replace HK := HK'; clear HK') | refine wpList_exe (kob HK 0 _ (by rfl) (by rfl) (by rfl)) (by rfl) ?_ | refine wpList_exe (exec_b3 (p := Sto.err 0) _ _ _ (by rfl) (by rfl) (by rfl) (by rfl)) (by rfl) ?_ | (refine wpList_soc HK 2 rfl _ _ rfl rfl rfl rfl ?_; intro _ HK'; simp only [List.set] at HK'; replace HK := HK'; clear HK'))
   exact ret_oc Tryz.results53 rfl rfl (HK.out.blk 2 rfl) ⟨_, _, _, _, _, rfl, rfl, HK.out.takeL 0, fun _ _ _ _ _ K hm => ⟨fun hb => (HI.out.later hb).sr (Sls.own (K.mem (hm _ (List.mem_cons_self ..))) HFt.out.1), Sls.none _⟩⟩
  ·have hz2 : (z == 0) = false := by simpa using hz
   rw [decide_eq_false hz]
   clear hz
   go_enter Tryz.func53, Tryz.ntmps53
   go_wp2_with (first | refine wpList_exe (kob_c HK 0 _ (by rfl) (by rfl) (by rfl)) (by rfl) ?_ | refine wpList_exe (kob_r HK 0 _ (by rfl) (by rfl) (by rfl)) (by rfl) ?_ | refine wpList_exe (kexec_lr HK 1 _ (by rfl) (by rfl) (by rfl)) (by rfl) ?_)
   refine (HT.out _ HK.out.b).mono ?_; rintro e w1 ⟨A4, n4, c4, A5, n5, c5, rfl, k4, b4⟩
   replace HK := zH (k4 _ _ _ _ HK.out)
   simp only [lnA] at HK
   clear k4 b4
   obtain rfl : n5 = 0 := (HK.out.own 1 rfl).reads.1
   go_wp2_with (first | (refine wpList_sor HK 0 rfl _ _ rfl rfl rfl rfl m ?_; intro _ HK'; simp only [List.set] at HK'; replace HK := HK'; clear HK') | refine wpList_exe (kob HK 0 _ (by rfl) (by rfl) (by rfl)) (by rfl) ?_ | refine wpList_exe (exec_b3 (p := Sto.err z) _ _ _ (by rfl) (by rfl) (by rfl) (by rfl)) (by rfl) ?_ | (refine wpList_soc HK 2 rfl _ _ rfl rfl rfl rfl ?_; intro _ HK'; simp only [List.set] at HK'; replace HK := HK'; clear HK'))
   exact ret_oc Tryz.results53 rfl rfl (HK.out.blk 2 rfl) ⟨_, _, _, _, _, rfl, rfl, HK.out.takeL 0, fun _ _ _ _ _ K hm => ⟨fun hb => (HI.out.later hb).sr (Sls.own (K.mem (hm _ (List.mem_cons_self ..))) HFt.out.1), Sls.none _⟩⟩
 rw [if_neg hs]
 have hlen := HLn.out r
 generalize hN : s.length = N at *
 have HNl := zH hN
 clear hN HLn
 have hz1 : ((N : Int) == 0) = false := by simpa using hs
 by_cases hm : x.v.round = 9223372036854775807
 ·rw [if_pos hm]
  have HM := zH hm
  have hmb : (x.v.round == 9223372036854775807) = true := by simpa using hm
  clear hm hd hmax hs
  go_enter Tryz.func53, Tryz.ntmps53
  go_wp2_with (first | refine wpList_exe (kob_c HK 0 _ (by rfl) (by rfl) (by rfl)) (by rfl) ?_ | refine wpList_exe (kob_r HK 0 _ (by rfl) (by rfl) (by rfl)) (by rfl) ?_ | refine wpList_exe (kexec_lr HK 1 _ (by rfl) (by rfl) (by rfl)) (by rfl) ?_)
  refine (HT.out _ HK.out.b).mono ?_; rintro e w1 ⟨A4, n4, c4, A5, n5, c5, rfl, k4, b4⟩
  replace HK := zH (k4 _ _ _ _ HK.out)
  simp only [lnA] at HK
  clear k4 b4
  obtain rfl : n5 = N := (HK.out.own 1 rfl).reads.1.trans HNl.out
  go_wp2_with (first | refine wpList_exe (kob_d HK 0 _ (by rfl) (by rfl) (by rfl)) (by rfl) ?_ | refine wpList_exe (kob HK 0 _ (by rfl) (by rfl) (by rfl)) (by rfl) ?_ | refine wpList_exe (exec_b2 (p := Sto.err 6) _ _ (by rfl) (by rfl) (by rfl)) (by rfl) ?_ | (refine wpList_soc HK 2 rfl _ _ rfl rfl rfl rfl ?_; intro _ HK'; simp only [List.set] at HK'; replace HK := HK'; clear HK'))
  exact ret_oc Tryz.results53 rfl rfl (HK.out.blk 2 rfl) ⟨_, _, _, _, _, rfl, rfl, HK.out.takeL 0, fun _ _ _ _ _ K hm => ⟨fun hb => HI.out.later hb, Sls.none _⟩⟩
 rw [if_neg hm]
 have hmb : (x.v.round == 9223372036854775807) = false := by simpa using hm
 have HInc : Hid (IntKind.i64.wrap (x.v.round + 1) = x.v.round + 1) := zH (by rw [IntKind.wrap_i64]; omega)
 have HMx : Hid (x.v.round + 1 ≤ 9223372036854775807) := zH (by omega)
 clear hm hd hmax
 obtain ⟨M, rfl⟩ : ∃ M, N = M + 1 := ⟨N - 1, by omega⟩
 clear hs
 rw [Nat.add_sub_cancel]
 have hM2 : M < 9223372036854775807 := by omega
 have hM3 : M ≤ 6 := by omega
 have HFa := zH HFt.out.2
 go_enter Tryz.func53, Tryz.ntmps53
 go_wp2_with (first | refine wpList_exe (kob_c HK 0 _ (by rfl) (by rfl) (by rfl)) (by rfl) ?_ | refine wpList_exe (kob_r HK 0 _ (by rfl) (by rfl) (by rfl)) (by rfl) ?_ | refine wpList_exe (kexec_lr HK 1 _ (by rfl) (by rfl) (by rfl)) (by rfl) ?_)
 refine (HT.out _ HK.out.b).mono ?_; rintro e w1 ⟨A4, n4, c4, A5, n5, c5, rfl, k4, b4⟩
 replace HK := zH (k4 _ _ _ _ HK.out)
 simp only [lnA] at HK
 clear k4 b4
 obtain rfl : n5 = M + 1 := (HK.out.own 1 rfl).reads.1.trans HNl.out
 have hcap : M ≤ c5 := by
  have h := (HK.out.own 1 rfl).cap
  rw [HNl.out] at h
  exact Nat.le_trans (Nat.le_succ M) h
 go_wp2_with (first | refine wpList_exe (kob_d HK 0 _ (by rfl) (by rfl) (by rfl)) (by rfl) ?_)
 refine (HNu.out _ _).mono ?_; rintro e w2 ⟨rfl, b1⟩
 replace HK := hkC HK b1; clear b1
 go_wp2_with (first | (refine wpList_arp HK rfl rfl ?_; intro _ g8 HK'; simp only [lcA, lnA] at HK'; replace HK := HK'; clear HK') | (refine wpList_srp (q := ⟨0, Sto.num x.v.round⟩) HK 3 rfl _ _ rfl rfl rfl rfl ?_; intro _ HK'; simp only [List.set] at HK'; replace HK := HK'; clear HK') | (refine wpList_mk0 otLay HK rfl rfl ?_; intro _ g9 HK'; simp only [lcA, lnA] at HK'; replace HK := HK'; clear HK') | refine wpList_exe (exec_sub1 (j := M) _ (by rfl) (by rfl) hM2) (by rfl) ?_ | refine wpList_exe (exec_sls_h rfLay (hi := M) _ _ (by rfl) (by rfl) (by rfl) hcap) (by rfl) ?_)
 go_loopw [9, 52] (fun vo vi wr => ∃ (k : Nat) (A7 : Option Addr) (c7 : Nat), k ≤ M ∧ vo = .slice A7 k c7 ∧ vi = .int .i64 k ∧ Hid ((Sto.thru (s.take k) ⟨0, Sto.num x.v.round⟩).length = k) ∧ Hid (Kn w.heap.size w wr [(w.heap.size, 55, obA x), (w.heap.size + 1, 24, #[.int .i64 r.c, .int .i64 r.e, .int .i64 r.r]), (w.heap.size + 2, 61, ocA ohZ Sto.rz false none 0 0), (g8, 33, rpA ⟨0, Sto.num x.v.round⟩)] [row rfLay (.slice A4 n4 c4) m, row rfLay (.slice A5 (M + 1) c5) s, row otLay (.slice A7 k c7) (Sto.thru (s.take k) ⟨0, Sto.num x.v.round⟩)])) (fun _ vi _ => M - (intOf vi).toNat)
 case atStart => exact ⟨0, _, _, Nat.zero_le _, rfl, rfl, zH rfl, HK⟩
 case round =>
  clear HK
  obtain ⟨k, A7, c7, hk, rfl, rfl, hL7, HK⟩ := hrel
  by_cases hlt : k < M
  ·obtain ⟨y, hy⟩ := Lay.get_of (l := s) (k := k) (by rw [HNl.out]; omega)
   have hsl : Sls rfLay rF wr A5 (M + 1) c5 s := Sls.own (HK.out.own 1 rfl) HFa.out
   obtain ⟨b, o, rfl, hat⟩ := hsl.at (Nat.succ_pos M)
   have HY : Hid (∀ j v, (rfL y)[j]? = some v → wr.cell? ⟨b, o + k * 3 + j, none⟩ = some v) := zH (hat wr (Below.refl _ _) k y hy)
   have HTk := zH (thru_snoc ⟨0, Sto.num x.v.round⟩ hy)
   clear hsl hat hy
   have hk1 : (0 : Int) ≤ (k : Int) := by omega
   have hk2 : (k : Int) < (M : Int) := by omega
   have hk3 : k < 9223372036854775807 := by omega
   generalize Sto.thru (s.take k) ⟨0, Sto.num x.v.round⟩ = os at *
   have HL : Hid (os.length + 1 ≤ 9223372036854775807 ∧ (os.length + 1) * otLay.bytes ≤ 211106232532992) := zH (by
    rw [hL7.out]
    refine ⟨by omega, ?_⟩
    show (k + 1) * 72 ≤ _
    omega)
   have HN3 : Hid ((os ++ [(⟨y, ⟨0, Sto.num x.v.round⟩⟩ : Sto.Ot)]).length = k + 1) := zH (by rw [List.length_append, hL7.out]; rfl)
   go_wp2_with (first | refine wpList_exe (exec_lr (x := y) (off := o + k * 3) _ (by rfl) (by rfl) (HY.out)) (by rfl) ?_ | (refine wpList_akr HK rfl rfl ?_; intro _ g10 HK'; simp only [lcA, lnA] at HK'; replace HK := HK'; clear HK') | (refine wpList_sr HK 4 rfl _ _ rfl rfl rfl rfl ?_; intro _ HK'; simp only [List.set] at HK'; replace HK := HK'; clear HK') | refine wpList_exe (kexec_lr HK 4 _ (by rfl) (by rfl) (by rfl)) (by rfl) ?_ | refine wpList_exe (krp HK 3 _ (by rfl) (by rfl) (by rfl)) (by rfl) ?_ | refine wpList_exe (exec_bo2 (r := y) (p := ⟨0, Sto.num x.v.round⟩) _ _ (by rfl) (by rfl) (by rfl)) (by rfl) ?_ | (refine wpList_mk1 otLay (p := ⟨y, ⟨0, Sto.num x.v.round⟩⟩) HK (by decide) rfl _ rfl rfl rfl ?_; intro _ g11 HK'; simp only [lcA, lnA] at HK'; have HR := zH (HK'.out.own 3 rfl).rd; replace HK := HK'; clear HK') | (at_builtin; refine wpList_kmore HK otLay 2 rfl _ _ rfl rfl rfl [⟨y, ⟨0, Sto.num x.v.round⟩⟩] rfl rfl HR HL (N := k + 1) HN3 ?_; intro A8 c8 _ HK'; simp only [List.set] at HK'; replace HK := HK'; clear HK') | refine wpList_exe (exec_add1 (j := k) _ (by rfl) (by rfl) hk3) (by rfl) ?_)
   refine ⟨⟨k + 1, A8, c8, by omega, rfl, by go_num, zH (by rw [HTk.out]; exact HN3.out), zH ?_⟩, by simp [intOf]; omega⟩
   rw [HTk.out]
   exact (HK.out.takeL 4).takeR 3
  ·obtain rfl : k = M := by omega
   have HFo : Hid (Fits otLay tF (Sto.thru (s.take k) ⟨0, Sto.num x.v.round⟩)) := zH (fits_ot (by rw [hL7.out]; exact hM3))
   generalize hos : Sto.thru (s.take k) ⟨0, Sto.num x.v.round⟩ = os at *
   have HOs := zH hos
   clear hos
   go_wp2_with (first | (refine wpList_sor HK 0 rfl _ _ rfl rfl rfl rfl m ?_; intro _ HK'; simp only [List.set] at HK'; replace HK := HK'; clear HK') | refine wpList_exe (kob_d HK 0 _ (by rfl) (by rfl) (by rfl)) (by rfl) ?_ | refine wpList_exe (exec_incw (x := x.v.round) (y := x.v.round + 1) _ (by rfl) (by rfl) HInc.out) (by rfl) ?_ | (refine wpList_sod HK 0 rfl _ _ rfl rfl rfl (d := x.v.round + 1) rfl ?_; intro _ HK'; simp only [List.set] at HK'; replace HK := HK'; clear HK') | refine wpList_exe (kob HK 0 _ (by rfl) (by rfl) (by rfl)) (by rfl) ?_ | refine wpList_exe (krp HK 3 _ (by rfl) (by rfl) (by rfl)) (by rfl) ?_ | refine wpList_exe (exec_b4 (p := ⟨0, Sto.num x.v.round⟩) _ _ _ (by rfl) (by rfl) (by rfl) (by rfl)) (by rfl) ?_ | (refine wpList_soc HK 2 rfl _ _ rfl rfl rfl rfl ?_; intro _ HK'; simp only [List.set] at HK'; replace HK := HK'; clear HK'))
   exact ret_oc Tryz.results53 rfl rfl (HK.out.blk 2 rfl) ⟨_, _, _, _, _, rfl, rfl, HK.out.takeL 0, fun _ _ _ _ _ K hm => ⟨fun hb => ((HI.out.later hb).sr (Sls.own (K.mem (hm _ (List.mem_cons_self ..))) HFt.out.1)).sd HMx.out, by rw [HOs.out]; exact Sls.own (K.mem (hm _ (List.mem_cons_of_mem _ (List.mem_cons_of_mem _ (List.mem_cons_self ..))))) HFo.out⟩⟩
end Go.Proofs.YtpkodjllljnleaaGreat
