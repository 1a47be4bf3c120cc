/-
  What the law StoreBounds returns: true.
  No condition but what the slice reads as.
-/
import Derived.Test.YtpkodjllljnleaaMP
import Derived.Test.YtpkodjllljnleaaStoReply
import Derived.Test.YtpkodjllljnleaaStoBndM
set_option linter.unusedSimpArgs false
set_option linter.unusedVariables false
namespace Go.Proofs.Ytpkodjllljnleaa
open Go.RowKit

/-- What 'Do' replies with, and nothing else of its answer. -/
def IsRe (e0 : Int) (w : World) (e : Ending) (w' : World) : Prop := ∃ (A : Option Addr) (n c : Nat) (v : Val.V) (t : Bool) (O : Option Addr) (k d : Nat), e = .returned (.tuple #[.slice A n c, .agg (rpA ⟨e0, v⟩), .bool t, .slice O k d]) ∧ Below w.heap.size w w'
theorem sdo_e {A : Option Addr} {cp n : Nat} {l : List Oh} {r : Rf} {c : Cmd.C} {w : World} {e0 : Int} (hs : Obs w A n cp l) (hv : c.val.f < 18446744073709551616) (ho : c.old.f < 18446744073709551616) (he : (Sto.doo (vs l) r c).p.e = e0) :
    Calls Try.prog 13 #[.slice A n cp, .agg #[.int .i64 r.c, .int .i64 r.e, .int .i64 r.r], .agg (cmA c)] w (IsRe e0 w) :=
  (sdo_any A cp n l r c w hs hv ho).mono (by
    intro e w' h
    unfold IsDo at h
    obtain ⟨A', n', c', l', O, k, d, Rn, rfl, _, hk, _⟩ := h
    subst he
    exact ⟨A', n', c', _, _, O, k, d, rfl, hk.b⟩)
section
variable {w : World} {o : Oper} {a : Act}
theorem exec_cat {x y : ByteArray} (p : Operand) (ho : o.op = .binOp .add 9 p (.const (.string y)) 9) (hp : a.eval p = .string x) (hz : x.size + y.size ≤ 9223372036854775807) {z : ByteArray} (hy : x ++ y = z) :
    (execOp a.eval o).run Try.prog w = .ok (.value (.string z)) w := by
  subst hy
  have he : a.eval (.const (.string y)) = .string y := rfl
  unfold execOp
  simp only [ho, hp, he]
  go_simp
theorem exec_tac {x y : ByteArray} (p : Operand) (ho : o.op = .binOp .add 9 (.const (.string y)) p 9) (hp : a.eval p = .string x) (hz : y.size + x.size ≤ 9223372036854775807) {z : ByteArray} (hy : y ++ x = z) :
    (execOp a.eval o).run Try.prog w = .ok (.value (.string z)) w := by
  subst hy
  have he : a.eval (.const (.string y)) = .string y := rfl
  unfold execOp
  simp only [ho, hp, he]
  go_simp
theorem exec_gek {x k : Int} {b : Bool} (p : Operand) (ho : o.op = .binOp .geq 3 p (.const (.int .i64 k)) 3) (hp : a.eval p = .int .i64 x) (hb : decide (k ≤ x) = b) :
    (execOp a.eval o).run Try.prog w = .ok (.value (.bool b)) w := by
  have he : a.eval (.const (.int .i64 k)) = .int .i64 k := rfl
  subst hb
  unfold execOp
  simp only [ho, hp, he]
  go_simp
theorem exec_iek {x k : Int} {b : Bool} (p : Operand) (ho : o.op = .binOp .eql 3 p (.const (.int .i64 k)) 3) (hp : a.eval p = .int .i64 x) (hb : decide (x = k) = b) :
    (execOp a.eval o).run Try.prog w = .ok (.value (.bool b)) w := by
  have he : a.eval (.const (.int .i64 k)) = .int .i64 k := rfl
  subst hb
  unfold execOp
  simp only [ho, hp, he]
  go_simp
  try rfl
theorem exec_iee {x y : Int} {b : Bool} (p q : Operand) (ho : o.op = .binOp .eql 3 p q 3) (hp : a.eval p = .int .i64 x) (hq : a.eval q = .int .i64 y) (hb : decide (x = y) = b) :
    (execOp a.eval o).run Try.prog w = .ok (.value (.bool b)) w := by
  subst hb
  unfold execOp
  simp only [ho, hp, hq]
  go_simp
  rfl
theorem exec_97 {k : Nat} (p : Operand) (ho : o.op = .binOp .add 3 (.const (.int .i64 97)) p 3) (hp : a.eval p = .int .i64 (k : Int)) (h : k < 26) :
    (execOp a.eval o).run Try.prog w = .ok (.value (.int .i64 ((97 + k : Nat) : Int))) w := by
  have hw : IntKind.i64.wrap (97 + (k : Int)) = 97 + (k : Int) := by rw [IntKind.wrap_i64]; omega
  have he : a.eval (.const (.int .i64 97)) = .int .i64 97 := rfl
  unfold execOp
  simp only [ho, hp, he]
  go_simp
theorem exec_obp {x : Oh} {b off : Nat} {A : Option Addr} {m : Nat} (p : Operand) (ho : o.op = .load 43 p) (hx : a.eval p = .pointer (some ⟨b, off + 3, none⟩)) (hc : ∀ j v, (obL x)[j]? = some v → w.cell? ⟨b, off + j, none⟩ = some v) (hA : x.pA = A) (hm : x.pn = m) :
    (execOp a.eval o).run Try.prog w = .ok (.value (.slice A m x.pc)) w := by
  subst hA hm
  exact exec_cell p ho hx (hc 3 _ rfl) Try.underlying43 rfl
theorem exec_obv {x : Oh} {b off : Nat} (p : Operand) (ho : o.op = .load 44 p) (hx : a.eval p = .pointer (some ⟨b, off + 4, none⟩)) (hc : ∀ j v, (obL x)[j]? = some v → w.cell? ⟨b, off + j, none⟩ = some v) :
    (execOp a.eval o).run Try.prog w = .ok (.value (.slice x.vA x.vn x.vc)) w := exec_cell p ho hx (hc 4 _ rfl) Try.underlying44 rfl
theorem exec_obc {x : Oh} {b off : Nat} (p : Operand) (ho : o.op = .load 3 p) (hx : a.eval p = .pointer (some ⟨b, off + 2, none⟩)) (hc : ∀ j v, (obL x)[j]? = some v → w.cell? ⟨b, off + j, none⟩ = some v) :
    (execOp a.eval o).run Try.prog w = .ok (.value (.int .i64 x.v.cap)) w := exec_cell p ho hx (hc 2 _ rfl) Try.underlying3 rfl
theorem exec_bput {nm key : ByteArray} {n : Int} (p q r : Operand) (ho : o.op = .build 36 #[(0, .const (.int .i64 7)), (1, p), (2, q), (3, r)]) (hp : a.eval p = .string nm) (hq : a.eval q = .string key) (hr : a.eval r = .agg #[.int .i64 1, .int .i64 n, .int .u64 ((0 : Nat) : Int), .string ⟨#[]⟩]) :
    (execOp a.eval o).run Try.prog w = .ok (.value (.agg (cmA (Sto.cPut nm key n)))) w := by
  have h : (Instr.build 36 #[(0, .int .i64 7), (1, .string nm), (2, .string key), (3, .agg #[.int .i64 1, .int .i64 n, .int .u64 ((0 : Nat) : Int), .string ⟨#[]⟩])]).run Try.prog w = .ok (.agg (cmA (Sto.cPut nm key n))) w := by
    unfold cmA cmC Sto.cPut
    go_simp
    exact ⟨rfl, rfl, rfl, rfl, rfl, rfl, rfl, rfl⟩
  have he : a.eval (.const (.int .i64 7)) = .int .i64 7 := rfl
  unfold execOp
  simp only [ho, Sem.run_bind, Sem.run_pure, Result.andThen_ok, List.map_toArray, List.map_cons, List.map_nil, he, hp, hq, hr, h]
theorem exec_bpush {nm : ByteArray} {n : Int} (p r : Operand) (ho : o.op = .build 36 #[(0, .const (.int .i64 10)), (1, p), (3, r)]) (hp : a.eval p = .string nm) (hr : a.eval r = .agg #[.int .i64 1, .int .i64 n, .int .u64 ((0 : Nat) : Int), .string ⟨#[]⟩]) :
    (execOp a.eval o).run Try.prog w = .ok (.value (.agg (cmA (Sto.cPush nm n)))) w := by
  have h : (Instr.build 36 #[(0, .int .i64 10), (1, .string nm), (3, .agg #[.int .i64 1, .int .i64 n, .int .u64 ((0 : Nat) : Int), .string ⟨#[]⟩])]).run Try.prog w = .ok (.agg (cmA (Sto.cPush nm n))) w := by
    unfold cmA cmC Sto.cPush
    go_simp
    exact ⟨rfl, rfl, rfl, rfl, rfl, rfl, rfl, rfl⟩
  have he : a.eval (.const (.int .i64 10)) = .int .i64 10 := rfl
  unfold execOp
  simp only [ho, Sem.run_bind, Sem.run_pure, Result.andThen_ok, List.map_toArray, List.map_cons, List.map_nil, he, hp, hr, h]
theorem exec_bmake {nm : ByteArray} (p : Operand) (ho : o.op = .build 36 #[(0, .const (.int .i64 4)), (1, p), (5, .const (.int .i64 1))]) (hp : a.eval p = .string nm) :
    (execOp a.eval o).run Try.prog w = .ok (.value (.agg (cmA (Sto.cMake nm)))) w := by
  have h : (Instr.build 36 #[(0, .int .i64 4), (1, .string nm), (5, .int .i64 1)]).run Try.prog w = .ok (.agg (cmA (Sto.cMake nm))) w := by
    unfold cmA cmC Sto.cMake
    go_simp
    exact ⟨rfl, rfl, rfl, rfl, rfl, rfl, rfl, rfl⟩
  have he : a.eval (.const (.int .i64 4)) = .int .i64 4 := rfl
  have he1 : a.eval (.const (.int .i64 1)) = .int .i64 1 := rfl
  unfold execOp
  simp only [ho, Sem.run_bind, Sem.run_pure, Result.andThen_ok, List.map_toArray, List.map_cons, List.map_nil, he, he1, hp, h]
/-- A letter. -/
theorem exec_u8 {n : Nat} (p : Operand) (ho : o.op = .convert 3 5 p) (hp : a.eval p = .int .i64 (n : Int)) (h : n < 256) :
    (execOp a.eval o).run Try.prog w = .ok (.value (.int .u8 ((UInt8.ofNat n).toNat : Int))) w := by
  have hn : (UInt8.ofNat n).toNat = n := by rw [UInt8.toNat_ofNat']; exact Nat.mod_eq_of_lt h
  have hw : IntKind.u8.wrap (n : Int) = (n : Int) := by rw [IntKind.wrap_u8]; omega
  rw [hn]
  unfold execOp
  simp only [ho, hp]
  go_simp
end
section
variable {b0 : Nat} {w0 w : World} {L : List (Nat × TypeId × Array Value)} {R : List RowE} {ops : Array Oper} {rest : List Oper} {o : Oper} {a : Act} {Q : Exit → Act → World → Prop} {K : Act → World → Prop} {E : Prop}
theorem step_arp (HK : Hid (Kn b0 w0 w L R)) (hgd : o.guard = none) (ho : o.op = .alloc 28)
    (h : ∀ w' g, Hid (Kn b0 w0 w' (L ++ [(g, 28, rpA Sto.rz)]) R) → K (a.put o.dst (.pointer (some ⟨g, 0, none⟩))) w') : if Region.wanted o (yielded ops a.tmps) = true then Oper.wp Try.prog o a w K Q else E := by
  rw [if_pos (by simp [Region.wanted, hgd])]
  have h4 := h _ w.heap.size (Lib.hid (HK.out.alloc _ _))
  unfold Oper.wp execOp
  simp only [ho]
  unfold rpA Sto.rz at h4
  go_simp
  exact h4
/-- A slice of one byte, and the text of it. -/
theorem wpList_one (HK : Hid (Kn b0 w0 w L R)) (hgd : o.guard = none) (p : Operand) (ho : o.op = .buildSlice 52 1 #[(0, p)]) {c : UInt8} (hp : a.eval p = .int .u8 (c.toNat : Int))
    (h : ∀ w' g, Hid (Kn b0 w0 w' L R) → Hid ((convert 52 9 (.slice (some ⟨g, 0, none⟩) 1 1)).run Try.prog w' = .ok (.string ⟨#[c]⟩) w') → wpList Try.prog ops Q rest (a.put o.dst (.slice (some ⟨g, 0, none⟩) 1 1)) w') : wpList Try.prog ops Q (o :: rest) a w :=
  wpList_plain hgd fun K hK => by
    have hcv : (convert 52 9 (.slice (some ⟨w.heap.size, 0, none⟩) 1 1)).run Try.prog (w.alloc (.cells #[.int .u8 (c.toNat : Int)] 5)) = .ok (.string ⟨#[c]⟩) (w.alloc (.cells #[.int .u8 (c.toNat : Int)] 5)) :=
      run_convert_bytes_back (P := Try.prog) (w.alloc (.cells #[.int .u8 (c.toNat : Int)] 5)) 52 9 5 ⟨w.heap.size, 0, none⟩ 1 [c] Try.underlying52 Try.underlying5 Try.underlying9 (fun j hj => by
        obtain rfl : j = 0 := by simpa using hj
        show (w.alloc (.cells #[.int .u8 (c.toNat : Int)] 5)).cell? ⟨w.heap.size, 0, none⟩ = _
        rw [World.cell?_alloc_new]; rfl)
    have h4 := h _ w.heap.size (Lib.hid (HK.out.allocO (.cells #[.int .u8 (c.toNat : Int)] 5))) (Lib.hid hcv)
    unfold Oper.wp execOp
    simp only [ho, List.map_toArray, List.map_cons, List.map_nil, hp]
    go_simp
    exact hK _ _ h4
theorem exec_txt {v : Value} {t : ByteArray} (p : Operand) (ho : o.op = .convert 52 9 p) (hp : a.eval p = v) (h : Hid ((convert 52 9 v).run Try.prog w = .ok (.string t) w)) :
    (execOp a.eval o).run Try.prog w = .ok (.value (.string t)) w := by
  unfold execOp
  simp only [ho, hp, Sem.run_bind, Sem.run_pure, Result.andThen_ok, h.out]
end
theorem more_list (k : ByteArray) (c : UInt8) : (k ++ (⟨#[c]⟩ : ByteArray)).toList = k.toList ++ [c] := by
  rw [ByteArray.toList_eq, ByteArray.toList_eq]
  simp
set_option maxRecDepth 100000 in
set_option maxHeartbeats 51200000 in
theorem bounds_yes (A : Option Addr) (cp n : Nat) (l : List Oh) (r : Rf) (v : Val.V) (w : World) (hs : Obs w A n cp l) :
    Calls Try.prog 6 #[.slice A n cp, .agg #[.int .i64 r.c, .int .i64 r.e, .int .i64 r.r], .agg (vC v.k v.n v.f v.s)] w (fun e w' => e = .returned (.bool true) ∧ Below w.heap.size w w') := by
  have HA := Lib.hid oawake_any
  have HRt := Lib.hid (fun W (hW : Below w.heap.size w W) => oright_any A cp n l W (hs.later hW))
  have HD := Lib.hid (fun W (hW : Below w.heap.size w W) (c : Cmd.C) (e0 : Int) (h1 : c.val.f < 18446744073709551616) (h2 : c.old.f < 18446744073709551616) (h3 : (Sto.doo (vs l) r c).p.e = e0) => sdo_e (hs.later hW) h1 h2 h3)
  have HO := Lib.hid (fun W (hW : Below w.heap.size w W) => hs.later hW)
  have HK := kn2 w 34 #[.int .i64 r.c, .int .i64 r.e, .int .i64 r.r] 26 (vC v.k v.n v.f v.s)
  have HL : Hid (l.length = n) := Lib.hid hs.len
  have hbig : n * 144 ≤ 140737488355328 := hs.s.big
  unfold IsB at HA HRt
  unfold IsRe at HD
  clear hs
  obtain ⟨x, hx⟩ : ∃ x, decide (Sto.Right (vs l)) = x := ⟨_, rfl⟩
  obtain ⟨b0, D0⟩ : ∃ b, Hid (decide (r.c < 0) = b) := ⟨_, Lib.hid rfl⟩
  obtain ⟨b5, D5⟩ : ∃ b, Hid (decide (5 ≤ r.c) = b) := ⟨_, Lib.hid rfl⟩
  obtain ⟨be, De⟩ : ∃ b, Hid (decide (r.e < 1) = b) := ⟨_, Lib.hid rfl⟩
  obtain ⟨br, Dr⟩ : ∃ b, Hid (decide (r.r < 0) = b) := ⟨_, Lib.hid rfl⟩
  simp only [hx] at HRt
  go_enter Try.func6, Try.ntmps6
  go_wp2_with fail
  refine (HRt.out _ HK.out.b).mono ?_; rintro e w1 ⟨rfl, b1⟩
  replace HK := Lib.hid (HK.out.call b1); clear b1
  cases x
  case false =>
    (go_wp2_with (first | refine wpList_exe (kexec_lc0 HK 0 _ (by rfl) (by rfl) (by rfl)) (by rfl) ?_ | refine wpList_exe (kexec_lc1 HK 0 _ (by rfl) (by rfl) (by rfl)) (by rfl) ?_ | refine wpList_exe (kexec_lc HK 3 _ (by rfl) 0 (by rfl) (by rfl) (v := .int .i64 r.r) (by rfl) Try.underlying3 rfl) (by rfl) ?_ | refine wpList_exe (exec_lti (x := r.c) (k := 0) _ (by rfl) (by rfl) D0.out) (by rfl) ?_ | refine wpList_exe (exec_gek (x := r.c) (k := 5) _ (by rfl) (by rfl) D5.out) (by rfl) ?_ | refine wpList_exe (exec_lti (x := r.e) (k := 1) _ (by rfl) (by rfl) De.out) (by rfl) ?_ | refine wpList_exe (exec_lti (x := r.r) (k := 0) _ (by rfl) (by rfl) Dr.out) (by rfl) ?_))
    (refine (HA.out _).mono ?_; rintro e w1 ⟨rfl, b1⟩; replace HK := Lib.hid (HK.out.call b1); clear b1; go_wp2_with fail; go_ret; exact ⟨rfl, HK.out.b⟩)
  cases b0
  case true =>
    (go_wp2_with (first | refine wpList_exe (kexec_lc0 HK 0 _ (by rfl) (by rfl) (by rfl)) (by rfl) ?_ | refine wpList_exe (kexec_lc1 HK 0 _ (by rfl) (by rfl) (by rfl)) (by rfl) ?_ | refine wpList_exe (kexec_lc HK 3 _ (by rfl) 0 (by rfl) (by rfl) (v := .int .i64 r.r) (by rfl) Try.underlying3 rfl) (by rfl) ?_ | refine wpList_exe (exec_lti (x := r.c) (k := 0) _ (by rfl) (by rfl) D0.out) (by rfl) ?_ | refine wpList_exe (exec_gek (x := r.c) (k := 5) _ (by rfl) (by rfl) D5.out) (by rfl) ?_ | refine wpList_exe (exec_lti (x := r.e) (k := 1) _ (by rfl) (by rfl) De.out) (by rfl) ?_ | refine wpList_exe (exec_lti (x := r.r) (k := 0) _ (by rfl) (by rfl) Dr.out) (by rfl) ?_))
    (refine (HA.out _).mono ?_; rintro e w1 ⟨rfl, b1⟩; replace HK := Lib.hid (HK.out.call b1); clear b1; go_wp2_with fail; go_ret; exact ⟨rfl, HK.out.b⟩)
  cases b5
  case true =>
    (go_wp2_with (first | refine wpList_exe (kexec_lc0 HK 0 _ (by rfl) (by rfl) (by rfl)) (by rfl) ?_ | refine wpList_exe (kexec_lc1 HK 0 _ (by rfl) (by rfl) (by rfl)) (by rfl) ?_ | refine wpList_exe (kexec_lc HK 3 _ (by rfl) 0 (by rfl) (by rfl) (v := .int .i64 r.r) (by rfl) Try.underlying3 rfl) (by rfl) ?_ | refine wpList_exe (exec_lti (x := r.c) (k := 0) _ (by rfl) (by rfl) D0.out) (by rfl) ?_ | refine wpList_exe (exec_gek (x := r.c) (k := 5) _ (by rfl) (by rfl) D5.out) (by rfl) ?_ | refine wpList_exe (exec_lti (x := r.e) (k := 1) _ (by rfl) (by rfl) De.out) (by rfl) ?_ | refine wpList_exe (exec_lti (x := r.r) (k := 0) _ (by rfl) (by rfl) Dr.out) (by rfl) ?_))
    (refine (HA.out _).mono ?_; rintro e w1 ⟨rfl, b1⟩; replace HK := Lib.hid (HK.out.call b1); clear b1; go_wp2_with fail; go_ret; exact ⟨rfl, HK.out.b⟩)
  cases be
  case true =>
    (go_wp2_with (first | refine wpList_exe (kexec_lc0 HK 0 _ (by rfl) (by rfl) (by rfl)) (by rfl) ?_ | refine wpList_exe (kexec_lc1 HK 0 _ (by rfl) (by rfl) (by rfl)) (by rfl) ?_ | refine wpList_exe (kexec_lc HK 3 _ (by rfl) 0 (by rfl) (by rfl) (v := .int .i64 r.r) (by rfl) Try.underlying3 rfl) (by rfl) ?_ | refine wpList_exe (exec_lti (x := r.c) (k := 0) _ (by rfl) (by rfl) D0.out) (by rfl) ?_ | refine wpList_exe (exec_gek (x := r.c) (k := 5) _ (by rfl) (by rfl) D5.out) (by rfl) ?_ | refine wpList_exe (exec_lti (x := r.e) (k := 1) _ (by rfl) (by rfl) De.out) (by rfl) ?_ | refine wpList_exe (exec_lti (x := r.r) (k := 0) _ (by rfl) (by rfl) Dr.out) (by rfl) ?_))
    (refine (HA.out _).mono ?_; rintro e w1 ⟨rfl, b1⟩; replace HK := Lib.hid (HK.out.call b1); clear b1; go_wp2_with fail; go_ret; exact ⟨rfl, HK.out.b⟩)
  cases br
  case true =>
    (go_wp2_with (first | refine wpList_exe (kexec_lc0 HK 0 _ (by rfl) (by rfl) (by rfl)) (by rfl) ?_ | refine wpList_exe (kexec_lc1 HK 0 _ (by rfl) (by rfl) (by rfl)) (by rfl) ?_ | refine wpList_exe (kexec_lc HK 3 _ (by rfl) 0 (by rfl) (by rfl) (v := .int .i64 r.r) (by rfl) Try.underlying3 rfl) (by rfl) ?_ | refine wpList_exe (exec_lti (x := r.c) (k := 0) _ (by rfl) (by rfl) D0.out) (by rfl) ?_ | refine wpList_exe (exec_gek (x := r.c) (k := 5) _ (by rfl) (by rfl) D5.out) (by rfl) ?_ | refine wpList_exe (exec_lti (x := r.e) (k := 1) _ (by rfl) (by rfl) De.out) (by rfl) ?_ | refine wpList_exe (exec_lti (x := r.r) (k := 0) _ (by rfl) (by rfl) Dr.out) (by rfl) ?_))
    (refine (HA.out _).mono ?_; rintro e w1 ⟨rfl, b1⟩; replace HK := Lib.hid (HK.out.call b1); clear b1; go_wp2_with fail; go_ret; exact ⟨rfl, HK.out.b⟩)
  have HRi : Hid (Sto.Right (vs l)) := Lib.hid (of_decide_eq_true hx)
  have HOk : Hid (Lck.ok r) := Lib.hid (by
    have h0 := of_decide_eq_false D0.out
    have h5 := of_decide_eq_false D5.out
    have he := of_decide_eq_false De.out
    have hr := of_decide_eq_false Dr.out
    exact ⟨by omega, by omega, by omega, by omega⟩)
  clear hx HRt
  go_wp2_with (first | refine wpList_exe (kexec_lc0 HK 0 _ (by rfl) (by rfl) (by rfl)) (by rfl) ?_ | refine wpList_exe (kexec_lc1 HK 0 _ (by rfl) (by rfl) (by rfl)) (by rfl) ?_ | refine wpList_exe (kexec_lc HK 3 _ (by rfl) 0 (by rfl) (by rfl) (v := .int .i64 r.r) (by rfl) Try.underlying3 rfl) (by rfl) ?_ | refine wpList_exe (exec_lti (x := r.c) (k := 0) _ (by rfl) (by rfl) D0.out) (by rfl) ?_ | refine wpList_exe (exec_gek (x := r.c) (k := 5) _ (by rfl) (by rfl) D5.out) (by rfl) ?_ | refine wpList_exe (exec_lti (x := r.e) (k := 1) _ (by rfl) (by rfl) De.out) (by rfl) ?_ | refine wpList_exe (exec_lti (x := r.r) (k := 0) _ (by rfl) (by rfl) Dr.out) (by rfl) ?_ | refine wpList_of_exec (by rfl) (kexec_lc HK 3 _ (by rfl) 1 (by rfl) (by rfl) (v := .int .i64 v.n) (by rfl) Try.underlying3 rfl) ?_ | (refine wpList_akv HK rfl rfl ?_; intro _ g2 HK'; simp only [List.cons_append, List.nil_append] at HK'; replace HK := HK'; clear HK') | (refine wpList_sv (f2 := 0) HK 2 rfl _ _ rfl rfl rfl rfl ?_; intro _ HK'; simp only [List.set] at HK'; replace HK := HK'; clear HK'))
  go_loopw [8] (fun vi wr => ∃ k : Nat, k ≤ n ∧ vi = .int .i64 k ∧ Hid (Kn w.heap.size w wr [(w.heap.size, 34, #[.int .i64 r.c, .int .i64 r.e, .int .i64 r.r]), (w.heap.size + 1, 26, vC v.k v.n v.f v.s), (g2, 26, vC 1 v.n 0 ⟨#[]⟩)] [])) (fun vi _ => n - (intOf vi).toNat)
  case atStart => exact ⟨0, Nat.zero_le _, rfl, HK⟩
  case round =>
    clear HK
    obtain ⟨k, hk, rfl, HK⟩ := hrel
    have hk1 : (0 : Int) ≤ (k : Int) := by omega
    by_cases hlt : k < n
    case pos =>
      have hk2 : (k : Int) < (n : Int) := by omega
      have hk3 : k < 9223372036854775807 := by omega
      have hob := HO.out _ HK.out.b
      obtain ⟨x, hx, _⟩ := hob.s.get hlt
      obtain ⟨b, o, rfl, _⟩ := hob.s.at (Nat.lt_of_le_of_lt (Nat.zero_le _) hlt)
      have HX : Hid (∀ W, Below w.heap.size w W → ∀ j v, (obL x)[j]? = some v → W.cell? ⟨b, o + k * 11 + j, none⟩ = some v) := Lib.hid fun W hW => (HO.out _ hW).s.cells hx
      have HIn : Hid (∀ W, Below w.heap.size w W → In W x) := Lib.hid fun W hW => (HO.out _ hW).i x (List.mem_of_getElem? hx)
      have HMm : Hid (x.v ∈ vs l) := Lib.hid (List.mem_map_of_mem (List.mem_of_getElem? hx))
      have HXx := Lib.hid hx
      clear hob hx
      obtain ⟨k1, K1⟩ : ∃ b, Hid (decide (x.v.kind = 1) = b) := ⟨_, Lib.hid rfl⟩
      obtain ⟨k2, K2⟩ : ∃ b, Hid (decide (x.v.kind = 2) = b) := ⟨_, Lib.hid rfl⟩
      cases k1
      case true =>
        have hkd : x.v.kind = 1 := of_decide_eq_true K1.out
        have K2 : Hid (decide (x.v.kind = 2) = false) := Lib.hid (decide_eq_false (by omega))
        obtain ⟨l8, L8⟩ : ∃ b, Hid (decide ((x.pn : Int) = 8) = b) := ⟨_, Lib.hid rfl⟩
        cases l8
        case false =>
          go_wp2_with (first | refine wpList_exe (exec_obk (off := o + k * 11) _ (by rfl) (by rfl) (HX.out _ HK.out.b)) (by rfl) ?_ | refine wpList_exe (exec_iek (x := x.v.kind) (k := 1) _ (by rfl) (by rfl) K1.out) (by rfl) ?_ | refine wpList_exe (exec_obp (off := o + k * 11) _ (by rfl) (by rfl) (HX.out _ HK.out.b) (A := x.pA) (m := x.pn) rfl rfl) (by rfl) ?_ | refine wpList_exe (exec_iek (x := (x.pn : Int)) (k := 8) _ (by rfl) (by rfl) L8.out) (by rfl) ?_)
          refine wp_region_held_drew (S := (fun W => Hid (Kn w.heap.size w W [(w.heap.size, 34, #[.int .i64 r.c, .int .i64 r.e, .int .i64 r.r]), (w.heap.size + 1, 26, vC v.k v.n v.f v.s), (g2, 26, vC 1 v.n 0 ⟨#[]⟩)] []))) (by kernel_rfl) ?_ (fun hHeld => ?_)
          · (try dsimp only); exact Lib.hid HK.out.drew
          refine wpAnyH_take (i := 0) (oi := ⟨some 105, _, _, _, _, _⟩) (v := ?_) rfl (by kernel_rfl) (by kernel_rfl) (by kernel_rfl) (fun _ _ _ h => h) (Or.inl ⟨by rfl, ?_⟩) (by assumption) ?_
          rotate_left
          · (intro w hSw; (try dsimp only at hSw); go_simp; try with_reducible rfl)
          try simp only [Act.put, List.setIfInBounds_toArray, List.set_cons_zero, List.set_cons_succ]
          refine wpAnyH_take (i := 1) (oi := ⟨some 106, _, _, _, _, _⟩) (v := ?_) rfl (by kernel_rfl) (by kernel_rfl) (by kernel_rfl) (fun _ _ _ h => h) (Or.inl ⟨by rfl, ?_⟩) (by assumption) ?_
          rotate_left
          · (intro w hSw; (try dsimp only at hSw); go_simp; try with_reducible rfl)
          try simp only [Act.put, List.setIfInBounds_toArray, List.set_cons_zero, List.set_cons_succ]
          refine wpAnyH_take (i := 2) (oi := ⟨some 107, _, _, _, _, _⟩) (v := ?_) rfl (by kernel_rfl) (by kernel_rfl) (by kernel_rfl) (fun _ _ _ h => h) (Or.inl ⟨by rfl, ?_⟩) (by assumption) ?_
          rotate_left
          · (intro w hSw; refine Eq.trans (exec_ixo (i := k) _ _ (by rfl) (by rfl) (by rfl) hlt) ?_; with_reducible rfl)
          try simp only [Act.put, List.setIfInBounds_toArray, List.set_cons_zero, List.set_cons_succ]
          refine wpAnyH_take (i := 3) (oi := ⟨some 108, _, _, _, _, _⟩) (v := ?_) rfl (by kernel_rfl) (by kernel_rfl) (by kernel_rfl) (fun _ _ _ h => h) (Or.inl ⟨by rfl, ?_⟩) (by assumption) ?_
          rotate_left
          · (intro w hSw; (try dsimp only at hSw); go_simp; try with_reducible rfl)
          try simp only [Act.put, List.setIfInBounds_toArray, List.set_cons_zero, List.set_cons_succ]
          refine wpAnyH_take (i := 4) (oi := ⟨some 109, _, _, _, _, _⟩) (v := ?_) rfl (by kernel_rfl) (by kernel_rfl) (by kernel_rfl) (fun _ _ _ h => h) (Or.inl ⟨by rfl, ?_⟩) (by assumption) ?_
          rotate_left
          · (intro w hSw; refine Eq.trans (exec_obk (off := o + k * 11) _ (by rfl) (by rfl) (HX.out _ hSw.out.b)) ?_; with_reducible rfl)
          try simp only [Act.put, List.setIfInBounds_toArray, List.set_cons_zero, List.set_cons_succ]
          refine wpAnyH_take (i := 5) (oi := ⟨some 110, _, _, _, _, _⟩) (v := ?_) rfl (by kernel_rfl) (by kernel_rfl) (by kernel_rfl) (fun _ _ _ h => h) (Or.inl ⟨by rfl, ?_⟩) (by assumption) ?_
          rotate_left
          · (intro w hSw; refine Eq.trans (exec_iek (x := x.v.kind) (k := 2) _ (by rfl) (by rfl) K2.out) ?_; with_reducible rfl)
          try simp only [Act.put, List.setIfInBounds_toArray, List.set_cons_zero, List.set_cons_succ]
          refine wpAnyH_take (i := 6) (oi := ⟨some 111, _, _, _, _, _⟩) (v := ?_) rfl (by kernel_rfl) (by kernel_rfl) (by kernel_rfl) (fun _ _ _ h => h) (Or.inl ⟨by rfl, ?_⟩) (by assumption) ?_
          rotate_left
          · (intro w hSw; (try dsimp only at hSw); go_simp; try with_reducible rfl)
          try simp only [Act.put, List.setIfInBounds_toArray, List.set_cons_zero, List.set_cons_succ]
          refine wpAnyH_take (i := 7) (oi := ⟨some 112, _, _, _, _, _⟩) (v := undef) rfl (by kernel_rfl) (by kernel_rfl) (by kernel_rfl) (fun _ _ _ h => h) (Or.inr ⟨by rfl, rfl⟩) (by assumption) ?_
          try simp only [Act.put, List.setIfInBounds_toArray, List.set_cons_zero, List.set_cons_succ]
          refine wpAnyH_take (i := 8) (oi := ⟨some 113, _, _, _, _, _⟩) (v := undef) rfl (by kernel_rfl) (by kernel_rfl) (by kernel_rfl) (fun _ _ _ h => h) (Or.inr ⟨by rfl, rfl⟩) (by assumption) ?_
          try simp only [Act.put, List.setIfInBounds_toArray, List.set_cons_zero, List.set_cons_succ]
          refine wpAnyH_take (i := 9) (oi := ⟨some 114, _, _, _, _, _⟩) (v := undef) rfl (by kernel_rfl) (by kernel_rfl) (by kernel_rfl) (fun _ _ _ h => h) (Or.inr ⟨by rfl, rfl⟩) (by assumption) ?_
          try simp only [Act.put, List.setIfInBounds_toArray, List.set_cons_zero, List.set_cons_succ]
          refine wpAnyH_take (i := 10) (oi := ⟨some 115, _, _, _, _, _⟩) (v := undef) rfl (by kernel_rfl) (by kernel_rfl) (by kernel_rfl) (fun _ _ _ h => h) (Or.inr ⟨by rfl, rfl⟩) (by assumption) ?_
          try simp only [Act.put, List.setIfInBounds_toArray, List.set_cons_zero, List.set_cons_succ]
          refine wpAnyH_take (i := 11) (oi := ⟨some 116, _, _, _, _, _⟩) (v := undef) rfl (by kernel_rfl) (by kernel_rfl) (by kernel_rfl) (fun _ _ _ h => h) (Or.inr ⟨by rfl, rfl⟩) (by assumption) ?_
          try simp only [Act.put, List.setIfInBounds_toArray, List.set_cons_zero, List.set_cons_succ]
          refine wpAnyH_take (i := 12) (oi := ⟨some 117, _, _, _, _, _⟩) (v := undef) rfl (by kernel_rfl) (by kernel_rfl) (by kernel_rfl) (fun _ _ _ h => h) (Or.inr ⟨by rfl, rfl⟩) (by assumption) ?_
          try simp only [Act.put, List.setIfInBounds_toArray, List.set_cons_zero, List.set_cons_succ]
          refine wpAnyH_take (i := 13) (oi := ⟨some 118, _, _, _, _, _⟩) (v := undef) rfl (by kernel_rfl) (by kernel_rfl) (by kernel_rfl) (fun _ _ _ h => h) (Or.inr ⟨by rfl, rfl⟩) (by assumption) ?_
          try simp only [Act.put, List.setIfInBounds_toArray, List.set_cons_zero, List.set_cons_succ]
          refine wpAnyH_take (i := 14) (oi := ⟨some 119, _, _, _, _, _⟩) (v := undef) rfl (by kernel_rfl) (by kernel_rfl) (by kernel_rfl) (fun _ _ _ h => h) (Or.inr ⟨by rfl, rfl⟩) (by assumption) ?_
          try simp only [Act.put, List.setIfInBounds_toArray, List.set_cons_zero, List.set_cons_succ]
          refine wpAnyH_take (i := 15) (oi := ⟨some 120, _, _, _, _, _⟩) (v := undef) rfl (by kernel_rfl) (by kernel_rfl) (by kernel_rfl) (fun _ _ _ h => h) (Or.inr ⟨by rfl, rfl⟩) (by assumption) ?_
          try simp only [Act.put, List.setIfInBounds_toArray, List.set_cons_zero, List.set_cons_succ]
          refine wpAnyH_take (i := 16) (oi := ⟨some 121, _, _, _, _, _⟩) (v := undef) rfl (by kernel_rfl) (by kernel_rfl) (by kernel_rfl) (fun _ _ _ h => h) (Or.inr ⟨by rfl, rfl⟩) (by assumption) ?_
          try simp only [Act.put, List.setIfInBounds_toArray, List.set_cons_zero, List.set_cons_succ]
          refine wpAnyH_take (i := 17) (oi := ⟨some 122, _, _, _, _, _⟩) (v := undef) rfl (by kernel_rfl) (by kernel_rfl) (by kernel_rfl) (fun _ _ _ h => h) (Or.inr ⟨by rfl, rfl⟩) (by assumption) ?_
          try simp only [Act.put, List.setIfInBounds_toArray, List.set_cons_zero, List.set_cons_succ]
          refine wpAnyH_take (i := 18) (oi := ⟨some 123, _, _, _, _, _⟩) (v := undef) rfl (by kernel_rfl) (by kernel_rfl) (by kernel_rfl) (fun _ _ _ h => h) (Or.inr ⟨by rfl, rfl⟩) (by assumption) ?_
          try simp only [Act.put, List.setIfInBounds_toArray, List.set_cons_zero, List.set_cons_succ]
          refine wpAnyH_take (i := 19) (oi := ⟨some 124, _, _, _, _, _⟩) (v := ?_) rfl (by kernel_rfl) (by kernel_rfl) (by kernel_rfl) (fun _ _ _ h => h) (Or.inl ⟨by rfl, ?_⟩) (by assumption) ?_
          rotate_left
          · (intro w hSw; (try dsimp only at hSw); go_simp; try with_reducible rfl)
          try simp only [Act.put, List.setIfInBounds_toArray, List.set_cons_zero, List.set_cons_succ]
          refine wpAnyH_done (by kernel_rfl) ?_ _
          replace HK := hHeld
          go_wp2_with (first | refine wpList_exe (exec_add1 (j := k) _ (by rfl) (by rfl) hk3) (by rfl) ?_)
          exact ⟨⟨k + 1, by omega, by go_num, HK⟩, by simp [intOf]; omega⟩
        case true =>
          have h8 : x.pn = 8 := by have := of_decide_eq_true L8.out; omega
          have hIn := HIn.out _ HK.out.b
          have hlen : x.v.prs.length = 8 := by rw [hIn.p.len, h8]
          obtain ⟨pb, po, hA, _⟩ := hIn.p.at (by rw [h8]; decide)
          obtain ⟨p, hp⟩ : ∃ p, x.v.prs[7]? = some p := Lay.get_of (by rw [hlen]; decide)
          have HA8 := Lib.hid hA
          have HP : Hid (∀ W, Below w.heap.size w W → ∀ j v, (prL p)[j]? = some v → W.cell? ⟨pb, po + 7 * 5 + j, none⟩ = some v) := Lib.hid fun W hW => by
            obtain ⟨pb', po', hA', hc⟩ := (HIn.out W hW).p.at (by rw [h8]; decide)
            rw [hA] at hA'
            injection hA' with hA'
            injection hA' with e1 e2
            subst e1 e2
            exact hc W (Below.refl _ W) 7 p hp
          clear hIn hA
          obtain ⟨s64, S64⟩ : ∃ b, Hid (decide ((p.key.size : Int) < 64) = b) := ⟨_, Lib.hid rfl⟩
          cases s64
          case false =>
            go_wp2_with (first | refine wpList_exe (exec_obk (off := o + k * 11) _ (by rfl) (by rfl) (HX.out _ HK.out.b)) (by rfl) ?_ | refine wpList_exe (exec_iek (x := x.v.kind) (k := 1) _ (by rfl) (by rfl) K1.out) (by rfl) ?_ | refine wpList_exe (exec_obp (off := o + k * 11) _ (by rfl) (by rfl) (HX.out _ HK.out.b) (A := some ⟨pb, po, none⟩) (m := 8) HA8.out h8) (by rfl) ?_ | refine wpList_exe (exec_slx prLay (b := pb) (off := po) (n := 8) (i := 7) _ _ (by rfl) (by rfl) (by rfl) (by decide)) (by rfl) ?_ | refine wpList_exe (exec_lpk (off := po + 7 * 5) _ (by rfl) (by rfl) (HP.out _ HK.out.b)) (by rfl) ?_ | refine wpList_exe (exec_lti (x := (p.key.size : Int)) (k := 64) _ (by rfl) (by rfl) S64.out) (by rfl) ?_)
            refine wp_region_held_drew (S := (fun W => Hid (Kn w.heap.size w W [(w.heap.size, 34, #[.int .i64 r.c, .int .i64 r.e, .int .i64 r.r]), (w.heap.size + 1, 26, vC v.k v.n v.f v.s), (g2, 26, vC 1 v.n 0 ⟨#[]⟩)] []))) (by kernel_rfl) ?_ (fun hHeld => ?_)
            · (try dsimp only); exact Lib.hid HK.out.drew
            refine wpAnyH_take (i := 0) (oi := ⟨some 105, _, _, _, _, _⟩) (v := ?_) rfl (by kernel_rfl) (by kernel_rfl) (by kernel_rfl) (fun _ _ _ h => h) (Or.inl ⟨by rfl, ?_⟩) (by assumption) ?_
            rotate_left
            · (intro w hSw; (try dsimp only at hSw); go_simp; try with_reducible rfl)
            try simp only [Act.put, List.setIfInBounds_toArray, List.set_cons_zero, List.set_cons_succ]
            refine wpAnyH_take (i := 1) (oi := ⟨some 106, _, _, _, _, _⟩) (v := ?_) rfl (by kernel_rfl) (by kernel_rfl) (by kernel_rfl) (fun _ _ _ h => h) (Or.inl ⟨by rfl, ?_⟩) (by assumption) ?_
            rotate_left
            · (intro w hSw; (try dsimp only at hSw); go_simp; try with_reducible rfl)
            try simp only [Act.put, List.setIfInBounds_toArray, List.set_cons_zero, List.set_cons_succ]
            refine wpAnyH_take (i := 2) (oi := ⟨some 107, _, _, _, _, _⟩) (v := ?_) rfl (by kernel_rfl) (by kernel_rfl) (by kernel_rfl) (fun _ _ _ h => h) (Or.inl ⟨by rfl, ?_⟩) (by assumption) ?_
            rotate_left
            · (intro w hSw; refine Eq.trans (exec_ixo (i := k) _ _ (by rfl) (by rfl) (by rfl) hlt) ?_; with_reducible rfl)
            try simp only [Act.put, List.setIfInBounds_toArray, List.set_cons_zero, List.set_cons_succ]
            refine wpAnyH_take (i := 3) (oi := ⟨some 108, _, _, _, _, _⟩) (v := ?_) rfl (by kernel_rfl) (by kernel_rfl) (by kernel_rfl) (fun _ _ _ h => h) (Or.inl ⟨by rfl, ?_⟩) (by assumption) ?_
            rotate_left
            · (intro w hSw; (try dsimp only at hSw); go_simp; try with_reducible rfl)
            try simp only [Act.put, List.setIfInBounds_toArray, List.set_cons_zero, List.set_cons_succ]
            refine wpAnyH_take (i := 4) (oi := ⟨some 109, _, _, _, _, _⟩) (v := ?_) rfl (by kernel_rfl) (by kernel_rfl) (by kernel_rfl) (fun _ _ _ h => h) (Or.inl ⟨by rfl, ?_⟩) (by assumption) ?_
            rotate_left
            · (intro w hSw; refine Eq.trans (exec_obk (off := o + k * 11) _ (by rfl) (by rfl) (HX.out _ hSw.out.b)) ?_; with_reducible rfl)
            try simp only [Act.put, List.setIfInBounds_toArray, List.set_cons_zero, List.set_cons_succ]
            refine wpAnyH_take (i := 5) (oi := ⟨some 110, _, _, _, _, _⟩) (v := ?_) rfl (by kernel_rfl) (by kernel_rfl) (by kernel_rfl) (fun _ _ _ h => h) (Or.inl ⟨by rfl, ?_⟩) (by assumption) ?_
            rotate_left
            · (intro w hSw; refine Eq.trans (exec_iek (x := x.v.kind) (k := 2) _ (by rfl) (by rfl) K2.out) ?_; with_reducible rfl)
            try simp only [Act.put, List.setIfInBounds_toArray, List.set_cons_zero, List.set_cons_succ]
            refine wpAnyH_take (i := 6) (oi := ⟨some 111, _, _, _, _, _⟩) (v := ?_) rfl (by kernel_rfl) (by kernel_rfl) (by kernel_rfl) (fun _ _ _ h => h) (Or.inl ⟨by rfl, ?_⟩) (by assumption) ?_
            rotate_left
            · (intro w hSw; (try dsimp only at hSw); go_simp; try with_reducible rfl)
            try simp only [Act.put, List.setIfInBounds_toArray, List.set_cons_zero, List.set_cons_succ]
            refine wpAnyH_take (i := 7) (oi := ⟨some 112, _, _, _, _, _⟩) (v := undef) rfl (by kernel_rfl) (by kernel_rfl) (by kernel_rfl) (fun _ _ _ h => h) (Or.inr ⟨by rfl, rfl⟩) (by assumption) ?_
            try simp only [Act.put, List.setIfInBounds_toArray, List.set_cons_zero, List.set_cons_succ]
            refine wpAnyH_take (i := 8) (oi := ⟨some 113, _, _, _, _, _⟩) (v := undef) rfl (by kernel_rfl) (by kernel_rfl) (by kernel_rfl) (fun _ _ _ h => h) (Or.inr ⟨by rfl, rfl⟩) (by assumption) ?_
            try simp only [Act.put, List.setIfInBounds_toArray, List.set_cons_zero, List.set_cons_succ]
            refine wpAnyH_take (i := 9) (oi := ⟨some 114, _, _, _, _, _⟩) (v := undef) rfl (by kernel_rfl) (by kernel_rfl) (by kernel_rfl) (fun _ _ _ h => h) (Or.inr ⟨by rfl, rfl⟩) (by assumption) ?_
            try simp only [Act.put, List.setIfInBounds_toArray, List.set_cons_zero, List.set_cons_succ]
            refine wpAnyH_take (i := 10) (oi := ⟨some 115, _, _, _, _, _⟩) (v := undef) rfl (by kernel_rfl) (by kernel_rfl) (by kernel_rfl) (fun _ _ _ h => h) (Or.inr ⟨by rfl, rfl⟩) (by assumption) ?_
            try simp only [Act.put, List.setIfInBounds_toArray, List.set_cons_zero, List.set_cons_succ]
            refine wpAnyH_take (i := 11) (oi := ⟨some 116, _, _, _, _, _⟩) (v := undef) rfl (by kernel_rfl) (by kernel_rfl) (by kernel_rfl) (fun _ _ _ h => h) (Or.inr ⟨by rfl, rfl⟩) (by assumption) ?_
            try simp only [Act.put, List.setIfInBounds_toArray, List.set_cons_zero, List.set_cons_succ]
            refine wpAnyH_take (i := 12) (oi := ⟨some 117, _, _, _, _, _⟩) (v := undef) rfl (by kernel_rfl) (by kernel_rfl) (by kernel_rfl) (fun _ _ _ h => h) (Or.inr ⟨by rfl, rfl⟩) (by assumption) ?_
            try simp only [Act.put, List.setIfInBounds_toArray, List.set_cons_zero, List.set_cons_succ]
            refine wpAnyH_take (i := 13) (oi := ⟨some 118, _, _, _, _, _⟩) (v := undef) rfl (by kernel_rfl) (by kernel_rfl) (by kernel_rfl) (fun _ _ _ h => h) (Or.inr ⟨by rfl, rfl⟩) (by assumption) ?_
            try simp only [Act.put, List.setIfInBounds_toArray, List.set_cons_zero, List.set_cons_succ]
            refine wpAnyH_take (i := 14) (oi := ⟨some 119, _, _, _, _, _⟩) (v := undef) rfl (by kernel_rfl) (by kernel_rfl) (by kernel_rfl) (fun _ _ _ h => h) (Or.inr ⟨by rfl, rfl⟩) (by assumption) ?_
            try simp only [Act.put, List.setIfInBounds_toArray, List.set_cons_zero, List.set_cons_succ]
            refine wpAnyH_take (i := 15) (oi := ⟨some 120, _, _, _, _, _⟩) (v := undef) rfl (by kernel_rfl) (by kernel_rfl) (by kernel_rfl) (fun _ _ _ h => h) (Or.inr ⟨by rfl, rfl⟩) (by assumption) ?_
            try simp only [Act.put, List.setIfInBounds_toArray, List.set_cons_zero, List.set_cons_succ]
            refine wpAnyH_take (i := 16) (oi := ⟨some 121, _, _, _, _, _⟩) (v := undef) rfl (by kernel_rfl) (by kernel_rfl) (by kernel_rfl) (fun _ _ _ h => h) (Or.inr ⟨by rfl, rfl⟩) (by assumption) ?_
            try simp only [Act.put, List.setIfInBounds_toArray, List.set_cons_zero, List.set_cons_succ]
            refine wpAnyH_take (i := 17) (oi := ⟨some 122, _, _, _, _, _⟩) (v := undef) rfl (by kernel_rfl) (by kernel_rfl) (by kernel_rfl) (fun _ _ _ h => h) (Or.inr ⟨by rfl, rfl⟩) (by assumption) ?_
            try simp only [Act.put, List.setIfInBounds_toArray, List.set_cons_zero, List.set_cons_succ]
            refine wpAnyH_take (i := 18) (oi := ⟨some 123, _, _, _, _, _⟩) (v := undef) rfl (by kernel_rfl) (by kernel_rfl) (by kernel_rfl) (fun _ _ _ h => h) (Or.inr ⟨by rfl, rfl⟩) (by assumption) ?_
            try simp only [Act.put, List.setIfInBounds_toArray, List.set_cons_zero, List.set_cons_succ]
            refine wpAnyH_take (i := 19) (oi := ⟨some 124, _, _, _, _, _⟩) (v := ?_) rfl (by kernel_rfl) (by kernel_rfl) (by kernel_rfl) (fun _ _ _ h => h) (Or.inl ⟨by rfl, ?_⟩) (by assumption) ?_
            rotate_left
            · (intro w hSw; (try dsimp only at hSw); go_simp; try with_reducible rfl)
            try simp only [Act.put, List.setIfInBounds_toArray, List.set_cons_zero, List.set_cons_succ]
            refine wpAnyH_done (by kernel_rfl) ?_ _
            replace HK := hHeld
            go_wp2_with (first | refine wpList_exe (exec_add1 (j := k) _ (by rfl) (by rfl) hk3) (by rfl) ?_)
            exact ⟨⟨k + 1, by omega, by go_num, HK⟩, by simp [intOf]; omega⟩
          case true =>
            have hsz : p.key.size < 64 := by have := of_decide_eq_true S64.out; omega
            have hz1 : p.key.size + (⟨#[122]⟩ : ByteArray).size ≤ 9223372036854775807 := by show p.key.size + 1 ≤ _; omega
            obtain ⟨ky, hky, HE⟩ : ∃ ky, p.key ++ ⟨#[122]⟩ = ky ∧ Hid ((Sto.doo (vs l) r (Sto.cPut x.v.name ky v.n)).p.e = 6) := ⟨_, rfl, Lib.hid (Sto.put_full HRi.out HOk.out HMm.out hkd hlen hp (Sto.lt_more (more_list _ _)) (by rw [ByteArray.size_append]; show p.key.size + 1 ≤ 64; omega) v.n)⟩
            clear hp
            go_wp2_with (first | refine wpList_exe (exec_obk (off := o + k * 11) _ (by rfl) (by rfl) (HX.out _ HK.out.b)) (by rfl) ?_ | refine wpList_exe (exec_iek (x := x.v.kind) (k := 1) _ (by rfl) (by rfl) K1.out) (by rfl) ?_ | refine wpList_exe (exec_obp (off := o + k * 11) _ (by rfl) (by rfl) (HX.out _ HK.out.b) (A := some ⟨pb, po, none⟩) (m := 8) HA8.out h8) (by rfl) ?_ | refine wpList_exe (exec_slx prLay (b := pb) (off := po) (n := 8) (i := 7) _ _ (by rfl) (by rfl) (by rfl) (by decide)) (by rfl) ?_ | refine wpList_exe (exec_lpk (off := po + 7 * 5) _ (by rfl) (by rfl) (HP.out _ HK.out.b)) (by rfl) ?_ | refine wpList_exe (exec_lti (x := (p.key.size : Int)) (k := 64) _ (by rfl) (by rfl) S64.out) (by rfl) ?_)
            have HK0 := Lib.hid HK.out.drew
            refine wp_region_held_drew (S := (fun W => Hid (Kn w.heap.size w W [(w.heap.size, 34, #[.int .i64 r.c, .int .i64 r.e, .int .i64 r.r]), (w.heap.size + 1, 26, vC v.k v.n v.f v.s), (g2, 26, vC 1 v.n 0 ⟨#[]⟩)] []))) (by kernel_rfl) ?_ (fun hHeld => ?_)
            · (try dsimp only); exact Lib.hid HK.out.drew
            refine wpAnyH_take (i := 0) (oi := ⟨some 86, _, _, _, _, _⟩) (v := ?_) rfl (by kernel_rfl) (by kernel_rfl) (by kernel_rfl) (fun _ _ _ h => h) (Or.inl ⟨by rfl, ?_⟩) (by assumption) ?_
            rotate_left
            · (intro w hSw; (try dsimp only at hSw); go_simp; try with_reducible rfl)
            try simp only [Act.put, List.setIfInBounds_toArray, List.set_cons_zero, List.set_cons_succ]
            refine wpAnyH_take (i := 1) (oi := ⟨some 87, _, _, _, _, _⟩) (v := ?_) rfl (by kernel_rfl) (by kernel_rfl) (by kernel_rfl) (fun _ _ _ h => h) (Or.inl ⟨by rfl, ?_⟩) (by assumption) ?_
            rotate_left
            · (intro w hSw; refine Eq.trans (kexec_lr hSw 0 _ (by rfl) (by rfl) (by rfl)) ?_; with_reducible rfl)
            try simp only [Act.put, List.setIfInBounds_toArray, List.set_cons_zero, List.set_cons_succ]
            refine wpAnyH_take (i := 2) (oi := ⟨some 88, _, _, _, _, _⟩) (v := ?_) rfl (by kernel_rfl) (by kernel_rfl) (by kernel_rfl) (fun _ _ _ h => h) (Or.inl ⟨by rfl, ?_⟩) (by assumption) ?_
            rotate_left
            · (intro w hSw; (try dsimp only at hSw); go_simp; try with_reducible rfl)
            try simp only [Act.put, List.setIfInBounds_toArray, List.set_cons_zero, List.set_cons_succ]
            refine wpAnyH_take (i := 3) (oi := ⟨some 89, _, _, _, _, _⟩) (v := ?_) rfl (by kernel_rfl) (by kernel_rfl) (by kernel_rfl) (fun _ _ _ h => h) (Or.inl ⟨by rfl, ?_⟩) (by assumption) ?_
            rotate_left
            · (intro w hSw; (try dsimp only at hSw); go_simp; try with_reducible rfl)
            try simp only [Act.put, List.setIfInBounds_toArray, List.set_cons_zero, List.set_cons_succ]
            refine wpAnyH_take (i := 4) (oi := ⟨some 90, _, _, _, _, _⟩) (v := ?_) rfl (by kernel_rfl) (by kernel_rfl) (by kernel_rfl) (fun _ _ _ h => h) (Or.inl ⟨by rfl, ?_⟩) (by assumption) ?_
            rotate_left
            · (intro w hSw; refine Eq.trans (exec_ixo (i := k) _ _ (by rfl) (by rfl) (by rfl) hlt) ?_; with_reducible rfl)
            try simp only [Act.put, List.setIfInBounds_toArray, List.set_cons_zero, List.set_cons_succ]
            refine wpAnyH_take (i := 5) (oi := ⟨some 91, _, _, _, _, _⟩) (v := ?_) rfl (by kernel_rfl) (by kernel_rfl) (by kernel_rfl) (fun _ _ _ h => h) (Or.inl ⟨by rfl, ?_⟩) (by assumption) ?_
            rotate_left
            · (intro w hSw; (try dsimp only at hSw); go_simp; try with_reducible rfl)
            try simp only [Act.put, List.setIfInBounds_toArray, List.set_cons_zero, List.set_cons_succ]
            refine wpAnyH_take (i := 6) (oi := ⟨some 92, _, _, _, _, _⟩) (v := ?_) rfl (by kernel_rfl) (by kernel_rfl) (by kernel_rfl) (fun _ _ _ h => h) (Or.inl ⟨by rfl, ?_⟩) (by assumption) ?_
            rotate_left
            · (intro w hSw; refine Eq.trans (exec_obn (off := o + k * 11) _ (by rfl) (by rfl) (HX.out _ hSw.out.b)) ?_; with_reducible rfl)
            try simp only [Act.put, List.setIfInBounds_toArray, List.set_cons_zero, List.set_cons_succ]
            refine wpAnyH_take (i := 7) (oi := ⟨some 93, _, _, _, _, _⟩) (v := ?_) rfl (by kernel_rfl) (by kernel_rfl) (by kernel_rfl) (fun _ _ _ h => h) (Or.inl ⟨by rfl, ?_⟩) (by assumption) ?_
            rotate_left
            · (intro w hSw; (try dsimp only at hSw); go_simp; try with_reducible rfl)
            try simp only [Act.put, List.setIfInBounds_toArray, List.set_cons_zero, List.set_cons_succ]
            refine wpAnyH_take (i := 8) (oi := ⟨some 94, _, _, _, _, _⟩) (v := ?_) rfl (by kernel_rfl) (by kernel_rfl) (by kernel_rfl) (fun _ _ _ h => h) (Or.inl ⟨by rfl, ?_⟩) (by assumption) ?_
            rotate_left
            · (intro w hSw; refine Eq.trans (exec_cat (x := p.key) (y := ⟨#[122]⟩) _ (by rfl) (by rfl) hz1 hky) ?_; with_reducible rfl)
            try simp only [Act.put, List.setIfInBounds_toArray, List.set_cons_zero, List.set_cons_succ]
            refine wpAnyH_take (i := 9) (oi := ⟨some 95, _, _, _, _, _⟩) (v := ?_) rfl (by kernel_rfl) (by kernel_rfl) (by kernel_rfl) (fun _ _ _ h => h) (Or.inl ⟨by rfl, ?_⟩) (by assumption) ?_
            rotate_left
            · (intro w hSw; refine Eq.trans (kexec_vv hSw 2 _ (by rfl) (by rfl) (by rfl)) ?_; with_reducible rfl)
            try simp only [Act.put, List.setIfInBounds_toArray, List.set_cons_zero, List.set_cons_succ]
            refine wpAnyH_take (i := 10) (oi := ⟨some 96, _, _, _, _, _⟩) (v := ?_) rfl (by kernel_rfl) (by kernel_rfl) (by kernel_rfl) (fun _ _ _ h => h) (Or.inl ⟨by rfl, ?_⟩) (by assumption) ?_
            rotate_left
            · (intro w hSw; refine Eq.trans (exec_bput (nm := x.v.name) (key := ky) (n := v.n) _ _ _ (by rfl) (by rfl) (by rfl) (by rfl)) ?_; with_reducible rfl)
            try simp only [Act.put, List.setIfInBounds_toArray, List.set_cons_zero, List.set_cons_succ]
            refine wpAnyH_ready (rs := [11, 17]) (by kernel_rfl) (by simp) ?_
            refine AllReadyH.cons (o := ⟨some 97, _, _, _, _, _⟩) rfl (fun K hK => ?_) (AllReadyH.cons (o := ⟨some 11, _, _, _, _, _⟩) rfl (fun K hK => ?_) AllReadyH.nil)
            go_simp
            go_at_call 13
            refine (HD.out _ hHeld.out.b (Sto.cPut x.v.name ky v.n) 6 (by show 0 < 18446744073709551616; decide) (by show 0 < 18446744073709551616; decide) HE.out).mono ?_; rintro e w5 ⟨A4, n4, c4, pv, tt, O4, k4, d4, rfl, b5⟩; have hs := Lib.hid (hHeld.out.call b5); replace HK0 := Lib.hid (HK0.out.call b5); clear b5
            refine hK.out _ _ hs (fun hHeld => ?_)
            clear hK K
            try simp only [Act.put, List.setIfInBounds_toArray, List.set_cons_zero, List.set_cons_succ]
            refine wpAnyH_take (i := 12) (oi := ⟨some 85, _, _, _, _, _⟩) (v := ?_) rfl (by kernel_rfl) (by kernel_rfl) (by kernel_rfl) (fun _ _ _ h => h) (Or.inl ⟨by rfl, ?_⟩) (by assumption) ?_
            rotate_left
            · (intro w hSw; (try dsimp only at hSw); go_simp; try with_reducible rfl)
            try simp only [Act.put, List.setIfInBounds_toArray, List.set_cons_zero, List.set_cons_succ]
            refine wpAnyH_take (i := 13) (oi := ⟨some 98, _, _, _, _, _⟩) (v := ?_) rfl (by kernel_rfl) (by kernel_rfl) (by kernel_rfl) (fun _ _ _ h => h) (Or.inl ⟨by rfl, ?_⟩) (by assumption) ?_
            rotate_left
            · (intro w hSw; (try dsimp only at hSw); go_simp; try with_reducible rfl)
            try simp only [Act.put, List.setIfInBounds_toArray, List.set_cons_zero, List.set_cons_succ]
            refine wpAnyH_take (i := 14) (oi := ⟨some 99, _, _, _, _, _⟩) (v := ?_) rfl (by kernel_rfl) (by kernel_rfl) (by kernel_rfl) (fun _ _ _ h => h) (Or.inl ⟨by rfl, ?_⟩) (by assumption) ?_
            rotate_left
            · (intro w hSw; (try dsimp only at hSw); go_simp; try with_reducible rfl)
            try simp only [Act.put, List.setIfInBounds_toArray, List.set_cons_zero, List.set_cons_succ]
            refine wpAnyH_take (i := 15) (oi := ⟨some 100, _, _, _, _, _⟩) (v := ?_) rfl (by kernel_rfl) (by kernel_rfl) (by kernel_rfl) (fun _ _ _ h => h) (Or.inl ⟨by rfl, ?_⟩) (by assumption) ?_
            rotate_left
            · (intro w hSw; (try dsimp only at hSw); go_simp; try with_reducible rfl)
            try simp only [Act.put, List.setIfInBounds_toArray, List.set_cons_zero, List.set_cons_succ]
            refine wpAnyH_take (i := 16) (oi := ⟨some 101, _, _, _, _, _⟩) (v := ?_) rfl (by kernel_rfl) (by kernel_rfl) (by kernel_rfl) (fun _ _ _ h => h) (Or.inl ⟨by rfl, ?_⟩) (by assumption) ?_
            rotate_left
            · (intro w hSw; (try dsimp only at hSw); go_simp; try with_reducible rfl)
            try simp only [Act.put, List.setIfInBounds_toArray, List.set_cons_zero, List.set_cons_succ]
            refine wpAnyH_ready (rs := [17]) (by kernel_rfl) (by simp) ?_
            refine AllReadyH.cons (o := ⟨some 11, _, _, _, _, _⟩) rfl (fun K hK => ?_) AllReadyH.nil
            refine step_arp HK0 (by rfl) (by rfl) ?_; intro w7 g7 HK'; simp only [List.cons_append, List.nil_append] at HK'; replace HK0 := HK'; clear HK'; have hs := Lib.hid (HK0.out.takeL 3)
            refine hK.out _ _ hs (fun hHeld => ?_)
            clear hK K
            try simp only [Act.put, List.setIfInBounds_toArray, List.set_cons_zero, List.set_cons_succ]
            refine wpAnyH_take (i := 18) (oi := ⟨some 10, _, _, _, _, _⟩) (v := ?_) rfl (by kernel_rfl) (by kernel_rfl) (by kernel_rfl) (fun _ _ _ h => h) (Or.inl ⟨by rfl, ?_⟩) (by assumption) ?_
            rotate_left
            · (intro w hSw; (try dsimp only at hSw); go_simp; try with_reducible rfl)
            try simp only [Act.put, List.setIfInBounds_toArray, List.set_cons_zero, List.set_cons_succ]
            refine wpAnyH_ready (rs := [19]) (by kernel_rfl) (by simp) ?_
            refine AllReadyH.cons (o := ⟨none, _, _, _, _, _⟩) rfl (fun K hK => ?_) AllReadyH.nil
            refine step_srp (q := ⟨6, pv⟩) HK0 3 (by rfl) _ _ (by rfl) (by rfl) (by rfl) (by rfl) ?_; intro wq HK'; simp only [List.set] at HK'; replace HK0 := HK'; clear HK'; have hs := Lib.hid (HK0.out.takeL 3)
            refine hK.out _ _ hs (fun hHeld => ?_)
            clear hK K
            try simp only [Act.put, List.setIfInBounds_toArray, List.set_cons_zero, List.set_cons_succ]
            refine wpAnyH_take (i := 20) (oi := ⟨some 12, _, _, _, _, _⟩) (v := ?_) rfl (by kernel_rfl) (by kernel_rfl) (by kernel_rfl) (fun _ _ _ h => h) (Or.inl ⟨by rfl, ?_⟩) (by assumption) ?_
            rotate_left
            · (intro w hSw; (try dsimp only at hSw); go_simp; try with_reducible rfl)
            try simp only [Act.put, List.setIfInBounds_toArray, List.set_cons_zero, List.set_cons_succ]
            refine wpAnyH_take (i := 21) (oi := ⟨some 13, _, _, _, _, _⟩) (v := ?_) rfl (by kernel_rfl) (by kernel_rfl) (by kernel_rfl) (fun _ _ _ h => h) (Or.inl ⟨by rfl, ?_⟩) (by assumption) ?_
            rotate_left
            · (intro w hSw; (try dsimp only at hSw); go_simp; try with_reducible rfl)
            try simp only [Act.put, List.setIfInBounds_toArray, List.set_cons_zero, List.set_cons_succ]
            refine wpAnyH_done (by kernel_rfl) ?_ _
            rotate_left
            refine step_arp HK0 (by rfl) (by rfl) ?_; intro w7 g7 HK'; simp only [List.cons_append, List.nil_append] at HK'; replace HK0 := HK'; clear HK'; have hs := Lib.hid (HK0.out.takeL 3)
            refine hK.out _ _ hs (fun hHeld => ?_)
            clear hK K
            try simp only [Act.put, List.setIfInBounds_toArray, List.set_cons_zero, List.set_cons_succ]
            refine wpAnyH_ready (rs := [11]) (by kernel_rfl) (by simp) ?_
            refine AllReadyH.cons (o := ⟨some 97, _, _, _, _, _⟩) rfl (fun K hK => ?_) AllReadyH.nil
            go_simp
            go_at_call 13
            refine (HD.out _ hHeld.out.b (Sto.cPut x.v.name ky v.n) 6 (by show 0 < 18446744073709551616; decide) (by show 0 < 18446744073709551616; decide) HE.out).mono ?_; rintro e w5 ⟨A4, n4, c4, pv, tt, O4, k4, d4, rfl, b5⟩; have hs := Lib.hid (hHeld.out.call b5); replace HK0 := Lib.hid (HK0.out.call b5); clear b5
            refine hK.out _ _ hs (fun hHeld => ?_)
            clear hK K
            try simp only [Act.put, List.setIfInBounds_toArray, List.set_cons_zero, List.set_cons_succ]
            refine wpAnyH_take (i := 12) (oi := ⟨some 85, _, _, _, _, _⟩) (v := ?_) rfl (by kernel_rfl) (by kernel_rfl) (by kernel_rfl) (fun _ _ _ h => h) (Or.inl ⟨by rfl, ?_⟩) (by assumption) ?_
            rotate_left
            · (intro w hSw; (try dsimp only at hSw); go_simp; try with_reducible rfl)
            try simp only [Act.put, List.setIfInBounds_toArray, List.set_cons_zero, List.set_cons_succ]
            refine wpAnyH_take (i := 13) (oi := ⟨some 98, _, _, _, _, _⟩) (v := ?_) rfl (by kernel_rfl) (by kernel_rfl) (by kernel_rfl) (fun _ _ _ h => h) (Or.inl ⟨by rfl, ?_⟩) (by assumption) ?_
            rotate_left
            · (intro w hSw; (try dsimp only at hSw); go_simp; try with_reducible rfl)
            try simp only [Act.put, List.setIfInBounds_toArray, List.set_cons_zero, List.set_cons_succ]
            refine wpAnyH_take (i := 14) (oi := ⟨some 99, _, _, _, _, _⟩) (v := ?_) rfl (by kernel_rfl) (by kernel_rfl) (by kernel_rfl) (fun _ _ _ h => h) (Or.inl ⟨by rfl, ?_⟩) (by assumption) ?_
            rotate_left
            · (intro w hSw; (try dsimp only at hSw); go_simp; try with_reducible rfl)
            try simp only [Act.put, List.setIfInBounds_toArray, List.set_cons_zero, List.set_cons_succ]
            refine wpAnyH_take (i := 15) (oi := ⟨some 100, _, _, _, _, _⟩) (v := ?_) rfl (by kernel_rfl) (by kernel_rfl) (by kernel_rfl) (fun _ _ _ h => h) (Or.inl ⟨by rfl, ?_⟩) (by assumption) ?_
            rotate_left
            · (intro w hSw; (try dsimp only at hSw); go_simp; try with_reducible rfl)
            try simp only [Act.put, List.setIfInBounds_toArray, List.set_cons_zero, List.set_cons_succ]
            refine wpAnyH_take (i := 16) (oi := ⟨some 101, _, _, _, _, _⟩) (v := ?_) rfl (by kernel_rfl) (by kernel_rfl) (by kernel_rfl) (fun _ _ _ h => h) (Or.inl ⟨by rfl, ?_⟩) (by assumption) ?_
            rotate_left
            · (intro w hSw; (try dsimp only at hSw); go_simp; try with_reducible rfl)
            try simp only [Act.put, List.setIfInBounds_toArray, List.set_cons_zero, List.set_cons_succ]
            refine wpAnyH_take (i := 18) (oi := ⟨some 10, _, _, _, _, _⟩) (v := ?_) rfl (by kernel_rfl) (by kernel_rfl) (by kernel_rfl) (fun _ _ _ h => h) (Or.inl ⟨by rfl, ?_⟩) (by assumption) ?_
            rotate_left
            · (intro w hSw; (try dsimp only at hSw); go_simp; try with_reducible rfl)
            try simp only [Act.put, List.setIfInBounds_toArray, List.set_cons_zero, List.set_cons_succ]
            refine wpAnyH_ready (rs := [19]) (by kernel_rfl) (by simp) ?_
            refine AllReadyH.cons (o := ⟨none, _, _, _, _, _⟩) rfl (fun K hK => ?_) AllReadyH.nil
            refine step_srp (q := ⟨6, pv⟩) HK0 3 (by rfl) _ _ (by rfl) (by rfl) (by rfl) (by rfl) ?_; intro wq HK'; simp only [List.set] at HK'; replace HK0 := HK'; clear HK'; have hs := Lib.hid (HK0.out.takeL 3)
            refine hK.out _ _ hs (fun hHeld => ?_)
            clear hK K
            try simp only [Act.put, List.setIfInBounds_toArray, List.set_cons_zero, List.set_cons_succ]
            refine wpAnyH_take (i := 20) (oi := ⟨some 12, _, _, _, _, _⟩) (v := ?_) rfl (by kernel_rfl) (by kernel_rfl) (by kernel_rfl) (fun _ _ _ h => h) (Or.inl ⟨by rfl, ?_⟩) (by assumption) ?_
            rotate_left
            · (intro w hSw; (try dsimp only at hSw); go_simp; try with_reducible rfl)
            try simp only [Act.put, List.setIfInBounds_toArray, List.set_cons_zero, List.set_cons_succ]
            refine wpAnyH_take (i := 21) (oi := ⟨some 13, _, _, _, _, _⟩) (v := ?_) rfl (by kernel_rfl) (by kernel_rfl) (by kernel_rfl) (fun _ _ _ h => h) (Or.inl ⟨by rfl, ?_⟩) (by assumption) ?_
            rotate_left
            · (intro w hSw; (try dsimp only at hSw); go_simp; try with_reducible rfl)
            try simp only [Act.put, List.setIfInBounds_toArray, List.set_cons_zero, List.set_cons_succ]
            refine wpAnyH_done (by kernel_rfl) ?_ _
            rotate_left
            all_goals
              go_wp2_with (first | refine wpList_exe (krp_e HK0 3 _ (by rfl) (by rfl) (by rfl)) (by rfl) ?_)
              replace HK := Lib.hid (HK0.out.takeL 3)
              change Hid (Kn _ _ _ [(w.heap.size, 34, #[.int .i64 r.c, .int .i64 r.e, .int .i64 r.r]), (w.heap.size + 1, 26, vC v.k v.n v.f v.s), (g2, 26, vC 1 v.n 0 ⟨#[]⟩)] []) at HK
              clear HK0 hHeld
              refine wp_region_held_drew (S := (fun W => Hid (Kn w.heap.size w W [(w.heap.size, 34, #[.int .i64 r.c, .int .i64 r.e, .int .i64 r.r]), (w.heap.size + 1, 26, vC v.k v.n v.f v.s), (g2, 26, vC 1 v.n 0 ⟨#[]⟩)] []))) (by kernel_rfl) ?_ (fun hHeld => ?_)
              · (try dsimp only); exact Lib.hid HK.out.drew
              refine wpAnyH_take (i := 0) (oi := ⟨some 105, _, _, _, _, _⟩) (v := ?_) rfl (by kernel_rfl) (by kernel_rfl) (by kernel_rfl) (fun _ _ _ h => h) (Or.inl ⟨by rfl, ?_⟩) (by assumption) ?_
              rotate_left
              · (intro w hSw; (try dsimp only at hSw); go_simp; try with_reducible rfl)
              try simp only [Act.put, List.setIfInBounds_toArray, List.set_cons_zero, List.set_cons_succ]
              refine wpAnyH_take (i := 1) (oi := ⟨some 106, _, _, _, _, _⟩) (v := ?_) rfl (by kernel_rfl) (by kernel_rfl) (by kernel_rfl) (fun _ _ _ h => h) (Or.inl ⟨by rfl, ?_⟩) (by assumption) ?_
              rotate_left
              · (intro w hSw; (try dsimp only at hSw); go_simp; try with_reducible rfl)
              try simp only [Act.put, List.setIfInBounds_toArray, List.set_cons_zero, List.set_cons_succ]
              refine wpAnyH_take (i := 2) (oi := ⟨some 107, _, _, _, _, _⟩) (v := ?_) rfl (by kernel_rfl) (by kernel_rfl) (by kernel_rfl) (fun _ _ _ h => h) (Or.inl ⟨by rfl, ?_⟩) (by assumption) ?_
              rotate_left
              · (intro w hSw; refine Eq.trans (exec_ixo (i := k) _ _ (by rfl) (by rfl) (by rfl) hlt) ?_; with_reducible rfl)
              try simp only [Act.put, List.setIfInBounds_toArray, List.set_cons_zero, List.set_cons_succ]
              refine wpAnyH_take (i := 3) (oi := ⟨some 108, _, _, _, _, _⟩) (v := ?_) rfl (by kernel_rfl) (by kernel_rfl) (by kernel_rfl) (fun _ _ _ h => h) (Or.inl ⟨by rfl, ?_⟩) (by assumption) ?_
              rotate_left
              · (intro w hSw; (try dsimp only at hSw); go_simp; try with_reducible rfl)
              try simp only [Act.put, List.setIfInBounds_toArray, List.set_cons_zero, List.set_cons_succ]
              refine wpAnyH_take (i := 4) (oi := ⟨some 109, _, _, _, _, _⟩) (v := ?_) rfl (by kernel_rfl) (by kernel_rfl) (by kernel_rfl) (fun _ _ _ h => h) (Or.inl ⟨by rfl, ?_⟩) (by assumption) ?_
              rotate_left
              · (intro w hSw; refine Eq.trans (exec_obk (off := o + k * 11) _ (by rfl) (by rfl) (HX.out _ hSw.out.b)) ?_; with_reducible rfl)
              try simp only [Act.put, List.setIfInBounds_toArray, List.set_cons_zero, List.set_cons_succ]
              refine wpAnyH_take (i := 5) (oi := ⟨some 110, _, _, _, _, _⟩) (v := ?_) rfl (by kernel_rfl) (by kernel_rfl) (by kernel_rfl) (fun _ _ _ h => h) (Or.inl ⟨by rfl, ?_⟩) (by assumption) ?_
              rotate_left
              · (intro w hSw; refine Eq.trans (exec_iek (x := x.v.kind) (k := 2) _ (by rfl) (by rfl) K2.out) ?_; with_reducible rfl)
              try simp only [Act.put, List.setIfInBounds_toArray, List.set_cons_zero, List.set_cons_succ]
              refine wpAnyH_take (i := 6) (oi := ⟨some 111, _, _, _, _, _⟩) (v := ?_) rfl (by kernel_rfl) (by kernel_rfl) (by kernel_rfl) (fun _ _ _ h => h) (Or.inl ⟨by rfl, ?_⟩) (by assumption) ?_
              rotate_left
              · (intro w hSw; (try dsimp only at hSw); go_simp; try with_reducible rfl)
              try simp only [Act.put, List.setIfInBounds_toArray, List.set_cons_zero, List.set_cons_succ]
              refine wpAnyH_take (i := 7) (oi := ⟨some 112, _, _, _, _, _⟩) (v := undef) rfl (by kernel_rfl) (by kernel_rfl) (by kernel_rfl) (fun _ _ _ h => h) (Or.inr ⟨by rfl, rfl⟩) (by assumption) ?_
              try simp only [Act.put, List.setIfInBounds_toArray, List.set_cons_zero, List.set_cons_succ]
              refine wpAnyH_take (i := 8) (oi := ⟨some 113, _, _, _, _, _⟩) (v := undef) rfl (by kernel_rfl) (by kernel_rfl) (by kernel_rfl) (fun _ _ _ h => h) (Or.inr ⟨by rfl, rfl⟩) (by assumption) ?_
              try simp only [Act.put, List.setIfInBounds_toArray, List.set_cons_zero, List.set_cons_succ]
              refine wpAnyH_take (i := 9) (oi := ⟨some 114, _, _, _, _, _⟩) (v := undef) rfl (by kernel_rfl) (by kernel_rfl) (by kernel_rfl) (fun _ _ _ h => h) (Or.inr ⟨by rfl, rfl⟩) (by assumption) ?_
              try simp only [Act.put, List.setIfInBounds_toArray, List.set_cons_zero, List.set_cons_succ]
              refine wpAnyH_take (i := 10) (oi := ⟨some 115, _, _, _, _, _⟩) (v := undef) rfl (by kernel_rfl) (by kernel_rfl) (by kernel_rfl) (fun _ _ _ h => h) (Or.inr ⟨by rfl, rfl⟩) (by assumption) ?_
              try simp only [Act.put, List.setIfInBounds_toArray, List.set_cons_zero, List.set_cons_succ]
              refine wpAnyH_take (i := 11) (oi := ⟨some 116, _, _, _, _, _⟩) (v := undef) rfl (by kernel_rfl) (by kernel_rfl) (by kernel_rfl) (fun _ _ _ h => h) (Or.inr ⟨by rfl, rfl⟩) (by assumption) ?_
              try simp only [Act.put, List.setIfInBounds_toArray, List.set_cons_zero, List.set_cons_succ]
              refine wpAnyH_take (i := 12) (oi := ⟨some 117, _, _, _, _, _⟩) (v := undef) rfl (by kernel_rfl) (by kernel_rfl) (by kernel_rfl) (fun _ _ _ h => h) (Or.inr ⟨by rfl, rfl⟩) (by assumption) ?_
              try simp only [Act.put, List.setIfInBounds_toArray, List.set_cons_zero, List.set_cons_succ]
              refine wpAnyH_take (i := 13) (oi := ⟨some 118, _, _, _, _, _⟩) (v := undef) rfl (by kernel_rfl) (by kernel_rfl) (by kernel_rfl) (fun _ _ _ h => h) (Or.inr ⟨by rfl, rfl⟩) (by assumption) ?_
              try simp only [Act.put, List.setIfInBounds_toArray, List.set_cons_zero, List.set_cons_succ]
              refine wpAnyH_take (i := 14) (oi := ⟨some 119, _, _, _, _, _⟩) (v := undef) rfl (by kernel_rfl) (by kernel_rfl) (by kernel_rfl) (fun _ _ _ h => h) (Or.inr ⟨by rfl, rfl⟩) (by assumption) ?_
              try simp only [Act.put, List.setIfInBounds_toArray, List.set_cons_zero, List.set_cons_succ]
              refine wpAnyH_take (i := 15) (oi := ⟨some 120, _, _, _, _, _⟩) (v := undef) rfl (by kernel_rfl) (by kernel_rfl) (by kernel_rfl) (fun _ _ _ h => h) (Or.inr ⟨by rfl, rfl⟩) (by assumption) ?_
              try simp only [Act.put, List.setIfInBounds_toArray, List.set_cons_zero, List.set_cons_succ]
              refine wpAnyH_take (i := 16) (oi := ⟨some 121, _, _, _, _, _⟩) (v := undef) rfl (by kernel_rfl) (by kernel_rfl) (by kernel_rfl) (fun _ _ _ h => h) (Or.inr ⟨by rfl, rfl⟩) (by assumption) ?_
              try simp only [Act.put, List.setIfInBounds_toArray, List.set_cons_zero, List.set_cons_succ]
              refine wpAnyH_take (i := 17) (oi := ⟨some 122, _, _, _, _, _⟩) (v := undef) rfl (by kernel_rfl) (by kernel_rfl) (by kernel_rfl) (fun _ _ _ h => h) (Or.inr ⟨by rfl, rfl⟩) (by assumption) ?_
              try simp only [Act.put, List.setIfInBounds_toArray, List.set_cons_zero, List.set_cons_succ]
              refine wpAnyH_take (i := 18) (oi := ⟨some 123, _, _, _, _, _⟩) (v := undef) rfl (by kernel_rfl) (by kernel_rfl) (by kernel_rfl) (fun _ _ _ h => h) (Or.inr ⟨by rfl, rfl⟩) (by assumption) ?_
              try simp only [Act.put, List.setIfInBounds_toArray, List.set_cons_zero, List.set_cons_succ]
              refine wpAnyH_take (i := 19) (oi := ⟨some 124, _, _, _, _, _⟩) (v := ?_) rfl (by kernel_rfl) (by kernel_rfl) (by kernel_rfl) (fun _ _ _ h => h) (Or.inl ⟨by rfl, ?_⟩) (by assumption) ?_
              rotate_left
              · (intro w hSw; (try dsimp only at hSw); go_simp; try with_reducible rfl)
              try simp only [Act.put, List.setIfInBounds_toArray, List.set_cons_zero, List.set_cons_succ]
              refine wpAnyH_done (by kernel_rfl) ?_ _
              replace HK := hHeld
              go_wp2_with (first | refine wpList_exe (exec_add1 (j := k) _ (by rfl) (by rfl) hk3) (by rfl) ?_)
              exact ⟨⟨k + 1, by omega, by go_num, HK⟩, by simp [intOf]; omega⟩
      case false =>
        have hk1n : ¬ x.v.kind = 1 := of_decide_eq_false K1.out
        cases k2
        case false =>
          go_wp2_with (first | refine wpList_exe (exec_obk (off := o + k * 11) _ (by rfl) (by rfl) (HX.out _ HK.out.b)) (by rfl) ?_ | refine wpList_exe (exec_iek (x := x.v.kind) (k := 1) _ (by rfl) (by rfl) K1.out) (by rfl) ?_ | refine wpList_exe (exec_obp (off := o + k * 11) _ (by rfl) (by rfl) (HX.out _ HK.out.b) (A := x.pA) (m := x.pn) rfl rfl) (by rfl) ?_ | refine wpList_exe (exec_iek (x := (x.pn : Int)) (k := 8) _ (by rfl) (by rfl) L8.out) (by rfl) ?_)
          refine wp_region_held_drew (S := (fun W => Hid (Kn w.heap.size w W [(w.heap.size, 34, #[.int .i64 r.c, .int .i64 r.e, .int .i64 r.r]), (w.heap.size + 1, 26, vC v.k v.n v.f v.s), (g2, 26, vC 1 v.n 0 ⟨#[]⟩)] []))) (by kernel_rfl) ?_ (fun hHeld => ?_)
          · (try dsimp only); exact Lib.hid HK.out.drew
          refine wpAnyH_take (i := 0) (oi := ⟨some 105, _, _, _, _, _⟩) (v := ?_) rfl (by kernel_rfl) (by kernel_rfl) (by kernel_rfl) (fun _ _ _ h => h) (Or.inl ⟨by rfl, ?_⟩) (by assumption) ?_
          rotate_left
          · (intro w hSw; (try dsimp only at hSw); go_simp; try with_reducible rfl)
          try simp only [Act.put, List.setIfInBounds_toArray, List.set_cons_zero, List.set_cons_succ]
          refine wpAnyH_take (i := 1) (oi := ⟨some 106, _, _, _, _, _⟩) (v := ?_) rfl (by kernel_rfl) (by kernel_rfl) (by kernel_rfl) (fun _ _ _ h => h) (Or.inl ⟨by rfl, ?_⟩) (by assumption) ?_
          rotate_left
          · (intro w hSw; (try dsimp only at hSw); go_simp; try with_reducible rfl)
          try simp only [Act.put, List.setIfInBounds_toArray, List.set_cons_zero, List.set_cons_succ]
          refine wpAnyH_take (i := 2) (oi := ⟨some 107, _, _, _, _, _⟩) (v := ?_) rfl (by kernel_rfl) (by kernel_rfl) (by kernel_rfl) (fun _ _ _ h => h) (Or.inl ⟨by rfl, ?_⟩) (by assumption) ?_
          rotate_left
          · (intro w hSw; refine Eq.trans (exec_ixo (i := k) _ _ (by rfl) (by rfl) (by rfl) hlt) ?_; with_reducible rfl)
          try simp only [Act.put, List.setIfInBounds_toArray, List.set_cons_zero, List.set_cons_succ]
          refine wpAnyH_take (i := 3) (oi := ⟨some 108, _, _, _, _, _⟩) (v := ?_) rfl (by kernel_rfl) (by kernel_rfl) (by kernel_rfl) (fun _ _ _ h => h) (Or.inl ⟨by rfl, ?_⟩) (by assumption) ?_
          rotate_left
          · (intro w hSw; (try dsimp only at hSw); go_simp; try with_reducible rfl)
          try simp only [Act.put, List.setIfInBounds_toArray, List.set_cons_zero, List.set_cons_succ]
          refine wpAnyH_take (i := 4) (oi := ⟨some 109, _, _, _, _, _⟩) (v := ?_) rfl (by kernel_rfl) (by kernel_rfl) (by kernel_rfl) (fun _ _ _ h => h) (Or.inl ⟨by rfl, ?_⟩) (by assumption) ?_
          rotate_left
          · (intro w hSw; refine Eq.trans (exec_obk (off := o + k * 11) _ (by rfl) (by rfl) (HX.out _ hSw.out.b)) ?_; with_reducible rfl)
          try simp only [Act.put, List.setIfInBounds_toArray, List.set_cons_zero, List.set_cons_succ]
          refine wpAnyH_take (i := 5) (oi := ⟨some 110, _, _, _, _, _⟩) (v := ?_) rfl (by kernel_rfl) (by kernel_rfl) (by kernel_rfl) (fun _ _ _ h => h) (Or.inl ⟨by rfl, ?_⟩) (by assumption) ?_
          rotate_left
          · (intro w hSw; refine Eq.trans (exec_iek (x := x.v.kind) (k := 2) _ (by rfl) (by rfl) K2.out) ?_; with_reducible rfl)
          try simp only [Act.put, List.setIfInBounds_toArray, List.set_cons_zero, List.set_cons_succ]
          refine wpAnyH_take (i := 6) (oi := ⟨some 111, _, _, _, _, _⟩) (v := ?_) rfl (by kernel_rfl) (by kernel_rfl) (by kernel_rfl) (fun _ _ _ h => h) (Or.inl ⟨by rfl, ?_⟩) (by assumption) ?_
          rotate_left
          · (intro w hSw; (try dsimp only at hSw); go_simp; try with_reducible rfl)
          try simp only [Act.put, List.setIfInBounds_toArray, List.set_cons_zero, List.set_cons_succ]
          refine wpAnyH_take (i := 7) (oi := ⟨some 112, _, _, _, _, _⟩) (v := undef) rfl (by kernel_rfl) (by kernel_rfl) (by kernel_rfl) (fun _ _ _ h => h) (Or.inr ⟨by rfl, rfl⟩) (by assumption) ?_
          try simp only [Act.put, List.setIfInBounds_toArray, List.set_cons_zero, List.set_cons_succ]
          refine wpAnyH_take (i := 8) (oi := ⟨some 113, _, _, _, _, _⟩) (v := undef) rfl (by kernel_rfl) (by kernel_rfl) (by kernel_rfl) (fun _ _ _ h => h) (Or.inr ⟨by rfl, rfl⟩) (by assumption) ?_
          try simp only [Act.put, List.setIfInBounds_toArray, List.set_cons_zero, List.set_cons_succ]
          refine wpAnyH_take (i := 9) (oi := ⟨some 114, _, _, _, _, _⟩) (v := undef) rfl (by kernel_rfl) (by kernel_rfl) (by kernel_rfl) (fun _ _ _ h => h) (Or.inr ⟨by rfl, rfl⟩) (by assumption) ?_
          try simp only [Act.put, List.setIfInBounds_toArray, List.set_cons_zero, List.set_cons_succ]
          refine wpAnyH_take (i := 10) (oi := ⟨some 115, _, _, _, _, _⟩) (v := undef) rfl (by kernel_rfl) (by kernel_rfl) (by kernel_rfl) (fun _ _ _ h => h) (Or.inr ⟨by rfl, rfl⟩) (by assumption) ?_
          try simp only [Act.put, List.setIfInBounds_toArray, List.set_cons_zero, List.set_cons_succ]
          refine wpAnyH_take (i := 11) (oi := ⟨some 116, _, _, _, _, _⟩) (v := undef) rfl (by kernel_rfl) (by kernel_rfl) (by kernel_rfl) (fun _ _ _ h => h) (Or.inr ⟨by rfl, rfl⟩) (by assumption) ?_
          try simp only [Act.put, List.setIfInBounds_toArray, List.set_cons_zero, List.set_cons_succ]
          refine wpAnyH_take (i := 12) (oi := ⟨some 117, _, _, _, _, _⟩) (v := undef) rfl (by kernel_rfl) (by kernel_rfl) (by kernel_rfl) (fun _ _ _ h => h) (Or.inr ⟨by rfl, rfl⟩) (by assumption) ?_
          try simp only [Act.put, List.setIfInBounds_toArray, List.set_cons_zero, List.set_cons_succ]
          refine wpAnyH_take (i := 13) (oi := ⟨some 118, _, _, _, _, _⟩) (v := undef) rfl (by kernel_rfl) (by kernel_rfl) (by kernel_rfl) (fun _ _ _ h => h) (Or.inr ⟨by rfl, rfl⟩) (by assumption) ?_
          try simp only [Act.put, List.setIfInBounds_toArray, List.set_cons_zero, List.set_cons_succ]
          refine wpAnyH_take (i := 14) (oi := ⟨some 119, _, _, _, _, _⟩) (v := undef) rfl (by kernel_rfl) (by kernel_rfl) (by kernel_rfl) (fun _ _ _ h => h) (Or.inr ⟨by rfl, rfl⟩) (by assumption) ?_
          try simp only [Act.put, List.setIfInBounds_toArray, List.set_cons_zero, List.set_cons_succ]
          refine wpAnyH_take (i := 15) (oi := ⟨some 120, _, _, _, _, _⟩) (v := undef) rfl (by kernel_rfl) (by kernel_rfl) (by kernel_rfl) (fun _ _ _ h => h) (Or.inr ⟨by rfl, rfl⟩) (by assumption) ?_
          try simp only [Act.put, List.setIfInBounds_toArray, List.set_cons_zero, List.set_cons_succ]
          refine wpAnyH_take (i := 16) (oi := ⟨some 121, _, _, _, _, _⟩) (v := undef) rfl (by kernel_rfl) (by kernel_rfl) (by kernel_rfl) (fun _ _ _ h => h) (Or.inr ⟨by rfl, rfl⟩) (by assumption) ?_
          try simp only [Act.put, List.setIfInBounds_toArray, List.set_cons_zero, List.set_cons_succ]
          refine wpAnyH_take (i := 17) (oi := ⟨some 122, _, _, _, _, _⟩) (v := undef) rfl (by kernel_rfl) (by kernel_rfl) (by kernel_rfl) (fun _ _ _ h => h) (Or.inr ⟨by rfl, rfl⟩) (by assumption) ?_
          try simp only [Act.put, List.setIfInBounds_toArray, List.set_cons_zero, List.set_cons_succ]
          refine wpAnyH_take (i := 18) (oi := ⟨some 123, _, _, _, _, _⟩) (v := undef) rfl (by kernel_rfl) (by kernel_rfl) (by kernel_rfl) (fun _ _ _ h => h) (Or.inr ⟨by rfl, rfl⟩) (by assumption) ?_
          try simp only [Act.put, List.setIfInBounds_toArray, List.set_cons_zero, List.set_cons_succ]
          refine wpAnyH_take (i := 19) (oi := ⟨some 124, _, _, _, _, _⟩) (v := ?_) rfl (by kernel_rfl) (by kernel_rfl) (by kernel_rfl) (fun _ _ _ h => h) (Or.inl ⟨by rfl, ?_⟩) (by assumption) ?_
          rotate_left
          · (intro w hSw; (try dsimp only at hSw); go_simp; try with_reducible rfl)
          try simp only [Act.put, List.setIfInBounds_toArray, List.set_cons_zero, List.set_cons_succ]
          refine wpAnyH_done (by kernel_rfl) ?_ _
          replace HK := hHeld
          go_wp2_with (first | refine wpList_exe (exec_add1 (j := k) _ (by rfl) (by rfl) hk3) (by rfl) ?_)
          exact ⟨⟨k + 1, by omega, by go_num, HK⟩, by simp [intOf]; omega⟩
        case true =>
          have hkd : x.v.kind = 2 := of_decide_eq_true K2.out
          obtain ⟨lv, LV⟩ : ∃ b, Hid (decide ((x.vn : Int) = x.v.cap) = b) := ⟨_, Lib.hid rfl⟩
          cases lv
          case false =>
            go_wp2_with (first | refine wpList_exe (exec_obk (off := o + k * 11) _ (by rfl) (by rfl) (HX.out _ HK.out.b)) (by rfl) ?_ | refine wpList_exe (exec_iek (x := x.v.kind) (k := 1) _ (by rfl) (by rfl) K1.out) (by rfl) ?_ | refine wpList_exe (exec_obp (off := o + k * 11) _ (by rfl) (by rfl) (HX.out _ HK.out.b) (A := x.pA) (m := x.pn) rfl rfl) (by rfl) ?_ | refine wpList_exe (exec_iek (x := (x.pn : Int)) (k := 8) _ (by rfl) (by rfl) L8.out) (by rfl) ?_)
            refine wp_region_held_drew (S := (fun W => Hid (Kn w.heap.size w W [(w.heap.size, 34, #[.int .i64 r.c, .int .i64 r.e, .int .i64 r.r]), (w.heap.size + 1, 26, vC v.k v.n v.f v.s), (g2, 26, vC 1 v.n 0 ⟨#[]⟩)] []))) (by kernel_rfl) ?_ (fun hHeld => ?_)
            · (try dsimp only); exact Lib.hid HK.out.drew
            refine wpAnyH_take (i := 0) (oi := ⟨some 105, _, _, _, _, _⟩) (v := ?_) rfl (by kernel_rfl) (by kernel_rfl) (by kernel_rfl) (fun _ _ _ h => h) (Or.inl ⟨by rfl, ?_⟩) (by assumption) ?_
            rotate_left
            · (intro w hSw; (try dsimp only at hSw); go_simp; try with_reducible rfl)
            try simp only [Act.put, List.setIfInBounds_toArray, List.set_cons_zero, List.set_cons_succ]
            refine wpAnyH_take (i := 1) (oi := ⟨some 106, _, _, _, _, _⟩) (v := ?_) rfl (by kernel_rfl) (by kernel_rfl) (by kernel_rfl) (fun _ _ _ h => h) (Or.inl ⟨by rfl, ?_⟩) (by assumption) ?_
            rotate_left
            · (intro w hSw; (try dsimp only at hSw); go_simp; try with_reducible rfl)
            try simp only [Act.put, List.setIfInBounds_toArray, List.set_cons_zero, List.set_cons_succ]
            refine wpAnyH_take (i := 2) (oi := ⟨some 107, _, _, _, _, _⟩) (v := ?_) rfl (by kernel_rfl) (by kernel_rfl) (by kernel_rfl) (fun _ _ _ h => h) (Or.inl ⟨by rfl, ?_⟩) (by assumption) ?_
            rotate_left
            · (intro w hSw; refine Eq.trans (exec_ixo (i := k) _ _ (by rfl) (by rfl) (by rfl) hlt) ?_; with_reducible rfl)
            try simp only [Act.put, List.setIfInBounds_toArray, List.set_cons_zero, List.set_cons_succ]
            refine wpAnyH_take (i := 3) (oi := ⟨some 108, _, _, _, _, _⟩) (v := ?_) rfl (by kernel_rfl) (by kernel_rfl) (by kernel_rfl) (fun _ _ _ h => h) (Or.inl ⟨by rfl, ?_⟩) (by assumption) ?_
            rotate_left
            · (intro w hSw; (try dsimp only at hSw); go_simp; try with_reducible rfl)
            try simp only [Act.put, List.setIfInBounds_toArray, List.set_cons_zero, List.set_cons_succ]
            refine wpAnyH_take (i := 4) (oi := ⟨some 109, _, _, _, _, _⟩) (v := ?_) rfl (by kernel_rfl) (by kernel_rfl) (by kernel_rfl) (fun _ _ _ h => h) (Or.inl ⟨by rfl, ?_⟩) (by assumption) ?_
            rotate_left
            · (intro w hSw; refine Eq.trans (exec_obk (off := o + k * 11) _ (by rfl) (by rfl) (HX.out _ hSw.out.b)) ?_; with_reducible rfl)
            try simp only [Act.put, List.setIfInBounds_toArray, List.set_cons_zero, List.set_cons_succ]
            refine wpAnyH_take (i := 5) (oi := ⟨some 110, _, _, _, _, _⟩) (v := ?_) rfl (by kernel_rfl) (by kernel_rfl) (by kernel_rfl) (fun _ _ _ h => h) (Or.inl ⟨by rfl, ?_⟩) (by assumption) ?_
            rotate_left
            · (intro w hSw; refine Eq.trans (exec_iek (x := x.v.kind) (k := 2) _ (by rfl) (by rfl) K2.out) ?_; with_reducible rfl)
            try simp only [Act.put, List.setIfInBounds_toArray, List.set_cons_zero, List.set_cons_succ]
            refine wpAnyH_take (i := 6) (oi := ⟨some 111, _, _, _, _, _⟩) (v := ?_) rfl (by kernel_rfl) (by kernel_rfl) (by kernel_rfl) (fun _ _ _ h => h) (Or.inl ⟨by rfl, ?_⟩) (by assumption) ?_
            rotate_left
            · (intro w hSw; (try dsimp only at hSw); go_simp; try with_reducible rfl)
            try simp only [Act.put, List.setIfInBounds_toArray, List.set_cons_zero, List.set_cons_succ]
            refine wpAnyH_take (i := 7) (oi := ⟨some 112, _, _, _, _, _⟩) (v := ?_) rfl (by kernel_rfl) (by kernel_rfl) (by kernel_rfl) (fun _ _ _ h => h) (Or.inl ⟨by rfl, ?_⟩) (by assumption) ?_
            rotate_left
            · (intro w hSw; (try dsimp only at hSw); go_simp; try with_reducible rfl)
            try simp only [Act.put, List.setIfInBounds_toArray, List.set_cons_zero, List.set_cons_succ]
            refine wpAnyH_take (i := 8) (oi := ⟨some 113, _, _, _, _, _⟩) (v := ?_) rfl (by kernel_rfl) (by kernel_rfl) (by kernel_rfl) (fun _ _ _ h => h) (Or.inl ⟨by rfl, ?_⟩) (by assumption) ?_
            rotate_left
            · (intro w hSw; (try dsimp only at hSw); go_simp; try with_reducible rfl)
            try simp only [Act.put, List.setIfInBounds_toArray, List.set_cons_zero, List.set_cons_succ]
            refine wpAnyH_take (i := 9) (oi := ⟨some 114, _, _, _, _, _⟩) (v := ?_) rfl (by kernel_rfl) (by kernel_rfl) (by kernel_rfl) (fun _ _ _ h => h) (Or.inl ⟨by rfl, ?_⟩) (by assumption) ?_
            rotate_left
            · (intro w hSw; refine Eq.trans (exec_ixo (i := k) _ _ (by rfl) (by rfl) (by rfl) hlt) ?_; with_reducible rfl)
            try simp only [Act.put, List.setIfInBounds_toArray, List.set_cons_zero, List.set_cons_succ]
            refine wpAnyH_take (i := 10) (oi := ⟨some 115, _, _, _, _, _⟩) (v := ?_) rfl (by kernel_rfl) (by kernel_rfl) (by kernel_rfl) (fun _ _ _ h => h) (Or.inl ⟨by rfl, ?_⟩) (by assumption) ?_
            rotate_left
            · (intro w hSw; (try dsimp only at hSw); go_simp; try with_reducible rfl)
            try simp only [Act.put, List.setIfInBounds_toArray, List.set_cons_zero, List.set_cons_succ]
            refine wpAnyH_take (i := 11) (oi := ⟨some 116, _, _, _, _, _⟩) (v := ?_) rfl (by kernel_rfl) (by kernel_rfl) (by kernel_rfl) (fun _ _ _ h => h) (Or.inl ⟨by rfl, ?_⟩) (by assumption) ?_
            rotate_left
            · (intro w hSw; refine Eq.trans (exec_obv (off := o + k * 11) _ (by rfl) (by rfl) (HX.out _ hSw.out.b)) ?_; with_reducible rfl)
            try simp only [Act.put, List.setIfInBounds_toArray, List.set_cons_zero, List.set_cons_succ]
            refine wpAnyH_take (i := 12) (oi := ⟨some 117, _, _, _, _, _⟩) (v := ?_) rfl (by kernel_rfl) (by kernel_rfl) (by kernel_rfl) (fun _ _ _ h => h) (Or.inl ⟨by rfl, ?_⟩) (by assumption) ?_
            rotate_left
            · (intro w hSw; (try dsimp only at hSw); go_simp; try with_reducible rfl)
            try simp only [Act.put, List.setIfInBounds_toArray, List.set_cons_zero, List.set_cons_succ]
            refine wpAnyH_take (i := 13) (oi := ⟨some 118, _, _, _, _, _⟩) (v := ?_) rfl (by kernel_rfl) (by kernel_rfl) (by kernel_rfl) (fun _ _ _ h => h) (Or.inl ⟨by rfl, ?_⟩) (by assumption) ?_
            rotate_left
            · (intro w hSw; (try dsimp only at hSw); go_simp; try with_reducible rfl)
            try simp only [Act.put, List.setIfInBounds_toArray, List.set_cons_zero, List.set_cons_succ]
            refine wpAnyH_take (i := 14) (oi := ⟨some 119, _, _, _, _, _⟩) (v := ?_) rfl (by kernel_rfl) (by kernel_rfl) (by kernel_rfl) (fun _ _ _ h => h) (Or.inl ⟨by rfl, ?_⟩) (by assumption) ?_
            rotate_left
            · (intro w hSw; (try dsimp only at hSw); go_simp; try with_reducible rfl)
            try simp only [Act.put, List.setIfInBounds_toArray, List.set_cons_zero, List.set_cons_succ]
            refine wpAnyH_take (i := 15) (oi := ⟨some 120, _, _, _, _, _⟩) (v := ?_) rfl (by kernel_rfl) (by kernel_rfl) (by kernel_rfl) (fun _ _ _ h => h) (Or.inl ⟨by rfl, ?_⟩) (by assumption) ?_
            rotate_left
            · (intro w hSw; refine Eq.trans (exec_ixo (i := k) _ _ (by rfl) (by rfl) (by rfl) hlt) ?_; with_reducible rfl)
            try simp only [Act.put, List.setIfInBounds_toArray, List.set_cons_zero, List.set_cons_succ]
            refine wpAnyH_take (i := 16) (oi := ⟨some 121, _, _, _, _, _⟩) (v := ?_) rfl (by kernel_rfl) (by kernel_rfl) (by kernel_rfl) (fun _ _ _ h => h) (Or.inl ⟨by rfl, ?_⟩) (by assumption) ?_
            rotate_left
            · (intro w hSw; (try dsimp only at hSw); go_simp; try with_reducible rfl)
            try simp only [Act.put, List.setIfInBounds_toArray, List.set_cons_zero, List.set_cons_succ]
            refine wpAnyH_take (i := 17) (oi := ⟨some 122, _, _, _, _, _⟩) (v := ?_) rfl (by kernel_rfl) (by kernel_rfl) (by kernel_rfl) (fun _ _ _ h => h) (Or.inl ⟨by rfl, ?_⟩) (by assumption) ?_
            rotate_left
            · (intro w hSw; refine Eq.trans (exec_obc (off := o + k * 11) _ (by rfl) (by rfl) (HX.out _ hSw.out.b)) ?_; with_reducible rfl)
            try simp only [Act.put, List.setIfInBounds_toArray, List.set_cons_zero, List.set_cons_succ]
            refine wpAnyH_take (i := 18) (oi := ⟨some 123, _, _, _, _, _⟩) (v := ?_) rfl (by kernel_rfl) (by kernel_rfl) (by kernel_rfl) (fun _ _ _ h => h) (Or.inl ⟨by rfl, ?_⟩) (by assumption) ?_
            rotate_left
            · (intro w hSw; refine Eq.trans (exec_iee (x := (x.vn : Int)) (y := x.v.cap) _ _ (by rfl) (by rfl) (by rfl) LV.out) ?_; with_reducible rfl)
            try simp only [Act.put, List.setIfInBounds_toArray, List.set_cons_zero, List.set_cons_succ]
            refine wpAnyH_take (i := 19) (oi := ⟨some 124, _, _, _, _, _⟩) (v := ?_) rfl (by kernel_rfl) (by kernel_rfl) (by kernel_rfl) (fun _ _ _ h => h) (Or.inl ⟨by rfl, ?_⟩) (by assumption) ?_
            rotate_left
            · (intro w hSw; (try dsimp only at hSw); go_simp; try with_reducible rfl)
            try simp only [Act.put, List.setIfInBounds_toArray, List.set_cons_zero, List.set_cons_succ]
            refine wpAnyH_done (by kernel_rfl) ?_ _
            replace HK := hHeld
            go_wp2_with (first | refine wpList_exe (exec_add1 (j := k) _ (by rfl) (by rfl) hk3) (by rfl) ?_)
            exact ⟨⟨k + 1, by omega, by go_num, HK⟩, by simp [intOf]; omega⟩
          case true =>
            have hIn := HIn.out _ HK.out.b
            have HE : Hid ((Sto.doo (vs l) r (Sto.cPush x.v.name v.n)).p.e = 6) := Lib.hid (Sto.push_full HRi.out HOk.out HMm.out hkd (by rw [hIn.v.len]; exact of_decide_eq_true LV.out) v.n)
            clear hIn
            go_wp2_with (first | refine wpList_exe (exec_obk (off := o + k * 11) _ (by rfl) (by rfl) (HX.out _ HK.out.b)) (by rfl) ?_ | refine wpList_exe (exec_iek (x := x.v.kind) (k := 1) _ (by rfl) (by rfl) K1.out) (by rfl) ?_ | refine wpList_exe (exec_obp (off := o + k * 11) _ (by rfl) (by rfl) (HX.out _ HK.out.b) (A := x.pA) (m := x.pn) rfl rfl) (by rfl) ?_ | refine wpList_exe (exec_iek (x := (x.pn : Int)) (k := 8) _ (by rfl) (by rfl) L8.out) (by rfl) ?_)
            refine wp_region_held_drew (S := (fun W => Hid (Kn w.heap.size w W [(w.heap.size, 34, #[.int .i64 r.c, .int .i64 r.e, .int .i64 r.r]), (w.heap.size + 1, 26, vC v.k v.n v.f v.s), (g2, 26, vC 1 v.n 0 ⟨#[]⟩)] []))) (by kernel_rfl) ?_ (fun hHeld => ?_)
            · (try dsimp only); exact Lib.hid HK.out.drew
            refine wpAnyH_take (i := 0) (oi := ⟨some 105, _, _, _, _, _⟩) (v := ?_) rfl (by kernel_rfl) (by kernel_rfl) (by kernel_rfl) (fun _ _ _ h => h) (Or.inl ⟨by rfl, ?_⟩) (by assumption) ?_
            rotate_left
            · (intro w hSw; (try dsimp only at hSw); go_simp; try with_reducible rfl)
            try simp only [Act.put, List.setIfInBounds_toArray, List.set_cons_zero, List.set_cons_succ]
            refine wpAnyH_take (i := 1) (oi := ⟨some 106, _, _, _, _, _⟩) (v := ?_) rfl (by kernel_rfl) (by kernel_rfl) (by kernel_rfl) (fun _ _ _ h => h) (Or.inl ⟨by rfl, ?_⟩) (by assumption) ?_
            rotate_left
            · (intro w hSw; (try dsimp only at hSw); go_simp; try with_reducible rfl)
            try simp only [Act.put, List.setIfInBounds_toArray, List.set_cons_zero, List.set_cons_succ]
            refine wpAnyH_take (i := 2) (oi := ⟨some 107, _, _, _, _, _⟩) (v := ?_) rfl (by kernel_rfl) (by kernel_rfl) (by kernel_rfl) (fun _ _ _ h => h) (Or.inl ⟨by rfl, ?_⟩) (by assumption) ?_
            rotate_left
            · (intro w hSw; refine Eq.trans (exec_ixo (i := k) _ _ (by rfl) (by rfl) (by rfl) hlt) ?_; with_reducible rfl)
            try simp only [Act.put, List.setIfInBounds_toArray, List.set_cons_zero, List.set_cons_succ]
            refine wpAnyH_take (i := 3) (oi := ⟨some 108, _, _, _, _, _⟩) (v := ?_) rfl (by kernel_rfl) (by kernel_rfl) (by kernel_rfl) (fun _ _ _ h => h) (Or.inl ⟨by rfl, ?_⟩) (by assumption) ?_
            rotate_left
            · (intro w hSw; (try dsimp only at hSw); go_simp; try with_reducible rfl)
            try simp only [Act.put, List.setIfInBounds_toArray, List.set_cons_zero, List.set_cons_succ]
            refine wpAnyH_take (i := 4) (oi := ⟨some 109, _, _, _, _, _⟩) (v := ?_) rfl (by kernel_rfl) (by kernel_rfl) (by kernel_rfl) (fun _ _ _ h => h) (Or.inl ⟨by rfl, ?_⟩) (by assumption) ?_
            rotate_left
            · (intro w hSw; refine Eq.trans (exec_obk (off := o + k * 11) _ (by rfl) (by rfl) (HX.out _ hSw.out.b)) ?_; with_reducible rfl)
            try simp only [Act.put, List.setIfInBounds_toArray, List.set_cons_zero, List.set_cons_succ]
            refine wpAnyH_take (i := 5) (oi := ⟨some 110, _, _, _, _, _⟩) (v := ?_) rfl (by kernel_rfl) (by kernel_rfl) (by kernel_rfl) (fun _ _ _ h => h) (Or.inl ⟨by rfl, ?_⟩) (by assumption) ?_
            rotate_left
            · (intro w hSw; refine Eq.trans (exec_iek (x := x.v.kind) (k := 2) _ (by rfl) (by rfl) K2.out) ?_; with_reducible rfl)
            try simp only [Act.put, List.setIfInBounds_toArray, List.set_cons_zero, List.set_cons_succ]
            refine wpAnyH_take (i := 6) (oi := ⟨some 111, _, _, _, _, _⟩) (v := ?_) rfl (by kernel_rfl) (by kernel_rfl) (by kernel_rfl) (fun _ _ _ h => h) (Or.inl ⟨by rfl, ?_⟩) (by assumption) ?_
            rotate_left
            · (intro w hSw; (try dsimp only at hSw); go_simp; try with_reducible rfl)
            try simp only [Act.put, List.setIfInBounds_toArray, List.set_cons_zero, List.set_cons_succ]
            refine wpAnyH_take (i := 7) (oi := ⟨some 112, _, _, _, _, _⟩) (v := ?_) rfl (by kernel_rfl) (by kernel_rfl) (by kernel_rfl) (fun _ _ _ h => h) (Or.inl ⟨by rfl, ?_⟩) (by assumption) ?_
            rotate_left
            · (intro w hSw; (try dsimp only at hSw); go_simp; try with_reducible rfl)
            try simp only [Act.put, List.setIfInBounds_toArray, List.set_cons_zero, List.set_cons_succ]
            refine wpAnyH_take (i := 8) (oi := ⟨some 113, _, _, _, _, _⟩) (v := ?_) rfl (by kernel_rfl) (by kernel_rfl) (by kernel_rfl) (fun _ _ _ h => h) (Or.inl ⟨by rfl, ?_⟩) (by assumption) ?_
            rotate_left
            · (intro w hSw; (try dsimp only at hSw); go_simp; try with_reducible rfl)
            try simp only [Act.put, List.setIfInBounds_toArray, List.set_cons_zero, List.set_cons_succ]
            refine wpAnyH_take (i := 9) (oi := ⟨some 114, _, _, _, _, _⟩) (v := ?_) rfl (by kernel_rfl) (by kernel_rfl) (by kernel_rfl) (fun _ _ _ h => h) (Or.inl ⟨by rfl, ?_⟩) (by assumption) ?_
            rotate_left
            · (intro w hSw; refine Eq.trans (exec_ixo (i := k) _ _ (by rfl) (by rfl) (by rfl) hlt) ?_; with_reducible rfl)
            try simp only [Act.put, List.setIfInBounds_toArray, List.set_cons_zero, List.set_cons_succ]
            refine wpAnyH_take (i := 10) (oi := ⟨some 115, _, _, _, _, _⟩) (v := ?_) rfl (by kernel_rfl) (by kernel_rfl) (by kernel_rfl) (fun _ _ _ h => h) (Or.inl ⟨by rfl, ?_⟩) (by assumption) ?_
            rotate_left
            · (intro w hSw; (try dsimp only at hSw); go_simp; try with_reducible rfl)
            try simp only [Act.put, List.setIfInBounds_toArray, List.set_cons_zero, List.set_cons_succ]
            refine wpAnyH_take (i := 11) (oi := ⟨some 116, _, _, _, _, _⟩) (v := ?_) rfl (by kernel_rfl) (by kernel_rfl) (by kernel_rfl) (fun _ _ _ h => h) (Or.inl ⟨by rfl, ?_⟩) (by assumption) ?_
            rotate_left
            · (intro w hSw; refine Eq.trans (exec_obv (off := o + k * 11) _ (by rfl) (by rfl) (HX.out _ hSw.out.b)) ?_; with_reducible rfl)
            try simp only [Act.put, List.setIfInBounds_toArray, List.set_cons_zero, List.set_cons_succ]
            refine wpAnyH_take (i := 12) (oi := ⟨some 117, _, _, _, _, _⟩) (v := ?_) rfl (by kernel_rfl) (by kernel_rfl) (by kernel_rfl) (fun _ _ _ h => h) (Or.inl ⟨by rfl, ?_⟩) (by assumption) ?_
            rotate_left
            · (intro w hSw; (try dsimp only at hSw); go_simp; try with_reducible rfl)
            try simp only [Act.put, List.setIfInBounds_toArray, List.set_cons_zero, List.set_cons_succ]
            refine wpAnyH_take (i := 13) (oi := ⟨some 118, _, _, _, _, _⟩) (v := ?_) rfl (by kernel_rfl) (by kernel_rfl) (by kernel_rfl) (fun _ _ _ h => h) (Or.inl ⟨by rfl, ?_⟩) (by assumption) ?_
            rotate_left
            · (intro w hSw; (try dsimp only at hSw); go_simp; try with_reducible rfl)
            try simp only [Act.put, List.setIfInBounds_toArray, List.set_cons_zero, List.set_cons_succ]
            refine wpAnyH_take (i := 14) (oi := ⟨some 119, _, _, _, _, _⟩) (v := ?_) rfl (by kernel_rfl) (by kernel_rfl) (by kernel_rfl) (fun _ _ _ h => h) (Or.inl ⟨by rfl, ?_⟩) (by assumption) ?_
            rotate_left
            · (intro w hSw; (try dsimp only at hSw); go_simp; try with_reducible rfl)
            try simp only [Act.put, List.setIfInBounds_toArray, List.set_cons_zero, List.set_cons_succ]
            refine wpAnyH_take (i := 15) (oi := ⟨some 120, _, _, _, _, _⟩) (v := ?_) rfl (by kernel_rfl) (by kernel_rfl) (by kernel_rfl) (fun _ _ _ h => h) (Or.inl ⟨by rfl, ?_⟩) (by assumption) ?_
            rotate_left
            · (intro w hSw; refine Eq.trans (exec_ixo (i := k) _ _ (by rfl) (by rfl) (by rfl) hlt) ?_; with_reducible rfl)
            try simp only [Act.put, List.setIfInBounds_toArray, List.set_cons_zero, List.set_cons_succ]
            refine wpAnyH_take (i := 16) (oi := ⟨some 121, _, _, _, _, _⟩) (v := ?_) rfl (by kernel_rfl) (by kernel_rfl) (by kernel_rfl) (fun _ _ _ h => h) (Or.inl ⟨by rfl, ?_⟩) (by assumption) ?_
            rotate_left
            · (intro w hSw; (try dsimp only at hSw); go_simp; try with_reducible rfl)
            try simp only [Act.put, List.setIfInBounds_toArray, List.set_cons_zero, List.set_cons_succ]
            refine wpAnyH_take (i := 17) (oi := ⟨some 122, _, _, _, _, _⟩) (v := ?_) rfl (by kernel_rfl) (by kernel_rfl) (by kernel_rfl) (fun _ _ _ h => h) (Or.inl ⟨by rfl, ?_⟩) (by assumption) ?_
            rotate_left
            · (intro w hSw; refine Eq.trans (exec_obc (off := o + k * 11) _ (by rfl) (by rfl) (HX.out _ hSw.out.b)) ?_; with_reducible rfl)
            try simp only [Act.put, List.setIfInBounds_toArray, List.set_cons_zero, List.set_cons_succ]
            refine wpAnyH_take (i := 18) (oi := ⟨some 123, _, _, _, _, _⟩) (v := ?_) rfl (by kernel_rfl) (by kernel_rfl) (by kernel_rfl) (fun _ _ _ h => h) (Or.inl ⟨by rfl, ?_⟩) (by assumption) ?_
            rotate_left
            · (intro w hSw; refine Eq.trans (exec_iee (x := (x.vn : Int)) (y := x.v.cap) _ _ (by rfl) (by rfl) (by rfl) LV.out) ?_; with_reducible rfl)
            try simp only [Act.put, List.setIfInBounds_toArray, List.set_cons_zero, List.set_cons_succ]
            refine wpAnyH_take (i := 19) (oi := ⟨some 124, _, _, _, _, _⟩) (v := ?_) rfl (by kernel_rfl) (by kernel_rfl) (by kernel_rfl) (fun _ _ _ h => h) (Or.inl ⟨by rfl, ?_⟩) (by assumption) ?_
            rotate_left
            · (intro w hSw; (try dsimp only at hSw); go_simp; try with_reducible rfl)
            try simp only [Act.put, List.setIfInBounds_toArray, List.set_cons_zero, List.set_cons_succ]
            refine wpAnyH_done (by kernel_rfl) ?_ _
            replace HK := hHeld
            clear hHeld
            go_wp2_with fail
            have HK0 := Lib.hid HK.out.drew
            refine wp_region_held_drew (S := (fun W => Hid (Kn w.heap.size w W [(w.heap.size, 34, #[.int .i64 r.c, .int .i64 r.e, .int .i64 r.r]), (w.heap.size + 1, 26, vC v.k v.n v.f v.s), (g2, 26, vC 1 v.n 0 ⟨#[]⟩)] []))) (by kernel_rfl) ?_ (fun hHeld => ?_)
            · (try dsimp only); exact Lib.hid HK.out.drew
            refine wpAnyH_take (i := 0) (oi := ⟨some 126, _, _, _, _, _⟩) (v := ?_) rfl (by kernel_rfl) (by kernel_rfl) (by kernel_rfl) (fun _ _ _ h => h) (Or.inl ⟨by rfl, ?_⟩) (by assumption) ?_
            rotate_left
            · (intro w hSw; (try dsimp only at hSw); go_simp; try with_reducible rfl)
            try simp only [Act.put, List.setIfInBounds_toArray, List.set_cons_zero, List.set_cons_succ]
            refine wpAnyH_take (i := 1) (oi := ⟨some 127, _, _, _, _, _⟩) (v := ?_) rfl (by kernel_rfl) (by kernel_rfl) (by kernel_rfl) (fun _ _ _ h => h) (Or.inl ⟨by rfl, ?_⟩) (by assumption) ?_
            rotate_left
            · (intro w hSw; refine Eq.trans (kexec_lr hSw 0 _ (by rfl) (by rfl) (by rfl)) ?_; with_reducible rfl)
            try simp only [Act.put, List.setIfInBounds_toArray, List.set_cons_zero, List.set_cons_succ]
            refine wpAnyH_take (i := 2) (oi := ⟨some 128, _, _, _, _, _⟩) (v := ?_) rfl (by kernel_rfl) (by kernel_rfl) (by kernel_rfl) (fun _ _ _ h => h) (Or.inl ⟨by rfl, ?_⟩) (by assumption) ?_
            rotate_left
            · (intro w hSw; (try dsimp only at hSw); go_simp; try with_reducible rfl)
            try simp only [Act.put, List.setIfInBounds_toArray, List.set_cons_zero, List.set_cons_succ]
            refine wpAnyH_take (i := 3) (oi := ⟨some 129, _, _, _, _, _⟩) (v := ?_) rfl (by kernel_rfl) (by kernel_rfl) (by kernel_rfl) (fun _ _ _ h => h) (Or.inl ⟨by rfl, ?_⟩) (by assumption) ?_
            rotate_left
            · (intro w hSw; (try dsimp only at hSw); go_simp; try with_reducible rfl)
            try simp only [Act.put, List.setIfInBounds_toArray, List.set_cons_zero, List.set_cons_succ]
            refine wpAnyH_take (i := 4) (oi := ⟨some 130, _, _, _, _, _⟩) (v := ?_) rfl (by kernel_rfl) (by kernel_rfl) (by kernel_rfl) (fun _ _ _ h => h) (Or.inl ⟨by rfl, ?_⟩) (by assumption) ?_
            rotate_left
            · (intro w hSw; refine Eq.trans (exec_ixo (i := k) _ _ (by rfl) (by rfl) (by rfl) hlt) ?_; with_reducible rfl)
            try simp only [Act.put, List.setIfInBounds_toArray, List.set_cons_zero, List.set_cons_succ]
            refine wpAnyH_take (i := 5) (oi := ⟨some 131, _, _, _, _, _⟩) (v := ?_) rfl (by kernel_rfl) (by kernel_rfl) (by kernel_rfl) (fun _ _ _ h => h) (Or.inl ⟨by rfl, ?_⟩) (by assumption) ?_
            rotate_left
            · (intro w hSw; (try dsimp only at hSw); go_simp; try with_reducible rfl)
            try simp only [Act.put, List.setIfInBounds_toArray, List.set_cons_zero, List.set_cons_succ]
            refine wpAnyH_take (i := 6) (oi := ⟨some 132, _, _, _, _, _⟩) (v := ?_) rfl (by kernel_rfl) (by kernel_rfl) (by kernel_rfl) (fun _ _ _ h => h) (Or.inl ⟨by rfl, ?_⟩) (by assumption) ?_
            rotate_left
            · (intro w hSw; refine Eq.trans (exec_obn (off := o + k * 11) _ (by rfl) (by rfl) (HX.out _ hSw.out.b)) ?_; with_reducible rfl)
            try simp only [Act.put, List.setIfInBounds_toArray, List.set_cons_zero, List.set_cons_succ]
            refine wpAnyH_take (i := 7) (oi := ⟨some 133, _, _, _, _, _⟩) (v := ?_) rfl (by kernel_rfl) (by kernel_rfl) (by kernel_rfl) (fun _ _ _ h => h) (Or.inl ⟨by rfl, ?_⟩) (by assumption) ?_
            rotate_left
            · (intro w hSw; refine Eq.trans (kexec_vv hSw 2 _ (by rfl) (by rfl) (by rfl)) ?_; with_reducible rfl)
            try simp only [Act.put, List.setIfInBounds_toArray, List.set_cons_zero, List.set_cons_succ]
            refine wpAnyH_take (i := 8) (oi := ⟨some 134, _, _, _, _, _⟩) (v := ?_) rfl (by kernel_rfl) (by kernel_rfl) (by kernel_rfl) (fun _ _ _ h => h) (Or.inl ⟨by rfl, ?_⟩) (by assumption) ?_
            rotate_left
            · (intro w hSw; refine Eq.trans (exec_bpush (nm := x.v.name) (n := v.n) _ _ (by rfl) (by rfl) (by rfl)) ?_; with_reducible rfl)
            try simp only [Act.put, List.setIfInBounds_toArray, List.set_cons_zero, List.set_cons_succ]
            refine wpAnyH_ready (rs := [9, 15]) (by kernel_rfl) (by simp) ?_
            refine AllReadyH.cons (o := ⟨some 135, _, _, _, _, _⟩) rfl (fun K hK => ?_) (AllReadyH.cons (o := ⟨some 15, _, _, _, _, _⟩) rfl (fun K hK => ?_) AllReadyH.nil)
            go_simp
            go_at_call 13
            refine (HD.out _ hHeld.out.b (Sto.cPush x.v.name v.n) 6 (by show 0 < 18446744073709551616; decide) (by show 0 < 18446744073709551616; decide) HE.out).mono ?_; rintro e w5 ⟨A4, n4, c4, pv, tt, O4, k4, d4, rfl, b5⟩; have hs := Lib.hid (hHeld.out.call b5); replace HK0 := Lib.hid (HK0.out.call b5); clear b5
            refine hK.out _ _ hs (fun hHeld => ?_)
            clear hK K
            try simp only [Act.put, List.setIfInBounds_toArray, List.set_cons_zero, List.set_cons_succ]
            refine wpAnyH_take (i := 10) (oi := ⟨some 125, _, _, _, _, _⟩) (v := ?_) rfl (by kernel_rfl) (by kernel_rfl) (by kernel_rfl) (fun _ _ _ h => h) (Or.inl ⟨by rfl, ?_⟩) (by assumption) ?_
            rotate_left
            · (intro w hSw; (try dsimp only at hSw); go_simp; try with_reducible rfl)
            try simp only [Act.put, List.setIfInBounds_toArray, List.set_cons_zero, List.set_cons_succ]
            refine wpAnyH_take (i := 11) (oi := ⟨some 136, _, _, _, _, _⟩) (v := ?_) rfl (by kernel_rfl) (by kernel_rfl) (by kernel_rfl) (fun _ _ _ h => h) (Or.inl ⟨by rfl, ?_⟩) (by assumption) ?_
            rotate_left
            · (intro w hSw; (try dsimp only at hSw); go_simp; try with_reducible rfl)
            try simp only [Act.put, List.setIfInBounds_toArray, List.set_cons_zero, List.set_cons_succ]
            refine wpAnyH_take (i := 12) (oi := ⟨some 137, _, _, _, _, _⟩) (v := ?_) rfl (by kernel_rfl) (by kernel_rfl) (by kernel_rfl) (fun _ _ _ h => h) (Or.inl ⟨by rfl, ?_⟩) (by assumption) ?_
            rotate_left
            · (intro w hSw; (try dsimp only at hSw); go_simp; try with_reducible rfl)
            try simp only [Act.put, List.setIfInBounds_toArray, List.set_cons_zero, List.set_cons_succ]
            refine wpAnyH_take (i := 13) (oi := ⟨some 138, _, _, _, _, _⟩) (v := ?_) rfl (by kernel_rfl) (by kernel_rfl) (by kernel_rfl) (fun _ _ _ h => h) (Or.inl ⟨by rfl, ?_⟩) (by assumption) ?_
            rotate_left
            · (intro w hSw; (try dsimp only at hSw); go_simp; try with_reducible rfl)
            try simp only [Act.put, List.setIfInBounds_toArray, List.set_cons_zero, List.set_cons_succ]
            refine wpAnyH_take (i := 14) (oi := ⟨some 139, _, _, _, _, _⟩) (v := ?_) rfl (by kernel_rfl) (by kernel_rfl) (by kernel_rfl) (fun _ _ _ h => h) (Or.inl ⟨by rfl, ?_⟩) (by assumption) ?_
            rotate_left
            · (intro w hSw; (try dsimp only at hSw); go_simp; try with_reducible rfl)
            try simp only [Act.put, List.setIfInBounds_toArray, List.set_cons_zero, List.set_cons_succ]
            refine wpAnyH_ready (rs := [15]) (by kernel_rfl) (by simp) ?_
            refine AllReadyH.cons (o := ⟨some 15, _, _, _, _, _⟩) rfl (fun K hK => ?_) AllReadyH.nil
            refine step_arp HK0 (by rfl) (by rfl) ?_; intro w7 g7 HK'; simp only [List.cons_append, List.nil_append] at HK'; replace HK0 := HK'; clear HK'; have hs := Lib.hid (HK0.out.takeL 3)
            refine hK.out _ _ hs (fun hHeld => ?_)
            clear hK K
            try simp only [Act.put, List.setIfInBounds_toArray, List.set_cons_zero, List.set_cons_succ]
            refine wpAnyH_take (i := 16) (oi := ⟨some 14, _, _, _, _, _⟩) (v := ?_) rfl (by kernel_rfl) (by kernel_rfl) (by kernel_rfl) (fun _ _ _ h => h) (Or.inl ⟨by rfl, ?_⟩) (by assumption) ?_
            rotate_left
            · (intro w hSw; (try dsimp only at hSw); go_simp; try with_reducible rfl)
            try simp only [Act.put, List.setIfInBounds_toArray, List.set_cons_zero, List.set_cons_succ]
            refine wpAnyH_ready (rs := [17]) (by kernel_rfl) (by simp) ?_
            refine AllReadyH.cons (o := ⟨none, _, _, _, _, _⟩) rfl (fun K hK => ?_) AllReadyH.nil
            refine step_srp (q := ⟨6, pv⟩) HK0 3 (by rfl) _ _ (by rfl) (by rfl) (by rfl) (by rfl) ?_; intro wq HK'; simp only [List.set] at HK'; replace HK0 := HK'; clear HK'; have hs := Lib.hid (HK0.out.takeL 3)
            refine hK.out _ _ hs (fun hHeld => ?_)
            clear hK K
            try simp only [Act.put, List.setIfInBounds_toArray, List.set_cons_zero, List.set_cons_succ]
            refine wpAnyH_take (i := 18) (oi := ⟨some 16, _, _, _, _, _⟩) (v := ?_) rfl (by kernel_rfl) (by kernel_rfl) (by kernel_rfl) (fun _ _ _ h => h) (Or.inl ⟨by rfl, ?_⟩) (by assumption) ?_
            rotate_left
            · (intro w hSw; (try dsimp only at hSw); go_simp; try with_reducible rfl)
            try simp only [Act.put, List.setIfInBounds_toArray, List.set_cons_zero, List.set_cons_succ]
            refine wpAnyH_take (i := 19) (oi := ⟨some 17, _, _, _, _, _⟩) (v := ?_) rfl (by kernel_rfl) (by kernel_rfl) (by kernel_rfl) (fun _ _ _ h => h) (Or.inl ⟨by rfl, ?_⟩) (by assumption) ?_
            rotate_left
            · (intro w hSw; (try dsimp only at hSw); go_simp; try with_reducible rfl)
            try simp only [Act.put, List.setIfInBounds_toArray, List.set_cons_zero, List.set_cons_succ]
            refine wpAnyH_done (by kernel_rfl) ?_ _
            rotate_left
            refine step_arp HK0 (by rfl) (by rfl) ?_; intro w7 g7 HK'; simp only [List.cons_append, List.nil_append] at HK'; replace HK0 := HK'; clear HK'; have hs := Lib.hid (HK0.out.takeL 3)
            refine hK.out _ _ hs (fun hHeld => ?_)
            clear hK K
            try simp only [Act.put, List.setIfInBounds_toArray, List.set_cons_zero, List.set_cons_succ]
            refine wpAnyH_ready (rs := [9]) (by kernel_rfl) (by simp) ?_
            refine AllReadyH.cons (o := ⟨some 135, _, _, _, _, _⟩) rfl (fun K hK => ?_) AllReadyH.nil
            go_simp
            go_at_call 13
            refine (HD.out _ hHeld.out.b (Sto.cPush x.v.name v.n) 6 (by show 0 < 18446744073709551616; decide) (by show 0 < 18446744073709551616; decide) HE.out).mono ?_; rintro e w5 ⟨A4, n4, c4, pv, tt, O4, k4, d4, rfl, b5⟩; have hs := Lib.hid (hHeld.out.call b5); replace HK0 := Lib.hid (HK0.out.call b5); clear b5
            refine hK.out _ _ hs (fun hHeld => ?_)
            clear hK K
            try simp only [Act.put, List.setIfInBounds_toArray, List.set_cons_zero, List.set_cons_succ]
            refine wpAnyH_take (i := 10) (oi := ⟨some 125, _, _, _, _, _⟩) (v := ?_) rfl (by kernel_rfl) (by kernel_rfl) (by kernel_rfl) (fun _ _ _ h => h) (Or.inl ⟨by rfl, ?_⟩) (by assumption) ?_
            rotate_left
            · (intro w hSw; (try dsimp only at hSw); go_simp; try with_reducible rfl)
            try simp only [Act.put, List.setIfInBounds_toArray, List.set_cons_zero, List.set_cons_succ]
            refine wpAnyH_take (i := 11) (oi := ⟨some 136, _, _, _, _, _⟩) (v := ?_) rfl (by kernel_rfl) (by kernel_rfl) (by kernel_rfl) (fun _ _ _ h => h) (Or.inl ⟨by rfl, ?_⟩) (by assumption) ?_
            rotate_left
            · (intro w hSw; (try dsimp only at hSw); go_simp; try with_reducible rfl)
            try simp only [Act.put, List.setIfInBounds_toArray, List.set_cons_zero, List.set_cons_succ]
            refine wpAnyH_take (i := 12) (oi := ⟨some 137, _, _, _, _, _⟩) (v := ?_) rfl (by kernel_rfl) (by kernel_rfl) (by kernel_rfl) (fun _ _ _ h => h) (Or.inl ⟨by rfl, ?_⟩) (by assumption) ?_
            rotate_left
            · (intro w hSw; (try dsimp only at hSw); go_simp; try with_reducible rfl)
            try simp only [Act.put, List.setIfInBounds_toArray, List.set_cons_zero, List.set_cons_succ]
            refine wpAnyH_take (i := 13) (oi := ⟨some 138, _, _, _, _, _⟩) (v := ?_) rfl (by kernel_rfl) (by kernel_rfl) (by kernel_rfl) (fun _ _ _ h => h) (Or.inl ⟨by rfl, ?_⟩) (by assumption) ?_
            rotate_left
            · (intro w hSw; (try dsimp only at hSw); go_simp; try with_reducible rfl)
            try simp only [Act.put, List.setIfInBounds_toArray, List.set_cons_zero, List.set_cons_succ]
            refine wpAnyH_take (i := 14) (oi := ⟨some 139, _, _, _, _, _⟩) (v := ?_) rfl (by kernel_rfl) (by kernel_rfl) (by kernel_rfl) (fun _ _ _ h => h) (Or.inl ⟨by rfl, ?_⟩) (by assumption) ?_
            rotate_left
            · (intro w hSw; (try dsimp only at hSw); go_simp; try with_reducible rfl)
            try simp only [Act.put, List.setIfInBounds_toArray, List.set_cons_zero, List.set_cons_succ]
            refine wpAnyH_take (i := 16) (oi := ⟨some 14, _, _, _, _, _⟩) (v := ?_) rfl (by kernel_rfl) (by kernel_rfl) (by kernel_rfl) (fun _ _ _ h => h) (Or.inl ⟨by rfl, ?_⟩) (by assumption) ?_
            rotate_left
            · (intro w hSw; (try dsimp only at hSw); go_simp; try with_reducible rfl)
            try simp only [Act.put, List.setIfInBounds_toArray, List.set_cons_zero, List.set_cons_succ]
            refine wpAnyH_ready (rs := [17]) (by kernel_rfl) (by simp) ?_
            refine AllReadyH.cons (o := ⟨none, _, _, _, _, _⟩) rfl (fun K hK => ?_) AllReadyH.nil
            refine step_srp (q := ⟨6, pv⟩) HK0 3 (by rfl) _ _ (by rfl) (by rfl) (by rfl) (by rfl) ?_; intro wq HK'; simp only [List.set] at HK'; replace HK0 := HK'; clear HK'; have hs := Lib.hid (HK0.out.takeL 3)
            refine hK.out _ _ hs (fun hHeld => ?_)
            clear hK K
            try simp only [Act.put, List.setIfInBounds_toArray, List.set_cons_zero, List.set_cons_succ]
            refine wpAnyH_take (i := 18) (oi := ⟨some 16, _, _, _, _, _⟩) (v := ?_) rfl (by kernel_rfl) (by kernel_rfl) (by kernel_rfl) (fun _ _ _ h => h) (Or.inl ⟨by rfl, ?_⟩) (by assumption) ?_
            rotate_left
            · (intro w hSw; (try dsimp only at hSw); go_simp; try with_reducible rfl)
            try simp only [Act.put, List.setIfInBounds_toArray, List.set_cons_zero, List.set_cons_succ]
            refine wpAnyH_take (i := 19) (oi := ⟨some 17, _, _, _, _, _⟩) (v := ?_) rfl (by kernel_rfl) (by kernel_rfl) (by kernel_rfl) (fun _ _ _ h => h) (Or.inl ⟨by rfl, ?_⟩) (by assumption) ?_
            rotate_left
            · (intro w hSw; (try dsimp only at hSw); go_simp; try with_reducible rfl)
            try simp only [Act.put, List.setIfInBounds_toArray, List.set_cons_zero, List.set_cons_succ]
            refine wpAnyH_done (by kernel_rfl) ?_ _
            rotate_left
            all_goals
              go_wp2_with (first | refine wpList_exe (krp_e HK0 3 _ (by rfl) (by rfl) (by rfl)) (by rfl) ?_ | refine wpList_exe (exec_add1 (j := k) _ (by rfl) (by rfl) hk3) (by rfl) ?_)
              exact ⟨⟨k + 1, by omega, by go_num, Lib.hid (HK0.out.takeL 3)⟩, by simp [intOf]; omega⟩
    case neg =>
    have hk2 : ¬ (k : Int) < (n : Int) := by omega
    clear hk hlt hk1
    obtain ⟨e8, E8⟩ : ∃ b, Hid (decide ((n : Int) < 8) = b) := ⟨_, Lib.hid rfl⟩
    cases e8
    case true =>
      go_wp2_with (first | refine wpList_exe (exec_lti (x := (n : Int)) (k := 8) _ (by rfl) (by rfl) E8.out) (by rfl) ?_)
      (refine (HA.out _).mono ?_; rintro e w1 ⟨rfl, b1⟩; replace HK := Lib.hid (HK.out.call b1); clear b1; go_wp2_with fail; go_ret; exact ⟨rfl, HK.out.b⟩)
    have H8 : Hid ((vs l).length = 8) := Lib.hid (by
      have h1 := of_decide_eq_false E8.out
      have h2 := HRi.out.len
      rw [vs_len, HL.out] at h2 ⊢
      omega)
    go_wp2_with (first | refine wpList_exe (exec_lti (x := (n : Int)) (k := 8) _ (by rfl) (by rfl) E8.out) (by rfl) ?_)
    go_loopw [18] (fun vi wr => ∃ k : Nat, k ≤ 26 ∧ vi = .int .i64 k ∧ Hid (Kn w.heap.size w wr [(w.heap.size, 34, #[.int .i64 r.c, .int .i64 r.e, .int .i64 r.r]), (w.heap.size + 1, 26, vC v.k v.n v.f v.s), (g2, 26, vC 1 v.n 0 ⟨#[]⟩)] [])) (fun vi _ => 26 - (intOf vi).toNat)
    case atStart => exact ⟨0, Nat.zero_le _, rfl, HK⟩
    case round =>
      clear HK
      obtain ⟨k, hk, rfl, HK⟩ := hrel
      by_cases hlt : k < 26
      case pos =>
        have hk2 : (k : Int) < 26 := by omega
        have hk3 : k < 9223372036854775807 := by omega
        obtain ⟨nm, hnm, hN⟩ : ∃ nm : ByteArray, (⟨#[110, 111, 110, 101]⟩ ++ ⟨#[UInt8.ofNat (97 + k)]⟩ : ByteArray) = nm ∧ Hid (Sto.named nm) := ⟨_, rfl, Lib.hid (by
          have e : (⟨#[110, 111, 110, 101]⟩ ++ ⟨#[UInt8.ofNat (97 + k)]⟩ : ByteArray).size = 5 := by rw [ByteArray.size_append]; rfl
          unfold Sto.named
          rw [e]
          decide)⟩
        have hn5 : (⟨#[110, 111, 110, 101]⟩ : ByteArray).size + (⟨#[UInt8.ofNat (97 + k)]⟩ : ByteArray).size ≤ 9223372036854775807 := by show 4 + 1 ≤ _; decide
        have h97 : 97 + k < 256 := by omega
        go_wp2_with (first | refine wpList_exe (exec_97 (k := k) _ (by rfl) (by rfl) hlt) (by rfl) ?_ | refine wpList_exe (exec_u8 (n := 97 + k) _ (by rfl) (by rfl) h97) (by rfl) ?_ | (refine wpList_one HK rfl _ rfl (c := UInt8.ofNat (97 + k)) rfl ?_; intro _ g6 HK' HC; replace HK := HK'; clear HK') | refine wpList_exe (exec_txt _ (by rfl) (by rfl) HC) (by rfl) ?_ | refine wpList_exe (exec_tac (x := ⟨#[UInt8.ofNat (97 + k)]⟩) (y := ⟨#[110, 111, 110, 101]⟩) _ (by rfl) (by rfl) hn5 hnm) (by rfl) ?_)
        clear hn5 h97 hnm
        go_loopw [20, 21] (fun vt vj wr => ∃ (j : Nat) (t : Bool), j ≤ n ∧ vt = .bool t ∧ vj = .int .i64 j ∧ Hid (((l.take j).any fun x => decide (x.v.name = nm)) = t) ∧ Hid (Kn w.heap.size w wr [(w.heap.size, 34, #[.int .i64 r.c, .int .i64 r.e, .int .i64 r.r]), (w.heap.size + 1, 26, vC v.k v.n v.f v.s), (g2, 26, vC 1 v.n 0 ⟨#[]⟩)] [])) (fun _ vj _ => n - (intOf vj).toNat)
        case atStart => exact ⟨0, false, Nat.zero_le _, rfl, rfl, Lib.hid rfl, HK⟩
        case round =>
          clear HK
          obtain ⟨j, t, hj, rfl, rfl, HT, HK⟩ := hrel
          have hj1 : (0 : Int) ≤ (j : Int) := by omega
          by_cases hlj : j < n
          case pos =>
            have hj2 : (j : Int) < (n : Int) := by omega
            have hj3 : j < 9223372036854775807 := by omega
            have hob := HO.out _ HK.out.b
            obtain ⟨x, hx, _⟩ := hob.s.get hlj
            obtain ⟨b, o, rfl, _⟩ := hob.s.at (Nat.lt_of_le_of_lt (Nat.zero_le _) hlj)
            have HX : Hid (∀ W, Below w.heap.size w W → ∀ i v, (obL x)[i]? = some v → W.cell? ⟨b, o + j * 11 + i, none⟩ = some v) := Lib.hid fun W hW => (HO.out _ hW).s.cells hx
            have HXx := Lib.hid hx
            clear hob hx
            cases t
            · go_wp2_with (first | refine wpList_exe (exec_obn (off := o + j * 11) _ (by rfl) (by rfl) (HX.out _ HK.out.b)) (by rfl) ?_ | refine wpList_exe (exec_seq (x := x.v.name) (y := nm) _ _ (by rfl) (by rfl) (by rfl) (b := decide (x.v.name = nm)) rfl) (by rfl) ?_ | refine wpList_exe (exec_add1 (j := j) _ (by rfl) (by rfl) hj3) (by rfl) ?_)
              exact ⟨⟨j + 1, decide (x.v.name = nm), by omega, rfl, by go_num, Lib.hid (by rw [Lay.take_succ HXx.out, List.any_append, HT.out]; simp), HK⟩, by simp [intOf]; omega⟩
            · go_wp2_with (first | refine wpList_exe (exec_add1 (j := j) _ (by rfl) (by rfl) hj3) (by rfl) ?_)
              exact ⟨⟨j + 1, true, by omega, rfl, by go_num, Lib.hid (by rw [Lay.take_succ HXx.out, List.any_append, HT.out]; rfl), HK⟩, by simp [intOf]; omega⟩
          case neg =>
          have hj2 : ¬ (j : Int) < (n : Int) := by omega
          have HE : Hid ((Sto.doo (vs l) r (Sto.cMake nm)).p.e = if t = true then 8 else 6) := Lib.hid (by
            have h := Sto.make_full HRi.out HOk.out H8.out hN.out
            have e : (Sto.fnd (vs l) nm).isSome = t := by
              rw [Sto.fnd_any]
              unfold vs
              rw [List.any_map, ← HT.out, show j = l.length by rw [HL.out]; omega, List.take_length]
              rfl
            rw [e] at h
            exact h)
          clear HT hj hlj hj1
          cases t
          · go_wp2_with (first | refine wpList_exe (kexec_lr HK 0 _ (by rfl) (by rfl) (by rfl)) (by rfl) ?_ | refine wpList_exe (exec_bmake (nm := nm) _ (by rfl) (by rfl)) (by rfl) ?_)
            refine (HD.out _ HK.out.b (Sto.cMake nm) 6 (by show 0 < 18446744073709551616; decide) (by show 0 < 18446744073709551616; decide) HE.out).mono ?_; rintro e w1 ⟨A4, n4, c4, pv, tt, O4, k4, d4, rfl, b1⟩
            replace HK := Lib.hid (HK.out.call b1); clear b1
            go_wp2_with (first | (refine wpList_arp HK rfl rfl ?_; intro _ g8 HK'; simp only [List.cons_append, List.nil_append] at HK'; replace HK := HK'; clear HK') | (refine wpList_srp (q := ⟨6, pv⟩) HK 3 rfl _ _ rfl rfl rfl rfl ?_; intro _ HK'; simp only [List.set] at HK'; replace HK := HK'; clear HK') | refine wpList_exe (krp_e HK 3 _ (by rfl) (by rfl) (by rfl)) (by rfl) ?_ | refine wpList_exe (exec_add1 (j := k) _ (by rfl) (by rfl) hk3) (by rfl) ?_)
            exact ⟨⟨k + 1, by omega, by go_num, Lib.hid (HK.out.takeL 3)⟩, by simp [intOf]; omega⟩
          · go_wp2_with (first | refine wpList_exe (kexec_lr HK 0 _ (by rfl) (by rfl) (by rfl)) (by rfl) ?_ | refine wpList_exe (exec_bmake (nm := nm) _ (by rfl) (by rfl)) (by rfl) ?_)
            refine (HD.out _ HK.out.b (Sto.cMake nm) 8 (by show 0 < 18446744073709551616; decide) (by show 0 < 18446744073709551616; decide) HE.out).mono ?_; rintro e w1 ⟨A4, n4, c4, pv, tt, O4, k4, d4, rfl, b1⟩
            replace HK := Lib.hid (HK.out.call b1); clear b1
            go_wp2_with (first | (refine wpList_arp HK rfl rfl ?_; intro _ g8 HK'; simp only [List.cons_append, List.nil_append] at HK'; replace HK := HK'; clear HK') | (refine wpList_srp (q := ⟨8, pv⟩) HK 3 rfl _ _ rfl rfl rfl rfl ?_; intro _ HK'; simp only [List.set] at HK'; replace HK := HK'; clear HK') | refine wpList_exe (krp_e HK 3 _ (by rfl) (by rfl) (by rfl)) (by rfl) ?_ | refine wpList_exe (exec_add1 (j := k) _ (by rfl) (by rfl) hk3) (by rfl) ?_)
            exact ⟨⟨k + 1, by omega, by go_num, Lib.hid (HK.out.takeL 3)⟩, by simp [intOf]; omega⟩
      case neg =>
      have hk2 : ¬ (k : Int) < 26 := by omega
      go_wp2_with fail
      (refine (HA.out _).mono ?_; rintro e w1 ⟨rfl, b1⟩; replace HK := Lib.hid (HK.out.call b1); clear b1; go_wp2_with fail; go_ret; exact ⟨rfl, HK.out.b⟩)
end Go.Proofs.Ytpkodjllljnleaa
