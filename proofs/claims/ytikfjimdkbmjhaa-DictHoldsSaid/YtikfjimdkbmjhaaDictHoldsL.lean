/-
  The law DictHolds: it returns true, and leaves what came in as it was.
  No condition but what the slice reads as, and that floats' bits fit 64.
-/
import Derived.Test.YtikfjimdkbmjhaaDictHoldsM
import Derived.Test.YtikfjimdkbmjhaaDictGetsL
import Derived.Test.YtikfjimdkbmjhaaLPr
set_option linter.unusedSimpArgs false
set_option linter.unusedVariables false
namespace Go.Proofs.Ytikfjimdkbmjhaa
open Go.RowKit

/-- A call's cells. -/
def opC (key : ByteArray) (vk vn : Int) (vf : Nat) (vs : ByteArray) (ok on : Int) (of : Nat) (os : ByteArray) (sw : Bool) : Array Value :=
  #[.string key, .int .i64 vk, .int .i64 vn, .int .u64 (vf : Int), .string vs, .int .i64 ok, .int .i64 on, .int .u64 (of : Int), .string os, .bool sw]
def opA (x : Dct.Op) : Array Value := opC x.key x.v.k x.v.n x.v.f x.v.s x.old.k x.old.n x.old.f x.old.s x.sw
theorem info_op : (Try.prog.info? 45).map (·.size) = some 10 := by kernel_rfl
section
variable {b0 : Nat} {w0 w : World} {L : List (Nat × TypeId × Array Value)} {R : List RowE} {ops : Array Oper} {rest : List Oper} {o : Oper} {a : Act} {Q : Exit → Act → World → Prop} {g : Nat}
theorem exec_lop {b off : Nat} {x : Dct.Op} (p : Operand) (ho : o.op = .load 45 p) (hx : a.eval p = .pointer (some ⟨b, off, none⟩)) (hc : ∀ j v, (opL x)[j]? = some v → w.cell? ⟨b, off + j, none⟩ = some v) :
    (execOp a.eval o).run Try.prog w = .ok (.value (.agg (opA x))) w := by
  have hr : w.rangeAt b off (opA x).toList := fun j v hj => hc j v hj
  have h := run_loadVar_mid (P := Try.prog) w b off 45 (opA x).toList _ hr Try.underlying45 rfl (by
    have h : (Try.prog.info? 45).map (·.size) = some (opA x).size := info_op
    simpa using h)
  unfold execOp
  simp only [ho, hx, Instr.loadAt, Instr.sureAddr, Sem.run_bind, Sem.run_pure, Result.andThen_ok, h, Array.toArray_toList]
theorem exec_ixo {b off n c i : Nat} (x q : Operand) (ho : o.op = .indexAddr 43 x q) (hx : a.eval x = .slice (some ⟨b, off, none⟩) n c) (hq : a.eval q = .int .i64 (i : Int)) (h : i < n) :
    (execOp a.eval o).run Try.prog w = .ok (.value (.pointer (some ⟨b, off + i * 10, none⟩))) w := by
  have h1 : (0 : Int) ≤ (i : Int) := by omega
  have h2 : (i : Int) < (n : Int) := by omega
  unfold execOp
  simp only [ho, hx, hq]
  go_simp
theorem wpList_exe {P : Program} {w : World} {v : Value} (hr : (execOp a.eval o).run P w = .ok (.value v) w) (hw : Region.wanted o (yielded ops a.tmps) = true) (h : wpList P ops Q rest (a.put o.dst v) w) : wpList P ops Q (o :: rest) a w :=
  wpList_of_exec hw hr h
theorem exec_gt {x k : Int} {b : Bool} (p : Operand) (ho : o.op = .binOp .gtr 3 p (.const (.int .i64 k)) 3) (hp : a.eval p = .int .i64 x) (hb : decide (k < x) = b) :
    (execOp a.eval o).run Try.prog w = .ok (.value (.bool b)) w := by
  have he : a.eval (.const (.int .i64 k)) = .int .i64 k := rfl
  subst hb
  unfold execOp
  simp only [ho, hp, he]
  go_simp
theorem wpList_ako (HK : Hid (Kn b0 w0 w L R)) (hgd : o.guard = none) (ho : o.op = .alloc 45)
    (h : ∀ w' g, Hid (Kn b0 w0 w' (L ++ [(g, 45, opC ⟨#[]⟩ 0 0 0 ⟨#[]⟩ 0 0 0 ⟨#[]⟩ false)]) R) → wpList Try.prog ops Q rest (a.put o.dst (.pointer (some ⟨g, 0, none⟩))) w') : wpList Try.prog ops Q (o :: rest) a w :=
  wpList_plain hgd fun K hK => by
    have h4 := h _ w.heap.size (Lib.hid (HK.out.alloc _ _))
    unfold Oper.wp execOp
    simp only [ho]
    unfold opC at h4
    go_simp
    exact hK _ _ h4
theorem wpList_so {p1 p2 : Dct.Op} (HK : Hid (Kn b0 w0 w L R)) (i : Nat) (hgd : o.guard = none) (p q : Operand) (ho : o.op = .store 45 p q) (hL : L[i]? = some (g, 45, opA p1)) (hx : a.eval p = .pointer (some ⟨g, 0, none⟩)) (hy : a.eval q = .agg (opA p2))
    (h : ∀ w', Hid (Kn b0 w0 w' (L.set i (g, 45, opA p2)) R) → wpList Try.prog ops Q rest (a.put o.dst undef) w') : wpList Try.prog ops Q (o :: rest) a w :=
  wpList_ss HK i hgd _ p q ho hL hx hy (by show 10 ≤ 10; decide) info_op (by simp [opA, opC, Value.oneCell']) fun w' h1 h2 => h w' (by
    have e : putCells (opA p1) 0 (opA p2).toList = opA p2 := by
      rw [putCells_all (vs := (opA p2).toList) (cs := opA p1) rfl, Array.toArray_toList]
    rw [e] at h1
    exact h1)
variable {key : ByteArray} {vk vn : Int} {vf : Nat} {vs : ByteArray} {ok on : Int} {of : Nat} {os : ByteArray} {sw : Bool}
theorem kexec_oV (HK : Hid (Kn b0 w0 w L R)) (i : Nat) (x : Operand) (ho : o.op = .load 25 x) (hL : L[i]? = some (g, 45, opC key vk vn vf vs ok on of os sw)) (hx : a.eval x = .pointer (some ⟨g, 1, none⟩)) :
    (execOp a.eval o).run Try.prog w = .ok (.value (.agg #[.int .i64 vk, .int .i64 vn, .int .u64 (vf : Int), .string vs])) w :=
  kexec_ls HK _ x ho i hL hx #[.int .i64 vk, .int .i64 vn, .int .u64 (vf : Int), .string vs] (fun j hj => by
    match j, hj with
    | 0, _ | 1, _ | 2, _ | 3, _ => rfl) Try.underlying25 info_v4
theorem kexec_oO (HK : Hid (Kn b0 w0 w L R)) (i : Nat) (x : Operand) (ho : o.op = .load 25 x) (hL : L[i]? = some (g, 45, opC key vk vn vf vs ok on of os sw)) (hx : a.eval x = .pointer (some ⟨g, 5, none⟩)) :
    (execOp a.eval o).run Try.prog w = .ok (.value (.agg #[.int .i64 ok, .int .i64 on, .int .u64 (of : Int), .string os])) w :=
  kexec_ls HK _ x ho i hL hx #[.int .i64 ok, .int .i64 on, .int .u64 (of : Int), .string os] (fun j hj => by
    match j, hj with
    | 0, _ | 1, _ | 2, _ | 3, _ => rfl) Try.underlying25 info_v4
theorem kexec_oK (HK : Hid (Kn b0 w0 w L R)) (i : Nat) (x : Operand) (ho : o.op = .load 9 x) (hL : L[i]? = some (g, 45, opC key vk vn vf vs ok on of os sw)) (hx : a.eval x = .pointer (some ⟨g, 0, none⟩)) :
    (execOp a.eval o).run Try.prog w = .ok (.value (.string key)) w := kexec_lc HK _ x ho i hL hx rfl Try.underlying9 rfl
theorem kexec_oS (HK : Hid (Kn b0 w0 w L R)) (i : Nat) (x : Operand) (ho : o.op = .load 4 x) (hL : L[i]? = some (g, 45, opC key vk vn vf vs ok on of os sw)) (hx : a.eval x = .pointer (some ⟨g, 9, none⟩)) :
    (execOp a.eval o).run Try.prog w = .ok (.value (.bool sw)) w := kexec_lc HK _ x ho i hL hx rfl Try.underlying4 rfl
theorem Kn.pick2 (h : Kn b0 w0 w L R) (i j : Nat) {x y : RowE} (hi : R[i]? = some x) (hj : R[j]? = some y) (hij : i ≠ j) : Kn b0 w0 w L [x, y] :=
  h.pick id (fun q => if q = 0 then i else j) (fun _ _ _ _ h => h) (fun a b ha hb hab => by
    have ha : a < 2 := ha
    have hb : b < 2 := hb
    split <;> split <;> omega) (fun _ _ h => h) (fun q z hq => by
    match q, hq with
    | 0, hq => simp at hq; subst hq; exact hi
    | 1, hq => simp at hq; subst hq; exact hj)
end
theorem Fit.perm {a b : List Dct.Pr} (h : Fit b) (hp : a.Perm b) : Fit a := ⟨fun x hx => h.fs x (hp.mem_iff.1 hx), by rw [hp.length_eq]; exact h.big⟩
theorem ops_at {w : World} {B : Nat} {A : Option Addr} {l : List Dct.Op} (hi : opLay.Reads w B A l) (hn : 0 < l.length) : ∃ b o, A = some ⟨b, o, none⟩ ∧ b < B ∧ ∀ i x, l[i]? = some x → ∀ j v, (opL x)[j]? = some v → w.cell? ⟨b, o + i * 10 + j, none⟩ = some v := by
  obtain ⟨b, o, rfl, hb, hc⟩ := hi hn
  exact ⟨b, o, rfl, hb, fun i x hx j v hv => hc i x hx j v hv⟩
set_option maxRecDepth 100000 in
set_option maxHeartbeats 25600000 in
theorem holds_yes (A : Option Addr) (c n : Nat) (os : List Dct.Op) (w : World) (hn : os.length = n) (hi : opLay.Reads w w.heap.size A os) (hf : ∀ x ∈ os, x.v.f < 18446744073709551616 ∧ x.old.f < 18446744073709551616) (hbig : n ≤ 1353245080300) :
    Calls Try.prog 6 #[.slice A n c] w (fun e w' => e = .returned (.bool true) ∧ Below w.heap.size w w') := by
  have HI0 := Lib.hid hi
  have HG : Hid (∀ k, k < n → ∃ x, os[k]? = some x ∧ x.v.f < 18446744073709551616) := Lib.hid fun k hk => by
    obtain ⟨x, hx⟩ := Lay.get_of (l := os) (k := k) (by rw [hn]; exact hk)
    exact ⟨x, hx, (hf x (List.mem_of_getElem? hx)).1⟩
  have HAw := Lib.hid (fun W => awake_any W)
  unfold IsB at HAw
  have HOn : Hid (0 < n → 0 < os.length) := Lib.hid fun h => by rw [hn]; exact h
  clear hi hf hn
  have HK := Lib.hid (((Kn.start w).nilR prLay).nilR prLay)
  simp only [List.cons_append, List.nil_append] at HK
  go_enter Try.func6, Try.ntmps6
  go_wp2_with fail
  go_loopw [3, 4, 5] (fun v3 v4 v5 wr => ∃ (k : Nat) (A1 A2 : Option Addr) (n1 c1 n2 c2 : Nat) (L P : List Dct.Pr), k ≤ n ∧ v3 = .slice A1 n1 c1 ∧ v4 = .slice A2 n2 c2 ∧ v5 = .int .i64 k ∧ Hid (Dct.Holds L P ∧ Fit L) ∧ Hid (Kn w.heap.size w wr [] [row prLay (.slice A2 n2 c2) P, row prLay (.slice A1 n1 c1) L])) (fun _ _ v5 _ => n - (intOf v5).toNat)
  case atStart => exact ⟨0, _, _, _, _, _, _, _, _, Nat.zero_le _, rfl, rfl, rfl, Lib.hid ⟨Dct.Holds.nil, ⟨fun x hx => by simp at hx, by decide⟩⟩, HK⟩
  case round =>
    clear HK
    obtain ⟨k, A1, A2, n1, c1, n2, c2, L, P, hk, rfl, rfl, rfl, HI, HK⟩ := hrel
    have hk1 : (0 : Int) ≤ (k : Int) := by omega
    have hk3 : k < 9223372036854775807 := by omega
    have hnP := Lib.hid (Lay.Own.reads (HK.out.own 0 rfl)).1
    have hnL := Lib.hid (Lay.Own.reads (HK.out.own 1 rfl)).1
    have HFL := Lib.hid HI.out.2
    have HFP := Lib.hid (HI.out.2.perm HI.out.1.perm)
    replace HI := Lib.hid HI.out.1
    have HN12 : Hid (n2 = n1) := Lib.hid (by rw [hnP.out, hnL.out]; exact HI.out.len)
    have hn8 : n2 ≤ 8 := by rw [HN12.out, hnL.out]; exact HI.out.right.len
    by_cases hgo : k < n ∧ k < 60
    case neg =>
      as_aux_lemma =>
        have hout : k = n ∨ (k < n ∧ 60 ≤ k) := by omega
        have HGet : Hid (∀ (W : World) (j : Nat) (y : Dct.Pr), P[j]? = some y → Sl W A1 n1 c1 L → Calls Try.prog 8 #[.slice A1 n1 c1, .string y.key] W (fun e w' => e = .returned (.tuple #[.agg #[.int .i64 y.val.k, .int .i64 y.val.n, .int .u64 (y.val.f : Int), .string y.val.s], .int .i64 0]) ∧ Below W.heap.size W w')) := Lib.hid fun W j y hy hs => by
          have h := get_any A1 c1 n1 L y.key W hs
          rw [(HI.out.get hy).1, (HI.out.get hy).2] at h
          exact h
        have HRt := Lib.hid (fun W (h : Sl W A1 n1 c1 L) => right_true HI.out.right h)
        have HG2 : Hid (∀ k, k < n2 → ∃ x, P[k]? = some x) := Lib.hid fun k hk => Lay.get_of (l := P) (k := k) (by rw [← hnP.out]; exact hk)
        clear hgo HG HI0 HOn
        have hn12 := HN12.out
        clear HN12
        subst hn12
        rcases hout with rfl | ⟨hlt, h60⟩
        all_goals
          (try have hk2 : (k : Int) < (n : Int) := by omega)
          (try have hk62 : ¬ (k : Int) < 60 := by omega)
          go_wp2_with fail
          go_loopw [15] (fun v15 wi => ∃ (j : Nat), j ≤ n2 ∧ v15 = .int .i64 j ∧ Hid (Kn w.heap.size w wi [] [row prLay (.slice A2 n2 c2) P, row prLay (.slice A1 n2 c1) L])) (fun v15 _ => n2 - (intOf v15).toNat)
          case atStart => exact ⟨0, Nat.zero_le _, rfl, HK⟩
          case round =>
            clear HK
            obtain ⟨j, hj, rfl, HK⟩ := hrel
            have hj1 : (0 : Int) ≤ (j : Int) := by omega
            have hj3 : j < 9223372036854775807 := by omega
            by_cases hjn : j < n2
            · have hj2 : (j : Int) < (n2 : Int) := by omega
              obtain ⟨y, hy⟩ := HG2.out j hjn
              obtain ⟨bP, oP, rfl, _⟩ := (Sl.own (HK.out.own 0 rfl) HFP.out).at (Nat.lt_of_le_of_lt (Nat.zero_le _) hjn)
              have HYy := Lib.hid hy
              have HGy := Lib.hid (fun W => HGet.out W j y hy)
              clear hy
              go_wp2_with (first | refine wpList_exe (exec_ix (i := j) _ _ (by rfl) (by rfl) (by rfl) hjn) (by rfl) ?_ | refine wpList_exe (exec_lpk (x := y) (off := oP + j * 5) _ (by rfl) (by rfl) ((Sl.own (HK.out.own 0 rfl) HFP.out).cells HYy.out)) (by rfl) ?_)
              refine (HGy.out _ (Sl.own (HK.out.own 1 rfl) HFL.out)).mono ?_; rintro e w1 ⟨rfl, b1⟩
              replace HK := Lib.hid (HK.out.call b1); clear b1
              go_wp2_with (first | (refine wpList_akv HK rfl rfl ?_; intro _ g16 HK'; simp only [List.cons_append, List.nil_append] at HK'; replace HK := HK'; clear HK') | (refine wpList_sv (f2 := y.val.f) HK 0 rfl _ _ rfl rfl rfl rfl ?_; intro _ HK'; simp only [List.set] at HK'; replace HK := HK'; clear HK'))
              have hb2 : (!decide (y.val = y.val)) = false := by simp
              refine wp_region_held_drew (S := (fun W => Hid (Kn w.heap.size w W [(g16, 25, vC y.val.k y.val.n y.val.f y.val.s)] [row prLay (.slice (some ⟨bP, oP, none⟩) n2 c2) P, row prLay (.slice A1 n2 c1) L]))) (by kernel_rfl) ?_ (fun hHeld => ?_)
              · (try dsimp only); exact Lib.hid HK.out.drew
              refine wpAnyH_take (i := 0) (oi := ⟨some 194, _, _, _, _, _⟩) (v := ?_) rfl (by kernel_rfl) (by kernel_rfl) (by kernel_rfl) (fun _ _ _ h => h) (Or.inl ⟨by rfl, ?_⟩) (by assumption) ?_
              rotate_left
              · (intro w hSw; refine Eq.trans (kexec_vv hSw 0 _ (by rfl) (by rfl) (by rfl)) ?_; with_reducible rfl)
              try simp only [Act.put, List.setIfInBounds_toArray, List.set_cons_zero, List.set_cons_succ]
              refine wpAnyH_take (i := 1) (oi := ⟨some 195, _, _, _, _, _⟩) (v := ?_) rfl (by kernel_rfl) (by kernel_rfl) (by kernel_rfl) (fun _ _ _ h => h) (Or.inl ⟨by rfl, ?_⟩) (by assumption) ?_
              rotate_left
              · (intro w hSw; (try dsimp only at hSw); go_simp; try with_reducible rfl)
              try simp only [Act.put, List.setIfInBounds_toArray, List.set_cons_zero, List.set_cons_succ]
              refine wpAnyH_take (i := 2) (oi := ⟨some 196, _, _, _, _, _⟩) (v := ?_) rfl (by kernel_rfl) (by kernel_rfl) (by kernel_rfl) (fun _ _ _ h => h) (Or.inl ⟨by rfl, ?_⟩) (by assumption) ?_
              rotate_left
              · (intro w hSw; (try dsimp only at hSw); go_simp; try with_reducible rfl)
              try simp only [Act.put, List.setIfInBounds_toArray, List.set_cons_zero, List.set_cons_succ]
              refine wpAnyH_take (i := 3) (oi := ⟨some 197, _, _, _, _, _⟩) (v := ?_) rfl (by kernel_rfl) (by kernel_rfl) (by kernel_rfl) (fun _ _ _ h => h) (Or.inl ⟨by rfl, ?_⟩) (by assumption) ?_
              rotate_left
              · (intro w hSw; refine Eq.trans (exec_ix (i := j) _ _ (by rfl) (by rfl) (by rfl) hjn) ?_; with_reducible rfl)
              try simp only [Act.put, List.setIfInBounds_toArray, List.set_cons_zero, List.set_cons_succ]
              refine wpAnyH_take (i := 4) (oi := ⟨some 198, _, _, _, _, _⟩) (v := ?_) rfl (by kernel_rfl) (by kernel_rfl) (by kernel_rfl) (fun _ _ _ h => h) (Or.inl ⟨by rfl, ?_⟩) (by assumption) ?_
              rotate_left
              · (intro w hSw; (try dsimp only at hSw); go_simp; try with_reducible rfl)
              try simp only [Act.put, List.setIfInBounds_toArray, List.set_cons_zero, List.set_cons_succ]
              refine wpAnyH_take (i := 5) (oi := ⟨some 199, _, _, _, _, _⟩) (v := ?_) rfl (by kernel_rfl) (by kernel_rfl) (by kernel_rfl) (fun _ _ _ h => h) (Or.inl ⟨by rfl, ?_⟩) (by assumption) ?_
              rotate_left
              · (intro w hSw; refine Eq.trans (exec_lpv (x := y) (off := oP + j * 5) _ (by rfl) (by rfl) rfl ((Sl.own (hSw.out.own 0 rfl) HFP.out).cells HYy.out)) ?_; with_reducible rfl)
              try simp only [Act.put, List.setIfInBounds_toArray, List.set_cons_zero, List.set_cons_succ]
              refine wpAnyH_take (i := 6) (oi := ⟨some 200, _, _, _, _, _⟩) (v := ?_) rfl (by kernel_rfl) (by kernel_rfl) (by kernel_rfl) (fun _ _ _ h => h) (Or.inl ⟨by rfl, ?_⟩) (by assumption) ?_
              rotate_left
              · (intro w hSw; refine Eq.trans (exec_vne (v := y.val) (u := y.val) _ _ (by rfl) (by rfl) (by rfl) hb2) ?_; with_reducible rfl)
              try simp only [Act.put, List.setIfInBounds_toArray, List.set_cons_zero, List.set_cons_succ]
              refine wpAnyH_take (i := 7) (oi := ⟨some 201, _, _, _, _, _⟩) (v := ?_) rfl (by kernel_rfl) (by kernel_rfl) (by kernel_rfl) (fun _ _ _ h => h) (Or.inl ⟨by rfl, ?_⟩) (by assumption) ?_
              rotate_left
              · (intro w hSw; (try dsimp only at hSw); go_simp; try with_reducible rfl)
              try simp only [Act.put, List.setIfInBounds_toArray, List.set_cons_zero, List.set_cons_succ]
              refine wpAnyH_take (i := 8) (oi := ⟨some 202, _, _, _, _, _⟩) (v := ?_) rfl (by kernel_rfl) (by kernel_rfl) (by kernel_rfl) (fun _ _ _ h => h) (Or.inl ⟨by rfl, ?_⟩) (by assumption) ?_
              rotate_left
              · (intro w hSw; (try dsimp only at hSw); go_simp; try with_reducible rfl)
              try simp only [Act.put, List.setIfInBounds_toArray, List.set_cons_zero, List.set_cons_succ]
              refine wpAnyH_take (i := 9) (oi := ⟨some 203, _, _, _, _, _⟩) (v := ?_) rfl (by kernel_rfl) (by kernel_rfl) (by kernel_rfl) (fun _ _ _ h => h) (Or.inl ⟨by rfl, ?_⟩) (by assumption) ?_
              rotate_left
              · (intro w hSw; (try dsimp only at hSw); go_simp; try with_reducible rfl)
              try simp only [Act.put, List.setIfInBounds_toArray, List.set_cons_zero, List.set_cons_succ]
              refine wpAnyH_take (i := 10) (oi := ⟨some 204, _, _, _, _, _⟩) (v := ?_) rfl (by kernel_rfl) (by kernel_rfl) (by kernel_rfl) (fun _ _ _ h => h) (Or.inl ⟨by rfl, ?_⟩) (by assumption) ?_
              rotate_left
              · (intro w hSw; (try dsimp only at hSw); go_simp; try with_reducible rfl)
              try simp only [Act.put, List.setIfInBounds_toArray, List.set_cons_zero, List.set_cons_succ]
              refine wpAnyH_done (by kernel_rfl) ?_ _
              go_wp2_with (first | refine wpList_exe (exec_add1 (j := j) _ (by rfl) (by rfl) hj3) (by rfl) ?_)
              exact ⟨⟨j + 1, hjn, rfl, Lib.hid (hHeld.out.takeL 0)⟩, by simp [intOf]; omega⟩
            · obtain rfl : j = n2 := by omega
              go_wp2_with fail
              refine (HAw.out _).mono ?_; rintro e w1 ⟨rfl, b1⟩
              replace HK := Lib.hid (HK.out.call b1); clear b1
              go_wp2_with fail
              refine (HRt.out _ (Sl.own (HK.out.own 1 rfl) HFL.out)).mono ?_; rintro e w1 ⟨rfl, b1⟩
              replace HK := Lib.hid (HK.out.call b1); clear b1
              go_wp2_with fail
              go_ret
              exact ⟨rfl, HK.out.b⟩
    case pos =>
    obtain ⟨hlt, hk60⟩ := hgo
    have hk2 : (k : Int) < (n : Int) := by omega
    have hk62 : (k : Int) < 60 := by omega
    obtain ⟨x, hx, hfx⟩ := HG.out k hlt
    obtain ⟨b, o, rfl, hb, hat⟩ := ops_at HI0.out (HOn.out (Nat.lt_of_le_of_lt (Nat.zero_le _) hlt))
    have HX : Hid (∀ W, Below w.heap.size w W → ∀ j v, (opL x)[j]? = some v → W.cell? ⟨b, o + k * 10 + j, none⟩ = some v) := Lib.hid fun W hW j v hv => (hW.cell (p := ⟨b, o + k * 10 + j, none⟩) hb).trans (hat k x hx j v hv)
    clear hx hat
    have HG2 : Hid (∀ k, k < n2 → ∃ x, P[k]? = some x) := Lib.hid fun k hk => Lay.get_of (l := P) (k := k) (by rw [← hnP.out]; exact hk)
    obtain ⟨key, ⟨vk, vn, vf, vs⟩, ⟨ok, om, of, os'⟩, sw⟩ := x
    simp only at hfx
    go_wp2_with (first | refine wpList_exe (exec_ixo (i := k) _ _ (by rfl) (by rfl) (by rfl) hlt) (by rfl) ?_ | refine wpList_exe (v := .agg (opA ⟨key, ⟨vk, vn, vf, vs⟩, ⟨ok, om, of, os'⟩, sw⟩)) (exec_lop (off := o + k * 10) _ (by rfl) (by rfl) (HX.out _ HK.out.b)) (by rfl) ?_ | (refine wpList_ako HK rfl rfl ?_; intro _ g6 HK'; simp only [List.nil_append] at HK'; replace HK := HK'; clear HK') | (refine wpList_so (p1 := ⟨⟨#[]⟩, ⟨0, 0, 0, ⟨#[]⟩⟩, ⟨0, 0, 0, ⟨#[]⟩⟩, false⟩) HK 0 rfl _ _ rfl rfl rfl rfl ?_; intro _ HK'; simp only [List.set] at HK'; replace HK := HK'; clear HK'))
    unfold opA at HK
    simp only at HK
    clear HX
    -- the key's place
    go_loopw [7, 8] (fun v7 v8 wi => ∃ (j : Nat) (z : Int), j ≤ n2 ∧ v7 = .int .i64 z ∧ v8 = .int .i64 j ∧ Hid (Dct.At P key j z) ∧ Hid (Kn w.heap.size w wi [(g6, 45, opC key vk vn vf vs ok om of os' sw)] [row prLay (.slice A2 n2 c2) P, row prLay (.slice A1 n1 c1) L])) (fun _ v8 _ => n2 - (intOf v8).toNat)
    case atStart => exact ⟨0, -1, Nat.zero_le _, rfl, rfl, Lib.hid (Dct.At.start P key), HK⟩
    case round =>
      clear HK
      obtain ⟨j, z, hj, rfl, rfl, HAt, HK⟩ := hrel
      have hj1 : (0 : Int) ≤ (j : Int) := by omega
      have hj3 : j < 9223372036854775807 := by omega
      by_cases hjn : j < n2
      · have hj2 : (j : Int) < (n2 : Int) := by omega
        obtain ⟨y, hy⟩ := HG2.out j hjn
        obtain ⟨bP, oP, rfl, _⟩ := (Sl.own (HK.out.own 0 rfl) HFP.out).at (Nat.lt_of_le_of_lt (Nat.zero_le _) hjn)
        have HYy := Lib.hid hy
        clear hy
        go_wp2_with fail
        by_cases he : y.key = key
        · have hb2 : decide (y.key = key) = true := decide_eq_true he
          have HN := Lib.hid (Dct.At.here HYy.out he)
          refine wp_region_held_drew (S := (fun W => Hid (Kn w.heap.size w W [(g6, 45, opC key vk vn vf vs ok om of os' sw)] [row prLay (.slice (some ⟨bP, oP, none⟩) n2 c2) P, row prLay (.slice A1 n1 c1) L]))) (by kernel_rfl) ?_ (fun hHeld => ?_)
          · (try dsimp only); exact Lib.hid HK.out.drew
          refine wpAnyH_take (i := 0) (oi := ⟨some 38, _, _, _, _, _⟩) (v := ?_) rfl (by kernel_rfl) (by kernel_rfl) (by kernel_rfl) (fun _ _ _ h => h) (Or.inl ⟨by rfl, ?_⟩) (by assumption) ?_
          rotate_left
          · (intro w hSw; (try dsimp only at hSw); go_simp; try with_reducible rfl)
          try simp only [Act.put, List.setIfInBounds_toArray, List.set_cons_zero, List.set_cons_succ]
          refine wpAnyH_take (i := 1) (oi := ⟨some 39, _, _, _, _, _⟩) (v := ?_) rfl (by kernel_rfl) (by kernel_rfl) (by kernel_rfl) (fun _ _ _ h => h) (Or.inl ⟨by rfl, ?_⟩) (by assumption) ?_
          rotate_left
          · (intro w hSw; (try dsimp only at hSw); go_simp; try with_reducible rfl)
          try simp only [Act.put, List.setIfInBounds_toArray, List.set_cons_zero, List.set_cons_succ]
          refine wpAnyH_take (i := 2) (oi := ⟨some 40, _, _, _, _, _⟩) (v := ?_) rfl (by kernel_rfl) (by kernel_rfl) (by kernel_rfl) (fun _ _ _ h => h) (Or.inl ⟨by rfl, ?_⟩) (by assumption) ?_
          rotate_left
          · (intro w hSw; refine Eq.trans (exec_ix (i := j) _ _ (by rfl) (by rfl) (by rfl) hjn) ?_; with_reducible rfl)
          try simp only [Act.put, List.setIfInBounds_toArray, List.set_cons_zero, List.set_cons_succ]
          refine wpAnyH_take (i := 3) (oi := ⟨some 41, _, _, _, _, _⟩) (v := ?_) rfl (by kernel_rfl) (by kernel_rfl) (by kernel_rfl) (fun _ _ _ h => h) (Or.inl ⟨by rfl, ?_⟩) (by assumption) ?_
          rotate_left
          · (intro w hSw; (try dsimp only at hSw); go_simp; try with_reducible rfl)
          try simp only [Act.put, List.setIfInBounds_toArray, List.set_cons_zero, List.set_cons_succ]
          refine wpAnyH_take (i := 4) (oi := ⟨some 42, _, _, _, _, _⟩) (v := ?_) rfl (by kernel_rfl) (by kernel_rfl) (by kernel_rfl) (fun _ _ _ h => h) (Or.inl ⟨by rfl, ?_⟩) (by assumption) ?_
          rotate_left
          · (intro w hSw; refine Eq.trans (exec_lpk (x := y) (off := oP + j * 5) _ (by rfl) (by rfl) ((Sl.own (hSw.out.own 0 rfl) HFP.out).cells HYy.out)) ?_; with_reducible rfl)
          try simp only [Act.put, List.setIfInBounds_toArray, List.set_cons_zero, List.set_cons_succ]
          refine wpAnyH_take (i := 5) (oi := ⟨some 43, _, _, _, _, _⟩) (v := ?_) rfl (by kernel_rfl) (by kernel_rfl) (by kernel_rfl) (fun _ _ _ h => h) (Or.inl ⟨by rfl, ?_⟩) (by assumption) ?_
          rotate_left
          · (intro w hSw; (try dsimp only at hSw); go_simp; try with_reducible rfl)
          try simp only [Act.put, List.setIfInBounds_toArray, List.set_cons_zero, List.set_cons_succ]
          refine wpAnyH_take (i := 6) (oi := ⟨some 44, _, _, _, _, _⟩) (v := ?_) rfl (by kernel_rfl) (by kernel_rfl) (by kernel_rfl) (fun _ _ _ h => h) (Or.inl ⟨by rfl, ?_⟩) (by assumption) ?_
          rotate_left
          · (intro w hSw; refine Eq.trans (kexec_oK hSw 0 _ (by rfl) (by rfl) (by rfl)) ?_; with_reducible rfl)
          try simp only [Act.put, List.setIfInBounds_toArray, List.set_cons_zero, List.set_cons_succ]
          refine wpAnyH_take (i := 7) (oi := ⟨some 45, _, _, _, _, _⟩) (v := ?_) rfl (by kernel_rfl) (by kernel_rfl) (by kernel_rfl) (fun _ _ _ h => h) (Or.inl ⟨by rfl, ?_⟩) (by assumption) ?_
          rotate_left
          · (intro w hSw; refine Eq.trans (exec_seq _ _ (by rfl) (by rfl) (by rfl) hb2) ?_; with_reducible rfl)
          try simp only [Act.put, List.setIfInBounds_toArray, List.set_cons_zero, List.set_cons_succ]
          refine wpAnyH_done (by kernel_rfl) ?_ _
          go_wp2_with (first | refine wpList_exe (exec_add1 (j := j) _ (by rfl) (by rfl) hj3) (by rfl) ?_)
          exact ⟨⟨j + 1, (j : Int), hjn, rfl, rfl, HN, hHeld⟩, by simp [intOf]; omega⟩
        · have hb2 : decide (y.key = key) = false := decide_eq_false he
          have HN := Lib.hid (HAt.out.next HYy.out he)
          refine wp_region_held_drew (S := (fun W => Hid (Kn w.heap.size w W [(g6, 45, opC key vk vn vf vs ok om of os' sw)] [row prLay (.slice (some ⟨bP, oP, none⟩) n2 c2) P, row prLay (.slice A1 n1 c1) L]))) (by kernel_rfl) ?_ (fun hHeld => ?_)
          · (try dsimp only); exact Lib.hid HK.out.drew
          refine wpAnyH_take (i := 0) (oi := ⟨some 38, _, _, _, _, _⟩) (v := ?_) rfl (by kernel_rfl) (by kernel_rfl) (by kernel_rfl) (fun _ _ _ h => h) (Or.inl ⟨by rfl, ?_⟩) (by assumption) ?_
          rotate_left
          · (intro w hSw; (try dsimp only at hSw); go_simp; try with_reducible rfl)
          try simp only [Act.put, List.setIfInBounds_toArray, List.set_cons_zero, List.set_cons_succ]
          refine wpAnyH_take (i := 1) (oi := ⟨some 39, _, _, _, _, _⟩) (v := ?_) rfl (by kernel_rfl) (by kernel_rfl) (by kernel_rfl) (fun _ _ _ h => h) (Or.inl ⟨by rfl, ?_⟩) (by assumption) ?_
          rotate_left
          · (intro w hSw; (try dsimp only at hSw); go_simp; try with_reducible rfl)
          try simp only [Act.put, List.setIfInBounds_toArray, List.set_cons_zero, List.set_cons_succ]
          refine wpAnyH_take (i := 2) (oi := ⟨some 40, _, _, _, _, _⟩) (v := ?_) rfl (by kernel_rfl) (by kernel_rfl) (by kernel_rfl) (fun _ _ _ h => h) (Or.inl ⟨by rfl, ?_⟩) (by assumption) ?_
          rotate_left
          · (intro w hSw; refine Eq.trans (exec_ix (i := j) _ _ (by rfl) (by rfl) (by rfl) hjn) ?_; with_reducible rfl)
          try simp only [Act.put, List.setIfInBounds_toArray, List.set_cons_zero, List.set_cons_succ]
          refine wpAnyH_take (i := 3) (oi := ⟨some 41, _, _, _, _, _⟩) (v := ?_) rfl (by kernel_rfl) (by kernel_rfl) (by kernel_rfl) (fun _ _ _ h => h) (Or.inl ⟨by rfl, ?_⟩) (by assumption) ?_
          rotate_left
          · (intro w hSw; (try dsimp only at hSw); go_simp; try with_reducible rfl)
          try simp only [Act.put, List.setIfInBounds_toArray, List.set_cons_zero, List.set_cons_succ]
          refine wpAnyH_take (i := 4) (oi := ⟨some 42, _, _, _, _, _⟩) (v := ?_) rfl (by kernel_rfl) (by kernel_rfl) (by kernel_rfl) (fun _ _ _ h => h) (Or.inl ⟨by rfl, ?_⟩) (by assumption) ?_
          rotate_left
          · (intro w hSw; refine Eq.trans (exec_lpk (x := y) (off := oP + j * 5) _ (by rfl) (by rfl) ((Sl.own (hSw.out.own 0 rfl) HFP.out).cells HYy.out)) ?_; with_reducible rfl)
          try simp only [Act.put, List.setIfInBounds_toArray, List.set_cons_zero, List.set_cons_succ]
          refine wpAnyH_take (i := 5) (oi := ⟨some 43, _, _, _, _, _⟩) (v := ?_) rfl (by kernel_rfl) (by kernel_rfl) (by kernel_rfl) (fun _ _ _ h => h) (Or.inl ⟨by rfl, ?_⟩) (by assumption) ?_
          rotate_left
          · (intro w hSw; (try dsimp only at hSw); go_simp; try with_reducible rfl)
          try simp only [Act.put, List.setIfInBounds_toArray, List.set_cons_zero, List.set_cons_succ]
          refine wpAnyH_take (i := 6) (oi := ⟨some 44, _, _, _, _, _⟩) (v := ?_) rfl (by kernel_rfl) (by kernel_rfl) (by kernel_rfl) (fun _ _ _ h => h) (Or.inl ⟨by rfl, ?_⟩) (by assumption) ?_
          rotate_left
          · (intro w hSw; refine Eq.trans (kexec_oK hSw 0 _ (by rfl) (by rfl) (by rfl)) ?_; with_reducible rfl)
          try simp only [Act.put, List.setIfInBounds_toArray, List.set_cons_zero, List.set_cons_succ]
          refine wpAnyH_take (i := 7) (oi := ⟨some 45, _, _, _, _, _⟩) (v := ?_) rfl (by kernel_rfl) (by kernel_rfl) (by kernel_rfl) (fun _ _ _ h => h) (Or.inl ⟨by rfl, ?_⟩) (by assumption) ?_
          rotate_left
          · (intro w hSw; refine Eq.trans (exec_seq _ _ (by rfl) (by rfl) (by rfl) hb2) ?_; with_reducible rfl)
          try simp only [Act.put, List.setIfInBounds_toArray, List.set_cons_zero, List.set_cons_succ]
          refine wpAnyH_done (by kernel_rfl) ?_ _
          go_wp2_with (first | refine wpList_exe (exec_add1 (j := j) _ (by rfl) (by rfl) hj3) (by rfl) ?_)
          exact ⟨⟨j + 1, z, hjn, rfl, rfl, HN, hHeld⟩, by simp [intOf]; omega⟩
      · obtain rfl : j = n2 := by omega
        have hjlt : ¬ (j : Int) < (j : Int) := by omega
        rcases HAt.out with ⟨rfl, hnone⟩ | ⟨a, xa, rfl, hxa, hka⟩
        · have hfn := Dct.none_of HI.out hnP.out.symm hnone
          have hgv := (Dct.gt_none HI.out.right hfn).1
          have HNo := Lib.hid hnone
          have HFn := Lib.hid hfn
          have hz0 : ¬ (0 : Int) ≤ -1 := by decide
          clear hnone hfn
          go_upto_block 4 with (first | (refine wpList_akv HK rfl rfl ?_; intro _ g9 HK'; simp only [List.cons_append, List.nil_append] at HK'; replace HK := HK'; clear HK'))
          go_cut [3, 10] (fun v3 v10 wx => ∃ (A3 : Option Addr) (n3 c3 : Nat) (L' : List Dct.Pr) (E : Int), v3 = .slice A3 n3 c3 ∧ v10 = .int .i64 E ∧ Hid (Dct.Sw L key ⟨vk, vn, vf, vs⟩ ⟨ok, om, of, os'⟩ sw L' E) ∧ Hid (Fit L') ∧ Hid (Kn w.heap.size w wx [(g6, 45, opC key vk vn vf vs ok om of os' sw), (g9, 25, vC 0 0 0 ⟨#[]⟩)] [row prLay (.slice A2 j c2) P, row prLay (.slice A3 n3 c3) L']))
          case first =>
            as_aux_lemma =>
              cases sw with
              | true =>
                have HSw := Lib.hid (Dct.sw_swap HI.out.right key ⟨vk, vn, vf, vs⟩ ⟨ok, om, of, os'⟩)
                have HF' := Lib.hid (HFL.out.sw (k := key) (o := ⟨ok, om, of, os'⟩) (v := ⟨vk, vn, vf, vs⟩) hfx)
                have HC := Lib.hid (fun W (h : Sl W A1 n1 c1 L) => swap_any A1 c1 n1 L key ⟨ok, om, of, os'⟩ ⟨vk, vn, vf, vs⟩ W h hfx)
                unfold IsPVE vv at HC
                (try simp only at HC)
                generalize Dct.swL L key ⟨ok, om, of, os'⟩ ⟨vk, vn, vf, vs⟩ = L' at *
                generalize Dct.swE L key ⟨ok, om, of, os'⟩ ⟨vk, vn, vf, vs⟩ = E at *
                generalize Dct.swV L key ⟨ok, om, of, os'⟩ = tv at *
                go_wp2_with (first | refine wpList_exe (kexec_oS HK 0 _ (by rfl) (by rfl) (by rfl)) (by rfl) ?_ | refine wpList_exe (kexec_oK HK 0 _ (by rfl) (by rfl) (by rfl)) (by rfl) ?_ | refine wpList_exe (kexec_oV HK 0 _ (by rfl) (by rfl) (by rfl)) (by rfl) ?_ | refine wpList_exe (kexec_oO HK 0 _ (by rfl) (by rfl) (by rfl)) (by rfl) ?_)
                refine (HC.out _ (Sl.own (HK.out.own 1 rfl) HFL.out)).mono ?_; rintro e w1 ⟨A3, n3, c3, rfl, o1, b1⟩
                replace HK := Lib.hid (HK.out.called b1 o1)
                simp only [List.cons_append, List.nil_append] at HK
                go_wp2_with fail
                go_meet
                exact ⟨A3, n3, c3, L', E, rfl, rfl, HSw, HF', Lib.hid (HK.out.pick2 0 2 rfl rfl (by decide))⟩
              | false =>
                by_cases hve : (⟨vk, vn, vf, vs⟩ : Val.V) = Dct.emp
                · have hve2 := Lib.hid (show decide ((⟨vk, vn, vf, vs⟩ : Val.V) = ⟨0, 0, 0, ⟨#[]⟩⟩) = true from decide_eq_true hve)
                  have HSw := Lib.hid (Dct.sw_cutE HI.out.right key ⟨ok, om, of, os'⟩)
                  have HF' := Lib.hid (HFL.out.ct key)
                  have HC := Lib.hid (fun W (h : Sl W A1 n1 c1 L) => cut_any A1 c1 n1 L key W h)
                  rw [← hve] at HSw
                  unfold IsPVE vv at HC
                  (try simp only at HC)
                  generalize Dct.ctL L key = L' at *
                  generalize Dct.gtE L key = E at *
                  generalize Dct.gtV L key = tv at *
                  go_wp2_with (first | refine wpList_exe (kexec_oS HK 0 _ (by rfl) (by rfl) (by rfl)) (by rfl) ?_ | refine wpList_exe (kexec_oK HK 0 _ (by rfl) (by rfl) (by rfl)) (by rfl) ?_ | refine wpList_exe (kexec_oV HK 0 _ (by rfl) (by rfl) (by rfl)) (by rfl) ?_ | refine wpList_exe (exec_veq (v := ⟨vk, vn, vf, vs⟩) (u := ⟨0, 0, 0, ⟨#[]⟩⟩) _ _ (by rfl) (by rfl) (by rfl) hve2.out) (by rfl) ?_)
                  refine (HC.out _ (Sl.own (HK.out.own 1 rfl) HFL.out)).mono ?_; rintro e w1 ⟨A3, n3, c3, rfl, o1, b1⟩
                  replace HK := Lib.hid (HK.out.called b1 o1)
                  simp only [List.cons_append, List.nil_append] at HK
                  go_wp2_with fail
                  go_meet
                  exact ⟨A3, n3, c3, L', E, rfl, rfl, HSw, HF', Lib.hid (HK.out.pick2 0 2 rfl rfl (by decide))⟩
                · have hve2 := Lib.hid (show decide ((⟨vk, vn, vf, vs⟩ : Val.V) = ⟨0, 0, 0, ⟨#[]⟩⟩) = false from decide_eq_false hve)
                  have HSw := Lib.hid (Dct.sw_putE HI.out.right key ⟨ok, om, of, os'⟩ hve)
                  have HF' := Lib.hid (HFL.out.pt (k := key) (v := ⟨vk, vn, vf, vs⟩) hfx)
                  have HC := Lib.hid (fun W (h : Sl W A1 n1 c1 L) => put_any A1 c1 n1 L key ⟨vk, vn, vf, vs⟩ W h hfx)
                  unfold IsPE vv at HC
                  (try simp only at HC)
                  generalize Dct.ptL L key ⟨vk, vn, vf, vs⟩ = L' at *
                  generalize Dct.ptE L key ⟨vk, vn, vf, vs⟩ = E at *
                  go_wp2_with (first | refine wpList_exe (kexec_oS HK 0 _ (by rfl) (by rfl) (by rfl)) (by rfl) ?_ | refine wpList_exe (kexec_oK HK 0 _ (by rfl) (by rfl) (by rfl)) (by rfl) ?_ | refine wpList_exe (kexec_oV HK 0 _ (by rfl) (by rfl) (by rfl)) (by rfl) ?_ | refine wpList_exe (exec_veq (v := ⟨vk, vn, vf, vs⟩) (u := ⟨0, 0, 0, ⟨#[]⟩⟩) _ _ (by rfl) (by rfl) (by rfl) hve2.out) (by rfl) ?_)
                  refine (HC.out _ (Sl.own (HK.out.own 1 rfl) HFL.out)).mono ?_; rintro e w1 ⟨A3, n3, c3, rfl, o1, b1⟩
                  replace HK := Lib.hid (HK.out.called b1 o1)
                  simp only [List.cons_append, List.nil_append] at HK
                  go_wp2_with fail
                  go_meet
                  exact ⟨A3, n3, c3, L', E, rfl, rfl, HSw, HF', Lib.hid (HK.out.pick2 0 2 rfl rfl (by decide))⟩
          case rest =>
          clear HK
          obtain ⟨A3, n3, c3, L', E, rfl, rfl, HSW, HF', HK⟩ := hcut
          have hgvo : Dct.gtV L key = Dct.emp := hgv
          clear hgv
          go_upto_region 21 with fail
          go_cut [101] (fun v101 wx => v101 = .bool false ∧ Hid (Kn w.heap.size w wx [(g6, 45, opC key vk vn vf vs ok om of os' sw), (g9, 25, vC 0 0 0 ⟨#[]⟩)] [row prLay (.slice A2 j c2) P, row prLay (.slice A3 n3 c3) L']))
          case first =>
            as_aux_lemma =>
              cases sw with
              | false =>
                go_wp2_with (first | refine wpList_exe (kexec_oS HK 0 _ (by rfl) (by rfl) (by rfl)) (by rfl) ?_)
                go_meet
                exact ⟨rfl, HK⟩
              | true =>
                have h9 := HSW.out.nine rfl
                rw [hgvo] at h9
                by_cases hno : Dct.emp = (⟨ok, om, of, os'⟩ : Val.V)
                · have hno2 := Lib.hid (show (!decide ((⟨0, 0, 0, ⟨#[]⟩⟩ : Val.V) = ⟨ok, om, of, os'⟩)) = false by rw [show decide ((⟨0, 0, 0, ⟨#[]⟩⟩ : Val.V) = ⟨ok, om, of, os'⟩) = true from decide_eq_true hno]; rfl)
                  have hE9 : (E == 9) = false := by
                    have : ¬ E = 9 := fun h => h9.1 h hno
                    simpa using this
                  clear h9 hno
                  go_wp2_with (first | refine wpList_exe (kexec_oS HK 0 _ (by rfl) (by rfl) (by rfl)) (by rfl) ?_ | refine wpList_exe (kexec_oO HK 0 _ (by rfl) (by rfl) (by rfl)) (by rfl) ?_ | refine wpList_exe (kexec_vv HK 1 _ (by rfl) (by rfl) (by rfl)) (by rfl) ?_ | refine wpList_exe (exec_vne (v := ⟨0, 0, 0, ⟨#[]⟩⟩) (u := ⟨ok, om, of, os'⟩) _ _ (by rfl) (by rfl) (by rfl) hno2.out) (by rfl) ?_)
                  go_meet
                  exact ⟨rfl, HK⟩
                · have hno2 := Lib.hid (show (!decide ((⟨0, 0, 0, ⟨#[]⟩⟩ : Val.V) = ⟨ok, om, of, os'⟩)) = true by rw [show decide ((⟨0, 0, 0, ⟨#[]⟩⟩ : Val.V) = ⟨ok, om, of, os'⟩) = false from decide_eq_false hno]; rfl)
                  obtain rfl : E = 9 := h9.2 hno
                  clear h9 hno
                  go_wp2_with (first | refine wpList_exe (kexec_oS HK 0 _ (by rfl) (by rfl) (by rfl)) (by rfl) ?_ | refine wpList_exe (kexec_oO HK 0 _ (by rfl) (by rfl) (by rfl)) (by rfl) ?_ | refine wpList_exe (kexec_vv HK 1 _ (by rfl) (by rfl) (by rfl)) (by rfl) ?_ | refine wpList_exe (exec_vne (v := ⟨0, 0, 0, ⟨#[]⟩⟩) (u := ⟨ok, om, of, os'⟩) _ _ (by rfl) (by rfl) (by rfl) hno2.out) (by rfl) ?_)
                  go_meet
                  exact ⟨rfl, HK⟩
          case rest =>
          clear HK
          obtain ⟨rfl, HK⟩ := hcut
          by_cases hE : E = 0
          case neg =>
            as_aux_lemma =>
              have hE2 : (E != 0) = true := by simpa using hE
              obtain rfl := HSW.out.stays hE
              have HWhy := HSW.out.why hE
              rw [hgvo] at HWhy
              have HR := Lib.hid (fun W => rcheck_any ⟨vk, vn, vf, vs⟩ W hfx)
              unfold IsE vv at HR
              simp only at HR
              have HIn : Hid (Dct.Holds L' P ∧ Fit L') := Lib.hid ⟨HI.out, HFL.out⟩
              clear HSW hE
              have hfb : ∃ fb : Bool, ((j : Int) == 8) = fb ∧ (fb = true ∨ ¬ L'.length = 8) := by
                by_cases h8 : j = 8
                · exact ⟨true, by rw [h8]; rfl, .inl rfl⟩
                · refine ⟨false, by simp; omega, .inr fun h => h8 ?_⟩
                  rw [hnP.out, HI.out.len]; exact h
              obtain ⟨fb, h8, hfb⟩ := hfb
              have HWhy2 : fb = true ∨ 64 < key.size ∨ ¬ Val.chk ⟨vk, vn, vf, vs⟩ = 0 ∨ (sw = true ∧ ¬ Dct.emp = (⟨ok, om, of, os'⟩ : Val.V)) ∨ (⟨vk, vn, vf, vs⟩ : Val.V) = Dct.emp := by
                rcases HWhy with h | h | h | h | h
                · rcases hfb with hfb | hfb
                  · exact .inl hfb
                  · exact absurd h.2 hfb
                · exact .inr (.inl h)
                · exact .inr (.inr (.inl h))
                · exact .inr (.inr (.inr (.inl h)))
                · exact .inr (.inr (.inr (.inr h.2)))
              clear HWhy hfb
              go_upto_region 24 with fail
              go_cut [11] (fun v11 wx => v11 = .bool fb ∧ Hid (Kn w.heap.size w wx [(g6, 45, opC key vk vn vf vs ok om of os' sw), (g9, 25, vC 0 0 0 ⟨#[]⟩)] [row prLay (.slice A2 j c2) P, row prLay (.slice A3 n3 c3) L']))
              case first =>
                as_aux_lemma =>
                  cases fb
                  all_goals
                    go_wp2_with fail
                    go_meet
                    exact ⟨rfl, HK⟩
              case rest =>
              clear HK
              obtain ⟨rfl, HK⟩ := hcut
              have hbb : ∃ bb : Bool, bb = decide (64 < key.size ∨ ¬ Val.chk ⟨vk, vn, vf, vs⟩ = 0) := ⟨_, rfl⟩
              obtain ⟨bb, hbb⟩ := hbb
              go_upto_region 25 with fail
              go_cut [12] (fun v12 wx => v12 = .bool bb ∧ Hid (Kn w.heap.size w wx [(g6, 45, opC key vk vn vf vs ok om of os' sw), (g9, 25, vC 0 0 0 ⟨#[]⟩)] [row prLay (.slice A2 j c2) P, row prLay (.slice A3 n3 c3) L']))
              case first =>
                as_aux_lemma =>
                  generalize Val.chk ⟨vk, vn, vf, vs⟩ = zc at *
                  by_cases h64 : 64 < key.size
                  · have h642 : 64 < (key.size : Int) := by omega
                    have h643 := Lib.hid (show decide (64 < (key.size : Int)) = true from decide_eq_true h642)
                    clear h642
                    obtain rfl : bb = true := hbb.trans (decide_eq_true (.inl h64))
                    clear hbb h64
                    go_wp2_with (first | refine wpList_exe (kexec_oK HK 0 _ (by rfl) (by rfl) (by rfl)) (by rfl) ?_ | refine wpList_exe (exec_gt (x := (key.size : Int)) _ (by rfl) (by rfl) h643.out) (by rfl) ?_)
                    go_meet
                    exact ⟨rfl, HK⟩
                  · have h642 : ¬ 64 < (key.size : Int) := by omega
                    have h643 := Lib.hid (show decide (64 < (key.size : Int)) = false from decide_eq_false h642)
                    clear h642
                    by_cases hzc : zc = 0
                    · obtain rfl : bb = false := hbb.trans (decide_eq_false fun h => h.elim h64 fun h => h hzc)
                      clear hbb h64
                      subst hzc
                      go_wp2_with (first | refine wpList_exe (kexec_oK HK 0 _ (by rfl) (by rfl) (by rfl)) (by rfl) ?_ | refine wpList_exe (kexec_oV HK 0 _ (by rfl) (by rfl) (by rfl)) (by rfl) ?_ | refine wpList_exe (exec_gt (x := (key.size : Int)) _ (by rfl) (by rfl) h643.out) (by rfl) ?_)
                      refine (HR.out _).mono ?_; rintro e w1 ⟨rfl, b1⟩
                      replace HK := Lib.hid (HK.out.call b1); clear b1
                      go_wp2_with fail
                      go_meet
                      exact ⟨rfl, HK⟩
                    · obtain rfl : bb = true := hbb.trans (decide_eq_true (.inr hzc))
                      have hzc2 : (zc != 0) = true := by simpa using hzc
                      clear hbb h64
                      go_wp2_with (first | refine wpList_exe (kexec_oK HK 0 _ (by rfl) (by rfl) (by rfl)) (by rfl) ?_ | refine wpList_exe (kexec_oV HK 0 _ (by rfl) (by rfl) (by rfl)) (by rfl) ?_ | refine wpList_exe (exec_gt (x := (key.size : Int)) _ (by rfl) (by rfl) h643.out) (by rfl) ?_)
                      refine (HR.out _).mono ?_; rintro e w1 ⟨rfl, b1⟩
                      replace HK := Lib.hid (HK.out.call b1); clear b1
                      go_wp2_with fail
                      go_meet
                      exact ⟨rfl, HK⟩
              case rest =>
              clear HK HR
              obtain ⟨rfl, HK⟩ := hcut
              have HEnd : Hid (∀ W, Hid (Kn w.heap.size w W [(g6, 45, opC key vk vn vf vs ok om of os' sw), (g9, 25, vC 0 0 0 ⟨#[]⟩)] [row prLay (.slice A2 j c2) P, row prLay (.slice A3 n3 c3) L']) → Hid (Kn w.heap.size w W [] [row prLay (.slice A2 j c2) P, row prLay (.slice A3 n3 c3) L'])) := Lib.hid fun W h => Lib.hid (h.out.takeL 0)
              cases fb with
              | true =>
                clear HWhy2 hbb
                go_wp2_with fail
                exact ⟨⟨k + 1, A3, A2, n3, c3, j, c2, L', P, hlt, rfl, rfl, by go_num, HIn, HEnd.out _ HK⟩, by simp [intOf]; omega⟩
              | false =>
              cases bb with
              | true =>
                clear HWhy2 hbb
                go_wp2_with fail
                exact ⟨⟨k + 1, A3, A2, n3, c3, j, c2, L', P, hlt, rfl, rfl, by go_num, HIn, HEnd.out _ HK⟩, by simp [intOf]; omega⟩
              | false =>
              have hnb : ¬ (64 < key.size ∨ ¬ Val.chk ⟨vk, vn, vf, vs⟩ = 0) := of_decide_eq_false hbb.symm
              have hw3 : (sw = true ∧ ¬ Dct.emp = (⟨ok, om, of, os'⟩ : Val.V)) ∨ (⟨vk, vn, vf, vs⟩ : Val.V) = Dct.emp := by
                rcases HWhy2 with h | h | h | h | h
                · cases h
                · exact absurd (.inl h) hnb
                · exact absurd (.inr h) hnb
                · exact .inl h
                · exact .inr h
              clear HWhy2 hbb hnb
              by_cases hsn : sw = true ∧ ¬ Dct.emp = (⟨ok, om, of, os'⟩ : Val.V)
              · obtain ⟨rfl, hno⟩ := hsn
                have hno2 := Lib.hid (show (!decide ((⟨0, 0, 0, ⟨#[]⟩⟩ : Val.V) = ⟨ok, om, of, os'⟩)) = true by rw [show decide ((⟨0, 0, 0, ⟨#[]⟩⟩ : Val.V) = ⟨ok, om, of, os'⟩) = false from decide_eq_false hno]; rfl)
                clear hw3 hno
                go_wp2_with (first | refine wpList_exe (kexec_oS HK 0 _ (by rfl) (by rfl) (by rfl)) (by rfl) ?_ | refine wpList_exe (kexec_oO HK 0 _ (by rfl) (by rfl) (by rfl)) (by rfl) ?_ | refine wpList_exe (kexec_oV HK 0 _ (by rfl) (by rfl) (by rfl)) (by rfl) ?_ | refine wpList_exe (kexec_vv HK 1 _ (by rfl) (by rfl) (by rfl)) (by rfl) ?_ | refine wpList_exe (exec_add1 (j := k) _ (by rfl) (by rfl) hk3) (by rfl) ?_ | refine wpList_exe (exec_vne (v := ⟨0, 0, 0, ⟨#[]⟩⟩) (u := ⟨ok, om, of, os'⟩) _ _ (by rfl) (by rfl) (by rfl) hno2.out) (by rfl) ?_)
                exact ⟨⟨k + 1, A3, A2, n3, c3, j, c2, L', P, hlt, rfl, rfl, rfl, HIn, HEnd.out _ HK⟩, by simp [intOf]; omega⟩
              · have hve : (⟨vk, vn, vf, vs⟩ : Val.V) = Dct.emp := hw3.resolve_left hsn
                have hve2 := Lib.hid (show decide ((⟨vk, vn, vf, vs⟩ : Val.V) = ⟨0, 0, 0, ⟨#[]⟩⟩) = true from decide_eq_true hve)
                cases sw with
                | false =>
                  clear hw3 hve hsn
                  go_wp2_with (first | refine wpList_exe (kexec_oS HK 0 _ (by rfl) (by rfl) (by rfl)) (by rfl) ?_ | refine wpList_exe (kexec_oO HK 0 _ (by rfl) (by rfl) (by rfl)) (by rfl) ?_ | refine wpList_exe (kexec_oV HK 0 _ (by rfl) (by rfl) (by rfl)) (by rfl) ?_ | refine wpList_exe (kexec_vv HK 1 _ (by rfl) (by rfl) (by rfl)) (by rfl) ?_ | refine wpList_exe (exec_add1 (j := k) _ (by rfl) (by rfl) hk3) (by rfl) ?_ | refine wpList_exe (exec_veq (v := ⟨vk, vn, vf, vs⟩) (u := ⟨0, 0, 0, ⟨#[]⟩⟩) _ _ (by rfl) (by rfl) (by rfl) hve2.out) (by rfl) ?_)
                  exact ⟨⟨k + 1, A3, A2, n3, c3, j, c2, L', P, hlt, rfl, rfl, rfl, HIn, HEnd.out _ HK⟩, by simp [intOf]; omega⟩
                | true =>
                  have hno : Dct.emp = (⟨ok, om, of, os'⟩ : Val.V) := Decidable.byContradiction fun h => hsn ⟨rfl, h⟩
                  have hno2 := Lib.hid (show (!decide ((⟨0, 0, 0, ⟨#[]⟩⟩ : Val.V) = ⟨ok, om, of, os'⟩)) = false by rw [show decide ((⟨0, 0, 0, ⟨#[]⟩⟩ : Val.V) = ⟨ok, om, of, os'⟩) = true from decide_eq_true hno]; rfl)
                  clear hw3 hve hsn hno
                  go_wp2_with (first | refine wpList_exe (kexec_oS HK 0 _ (by rfl) (by rfl) (by rfl)) (by rfl) ?_ | refine wpList_exe (kexec_oO HK 0 _ (by rfl) (by rfl) (by rfl)) (by rfl) ?_ | refine wpList_exe (kexec_oV HK 0 _ (by rfl) (by rfl) (by rfl)) (by rfl) ?_ | refine wpList_exe (kexec_vv HK 1 _ (by rfl) (by rfl) (by rfl)) (by rfl) ?_ | refine wpList_exe (exec_add1 (j := k) _ (by rfl) (by rfl) hk3) (by rfl) ?_ | refine wpList_exe (exec_veq (v := ⟨vk, vn, vf, vs⟩) (u := ⟨0, 0, 0, ⟨#[]⟩⟩) _ _ (by rfl) (by rfl) (by rfl) hve2.out) (by rfl) ?_ | refine wpList_exe (exec_vne (v := ⟨0, 0, 0, ⟨#[]⟩⟩) (u := ⟨ok, om, of, os'⟩) _ _ (by rfl) (by rfl) (by rfl) hno2.out) (by rfl) ?_)
                  exact ⟨⟨k + 1, A3, A2, n3, c3, j, c2, L', P, hlt, rfl, rfl, rfl, HIn, HEnd.out _ HK⟩, by simp [intOf]; omega⟩
          case pos =>
            as_aux_lemma =>
              subst hE
              have HGone := Lib.hid (HSW.out.gone rfl)
              have HHas := Lib.hid (HSW.out.has rfl)
              have HLen : Hid (∀ i, (Dct.wo (P.take i) key).length ≤ 8) := Lib.hid fun i => by
                have h1 : (Dct.wo (P.take i) key).length ≤ (P.take i).length := List.length_filter_le _ _
                have h2 : (P.take i).length ≤ P.length := by rw [List.length_take]; omega
                have h3 := hnP.out
                omega
              have HTake : Hid (P.take j = P) := Lib.hid (List.take_of_length_le (by rw [hnP.out]; exact Nat.le_refl _))
              clear HSW
              replace HK := Lib.hid (HK.out.nilR prLay)
              simp only [List.cons_append, List.nil_append] at HK
              go_wp2_with fail
              go_loopw [13, 14] (fun v13 v14 wi => ∃ (i : Nat) (A5 : Option Addr) (c5 M : Nat), i ≤ j ∧ v13 = .slice A5 M c5 ∧ v14 = .int .i64 i ∧ Hid ((Dct.wo (P.take i) key).length = M) ∧ Hid (Kn w.heap.size w wi [(g6, 45, opC key vk vn vf vs ok om of os' sw), (g9, 25, vC 0 0 0 ⟨#[]⟩)] [row prLay (.slice A2 j c2) P, row prLay (.slice A3 n3 c3) L', row prLay (.slice A5 M c5) (Dct.wo (P.take i) key)])) (fun _ v14 _ => j - (intOf v14).toNat)
              case atStart => exact ⟨0, _, _, 0, Nat.zero_le _, rfl, rfl, Lib.hid rfl, HK⟩
              case round =>
                clear HK
                obtain ⟨i, A5, c5, M, hi, rfl, rfl, hM, HK⟩ := hrel
                have hi1 : (0 : Int) ≤ (i : Int) := by omega
                have hi3 : i < 9223372036854775807 := by omega
                by_cases hin : i < j
                · have hi2 : (i : Int) < (j : Int) := by omega
                  obtain ⟨y, hy⟩ := HG2.out i hin
                  have HYy := Lib.hid hy
                  have HW := Lib.hid (Dct.wo_take_more hy key)
                  have hlen := HLen.out i
                  rw [hM.out] at hlen
                  clear hy
                  obtain ⟨bQ, oQ, rfl, _⟩ := (Sl.own (HK.out.own 0 rfl) HFP.out).at (Nat.lt_of_le_of_lt (Nat.zero_le _) hin)
                  have he : ¬ y.key = key := HNo.out i y hin HYy.out
                  have hne : ((i : Int) != -1) = true := by simp <;> omega
                  have hw := HW.out
                  rw [if_neg he] at hw
                  have HW2 := Lib.hid hw
                  have HL : Hid ((Dct.wo (P.take i) key).length + [y].length ≤ 9223372036854775807 ∧ ((Dct.wo (P.take i) key).length + [y].length) * prLay.bytes ≤ 211106232532992) := Lib.hid (by
                    rw [hM.out]
                    show M + 1 ≤ _ ∧ (M + 1) * 56 ≤ _
                    omega)
                  have HN2 : Hid ((Dct.wo (P.take i) key ++ [y]).length = M + 1) := Lib.hid (by rw [List.length_append, hM.out]; rfl)
                  clear he hw HW
                  go_wp2_with (first | refine wpList_exe (exec_ix (i := i) _ _ (by rfl) (by rfl) (by rfl) hin) (by rfl) ?_ | refine wpList_exe (exec_add1 (j := i) _ (by rfl) (by rfl) hi3) (by rfl) ?_ | refine wpList_exe (v := .agg (prA y)) (exec_lpr (off := oQ + i * 5) _ (by rfl) (by rfl) ((Sl.own (HK.out.own 0 rfl) HFP.out).cells HYy.out)) (by rfl) ?_ | (refine wpList_mp1 (p := y) HK rfl _ rfl rfl ?_; intro w2 g2 HK'; simp only [List.cons_append, List.nil_append] at HK'; have HR := Lib.hid (own_rd (HK'.out.own 3 rfl)); replace HK := HK'; clear HK') | (at_builtin; refine wpList_kmore HK prLay 2 rfl _ _ rfl rfl rfl [y] rfl rfl HR HL (N := M + 1) HN2 ?_; intro A4 c4 _ HK'; simp only [List.set] at HK'; replace HK := HK'; clear HK'))
                  exact ⟨⟨i + 1, A4, c4, M + 1, hin, rfl, rfl, Lib.hid (by rw [HW2.out]; exact HN2.out), by rw [HW2.out]; exact Lib.hid (HK.out.takeR 3)⟩, by simp [intOf]; omega⟩
                · obtain rfl : i = j := by omega
                  rw [HTake.out] at HK hM
                  obtain rfl := hM.out
                  have hil : ¬ (i : Int) < (i : Int) := by omega
                  by_cases hve : (⟨vk, vn, vf, vs⟩ : Val.V) = Dct.emp
                  · have hve2 := Lib.hid (show (!decide ((⟨vk, vn, vf, vs⟩ : Val.V) = ⟨0, 0, 0, ⟨#[]⟩⟩)) = false by rw [show decide ((⟨vk, vn, vf, vs⟩ : Val.V) = ⟨0, 0, 0, ⟨#[]⟩⟩) = true from decide_eq_true hve]; rfl)
                    have HIn : Hid (Dct.Holds L' (Dct.wo P key) ∧ Fit L') := Lib.hid ⟨HI.out.cut (HGone.out hve), HF'.out⟩
                    clear hve HGone HHas
                    generalize (Dct.wo P key).length = M at *
                    go_wp2_with (first | refine wpList_exe (kexec_oV HK 0 _ (by rfl) (by rfl) (by rfl)) (by rfl) ?_ | refine wpList_exe (exec_vne (v := ⟨vk, vn, vf, vs⟩) (u := ⟨0, 0, 0, ⟨#[]⟩⟩) _ _ (by rfl) (by rfl) (by rfl) hve2.out) (by rfl) ?_ | refine wpList_exe (exec_add1 (j := k) _ (by rfl) (by rfl) hk3) (by rfl) ?_)
                    exact ⟨⟨k + 1, A3, A5, n3, c3, M, c5, L', Dct.wo P key, hlt, rfl, rfl, rfl, HIn, Lib.hid ((HK.out.pick2 2 1 rfl rfl (by decide)).takeL 0)⟩, by simp [intOf]; omega⟩
                  · have hve2 := Lib.hid (show (!decide ((⟨vk, vn, vf, vs⟩ : Val.V) = ⟨0, 0, 0, ⟨#[]⟩⟩)) = true by rw [show decide ((⟨vk, vn, vf, vs⟩ : Val.V) = ⟨0, 0, 0, ⟨#[]⟩⟩) = false from decide_eq_false hve]; rfl)
                    have HIn : Hid (Dct.Holds L' (Dct.wo P key ++ [⟨key, ⟨vk, vn, vf, vs⟩⟩]) ∧ Fit L') := Lib.hid ⟨HI.out.put (HHas.out hve), HF'.out⟩
                    have hlen := HLen.out i
                    rw [HTake.out] at hlen
                    have HL : Hid ((Dct.wo P key).length + [(⟨key, ⟨vk, vn, vf, vs⟩⟩ : Dct.Pr)].length ≤ 9223372036854775807 ∧ ((Dct.wo P key).length + [(⟨key, ⟨vk, vn, vf, vs⟩⟩ : Dct.Pr)].length) * prLay.bytes ≤ 211106232532992) := Lib.hid (by
                      show (Dct.wo P key).length + 1 ≤ _ ∧ ((Dct.wo P key).length + 1) * 56 ≤ _
                      omega)
                    have HN2 : Hid ((Dct.wo P key ++ [(⟨key, ⟨vk, vn, vf, vs⟩⟩ : Dct.Pr)]).length = (Dct.wo P key).length + 1) := Lib.hid (by rw [List.length_append]; rfl)
                    clear hve HGone HHas hlen
                    generalize hMM : (Dct.wo P key).length = M at *
                    replace hMM := Lib.hid hMM
                    go_wp2_with (first | refine wpList_exe (kexec_oV HK 0 _ (by rfl) (by rfl) (by rfl)) (by rfl) ?_ | refine wpList_exe (kexec_oK HK 0 _ (by rfl) (by rfl) (by rfl)) (by rfl) ?_ | refine wpList_exe (exec_vne (v := ⟨vk, vn, vf, vs⟩) (u := ⟨0, 0, 0, ⟨#[]⟩⟩) _ _ (by rfl) (by rfl) (by rfl) hve2.out) (by rfl) ?_ | refine wpList_exe (exec_add1 (j := k) _ (by rfl) (by rfl) hk3) (by rfl) ?_ | (refine wpList_mp1 (p := ⟨key, ⟨vk, vn, vf, vs⟩⟩) HK rfl _ rfl rfl ?_; intro w2 g2 HK'; simp only [List.cons_append, List.nil_append] at HK'; have HR := Lib.hid (own_rd (HK'.out.own 3 rfl)); replace HK := HK'; clear HK') | (at_builtin; refine wpList_kmore HK prLay 2 rfl _ _ rfl rfl rfl [⟨key, ⟨vk, vn, vf, vs⟩⟩] rfl rfl HR (by rw [hMM.out]; exact HL) (N := M + 1) HN2 ?_; intro A4 c4 _ HK'; simp only [List.set] at HK'; replace HK := HK'; clear HK'))
                    exact ⟨⟨k + 1, A3, A4, n3, c3, M + 1, c4, L', Dct.wo P key ++ [(⟨key, ⟨vk, vn, vf, vs⟩⟩ : Dct.Pr)], hlt, rfl, rfl, rfl, HIn, Lib.hid ((HK.out.pick2 2 1 rfl rfl (by decide)).takeL 0)⟩, by simp [intOf]; omega⟩
        · have hlta : a < j := by rw [hnP.out]; exact (List.getElem?_eq_some_iff.1 hxa).1
          have hfs : Dct.fnd L key = some xa.val := by rw [← HI.out.fnd, ← hka]; exact Dct.fnd_mem HI.out.apart (List.mem_of_getElem? hxa)
          have hgv := (Dct.gt_some HI.out.right hfs).1
          have HXa := Lib.hid hxa
          have HFs := Lib.hid hfs
          have HKa := Lib.hid hka
          have hz0 : (0 : Int) ≤ (a : Int) := by omega
          have hz1 : ¬ (a : Int) < 0 := by omega
          have hza : (a : Int) < (j : Int) := by omega
          obtain ⟨bP, oP, rfl, _⟩ := (Sl.own (HK.out.own 0 rfl) HFP.out).at (Nat.lt_of_le_of_lt (Nat.zero_le _) hlta)
          clear hxa hfs hka
          go_upto_block 4 with (first | (refine wpList_akv HK rfl rfl ?_; intro _ g9 HK'; simp only [List.cons_append, List.nil_append] at HK'; replace HK := HK'; clear HK') | refine wpList_exe (exec_ix (i := a) _ _ (by rfl) (by rfl) (by rfl) hlta) (by rfl) ?_ | refine wpList_exe (exec_lpv (x := xa) (off := oP + a * 5) _ (by rfl) (by rfl) rfl ((Sl.own (HK.out.own 0 rfl) HFP.out).cells HXa.out)) (by rfl) ?_ | (refine wpList_sv (f2 := xa.val.f) HK 1 rfl _ _ rfl rfl rfl rfl ?_; intro _ HK'; simp only [List.set] at HK'; replace HK := HK'; clear HK'))
          go_cut [3, 10] (fun v3 v10 wx => ∃ (A3 : Option Addr) (n3 c3 : Nat) (L' : List Dct.Pr) (E : Int), v3 = .slice A3 n3 c3 ∧ v10 = .int .i64 E ∧ Hid (Dct.Sw L key ⟨vk, vn, vf, vs⟩ ⟨ok, om, of, os'⟩ sw L' E) ∧ Hid (Fit L') ∧ Hid (Kn w.heap.size w wx [(g6, 45, opC key vk vn vf vs ok om of os' sw), (g9, 25, vC xa.val.k xa.val.n xa.val.f xa.val.s)] [row prLay (.slice (some ⟨bP, oP, none⟩) j c2) P, row prLay (.slice A3 n3 c3) L']))
          case first =>
            as_aux_lemma =>
              cases sw with
              | true =>
                have HSw := Lib.hid (Dct.sw_swap HI.out.right key ⟨vk, vn, vf, vs⟩ ⟨ok, om, of, os'⟩)
                have HF' := Lib.hid (HFL.out.sw (k := key) (o := ⟨ok, om, of, os'⟩) (v := ⟨vk, vn, vf, vs⟩) hfx)
                have HC := Lib.hid (fun W (h : Sl W A1 n1 c1 L) => swap_any A1 c1 n1 L key ⟨ok, om, of, os'⟩ ⟨vk, vn, vf, vs⟩ W h hfx)
                unfold IsPVE vv at HC
                (try simp only at HC)
                generalize Dct.swL L key ⟨ok, om, of, os'⟩ ⟨vk, vn, vf, vs⟩ = L' at *
                generalize Dct.swE L key ⟨ok, om, of, os'⟩ ⟨vk, vn, vf, vs⟩ = E at *
                generalize Dct.swV L key ⟨ok, om, of, os'⟩ = tv at *
                go_wp2_with (first | refine wpList_exe (kexec_oS HK 0 _ (by rfl) (by rfl) (by rfl)) (by rfl) ?_ | refine wpList_exe (kexec_oK HK 0 _ (by rfl) (by rfl) (by rfl)) (by rfl) ?_ | refine wpList_exe (kexec_oV HK 0 _ (by rfl) (by rfl) (by rfl)) (by rfl) ?_ | refine wpList_exe (kexec_oO HK 0 _ (by rfl) (by rfl) (by rfl)) (by rfl) ?_)
                refine (HC.out _ (Sl.own (HK.out.own 1 rfl) HFL.out)).mono ?_; rintro e w1 ⟨A3, n3, c3, rfl, o1, b1⟩
                replace HK := Lib.hid (HK.out.called b1 o1)
                simp only [List.cons_append, List.nil_append] at HK
                go_wp2_with fail
                go_meet
                exact ⟨A3, n3, c3, L', E, rfl, rfl, HSw, HF', Lib.hid (HK.out.pick2 0 2 rfl rfl (by decide))⟩
              | false =>
                by_cases hve : (⟨vk, vn, vf, vs⟩ : Val.V) = Dct.emp
                · have hve2 := Lib.hid (show decide ((⟨vk, vn, vf, vs⟩ : Val.V) = ⟨0, 0, 0, ⟨#[]⟩⟩) = true from decide_eq_true hve)
                  have HSw := Lib.hid (Dct.sw_cutE HI.out.right key ⟨ok, om, of, os'⟩)
                  have HF' := Lib.hid (HFL.out.ct key)
                  have HC := Lib.hid (fun W (h : Sl W A1 n1 c1 L) => cut_any A1 c1 n1 L key W h)
                  rw [← hve] at HSw
                  unfold IsPVE vv at HC
                  (try simp only at HC)
                  generalize Dct.ctL L key = L' at *
                  generalize Dct.gtE L key = E at *
                  generalize Dct.gtV L key = tv at *
                  go_wp2_with (first | refine wpList_exe (kexec_oS HK 0 _ (by rfl) (by rfl) (by rfl)) (by rfl) ?_ | refine wpList_exe (kexec_oK HK 0 _ (by rfl) (by rfl) (by rfl)) (by rfl) ?_ | refine wpList_exe (kexec_oV HK 0 _ (by rfl) (by rfl) (by rfl)) (by rfl) ?_ | refine wpList_exe (exec_veq (v := ⟨vk, vn, vf, vs⟩) (u := ⟨0, 0, 0, ⟨#[]⟩⟩) _ _ (by rfl) (by rfl) (by rfl) hve2.out) (by rfl) ?_)
                  refine (HC.out _ (Sl.own (HK.out.own 1 rfl) HFL.out)).mono ?_; rintro e w1 ⟨A3, n3, c3, rfl, o1, b1⟩
                  replace HK := Lib.hid (HK.out.called b1 o1)
                  simp only [List.cons_append, List.nil_append] at HK
                  go_wp2_with fail
                  go_meet
                  exact ⟨A3, n3, c3, L', E, rfl, rfl, HSw, HF', Lib.hid (HK.out.pick2 0 2 rfl rfl (by decide))⟩
                · have hve2 := Lib.hid (show decide ((⟨vk, vn, vf, vs⟩ : Val.V) = ⟨0, 0, 0, ⟨#[]⟩⟩) = false from decide_eq_false hve)
                  have HSw := Lib.hid (Dct.sw_putE HI.out.right key ⟨ok, om, of, os'⟩ hve)
                  have HF' := Lib.hid (HFL.out.pt (k := key) (v := ⟨vk, vn, vf, vs⟩) hfx)
                  have HC := Lib.hid (fun W (h : Sl W A1 n1 c1 L) => put_any A1 c1 n1 L key ⟨vk, vn, vf, vs⟩ W h hfx)
                  unfold IsPE vv at HC
                  (try simp only at HC)
                  generalize Dct.ptL L key ⟨vk, vn, vf, vs⟩ = L' at *
                  generalize Dct.ptE L key ⟨vk, vn, vf, vs⟩ = E at *
                  go_wp2_with (first | refine wpList_exe (kexec_oS HK 0 _ (by rfl) (by rfl) (by rfl)) (by rfl) ?_ | refine wpList_exe (kexec_oK HK 0 _ (by rfl) (by rfl) (by rfl)) (by rfl) ?_ | refine wpList_exe (kexec_oV HK 0 _ (by rfl) (by rfl) (by rfl)) (by rfl) ?_ | refine wpList_exe (exec_veq (v := ⟨vk, vn, vf, vs⟩) (u := ⟨0, 0, 0, ⟨#[]⟩⟩) _ _ (by rfl) (by rfl) (by rfl) hve2.out) (by rfl) ?_)
                  refine (HC.out _ (Sl.own (HK.out.own 1 rfl) HFL.out)).mono ?_; rintro e w1 ⟨A3, n3, c3, rfl, o1, b1⟩
                  replace HK := Lib.hid (HK.out.called b1 o1)
                  simp only [List.cons_append, List.nil_append] at HK
                  go_wp2_with fail
                  go_meet
                  exact ⟨A3, n3, c3, L', E, rfl, rfl, HSw, HF', Lib.hid (HK.out.pick2 0 2 rfl rfl (by decide))⟩
          case rest =>
          clear HK
          obtain ⟨A3, n3, c3, L', E, rfl, rfl, HSW, HF', HK⟩ := hcut
          have hgvo : Dct.gtV L key = xa.val := hgv
          clear hgv
          go_upto_region 21 with fail
          go_cut [101] (fun v101 wx => v101 = .bool false ∧ Hid (Kn w.heap.size w wx [(g6, 45, opC key vk vn vf vs ok om of os' sw), (g9, 25, vC xa.val.k xa.val.n xa.val.f xa.val.s)] [row prLay (.slice (some ⟨bP, oP, none⟩) j c2) P, row prLay (.slice A3 n3 c3) L']))
          case first =>
            as_aux_lemma =>
              cases sw with
              | false =>
                go_wp2_with (first | refine wpList_exe (kexec_oS HK 0 _ (by rfl) (by rfl) (by rfl)) (by rfl) ?_)
                go_meet
                exact ⟨rfl, HK⟩
              | true =>
                have h9 := HSW.out.nine rfl
                rw [hgvo] at h9
                by_cases hno : xa.val = (⟨ok, om, of, os'⟩ : Val.V)
                · have hno2 := Lib.hid (show (!decide ((xa.val : Val.V) = ⟨ok, om, of, os'⟩)) = false by rw [show decide ((xa.val : Val.V) = ⟨ok, om, of, os'⟩) = true from decide_eq_true hno]; rfl)
                  have hE9 : (E == 9) = false := by
                    have : ¬ E = 9 := fun h => h9.1 h hno
                    simpa using this
                  clear h9 hno
                  go_wp2_with (first | refine wpList_exe (kexec_oS HK 0 _ (by rfl) (by rfl) (by rfl)) (by rfl) ?_ | refine wpList_exe (kexec_oO HK 0 _ (by rfl) (by rfl) (by rfl)) (by rfl) ?_ | refine wpList_exe (kexec_vv HK 1 _ (by rfl) (by rfl) (by rfl)) (by rfl) ?_ | refine wpList_exe (exec_vne (v := xa.val) (u := ⟨ok, om, of, os'⟩) _ _ (by rfl) (by rfl) (by rfl) hno2.out) (by rfl) ?_)
                  go_meet
                  exact ⟨rfl, HK⟩
                · have hno2 := Lib.hid (show (!decide ((xa.val : Val.V) = ⟨ok, om, of, os'⟩)) = true by rw [show decide ((xa.val : Val.V) = ⟨ok, om, of, os'⟩) = false from decide_eq_false hno]; rfl)
                  obtain rfl : E = 9 := h9.2 hno
                  clear h9 hno
                  go_wp2_with (first | refine wpList_exe (kexec_oS HK 0 _ (by rfl) (by rfl) (by rfl)) (by rfl) ?_ | refine wpList_exe (kexec_oO HK 0 _ (by rfl) (by rfl) (by rfl)) (by rfl) ?_ | refine wpList_exe (kexec_vv HK 1 _ (by rfl) (by rfl) (by rfl)) (by rfl) ?_ | refine wpList_exe (exec_vne (v := xa.val) (u := ⟨ok, om, of, os'⟩) _ _ (by rfl) (by rfl) (by rfl) hno2.out) (by rfl) ?_)
                  go_meet
                  exact ⟨rfl, HK⟩
          case rest =>
          clear HK
          obtain ⟨rfl, HK⟩ := hcut
          by_cases hE : E = 0
          case neg =>
            as_aux_lemma =>
              have hE2 : (E != 0) = true := by simpa using hE
              obtain rfl := HSW.out.stays hE
              have HWhy := HSW.out.why hE
              rw [hgvo] at HWhy
              have HR := Lib.hid (fun W => rcheck_any ⟨vk, vn, vf, vs⟩ W hfx)
              unfold IsE vv at HR
              simp only at HR
              have HIn : Hid (Dct.Holds L' P ∧ Fit L') := Lib.hid ⟨HI.out, HFL.out⟩
              clear HSW hE
              have HWhy2 : 64 < key.size ∨ ¬ Val.chk ⟨vk, vn, vf, vs⟩ = 0 ∨ (sw = true ∧ ¬ xa.val = (⟨ok, om, of, os'⟩ : Val.V)) := by
                rcases HWhy with h | h | h | h | h
                · rw [HFs.out] at h; cases h.1
                · exact .inl h
                · exact .inr (.inl h)
                · exact .inr (.inr h)
                · rw [HFs.out] at h; cases h.1
              clear HWhy
              go_upto_region 24 with fail
              go_cut [11] (fun v11 wx => v11 = .bool false ∧ Hid (Kn w.heap.size w wx [(g6, 45, opC key vk vn vf vs ok om of os' sw), (g9, 25, vC xa.val.k xa.val.n xa.val.f xa.val.s)] [row prLay (.slice (some ⟨bP, oP, none⟩) j c2) P, row prLay (.slice A3 n3 c3) L']))
              case first =>
                as_aux_lemma =>
                  go_wp2_with fail
                  go_meet
                  exact ⟨rfl, HK⟩
              case rest =>
              clear HK
              obtain ⟨rfl, HK⟩ := hcut
              have hbb : ∃ bb : Bool, bb = decide (64 < key.size ∨ ¬ Val.chk ⟨vk, vn, vf, vs⟩ = 0) := ⟨_, rfl⟩
              obtain ⟨bb, hbb⟩ := hbb
              go_upto_region 25 with fail
              go_cut [12] (fun v12 wx => v12 = .bool bb ∧ Hid (Kn w.heap.size w wx [(g6, 45, opC key vk vn vf vs ok om of os' sw), (g9, 25, vC xa.val.k xa.val.n xa.val.f xa.val.s)] [row prLay (.slice (some ⟨bP, oP, none⟩) j c2) P, row prLay (.slice A3 n3 c3) L']))
              case first =>
                as_aux_lemma =>
                  generalize Val.chk ⟨vk, vn, vf, vs⟩ = zc at *
                  by_cases h64 : 64 < key.size
                  · have h642 : 64 < (key.size : Int) := by omega
                    have h643 := Lib.hid (show decide (64 < (key.size : Int)) = true from decide_eq_true h642)
                    clear h642
                    obtain rfl : bb = true := hbb.trans (decide_eq_true (.inl h64))
                    clear hbb h64
                    go_wp2_with (first | refine wpList_exe (kexec_oK HK 0 _ (by rfl) (by rfl) (by rfl)) (by rfl) ?_ | refine wpList_exe (exec_gt (x := (key.size : Int)) _ (by rfl) (by rfl) h643.out) (by rfl) ?_)
                    go_meet
                    exact ⟨rfl, HK⟩
                  · have h642 : ¬ 64 < (key.size : Int) := by omega
                    have h643 := Lib.hid (show decide (64 < (key.size : Int)) = false from decide_eq_false h642)
                    clear h642
                    by_cases hzc : zc = 0
                    · obtain rfl : bb = false := hbb.trans (decide_eq_false fun h => h.elim h64 fun h => h hzc)
                      clear hbb h64
                      subst hzc
                      go_wp2_with (first | refine wpList_exe (kexec_oK HK 0 _ (by rfl) (by rfl) (by rfl)) (by rfl) ?_ | refine wpList_exe (kexec_oV HK 0 _ (by rfl) (by rfl) (by rfl)) (by rfl) ?_ | refine wpList_exe (exec_gt (x := (key.size : Int)) _ (by rfl) (by rfl) h643.out) (by rfl) ?_)
                      refine (HR.out _).mono ?_; rintro e w1 ⟨rfl, b1⟩
                      replace HK := Lib.hid (HK.out.call b1); clear b1
                      go_wp2_with fail
                      go_meet
                      exact ⟨rfl, HK⟩
                    · obtain rfl : bb = true := hbb.trans (decide_eq_true (.inr hzc))
                      have hzc2 : (zc != 0) = true := by simpa using hzc
                      clear hbb h64
                      go_wp2_with (first | refine wpList_exe (kexec_oK HK 0 _ (by rfl) (by rfl) (by rfl)) (by rfl) ?_ | refine wpList_exe (kexec_oV HK 0 _ (by rfl) (by rfl) (by rfl)) (by rfl) ?_ | refine wpList_exe (exec_gt (x := (key.size : Int)) _ (by rfl) (by rfl) h643.out) (by rfl) ?_)
                      refine (HR.out _).mono ?_; rintro e w1 ⟨rfl, b1⟩
                      replace HK := Lib.hid (HK.out.call b1); clear b1
                      go_wp2_with fail
                      go_meet
                      exact ⟨rfl, HK⟩
              case rest =>
              clear HK HR
              obtain ⟨rfl, HK⟩ := hcut
              have HEnd : Hid (∀ W, Hid (Kn w.heap.size w W [(g6, 45, opC key vk vn vf vs ok om of os' sw), (g9, 25, vC xa.val.k xa.val.n xa.val.f xa.val.s)] [row prLay (.slice (some ⟨bP, oP, none⟩) j c2) P, row prLay (.slice A3 n3 c3) L']) → Hid (Kn w.heap.size w W [] [row prLay (.slice (some ⟨bP, oP, none⟩) j c2) P, row prLay (.slice A3 n3 c3) L'])) := Lib.hid fun W h => Lib.hid (h.out.takeL 0)
              cases bb with
              | true =>
                clear HWhy2 hbb
                go_wp2_with fail
                exact ⟨⟨k + 1, A3, (some ⟨bP, oP, none⟩), n3, c3, j, c2, L', P, hlt, rfl, rfl, by go_num, HIn, HEnd.out _ HK⟩, by simp [intOf]; omega⟩
              | false =>
              have hnb : ¬ (64 < key.size ∨ ¬ Val.chk ⟨vk, vn, vf, vs⟩ = 0) := of_decide_eq_false hbb.symm
              have hsn : sw = true ∧ ¬ xa.val = (⟨ok, om, of, os'⟩ : Val.V) := by
                rcases HWhy2 with h | h | h
                · exact absurd (.inl h) hnb
                · exact absurd (.inr h) hnb
                · exact h
              clear HWhy2 hbb hnb
              obtain ⟨rfl, hno⟩ := hsn
              have hno2 := Lib.hid (show (!decide ((xa.val : Val.V) = ⟨ok, om, of, os'⟩)) = true by rw [show decide ((xa.val : Val.V) = ⟨ok, om, of, os'⟩) = false from decide_eq_false hno]; rfl)
              clear hno
              go_wp2_with (first | refine wpList_exe (kexec_oS HK 0 _ (by rfl) (by rfl) (by rfl)) (by rfl) ?_ | refine wpList_exe (kexec_oO HK 0 _ (by rfl) (by rfl) (by rfl)) (by rfl) ?_ | refine wpList_exe (kexec_oV HK 0 _ (by rfl) (by rfl) (by rfl)) (by rfl) ?_ | refine wpList_exe (kexec_vv HK 1 _ (by rfl) (by rfl) (by rfl)) (by rfl) ?_ | refine wpList_exe (exec_add1 (j := k) _ (by rfl) (by rfl) hk3) (by rfl) ?_ | refine wpList_exe (exec_vne (v := xa.val) (u := ⟨ok, om, of, os'⟩) _ _ (by rfl) (by rfl) (by rfl) hno2.out) (by rfl) ?_)
              exact ⟨⟨k + 1, A3, (some ⟨bP, oP, none⟩), n3, c3, j, c2, L', P, hlt, rfl, rfl, rfl, HIn, HEnd.out _ HK⟩, by simp [intOf]; omega⟩
          case pos =>
            as_aux_lemma =>
              subst hE
              have HGone := Lib.hid (HSW.out.gone rfl)
              have HHas := Lib.hid (HSW.out.has rfl)
              have HLen : Hid (∀ i, (Dct.wo (P.take i) key).length ≤ 8) := Lib.hid fun i => by
                have h1 : (Dct.wo (P.take i) key).length ≤ (P.take i).length := List.length_filter_le _ _
                have h2 : (P.take i).length ≤ P.length := by rw [List.length_take]; omega
                have h3 := hnP.out
                omega
              have HTake : Hid (P.take j = P) := Lib.hid (List.take_of_length_le (by rw [hnP.out]; exact Nat.le_refl _))
              clear HSW
              replace HK := Lib.hid (HK.out.nilR prLay)
              simp only [List.cons_append, List.nil_append] at HK
              go_wp2_with fail
              go_loopw [13, 14] (fun v13 v14 wi => ∃ (i : Nat) (A5 : Option Addr) (c5 M : Nat), i ≤ j ∧ v13 = .slice A5 M c5 ∧ v14 = .int .i64 i ∧ Hid ((Dct.wo (P.take i) key).length = M) ∧ Hid (Kn w.heap.size w wi [(g6, 45, opC key vk vn vf vs ok om of os' sw), (g9, 25, vC xa.val.k xa.val.n xa.val.f xa.val.s)] [row prLay (.slice (some ⟨bP, oP, none⟩) j c2) P, row prLay (.slice A3 n3 c3) L', row prLay (.slice A5 M c5) (Dct.wo (P.take i) key)])) (fun _ v14 _ => j - (intOf v14).toNat)
              case atStart => exact ⟨0, _, _, 0, Nat.zero_le _, rfl, rfl, Lib.hid rfl, HK⟩
              case round =>
                clear HK
                obtain ⟨i, A5, c5, M, hi, rfl, rfl, hM, HK⟩ := hrel
                have hi1 : (0 : Int) ≤ (i : Int) := by omega
                have hi3 : i < 9223372036854775807 := by omega
                by_cases hin : i < j
                · have hi2 : (i : Int) < (j : Int) := by omega
                  obtain ⟨y, hy⟩ := HG2.out i hin
                  have HYy := Lib.hid hy
                  have HW := Lib.hid (Dct.wo_take_more hy key)
                  have hlen := HLen.out i
                  rw [hM.out] at hlen
                  clear hy
                  by_cases hia : i = a
                  · have he : y.key = key := by
                      have := HYy.out
                      rw [hia, HXa.out] at this
                      injection this with this
                      rw [← this]; exact HKa.out
                    have hw := HW.out
                    rw [if_pos he] at hw
                    have HW2 := Lib.hid hw
                    have hne : ((i : Int) != (a : Int)) = false := by simp; omega
                    clear he hw HW hia
                    go_wp2_with (first | refine wpList_exe (exec_add1 (j := i) _ (by rfl) (by rfl) hi3) (by rfl) ?_)
                    exact ⟨⟨i + 1, A5, c5, M, hin, rfl, rfl, Lib.hid (by rw [HW2.out]; exact hM.out), by rw [HW2.out]; exact HK⟩, by simp [intOf]; omega⟩
                  · have he : ¬ y.key = key := by
                      rw [← HKa.out]
                      exact Dct.apart_at HI.out.apart HYy.out HXa.out hia
                    have hne : ((i : Int) != (a : Int)) = true := by simp; omega
                    clear hia
                    have hw := HW.out
                    rw [if_neg he] at hw
                    have HW2 := Lib.hid hw
                    have HL : Hid ((Dct.wo (P.take i) key).length + [y].length ≤ 9223372036854775807 ∧ ((Dct.wo (P.take i) key).length + [y].length) * prLay.bytes ≤ 211106232532992) := Lib.hid (by
                      rw [hM.out]
                      show M + 1 ≤ _ ∧ (M + 1) * 56 ≤ _
                      omega)
                    have HN2 : Hid ((Dct.wo (P.take i) key ++ [y]).length = M + 1) := Lib.hid (by rw [List.length_append, hM.out]; rfl)
                    clear he hw HW
                    go_wp2_with (first | refine wpList_exe (exec_ix (i := i) _ _ (by rfl) (by rfl) (by rfl) hin) (by rfl) ?_ | refine wpList_exe (exec_add1 (j := i) _ (by rfl) (by rfl) hi3) (by rfl) ?_ | refine wpList_exe (v := .agg (prA y)) (exec_lpr (off := oP + i * 5) _ (by rfl) (by rfl) ((Sl.own (HK.out.own 0 rfl) HFP.out).cells HYy.out)) (by rfl) ?_ | (refine wpList_mp1 (p := y) HK rfl _ rfl rfl ?_; intro w2 g2 HK'; simp only [List.cons_append, List.nil_append] at HK'; have HR := Lib.hid (own_rd (HK'.out.own 3 rfl)); replace HK := HK'; clear HK') | (at_builtin; refine wpList_kmore HK prLay 2 rfl _ _ rfl rfl rfl [y] rfl rfl HR HL (N := M + 1) HN2 ?_; intro A4 c4 _ HK'; simp only [List.set] at HK'; replace HK := HK'; clear HK'))
                    exact ⟨⟨i + 1, A4, c4, M + 1, hin, rfl, rfl, Lib.hid (by rw [HW2.out]; exact HN2.out), by rw [HW2.out]; exact Lib.hid (HK.out.takeR 3)⟩, by simp [intOf]; omega⟩
                · obtain rfl : i = j := by omega
                  rw [HTake.out] at HK hM
                  obtain rfl := hM.out
                  have hil : ¬ (i : Int) < (i : Int) := by omega
                  by_cases hve : (⟨vk, vn, vf, vs⟩ : Val.V) = Dct.emp
                  · have hve2 := Lib.hid (show (!decide ((⟨vk, vn, vf, vs⟩ : Val.V) = ⟨0, 0, 0, ⟨#[]⟩⟩)) = false by rw [show decide ((⟨vk, vn, vf, vs⟩ : Val.V) = ⟨0, 0, 0, ⟨#[]⟩⟩) = true from decide_eq_true hve]; rfl)
                    have HIn : Hid (Dct.Holds L' (Dct.wo P key) ∧ Fit L') := Lib.hid ⟨HI.out.cut (HGone.out hve), HF'.out⟩
                    clear hve HGone HHas
                    generalize (Dct.wo P key).length = M at *
                    go_wp2_with (first | refine wpList_exe (kexec_oV HK 0 _ (by rfl) (by rfl) (by rfl)) (by rfl) ?_ | refine wpList_exe (exec_vne (v := ⟨vk, vn, vf, vs⟩) (u := ⟨0, 0, 0, ⟨#[]⟩⟩) _ _ (by rfl) (by rfl) (by rfl) hve2.out) (by rfl) ?_ | refine wpList_exe (exec_add1 (j := k) _ (by rfl) (by rfl) hk3) (by rfl) ?_)
                    exact ⟨⟨k + 1, A3, A5, n3, c3, M, c5, L', Dct.wo P key, hlt, rfl, rfl, rfl, HIn, Lib.hid ((HK.out.pick2 2 1 rfl rfl (by decide)).takeL 0)⟩, by simp [intOf]; omega⟩
                  · have hve2 := Lib.hid (show (!decide ((⟨vk, vn, vf, vs⟩ : Val.V) = ⟨0, 0, 0, ⟨#[]⟩⟩)) = true by rw [show decide ((⟨vk, vn, vf, vs⟩ : Val.V) = ⟨0, 0, 0, ⟨#[]⟩⟩) = false from decide_eq_false hve]; rfl)
                    have HIn : Hid (Dct.Holds L' (Dct.wo P key ++ [⟨key, ⟨vk, vn, vf, vs⟩⟩]) ∧ Fit L') := Lib.hid ⟨HI.out.put (HHas.out hve), HF'.out⟩
                    have hlen := HLen.out i
                    rw [HTake.out] at hlen
                    have HL : Hid ((Dct.wo P key).length + [(⟨key, ⟨vk, vn, vf, vs⟩⟩ : Dct.Pr)].length ≤ 9223372036854775807 ∧ ((Dct.wo P key).length + [(⟨key, ⟨vk, vn, vf, vs⟩⟩ : Dct.Pr)].length) * prLay.bytes ≤ 211106232532992) := Lib.hid (by
                      show (Dct.wo P key).length + 1 ≤ _ ∧ ((Dct.wo P key).length + 1) * 56 ≤ _
                      omega)
                    have HN2 : Hid ((Dct.wo P key ++ [(⟨key, ⟨vk, vn, vf, vs⟩⟩ : Dct.Pr)]).length = (Dct.wo P key).length + 1) := Lib.hid (by rw [List.length_append]; rfl)
                    clear hve HGone HHas hlen
                    generalize hMM : (Dct.wo P key).length = M at *
                    replace hMM := Lib.hid hMM
                    go_wp2_with (first | refine wpList_exe (kexec_oV HK 0 _ (by rfl) (by rfl) (by rfl)) (by rfl) ?_ | refine wpList_exe (kexec_oK HK 0 _ (by rfl) (by rfl) (by rfl)) (by rfl) ?_ | refine wpList_exe (exec_vne (v := ⟨vk, vn, vf, vs⟩) (u := ⟨0, 0, 0, ⟨#[]⟩⟩) _ _ (by rfl) (by rfl) (by rfl) hve2.out) (by rfl) ?_ | refine wpList_exe (exec_add1 (j := k) _ (by rfl) (by rfl) hk3) (by rfl) ?_ | (refine wpList_mp1 (p := ⟨key, ⟨vk, vn, vf, vs⟩⟩) HK rfl _ rfl rfl ?_; intro w2 g2 HK'; simp only [List.cons_append, List.nil_append] at HK'; have HR := Lib.hid (own_rd (HK'.out.own 3 rfl)); replace HK := HK'; clear HK') | (at_builtin; refine wpList_kmore HK prLay 2 rfl _ _ rfl rfl rfl [⟨key, ⟨vk, vn, vf, vs⟩⟩] rfl rfl HR (by rw [hMM.out]; exact HL) (N := M + 1) HN2 ?_; intro A4 c4 _ HK'; simp only [List.set] at HK'; replace HK := HK'; clear HK'))
                    exact ⟨⟨k + 1, A3, A4, n3, c3, M + 1, c4, L', Dct.wo P key ++ [(⟨key, ⟨vk, vn, vf, vs⟩⟩ : Dct.Pr)], hlt, rfl, rfl, rfl, HIn, Lib.hid ((HK.out.pick2 2 1 rfl rfl (by decide)).takeL 0)⟩, by simp [intOf]; omega⟩
end Go.Proofs.Ytikfjimdkbmjhaa
