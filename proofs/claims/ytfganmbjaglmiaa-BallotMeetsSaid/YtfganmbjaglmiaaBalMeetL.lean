/-
  The law BallotMeets: it returns true, and leaves what came in as it was.
  No condition but what the slices read as.
-/
import Derived.Test.YtfganmbjaglmiaaBalAwake
import Derived.Test.YtfganmbjaglmiaaBalMost
import Derived.Test.YtfganmbjaglmiaaBalMeetM
import Derived.Deep.DeepCutAuto
set_option linter.unusedSimpArgs false
set_option linter.unusedVariables false
namespace Go.Proofs.Ytfganmbjaglmiaa
open Go.RowKit

section
variable {b0 : Nat} {w0 w : World} {L : List (Nat × TypeId × Array Value)} {R : List RowE} {o : Oper} {a : Act}
theorem exec_ixz {b n c i : Nat} (x q : Operand) (ho : o.op = .indexAddr 45 x q) (hx : a.eval x = .slice (some ⟨b, 0, none⟩) n c) (hq : a.eval q = .int .i64 (i : Int)) (h : i < n) :
    (execOp a.eval o).run Try.prog w = .ok (.value (.pointer (some ⟨b, i, none⟩))) w := by
  have h1 := exec_ixb (w := w) x q ho hx hq h
  rw [Nat.zero_add] at h1
  exact h1
theorem fits_b (l : List Bool) (h : l.length ≤ 140737488355328) : Fits bLay bF l := ⟨fun _ _ => trivial, by show l.length * 1 ≤ _; omega⟩
theorem Kn.bat (h : Kn b0 w0 w L R) (j : Nat) {g n c : Nat} {l : List Bool} (hR : R[j]? = some (row bLay (.slice (some ⟨g, 0, none⟩) n c) l)) (hl : l.length ≤ 140737488355328) {i : Nat} {x : Bool} (hx : l[i]? = some x) : w.cell? ⟨g, i, none⟩ = some (.bool x) := by
  have h1 := (Sls.own (F := bF) (h.own j hR) (fits_b l hl)).cells hx 0 _ rfl
  have e : 0 + i * bLay.k + 0 = i := by show 0 + i * 1 + 0 = i; omega
  rw [e] at h1
  exact h1
theorem Kn.bsl (h : Kn b0 w0 w L R) (j : Nat) {A : Option Addr} {n c : Nat} {l : List Bool} (hR : R[j]? = some (row bLay (.slice A n c) l)) (hl : l.length ≤ 140737488355328) : Sls bLay bF w A n c l := Sls.own (h.own j hR) (fits_b l hl)
theorem cmp_lt7 {x k : Nat} {d : Bool} (h : decide (x < k) = d) : decide ((x : Int) < (k : Int)) = d := by
  rw [← h, decide_eq_decide]; omega
end
set_option maxRecDepth 100000 in
set_option maxHeartbeats 12800000 in
theorem bmeets_yes (A : Option Addr) (n c : Nat) (l : List Bool) (A2 : Option Addr) (n2 c2 : Nat) (l2 : List Bool) (b : Bal) (w : World) (hs : Sls bLay bF w A n c l) (hs2 : Sls bLay bF w A2 n2 c2 l2) :
    Calls Try.prog 7 #[.slice A n c, .slice A2 n2 c2, .agg #[.int .i64 b.r, .int .i64 b.s]] w (fun e w' => e = .returned (.bool true) ∧ Below w.heap.size w w') := by
  have HS := Lib.hid hs
  have HS2 := Lib.hid hs2
  have HAw := Lib.hid (fun W => b20awake_any W)
  unfold IsB at HAw
  have hn := hs.len
  have hn2 := hs2.len
  have HN := Lib.hid hs.len
  have HN2 := Lib.hid hs2.len
  clear hs hs2 hn hn2
  have HK := kn1 w 23 (blA b)
  go_enter Try.func7, Try.ntmps7
  go_upto_region 1 with fail
  try simp only [ap1, ap2, ap3, ap4, ap5]
  go_cut [7] (fun v wx => ∃ K : Nat, v = .int .i64 K ∧ 1 ≤ K ∧ K ≤ 7 ∧ Hid (Kn w.heap.size w wx [(w.heap.size, 23, blA b)] []))
  case first =>
    have hc : n = 0 ∨ n = 1 ∨ (1 < n ∧ n ≤ 7) ∨ 7 < n := by omega
    rcases hc with rfl | rfl | ⟨h1, h2⟩ | h1
    · go_wp2_with fail
      go_meet
      exact ⟨1, rfl, by decide, by decide, HK⟩
    · go_wp2_with fail
      go_meet
      exact ⟨1, rfl, by decide, by decide, HK⟩
    · have h1i : ¬ (n : Int) ≤ 1 := by omega
      have h2i : (n : Int) ≤ 7 := by omega
      go_wp2_with fail
      go_meet
      exact ⟨n, by go_num, by omega, h2, HK⟩
    · go_wp2_with fail
      go_meet
      exact ⟨7, rfl, by decide, by decide, HK⟩
  case rest =>
    clear HK
    obtain ⟨K, rfl, hK1, hK7, HK⟩ := hcut
    replace HK := Lib.hid ((HK.out.nilR bLay).nilR bLay)
    simp only [List.cons_append, List.nil_append] at HK
    go_wp2_with fail
    go_loopw [8, 9, 10] (fun v8 v9 v10 wr => ∃ (i : Nat) (A1 A3 : Option Addr) (c1 c3 : Nat), i ≤ K ∧ v10 = .int .i64 i ∧ v8 = .slice A1 i c1 ∧ v9 = .slice A3 i c3 ∧ Hid (Kn w.heap.size w wr [(w.heap.size, 23, blA b)] [row bLay (.slice A1 i c1) (Blt.fl l i), row bLay (.slice A3 i c3) (Blt.fl l2 i)])) (fun _ _ v _ => K - (intOf v).toNat)
    case atStart => exact ⟨0, none, none, 0, 0, Nat.zero_le _, rfl, rfl, rfl, HK⟩
    case round =>
      clear HK
      obtain ⟨i, A1, A3, c1, c3, hi, rfl, rfl, rfl, HK⟩ := hrel
      have hi1 : (0 : Int) ≤ (i : Int) := by omega
      have hi3 : i < 9223372036854775807 := by omega
      by_cases hlt : i < K
      case pos =>
        as_aux_lemma =>
          have hi2 : (i : Int) < (K : Int) := by omega
          have HF1 := Lib.hid (Blt.fl_succ l i)
          have HF2 := Lib.hid (Blt.fl_succ l2 i)
          have HL1 : Hid (∀ x : Bool, (Blt.fl l i ++ [x]).length = i + 1) := Lib.hid fun x => by rw [List.length_append, Blt.fl_len]; rfl
          have HL2 : Hid (∀ x : Bool, (Blt.fl l2 i ++ [x]).length = i + 1) := Lib.hid fun x => by rw [List.length_append, Blt.fl_len]; rfl
          have hx1 : (n ≤ i ∧ l.getD i true = true) ∨ (i < n ∧ l[i]? = some (l.getD i true)) := by
            by_cases h : i < n
            · refine .inr ⟨h, ?_⟩
              rw [List.getD_eq_getElem?_getD, List.getElem?_eq_getElem (by rw [HN.out]; exact h), Option.getD_some]
            · refine .inl ⟨by omega, ?_⟩
              rw [List.getD_eq_getElem?_getD, List.getElem?_eq_none (by rw [HN.out]; omega)]; rfl
          have hx2 : (n2 ≤ i ∧ l2.getD i true = true) ∨ (i < n2 ∧ l2[i]? = some (l2.getD i true)) := by
            by_cases h : i < n2
            · refine .inr ⟨h, ?_⟩
              rw [List.getD_eq_getElem?_getD, List.getElem?_eq_getElem (by rw [HN2.out]; exact h), Option.getD_some]
            · refine .inl ⟨by omega, ?_⟩
              rw [List.getD_eq_getElem?_getD, List.getElem?_eq_none (by rw [HN2.out]; omega)]; rfl
          generalize l.getD i true = y at *
          generalize l2.getD i true = s at *
          rcases hx1 with ⟨p1, rfl⟩ | ⟨p1, p2⟩
          · rcases hx2 with ⟨r1, rfl⟩ | ⟨r1, r2⟩
            · have q1 : (n : Int) ≤ (i : Int) := by omega
              have q2 : (n2 : Int) ≤ (i : Int) := by omega
              clear HS HS2 HN HN2 HAw
              go_wp2_with (first | (refine wpList_mk1 bLay (p := true) HK (by decide) rfl _ rfl rfl rfl ?_; intro _ g6 HK'; simp only [List.cons_append, List.nil_append] at HK'; have HR := Lib.hid (HK'.out.own 3 rfl).rd; replace HK := HK'; clear HK') | (refine wpList_mk1 bLay (p := true) HK (by decide) rfl _ rfl rfl rfl ?_; intro _ g5 HK'; simp only [List.cons_append, List.nil_append] at HK'; have HR := Lib.hid (HK'.out.own 2 rfl).rd; replace HK := HK'; clear HK') | (at_builtin; refine wpList_kmore HK bLay 0 rfl _ _ rfl rfl rfl [true] rfl rfl HR (grow_ok (HL1.out _) (by show (i + 1) * 1 ≤ _; omega) (by omega)) (N := i + 1) (HL1.out _) ?_; intro A5 c5 _ HK'; simp only [List.set] at HK'; replace HK := HK'; clear HK' HR) | (at_builtin; refine wpList_kmore HK bLay 1 rfl _ _ rfl rfl rfl [true] rfl rfl HR (grow_ok (HL2.out _) (by show (i + 1) * 1 ≤ _; omega) (by omega)) (N := i + 1) (HL2.out _) ?_; intro A6 c6 _ HK'; simp only [List.set] at HK'; replace HK := HK'; clear HK' HR) | refine wpList_exe (exec_add1 (j := i) _ (by rfl) (by rfl) hi3) (by rfl) ?_)
              exact ⟨⟨i + 1, A5, A6, c5, c6, hlt, rfl, rfl, rfl, by rw [HF1.out, HF2.out]; exact Lib.hid (HK.out.takeR 2)⟩, by simp [intOf]; omega⟩
            · have q1 : (n : Int) ≤ (i : Int) := by omega
              obtain ⟨g2, o2, rfl, hat⟩ := HS2.out.bat (by omega)
              have HX2 : Hid (∀ W, Below w.heap.size w W → W.cell? ⟨g2, o2 + i, none⟩ = some (.bool s)) := Lib.hid fun W hW => hat W hW i s r2
              have q2 : ¬ (n2 : Int) ≤ (i : Int) := by omega
              clear hat r2
              clear HS HS2 HN HN2 HAw
              go_wp2_with (first | refine wpList_exe (exec_lcb (x := s) _ (by rfl) (by rfl) (HX2.out _ HK.out.b)) (by rfl) ?_ | (refine wpList_mk1 bLay (p := s) HK (by decide) rfl _ rfl rfl rfl ?_; intro _ g6 HK'; simp only [List.cons_append, List.nil_append] at HK'; have HR := Lib.hid (HK'.out.own 3 rfl).rd; replace HK := HK'; clear HK') | (refine wpList_mk1 bLay (p := true) HK (by decide) rfl _ rfl rfl rfl ?_; intro _ g5 HK'; simp only [List.cons_append, List.nil_append] at HK'; have HR := Lib.hid (HK'.out.own 2 rfl).rd; replace HK := HK'; clear HK') | (at_builtin; refine wpList_kmore HK bLay 0 rfl _ _ rfl rfl rfl [true] rfl rfl HR (grow_ok (HL1.out _) (by show (i + 1) * 1 ≤ _; omega) (by omega)) (N := i + 1) (HL1.out _) ?_; intro A5 c5 _ HK'; simp only [List.set] at HK'; replace HK := HK'; clear HK' HR) | (at_builtin; refine wpList_kmore HK bLay 1 rfl _ _ rfl rfl rfl [s] rfl rfl HR (grow_ok (HL2.out _) (by show (i + 1) * 1 ≤ _; omega) (by omega)) (N := i + 1) (HL2.out _) ?_; intro A6 c6 _ HK'; simp only [List.set] at HK'; replace HK := HK'; clear HK' HR) | refine wpList_exe (exec_add1 (j := i) _ (by rfl) (by rfl) hi3) (by rfl) ?_)
              exact ⟨⟨i + 1, A5, A6, c5, c6, hlt, rfl, rfl, rfl, by rw [HF1.out, HF2.out]; exact Lib.hid (HK.out.takeR 2)⟩, by simp [intOf]; omega⟩
          · rcases hx2 with ⟨r1, rfl⟩ | ⟨r1, r2⟩
            · obtain ⟨g1, o1, rfl, hat⟩ := HS.out.bat (by omega)
              have HX1 : Hid (∀ W, Below w.heap.size w W → W.cell? ⟨g1, o1 + i, none⟩ = some (.bool y)) := Lib.hid fun W hW => hat W hW i y p2
              have q1 : ¬ (n : Int) ≤ (i : Int) := by omega
              clear hat p2
              have q2 : (n2 : Int) ≤ (i : Int) := by omega
              clear HS HS2 HN HN2 HAw
              go_wp2_with (first | refine wpList_exe (exec_lcb (x := y) _ (by rfl) (by rfl) (HX1.out _ HK.out.b)) (by rfl) ?_ | (refine wpList_mk1 bLay (p := true) HK (by decide) rfl _ rfl rfl rfl ?_; intro _ g6 HK'; simp only [List.cons_append, List.nil_append] at HK'; have HR := Lib.hid (HK'.out.own 3 rfl).rd; replace HK := HK'; clear HK') | (refine wpList_mk1 bLay (p := y) HK (by decide) rfl _ rfl rfl rfl ?_; intro _ g5 HK'; simp only [List.cons_append, List.nil_append] at HK'; have HR := Lib.hid (HK'.out.own 2 rfl).rd; replace HK := HK'; clear HK') | (at_builtin; refine wpList_kmore HK bLay 0 rfl _ _ rfl rfl rfl [y] rfl rfl HR (grow_ok (HL1.out _) (by show (i + 1) * 1 ≤ _; omega) (by omega)) (N := i + 1) (HL1.out _) ?_; intro A5 c5 _ HK'; simp only [List.set] at HK'; replace HK := HK'; clear HK' HR) | (at_builtin; refine wpList_kmore HK bLay 1 rfl _ _ rfl rfl rfl [true] rfl rfl HR (grow_ok (HL2.out _) (by show (i + 1) * 1 ≤ _; omega) (by omega)) (N := i + 1) (HL2.out _) ?_; intro A6 c6 _ HK'; simp only [List.set] at HK'; replace HK := HK'; clear HK' HR) | refine wpList_exe (exec_add1 (j := i) _ (by rfl) (by rfl) hi3) (by rfl) ?_)
              exact ⟨⟨i + 1, A5, A6, c5, c6, hlt, rfl, rfl, rfl, by rw [HF1.out, HF2.out]; exact Lib.hid (HK.out.takeR 2)⟩, by simp [intOf]; omega⟩
            · obtain ⟨g1, o1, rfl, hat⟩ := HS.out.bat (by omega)
              have HX1 : Hid (∀ W, Below w.heap.size w W → W.cell? ⟨g1, o1 + i, none⟩ = some (.bool y)) := Lib.hid fun W hW => hat W hW i y p2
              have q1 : ¬ (n : Int) ≤ (i : Int) := by omega
              clear hat p2
              obtain ⟨g2, o2, rfl, hat⟩ := HS2.out.bat (by omega)
              have HX2 : Hid (∀ W, Below w.heap.size w W → W.cell? ⟨g2, o2 + i, none⟩ = some (.bool s)) := Lib.hid fun W hW => hat W hW i s r2
              have q2 : ¬ (n2 : Int) ≤ (i : Int) := by omega
              clear hat r2
              clear HS HS2 HN HN2 HAw
              go_wp2_with (first | refine wpList_exe (exec_lcb (x := y) _ (by rfl) (by rfl) (HX1.out _ HK.out.b)) (by rfl) ?_ | refine wpList_exe (exec_lcb (x := s) _ (by rfl) (by rfl) (HX2.out _ HK.out.b)) (by rfl) ?_ | (refine wpList_mk1 bLay (p := s) HK (by decide) rfl _ rfl rfl rfl ?_; intro _ g6 HK'; simp only [List.cons_append, List.nil_append] at HK'; have HR := Lib.hid (HK'.out.own 3 rfl).rd; replace HK := HK'; clear HK') | (refine wpList_mk1 bLay (p := y) HK (by decide) rfl _ rfl rfl rfl ?_; intro _ g5 HK'; simp only [List.cons_append, List.nil_append] at HK'; have HR := Lib.hid (HK'.out.own 2 rfl).rd; replace HK := HK'; clear HK') | (at_builtin; refine wpList_kmore HK bLay 0 rfl _ _ rfl rfl rfl [y] rfl rfl HR (grow_ok (HL1.out _) (by show (i + 1) * 1 ≤ _; omega) (by omega)) (N := i + 1) (HL1.out _) ?_; intro A5 c5 _ HK'; simp only [List.set] at HK'; replace HK := HK'; clear HK' HR) | (at_builtin; refine wpList_kmore HK bLay 1 rfl _ _ rfl rfl rfl [s] rfl rfl HR (grow_ok (HL2.out _) (by show (i + 1) * 1 ≤ _; omega) (by omega)) (N := i + 1) (HL2.out _) ?_; intro A6 c6 _ HK'; simp only [List.set] at HK'; replace HK := HK'; clear HK' HR) | refine wpList_exe (exec_add1 (j := i) _ (by rfl) (by rfl) hi3) (by rfl) ?_)
              exact ⟨⟨i + 1, A5, A6, c5, c6, hlt, rfl, rfl, rfl, by rw [HF1.out, HF2.out]; exact Lib.hid (HK.out.takeR 2)⟩, by simp [intOf]; omega⟩
      case neg =>
        obtain rfl : i = K := by omega
        have hYl := Blt.fl_len l i
        have hSl := Blt.fl_len l2 i
        generalize Blt.fl l i = Y at *
        generalize Blt.fl l2 i = S at *
        have hYb : Y.length ≤ 140737488355328 := by omega
        have hSb : S.length ≤ 140737488355328 := by omega
        obtain ⟨g1, rfl⟩ := HK.out.headR (j := 0) rfl (by rw [hYl]; omega)
        obtain ⟨g2, rfl⟩ := HK.out.headR (j := 1) rfl (by rw [hSl]; omega)
        have HM1 := Lib.hid (fun W (h : Sls bLay bF W (some ⟨g1, 0, none⟩) i c1 Y) => bmost_any (some ⟨g1, 0, none⟩) i c1 Y W h)
        have HM2 := Lib.hid (fun W (h : Sls bLay bF W (some ⟨g2, 0, none⟩) i c3 S) => bmost_any (some ⟨g2, 0, none⟩) i c3 S W h)
        have HRt := Lib.hid (fun W => b20cright_any b W)
        unfold IsB at HRt
        have HYL := Lib.hid hYl
        have HSL := Lib.hid hSl
        clear hYl hSl HS HS2 HN HN2
        by_cases m1 : Blt.most Y
        case neg =>
          as_aux_lemma =>
            rw [decide_eq_false m1] at HM1
            clear m1 HM2 HRt
            go_wp2_with fail
            refine (HM1.out _ (HK.out.bsl 0 rfl hYb)).mono ?_; rintro e w1 ⟨rfl, rfl⟩
            go_wp2_with fail
            refine (HAw.out _).mono ?_; rintro e w1 ⟨rfl, b1⟩
            replace HK := Lib.hid (HK.out.call b1); clear b1
            go_wp2_with fail
            go_ret
            exact ⟨rfl, HK.out.b⟩
        rw [decide_eq_true m1] at HM1
        by_cases m2 : Blt.most S
        case neg =>
          as_aux_lemma =>
            rw [decide_eq_false m2] at HM2
            clear m1 m2 HRt
            go_wp2_with fail
            refine (HM1.out _ (HK.out.bsl 0 rfl hYb)).mono ?_; rintro e w1 ⟨rfl, rfl⟩
            go_wp2_with fail
            refine (HM2.out _ (HK.out.bsl 1 rfl hSb)).mono ?_; rintro e w1 ⟨rfl, rfl⟩
            go_wp2_with fail
            refine (HAw.out _).mono ?_; rintro e w1 ⟨rfl, b1⟩
            replace HK := Lib.hid (HK.out.call b1); clear b1
            go_wp2_with fail
            go_ret
            exact ⟨rfl, HK.out.b⟩
        rw [decide_eq_true m2] at HM2
        by_cases m3 : Blt.Rt b
        case neg =>
          as_aux_lemma =>
            rw [decide_eq_false m3] at HRt
            clear m1 m2 m3
            go_wp2_with fail
            refine (HM1.out _ (HK.out.bsl 0 rfl hYb)).mono ?_; rintro e w1 ⟨rfl, rfl⟩
            go_wp2_with fail
            refine (HM2.out _ (HK.out.bsl 1 rfl hSb)).mono ?_; rintro e w1 ⟨rfl, rfl⟩
            have f0 := HK.out.cell 0 rfl 0 (v := .int .i64 b.r) rfl
            have f1 := HK.out.cell 0 rfl 1 (v := .int .i64 b.s) rfl
            go_wp2_with fail
            clear f0 f1
            refine (HRt.out _).mono ?_; rintro e w1 ⟨rfl, b1⟩
            replace HK := Lib.hid (HK.out.call b1); clear b1
            go_wp2_with fail
            refine (HAw.out _).mono ?_; rintro e w1 ⟨rfl, b1⟩
            replace HK := Lib.hid (HK.out.call b1); clear b1
            go_wp2_with fail
            go_ret
            exact ⟨rfl, HK.out.b⟩
        rw [decide_eq_true m3] at HRt
        by_cases m4 : b.r ≤ 1099511627776
        case neg =>
          as_aux_lemma =>
            have m5 : 1099511627776 < b.r := by omega
            clear m1 m2 m3 m4
            go_wp2_with fail
            refine (HM1.out _ (HK.out.bsl 0 rfl hYb)).mono ?_; rintro e w1 ⟨rfl, rfl⟩
            go_wp2_with fail
            refine (HM2.out _ (HK.out.bsl 1 rfl hSb)).mono ?_; rintro e w1 ⟨rfl, rfl⟩
            have f0 := HK.out.cell 0 rfl 0 (v := .int .i64 b.r) rfl
            have f1 := HK.out.cell 0 rfl 1 (v := .int .i64 b.s) rfl
            go_wp2_with fail
            clear f0 f1
            refine (HRt.out _).mono ?_; rintro e w1 ⟨rfl, b1⟩
            replace HK := Lib.hid (HK.out.call b1); clear b1
            have f0 := HK.out.cell 0 rfl 0 (v := .int .i64 b.r) rfl
            go_wp2_with fail
            refine (HAw.out _).mono ?_; rintro e w1 ⟨rfl, b1⟩
            clear f0
            replace HK := Lib.hid (HK.out.call b1); clear b1
            go_wp2_with fail
            go_ret
            exact ⟨rfl, HK.out.b⟩
        have m5 : ¬ 1099511627776 < b.r := by omega
        have HCh := Lib.hid (Blt.PP_ch (b := b) (by rw [HYL.out, HSL.out]) m1 m2 m3)
        rw [HYL.out] at HCh
        have hlo := m3.1
        have oz : Blt.ok zvo b := ⟨m3, fun h => Blt.lt_asym (Blt.zero_lt m3) h⟩
        have HAc := Lib.hid (fun W => b20cacc_any zvo b ⟨#[118]⟩ W)
        rw [show Blt.ac zvo b ⟨#[118]⟩ = ⟨b, b, ⟨#[118]⟩⟩ from if_pos oz, decide_eq_true oz] at HAc
        have rb : Blt.Rt ⟨b.r + 1, b.s⟩ := ⟨by show 1 ≤ b.r + 1; omega, m3.2.1, m3.2.2⟩
        have o1 : Blt.ok ⟨b, b, ⟨#[118]⟩⟩ ⟨b.r + 1, b.s⟩ := ⟨rb, by unfold Blt.lt; simp only; omega⟩
        have o2 : Blt.ok zvo ⟨b.r + 1, b.s⟩ := ⟨rb, fun h => Blt.lt_asym (Blt.zero_lt rb) h⟩
        have HP1 := Lib.hid (fun W => b20cprep_any ⟨b, b, ⟨#[118]⟩⟩ ⟨b.r + 1, b.s⟩ W)
        rw [show Blt.pr ⟨b, b, ⟨#[118]⟩⟩ ⟨b.r + 1, b.s⟩ = ⟨⟨b.r + 1, b.s⟩, b, ⟨#[118]⟩⟩ from if_pos o1, decide_eq_true o1] at HP1
        have HP2 := Lib.hid (fun W => b20cprep_any zvo ⟨b.r + 1, b.s⟩ W)
        rw [show Blt.pr zvo ⟨b.r + 1, b.s⟩ = ⟨⟨b.r + 1, b.s⟩, ⟨0, 0⟩, ⟨#[]⟩⟩ from if_pos o2, decide_eq_true o2] at HP2
        have hw : IntKind.i64.wrap (b.r + 1) = b.r + 1 := by rw [IntKind.wrap_i64]; omega
        unfold IsVB at HAc HP1 HP2
        clear m1 m2 m3 m4 oz rb o1 o2 hlo
        go_wp2_with fail
        refine (HM1.out _ (HK.out.bsl 0 rfl hYb)).mono ?_; rintro e w1 ⟨rfl, rfl⟩
        go_wp2_with fail
        refine (HM2.out _ (HK.out.bsl 1 rfl hSb)).mono ?_; rintro e w1 ⟨rfl, rfl⟩
        have f0 := HK.out.cell 0 rfl 0 (v := .int .i64 b.r) rfl
        have f1 := HK.out.cell 0 rfl 1 (v := .int .i64 b.s) rfl
        go_wp2_with fail
        clear f0 f1
        refine (HRt.out _).mono ?_; rintro e w1 ⟨rfl, b1⟩
        replace HK := Lib.hid (HK.out.call b1); clear b1
        have f0 := HK.out.cell 0 rfl 0 (v := .int .i64 b.r) rfl
        clear HM1 HM2 HRt
        replace HK := Lib.hid (HK.out.nilR pmLay)
        simp only [List.cons_append, List.nil_append] at HK
        go_wp2_with fail
        clear f0 m5
        go_loopw [11, 12] (fun v11 v12 wr => ∃ (j n4 c4 : Nat) (A4 : Option Addr), j ≤ i ∧ v12 = .int .i64 j ∧ v11 = .slice A4 n4 c4 ∧ Hid ((Blt.PP b Y S j).length = n4) ∧ Hid (Kn w.heap.size w wr [(w.heap.size, 23, blA b)] [row bLay (.slice (some ⟨g1, 0, none⟩) i c1) Y, row bLay (.slice (some ⟨g2, 0, none⟩) i c3) S, row pmLay (.slice A4 n4 c4) (Blt.PP b Y S j)])) (fun _ v _ => i - (intOf v).toNat)
        case atStart => exact ⟨0, 0, 0, none, Nat.zero_le _, rfl, rfl, Lib.hid rfl, HK⟩
        case round =>
          clear HK
          obtain ⟨j, n4, c4, A4, hj, rfl, rfl, HPL, HK⟩ := hrel
          have hj1 : (0 : Int) ≤ (j : Int) := by omega
          have hj3 : j < 9223372036854775807 := by omega
          by_cases hlt : j < i
          case pos =>
            as_aux_lemma =>
              have hj2 : (j : Int) < (i : Int) := by omega
              have hn4 : n4 ≤ 7 := by have := Blt.PP_len b Y S j; rw [HPL.out] at this; omega
              obtain ⟨y, hy⟩ := Lay.get_of (l := Y) (k := j) (by rw [HYL.out]; exact hlt)
              obtain ⟨s, hs⟩ := Lay.get_of (l := S) (k := j) (by rw [HSL.out]; exact hlt)
              have HMo := Lib.hid (Blt.PP_more (b := b) hy hs)
              have HL : Hid (∀ x : Bpm, (Blt.PP b Y S j ++ [x]).length = n4 + 1) := Lib.hid fun x => by rw [List.length_append, HPL.out]; rfl
              have HYj := Lib.hid hy
              have HSj := Lib.hid hs
              clear hy hs HAw HYL HSL HCh
              cases y <;> cases s
              · clear HP1 HAc
                go_wp2_with (first | (refine wpList_avo HK rfl rfl ?_; intro _ g3 HK'; simp only [List.cons_append, List.nil_append] at HK'; replace HK := HK'; clear HK') | refine wpList_exe (exec_ixz (i := j) _ _ (by rfl) (by rfl) (by rfl) hlt) (by rfl) ?_ | refine wpList_exe (exec_lcb (x := false) _ (by rfl) (by rfl) (HK.out.bat 0 rfl hYb HYj.out)) (by rfl) ?_ | refine wpList_exe (exec_lcb (x := false) _ (by rfl) (by rfl) (HK.out.bat 1 rfl hSb HSj.out)) (by rfl) ?_ | refine wpList_exe (kv_v HK 1 _ (by rfl) (by rfl) (by rfl)) (by rfl) ?_ | refine wpList_exe (kb_r HK 0 _ (by rfl) (by rfl) (by rfl)) (by rfl) ?_ | refine wpList_exe (kb_s HK 0 _ (by rfl) (by rfl) (by rfl)) (by rfl) ?_)
                refine (HP2.out _).mono ?_; rintro e w1 ⟨rfl, b1⟩
                replace HK := Lib.hid (HK.out.call b1); clear b1
                go_wp2_with (first | (refine wpList_avo HK rfl rfl ?_; intro _ g4 HK'; simp only [List.cons_append, List.nil_append] at HK'; replace HK := HK'; clear HK') | (refine wpList_svo (x := zvo) (y := ⟨⟨b.r + 1, b.s⟩, ⟨0, 0⟩, ⟨#[]⟩⟩) HK 2 rfl _ _ rfl rfl rfl rfl ?_; intro _ HK'; simp only [List.set] at HK'; replace HK := HK'; clear HK') | refine wpList_exe (exec_ixz (i := j) _ _ (by rfl) (by rfl) (by rfl) hlt) (by rfl) ?_ | refine wpList_exe (exec_lcb (x := false) _ (by rfl) (by rfl) (HK.out.bat 0 rfl hYb HYj.out)) (by rfl) ?_ | refine wpList_exe (exec_lcb (x := false) _ (by rfl) (by rfl) (HK.out.bat 1 rfl hSb HSj.out)) (by rfl) ?_ | refine wpList_exe (exec_add1 (j := j) _ (by rfl) (by rfl) hj3) (by rfl) ?_)
                exact ⟨⟨j + 1, n4, c4, A4, hlt, rfl, rfl, by rw [HMo.out]; exact Lib.hid (by simpa using HPL.out), by rw [HMo.out]; simp only [Bool.false_eq_true, if_false, List.append_nil]; exact Lib.hid (HK.out.takeL 1)⟩, by simp [intOf]; omega⟩
              · clear HP1 HAc
                go_wp2_with (first | (refine wpList_avo HK rfl rfl ?_; intro _ g3 HK'; simp only [List.cons_append, List.nil_append] at HK'; replace HK := HK'; clear HK') | refine wpList_exe (exec_ixz (i := j) _ _ (by rfl) (by rfl) (by rfl) hlt) (by rfl) ?_ | refine wpList_exe (exec_lcb (x := false) _ (by rfl) (by rfl) (HK.out.bat 0 rfl hYb HYj.out)) (by rfl) ?_ | refine wpList_exe (exec_lcb (x := true) _ (by rfl) (by rfl) (HK.out.bat 1 rfl hSb HSj.out)) (by rfl) ?_ | refine wpList_exe (kv_v HK 1 _ (by rfl) (by rfl) (by rfl)) (by rfl) ?_ | refine wpList_exe (kb_r HK 0 _ (by rfl) (by rfl) (by rfl)) (by rfl) ?_ | refine wpList_exe (kb_s HK 0 _ (by rfl) (by rfl) (by rfl)) (by rfl) ?_)
                refine (HP2.out _).mono ?_; rintro e w1 ⟨rfl, b1⟩
                replace HK := Lib.hid (HK.out.call b1); clear b1
                go_wp2_with (first | (refine wpList_avo HK rfl rfl ?_; intro _ g4 HK'; simp only [List.cons_append, List.nil_append] at HK'; replace HK := HK'; clear HK') | (refine wpList_svo (x := zvo) (y := ⟨⟨b.r + 1, b.s⟩, ⟨0, 0⟩, ⟨#[]⟩⟩) HK 2 rfl _ _ rfl rfl rfl rfl ?_; intro _ HK'; simp only [List.set] at HK'; replace HK := HK'; clear HK') | refine wpList_exe (exec_ixz (i := j) _ _ (by rfl) (by rfl) (by rfl) hlt) (by rfl) ?_ | refine wpList_exe (exec_lcb (x := false) _ (by rfl) (by rfl) (HK.out.bat 0 rfl hYb HYj.out)) (by rfl) ?_ | refine wpList_exe (exec_lcb (x := true) _ (by rfl) (by rfl) (HK.out.bat 1 rfl hSb HSj.out)) (by rfl) ?_ | refine wpList_exe (kv_a HK 2 _ (by rfl) (by rfl) (by rfl)) (by rfl) ?_ | refine wpList_exe (kv_s HK 2 _ (by rfl) (by rfl) (by rfl)) (by rfl) ?_ | (refine wpList_mk1 pmLay (p := Blt.zp) HK (by decide) rfl _ rfl rfl rfl ?_; intro _ g6 HK'; simp only [List.cons_append, List.nil_append] at HK'; have HR := Lib.hid (HK'.out.own 3 rfl).rd; replace HK := HK'; clear HK') | (at_builtin; refine wpList_kmore HK pmLay 2 rfl _ _ rfl rfl rfl [Blt.zp] rfl rfl HR (grow_ok (HL.out _) (by show (n4 + 1) * 32 ≤ _; omega) (by omega)) (N := n4 + 1) (HL.out _) ?_; intro A5 c5 _ HK'; simp only [List.set] at HK'; replace HK := HK'; clear HK' HR) | refine wpList_exe (exec_add1 (j := j) _ (by rfl) (by rfl) hj3) (by rfl) ?_)
                exact ⟨⟨j + 1, n4 + 1, c5, A5, hlt, rfl, rfl, by rw [HMo.out]; exact Lib.hid (HL.out _), by rw [HMo.out]; exact Lib.hid ((HK.out.takeL 1).takeR 3)⟩, by simp [intOf]; omega⟩
              · clear HP2
                go_wp2_with (first | (refine wpList_avo HK rfl rfl ?_; intro _ g3 HK'; simp only [List.cons_append, List.nil_append] at HK'; replace HK := HK'; clear HK') | refine wpList_exe (exec_ixz (i := j) _ _ (by rfl) (by rfl) (by rfl) hlt) (by rfl) ?_ | refine wpList_exe (exec_lcb (x := true) _ (by rfl) (by rfl) (HK.out.bat 0 rfl hYb HYj.out)) (by rfl) ?_ | refine wpList_exe (exec_lcb (x := false) _ (by rfl) (by rfl) (HK.out.bat 1 rfl hSb HSj.out)) (by rfl) ?_ | refine wpList_exe (kv_v HK 1 _ (by rfl) (by rfl) (by rfl)) (by rfl) ?_ | refine wpList_exe (kb_b HK 0 _ (by rfl) (by rfl) (by rfl)) (by rfl) ?_)
                refine (HAc.out _).mono ?_; rintro e w1 ⟨rfl, b1⟩
                replace HK := Lib.hid (HK.out.call b1); clear b1
                go_wp2_with (first | (refine wpList_svo (x := zvo) (y := ⟨b, b, ⟨#[118]⟩⟩) HK 1 rfl _ _ rfl rfl rfl rfl ?_; intro _ HK'; simp only [List.set] at HK'; replace HK := HK'; clear HK') | refine wpList_exe (kv_v HK 1 _ (by rfl) (by rfl) (by rfl)) (by rfl) ?_ | refine wpList_exe (kb_r HK 0 _ (by rfl) (by rfl) (by rfl)) (by rfl) ?_ | refine wpList_exe (kb_s HK 0 _ (by rfl) (by rfl) (by rfl)) (by rfl) ?_)
                refine (HP1.out _).mono ?_; rintro e w1 ⟨rfl, b1⟩
                replace HK := Lib.hid (HK.out.call b1); clear b1
                go_wp2_with (first | (refine wpList_avo HK rfl rfl ?_; intro _ g4 HK'; simp only [List.cons_append, List.nil_append] at HK'; replace HK := HK'; clear HK') | (refine wpList_svo (x := zvo) (y := ⟨⟨b.r + 1, b.s⟩, b, ⟨#[118]⟩⟩) HK 2 rfl _ _ rfl rfl rfl rfl ?_; intro _ HK'; simp only [List.set] at HK'; replace HK := HK'; clear HK') | refine wpList_exe (exec_ixz (i := j) _ _ (by rfl) (by rfl) (by rfl) hlt) (by rfl) ?_ | refine wpList_exe (exec_lcb (x := true) _ (by rfl) (by rfl) (HK.out.bat 0 rfl hYb HYj.out)) (by rfl) ?_ | refine wpList_exe (exec_lcb (x := false) _ (by rfl) (by rfl) (HK.out.bat 1 rfl hSb HSj.out)) (by rfl) ?_ | refine wpList_exe (exec_add1 (j := j) _ (by rfl) (by rfl) hj3) (by rfl) ?_)
                exact ⟨⟨j + 1, n4, c4, A4, hlt, rfl, rfl, by rw [HMo.out]; exact Lib.hid (by simpa using HPL.out), by rw [HMo.out]; simp only [Bool.false_eq_true, if_false, List.append_nil]; exact Lib.hid (HK.out.takeL 1)⟩, by simp [intOf]; omega⟩
              · clear HP2
                go_wp2_with (first | (refine wpList_avo HK rfl rfl ?_; intro _ g3 HK'; simp only [List.cons_append, List.nil_append] at HK'; replace HK := HK'; clear HK') | refine wpList_exe (exec_ixz (i := j) _ _ (by rfl) (by rfl) (by rfl) hlt) (by rfl) ?_ | refine wpList_exe (exec_lcb (x := true) _ (by rfl) (by rfl) (HK.out.bat 0 rfl hYb HYj.out)) (by rfl) ?_ | refine wpList_exe (exec_lcb (x := true) _ (by rfl) (by rfl) (HK.out.bat 1 rfl hSb HSj.out)) (by rfl) ?_ | refine wpList_exe (kv_v HK 1 _ (by rfl) (by rfl) (by rfl)) (by rfl) ?_ | refine wpList_exe (kb_b HK 0 _ (by rfl) (by rfl) (by rfl)) (by rfl) ?_)
                refine (HAc.out _).mono ?_; rintro e w1 ⟨rfl, b1⟩
                replace HK := Lib.hid (HK.out.call b1); clear b1
                go_wp2_with (first | (refine wpList_svo (x := zvo) (y := ⟨b, b, ⟨#[118]⟩⟩) HK 1 rfl _ _ rfl rfl rfl rfl ?_; intro _ HK'; simp only [List.set] at HK'; replace HK := HK'; clear HK') | refine wpList_exe (kv_v HK 1 _ (by rfl) (by rfl) (by rfl)) (by rfl) ?_ | refine wpList_exe (kb_r HK 0 _ (by rfl) (by rfl) (by rfl)) (by rfl) ?_ | refine wpList_exe (kb_s HK 0 _ (by rfl) (by rfl) (by rfl)) (by rfl) ?_)
                refine (HP1.out _).mono ?_; rintro e w1 ⟨rfl, b1⟩
                replace HK := Lib.hid (HK.out.call b1); clear b1
                go_wp2_with (first | (refine wpList_avo HK rfl rfl ?_; intro _ g4 HK'; simp only [List.cons_append, List.nil_append] at HK'; replace HK := HK'; clear HK') | (refine wpList_svo (x := zvo) (y := ⟨⟨b.r + 1, b.s⟩, b, ⟨#[118]⟩⟩) HK 2 rfl _ _ rfl rfl rfl rfl ?_; intro _ HK'; simp only [List.set] at HK'; replace HK := HK'; clear HK') | refine wpList_exe (exec_ixz (i := j) _ _ (by rfl) (by rfl) (by rfl) hlt) (by rfl) ?_ | refine wpList_exe (exec_lcb (x := true) _ (by rfl) (by rfl) (HK.out.bat 0 rfl hYb HYj.out)) (by rfl) ?_ | refine wpList_exe (exec_lcb (x := true) _ (by rfl) (by rfl) (HK.out.bat 1 rfl hSb HSj.out)) (by rfl) ?_ | refine wpList_exe (kv_a HK 2 _ (by rfl) (by rfl) (by rfl)) (by rfl) ?_ | refine wpList_exe (kv_s HK 2 _ (by rfl) (by rfl) (by rfl)) (by rfl) ?_ | (refine wpList_mk1 pmLay (p := ⟨b, ⟨#[118]⟩⟩) HK (by decide) rfl _ rfl rfl rfl ?_; intro _ g6 HK'; simp only [List.cons_append, List.nil_append] at HK'; have HR := Lib.hid (HK'.out.own 3 rfl).rd; replace HK := HK'; clear HK') | (at_builtin; refine wpList_kmore HK pmLay 2 rfl _ _ rfl rfl rfl [⟨b, ⟨#[118]⟩⟩] rfl rfl HR (grow_ok (HL.out _) (by show (n4 + 1) * 32 ≤ _; omega) (by omega)) (N := n4 + 1) (HL.out _) ?_; intro A5 c5 _ HK'; simp only [List.set] at HK'; replace HK := HK'; clear HK' HR) | refine wpList_exe (exec_add1 (j := j) _ (by rfl) (by rfl) hj3) (by rfl) ?_)
                exact ⟨⟨j + 1, n4 + 1, c5, A5, hlt, rfl, rfl, by rw [HMo.out]; exact Lib.hid (HL.out _), by rw [HMo.out]; exact Lib.hid ((HK.out.takeL 1).takeR 3)⟩, by simp [intOf]; omega⟩
          case neg =>
            obtain rfl : j = i := by omega
            have hPf : Fits pmLay pmF (Blt.PP b Y S j) := ⟨Blt.PP_fit, by show (Blt.PP b Y S j).length * 32 ≤ _; have := Blt.PP_len b Y S j; omega⟩
            have H4 := Lib.hid (fun (W : World) (h : Lay.Own pmLay w.heap.size W (.slice A4 n4 c4) (Blt.PP b Y S j)) => bchoose_any A4 n4 c4 _ W (Sls.own h hPf))
            rw [HCh.out] at H4
            unfold IsSB at H4
            simp only [Blt.lo, Option.getD_some, Option.isSome_some] at H4
            clear hPf HP1 HP2 HAc HCh
            go_wp2_with fail
            refine (H4.out _ (HK.out.own 2 rfl)).mono ?_; rintro e w1 ⟨rfl, b1⟩
            replace HK := Lib.hid (HK.out.call b1); clear b1
            go_wp2_with fail
            refine (HAw.out _).mono ?_; rintro e w1 ⟨rfl, b1⟩
            replace HK := Lib.hid (HK.out.call b1); clear b1
            go_wp2_with fail
            go_ret
            exact ⟨rfl, HK.out.b⟩
end Go.Proofs.Ytfganmbjaglmiaa
