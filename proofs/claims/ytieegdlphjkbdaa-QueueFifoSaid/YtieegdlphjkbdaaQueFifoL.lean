/-
  The law QueueFifo: it returns true, and leaves what came in as it was.
  No condition but what the slice reads as.
-/
import Derived.Test.YtieegdlphjkbdaaQueFifoM
import Derived.Test.YtieegdlphjkbdaaQueDoesL
import Derived.Deep.CutBlock
import Derived.Deep.DeepCutAuto
set_option linter.unusedSimpArgs false
set_option linter.unusedVariables false
namespace Go.Proofs.Ytieegdlphjkbdaa
open Go.RowKit

theorem exec_subn {w : World} {o : Oper} {a : Act} {i j : Nat} (p q : Operand) (ho : o.op = .binOp .sub 3 p q 3) (hp : a.eval p = .int .i64 (i : Int)) (hq : a.eval q = .int .i64 (j : Int)) (hji : j ≤ i) (h : i < 9223372036854775807) :
    (execOp a.eval o).run Try.prog w = .ok (.value (.int .i64 ((i - j : Nat) : Int))) w := by
  have hw : IntKind.i64.wrap ((i : Int) - (j : Int)) = ((i - j : Nat) : Int) := by rw [IntKind.wrap_i64]; omega
  unfold execOp
  simp only [ho, hp, hq]
  go_simp
theorem vne_self (x : Val.V) : (!decide (x = x)) = false := by rw [decide_eq_true rfl]; rfl
theorem Kn.pick3 {b0 : Nat} {w0 w : World} {L : List (Nat × TypeId × Array Value)} {R : List RowE} (h : Kn b0 w0 w L R) (i j k : Nat) {x y z : RowE} (hi : R[i]? = some x) (hj : R[j]? = some y) (hk : R[k]? = some z) (h1 : i ≠ j) (h2 : i ≠ k) (h3 : j ≠ k) : Kn b0 w0 w L [x, y, z] :=
  h.pick id (fun q => if q = 0 then i else if q = 1 then j else k) (fun _ _ _ _ h => h) (fun a b ha hb hab => by
    have ha : a < 3 := ha
    have hb : b < 3 := hb
    split <;> split <;> (try split) <;> (try split) <;> omega) (fun _ _ h => h) (fun q v hq => by
    match q, hq with
    | 0, hq => simp at hq; subst hq; exact hi
    | 1, hq => simp at hq; subst hq; exact hj
    | 2, hq => simp at hq; subst hq; exact hk)
theorem fits_few {l : List Val.V} {m : Nat} (hf : ∀ v ∈ l, v.f < 18446744073709551616) (hn : l.length = m) (hm : m ≤ 80) : Fits vaLay vF l := ⟨hf, by show _ * 40 ≤ _; omega⟩
set_option maxRecDepth 100000 in
set_option maxHeartbeats 25600000 in
theorem fifo_yes (N : Int) (A : Option Addr) (c n : Nat) (l : List Val.V) (w : World) (hs : Sls vaLay vF w A n c l) :
    Calls Try.prog 4 #[.int .i64 N, .slice A n c] w (fun e w' => e = .returned (.bool true) ∧ Below w.heap.size w w') := by
  have HS := Lib.hid hs
  have HAw := Lib.hid (fun W => awake_any W)
  have hn63 : n < 9223372036854775807 := by
    have h : n * 40 ≤ 140737488355328 := hs.big
    omega
  unfold IsB at *
  clear hs
  have HK := Lib.hid ((((Kn.start w).nilR vaLay).nilR vaLay).nilR vaLay)
  simp only [List.cons_append, List.nil_append] at HK
  go_enter Try.func4, Try.ntmps4
  go_upto_block 0 with fail
  go_cut [5, 6, 7] (fun s5 s6 s7 wx => ∃ (nq ni no c1 c2 c3 : Nat) (A1 A2 A3 : Option Addr) (q inn out : List Val.V), s5 = .slice A1 nq c1 ∧ s6 = .slice A2 ni c2 ∧ s7 = .slice A3 no c3 ∧ ni ≤ 80 ∧ Hid (q.length = nq ∧ inn.length = ni ∧ out.length = no) ∧ Hid (Que.Fifo N q inn out) ∧ Hid (Kn w.heap.size w wx [] [row vaLay (.slice A1 nq c1) q, row vaLay (.slice A2 ni c2) inn, row vaLay (.slice A3 no c3) out]))
  case first =>
    as_aux_lemma =>
      go_wp2_with fail
      go_loopw [5, 6, 7, 8] (fun s5 s6 s7 vi wx => ∃ (k nq ni no c1 c2 c3 : Nat) (A1 A2 A3 : Option Addr) (q inn out : List Val.V), k ≤ n ∧ s5 = .slice A1 nq c1 ∧ s6 = .slice A2 ni c2 ∧ s7 = .slice A3 no c3 ∧ vi = .int .i64 k ∧ k ≤ 80 ∧ ni ≤ k ∧ Hid (q.length = nq ∧ inn.length = ni ∧ out.length = no) ∧ Hid (Que.Fifo N q inn out) ∧ Hid (Kn w.heap.size w wx [] [row vaLay (.slice A1 nq c1) q, row vaLay (.slice A2 ni c2) inn, row vaLay (.slice A3 no c3) out])) (fun _ _ _ vi _ => n - (intOf vi).toNat)
      case atStart => exact ⟨0, 0, 0, 0, 0, 0, 0, none, none, none, [], [], [], Nat.zero_le _, rfl, rfl, rfl, rfl, by decide, Nat.zero_le _, Lib.hid ⟨rfl, rfl, rfl⟩, Lib.hid (Que.Fifo.start N), HK⟩
      case round =>
        clear HK
        obtain ⟨k, nq, ni, no, c1, c2, c3, A1, A2, A3, q, inn, out, hkn, rfl, rfl, rfl, rfl, hk80, hnk, hlen, HFi, HK⟩ := hrel
        have hk1 : (0 : Int) ≤ (k : Int) := by omega
        have hk3 : k < 9223372036854775807 := by omega
        by_cases hgo : k < n ∧ k < 80
        case neg =>
          as_aux_lemma =>
            have hout : k = n ∨ (k < n ∧ 80 ≤ k) := by omega
            have hni : ni ≤ 80 := by omega
            clear hgo HS
            rcases hout with rfl | ⟨hlt, h80⟩
            · go_wp2_with fail
              go_meet
              exact ⟨nq, ni, no, c1, c2, c3, A1, A2, A3, q, inn, out, rfl, rfl, rfl, hni, hlen, HFi, HK⟩
            · have hk2 : (k : Int) < (n : Int) := by omega
              have hk62 : ¬ (k : Int) < 80 := by omega
              go_wp2_with fail
              go_meet
              exact ⟨nq, ni, no, c1, c2, c3, A1, A2, A3, q, inn, out, rfl, rfl, rfl, hni, hlen, HFi, HK⟩
        case pos =>
        obtain ⟨hlt, hlt80⟩ := hgo
        have hk2 : (k : Int) < (n : Int) := by omega
        have hk62 : (k : Int) < 80 := by omega
        obtain ⟨x, hx, hf⟩ := HS.out.get hlt
        obtain ⟨b, o, rfl, hat⟩ := HS.out.at (Nat.lt_of_le_of_lt (Nat.zero_le _) hlt)
        have HX := Lib.hid (fun W hW => hat W hW k x hx)
        have HFq := Lib.hid (fits_few HFi.out.qf.1 hlen.out.1 (by have h1 := HFi.out.len; have h2 := hlen.out.1; have h3 := hlen.out.2.1; omega))
        have hno : no ≤ ni := by have h1 := HFi.out.len; have h2 := hlen.out.2.2; have h3 := hlen.out.2.1; omega
        clear hat hx
        by_cases he : x = Que.emp
        case pos =>
          as_aux_lemma =>
            have HE := Lib.hid (show decide (x = Que.emp) = true from decide_eq_true he)
            have HP := Lib.hid (fun W (h : Sls vaLay vF W A1 nq c1 q) => pop_any N A1 c1 nq q W h)
            obtain ⟨vk, vn, vf, vs⟩ := x
            clear he hf
            by_cases hz : Que.ppE N q = 0
            case pos =>
              obtain ⟨hF', hlt2⟩ := HFi.out.pop hz
              have HF' := Lib.hid hF'
              have hno2 : no < ni := by rw [← hlen.out.2.2, ← hlen.out.2.1]; exact hlt2
              rw [hz] at HP
              have hvf : vF (Que.ppV N q) := vF_pp HFq.out
              have hlq : (Que.ppL N q).length = nq - 1 := by
                have h := hF'.len
                rw [List.length_append] at h
                have h2 := HFi.out.len
                have h3 := hlen.out
                simp only [List.length_cons, List.length_nil] at h
                omega
              have HLq := Lib.hid hlq
              clear hF' hlt2 hz HFi hlq
              unfold IsQP vv at *
              generalize Que.ppL N q = q' at *
              generalize hgv : Que.ppV N q = gv at *
              clear hgv
              obtain ⟨gk, gm, gf, gs⟩ := gv
              simp only at HP
              have HN2 : Hid ((out ++ [(⟨gk, gm, gf, gs⟩ : Val.V)]).length = no + 1) := Lib.hid (by rw [List.length_append, hlen.out.2.2]; rfl)
              have HL2 := grow_ok (La := vaLay) HN2 (by show (no + 1) * 40 ≤ _; omega) (by omega)
              go_wp2_with (first | refine wpList_exe (exec_lva (off := o + k * 4) _ (by rfl) (by rfl) (HX.out _ HK.out.b)) (by rfl) ?_ | refine wpList_exe (exec_veq (v := ⟨vk, vn, vf, vs⟩) (u := Que.emp) _ _ (by rfl) (by rfl) (by rfl) HE.out) (by rfl) ?_)
              refine (HP.out _ (Sls.own (HK.out.own 0 rfl) HFq.out)).mono ?_; rintro e w1 ⟨A4, n4, c4, rfl, o4, b4⟩
              replace HK := Lib.hid (HK.out.called b4 o4)
              obtain rfl := (Lay.Own.reads o4).1
              simp only [List.cons_append, List.nil_append] at HK
              clear o4 b4 HP
              go_wp2_with (first | (refine wpList_akv HK rfl rfl ?_; intro _ g9 HK'; simp only [List.cons_append, List.nil_append] at HK'; replace HK := HK'; clear HK') | (refine wpList_sv (f2 := gf) HK 0 rfl _ _ rfl rfl rfl rfl ?_; intro _ HK'; simp only [List.set] at HK'; replace HK := HK'; clear HK') | refine wpList_of_exec (by rfl) (kexec_vv HK 0 _ (by rfl) (by rfl) (by rfl)) ?_ | (refine wpList_mk1 vaLay (p := ⟨gk, gm, gf, gs⟩) HK (by decide) rfl _ rfl rfl rfl ?_; intro w2 g2 HK'; simp only [List.cons_append, List.nil_append] at HK'; have HR := Lib.hid (HK'.out.own 4 rfl).rd; replace HK := HK'; clear HK') | (at_builtin; refine wpList_kmore HK vaLay 2 rfl _ _ rfl rfl rfl [⟨gk, gm, gf, gs⟩] rfl rfl HR HL2 (N := no + 1) HN2 ?_; intro A5 c5 _ HK'; simp only [List.set] at HK'; replace HK := HK'; clear HK') | refine wpList_exe (exec_add1 (j := k) _ (by rfl) (by rfl) hk3) (by rfl) ?_)
              exact ⟨⟨k + 1, q'.length, ni, no + 1, c4, c2, c5, A4, A2, A5, q', inn, _, hlt, rfl, rfl, rfl, rfl, by omega, by omega, Lib.hid ⟨rfl, hlen.out.2.1, HN2.out⟩, HF', Lib.hid ((HK.out.takeL 0).pick3 3 1 2 rfl rfl rfl (by decide) (by decide) (by decide))⟩, by simp [intOf]; omega⟩
            case neg =>
              have HSt := Lib.hid (HFi.out.stuck hz)
              rw [hlen.out.2.2, hlen.out.2.1] at HSt
              have hz2 : (Que.ppE N q == 0) = false := by simpa using hz
              clear hz
              unfold IsQP vv at *
              generalize Que.ppE N q = X at *
              generalize Que.ppL N q = q' at *
              generalize Que.ppV N q = gv at *
              obtain ⟨gk, gm, gf, gs⟩ := gv
              simp only at HP
              go_wp2_with (first | refine wpList_exe (exec_lva (off := o + k * 4) _ (by rfl) (by rfl) (HX.out _ HK.out.b)) (by rfl) ?_ | refine wpList_exe (exec_veq (v := ⟨vk, vn, vf, vs⟩) (u := Que.emp) _ _ (by rfl) (by rfl) (by rfl) HE.out) (by rfl) ?_)
              refine (HP.out _ (Sls.own (HK.out.own 0 rfl) HFq.out)).mono ?_; rintro e w1 ⟨A4, n4, c4, rfl, o4, b4⟩
              replace HK := Lib.hid (HK.out.call b4)
              clear o4 b4 HP
              have hcase : ¬ (no : Int) < (ni : Int) ∨ ((no : Int) < (ni : Int) ∧ N < 1) ∨ ((no : Int) < (ni : Int) ∧ 1 ≤ N ∧ 8 < N) := by
                by_cases h1 : no < ni
                · by_cases h2 : 1 ≤ N
                  · by_cases h3 : N ≤ 8
                    · exact absurd h1 (HSt.out h2 h3)
                    · exact .inr (.inr ⟨by omega, h2, by omega⟩)
                  · exact .inr (.inl ⟨by omega, by omega⟩)
                · exact .inl (by omega)
              clear HSt
              rcases hcase with h1 | ⟨h1, h2⟩ | ⟨h1, h2, h3⟩
              all_goals
                (try have h2' : ¬ 1 ≤ N := by omega)
                (try have h3' : ¬ N ≤ 8 := by omega)
                go_wp2_with (first | (refine wpList_akv HK rfl rfl ?_; intro _ g9 HK'; simp only [List.cons_append, List.nil_append] at HK'; replace HK := HK'; clear HK') | (refine wpList_sv (f2 := gf) HK 0 rfl _ _ rfl rfl rfl rfl ?_; intro _ HK'; simp only [List.set] at HK'; replace HK := HK'; clear HK') | refine wpList_exe (exec_add1 (j := k) _ (by rfl) (by rfl) hk3) (by rfl) ?_)
                exact ⟨⟨k + 1, nq, ni, no, c1, c2, c3, A1, A2, A3, q, inn, out, hlt, rfl, rfl, rfl, rfl, by omega, by omega, hlen, HFi, Lib.hid (HK.out.takeL 0)⟩, by simp [intOf]; omega⟩
        case neg =>
          as_aux_lemma =>
            have HE := Lib.hid (show decide (x = Que.emp) = false from decide_eq_false he)
            have HP := Lib.hid (fun W (h : Sls vaLay vF W A1 nq c1 q) => push_any N A1 c1 nq q x W h hf)
            clear he
            by_cases hz : Que.psE N q x = 0
            case pos =>
              have HF' := Lib.hid (HFi.out.push hf hz)
              rw [hz] at HP
              have hlq : (Que.psL N q x).length = nq + 1 := by
                rw [show Que.psL N q x = q ++ [x] from if_pos hz, List.length_append, hlen.out.1]; rfl
              have HLq := Lib.hid hlq
              clear hz HFi hlq hf
              unfold IsLEg vv at *
              generalize Que.psL N q x = q' at *
              have HN2 : Hid ((inn ++ [x]).length = ni + 1) := Lib.hid (by rw [List.length_append, hlen.out.2.1]; rfl)
              have HL2 := grow_ok (La := vaLay) HN2 (by show (ni + 1) * 40 ≤ _; omega) (by omega)
              obtain ⟨vk, vn, vf, vs⟩ := x
              simp only at HP
              go_wp2_with (first | refine wpList_exe (exec_lva (off := o + k * 4) _ (by rfl) (by rfl) (HX.out _ HK.out.b)) (by rfl) ?_ | refine wpList_exe (exec_veq (v := ⟨vk, vn, vf, vs⟩) (u := Que.emp) _ _ (by rfl) (by rfl) (by rfl) HE.out) (by rfl) ?_)
              refine (HP.out _ (Sls.own (HK.out.own 0 rfl) HFq.out)).mono ?_; rintro e w1 ⟨A4, n4, c4, rfl, o4, b4⟩
              replace HK := Lib.hid (HK.out.called b4 o4)
              obtain rfl := (Lay.Own.reads o4).1
              simp only [List.cons_append, List.nil_append] at HK
              clear o4 b4 HP
              go_wp2_with (first | refine wpList_exe (exec_lva (off := o + k * 4) _ (by rfl) (by rfl) (HX.out _ HK.out.b)) (by rfl) ?_ | (refine wpList_mk1 vaLay (p := ⟨vk, vn, vf, vs⟩) HK (by decide) rfl _ rfl rfl rfl ?_; intro w2 g2 HK'; simp only [List.cons_append, List.nil_append] at HK'; have HR := Lib.hid (HK'.out.own 4 rfl).rd; replace HK := HK'; clear HK') | (at_builtin; refine wpList_kmore HK vaLay 1 rfl _ _ rfl rfl rfl [⟨vk, vn, vf, vs⟩] rfl rfl HR HL2 (N := ni + 1) HN2 ?_; intro A5 c5 _ HK'; simp only [List.set] at HK'; replace HK := HK'; clear HK') | refine wpList_exe (exec_add1 (j := k) _ (by rfl) (by rfl) hk3) (by rfl) ?_)
              exact ⟨⟨k + 1, q'.length, ni + 1, no, c4, c5, c3, A4, A5, A3, q', _, out, hlt, rfl, rfl, rfl, rfl, by omega, by omega, Lib.hid ⟨rfl, HN2.out, hlen.out.2.2⟩, HF', Lib.hid (HK.out.pick3 3 1 2 rfl rfl rfl (by decide) (by decide) (by decide))⟩, by simp [intOf]; omega⟩
            case neg =>
              have HWhy := HFi.out.refused hz
              rw [hlen.out.1] at HWhy
              have HCk := Lib.hid (fun W => rcheck_any x W hf)
              have hz2 : (Que.psE N q x == 0) = false := by simpa using hz
              clear hz hf
              unfold IsLEg IsE vv at *
              generalize Que.psE N q x = X at *
              generalize Que.psL N q x = q' at *
              generalize Val.chk x = z at *
              obtain ⟨vk, vn, vf, vs⟩ := x
              simp only at HP HCk HWhy
              go_wp2_with (first | refine wpList_exe (exec_lva (off := o + k * 4) _ (by rfl) (by rfl) (HX.out _ HK.out.b)) (by rfl) ?_ | refine wpList_exe (exec_veq (v := ⟨vk, vn, vf, vs⟩) (u := Que.emp) _ _ (by rfl) (by rfl) (by rfl) HE.out) (by rfl) ?_)
              refine (HP.out _ (Sls.own (HK.out.own 0 rfl) HFq.out)).mono ?_; rintro e w1 ⟨A4, n4, c4, rfl, o4, b4⟩
              replace HK := Lib.hid (HK.out.call b4)
              clear o4 b4 HP
              rcases HWhy with h1 | h2 | ⟨h1, h2, h3⟩ | ⟨h1, h2, h3, h4⟩ | ⟨h1, h2, h3, h4, h5⟩
              · have h1' : ¬ 1 ≤ N := by omega
                go_wp2_with (first | refine wpList_exe (exec_add1 (j := k) _ (by rfl) (by rfl) hk3) (by rfl) ?_)
                exact ⟨⟨k + 1, nq, ni, no, c1, c2, c3, A1, A2, A3, q, inn, out, hlt, rfl, rfl, rfl, rfl, by omega, by omega, hlen, HFi, HK⟩, by simp [intOf]; omega⟩
              · have h1' : 1 ≤ N := by omega
                have h2' : ¬ N ≤ 8 := by omega
                go_wp2_with (first | refine wpList_exe (exec_add1 (j := k) _ (by rfl) (by rfl) hk3) (by rfl) ?_)
                exact ⟨⟨k + 1, nq, ni, no, c1, c2, c3, A1, A2, A3, q, inn, out, hlt, rfl, rfl, rfl, rfl, by omega, by omega, hlen, HFi, HK⟩, by simp [intOf]; omega⟩
              · go_wp2_with (first | refine wpList_exe (exec_add1 (j := k) _ (by rfl) (by rfl) hk3) (by rfl) ?_)
                exact ⟨⟨k + 1, nq, ni, no, c1, c2, c3, A1, A2, A3, q, inn, out, hlt, rfl, rfl, rfl, rfl, by omega, by omega, hlen, HFi, HK⟩, by simp [intOf]; omega⟩
              · have h4' : (z == 0) = false := by simpa using h4
                go_wp2_with (first | refine wpList_exe (exec_lva (off := o + k * 4) _ (by rfl) (by rfl) (HX.out _ HK.out.b)) (by rfl) ?_)
                refine (HCk.out _).mono ?_; rintro e w1 ⟨rfl, b1⟩
                replace HK := Lib.hid (HK.out.call b1); clear b1
                go_wp2_with (first | refine wpList_exe (exec_add1 (j := k) _ (by rfl) (by rfl) hk3) (by rfl) ?_)
                exact ⟨⟨k + 1, nq, ni, no, c1, c2, c3, A1, A2, A3, q, inn, out, hlt, rfl, rfl, rfl, rfl, by omega, by omega, hlen, HFi, HK⟩, by simp [intOf]; omega⟩
              · subst h4
                subst h5
                go_wp2_with (first | refine wpList_exe (exec_lva (off := o + k * 4) _ (by rfl) (by rfl) (HX.out _ HK.out.b)) (by rfl) ?_)
                refine (HCk.out _).mono ?_; rintro e w1 ⟨rfl, b1⟩
                replace HK := Lib.hid (HK.out.call b1); clear b1
                go_wp2_with (first | refine wpList_exe (exec_lvk (off := o + k * 4) _ (by rfl) (by rfl) (HX.out _ HK.out.b)) (by rfl) ?_ | refine wpList_exe (exec_add1 (j := k) _ (by rfl) (by rfl) hk3) (by rfl) ?_)
                exact ⟨⟨k + 1, nq, ni, no, c1, c2, c3, A1, A2, A3, q, inn, out, hlt, rfl, rfl, rfl, rfl, by omega, by omega, hlen, HFi, HK⟩, by simp [intOf]; omega⟩
  case rest =>
  clear HK HS
  obtain ⟨nq, ni, no, c1, c2, c3, A1, A2, A3, q, inn, out, rfl, rfl, rfl, hni, hlen, HFi, HK⟩ := hcut
  have hsum : no + nq = ni := by have h1 := HFi.out.len; have h2 := hlen.out; omega
  have hw : IntKind.i64.wrap ((no : Int) + (nq : Int)) = (ni : Int) := by rw [IntKind.wrap_i64]; omega
  have hw2 : wrap64 ((no : Int) + (nq : Int)) = (ni : Int) := by unfold wrap64; omega
  have HFq := Lib.hid (fits_few HFi.out.qf.1 hlen.out.1 (by omega))
  have HFo := Lib.hid (fits_few HFi.out.qf.2 hlen.out.2.2 (by omega))
  have HFn := Lib.hid (fits_few HFi.out.f hlen.out.2.1 hni)
  have HAt := Lib.hid (fun i x => HFi.out.at (i := i) (x := x))
  rw [hlen.out.2.2] at HAt
  have HG : Hid (∀ k, k < ni → ∃ x, inn[k]? = some x) := Lib.hid fun k hk => Lay.get_of (l := inn) (k := k) (by rw [hlen.out.2.1]; exact hk)
  have HSum := Lib.hid hsum
  clear HFi hsum
  go_wp2_with fail
  go_loopw [14] (fun vi wr => ∃ k : Nat, k ≤ ni ∧ vi = .int .i64 k ∧ Hid (Kn w.heap.size w wr [] [row vaLay (.slice A1 nq c1) q, row vaLay (.slice A2 ni c2) inn, row vaLay (.slice A3 no c3) out])) (fun vi _ => ni - (intOf vi).toNat)
  case atStart => exact ⟨0, Nat.zero_le _, rfl, HK⟩
  case round =>
    clear HK
    obtain ⟨k, hk, rfl, HK⟩ := hrel
    have hk1 : (0 : Int) ≤ (k : Int) := by omega
    have hk3 : k < 9223372036854775807 := by omega
    by_cases hlt : k < ni
    · have hk2 : (k : Int) < (ni : Int) := by omega
      obtain ⟨x, hx⟩ := HG.out k hlt
      have HXx := Lib.hid hx
      obtain ⟨ha1, ha2⟩ := HAt.out k x hx
      have HA1 := Lib.hid ha1
      have HA2 := Lib.hid ha2
      clear hx ha1 ha2 HG HAt
      obtain ⟨b2, o2, rfl, _⟩ := (Sls.own (HK.out.own 1 rfl) HFn.out).at (Nat.lt_of_le_of_lt (Nat.zero_le _) hlt)
      go_wp2_with fail
      by_cases hko : k < no
      · have hko2 : (k : Int) < (no : Int) := by omega
        have hko3 : ¬ (no : Int) ≤ (k : Int) := by omega
        obtain ⟨b3, o3, rfl, _⟩ := (Sls.own (HK.out.own 2 rfl) HFo.out).at (Nat.lt_of_le_of_lt (Nat.zero_le _) hko)
        have HXo := Lib.hid (HA1.out hko)
        clear HA1 HA2
        refine wp_region_held_drew (S := (fun W => Hid (Kn w.heap.size w W [] [row vaLay (.slice A1 nq c1) q, row vaLay (.slice (some ⟨b2, o2, none⟩) ni c2) inn, row vaLay (.slice (some ⟨b3, o3, none⟩) no c3) out]))) (by kernel_rfl) ?_ (fun hHeld => ?_)
        · (try dsimp only); exact Lib.hid HK.out.drew
        refine wpAnyH_take (i := 0) (oi := ⟨some 120, _, _, _, _, _⟩) (v := ?_) rfl (by kernel_rfl) (by kernel_rfl) (by kernel_rfl) (fun _ _ _ h => h) (Or.inl ⟨by rfl, ?_⟩) (by assumption) ?_
        rotate_left
        · (intro w hSw; (try dsimp only at hSw); go_simp; try with_reducible rfl)
        try simp only [Act.put, List.setIfInBounds_toArray, List.set_cons_zero, List.set_cons_succ]
        refine wpAnyH_take (i := 1) (oi := ⟨some 121, _, _, _, _, _⟩) (v := ?_) rfl (by kernel_rfl) (by kernel_rfl) (by kernel_rfl) (fun _ _ _ h => h) (Or.inl ⟨by rfl, ?_⟩) (by assumption) ?_
        rotate_left
        · (intro w hSw; (try dsimp only at hSw); go_simp; try with_reducible rfl)
        try simp only [Act.put, List.setIfInBounds_toArray, List.set_cons_zero, List.set_cons_succ]
        refine wpAnyH_take (i := 2) (oi := ⟨some 122, _, _, _, _, _⟩) (v := ?_) rfl (by kernel_rfl) (by kernel_rfl) (by kernel_rfl) (fun _ _ _ h => h) (Or.inl ⟨by rfl, ?_⟩) (by assumption) ?_
        rotate_left
        · (intro w hSw; (try dsimp only at hSw); go_simp; try with_reducible rfl)
        try simp only [Act.put, List.setIfInBounds_toArray, List.set_cons_zero, List.set_cons_succ]
        refine wpAnyH_take (i := 3) (oi := ⟨some 123, _, _, _, _, _⟩) (v := ?_) rfl (by kernel_rfl) (by kernel_rfl) (by kernel_rfl) (fun _ _ _ h => h) (Or.inl ⟨by rfl, ?_⟩) (by assumption) ?_
        rotate_left
        · (intro w hSw; (try dsimp only at hSw); go_simp; try with_reducible rfl)
        try simp only [Act.put, List.setIfInBounds_toArray, List.set_cons_zero, List.set_cons_succ]
        refine wpAnyH_take (i := 4) (oi := ⟨some 124, _, _, _, _, _⟩) (v := ?_) rfl (by kernel_rfl) (by kernel_rfl) (by kernel_rfl) (fun _ _ _ h => h) (Or.inl ⟨by rfl, ?_⟩) (by assumption) ?_
        rotate_left
        · (intro w hSw; (try dsimp only at hSw); go_simp; try with_reducible rfl)
        try simp only [Act.put, List.setIfInBounds_toArray, List.set_cons_zero, List.set_cons_succ]
        refine wpAnyH_take (i := 5) (oi := ⟨some 125, _, _, _, _, _⟩) (v := ?_) rfl (by kernel_rfl) (by kernel_rfl) (by kernel_rfl) (fun _ _ _ h => h) (Or.inl ⟨by rfl, ?_⟩) (by assumption) ?_
        rotate_left
        · (intro w hSw; (try dsimp only at hSw); go_simp; try with_reducible rfl)
        try simp only [Act.put, List.setIfInBounds_toArray, List.set_cons_zero, List.set_cons_succ]
        refine wpAnyH_take (i := 6) (oi := ⟨some 126, _, _, _, _, _⟩) (v := ?_) rfl (by kernel_rfl) (by kernel_rfl) (by kernel_rfl) (fun _ _ _ h => h) (Or.inl ⟨by rfl, ?_⟩) (by assumption) ?_
        rotate_left
        · (intro w hSw; (try dsimp only at hSw); go_simp; try with_reducible rfl)
        try simp only [Act.put, List.setIfInBounds_toArray, List.set_cons_zero, List.set_cons_succ]
        refine wpAnyH_take (i := 7) (oi := ⟨some 127, _, _, _, _, _⟩) (v := ?_) rfl (by kernel_rfl) (by kernel_rfl) (by kernel_rfl) (fun _ _ _ h => h) (Or.inl ⟨by rfl, ?_⟩) (by assumption) ?_
        rotate_left
        · (intro w hSw; refine Eq.trans (exec_ixv (i := k) _ _ (by rfl) (by rfl) (by rfl) hlt) ?_; with_reducible rfl)
        try simp only [Act.put, List.setIfInBounds_toArray, List.set_cons_zero, List.set_cons_succ]
        refine wpAnyH_take (i := 8) (oi := ⟨some 128, _, _, _, _, _⟩) (v := ?_) rfl (by kernel_rfl) (by kernel_rfl) (by kernel_rfl) (fun _ _ _ h => h) (Or.inl ⟨by rfl, ?_⟩) (by assumption) ?_
        rotate_left
        · (intro w hSw; refine Eq.trans (exec_slv vaLay (x := x) (off := o2 + k * 4) _ (by rfl) (by rfl) Try.underlying25 ((Sls.own (hSw.out.own 1 rfl) HFn.out).cells HXx.out)) ?_; with_reducible rfl)
        try simp only [Act.put, List.setIfInBounds_toArray, List.set_cons_zero, List.set_cons_succ]
        refine wpAnyH_take (i := 9) (oi := ⟨some 129, _, _, _, _, _⟩) (v := ?_) rfl (by kernel_rfl) (by kernel_rfl) (by kernel_rfl) (fun _ _ _ h => h) (Or.inl ⟨by rfl, ?_⟩) (by assumption) ?_
        rotate_left
        · (intro w hSw; (try dsimp only at hSw); go_simp; try with_reducible rfl)
        try simp only [Act.put, List.setIfInBounds_toArray, List.set_cons_zero, List.set_cons_succ]
        refine wpAnyH_take (i := 10) (oi := ⟨some 130, _, _, _, _, _⟩) (v := ?_) rfl (by kernel_rfl) (by kernel_rfl) (by kernel_rfl) (fun _ _ _ h => h) (Or.inl ⟨by rfl, ?_⟩) (by assumption) ?_
        rotate_left
        · (intro w hSw; (try dsimp only at hSw); go_simp; try with_reducible rfl)
        try simp only [Act.put, List.setIfInBounds_toArray, List.set_cons_zero, List.set_cons_succ]
        refine wpAnyH_take (i := 11) (oi := ⟨some 131, _, _, _, _, _⟩) (v := ?_) rfl (by kernel_rfl) (by kernel_rfl) (by kernel_rfl) (fun _ _ _ h => h) (Or.inl ⟨by rfl, ?_⟩) (by assumption) ?_
        rotate_left
        · (intro w hSw; refine Eq.trans (exec_ixv (i := k) _ _ (by rfl) (by rfl) (by rfl) hko) ?_; with_reducible rfl)
        try simp only [Act.put, List.setIfInBounds_toArray, List.set_cons_zero, List.set_cons_succ]
        refine wpAnyH_take (i := 12) (oi := ⟨some 132, _, _, _, _, _⟩) (v := ?_) rfl (by kernel_rfl) (by kernel_rfl) (by kernel_rfl) (fun _ _ _ h => h) (Or.inl ⟨by rfl, ?_⟩) (by assumption) ?_
        rotate_left
        · (intro w hSw; refine Eq.trans (exec_slv vaLay (x := x) (off := o3 + k * 4) _ (by rfl) (by rfl) Try.underlying25 ((Sls.own (hSw.out.own 2 rfl) HFo.out).cells HXo.out)) ?_; with_reducible rfl)
        try simp only [Act.put, List.setIfInBounds_toArray, List.set_cons_zero, List.set_cons_succ]
        refine wpAnyH_take (i := 13) (oi := ⟨some 133, _, _, _, _, _⟩) (v := ?_) rfl (by kernel_rfl) (by kernel_rfl) (by kernel_rfl) (fun _ _ _ h => h) (Or.inl ⟨by rfl, ?_⟩) (by assumption) ?_
        rotate_left
        · (intro w hSw; refine Eq.trans (exec_vne (v := x) (u := x) _ _ (by rfl) (by rfl) (by rfl) (vne_self x)) ?_; with_reducible rfl)
        try simp only [Act.put, List.setIfInBounds_toArray, List.set_cons_zero, List.set_cons_succ]
        refine wpAnyH_take (i := 14) (oi := ⟨some 134, _, _, _, _, _⟩) (v := ?_) rfl (by kernel_rfl) (by kernel_rfl) (by kernel_rfl) (fun _ _ _ h => h) (Or.inl ⟨by rfl, ?_⟩) (by assumption) ?_
        rotate_left
        · (intro w hSw; (try dsimp only at hSw); go_simp; try with_reducible rfl)
        try simp only [Act.put, List.setIfInBounds_toArray, List.set_cons_zero, List.set_cons_succ]
        refine wpAnyH_take (i := 15) (oi := ⟨some 135, _, _, _, _, _⟩) (v := ?_) rfl (by kernel_rfl) (by kernel_rfl) (by kernel_rfl) (fun _ _ _ h => h) (Or.inl ⟨by rfl, ?_⟩) (by assumption) ?_
        rotate_left
        · (intro w hSw; (try dsimp only at hSw); go_simp; try with_reducible rfl)
        try simp only [Act.put, List.setIfInBounds_toArray, List.set_cons_zero, List.set_cons_succ]
        refine wpAnyH_take (i := 16) (oi := ⟨some 136, _, _, _, _, _⟩) (v := ?_) rfl (by kernel_rfl) (by kernel_rfl) (by kernel_rfl) (fun _ _ _ h => h) (Or.inl ⟨by rfl, ?_⟩) (by assumption) ?_
        rotate_left
        · (intro w hSw; (try dsimp only at hSw); go_simp; try with_reducible rfl)
        try simp only [Act.put, List.setIfInBounds_toArray, List.set_cons_zero, List.set_cons_succ]
        refine wpAnyH_take (i := 17) (oi := ⟨some 137, _, _, _, _, _⟩) (v := ?_) rfl (by kernel_rfl) (by kernel_rfl) (by kernel_rfl) (fun _ _ _ h => h) (Or.inl ⟨by rfl, ?_⟩) (by assumption) ?_
        rotate_left
        · (intro w hSw; (try dsimp only at hSw); go_simp; try with_reducible rfl)
        try simp only [Act.put, List.setIfInBounds_toArray, List.set_cons_zero, List.set_cons_succ]
        refine wpAnyH_take (i := 18) (oi := ⟨some 138, _, _, _, _, _⟩) (v := ?_) rfl (by kernel_rfl) (by kernel_rfl) (by kernel_rfl) (fun _ _ _ h => h) (Or.inl ⟨by rfl, ?_⟩) (by assumption) ?_
        rotate_left
        · (intro w hSw; (try dsimp only at hSw); go_simp; try with_reducible rfl)
        try simp only [Act.put, List.setIfInBounds_toArray, List.set_cons_zero, List.set_cons_succ]
        refine wpAnyH_take (i := 19) (oi := ⟨some 139, _, _, _, _, _⟩) (v := ?_) rfl (by kernel_rfl) (by kernel_rfl) (by kernel_rfl) (fun _ _ _ h => h) (Or.inl ⟨by rfl, ?_⟩) (by assumption) ?_
        rotate_left
        · (intro w hSw; (try dsimp only at hSw); go_simp; try with_reducible rfl)
        try simp only [Act.put, List.setIfInBounds_toArray, List.set_cons_zero, List.set_cons_succ]
        refine wpAnyH_take (i := 20) (oi := ⟨some 140, _, _, _, _, _⟩) (v := ?_) rfl (by kernel_rfl) (by kernel_rfl) (by kernel_rfl) (fun _ _ _ h => h) (Or.inl ⟨by rfl, ?_⟩) (by assumption) ?_
        rotate_left
        · (intro w hSw; (try dsimp only at hSw); go_simp; try with_reducible rfl)
        try simp only [Act.put, List.setIfInBounds_toArray, List.set_cons_zero, List.set_cons_succ]
        refine wpAnyH_take (i := 21) (oi := ⟨some 141, _, _, _, _, _⟩) (v := undef) rfl (by kernel_rfl) (by kernel_rfl) (by kernel_rfl) (fun _ _ _ h => h) (Or.inr ⟨by rfl, rfl⟩) (by assumption) ?_
        try simp only [Act.put, List.setIfInBounds_toArray, List.set_cons_zero, List.set_cons_succ]
        refine wpAnyH_take (i := 22) (oi := ⟨some 142, _, _, _, _, _⟩) (v := undef) rfl (by kernel_rfl) (by kernel_rfl) (by kernel_rfl) (fun _ _ _ h => h) (Or.inr ⟨by rfl, rfl⟩) (by assumption) ?_
        try simp only [Act.put, List.setIfInBounds_toArray, List.set_cons_zero, List.set_cons_succ]
        refine wpAnyH_take (i := 23) (oi := ⟨some 143, _, _, _, _, _⟩) (v := undef) rfl (by kernel_rfl) (by kernel_rfl) (by kernel_rfl) (fun _ _ _ h => h) (Or.inr ⟨by rfl, rfl⟩) (by assumption) ?_
        try simp only [Act.put, List.setIfInBounds_toArray, List.set_cons_zero, List.set_cons_succ]
        refine wpAnyH_take (i := 24) (oi := ⟨some 144, _, _, _, _, _⟩) (v := undef) rfl (by kernel_rfl) (by kernel_rfl) (by kernel_rfl) (fun _ _ _ h => h) (Or.inr ⟨by rfl, rfl⟩) (by assumption) ?_
        try simp only [Act.put, List.setIfInBounds_toArray, List.set_cons_zero, List.set_cons_succ]
        refine wpAnyH_take (i := 25) (oi := ⟨some 145, _, _, _, _, _⟩) (v := undef) rfl (by kernel_rfl) (by kernel_rfl) (by kernel_rfl) (fun _ _ _ h => h) (Or.inr ⟨by rfl, rfl⟩) (by assumption) ?_
        try simp only [Act.put, List.setIfInBounds_toArray, List.set_cons_zero, List.set_cons_succ]
        refine wpAnyH_take (i := 26) (oi := ⟨some 146, _, _, _, _, _⟩) (v := undef) rfl (by kernel_rfl) (by kernel_rfl) (by kernel_rfl) (fun _ _ _ h => h) (Or.inr ⟨by rfl, rfl⟩) (by assumption) ?_
        try simp only [Act.put, List.setIfInBounds_toArray, List.set_cons_zero, List.set_cons_succ]
        refine wpAnyH_take (i := 27) (oi := ⟨some 147, _, _, _, _, _⟩) (v := undef) rfl (by kernel_rfl) (by kernel_rfl) (by kernel_rfl) (fun _ _ _ h => h) (Or.inr ⟨by rfl, rfl⟩) (by assumption) ?_
        try simp only [Act.put, List.setIfInBounds_toArray, List.set_cons_zero, List.set_cons_succ]
        refine wpAnyH_take (i := 28) (oi := ⟨some 148, _, _, _, _, _⟩) (v := undef) rfl (by kernel_rfl) (by kernel_rfl) (by kernel_rfl) (fun _ _ _ h => h) (Or.inr ⟨by rfl, rfl⟩) (by assumption) ?_
        try simp only [Act.put, List.setIfInBounds_toArray, List.set_cons_zero, List.set_cons_succ]
        refine wpAnyH_take (i := 29) (oi := ⟨some 149, _, _, _, _, _⟩) (v := undef) rfl (by kernel_rfl) (by kernel_rfl) (by kernel_rfl) (fun _ _ _ h => h) (Or.inr ⟨by rfl, rfl⟩) (by assumption) ?_
        try simp only [Act.put, List.setIfInBounds_toArray, List.set_cons_zero, List.set_cons_succ]
        refine wpAnyH_take (i := 30) (oi := ⟨some 150, _, _, _, _, _⟩) (v := undef) rfl (by kernel_rfl) (by kernel_rfl) (by kernel_rfl) (fun _ _ _ h => h) (Or.inr ⟨by rfl, rfl⟩) (by assumption) ?_
        try simp only [Act.put, List.setIfInBounds_toArray, List.set_cons_zero, List.set_cons_succ]
        refine wpAnyH_take (i := 31) (oi := ⟨some 151, _, _, _, _, _⟩) (v := undef) rfl (by kernel_rfl) (by kernel_rfl) (by kernel_rfl) (fun _ _ _ h => h) (Or.inr ⟨by rfl, rfl⟩) (by assumption) ?_
        try simp only [Act.put, List.setIfInBounds_toArray, List.set_cons_zero, List.set_cons_succ]
        refine wpAnyH_take (i := 32) (oi := ⟨some 152, _, _, _, _, _⟩) (v := undef) rfl (by kernel_rfl) (by kernel_rfl) (by kernel_rfl) (fun _ _ _ h => h) (Or.inr ⟨by rfl, rfl⟩) (by assumption) ?_
        try simp only [Act.put, List.setIfInBounds_toArray, List.set_cons_zero, List.set_cons_succ]
        refine wpAnyH_take (i := 33) (oi := ⟨some 153, _, _, _, _, _⟩) (v := ?_) rfl (by kernel_rfl) (by kernel_rfl) (by kernel_rfl) (fun _ _ _ h => h) (Or.inl ⟨by rfl, ?_⟩) (by assumption) ?_
        rotate_left
        · (intro w hSw; (try dsimp only at hSw); go_simp; try with_reducible rfl)
        try simp only [Act.put, List.setIfInBounds_toArray, List.set_cons_zero, List.set_cons_succ]
        refine wpAnyH_take (i := 34) (oi := ⟨some 154, _, _, _, _, _⟩) (v := ?_) rfl (by kernel_rfl) (by kernel_rfl) (by kernel_rfl) (fun _ _ _ h => h) (Or.inl ⟨by rfl, ?_⟩) (by assumption) ?_
        rotate_left
        · (intro w hSw; (try dsimp only at hSw); go_simp; try with_reducible rfl)
        try simp only [Act.put, List.setIfInBounds_toArray, List.set_cons_zero, List.set_cons_succ]
        refine wpAnyH_done (by kernel_rfl) ?_ _
        go_wp2_with (first | refine wpList_exe (exec_add1 (j := k) _ (by rfl) (by rfl) hk3) (by rfl) ?_)
        exact ⟨⟨k + 1, hlt, rfl, hHeld⟩, by simp [intOf]; omega⟩
      · have hko2 : ¬ (k : Int) < (no : Int) := by omega
        have hko3 : (no : Int) ≤ (k : Int) := by omega
        have hkq : k - no < nq := by have hs := HSum.out; omega
        have hle : no ≤ k := by omega
        obtain ⟨b3, o3, rfl, _⟩ := (Sls.own (HK.out.own 0 rfl) HFq.out).at (Nat.lt_of_le_of_lt (Nat.zero_le _) hkq)
        have HXo := Lib.hid (HA2.out hko)
        clear HA1 HA2
        refine wp_region_held_drew (S := (fun W => Hid (Kn w.heap.size w W [] [row vaLay (.slice (some ⟨b3, o3, none⟩) nq c1) q, row vaLay (.slice (some ⟨b2, o2, none⟩) ni c2) inn, row vaLay (.slice A3 no c3) out]))) (by kernel_rfl) ?_ (fun hHeld => ?_)
        · (try dsimp only); exact Lib.hid HK.out.drew
        refine wpAnyH_take (i := 0) (oi := ⟨some 120, _, _, _, _, _⟩) (v := ?_) rfl (by kernel_rfl) (by kernel_rfl) (by kernel_rfl) (fun _ _ _ h => h) (Or.inl ⟨by rfl, ?_⟩) (by assumption) ?_
        rotate_left
        · (intro w hSw; (try dsimp only at hSw); go_simp; try with_reducible rfl)
        try simp only [Act.put, List.setIfInBounds_toArray, List.set_cons_zero, List.set_cons_succ]
        refine wpAnyH_take (i := 1) (oi := ⟨some 121, _, _, _, _, _⟩) (v := ?_) rfl (by kernel_rfl) (by kernel_rfl) (by kernel_rfl) (fun _ _ _ h => h) (Or.inl ⟨by rfl, ?_⟩) (by assumption) ?_
        rotate_left
        · (intro w hSw; (try dsimp only at hSw); go_simp; try with_reducible rfl)
        try simp only [Act.put, List.setIfInBounds_toArray, List.set_cons_zero, List.set_cons_succ]
        refine wpAnyH_take (i := 2) (oi := ⟨some 122, _, _, _, _, _⟩) (v := ?_) rfl (by kernel_rfl) (by kernel_rfl) (by kernel_rfl) (fun _ _ _ h => h) (Or.inl ⟨by rfl, ?_⟩) (by assumption) ?_
        rotate_left
        · (intro w hSw; (try dsimp only at hSw); go_simp; try with_reducible rfl)
        try simp only [Act.put, List.setIfInBounds_toArray, List.set_cons_zero, List.set_cons_succ]
        refine wpAnyH_take (i := 3) (oi := ⟨some 123, _, _, _, _, _⟩) (v := ?_) rfl (by kernel_rfl) (by kernel_rfl) (by kernel_rfl) (fun _ _ _ h => h) (Or.inl ⟨by rfl, ?_⟩) (by assumption) ?_
        rotate_left
        · (intro w hSw; (try dsimp only at hSw); go_simp; try with_reducible rfl)
        try simp only [Act.put, List.setIfInBounds_toArray, List.set_cons_zero, List.set_cons_succ]
        refine wpAnyH_take (i := 4) (oi := ⟨some 124, _, _, _, _, _⟩) (v := ?_) rfl (by kernel_rfl) (by kernel_rfl) (by kernel_rfl) (fun _ _ _ h => h) (Or.inl ⟨by rfl, ?_⟩) (by assumption) ?_
        rotate_left
        · (intro w hSw; (try dsimp only at hSw); go_simp; try with_reducible rfl)
        try simp only [Act.put, List.setIfInBounds_toArray, List.set_cons_zero, List.set_cons_succ]
        refine wpAnyH_take (i := 5) (oi := ⟨some 125, _, _, _, _, _⟩) (v := undef) rfl (by kernel_rfl) (by kernel_rfl) (by kernel_rfl) (fun _ _ _ h => h) (Or.inr ⟨by rfl, rfl⟩) (by assumption) ?_
        try simp only [Act.put, List.setIfInBounds_toArray, List.set_cons_zero, List.set_cons_succ]
        refine wpAnyH_take (i := 6) (oi := ⟨some 126, _, _, _, _, _⟩) (v := undef) rfl (by kernel_rfl) (by kernel_rfl) (by kernel_rfl) (fun _ _ _ h => h) (Or.inr ⟨by rfl, rfl⟩) (by assumption) ?_
        try simp only [Act.put, List.setIfInBounds_toArray, List.set_cons_zero, List.set_cons_succ]
        refine wpAnyH_take (i := 7) (oi := ⟨some 127, _, _, _, _, _⟩) (v := undef) rfl (by kernel_rfl) (by kernel_rfl) (by kernel_rfl) (fun _ _ _ h => h) (Or.inr ⟨by rfl, rfl⟩) (by assumption) ?_
        try simp only [Act.put, List.setIfInBounds_toArray, List.set_cons_zero, List.set_cons_succ]
        refine wpAnyH_take (i := 8) (oi := ⟨some 128, _, _, _, _, _⟩) (v := undef) rfl (by kernel_rfl) (by kernel_rfl) (by kernel_rfl) (fun _ _ _ h => h) (Or.inr ⟨by rfl, rfl⟩) (by assumption) ?_
        try simp only [Act.put, List.setIfInBounds_toArray, List.set_cons_zero, List.set_cons_succ]
        refine wpAnyH_take (i := 9) (oi := ⟨some 129, _, _, _, _, _⟩) (v := undef) rfl (by kernel_rfl) (by kernel_rfl) (by kernel_rfl) (fun _ _ _ h => h) (Or.inr ⟨by rfl, rfl⟩) (by assumption) ?_
        try simp only [Act.put, List.setIfInBounds_toArray, List.set_cons_zero, List.set_cons_succ]
        refine wpAnyH_take (i := 10) (oi := ⟨some 130, _, _, _, _, _⟩) (v := undef) rfl (by kernel_rfl) (by kernel_rfl) (by kernel_rfl) (fun _ _ _ h => h) (Or.inr ⟨by rfl, rfl⟩) (by assumption) ?_
        try simp only [Act.put, List.setIfInBounds_toArray, List.set_cons_zero, List.set_cons_succ]
        refine wpAnyH_take (i := 11) (oi := ⟨some 131, _, _, _, _, _⟩) (v := undef) rfl (by kernel_rfl) (by kernel_rfl) (by kernel_rfl) (fun _ _ _ h => h) (Or.inr ⟨by rfl, rfl⟩) (by assumption) ?_
        try simp only [Act.put, List.setIfInBounds_toArray, List.set_cons_zero, List.set_cons_succ]
        refine wpAnyH_take (i := 12) (oi := ⟨some 132, _, _, _, _, _⟩) (v := undef) rfl (by kernel_rfl) (by kernel_rfl) (by kernel_rfl) (fun _ _ _ h => h) (Or.inr ⟨by rfl, rfl⟩) (by assumption) ?_
        try simp only [Act.put, List.setIfInBounds_toArray, List.set_cons_zero, List.set_cons_succ]
        refine wpAnyH_take (i := 13) (oi := ⟨some 133, _, _, _, _, _⟩) (v := undef) rfl (by kernel_rfl) (by kernel_rfl) (by kernel_rfl) (fun _ _ _ h => h) (Or.inr ⟨by rfl, rfl⟩) (by assumption) ?_
        try simp only [Act.put, List.setIfInBounds_toArray, List.set_cons_zero, List.set_cons_succ]
        refine wpAnyH_take (i := 14) (oi := ⟨some 134, _, _, _, _, _⟩) (v := ?_) rfl (by kernel_rfl) (by kernel_rfl) (by kernel_rfl) (fun _ _ _ h => h) (Or.inl ⟨by rfl, ?_⟩) (by assumption) ?_
        rotate_left
        · (intro w hSw; (try dsimp only at hSw); go_simp; try with_reducible rfl)
        try simp only [Act.put, List.setIfInBounds_toArray, List.set_cons_zero, List.set_cons_succ]
        refine wpAnyH_take (i := 15) (oi := ⟨some 135, _, _, _, _, _⟩) (v := ?_) rfl (by kernel_rfl) (by kernel_rfl) (by kernel_rfl) (fun _ _ _ h => h) (Or.inl ⟨by rfl, ?_⟩) (by assumption) ?_
        rotate_left
        · (intro w hSw; (try dsimp only at hSw); go_simp; try with_reducible rfl)
        try simp only [Act.put, List.setIfInBounds_toArray, List.set_cons_zero, List.set_cons_succ]
        refine wpAnyH_take (i := 16) (oi := ⟨some 136, _, _, _, _, _⟩) (v := ?_) rfl (by kernel_rfl) (by kernel_rfl) (by kernel_rfl) (fun _ _ _ h => h) (Or.inl ⟨by rfl, ?_⟩) (by assumption) ?_
        rotate_left
        · (intro w hSw; (try dsimp only at hSw); go_simp; try with_reducible rfl)
        try simp only [Act.put, List.setIfInBounds_toArray, List.set_cons_zero, List.set_cons_succ]
        refine wpAnyH_take (i := 17) (oi := ⟨some 137, _, _, _, _, _⟩) (v := ?_) rfl (by kernel_rfl) (by kernel_rfl) (by kernel_rfl) (fun _ _ _ h => h) (Or.inl ⟨by rfl, ?_⟩) (by assumption) ?_
        rotate_left
        · (intro w hSw; (try dsimp only at hSw); go_simp; try with_reducible rfl)
        try simp only [Act.put, List.setIfInBounds_toArray, List.set_cons_zero, List.set_cons_succ]
        refine wpAnyH_take (i := 18) (oi := ⟨some 138, _, _, _, _, _⟩) (v := ?_) rfl (by kernel_rfl) (by kernel_rfl) (by kernel_rfl) (fun _ _ _ h => h) (Or.inl ⟨by rfl, ?_⟩) (by assumption) ?_
        rotate_left
        · (intro w hSw; (try dsimp only at hSw); go_simp; try with_reducible rfl)
        try simp only [Act.put, List.setIfInBounds_toArray, List.set_cons_zero, List.set_cons_succ]
        refine wpAnyH_take (i := 19) (oi := ⟨some 139, _, _, _, _, _⟩) (v := ?_) rfl (by kernel_rfl) (by kernel_rfl) (by kernel_rfl) (fun _ _ _ h => h) (Or.inl ⟨by rfl, ?_⟩) (by assumption) ?_
        rotate_left
        · (intro w hSw; (try dsimp only at hSw); go_simp; try with_reducible rfl)
        try simp only [Act.put, List.setIfInBounds_toArray, List.set_cons_zero, List.set_cons_succ]
        refine wpAnyH_take (i := 20) (oi := ⟨some 140, _, _, _, _, _⟩) (v := ?_) rfl (by kernel_rfl) (by kernel_rfl) (by kernel_rfl) (fun _ _ _ h => h) (Or.inl ⟨by rfl, ?_⟩) (by assumption) ?_
        rotate_left
        · (intro w hSw; (try dsimp only at hSw); go_simp; try with_reducible rfl)
        try simp only [Act.put, List.setIfInBounds_toArray, List.set_cons_zero, List.set_cons_succ]
        refine wpAnyH_take (i := 21) (oi := ⟨some 141, _, _, _, _, _⟩) (v := ?_) rfl (by kernel_rfl) (by kernel_rfl) (by kernel_rfl) (fun _ _ _ h => h) (Or.inl ⟨by rfl, ?_⟩) (by assumption) ?_
        rotate_left
        · (intro w hSw; (try dsimp only at hSw); go_simp; try with_reducible rfl)
        try simp only [Act.put, List.setIfInBounds_toArray, List.set_cons_zero, List.set_cons_succ]
        refine wpAnyH_take (i := 22) (oi := ⟨some 142, _, _, _, _, _⟩) (v := ?_) rfl (by kernel_rfl) (by kernel_rfl) (by kernel_rfl) (fun _ _ _ h => h) (Or.inl ⟨by rfl, ?_⟩) (by assumption) ?_
        rotate_left
        · (intro w hSw; (try dsimp only at hSw); go_simp; try with_reducible rfl)
        try simp only [Act.put, List.setIfInBounds_toArray, List.set_cons_zero, List.set_cons_succ]
        refine wpAnyH_take (i := 23) (oi := ⟨some 143, _, _, _, _, _⟩) (v := ?_) rfl (by kernel_rfl) (by kernel_rfl) (by kernel_rfl) (fun _ _ _ h => h) (Or.inl ⟨by rfl, ?_⟩) (by assumption) ?_
        rotate_left
        · (intro w hSw; refine Eq.trans (exec_ixv (i := k) _ _ (by rfl) (by rfl) (by rfl) hlt) ?_; with_reducible rfl)
        try simp only [Act.put, List.setIfInBounds_toArray, List.set_cons_zero, List.set_cons_succ]
        refine wpAnyH_take (i := 24) (oi := ⟨some 144, _, _, _, _, _⟩) (v := ?_) rfl (by kernel_rfl) (by kernel_rfl) (by kernel_rfl) (fun _ _ _ h => h) (Or.inl ⟨by rfl, ?_⟩) (by assumption) ?_
        rotate_left
        · (intro w hSw; refine Eq.trans (exec_slv vaLay (x := x) (off := o2 + k * 4) _ (by rfl) (by rfl) Try.underlying25 ((Sls.own (hSw.out.own 1 rfl) HFn.out).cells HXx.out)) ?_; with_reducible rfl)
        try simp only [Act.put, List.setIfInBounds_toArray, List.set_cons_zero, List.set_cons_succ]
        refine wpAnyH_take (i := 25) (oi := ⟨some 145, _, _, _, _, _⟩) (v := ?_) rfl (by kernel_rfl) (by kernel_rfl) (by kernel_rfl) (fun _ _ _ h => h) (Or.inl ⟨by rfl, ?_⟩) (by assumption) ?_
        rotate_left
        · (intro w hSw; (try dsimp only at hSw); go_simp; try with_reducible rfl)
        try simp only [Act.put, List.setIfInBounds_toArray, List.set_cons_zero, List.set_cons_succ]
        refine wpAnyH_take (i := 26) (oi := ⟨some 146, _, _, _, _, _⟩) (v := ?_) rfl (by kernel_rfl) (by kernel_rfl) (by kernel_rfl) (fun _ _ _ h => h) (Or.inl ⟨by rfl, ?_⟩) (by assumption) ?_
        rotate_left
        · (intro w hSw; (try dsimp only at hSw); go_simp; try with_reducible rfl)
        try simp only [Act.put, List.setIfInBounds_toArray, List.set_cons_zero, List.set_cons_succ]
        refine wpAnyH_take (i := 27) (oi := ⟨some 147, _, _, _, _, _⟩) (v := ?_) rfl (by kernel_rfl) (by kernel_rfl) (by kernel_rfl) (fun _ _ _ h => h) (Or.inl ⟨by rfl, ?_⟩) (by assumption) ?_
        rotate_left
        · (intro w hSw; (try dsimp only at hSw); go_simp; try with_reducible rfl)
        try simp only [Act.put, List.setIfInBounds_toArray, List.set_cons_zero, List.set_cons_succ]
        refine wpAnyH_take (i := 28) (oi := ⟨some 148, _, _, _, _, _⟩) (v := ?_) rfl (by kernel_rfl) (by kernel_rfl) (by kernel_rfl) (fun _ _ _ h => h) (Or.inl ⟨by rfl, ?_⟩) (by assumption) ?_
        rotate_left
        · (intro w hSw; (try dsimp only at hSw); go_simp; try with_reducible rfl)
        try simp only [Act.put, List.setIfInBounds_toArray, List.set_cons_zero, List.set_cons_succ]
        refine wpAnyH_take (i := 29) (oi := ⟨some 149, _, _, _, _, _⟩) (v := ?_) rfl (by kernel_rfl) (by kernel_rfl) (by kernel_rfl) (fun _ _ _ h => h) (Or.inl ⟨by rfl, ?_⟩) (by assumption) ?_
        rotate_left
        · (intro w hSw; refine Eq.trans (exec_subn (i := k) (j := no) _ _ (by rfl) (by rfl) (by rfl) hle hk3) ?_; with_reducible rfl)
        try simp only [Act.put, List.setIfInBounds_toArray, List.set_cons_zero, List.set_cons_succ]
        refine wpAnyH_take (i := 30) (oi := ⟨some 150, _, _, _, _, _⟩) (v := ?_) rfl (by kernel_rfl) (by kernel_rfl) (by kernel_rfl) (fun _ _ _ h => h) (Or.inl ⟨by rfl, ?_⟩) (by assumption) ?_
        rotate_left
        · (intro w hSw; refine Eq.trans (exec_ixv (i := k - no) _ _ (by rfl) (by rfl) (by rfl) hkq) ?_; with_reducible rfl)
        try simp only [Act.put, List.setIfInBounds_toArray, List.set_cons_zero, List.set_cons_succ]
        refine wpAnyH_take (i := 31) (oi := ⟨some 151, _, _, _, _, _⟩) (v := ?_) rfl (by kernel_rfl) (by kernel_rfl) (by kernel_rfl) (fun _ _ _ h => h) (Or.inl ⟨by rfl, ?_⟩) (by assumption) ?_
        rotate_left
        · (intro w hSw; refine Eq.trans (exec_slv vaLay (x := x) (off := o3 + (k - no) * 4) _ (by rfl) (by rfl) Try.underlying25 ((Sls.own (hSw.out.own 0 rfl) HFq.out).cells HXo.out)) ?_; with_reducible rfl)
        try simp only [Act.put, List.setIfInBounds_toArray, List.set_cons_zero, List.set_cons_succ]
        refine wpAnyH_take (i := 32) (oi := ⟨some 152, _, _, _, _, _⟩) (v := ?_) rfl (by kernel_rfl) (by kernel_rfl) (by kernel_rfl) (fun _ _ _ h => h) (Or.inl ⟨by rfl, ?_⟩) (by assumption) ?_
        rotate_left
        · (intro w hSw; refine Eq.trans (exec_vne (v := x) (u := x) _ _ (by rfl) (by rfl) (by rfl) (vne_self x)) ?_; with_reducible rfl)
        try simp only [Act.put, List.setIfInBounds_toArray, List.set_cons_zero, List.set_cons_succ]
        refine wpAnyH_take (i := 33) (oi := ⟨some 153, _, _, _, _, _⟩) (v := ?_) rfl (by kernel_rfl) (by kernel_rfl) (by kernel_rfl) (fun _ _ _ h => h) (Or.inl ⟨by rfl, ?_⟩) (by assumption) ?_
        rotate_left
        · (intro w hSw; (try dsimp only at hSw); go_simp; try with_reducible rfl)
        try simp only [Act.put, List.setIfInBounds_toArray, List.set_cons_zero, List.set_cons_succ]
        refine wpAnyH_take (i := 34) (oi := ⟨some 154, _, _, _, _, _⟩) (v := ?_) rfl (by kernel_rfl) (by kernel_rfl) (by kernel_rfl) (fun _ _ _ h => h) (Or.inl ⟨by rfl, ?_⟩) (by assumption) ?_
        rotate_left
        · (intro w hSw; (try dsimp only at hSw); go_simp; try with_reducible rfl)
        try simp only [Act.put, List.setIfInBounds_toArray, List.set_cons_zero, List.set_cons_succ]
        refine wpAnyH_done (by kernel_rfl) ?_ _
        go_wp2_with (first | refine wpList_exe (exec_add1 (j := k) _ (by rfl) (by rfl) hk3) (by rfl) ?_)
        exact ⟨⟨k + 1, hlt, rfl, hHeld⟩, by simp [intOf]; omega⟩
    · obtain rfl : k = ni := by omega
      go_wp2_with fail
      refine (HAw.out _).mono ?_; rintro e w1 ⟨rfl, b1⟩
      replace HK := Lib.hid (HK.out.call b1); clear b1
      go_wp2_with fail
      go_ret
      exact ⟨rfl, HK.out.b⟩
end Go.Proofs.Ytieegdlphjkbdaa
