/-
  The law BallotOne: it returns true, and leaves what came in as it was.
  No condition but what the slice reads as, and that the number is of a byte.
-/
import Derived.Test.YtfganmbjaglmiaaBalAwake
import Derived.Test.YtfganmbjaglmiaaBalMost
import Derived.Test.YtfganmbjaglmiaaBalOneX
import Derived.Deep.CutBlock
import Derived.Deep.DeepCutAuto
set_option linter.unusedSimpArgs false
set_option linter.unusedVariables false
namespace Go.Proofs.Ytfganmbjaglmiaa
open Go.RowKit

theorem fits_all {α : Type} {P : Program} (La : Lay P α) (l : List α) (h : l.length * La.bytes ≤ 140737488355328) : Fits La (fun _ => True) l := ⟨fun _ _ => trivial, h⟩
def mvF (_ : Mov) : Prop := True
theorem row_tr_same {N : Nat} {v : Value} {F : List Trh} {j : Nat} {x y : Trh} (hx : F[j]? = some x) (h : trC N y = trC N x) : row (trLay N) v (F.set j y) = row (trLay N) v F := by
  have e : (trLay N).flat (F.set j y) = (trLay N).flat F := by
    unfold Lay.flat
    rw [List.flatMap_def, List.flatMap_def, List.map_set, show (trLay N).f y = (trLay N).f x from h, Blt.set_self (by rw [List.getElem?_map, hx]; rfl)]
  unfold row
  rw [e, List.length_set]
set_option maxRecDepth 100000 in
set_option maxHeartbeats 51200000 in
theorem bone_yes (x : Nat) (hx : x < 256) (A : Option Addr) (n c : Nat) (l : List Mov) (w : World) (hs : Sls mvLay mvF w A n c l) :
    Calls Try.prog 6 #[.int .u8 (x : Int), .slice A n c] w (fun e w' => e = .returned (.bool true) ∧ Below w.heap.size w w') := by
  have HS := Lib.hid hs
  have HAw := Lib.hid (fun W => b20awake_any W)
  unfold IsB at HAw
  have hn : n ≤ 140737488355328 := by have h : n * 40 ≤ 140737488355328 := hs.big; omega
  obtain ⟨N, hNx⟩ : ∃ N, 1 + x % 7 = N := ⟨_, rfl⟩
  have hN7 : N ≤ 7 := by have := Nat.mod_lt x (show 0 < 7 by decide); omega
  have hN1 : 1 ≤ N := by omega
  have hx7 : x % 7 < 256 := by have := Nat.mod_lt x (show 0 < 7 by decide); omega
  have HK := Lib.hid (Kn.start w)
  clear hs
  go_enter Try.func6, Try.ntmps6
  go_wp2_with (first | refine wpList_exe (exec_rem7 (x := x) _ (by rfl) (by rfl)) (by rfl) ?_ | refine wpList_exe (exec_u8i (x := x % 7) _ (by rfl) (by rfl) hx7) (by rfl) ?_ | refine wpList_exe (exec_1add (x := x % 7) (n := N) _ (by rfl) (by rfl) hx7 hNx) (by rfl) ?_ | (refine wpList_mnv HK rfl _ rfl rfl hN7 ?_; intro _ g0 HK'; simp only [List.nil_append] at HK'; replace HK := HK'; clear HK'))
  replace HK := Lib.hid (HK.out.nilR (trLay N))
  simp only [List.cons_append, List.nil_append] at HK
  clear hNx hx7
  go_loopw [6, 7, 8] (fun v6 v7 v8 wr => ∃ (i nt ct : Nat) (AT : Option Addr) (ch : ByteArray) (vs : List Bvo) (F : List Trh), i ≤ n ∧ i ≤ 300 ∧ v6 = .slice AT nt ct ∧ v7 = .string ch ∧ v8 = .int .i64 i ∧ Hid (F.length = nt) ∧ Hid (Blt.Sta N i ch vs F) ∧ Hid (Kn w.heap.size w wr [] (row voLay (.slice (some ⟨g0, 0, none⟩) N N) vs :: row (trLay N) (.slice AT nt ct) F :: F.flatMap (rows3 N)))) (fun _ _ v _ => n - (intOf v).toNat)
  case atStart => exact ⟨0, 0, 0, none, ⟨#[]⟩, _, [], Nat.zero_le _, Nat.zero_le _, rfl, rfl, rfl, Lib.hid rfl, Lib.hid (Blt.Sta.zero N), HK⟩
  case round =>
    clear HK
    obtain ⟨i, nt, ct, AT, ch, vs, F, hi, hi300, rfl, rfl, rfl, HFl, HSt, HK⟩ := hrel
    have hi1 : (0 : Int) ≤ (i : Int) := by omega
    have hi3 : i < 9223372036854775807 := by omega
    by_cases hgo : i < n ∧ i < 300
    case neg =>
      as_aux_lemma =>
        have hout : i = n ∨ (i < n ∧ 300 ≤ i) := by omega
        clear hgo HS HSt HFl
        rcases hout with rfl | ⟨hlt, h300⟩
        · go_wp2_with fail
          refine (HAw.out _).mono ?_; rintro e w1 ⟨rfl, b1⟩
          replace HK := Lib.hid (HK.out.call b1); clear b1
          go_wp2_with fail
          go_ret
          exact ⟨rfl, HK.out.b⟩
        · have hi2 : (i : Int) < (n : Int) := by omega
          have hi62 : ¬ (i : Int) < 300 := by omega
          go_wp2_with fail
          refine (HAw.out _).mono ?_; rintro e w1 ⟨rfl, b1⟩
          replace HK := Lib.hid (HK.out.call b1); clear b1
          go_wp2_with fail
          go_ret
          exact ⟨rfl, HK.out.b⟩
    case pos =>
    obtain ⟨hlt, hlt300⟩ := hgo
    have hi2 : (i : Int) < (n : Int) := by omega
    have hi62 : (i : Int) < 300 := by omega
    obtain ⟨m, hm, _⟩ := HS.out.get hlt
    obtain ⟨b, o, rfl, hat⟩ := HS.out.mat (by omega)
    have HM : Hid (∀ W, Below w.heap.size w W → ∀ j v, (mvLay.f m)[j]? = some v → W.cell? ⟨b, o + i * 5 + j, none⟩ = some v) := Lib.hid (fun W hW => hat W hW i m hm)
    have hF20 : nt ≤ 20 := by rw [← HFl.out]; exact HSt.out.len
    clear hm hat HS
    obtain ⟨kb, hkb⟩ : ∃ kb, decide (m.k = 1) = kb := ⟨_, rfl⟩
    have Hkb := Lib.hid hkb
    clear hkb
    go_upto_region 7 with fail
    go_upto_region 8 with (first | refine wpList_exe (exec_ixmv (i := i) _ _ (by rfl) (by rfl) (by rfl) hlt) (by rfl) ?_ | refine wpList_exe (exec_lmv (m := m) (off := o + i * 5) _ (by rfl) (by rfl) (HM.out _ HK.out.b)) (by rfl) ?_ | (refine wpList_amv HK rfl rfl ?_; intro _ gm HK'; simp only [List.cons_append, List.nil_append] at HK'; replace HK := HK'; clear HK') | (refine wpList_smv (m2 := m) HK 0 rfl _ _ rfl rfl rfl rfl ?_; intro _ HK'; simp only [List.set] at HK'; replace HK := HK'; clear HK'))
    have m0 := HK.out.cell 0 rfl 0 (v := .int .i64 m.k) rfl
    go_upto_if 41 with (first | refine wpList_exe (exec_ieqb (x := m.k) (k := 1) _ (by rfl) (by rfl) Hkb.out) (by rfl) ?_)
    clear m0 Hkb HM
    try simp only [ap1, ap2, ap3, ap4, ap5]
    go_cut [6] (fun v6 wx => ∃ (AT2 : Option Addr) (nt2 ct2 : Nat) (F2 : List Trh), v6 = .slice AT2 nt2 ct2 ∧ Hid (F2.length = nt2) ∧ Hid (Blt.Sta N i ch vs F2) ∧ Hid (Kn w.heap.size w wx [(gm, 42, mvC m)] (row voLay (.slice (some ⟨g0, 0, none⟩) N N) vs :: row (trLay N) (.slice AT2 nt2 ct2) F2 :: F2.flatMap (rows3 N))))
    case first =>
      cases kb with
      | false =>
        as_aux_lemma =>
          go_wp2_with fail
          go_meet
          exact ⟨AT, nt, ct, F, rfl, HFl, HSt, HK⟩
      | true =>
        as_aux_lemma =>
          have HBg := Lib.hid (fun gm W h => bbegin_any N F m gm (row voLay (.slice (some ⟨g0, 0, none⟩) N N) vs) w.heap.size w AT nt ct W h HFl.out hN7 hF20)
          unfold IsBg at HBg
          go_wp2_with (first | refine wpList_exe (km_m HK 0 _ (by rfl) (by rfl) (by rfl)) (by rfl) ?_)
          refine (HBg.out gm _ HK.out).mono ?_; rintro e w1 ⟨AT2, nt2, ct2, F2, rfl, HK2, HFl2, HF2⟩
          have HSt2 : Hid (Blt.Sta N i ch vs F2) := Lib.hid (by
            rcases HF2.out with h | ⟨h1, h2, h3, g1, g2, h⟩
            · rw [h]; exact HSt.out
            · rw [h]; exact HSt.out.begin h1 h2 h3 g1 g2 none 0 0)
          clear HBg HF2 HK HFl HSt hF20
          go_wp2_with fail
          go_meet
          exact ⟨AT2, nt2, ct2, F2, rfl, HFl2, HSt2, HK2⟩
    case rest =>
    clear HK HFl HSt hF20
    obtain ⟨AT2, nt2, ct2, F2, rfl, HFl, HSt, HK⟩ := hcut
    have hF20 : nt2 ≤ 20 := by rw [← HFl.out]; exact HSt.out.len
    by_cases hnt : nt2 = 0
    case pos =>
      subst hnt
      as_aux_lemma =>
        go_upto_region 6 with fail
        go_wp2_with (first | refine wpList_exe (exec_add1 (j := i) _ (by rfl) (by rfl) hi3) (by rfl) ?_)
        exact ⟨⟨i + 1, 0, ct2, AT2, ch, vs, F2, hlt, by omega, rfl, rfl, rfl, HFl, Lib.hid HSt.out.up, Lib.hid (HK.out.takeL 0)⟩, by simp [intOf]; omega⟩
    case neg =>
    have hntp : 0 < nt2 := Nat.pos_of_ne_zero hnt
    have hzn : ((nt2 : Int) == 0) = false := by rw [beq_eq_false_iff_ne]; omega
    obtain ⟨gT, rfl⟩ := HK.out.headR (La := trLay N) (j := 1) rfl (by rw [HFl.out]; exact hntp)
    obtain ⟨u, hu⟩ := u64_of m.t
    obtain ⟨u2, hu2⟩ := u64_of m.v
    have hun : IntKind.u64.wrap (nt2 : Int) = (nt2 : Int) := by rw [IntKind.wrap_u64]; omega
    have huN : IntKind.u64.wrap (N : Int) = (N : Int) := by rw [IntKind.wrap_u64]; omega
    obtain ⟨j, hju⟩ : ∃ j, u % nt2 = j := ⟨_, rfl⟩
    obtain ⟨k, hku⟩ : ∃ k, u2 % N = k := ⟨_, rfl⟩
    have hj : j < nt2 := by rw [← hju]; exact Nat.mod_lt _ hntp
    have hk : k < N := by rw [← hku]; exact Nat.mod_lt _ hN1
    have HVL : Hid (vs.length = N) := Lib.hid HSt.out.inv.vl
    obtain ⟨x, hx⟩ := Lay.get_of (l := F2) (k := j) (by rw [HFl.out]; exact hj)
    obtain ⟨y, hy⟩ := Lay.get_of (l := vs) (k := k) (by rw [HVL.out]; exact hk)
    have HBk : Hid (∀ x' : Trh, (rows3 N x' ++ (F2.eraseIdx j).flatMap (rows3 N)).Perm ((F2.set j x').flatMap (rows3 N))) := Lib.hid (fun x' => rows_put (rows3 N) F2 j x' (by rw [HFl.out]; exact hj))
    replace HK := Lib.hid (HK.out.perm (List.Perm.cons _ (List.Perm.cons _ (rows_take (rows3 N) F2 j x hx))))
    generalize (F2.eraseIdx j).flatMap (rows3 N) = O at *
    obtain ⟨hRt, hsl, hyl⟩ := HSt.out.inv.tl j x.t (Blt.map_at hx)
    obtain ⟨⟨bt, sd, pm, v, has, ye⟩, g1, g2, Ap, kp, cp⟩ := x
    replace HK : Hid (Kn w.heap.size w _ [(gm, 42, mvC m)] (row voLay (.slice (some ⟨g0, 0, none⟩) N N) vs :: row (trLay N) (.slice (some ⟨gT, 0, none⟩) nt2 ct2) F2 :: row bLay (.slice (some ⟨g1, 0, none⟩) N N) sd :: row bLay (.slice (some ⟨g2, 0, none⟩) N N) ye :: row pmLay (.slice Ap kp cp) pm :: O)) := HK
    have HX := Lib.hid hx
    have HY := Lib.hid hy
    have HLs : Hid (sd.length = N) := Lib.hid hsl
    have HLy : Hid (ye.length = N) := Lib.hid hyl
    clear hx hy hsl hyl hRt hnt
    go_upto_region 11 with fail
    have m0 := HK.out.cell 0 rfl 1 (v := .int .i64 m.t) rfl
    go_upto_region 12 with (first | refine wpList_exe (exec_iu (x := m.t) (u := u) _ (by rfl) (by rfl) hu) (by rfl) ?_ | refine wpList_exe (exec_iu (x := (nt2 : Int)) (u := nt2) _ (by rfl) (by rfl) hun) (by rfl) ?_ | refine wpList_exe (exec_urj (u := u) (n := nt2) (j := j) _ _ (by rfl) (by rfl) (by rfl) hntp (by omega) hju) (by rfl) ?_ | refine wpList_exe (exec_ui (u := j) _ (by rfl) (by rfl) (by omega)) (by rfl) ?_ | refine wpList_exe (exec_ixtr (N := N) (i := j) _ _ (by rfl) (by rfl) (by rfl) hj) (by rfl) ?_)
    clear m0
    have m0 := HK.out.cell 0 rfl 2 (v := .int .i64 m.v) rfl
    go_upto_region 13 with (first | refine wpList_exe (exec_iu (x := m.v) (u := u2) _ (by rfl) (by rfl) hu2) (by rfl) ?_ | refine wpList_exe (exec_iu (x := (N : Int)) (u := N) _ (by rfl) (by rfl) huN) (by rfl) ?_ | refine wpList_exe (exec_urj (u := u2) (n := N) (j := k) _ _ (by rfl) (by rfl) (by rfl) hN1 (by omega) hku) (by rfl) ?_ | refine wpList_exe (exec_ui (u := k) _ (by rfl) (by rfl) (by omega)) (by rfl) ?_)
    clear m0
    go_upto_region 14 with (first | refine wpList_exe (exec_ixvo (i := k) _ _ (by rfl) (by rfl) (by rfl) hk) (by rfl) ?_ | refine wpList_exe (exec_rvo HK 0 rfl HY.out _ (by rfl) (by rfl)) (by rfl) ?_ | (refine wpList_avo HK rfl rfl ?_; intro _ gw HK'; simp only [List.cons_append, List.nil_append] at HK'; replace HK := HK'; clear HK') | (refine wpList_svo (x := zvo) (y := y) HK 1 rfl _ _ rfl rfl rfl rfl ?_; intro _ HK'; simp only [List.set] at HK'; replace HK := HK'; clear HK'))
    have m0 := HK.out.cell 0 rfl 0 (v := .int .i64 m.k) rfl
    go_upto_block 2 with fail
    clear m0
    clear hu hu2 hun huN hju hku hzn
    try simp only [ap1, ap2, ap3, ap4, ap5]
    go_cut [13, 14, 15, 16, 17, 18] (fun s13 s14 s15 s16 s17 s18 wx => ∃ (vs2 : List Bvo) (x2 : Trh) (y2 : Bvo), Hid (Blt.Sta N (i + 1) ch vs2 (F2.set j x2)) ∧ Hid (vs2[k]? = some y2) ∧ Hid (¬ Blt.lt y2.p y.p) ∧ Hid (Kn w.heap.size w wx [(gm, 42, mvC m), (gw, 29, voA y)] (row voLay (.slice (some ⟨g0, 0, none⟩) N N) vs2 :: row (trLay N) (.slice (some ⟨gT, 0, none⟩) nt2 ct2) (F2.set j x2) :: (rows3 N x2 ++ O))))
    case first =>
      clear HBk HAw
      by_cases hk2 : m.k = 2
      case pos =>
        as_aux_lemma =>
          have k2 : (m.k == 2) = true := by rw [beq_iff_eq]; exact hk2
          have HP := Lib.hid (fun W => b20cprep_any y bt W)
          unfold IsVB at HP
          clear hk2
          by_cases hok : Blt.ok y bt
          case neg =>
            as_aux_lemma =>
              rw [show Blt.pr y bt = y from if_neg hok, decide_eq_false hok] at HP
              clear hok
              go_wp2_with fail
              have HK0 := Lib.hid HK.out.drew
              clear HK
              refine wp_region_held_drew (S := (fun W => Hid (Kn w.heap.size w W [(gm, 42, mvC m), (gw, 29, voA y)] (row voLay (.slice (some ⟨g0, 0, none⟩) N N) vs :: row (trLay N) (.slice (some ⟨gT, 0, none⟩) nt2 ct2) F2 :: row bLay (.slice (some ⟨g1, 0, none⟩) N N) sd :: row bLay (.slice (some ⟨g2, 0, none⟩) N N) ye :: row pmLay (.slice Ap kp cp) pm :: O)))) (by kernel_rfl) ?_ (fun hHeld => ?_)
              · (try dsimp only); exact HK0
              refine wpAnyH_take (i := 0) (oi := ⟨some 77, _, _, _, _, _⟩) (v := ?_) rfl (by kernel_rfl) (by kernel_rfl) (by kernel_rfl) (fun _ _ _ h => h) (Or.inl ⟨by rfl, ?_⟩) (by assumption) ?_
              rotate_left
              · (intro w hSw; refine Eq.trans (kv_v hSw 1 _ (by rfl) (by rfl) (by rfl)) ?_; with_reducible rfl)
              try simp only [Act.put, List.setIfInBounds_toArray, List.set_cons_zero, List.set_cons_succ]
              refine wpAnyH_take (i := 1) (oi := ⟨some 78, _, _, _, _, _⟩) (v := ?_) rfl (by kernel_rfl) (by kernel_rfl) (by kernel_rfl) (fun _ _ _ h => h) (Or.inl ⟨by rfl, ?_⟩) (by assumption) ?_
              rotate_left
              · (intro w hSw; (try dsimp only at hSw); go_simp; try with_reducible rfl)
              try simp only [Act.put, List.setIfInBounds_toArray, List.set_cons_zero, List.set_cons_succ]
              refine wpAnyH_take (i := 2) (oi := ⟨some 79, _, _, _, _, _⟩) (v := ?_) rfl (by kernel_rfl) (by kernel_rfl) (by kernel_rfl) (fun _ _ _ h => h) (Or.inl ⟨by rfl, ?_⟩) (by assumption) ?_
              rotate_left
              · (intro w hSw; (try dsimp only at hSw); go_simp; try with_reducible rfl)
              try simp only [Act.put, List.setIfInBounds_toArray, List.set_cons_zero, List.set_cons_succ]
              refine wpAnyH_take (i := 3) (oi := ⟨some 80, _, _, _, _, _⟩) (v := ?_) rfl (by kernel_rfl) (by kernel_rfl) (by kernel_rfl) (fun _ _ _ h => h) (Or.inl ⟨by rfl, ?_⟩) (by assumption) ?_
              rotate_left
              · (intro w hSw; (try dsimp only at hSw); go_simp; try with_reducible rfl)
              try simp only [Act.put, List.setIfInBounds_toArray, List.set_cons_zero, List.set_cons_succ]
              refine wpAnyH_take (i := 4) (oi := ⟨some 81, _, _, _, _, _⟩) (v := ?_) rfl (by kernel_rfl) (by kernel_rfl) (by kernel_rfl) (fun _ _ _ h => h) (Or.inl ⟨by rfl, ?_⟩) (by assumption) ?_
              rotate_left
              · (intro w hSw; refine Eq.trans (exec_rtb hSw 1 (by rfl) HX.out _ (by rfl) (by rfl)) ?_; with_reducible rfl)
              try simp only [Act.put, List.setIfInBounds_toArray, List.set_cons_zero, List.set_cons_succ]
              refine wpAnyH_ready (rs := [5, 9]) (by kernel_rfl) (by simp) ?_
              refine AllReadyH.cons (o := ⟨some 82, _, _, _, _, _⟩) rfl (fun K hK => ?_) (AllReadyH.cons (o := ⟨some 13, _, _, _, _, _⟩) rfl (fun K hK => ?_) AllReadyH.nil)
              go_simp
              go_at_call 13
              refine (HP.out _).mono ?_; rintro e w5 ⟨rfl, b5⟩; replace HK0 := Lib.hid (HK0.out.call b5); clear b5; have hs := Lib.hid (HK0.out.takeL 2)
              refine hK.out _ _ hs (fun hHeld => ?_)
              clear hK K
              try simp only [ap1, ap2, ap3, ap4, ap5]
              refine wpAnyH_take (i := 6) (oi := ⟨some 76, _, _, _, _, _⟩) (v := ?_) rfl (by kernel_rfl) (by kernel_rfl) (by kernel_rfl) (fun _ _ _ h => h) (Or.inl ⟨by rfl, ?_⟩) (by assumption) ?_
              rotate_left
              · (intro w hSw; (try dsimp only at hSw); go_simp; try with_reducible rfl)
              try simp only [Act.put, List.setIfInBounds_toArray, List.set_cons_zero, List.set_cons_succ]
              refine wpAnyH_take (i := 7) (oi := ⟨some 83, _, _, _, _, _⟩) (v := ?_) rfl (by kernel_rfl) (by kernel_rfl) (by kernel_rfl) (fun _ _ _ h => h) (Or.inl ⟨by rfl, ?_⟩) (by assumption) ?_
              rotate_left
              · (intro w hSw; (try dsimp only at hSw); go_simp; try with_reducible rfl)
              try simp only [Act.put, List.setIfInBounds_toArray, List.set_cons_zero, List.set_cons_succ]
              refine wpAnyH_take (i := 8) (oi := ⟨some 84, _, _, _, _, _⟩) (v := ?_) rfl (by kernel_rfl) (by kernel_rfl) (by kernel_rfl) (fun _ _ _ h => h) (Or.inl ⟨by rfl, ?_⟩) (by assumption) ?_
              rotate_left
              · (intro w hSw; (try dsimp only at hSw); go_simp; try with_reducible rfl)
              try simp only [Act.put, List.setIfInBounds_toArray, List.set_cons_zero, List.set_cons_succ]
              refine wpAnyH_ready (rs := [9]) (by kernel_rfl) (by simp) ?_
              refine AllReadyH.cons (o := ⟨some 13, _, _, _, _, _⟩) rfl (fun K hK => ?_) AllReadyH.nil
              refine step_avo HK0 (by rfl) (by rfl) ?_; clear HK0; intro wq g13 HK0 _; simp only [List.cons_append, List.nil_append] at HK0; have hs := Lib.hid (HK0.out.takeL 2)
              refine hK.out _ _ hs (fun hHeld => ?_)
              clear hK K
              try simp only [ap1, ap2, ap3, ap4, ap5]
              refine wpAnyH_ready (rs := [10]) (by kernel_rfl) (by simp) ?_
              refine AllReadyH.cons (o := ⟨none, _, _, _, _, _⟩) rfl (fun K hK => ?_) AllReadyH.nil
              refine step_svo (x := zvo) (y := y) HK0 2 (by rfl) _ _ (by rfl) (by rfl) (by rfl) (by rfl) ?_; clear HK0; intro wq HK0; simp only [List.set] at HK0; have hs := Lib.hid (HK0.out.takeL 2)
              refine hK.out _ _ hs (fun hHeld => ?_)
              clear hK K
              try simp only [ap1, ap2, ap3, ap4, ap5]
              refine wpAnyH_take (i := 11) (oi := ⟨some 14, _, _, _, _, _⟩) (v := ?_) rfl (by kernel_rfl) (by kernel_rfl) (by kernel_rfl) (fun _ _ _ h => h) (Or.inl ⟨by rfl, ?_⟩) (by assumption) ?_
              rotate_left
              · (intro w hSw; (try dsimp only at hSw); go_simp; try with_reducible rfl)
              try simp only [Act.put, List.setIfInBounds_toArray, List.set_cons_zero, List.set_cons_succ]
              refine wpAnyH_done (by kernel_rfl) ?_ _
              rotate_left
              refine step_avo HK0 (by rfl) (by rfl) ?_; clear HK0; intro wq g13 HK0 _; simp only [List.cons_append, List.nil_append] at HK0; have hs := Lib.hid (HK0.out.takeL 2)
              refine hK.out _ _ hs (fun hHeld => ?_)
              clear hK K
              try simp only [ap1, ap2, ap3, ap4, ap5]
              refine wpAnyH_ready (rs := [5]) (by kernel_rfl) (by simp) ?_
              refine AllReadyH.cons (o := ⟨some 82, _, _, _, _, _⟩) rfl (fun K hK => ?_) AllReadyH.nil
              go_simp
              go_at_call 13
              refine (HP.out _).mono ?_; rintro e w5 ⟨rfl, b5⟩; replace HK0 := Lib.hid (HK0.out.call b5); clear b5; have hs := Lib.hid (HK0.out.takeL 2)
              refine hK.out _ _ hs (fun hHeld => ?_)
              clear hK K
              try simp only [ap1, ap2, ap3, ap4, ap5]
              refine wpAnyH_take (i := 6) (oi := ⟨some 76, _, _, _, _, _⟩) (v := ?_) rfl (by kernel_rfl) (by kernel_rfl) (by kernel_rfl) (fun _ _ _ h => h) (Or.inl ⟨by rfl, ?_⟩) (by assumption) ?_
              rotate_left
              · (intro w hSw; (try dsimp only at hSw); go_simp; try with_reducible rfl)
              try simp only [Act.put, List.setIfInBounds_toArray, List.set_cons_zero, List.set_cons_succ]
              refine wpAnyH_take (i := 7) (oi := ⟨some 83, _, _, _, _, _⟩) (v := ?_) rfl (by kernel_rfl) (by kernel_rfl) (by kernel_rfl) (fun _ _ _ h => h) (Or.inl ⟨by rfl, ?_⟩) (by assumption) ?_
              rotate_left
              · (intro w hSw; (try dsimp only at hSw); go_simp; try with_reducible rfl)
              try simp only [Act.put, List.setIfInBounds_toArray, List.set_cons_zero, List.set_cons_succ]
              refine wpAnyH_take (i := 8) (oi := ⟨some 84, _, _, _, _, _⟩) (v := ?_) rfl (by kernel_rfl) (by kernel_rfl) (by kernel_rfl) (fun _ _ _ h => h) (Or.inl ⟨by rfl, ?_⟩) (by assumption) ?_
              rotate_left
              · (intro w hSw; (try dsimp only at hSw); go_simp; try with_reducible rfl)
              try simp only [Act.put, List.setIfInBounds_toArray, List.set_cons_zero, List.set_cons_succ]
              refine wpAnyH_ready (rs := [10]) (by kernel_rfl) (by simp) ?_
              refine AllReadyH.cons (o := ⟨none, _, _, _, _, _⟩) rfl (fun K hK => ?_) AllReadyH.nil
              refine step_svo (x := zvo) (y := y) HK0 2 (by rfl) _ _ (by rfl) (by rfl) (by rfl) (by rfl) ?_; clear HK0; intro wq HK0; simp only [List.set] at HK0; have hs := Lib.hid (HK0.out.takeL 2)
              refine hK.out _ _ hs (fun hHeld => ?_)
              clear hK K
              try simp only [ap1, ap2, ap3, ap4, ap5]
              refine wpAnyH_take (i := 11) (oi := ⟨some 14, _, _, _, _, _⟩) (v := ?_) rfl (by kernel_rfl) (by kernel_rfl) (by kernel_rfl) (fun _ _ _ h => h) (Or.inl ⟨by rfl, ?_⟩) (by assumption) ?_
              rotate_left
              · (intro w hSw; (try dsimp only at hSw); go_simp; try with_reducible rfl)
              try simp only [Act.put, List.setIfInBounds_toArray, List.set_cons_zero, List.set_cons_succ]
              refine wpAnyH_done (by kernel_rfl) ?_ _
              rotate_left
              all_goals
                have HK := HK0
                clear HK0 hHeld HP
                go_upto_region 18 with (first | refine wpList_exe (kv_v HK 2 _ (by rfl) (by rfl) (by rfl)) (by rfl) ?_ | refine wpList_exe (exec_ixvo (i := k) _ _ (by rfl) (by rfl) (by rfl) hk) (by rfl) ?_ | (refine wpList_put (La := voLay) HK 0 rfl _ _ rfl rfl k (by rw [HVL.out]; exact hk) rfl y rfl rfl ?_; intro _ HK'; simp only [List.set] at HK'; replace HK := HK'; clear HK'))
                rw [Blt.set_self HY.out] at HK
                go_wp2_with fail
                go_meet
                exact ⟨_, ⟨⟨bt, sd, pm, v, has, ye⟩, g1, g2, Ap, kp, cp⟩, y, Lib.hid (by rw [Blt.set_self HX.out]; exact HSt.out.up), HY, Lib.hid (Blt.lt_irr _), Lib.hid (by rw [Blt.set_self HX.out]; exact HK.out.takeL 2)⟩
          case pos =>
            rw [show Blt.pr y bt = ⟨bt, y.a, y.v⟩ from if_pos hok, decide_eq_true hok] at HP
            obtain ⟨sk, hsk⟩ := Lay.get_of (l := sd) (k := k) (by rw [HLs.out]; exact hk)
            have HSk := Lib.hid hsk
            have HOk := Lib.hid hok
            clear hok hsk
            cases sk with
            | true =>
              as_aux_lemma =>
                go_wp2_with fail
                have HK0 := Lib.hid HK.out.drew
                clear HK
                refine wp_region_held_drew (S := (fun W => Hid (Kn w.heap.size w W [(gm, 42, mvC m), (gw, 29, voA y)] (row voLay (.slice (some ⟨g0, 0, none⟩) N N) vs :: row (trLay N) (.slice (some ⟨gT, 0, none⟩) nt2 ct2) F2 :: row bLay (.slice (some ⟨g1, 0, none⟩) N N) sd :: row bLay (.slice (some ⟨g2, 0, none⟩) N N) ye :: row pmLay (.slice Ap kp cp) pm :: O)))) (by kernel_rfl) ?_ (fun hHeld => ?_)
                · (try dsimp only); exact HK0
                refine wpAnyH_take (i := 0) (oi := ⟨some 77, _, _, _, _, _⟩) (v := ?_) rfl (by kernel_rfl) (by kernel_rfl) (by kernel_rfl) (fun _ _ _ h => h) (Or.inl ⟨by rfl, ?_⟩) (by assumption) ?_
                rotate_left
                · (intro w hSw; refine Eq.trans (kv_v hSw 1 _ (by rfl) (by rfl) (by rfl)) ?_; with_reducible rfl)
                try simp only [Act.put, List.setIfInBounds_toArray, List.set_cons_zero, List.set_cons_succ]
                refine wpAnyH_take (i := 1) (oi := ⟨some 78, _, _, _, _, _⟩) (v := ?_) rfl (by kernel_rfl) (by kernel_rfl) (by kernel_rfl) (fun _ _ _ h => h) (Or.inl ⟨by rfl, ?_⟩) (by assumption) ?_
                rotate_left
                · (intro w hSw; (try dsimp only at hSw); go_simp; try with_reducible rfl)
                try simp only [Act.put, List.setIfInBounds_toArray, List.set_cons_zero, List.set_cons_succ]
                refine wpAnyH_take (i := 2) (oi := ⟨some 79, _, _, _, _, _⟩) (v := ?_) rfl (by kernel_rfl) (by kernel_rfl) (by kernel_rfl) (fun _ _ _ h => h) (Or.inl ⟨by rfl, ?_⟩) (by assumption) ?_
                rotate_left
                · (intro w hSw; (try dsimp only at hSw); go_simp; try with_reducible rfl)
                try simp only [Act.put, List.setIfInBounds_toArray, List.set_cons_zero, List.set_cons_succ]
                refine wpAnyH_take (i := 3) (oi := ⟨some 80, _, _, _, _, _⟩) (v := ?_) rfl (by kernel_rfl) (by kernel_rfl) (by kernel_rfl) (fun _ _ _ h => h) (Or.inl ⟨by rfl, ?_⟩) (by assumption) ?_
                rotate_left
                · (intro w hSw; (try dsimp only at hSw); go_simp; try with_reducible rfl)
                try simp only [Act.put, List.setIfInBounds_toArray, List.set_cons_zero, List.set_cons_succ]
                refine wpAnyH_take (i := 4) (oi := ⟨some 81, _, _, _, _, _⟩) (v := ?_) rfl (by kernel_rfl) (by kernel_rfl) (by kernel_rfl) (fun _ _ _ h => h) (Or.inl ⟨by rfl, ?_⟩) (by assumption) ?_
                rotate_left
                · (intro w hSw; refine Eq.trans (exec_rtb hSw 1 (by rfl) HX.out _ (by rfl) (by rfl)) ?_; with_reducible rfl)
                try simp only [Act.put, List.setIfInBounds_toArray, List.set_cons_zero, List.set_cons_succ]
                refine wpAnyH_ready (rs := [5, 9]) (by kernel_rfl) (by simp) ?_
                refine AllReadyH.cons (o := ⟨some 82, _, _, _, _, _⟩) rfl (fun K hK => ?_) (AllReadyH.cons (o := ⟨some 13, _, _, _, _, _⟩) rfl (fun K hK => ?_) AllReadyH.nil)
                go_simp
                go_at_call 13
                refine (HP.out _).mono ?_; rintro e w5 ⟨rfl, b5⟩; replace HK0 := Lib.hid (HK0.out.call b5); clear b5; have hs := Lib.hid (HK0.out.takeL 2)
                refine hK.out _ _ hs (fun hHeld => ?_)
                clear hK K
                try simp only [ap1, ap2, ap3, ap4, ap5]
                refine wpAnyH_take (i := 6) (oi := ⟨some 76, _, _, _, _, _⟩) (v := ?_) rfl (by kernel_rfl) (by kernel_rfl) (by kernel_rfl) (fun _ _ _ h => h) (Or.inl ⟨by rfl, ?_⟩) (by assumption) ?_
                rotate_left
                · (intro w hSw; (try dsimp only at hSw); go_simp; try with_reducible rfl)
                try simp only [Act.put, List.setIfInBounds_toArray, List.set_cons_zero, List.set_cons_succ]
                refine wpAnyH_take (i := 7) (oi := ⟨some 83, _, _, _, _, _⟩) (v := ?_) rfl (by kernel_rfl) (by kernel_rfl) (by kernel_rfl) (fun _ _ _ h => h) (Or.inl ⟨by rfl, ?_⟩) (by assumption) ?_
                rotate_left
                · (intro w hSw; (try dsimp only at hSw); go_simp; try with_reducible rfl)
                try simp only [Act.put, List.setIfInBounds_toArray, List.set_cons_zero, List.set_cons_succ]
                refine wpAnyH_take (i := 8) (oi := ⟨some 84, _, _, _, _, _⟩) (v := ?_) rfl (by kernel_rfl) (by kernel_rfl) (by kernel_rfl) (fun _ _ _ h => h) (Or.inl ⟨by rfl, ?_⟩) (by assumption) ?_
                rotate_left
                · (intro w hSw; (try dsimp only at hSw); go_simp; try with_reducible rfl)
                try simp only [Act.put, List.setIfInBounds_toArray, List.set_cons_zero, List.set_cons_succ]
                refine wpAnyH_ready (rs := [9]) (by kernel_rfl) (by simp) ?_
                refine AllReadyH.cons (o := ⟨some 13, _, _, _, _, _⟩) rfl (fun K hK => ?_) AllReadyH.nil
                refine step_avo HK0 (by rfl) (by rfl) ?_; clear HK0; intro wq g13 HK0 _; simp only [List.cons_append, List.nil_append] at HK0; have hs := Lib.hid (HK0.out.takeL 2)
                refine hK.out _ _ hs (fun hHeld => ?_)
                clear hK K
                try simp only [ap1, ap2, ap3, ap4, ap5]
                refine wpAnyH_ready (rs := [10]) (by kernel_rfl) (by simp) ?_
                refine AllReadyH.cons (o := ⟨none, _, _, _, _, _⟩) rfl (fun K hK => ?_) AllReadyH.nil
                refine step_svo (x := zvo) (y := ⟨bt, y.a, y.v⟩) HK0 2 (by rfl) _ _ (by rfl) (by rfl) (by rfl) (by rfl) ?_; clear HK0; intro wq HK0; simp only [List.set] at HK0; have hs := Lib.hid (HK0.out.takeL 2)
                refine hK.out _ _ hs (fun hHeld => ?_)
                clear hK K
                try simp only [ap1, ap2, ap3, ap4, ap5]
                refine wpAnyH_take (i := 11) (oi := ⟨some 14, _, _, _, _, _⟩) (v := ?_) rfl (by kernel_rfl) (by kernel_rfl) (by kernel_rfl) (fun _ _ _ h => h) (Or.inl ⟨by rfl, ?_⟩) (by assumption) ?_
                rotate_left
                · (intro w hSw; (try dsimp only at hSw); go_simp; try with_reducible rfl)
                try simp only [Act.put, List.setIfInBounds_toArray, List.set_cons_zero, List.set_cons_succ]
                refine wpAnyH_done (by kernel_rfl) ?_ _
                rotate_left
                refine step_avo HK0 (by rfl) (by rfl) ?_; clear HK0; intro wq g13 HK0 _; simp only [List.cons_append, List.nil_append] at HK0; have hs := Lib.hid (HK0.out.takeL 2)
                refine hK.out _ _ hs (fun hHeld => ?_)
                clear hK K
                try simp only [ap1, ap2, ap3, ap4, ap5]
                refine wpAnyH_ready (rs := [5]) (by kernel_rfl) (by simp) ?_
                refine AllReadyH.cons (o := ⟨some 82, _, _, _, _, _⟩) rfl (fun K hK => ?_) AllReadyH.nil
                go_simp
                go_at_call 13
                refine (HP.out _).mono ?_; rintro e w5 ⟨rfl, b5⟩; replace HK0 := Lib.hid (HK0.out.call b5); clear b5; have hs := Lib.hid (HK0.out.takeL 2)
                refine hK.out _ _ hs (fun hHeld => ?_)
                clear hK K
                try simp only [ap1, ap2, ap3, ap4, ap5]
                refine wpAnyH_take (i := 6) (oi := ⟨some 76, _, _, _, _, _⟩) (v := ?_) rfl (by kernel_rfl) (by kernel_rfl) (by kernel_rfl) (fun _ _ _ h => h) (Or.inl ⟨by rfl, ?_⟩) (by assumption) ?_
                rotate_left
                · (intro w hSw; (try dsimp only at hSw); go_simp; try with_reducible rfl)
                try simp only [Act.put, List.setIfInBounds_toArray, List.set_cons_zero, List.set_cons_succ]
                refine wpAnyH_take (i := 7) (oi := ⟨some 83, _, _, _, _, _⟩) (v := ?_) rfl (by kernel_rfl) (by kernel_rfl) (by kernel_rfl) (fun _ _ _ h => h) (Or.inl ⟨by rfl, ?_⟩) (by assumption) ?_
                rotate_left
                · (intro w hSw; (try dsimp only at hSw); go_simp; try with_reducible rfl)
                try simp only [Act.put, List.setIfInBounds_toArray, List.set_cons_zero, List.set_cons_succ]
                refine wpAnyH_take (i := 8) (oi := ⟨some 84, _, _, _, _, _⟩) (v := ?_) rfl (by kernel_rfl) (by kernel_rfl) (by kernel_rfl) (fun _ _ _ h => h) (Or.inl ⟨by rfl, ?_⟩) (by assumption) ?_
                rotate_left
                · (intro w hSw; (try dsimp only at hSw); go_simp; try with_reducible rfl)
                try simp only [Act.put, List.setIfInBounds_toArray, List.set_cons_zero, List.set_cons_succ]
                refine wpAnyH_ready (rs := [10]) (by kernel_rfl) (by simp) ?_
                refine AllReadyH.cons (o := ⟨none, _, _, _, _, _⟩) rfl (fun K hK => ?_) AllReadyH.nil
                refine step_svo (x := zvo) (y := ⟨bt, y.a, y.v⟩) HK0 2 (by rfl) _ _ (by rfl) (by rfl) (by rfl) (by rfl) ?_; clear HK0; intro wq HK0; simp only [List.set] at HK0; have hs := Lib.hid (HK0.out.takeL 2)
                refine hK.out _ _ hs (fun hHeld => ?_)
                clear hK K
                try simp only [ap1, ap2, ap3, ap4, ap5]
                refine wpAnyH_take (i := 11) (oi := ⟨some 14, _, _, _, _, _⟩) (v := ?_) rfl (by kernel_rfl) (by kernel_rfl) (by kernel_rfl) (fun _ _ _ h => h) (Or.inl ⟨by rfl, ?_⟩) (by assumption) ?_
                rotate_left
                · (intro w hSw; (try dsimp only at hSw); go_simp; try with_reducible rfl)
                try simp only [Act.put, List.setIfInBounds_toArray, List.set_cons_zero, List.set_cons_succ]
                refine wpAnyH_done (by kernel_rfl) ?_ _
                rotate_left
                all_goals
                  have HK := HK0
                  clear HK0 hHeld HP
                  go_upto_region 18 with (first | refine wpList_exe (kv_v HK 2 _ (by rfl) (by rfl) (by rfl)) (by rfl) ?_ | refine wpList_exe (exec_ixvo (i := k) _ _ (by rfl) (by rfl) (by rfl) hk) (by rfl) ?_ | (refine wpList_put (La := voLay) HK 0 rfl _ _ rfl rfl k (by rw [HVL.out]; exact hk) rfl (⟨bt, y.a, y.v⟩ : Bvo) rfl rfl ?_; intro _ HK'; simp only [List.set] at HK'; replace HK := HK'; clear HK'))
                  have c2 := HK.out.trc (j := 1) rfl HX.out 2 rfl
                  have c5 := HK.out.trc (j := 1) rfl HX.out 5 rfl
                  have c1 := HK.out.boc (j := 2) rfl HSk.out
                  have hk2 : (0 : Int) ≤ (k : Int) := by omega
                  have hk3 : (k : Int) < (N : Int) := by omega
                  go_wp2_with fail
                  clear c1 c2 c5
                  go_meet
                  exact ⟨_, ⟨⟨bt, sd, pm, v, has, ye⟩, g1, g2, Ap, kp, cp⟩, ⟨bt, y.a, y.v⟩, Lib.hid (by rw [Blt.set_self HX.out]; exact (HSt.out.raise HY.out HOk.out).up), Lib.hid (Blt.bset_at HY.out), Lib.hid HOk.out.2, Lib.hid (by rw [Blt.set_self HX.out]; exact HK.out.takeL 2)⟩
            | false =>
              cases has with
              | true =>
                as_aux_lemma =>
                  go_wp2_with fail
                  have HK0 := Lib.hid HK.out.drew
                  clear HK
                  refine wp_region_held_drew (S := (fun W => Hid (Kn w.heap.size w W [(gm, 42, mvC m), (gw, 29, voA y)] (row voLay (.slice (some ⟨g0, 0, none⟩) N N) vs :: row (trLay N) (.slice (some ⟨gT, 0, none⟩) nt2 ct2) F2 :: row bLay (.slice (some ⟨g1, 0, none⟩) N N) sd :: row bLay (.slice (some ⟨g2, 0, none⟩) N N) ye :: row pmLay (.slice Ap kp cp) pm :: O)))) (by kernel_rfl) ?_ (fun hHeld => ?_)
                  · (try dsimp only); exact HK0
                  refine wpAnyH_take (i := 0) (oi := ⟨some 77, _, _, _, _, _⟩) (v := ?_) rfl (by kernel_rfl) (by kernel_rfl) (by kernel_rfl) (fun _ _ _ h => h) (Or.inl ⟨by rfl, ?_⟩) (by assumption) ?_
                  rotate_left
                  · (intro w hSw; refine Eq.trans (kv_v hSw 1 _ (by rfl) (by rfl) (by rfl)) ?_; with_reducible rfl)
                  try simp only [Act.put, List.setIfInBounds_toArray, List.set_cons_zero, List.set_cons_succ]
                  refine wpAnyH_take (i := 1) (oi := ⟨some 78, _, _, _, _, _⟩) (v := ?_) rfl (by kernel_rfl) (by kernel_rfl) (by kernel_rfl) (fun _ _ _ h => h) (Or.inl ⟨by rfl, ?_⟩) (by assumption) ?_
                  rotate_left
                  · (intro w hSw; (try dsimp only at hSw); go_simp; try with_reducible rfl)
                  try simp only [Act.put, List.setIfInBounds_toArray, List.set_cons_zero, List.set_cons_succ]
                  refine wpAnyH_take (i := 2) (oi := ⟨some 79, _, _, _, _, _⟩) (v := ?_) rfl (by kernel_rfl) (by kernel_rfl) (by kernel_rfl) (fun _ _ _ h => h) (Or.inl ⟨by rfl, ?_⟩) (by assumption) ?_
                  rotate_left
                  · (intro w hSw; (try dsimp only at hSw); go_simp; try with_reducible rfl)
                  try simp only [Act.put, List.setIfInBounds_toArray, List.set_cons_zero, List.set_cons_succ]
                  refine wpAnyH_take (i := 3) (oi := ⟨some 80, _, _, _, _, _⟩) (v := ?_) rfl (by kernel_rfl) (by kernel_rfl) (by kernel_rfl) (fun _ _ _ h => h) (Or.inl ⟨by rfl, ?_⟩) (by assumption) ?_
                  rotate_left
                  · (intro w hSw; (try dsimp only at hSw); go_simp; try with_reducible rfl)
                  try simp only [Act.put, List.setIfInBounds_toArray, List.set_cons_zero, List.set_cons_succ]
                  refine wpAnyH_take (i := 4) (oi := ⟨some 81, _, _, _, _, _⟩) (v := ?_) rfl (by kernel_rfl) (by kernel_rfl) (by kernel_rfl) (fun _ _ _ h => h) (Or.inl ⟨by rfl, ?_⟩) (by assumption) ?_
                  rotate_left
                  · (intro w hSw; refine Eq.trans (exec_rtb hSw 1 (by rfl) HX.out _ (by rfl) (by rfl)) ?_; with_reducible rfl)
                  try simp only [Act.put, List.setIfInBounds_toArray, List.set_cons_zero, List.set_cons_succ]
                  refine wpAnyH_ready (rs := [5, 9]) (by kernel_rfl) (by simp) ?_
                  refine AllReadyH.cons (o := ⟨some 82, _, _, _, _, _⟩) rfl (fun K hK => ?_) (AllReadyH.cons (o := ⟨some 13, _, _, _, _, _⟩) rfl (fun K hK => ?_) AllReadyH.nil)
                  go_simp
                  go_at_call 13
                  refine (HP.out _).mono ?_; rintro e w5 ⟨rfl, b5⟩; replace HK0 := Lib.hid (HK0.out.call b5); clear b5; have hs := Lib.hid (HK0.out.takeL 2)
                  refine hK.out _ _ hs (fun hHeld => ?_)
                  clear hK K
                  try simp only [ap1, ap2, ap3, ap4, ap5]
                  refine wpAnyH_take (i := 6) (oi := ⟨some 76, _, _, _, _, _⟩) (v := ?_) rfl (by kernel_rfl) (by kernel_rfl) (by kernel_rfl) (fun _ _ _ h => h) (Or.inl ⟨by rfl, ?_⟩) (by assumption) ?_
                  rotate_left
                  · (intro w hSw; (try dsimp only at hSw); go_simp; try with_reducible rfl)
                  try simp only [Act.put, List.setIfInBounds_toArray, List.set_cons_zero, List.set_cons_succ]
                  refine wpAnyH_take (i := 7) (oi := ⟨some 83, _, _, _, _, _⟩) (v := ?_) rfl (by kernel_rfl) (by kernel_rfl) (by kernel_rfl) (fun _ _ _ h => h) (Or.inl ⟨by rfl, ?_⟩) (by assumption) ?_
                  rotate_left
                  · (intro w hSw; (try dsimp only at hSw); go_simp; try with_reducible rfl)
                  try simp only [Act.put, List.setIfInBounds_toArray, List.set_cons_zero, List.set_cons_succ]
                  refine wpAnyH_take (i := 8) (oi := ⟨some 84, _, _, _, _, _⟩) (v := ?_) rfl (by kernel_rfl) (by kernel_rfl) (by kernel_rfl) (fun _ _ _ h => h) (Or.inl ⟨by rfl, ?_⟩) (by assumption) ?_
                  rotate_left
                  · (intro w hSw; (try dsimp only at hSw); go_simp; try with_reducible rfl)
                  try simp only [Act.put, List.setIfInBounds_toArray, List.set_cons_zero, List.set_cons_succ]
                  refine wpAnyH_ready (rs := [9]) (by kernel_rfl) (by simp) ?_
                  refine AllReadyH.cons (o := ⟨some 13, _, _, _, _, _⟩) rfl (fun K hK => ?_) AllReadyH.nil
                  refine step_avo HK0 (by rfl) (by rfl) ?_; clear HK0; intro wq g13 HK0 _; simp only [List.cons_append, List.nil_append] at HK0; have hs := Lib.hid (HK0.out.takeL 2)
                  refine hK.out _ _ hs (fun hHeld => ?_)
                  clear hK K
                  try simp only [ap1, ap2, ap3, ap4, ap5]
                  refine wpAnyH_ready (rs := [10]) (by kernel_rfl) (by simp) ?_
                  refine AllReadyH.cons (o := ⟨none, _, _, _, _, _⟩) rfl (fun K hK => ?_) AllReadyH.nil
                  refine step_svo (x := zvo) (y := ⟨bt, y.a, y.v⟩) HK0 2 (by rfl) _ _ (by rfl) (by rfl) (by rfl) (by rfl) ?_; clear HK0; intro wq HK0; simp only [List.set] at HK0; have hs := Lib.hid (HK0.out.takeL 2)
                  refine hK.out _ _ hs (fun hHeld => ?_)
                  clear hK K
                  try simp only [ap1, ap2, ap3, ap4, ap5]
                  refine wpAnyH_take (i := 11) (oi := ⟨some 14, _, _, _, _, _⟩) (v := ?_) rfl (by kernel_rfl) (by kernel_rfl) (by kernel_rfl) (fun _ _ _ h => h) (Or.inl ⟨by rfl, ?_⟩) (by assumption) ?_
                  rotate_left
                  · (intro w hSw; (try dsimp only at hSw); go_simp; try with_reducible rfl)
                  try simp only [Act.put, List.setIfInBounds_toArray, List.set_cons_zero, List.set_cons_succ]
                  refine wpAnyH_done (by kernel_rfl) ?_ _
                  rotate_left
                  refine step_avo HK0 (by rfl) (by rfl) ?_; clear HK0; intro wq g13 HK0 _; simp only [List.cons_append, List.nil_append] at HK0; have hs := Lib.hid (HK0.out.takeL 2)
                  refine hK.out _ _ hs (fun hHeld => ?_)
                  clear hK K
                  try simp only [ap1, ap2, ap3, ap4, ap5]
                  refine wpAnyH_ready (rs := [5]) (by kernel_rfl) (by simp) ?_
                  refine AllReadyH.cons (o := ⟨some 82, _, _, _, _, _⟩) rfl (fun K hK => ?_) AllReadyH.nil
                  go_simp
                  go_at_call 13
                  refine (HP.out _).mono ?_; rintro e w5 ⟨rfl, b5⟩; replace HK0 := Lib.hid (HK0.out.call b5); clear b5; have hs := Lib.hid (HK0.out.takeL 2)
                  refine hK.out _ _ hs (fun hHeld => ?_)
                  clear hK K
                  try simp only [ap1, ap2, ap3, ap4, ap5]
                  refine wpAnyH_take (i := 6) (oi := ⟨some 76, _, _, _, _, _⟩) (v := ?_) rfl (by kernel_rfl) (by kernel_rfl) (by kernel_rfl) (fun _ _ _ h => h) (Or.inl ⟨by rfl, ?_⟩) (by assumption) ?_
                  rotate_left
                  · (intro w hSw; (try dsimp only at hSw); go_simp; try with_reducible rfl)
                  try simp only [Act.put, List.setIfInBounds_toArray, List.set_cons_zero, List.set_cons_succ]
                  refine wpAnyH_take (i := 7) (oi := ⟨some 83, _, _, _, _, _⟩) (v := ?_) rfl (by kernel_rfl) (by kernel_rfl) (by kernel_rfl) (fun _ _ _ h => h) (Or.inl ⟨by rfl, ?_⟩) (by assumption) ?_
                  rotate_left
                  · (intro w hSw; (try dsimp only at hSw); go_simp; try with_reducible rfl)
                  try simp only [Act.put, List.setIfInBounds_toArray, List.set_cons_zero, List.set_cons_succ]
                  refine wpAnyH_take (i := 8) (oi := ⟨some 84, _, _, _, _, _⟩) (v := ?_) rfl (by kernel_rfl) (by kernel_rfl) (by kernel_rfl) (fun _ _ _ h => h) (Or.inl ⟨by rfl, ?_⟩) (by assumption) ?_
                  rotate_left
                  · (intro w hSw; (try dsimp only at hSw); go_simp; try with_reducible rfl)
                  try simp only [Act.put, List.setIfInBounds_toArray, List.set_cons_zero, List.set_cons_succ]
                  refine wpAnyH_ready (rs := [10]) (by kernel_rfl) (by simp) ?_
                  refine AllReadyH.cons (o := ⟨none, _, _, _, _, _⟩) rfl (fun K hK => ?_) AllReadyH.nil
                  refine step_svo (x := zvo) (y := ⟨bt, y.a, y.v⟩) HK0 2 (by rfl) _ _ (by rfl) (by rfl) (by rfl) (by rfl) ?_; clear HK0; intro wq HK0; simp only [List.set] at HK0; have hs := Lib.hid (HK0.out.takeL 2)
                  refine hK.out _ _ hs (fun hHeld => ?_)
                  clear hK K
                  try simp only [ap1, ap2, ap3, ap4, ap5]
                  refine wpAnyH_take (i := 11) (oi := ⟨some 14, _, _, _, _, _⟩) (v := ?_) rfl (by kernel_rfl) (by kernel_rfl) (by kernel_rfl) (fun _ _ _ h => h) (Or.inl ⟨by rfl, ?_⟩) (by assumption) ?_
                  rotate_left
                  · (intro w hSw; (try dsimp only at hSw); go_simp; try with_reducible rfl)
                  try simp only [Act.put, List.setIfInBounds_toArray, List.set_cons_zero, List.set_cons_succ]
                  refine wpAnyH_done (by kernel_rfl) ?_ _
                  rotate_left
                  all_goals
                    have HK := HK0
                    clear HK0 hHeld HP
                    go_upto_region 18 with (first | refine wpList_exe (kv_v HK 2 _ (by rfl) (by rfl) (by rfl)) (by rfl) ?_ | refine wpList_exe (exec_ixvo (i := k) _ _ (by rfl) (by rfl) (by rfl) hk) (by rfl) ?_ | (refine wpList_put (La := voLay) HK 0 rfl _ _ rfl rfl k (by rw [HVL.out]; exact hk) rfl (⟨bt, y.a, y.v⟩ : Bvo) rfl rfl ?_; intro _ HK'; simp only [List.set] at HK'; replace HK := HK'; clear HK'))
                    have c2 := HK.out.trc (j := 1) rfl HX.out 2 rfl
                    have c5 := HK.out.trc (j := 1) rfl HX.out 5 rfl
                    have c1 := HK.out.boc (j := 2) rfl HSk.out
                    have hk2 : (0 : Int) ≤ (k : Int) := by omega
                    have hk3 : (k : Int) < (N : Int) := by omega
                    go_wp2_with fail
                    clear c1 c2 c5
                    go_meet
                    exact ⟨_, ⟨⟨bt, sd, pm, v, true, ye⟩, g1, g2, Ap, kp, cp⟩, ⟨bt, y.a, y.v⟩, Lib.hid (by rw [Blt.set_self HX.out]; exact (HSt.out.raise HY.out HOk.out).up), Lib.hid (Blt.bset_at HY.out), Lib.hid HOk.out.2, Lib.hid (by rw [Blt.set_self HX.out]; exact HK.out.takeL 2)⟩
              | false =>
                as_aux_lemma =>
                  have HPl : Hid (pm.length ≤ i) := Lib.hid (HSt.out.pml _ (List.mem_of_getElem? HX.out))
                  have HKp := Lib.hid (Lay.Own.reads (HK.out.own (La := pmLay) (v := .slice Ap kp cp) (l := pm) 4 rfl)).1
                  have HL : Hid ((pm ++ [(⟨y.a, y.v⟩ : Bpm)]).length = kp + 1) := Lib.hid (by rw [List.length_append, ← HKp.out]; rfl)
                  have hkp : kp ≤ 300 := by have := HPl.out; have := HKp.out; omega
                  go_wp2_with fail
                  have HK0 := Lib.hid HK.out.drew
                  clear HK
                  refine wp_region_held_drew (S := (fun W => Hid (Kn w.heap.size w W [(gm, 42, mvC m), (gw, 29, voA y)] (row voLay (.slice (some ⟨g0, 0, none⟩) N N) vs :: row (trLay N) (.slice (some ⟨gT, 0, none⟩) nt2 ct2) F2 :: row bLay (.slice (some ⟨g1, 0, none⟩) N N) sd :: row bLay (.slice (some ⟨g2, 0, none⟩) N N) ye :: row pmLay (.slice Ap kp cp) pm :: O)))) (by kernel_rfl) ?_ (fun hHeld => ?_)
                  · (try dsimp only); exact HK0
                  refine wpAnyH_take (i := 0) (oi := ⟨some 77, _, _, _, _, _⟩) (v := ?_) rfl (by kernel_rfl) (by kernel_rfl) (by kernel_rfl) (fun _ _ _ h => h) (Or.inl ⟨by rfl, ?_⟩) (by assumption) ?_
                  rotate_left
                  · (intro w hSw; refine Eq.trans (kv_v hSw 1 _ (by rfl) (by rfl) (by rfl)) ?_; with_reducible rfl)
                  try simp only [Act.put, List.setIfInBounds_toArray, List.set_cons_zero, List.set_cons_succ]
                  refine wpAnyH_take (i := 1) (oi := ⟨some 78, _, _, _, _, _⟩) (v := ?_) rfl (by kernel_rfl) (by kernel_rfl) (by kernel_rfl) (fun _ _ _ h => h) (Or.inl ⟨by rfl, ?_⟩) (by assumption) ?_
                  rotate_left
                  · (intro w hSw; (try dsimp only at hSw); go_simp; try with_reducible rfl)
                  try simp only [Act.put, List.setIfInBounds_toArray, List.set_cons_zero, List.set_cons_succ]
                  refine wpAnyH_take (i := 2) (oi := ⟨some 79, _, _, _, _, _⟩) (v := ?_) rfl (by kernel_rfl) (by kernel_rfl) (by kernel_rfl) (fun _ _ _ h => h) (Or.inl ⟨by rfl, ?_⟩) (by assumption) ?_
                  rotate_left
                  · (intro w hSw; (try dsimp only at hSw); go_simp; try with_reducible rfl)
                  try simp only [Act.put, List.setIfInBounds_toArray, List.set_cons_zero, List.set_cons_succ]
                  refine wpAnyH_take (i := 3) (oi := ⟨some 80, _, _, _, _, _⟩) (v := ?_) rfl (by kernel_rfl) (by kernel_rfl) (by kernel_rfl) (fun _ _ _ h => h) (Or.inl ⟨by rfl, ?_⟩) (by assumption) ?_
                  rotate_left
                  · (intro w hSw; (try dsimp only at hSw); go_simp; try with_reducible rfl)
                  try simp only [Act.put, List.setIfInBounds_toArray, List.set_cons_zero, List.set_cons_succ]
                  refine wpAnyH_take (i := 4) (oi := ⟨some 81, _, _, _, _, _⟩) (v := ?_) rfl (by kernel_rfl) (by kernel_rfl) (by kernel_rfl) (fun _ _ _ h => h) (Or.inl ⟨by rfl, ?_⟩) (by assumption) ?_
                  rotate_left
                  · (intro w hSw; refine Eq.trans (exec_rtb hSw 1 (by rfl) HX.out _ (by rfl) (by rfl)) ?_; with_reducible rfl)
                  try simp only [Act.put, List.setIfInBounds_toArray, List.set_cons_zero, List.set_cons_succ]
                  refine wpAnyH_ready (rs := [5, 9]) (by kernel_rfl) (by simp) ?_
                  refine AllReadyH.cons (o := ⟨some 82, _, _, _, _, _⟩) rfl (fun K hK => ?_) (AllReadyH.cons (o := ⟨some 13, _, _, _, _, _⟩) rfl (fun K hK => ?_) AllReadyH.nil)
                  go_simp
                  go_at_call 13
                  refine (HP.out _).mono ?_; rintro e w5 ⟨rfl, b5⟩; replace HK0 := Lib.hid (HK0.out.call b5); clear b5; have hs := Lib.hid (HK0.out.takeL 2)
                  refine hK.out _ _ hs (fun hHeld => ?_)
                  clear hK K
                  try simp only [ap1, ap2, ap3, ap4, ap5]
                  refine wpAnyH_take (i := 6) (oi := ⟨some 76, _, _, _, _, _⟩) (v := ?_) rfl (by kernel_rfl) (by kernel_rfl) (by kernel_rfl) (fun _ _ _ h => h) (Or.inl ⟨by rfl, ?_⟩) (by assumption) ?_
                  rotate_left
                  · (intro w hSw; (try dsimp only at hSw); go_simp; try with_reducible rfl)
                  try simp only [Act.put, List.setIfInBounds_toArray, List.set_cons_zero, List.set_cons_succ]
                  refine wpAnyH_take (i := 7) (oi := ⟨some 83, _, _, _, _, _⟩) (v := ?_) rfl (by kernel_rfl) (by kernel_rfl) (by kernel_rfl) (fun _ _ _ h => h) (Or.inl ⟨by rfl, ?_⟩) (by assumption) ?_
                  rotate_left
                  · (intro w hSw; (try dsimp only at hSw); go_simp; try with_reducible rfl)
                  try simp only [Act.put, List.setIfInBounds_toArray, List.set_cons_zero, List.set_cons_succ]
                  refine wpAnyH_take (i := 8) (oi := ⟨some 84, _, _, _, _, _⟩) (v := ?_) rfl (by kernel_rfl) (by kernel_rfl) (by kernel_rfl) (fun _ _ _ h => h) (Or.inl ⟨by rfl, ?_⟩) (by assumption) ?_
                  rotate_left
                  · (intro w hSw; (try dsimp only at hSw); go_simp; try with_reducible rfl)
                  try simp only [Act.put, List.setIfInBounds_toArray, List.set_cons_zero, List.set_cons_succ]
                  refine wpAnyH_ready (rs := [9]) (by kernel_rfl) (by simp) ?_
                  refine AllReadyH.cons (o := ⟨some 13, _, _, _, _, _⟩) rfl (fun K hK => ?_) AllReadyH.nil
                  refine step_avo HK0 (by rfl) (by rfl) ?_; clear HK0; intro wq g13 HK0 _; simp only [List.cons_append, List.nil_append] at HK0; have hs := Lib.hid (HK0.out.takeL 2)
                  refine hK.out _ _ hs (fun hHeld => ?_)
                  clear hK K
                  try simp only [ap1, ap2, ap3, ap4, ap5]
                  refine wpAnyH_ready (rs := [10]) (by kernel_rfl) (by simp) ?_
                  refine AllReadyH.cons (o := ⟨none, _, _, _, _, _⟩) rfl (fun K hK => ?_) AllReadyH.nil
                  refine step_svo (x := zvo) (y := ⟨bt, y.a, y.v⟩) HK0 2 (by rfl) _ _ (by rfl) (by rfl) (by rfl) (by rfl) ?_; clear HK0; intro wq HK0; simp only [List.set] at HK0; have hs := Lib.hid (HK0.out.takeL 2)
                  refine hK.out _ _ hs (fun hHeld => ?_)
                  clear hK K
                  try simp only [ap1, ap2, ap3, ap4, ap5]
                  refine wpAnyH_take (i := 11) (oi := ⟨some 14, _, _, _, _, _⟩) (v := ?_) rfl (by kernel_rfl) (by kernel_rfl) (by kernel_rfl) (fun _ _ _ h => h) (Or.inl ⟨by rfl, ?_⟩) (by assumption) ?_
                  rotate_left
                  · (intro w hSw; (try dsimp only at hSw); go_simp; try with_reducible rfl)
                  try simp only [Act.put, List.setIfInBounds_toArray, List.set_cons_zero, List.set_cons_succ]
                  refine wpAnyH_done (by kernel_rfl) ?_ _
                  rotate_left
                  refine step_avo HK0 (by rfl) (by rfl) ?_; clear HK0; intro wq g13 HK0 _; simp only [List.cons_append, List.nil_append] at HK0; have hs := Lib.hid (HK0.out.takeL 2)
                  refine hK.out _ _ hs (fun hHeld => ?_)
                  clear hK K
                  try simp only [ap1, ap2, ap3, ap4, ap5]
                  refine wpAnyH_ready (rs := [5]) (by kernel_rfl) (by simp) ?_
                  refine AllReadyH.cons (o := ⟨some 82, _, _, _, _, _⟩) rfl (fun K hK => ?_) AllReadyH.nil
                  go_simp
                  go_at_call 13
                  refine (HP.out _).mono ?_; rintro e w5 ⟨rfl, b5⟩; replace HK0 := Lib.hid (HK0.out.call b5); clear b5; have hs := Lib.hid (HK0.out.takeL 2)
                  refine hK.out _ _ hs (fun hHeld => ?_)
                  clear hK K
                  try simp only [ap1, ap2, ap3, ap4, ap5]
                  refine wpAnyH_take (i := 6) (oi := ⟨some 76, _, _, _, _, _⟩) (v := ?_) rfl (by kernel_rfl) (by kernel_rfl) (by kernel_rfl) (fun _ _ _ h => h) (Or.inl ⟨by rfl, ?_⟩) (by assumption) ?_
                  rotate_left
                  · (intro w hSw; (try dsimp only at hSw); go_simp; try with_reducible rfl)
                  try simp only [Act.put, List.setIfInBounds_toArray, List.set_cons_zero, List.set_cons_succ]
                  refine wpAnyH_take (i := 7) (oi := ⟨some 83, _, _, _, _, _⟩) (v := ?_) rfl (by kernel_rfl) (by kernel_rfl) (by kernel_rfl) (fun _ _ _ h => h) (Or.inl ⟨by rfl, ?_⟩) (by assumption) ?_
                  rotate_left
                  · (intro w hSw; (try dsimp only at hSw); go_simp; try with_reducible rfl)
                  try simp only [Act.put, List.setIfInBounds_toArray, List.set_cons_zero, List.set_cons_succ]
                  refine wpAnyH_take (i := 8) (oi := ⟨some 84, _, _, _, _, _⟩) (v := ?_) rfl (by kernel_rfl) (by kernel_rfl) (by kernel_rfl) (fun _ _ _ h => h) (Or.inl ⟨by rfl, ?_⟩) (by assumption) ?_
                  rotate_left
                  · (intro w hSw; (try dsimp only at hSw); go_simp; try with_reducible rfl)
                  try simp only [Act.put, List.setIfInBounds_toArray, List.set_cons_zero, List.set_cons_succ]
                  refine wpAnyH_ready (rs := [10]) (by kernel_rfl) (by simp) ?_
                  refine AllReadyH.cons (o := ⟨none, _, _, _, _, _⟩) rfl (fun K hK => ?_) AllReadyH.nil
                  refine step_svo (x := zvo) (y := ⟨bt, y.a, y.v⟩) HK0 2 (by rfl) _ _ (by rfl) (by rfl) (by rfl) (by rfl) ?_; clear HK0; intro wq HK0; simp only [List.set] at HK0; have hs := Lib.hid (HK0.out.takeL 2)
                  refine hK.out _ _ hs (fun hHeld => ?_)
                  clear hK K
                  try simp only [ap1, ap2, ap3, ap4, ap5]
                  refine wpAnyH_take (i := 11) (oi := ⟨some 14, _, _, _, _, _⟩) (v := ?_) rfl (by kernel_rfl) (by kernel_rfl) (by kernel_rfl) (fun _ _ _ h => h) (Or.inl ⟨by rfl, ?_⟩) (by assumption) ?_
                  rotate_left
                  · (intro w hSw; (try dsimp only at hSw); go_simp; try with_reducible rfl)
                  try simp only [Act.put, List.setIfInBounds_toArray, List.set_cons_zero, List.set_cons_succ]
                  refine wpAnyH_done (by kernel_rfl) ?_ _
                  rotate_left
                  all_goals
                    have HK := HK0
                    clear HK0 hHeld HP
                    go_upto_region 18 with (first | refine wpList_exe (kv_v HK 2 _ (by rfl) (by rfl) (by rfl)) (by rfl) ?_ | refine wpList_exe (exec_ixvo (i := k) _ _ (by rfl) (by rfl) (by rfl) hk) (by rfl) ?_ | (refine wpList_put (La := voLay) HK 0 rfl _ _ rfl rfl k (by rw [HVL.out]; exact hk) rfl (⟨bt, y.a, y.v⟩ : Bvo) rfl rfl ?_; intro _ HK'; simp only [List.set] at HK'; replace HK := HK'; clear HK'))
                    have c2 := HK.out.trc (j := 1) rfl HX.out 2 rfl
                    have c5 := HK.out.trc (j := 1) rfl HX.out 5 rfl
                    have c1 := HK.out.boc (j := 2) rfl HSk.out
                    have hk2 : (0 : Int) ≤ (k : Int) := by omega
                    have hk3 : (k : Int) < (N : Int) := by omega
                    go_upto_region 19 with fail
                    clear c1 c2 c5
                    go_wp2_with (first | refine wpList_exe (exec_rtc HK 1 rfl HX.out 2 rfl _ (by rfl) (by rfl) Try.underlying45 rfl) (by rfl) ?_ | refine wpList_exe (exec_ixbo (i := k) _ _ (by rfl) (by rfl) (by rfl) hk) (by rfl) ?_ | (refine wpList_ptb HK 2 rfl _ _ rfl rfl k (by rw [HLs.out]; exact hk) rfl true rfl ?_; intro _ HK'; simp only [List.set] at HK'; replace HK := HK'; clear HK'))
                    have HK0 := Lib.hid HK.out.drew
                    clear HK
                    refine wp_region_held_drew (S := (fun W => Hid (Kn w.heap.size w W [(gm, 42, mvC m), (gw, 29, voA y)] []))) (by kernel_rfl) ?_ (fun hHeld => ?_)
                    · (try dsimp only); exact Lib.hid ((HK0.out.takeL 2).takeR 0)
                    refine wpAnyH_take (i := 0) (oi := ⟨some 113, _, _, _, _, _⟩) (v := ?_) rfl (by kernel_rfl) (by kernel_rfl) (by kernel_rfl) (fun _ _ _ h => h) (Or.inl ⟨by rfl, ?_⟩) (by assumption) ?_
                    rotate_left
                    · (intro w hSw; (try dsimp only at hSw); go_simp; try with_reducible rfl)
                    try simp only [Act.put, List.setIfInBounds_toArray, List.set_cons_zero, List.set_cons_succ]
                    refine wpAnyH_take (i := 1) (oi := ⟨some 114, _, _, _, _, _⟩) (v := ?_) rfl (by kernel_rfl) (by kernel_rfl) (by kernel_rfl) (fun _ _ _ h => h) (Or.inl ⟨by rfl, ?_⟩) (by assumption) ?_
                    rotate_left
                    · (intro w hSw; (try dsimp only at hSw); go_simp; try with_reducible rfl)
                    try simp only [Act.put, List.setIfInBounds_toArray, List.set_cons_zero, List.set_cons_succ]
                    refine wpAnyH_take (i := 2) (oi := ⟨some 115, _, _, _, _, _⟩) (v := ?_) rfl (by kernel_rfl) (by kernel_rfl) (by kernel_rfl) (fun _ _ _ h => h) (Or.inl ⟨by rfl, ?_⟩) (by assumption) ?_
                    rotate_left
                    · (intro w hSw; (try dsimp only at hSw); go_simp; try with_reducible rfl)
                    try simp only [Act.put, List.setIfInBounds_toArray, List.set_cons_zero, List.set_cons_succ]
                    refine wpAnyH_take (i := 3) (oi := ⟨some 116, _, _, _, _, _⟩) (v := ?_) rfl (by kernel_rfl) (by kernel_rfl) (by kernel_rfl) (fun _ _ _ h => h) (Or.inl ⟨by rfl, ?_⟩) (by assumption) ?_
                    rotate_left
                    · (intro w hSw; (try dsimp only at hSw); go_simp; try with_reducible rfl)
                    try simp only [Act.put, List.setIfInBounds_toArray, List.set_cons_zero, List.set_cons_succ]
                    refine wpAnyH_take (i := 5) (oi := ⟨some 118, _, _, _, _, _⟩) (v := ?_) rfl (by kernel_rfl) (by kernel_rfl) (by kernel_rfl) (fun _ _ _ h => h) (Or.inl ⟨by rfl, ?_⟩) (by assumption) ?_
                    rotate_left
                    · (intro w hSw; (try dsimp only at hSw); go_simp; try with_reducible rfl)
                    try simp only [Act.put, List.setIfInBounds_toArray, List.set_cons_zero, List.set_cons_succ]
                    refine wpAnyH_take (i := 6) (oi := ⟨some 119, _, _, _, _, _⟩) (v := ?_) rfl (by kernel_rfl) (by kernel_rfl) (by kernel_rfl) (fun _ _ _ h => h) (Or.inl ⟨by rfl, ?_⟩) (by assumption) ?_
                    rotate_left
                    · (intro w hSw; refine Eq.trans (kv_a hSw 1 _ (by rfl) (by rfl) (by rfl)) ?_; with_reducible rfl)
                    try simp only [Act.put, List.setIfInBounds_toArray, List.set_cons_zero, List.set_cons_succ]
                    refine wpAnyH_take (i := 7) (oi := ⟨some 120, _, _, _, _, _⟩) (v := ?_) rfl (by kernel_rfl) (by kernel_rfl) (by kernel_rfl) (fun _ _ _ h => h) (Or.inl ⟨by rfl, ?_⟩) (by assumption) ?_
                    rotate_left
                    · (intro w hSw; (try dsimp only at hSw); go_simp; try with_reducible rfl)
                    try simp only [Act.put, List.setIfInBounds_toArray, List.set_cons_zero, List.set_cons_succ]
                    refine wpAnyH_take (i := 8) (oi := ⟨some 121, _, _, _, _, _⟩) (v := ?_) rfl (by kernel_rfl) (by kernel_rfl) (by kernel_rfl) (fun _ _ _ h => h) (Or.inl ⟨by rfl, ?_⟩) (by assumption) ?_
                    rotate_left
                    · (intro w hSw; refine Eq.trans (kv_s hSw 1 _ (by rfl) (by rfl) (by rfl)) ?_; with_reducible rfl)
                    try simp only [Act.put, List.setIfInBounds_toArray, List.set_cons_zero, List.set_cons_succ]
                    refine wpAnyH_take (i := 9) (oi := ⟨some 122, _, _, _, _, _⟩) (v := ?_) rfl (by kernel_rfl) (by kernel_rfl) (by kernel_rfl) (fun _ _ _ h => h) (Or.inl ⟨by rfl, ?_⟩) (by assumption) ?_
                    rotate_left
                    · (intro w hSw; (try dsimp only at hSw); go_simp; try with_reducible rfl)
                    try simp only [Act.put, List.setIfInBounds_toArray, List.set_cons_zero, List.set_cons_succ]
                    refine wpAnyH_ready (rs := [4, 10]) (by kernel_rfl) (by simp) ?_
                    refine AllReadyH.cons (o := ⟨some 117, _, _, _, _, _⟩) rfl (fun K hK => ?_) (AllReadyH.cons (o := ⟨some 123, _, _, _, _, _⟩) rfl (fun K hK => ?_) AllReadyH.nil)
                    refine step_of_exec (by rfl) (exec_rtc HK0 1 (by rfl) HX.out 3 (by rfl) _ (by rfl) (by rfl) Try.underlying34 (by rfl)) ?_; have hs := hHeld
                    refine hK.out _ _ hs (fun hHeld => ?_)
                    clear hK K
                    try simp only [ap1, ap2, ap3, ap4, ap5]
                    refine wpAnyH_ready (rs := [10]) (by kernel_rfl) (by simp) ?_
                    refine AllReadyH.cons (o := ⟨some 123, _, _, _, _, _⟩) rfl (fun K hK => ?_) AllReadyH.nil
                    refine step_mk1 pmLay (p := ⟨y.a, y.v⟩) HK0 (by decide) (by rfl) _ (by rfl) (by rfl) (by rfl) ?_; clear HK0; intro wq g3 HK0 _; simp only [List.cons_append] at HK0; have HRd := Lib.hid (HK0.out.mem (La := pmLay) (v := .slice (some ⟨g3, 0, none⟩) 1 1) (l := [⟨y.a, y.v⟩]) (by simp)).rd; have hs := Lib.hid ((HK0.out.takeL 2).takeR 0)
                    refine hK.out _ _ hs (fun hHeld => ?_)
                    clear hK K
                    try simp only [ap1, ap2, ap3, ap4, ap5]
                    refine wpAnyH_ready (rs := [11]) (by kernel_rfl) (by simp) ?_
                    refine AllReadyH.cons (o := ⟨some 124, _, _, _, _, _⟩) rfl (fun K hK => ?_) AllReadyH.nil
                    refine step_more2 pmLay HK0 4 (by rfl) _ _ (by rfl) (by rfl) (by rfl) [⟨y.a, y.v⟩] (by rfl) (by rfl) HRd (grow_ok HL (by show (kp + 1) * 32 ≤ _; omega) (by omega)) (N := kp + 1) HL ?_; clear HK0 HRd; intro A5 c5 wq HK0; simp only [List.set] at HK0; have hs := Lib.hid ((HK0.out.takeL 2).takeR 0)
                    refine hK.out _ _ hs (fun hHeld => ?_)
                    clear hK K
                    try simp only [ap1, ap2, ap3, ap4, ap5]
                    refine wpAnyH_take (i := 12) (oi := ⟨some 125, _, _, _, _, _⟩) (v := ?_) rfl (by kernel_rfl) (by kernel_rfl) (by kernel_rfl) (fun _ _ _ h => h) (Or.inl ⟨by rfl, ?_⟩) (by assumption) ?_
                    rotate_left
                    · (intro w hSw; (try dsimp only at hSw); go_simp; try with_reducible rfl)
                    try simp only [Act.put, List.setIfInBounds_toArray, List.set_cons_zero, List.set_cons_succ]
                    refine wpAnyH_take (i := 13) (oi := ⟨some 126, _, _, _, _, _⟩) (v := ?_) rfl (by kernel_rfl) (by kernel_rfl) (by kernel_rfl) (fun _ _ _ h => h) (Or.inl ⟨by rfl, ?_⟩) (by assumption) ?_
                    rotate_left
                    · (intro w hSw; (try dsimp only at hSw); go_simp; try with_reducible rfl)
                    try simp only [Act.put, List.setIfInBounds_toArray, List.set_cons_zero, List.set_cons_succ]
                    refine wpAnyH_ready (rs := [14]) (by kernel_rfl) (by simp) ?_
                    refine AllReadyH.cons (o := ⟨none, _, _, _, _, _⟩) rfl (fun K hK => ?_) AllReadyH.nil
                    refine step_putF (La := trLay N) HK0 1 (by rfl) 34 _ _ (by rfl) (by rfl) j _ ⟨⟨bt, sd.set k true, pm ++ [⟨y.a, y.v⟩], v, false, ye⟩, g1, g2, A5, kp + 1, c5⟩ HX.out 3 (by show 3 < 7; decide) (by rfl) (by rfl) (by rfl) (by rfl) info_pms (by rfl) ?_; clear HK0; intro wq HK0; simp only [List.set] at HK0; have hs := Lib.hid ((HK0.out.takeL 2).takeR 0)
                    refine hK.out _ _ hs (fun hHeld => ?_)
                    clear hK K
                    try simp only [ap1, ap2, ap3, ap4, ap5]
                    refine wpAnyH_done (by kernel_rfl) ?_ _
                    rotate_left
                    refine step_mk1 pmLay (p := ⟨y.a, y.v⟩) HK0 (by decide) (by rfl) _ (by rfl) (by rfl) (by rfl) ?_; clear HK0; intro wq g3 HK0 _; simp only [List.cons_append] at HK0; have HRd := Lib.hid (HK0.out.mem (La := pmLay) (v := .slice (some ⟨g3, 0, none⟩) 1 1) (l := [⟨y.a, y.v⟩]) (by simp)).rd; have hs := Lib.hid ((HK0.out.takeL 2).takeR 0)
                    refine hK.out _ _ hs (fun hHeld => ?_)
                    clear hK K
                    try simp only [ap1, ap2, ap3, ap4, ap5]
                    refine wpAnyH_ready (rs := [4]) (by kernel_rfl) (by simp) ?_
                    refine AllReadyH.cons (o := ⟨some 117, _, _, _, _, _⟩) rfl (fun K hK => ?_) AllReadyH.nil
                    refine step_of_exec (by rfl) (exec_rtc HK0 1 (by rfl) HX.out 3 (by rfl) _ (by rfl) (by rfl) Try.underlying34 (by rfl)) ?_; have hs := hHeld
                    refine hK.out _ _ hs (fun hHeld => ?_)
                    clear hK K
                    try simp only [ap1, ap2, ap3, ap4, ap5]
                    refine wpAnyH_ready (rs := [11]) (by kernel_rfl) (by simp) ?_
                    refine AllReadyH.cons (o := ⟨some 124, _, _, _, _, _⟩) rfl (fun K hK => ?_) AllReadyH.nil
                    refine step_more2 pmLay HK0 4 (by rfl) _ _ (by rfl) (by rfl) (by rfl) [⟨y.a, y.v⟩] (by rfl) (by rfl) HRd (grow_ok HL (by show (kp + 1) * 32 ≤ _; omega) (by omega)) (N := kp + 1) HL ?_; clear HK0 HRd; intro A5 c5 wq HK0; simp only [List.set] at HK0; have hs := Lib.hid ((HK0.out.takeL 2).takeR 0)
                    refine hK.out _ _ hs (fun hHeld => ?_)
                    clear hK K
                    try simp only [ap1, ap2, ap3, ap4, ap5]
                    refine wpAnyH_take (i := 12) (oi := ⟨some 125, _, _, _, _, _⟩) (v := ?_) rfl (by kernel_rfl) (by kernel_rfl) (by kernel_rfl) (fun _ _ _ h => h) (Or.inl ⟨by rfl, ?_⟩) (by assumption) ?_
                    rotate_left
                    · (intro w hSw; (try dsimp only at hSw); go_simp; try with_reducible rfl)
                    try simp only [Act.put, List.setIfInBounds_toArray, List.set_cons_zero, List.set_cons_succ]
                    refine wpAnyH_take (i := 13) (oi := ⟨some 126, _, _, _, _, _⟩) (v := ?_) rfl (by kernel_rfl) (by kernel_rfl) (by kernel_rfl) (fun _ _ _ h => h) (Or.inl ⟨by rfl, ?_⟩) (by assumption) ?_
                    rotate_left
                    · (intro w hSw; (try dsimp only at hSw); go_simp; try with_reducible rfl)
                    try simp only [Act.put, List.setIfInBounds_toArray, List.set_cons_zero, List.set_cons_succ]
                    refine wpAnyH_ready (rs := [14]) (by kernel_rfl) (by simp) ?_
                    refine AllReadyH.cons (o := ⟨none, _, _, _, _, _⟩) rfl (fun K hK => ?_) AllReadyH.nil
                    refine step_putF (La := trLay N) HK0 1 (by rfl) 34 _ _ (by rfl) (by rfl) j _ ⟨⟨bt, sd.set k true, pm ++ [⟨y.a, y.v⟩], v, false, ye⟩, g1, g2, A5, kp + 1, c5⟩ HX.out 3 (by show 3 < 7; decide) (by rfl) (by rfl) (by rfl) (by rfl) info_pms (by rfl) ?_; clear HK0; intro wq HK0; simp only [List.set] at HK0; have hs := Lib.hid ((HK0.out.takeL 2).takeR 0)
                    refine hK.out _ _ hs (fun hHeld => ?_)
                    clear hK K
                    try simp only [ap1, ap2, ap3, ap4, ap5]
                    refine wpAnyH_done (by kernel_rfl) ?_ _
                    rotate_left
                    all_goals
                      go_wp2_with fail
                      go_meet
                      exact ⟨_, ⟨⟨bt, sd.set k true, pm ++ [⟨y.a, y.v⟩], v, false, ye⟩, g1, g2, A5, kp + 1, c5⟩, ⟨bt, y.a, y.v⟩, Lib.hid (HSt.out.keep HY.out HX.out HOk.out rfl _ _ _), Lib.hid (Blt.bset_at HY.out), Lib.hid HOk.out.2, Lib.hid ((HK0.out.takeL 2).part (X := [_]) (List.Perm.refl _))⟩
      case neg =>
      by_cases hk3 : m.k = 3
      case pos =>
        as_aux_lemma =>
          have k2 : (m.k == 2) = false := by rw [beq_eq_false_iff_ne]; omega
          have k3 : (m.k == 3) = true := by rw [beq_iff_eq]; exact hk3
          have HFb : Hid (Fits bLay bF sd) := Lib.hid ⟨fun _ _ => trivial, by rw [HLs.out]; show N * 1 ≤ _; omega⟩
          have HMo := Lib.hid (fun W h => bmost_any (some ⟨g1, 0, none⟩) N N sd W h)
          clear hk3
          by_cases hms : Blt.most sd
          case neg =>
            as_aux_lemma =>
              rw [decide_eq_false hms] at HMo
              clear hms
              go_upto_region 22 with fail
              have c1 := HK.out.trc (j := 1) rfl HX.out 2 rfl
              have c5 := HK.out.trc (j := 1) rfl HX.out 5 rfl
              go_wp2_with fail
              refine (HMo.out _ (Sls.own (HK.out.own 2 rfl) HFb.out)).mono ?_; rintro e w1 ⟨rfl, rfl⟩
              go_wp2_with fail
              clear c1 c5
              go_meet
              exact ⟨_, ⟨⟨bt, sd, pm, v, has, ye⟩, g1, g2, Ap, kp, cp⟩, y, Lib.hid (by rw [Blt.set_self HX.out]; exact HSt.out.up), HY, Lib.hid (Blt.lt_irr _), Lib.hid (by rw [Blt.set_self HX.out]; exact HK.out.takeL 2)⟩
          case pos =>
          rw [decide_eq_true hms] at HMo
          cases has with
          | true =>
            as_aux_lemma =>
              clear hms
              go_upto_region 22 with fail
              have c1 := HK.out.trc (j := 1) rfl HX.out 2 rfl
              have c5 := HK.out.trc (j := 1) rfl HX.out 5 rfl
              go_wp2_with fail
              refine (HMo.out _ (Sls.own (HK.out.own 2 rfl) HFb.out)).mono ?_; rintro e w1 ⟨rfl, rfl⟩
              go_wp2_with fail
              clear c1 c5
              go_meet
              exact ⟨_, ⟨⟨bt, sd, pm, v, true, ye⟩, g1, g2, Ap, kp, cp⟩, y, Lib.hid (by rw [Blt.set_self HX.out]; exact HSt.out.up), HY, Lib.hid (Blt.lt_irr _), Lib.hid (by rw [Blt.set_self HX.out]; exact HK.out.takeL 2)⟩
          | false =>
            have HMs := Lib.hid hms
            have HPl : Hid (pm.length ≤ i) := Lib.hid (HSt.out.pml _ (List.mem_of_getElem? HX.out))
            have HFp : Hid (Fits pmLay (fun _ => True) pm) := Lib.hid (fits_all pmLay pm (by have := HPl.out; show pm.length * 32 ≤ _; omega))
            have HCo := Lib.hid (fun W h => bchoose_any (Fp := fun _ => True) Ap kp cp pm W h)
            unfold IsSB at HCo
            clear hms
            cases hch : Blt.ch pm with
            | some p0 =>
              as_aux_lemma =>
                rw [hch] at HCo
                simp only [Blt.lo, Option.getD_some, Option.isSome_some] at HCo
                have HCh := Lib.hid hch
                clear hch
                go_upto_region 22 with fail
                have c1 := HK.out.trc (j := 1) rfl HX.out 2 rfl
                have c5 := HK.out.trc (j := 1) rfl HX.out 5 rfl
                go_wp2_with fail
                refine (HMo.out _ (Sls.own (HK.out.own 2 rfl) HFb.out)).mono ?_; rintro e w1 ⟨rfl, rfl⟩
                go_upto_region 23 with fail
                clear c1
                have c1 := HK.out.trc (j := 1) rfl HX.out 3 rfl
                go_wp2_with fail
                refine (HCo.out _ (Sls.own (HK.out.own 4 rfl) HFp.out)).mono ?_; rintro e w1 ⟨rfl, b1⟩
                replace HK := Lib.hid (HK.out.call b1); clear b1
                clear c1 c5
                go_wp2_with (first | (refine wpList_putF (La := trLay N) HK 1 rfl 9 _ _ rfl rfl j _ ⟨⟨bt, sd, pm, p0.v, false, ye⟩, g1, g2, Ap, kp, cp⟩ HX.out 4 (by show 4 < 7; decide) rfl rfl rfl rfl info_str1 rfl ?_; intro _ HK'; simp only [List.set] at HK'; replace HK := HK'; clear HK'; have HX2 := Lib.hid (Blt.bset_at (e := (⟨⟨bt, sd, pm, p0.v, false, ye⟩, g1, g2, Ap, kp, cp⟩ : Trh)) HX.out)) | (refine wpList_putF (La := trLay N) HK 1 rfl 4 _ _ rfl rfl j _ ⟨⟨bt, sd, pm, p0.v, true, ye⟩, g1, g2, Ap, kp, cp⟩ HX2.out 5 (by show 5 < 7; decide) rfl rfl rfl rfl info_bool1 rfl ?_; intro _ HK'; simp only [List.set, List.set_set] at HK'; replace HK := HK'; clear HK'))
                go_meet
                exact ⟨_, ⟨⟨bt, sd, pm, p0.v, true, ye⟩, g1, g2, Ap, kp, cp⟩, y, Lib.hid (HSt.out.take HX.out HMs.out rfl (fun p hp => by rw [HCh.out] at hp; injection hp with hp; rw [hp])).up, HY, Lib.hid (Blt.lt_irr _), Lib.hid (HK.out.takeL 2)⟩
            | none =>
              as_aux_lemma =>
                rw [hch] at HCo
                simp only [Blt.lo, Option.getD_none, Option.isSome_none] at HCo
                have HCh := Lib.hid hch
                obtain ⟨q1, hq1⟩ := u8_of (IntKind.i64.wrap (97 + (kp : Int)))
                obtain ⟨q2, hq2⟩ := u8_of bt.s
                obtain ⟨q3, hq3⟩ := u8_of bt.r
                clear hch
                go_upto_region 22 with fail
                have c1 := HK.out.trc (j := 1) rfl HX.out 2 rfl
                have c5 := HK.out.trc (j := 1) rfl HX.out 5 rfl
                go_wp2_with fail
                refine (HMo.out _ (Sls.own (HK.out.own 2 rfl) HFb.out)).mono ?_; rintro e w1 ⟨rfl, rfl⟩
                go_upto_region 23 with fail
                clear c1
                have c1 := HK.out.trc (j := 1) rfl HX.out 3 rfl
                go_wp2_with fail
                refine (HCo.out _ (Sls.own (HK.out.own 4 rfl) HFp.out)).mono ?_; rintro e w1 ⟨rfl, b1⟩
                replace HK := Lib.hid (HK.out.call b1); clear b1
                clear c1 c5
                go_wp2_with fail
                have HK0 := Lib.hid HK.out.drew
                clear HK
                refine wp_region_held_drew (S := (fun W => Hid (Kn w.heap.size w W [(gm, 42, mvC m), (gw, 29, voA y)] (row voLay (.slice (some ⟨g0, 0, none⟩) N N) vs :: row (trLay N) (.slice (some ⟨gT, 0, none⟩) nt2 ct2) F2 :: row bLay (.slice (some ⟨g1, 0, none⟩) N N) sd :: row bLay (.slice (some ⟨g2, 0, none⟩) N N) ye :: row pmLay (.slice Ap kp cp) pm :: O)))) (by kernel_rfl) ?_ (fun hHeld => ?_)
                · (try dsimp only); exact HK0
                refine wpAnyH_take (i := 0) (oi := ⟨some 151, _, _, _, _, _⟩) (v := ?_) rfl (by kernel_rfl) (by kernel_rfl) (by kernel_rfl) (fun _ _ _ h => h) (Or.inl ⟨by rfl, ?_⟩) (by assumption) ?_
                rotate_left
                · (intro w hSw; (try dsimp only at hSw); go_simp; try with_reducible rfl)
                try simp only [Act.put, List.setIfInBounds_toArray, List.set_cons_zero, List.set_cons_succ]
                refine wpAnyH_take (i := 1) (oi := ⟨some 152, _, _, _, _, _⟩) (v := ?_) rfl (by kernel_rfl) (by kernel_rfl) (by kernel_rfl) (fun _ _ _ h => h) (Or.inl ⟨by rfl, ?_⟩) (by assumption) ?_
                rotate_left
                · (intro w hSw; (try dsimp only at hSw); go_simp; try with_reducible rfl)
                try simp only [Act.put, List.setIfInBounds_toArray, List.set_cons_zero, List.set_cons_succ]
                refine wpAnyH_take (i := 2) (oi := ⟨some 153, _, _, _, _, _⟩) (v := ?_) rfl (by kernel_rfl) (by kernel_rfl) (by kernel_rfl) (fun _ _ _ h => h) (Or.inl ⟨by rfl, ?_⟩) (by assumption) ?_
                rotate_left
                · (intro w hSw; (try dsimp only at hSw); go_simp; try with_reducible rfl)
                try simp only [Act.put, List.setIfInBounds_toArray, List.set_cons_zero, List.set_cons_succ]
                refine wpAnyH_take (i := 3) (oi := ⟨some 154, _, _, _, _, _⟩) (v := ?_) rfl (by kernel_rfl) (by kernel_rfl) (by kernel_rfl) (fun _ _ _ h => h) (Or.inl ⟨by rfl, ?_⟩) (by assumption) ?_
                rotate_left
                · (intro w hSw; refine Eq.trans (exec_rtc hSw 1 (by rfl) HX.out 3 (by rfl) _ (by rfl) (by rfl) Try.underlying34 (by rfl)) ?_; with_reducible rfl)
                try simp only [Act.put, List.setIfInBounds_toArray, List.set_cons_zero, List.set_cons_succ]
                refine wpAnyH_take (i := 4) (oi := ⟨some 155, _, _, _, _, _⟩) (v := ?_) rfl (by kernel_rfl) (by kernel_rfl) (by kernel_rfl) (fun _ _ _ h => h) (Or.inl ⟨by rfl, ?_⟩) (by assumption) ?_
                rotate_left
                · (intro w hSw; (try dsimp only at hSw); go_simp; try with_reducible rfl)
                try simp only [Act.put, List.setIfInBounds_toArray, List.set_cons_zero, List.set_cons_succ]
                refine wpAnyH_take (i := 5) (oi := ⟨some 156, _, _, _, _, _⟩) (v := ?_) rfl (by kernel_rfl) (by kernel_rfl) (by kernel_rfl) (fun _ _ _ h => h) (Or.inl ⟨by rfl, ?_⟩) (by assumption) ?_
                rotate_left
                · (intro w hSw; (try dsimp only at hSw); go_simp; try with_reducible rfl)
                try simp only [Act.put, List.setIfInBounds_toArray, List.set_cons_zero, List.set_cons_succ]
                refine wpAnyH_take (i := 6) (oi := ⟨some 157, _, _, _, _, _⟩) (v := ?_) rfl (by kernel_rfl) (by kernel_rfl) (by kernel_rfl) (fun _ _ _ h => h) (Or.inl ⟨by rfl, ?_⟩) (by assumption) ?_
                rotate_left
                · (intro w hSw; refine Eq.trans (exec_iub (x := IntKind.i64.wrap (97 + (kp : Int))) (c := q1) _ (by rfl) (by rfl) hq1) ?_; with_reducible rfl)
                try simp only [Act.put, List.setIfInBounds_toArray, List.set_cons_zero, List.set_cons_succ]
                refine wpAnyH_take (i := 7) (oi := ⟨some 158, _, _, _, _, _⟩) (v := ?_) rfl (by kernel_rfl) (by kernel_rfl) (by kernel_rfl) (fun _ _ _ h => h) (Or.inl ⟨by rfl, ?_⟩) (by assumption) ?_
                rotate_left
                · (intro w hSw; (try dsimp only at hSw); go_simp; try with_reducible rfl)
                try simp only [Act.put, List.setIfInBounds_toArray, List.set_cons_zero, List.set_cons_succ]
                refine wpAnyH_take (i := 8) (oi := ⟨some 159, _, _, _, _, _⟩) (v := ?_) rfl (by kernel_rfl) (by kernel_rfl) (by kernel_rfl) (fun _ _ _ h => h) (Or.inl ⟨by rfl, ?_⟩) (by assumption) ?_
                rotate_left
                · (intro w hSw; (try dsimp only at hSw); go_simp; try with_reducible rfl)
                try simp only [Act.put, List.setIfInBounds_toArray, List.set_cons_zero, List.set_cons_succ]
                refine wpAnyH_take (i := 9) (oi := ⟨some 160, _, _, _, _, _⟩) (v := ?_) rfl (by kernel_rfl) (by kernel_rfl) (by kernel_rfl) (fun _ _ _ h => h) (Or.inl ⟨by rfl, ?_⟩) (by assumption) ?_
                rotate_left
                · (intro w hSw; (try dsimp only at hSw); go_simp; try with_reducible rfl)
                try simp only [Act.put, List.setIfInBounds_toArray, List.set_cons_zero, List.set_cons_succ]
                refine wpAnyH_take (i := 10) (oi := ⟨some 161, _, _, _, _, _⟩) (v := ?_) rfl (by kernel_rfl) (by kernel_rfl) (by kernel_rfl) (fun _ _ _ h => h) (Or.inl ⟨by rfl, ?_⟩) (by assumption) ?_
                rotate_left
                · (intro w hSw; (try dsimp only at hSw); go_simp; try with_reducible rfl)
                try simp only [Act.put, List.setIfInBounds_toArray, List.set_cons_zero, List.set_cons_succ]
                refine wpAnyH_take (i := 11) (oi := ⟨some 162, _, _, _, _, _⟩) (v := ?_) rfl (by kernel_rfl) (by kernel_rfl) (by kernel_rfl) (fun _ _ _ h => h) (Or.inl ⟨by rfl, ?_⟩) (by assumption) ?_
                rotate_left
                · (intro w hSw; refine Eq.trans (exec_rtc hSw 1 (by rfl) HX.out 1 (by rfl) _ (by rfl) (by rfl) Try.underlying3 (by rfl)) ?_; with_reducible rfl)
                try simp only [Act.put, List.setIfInBounds_toArray, List.set_cons_zero, List.set_cons_succ]
                refine wpAnyH_take (i := 12) (oi := ⟨some 163, _, _, _, _, _⟩) (v := ?_) rfl (by kernel_rfl) (by kernel_rfl) (by kernel_rfl) (fun _ _ _ h => h) (Or.inl ⟨by rfl, ?_⟩) (by assumption) ?_
                rotate_left
                · (intro w hSw; refine Eq.trans (exec_iub (x := bt.s) (c := q2) _ (by rfl) (by rfl) hq2) ?_; with_reducible rfl)
                try simp only [Act.put, List.setIfInBounds_toArray, List.set_cons_zero, List.set_cons_succ]
                refine wpAnyH_take (i := 13) (oi := ⟨some 164, _, _, _, _, _⟩) (v := ?_) rfl (by kernel_rfl) (by kernel_rfl) (by kernel_rfl) (fun _ _ _ h => h) (Or.inl ⟨by rfl, ?_⟩) (by assumption) ?_
                rotate_left
                · (intro w hSw; (try dsimp only at hSw); go_simp; try with_reducible rfl)
                try simp only [Act.put, List.setIfInBounds_toArray, List.set_cons_zero, List.set_cons_succ]
                refine wpAnyH_take (i := 14) (oi := ⟨some 165, _, _, _, _, _⟩) (v := ?_) rfl (by kernel_rfl) (by kernel_rfl) (by kernel_rfl) (fun _ _ _ h => h) (Or.inl ⟨by rfl, ?_⟩) (by assumption) ?_
                rotate_left
                · (intro w hSw; (try dsimp only at hSw); go_simp; try with_reducible rfl)
                try simp only [Act.put, List.setIfInBounds_toArray, List.set_cons_zero, List.set_cons_succ]
                refine wpAnyH_take (i := 15) (oi := ⟨some 166, _, _, _, _, _⟩) (v := ?_) rfl (by kernel_rfl) (by kernel_rfl) (by kernel_rfl) (fun _ _ _ h => h) (Or.inl ⟨by rfl, ?_⟩) (by assumption) ?_
                rotate_left
                · (intro w hSw; (try dsimp only at hSw); go_simp; try with_reducible rfl)
                try simp only [Act.put, List.setIfInBounds_toArray, List.set_cons_zero, List.set_cons_succ]
                refine wpAnyH_take (i := 16) (oi := ⟨some 167, _, _, _, _, _⟩) (v := ?_) rfl (by kernel_rfl) (by kernel_rfl) (by kernel_rfl) (fun _ _ _ h => h) (Or.inl ⟨by rfl, ?_⟩) (by assumption) ?_
                rotate_left
                · (intro w hSw; (try dsimp only at hSw); go_simp; try with_reducible rfl)
                try simp only [Act.put, List.setIfInBounds_toArray, List.set_cons_zero, List.set_cons_succ]
                refine wpAnyH_take (i := 17) (oi := ⟨some 168, _, _, _, _, _⟩) (v := ?_) rfl (by kernel_rfl) (by kernel_rfl) (by kernel_rfl) (fun _ _ _ h => h) (Or.inl ⟨by rfl, ?_⟩) (by assumption) ?_
                rotate_left
                · (intro w hSw; refine Eq.trans (exec_rtc hSw 1 (by rfl) HX.out 0 (by rfl) _ (by rfl) (by rfl) Try.underlying3 (by rfl)) ?_; with_reducible rfl)
                try simp only [Act.put, List.setIfInBounds_toArray, List.set_cons_zero, List.set_cons_succ]
                refine wpAnyH_take (i := 18) (oi := ⟨some 169, _, _, _, _, _⟩) (v := ?_) rfl (by kernel_rfl) (by kernel_rfl) (by kernel_rfl) (fun _ _ _ h => h) (Or.inl ⟨by rfl, ?_⟩) (by assumption) ?_
                rotate_left
                · (intro w hSw; refine Eq.trans (exec_iub (x := bt.r) (c := q3) _ (by rfl) (by rfl) hq3) ?_; with_reducible rfl)
                try simp only [Act.put, List.setIfInBounds_toArray, List.set_cons_zero, List.set_cons_succ]
                refine wpAnyH_ready (rs := [19]) (by kernel_rfl) (by simp) ?_
                refine AllReadyH.cons (o := ⟨some 170, _, _, _, _, _⟩) rfl (fun K hK => ?_) AllReadyH.nil
                refine step_by3 (c1 := q1) (c2 := q2) (c3 := q3) HK0 (by rfl) _ _ _ (by rfl) (by rfl) (by rfl) (by rfl) ?_; clear HK0; intro wq g3 HK0 HCv; have hs := HK0
                refine hK.out _ _ hs (fun hHeld => ?_)
                clear hK K
                try simp only [ap1, ap2, ap3, ap4, ap5]
                refine wpAnyH_ready (rs := [20]) (by kernel_rfl) (by simp) ?_
                refine AllReadyH.cons (o := ⟨some 171, _, _, _, _, _⟩) rfl (fun K hK => ?_) AllReadyH.nil
                refine step_of_exec (by rfl) (exec_txtb _ (by rfl) (by rfl) HCv) ?_; have hs := hHeld
                refine hK.out _ _ hs (fun hHeld => ?_)
                clear hK K
                try simp only [ap1, ap2, ap3, ap4, ap5]
                refine wpAnyH_take (i := 21) (oi := ⟨some 15, _, _, _, _, _⟩) (v := ?_) rfl (by kernel_rfl) (by kernel_rfl) (by kernel_rfl) (fun _ _ _ h => h) (Or.inl ⟨by rfl, ?_⟩) (by assumption) ?_
                rotate_left
                · (intro w hSw; (try dsimp only at hSw); go_simp; try with_reducible rfl)
                try simp only [Act.put, List.setIfInBounds_toArray, List.set_cons_zero, List.set_cons_succ]
                refine wpAnyH_done (by kernel_rfl) ?_ _
                all_goals
                  have HK := HK0
                  clear HK0 hHeld
                  go_wp2_with (first | (refine wpList_putF (La := trLay N) HK 1 rfl 9 _ _ rfl rfl j _ ⟨⟨bt, sd, pm, ⟨#[q1, q2, q3]⟩, false, ye⟩, g1, g2, Ap, kp, cp⟩ HX.out 4 (by show 4 < 7; decide) rfl rfl rfl rfl info_str1 rfl ?_; intro _ HK'; simp only [List.set] at HK'; replace HK := HK'; clear HK'; have HX2 := Lib.hid (Blt.bset_at (e := (⟨⟨bt, sd, pm, ⟨#[q1, q2, q3]⟩, false, ye⟩, g1, g2, Ap, kp, cp⟩ : Trh)) HX.out)) | (refine wpList_putF (La := trLay N) HK 1 rfl 4 _ _ rfl rfl j _ ⟨⟨bt, sd, pm, ⟨#[q1, q2, q3]⟩, true, ye⟩, g1, g2, Ap, kp, cp⟩ HX2.out 5 (by show 5 < 7; decide) rfl rfl rfl rfl info_bool1 rfl ?_; intro _ HK'; simp only [List.set, List.set_set] at HK'; replace HK := HK'; clear HK'))
                  go_meet
                  exact ⟨_, ⟨⟨bt, sd, pm, ⟨#[q1, q2, q3]⟩, true, ye⟩, g1, g2, Ap, kp, cp⟩, y, Lib.hid (HSt.out.take HX.out HMs.out rfl (fun p hp => by rw [HCh.out] at hp; cases hp)).up, HY, Lib.hid (Blt.lt_irr _), Lib.hid (HK.out.takeL 2)⟩
      case neg =>
      by_cases hk4 : m.k = 4
      case pos =>
        as_aux_lemma =>
          have k2 : (m.k == 2) = false := by rw [beq_eq_false_iff_ne]; omega
          have k3 : (m.k == 3) = false := by rw [beq_eq_false_iff_ne]; omega
          have k4 : (m.k == 4) = true := by rw [beq_iff_eq]; exact hk4
          have HP := Lib.hid (fun W => b20cacc_any y bt v W)
          unfold IsVB at HP
          clear hk4 hk2 hk3
          cases has with
          | false =>
            as_aux_lemma =>
              go_wp2_with (first | refine wpList_exe (exec_rtc HK 1 rfl HX.out 5 rfl _ (by rfl) (by rfl) Try.underlying4 rfl) (by rfl) ?_)
              go_meet
              exact ⟨_, ⟨⟨bt, sd, pm, v, false, ye⟩, g1, g2, Ap, kp, cp⟩, y, Lib.hid (by rw [Blt.set_self HX.out]; exact HSt.out.up), HY, Lib.hid (Blt.lt_irr _), Lib.hid (by rw [Blt.set_self HX.out]; exact HK.out.takeL 2)⟩
          | true =>
            obtain ⟨yk, hyk⟩ := Lay.get_of (l := ye) (k := k) (by rw [HLy.out]; exact hk)
            have HYk := Lib.hid hyk
            clear hyk
            by_cases hok : Blt.ok y bt
            case neg =>
              cases yk with
              | true =>
                as_aux_lemma =>
                  rw [show Blt.ac y bt v = y from if_neg hok, decide_eq_false hok] at HP
                  clear hok
                  go_upto_region 29 with (first | refine wpList_exe (exec_rtc HK 1 rfl HX.out 5 rfl _ (by rfl) (by rfl) Try.underlying4 rfl) (by rfl) ?_)
                  have HK0 := Lib.hid HK.out.drew
                  clear HK
                  refine wp_region_held_drew (S := (fun W => Hid (Kn w.heap.size w W [(gm, 42, mvC m), (gw, 29, voA y)] (row voLay (.slice (some ⟨g0, 0, none⟩) N N) vs :: row (trLay N) (.slice (some ⟨gT, 0, none⟩) nt2 ct2) F2 :: row bLay (.slice (some ⟨g1, 0, none⟩) N N) sd :: row bLay (.slice (some ⟨g2, 0, none⟩) N N) ye :: row pmLay (.slice Ap kp cp) pm :: O)))) (by kernel_rfl) ?_ (fun hHeld => ?_)
                  · (try dsimp only); exact HK0
                  refine wpAnyH_take (i := 0) (oi := ⟨some 186, _, _, _, _, _⟩) (v := ?_) rfl (by kernel_rfl) (by kernel_rfl) (by kernel_rfl) (fun _ _ _ h => h) (Or.inl ⟨by rfl, ?_⟩) (by assumption) ?_
                  rotate_left
                  · (intro w hSw; refine Eq.trans (kv_v hSw 1 _ (by rfl) (by rfl) (by rfl)) ?_; with_reducible rfl)
                  try simp only [Act.put, List.setIfInBounds_toArray, List.set_cons_zero, List.set_cons_succ]
                  refine wpAnyH_take (i := 1) (oi := ⟨some 187, _, _, _, _, _⟩) (v := ?_) rfl (by kernel_rfl) (by kernel_rfl) (by kernel_rfl) (fun _ _ _ h => h) (Or.inl ⟨by rfl, ?_⟩) (by assumption) ?_
                  rotate_left
                  · (intro w hSw; (try dsimp only at hSw); go_simp; try with_reducible rfl)
                  try simp only [Act.put, List.setIfInBounds_toArray, List.set_cons_zero, List.set_cons_succ]
                  refine wpAnyH_take (i := 2) (oi := ⟨some 188, _, _, _, _, _⟩) (v := ?_) rfl (by kernel_rfl) (by kernel_rfl) (by kernel_rfl) (fun _ _ _ h => h) (Or.inl ⟨by rfl, ?_⟩) (by assumption) ?_
                  rotate_left
                  · (intro w hSw; (try dsimp only at hSw); go_simp; try with_reducible rfl)
                  try simp only [Act.put, List.setIfInBounds_toArray, List.set_cons_zero, List.set_cons_succ]
                  refine wpAnyH_take (i := 3) (oi := ⟨some 189, _, _, _, _, _⟩) (v := ?_) rfl (by kernel_rfl) (by kernel_rfl) (by kernel_rfl) (fun _ _ _ h => h) (Or.inl ⟨by rfl, ?_⟩) (by assumption) ?_
                  rotate_left
                  · (intro w hSw; (try dsimp only at hSw); go_simp; try with_reducible rfl)
                  try simp only [Act.put, List.setIfInBounds_toArray, List.set_cons_zero, List.set_cons_succ]
                  refine wpAnyH_take (i := 4) (oi := ⟨some 190, _, _, _, _, _⟩) (v := ?_) rfl (by kernel_rfl) (by kernel_rfl) (by kernel_rfl) (fun _ _ _ h => h) (Or.inl ⟨by rfl, ?_⟩) (by assumption) ?_
                  rotate_left
                  · (intro w hSw; refine Eq.trans (exec_rtb hSw 1 (by rfl) HX.out _ (by rfl) (by rfl)) ?_; with_reducible rfl)
                  try simp only [Act.put, List.setIfInBounds_toArray, List.set_cons_zero, List.set_cons_succ]
                  refine wpAnyH_take (i := 5) (oi := ⟨some 191, _, _, _, _, _⟩) (v := ?_) rfl (by kernel_rfl) (by kernel_rfl) (by kernel_rfl) (fun _ _ _ h => h) (Or.inl ⟨by rfl, ?_⟩) (by assumption) ?_
                  rotate_left
                  · (intro w hSw; (try dsimp only at hSw); go_simp; try with_reducible rfl)
                  try simp only [Act.put, List.setIfInBounds_toArray, List.set_cons_zero, List.set_cons_succ]
                  refine wpAnyH_take (i := 6) (oi := ⟨some 192, _, _, _, _, _⟩) (v := ?_) rfl (by kernel_rfl) (by kernel_rfl) (by kernel_rfl) (fun _ _ _ h => h) (Or.inl ⟨by rfl, ?_⟩) (by assumption) ?_
                  rotate_left
                  · (intro w hSw; (try dsimp only at hSw); go_simp; try with_reducible rfl)
                  try simp only [Act.put, List.setIfInBounds_toArray, List.set_cons_zero, List.set_cons_succ]
                  refine wpAnyH_take (i := 7) (oi := ⟨some 193, _, _, _, _, _⟩) (v := ?_) rfl (by kernel_rfl) (by kernel_rfl) (by kernel_rfl) (fun _ _ _ h => h) (Or.inl ⟨by rfl, ?_⟩) (by assumption) ?_
                  rotate_left
                  · (intro w hSw; (try dsimp only at hSw); go_simp; try with_reducible rfl)
                  try simp only [Act.put, List.setIfInBounds_toArray, List.set_cons_zero, List.set_cons_succ]
                  refine wpAnyH_take (i := 8) (oi := ⟨some 194, _, _, _, _, _⟩) (v := ?_) rfl (by kernel_rfl) (by kernel_rfl) (by kernel_rfl) (fun _ _ _ h => h) (Or.inl ⟨by rfl, ?_⟩) (by assumption) ?_
                  rotate_left
                  · (intro w hSw; refine Eq.trans (exec_rtc hSw 1 (by rfl) HX.out 4 (by rfl) _ (by rfl) (by rfl) Try.underlying9 (by rfl)) ?_; with_reducible rfl)
                  try simp only [Act.put, List.setIfInBounds_toArray, List.set_cons_zero, List.set_cons_succ]
                  refine wpAnyH_ready (rs := [9, 13]) (by kernel_rfl) (by simp) ?_
                  refine AllReadyH.cons (o := ⟨some 195, _, _, _, _, _⟩) rfl (fun K hK => ?_) (AllReadyH.cons (o := ⟨some 17, _, _, _, _, _⟩) rfl (fun K hK => ?_) AllReadyH.nil)
                  go_simp
                  go_at_call 15
                  refine (HP.out _).mono ?_; rintro e w5 ⟨rfl, b5⟩; replace HK0 := Lib.hid (HK0.out.call b5); clear b5; have hs := Lib.hid (HK0.out.takeL 2)
                  refine hK.out _ _ hs (fun hHeld => ?_)
                  clear hK K
                  try simp only [ap1, ap2, ap3, ap4, ap5]
                  refine wpAnyH_take (i := 10) (oi := ⟨some 185, _, _, _, _, _⟩) (v := ?_) rfl (by kernel_rfl) (by kernel_rfl) (by kernel_rfl) (fun _ _ _ h => h) (Or.inl ⟨by rfl, ?_⟩) (by assumption) ?_
                  rotate_left
                  · (intro w hSw; (try dsimp only at hSw); go_simp; try with_reducible rfl)
                  try simp only [Act.put, List.setIfInBounds_toArray, List.set_cons_zero, List.set_cons_succ]
                  refine wpAnyH_take (i := 11) (oi := ⟨some 196, _, _, _, _, _⟩) (v := ?_) rfl (by kernel_rfl) (by kernel_rfl) (by kernel_rfl) (fun _ _ _ h => h) (Or.inl ⟨by rfl, ?_⟩) (by assumption) ?_
                  rotate_left
                  · (intro w hSw; (try dsimp only at hSw); go_simp; try with_reducible rfl)
                  try simp only [Act.put, List.setIfInBounds_toArray, List.set_cons_zero, List.set_cons_succ]
                  refine wpAnyH_take (i := 12) (oi := ⟨some 197, _, _, _, _, _⟩) (v := ?_) rfl (by kernel_rfl) (by kernel_rfl) (by kernel_rfl) (fun _ _ _ h => h) (Or.inl ⟨by rfl, ?_⟩) (by assumption) ?_
                  rotate_left
                  · (intro w hSw; (try dsimp only at hSw); go_simp; try with_reducible rfl)
                  try simp only [Act.put, List.setIfInBounds_toArray, List.set_cons_zero, List.set_cons_succ]
                  refine wpAnyH_ready (rs := [13]) (by kernel_rfl) (by simp) ?_
                  refine AllReadyH.cons (o := ⟨some 17, _, _, _, _, _⟩) rfl (fun K hK => ?_) AllReadyH.nil
                  refine step_avo HK0 (by rfl) (by rfl) ?_; clear HK0; intro wq g13 HK0 _; simp only [List.cons_append, List.nil_append] at HK0; have hs := Lib.hid (HK0.out.takeL 2)
                  refine hK.out _ _ hs (fun hHeld => ?_)
                  clear hK K
                  try simp only [ap1, ap2, ap3, ap4, ap5]
                  refine wpAnyH_ready (rs := [14]) (by kernel_rfl) (by simp) ?_
                  refine AllReadyH.cons (o := ⟨none, _, _, _, _, _⟩) rfl (fun K hK => ?_) AllReadyH.nil
                  refine step_svo (x := zvo) (y := y) HK0 2 (by rfl) _ _ (by rfl) (by rfl) (by rfl) (by rfl) ?_; clear HK0; intro wq HK0; simp only [List.set] at HK0; have hs := Lib.hid (HK0.out.takeL 2)
                  refine hK.out _ _ hs (fun hHeld => ?_)
                  clear hK K
                  try simp only [ap1, ap2, ap3, ap4, ap5]
                  refine wpAnyH_take (i := 15) (oi := ⟨some 18, _, _, _, _, _⟩) (v := ?_) rfl (by kernel_rfl) (by kernel_rfl) (by kernel_rfl) (fun _ _ _ h => h) (Or.inl ⟨by rfl, ?_⟩) (by assumption) ?_
                  rotate_left
                  · (intro w hSw; (try dsimp only at hSw); go_simp; try with_reducible rfl)
                  try simp only [Act.put, List.setIfInBounds_toArray, List.set_cons_zero, List.set_cons_succ]
                  refine wpAnyH_done (by kernel_rfl) ?_ _
                  rotate_left
                  refine step_avo HK0 (by rfl) (by rfl) ?_; clear HK0; intro wq g13 HK0 _; simp only [List.cons_append, List.nil_append] at HK0; have hs := Lib.hid (HK0.out.takeL 2)
                  refine hK.out _ _ hs (fun hHeld => ?_)
                  clear hK K
                  try simp only [ap1, ap2, ap3, ap4, ap5]
                  refine wpAnyH_ready (rs := [9]) (by kernel_rfl) (by simp) ?_
                  refine AllReadyH.cons (o := ⟨some 195, _, _, _, _, _⟩) rfl (fun K hK => ?_) AllReadyH.nil
                  go_simp
                  go_at_call 15
                  refine (HP.out _).mono ?_; rintro e w5 ⟨rfl, b5⟩; replace HK0 := Lib.hid (HK0.out.call b5); clear b5; have hs := Lib.hid (HK0.out.takeL 2)
                  refine hK.out _ _ hs (fun hHeld => ?_)
                  clear hK K
                  try simp only [ap1, ap2, ap3, ap4, ap5]
                  refine wpAnyH_take (i := 10) (oi := ⟨some 185, _, _, _, _, _⟩) (v := ?_) rfl (by kernel_rfl) (by kernel_rfl) (by kernel_rfl) (fun _ _ _ h => h) (Or.inl ⟨by rfl, ?_⟩) (by assumption) ?_
                  rotate_left
                  · (intro w hSw; (try dsimp only at hSw); go_simp; try with_reducible rfl)
                  try simp only [Act.put, List.setIfInBounds_toArray, List.set_cons_zero, List.set_cons_succ]
                  refine wpAnyH_take (i := 11) (oi := ⟨some 196, _, _, _, _, _⟩) (v := ?_) rfl (by kernel_rfl) (by kernel_rfl) (by kernel_rfl) (fun _ _ _ h => h) (Or.inl ⟨by rfl, ?_⟩) (by assumption) ?_
                  rotate_left
                  · (intro w hSw; (try dsimp only at hSw); go_simp; try with_reducible rfl)
                  try simp only [Act.put, List.setIfInBounds_toArray, List.set_cons_zero, List.set_cons_succ]
                  refine wpAnyH_take (i := 12) (oi := ⟨some 197, _, _, _, _, _⟩) (v := ?_) rfl (by kernel_rfl) (by kernel_rfl) (by kernel_rfl) (fun _ _ _ h => h) (Or.inl ⟨by rfl, ?_⟩) (by assumption) ?_
                  rotate_left
                  · (intro w hSw; (try dsimp only at hSw); go_simp; try with_reducible rfl)
                  try simp only [Act.put, List.setIfInBounds_toArray, List.set_cons_zero, List.set_cons_succ]
                  refine wpAnyH_ready (rs := [14]) (by kernel_rfl) (by simp) ?_
                  refine AllReadyH.cons (o := ⟨none, _, _, _, _, _⟩) rfl (fun K hK => ?_) AllReadyH.nil
                  refine step_svo (x := zvo) (y := y) HK0 2 (by rfl) _ _ (by rfl) (by rfl) (by rfl) (by rfl) ?_; clear HK0; intro wq HK0; simp only [List.set] at HK0; have hs := Lib.hid (HK0.out.takeL 2)
                  refine hK.out _ _ hs (fun hHeld => ?_)
                  clear hK K
                  try simp only [ap1, ap2, ap3, ap4, ap5]
                  refine wpAnyH_take (i := 15) (oi := ⟨some 18, _, _, _, _, _⟩) (v := ?_) rfl (by kernel_rfl) (by kernel_rfl) (by kernel_rfl) (fun _ _ _ h => h) (Or.inl ⟨by rfl, ?_⟩) (by assumption) ?_
                  rotate_left
                  · (intro w hSw; (try dsimp only at hSw); go_simp; try with_reducible rfl)
                  try simp only [Act.put, List.setIfInBounds_toArray, List.set_cons_zero, List.set_cons_succ]
                  refine wpAnyH_done (by kernel_rfl) ?_ _
                  rotate_left
                  all_goals
                    have HK := HK0
                    clear HK0 hHeld HP
                    go_upto_region 31 with (first | refine wpList_exe (kv_v HK 2 _ (by rfl) (by rfl) (by rfl)) (by rfl) ?_ | refine wpList_exe (exec_ixvo (i := k) _ _ (by rfl) (by rfl) (by rfl) hk) (by rfl) ?_ | (refine wpList_put (La := voLay) HK 0 rfl _ _ rfl rfl k (by rw [HVL.out]; exact hk) rfl (y : Bvo) rfl rfl ?_; intro _ HK'; simp only [List.set] at HK'; replace HK := HK'; clear HK'))
                    have HK0 := Lib.hid HK.out.drew
                    clear HK
                    refine wp_region_held_drew (S := (fun W => Hid (Kn w.heap.size w W [(gm, 42, mvC m), (gw, 29, voA y)] [row voLay (.slice (some ⟨g0, 0, none⟩) N N) (vs.set k y), row (trLay N) (.slice (some ⟨gT, 0, none⟩) nt2 ct2) F2]))) (by kernel_rfl) ?_ (fun hHeld => ?_)
                    · (try dsimp only); exact Lib.hid ((HK0.out.takeL 2).takeR 2)
                    refine wpAnyH_take (i := 0) (oi := ⟨some 202, _, _, _, _, _⟩) (v := ?_) rfl (by kernel_rfl) (by kernel_rfl) (by kernel_rfl) (fun _ _ _ h => h) (Or.inl ⟨by rfl, ?_⟩) (by assumption) ?_
                    rotate_left
                    · (intro w hSw; (try dsimp only at hSw); go_simp; try with_reducible rfl)
                    try simp only [Act.put, List.setIfInBounds_toArray, List.set_cons_zero, List.set_cons_succ]
                    refine wpAnyH_take (i := 1) (oi := ⟨some 203, _, _, _, _, _⟩) (v := ?_) rfl (by kernel_rfl) (by kernel_rfl) (by kernel_rfl) (fun _ _ _ h => h) (Or.inl ⟨by rfl, ?_⟩) (by assumption) ?_
                    rotate_left
                    · (intro w hSw; (try dsimp only at hSw); go_simp; try with_reducible rfl)
                    try simp only [Act.put, List.setIfInBounds_toArray, List.set_cons_zero, List.set_cons_succ]
                    refine wpAnyH_take (i := 2) (oi := ⟨some 204, _, _, _, _, _⟩) (v := ?_) rfl (by kernel_rfl) (by kernel_rfl) (by kernel_rfl) (fun _ _ _ h => h) (Or.inl ⟨by rfl, ?_⟩) (by assumption) ?_
                    rotate_left
                    · (intro w hSw; (try dsimp only at hSw); go_simp; try with_reducible rfl)
                    try simp only [Act.put, List.setIfInBounds_toArray, List.set_cons_zero, List.set_cons_succ]
                    refine wpAnyH_take (i := 3) (oi := ⟨some 205, _, _, _, _, _⟩) (v := ?_) rfl (by kernel_rfl) (by kernel_rfl) (by kernel_rfl) (fun _ _ _ h => h) (Or.inl ⟨by rfl, ?_⟩) (by assumption) ?_
                    rotate_left
                    · (intro w hSw; refine Eq.trans (exec_rtc hSw 1 (by rfl) HX.out 6 (by rfl) _ (by rfl) (by rfl) Try.underlying45 (by rfl)) ?_; with_reducible rfl)
                    try simp only [Act.put, List.setIfInBounds_toArray, List.set_cons_zero, List.set_cons_succ]
                    refine wpAnyH_take (i := 4) (oi := ⟨some 206, _, _, _, _, _⟩) (v := ?_) rfl (by kernel_rfl) (by kernel_rfl) (by kernel_rfl) (fun _ _ _ h => h) (Or.inl ⟨by rfl, ?_⟩) (by assumption) ?_
                    rotate_left
                    · (intro w hSw; (try dsimp only at hSw); go_simp; try with_reducible rfl)
                    try simp only [Act.put, List.setIfInBounds_toArray, List.set_cons_zero, List.set_cons_succ]
                    refine wpAnyH_take (i := 5) (oi := ⟨some 207, _, _, _, _, _⟩) (v := ?_) rfl (by kernel_rfl) (by kernel_rfl) (by kernel_rfl) (fun _ _ _ h => h) (Or.inl ⟨by rfl, ?_⟩) (by assumption) ?_
                    rotate_left
                    · (intro w hSw; (try dsimp only at hSw); go_simp; try with_reducible rfl)
                    try simp only [Act.put, List.setIfInBounds_toArray, List.set_cons_zero, List.set_cons_succ]
                    refine wpAnyH_take (i := 6) (oi := ⟨some 208, _, _, _, _, _⟩) (v := ?_) rfl (by kernel_rfl) (by kernel_rfl) (by kernel_rfl) (fun _ _ _ h => h) (Or.inl ⟨by rfl, ?_⟩) (by assumption) ?_
                    rotate_left
                    · (intro w hSw; (try dsimp only at hSw); go_simp; try with_reducible rfl)
                    try simp only [Act.put, List.setIfInBounds_toArray, List.set_cons_zero, List.set_cons_succ]
                    refine wpAnyH_take (i := 7) (oi := ⟨some 209, _, _, _, _, _⟩) (v := ?_) rfl (by kernel_rfl) (by kernel_rfl) (by kernel_rfl) (fun _ _ _ h => h) (Or.inl ⟨by rfl, ?_⟩) (by assumption) ?_
                    rotate_left
                    · (intro w hSw; (try dsimp only at hSw); go_simp; try with_reducible rfl)
                    try simp only [Act.put, List.setIfInBounds_toArray, List.set_cons_zero, List.set_cons_succ]
                    refine wpAnyH_take (i := 8) (oi := ⟨some 210, _, _, _, _, _⟩) (v := ?_) rfl (by kernel_rfl) (by kernel_rfl) (by kernel_rfl) (fun _ _ _ h => h) (Or.inl ⟨by rfl, ?_⟩) (by assumption) ?_
                    rotate_left
                    · (intro w hSw; refine Eq.trans (exec_rtc hSw 1 (by rfl) HX.out 6 (by rfl) _ (by rfl) (by rfl) Try.underlying45 (by rfl)) ?_; with_reducible rfl)
                    try simp only [Act.put, List.setIfInBounds_toArray, List.set_cons_zero, List.set_cons_succ]
                    refine wpAnyH_take (i := 9) (oi := ⟨some 211, _, _, _, _, _⟩) (v := ?_) rfl (by kernel_rfl) (by kernel_rfl) (by kernel_rfl) (fun _ _ _ h => h) (Or.inl ⟨by rfl, ?_⟩) (by assumption) ?_
                    rotate_left
                    · (intro w hSw; (try dsimp only at hSw); go_simp; try with_reducible rfl)
                    try simp only [Act.put, List.setIfInBounds_toArray, List.set_cons_zero, List.set_cons_succ]
                    refine wpAnyH_take (i := 10) (oi := ⟨some 212, _, _, _, _, _⟩) (v := ?_) rfl (by kernel_rfl) (by kernel_rfl) (by kernel_rfl) (fun _ _ _ h => h) (Or.inl ⟨by rfl, ?_⟩) (by assumption) ?_
                    rotate_left
                    · (intro w hSw; refine Eq.trans (exec_ixbo (i := k) _ _ (by rfl) (by rfl) (by rfl) hk) ?_; with_reducible rfl)
                    try simp only [Act.put, List.setIfInBounds_toArray, List.set_cons_zero, List.set_cons_succ]
                    refine wpAnyH_ready (rs := [11]) (by kernel_rfl) (by simp) ?_
                    refine AllReadyH.cons (o := ⟨some 213, _, _, _, _, _⟩) rfl (fun K hK => ?_) AllReadyH.nil
                    refine step_of_exec (by rfl) (exec_rbo HK0 3 (by rfl) HYk.out _ (by rfl) (by rfl)) ?_; have hs := hHeld
                    refine hK.out _ _ hs (fun hHeld => ?_)
                    clear hK K
                    try simp only [ap1, ap2, ap3, ap4, ap5]
                    refine wpAnyH_take (i := 12) (oi := ⟨some 214, _, _, _, _, _⟩) (v := ?_) rfl (by kernel_rfl) (by kernel_rfl) (by kernel_rfl) (fun _ _ _ h => h) (Or.inl ⟨by rfl, ?_⟩) (by assumption) ?_
                    rotate_left
                    · (intro w hSw; (try dsimp only at hSw); go_simp; try with_reducible rfl)
                    try simp only [Act.put, List.setIfInBounds_toArray, List.set_cons_zero, List.set_cons_succ]
                    refine wpAnyH_take (i := 13) (oi := ⟨some 215, _, _, _, _, _⟩) (v := undef) rfl (by kernel_rfl) (by kernel_rfl) (by kernel_rfl) (fun _ _ _ h => h) (Or.inr ⟨by rfl, rfl⟩) (by assumption) ?_
                    try simp only [Act.put, List.setIfInBounds_toArray, List.set_cons_zero, List.set_cons_succ]
                    refine wpAnyH_take (i := 14) (oi := ⟨some 216, _, _, _, _, _⟩) (v := ?_) rfl (by kernel_rfl) (by kernel_rfl) (by kernel_rfl) (fun _ _ _ h => h) (Or.inl ⟨by rfl, ?_⟩) (by assumption) ?_
                    rotate_left
                    · (intro w hSw; (try dsimp only at hSw); go_simp; try with_reducible rfl)
                    try simp only [Act.put, List.setIfInBounds_toArray, List.set_cons_zero, List.set_cons_succ]
                    refine wpAnyH_take (i := 15) (oi := ⟨some 217, _, _, _, _, _⟩) (v := ?_) rfl (by kernel_rfl) (by kernel_rfl) (by kernel_rfl) (fun _ _ _ h => h) (Or.inl ⟨by rfl, ?_⟩) (by assumption) ?_
                    rotate_left
                    · (intro w hSw; refine Eq.trans (exec_ixbo (i := k) _ _ (by rfl) (by rfl) (by rfl) hk) ?_; with_reducible rfl)
                    try simp only [Act.put, List.setIfInBounds_toArray, List.set_cons_zero, List.set_cons_succ]
                    refine wpAnyH_ready (rs := [16]) (by kernel_rfl) (by simp) ?_
                    refine AllReadyH.cons (o := ⟨none, _, _, _, _, _⟩) rfl (fun K hK => ?_) AllReadyH.nil
                    refine step_ptb HK0 3 (by rfl) _ _ (by rfl) (by rfl) k (by rw [HLy.out]; exact hk) (by rfl) true (by rfl) ?_; clear HK0; intro wq HK0; simp only [List.set] at HK0; have hs := Lib.hid ((HK0.out.takeL 2).takeR 2)
                    refine hK.out _ _ hs (fun hHeld => ?_)
                    clear hK K
                    try simp only [ap1, ap2, ap3, ap4, ap5]
                    refine wpAnyH_done (by kernel_rfl) ?_ _
                    all_goals
                      go_wp2_with fail
                      go_meet
                      rw [Blt.set_self HYk.out, Blt.set_self HY.out] at HK0
                      exact ⟨_, ⟨⟨bt, sd, pm, v, true, ye⟩, g1, g2, Ap, kp, cp⟩, y, Lib.hid (by rw [Blt.set_self HX.out]; exact HSt.out.up), HY, Lib.hid (Blt.lt_irr _), Lib.hid (by rw [Blt.set_self HX.out]; exact HK0.out.takeL 2)⟩
              | false =>
                as_aux_lemma =>
                  rw [show Blt.ac y bt v = y from if_neg hok, decide_eq_false hok] at HP
                  clear hok
                  go_upto_region 29 with (first | refine wpList_exe (exec_rtc HK 1 rfl HX.out 5 rfl _ (by rfl) (by rfl) Try.underlying4 rfl) (by rfl) ?_)
                  have HK0 := Lib.hid HK.out.drew
                  clear HK
                  refine wp_region_held_drew (S := (fun W => Hid (Kn w.heap.size w W [(gm, 42, mvC m), (gw, 29, voA y)] (row voLay (.slice (some ⟨g0, 0, none⟩) N N) vs :: row (trLay N) (.slice (some ⟨gT, 0, none⟩) nt2 ct2) F2 :: row bLay (.slice (some ⟨g1, 0, none⟩) N N) sd :: row bLay (.slice (some ⟨g2, 0, none⟩) N N) ye :: row pmLay (.slice Ap kp cp) pm :: O)))) (by kernel_rfl) ?_ (fun hHeld => ?_)
                  · (try dsimp only); exact HK0
                  refine wpAnyH_take (i := 0) (oi := ⟨some 186, _, _, _, _, _⟩) (v := ?_) rfl (by kernel_rfl) (by kernel_rfl) (by kernel_rfl) (fun _ _ _ h => h) (Or.inl ⟨by rfl, ?_⟩) (by assumption) ?_
                  rotate_left
                  · (intro w hSw; refine Eq.trans (kv_v hSw 1 _ (by rfl) (by rfl) (by rfl)) ?_; with_reducible rfl)
                  try simp only [Act.put, List.setIfInBounds_toArray, List.set_cons_zero, List.set_cons_succ]
                  refine wpAnyH_take (i := 1) (oi := ⟨some 187, _, _, _, _, _⟩) (v := ?_) rfl (by kernel_rfl) (by kernel_rfl) (by kernel_rfl) (fun _ _ _ h => h) (Or.inl ⟨by rfl, ?_⟩) (by assumption) ?_
                  rotate_left
                  · (intro w hSw; (try dsimp only at hSw); go_simp; try with_reducible rfl)
                  try simp only [Act.put, List.setIfInBounds_toArray, List.set_cons_zero, List.set_cons_succ]
                  refine wpAnyH_take (i := 2) (oi := ⟨some 188, _, _, _, _, _⟩) (v := ?_) rfl (by kernel_rfl) (by kernel_rfl) (by kernel_rfl) (fun _ _ _ h => h) (Or.inl ⟨by rfl, ?_⟩) (by assumption) ?_
                  rotate_left
                  · (intro w hSw; (try dsimp only at hSw); go_simp; try with_reducible rfl)
                  try simp only [Act.put, List.setIfInBounds_toArray, List.set_cons_zero, List.set_cons_succ]
                  refine wpAnyH_take (i := 3) (oi := ⟨some 189, _, _, _, _, _⟩) (v := ?_) rfl (by kernel_rfl) (by kernel_rfl) (by kernel_rfl) (fun _ _ _ h => h) (Or.inl ⟨by rfl, ?_⟩) (by assumption) ?_
                  rotate_left
                  · (intro w hSw; (try dsimp only at hSw); go_simp; try with_reducible rfl)
                  try simp only [Act.put, List.setIfInBounds_toArray, List.set_cons_zero, List.set_cons_succ]
                  refine wpAnyH_take (i := 4) (oi := ⟨some 190, _, _, _, _, _⟩) (v := ?_) rfl (by kernel_rfl) (by kernel_rfl) (by kernel_rfl) (fun _ _ _ h => h) (Or.inl ⟨by rfl, ?_⟩) (by assumption) ?_
                  rotate_left
                  · (intro w hSw; refine Eq.trans (exec_rtb hSw 1 (by rfl) HX.out _ (by rfl) (by rfl)) ?_; with_reducible rfl)
                  try simp only [Act.put, List.setIfInBounds_toArray, List.set_cons_zero, List.set_cons_succ]
                  refine wpAnyH_take (i := 5) (oi := ⟨some 191, _, _, _, _, _⟩) (v := ?_) rfl (by kernel_rfl) (by kernel_rfl) (by kernel_rfl) (fun _ _ _ h => h) (Or.inl ⟨by rfl, ?_⟩) (by assumption) ?_
                  rotate_left
                  · (intro w hSw; (try dsimp only at hSw); go_simp; try with_reducible rfl)
                  try simp only [Act.put, List.setIfInBounds_toArray, List.set_cons_zero, List.set_cons_succ]
                  refine wpAnyH_take (i := 6) (oi := ⟨some 192, _, _, _, _, _⟩) (v := ?_) rfl (by kernel_rfl) (by kernel_rfl) (by kernel_rfl) (fun _ _ _ h => h) (Or.inl ⟨by rfl, ?_⟩) (by assumption) ?_
                  rotate_left
                  · (intro w hSw; (try dsimp only at hSw); go_simp; try with_reducible rfl)
                  try simp only [Act.put, List.setIfInBounds_toArray, List.set_cons_zero, List.set_cons_succ]
                  refine wpAnyH_take (i := 7) (oi := ⟨some 193, _, _, _, _, _⟩) (v := ?_) rfl (by kernel_rfl) (by kernel_rfl) (by kernel_rfl) (fun _ _ _ h => h) (Or.inl ⟨by rfl, ?_⟩) (by assumption) ?_
                  rotate_left
                  · (intro w hSw; (try dsimp only at hSw); go_simp; try with_reducible rfl)
                  try simp only [Act.put, List.setIfInBounds_toArray, List.set_cons_zero, List.set_cons_succ]
                  refine wpAnyH_take (i := 8) (oi := ⟨some 194, _, _, _, _, _⟩) (v := ?_) rfl (by kernel_rfl) (by kernel_rfl) (by kernel_rfl) (fun _ _ _ h => h) (Or.inl ⟨by rfl, ?_⟩) (by assumption) ?_
                  rotate_left
                  · (intro w hSw; refine Eq.trans (exec_rtc hSw 1 (by rfl) HX.out 4 (by rfl) _ (by rfl) (by rfl) Try.underlying9 (by rfl)) ?_; with_reducible rfl)
                  try simp only [Act.put, List.setIfInBounds_toArray, List.set_cons_zero, List.set_cons_succ]
                  refine wpAnyH_ready (rs := [9, 13]) (by kernel_rfl) (by simp) ?_
                  refine AllReadyH.cons (o := ⟨some 195, _, _, _, _, _⟩) rfl (fun K hK => ?_) (AllReadyH.cons (o := ⟨some 17, _, _, _, _, _⟩) rfl (fun K hK => ?_) AllReadyH.nil)
                  go_simp
                  go_at_call 15
                  refine (HP.out _).mono ?_; rintro e w5 ⟨rfl, b5⟩; replace HK0 := Lib.hid (HK0.out.call b5); clear b5; have hs := Lib.hid (HK0.out.takeL 2)
                  refine hK.out _ _ hs (fun hHeld => ?_)
                  clear hK K
                  try simp only [ap1, ap2, ap3, ap4, ap5]
                  refine wpAnyH_take (i := 10) (oi := ⟨some 185, _, _, _, _, _⟩) (v := ?_) rfl (by kernel_rfl) (by kernel_rfl) (by kernel_rfl) (fun _ _ _ h => h) (Or.inl ⟨by rfl, ?_⟩) (by assumption) ?_
                  rotate_left
                  · (intro w hSw; (try dsimp only at hSw); go_simp; try with_reducible rfl)
                  try simp only [Act.put, List.setIfInBounds_toArray, List.set_cons_zero, List.set_cons_succ]
                  refine wpAnyH_take (i := 11) (oi := ⟨some 196, _, _, _, _, _⟩) (v := ?_) rfl (by kernel_rfl) (by kernel_rfl) (by kernel_rfl) (fun _ _ _ h => h) (Or.inl ⟨by rfl, ?_⟩) (by assumption) ?_
                  rotate_left
                  · (intro w hSw; (try dsimp only at hSw); go_simp; try with_reducible rfl)
                  try simp only [Act.put, List.setIfInBounds_toArray, List.set_cons_zero, List.set_cons_succ]
                  refine wpAnyH_take (i := 12) (oi := ⟨some 197, _, _, _, _, _⟩) (v := ?_) rfl (by kernel_rfl) (by kernel_rfl) (by kernel_rfl) (fun _ _ _ h => h) (Or.inl ⟨by rfl, ?_⟩) (by assumption) ?_
                  rotate_left
                  · (intro w hSw; (try dsimp only at hSw); go_simp; try with_reducible rfl)
                  try simp only [Act.put, List.setIfInBounds_toArray, List.set_cons_zero, List.set_cons_succ]
                  refine wpAnyH_ready (rs := [13]) (by kernel_rfl) (by simp) ?_
                  refine AllReadyH.cons (o := ⟨some 17, _, _, _, _, _⟩) rfl (fun K hK => ?_) AllReadyH.nil
                  refine step_avo HK0 (by rfl) (by rfl) ?_; clear HK0; intro wq g13 HK0 _; simp only [List.cons_append, List.nil_append] at HK0; have hs := Lib.hid (HK0.out.takeL 2)
                  refine hK.out _ _ hs (fun hHeld => ?_)
                  clear hK K
                  try simp only [ap1, ap2, ap3, ap4, ap5]
                  refine wpAnyH_ready (rs := [14]) (by kernel_rfl) (by simp) ?_
                  refine AllReadyH.cons (o := ⟨none, _, _, _, _, _⟩) rfl (fun K hK => ?_) AllReadyH.nil
                  refine step_svo (x := zvo) (y := y) HK0 2 (by rfl) _ _ (by rfl) (by rfl) (by rfl) (by rfl) ?_; clear HK0; intro wq HK0; simp only [List.set] at HK0; have hs := Lib.hid (HK0.out.takeL 2)
                  refine hK.out _ _ hs (fun hHeld => ?_)
                  clear hK K
                  try simp only [ap1, ap2, ap3, ap4, ap5]
                  refine wpAnyH_take (i := 15) (oi := ⟨some 18, _, _, _, _, _⟩) (v := ?_) rfl (by kernel_rfl) (by kernel_rfl) (by kernel_rfl) (fun _ _ _ h => h) (Or.inl ⟨by rfl, ?_⟩) (by assumption) ?_
                  rotate_left
                  · (intro w hSw; (try dsimp only at hSw); go_simp; try with_reducible rfl)
                  try simp only [Act.put, List.setIfInBounds_toArray, List.set_cons_zero, List.set_cons_succ]
                  refine wpAnyH_done (by kernel_rfl) ?_ _
                  rotate_left
                  refine step_avo HK0 (by rfl) (by rfl) ?_; clear HK0; intro wq g13 HK0 _; simp only [List.cons_append, List.nil_append] at HK0; have hs := Lib.hid (HK0.out.takeL 2)
                  refine hK.out _ _ hs (fun hHeld => ?_)
                  clear hK K
                  try simp only [ap1, ap2, ap3, ap4, ap5]
                  refine wpAnyH_ready (rs := [9]) (by kernel_rfl) (by simp) ?_
                  refine AllReadyH.cons (o := ⟨some 195, _, _, _, _, _⟩) rfl (fun K hK => ?_) AllReadyH.nil
                  go_simp
                  go_at_call 15
                  refine (HP.out _).mono ?_; rintro e w5 ⟨rfl, b5⟩; replace HK0 := Lib.hid (HK0.out.call b5); clear b5; have hs := Lib.hid (HK0.out.takeL 2)
                  refine hK.out _ _ hs (fun hHeld => ?_)
                  clear hK K
                  try simp only [ap1, ap2, ap3, ap4, ap5]
                  refine wpAnyH_take (i := 10) (oi := ⟨some 185, _, _, _, _, _⟩) (v := ?_) rfl (by kernel_rfl) (by kernel_rfl) (by kernel_rfl) (fun _ _ _ h => h) (Or.inl ⟨by rfl, ?_⟩) (by assumption) ?_
                  rotate_left
                  · (intro w hSw; (try dsimp only at hSw); go_simp; try with_reducible rfl)
                  try simp only [Act.put, List.setIfInBounds_toArray, List.set_cons_zero, List.set_cons_succ]
                  refine wpAnyH_take (i := 11) (oi := ⟨some 196, _, _, _, _, _⟩) (v := ?_) rfl (by kernel_rfl) (by kernel_rfl) (by kernel_rfl) (fun _ _ _ h => h) (Or.inl ⟨by rfl, ?_⟩) (by assumption) ?_
                  rotate_left
                  · (intro w hSw; (try dsimp only at hSw); go_simp; try with_reducible rfl)
                  try simp only [Act.put, List.setIfInBounds_toArray, List.set_cons_zero, List.set_cons_succ]
                  refine wpAnyH_take (i := 12) (oi := ⟨some 197, _, _, _, _, _⟩) (v := ?_) rfl (by kernel_rfl) (by kernel_rfl) (by kernel_rfl) (fun _ _ _ h => h) (Or.inl ⟨by rfl, ?_⟩) (by assumption) ?_
                  rotate_left
                  · (intro w hSw; (try dsimp only at hSw); go_simp; try with_reducible rfl)
                  try simp only [Act.put, List.setIfInBounds_toArray, List.set_cons_zero, List.set_cons_succ]
                  refine wpAnyH_ready (rs := [14]) (by kernel_rfl) (by simp) ?_
                  refine AllReadyH.cons (o := ⟨none, _, _, _, _, _⟩) rfl (fun K hK => ?_) AllReadyH.nil
                  refine step_svo (x := zvo) (y := y) HK0 2 (by rfl) _ _ (by rfl) (by rfl) (by rfl) (by rfl) ?_; clear HK0; intro wq HK0; simp only [List.set] at HK0; have hs := Lib.hid (HK0.out.takeL 2)
                  refine hK.out _ _ hs (fun hHeld => ?_)
                  clear hK K
                  try simp only [ap1, ap2, ap3, ap4, ap5]
                  refine wpAnyH_take (i := 15) (oi := ⟨some 18, _, _, _, _, _⟩) (v := ?_) rfl (by kernel_rfl) (by kernel_rfl) (by kernel_rfl) (fun _ _ _ h => h) (Or.inl ⟨by rfl, ?_⟩) (by assumption) ?_
                  rotate_left
                  · (intro w hSw; (try dsimp only at hSw); go_simp; try with_reducible rfl)
                  try simp only [Act.put, List.setIfInBounds_toArray, List.set_cons_zero, List.set_cons_succ]
                  refine wpAnyH_done (by kernel_rfl) ?_ _
                  rotate_left
                  all_goals
                    have HK := HK0
                    clear HK0 hHeld HP
                    go_upto_region 31 with (first | refine wpList_exe (kv_v HK 2 _ (by rfl) (by rfl) (by rfl)) (by rfl) ?_ | refine wpList_exe (exec_ixvo (i := k) _ _ (by rfl) (by rfl) (by rfl) hk) (by rfl) ?_ | (refine wpList_put (La := voLay) HK 0 rfl _ _ rfl rfl k (by rw [HVL.out]; exact hk) rfl (y : Bvo) rfl rfl ?_; intro _ HK'; simp only [List.set] at HK'; replace HK := HK'; clear HK'))
                    have HK0 := Lib.hid HK.out.drew
                    clear HK
                    refine wp_region_held_drew (S := (fun W => Hid (Kn w.heap.size w W [(gm, 42, mvC m), (gw, 29, voA y)] [row voLay (.slice (some ⟨g0, 0, none⟩) N N) (vs.set k y), row (trLay N) (.slice (some ⟨gT, 0, none⟩) nt2 ct2) F2]))) (by kernel_rfl) ?_ (fun hHeld => ?_)
                    · (try dsimp only); exact Lib.hid ((HK0.out.takeL 2).takeR 2)
                    refine wpAnyH_take (i := 0) (oi := ⟨some 202, _, _, _, _, _⟩) (v := ?_) rfl (by kernel_rfl) (by kernel_rfl) (by kernel_rfl) (fun _ _ _ h => h) (Or.inl ⟨by rfl, ?_⟩) (by assumption) ?_
                    rotate_left
                    · (intro w hSw; (try dsimp only at hSw); go_simp; try with_reducible rfl)
                    try simp only [Act.put, List.setIfInBounds_toArray, List.set_cons_zero, List.set_cons_succ]
                    refine wpAnyH_take (i := 1) (oi := ⟨some 203, _, _, _, _, _⟩) (v := ?_) rfl (by kernel_rfl) (by kernel_rfl) (by kernel_rfl) (fun _ _ _ h => h) (Or.inl ⟨by rfl, ?_⟩) (by assumption) ?_
                    rotate_left
                    · (intro w hSw; (try dsimp only at hSw); go_simp; try with_reducible rfl)
                    try simp only [Act.put, List.setIfInBounds_toArray, List.set_cons_zero, List.set_cons_succ]
                    refine wpAnyH_take (i := 2) (oi := ⟨some 204, _, _, _, _, _⟩) (v := ?_) rfl (by kernel_rfl) (by kernel_rfl) (by kernel_rfl) (fun _ _ _ h => h) (Or.inl ⟨by rfl, ?_⟩) (by assumption) ?_
                    rotate_left
                    · (intro w hSw; (try dsimp only at hSw); go_simp; try with_reducible rfl)
                    try simp only [Act.put, List.setIfInBounds_toArray, List.set_cons_zero, List.set_cons_succ]
                    refine wpAnyH_take (i := 3) (oi := ⟨some 205, _, _, _, _, _⟩) (v := ?_) rfl (by kernel_rfl) (by kernel_rfl) (by kernel_rfl) (fun _ _ _ h => h) (Or.inl ⟨by rfl, ?_⟩) (by assumption) ?_
                    rotate_left
                    · (intro w hSw; refine Eq.trans (exec_rtc hSw 1 (by rfl) HX.out 6 (by rfl) _ (by rfl) (by rfl) Try.underlying45 (by rfl)) ?_; with_reducible rfl)
                    try simp only [Act.put, List.setIfInBounds_toArray, List.set_cons_zero, List.set_cons_succ]
                    refine wpAnyH_take (i := 4) (oi := ⟨some 206, _, _, _, _, _⟩) (v := ?_) rfl (by kernel_rfl) (by kernel_rfl) (by kernel_rfl) (fun _ _ _ h => h) (Or.inl ⟨by rfl, ?_⟩) (by assumption) ?_
                    rotate_left
                    · (intro w hSw; (try dsimp only at hSw); go_simp; try with_reducible rfl)
                    try simp only [Act.put, List.setIfInBounds_toArray, List.set_cons_zero, List.set_cons_succ]
                    refine wpAnyH_take (i := 5) (oi := ⟨some 207, _, _, _, _, _⟩) (v := ?_) rfl (by kernel_rfl) (by kernel_rfl) (by kernel_rfl) (fun _ _ _ h => h) (Or.inl ⟨by rfl, ?_⟩) (by assumption) ?_
                    rotate_left
                    · (intro w hSw; (try dsimp only at hSw); go_simp; try with_reducible rfl)
                    try simp only [Act.put, List.setIfInBounds_toArray, List.set_cons_zero, List.set_cons_succ]
                    refine wpAnyH_take (i := 6) (oi := ⟨some 208, _, _, _, _, _⟩) (v := ?_) rfl (by kernel_rfl) (by kernel_rfl) (by kernel_rfl) (fun _ _ _ h => h) (Or.inl ⟨by rfl, ?_⟩) (by assumption) ?_
                    rotate_left
                    · (intro w hSw; (try dsimp only at hSw); go_simp; try with_reducible rfl)
                    try simp only [Act.put, List.setIfInBounds_toArray, List.set_cons_zero, List.set_cons_succ]
                    refine wpAnyH_take (i := 7) (oi := ⟨some 209, _, _, _, _, _⟩) (v := ?_) rfl (by kernel_rfl) (by kernel_rfl) (by kernel_rfl) (fun _ _ _ h => h) (Or.inl ⟨by rfl, ?_⟩) (by assumption) ?_
                    rotate_left
                    · (intro w hSw; (try dsimp only at hSw); go_simp; try with_reducible rfl)
                    try simp only [Act.put, List.setIfInBounds_toArray, List.set_cons_zero, List.set_cons_succ]
                    refine wpAnyH_take (i := 8) (oi := ⟨some 210, _, _, _, _, _⟩) (v := ?_) rfl (by kernel_rfl) (by kernel_rfl) (by kernel_rfl) (fun _ _ _ h => h) (Or.inl ⟨by rfl, ?_⟩) (by assumption) ?_
                    rotate_left
                    · (intro w hSw; refine Eq.trans (exec_rtc hSw 1 (by rfl) HX.out 6 (by rfl) _ (by rfl) (by rfl) Try.underlying45 (by rfl)) ?_; with_reducible rfl)
                    try simp only [Act.put, List.setIfInBounds_toArray, List.set_cons_zero, List.set_cons_succ]
                    refine wpAnyH_take (i := 9) (oi := ⟨some 211, _, _, _, _, _⟩) (v := ?_) rfl (by kernel_rfl) (by kernel_rfl) (by kernel_rfl) (fun _ _ _ h => h) (Or.inl ⟨by rfl, ?_⟩) (by assumption) ?_
                    rotate_left
                    · (intro w hSw; (try dsimp only at hSw); go_simp; try with_reducible rfl)
                    try simp only [Act.put, List.setIfInBounds_toArray, List.set_cons_zero, List.set_cons_succ]
                    refine wpAnyH_take (i := 10) (oi := ⟨some 212, _, _, _, _, _⟩) (v := ?_) rfl (by kernel_rfl) (by kernel_rfl) (by kernel_rfl) (fun _ _ _ h => h) (Or.inl ⟨by rfl, ?_⟩) (by assumption) ?_
                    rotate_left
                    · (intro w hSw; refine Eq.trans (exec_ixbo (i := k) _ _ (by rfl) (by rfl) (by rfl) hk) ?_; with_reducible rfl)
                    try simp only [Act.put, List.setIfInBounds_toArray, List.set_cons_zero, List.set_cons_succ]
                    refine wpAnyH_ready (rs := [11]) (by kernel_rfl) (by simp) ?_
                    refine AllReadyH.cons (o := ⟨some 213, _, _, _, _, _⟩) rfl (fun K hK => ?_) AllReadyH.nil
                    refine step_of_exec (by rfl) (exec_rbo HK0 3 (by rfl) HYk.out _ (by rfl) (by rfl)) ?_; have hs := hHeld
                    refine hK.out _ _ hs (fun hHeld => ?_)
                    clear hK K
                    try simp only [ap1, ap2, ap3, ap4, ap5]
                    refine wpAnyH_take (i := 12) (oi := ⟨some 214, _, _, _, _, _⟩) (v := ?_) rfl (by kernel_rfl) (by kernel_rfl) (by kernel_rfl) (fun _ _ _ h => h) (Or.inl ⟨by rfl, ?_⟩) (by assumption) ?_
                    rotate_left
                    · (intro w hSw; (try dsimp only at hSw); go_simp; try with_reducible rfl)
                    try simp only [Act.put, List.setIfInBounds_toArray, List.set_cons_zero, List.set_cons_succ]
                    refine wpAnyH_take (i := 13) (oi := ⟨some 215, _, _, _, _, _⟩) (v := ?_) rfl (by kernel_rfl) (by kernel_rfl) (by kernel_rfl) (fun _ _ _ h => h) (Or.inl ⟨by rfl, ?_⟩) (by assumption) ?_
                    rotate_left
                    · (intro w hSw; (try dsimp only at hSw); go_simp; try with_reducible rfl)
                    try simp only [Act.put, List.setIfInBounds_toArray, List.set_cons_zero, List.set_cons_succ]
                    refine wpAnyH_take (i := 14) (oi := ⟨some 216, _, _, _, _, _⟩) (v := ?_) rfl (by kernel_rfl) (by kernel_rfl) (by kernel_rfl) (fun _ _ _ h => h) (Or.inl ⟨by rfl, ?_⟩) (by assumption) ?_
                    rotate_left
                    · (intro w hSw; (try dsimp only at hSw); go_simp; try with_reducible rfl)
                    try simp only [Act.put, List.setIfInBounds_toArray, List.set_cons_zero, List.set_cons_succ]
                    refine wpAnyH_take (i := 15) (oi := ⟨some 217, _, _, _, _, _⟩) (v := ?_) rfl (by kernel_rfl) (by kernel_rfl) (by kernel_rfl) (fun _ _ _ h => h) (Or.inl ⟨by rfl, ?_⟩) (by assumption) ?_
                    rotate_left
                    · (intro w hSw; refine Eq.trans (exec_ixbo (i := k) _ _ (by rfl) (by rfl) (by rfl) hk) ?_; with_reducible rfl)
                    try simp only [Act.put, List.setIfInBounds_toArray, List.set_cons_zero, List.set_cons_succ]
                    refine wpAnyH_ready (rs := [16]) (by kernel_rfl) (by simp) ?_
                    refine AllReadyH.cons (o := ⟨none, _, _, _, _, _⟩) rfl (fun K hK => ?_) AllReadyH.nil
                    refine step_ptb HK0 3 (by rfl) _ _ (by rfl) (by rfl) k (by rw [HLy.out]; exact hk) (by rfl) false (by rfl) ?_; clear HK0; intro wq HK0; simp only [List.set] at HK0; have hs := Lib.hid ((HK0.out.takeL 2).takeR 2)
                    refine hK.out _ _ hs (fun hHeld => ?_)
                    clear hK K
                    try simp only [ap1, ap2, ap3, ap4, ap5]
                    refine wpAnyH_done (by kernel_rfl) ?_ _
                    all_goals
                      go_wp2_with fail
                      go_meet
                      rw [Blt.set_self HYk.out, Blt.set_self HY.out] at HK0
                      exact ⟨_, ⟨⟨bt, sd, pm, v, true, ye⟩, g1, g2, Ap, kp, cp⟩, y, Lib.hid (by rw [Blt.set_self HX.out]; exact HSt.out.up), HY, Lib.hid (Blt.lt_irr _), Lib.hid (by rw [Blt.set_self HX.out]; exact HK0.out.takeL 2)⟩
            case pos =>
              cases yk with
              | true =>
                as_aux_lemma =>
                  rw [show Blt.ac y bt v = ⟨bt, bt, v⟩ from if_pos hok, decide_eq_true hok] at HP
                  have HOk := Lib.hid hok
                  clear hok
                  go_upto_region 29 with (first | refine wpList_exe (exec_rtc HK 1 rfl HX.out 5 rfl _ (by rfl) (by rfl) Try.underlying4 rfl) (by rfl) ?_)
                  have HK0 := Lib.hid HK.out.drew
                  clear HK
                  refine wp_region_held_drew (S := (fun W => Hid (Kn w.heap.size w W [(gm, 42, mvC m), (gw, 29, voA y)] (row voLay (.slice (some ⟨g0, 0, none⟩) N N) vs :: row (trLay N) (.slice (some ⟨gT, 0, none⟩) nt2 ct2) F2 :: row bLay (.slice (some ⟨g1, 0, none⟩) N N) sd :: row bLay (.slice (some ⟨g2, 0, none⟩) N N) ye :: row pmLay (.slice Ap kp cp) pm :: O)))) (by kernel_rfl) ?_ (fun hHeld => ?_)
                  · (try dsimp only); exact HK0
                  refine wpAnyH_take (i := 0) (oi := ⟨some 186, _, _, _, _, _⟩) (v := ?_) rfl (by kernel_rfl) (by kernel_rfl) (by kernel_rfl) (fun _ _ _ h => h) (Or.inl ⟨by rfl, ?_⟩) (by assumption) ?_
                  rotate_left
                  · (intro w hSw; refine Eq.trans (kv_v hSw 1 _ (by rfl) (by rfl) (by rfl)) ?_; with_reducible rfl)
                  try simp only [Act.put, List.setIfInBounds_toArray, List.set_cons_zero, List.set_cons_succ]
                  refine wpAnyH_take (i := 1) (oi := ⟨some 187, _, _, _, _, _⟩) (v := ?_) rfl (by kernel_rfl) (by kernel_rfl) (by kernel_rfl) (fun _ _ _ h => h) (Or.inl ⟨by rfl, ?_⟩) (by assumption) ?_
                  rotate_left
                  · (intro w hSw; (try dsimp only at hSw); go_simp; try with_reducible rfl)
                  try simp only [Act.put, List.setIfInBounds_toArray, List.set_cons_zero, List.set_cons_succ]
                  refine wpAnyH_take (i := 2) (oi := ⟨some 188, _, _, _, _, _⟩) (v := ?_) rfl (by kernel_rfl) (by kernel_rfl) (by kernel_rfl) (fun _ _ _ h => h) (Or.inl ⟨by rfl, ?_⟩) (by assumption) ?_
                  rotate_left
                  · (intro w hSw; (try dsimp only at hSw); go_simp; try with_reducible rfl)
                  try simp only [Act.put, List.setIfInBounds_toArray, List.set_cons_zero, List.set_cons_succ]
                  refine wpAnyH_take (i := 3) (oi := ⟨some 189, _, _, _, _, _⟩) (v := ?_) rfl (by kernel_rfl) (by kernel_rfl) (by kernel_rfl) (fun _ _ _ h => h) (Or.inl ⟨by rfl, ?_⟩) (by assumption) ?_
                  rotate_left
                  · (intro w hSw; (try dsimp only at hSw); go_simp; try with_reducible rfl)
                  try simp only [Act.put, List.setIfInBounds_toArray, List.set_cons_zero, List.set_cons_succ]
                  refine wpAnyH_take (i := 4) (oi := ⟨some 190, _, _, _, _, _⟩) (v := ?_) rfl (by kernel_rfl) (by kernel_rfl) (by kernel_rfl) (fun _ _ _ h => h) (Or.inl ⟨by rfl, ?_⟩) (by assumption) ?_
                  rotate_left
                  · (intro w hSw; refine Eq.trans (exec_rtb hSw 1 (by rfl) HX.out _ (by rfl) (by rfl)) ?_; with_reducible rfl)
                  try simp only [Act.put, List.setIfInBounds_toArray, List.set_cons_zero, List.set_cons_succ]
                  refine wpAnyH_take (i := 5) (oi := ⟨some 191, _, _, _, _, _⟩) (v := ?_) rfl (by kernel_rfl) (by kernel_rfl) (by kernel_rfl) (fun _ _ _ h => h) (Or.inl ⟨by rfl, ?_⟩) (by assumption) ?_
                  rotate_left
                  · (intro w hSw; (try dsimp only at hSw); go_simp; try with_reducible rfl)
                  try simp only [Act.put, List.setIfInBounds_toArray, List.set_cons_zero, List.set_cons_succ]
                  refine wpAnyH_take (i := 6) (oi := ⟨some 192, _, _, _, _, _⟩) (v := ?_) rfl (by kernel_rfl) (by kernel_rfl) (by kernel_rfl) (fun _ _ _ h => h) (Or.inl ⟨by rfl, ?_⟩) (by assumption) ?_
                  rotate_left
                  · (intro w hSw; (try dsimp only at hSw); go_simp; try with_reducible rfl)
                  try simp only [Act.put, List.setIfInBounds_toArray, List.set_cons_zero, List.set_cons_succ]
                  refine wpAnyH_take (i := 7) (oi := ⟨some 193, _, _, _, _, _⟩) (v := ?_) rfl (by kernel_rfl) (by kernel_rfl) (by kernel_rfl) (fun _ _ _ h => h) (Or.inl ⟨by rfl, ?_⟩) (by assumption) ?_
                  rotate_left
                  · (intro w hSw; (try dsimp only at hSw); go_simp; try with_reducible rfl)
                  try simp only [Act.put, List.setIfInBounds_toArray, List.set_cons_zero, List.set_cons_succ]
                  refine wpAnyH_take (i := 8) (oi := ⟨some 194, _, _, _, _, _⟩) (v := ?_) rfl (by kernel_rfl) (by kernel_rfl) (by kernel_rfl) (fun _ _ _ h => h) (Or.inl ⟨by rfl, ?_⟩) (by assumption) ?_
                  rotate_left
                  · (intro w hSw; refine Eq.trans (exec_rtc hSw 1 (by rfl) HX.out 4 (by rfl) _ (by rfl) (by rfl) Try.underlying9 (by rfl)) ?_; with_reducible rfl)
                  try simp only [Act.put, List.setIfInBounds_toArray, List.set_cons_zero, List.set_cons_succ]
                  refine wpAnyH_ready (rs := [9, 13]) (by kernel_rfl) (by simp) ?_
                  refine AllReadyH.cons (o := ⟨some 195, _, _, _, _, _⟩) rfl (fun K hK => ?_) (AllReadyH.cons (o := ⟨some 17, _, _, _, _, _⟩) rfl (fun K hK => ?_) AllReadyH.nil)
                  go_simp
                  go_at_call 15
                  refine (HP.out _).mono ?_; rintro e w5 ⟨rfl, b5⟩; replace HK0 := Lib.hid (HK0.out.call b5); clear b5; have hs := Lib.hid (HK0.out.takeL 2)
                  refine hK.out _ _ hs (fun hHeld => ?_)
                  clear hK K
                  try simp only [ap1, ap2, ap3, ap4, ap5]
                  refine wpAnyH_take (i := 10) (oi := ⟨some 185, _, _, _, _, _⟩) (v := ?_) rfl (by kernel_rfl) (by kernel_rfl) (by kernel_rfl) (fun _ _ _ h => h) (Or.inl ⟨by rfl, ?_⟩) (by assumption) ?_
                  rotate_left
                  · (intro w hSw; (try dsimp only at hSw); go_simp; try with_reducible rfl)
                  try simp only [Act.put, List.setIfInBounds_toArray, List.set_cons_zero, List.set_cons_succ]
                  refine wpAnyH_take (i := 11) (oi := ⟨some 196, _, _, _, _, _⟩) (v := ?_) rfl (by kernel_rfl) (by kernel_rfl) (by kernel_rfl) (fun _ _ _ h => h) (Or.inl ⟨by rfl, ?_⟩) (by assumption) ?_
                  rotate_left
                  · (intro w hSw; (try dsimp only at hSw); go_simp; try with_reducible rfl)
                  try simp only [Act.put, List.setIfInBounds_toArray, List.set_cons_zero, List.set_cons_succ]
                  refine wpAnyH_take (i := 12) (oi := ⟨some 197, _, _, _, _, _⟩) (v := ?_) rfl (by kernel_rfl) (by kernel_rfl) (by kernel_rfl) (fun _ _ _ h => h) (Or.inl ⟨by rfl, ?_⟩) (by assumption) ?_
                  rotate_left
                  · (intro w hSw; (try dsimp only at hSw); go_simp; try with_reducible rfl)
                  try simp only [Act.put, List.setIfInBounds_toArray, List.set_cons_zero, List.set_cons_succ]
                  refine wpAnyH_ready (rs := [13]) (by kernel_rfl) (by simp) ?_
                  refine AllReadyH.cons (o := ⟨some 17, _, _, _, _, _⟩) rfl (fun K hK => ?_) AllReadyH.nil
                  refine step_avo HK0 (by rfl) (by rfl) ?_; clear HK0; intro wq g13 HK0 _; simp only [List.cons_append, List.nil_append] at HK0; have hs := Lib.hid (HK0.out.takeL 2)
                  refine hK.out _ _ hs (fun hHeld => ?_)
                  clear hK K
                  try simp only [ap1, ap2, ap3, ap4, ap5]
                  refine wpAnyH_ready (rs := [14]) (by kernel_rfl) (by simp) ?_
                  refine AllReadyH.cons (o := ⟨none, _, _, _, _, _⟩) rfl (fun K hK => ?_) AllReadyH.nil
                  refine step_svo (x := zvo) (y := ⟨bt, bt, v⟩) HK0 2 (by rfl) _ _ (by rfl) (by rfl) (by rfl) (by rfl) ?_; clear HK0; intro wq HK0; simp only [List.set] at HK0; have hs := Lib.hid (HK0.out.takeL 2)
                  refine hK.out _ _ hs (fun hHeld => ?_)
                  clear hK K
                  try simp only [ap1, ap2, ap3, ap4, ap5]
                  refine wpAnyH_take (i := 15) (oi := ⟨some 18, _, _, _, _, _⟩) (v := ?_) rfl (by kernel_rfl) (by kernel_rfl) (by kernel_rfl) (fun _ _ _ h => h) (Or.inl ⟨by rfl, ?_⟩) (by assumption) ?_
                  rotate_left
                  · (intro w hSw; (try dsimp only at hSw); go_simp; try with_reducible rfl)
                  try simp only [Act.put, List.setIfInBounds_toArray, List.set_cons_zero, List.set_cons_succ]
                  refine wpAnyH_done (by kernel_rfl) ?_ _
                  rotate_left
                  refine step_avo HK0 (by rfl) (by rfl) ?_; clear HK0; intro wq g13 HK0 _; simp only [List.cons_append, List.nil_append] at HK0; have hs := Lib.hid (HK0.out.takeL 2)
                  refine hK.out _ _ hs (fun hHeld => ?_)
                  clear hK K
                  try simp only [ap1, ap2, ap3, ap4, ap5]
                  refine wpAnyH_ready (rs := [9]) (by kernel_rfl) (by simp) ?_
                  refine AllReadyH.cons (o := ⟨some 195, _, _, _, _, _⟩) rfl (fun K hK => ?_) AllReadyH.nil
                  go_simp
                  go_at_call 15
                  refine (HP.out _).mono ?_; rintro e w5 ⟨rfl, b5⟩; replace HK0 := Lib.hid (HK0.out.call b5); clear b5; have hs := Lib.hid (HK0.out.takeL 2)
                  refine hK.out _ _ hs (fun hHeld => ?_)
                  clear hK K
                  try simp only [ap1, ap2, ap3, ap4, ap5]
                  refine wpAnyH_take (i := 10) (oi := ⟨some 185, _, _, _, _, _⟩) (v := ?_) rfl (by kernel_rfl) (by kernel_rfl) (by kernel_rfl) (fun _ _ _ h => h) (Or.inl ⟨by rfl, ?_⟩) (by assumption) ?_
                  rotate_left
                  · (intro w hSw; (try dsimp only at hSw); go_simp; try with_reducible rfl)
                  try simp only [Act.put, List.setIfInBounds_toArray, List.set_cons_zero, List.set_cons_succ]
                  refine wpAnyH_take (i := 11) (oi := ⟨some 196, _, _, _, _, _⟩) (v := ?_) rfl (by kernel_rfl) (by kernel_rfl) (by kernel_rfl) (fun _ _ _ h => h) (Or.inl ⟨by rfl, ?_⟩) (by assumption) ?_
                  rotate_left
                  · (intro w hSw; (try dsimp only at hSw); go_simp; try with_reducible rfl)
                  try simp only [Act.put, List.setIfInBounds_toArray, List.set_cons_zero, List.set_cons_succ]
                  refine wpAnyH_take (i := 12) (oi := ⟨some 197, _, _, _, _, _⟩) (v := ?_) rfl (by kernel_rfl) (by kernel_rfl) (by kernel_rfl) (fun _ _ _ h => h) (Or.inl ⟨by rfl, ?_⟩) (by assumption) ?_
                  rotate_left
                  · (intro w hSw; (try dsimp only at hSw); go_simp; try with_reducible rfl)
                  try simp only [Act.put, List.setIfInBounds_toArray, List.set_cons_zero, List.set_cons_succ]
                  refine wpAnyH_ready (rs := [14]) (by kernel_rfl) (by simp) ?_
                  refine AllReadyH.cons (o := ⟨none, _, _, _, _, _⟩) rfl (fun K hK => ?_) AllReadyH.nil
                  refine step_svo (x := zvo) (y := ⟨bt, bt, v⟩) HK0 2 (by rfl) _ _ (by rfl) (by rfl) (by rfl) (by rfl) ?_; clear HK0; intro wq HK0; simp only [List.set] at HK0; have hs := Lib.hid (HK0.out.takeL 2)
                  refine hK.out _ _ hs (fun hHeld => ?_)
                  clear hK K
                  try simp only [ap1, ap2, ap3, ap4, ap5]
                  refine wpAnyH_take (i := 15) (oi := ⟨some 18, _, _, _, _, _⟩) (v := ?_) rfl (by kernel_rfl) (by kernel_rfl) (by kernel_rfl) (fun _ _ _ h => h) (Or.inl ⟨by rfl, ?_⟩) (by assumption) ?_
                  rotate_left
                  · (intro w hSw; (try dsimp only at hSw); go_simp; try with_reducible rfl)
                  try simp only [Act.put, List.setIfInBounds_toArray, List.set_cons_zero, List.set_cons_succ]
                  refine wpAnyH_done (by kernel_rfl) ?_ _
                  rotate_left
                  all_goals
                    have HK := HK0
                    clear HK0 hHeld HP
                    go_upto_region 31 with (first | refine wpList_exe (kv_v HK 2 _ (by rfl) (by rfl) (by rfl)) (by rfl) ?_ | refine wpList_exe (exec_ixvo (i := k) _ _ (by rfl) (by rfl) (by rfl) hk) (by rfl) ?_ | (refine wpList_put (La := voLay) HK 0 rfl _ _ rfl rfl k (by rw [HVL.out]; exact hk) rfl (⟨bt, bt, v⟩ : Bvo) rfl rfl ?_; intro _ HK'; simp only [List.set] at HK'; replace HK := HK'; clear HK'))
                    have HK0 := Lib.hid HK.out.drew
                    clear HK
                    refine wp_region_held_drew (S := (fun W => Hid (Kn w.heap.size w W [(gm, 42, mvC m), (gw, 29, voA y)] [row voLay (.slice (some ⟨g0, 0, none⟩) N N) (vs.set k ⟨bt, bt, v⟩), row (trLay N) (.slice (some ⟨gT, 0, none⟩) nt2 ct2) F2]))) (by kernel_rfl) ?_ (fun hHeld => ?_)
                    · (try dsimp only); exact Lib.hid ((HK0.out.takeL 2).takeR 2)
                    refine wpAnyH_take (i := 0) (oi := ⟨some 202, _, _, _, _, _⟩) (v := ?_) rfl (by kernel_rfl) (by kernel_rfl) (by kernel_rfl) (fun _ _ _ h => h) (Or.inl ⟨by rfl, ?_⟩) (by assumption) ?_
                    rotate_left
                    · (intro w hSw; (try dsimp only at hSw); go_simp; try with_reducible rfl)
                    try simp only [Act.put, List.setIfInBounds_toArray, List.set_cons_zero, List.set_cons_succ]
                    refine wpAnyH_take (i := 1) (oi := ⟨some 203, _, _, _, _, _⟩) (v := ?_) rfl (by kernel_rfl) (by kernel_rfl) (by kernel_rfl) (fun _ _ _ h => h) (Or.inl ⟨by rfl, ?_⟩) (by assumption) ?_
                    rotate_left
                    · (intro w hSw; (try dsimp only at hSw); go_simp; try with_reducible rfl)
                    try simp only [Act.put, List.setIfInBounds_toArray, List.set_cons_zero, List.set_cons_succ]
                    refine wpAnyH_take (i := 2) (oi := ⟨some 204, _, _, _, _, _⟩) (v := ?_) rfl (by kernel_rfl) (by kernel_rfl) (by kernel_rfl) (fun _ _ _ h => h) (Or.inl ⟨by rfl, ?_⟩) (by assumption) ?_
                    rotate_left
                    · (intro w hSw; (try dsimp only at hSw); go_simp; try with_reducible rfl)
                    try simp only [Act.put, List.setIfInBounds_toArray, List.set_cons_zero, List.set_cons_succ]
                    refine wpAnyH_take (i := 3) (oi := ⟨some 205, _, _, _, _, _⟩) (v := ?_) rfl (by kernel_rfl) (by kernel_rfl) (by kernel_rfl) (fun _ _ _ h => h) (Or.inl ⟨by rfl, ?_⟩) (by assumption) ?_
                    rotate_left
                    · (intro w hSw; refine Eq.trans (exec_rtc hSw 1 (by rfl) HX.out 6 (by rfl) _ (by rfl) (by rfl) Try.underlying45 (by rfl)) ?_; with_reducible rfl)
                    try simp only [Act.put, List.setIfInBounds_toArray, List.set_cons_zero, List.set_cons_succ]
                    refine wpAnyH_take (i := 4) (oi := ⟨some 206, _, _, _, _, _⟩) (v := ?_) rfl (by kernel_rfl) (by kernel_rfl) (by kernel_rfl) (fun _ _ _ h => h) (Or.inl ⟨by rfl, ?_⟩) (by assumption) ?_
                    rotate_left
                    · (intro w hSw; (try dsimp only at hSw); go_simp; try with_reducible rfl)
                    try simp only [Act.put, List.setIfInBounds_toArray, List.set_cons_zero, List.set_cons_succ]
                    refine wpAnyH_take (i := 5) (oi := ⟨some 207, _, _, _, _, _⟩) (v := ?_) rfl (by kernel_rfl) (by kernel_rfl) (by kernel_rfl) (fun _ _ _ h => h) (Or.inl ⟨by rfl, ?_⟩) (by assumption) ?_
                    rotate_left
                    · (intro w hSw; (try dsimp only at hSw); go_simp; try with_reducible rfl)
                    try simp only [Act.put, List.setIfInBounds_toArray, List.set_cons_zero, List.set_cons_succ]
                    refine wpAnyH_take (i := 6) (oi := ⟨some 208, _, _, _, _, _⟩) (v := ?_) rfl (by kernel_rfl) (by kernel_rfl) (by kernel_rfl) (fun _ _ _ h => h) (Or.inl ⟨by rfl, ?_⟩) (by assumption) ?_
                    rotate_left
                    · (intro w hSw; (try dsimp only at hSw); go_simp; try with_reducible rfl)
                    try simp only [Act.put, List.setIfInBounds_toArray, List.set_cons_zero, List.set_cons_succ]
                    refine wpAnyH_take (i := 7) (oi := ⟨some 209, _, _, _, _, _⟩) (v := ?_) rfl (by kernel_rfl) (by kernel_rfl) (by kernel_rfl) (fun _ _ _ h => h) (Or.inl ⟨by rfl, ?_⟩) (by assumption) ?_
                    rotate_left
                    · (intro w hSw; (try dsimp only at hSw); go_simp; try with_reducible rfl)
                    try simp only [Act.put, List.setIfInBounds_toArray, List.set_cons_zero, List.set_cons_succ]
                    refine wpAnyH_take (i := 8) (oi := ⟨some 210, _, _, _, _, _⟩) (v := ?_) rfl (by kernel_rfl) (by kernel_rfl) (by kernel_rfl) (fun _ _ _ h => h) (Or.inl ⟨by rfl, ?_⟩) (by assumption) ?_
                    rotate_left
                    · (intro w hSw; refine Eq.trans (exec_rtc hSw 1 (by rfl) HX.out 6 (by rfl) _ (by rfl) (by rfl) Try.underlying45 (by rfl)) ?_; with_reducible rfl)
                    try simp only [Act.put, List.setIfInBounds_toArray, List.set_cons_zero, List.set_cons_succ]
                    refine wpAnyH_take (i := 9) (oi := ⟨some 211, _, _, _, _, _⟩) (v := ?_) rfl (by kernel_rfl) (by kernel_rfl) (by kernel_rfl) (fun _ _ _ h => h) (Or.inl ⟨by rfl, ?_⟩) (by assumption) ?_
                    rotate_left
                    · (intro w hSw; (try dsimp only at hSw); go_simp; try with_reducible rfl)
                    try simp only [Act.put, List.setIfInBounds_toArray, List.set_cons_zero, List.set_cons_succ]
                    refine wpAnyH_take (i := 10) (oi := ⟨some 212, _, _, _, _, _⟩) (v := ?_) rfl (by kernel_rfl) (by kernel_rfl) (by kernel_rfl) (fun _ _ _ h => h) (Or.inl ⟨by rfl, ?_⟩) (by assumption) ?_
                    rotate_left
                    · (intro w hSw; refine Eq.trans (exec_ixbo (i := k) _ _ (by rfl) (by rfl) (by rfl) hk) ?_; with_reducible rfl)
                    try simp only [Act.put, List.setIfInBounds_toArray, List.set_cons_zero, List.set_cons_succ]
                    refine wpAnyH_ready (rs := [11]) (by kernel_rfl) (by simp) ?_
                    refine AllReadyH.cons (o := ⟨some 213, _, _, _, _, _⟩) rfl (fun K hK => ?_) AllReadyH.nil
                    refine step_of_exec (by rfl) (exec_rbo HK0 3 (by rfl) HYk.out _ (by rfl) (by rfl)) ?_; have hs := hHeld
                    refine hK.out _ _ hs (fun hHeld => ?_)
                    clear hK K
                    try simp only [ap1, ap2, ap3, ap4, ap5]
                    refine wpAnyH_take (i := 12) (oi := ⟨some 214, _, _, _, _, _⟩) (v := ?_) rfl (by kernel_rfl) (by kernel_rfl) (by kernel_rfl) (fun _ _ _ h => h) (Or.inl ⟨by rfl, ?_⟩) (by assumption) ?_
                    rotate_left
                    · (intro w hSw; (try dsimp only at hSw); go_simp; try with_reducible rfl)
                    try simp only [Act.put, List.setIfInBounds_toArray, List.set_cons_zero, List.set_cons_succ]
                    refine wpAnyH_take (i := 13) (oi := ⟨some 215, _, _, _, _, _⟩) (v := undef) rfl (by kernel_rfl) (by kernel_rfl) (by kernel_rfl) (fun _ _ _ h => h) (Or.inr ⟨by rfl, rfl⟩) (by assumption) ?_
                    try simp only [Act.put, List.setIfInBounds_toArray, List.set_cons_zero, List.set_cons_succ]
                    refine wpAnyH_take (i := 14) (oi := ⟨some 216, _, _, _, _, _⟩) (v := ?_) rfl (by kernel_rfl) (by kernel_rfl) (by kernel_rfl) (fun _ _ _ h => h) (Or.inl ⟨by rfl, ?_⟩) (by assumption) ?_
                    rotate_left
                    · (intro w hSw; (try dsimp only at hSw); go_simp; try with_reducible rfl)
                    try simp only [Act.put, List.setIfInBounds_toArray, List.set_cons_zero, List.set_cons_succ]
                    refine wpAnyH_take (i := 15) (oi := ⟨some 217, _, _, _, _, _⟩) (v := ?_) rfl (by kernel_rfl) (by kernel_rfl) (by kernel_rfl) (fun _ _ _ h => h) (Or.inl ⟨by rfl, ?_⟩) (by assumption) ?_
                    rotate_left
                    · (intro w hSw; refine Eq.trans (exec_ixbo (i := k) _ _ (by rfl) (by rfl) (by rfl) hk) ?_; with_reducible rfl)
                    try simp only [Act.put, List.setIfInBounds_toArray, List.set_cons_zero, List.set_cons_succ]
                    refine wpAnyH_ready (rs := [16]) (by kernel_rfl) (by simp) ?_
                    refine AllReadyH.cons (o := ⟨none, _, _, _, _, _⟩) rfl (fun K hK => ?_) AllReadyH.nil
                    refine step_ptb HK0 3 (by rfl) _ _ (by rfl) (by rfl) k (by rw [HLy.out]; exact hk) (by rfl) true (by rfl) ?_; clear HK0; intro wq HK0; simp only [List.set] at HK0; have hs := Lib.hid ((HK0.out.takeL 2).takeR 2)
                    refine hK.out _ _ hs (fun hHeld => ?_)
                    clear hK K
                    try simp only [ap1, ap2, ap3, ap4, ap5]
                    refine wpAnyH_done (by kernel_rfl) ?_ _
                    all_goals
                      go_wp2_with fail
                      go_meet
                      exact ⟨_, ⟨⟨bt, sd, pm, v, true, ye.set k true⟩, g1, g2, Ap, kp, cp⟩, ⟨bt, bt, v⟩, Lib.hid (HSt.out.acc HY.out HX.out HOk.out rfl).up, Lib.hid (Blt.bset_at HY.out), Lib.hid HOk.out.2, Lib.hid (by rw [row_tr_same (y := ⟨⟨bt, sd, pm, v, true, ye.set k true⟩, g1, g2, Ap, kp, cp⟩) HX.out rfl]; exact HK0.out.takeL 2)⟩
              | false =>
                as_aux_lemma =>
                  rw [show Blt.ac y bt v = ⟨bt, bt, v⟩ from if_pos hok, decide_eq_true hok] at HP
                  have HOk := Lib.hid hok
                  clear hok
                  go_upto_region 29 with (first | refine wpList_exe (exec_rtc HK 1 rfl HX.out 5 rfl _ (by rfl) (by rfl) Try.underlying4 rfl) (by rfl) ?_)
                  have HK0 := Lib.hid HK.out.drew
                  clear HK
                  refine wp_region_held_drew (S := (fun W => Hid (Kn w.heap.size w W [(gm, 42, mvC m), (gw, 29, voA y)] (row voLay (.slice (some ⟨g0, 0, none⟩) N N) vs :: row (trLay N) (.slice (some ⟨gT, 0, none⟩) nt2 ct2) F2 :: row bLay (.slice (some ⟨g1, 0, none⟩) N N) sd :: row bLay (.slice (some ⟨g2, 0, none⟩) N N) ye :: row pmLay (.slice Ap kp cp) pm :: O)))) (by kernel_rfl) ?_ (fun hHeld => ?_)
                  · (try dsimp only); exact HK0
                  refine wpAnyH_take (i := 0) (oi := ⟨some 186, _, _, _, _, _⟩) (v := ?_) rfl (by kernel_rfl) (by kernel_rfl) (by kernel_rfl) (fun _ _ _ h => h) (Or.inl ⟨by rfl, ?_⟩) (by assumption) ?_
                  rotate_left
                  · (intro w hSw; refine Eq.trans (kv_v hSw 1 _ (by rfl) (by rfl) (by rfl)) ?_; with_reducible rfl)
                  try simp only [Act.put, List.setIfInBounds_toArray, List.set_cons_zero, List.set_cons_succ]
                  refine wpAnyH_take (i := 1) (oi := ⟨some 187, _, _, _, _, _⟩) (v := ?_) rfl (by kernel_rfl) (by kernel_rfl) (by kernel_rfl) (fun _ _ _ h => h) (Or.inl ⟨by rfl, ?_⟩) (by assumption) ?_
                  rotate_left
                  · (intro w hSw; (try dsimp only at hSw); go_simp; try with_reducible rfl)
                  try simp only [Act.put, List.setIfInBounds_toArray, List.set_cons_zero, List.set_cons_succ]
                  refine wpAnyH_take (i := 2) (oi := ⟨some 188, _, _, _, _, _⟩) (v := ?_) rfl (by kernel_rfl) (by kernel_rfl) (by kernel_rfl) (fun _ _ _ h => h) (Or.inl ⟨by rfl, ?_⟩) (by assumption) ?_
                  rotate_left
                  · (intro w hSw; (try dsimp only at hSw); go_simp; try with_reducible rfl)
                  try simp only [Act.put, List.setIfInBounds_toArray, List.set_cons_zero, List.set_cons_succ]
                  refine wpAnyH_take (i := 3) (oi := ⟨some 189, _, _, _, _, _⟩) (v := ?_) rfl (by kernel_rfl) (by kernel_rfl) (by kernel_rfl) (fun _ _ _ h => h) (Or.inl ⟨by rfl, ?_⟩) (by assumption) ?_
                  rotate_left
                  · (intro w hSw; (try dsimp only at hSw); go_simp; try with_reducible rfl)
                  try simp only [Act.put, List.setIfInBounds_toArray, List.set_cons_zero, List.set_cons_succ]
                  refine wpAnyH_take (i := 4) (oi := ⟨some 190, _, _, _, _, _⟩) (v := ?_) rfl (by kernel_rfl) (by kernel_rfl) (by kernel_rfl) (fun _ _ _ h => h) (Or.inl ⟨by rfl, ?_⟩) (by assumption) ?_
                  rotate_left
                  · (intro w hSw; refine Eq.trans (exec_rtb hSw 1 (by rfl) HX.out _ (by rfl) (by rfl)) ?_; with_reducible rfl)
                  try simp only [Act.put, List.setIfInBounds_toArray, List.set_cons_zero, List.set_cons_succ]
                  refine wpAnyH_take (i := 5) (oi := ⟨some 191, _, _, _, _, _⟩) (v := ?_) rfl (by kernel_rfl) (by kernel_rfl) (by kernel_rfl) (fun _ _ _ h => h) (Or.inl ⟨by rfl, ?_⟩) (by assumption) ?_
                  rotate_left
                  · (intro w hSw; (try dsimp only at hSw); go_simp; try with_reducible rfl)
                  try simp only [Act.put, List.setIfInBounds_toArray, List.set_cons_zero, List.set_cons_succ]
                  refine wpAnyH_take (i := 6) (oi := ⟨some 192, _, _, _, _, _⟩) (v := ?_) rfl (by kernel_rfl) (by kernel_rfl) (by kernel_rfl) (fun _ _ _ h => h) (Or.inl ⟨by rfl, ?_⟩) (by assumption) ?_
                  rotate_left
                  · (intro w hSw; (try dsimp only at hSw); go_simp; try with_reducible rfl)
                  try simp only [Act.put, List.setIfInBounds_toArray, List.set_cons_zero, List.set_cons_succ]
                  refine wpAnyH_take (i := 7) (oi := ⟨some 193, _, _, _, _, _⟩) (v := ?_) rfl (by kernel_rfl) (by kernel_rfl) (by kernel_rfl) (fun _ _ _ h => h) (Or.inl ⟨by rfl, ?_⟩) (by assumption) ?_
                  rotate_left
                  · (intro w hSw; (try dsimp only at hSw); go_simp; try with_reducible rfl)
                  try simp only [Act.put, List.setIfInBounds_toArray, List.set_cons_zero, List.set_cons_succ]
                  refine wpAnyH_take (i := 8) (oi := ⟨some 194, _, _, _, _, _⟩) (v := ?_) rfl (by kernel_rfl) (by kernel_rfl) (by kernel_rfl) (fun _ _ _ h => h) (Or.inl ⟨by rfl, ?_⟩) (by assumption) ?_
                  rotate_left
                  · (intro w hSw; refine Eq.trans (exec_rtc hSw 1 (by rfl) HX.out 4 (by rfl) _ (by rfl) (by rfl) Try.underlying9 (by rfl)) ?_; with_reducible rfl)
                  try simp only [Act.put, List.setIfInBounds_toArray, List.set_cons_zero, List.set_cons_succ]
                  refine wpAnyH_ready (rs := [9, 13]) (by kernel_rfl) (by simp) ?_
                  refine AllReadyH.cons (o := ⟨some 195, _, _, _, _, _⟩) rfl (fun K hK => ?_) (AllReadyH.cons (o := ⟨some 17, _, _, _, _, _⟩) rfl (fun K hK => ?_) AllReadyH.nil)
                  go_simp
                  go_at_call 15
                  refine (HP.out _).mono ?_; rintro e w5 ⟨rfl, b5⟩; replace HK0 := Lib.hid (HK0.out.call b5); clear b5; have hs := Lib.hid (HK0.out.takeL 2)
                  refine hK.out _ _ hs (fun hHeld => ?_)
                  clear hK K
                  try simp only [ap1, ap2, ap3, ap4, ap5]
                  refine wpAnyH_take (i := 10) (oi := ⟨some 185, _, _, _, _, _⟩) (v := ?_) rfl (by kernel_rfl) (by kernel_rfl) (by kernel_rfl) (fun _ _ _ h => h) (Or.inl ⟨by rfl, ?_⟩) (by assumption) ?_
                  rotate_left
                  · (intro w hSw; (try dsimp only at hSw); go_simp; try with_reducible rfl)
                  try simp only [Act.put, List.setIfInBounds_toArray, List.set_cons_zero, List.set_cons_succ]
                  refine wpAnyH_take (i := 11) (oi := ⟨some 196, _, _, _, _, _⟩) (v := ?_) rfl (by kernel_rfl) (by kernel_rfl) (by kernel_rfl) (fun _ _ _ h => h) (Or.inl ⟨by rfl, ?_⟩) (by assumption) ?_
                  rotate_left
                  · (intro w hSw; (try dsimp only at hSw); go_simp; try with_reducible rfl)
                  try simp only [Act.put, List.setIfInBounds_toArray, List.set_cons_zero, List.set_cons_succ]
                  refine wpAnyH_take (i := 12) (oi := ⟨some 197, _, _, _, _, _⟩) (v := ?_) rfl (by kernel_rfl) (by kernel_rfl) (by kernel_rfl) (fun _ _ _ h => h) (Or.inl ⟨by rfl, ?_⟩) (by assumption) ?_
                  rotate_left
                  · (intro w hSw; (try dsimp only at hSw); go_simp; try with_reducible rfl)
                  try simp only [Act.put, List.setIfInBounds_toArray, List.set_cons_zero, List.set_cons_succ]
                  refine wpAnyH_ready (rs := [13]) (by kernel_rfl) (by simp) ?_
                  refine AllReadyH.cons (o := ⟨some 17, _, _, _, _, _⟩) rfl (fun K hK => ?_) AllReadyH.nil
                  refine step_avo HK0 (by rfl) (by rfl) ?_; clear HK0; intro wq g13 HK0 _; simp only [List.cons_append, List.nil_append] at HK0; have hs := Lib.hid (HK0.out.takeL 2)
                  refine hK.out _ _ hs (fun hHeld => ?_)
                  clear hK K
                  try simp only [ap1, ap2, ap3, ap4, ap5]
                  refine wpAnyH_ready (rs := [14]) (by kernel_rfl) (by simp) ?_
                  refine AllReadyH.cons (o := ⟨none, _, _, _, _, _⟩) rfl (fun K hK => ?_) AllReadyH.nil
                  refine step_svo (x := zvo) (y := ⟨bt, bt, v⟩) HK0 2 (by rfl) _ _ (by rfl) (by rfl) (by rfl) (by rfl) ?_; clear HK0; intro wq HK0; simp only [List.set] at HK0; have hs := Lib.hid (HK0.out.takeL 2)
                  refine hK.out _ _ hs (fun hHeld => ?_)
                  clear hK K
                  try simp only [ap1, ap2, ap3, ap4, ap5]
                  refine wpAnyH_take (i := 15) (oi := ⟨some 18, _, _, _, _, _⟩) (v := ?_) rfl (by kernel_rfl) (by kernel_rfl) (by kernel_rfl) (fun _ _ _ h => h) (Or.inl ⟨by rfl, ?_⟩) (by assumption) ?_
                  rotate_left
                  · (intro w hSw; (try dsimp only at hSw); go_simp; try with_reducible rfl)
                  try simp only [Act.put, List.setIfInBounds_toArray, List.set_cons_zero, List.set_cons_succ]
                  refine wpAnyH_done (by kernel_rfl) ?_ _
                  rotate_left
                  refine step_avo HK0 (by rfl) (by rfl) ?_; clear HK0; intro wq g13 HK0 _; simp only [List.cons_append, List.nil_append] at HK0; have hs := Lib.hid (HK0.out.takeL 2)
                  refine hK.out _ _ hs (fun hHeld => ?_)
                  clear hK K
                  try simp only [ap1, ap2, ap3, ap4, ap5]
                  refine wpAnyH_ready (rs := [9]) (by kernel_rfl) (by simp) ?_
                  refine AllReadyH.cons (o := ⟨some 195, _, _, _, _, _⟩) rfl (fun K hK => ?_) AllReadyH.nil
                  go_simp
                  go_at_call 15
                  refine (HP.out _).mono ?_; rintro e w5 ⟨rfl, b5⟩; replace HK0 := Lib.hid (HK0.out.call b5); clear b5; have hs := Lib.hid (HK0.out.takeL 2)
                  refine hK.out _ _ hs (fun hHeld => ?_)
                  clear hK K
                  try simp only [ap1, ap2, ap3, ap4, ap5]
                  refine wpAnyH_take (i := 10) (oi := ⟨some 185, _, _, _, _, _⟩) (v := ?_) rfl (by kernel_rfl) (by kernel_rfl) (by kernel_rfl) (fun _ _ _ h => h) (Or.inl ⟨by rfl, ?_⟩) (by assumption) ?_
                  rotate_left
                  · (intro w hSw; (try dsimp only at hSw); go_simp; try with_reducible rfl)
                  try simp only [Act.put, List.setIfInBounds_toArray, List.set_cons_zero, List.set_cons_succ]
                  refine wpAnyH_take (i := 11) (oi := ⟨some 196, _, _, _, _, _⟩) (v := ?_) rfl (by kernel_rfl) (by kernel_rfl) (by kernel_rfl) (fun _ _ _ h => h) (Or.inl ⟨by rfl, ?_⟩) (by assumption) ?_
                  rotate_left
                  · (intro w hSw; (try dsimp only at hSw); go_simp; try with_reducible rfl)
                  try simp only [Act.put, List.setIfInBounds_toArray, List.set_cons_zero, List.set_cons_succ]
                  refine wpAnyH_take (i := 12) (oi := ⟨some 197, _, _, _, _, _⟩) (v := ?_) rfl (by kernel_rfl) (by kernel_rfl) (by kernel_rfl) (fun _ _ _ h => h) (Or.inl ⟨by rfl, ?_⟩) (by assumption) ?_
                  rotate_left
                  · (intro w hSw; (try dsimp only at hSw); go_simp; try with_reducible rfl)
                  try simp only [Act.put, List.setIfInBounds_toArray, List.set_cons_zero, List.set_cons_succ]
                  refine wpAnyH_ready (rs := [14]) (by kernel_rfl) (by simp) ?_
                  refine AllReadyH.cons (o := ⟨none, _, _, _, _, _⟩) rfl (fun K hK => ?_) AllReadyH.nil
                  refine step_svo (x := zvo) (y := ⟨bt, bt, v⟩) HK0 2 (by rfl) _ _ (by rfl) (by rfl) (by rfl) (by rfl) ?_; clear HK0; intro wq HK0; simp only [List.set] at HK0; have hs := Lib.hid (HK0.out.takeL 2)
                  refine hK.out _ _ hs (fun hHeld => ?_)
                  clear hK K
                  try simp only [ap1, ap2, ap3, ap4, ap5]
                  refine wpAnyH_take (i := 15) (oi := ⟨some 18, _, _, _, _, _⟩) (v := ?_) rfl (by kernel_rfl) (by kernel_rfl) (by kernel_rfl) (fun _ _ _ h => h) (Or.inl ⟨by rfl, ?_⟩) (by assumption) ?_
                  rotate_left
                  · (intro w hSw; (try dsimp only at hSw); go_simp; try with_reducible rfl)
                  try simp only [Act.put, List.setIfInBounds_toArray, List.set_cons_zero, List.set_cons_succ]
                  refine wpAnyH_done (by kernel_rfl) ?_ _
                  rotate_left
                  all_goals
                    have HK := HK0
                    clear HK0 hHeld HP
                    go_upto_region 31 with (first | refine wpList_exe (kv_v HK 2 _ (by rfl) (by rfl) (by rfl)) (by rfl) ?_ | refine wpList_exe (exec_ixvo (i := k) _ _ (by rfl) (by rfl) (by rfl) hk) (by rfl) ?_ | (refine wpList_put (La := voLay) HK 0 rfl _ _ rfl rfl k (by rw [HVL.out]; exact hk) rfl (⟨bt, bt, v⟩ : Bvo) rfl rfl ?_; intro _ HK'; simp only [List.set] at HK'; replace HK := HK'; clear HK'))
                    have HK0 := Lib.hid HK.out.drew
                    clear HK
                    refine wp_region_held_drew (S := (fun W => Hid (Kn w.heap.size w W [(gm, 42, mvC m), (gw, 29, voA y)] [row voLay (.slice (some ⟨g0, 0, none⟩) N N) (vs.set k ⟨bt, bt, v⟩), row (trLay N) (.slice (some ⟨gT, 0, none⟩) nt2 ct2) F2]))) (by kernel_rfl) ?_ (fun hHeld => ?_)
                    · (try dsimp only); exact Lib.hid ((HK0.out.takeL 2).takeR 2)
                    refine wpAnyH_take (i := 0) (oi := ⟨some 202, _, _, _, _, _⟩) (v := ?_) rfl (by kernel_rfl) (by kernel_rfl) (by kernel_rfl) (fun _ _ _ h => h) (Or.inl ⟨by rfl, ?_⟩) (by assumption) ?_
                    rotate_left
                    · (intro w hSw; (try dsimp only at hSw); go_simp; try with_reducible rfl)
                    try simp only [Act.put, List.setIfInBounds_toArray, List.set_cons_zero, List.set_cons_succ]
                    refine wpAnyH_take (i := 1) (oi := ⟨some 203, _, _, _, _, _⟩) (v := ?_) rfl (by kernel_rfl) (by kernel_rfl) (by kernel_rfl) (fun _ _ _ h => h) (Or.inl ⟨by rfl, ?_⟩) (by assumption) ?_
                    rotate_left
                    · (intro w hSw; (try dsimp only at hSw); go_simp; try with_reducible rfl)
                    try simp only [Act.put, List.setIfInBounds_toArray, List.set_cons_zero, List.set_cons_succ]
                    refine wpAnyH_take (i := 2) (oi := ⟨some 204, _, _, _, _, _⟩) (v := ?_) rfl (by kernel_rfl) (by kernel_rfl) (by kernel_rfl) (fun _ _ _ h => h) (Or.inl ⟨by rfl, ?_⟩) (by assumption) ?_
                    rotate_left
                    · (intro w hSw; (try dsimp only at hSw); go_simp; try with_reducible rfl)
                    try simp only [Act.put, List.setIfInBounds_toArray, List.set_cons_zero, List.set_cons_succ]
                    refine wpAnyH_take (i := 3) (oi := ⟨some 205, _, _, _, _, _⟩) (v := ?_) rfl (by kernel_rfl) (by kernel_rfl) (by kernel_rfl) (fun _ _ _ h => h) (Or.inl ⟨by rfl, ?_⟩) (by assumption) ?_
                    rotate_left
                    · (intro w hSw; refine Eq.trans (exec_rtc hSw 1 (by rfl) HX.out 6 (by rfl) _ (by rfl) (by rfl) Try.underlying45 (by rfl)) ?_; with_reducible rfl)
                    try simp only [Act.put, List.setIfInBounds_toArray, List.set_cons_zero, List.set_cons_succ]
                    refine wpAnyH_take (i := 4) (oi := ⟨some 206, _, _, _, _, _⟩) (v := ?_) rfl (by kernel_rfl) (by kernel_rfl) (by kernel_rfl) (fun _ _ _ h => h) (Or.inl ⟨by rfl, ?_⟩) (by assumption) ?_
                    rotate_left
                    · (intro w hSw; (try dsimp only at hSw); go_simp; try with_reducible rfl)
                    try simp only [Act.put, List.setIfInBounds_toArray, List.set_cons_zero, List.set_cons_succ]
                    refine wpAnyH_take (i := 5) (oi := ⟨some 207, _, _, _, _, _⟩) (v := ?_) rfl (by kernel_rfl) (by kernel_rfl) (by kernel_rfl) (fun _ _ _ h => h) (Or.inl ⟨by rfl, ?_⟩) (by assumption) ?_
                    rotate_left
                    · (intro w hSw; (try dsimp only at hSw); go_simp; try with_reducible rfl)
                    try simp only [Act.put, List.setIfInBounds_toArray, List.set_cons_zero, List.set_cons_succ]
                    refine wpAnyH_take (i := 6) (oi := ⟨some 208, _, _, _, _, _⟩) (v := ?_) rfl (by kernel_rfl) (by kernel_rfl) (by kernel_rfl) (fun _ _ _ h => h) (Or.inl ⟨by rfl, ?_⟩) (by assumption) ?_
                    rotate_left
                    · (intro w hSw; (try dsimp only at hSw); go_simp; try with_reducible rfl)
                    try simp only [Act.put, List.setIfInBounds_toArray, List.set_cons_zero, List.set_cons_succ]
                    refine wpAnyH_take (i := 7) (oi := ⟨some 209, _, _, _, _, _⟩) (v := ?_) rfl (by kernel_rfl) (by kernel_rfl) (by kernel_rfl) (fun _ _ _ h => h) (Or.inl ⟨by rfl, ?_⟩) (by assumption) ?_
                    rotate_left
                    · (intro w hSw; (try dsimp only at hSw); go_simp; try with_reducible rfl)
                    try simp only [Act.put, List.setIfInBounds_toArray, List.set_cons_zero, List.set_cons_succ]
                    refine wpAnyH_take (i := 8) (oi := ⟨some 210, _, _, _, _, _⟩) (v := ?_) rfl (by kernel_rfl) (by kernel_rfl) (by kernel_rfl) (fun _ _ _ h => h) (Or.inl ⟨by rfl, ?_⟩) (by assumption) ?_
                    rotate_left
                    · (intro w hSw; refine Eq.trans (exec_rtc hSw 1 (by rfl) HX.out 6 (by rfl) _ (by rfl) (by rfl) Try.underlying45 (by rfl)) ?_; with_reducible rfl)
                    try simp only [Act.put, List.setIfInBounds_toArray, List.set_cons_zero, List.set_cons_succ]
                    refine wpAnyH_take (i := 9) (oi := ⟨some 211, _, _, _, _, _⟩) (v := ?_) rfl (by kernel_rfl) (by kernel_rfl) (by kernel_rfl) (fun _ _ _ h => h) (Or.inl ⟨by rfl, ?_⟩) (by assumption) ?_
                    rotate_left
                    · (intro w hSw; (try dsimp only at hSw); go_simp; try with_reducible rfl)
                    try simp only [Act.put, List.setIfInBounds_toArray, List.set_cons_zero, List.set_cons_succ]
                    refine wpAnyH_take (i := 10) (oi := ⟨some 212, _, _, _, _, _⟩) (v := ?_) rfl (by kernel_rfl) (by kernel_rfl) (by kernel_rfl) (fun _ _ _ h => h) (Or.inl ⟨by rfl, ?_⟩) (by assumption) ?_
                    rotate_left
                    · (intro w hSw; refine Eq.trans (exec_ixbo (i := k) _ _ (by rfl) (by rfl) (by rfl) hk) ?_; with_reducible rfl)
                    try simp only [Act.put, List.setIfInBounds_toArray, List.set_cons_zero, List.set_cons_succ]
                    refine wpAnyH_ready (rs := [11]) (by kernel_rfl) (by simp) ?_
                    refine AllReadyH.cons (o := ⟨some 213, _, _, _, _, _⟩) rfl (fun K hK => ?_) AllReadyH.nil
                    refine step_of_exec (by rfl) (exec_rbo HK0 3 (by rfl) HYk.out _ (by rfl) (by rfl)) ?_; have hs := hHeld
                    refine hK.out _ _ hs (fun hHeld => ?_)
                    clear hK K
                    try simp only [ap1, ap2, ap3, ap4, ap5]
                    refine wpAnyH_take (i := 12) (oi := ⟨some 214, _, _, _, _, _⟩) (v := ?_) rfl (by kernel_rfl) (by kernel_rfl) (by kernel_rfl) (fun _ _ _ h => h) (Or.inl ⟨by rfl, ?_⟩) (by assumption) ?_
                    rotate_left
                    · (intro w hSw; (try dsimp only at hSw); go_simp; try with_reducible rfl)
                    try simp only [Act.put, List.setIfInBounds_toArray, List.set_cons_zero, List.set_cons_succ]
                    refine wpAnyH_take (i := 13) (oi := ⟨some 215, _, _, _, _, _⟩) (v := ?_) rfl (by kernel_rfl) (by kernel_rfl) (by kernel_rfl) (fun _ _ _ h => h) (Or.inl ⟨by rfl, ?_⟩) (by assumption) ?_
                    rotate_left
                    · (intro w hSw; (try dsimp only at hSw); go_simp; try with_reducible rfl)
                    try simp only [Act.put, List.setIfInBounds_toArray, List.set_cons_zero, List.set_cons_succ]
                    refine wpAnyH_take (i := 14) (oi := ⟨some 216, _, _, _, _, _⟩) (v := ?_) rfl (by kernel_rfl) (by kernel_rfl) (by kernel_rfl) (fun _ _ _ h => h) (Or.inl ⟨by rfl, ?_⟩) (by assumption) ?_
                    rotate_left
                    · (intro w hSw; (try dsimp only at hSw); go_simp; try with_reducible rfl)
                    try simp only [Act.put, List.setIfInBounds_toArray, List.set_cons_zero, List.set_cons_succ]
                    refine wpAnyH_take (i := 15) (oi := ⟨some 217, _, _, _, _, _⟩) (v := ?_) rfl (by kernel_rfl) (by kernel_rfl) (by kernel_rfl) (fun _ _ _ h => h) (Or.inl ⟨by rfl, ?_⟩) (by assumption) ?_
                    rotate_left
                    · (intro w hSw; refine Eq.trans (exec_ixbo (i := k) _ _ (by rfl) (by rfl) (by rfl) hk) ?_; with_reducible rfl)
                    try simp only [Act.put, List.setIfInBounds_toArray, List.set_cons_zero, List.set_cons_succ]
                    refine wpAnyH_ready (rs := [16]) (by kernel_rfl) (by simp) ?_
                    refine AllReadyH.cons (o := ⟨none, _, _, _, _, _⟩) rfl (fun K hK => ?_) AllReadyH.nil
                    refine step_ptb HK0 3 (by rfl) _ _ (by rfl) (by rfl) k (by rw [HLy.out]; exact hk) (by rfl) true (by rfl) ?_; clear HK0; intro wq HK0; simp only [List.set] at HK0; have hs := Lib.hid ((HK0.out.takeL 2).takeR 2)
                    refine hK.out _ _ hs (fun hHeld => ?_)
                    clear hK K
                    try simp only [ap1, ap2, ap3, ap4, ap5]
                    refine wpAnyH_done (by kernel_rfl) ?_ _
                    all_goals
                      go_wp2_with fail
                      go_meet
                      exact ⟨_, ⟨⟨bt, sd, pm, v, true, ye.set k true⟩, g1, g2, Ap, kp, cp⟩, ⟨bt, bt, v⟩, Lib.hid (HSt.out.acc HY.out HX.out HOk.out rfl).up, Lib.hid (Blt.bset_at HY.out), Lib.hid HOk.out.2, Lib.hid (by rw [row_tr_same (y := ⟨⟨bt, sd, pm, v, true, ye.set k true⟩, g1, g2, Ap, kp, cp⟩) HX.out rfl]; exact HK0.out.takeL 2)⟩
      case neg =>
        as_aux_lemma =>
          as_aux_lemma =>
            have k2 : (m.k == 2) = false := by rw [beq_eq_false_iff_ne]; omega
            have k3 : (m.k == 3) = false := by rw [beq_eq_false_iff_ne]; omega
            have k4 : (m.k == 4) = false := by rw [beq_eq_false_iff_ne]; omega
            go_wp2_with fail
            go_meet
            exact ⟨_, ⟨⟨bt, sd, pm, v, has, ye⟩, g1, g2, Ap, kp, cp⟩, y, Lib.hid (by rw [Blt.set_self HX.out]; exact HSt.out.up), HY, Lib.hid (Blt.lt_irr _), Lib.hid (by rw [Blt.set_self HX.out]; exact HK.out.takeL 2)⟩
    case rest =>
      as_aux_lemma =>
        clear HK HSt HX HY HLs HLy HVL
        obtain ⟨vs2, x2, y2, HSt2, HY2, HBt, HK⟩ := hcut
        obtain ⟨⟨bt, sd, pm, v, has, ye⟩, g1, g2, Ap, kp, cp⟩ := x2
        have HX : Hid ((F2.set j ⟨⟨bt, sd, pm, v, has, ye⟩, g1, g2, Ap, kp, cp⟩)[j]? = some ⟨⟨bt, sd, pm, v, has, ye⟩, g1, g2, Ap, kp, cp⟩) := Lib.hid (by rw [List.getElem?_set_self (by rw [HFl.out]; exact hj)])
        obtain ⟨_, _, hyl⟩ := HSt2.out.inv.tl j _ (Blt.map_at HX.out)
        replace HK : Hid (Kn w.heap.size w _ [(gm, 42, mvC m), (gw, 29, voA y)] (row voLay (.slice (some ⟨g0, 0, none⟩) N N) vs2 :: row (trLay N) (.slice (some ⟨gT, 0, none⟩) nt2 ct2) (F2.set j ⟨⟨bt, sd, pm, v, has, ye⟩, g1, g2, Ap, kp, cp⟩) :: row bLay (.slice (some ⟨g1, 0, none⟩) N N) sd :: row bLay (.slice (some ⟨g2, 0, none⟩) N N) ye :: row pmLay (.slice Ap kp cp) pm :: O)) := HK
        have HC1 := Lib.hid (fun W => b20ccmp_any y2.p y.p W)
        have HC2 := Lib.hid (fun W => b20ccmp_any y2.a y2.p W)
        have hc1 := Blt.cm_back HBt.out
        have hc2 := HSt2.out.kept HY2.out
        have HMo := Lib.hid (fun W h => bmost_any (some ⟨g2, 0, none⟩) N N ye W h)
        have HFb : Hid (Fits bLay bF ye) := Lib.hid ⟨fun _ _ => trivial, by rw [hyl]; show N * 1 ≤ _; omega⟩
        have HRl : Hid (has = true → Blt.most ye → (ch = ⟨#[]⟩ ∨ ch = v) ∧ Blt.Sta N (i + 1) v vs2 (F2.set j ⟨⟨bt, sd, pm, v, has, ye⟩, g1, g2, Ap, kp, cp⟩)) := Lib.hid (fun h1 h2 => HSt2.out.chose HX.out h1 h2)
        unfold IsIB at HC1 HC2
        clear hyl
        generalize Blt.cm y2.p y.p = m1 at *
        generalize Blt.cm y2.a y2.p = m2 at *
        replace hc1 : decide (m1 < 0) = false := decide_eq_false hc1
        replace hc2 : decide (0 < m2) = false := decide_eq_false hc2
        go_upto_region 33 with (first | refine wpList_exe (exec_ixvo (i := k) _ _ (by rfl) (by rfl) (by rfl) hk) (by rfl) ?_ | refine wpList_exe (exec_rvo HK 0 rfl HY2.out _ (by rfl) (by rfl)) (by rfl) ?_ | (refine wpList_avo HK rfl rfl ?_; intro _ g19 HK'; simp only [List.cons_append, List.nil_append] at HK'; replace HK := HK'; clear HK') | (refine wpList_svo (x := zvo) (y := y2) HK 2 rfl _ _ rfl rfl rfl rfl ?_; intro _ HK'; simp only [List.set] at HK'; replace HK := HK'; clear HK'))
        have d0 := HK.out.cell 2 rfl 0 (v := .int .i64 y2.p.r) rfl
        have d1 := HK.out.cell 2 rfl 1 (v := .int .i64 y2.p.s) rfl
        have d2 := HK.out.cell 1 rfl 0 (v := .int .i64 y.p.r) rfl
        have d3 := HK.out.cell 1 rfl 1 (v := .int .i64 y.p.s) rfl
        go_wp2_with fail
        clear d0 d1 d2 d3
        refine (HC1.out _).mono ?_; rintro e w1 ⟨rfl, b1⟩
        replace HK := Lib.hid (HK.out.call b1); clear b1
        have d0 := HK.out.cell 2 rfl 0 (v := .int .i64 y2.p.r) rfl
        have d1 := HK.out.cell 2 rfl 1 (v := .int .i64 y2.p.s) rfl
        have d2 := HK.out.cell 2 rfl 2 (v := .int .i64 y2.a.r) rfl
        have d3 := HK.out.cell 2 rfl 3 (v := .int .i64 y2.a.s) rfl
        go_wp2_with fail
        clear d0 d1 d2 d3
        refine (HC2.out _).mono ?_; rintro e w1 ⟨rfl, b1⟩
        replace HK := Lib.hid (HK.out.call b1); clear b1
        go_upto_region 35 with fail
        clear HC1 HC2 hc1 hc2 HY2 HBt HAw
        cases has with
        | false =>
          have c5 := HK.out.trc (j := 1) rfl HX.out 5 rfl
          clear HRl HMo HFb
          go_upto_region 6 with fail
          go_wp2_with (first | refine wpList_exe (exec_add1 (j := i) _ (by rfl) (by rfl) hi3) (by rfl) ?_)
          exact ⟨⟨i + 1, nt2, ct2, some ⟨gT, 0, none⟩, ch, vs2, F2.set j ⟨⟨bt, sd, pm, v, false, ye⟩, g1, g2, Ap, kp, cp⟩, hlt, by omega, rfl, rfl, rfl, Lib.hid (by rw [List.length_set]; exact HFl.out), HSt2, Lib.hid ((HK.out.takeL 0).perm (List.Perm.cons _ (List.Perm.cons _ (HBk.out ⟨⟨bt, sd, pm, v, false, ye⟩, g1, g2, Ap, kp, cp⟩))))⟩, by simp [intOf]; omega⟩
        | true =>
          have c5 := HK.out.trc (j := 1) rfl HX.out 5 rfl
          have c6 := HK.out.trc (j := 1) rfl HX.out 6 rfl
          by_cases hms : Blt.most ye
          case neg =>
            rw [decide_eq_false hms] at HMo
            clear HRl hms
            go_wp2_with fail
            refine (HMo.out _ (Sls.own (HK.out.own 3 rfl) HFb.out)).mono ?_; rintro e w1 ⟨rfl, rfl⟩
            clear HMo HFb
            go_upto_region 6 with fail
            go_wp2_with (first | refine wpList_exe (exec_add1 (j := i) _ (by rfl) (by rfl) hi3) (by rfl) ?_)
            exact ⟨⟨i + 1, nt2, ct2, some ⟨gT, 0, none⟩, ch, vs2, F2.set j ⟨⟨bt, sd, pm, v, true, ye⟩, g1, g2, Ap, kp, cp⟩, hlt, by omega, rfl, rfl, rfl, Lib.hid (by rw [List.length_set]; exact HFl.out), HSt2, Lib.hid ((HK.out.takeL 0).perm (List.Perm.cons _ (List.Perm.cons _ (HBk.out ⟨⟨bt, sd, pm, v, true, ye⟩, g1, g2, Ap, kp, cp⟩))))⟩, by simp [intOf]; omega⟩
          case pos =>
            rw [decide_eq_true hms] at HMo
            obtain ⟨hch, hst3⟩ := HRl.out rfl hms
            have HSt3 := Lib.hid hst3
            clear HRl hms hst3 HSt2
            have hv : ch = ⟨#[]⟩ ∨ (ch = v ∧ ¬ v = ⟨#[]⟩) := by
              by_cases h : ch = ⟨#[]⟩
              · exact .inl h
              · exact .inr ⟨hch.resolve_left h, (hch.resolve_left h) ▸ h⟩
            clear hch
            rcases hv with rfl | ⟨rfl, hv⟩
            · go_wp2_with fail
              refine (HMo.out _ (Sls.own (HK.out.own 3 rfl) HFb.out)).mono ?_; rintro e w1 ⟨rfl, rfl⟩
              clear HMo HFb
              go_upto_region 38 with fail
              clear c5 c6
              have c4 := HK.out.trc (j := 1) rfl HX.out 4 rfl
              go_upto_region 6 with fail
              go_wp2_with (first | refine wpList_exe (exec_add1 (j := i) _ (by rfl) (by rfl) hi3) (by rfl) ?_)
              exact ⟨⟨i + 1, nt2, ct2, some ⟨gT, 0, none⟩, v, vs2, F2.set j ⟨⟨bt, sd, pm, v, true, ye⟩, g1, g2, Ap, kp, cp⟩, hlt, by omega, rfl, rfl, rfl, Lib.hid (by rw [List.length_set]; exact HFl.out), HSt3, Lib.hid ((HK.out.takeL 0).perm (List.Perm.cons _ (List.Perm.cons _ (HBk.out ⟨⟨bt, sd, pm, v, true, ye⟩, g1, g2, Ap, kp, cp⟩))))⟩, by simp [intOf]; omega⟩
            · have HV : Hid ((!decide (ch = ⟨#[]⟩)) = true) := Lib.hid (by simp [hv])
              have HV2 : Hid ((!decide (ch = ch)) = false) := Lib.hid (by simp)
              clear hv
              go_wp2_with fail
              refine (HMo.out _ (Sls.own (HK.out.own 3 rfl) HFb.out)).mono ?_; rintro e w1 ⟨rfl, rfl⟩
              clear HMo HFb
              go_upto_region 36 with fail
              clear c5 c6
              go_upto_region 38 with (first | refine wpList_exe (exec_sneb (x := ch) (y := ⟨#[]⟩) _ _ (by rfl) (by rfl) (by rfl) HV.out) (by rfl) ?_ | refine wpList_exe (exec_rtc HK 1 rfl HX.out 4 rfl _ (by rfl) (by rfl) Try.underlying9 rfl) (by rfl) ?_ | refine wpList_exe (exec_sneb (x := ch) (y := ch) _ _ (by rfl) (by rfl) (by rfl) HV2.out) (by rfl) ?_)
              have c4 := HK.out.trc (j := 1) rfl HX.out 4 rfl
              go_upto_region 6 with fail
              go_wp2_with (first | refine wpList_exe (exec_add1 (j := i) _ (by rfl) (by rfl) hi3) (by rfl) ?_)
              exact ⟨⟨i + 1, nt2, ct2, some ⟨gT, 0, none⟩, ch, vs2, F2.set j ⟨⟨bt, sd, pm, ch, true, ye⟩, g1, g2, Ap, kp, cp⟩, hlt, by omega, rfl, rfl, rfl, Lib.hid (by rw [List.length_set]; exact HFl.out), HSt3, Lib.hid ((HK.out.takeL 0).perm (List.Perm.cons _ (List.Perm.cons _ (HBk.out ⟨⟨bt, sd, pm, ch, true, ye⟩, g1, g2, Ap, kp, cp⟩))))⟩, by simp [intOf]; omega⟩
end Go.Proofs.Ytfganmbjaglmiaa
