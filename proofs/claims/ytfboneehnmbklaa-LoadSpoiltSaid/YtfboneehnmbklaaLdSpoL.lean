/-
  The law LoadSpoilt.
  No condition but the form's own reach of a text.
-/
import Derived.Test.YtfboneehnmbklaaLdWhoL
import Derived.Test.YtfboneehnmbklaaLdSpM
import Derived.Lib.Strings
import Derived.Laws.IdiomStrings
import Derived.Deep.DeepCutAuto
set_option linter.unusedSimpArgs false
set_option linter.unusedVariables false
namespace Go.Proofs.Ytfboneehnmbklaa
open Go.RowKit

theorem info_s1 : (Try.prog.info? 9).map (·.size) = some 1 := by kernel_rfl
theorem wpList_spd {b0 : Nat} {w0 w : World} {L : List (Nat × TypeId × Array Value)} {R : List RowE} {ops : Array Oper} {rest : List Oper} {o : Oper} {a : Act} {Q : Exit → Act → World → Prop} {g : Nat} {n c t : Int} {s : Nat} {d d2 : ByteArray} (HK : Hid (Kn b0 w0 w L R)) (i : Nat) (hgd : o.guard = none) (p q : Operand) (ho : o.op = .store 9 p q) (hL : L[i]? = some (g, 24, pcC n c t s d)) (hx : a.eval p = .pointer (some ⟨g, 4, none⟩)) (hy : a.eval q = .string d2)
    (h : ∀ w', Hid (Kn b0 w0 w' (L.set i (g, 24, pcC n c t s d2)) R) → wpList Try.prog ops Q rest (a.put o.dst undef) w') : wpList Try.prog ops Q (o :: rest) a w :=
  wpList_plain hgd fun _ hK => kwp_sc HK _ p q ho i hL hx hy rfl rfl (by show 4 < 5; decide) info_s1 fun w' h1 _ => hK _ _ (h w' h1)
theorem bk_pr {s : ByteArray} {i t k : Nat} (hs : s.size ≤ 16384) (hk : k < Ldm.cn s.size) : Ldm.PR ⟨1, (k : Int), (Ldm.cn s.size : Nat), Crc.more 0 s.data.toList, Ldm.bk s i t k⟩ := by
  have h := pce_pr (v := 1) hs hk
  have e := Ldm.bk_size s i t k
  exact ⟨h.1, fun q => by show (Ldm.bk s i t k).size = 64; rw [e]; exact h.2.1 q, fun q => by
    have h2 := h.2.2 q
    exact ⟨by show (Ldm.bk s i t k).size ≤ 64; rw [e]; exact h2.1, by
      rcases h2.2 with h3 | h3
      · left; show 0 < (Ldm.bk s i t k).size; rw [e]; exact h3
      · exact .inr h3⟩⟩
/-- A row of bytes read back as a text. -/
theorem conv_back {w : World} {B c : Nat} {l : List UInt8} (h : Owns w B l) : (convert 50 9 (.slice (some ⟨B, 0, none⟩) l.length c)).run Try.prog w = .ok (.string ⟨l.toArray⟩) w :=
  run_convert_bytes_back (P := Try.prog) w 50 9 5 ⟨B, 0, none⟩ c l Try.underlying50 Try.underlying5 Try.underlying9 (fun j hj => by
    have h2 := (h j hj).1
    rw [show (⟨B, 0, none⟩ : Addr).add j = ⟨B, j, none⟩ from by unfold Addr.add; split <;> simp_all, h2]
    simp [List.getD, hj])
set_option maxRecDepth 100000 in
set_option maxHeartbeats 25600000 in
theorem lspoilts_any (s : ByteArray) (at' : Int) (turn : Nat) (w : World) (hs : s.size ≤ reachBytes) :
    Lift.Yes Try.prog 7 #[.string s, .int .i64 at', .int .u32 (turn : Int)] w := by
  have hs2 : s.size ≤ 140737488351232 := hs
  have HAw := Lib.hid lawake_any
  have HN := Lib.hid (fun W => (count_any s W hs2).mono fun e w' h => (⟨h.1, h.2.symm⟩ : e = .returned (.int .i64 (Ldm.cn s.size : Nat)) ∧ W = w'))
  have HNew := Lib.hid (fun W => lnew_any 1 W)
  have HK := Lib.hid (Kn.start w)
  clear hs
  unfold IsB at HAw
  unfold Lift.Yes
  by_cases hc : 0 < s.size ∧ s.size ≤ 2000 ∧ ¬ turn = 0
  case neg =>
    have h4 : ((s.size : Int) == 0) = true ∨ (((s.size : Int) == 0) = false ∧ (2000 : Int) < (s.size : Int)) ∨ (((s.size : Int) == 0) = false ∧ ¬ (2000 : Int) < (s.size : Int) ∧ ((turn : Int) == 0) = true) := by
      by_cases x1 : s.size = 0
      · left; exact beq_iff_eq.2 (by omega)
      · by_cases x2 : 2000 < s.size
        · right; left; exact ⟨beq_eq_false_iff_ne.2 (by omega), by omega⟩
        · right; right; exact ⟨beq_eq_false_iff_ne.2 (by omega), by omega, beq_iff_eq.2 (by omega)⟩
    clear hc HN HNew
    rcases h4 with q1 | ⟨q1, q2⟩ | ⟨q1, q2, q3⟩
    all_goals
      go_enter Try.func7, Try.ntmps7
      go_wp2_with fail
      refine (HAw.out _).mono ?_; rintro e w1 ⟨rfl, b1⟩
      replace HK := Lib.hid (HK.out.call b1); clear b1
      go_wp2_with fail
      go_ret
      exact ⟨rfl, HK.out.b⟩
  obtain ⟨hs1, hs3, ht⟩ := hc
  have hs6 : s.size ≤ 16384 := by omega
  obtain ⟨p, hpn, hpe⟩ := ltmod_at at' s.size hs1
  have hp6 : IntKind.i64.wrap (p : Int) = (p : Int) := by rw [IntKind.wrap_i64]; omega
  have hwS : IntKind.u64.wrap (s.size : Int) = (s.size : Int) := by rw [IntKind.wrap_u64]; omega
  have q1 : ((s.size : Int) == 0) = false := beq_eq_false_iff_ne.2 (by omega)
  have q2 : ¬ (2000 : Int) < (s.size : Int) := by omega
  have q3 : ((turn : Int) == 0) = false := beq_eq_false_iff_ne.2 (by omega)
  have hN1 := Ldm.cn_pos s.size
  have hN2 := Ldm.cn_le hs6
  have HSt : Hid (∀ (y : Ldd) (k : Nat), Ldm.SI s p turn k y → k < Ldm.cn s.size → Ldm.SI s p turn (k + 1) (Ldm.tk y ⟨1, (k : Int), (Ldm.cn s.size : Nat), Crc.more 0 s.data.toList, Ldm.bk s p turn k⟩)) := Lib.hid fun y k h hk => Ldm.si_step h hs6 hk (bk_pr hs6 hk)
  have HEnd : Hid (∀ (y : Ldd), Ldm.SI s p turn (Ldm.cn s.size) y → (Ldm.bk s p turn (p / 64) = Ldm.pce s (p / 64) → Ldm.whE y = 0 ∧ Ldm.wh y = s) ∧ (¬ Ldm.bk s p turn (p / 64) = Ldm.pce s (p / 64) → Ldm.whE y = 4 ∧ Ldm.wh y = ⟨#[]⟩)) := Lib.hid fun y h => Ldm.si_end h hpn hs6
  have HPs : Hid (∀ (k : Nat), k < Ldm.cn s.size → (Ldm.pce s k).size ≤ 64) := Lib.hid fun k hk => pr_size (pce_pr (v := 1) hs6 hk)
  have HBs : Hid (∀ (k : Nat), (Ldm.bk s p turn k).size = (Ldm.pce s k).size) := Lib.hid fun k => Ldm.bk_size s p turn k
  have HBt : Hid (∀ (k : Nat), p / 64 = k → Crc.turned (Ldm.pce s k).data.toList (p % 64) turn 4 = (Ldm.bk s p turn k).data.toList) := Lib.hid fun k h => by unfold Ldm.bk; rw [if_pos h]
  have HBn : Hid (∀ (k : Nat), ¬ p / 64 = k → Ldm.bk s p turn k = Ldm.pce s k) := Lib.hid fun k h => by unfold Ldm.bk; rw [if_neg h]
  have HCut : Hid (∀ (k : Nat), k < Ldm.cn s.size → ∀ W, Calls Try.prog 8 #[.int .i64 1, .string s, .int .i64 (k : Int)] W fun e w' => e = .returned (.tuple #[.agg #[.int .i64 1, .int .i64 (k : Int), .int .i64 (Ldm.cn s.size : Nat), .int .u32 (Crc.more 0 s.data.toList : Nat), .string (Ldm.pce s k)], .int .i64 0]) ∧ Below W.heap.size W w') := Lib.hid fun k hk W => by
    have h := lcut_any 1 s (k : Int) W hs2
    rw [(ct_pce (v := 1) hs6 hk).1, (ct_pce (v := 1) hs6 hk).2] at h
    exact h
  have HSI := Lib.hid (Ldm.si_new s p turn)
  have hKN : p / 64 < Ldm.cn s.size := by have := Ldm.cn_cover s.size; omega
  have hd64 : (p : Int) / 64 = ((p / 64 : Nat) : Int) := by omega
  have hm64 : (p : Int) % 64 = ((p % 64 : Nat) : Int) := by omega
  have hm6 : p % 64 < 64 := by omega
  clear hs2 hs6
  generalize Ldm.cn s.size = N at *
  generalize Crc.more 0 s.data.toList = CR at *
  generalize p / 64 = K0 at *
  generalize p % 64 = m0 at *
  go_enter Try.func7, Try.ntmps7
  go_wp2_with fail
  refine (HNew.out _).mono ?_; rintro e w1 ⟨rfl, b1⟩
  replace HK := Lib.hid (HK.out.call b1); clear b1
  go_upto_region 7 with (first | (refine wpList_akl HK rfl rfl ?_; intro _ g8 HK'; simp only [List.cons_append, List.nil_append] at HK'; replace HK := HK'; clear HK') | (refine wpList_sl HK 0 rfl _ _ rfl rfl rfl rfl rfl rfl ?_; intro _ HK'; simp only [List.set] at HK'; replace HK := HK'; clear HK'))
  have HK1 := Lib.hid ((HK.out.nilR bLay).nilR sLay)
  simp only [List.cons_append, List.nil_append] at HK1
  clear HK HNew q1 q2 q3 hpe hwS hp6
  have HK := HK1
  clear HK1
  go_loopw [9, 10] (fun vt vk wr => ∃ (k : Nat) (y : Ldd) (A1 : Option Addr) (n1 c1 : Nat) (A2 : Option Addr) (n2 c2 : Nat), k ≤ N ∧ vt = .bool (decide (K0 < k ∧ ¬ Ldm.bk s p turn K0 = Ldm.pce s K0)) ∧ vk = .int .i64 k ∧ Hid (Ldm.SI s p turn k y) ∧ Hid (PG y) ∧ Hid (Kn w.heap.size w wr [(g8, 35, ldC y.n y.t y.s (.slice A1 n1 c1) (.slice A2 n2 c2))] [row bLay (.slice A1 n1 c1) y.h, row sLay (.slice A2 n2 c2) y.d])) (fun _ vk _ => N - (intOf vk).toNat)
  case atStart => exact ⟨0, ⟨1, 0, 0, [], []⟩, none, 0, 0, none, 0, 0, Nat.zero_le _, by rw [decide_eq_false (fun h => absurd h.1 (by omega))], rfl, HSI, Lib.hid ⟨by simp, by simp, fun x hx => by cases hx⟩, HK⟩
  case round =>
    clear HK HSI
    obtain ⟨k, y, A1, n1, c1, A2, n2, c2, hk, rfl, rfl, HI, HG, HK⟩ := hrel
    have hk0 : (0 : Int) ≤ (k : Int) := by omega
    by_cases hlt : k < N
    case neg =>
      obtain rfl : k = N := by omega
      have HW := Lib.hid (fun A n c A2 n2 c2 W h1 h2 => lwhole_any y A n c A2 n2 c2 W h1 h2 HG.out.cat)
      unfold IsSE at HW
      have HE2 := Lib.hid (HEnd.out y HI.out)
      clear HSt HEnd HPs HBs HBt HBn HCut
      generalize Ldm.wh y = ws at *
      generalize Ldm.whE y = we at *
      by_cases hQ : Ldm.bk s p turn K0 = Ldm.pce s K0
      · obtain ⟨rfl, rfl⟩ := HE2.out.1 hQ
        rw [decide_eq_false (fun h => h.2 hQ)]
        clear HE2 hQ
        go_wp2_with fail
        refine (HN.out _).mono ?_; rintro e w1 ⟨rfl, rfl⟩
        go_wp2_with (first | refine wpList_exe (kl_l HK 0 _ (by rfl) (by rfl) (by rfl)) (by rfl) ?_)
        refine (HW.out _ _ _ _ _ _ _ (Sls.own (HK.out.own 0 rfl) HG.out.fb) (Sls.own (HK.out.own 1 rfl) HG.out.fs)).mono ?_; rintro e w7 ⟨rfl, b1⟩
        replace HK := Lib.hid (HK.out.call b1); clear b1
        go_wp2_with fail
        refine (HAw.out _).mono ?_; rintro e w1 ⟨rfl, b1⟩
        replace HK := Lib.hid (HK.out.call b1); clear b1
        go_wp2_with fail
        go_ret
        exact ⟨rfl, HK.out.b⟩
      · obtain ⟨rfl, rfl⟩ := HE2.out.2 hQ
        rw [decide_eq_true ⟨hKN, hQ⟩]
        clear HE2 hQ
        go_wp2_with fail
        refine (HN.out _).mono ?_; rintro e w1 ⟨rfl, rfl⟩
        go_wp2_with (first | refine wpList_exe (kl_l HK 0 _ (by rfl) (by rfl) (by rfl)) (by rfl) ?_)
        refine (HW.out _ _ _ _ _ _ _ (Sls.own (HK.out.own 0 rfl) HG.out.fb) (Sls.own (HK.out.own 1 rfl) HG.out.fs)).mono ?_; rintro e w7 ⟨rfl, b1⟩
        replace HK := Lib.hid (HK.out.call b1); clear b1
        go_wp2_with fail
        refine (HAw.out _).mono ?_; rintro e w1 ⟨rfl, b1⟩
        replace HK := Lib.hid (HK.out.call b1); clear b1
        go_wp2_with fail
        go_ret
        exact ⟨rfl, HK.out.b⟩
    have hlt2 : (k : Int) < (N : Int) := by omega
    have hk3 : k < 9223372036854775807 := by omega
    have hwk : IntKind.i64.wrap ((k : Int) + 1) = ((k + 1 : Nat) : Int) := by rw [IntKind.wrap_i64]; omega
    have HC1 := Lib.hid (HCut.out k hlt)
    have hpd : (Ldm.pce s k).size ≤ 64 := HPs.out k hlt
    have hbs := HBs.out k
    have HT1 := Lib.hid (fun A n c A2 n2 c2 W h1 h2 => ltake_any y ⟨1, (k : Int), (N : Nat), CR, Ldm.bk s p turn k⟩ A n c A2 n2 c2 W h1 h2 (by show (Ldm.bk s p turn k).size ≤ _; omega))
    unfold IsLE at HT1
    have HI2 := Lib.hid (HSt.out y k HI.out hlt)
    have HG2 : Hid (PG (Ldm.tk y ⟨1, (k : Int), (N : Nat), CR, Ldm.bk s p turn k⟩)) := Lib.hid HG.out.tk
    generalize Ldm.tk y ⟨1, (k : Int), (N : Nat), CR, Ldm.bk s p turn k⟩ = z at *
    simp only at HT1
    clear HEnd HPs HBs HCut HSt
    generalize hfl : decide (K0 < k ∧ ¬ Ldm.bk s p turn K0 = Ldm.pce s K0) = fl at *
    have HFl := Lib.hid hfl
    clear hfl
    have hb := fun w => run_bytes_of_string (P := Try.prog) w 9 50 5 (Ldm.pce s k) Try.underlying9 Try.underlying50 Try.underlying5
    generalize hpq : Ldm.pce s k = pd at *
    generalize hbq : Ldm.bk s p turn k = bd at *
    have HPQ := Lib.hid hpq
    have HBQ := Lib.hid hbq
    clear hpq hbq
    go_wp2_with fail
    refine (HN.out _).mono ?_; rintro e w1 ⟨rfl, rfl⟩
    go_wp2_with fail
    refine (HC1.out _).mono ?_; rintro e w1 ⟨rfl, b1⟩
    replace HK := Lib.hid (HK.out.call b1); clear b1
    clear HC1 HN
    go_upto_region 12 with (first | (refine wpList_akp HK rfl rfl ?_; intro _ g3 HK'; simp only [List.cons_append, List.nil_append] at HK'; replace HK := HK'; clear HK') | (refine wpList_sp HK 1 rfl _ _ rfl rfl rfl rfl ?_; intro wb HK'; simp only [List.set] at HK'; replace HK := HK'; clear HK') | refine wpList_exe (kp_d_ HK 1 _ (by rfl) (by rfl) (by rfl)) (by rfl) ?_)
    clear hb
    have hz : pd.data.toList.length = pd.size := by rw [Array.length_toList]; rfl
    by_cases hKk : K0 = k
    · subst hKk
      have hKb : ((K0 : Int) == (K0 : Int)) = true := by simp
      go_loopw [14] (fun vj wr => ∃ (j : Nat), j ≤ 4 ∧ vj = .int .i64 j ∧ Owns wr wb.heap.size (Crc.turned pd.data.toList m0 turn j) ∧ Below wb.heap.size wb wr) (fun vj _ => 4 - (intOf vj).toNat)
      case atStart => exact ⟨0, by omega, rfl, owns_made _ _ _ _, by go_grown⟩
      case round =>
        obtain ⟨j, hj, rfl, hown, hbel⟩ := hrel
        have hj0 : (0 : Int) ≤ (j : Int) := by omega
        have hl := Crc.turned_length pd.data.toList m0 turn j
        have hT : Hid (Crc.turned pd.data.toList m0 turn (j + 1) = if m0 + j < pd.data.toList.length then (Crc.turned pd.data.toList m0 turn j).set (m0 + j) ((Crc.turned pd.data.toList m0 turn j).getD (m0 + j) 0 ^^^ UInt8.ofNat (turn / 2 ^ (8 * j))) else Crc.turned pd.data.toList m0 turn j) := Lib.hid rfl
        rw [hz] at hl hT
        by_cases hjl : j < 4
        · have hjl2 : (j : Int) < 4 := by omega
          by_cases hq : m0 + j < pd.size
          · have hq2 : (m0 : Int) + (j : Int) < (pd.size : Int) := by omega
            obtain ⟨hc, hf⟩ := hown (m0 + j) (by omega)
            have HO := Lib.hid hown
            clear hown
            generalize Crc.turned pd.data.toList m0 turn j = l at *
            generalize l.getD (m0 + j) 0 = x at *
            have HL := Lib.hid hl
            have HZ := Lib.hid hz
            clear hl hz
            go_wp2_with fail
            go_region
            all_goals go_wp2_with fail
            all_goals go_roundw
            case rel =>
              refine ⟨j + 1, by omega, by go_num, ?_, ?_⟩
              · rw [hT.out, if_pos hq]
                exact (HO.out.set (m0 + j) (by rw [HL.out]; exact hq) _ _ (xor_turn x turn j)).drew
              · exact (hbel.setCell (Nat.le_refl _) _).drew
            case measure => simp [intOf]; omega
          · have hq2 : ¬ (m0 : Int) + (j : Int) < (pd.size : Int) := by omega
            have HO := Lib.hid hown
            clear hown
            generalize Crc.turned pd.data.toList m0 turn j = l at *
            have HL := Lib.hid hl
            have HZ := Lib.hid hz
            clear hl hz
            go_wp2_with fail
            go_roundw
            case rel => exact ⟨j + 1, by omega, by go_num, by rw [hT.out, if_neg hq]; exact HO.out, hbel⟩
            case measure => simp [intOf]; omega
        · obtain rfl : j = 4 := by omega
          have hjl2 : ¬ ((4 : Nat) : Int) < 4 := by omega
          have hTT : Crc.turned pd.data.toList m0 turn 4 = bd.data.toList := by
            have h := HBt.out K0 rfl
            rw [HPQ.out, HBQ.out] at h
            exact h
          rw [hTT] at hown
          obtain rfl : fl = false := by rw [← HFl.out]; exact decide_eq_false (fun h => absurd h.1 (Nat.lt_irrefl _))
          clear hl hT hTT HBt HBn HFl hz
          have hbl : bd.data.toList.length = pd.size := by rw [Array.length_toList]; exact hbs
          have hcv : (convert 50 9 (.slice (some ⟨wb.heap.size, 0, none⟩) pd.size (grownCap wb pd.size 0 5))).run Try.prog wr = .ok (.string bd) wr := by
            have h := conv_back (c := grownCap wb pd.size 0 5) hown
            rw [hbl, Array.toArray_toList] at h
            exact h
          have hpf := HK.out.call hbel
          replace HK := Lib.hid hpf
          have f4 := HK.out.cell 1 rfl 4 (v := .string pd) rfl
          clear hpf hbel hown hbl
          by_cases hQ : bd = pd
          · have HQ : Hid (Ldm.bk s p turn K0 = Ldm.pce s K0) := Lib.hid (HBQ.out.trans (hQ.trans HPQ.out.symm))
            have HFL : Hid (decide (K0 < K0 + 1 ∧ ¬ Ldm.bk s p turn K0 = Ldm.pce s K0) = false) := Lib.hid (decide_eq_false (fun h => h.2 HQ.out))
            clear HPQ HBQ HQ
            subst hQ
            go_upto_region 18 with (first | (refine wpList_spd HK 1 rfl _ _ rfl rfl rfl rfl ?_; intro _ HK'; simp only [List.set] at HK'; replace HK := HK'; clear HK'))
            go_wp2_with (first | refine wpList_exe (kl_l HK 0 _ (by rfl) (by rfl) (by rfl)) (by rfl) ?_ | refine wpList_exe (kp_p HK 1 _ (by rfl) (by rfl) (by rfl)) (by rfl) ?_)
            refine (HT1.out _ _ _ _ _ _ _ (Sls.own (HK.out.own 0 rfl) HG.out.fb) (Sls.own (HK.out.own 1 rfl) HG.out.fs)).mono ?_; rintro e w3 ⟨A3, n3, c3, A4, n4, c4, rfl, k3⟩; replace HK := Lib.hid (HK.out.join k3); simp only [List.cons_append, List.nil_append] at HK; clear k3
            clear HT1
            go_wp2_with (first | (refine wpList_sl HK 0 rfl _ _ rfl rfl rfl rfl rfl rfl ?_; intro _ HK'; simp only [List.set] at HK'; replace HK := HK'; clear HK'))
            exact ⟨⟨K0 + 1, z, A3, n3, c3, A4, n4, c4, hlt, by rw [HFL.out], by go_num, HI2, HG2, Lib.hid ((HK.out.takeL 1).dropR 2)⟩, by simp [intOf, hwk]; omega⟩
          · have HFL : Hid (decide (K0 < K0 + 1 ∧ ¬ Ldm.bk s p turn K0 = Ldm.pce s K0) = true) := Lib.hid (decide_eq_true ⟨by omega, fun h => hQ (HBQ.out.symm.trans (h.trans HPQ.out))⟩)
            have hq2 : ¬ bd.toList = pd.toList := fun h => hQ (bytes_ext h)
            clear HPQ HBQ hQ
            go_upto_region 18 with (first | (refine wpList_spd HK 1 rfl _ _ rfl rfl rfl rfl ?_; intro _ HK'; simp only [List.set] at HK'; replace HK := HK'; clear HK'))
            go_wp2_with (first | refine wpList_exe (kl_l HK 0 _ (by rfl) (by rfl) (by rfl)) (by rfl) ?_ | refine wpList_exe (kp_p HK 1 _ (by rfl) (by rfl) (by rfl)) (by rfl) ?_)
            refine (HT1.out _ _ _ _ _ _ _ (Sls.own (HK.out.own 0 rfl) HG.out.fb) (Sls.own (HK.out.own 1 rfl) HG.out.fs)).mono ?_; rintro e w3 ⟨A3, n3, c3, A4, n4, c4, rfl, k3⟩; replace HK := Lib.hid (HK.out.join k3); simp only [List.cons_append, List.nil_append] at HK; clear k3
            clear HT1
            go_wp2_with (first | (refine wpList_sl HK 0 rfl _ _ rfl rfl rfl rfl rfl rfl ?_; intro _ HK'; simp only [List.set] at HK'; replace HK := HK'; clear HK'))
            exact ⟨⟨K0 + 1, z, A3, n3, c3, A4, n4, c4, hlt, by rw [HFL.out]; simp [hq2], by go_num, HI2, HG2, Lib.hid ((HK.out.takeL 1).dropR 2)⟩, by simp [intOf, hwk]; omega⟩

    · have hKb : ((K0 : Int) == (k : Int)) = false := beq_eq_false_iff_ne.2 (by omega)
      go_loopw [14] (fun vj wr => ∃ (j : Nat), j ≤ 4 ∧ vj = .int .i64 j ∧ Owns wr wb.heap.size (pd.data.toList) ∧ Below wb.heap.size wb wr) (fun vj _ => 4 - (intOf vj).toNat)
      case atStart => exact ⟨0, by omega, rfl, owns_made _ _ _ _, by go_grown⟩
      case round =>
        obtain ⟨j, hj, rfl, hown, hbel⟩ := hrel
        have hj0 : (0 : Int) ≤ (j : Int) := by omega
        by_cases hjl : j < 4
        · have hjl2 : (j : Int) < 4 := by omega
          have HO := Lib.hid hown
          clear hown
          go_wp2_with fail
          go_roundw
          case rel => exact ⟨j + 1, by omega, by go_num, HO.out, hbel⟩
          case measure => simp [intOf]; omega
        · obtain rfl : j = 4 := by omega
          obtain rfl : bd = pd := by rw [← HBQ.out, ← HPQ.out]; exact HBn.out k hKk
          have HFL : Hid (decide (K0 < k + 1 ∧ ¬ Ldm.bk s p turn K0 = Ldm.pce s K0) = fl) := Lib.hid (by rw [← HFl.out, decide_eq_decide]; exact ⟨fun h => ⟨by have := h.1; omega, h.2⟩, fun h => ⟨by have := h.1; omega, h.2⟩⟩)
          clear HBt HBn HFl hz HPQ HBQ
          have hbl : bd.data.toList.length = bd.size := by rw [Array.length_toList]; exact hbs
          have hcv : (convert 50 9 (.slice (some ⟨wb.heap.size, 0, none⟩) bd.size (grownCap wb bd.size 0 5))).run Try.prog wr = .ok (.string bd) wr := by
            have h := conv_back (c := grownCap wb bd.size 0 5) hown
            rw [hbl, Array.toArray_toList] at h
            exact h
          have hpf := HK.out.call hbel
          replace HK := Lib.hid hpf
          have f4 := HK.out.cell 1 rfl 4 (v := .string bd) rfl
          clear hpf hbel hown hbl
          cases fl
          · skip
            go_upto_region 18 with (first | (refine wpList_spd HK 1 rfl _ _ rfl rfl rfl rfl ?_; intro _ HK'; simp only [List.set] at HK'; replace HK := HK'; clear HK'))
            go_wp2_with (first | refine wpList_exe (kl_l HK 0 _ (by rfl) (by rfl) (by rfl)) (by rfl) ?_ | refine wpList_exe (kp_p HK 1 _ (by rfl) (by rfl) (by rfl)) (by rfl) ?_)
            refine (HT1.out _ _ _ _ _ _ _ (Sls.own (HK.out.own 0 rfl) HG.out.fb) (Sls.own (HK.out.own 1 rfl) HG.out.fs)).mono ?_; rintro e w3 ⟨A3, n3, c3, A4, n4, c4, rfl, k3⟩; replace HK := Lib.hid (HK.out.join k3); simp only [List.cons_append, List.nil_append] at HK; clear k3
            clear HT1
            go_wp2_with (first | (refine wpList_sl HK 0 rfl _ _ rfl rfl rfl rfl rfl rfl ?_; intro _ HK'; simp only [List.set] at HK'; replace HK := HK'; clear HK'))
            exact ⟨⟨k + 1, z, A3, n3, c3, A4, n4, c4, hlt, by rw [HFL.out], by go_num, HI2, HG2, Lib.hid ((HK.out.takeL 1).dropR 2)⟩, by simp [intOf, hwk]; omega⟩
          · skip
            go_upto_region 18 with (first | (refine wpList_spd HK 1 rfl _ _ rfl rfl rfl rfl ?_; intro _ HK'; simp only [List.set] at HK'; replace HK := HK'; clear HK'))
            go_wp2_with (first | refine wpList_exe (kl_l HK 0 _ (by rfl) (by rfl) (by rfl)) (by rfl) ?_ | refine wpList_exe (kp_p HK 1 _ (by rfl) (by rfl) (by rfl)) (by rfl) ?_)
            refine (HT1.out _ _ _ _ _ _ _ (Sls.own (HK.out.own 0 rfl) HG.out.fb) (Sls.own (HK.out.own 1 rfl) HG.out.fs)).mono ?_; rintro e w3 ⟨A3, n3, c3, A4, n4, c4, rfl, k3⟩; replace HK := Lib.hid (HK.out.join k3); simp only [List.cons_append, List.nil_append] at HK; clear k3
            clear HT1
            go_wp2_with (first | (refine wpList_sl HK 0 rfl _ _ rfl rfl rfl rfl rfl rfl ?_; intro _ HK'; simp only [List.set] at HK'; replace HK := HK'; clear HK'))
            exact ⟨⟨k + 1, z, A3, n3, c3, A4, n4, c4, hlt, by rw [HFL.out], by go_num, HI2, HG2, Lib.hid ((HK.out.takeL 1).dropR 2)⟩, by simp [intOf, hwk]; omega⟩

end Go.Proofs.Ytfboneehnmbklaa
