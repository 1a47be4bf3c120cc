/-
  What the law LogGrows returns: true.
  No condition but what the slice reads as.
-/
import Derived.Test.YtakjggmiilkmdaaLogDoC
import Derived.Test.YtakjggmiilkmdaaLogCRight
import Derived.Test.YtakjggmiilkmdaaLogCode
import Derived.Test.YtakjggmiilkmdaaLogUnd
import Derived.Test.YtakjggmiilkmdaaLogGrS
import Derived.Test.YtakjggmiilkmdaaUMod
import Derived.Test.YtakjggmiilkmdaaLLg
set_option linter.unusedSimpArgs false
set_option linter.unusedVariables false
namespace Go.Proofs.Ytakjggmiilkmdaa
open Go.RowKit

namespace Lgm
/-- The law's own row. -/
def mevs (n : Nat) : List Cmd.E := (List.range n).map (fun (i : Nat) => mev (i : Int))
theorem mevs_len (n : Nat) : (mevs n).length = n := by unfold mevs; rw [List.length_map, List.length_range]
theorem mevs_succ (n : Nat) : mevs (n + 1) = mevs n ++ [mev (n : Int)] := by unfold mevs; rw [List.range_succ, List.map_append]; rfl
theorem mevs_fits : ∀ e ∈ mevs 40, Cmd.fits e := by decide +kernel
end Lgm
theorem lmevs_F (n : Nat) (hn : n ≤ 1000) : Fits evLay lvF (Lgm.mevs n) := ⟨fun x hx => by
  obtain ⟨i, _, rfl⟩ := List.mem_map.1 hx
  exact Lgm.mev_f _, by show (Lgm.mevs n).length * 160 ≤ _; rw [Lgm.mevs_len]; omega⟩
theorem exec_ixlo {o : Oper} {a : Act} {w : World} {b off n c i : Nat} (x q : Operand) (ho : o.op = .indexAddr 49 x q) (hx : a.eval x = .slice (some ⟨b, off, none⟩) n c) (hq : a.eval q = .int .i64 (i : Int)) (h : i < n) :
    (execOp a.eval o).run Try.prog w = .ok (.value (.pointer (some ⟨b, off + i * 4, none⟩))) w := exec_slx (w := w) lopLay x q ho hx hq h
theorem exec_lop {o : Oper} {a : Act} {w : World} {m : Lop} {b off : Nat} (e : Operand) (ho : o.op = .load 26 e) (hx : a.eval e = .pointer (some ⟨b, off, none⟩)) (hc : ∀ j v, (lopL m)[j]? = some v → w.cell? ⟨b, off + j, none⟩ = some v) :
    (execOp a.eval o).run Try.prog w = .ok (.value (.agg #[.int .i64 m.k, .int .i64 m.f, .int .i64 m.m, .slice m.A m.n m.c])) w :=
  exec_slv (w := w) lopLay e ho hx Try.underlying26 hc
theorem exec_eqk {o : Oper} {a : Act} {w : World} {x k : Int} {d : Bool} (p q : Operand) (ho : o.op = .binOp .eql 3 p q 3) (hp : a.eval p = .int .i64 x) (hq : a.eval q = .int .i64 k) (hb : (x == k) = d) :
    (execOp a.eval o).run Try.prog w = .ok (.value (.bool d)) w := by
  subst hb
  unfold execOp
  simp only [ho, hp, hq]
  go_simp
theorem exec_urm {o : Oper} {a : Act} {w : World} {u n j : Nat} (p q : Operand) (ho : o.op = .binOp .rem 29 p q 29) (hp : a.eval p = .int .u64 (u : Int)) (hq : a.eval q = .int .u64 (n : Int)) (h0 : 0 < n) (hn : n < 18446744073709551616) (hj : u % n = j) :
    (execOp a.eval o).run Try.prog w = .ok (.value (.int .u64 (j : Int))) w := by
  subst hj
  exact exec_urem p q ho hp hq h0 hn
set_option maxRecDepth 100000 in
set_option maxHeartbeats 25600000 in
theorem lgrows_yes (A : Option Addr) (n c : Nat) (S : List Lop) (w : World) (hs : Sls lopLay lopF w A n c S) :
    Calls Try.prog 6 #[.slice A n c] w (fun e w' => e = .returned (.bool true) ∧ Below w.heap.size w w') := by
  have HS := Lib.hid hs
  have hn : n ≤ 140737488355328 := by have h : n * 48 ≤ 140737488355328 := hs.big; omega
  have HAw := Lib.hid (fun W => lawake_any W)
  have HEv := Lib.hid (fun (i : Nat) (hi : i < 40) W => lev_any (i : Int) W (by omega) (by omega))
  have HK := Lib.hid ((Kn.start w).nilR evLay)
  simp only [List.nil_append] at HK
  unfold IsB at HAw
  clear hs
  go_enter Try.func6, Try.ntmps6
  go_wp2_with fail
  go_loopw [3, 4] (fun v3 v4 wr => ∃ (i c3 : Nat) (A3 : Option Addr), i ≤ 40 ∧ v4 = .int .i64 i ∧ v3 = .slice A3 i c3 ∧ Hid (Kn w.heap.size w wr [] [row evLay (.slice A3 i c3) (Lgm.mevs i)])) (fun _ v _ => 40 - (intOf v).toNat)
  case atStart => exact ⟨0, 0, none, Nat.zero_le _, rfl, rfl, HK⟩
  case round =>
    clear HK
    obtain ⟨i, c3, A3, hi, rfl, rfl, HK⟩ := hrel
    have hi1 : (0 : Int) ≤ (i : Int) := by omega
    have hi3 : i < 9223372036854775807 := by omega
    by_cases hlt : i < 40
    case pos =>
      as_aux_lemma =>
      have hi2 : (i : Int) < 40 := by omega
      have hi5 : i + 1 ≤ 40 := by omega
      have HE1 := Lib.hid (HEv.out i hlt)
      obtain ⟨x, hx⟩ : ∃ x, Lgm.mev (i : Int) = x := ⟨_, rfl⟩
      have HM := Lib.hid (Lgm.mevs_succ i)
      have HLn := Lib.hid (Lgm.mevs_len i)
      rw [hx] at HE1 HM
      have HL1 : Hid ((Lgm.mevs i ++ [x]).length = i + 1) := Lib.hid (by rw [List.length_append, HLn.out]; rfl)
      have hb : (i + 1) * 160 ≤ 140737488355328 := by omega
      clear hx hlt HEv
      go_wp2_with fail
      refine (HE1.out _).mono ?_; rintro e w1 ⟨rfl, b1⟩
      replace HK := Lib.hid (HK.out.call b1); clear b1
      go_wp2_with (first | (refine wpList_mk1 evLay (p := x) HK (by decide) rfl _ rfl rfl rfl ?_; intro _ g6 HK'; simp only [List.cons_append, List.nil_append] at HK'; have HR := Lib.hid (HK'.out.own 1 rfl).rd; replace HK := HK'; clear HK') | (at_builtin; refine wpList_kmore HK evLay 0 rfl _ _ rfl rfl rfl [x] rfl rfl HR (grow_ok HL1 (by show (i + 1) * 160 ≤ _; omega) (by omega)) (N := i + 1) HL1 ?_; intro A6 c6 _ HK'; simp only [List.set] at HK'; replace HK := HK'; clear HK' HR) | refine wpList_exe (exec_add1 (j := i) _ (by rfl) (by rfl) hi3) (by rfl) ?_)
      exact ⟨⟨i + 1, c6, A6, hi5, rfl, rfl, by rw [HM.out]; exact Lib.hid (HK.out.takeR 1)⟩, by simp [intOf]; omega⟩
    case neg =>
    obtain rfl : i = 40 := by omega
    obtain ⟨rw40, hrw⟩ : ∃ rw40, Lgm.mevs 40 = rw40 := ⟨_, rfl⟩
    have HLr : Hid (rw40.length = 40) := Lib.hid (by rw [← hrw]; exact Lgm.mevs_len 40)
    have HFt : Hid (∀ e ∈ rw40, Cmd.fits e) := Lib.hid (by rw [← hrw]; exact Lgm.mevs_fits)
    have HF : Hid (Fits evLay lvF rw40) := Lib.hid (by rw [← hrw]; exact lmevs_F 40 (by decide))
    rw [hrw] at HK
    have hsl : Sls evLay lvF _ A3 40 c3 rw40 := Sls.own (HK.out.own 0 rfl) HF.out
    have hc3 : 40 ≤ c3 := hsl.cap
    obtain ⟨b3, o3, rfl, hx3⟩ := hsl.eat (by decide)
    clear hx3 hrw hsl HEv hlt hi1 hi3 hi
    go_wp2_with (first | (refine wpList_alg HK rfl rfl ?_; intro _ g5 HK'; simp only [List.cons_append, List.nil_append] at HK'; replace HK := HK'; clear HK'))
    go_loopw [6, 7] (fun v6 v7 wr => ∃ (i bn dn n5 c5 : Nat) (lc : Int) (ev : List Cmd.E) (A5 : Option Addr) (Rk : List RowE), i ≤ n ∧ i ≤ 120 ∧ v7 = .int .i64 i ∧ v6 = .int .i64 (dn : Int) ∧ Hid (Lgm.Gr rw40 ⟨(bn : Int), lc, (dn : Int), ev⟩) ∧ Hid (Kn w.heap.size w wr [(g5, 24, lgC (bn : Int) lc (dn : Int) (.slice A5 n5 c5))] (row evLay (.slice (some ⟨b3, o3, none⟩) 40 c3) rw40 :: Rk)) ∧ Hid (Tl (fun _ => True) A5 n5 c5 ev (row evLay (.slice (some ⟨b3, o3, none⟩) 40 c3) rw40 :: Rk))) (fun _ v _ => n - (intOf v).toNat)
    case atStart => exact ⟨0, 0, 0, 0, 0, 0, [], none, [], Nat.zero_le _, Nat.zero_le _, rfl, rfl, Lib.hid (Lgm.Gr.zero rw40), HK, Lib.hid (Tl.none _)⟩
    case round =>
      clear HK
      obtain ⟨i, bn, dn, n5, c5, lc, ev, A5, Rk, hi, hi120, rfl, rfl, HGr, HK, HTl⟩ := hrel
      have hi1 : (0 : Int) ≤ (i : Int) := by omega
      have hi3 : i < 9223372036854775807 := by omega
      by_cases hgo : i < n ∧ i < 120
      case neg =>
        as_aux_lemma =>
        have hout : (n ≤ i) ∨ (i < n ∧ 120 ≤ i) := by omega
        clear hgo HS HF HFt HLr HTl HGr
        rcases hout with h | ⟨h1, h2⟩
        · obtain rfl : i = n := by omega
          clear h
          have d1 : True := trivial
          go_upto_region 26 with fail
          clear d1
          go_wp2_with fail
          refine (HAw.out _).mono ?_; rintro e w1 ⟨rfl, b1⟩
          replace HK := Lib.hid (HK.out.call b1); clear b1
          go_wp2_with fail
          go_ret
          exact ⟨rfl, HK.out.b⟩
        · obtain rfl : i = 120 := by omega
          have d1 : ((120 : Nat) : Int) < (n : Int) := by omega
          have d2 : True := trivial
          clear h2
          go_upto_region 26 with fail
          clear d1 d2
          go_wp2_with fail
          refine (HAw.out _).mono ?_; rintro e w1 ⟨rfl, b1⟩
          replace HK := Lib.hid (HK.out.call b1); clear b1
          go_wp2_with fail
          go_ret
          exact ⟨rfl, HK.out.b⟩
      case pos =>
      as_aux_lemma =>
      obtain ⟨hin, hi12⟩ := hgo
      have d1 : (i : Int) < (n : Int) := by omega
      have d2 : (i : Int) < 120 := by omega
      have hi119 : i + 1 ≤ 120 := hi12
      obtain ⟨x, hx, hxF⟩ := HS.out.get hin
      obtain ⟨b', o', rfl, hat⟩ := HS.out.at (by omega)
      obtain ⟨k, f, m, xA, xn, xc⟩ := x
      have HX : Hid (∀ W, Below w.heap.size w W → ∀ q v, (lopL ⟨k, f, m, xA, xn, xc⟩)[q]? = some v → W.cell? ⟨b', o' + i * 4 + q, none⟩ = some v) := Lib.hid (fun W hW => hat W hW i _ hx)
      obtain ⟨u, hu⟩ := u64_of f
      obtain ⟨u2, hu2⟩ := u64_of m
      obtain ⟨p, hp⟩ : ∃ p, u % 40 = p := ⟨_, rfl⟩
      obtain ⟨r, hr⟩ : ∃ r, u2 % 17 = r := ⟨_, rfl⟩
      have hp40 : p < 40 := by have := Nat.mod_lt u (show 0 < 40 by decide); omega
      have hr17 : r < 17 := by have := Nat.mod_lt u2 (show 0 < 17 by decide); omega
      have hxn : xn * 160 ≤ 140737488351232 := hxF.2.2.2
      obtain ⟨q, hq⟩ : ∃ q : Nat, min 40 (p + xn) = q := ⟨_, rfl⟩
      have hpq : p ≤ q := by omega
      have hq40 : q ≤ 40 := by omega
      have hqc : q ≤ c3 := by omega
      obtain ⟨s, hs⟩ : ∃ s : Nat, p + xn = s := ⟨_, rfl⟩
      have hwa : IntKind.i64.wrap ((p : Int) + (xn : Int)) = (s : Int) := by rw [IntKind.wrap_i64]; omega
      have hmn : (if (s : Int) < 40 then (s : Int) else 40) = (q : Int) := by split <;> omega
      have HMn := Lib.hid hmn
      obtain ⟨bn2, dn2, lc2, ev2, tn, te, tb, hX, hG2, h3, hn3, h5⟩ := Lgm.grow rw40 HFt.out HLr.out bn dn lc ev HGr.out k p r (q - p) (by omega) ((rw40.drop p).take (q - p)) rfl
      have HDo : Hid (∀ W, Sls evLay lvF W A5 n5 c5 ev → Sls evLay lvF W (some ⟨b3, o3, none⟩) 40 c3 rw40 → Calls Try.prog 11 #[.agg #[.int .i64 (bn : Int), .int .i64 lc, .int .i64 (dn : Int), .slice A5 n5 c5], .agg #[.int .i64 k, .int .i64 (p : Int), .int .i64 (r : Int), .slice (subA evLay.k (some ⟨b3, o3, none⟩) p c3) (q - p) (c3 - p)]] W (IsDoT (fun W => Sls evLay lvF W A5 n5 c5 ev) (⟨(bn2 : Int), lc2, (dn2 : Int), ev2⟩, tn, te, tb) W)) := Lib.hid (fun W h1 h2 => by
        have h := lcdo_any (fun W => Sls evLay lvF W A5 n5 c5 ev) ⟨(bn : Int), lc, (dn : Int), ev⟩ A5 n5 c5 k (p : Int) (r : Int) (subA evLay.k (some ⟨b3, o3, none⟩) p c3) (q - p) (c3 - p) ((rw40.drop p).take (q - p)) W (fun W h => h) h1 HGr.out.rt (h2.sub hpq hq40) (by omega) ⟨by omega, by omega⟩
        rw [hX] at h
        exact h)
      unfold IsDoT at HDo
      simp only at HDo
      have HGr2 := Lib.hid hG2
      have H3 := Lib.hid h3
      have HN3 := Lib.hid hn3
      have H5 := Lib.hid h5
      clear hx hxF hat hX hG2 h3 hn3 h5 HGr HFt HS hq hmn hs
      clear hi hi120 hi12
      go_upto_region 11 with fail
      clear d1 d2
      go_upto_region 12 with (first | refine wpList_exe (exec_ixlo (i := i) _ _ (by rfl) (by rfl) (by rfl) hin) (by rfl) ?_ | refine wpList_of_exec (v := .agg #[.int .i64 k, .int .i64 f, .int .i64 m, .slice xA xn xc]) (by rfl) (exec_lop (m := ⟨k, f, m, xA, xn, xc⟩) (off := o' + i * 4) _ (by rfl) (by rfl) (HX.out _ HK.out.b)) ?_ | (refine wpList_alo HK rfl rfl ?_; intro _ g8 HK'; simp only [List.cons_append, List.nil_append] at HK'; replace HK := HK'; clear HK') | (refine wpList_slo HK 1 rfl _ _ rfl rfl rfl rfl rfl ?_; intro _ HK'; simp only [List.set] at HK'; replace HK := HK'; clear HK'))
      clear HX
      have f1 := HK.out.cell 1 rfl 1 (v := .int .i64 f) rfl
      have hrp : (u : Int).tmod 40 = (p : Int) := by rw [← hp]; rfl
      have hwp : IntKind.u64.wrap (p : Int) = (p : Int) := by rw [IntKind.wrap_u64]; omega
      have hwp2 : IntKind.i64.wrap (p : Int) = (p : Int) := by rw [IntKind.wrap_i64]; omega
      go_upto_region 13 with fail
      clear f1 hrp hwp hwp2 hu hp
      go_upto_region 14 with (first | (refine wpList_slo_n HK 1 rfl _ _ rfl rfl rfl rfl ?_; intro _ HK'; simp only [List.set] at HK'; replace HK := HK'; clear HK'))
      go_upto_region 15 with (first | refine wpList_exe (klo_e HK 1 _ (by rfl) (by rfl) (by rfl)) (by rfl) ?_ | refine wpList_exe (exec_bmin (m := (q : Int)) _ _ (by rfl) (by rfl) (by rfl) HMn.out) (by rfl) ?_ | refine wpList_exe (exec_sls_lh evLay (lo := p) (hi := q) _ _ _ (by rfl) (by rfl) (by rfl) (by rfl) hpq hqc) (by rfl) ?_ | (refine wpList_slo_e HK 1 rfl _ _ rfl rfl rfl rfl ?_; intro _ HK'; simp only [List.set] at HK'; replace HK := HK'; clear HK'))
      clear hwa HMn
      have f2 := HK.out.cell 1 rfl 2 (v := .int .i64 m) rfl
      have hrm : (u2 : Int).tmod 17 = (r : Int) := by rw [← hr]; rfl
      have hwr : IntKind.u64.wrap (r : Int) = (r : Int) := by rw [IntKind.wrap_u64]; omega
      have hwr2 : IntKind.i64.wrap (r : Int) = (r : Int) := by rw [IntKind.wrap_i64]; omega
      go_upto_region 16 with (first | (refine wpList_slo_m HK 1 rfl _ _ rfl rfl rfl rfl ?_; intro _ HK'; simp only [List.set] at HK'; replace HK := HK'; clear HK'))
      clear f2 hrm hwr hwr2
      clear hu2 hr
      go_wp2_with (first | refine wpList_exe (klg HK 0 _ (by rfl) (by rfl) (by rfl)) (by rfl) ?_ | refine wpList_exe (klo HK 1 _ (by rfl) (by rfl) (by rfl)) (by rfl) ?_)
      refine (HDo.out _ (HTl.out _ _ _ _ _ HK.out (fun z hz => hz) trivial) (Sls.own (HK.out.own 0 rfl) HF.out)).mono ?_; rintro en w2 ⟨A6, n6, c6, A7, n7, c7, Rn, rfl, kn, HT6, HT7⟩
      replace HK := Lib.hid (HK.out.join kn)
      simp only [List.cons_append] at HK
      have HG : ∀ (b2 : Nat) (W0 W : World) L R, Kn b2 W0 W L R → (∀ z ∈ row evLay (.slice (some ⟨b3, o3, none⟩) 40 c3) rw40 :: (Rk ++ Rn), z ∈ R) → Sls evLay lvF W A5 n5 c5 ev := fun b2 W0 W L R K hR => HTl.out b2 W0 W L R K (fun z hz => hR z ((List.mem_cons.1 hz).elim (fun e => List.mem_cons.2 (.inl e)) (fun h => List.mem_cons_of_mem _ (List.mem_append_left _ h)))) trivial
      have HTn : Hid (Tl (fun _ => True) A6 n6 c6 ev2 (row evLay (.slice (some ⟨b3, o3, none⟩) 40 c3) rw40 :: (Rk ++ Rn))) := Lib.hid (HT6.out.under (fun z hz => List.mem_cons_of_mem _ (List.mem_append_right _ hz)) HG)
      have HTe : Hid (Tl (fun _ => True) A7 n7 c7 te (row evLay (.slice (some ⟨b3, o3, none⟩) 40 c3) rw40 :: (Rk ++ Rn))) := Lib.hid (HT7.out.under (fun z hz => List.mem_cons_of_mem _ (List.mem_append_right _ hz)) HG)
      have hl6 : ev2.length = n6 := (HTn.out _ _ _ _ _ HK.out (fun z hz => hz) trivial).len
      have hl7 : te.length = n7 := (HTe.out _ _ _ _ _ HK.out (fun z hz => hz) trivial).len
      clear kn HG HT6 HT7 HDo HTl
      go_upto_region 17 with (first | (refine wpList_alg HK rfl rfl ?_; intro _ g10 HK'; simp only [List.cons_append, List.nil_append] at HK'; replace HK := HK'; clear HK') | (refine wpList_slg HK 2 rfl _ _ rfl rfl rfl rfl rfl ?_; intro _ HK'; simp only [List.set] at HK'; replace HK := HK'; clear HK'))
      go_upto_region 18 with (first | refine wpList_exe (klg HK 2 _ (by rfl) (by rfl) (by rfl)) (by rfl) ?_ | (refine wpList_slg HK 0 rfl _ _ rfl rfl rfl rfl rfl ?_; intro _ HK'; simp only [List.set] at HK'; replace HK := HK'; clear HK'))
      obtain ⟨h0, hle, hpre⟩ : (0 ≤ bn2) ∧ bn2 + n6 ≤ 40 ∧ ev2 <+: rw40.drop bn2 := by
        have h1 := HGr2.out.le
        have h2 := HGr2.out.pc
        unfold Lgm.en at h1
        rw [HLr.out] at h1
        simp only at h1 h2
        rw [hl6] at h1
        exact ⟨Nat.zero_le _, by omega, by simpa using h2⟩
      have HRc : Hid (∀ W, Sls evLay lvF W A6 n6 c6 ev2 → Calls Try.prog 9 #[.agg #[.int .i64 (bn2 : Int), .int .i64 lc2, .int .i64 (dn2 : Int), .slice A6 n6 c6]] W (IsB true W)) := Lib.hid (fun W h => by
        have h2 := lcright_any ⟨(bn2 : Int), lc2, (dn2 : Int), ev2⟩ A6 n6 c6 W h
        rw [decide_eq_true HGr2.out.rt] at h2
        exact h2)
      obtain ⟨hn, hhn⟩ : ∃ hn : Nat, bn2 + n6 = hn := ⟨_, rfl⟩
      have hlo : bn2 ≤ hn := by omega
      have hhi : hn ≤ c3 := by omega
      have HG40 : Hid (decide ((40 : Int) < (hn : Int)) = false) := Lib.hid (decide_eq_false (by omega))
      have HEc : Hid (∀ W, Calls Try.prog 15 #[.agg #[.int .i64 (bn2 : Int), .int .i64 lc2, .int .i64 (dn2 : Int), .slice A6 n6 c6]] W (IsNm (hn : Int) W)) := Lib.hid (fun W => by
        have h2 := lcend_any ⟨(bn2 : Int), lc2, (dn2 : Int), ev2⟩ A6 n6 c6 W hl6 (by show (0 : Int) ≤ (bn2 : Int); omega) (by show (bn2 : Int) ≤ 4611686018427387904; omega) (by omega)
        rw [show Lgm.en ⟨(bn2 : Int), lc2, (dn2 : Int), ev2⟩ = (hn : Int) from by show (bn2 : Int) + (ev2.length : Int) = _; rw [hl6]; omega] at h2
        exact h2)
      have HSub : Hid (∀ W, Sls evLay lvF W (some ⟨b3, o3, none⟩) 40 c3 rw40 → Sls evLay lvF W (subA evLay.k (some ⟨b3, o3, none⟩) bn2 c3) (hn - bn2) (c3 - bn2) ev2) := Lib.hid (fun W h => by
        have h2 := h.sub hlo (show hn ≤ 40 by omega)
        rw [show hn - bn2 = ev2.length by omega] at h2 ⊢
        rw [List.prefix_iff_eq_take.1 hpre]
        rw [← List.prefix_iff_eq_take.1 hpre]
        rw [← List.prefix_iff_eq_take.1 hpre] at h2
        exact h2)
      have HSm : Hid (∀ (x : List Cmd.E) (A3 A4 : Option Addr) (n3 n4 c3 c4 : Nat) W, Sls evLay lvF W A3 n3 c3 x → Sls evLay lvF W A4 n4 c4 x → x.length ≤ 100000 → Calls Try.prog 14 #[.slice A3 n3 c3, .slice A4 n4 c4] W (IsB true W)) := Lib.hid (fun x A3 A4 n3 n4 c3 c4 W h1 h2 h3 => by
        have h4 := h1.len
        have h5 := h2.len
        subst h4 h5
        exact esame_any A3 A4 c3 c4 x W (by omega) h1.rd h2.rd)
      have hev : ev2.length ≤ 100000 := by omega
      unfold IsB at HRc HSm
      unfold IsNm at HEc
      clear hhn h0 hpre hle hxn hp40 hpq hq40 hqc
      by_cases hk3 : k = 3
      case pos =>
        have HK3 : Hid ((k == 3) = true) := Lib.hid (by rw [beq_iff_eq]; exact hk3)
        have HK5 : Hid ((k == 5) = false) := Lib.hid (by rw [beq_eq_false_iff_ne]; omega)
        cases tb
        case true =>
          as_aux_lemma =>
          obtain ⟨hd2, e, rfl, he⟩ := H3.out ⟨hk3, rfl⟩
          obtain rfl : 1 = n7 := hl7
          have hdn : dn < 40 := by have := (List.getElem?_eq_some_iff.1 he).1; rw [HLr.out] at this; exact this
          have hwd : IntKind.i64.wrap ((dn : Int) + 1) = (dn2 : Int) := by rw [IntKind.wrap_i64]; omega
          obtain ⟨b7, o7, rfl, hx7⟩ := (HTe.out _ _ _ _ _ HK.out (fun z hz => hz) trivial).eat (by decide)
          have HE := Lib.hid he
          clear hx7 he hk3 hd2 H3 HN3 H5
          go_upto_region 19 with (first | go_big_skip | refine wpList_exe (klo_k HK 1 _ (by rfl) (by rfl) (by rfl)) (by rfl) ?_ | refine wpList_exe (exec_eqk (x := k) (k := 3) _ _ (by rfl) (by rfl) (by rfl) HK3.out) (by rfl) ?_)
          clear HK3
          have HK0 := Lib.hid HK.out.drew
          clear HK
          refine wp_region_held_drew (S := (fun W => Hid (Kn w.heap.size w W [(g5, 24, lgC (bn2 : Int) lc2 (dn2 : Int) (.slice A6 n6 c6)), (g8, 26, loC k (p : Int) (r : Int) (.slice (subA evLay.k (some ⟨b3, o3, none⟩) p c3) (q - p) (c3 - p))), (g10, 24, lgC (bn2 : Int) lc2 (dn2 : Int) (.slice A6 n6 c6))] (row evLay (.slice (some ⟨b3, o3, none⟩) 40 c3) rw40 :: (Rk ++ Rn))))) (by kernel_rfl) ?_ (fun hHeld => ?_)
          · (try dsimp only); exact HK0
          refine wpAnyH_take (i := 0) (oi := ⟨some 75, _, _, _, _, _⟩) (v := ?_) rfl (by kernel_rfl) (by kernel_rfl) (by kernel_rfl) (fun _ _ _ h => h) (Or.inl ⟨by rfl, ?_⟩) (by assumption) ?_
          rotate_left
          · (intro w hSw; (try dsimp only at hSw); go_simp; try with_reducible rfl)
          try simp only [Act.put, List.setIfInBounds_toArray, List.set_cons_zero, List.set_cons_succ]
          refine wpAnyH_take (i := 1) (oi := ⟨some 76, _, _, _, _, _⟩) (v := ?_) rfl (by kernel_rfl) (by kernel_rfl) (by kernel_rfl) (fun _ _ _ h => h) (Or.inl ⟨by rfl, ?_⟩) (by assumption) ?_
          rotate_left
          · (intro w hSw; (try dsimp only at hSw); go_simp; try with_reducible rfl)
          try simp only [Act.put, List.setIfInBounds_toArray, List.set_cons_zero, List.set_cons_succ]
          refine wpAnyH_take (i := 2) (oi := ⟨some 77, _, _, _, _, _⟩) (v := ?_) rfl (by kernel_rfl) (by kernel_rfl) (by kernel_rfl) (fun _ _ _ h => h) (Or.inl ⟨by rfl, ?_⟩) (by assumption) ?_
          rotate_left
          · (intro w hSw; (try dsimp only at hSw); go_simp; try with_reducible rfl)
          try simp only [Act.put, List.setIfInBounds_toArray, List.set_cons_zero, List.set_cons_succ]
          refine wpAnyH_take (i := 3) (oi := ⟨some 78, _, _, _, _, _⟩) (v := ?_) rfl (by kernel_rfl) (by kernel_rfl) (by kernel_rfl) (fun _ _ _ h => h) (Or.inl ⟨by rfl, ?_⟩) (by assumption) ?_
          rotate_left
          · (intro w hSw; (try dsimp only at hSw); go_simp; try with_reducible rfl)
          try simp only [Act.put, List.setIfInBounds_toArray, List.set_cons_zero, List.set_cons_succ]
          refine wpAnyH_take (i := 4) (oi := ⟨some 79, _, _, _, _, _⟩) (v := ?_) rfl (by kernel_rfl) (by kernel_rfl) (by kernel_rfl) (fun _ _ _ h => h) (Or.inl ⟨by rfl, ?_⟩) (by assumption) ?_
          rotate_left
          · (intro w hSw; (try dsimp only at hSw); go_simp; try with_reducible rfl)
          try simp only [Act.put, List.setIfInBounds_toArray, List.set_cons_zero, List.set_cons_succ]
          refine wpAnyH_take (i := 5) (oi := ⟨some 80, _, _, _, _, _⟩) (v := ?_) rfl (by kernel_rfl) (by kernel_rfl) (by kernel_rfl) (fun _ _ _ h => h) (Or.inl ⟨by rfl, ?_⟩) (by assumption) ?_
          rotate_left
          · (intro w hSw; refine Eq.trans (exec_ixev (i := 0) _ _ (by rfl) (by rfl) (by rfl) (by decide)) ?_; with_reducible rfl)
          try simp only [Act.put, List.setIfInBounds_toArray, List.set_cons_zero, List.set_cons_succ]
          refine wpAnyH_take (i := 6) (oi := ⟨some 81, _, _, _, _, _⟩) (v := ?_) rfl (by kernel_rfl) (by kernel_rfl) (by kernel_rfl) (fun _ _ _ h => h) (Or.inl ⟨by rfl, ?_⟩) (by assumption) ?_
          rotate_left
          · (intro w hSw; refine Eq.trans (exec_lev (x := e) (off := o7 + 0 * 16) _ (by rfl) (by rfl) ((HTe.out _ _ _ _ _ hSw.out (fun z hz => hz) trivial).eatb (by decide) 0 e rfl)) ?_; with_reducible rfl)
          try simp only [Act.put, List.setIfInBounds_toArray, List.set_cons_zero, List.set_cons_succ]
          refine wpAnyH_take (i := 7) (oi := ⟨some 82, _, _, _, _, _⟩) (v := ?_) rfl (by kernel_rfl) (by kernel_rfl) (by kernel_rfl) (fun _ _ _ h => h) (Or.inl ⟨by rfl, ?_⟩) (by assumption) ?_
          rotate_left
          · (intro w hSw; (try dsimp only at hSw); go_simp; try with_reducible rfl)
          try simp only [Act.put, List.setIfInBounds_toArray, List.set_cons_zero, List.set_cons_succ]
          refine wpAnyH_take (i := 8) (oi := ⟨some 83, _, _, _, _, _⟩) (v := ?_) rfl (by kernel_rfl) (by kernel_rfl) (by kernel_rfl) (fun _ _ _ h => h) (Or.inl ⟨by rfl, ?_⟩) (by assumption) ?_
          rotate_left
          · (intro w hSw; (try dsimp only at hSw); go_simp; try with_reducible rfl)
          try simp only [Act.put, List.setIfInBounds_toArray, List.set_cons_zero, List.set_cons_succ]
          refine wpAnyH_take (i := 9) (oi := ⟨some 84, _, _, _, _, _⟩) (v := ?_) rfl (by kernel_rfl) (by kernel_rfl) (by kernel_rfl) (fun _ _ _ h => h) (Or.inl ⟨by rfl, ?_⟩) (by assumption) ?_
          rotate_left
          · (intro w hSw; refine Eq.trans (exec_ixev (i := dn) _ _ (by rfl) (by rfl) (by rfl) hdn) ?_; with_reducible rfl)
          try simp only [Act.put, List.setIfInBounds_toArray, List.set_cons_zero, List.set_cons_succ]
          refine wpAnyH_take (i := 10) (oi := ⟨some 85, _, _, _, _, _⟩) (v := ?_) rfl (by kernel_rfl) (by kernel_rfl) (by kernel_rfl) (fun _ _ _ h => h) (Or.inl ⟨by rfl, ?_⟩) (by assumption) ?_
          rotate_left
          · (intro w hSw; refine Eq.trans (exec_lev (x := e) (off := o3 + dn * 16) _ (by rfl) (by rfl) ((Sls.own (hSw.out.own 0 rfl) HF.out).eatb (by decide) dn e HE.out)) ?_; with_reducible rfl)
          try simp only [Act.put, List.setIfInBounds_toArray, List.set_cons_zero, List.set_cons_succ]
          refine wpAnyH_take (i := 11) (oi := ⟨some 86, _, _, _, _, _⟩) (v := ?_) rfl (by kernel_rfl) (by kernel_rfl) (by kernel_rfl) (fun _ _ _ h => h) (Or.inl ⟨by rfl, ?_⟩) (by assumption) ?_
          rotate_left
          · (intro w hSw; refine Eq.trans (exec_ene (x := e) _ _ (by rfl) (by rfl) (by rfl)) ?_; with_reducible rfl)
          try simp only [Act.put, List.setIfInBounds_toArray, List.set_cons_zero, List.set_cons_succ]
          refine wpAnyH_take (i := 12) (oi := ⟨some 87, _, _, _, _, _⟩) (v := ?_) rfl (by kernel_rfl) (by kernel_rfl) (by kernel_rfl) (fun _ _ _ h => h) (Or.inl ⟨by rfl, ?_⟩) (by assumption) ?_
          rotate_left
          · (intro w hSw; (try dsimp only at hSw); go_simp; try with_reducible rfl)
          try simp only [Act.put, List.setIfInBounds_toArray, List.set_cons_zero, List.set_cons_succ]
          refine wpAnyH_done (by kernel_rfl) ?_ _
          all_goals
            have HK := hHeld
            clear HK0 hHeld
            go_upto_region 22 with fail
            clear hwd
            have f0 := HK.out.cell 1 rfl 0 (v := .int .i64 k) rfl
            have k5 := HK5.out
            go_upto_region 24 with fail
            clear f0 k5
            go_wp2_with fail
            have HK0 := Lib.hid HK.out.drew
            clear HK
            refine wp_region_held_drew (S := (fun W => Hid (Kn w.heap.size w W [(g5, 24, lgC (bn2 : Int) lc2 (dn2 : Int) (.slice A6 n6 c6)), (g8, 26, loC k (p : Int) (r : Int) (.slice (subA evLay.k (some ⟨b3, o3, none⟩) p c3) (q - p) (c3 - p))), (g10, 24, lgC (bn2 : Int) lc2 (dn2 : Int) (.slice A6 n6 c6))] (row evLay (.slice (some ⟨b3, o3, none⟩) 40 c3) rw40 :: (Rk ++ Rn))))) (by kernel_rfl) ?_ (fun hHeld => ?_)
            · (try dsimp only); exact HK0
            refine wpAnyH_take (i := 0) (oi := ⟨some 119, _, _, _, _, _⟩) (v := ?_) rfl (by kernel_rfl) (by kernel_rfl) (by kernel_rfl) (fun _ _ _ h => h) (Or.inl ⟨by rfl, ?_⟩) (by assumption) ?_
            rotate_left
            · (intro w hSw; refine Eq.trans (klg hSw 0 _ (by rfl) (by rfl) (by rfl)) ?_; with_reducible rfl)
            try simp only [Act.put, List.setIfInBounds_toArray, List.set_cons_zero, List.set_cons_succ]
            refine wpAnyH_ready (rs := [1]) (by kernel_rfl) (by simp) ?_
            refine AllReadyH.cons (o := ⟨some 120, _, _, _, _, _⟩) rfl (fun K hK => ?_) AllReadyH.nil
            go_simp
            go_at_call 9
            refine (HRc.out _ (HTn.out _ _ _ _ _ hHeld.out (fun z hz => hz) trivial)).mono ?_; rintro en w5 ⟨rfl, b5⟩; have hs := Lib.hid (hHeld.out.call b5); clear b5
            refine hK.out _ _ hs (fun hHeld => ?_)
            clear hK K
            try simp only [ap1, ap2, ap3, ap4, ap5]
            refine wpAnyH_take (i := 2) (oi := ⟨some 121, _, _, _, _, _⟩) (v := ?_) rfl (by kernel_rfl) (by kernel_rfl) (by kernel_rfl) (fun _ _ _ h => h) (Or.inl ⟨by rfl, ?_⟩) (by assumption) ?_
            rotate_left
            · (intro w hSw; (try dsimp only at hSw); go_simp; try with_reducible rfl)
            try simp only [Act.put, List.setIfInBounds_toArray, List.set_cons_zero, List.set_cons_succ]
            refine wpAnyH_take (i := 3) (oi := ⟨some 122, _, _, _, _, _⟩) (v := ?_) rfl (by kernel_rfl) (by kernel_rfl) (by kernel_rfl) (fun _ _ _ h => h) (Or.inl ⟨by rfl, ?_⟩) (by assumption) ?_
            rotate_left
            · (intro w hSw; (try dsimp only at hSw); go_simp; try with_reducible rfl)
            try simp only [Act.put, List.setIfInBounds_toArray, List.set_cons_zero, List.set_cons_succ]
            refine wpAnyH_take (i := 4) (oi := ⟨some 123, _, _, _, _, _⟩) (v := ?_) rfl (by kernel_rfl) (by kernel_rfl) (by kernel_rfl) (fun _ _ _ h => h) (Or.inl ⟨by rfl, ?_⟩) (by assumption) ?_
            rotate_left
            · (intro w hSw; refine Eq.trans (klg hSw 0 _ (by rfl) (by rfl) (by rfl)) ?_; with_reducible rfl)
            try simp only [Act.put, List.setIfInBounds_toArray, List.set_cons_zero, List.set_cons_succ]
            refine wpAnyH_ready (rs := [5]) (by kernel_rfl) (by simp) ?_
            refine AllReadyH.cons (o := ⟨some 124, _, _, _, _, _⟩) rfl (fun K hK => ?_) AllReadyH.nil
            go_simp
            go_at_call 15
            refine (HEc.out _).mono ?_; rintro en w5 ⟨rfl, b5⟩; have hs := Lib.hid (hHeld.out.call b5); clear b5
            refine hK.out _ _ hs (fun hHeld => ?_)
            clear hK K
            try simp only [ap1, ap2, ap3, ap4, ap5]
            refine wpAnyH_take (i := 6) (oi := ⟨some 125, _, _, _, _, _⟩) (v := ?_) rfl (by kernel_rfl) (by kernel_rfl) (by kernel_rfl) (fun _ _ _ h => h) (Or.inl ⟨by rfl, ?_⟩) (by assumption) ?_
            rotate_left
            · (intro w hSw; refine Eq.trans (exec_gtc (x := (hn : Int)) (k := 40) (d := false) _ _ (by rfl) (by rfl) (by rfl) HG40.out) ?_; with_reducible rfl)
            try simp only [Act.put, List.setIfInBounds_toArray, List.set_cons_zero, List.set_cons_succ]
            refine wpAnyH_take (i := 7) (oi := ⟨some 126, _, _, _, _, _⟩) (v := ?_) rfl (by kernel_rfl) (by kernel_rfl) (by kernel_rfl) (fun _ _ _ h => h) (Or.inl ⟨by rfl, ?_⟩) (by assumption) ?_
            rotate_left
            · (intro w hSw; (try dsimp only at hSw); go_simp; try with_reducible rfl)
            try simp only [Act.put, List.setIfInBounds_toArray, List.set_cons_zero, List.set_cons_succ]
            refine wpAnyH_take (i := 8) (oi := ⟨some 127, _, _, _, _, _⟩) (v := ?_) rfl (by kernel_rfl) (by kernel_rfl) (by kernel_rfl) (fun _ _ _ h => h) (Or.inl ⟨by rfl, ?_⟩) (by assumption) ?_
            rotate_left
            · (intro w hSw; (try dsimp only at hSw); go_simp; try with_reducible rfl)
            try simp only [Act.put, List.setIfInBounds_toArray, List.set_cons_zero, List.set_cons_succ]
            refine wpAnyH_take (i := 9) (oi := ⟨some 128, _, _, _, _, _⟩) (v := ?_) rfl (by kernel_rfl) (by kernel_rfl) (by kernel_rfl) (fun _ _ _ h => h) (Or.inl ⟨by rfl, ?_⟩) (by assumption) ?_
            rotate_left
            · (intro w hSw; (try dsimp only at hSw); go_simp; try with_reducible rfl)
            try simp only [Act.put, List.setIfInBounds_toArray, List.set_cons_zero, List.set_cons_succ]
            refine wpAnyH_take (i := 10) (oi := ⟨some 129, _, _, _, _, _⟩) (v := ?_) rfl (by kernel_rfl) (by kernel_rfl) (by kernel_rfl) (fun _ _ _ h => h) (Or.inl ⟨by rfl, ?_⟩) (by assumption) ?_
            rotate_left
            · (intro w hSw; refine Eq.trans (klg_e hSw 0 _ (by rfl) (by rfl) (by rfl)) ?_; with_reducible rfl)
            try simp only [Act.put, List.setIfInBounds_toArray, List.set_cons_zero, List.set_cons_succ]
            refine wpAnyH_take (i := 11) (oi := ⟨some 130, _, _, _, _, _⟩) (v := ?_) rfl (by kernel_rfl) (by kernel_rfl) (by kernel_rfl) (fun _ _ _ h => h) (Or.inl ⟨by rfl, ?_⟩) (by assumption) ?_
            rotate_left
            · (intro w hSw; (try dsimp only at hSw); go_simp; try with_reducible rfl)
            try simp only [Act.put, List.setIfInBounds_toArray, List.set_cons_zero, List.set_cons_succ]
            refine wpAnyH_take (i := 12) (oi := ⟨some 131, _, _, _, _, _⟩) (v := ?_) rfl (by kernel_rfl) (by kernel_rfl) (by kernel_rfl) (fun _ _ _ h => h) (Or.inl ⟨by rfl, ?_⟩) (by assumption) ?_
            rotate_left
            · (intro w hSw; (try dsimp only at hSw); go_simp; try with_reducible rfl)
            try simp only [Act.put, List.setIfInBounds_toArray, List.set_cons_zero, List.set_cons_succ]
            refine wpAnyH_take (i := 13) (oi := ⟨some 132, _, _, _, _, _⟩) (v := ?_) rfl (by kernel_rfl) (by kernel_rfl) (by kernel_rfl) (fun _ _ _ h => h) (Or.inl ⟨by rfl, ?_⟩) (by assumption) ?_
            rotate_left
            · (intro w hSw; refine Eq.trans (klg_b hSw 0 _ (by rfl) (by rfl) (by rfl)) ?_; with_reducible rfl)
            try simp only [Act.put, List.setIfInBounds_toArray, List.set_cons_zero, List.set_cons_succ]
            refine wpAnyH_take (i := 14) (oi := ⟨some 133, _, _, _, _, _⟩) (v := ?_) rfl (by kernel_rfl) (by kernel_rfl) (by kernel_rfl) (fun _ _ _ h => h) (Or.inl ⟨by rfl, ?_⟩) (by assumption) ?_
            rotate_left
            · (intro w hSw; refine Eq.trans (klg hSw 0 _ (by rfl) (by rfl) (by rfl)) ?_; with_reducible rfl)
            try simp only [Act.put, List.setIfInBounds_toArray, List.set_cons_zero, List.set_cons_succ]
            refine wpAnyH_ready (rs := [15]) (by kernel_rfl) (by simp) ?_
            refine AllReadyH.cons (o := ⟨some 134, _, _, _, _, _⟩) rfl (fun K hK => ?_) AllReadyH.nil
            go_simp
            go_at_call 15
            refine (HEc.out _).mono ?_; rintro en w5 ⟨rfl, b5⟩; have hs := Lib.hid (hHeld.out.call b5); clear b5
            refine hK.out _ _ hs (fun hHeld => ?_)
            clear hK K
            try simp only [ap1, ap2, ap3, ap4, ap5]
            refine wpAnyH_take (i := 16) (oi := ⟨some 135, _, _, _, _, _⟩) (v := ?_) rfl (by kernel_rfl) (by kernel_rfl) (by kernel_rfl) (fun _ _ _ h => h) (Or.inl ⟨by rfl, ?_⟩) (by assumption) ?_
            rotate_left
            · (intro w hSw; refine Eq.trans (exec_sls_lh evLay (lo := bn2) (hi := hn) _ _ _ (by rfl) (by rfl) (by rfl) (by rfl) hlo hhi) ?_; with_reducible rfl)
            try simp only [Act.put, List.setIfInBounds_toArray, List.set_cons_zero, List.set_cons_succ]
            refine wpAnyH_ready (rs := [17]) (by kernel_rfl) (by simp) ?_
            refine AllReadyH.cons (o := ⟨some 136, _, _, _, _, _⟩) rfl (fun K hK => ?_) AllReadyH.nil
            go_simp
            go_at_call 14
            refine (HSm.out ev2 _ _ _ _ _ _ _ (HTn.out _ _ _ _ _ hHeld.out (fun z hz => hz) trivial) (HSub.out _ (Sls.own (hHeld.out.own 0 rfl) HF.out)) hev).mono ?_; rintro en w5 ⟨rfl, b5⟩; have hs := Lib.hid (hHeld.out.call b5); clear b5
            refine hK.out _ _ hs (fun hHeld => ?_)
            clear hK K
            try simp only [ap1, ap2, ap3, ap4, ap5]
            refine wpAnyH_take (i := 18) (oi := ⟨some 137, _, _, _, _, _⟩) (v := ?_) rfl (by kernel_rfl) (by kernel_rfl) (by kernel_rfl) (fun _ _ _ h => h) (Or.inl ⟨by rfl, ?_⟩) (by assumption) ?_
            rotate_left
            · (intro w hSw; (try dsimp only at hSw); go_simp; try with_reducible rfl)
            try simp only [Act.put, List.setIfInBounds_toArray, List.set_cons_zero, List.set_cons_succ]
            refine wpAnyH_take (i := 19) (oi := ⟨some 138, _, _, _, _, _⟩) (v := ?_) rfl (by kernel_rfl) (by kernel_rfl) (by kernel_rfl) (fun _ _ _ h => h) (Or.inl ⟨by rfl, ?_⟩) (by assumption) ?_
            rotate_left
            · (intro w hSw; (try dsimp only at hSw); go_simp; try with_reducible rfl)
            try simp only [Act.put, List.setIfInBounds_toArray, List.set_cons_zero, List.set_cons_succ]
            refine wpAnyH_take (i := 20) (oi := ⟨some 139, _, _, _, _, _⟩) (v := ?_) rfl (by kernel_rfl) (by kernel_rfl) (by kernel_rfl) (fun _ _ _ h => h) (Or.inl ⟨by rfl, ?_⟩) (by assumption) ?_
            rotate_left
            · (intro w hSw; (try dsimp only at hSw); go_simp; try with_reducible rfl)
            try simp only [Act.put, List.setIfInBounds_toArray, List.set_cons_zero, List.set_cons_succ]
            refine wpAnyH_take (i := 21) (oi := ⟨some 140, _, _, _, _, _⟩) (v := ?_) rfl (by kernel_rfl) (by kernel_rfl) (by kernel_rfl) (fun _ _ _ h => h) (Or.inl ⟨by rfl, ?_⟩) (by assumption) ?_
            rotate_left
            · (intro w hSw; (try dsimp only at hSw); go_simp; try with_reducible rfl)
            try simp only [Act.put, List.setIfInBounds_toArray, List.set_cons_zero, List.set_cons_succ]
            refine wpAnyH_take (i := 22) (oi := ⟨some 141, _, _, _, _, _⟩) (v := ?_) rfl (by kernel_rfl) (by kernel_rfl) (by kernel_rfl) (fun _ _ _ h => h) (Or.inl ⟨by rfl, ?_⟩) (by assumption) ?_
            rotate_left
            · (intro w hSw; refine Eq.trans (klg_d hSw 0 _ (by rfl) (by rfl) (by rfl)) ?_; with_reducible rfl)
            try simp only [Act.put, List.setIfInBounds_toArray, List.set_cons_zero, List.set_cons_succ]
            refine wpAnyH_take (i := 23) (oi := ⟨some 142, _, _, _, _, _⟩) (v := ?_) rfl (by kernel_rfl) (by kernel_rfl) (by kernel_rfl) (fun _ _ _ h => h) (Or.inl ⟨by rfl, ?_⟩) (by assumption) ?_
            rotate_left
            · (intro w hSw; (try dsimp only at hSw); go_simp; try with_reducible rfl)
            try simp only [Act.put, List.setIfInBounds_toArray, List.set_cons_zero, List.set_cons_succ]
            refine wpAnyH_take (i := 24) (oi := ⟨some 143, _, _, _, _, _⟩) (v := ?_) rfl (by kernel_rfl) (by kernel_rfl) (by kernel_rfl) (fun _ _ _ h => h) (Or.inl ⟨by rfl, ?_⟩) (by assumption) ?_
            rotate_left
            · (intro w hSw; refine Eq.trans (exec_intne (x := (dn2 : Int)) _ _ (by rfl) (by rfl) (by rfl)) ?_; with_reducible rfl)
            try simp only [Act.put, List.setIfInBounds_toArray, List.set_cons_zero, List.set_cons_succ]
            refine wpAnyH_take (i := 25) (oi := ⟨some 144, _, _, _, _, _⟩) (v := ?_) rfl (by kernel_rfl) (by kernel_rfl) (by kernel_rfl) (fun _ _ _ h => h) (Or.inl ⟨by rfl, ?_⟩) (by assumption) ?_
            rotate_left
            · (intro w hSw; (try dsimp only at hSw); go_simp; try with_reducible rfl)
            try simp only [Act.put, List.setIfInBounds_toArray, List.set_cons_zero, List.set_cons_succ]
            refine wpAnyH_done (by kernel_rfl) ?_ _
            all_goals
              have HK := hHeld
              clear HK0 hHeld HRc HEc HSm HSub HG40
              go_wp2_with (first | refine wpList_exe (exec_add1 (j := i) _ (by rfl) (by rfl) hi3) (by rfl) ?_)
              exact ⟨⟨i + 1, bn2, dn2, n6, c6, lc2, ev2, A6, Rk ++ Rn, hin, hi119, rfl, rfl, HGr2, Lib.hid (HK.out.takeL 1), HTn⟩, by simp [intOf]; omega⟩
        case false =>
          as_aux_lemma =>
          obtain rfl : dn2 = dn := HN3.out (fun h => by cases h.2)
          clear hk3 H3 HN3 H5 hl7
          go_upto_region 22 with (first | go_big_skip | refine wpList_exe (klo_k HK 1 _ (by rfl) (by rfl) (by rfl)) (by rfl) ?_ | refine wpList_exe (exec_eqk (x := k) (k := 3) _ _ (by rfl) (by rfl) (by rfl) HK3.out) (by rfl) ?_)
          clear HK3
          have f0 := HK.out.cell 1 rfl 0 (v := .int .i64 k) rfl
          have k5 := HK5.out
          go_upto_region 24 with fail
          clear f0 k5
          go_wp2_with fail
          have HK0 := Lib.hid HK.out.drew
          clear HK
          refine wp_region_held_drew (S := (fun W => Hid (Kn w.heap.size w W [(g5, 24, lgC (bn2 : Int) lc2 (dn2 : Int) (.slice A6 n6 c6)), (g8, 26, loC k (p : Int) (r : Int) (.slice (subA evLay.k (some ⟨b3, o3, none⟩) p c3) (q - p) (c3 - p))), (g10, 24, lgC (bn2 : Int) lc2 (dn2 : Int) (.slice A6 n6 c6))] (row evLay (.slice (some ⟨b3, o3, none⟩) 40 c3) rw40 :: (Rk ++ Rn))))) (by kernel_rfl) ?_ (fun hHeld => ?_)
          · (try dsimp only); exact HK0
          refine wpAnyH_take (i := 0) (oi := ⟨some 119, _, _, _, _, _⟩) (v := ?_) rfl (by kernel_rfl) (by kernel_rfl) (by kernel_rfl) (fun _ _ _ h => h) (Or.inl ⟨by rfl, ?_⟩) (by assumption) ?_
          rotate_left
          · (intro w hSw; refine Eq.trans (klg hSw 0 _ (by rfl) (by rfl) (by rfl)) ?_; with_reducible rfl)
          try simp only [Act.put, List.setIfInBounds_toArray, List.set_cons_zero, List.set_cons_succ]
          refine wpAnyH_ready (rs := [1]) (by kernel_rfl) (by simp) ?_
          refine AllReadyH.cons (o := ⟨some 120, _, _, _, _, _⟩) rfl (fun K hK => ?_) AllReadyH.nil
          go_simp
          go_at_call 9
          refine (HRc.out _ (HTn.out _ _ _ _ _ hHeld.out (fun z hz => hz) trivial)).mono ?_; rintro en w5 ⟨rfl, b5⟩; have hs := Lib.hid (hHeld.out.call b5); clear b5
          refine hK.out _ _ hs (fun hHeld => ?_)
          clear hK K
          try simp only [ap1, ap2, ap3, ap4, ap5]
          refine wpAnyH_take (i := 2) (oi := ⟨some 121, _, _, _, _, _⟩) (v := ?_) rfl (by kernel_rfl) (by kernel_rfl) (by kernel_rfl) (fun _ _ _ h => h) (Or.inl ⟨by rfl, ?_⟩) (by assumption) ?_
          rotate_left
          · (intro w hSw; (try dsimp only at hSw); go_simp; try with_reducible rfl)
          try simp only [Act.put, List.setIfInBounds_toArray, List.set_cons_zero, List.set_cons_succ]
          refine wpAnyH_take (i := 3) (oi := ⟨some 122, _, _, _, _, _⟩) (v := ?_) rfl (by kernel_rfl) (by kernel_rfl) (by kernel_rfl) (fun _ _ _ h => h) (Or.inl ⟨by rfl, ?_⟩) (by assumption) ?_
          rotate_left
          · (intro w hSw; (try dsimp only at hSw); go_simp; try with_reducible rfl)
          try simp only [Act.put, List.setIfInBounds_toArray, List.set_cons_zero, List.set_cons_succ]
          refine wpAnyH_take (i := 4) (oi := ⟨some 123, _, _, _, _, _⟩) (v := ?_) rfl (by kernel_rfl) (by kernel_rfl) (by kernel_rfl) (fun _ _ _ h => h) (Or.inl ⟨by rfl, ?_⟩) (by assumption) ?_
          rotate_left
          · (intro w hSw; refine Eq.trans (klg hSw 0 _ (by rfl) (by rfl) (by rfl)) ?_; with_reducible rfl)
          try simp only [Act.put, List.setIfInBounds_toArray, List.set_cons_zero, List.set_cons_succ]
          refine wpAnyH_ready (rs := [5]) (by kernel_rfl) (by simp) ?_
          refine AllReadyH.cons (o := ⟨some 124, _, _, _, _, _⟩) rfl (fun K hK => ?_) AllReadyH.nil
          go_simp
          go_at_call 15
          refine (HEc.out _).mono ?_; rintro en w5 ⟨rfl, b5⟩; have hs := Lib.hid (hHeld.out.call b5); clear b5
          refine hK.out _ _ hs (fun hHeld => ?_)
          clear hK K
          try simp only [ap1, ap2, ap3, ap4, ap5]
          refine wpAnyH_take (i := 6) (oi := ⟨some 125, _, _, _, _, _⟩) (v := ?_) rfl (by kernel_rfl) (by kernel_rfl) (by kernel_rfl) (fun _ _ _ h => h) (Or.inl ⟨by rfl, ?_⟩) (by assumption) ?_
          rotate_left
          · (intro w hSw; refine Eq.trans (exec_gtc (x := (hn : Int)) (k := 40) (d := false) _ _ (by rfl) (by rfl) (by rfl) HG40.out) ?_; with_reducible rfl)
          try simp only [Act.put, List.setIfInBounds_toArray, List.set_cons_zero, List.set_cons_succ]
          refine wpAnyH_take (i := 7) (oi := ⟨some 126, _, _, _, _, _⟩) (v := ?_) rfl (by kernel_rfl) (by kernel_rfl) (by kernel_rfl) (fun _ _ _ h => h) (Or.inl ⟨by rfl, ?_⟩) (by assumption) ?_
          rotate_left
          · (intro w hSw; (try dsimp only at hSw); go_simp; try with_reducible rfl)
          try simp only [Act.put, List.setIfInBounds_toArray, List.set_cons_zero, List.set_cons_succ]
          refine wpAnyH_take (i := 8) (oi := ⟨some 127, _, _, _, _, _⟩) (v := ?_) rfl (by kernel_rfl) (by kernel_rfl) (by kernel_rfl) (fun _ _ _ h => h) (Or.inl ⟨by rfl, ?_⟩) (by assumption) ?_
          rotate_left
          · (intro w hSw; (try dsimp only at hSw); go_simp; try with_reducible rfl)
          try simp only [Act.put, List.setIfInBounds_toArray, List.set_cons_zero, List.set_cons_succ]
          refine wpAnyH_take (i := 9) (oi := ⟨some 128, _, _, _, _, _⟩) (v := ?_) rfl (by kernel_rfl) (by kernel_rfl) (by kernel_rfl) (fun _ _ _ h => h) (Or.inl ⟨by rfl, ?_⟩) (by assumption) ?_
          rotate_left
          · (intro w hSw; (try dsimp only at hSw); go_simp; try with_reducible rfl)
          try simp only [Act.put, List.setIfInBounds_toArray, List.set_cons_zero, List.set_cons_succ]
          refine wpAnyH_take (i := 10) (oi := ⟨some 129, _, _, _, _, _⟩) (v := ?_) rfl (by kernel_rfl) (by kernel_rfl) (by kernel_rfl) (fun _ _ _ h => h) (Or.inl ⟨by rfl, ?_⟩) (by assumption) ?_
          rotate_left
          · (intro w hSw; refine Eq.trans (klg_e hSw 0 _ (by rfl) (by rfl) (by rfl)) ?_; with_reducible rfl)
          try simp only [Act.put, List.setIfInBounds_toArray, List.set_cons_zero, List.set_cons_succ]
          refine wpAnyH_take (i := 11) (oi := ⟨some 130, _, _, _, _, _⟩) (v := ?_) rfl (by kernel_rfl) (by kernel_rfl) (by kernel_rfl) (fun _ _ _ h => h) (Or.inl ⟨by rfl, ?_⟩) (by assumption) ?_
          rotate_left
          · (intro w hSw; (try dsimp only at hSw); go_simp; try with_reducible rfl)
          try simp only [Act.put, List.setIfInBounds_toArray, List.set_cons_zero, List.set_cons_succ]
          refine wpAnyH_take (i := 12) (oi := ⟨some 131, _, _, _, _, _⟩) (v := ?_) rfl (by kernel_rfl) (by kernel_rfl) (by kernel_rfl) (fun _ _ _ h => h) (Or.inl ⟨by rfl, ?_⟩) (by assumption) ?_
          rotate_left
          · (intro w hSw; (try dsimp only at hSw); go_simp; try with_reducible rfl)
          try simp only [Act.put, List.setIfInBounds_toArray, List.set_cons_zero, List.set_cons_succ]
          refine wpAnyH_take (i := 13) (oi := ⟨some 132, _, _, _, _, _⟩) (v := ?_) rfl (by kernel_rfl) (by kernel_rfl) (by kernel_rfl) (fun _ _ _ h => h) (Or.inl ⟨by rfl, ?_⟩) (by assumption) ?_
          rotate_left
          · (intro w hSw; refine Eq.trans (klg_b hSw 0 _ (by rfl) (by rfl) (by rfl)) ?_; with_reducible rfl)
          try simp only [Act.put, List.setIfInBounds_toArray, List.set_cons_zero, List.set_cons_succ]
          refine wpAnyH_take (i := 14) (oi := ⟨some 133, _, _, _, _, _⟩) (v := ?_) rfl (by kernel_rfl) (by kernel_rfl) (by kernel_rfl) (fun _ _ _ h => h) (Or.inl ⟨by rfl, ?_⟩) (by assumption) ?_
          rotate_left
          · (intro w hSw; refine Eq.trans (klg hSw 0 _ (by rfl) (by rfl) (by rfl)) ?_; with_reducible rfl)
          try simp only [Act.put, List.setIfInBounds_toArray, List.set_cons_zero, List.set_cons_succ]
          refine wpAnyH_ready (rs := [15]) (by kernel_rfl) (by simp) ?_
          refine AllReadyH.cons (o := ⟨some 134, _, _, _, _, _⟩) rfl (fun K hK => ?_) AllReadyH.nil
          go_simp
          go_at_call 15
          refine (HEc.out _).mono ?_; rintro en w5 ⟨rfl, b5⟩; have hs := Lib.hid (hHeld.out.call b5); clear b5
          refine hK.out _ _ hs (fun hHeld => ?_)
          clear hK K
          try simp only [ap1, ap2, ap3, ap4, ap5]
          refine wpAnyH_take (i := 16) (oi := ⟨some 135, _, _, _, _, _⟩) (v := ?_) rfl (by kernel_rfl) (by kernel_rfl) (by kernel_rfl) (fun _ _ _ h => h) (Or.inl ⟨by rfl, ?_⟩) (by assumption) ?_
          rotate_left
          · (intro w hSw; refine Eq.trans (exec_sls_lh evLay (lo := bn2) (hi := hn) _ _ _ (by rfl) (by rfl) (by rfl) (by rfl) hlo hhi) ?_; with_reducible rfl)
          try simp only [Act.put, List.setIfInBounds_toArray, List.set_cons_zero, List.set_cons_succ]
          refine wpAnyH_ready (rs := [17]) (by kernel_rfl) (by simp) ?_
          refine AllReadyH.cons (o := ⟨some 136, _, _, _, _, _⟩) rfl (fun K hK => ?_) AllReadyH.nil
          go_simp
          go_at_call 14
          refine (HSm.out ev2 _ _ _ _ _ _ _ (HTn.out _ _ _ _ _ hHeld.out (fun z hz => hz) trivial) (HSub.out _ (Sls.own (hHeld.out.own 0 rfl) HF.out)) hev).mono ?_; rintro en w5 ⟨rfl, b5⟩; have hs := Lib.hid (hHeld.out.call b5); clear b5
          refine hK.out _ _ hs (fun hHeld => ?_)
          clear hK K
          try simp only [ap1, ap2, ap3, ap4, ap5]
          refine wpAnyH_take (i := 18) (oi := ⟨some 137, _, _, _, _, _⟩) (v := ?_) rfl (by kernel_rfl) (by kernel_rfl) (by kernel_rfl) (fun _ _ _ h => h) (Or.inl ⟨by rfl, ?_⟩) (by assumption) ?_
          rotate_left
          · (intro w hSw; (try dsimp only at hSw); go_simp; try with_reducible rfl)
          try simp only [Act.put, List.setIfInBounds_toArray, List.set_cons_zero, List.set_cons_succ]
          refine wpAnyH_take (i := 19) (oi := ⟨some 138, _, _, _, _, _⟩) (v := ?_) rfl (by kernel_rfl) (by kernel_rfl) (by kernel_rfl) (fun _ _ _ h => h) (Or.inl ⟨by rfl, ?_⟩) (by assumption) ?_
          rotate_left
          · (intro w hSw; (try dsimp only at hSw); go_simp; try with_reducible rfl)
          try simp only [Act.put, List.setIfInBounds_toArray, List.set_cons_zero, List.set_cons_succ]
          refine wpAnyH_take (i := 20) (oi := ⟨some 139, _, _, _, _, _⟩) (v := ?_) rfl (by kernel_rfl) (by kernel_rfl) (by kernel_rfl) (fun _ _ _ h => h) (Or.inl ⟨by rfl, ?_⟩) (by assumption) ?_
          rotate_left
          · (intro w hSw; (try dsimp only at hSw); go_simp; try with_reducible rfl)
          try simp only [Act.put, List.setIfInBounds_toArray, List.set_cons_zero, List.set_cons_succ]
          refine wpAnyH_take (i := 21) (oi := ⟨some 140, _, _, _, _, _⟩) (v := ?_) rfl (by kernel_rfl) (by kernel_rfl) (by kernel_rfl) (fun _ _ _ h => h) (Or.inl ⟨by rfl, ?_⟩) (by assumption) ?_
          rotate_left
          · (intro w hSw; (try dsimp only at hSw); go_simp; try with_reducible rfl)
          try simp only [Act.put, List.setIfInBounds_toArray, List.set_cons_zero, List.set_cons_succ]
          refine wpAnyH_take (i := 22) (oi := ⟨some 141, _, _, _, _, _⟩) (v := ?_) rfl (by kernel_rfl) (by kernel_rfl) (by kernel_rfl) (fun _ _ _ h => h) (Or.inl ⟨by rfl, ?_⟩) (by assumption) ?_
          rotate_left
          · (intro w hSw; refine Eq.trans (klg_d hSw 0 _ (by rfl) (by rfl) (by rfl)) ?_; with_reducible rfl)
          try simp only [Act.put, List.setIfInBounds_toArray, List.set_cons_zero, List.set_cons_succ]
          refine wpAnyH_take (i := 23) (oi := ⟨some 142, _, _, _, _, _⟩) (v := ?_) rfl (by kernel_rfl) (by kernel_rfl) (by kernel_rfl) (fun _ _ _ h => h) (Or.inl ⟨by rfl, ?_⟩) (by assumption) ?_
          rotate_left
          · (intro w hSw; (try dsimp only at hSw); go_simp; try with_reducible rfl)
          try simp only [Act.put, List.setIfInBounds_toArray, List.set_cons_zero, List.set_cons_succ]
          refine wpAnyH_take (i := 24) (oi := ⟨some 143, _, _, _, _, _⟩) (v := ?_) rfl (by kernel_rfl) (by kernel_rfl) (by kernel_rfl) (fun _ _ _ h => h) (Or.inl ⟨by rfl, ?_⟩) (by assumption) ?_
          rotate_left
          · (intro w hSw; refine Eq.trans (exec_intne (x := (dn2 : Int)) _ _ (by rfl) (by rfl) (by rfl)) ?_; with_reducible rfl)
          try simp only [Act.put, List.setIfInBounds_toArray, List.set_cons_zero, List.set_cons_succ]
          refine wpAnyH_take (i := 25) (oi := ⟨some 144, _, _, _, _, _⟩) (v := ?_) rfl (by kernel_rfl) (by kernel_rfl) (by kernel_rfl) (fun _ _ _ h => h) (Or.inl ⟨by rfl, ?_⟩) (by assumption) ?_
          rotate_left
          · (intro w hSw; (try dsimp only at hSw); go_simp; try with_reducible rfl)
          try simp only [Act.put, List.setIfInBounds_toArray, List.set_cons_zero, List.set_cons_succ]
          refine wpAnyH_done (by kernel_rfl) ?_ _
          all_goals
            have HK := hHeld
            clear HK0 hHeld HRc HEc HSm HSub HG40
            go_wp2_with (first | refine wpList_exe (exec_add1 (j := i) _ (by rfl) (by rfl) hi3) (by rfl) ?_)
            exact ⟨⟨i + 1, bn2, dn2, n6, c6, lc2, ev2, A6, Rk ++ Rn, hin, hi119, rfl, rfl, HGr2, Lib.hid (HK.out.takeL 1), HTn⟩, by simp [intOf]; omega⟩
      case neg =>
      have HK3 : Hid ((k == 3) = false) := Lib.hid (by rw [beq_eq_false_iff_ne]; exact hk3)
      obtain rfl : dn2 = dn := HN3.out (fun h => hk3 h.1)
      by_cases hk5 : k = 5
      case neg =>
        as_aux_lemma =>
        have HK5 : Hid ((k == 5) = false) := Lib.hid (by rw [beq_eq_false_iff_ne]; exact hk5)
        clear hk3 hk5 H3 HN3 H5 hl7
        go_upto_region 22 with (first | go_big_skip | refine wpList_exe (klo_k HK 1 _ (by rfl) (by rfl) (by rfl)) (by rfl) ?_ | refine wpList_exe (exec_eqk (x := k) (k := 3) _ _ (by rfl) (by rfl) (by rfl) HK3.out) (by rfl) ?_)
        clear HK3
        have f0 := HK.out.cell 1 rfl 0 (v := .int .i64 k) rfl
        have k5 := HK5.out
        go_upto_region 24 with fail
        clear f0 k5
        go_wp2_with fail
        have HK0 := Lib.hid HK.out.drew
        clear HK
        refine wp_region_held_drew (S := (fun W => Hid (Kn w.heap.size w W [(g5, 24, lgC (bn2 : Int) lc2 (dn2 : Int) (.slice A6 n6 c6)), (g8, 26, loC k (p : Int) (r : Int) (.slice (subA evLay.k (some ⟨b3, o3, none⟩) p c3) (q - p) (c3 - p))), (g10, 24, lgC (bn2 : Int) lc2 (dn2 : Int) (.slice A6 n6 c6))] (row evLay (.slice (some ⟨b3, o3, none⟩) 40 c3) rw40 :: (Rk ++ Rn))))) (by kernel_rfl) ?_ (fun hHeld => ?_)
        · (try dsimp only); exact HK0
        refine wpAnyH_take (i := 0) (oi := ⟨some 119, _, _, _, _, _⟩) (v := ?_) rfl (by kernel_rfl) (by kernel_rfl) (by kernel_rfl) (fun _ _ _ h => h) (Or.inl ⟨by rfl, ?_⟩) (by assumption) ?_
        rotate_left
        · (intro w hSw; refine Eq.trans (klg hSw 0 _ (by rfl) (by rfl) (by rfl)) ?_; with_reducible rfl)
        try simp only [Act.put, List.setIfInBounds_toArray, List.set_cons_zero, List.set_cons_succ]
        refine wpAnyH_ready (rs := [1]) (by kernel_rfl) (by simp) ?_
        refine AllReadyH.cons (o := ⟨some 120, _, _, _, _, _⟩) rfl (fun K hK => ?_) AllReadyH.nil
        go_simp
        go_at_call 9
        refine (HRc.out _ (HTn.out _ _ _ _ _ hHeld.out (fun z hz => hz) trivial)).mono ?_; rintro en w5 ⟨rfl, b5⟩; have hs := Lib.hid (hHeld.out.call b5); clear b5
        refine hK.out _ _ hs (fun hHeld => ?_)
        clear hK K
        try simp only [ap1, ap2, ap3, ap4, ap5]
        refine wpAnyH_take (i := 2) (oi := ⟨some 121, _, _, _, _, _⟩) (v := ?_) rfl (by kernel_rfl) (by kernel_rfl) (by kernel_rfl) (fun _ _ _ h => h) (Or.inl ⟨by rfl, ?_⟩) (by assumption) ?_
        rotate_left
        · (intro w hSw; (try dsimp only at hSw); go_simp; try with_reducible rfl)
        try simp only [Act.put, List.setIfInBounds_toArray, List.set_cons_zero, List.set_cons_succ]
        refine wpAnyH_take (i := 3) (oi := ⟨some 122, _, _, _, _, _⟩) (v := ?_) rfl (by kernel_rfl) (by kernel_rfl) (by kernel_rfl) (fun _ _ _ h => h) (Or.inl ⟨by rfl, ?_⟩) (by assumption) ?_
        rotate_left
        · (intro w hSw; (try dsimp only at hSw); go_simp; try with_reducible rfl)
        try simp only [Act.put, List.setIfInBounds_toArray, List.set_cons_zero, List.set_cons_succ]
        refine wpAnyH_take (i := 4) (oi := ⟨some 123, _, _, _, _, _⟩) (v := ?_) rfl (by kernel_rfl) (by kernel_rfl) (by kernel_rfl) (fun _ _ _ h => h) (Or.inl ⟨by rfl, ?_⟩) (by assumption) ?_
        rotate_left
        · (intro w hSw; refine Eq.trans (klg hSw 0 _ (by rfl) (by rfl) (by rfl)) ?_; with_reducible rfl)
        try simp only [Act.put, List.setIfInBounds_toArray, List.set_cons_zero, List.set_cons_succ]
        refine wpAnyH_ready (rs := [5]) (by kernel_rfl) (by simp) ?_
        refine AllReadyH.cons (o := ⟨some 124, _, _, _, _, _⟩) rfl (fun K hK => ?_) AllReadyH.nil
        go_simp
        go_at_call 15
        refine (HEc.out _).mono ?_; rintro en w5 ⟨rfl, b5⟩; have hs := Lib.hid (hHeld.out.call b5); clear b5
        refine hK.out _ _ hs (fun hHeld => ?_)
        clear hK K
        try simp only [ap1, ap2, ap3, ap4, ap5]
        refine wpAnyH_take (i := 6) (oi := ⟨some 125, _, _, _, _, _⟩) (v := ?_) rfl (by kernel_rfl) (by kernel_rfl) (by kernel_rfl) (fun _ _ _ h => h) (Or.inl ⟨by rfl, ?_⟩) (by assumption) ?_
        rotate_left
        · (intro w hSw; refine Eq.trans (exec_gtc (x := (hn : Int)) (k := 40) (d := false) _ _ (by rfl) (by rfl) (by rfl) HG40.out) ?_; with_reducible rfl)
        try simp only [Act.put, List.setIfInBounds_toArray, List.set_cons_zero, List.set_cons_succ]
        refine wpAnyH_take (i := 7) (oi := ⟨some 126, _, _, _, _, _⟩) (v := ?_) rfl (by kernel_rfl) (by kernel_rfl) (by kernel_rfl) (fun _ _ _ h => h) (Or.inl ⟨by rfl, ?_⟩) (by assumption) ?_
        rotate_left
        · (intro w hSw; (try dsimp only at hSw); go_simp; try with_reducible rfl)
        try simp only [Act.put, List.setIfInBounds_toArray, List.set_cons_zero, List.set_cons_succ]
        refine wpAnyH_take (i := 8) (oi := ⟨some 127, _, _, _, _, _⟩) (v := ?_) rfl (by kernel_rfl) (by kernel_rfl) (by kernel_rfl) (fun _ _ _ h => h) (Or.inl ⟨by rfl, ?_⟩) (by assumption) ?_
        rotate_left
        · (intro w hSw; (try dsimp only at hSw); go_simp; try with_reducible rfl)
        try simp only [Act.put, List.setIfInBounds_toArray, List.set_cons_zero, List.set_cons_succ]
        refine wpAnyH_take (i := 9) (oi := ⟨some 128, _, _, _, _, _⟩) (v := ?_) rfl (by kernel_rfl) (by kernel_rfl) (by kernel_rfl) (fun _ _ _ h => h) (Or.inl ⟨by rfl, ?_⟩) (by assumption) ?_
        rotate_left
        · (intro w hSw; (try dsimp only at hSw); go_simp; try with_reducible rfl)
        try simp only [Act.put, List.setIfInBounds_toArray, List.set_cons_zero, List.set_cons_succ]
        refine wpAnyH_take (i := 10) (oi := ⟨some 129, _, _, _, _, _⟩) (v := ?_) rfl (by kernel_rfl) (by kernel_rfl) (by kernel_rfl) (fun _ _ _ h => h) (Or.inl ⟨by rfl, ?_⟩) (by assumption) ?_
        rotate_left
        · (intro w hSw; refine Eq.trans (klg_e hSw 0 _ (by rfl) (by rfl) (by rfl)) ?_; with_reducible rfl)
        try simp only [Act.put, List.setIfInBounds_toArray, List.set_cons_zero, List.set_cons_succ]
        refine wpAnyH_take (i := 11) (oi := ⟨some 130, _, _, _, _, _⟩) (v := ?_) rfl (by kernel_rfl) (by kernel_rfl) (by kernel_rfl) (fun _ _ _ h => h) (Or.inl ⟨by rfl, ?_⟩) (by assumption) ?_
        rotate_left
        · (intro w hSw; (try dsimp only at hSw); go_simp; try with_reducible rfl)
        try simp only [Act.put, List.setIfInBounds_toArray, List.set_cons_zero, List.set_cons_succ]
        refine wpAnyH_take (i := 12) (oi := ⟨some 131, _, _, _, _, _⟩) (v := ?_) rfl (by kernel_rfl) (by kernel_rfl) (by kernel_rfl) (fun _ _ _ h => h) (Or.inl ⟨by rfl, ?_⟩) (by assumption) ?_
        rotate_left
        · (intro w hSw; (try dsimp only at hSw); go_simp; try with_reducible rfl)
        try simp only [Act.put, List.setIfInBounds_toArray, List.set_cons_zero, List.set_cons_succ]
        refine wpAnyH_take (i := 13) (oi := ⟨some 132, _, _, _, _, _⟩) (v := ?_) rfl (by kernel_rfl) (by kernel_rfl) (by kernel_rfl) (fun _ _ _ h => h) (Or.inl ⟨by rfl, ?_⟩) (by assumption) ?_
        rotate_left
        · (intro w hSw; refine Eq.trans (klg_b hSw 0 _ (by rfl) (by rfl) (by rfl)) ?_; with_reducible rfl)
        try simp only [Act.put, List.setIfInBounds_toArray, List.set_cons_zero, List.set_cons_succ]
        refine wpAnyH_take (i := 14) (oi := ⟨some 133, _, _, _, _, _⟩) (v := ?_) rfl (by kernel_rfl) (by kernel_rfl) (by kernel_rfl) (fun _ _ _ h => h) (Or.inl ⟨by rfl, ?_⟩) (by assumption) ?_
        rotate_left
        · (intro w hSw; refine Eq.trans (klg hSw 0 _ (by rfl) (by rfl) (by rfl)) ?_; with_reducible rfl)
        try simp only [Act.put, List.setIfInBounds_toArray, List.set_cons_zero, List.set_cons_succ]
        refine wpAnyH_ready (rs := [15]) (by kernel_rfl) (by simp) ?_
        refine AllReadyH.cons (o := ⟨some 134, _, _, _, _, _⟩) rfl (fun K hK => ?_) AllReadyH.nil
        go_simp
        go_at_call 15
        refine (HEc.out _).mono ?_; rintro en w5 ⟨rfl, b5⟩; have hs := Lib.hid (hHeld.out.call b5); clear b5
        refine hK.out _ _ hs (fun hHeld => ?_)
        clear hK K
        try simp only [ap1, ap2, ap3, ap4, ap5]
        refine wpAnyH_take (i := 16) (oi := ⟨some 135, _, _, _, _, _⟩) (v := ?_) rfl (by kernel_rfl) (by kernel_rfl) (by kernel_rfl) (fun _ _ _ h => h) (Or.inl ⟨by rfl, ?_⟩) (by assumption) ?_
        rotate_left
        · (intro w hSw; refine Eq.trans (exec_sls_lh evLay (lo := bn2) (hi := hn) _ _ _ (by rfl) (by rfl) (by rfl) (by rfl) hlo hhi) ?_; with_reducible rfl)
        try simp only [Act.put, List.setIfInBounds_toArray, List.set_cons_zero, List.set_cons_succ]
        refine wpAnyH_ready (rs := [17]) (by kernel_rfl) (by simp) ?_
        refine AllReadyH.cons (o := ⟨some 136, _, _, _, _, _⟩) rfl (fun K hK => ?_) AllReadyH.nil
        go_simp
        go_at_call 14
        refine (HSm.out ev2 _ _ _ _ _ _ _ (HTn.out _ _ _ _ _ hHeld.out (fun z hz => hz) trivial) (HSub.out _ (Sls.own (hHeld.out.own 0 rfl) HF.out)) hev).mono ?_; rintro en w5 ⟨rfl, b5⟩; have hs := Lib.hid (hHeld.out.call b5); clear b5
        refine hK.out _ _ hs (fun hHeld => ?_)
        clear hK K
        try simp only [ap1, ap2, ap3, ap4, ap5]
        refine wpAnyH_take (i := 18) (oi := ⟨some 137, _, _, _, _, _⟩) (v := ?_) rfl (by kernel_rfl) (by kernel_rfl) (by kernel_rfl) (fun _ _ _ h => h) (Or.inl ⟨by rfl, ?_⟩) (by assumption) ?_
        rotate_left
        · (intro w hSw; (try dsimp only at hSw); go_simp; try with_reducible rfl)
        try simp only [Act.put, List.setIfInBounds_toArray, List.set_cons_zero, List.set_cons_succ]
        refine wpAnyH_take (i := 19) (oi := ⟨some 138, _, _, _, _, _⟩) (v := ?_) rfl (by kernel_rfl) (by kernel_rfl) (by kernel_rfl) (fun _ _ _ h => h) (Or.inl ⟨by rfl, ?_⟩) (by assumption) ?_
        rotate_left
        · (intro w hSw; (try dsimp only at hSw); go_simp; try with_reducible rfl)
        try simp only [Act.put, List.setIfInBounds_toArray, List.set_cons_zero, List.set_cons_succ]
        refine wpAnyH_take (i := 20) (oi := ⟨some 139, _, _, _, _, _⟩) (v := ?_) rfl (by kernel_rfl) (by kernel_rfl) (by kernel_rfl) (fun _ _ _ h => h) (Or.inl ⟨by rfl, ?_⟩) (by assumption) ?_
        rotate_left
        · (intro w hSw; (try dsimp only at hSw); go_simp; try with_reducible rfl)
        try simp only [Act.put, List.setIfInBounds_toArray, List.set_cons_zero, List.set_cons_succ]
        refine wpAnyH_take (i := 21) (oi := ⟨some 140, _, _, _, _, _⟩) (v := ?_) rfl (by kernel_rfl) (by kernel_rfl) (by kernel_rfl) (fun _ _ _ h => h) (Or.inl ⟨by rfl, ?_⟩) (by assumption) ?_
        rotate_left
        · (intro w hSw; (try dsimp only at hSw); go_simp; try with_reducible rfl)
        try simp only [Act.put, List.setIfInBounds_toArray, List.set_cons_zero, List.set_cons_succ]
        refine wpAnyH_take (i := 22) (oi := ⟨some 141, _, _, _, _, _⟩) (v := ?_) rfl (by kernel_rfl) (by kernel_rfl) (by kernel_rfl) (fun _ _ _ h => h) (Or.inl ⟨by rfl, ?_⟩) (by assumption) ?_
        rotate_left
        · (intro w hSw; refine Eq.trans (klg_d hSw 0 _ (by rfl) (by rfl) (by rfl)) ?_; with_reducible rfl)
        try simp only [Act.put, List.setIfInBounds_toArray, List.set_cons_zero, List.set_cons_succ]
        refine wpAnyH_take (i := 23) (oi := ⟨some 142, _, _, _, _, _⟩) (v := ?_) rfl (by kernel_rfl) (by kernel_rfl) (by kernel_rfl) (fun _ _ _ h => h) (Or.inl ⟨by rfl, ?_⟩) (by assumption) ?_
        rotate_left
        · (intro w hSw; (try dsimp only at hSw); go_simp; try with_reducible rfl)
        try simp only [Act.put, List.setIfInBounds_toArray, List.set_cons_zero, List.set_cons_succ]
        refine wpAnyH_take (i := 24) (oi := ⟨some 143, _, _, _, _, _⟩) (v := ?_) rfl (by kernel_rfl) (by kernel_rfl) (by kernel_rfl) (fun _ _ _ h => h) (Or.inl ⟨by rfl, ?_⟩) (by assumption) ?_
        rotate_left
        · (intro w hSw; refine Eq.trans (exec_intne (x := (dn2 : Int)) _ _ (by rfl) (by rfl) (by rfl)) ?_; with_reducible rfl)
        try simp only [Act.put, List.setIfInBounds_toArray, List.set_cons_zero, List.set_cons_succ]
        refine wpAnyH_take (i := 25) (oi := ⟨some 144, _, _, _, _, _⟩) (v := ?_) rfl (by kernel_rfl) (by kernel_rfl) (by kernel_rfl) (fun _ _ _ h => h) (Or.inl ⟨by rfl, ?_⟩) (by assumption) ?_
        rotate_left
        · (intro w hSw; (try dsimp only at hSw); go_simp; try with_reducible rfl)
        try simp only [Act.put, List.setIfInBounds_toArray, List.set_cons_zero, List.set_cons_succ]
        refine wpAnyH_done (by kernel_rfl) ?_ _
        all_goals
          have HK := hHeld
          clear HK0 hHeld HRc HEc HSm HSub HG40
          go_wp2_with (first | refine wpList_exe (exec_add1 (j := i) _ (by rfl) (by rfl) hi3) (by rfl) ?_)
          exact ⟨⟨i + 1, bn2, dn2, n6, c6, lc2, ev2, A6, Rk ++ Rn, hin, hi119, rfl, rfl, HGr2, Lib.hid (HK.out.takeL 1), HTn⟩, by simp [intOf]; omega⟩
      case pos =>
        as_aux_lemma =>
        have HK5 : Hid ((k == 5) = true) := Lib.hid (by rw [beq_iff_eq]; exact hk5)
        obtain ⟨tn2, rfl, ht40, htr, hte⟩ := H5.out hk5
        rw [hl7] at ht40 htr hte
        obtain ⟨t7, ht7⟩ : ∃ t7 : Nat, tn2 + n7 = t7 := ⟨_, rfl⟩
        have hwt : IntKind.i64.wrap ((tn2 : Int) + (n7 : Int)) = (t7 : Int) := by rw [IntKind.wrap_i64]; omega
        have HG1 : Hid (decide ((40 : Int) < (t7 : Int)) = false) := Lib.hid (decide_eq_false (by omega))
        have HG2 : Hid (decide ((r : Int) < (n7 : Int)) = false) := Lib.hid (decide_eq_false (by omega))
        have htl : tn2 ≤ t7 := by omega
        have hth : t7 ≤ c3 := by omega
        have HSub2 : Hid (∀ W, Sls evLay lvF W (some ⟨b3, o3, none⟩) 40 c3 rw40 → Sls evLay lvF W (subA evLay.k (some ⟨b3, o3, none⟩) tn2 c3) (t7 - tn2) (c3 - tn2) te) := Lib.hid (fun W h => by
          have h2 := h.sub htl (show t7 ≤ 40 by omega)
          rw [show (rw40.drop tn2).take (t7 - tn2) = te from by rw [show t7 - tn2 = n7 by omega]; exact hte.symm] at h2
          exact h2)
        have hte7 : te.length ≤ 100000 := by omega
        clear hk3 hk5 H3 HN3 H5 hl7 ht40 htr hte ht7
        go_upto_region 22 with (first | go_big_skip | refine wpList_exe (klo_k HK 1 _ (by rfl) (by rfl) (by rfl)) (by rfl) ?_ | refine wpList_exe (exec_eqk (x := k) (k := 3) _ _ (by rfl) (by rfl) (by rfl) HK3.out) (by rfl) ?_)
        clear HK3
        go_wp2_with (first | refine wpList_exe (klo_k HK 1 _ (by rfl) (by rfl) (by rfl)) (by rfl) ?_ | refine wpList_exe (exec_eqk (x := k) (k := 5) _ _ (by rfl) (by rfl) (by rfl) HK5.out) (by rfl) ?_ | refine wpList_exe (exec_gtc (x := (t7 : Int)) (k := 40) (d := false) _ _ (by rfl) (by rfl) (by rfl) HG1.out) (by rfl) ?_ | refine wpList_exe (klo_m HK 1 _ (by rfl) (by rfl) (by rfl)) (by rfl) ?_ | refine wpList_exe (exec_gtc (x := (n7 : Int)) (k := (r : Int)) (d := false) _ _ (by rfl) (by rfl) (by rfl) HG2.out) (by rfl) ?_ | refine wpList_exe (exec_sls_lh evLay (lo := tn2) (hi := t7) _ _ _ (by rfl) (by rfl) (by rfl) (by rfl) htl hth) (by rfl) ?_)
        refine (HSm.out te _ _ _ _ _ _ _ (HTe.out _ _ _ _ _ HK.out (fun z hz => hz) trivial) (HSub2.out _ (Sls.own (HK.out.own 0 rfl) HF.out)) hte7).mono ?_; rintro en w3 ⟨rfl, b1⟩
        replace HK := Lib.hid (HK.out.call b1); clear b1
        clear HSub2 HG1 HG2 hwt
        go_wp2_with fail
        have HK0 := Lib.hid HK.out.drew
        clear HK
        refine wp_region_held_drew (S := (fun W => Hid (Kn w.heap.size w W [(g5, 24, lgC (bn2 : Int) lc2 (dn2 : Int) (.slice A6 n6 c6)), (g8, 26, loC k (p : Int) (r : Int) (.slice (subA evLay.k (some ⟨b3, o3, none⟩) p c3) (q - p) (c3 - p))), (g10, 24, lgC (bn2 : Int) lc2 (dn2 : Int) (.slice A6 n6 c6))] (row evLay (.slice (some ⟨b3, o3, none⟩) 40 c3) rw40 :: (Rk ++ Rn))))) (by kernel_rfl) ?_ (fun hHeld => ?_)
        · (try dsimp only); exact HK0
        refine wpAnyH_take (i := 0) (oi := ⟨some 119, _, _, _, _, _⟩) (v := ?_) rfl (by kernel_rfl) (by kernel_rfl) (by kernel_rfl) (fun _ _ _ h => h) (Or.inl ⟨by rfl, ?_⟩) (by assumption) ?_
        rotate_left
        · (intro w hSw; refine Eq.trans (klg hSw 0 _ (by rfl) (by rfl) (by rfl)) ?_; with_reducible rfl)
        try simp only [Act.put, List.setIfInBounds_toArray, List.set_cons_zero, List.set_cons_succ]
        refine wpAnyH_ready (rs := [1]) (by kernel_rfl) (by simp) ?_
        refine AllReadyH.cons (o := ⟨some 120, _, _, _, _, _⟩) rfl (fun K hK => ?_) AllReadyH.nil
        go_simp
        go_at_call 9
        refine (HRc.out _ (HTn.out _ _ _ _ _ hHeld.out (fun z hz => hz) trivial)).mono ?_; rintro en w5 ⟨rfl, b5⟩; have hs := Lib.hid (hHeld.out.call b5); clear b5
        refine hK.out _ _ hs (fun hHeld => ?_)
        clear hK K
        try simp only [ap1, ap2, ap3, ap4, ap5]
        refine wpAnyH_take (i := 2) (oi := ⟨some 121, _, _, _, _, _⟩) (v := ?_) rfl (by kernel_rfl) (by kernel_rfl) (by kernel_rfl) (fun _ _ _ h => h) (Or.inl ⟨by rfl, ?_⟩) (by assumption) ?_
        rotate_left
        · (intro w hSw; (try dsimp only at hSw); go_simp; try with_reducible rfl)
        try simp only [Act.put, List.setIfInBounds_toArray, List.set_cons_zero, List.set_cons_succ]
        refine wpAnyH_take (i := 3) (oi := ⟨some 122, _, _, _, _, _⟩) (v := ?_) rfl (by kernel_rfl) (by kernel_rfl) (by kernel_rfl) (fun _ _ _ h => h) (Or.inl ⟨by rfl, ?_⟩) (by assumption) ?_
        rotate_left
        · (intro w hSw; (try dsimp only at hSw); go_simp; try with_reducible rfl)
        try simp only [Act.put, List.setIfInBounds_toArray, List.set_cons_zero, List.set_cons_succ]
        refine wpAnyH_take (i := 4) (oi := ⟨some 123, _, _, _, _, _⟩) (v := ?_) rfl (by kernel_rfl) (by kernel_rfl) (by kernel_rfl) (fun _ _ _ h => h) (Or.inl ⟨by rfl, ?_⟩) (by assumption) ?_
        rotate_left
        · (intro w hSw; refine Eq.trans (klg hSw 0 _ (by rfl) (by rfl) (by rfl)) ?_; with_reducible rfl)
        try simp only [Act.put, List.setIfInBounds_toArray, List.set_cons_zero, List.set_cons_succ]
        refine wpAnyH_ready (rs := [5]) (by kernel_rfl) (by simp) ?_
        refine AllReadyH.cons (o := ⟨some 124, _, _, _, _, _⟩) rfl (fun K hK => ?_) AllReadyH.nil
        go_simp
        go_at_call 15
        refine (HEc.out _).mono ?_; rintro en w5 ⟨rfl, b5⟩; have hs := Lib.hid (hHeld.out.call b5); clear b5
        refine hK.out _ _ hs (fun hHeld => ?_)
        clear hK K
        try simp only [ap1, ap2, ap3, ap4, ap5]
        refine wpAnyH_take (i := 6) (oi := ⟨some 125, _, _, _, _, _⟩) (v := ?_) rfl (by kernel_rfl) (by kernel_rfl) (by kernel_rfl) (fun _ _ _ h => h) (Or.inl ⟨by rfl, ?_⟩) (by assumption) ?_
        rotate_left
        · (intro w hSw; refine Eq.trans (exec_gtc (x := (hn : Int)) (k := 40) (d := false) _ _ (by rfl) (by rfl) (by rfl) HG40.out) ?_; with_reducible rfl)
        try simp only [Act.put, List.setIfInBounds_toArray, List.set_cons_zero, List.set_cons_succ]
        refine wpAnyH_take (i := 7) (oi := ⟨some 126, _, _, _, _, _⟩) (v := ?_) rfl (by kernel_rfl) (by kernel_rfl) (by kernel_rfl) (fun _ _ _ h => h) (Or.inl ⟨by rfl, ?_⟩) (by assumption) ?_
        rotate_left
        · (intro w hSw; (try dsimp only at hSw); go_simp; try with_reducible rfl)
        try simp only [Act.put, List.setIfInBounds_toArray, List.set_cons_zero, List.set_cons_succ]
        refine wpAnyH_take (i := 8) (oi := ⟨some 127, _, _, _, _, _⟩) (v := ?_) rfl (by kernel_rfl) (by kernel_rfl) (by kernel_rfl) (fun _ _ _ h => h) (Or.inl ⟨by rfl, ?_⟩) (by assumption) ?_
        rotate_left
        · (intro w hSw; (try dsimp only at hSw); go_simp; try with_reducible rfl)
        try simp only [Act.put, List.setIfInBounds_toArray, List.set_cons_zero, List.set_cons_succ]
        refine wpAnyH_take (i := 9) (oi := ⟨some 128, _, _, _, _, _⟩) (v := ?_) rfl (by kernel_rfl) (by kernel_rfl) (by kernel_rfl) (fun _ _ _ h => h) (Or.inl ⟨by rfl, ?_⟩) (by assumption) ?_
        rotate_left
        · (intro w hSw; (try dsimp only at hSw); go_simp; try with_reducible rfl)
        try simp only [Act.put, List.setIfInBounds_toArray, List.set_cons_zero, List.set_cons_succ]
        refine wpAnyH_take (i := 10) (oi := ⟨some 129, _, _, _, _, _⟩) (v := ?_) rfl (by kernel_rfl) (by kernel_rfl) (by kernel_rfl) (fun _ _ _ h => h) (Or.inl ⟨by rfl, ?_⟩) (by assumption) ?_
        rotate_left
        · (intro w hSw; refine Eq.trans (klg_e hSw 0 _ (by rfl) (by rfl) (by rfl)) ?_; with_reducible rfl)
        try simp only [Act.put, List.setIfInBounds_toArray, List.set_cons_zero, List.set_cons_succ]
        refine wpAnyH_take (i := 11) (oi := ⟨some 130, _, _, _, _, _⟩) (v := ?_) rfl (by kernel_rfl) (by kernel_rfl) (by kernel_rfl) (fun _ _ _ h => h) (Or.inl ⟨by rfl, ?_⟩) (by assumption) ?_
        rotate_left
        · (intro w hSw; (try dsimp only at hSw); go_simp; try with_reducible rfl)
        try simp only [Act.put, List.setIfInBounds_toArray, List.set_cons_zero, List.set_cons_succ]
        refine wpAnyH_take (i := 12) (oi := ⟨some 131, _, _, _, _, _⟩) (v := ?_) rfl (by kernel_rfl) (by kernel_rfl) (by kernel_rfl) (fun _ _ _ h => h) (Or.inl ⟨by rfl, ?_⟩) (by assumption) ?_
        rotate_left
        · (intro w hSw; (try dsimp only at hSw); go_simp; try with_reducible rfl)
        try simp only [Act.put, List.setIfInBounds_toArray, List.set_cons_zero, List.set_cons_succ]
        refine wpAnyH_take (i := 13) (oi := ⟨some 132, _, _, _, _, _⟩) (v := ?_) rfl (by kernel_rfl) (by kernel_rfl) (by kernel_rfl) (fun _ _ _ h => h) (Or.inl ⟨by rfl, ?_⟩) (by assumption) ?_
        rotate_left
        · (intro w hSw; refine Eq.trans (klg_b hSw 0 _ (by rfl) (by rfl) (by rfl)) ?_; with_reducible rfl)
        try simp only [Act.put, List.setIfInBounds_toArray, List.set_cons_zero, List.set_cons_succ]
        refine wpAnyH_take (i := 14) (oi := ⟨some 133, _, _, _, _, _⟩) (v := ?_) rfl (by kernel_rfl) (by kernel_rfl) (by kernel_rfl) (fun _ _ _ h => h) (Or.inl ⟨by rfl, ?_⟩) (by assumption) ?_
        rotate_left
        · (intro w hSw; refine Eq.trans (klg hSw 0 _ (by rfl) (by rfl) (by rfl)) ?_; with_reducible rfl)
        try simp only [Act.put, List.setIfInBounds_toArray, List.set_cons_zero, List.set_cons_succ]
        refine wpAnyH_ready (rs := [15]) (by kernel_rfl) (by simp) ?_
        refine AllReadyH.cons (o := ⟨some 134, _, _, _, _, _⟩) rfl (fun K hK => ?_) AllReadyH.nil
        go_simp
        go_at_call 15
        refine (HEc.out _).mono ?_; rintro en w5 ⟨rfl, b5⟩; have hs := Lib.hid (hHeld.out.call b5); clear b5
        refine hK.out _ _ hs (fun hHeld => ?_)
        clear hK K
        try simp only [ap1, ap2, ap3, ap4, ap5]
        refine wpAnyH_take (i := 16) (oi := ⟨some 135, _, _, _, _, _⟩) (v := ?_) rfl (by kernel_rfl) (by kernel_rfl) (by kernel_rfl) (fun _ _ _ h => h) (Or.inl ⟨by rfl, ?_⟩) (by assumption) ?_
        rotate_left
        · (intro w hSw; refine Eq.trans (exec_sls_lh evLay (lo := bn2) (hi := hn) _ _ _ (by rfl) (by rfl) (by rfl) (by rfl) hlo hhi) ?_; with_reducible rfl)
        try simp only [Act.put, List.setIfInBounds_toArray, List.set_cons_zero, List.set_cons_succ]
        refine wpAnyH_ready (rs := [17]) (by kernel_rfl) (by simp) ?_
        refine AllReadyH.cons (o := ⟨some 136, _, _, _, _, _⟩) rfl (fun K hK => ?_) AllReadyH.nil
        go_simp
        go_at_call 14
        refine (HSm.out ev2 _ _ _ _ _ _ _ (HTn.out _ _ _ _ _ hHeld.out (fun z hz => hz) trivial) (HSub.out _ (Sls.own (hHeld.out.own 0 rfl) HF.out)) hev).mono ?_; rintro en w5 ⟨rfl, b5⟩; have hs := Lib.hid (hHeld.out.call b5); clear b5
        refine hK.out _ _ hs (fun hHeld => ?_)
        clear hK K
        try simp only [ap1, ap2, ap3, ap4, ap5]
        refine wpAnyH_take (i := 18) (oi := ⟨some 137, _, _, _, _, _⟩) (v := ?_) rfl (by kernel_rfl) (by kernel_rfl) (by kernel_rfl) (fun _ _ _ h => h) (Or.inl ⟨by rfl, ?_⟩) (by assumption) ?_
        rotate_left
        · (intro w hSw; (try dsimp only at hSw); go_simp; try with_reducible rfl)
        try simp only [Act.put, List.setIfInBounds_toArray, List.set_cons_zero, List.set_cons_succ]
        refine wpAnyH_take (i := 19) (oi := ⟨some 138, _, _, _, _, _⟩) (v := ?_) rfl (by kernel_rfl) (by kernel_rfl) (by kernel_rfl) (fun _ _ _ h => h) (Or.inl ⟨by rfl, ?_⟩) (by assumption) ?_
        rotate_left
        · (intro w hSw; (try dsimp only at hSw); go_simp; try with_reducible rfl)
        try simp only [Act.put, List.setIfInBounds_toArray, List.set_cons_zero, List.set_cons_succ]
        refine wpAnyH_take (i := 20) (oi := ⟨some 139, _, _, _, _, _⟩) (v := ?_) rfl (by kernel_rfl) (by kernel_rfl) (by kernel_rfl) (fun _ _ _ h => h) (Or.inl ⟨by rfl, ?_⟩) (by assumption) ?_
        rotate_left
        · (intro w hSw; (try dsimp only at hSw); go_simp; try with_reducible rfl)
        try simp only [Act.put, List.setIfInBounds_toArray, List.set_cons_zero, List.set_cons_succ]
        refine wpAnyH_take (i := 21) (oi := ⟨some 140, _, _, _, _, _⟩) (v := ?_) rfl (by kernel_rfl) (by kernel_rfl) (by kernel_rfl) (fun _ _ _ h => h) (Or.inl ⟨by rfl, ?_⟩) (by assumption) ?_
        rotate_left
        · (intro w hSw; (try dsimp only at hSw); go_simp; try with_reducible rfl)
        try simp only [Act.put, List.setIfInBounds_toArray, List.set_cons_zero, List.set_cons_succ]
        refine wpAnyH_take (i := 22) (oi := ⟨some 141, _, _, _, _, _⟩) (v := ?_) rfl (by kernel_rfl) (by kernel_rfl) (by kernel_rfl) (fun _ _ _ h => h) (Or.inl ⟨by rfl, ?_⟩) (by assumption) ?_
        rotate_left
        · (intro w hSw; refine Eq.trans (klg_d hSw 0 _ (by rfl) (by rfl) (by rfl)) ?_; with_reducible rfl)
        try simp only [Act.put, List.setIfInBounds_toArray, List.set_cons_zero, List.set_cons_succ]
        refine wpAnyH_take (i := 23) (oi := ⟨some 142, _, _, _, _, _⟩) (v := ?_) rfl (by kernel_rfl) (by kernel_rfl) (by kernel_rfl) (fun _ _ _ h => h) (Or.inl ⟨by rfl, ?_⟩) (by assumption) ?_
        rotate_left
        · (intro w hSw; (try dsimp only at hSw); go_simp; try with_reducible rfl)
        try simp only [Act.put, List.setIfInBounds_toArray, List.set_cons_zero, List.set_cons_succ]
        refine wpAnyH_take (i := 24) (oi := ⟨some 143, _, _, _, _, _⟩) (v := ?_) rfl (by kernel_rfl) (by kernel_rfl) (by kernel_rfl) (fun _ _ _ h => h) (Or.inl ⟨by rfl, ?_⟩) (by assumption) ?_
        rotate_left
        · (intro w hSw; refine Eq.trans (exec_intne (x := (dn2 : Int)) _ _ (by rfl) (by rfl) (by rfl)) ?_; with_reducible rfl)
        try simp only [Act.put, List.setIfInBounds_toArray, List.set_cons_zero, List.set_cons_succ]
        refine wpAnyH_take (i := 25) (oi := ⟨some 144, _, _, _, _, _⟩) (v := ?_) rfl (by kernel_rfl) (by kernel_rfl) (by kernel_rfl) (fun _ _ _ h => h) (Or.inl ⟨by rfl, ?_⟩) (by assumption) ?_
        rotate_left
        · (intro w hSw; (try dsimp only at hSw); go_simp; try with_reducible rfl)
        try simp only [Act.put, List.setIfInBounds_toArray, List.set_cons_zero, List.set_cons_succ]
        refine wpAnyH_done (by kernel_rfl) ?_ _
        all_goals
          have HK := hHeld
          clear HK0 hHeld HRc HEc HSm HSub HG40
          go_wp2_with (first | refine wpList_exe (exec_add1 (j := i) _ (by rfl) (by rfl) hi3) (by rfl) ?_)
          exact ⟨⟨i + 1, bn2, dn2, n6, c6, lc2, ev2, A6, Rk ++ Rn, hin, hi119, rfl, rfl, HGr2, Lib.hid (HK.out.takeL 1), HTn⟩, by simp [intOf]; omega⟩
end Go.Proofs.Ytakjggmiilkmdaa
