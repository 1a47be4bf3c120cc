/-
  What the document's Take returns.
  No condition but that an end has no more payloads than the form's reach, and numbers of no more.
-/
import Derived.Test.YtamjcghdebjpjaaLnkTake
namespace Go.Proofs.Ytamjcghdebjpjaa
open Go.RowKit

/-- An end, a payload, whether it is one, a packet, whether it is sent. -/
def IsRTk (A : Option Addr) (c : Nat) (l : List ByteArray) (r : Lnk.L × ByteArray × Bool × Lnk.Pkt × Bool) (w : World) (e : Ending) (w' : World) : Prop := ∃ A' c', e = .returned (.tuple #[.agg (lA (.slice A' r.1.out.length c') r.1), .string r.2.1, .bool r.2.2.1, .agg (pA r.2.2.2.1), .bool r.2.2.2.2]) ∧ From w w' A c l A' c' r.1.out ∧ Below w.heap.size w w'
/-- What leaves Out, in the ways of the document's test. -/
theorem rleave_is (m : Lnk.L) (p : Lnk.Pkt) (r : Lnk.L) (hr : (if p.tc = 0 then m else leaveL m p.ack) = r) (hb : 1 ≤ m.base ∧ m.base ≤ 1000000) (_hn : m.out.length ≤ 1000000) (h64 : -9223372036854775808 ≤ p.ack ∧ p.ack ≤ 9223372036854775807) :
    (((p.tc != 0) = false ∨ ((p.tc != 0) = true ∧ decide (m.base ≤ p.ack) = false) ∨ ((p.tc != 0) = true ∧ decide (m.base ≤ p.ack) = true ∧ IntKind.i64.wrap (p.ack - m.base) = p.ack - m.base ∧ decide (p.ack - m.base < (m.out.length : Int)) = false)) ∧ r = m) ∨
    (∃ k : Nat, (p.tc != 0) = true ∧ p.ack = m.base + k ∧ k < m.out.length ∧ r = ⟨m.ms, m.mc, m.ps, m.pc, m.out.drop (k + 1), p.ack + 1, m.got, 0⟩) := by
  simp only [bne_iff_ne, bne_eq_false_iff_eq, decide_eq_true_eq, decide_eq_false_iff_not]
  by_cases h0 : p.tc = 0
  · rw [if_pos h0] at hr; exact .inl ⟨.inl h0, hr.symm⟩
  · rw [if_neg h0] at hr
    unfold leaveL at hr
    by_cases h : m.base ≤ p.ack ∧ p.ack - m.base < m.out.length
    · rw [if_pos h] at hr
      refine .inr ⟨(p.ack - m.base).toNat, h0, by omega, by omega, ?_⟩
      rw [← hr, show (p.ack - m.base + 1).toNat = (p.ack - m.base).toNat + 1 from by omega]
    · rw [if_neg h] at hr
      refine .inl ⟨.inr ?_, hr.symm⟩
      by_cases h1 : m.base ≤ p.ack
      · exact .inr ⟨h0, h1, IntWalk.i64_in _ (by omega), by omega⟩
      · exact .inl ⟨h0, h1⟩
set_option maxRecDepth 10000 in
set_option maxHeartbeats 12800000 in
theorem rtake_any (A : Option Addr) (c : Nat) (l : Lnk.L) (p : Lnk.Pkt) (w : World) (hi : In w A l) (hcap : l.out.length ≤ c) (hb : 1 ≤ l.base ∧ l.base ≤ 1000000) (hg : 0 ≤ l.got ∧ l.got ≤ 1000000) (h64 : -9223372036854775808 ≤ p.ack ∧ p.ack ≤ 9223372036854775807) (h65 : -9223372036854775808 ≤ p.seq ∧ p.seq ≤ 9223372036854775807) :
    Calls Try.prog 32 #[.agg (lA (.slice A l.out.length c) l), .agg (pA p)] w (IsRTk A c l.out (Lnk.take l p) w) := by
  have ht := take_is l p
  have HM : Hid (∀ W, Below w.heap.size w W → Calls Try.prog 31 #[.agg (lA (.slice A l.out.length c) l), .int .i64 p.fc] W (IsR A c l (Lnk.meet l p.fc) W)) := Lib.hid fun W _ => rmeet_any A c l p.fc W
  obtain ⟨kb, kg, kn⟩ := meet_keeps l p.fc hb hg hi.2.2
  have hl := rleave_is (Lnk.meet l p.fc) p (Lnk.heard l p) (heard_leave l p).symm kb kn h64
  have hgq : (Lnk.heard l p).got = (Lnk.meet l p.fc).got := by
    rw [heard_leave]
    split
    · rfl
    · exact leave_got _ _
  have HRb : Hid (∀ W, Below w.heap.size w W → strLay.Reads W w.heap.size A l.out ∧ (A = none → l.out = []) ∧ l.out.length ≤ c) := Lib.hid fun W hW => ⟨hi.1.below hW, hi.2.1, hcap⟩
  have HR : Hid (∀ W, Below w.heap.size w W → strLay.Reads W W.heap.size A l.out ∧ (A = none → l.out = []) ∧ l.out.length ≤ c) := Lib.hid fun W hW => ⟨hi.1.later hW (Nat.le_refl _), hi.2.1, hcap⟩
  have HPk := Lib.hid (fun v ms mc ps pc base got age W => rpacket_any v ms mc ps pc base got age 0 ⟨#[]⟩ W)
  clear hi hb hg hcap
  generalize Lnk.take l p = r at *
  generalize Lnk.meet l p.fc = m at *
  generalize Lnk.heard l p = q at *
  obtain ⟨fs, fc, ts, tc, seq, ack, body⟩ := p
  have HK := kn4 w 27 (lA (.slice A l.out.length c) l) 36 (pC fs fc ts tc seq ack body) 27 (lC (.slice none 0 0) 0 0 0 0 0 0 0) 36 (pC 0 0 0 0 0 0 ⟨#[]⟩)
  unfold lA pA Lnk.pkt Lnk.noPkt Lnk.deaf at *
  unfold Lnk.emp at *
  simp only at HM HK ht ⊢
  obtain ⟨ms, mc, ps, pc, out, base, got, age⟩ := l
  obtain ⟨mms, mmc, mps, mpc, mout, mbase, mgot, mage⟩ := m
  obtain ⟨qms, qmc, qps, qpc, qout, qbase, qgot, qage⟩ := q
  simp only at HM HK HR HRb ht hl hgq kb kg kn h64 h65 ⊢
  subst hgq
  have HE : Hid (∀ q : Bool, (q = true ↔ (ts ≠ ms ∨ fs ≠ ps ∨ (tc ≠ 0 ∧ tc ≠ mc) ∨ fc < 1 ∨ fc < pc)) → q = decide (ts ≠ ms ∨ fs ≠ ps ∨ (tc ≠ 0 ∧ tc ≠ mc) ∨ fc < 1 ∨ fc < pc)) := Lib.hid fun q hq => by
    rw [Bool.eq_iff_iff, hq, decide_eq_true_eq]
  generalize hdf : decide (ts ≠ ms ∨ fs ≠ ps ∨ (tc ≠ 0 ∧ tc ≠ mc) ∨ fc < 1 ∨ fc < pc) = df at *
  have HDF := Lib.hid hdf
  have HH64 := Lib.hid h64
  have HH65 := Lib.hid h65
  have HT := Lib.hid ht
  have HLl := Lib.hid hl
  clear hdf h64 h65 ht hl
  go_enter Try.func32, Try.ntmps32
  go_upto_region 1 with fail
  try simp only [Act.put, List.setIfInBounds_toArray, List.set_cons_zero, List.set_cons_succ]
  go_cut [55] (fun v wx => v = .bool df ∧ Hid (Kn w.heap.size w wx [(w.heap.size, 27, lC (.slice A out.length c) ms mc ps pc base got age), (w.heap.size + 1, 36, pC fs fc ts tc seq ack body), (w.heap.size + 2, 27, lC (.slice none 0 0) 0 0 0 0 0 0 0), (w.heap.size + 3, 36, pC 0 0 0 0 0 0 ⟨#[]⟩)] []))
  case first =>
    have f0 : (lC (.slice A out.length c) ms mc ps pc base got age)[0]? = some (.int .i64 ms) := rfl
    have f1 : (lC (.slice A out.length c) ms mc ps pc base got age)[1]? = some (.int .i64 mc) := rfl
    have f2 : (lC (.slice A out.length c) ms mc ps pc base got age)[2]? = some (.int .i64 ps) := rfl
    have f3 : (lC (.slice A out.length c) ms mc ps pc base got age)[3]? = some (.int .i64 pc) := rfl
    have p0 : (pC fs fc ts tc seq ack body)[0]? = some (.int .i64 fs) := rfl
    have p1 : (pC fs fc ts tc seq ack body)[1]? = some (.int .i64 fc) := rfl
    have p2 : (pC fs fc ts tc seq ack body)[2]? = some (.int .i64 ts) := rfl
    have p3 : (pC fs fc ts tc seq ack body)[3]? = some (.int .i64 tc) := rfl
    clear HM HR HRb HPk HT HLl HH64 HH65 kb kg kn
    generalize lC (.slice A out.length c) ms mc ps pc base got age = la at *
    generalize pC fs fc ts tc seq ack body = pa at *
    go_wp2_with fail
    all_goals
      go_meet
      refine ⟨congrArg Value.bool (HE.out _ ?_), HK⟩
      clear HE HK f0 f1 f2 f3 p0 p1 p2 p3
      simp_all <;> omega
  case rest =>
  clear HK HE
  obtain ⟨rfl, HK⟩ := hcut
  cases df
  case true =>
    have hdf := HDF.out
    rw [decide_eq_true_eq] at hdf
    obtain rfl : r = (⟨ms, mc, ps, pc, out, base, got, age⟩, ⟨#[]⟩, false, ⟨0, 0, 0, 0, 0, 0, ⟨#[]⟩⟩, false) := by
      rcases HT.out with ⟨_, h⟩ | ⟨h1, _⟩ | ⟨h1, _⟩ | ⟨h1, _⟩
      · exact h
      all_goals exact absurd hdf h1
    clear hdf HDF HT HLl HM HRb
    generalize hn : out.length = n at *
    have HN := Lib.hid hn
    clear hn
    go_wp2_with (first | refine wpList_kll HK 0 rfl _ rfl rfl rfl ?_ | (refine wpList_ksl HK 2 rfl _ _ rfl rfl rfl rfl rfl ?_; intro _ HK' _; simp only [List.set] at HK'; replace HK := HK'; clear HK') | (refine wpList_ksp HK 3 rfl _ _ rfl rfl rfl rfl rfl ?_; intro _ HK' _; simp only [List.set] at HK'; replace HK := HK'; clear HK'))
    refine ret_take Try.results32 rfl rfl rfl rfl rfl rfl (HK.out.blk 2 rfl) (HK.out.blk 3 rfl) ⟨A, c, ?_, ?_, HK.out.b⟩
    · simp only [HN.out]; rfl
    · exact .inr ⟨rfl, rfl, rfl⟩
  case false =>
    have ht : (decide (seq < 1) = true ∧ r = (⟨qms, qmc, qps, qpc, qout, qbase, qgot, qage⟩, ⟨#[]⟩, false, ⟨0, 0, 0, 0, 0, 0, ⟨#[]⟩⟩, false)) ∨
        (decide (seq < 1) = false ∧ (tc = 0 ∨ (tc ≠ 0 ∧ seq ≠ qgot + 1)) ∧ r = (⟨qms, qmc, qps, qpc, qout, qbase, qgot, qage⟩, ⟨#[]⟩, false, ⟨qms, qmc, qps, qpc, 0, qgot, ⟨#[]⟩⟩, true)) ∨
        (decide (seq < 1) = false ∧ tc ≠ 0 ∧ seq = qgot + 1 ∧ r = (⟨qms, qmc, qps, qpc, qout, qbase, seq, qage⟩, body, true, ⟨qms, qmc, qps, qpc, 0, seq, ⟨#[]⟩⟩, true)) := by
      have hdf := HDF.out
      rw [decide_eq_false_iff_not] at hdf
      rcases HT.out with ⟨h1, _⟩ | ⟨_, h2, h⟩ | ⟨_, h2, h3, h⟩ | ⟨_, h2, h3, h4, h⟩
      · exact absurd h1 hdf
      · exact .inl ⟨by simpa using h2, h⟩
      · exact .inr (.inl ⟨by simpa using h2, h3, h⟩)
      · exact .inr (.inr ⟨by simpa using h2, h3, h4, h⟩)
    have hl := HLl.out
    clear HDF HT HLl HR
    go_wp2_with (first | refine wpList_kll HK 0 rfl _ rfl rfl rfl ?_ | refine wpList_kci HK 1 rfl _ rfl rfl rfl rfl ?_)
    refine (HM.out _ HK.out.b).mono ?_; rintro e w2 ⟨A1, c1, rfl, o1, b1⟩
    replace HK := Lib.hid (HK.out.call b1)
    have HRm : Hid (∀ W, Below w.heap.size w W → strLay.Reads W w.heap.size A1 mout ∧ (A1 = none → mout = []) ∧ mout.length ≤ c1) := Lib.hid fun W hW => by
      rcases o1 with ⟨rfl, rfl, e⟩ | ⟨rfl, rfl, e⟩
      · simp only at e
        rw [e]; exact HRb.out W hW
      · simp only at e
        rw [e]; exact ⟨Lay.Reads.nil _ _ _, fun _ => rfl, Nat.le_refl _⟩
    have HO1 := Lib.hid o1
    clear b1 HM o1 HRb
    unfold lA
    simp only
    have hcnd : ∃ cnd : Bool, (cnd = false ∧ ((tc != 0) = false ∨ ((tc != 0) = true ∧ decide (mbase ≤ ack) = false) ∨ ((tc != 0) = true ∧ decide (mbase ≤ ack) = true ∧ IntKind.i64.wrap (ack - mbase) = ack - mbase ∧ decide (ack - mbase < (mout.length : Int)) = false)) ∧ (⟨qms, qmc, qps, qpc, qout, qbase, qgot, qage⟩ : Lnk.L) = ⟨mms, mmc, mps, mpc, mout, mbase, qgot, mage⟩) ∨ (cnd = true ∧ ∃ k : Nat, (tc != 0) = true ∧ ack = mbase + k ∧ k < mout.length ∧ (⟨qms, qmc, qps, qpc, qout, qbase, qgot, qage⟩ : Lnk.L) = ⟨mms, mmc, mps, mpc, mout.drop (k + 1), ack + 1, qgot, 0⟩) := by
      rcases hl with ⟨h1, h2⟩ | h1
      · exact ⟨false, .inl ⟨rfl, h1, h2⟩⟩
      · exact ⟨true, .inr ⟨rfl, h1⟩⟩
    clear hl
    obtain ⟨cnd, hcnd⟩ := hcnd
    go_upto_region 4 with (first | (refine wpList_ksl HK 0 rfl _ _ rfl rfl rfl rfl rfl ?_; intro _ HK' _; simp only [List.set] at HK'; replace HK := HK'; clear HK'))
    try simp only [Act.put]
    go_cut [84] (fun v wx => v = .bool cnd ∧ Hid (Kn w.heap.size w wx [(w.heap.size, 27, lC (.slice A1 mout.length c1) mms mmc mps mpc mbase qgot mage), (w.heap.size + 1, 36, pC fs fc ts tc seq ack body), (w.heap.size + 2, 27, lC (.slice none 0 0) 0 0 0 0 0 0 0), (w.heap.size + 3, 36, pC 0 0 0 0 0 0 ⟨#[]⟩)] []))
    case first =>
      obtain ⟨x0, x1, x2, x3, x4, x5, x6, x7⟩ := HK.out.end 0 rfl
      obtain ⟨y0, y1, y2, y3, y4, y5, y6⟩ := HK.out.pkt 1 rfl
      rcases hcnd with ⟨rfl, d1 | ⟨d1, d2⟩ | ⟨d1, d2, d3, d4⟩, _⟩ | ⟨rfl, k, d1, rfl, d3, _⟩
      · go_wp2_with fail
        go_meet
        exact ⟨rfl, HK⟩
      · go_wp2_with fail
        go_meet
        exact ⟨rfl, HK⟩
      · go_wp2_with fail
        go_meet
        exact ⟨rfl, HK⟩
      · have d4 : decide (mbase ≤ mbase + (k : Int)) = true := decide_eq_true (by omega)
        have d5 : IntKind.i64.wrap (mbase + (k : Int) - mbase) = (k : Int) := by rw [show mbase + (k : Int) - mbase = (k : Int) from by omega]; exact IntWalk.i64_in _ (by omega)
        have d6 : decide ((k : Int) < (mout.length : Int)) = true := decide_eq_true (by omega)
        go_wp2_with fail
        go_meet
        exact ⟨rfl, HK⟩
    case rest =>
    clear HK
    obtain ⟨rfl, HK⟩ := hcut
    go_upto_if 84 with fail
    go_cut [] (fun wx => ∃ A2 c2 R, Hid (Kn w.heap.size w wx [(w.heap.size, 27, lC (.slice A2 qout.length c2) qms qmc qps qpc qbase qgot qage), (w.heap.size + 1, 36, pC fs fc ts tc seq ack body), (w.heap.size + 2, 27, lC (.slice none 0 0) 0 0 0 0 0 0 0), (w.heap.size + 3, 36, pC 0 0 0 0 0 0 ⟨#[]⟩)] R) ∧ Hid (∀ W L', Kn w.heap.size w W L' R → From w W A c out A2 c2 qout))
    case first =>
      rcases hcnd with ⟨rfl, _, hq⟩ | ⟨rfl, k, _, rfl, d3, hq⟩
      · injection hq with e1 e2 e3 e4 e5 e6 e7 e8
        subst e1 e2 e3 e4 e5 e6 e8
        go_wp2_with fail
        go_meet
        refine ⟨A1, c1, [], HK, Lib.hid fun W L' h => ?_⟩
        rcases HO1.out with ⟨rfl, rfl, e⟩ | ⟨rfl, rfl, e⟩
        · exact .inr ⟨rfl, rfl, e⟩
        · rw [e]; exact .inl (Lay.Own.none _ _)
      · injection hq with e1 e2 e3 e4 e5 e6 e7 e8
        subst e1 e2 e3 e4 e5 e6 e8
        have hcp := (HRm.out wc HK.out.b).2.2
        obtain ⟨b, o, rfl, hbw, hat⟩ := (HRm.out wc HK.out.b).1 (by omega)
        have HKl := Lib.hid (HK.out.literalAt strLay wc.heap.size rfl)
        simp only [List.nil_append] at HKl
        have hdl : (mout.drop (k + 1)).length = mout.length - (k + 1) := List.length_drop ..
        have HD1 : Hid (∀ W, Below w.heap.size w W → strLay.Reads W w.heap.size (some ⟨b, o + (k + 1), none⟩) (mout.drop (k + 1))) := Lib.hid fun W hW => by
          have h1 := (HRm.out W hW).1.drop (k + 1)
          rw [show strLay.k = 1 from rfl, Nat.mul_one] at h1
          exact h1
        have h5 : IntKind.i64.wrap (mbase + (k : Int) - mbase) = (k : Int) := by rw [show mbase + (k : Int) - mbase = (k : Int) from by omega]; exact IntWalk.i64_in _ (by omega)
        have h6 : IntKind.i64.wrap ((k : Int) + 1) = (k : Int) + 1 := IntWalk.i64_in _ (by omega)
        have h7 : IntKind.i64.wrap (mbase + (k : Int) + 1) = mbase + (k : Int) + 1 := IntWalk.i64_in _ (by omega)
        clear hat HRm
        generalize mout.drop (k + 1) = dr at *
        generalize mout.length = n at *
        have HDL := Lib.hid hdl
        have HL1 : Hid (([] : List ByteArray).length + dr.length ≤ 9223372036854775807 ∧ (([] : List ByteArray).length + dr.length) * strLay.bytes ≤ 211106232532992) := Lib.hid ⟨by rw [hdl]; simp; omega, by rw [hdl]; show _ * 16 ≤ _; simp; omega⟩
        have HN1 : Hid (([] ++ dr).length = dr.length) := Lib.hid rfl
        clear hdl
        have hs : c1 = k + 1 ∨ c1 ≠ k + 1 := by omega
        rcases hs with rfl | hs
        · obtain rfl : n = k + 1 := by omega
          obtain rfl : dr = [] := List.eq_nil_of_length_eq_zero (by rw [HDL.out]; omega)
          have HMl : Hid (strLay.Reads (wc.alloc (.cells #[] strLay.e)) w.heap.size (some ⟨b, o, none⟩) [] ∧ ((some ⟨b, o, none⟩ : Option Addr) = none → ([] : List ByteArray) = [])) := Lib.hid ⟨Lay.Reads.nil _ _ _, fun _ => rfl⟩
          have HN2 : Hid ((([] : List ByteArray) ++ []).length = 0) := Lib.hid rfl
          go_wp2_with (first | refine wpList_kci HK 0 rfl _ rfl rfl rfl rfl ?_ | refine wpList_kci HK 1 rfl _ rfl rfl rfl rfl ?_ | refine wpList_kcv HK 0 rfl _ rfl rfl rfl rfl ?_ | (refine wpList_kcv HKl 0 rfl _ rfl rfl rfl rfl ?_; replace HK := HKl; clear HKl) | (at_builtin; refine wpList_kmore HK strLay 0 rfl _ _ rfl rfl rfl ([] : List ByteArray) rfl rfl HMl HL1 HN2 ?_; intro A3 c3 _ HK'; simp only [List.set] at HK'; replace HK := HK'; clear HK') | (refine wpList_k4 HK 0 rfl _ _ rfl rfl rfl rfl ?_; intro _ HK' _; simp only [List.set] at HK'; replace HK := HK'; clear HK') | (first | (refine wpList_k7 HK 0 rfl _ _ rfl rfl rfl rfl ?_; intro _ HK' _; simp only [List.set] at HK'; replace HK := HK'; clear HK') | (refine wpList_k6 HK 0 rfl _ _ rfl rfl rfl rfl ?_; intro _ HK' _; simp only [List.set] at HK'; replace HK := HK'; clear HK') | (refine wpList_k5 HK 0 rfl _ _ rfl rfl rfl rfl ?_; intro _ HK' _; simp only [List.set] at HK'; replace HK := HK'; clear HK') | (refine wpList_k3 HK 0 rfl _ _ rfl rfl rfl rfl ?_; intro _ HK' _; simp only [List.set] at HK'; replace HK := HK'; clear HK')))
          go_meet
          exact ⟨A3, c3, _, HK, Lib.hid fun W L' h => .inl (h.own 0 rfl)⟩
        · have HMl : Hid (strLay.Reads (wc.alloc (.cells #[] strLay.e)) w.heap.size (some ⟨b, o + (k + 1), none⟩) dr ∧ ((some ⟨b, o + (k + 1), none⟩ : Option Addr) = none → dr = [])) := Lib.hid ⟨HD1.out _ HKl.out.b, fun h => by cases h⟩
          go_wp2_with (first | refine wpList_kci HK 0 rfl _ rfl rfl rfl rfl ?_ | refine wpList_kci HK 1 rfl _ rfl rfl rfl rfl ?_ | refine wpList_kcv HK 0 rfl _ rfl rfl rfl rfl ?_ | (refine wpList_kcv HKl 0 rfl _ rfl rfl rfl rfl ?_; replace HK := HKl; clear HKl) | (at_builtin; refine wpList_kmore HK strLay 0 rfl _ _ rfl rfl rfl dr rfl HDL.out.symm HMl HL1 HN1 ?_; intro A3 c3 _ HK'; simp only [List.set] at HK'; replace HK := HK'; clear HK') | (refine wpList_k4 HK 0 rfl _ _ rfl rfl rfl rfl ?_; intro _ HK' _; simp only [List.set] at HK'; replace HK := HK'; clear HK') | (first | (refine wpList_k7 HK 0 rfl _ _ rfl rfl rfl rfl ?_; intro _ HK' _; simp only [List.set] at HK'; replace HK := HK'; clear HK') | (refine wpList_k6 HK 0 rfl _ _ rfl rfl rfl rfl ?_; intro _ HK' _; simp only [List.set] at HK'; replace HK := HK'; clear HK') | (refine wpList_k5 HK 0 rfl _ _ rfl rfl rfl rfl ?_; intro _ HK' _; simp only [List.set] at HK'; replace HK := HK'; clear HK') | (refine wpList_k3 HK 0 rfl _ _ rfl rfl rfl rfl ?_; intro _ HK' _; simp only [List.set] at HK'; replace HK := HK'; clear HK')))
          go_meet
          try simp only [List.nil_append] at HK
          exact ⟨A3, c3, _, HK, Lib.hid fun W L' h => .inl (h.own 0 rfl)⟩
    case rest =>
    clear HK hcnd
    obtain ⟨A2, c2, R, HK, HRq⟩ := hcut
    obtain ⟨x0, x1, x2, x3, x4, x5, x6, x7⟩ := HK.out.end 0 rfl
    obtain ⟨y0, y1, y2, y3, y4, y5, y6⟩ := HK.out.pkt 1 rfl
    rcases ht with ⟨d1, rfl⟩ | ⟨d1, d2 | ⟨d2, d3⟩, rfl⟩ | ⟨d1, d2, d3, rfl⟩
    · go_wp2_with (first | refine wpList_kll HK 0 rfl _ rfl rfl rfl ?_ | (refine wpList_ksl HK 2 rfl _ _ rfl rfl rfl rfl rfl ?_; intro _ HK' _; simp only [List.set] at HK'; replace HK := HK'; clear HK') | (refine wpList_ksp HK 3 rfl _ _ rfl rfl rfl rfl rfl ?_; intro _ HK' _; simp only [List.set] at HK'; replace HK := HK'; clear HK'))
      exact ret_take Try.results32 rfl rfl rfl rfl rfl rfl (HK.out.blk 2 rfl) (HK.out.blk 3 rfl) ⟨A2, c2, rfl, HRq.out _ _ HK.out, HK.out.b⟩
    · subst d2
      go_wp2_with (first | refine wpList_kll HK 0 rfl _ rfl rfl rfl ?_ | (refine wpList_ksl HK 2 rfl _ _ rfl rfl rfl rfl rfl ?_; intro _ HK' _; simp only [List.set] at HK'; replace HK := HK'; clear HK') | (refine wpList_ksp HK 3 rfl _ _ rfl rfl rfl rfl rfl ?_; intro _ HK' _; simp only [List.set] at HK'; replace HK := HK'; clear HK'))
      replace HK := Lib.hid HK.out.drew
      have HP := Lib.hid (fun W => HPk.out (.slice A2 qout.length c2) qms qmc qps qpc qbase qgot qage W)
      have HH := Lib.hid ((HK.out.takeL 2).takeR 0)
      refine wp_region_held_drew (S := (fun W => Hid (Kn w.heap.size w W [(w.heap.size, 27, lC (.slice A2 qout.length c2) qms qmc qps qpc qbase qgot qage), (w.heap.size + 1, 36, pC fs fc ts 0 seq ack body)] []))) (by kernel_rfl) ?_ (fun hHeld => ?_)
      · (try dsimp only); exact HH
      refine wpAnyH_take (i := 0) (oi := ⟨some 120, _, _, _, _, _⟩) (v := ?_) rfl (by kernel_rfl) (by kernel_rfl) (by kernel_rfl) (fun _ _ _ h => h) (Or.inl ⟨by rfl, ?_⟩) (by assumption) ?_
      rotate_left
      · (intro w hSw; refine Eq.trans (kexec_ll hSw 0 _ (by rfl) (by rfl) (by rfl)) ?_; with_reducible rfl)
      try simp only [Act.put, List.setIfInBounds_toArray, List.set_cons_zero, List.set_cons_succ]
      refine wpAnyH_take (i := 1) (oi := ⟨some 121, _, _, _, _, _⟩) (v := ?_) rfl (by kernel_rfl) (by kernel_rfl) (by kernel_rfl) (fun _ _ _ h => h) (Or.inl ⟨by rfl, ?_⟩) (by assumption) ?_
      rotate_left
      · (intro w hSw; refine Eq.trans (kexec_ll hSw 0 _ (by rfl) (by rfl) (by rfl)) ?_; with_reducible rfl)
      try simp only [Act.put, List.setIfInBounds_toArray, List.set_cons_zero, List.set_cons_succ]
      refine wpAnyH_ready (rs := [2]) (by kernel_rfl) (by simp) ?_
      refine AllReadyH.cons (o := ⟨some 122, _, _, _, _, _⟩) rfl (fun K hK => ?_) AllReadyH.nil
      go_simp
      go_at_call 43
      refine (HP.out _).mono ?_; rintro e w5 ⟨rfl, b5⟩; replace HK := Lib.hid (HK.out.call b5); have hs := Lib.hid ((HK.out.takeL 2).takeR 0); clear b5; unfold pA
      refine hK.out _ _ hs (fun hHeld => ?_)
      clear hK K
      try simp only 
      refine wpAnyH_ready (rs := [3]) (by kernel_rfl) (by simp) ?_
      refine AllReadyH.cons (o := ⟨none, _, _, _, _, _⟩) rfl (fun K hK => ?_) AllReadyH.nil
      refine step_ksl HK 2 (by rfl) _ _ (by rfl) (by rfl) (by rfl) (by rfl) (by rfl) ?_; intro _ HK' _; simp only [List.set] at HK'; replace HK := HK'; clear HK'; have hs := Lib.hid ((HK.out.takeL 2).takeR 0)
      refine hK.out _ _ hs (fun hHeld => ?_)
      clear hK K
      try simp only [Act.put]
      refine wpAnyH_take (i := 4) (oi := ⟨some 5, _, _, _, _, _⟩) (v := ?_) rfl (by kernel_rfl) (by kernel_rfl) (by kernel_rfl) (fun _ _ _ h => h) (Or.inl ⟨by rfl, ?_⟩) (by assumption) ?_
      rotate_left
      · (intro w hSw; (try dsimp only at hSw); go_simp; try with_reducible rfl)
      try simp only [Act.put, List.setIfInBounds_toArray, List.set_cons_zero, List.set_cons_succ]
      refine wpAnyH_take (i := 5) (oi := ⟨some 6, _, _, _, _, _⟩) (v := ?_) rfl (by kernel_rfl) (by kernel_rfl) (by kernel_rfl) (fun _ _ _ h => h) (Or.inl ⟨by rfl, ?_⟩) (by assumption) ?_
      rotate_left
      · (intro w hSw; (try dsimp only at hSw); go_simp; try with_reducible rfl)
      try simp only [Act.put, List.setIfInBounds_toArray, List.set_cons_zero, List.set_cons_succ]
      refine wpAnyH_ready (rs := [6]) (by kernel_rfl) (by simp) ?_
      refine AllReadyH.cons (o := ⟨none, _, _, _, _, _⟩) rfl (fun K hK => ?_) AllReadyH.nil
      refine step_ksp HK 3 (by rfl) _ _ (by rfl) (by rfl) (by rfl) (by rfl) (by rfl) ?_; intro _ HK' _; simp only [List.set] at HK'; replace HK := HK'; clear HK'; have hs := Lib.hid ((HK.out.takeL 2).takeR 0)
      refine hK.out _ _ hs (fun hHeld => ?_)
      clear hK K
      try simp only [Act.put]
      refine wpAnyH_take (i := 7) (oi := ⟨some 8, _, _, _, _, _⟩) (v := ?_) rfl (by kernel_rfl) (by kernel_rfl) (by kernel_rfl) (fun _ _ _ h => h) (Or.inl ⟨by rfl, ?_⟩) (by assumption) ?_
      rotate_left
      · (intro w hSw; (try dsimp only at hSw); go_simp; try with_reducible rfl)
      try simp only [Act.put, List.setIfInBounds_toArray, List.set_cons_zero, List.set_cons_succ]
      refine wpAnyH_done (by kernel_rfl) ?_ _
      go_wp2_with fail
      exact ret_take Try.results32 rfl rfl rfl rfl rfl rfl (HK.out.blk 2 rfl) (HK.out.blk 3 rfl) ⟨A2, c2, rfl, HRq.out _ _ HK.out, HK.out.b⟩
    · have d4 : (tc == 0) = false := by simpa using d2
      have d6 : decide (seq < 1) = false := d1
      have d5 : IntKind.i64.wrap (seq - 1) = seq - 1 := IntWalk.i64_in _ (by have := HH65.out; simp at d6; omega)
      have d7 : (seq - 1 != qgot) = true := by simp; omega
      clear d2 d3 d6
      go_wp2_with (first | refine wpList_kll HK 0 rfl _ rfl rfl rfl ?_ | (refine wpList_ksl HK 2 rfl _ _ rfl rfl rfl rfl rfl ?_; intro _ HK' _; simp only [List.set] at HK'; replace HK := HK'; clear HK') | (refine wpList_ksp HK 3 rfl _ _ rfl rfl rfl rfl rfl ?_; intro _ HK' _; simp only [List.set] at HK'; replace HK := HK'; clear HK'))
      replace HK := Lib.hid HK.out.drew
      have HP := Lib.hid (fun W => HPk.out (.slice A2 qout.length c2) qms qmc qps qpc qbase qgot qage W)
      have HH := Lib.hid ((HK.out.takeL 2).takeR 0)
      refine wp_region_held_drew (S := (fun W => Hid (Kn w.heap.size w W [(w.heap.size, 27, lC (.slice A2 qout.length c2) qms qmc qps qpc qbase qgot qage), (w.heap.size + 1, 36, pC fs fc ts tc seq ack body)] []))) (by kernel_rfl) ?_ (fun hHeld => ?_)
      · (try dsimp only); exact HH
      refine wpAnyH_take (i := 0) (oi := ⟨some 120, _, _, _, _, _⟩) (v := ?_) rfl (by kernel_rfl) (by kernel_rfl) (by kernel_rfl) (fun _ _ _ h => h) (Or.inl ⟨by rfl, ?_⟩) (by assumption) ?_
      rotate_left
      · (intro w hSw; refine Eq.trans (kexec_ll hSw 0 _ (by rfl) (by rfl) (by rfl)) ?_; with_reducible rfl)
      try simp only [Act.put, List.setIfInBounds_toArray, List.set_cons_zero, List.set_cons_succ]
      refine wpAnyH_take (i := 1) (oi := ⟨some 121, _, _, _, _, _⟩) (v := ?_) rfl (by kernel_rfl) (by kernel_rfl) (by kernel_rfl) (fun _ _ _ h => h) (Or.inl ⟨by rfl, ?_⟩) (by assumption) ?_
      rotate_left
      · (intro w hSw; refine Eq.trans (kexec_ll hSw 0 _ (by rfl) (by rfl) (by rfl)) ?_; with_reducible rfl)
      try simp only [Act.put, List.setIfInBounds_toArray, List.set_cons_zero, List.set_cons_succ]
      refine wpAnyH_ready (rs := [2]) (by kernel_rfl) (by simp) ?_
      refine AllReadyH.cons (o := ⟨some 122, _, _, _, _, _⟩) rfl (fun K hK => ?_) AllReadyH.nil
      go_simp
      go_at_call 43
      refine (HP.out _).mono ?_; rintro e w5 ⟨rfl, b5⟩; replace HK := Lib.hid (HK.out.call b5); have hs := Lib.hid ((HK.out.takeL 2).takeR 0); clear b5; unfold pA
      refine hK.out _ _ hs (fun hHeld => ?_)
      clear hK K
      try simp only 
      refine wpAnyH_ready (rs := [3]) (by kernel_rfl) (by simp) ?_
      refine AllReadyH.cons (o := ⟨none, _, _, _, _, _⟩) rfl (fun K hK => ?_) AllReadyH.nil
      refine step_ksl HK 2 (by rfl) _ _ (by rfl) (by rfl) (by rfl) (by rfl) (by rfl) ?_; intro _ HK' _; simp only [List.set] at HK'; replace HK := HK'; clear HK'; have hs := Lib.hid ((HK.out.takeL 2).takeR 0)
      refine hK.out _ _ hs (fun hHeld => ?_)
      clear hK K
      try simp only [Act.put]
      refine wpAnyH_take (i := 4) (oi := ⟨some 5, _, _, _, _, _⟩) (v := ?_) rfl (by kernel_rfl) (by kernel_rfl) (by kernel_rfl) (fun _ _ _ h => h) (Or.inl ⟨by rfl, ?_⟩) (by assumption) ?_
      rotate_left
      · (intro w hSw; (try dsimp only at hSw); go_simp; try with_reducible rfl)
      try simp only [Act.put, List.setIfInBounds_toArray, List.set_cons_zero, List.set_cons_succ]
      refine wpAnyH_take (i := 5) (oi := ⟨some 6, _, _, _, _, _⟩) (v := ?_) rfl (by kernel_rfl) (by kernel_rfl) (by kernel_rfl) (fun _ _ _ h => h) (Or.inl ⟨by rfl, ?_⟩) (by assumption) ?_
      rotate_left
      · (intro w hSw; (try dsimp only at hSw); go_simp; try with_reducible rfl)
      try simp only [Act.put, List.setIfInBounds_toArray, List.set_cons_zero, List.set_cons_succ]
      refine wpAnyH_ready (rs := [6]) (by kernel_rfl) (by simp) ?_
      refine AllReadyH.cons (o := ⟨none, _, _, _, _, _⟩) rfl (fun K hK => ?_) AllReadyH.nil
      refine step_ksp HK 3 (by rfl) _ _ (by rfl) (by rfl) (by rfl) (by rfl) (by rfl) ?_; intro _ HK' _; simp only [List.set] at HK'; replace HK := HK'; clear HK'; have hs := Lib.hid ((HK.out.takeL 2).takeR 0)
      refine hK.out _ _ hs (fun hHeld => ?_)
      clear hK K
      try simp only [Act.put]
      refine wpAnyH_take (i := 7) (oi := ⟨some 8, _, _, _, _, _⟩) (v := ?_) rfl (by kernel_rfl) (by kernel_rfl) (by kernel_rfl) (fun _ _ _ h => h) (Or.inl ⟨by rfl, ?_⟩) (by assumption) ?_
      rotate_left
      · (intro w hSw; (try dsimp only at hSw); go_simp; try with_reducible rfl)
      try simp only [Act.put, List.setIfInBounds_toArray, List.set_cons_zero, List.set_cons_succ]
      refine wpAnyH_done (by kernel_rfl) ?_ _
      go_wp2_with fail
      exact ret_take Try.results32 rfl rfl rfl rfl rfl rfl (HK.out.blk 2 rfl) (HK.out.blk 3 rfl) ⟨A2, c2, rfl, HRq.out _ _ HK.out, HK.out.b⟩
    · have d4 : (tc == 0) = false := by simpa using d2
      have d6 : decide (seq < 1) = false := d1
      have d5 : IntKind.i64.wrap (seq - 1) = seq - 1 := IntWalk.i64_in _ (by have := HH65.out; simp at d6; omega)
      have d7 : (seq - 1 != qgot) = false := by simp; omega
      clear d2 d3 d6
      go_wp2_with (first | refine wpList_kll HK 0 rfl _ rfl rfl rfl ?_ | (refine wpList_k6 HK 0 rfl _ _ rfl rfl rfl rfl ?_; intro _ HK' _; simp only [List.set] at HK'; replace HK := HK'; clear HK') | (refine wpList_ksl HK 2 rfl _ _ rfl rfl rfl rfl rfl ?_; intro _ HK' _; simp only [List.set] at HK'; replace HK := HK'; clear HK') | (refine wpList_ksp HK 3 rfl _ _ rfl rfl rfl rfl rfl ?_; intro _ HK' _; simp only [List.set] at HK'; replace HK := HK'; clear HK'))
      replace HK := Lib.hid HK.out.drew
      have HP := Lib.hid (fun W => HPk.out (.slice A2 qout.length c2) qms qmc qps qpc qbase seq qage W)
      have HH := Lib.hid ((HK.out.takeL 2).takeR 0)
      refine wp_region_held_drew (S := (fun W => Hid (Kn w.heap.size w W [(w.heap.size, 27, lC (.slice A2 qout.length c2) qms qmc qps qpc qbase seq qage), (w.heap.size + 1, 36, pC fs fc ts tc seq ack body)] []))) (by kernel_rfl) ?_ (fun hHeld => ?_)
      · (try dsimp only); exact HH
      refine wpAnyH_take (i := 0) (oi := ⟨some 126, _, _, _, _, _⟩) (v := ?_) rfl (by kernel_rfl) (by kernel_rfl) (by kernel_rfl) (fun _ _ _ h => h) (Or.inl ⟨by rfl, ?_⟩) (by assumption) ?_
      rotate_left
      · (intro w hSw; refine Eq.trans (kexec_ll hSw 0 _ (by rfl) (by rfl) (by rfl)) ?_; with_reducible rfl)
      try simp only [Act.put, List.setIfInBounds_toArray, List.set_cons_zero, List.set_cons_succ]
      refine wpAnyH_take (i := 1) (oi := ⟨some 127, _, _, _, _, _⟩) (v := ?_) rfl (by kernel_rfl) (by kernel_rfl) (by kernel_rfl) (fun _ _ _ h => h) (Or.inl ⟨by rfl, ?_⟩) (by assumption) ?_
      rotate_left
      · (intro w hSw; (try dsimp only at hSw); go_simp; try with_reducible rfl)
      try simp only [Act.put, List.setIfInBounds_toArray, List.set_cons_zero, List.set_cons_succ]
      refine wpAnyH_take (i := 2) (oi := ⟨some 128, _, _, _, _, _⟩) (v := ?_) rfl (by kernel_rfl) (by kernel_rfl) (by kernel_rfl) (fun _ _ _ h => h) (Or.inl ⟨by rfl, ?_⟩) (by assumption) ?_
      rotate_left
      · (intro w hSw; refine Eq.trans (kexec_cs hSw 1 _ (by rfl) (by rfl) (by rfl) (by rfl)) ?_; with_reducible rfl)
      try simp only [Act.put, List.setIfInBounds_toArray, List.set_cons_zero, List.set_cons_succ]
      refine wpAnyH_take (i := 3) (oi := ⟨some 129, _, _, _, _, _⟩) (v := ?_) rfl (by kernel_rfl) (by kernel_rfl) (by kernel_rfl) (fun _ _ _ h => h) (Or.inl ⟨by rfl, ?_⟩) (by assumption) ?_
      rotate_left
      · (intro w hSw; refine Eq.trans (kexec_ll hSw 0 _ (by rfl) (by rfl) (by rfl)) ?_; with_reducible rfl)
      try simp only [Act.put, List.setIfInBounds_toArray, List.set_cons_zero, List.set_cons_succ]
      refine wpAnyH_ready (rs := [4]) (by kernel_rfl) (by simp) ?_
      refine AllReadyH.cons (o := ⟨some 130, _, _, _, _, _⟩) rfl (fun K hK => ?_) AllReadyH.nil
      go_simp
      go_at_call 43
      refine (HP.out _).mono ?_; rintro e w5 ⟨rfl, b5⟩; replace HK := Lib.hid (HK.out.call b5); have hs := Lib.hid ((HK.out.takeL 2).takeR 0); clear b5; unfold pA
      refine hK.out _ _ hs (fun hHeld => ?_)
      clear hK K
      try simp only 
      refine wpAnyH_ready (rs := [5]) (by kernel_rfl) (by simp) ?_
      refine AllReadyH.cons (o := ⟨none, _, _, _, _, _⟩) rfl (fun K hK => ?_) AllReadyH.nil
      refine step_ksl HK 2 (by rfl) _ _ (by rfl) (by rfl) (by rfl) (by rfl) (by rfl) ?_; intro _ HK' _; simp only [List.set] at HK'; replace HK := HK'; clear HK'; have hs := Lib.hid ((HK.out.takeL 2).takeR 0)
      refine hK.out _ _ hs (fun hHeld => ?_)
      clear hK K
      try simp only [Act.put]
      refine wpAnyH_take (i := 6) (oi := ⟨some 5, _, _, _, _, _⟩) (v := ?_) rfl (by kernel_rfl) (by kernel_rfl) (by kernel_rfl) (fun _ _ _ h => h) (Or.inl ⟨by rfl, ?_⟩) (by assumption) ?_
      rotate_left
      · (intro w hSw; (try dsimp only at hSw); go_simp; try with_reducible rfl)
      try simp only [Act.put, List.setIfInBounds_toArray, List.set_cons_zero, List.set_cons_succ]
      refine wpAnyH_take (i := 7) (oi := ⟨some 6, _, _, _, _, _⟩) (v := ?_) rfl (by kernel_rfl) (by kernel_rfl) (by kernel_rfl) (fun _ _ _ h => h) (Or.inl ⟨by rfl, ?_⟩) (by assumption) ?_
      rotate_left
      · (intro w hSw; (try dsimp only at hSw); go_simp; try with_reducible rfl)
      try simp only [Act.put, List.setIfInBounds_toArray, List.set_cons_zero, List.set_cons_succ]
      refine wpAnyH_ready (rs := [8]) (by kernel_rfl) (by simp) ?_
      refine AllReadyH.cons (o := ⟨none, _, _, _, _, _⟩) rfl (fun K hK => ?_) AllReadyH.nil
      refine step_ksp HK 3 (by rfl) _ _ (by rfl) (by rfl) (by rfl) (by rfl) (by rfl) ?_; intro _ HK' _; simp only [List.set] at HK'; replace HK := HK'; clear HK'; have hs := Lib.hid ((HK.out.takeL 2).takeR 0)
      refine hK.out _ _ hs (fun hHeld => ?_)
      clear hK K
      try simp only [Act.put]
      refine wpAnyH_take (i := 9) (oi := ⟨some 8, _, _, _, _, _⟩) (v := ?_) rfl (by kernel_rfl) (by kernel_rfl) (by kernel_rfl) (fun _ _ _ h => h) (Or.inl ⟨by rfl, ?_⟩) (by assumption) ?_
      rotate_left
      · (intro w hSw; (try dsimp only at hSw); go_simp; try with_reducible rfl)
      try simp only [Act.put, List.setIfInBounds_toArray, List.set_cons_zero, List.set_cons_succ]
      refine wpAnyH_done (by kernel_rfl) ?_ _
      go_wp2_with fail
      exact ret_take Try.results32 rfl rfl rfl rfl rfl rfl (HK.out.blk 2 rfl) (HK.out.blk 3 rfl) ⟨A2, c2, rfl, HRq.out _ _ HK.out, HK.out.b⟩
end Go.Proofs.Ytamjcghdebjpjaa
