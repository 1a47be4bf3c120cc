/-
  What concerns and leave return.
  No condition but that an end has no more payloads than the form's reach, and a first number of no more.
-/
import Derived.Test.YtamjcghdebjpjaaLnkMeet
namespace Go.Proofs.Ytamjcghdebjpjaa
open Go.RowKit

/-- What leaves Out by an acknowledgement of number 'ack'. -/
def leaveL (l : Lnk.L) (ack : Int) : Lnk.L := if l.base ≤ ack ∧ ack - l.base < l.out.length then ⟨l.ms, l.mc, l.ps, l.pc, l.out.drop (ack - l.base + 1).toNat, ack + 1, l.got, 0⟩ else l
theorem leave_is (l : Lnk.L) (ack : Int) (hb : 1 ≤ l.base ∧ l.base ≤ 1000000) (hn : l.out.length ≤ 1000000) (h64 : -9223372036854775808 ≤ ack ∧ ack ≤ 9223372036854775807) :
    (∃ d : Int, IntKind.i64.wrap (ack - l.base) = d ∧ (d < 0 ∨ (0 ≤ d ∧ (l.out.length : Int) ≤ d)) ∧ leaveL l ack = l) ∨
    (∃ k : Nat, IntKind.i64.wrap (ack - l.base) = k ∧ k < l.out.length ∧ ack = l.base + k ∧ leaveL l ack = ⟨l.ms, l.mc, l.ps, l.pc, l.out.drop (k + 1), ack + 1, l.got, 0⟩) := by
  unfold leaveL
  by_cases h : l.base ≤ ack ∧ ack - l.base < l.out.length
  · refine .inr ⟨(ack - l.base).toNat, ?_, by omega, by omega, ?_⟩
    · rw [IntWalk.i64_in _ (by omega)]; omega
    · rw [if_pos h, show (ack - l.base + 1).toNat = (ack - l.base).toNat + 1 from by omega]
  · refine .inl ⟨_, rfl, ?_, by rw [if_neg h]⟩
    rw [IntKind.wrap_i64]
    omega
set_option maxHeartbeats 1600000 in
theorem leave_any (A : Option Addr) (c : Nat) (l : Lnk.L) (ack : Int) (w : World) (hi : In w A l) (hcap : l.out.length ≤ c) (hb : 1 ≤ l.base ∧ l.base ≤ 1000000) (h64 : -9223372036854775808 ≤ ack ∧ ack ≤ 9223372036854775807) :
    Calls Try.prog 42 #[.agg (lA (.slice A l.out.length c) l), .int .i64 ack] w fun e w' => ∃ A' c', e = .returned (.agg (lA (.slice A' (leaveL l ack).out.length c') (leaveL l ack))) ∧ (strLay.Own w.heap.size w' (.slice A' (leaveL l ack).out.length c') (leaveL l ack).out ∨ (A' = A ∧ c' = c ∧ (leaveL l ack).out = l.out)) ∧ Below w.heap.size w w' := by
  have hl := leave_is l ack hb hi.2.2 h64
  generalize leaveL l ack = r at *
  obtain ⟨ms, mc, ps, pc, out, base, got, age⟩ := l
  unfold lA at *
  simp only at hl hb hcap ⊢
  have hI := hi.1
  have hA := hi.2.1
  have hL := hi.2.2
  simp only at hI hA hL
  clear hi
  rcases hl with ⟨d, hd, hd2, rfl⟩ | ⟨k, hk, hkn, rfl, rfl⟩
  · have HK := kn2 w 27 (lC (.slice A out.length c) ms mc ps pc base got age) 27 (lC (.slice none 0 0) 0 0 0 0 0 0 0)
    clear hI hA hb hL hcap h64
    generalize hn : out.length = n at *
    have HN := Lib.hid hn
    clear hn
    have hx4 : (lC (.slice A n c) ms mc ps pc base got age)[4]? = some (.slice A n c) := rfl
    have hx5 : (lC (.slice A n c) ms mc ps pc base got age)[5]? = some (.int .i64 base) := rfl
    have hs : (d < 0 ∧ decide (d < 0) = true) ∨ (decide (d < 0) = false ∧ decide ((n : Int) ≤ d) = true) := by
      rcases hd2 with h | ⟨h, h'⟩
      · exact .inl ⟨h, by simpa using h⟩
      · exact .inr ⟨by simpa using h, by simpa using h'⟩
    clear hd2
    rcases hs with ⟨hd2, hd3⟩ | ⟨hd2, hd3⟩
    all_goals
      go_enter Try.func42, Try.ntmps42
      go_wp2_with (first | refine wpList_kll HK 0 rfl _ rfl rfl rfl ?_ | refine wpList_kci HK 0 rfl _ rfl rfl rfl rfl ?_ | refine wpList_kcv HK 0 rfl _ rfl rfl rfl rfl ?_ | (refine wpList_ksl HK 1 rfl _ _ rfl rfl rfl rfl rfl ?_; intro _ HK' _; simp only [List.set] at HK'; replace HK := HK'; clear HK'))
      refine ret_l Try.results42 rfl rfl (HK.out.blk 1 rfl) ⟨A, c, rfl, .inr ⟨rfl, rfl, trivial⟩, HK.out.b⟩
  · obtain ⟨b, o, rfl, hbw, hc⟩ := hI (by omega)
    have HC : Hid (∀ (A : Option Addr) (n c : Nat) W, Below w.heap.size w W → n = out.length - (k + 1) → (A = some ⟨b, o + (k + 1), none⟩ ∨ n = 0) → Calls Try.prog 46 #[.slice A n c] W (IsStrs (out.drop (k + 1)) W)) := Lib.hid fun A n c W hW hn hA => by
      refine clone_any A c n (out.drop (k + 1)) W (by rw [List.length_drop, hn]) (by omega) ?_ ?_
      · rcases hA with rfl | h0
        · have h1 : strLay.Reads w w.heap.size (some ⟨b, o, none⟩) out := fun _ => ⟨b, o, rfl, hbw, hc⟩
          have h2 := h1.drop (k + 1)
          rw [show strLay.k = 1 from rfl, Nat.mul_one] at h2
          exact h2.later hW (Nat.le_refl _)
        · have : out.drop (k + 1) = [] := List.drop_of_length_le (by omega)
          rw [this]; exact Lay.Reads.nil _ _ _
      · rintro rfl
        rcases hA with h | h0
        · cases h
        · exact List.drop_of_length_le (by omega)
    have HD : Hid ((out.drop (k + 1)).length = out.length - (k + 1)) := Lib.hid (by rw [List.length_drop])
    clear hI hA hc h64
    generalize out.drop (k + 1) = rest at *
    generalize out.length = n at *
    have hk1 : IntKind.i64.wrap (base + (k : Int) + 1) = base + k + 1 := IntWalk.i64_in _ (by omega)
    have hs : c = k + 1 ∨ c ≠ k + 1 := by omega
    rcases hs with rfl | hs
    · have HK := kn2 w 27 (lC (.slice (some ⟨b, o, none⟩) n (k + 1)) ms mc ps pc base got age) 27 (lC (.slice none 0 0) 0 0 0 0 0 0 0)
      go_enter Try.func42, Try.ntmps42
      go_wp2_with (first | refine wpList_kll HK 0 rfl _ rfl rfl rfl ?_ | refine wpList_kci HK 0 rfl _ rfl rfl rfl rfl ?_ | refine wpList_kcv HK 0 rfl _ rfl rfl rfl rfl ?_ | (refine wpList_ksl HK 1 rfl _ _ rfl rfl rfl rfl rfl ?_; intro _ HK' _; simp only [List.set] at HK'; replace HK := HK'; clear HK'))
      refine (HC.out _ _ _ _ HK.out.b (by omega) (by first | exact .inl rfl | (right; omega))).mono ?_; rintro e w1 ⟨A1, c1, rfl, o1, b1⟩
      replace HK := Lib.hid (HK.out.called b1 o1)
      clear b1 o1
      go_wp2_with (first | refine wpList_kll HK 0 rfl _ rfl rfl rfl ?_ | refine wpList_kci HK 0 rfl _ rfl rfl rfl rfl ?_ | refine wpList_kcv HK 0 rfl _ rfl rfl rfl rfl ?_ | (refine wpList_ksl HK 1 rfl _ _ rfl rfl rfl rfl rfl ?_; intro _ HK' _; simp only [List.set] at HK'; replace HK := HK'; clear HK') | (refine wpList_k4 HK 0 rfl _ _ rfl rfl rfl rfl ?_; intro _ HK' _; simp only [List.set] at HK'; replace HK := HK'; clear HK') | (first | (refine wpList_k7 HK 0 rfl _ _ rfl rfl rfl rfl ?_; intro _ HK' _; simp only [List.set] at HK'; replace HK := HK'; clear HK') | (refine wpList_k6 HK 0 rfl _ _ rfl rfl rfl rfl ?_; intro _ HK' _; simp only [List.set] at HK'; replace HK := HK'; clear HK') | (refine wpList_k5 HK 0 rfl _ _ rfl rfl rfl rfl ?_; intro _ HK' _; simp only [List.set] at HK'; replace HK := HK'; clear HK') | (refine wpList_k3 HK 0 rfl _ _ rfl rfl rfl rfl ?_; intro _ HK' _; simp only [List.set] at HK'; replace HK := HK'; clear HK')))
      exact ret_l Try.results42 rfl rfl (HK.out.blk 1 rfl) ⟨A1, c1, rfl, .inl (HK.out.own 0 rfl), HK.out.b⟩
    · have HK := kn2 w 27 (lC (.slice (some ⟨b, o, none⟩) n c) ms mc ps pc base got age) 27 (lC (.slice none 0 0) 0 0 0 0 0 0 0)
      go_enter Try.func42, Try.ntmps42
      go_wp2_with (first | refine wpList_kll HK 0 rfl _ rfl rfl rfl ?_ | refine wpList_kci HK 0 rfl _ rfl rfl rfl rfl ?_ | refine wpList_kcv HK 0 rfl _ rfl rfl rfl rfl ?_ | (refine wpList_ksl HK 1 rfl _ _ rfl rfl rfl rfl rfl ?_; intro _ HK' _; simp only [List.set] at HK'; replace HK := HK'; clear HK'))
      refine (HC.out _ _ _ _ HK.out.b (by omega) (by first | exact .inl rfl | (right; omega))).mono ?_; rintro e w1 ⟨A1, c1, rfl, o1, b1⟩
      replace HK := Lib.hid (HK.out.called b1 o1)
      clear b1 o1
      go_wp2_with (first | refine wpList_kll HK 0 rfl _ rfl rfl rfl ?_ | refine wpList_kci HK 0 rfl _ rfl rfl rfl rfl ?_ | refine wpList_kcv HK 0 rfl _ rfl rfl rfl rfl ?_ | (refine wpList_ksl HK 1 rfl _ _ rfl rfl rfl rfl rfl ?_; intro _ HK' _; simp only [List.set] at HK'; replace HK := HK'; clear HK') | (refine wpList_k4 HK 0 rfl _ _ rfl rfl rfl rfl ?_; intro _ HK' _; simp only [List.set] at HK'; replace HK := HK'; clear HK') | (first | (refine wpList_k7 HK 0 rfl _ _ rfl rfl rfl rfl ?_; intro _ HK' _; simp only [List.set] at HK'; replace HK := HK'; clear HK') | (refine wpList_k6 HK 0 rfl _ _ rfl rfl rfl rfl ?_; intro _ HK' _; simp only [List.set] at HK'; replace HK := HK'; clear HK') | (refine wpList_k5 HK 0 rfl _ _ rfl rfl rfl rfl ?_; intro _ HK' _; simp only [List.set] at HK'; replace HK := HK'; clear HK') | (refine wpList_k3 HK 0 rfl _ _ rfl rfl rfl rfl ?_; intro _ HK' _; simp only [List.set] at HK'; replace HK := HK'; clear HK')))
      exact ret_l Try.results42 rfl rfl (HK.out.blk 1 rfl) ⟨A1, c1, rfl, .inl (HK.out.own 0 rfl), HK.out.b⟩
set_option maxHeartbeats 3200000 in
theorem concerns_any (v : Value) (l : Lnk.L) (p : Lnk.Pkt) (w : World) : Calls Try.prog 41 #[.agg (lA v l), .agg (pA p)] w fun e w' => e = .returned (.bool (!decide (Lnk.deaf l p))) ∧ Below w.heap.size w w' := by
  have HE : Hid (∀ q : Bool, q = (((decide (p.ts = l.ms) && decide (p.fs = l.ps)) && (decide (p.tc = 0) || decide (p.tc = l.mc))) && (decide (1 ≤ p.fc) && decide (l.pc ≤ p.fc))) → q = (!decide (Lnk.deaf l p))) := Lib.hid fun q hq => by
    subst hq
    have e5 : (p.fc < 1) ↔ ¬ (1 ≤ p.fc) := by omega
    have e6 : (p.fc < l.pc) ↔ ¬ (l.pc ≤ p.fc) := by omega
    unfold Lnk.deaf
    simp only [e5, e6]
    by_cases h1 : p.ts = l.ms <;> by_cases h2 : p.fs = l.ps <;> by_cases h3 : p.tc = 0 <;> by_cases h4 : p.tc = l.mc <;> by_cases h5 : 1 ≤ p.fc <;> by_cases h6 : l.pc ≤ p.fc <;> simp [h1, h2, h3, h4, h5, h6]
  generalize (!decide (Lnk.deaf l p)) = r at *
  obtain ⟨ms, mc, ps, pc, out, base, got, age⟩ := l
  obtain ⟨fs, fc, ts, tc, seq, ack, body⟩ := p
  unfold lA pA
  simp only at HE ⊢
  obtain ⟨_, _, HB, _⟩ := made2 w 27 (lC v ms mc ps pc base got age) 36 (pC fs fc ts tc seq ack body)
  have f0 : (lC v ms mc ps pc base got age)[0]? = some (.int .i64 ms) := rfl
  have f1 : (lC v ms mc ps pc base got age)[1]? = some (.int .i64 mc) := rfl
  have f2 : (lC v ms mc ps pc base got age)[2]? = some (.int .i64 ps) := rfl
  have f3 : (lC v ms mc ps pc base got age)[3]? = some (.int .i64 pc) := rfl
  have p0 : (pC fs fc ts tc seq ack body)[0]? = some (.int .i64 fs) := rfl
  have p1 : (pC fs fc ts tc seq ack body)[1]? = some (.int .i64 fc) := rfl
  have p2 : (pC fs fc ts tc seq ack body)[2]? = some (.int .i64 ts) := rfl
  have p3 : (pC fs fc ts tc seq ack body)[3]? = some (.int .i64 tc) := rfl
  generalize lC v ms mc ps pc base got age = la at *
  generalize pC fs fc ts tc seq ack body = pa at *
  go_enter Try.func41, Try.ntmps41
  go_wp2_with fail
  all_goals
    go_ret
    refine ⟨congrArg (fun b => Ending.returned (.bool b)) (HE.out _ ?_), HB.out⟩
    clear HE HB f0 f1 f2 f3 p0 p1 p2 p3
    simp_all <;> omega
end Go.Proofs.Ytamjcghdebjpjaa
