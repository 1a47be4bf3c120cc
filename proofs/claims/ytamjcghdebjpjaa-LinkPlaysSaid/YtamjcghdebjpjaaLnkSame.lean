/-
  same and Same return true of two things that say the same.
  No condition but that the rows are no longer than the form's reach.
-/
import Derived.Test.YtamjcghdebjpjaaLnkTold
namespace Go.Proofs.Ytamjcghdebjpjaa
open Go.RowKit

set_option maxHeartbeats 3200000 in
theorem same_any (A A' : Option Addr) (c c' : Nat) (ps : List Lnk.Pkt) (body : ByteArray) (got : Bool) (e : Int) (w : World) (hl : ps.length ≤ 5000000) (hi : pktLay.Reads w w.heap.size A ps) (hi' : pktLay.Reads w w.heap.size A' ps) :
    Calls Try.prog 12 #[.agg (tC (.slice A ps.length c) body got e), .agg (tC (.slice A' ps.length c') body got e)] w fun en w' => en = .returned (.bool true) ∧ Below w.heap.size w w' := by
  have HI := Lib.hid hi
  have HI' := Lib.hid hi'
  clear hi hi'
  have HGo : Hid (∀ k, k < ps.length → ∃ b, ps[k]? = some b) := Lib.hid fun k hk => Lay.get_of hk
  generalize hn : ps.length = n at *
  have HN := Lib.hid hn
  clear hn
  have HK := kn2 w 32 (tC (.slice A n c) body got e) 32 (tC (.slice A' n c') body got e)
  have hnn : ((n : Int) != (n : Int)) = false := by simp
  have f0 : (tC (.slice A n c) body got e)[0]? = some (.slice A n c) := rfl
  have f1 : (tC (.slice A n c) body got e)[1]? = some (.string body) := rfl
  have f2 : (tC (.slice A n c) body got e)[2]? = some (.bool got) := rfl
  have f3 : (tC (.slice A n c) body got e)[3]? = some (.int .i64 e) := rfl
  have g0 : (tC (.slice A' n c') body got e)[0]? = some (.slice A' n c') := rfl
  have g1 : (tC (.slice A' n c') body got e)[1]? = some (.string body) := rfl
  have g2 : (tC (.slice A' n c') body got e)[2]? = some (.bool got) := rfl
  have g3 : (tC (.slice A' n c') body got e)[3]? = some (.int .i64 e) := rfl
  generalize tC (.slice A n c) body got e = ta at *
  generalize tC (.slice A' n c') body got e = tb at *
  have HF0 := Lib.hid f0
  have HG0 := Lib.hid g0
  go_enter Try.func12, Try.ntmps12
  go_wp2_with fail
  go_loopw [5] (fun vi wr => ∃ k : Nat, k ≤ n ∧ vi = .int .i64 k ∧ Hid (Kn w.heap.size w wr [(w.heap.size, 32, ta), (w.heap.size + 1, 32, tb)] [])) (fun vi _ => n - (intOf vi).toNat)
  case atStart => exact ⟨0, Nat.zero_le _, rfl, HK⟩
  case round =>
    clear HK f0 f1 f2 f3 g0 g1 g2 g3
    obtain ⟨k, hk, rfl, HK⟩ := hrel
    have x0 := HK.out.cell 0 rfl 0 HF0.out
    have y0 := HK.out.cell 1 rfl 0 HG0.out
    have HB := HK.out.b
    by_cases hlt : k < n
    · obtain ⟨p, hp⟩ := HGo.out k hlt
      obtain ⟨b, o, rfl, hb, hc⟩ := HI.out (by rw [HN.out]; omega)
      obtain ⟨b', o', rfl, hb', hc'⟩ := HI'.out (by rw [HN.out]; omega)
      obtain ⟨c0, c1, c2, c3, c4, c5, c6⟩ := at_pkt ((hc k p hp).keep fun q hq => HB.cell (by rw [hq]; exact hb))
      obtain ⟨d0, d1, d2, d3, d4, d5, d6⟩ := at_pkt ((hc' k p hp).keep fun q hq => HB.cell (by rw [hq]; exact hb'))
      have hk1 : (0 : Int) ≤ (k : Int) := by omega
      have hk2 : (k : Int) < (n : Int) := by omega
      clear hc hc' hp hb hb' HB
      obtain ⟨fs, fc, ts, tc, seq, ack, pb⟩ := p
      simp only at c0 c1 c2 c3 c4 c5 c6 d0 d1 d2 d3 d4 d5 d6
      go_wp2_with fail
      go_quiet (fail)
      go_wp2_with fail
      exact ⟨⟨k + 1, by omega, by go_num, Lib.hid (HK.out.drewN _)⟩, by simp [intOf]; omega⟩
    · obtain rfl : k = n := by omega
      go_wp2_with fail
      go_ret
      exact ⟨rfl, HK.out.b⟩
set_option maxHeartbeats 3200000 in
theorem rsame_any (A A' : Option Addr) (c c' : Nat) (l : Lnk.L) (w : World) (hl : l.out.length ≤ 5000000) (hi : strLay.Reads w w.heap.size A l.out) (hi' : strLay.Reads w w.heap.size A' l.out) :
    Calls Try.prog 13 #[.agg (lA (.slice A l.out.length c) l), .agg (lA (.slice A' l.out.length c') l)] w fun en w' => en = .returned (.bool true) ∧ Below w.heap.size w w' := by
  obtain ⟨ms, mc, ps, pc, out, base, got, age⟩ := l
  unfold lA
  simp only at hl hi hi' ⊢
  have HI := Lib.hid hi
  have HI' := Lib.hid hi'
  clear hi hi'
  have HGo : Hid (∀ k, k < out.length → ∃ b, out[k]? = some b) := Lib.hid fun k hk => Lay.get_of hk
  generalize hn : out.length = n at *
  have HN := Lib.hid hn
  clear hn
  have HK := kn2 w 27 (lC (.slice A n c) ms mc ps pc base got age) 27 (lC (.slice A' n c') ms mc ps pc base got age)
  have hnn : ((n : Int) != (n : Int)) = false := by simp
  have f0 : (lC (.slice A n c) ms mc ps pc base got age)[0]? = some (.int .i64 ms) := rfl
  have f1 : (lC (.slice A n c) ms mc ps pc base got age)[1]? = some (.int .i64 mc) := rfl
  have f2 : (lC (.slice A n c) ms mc ps pc base got age)[2]? = some (.int .i64 ps) := rfl
  have f3 : (lC (.slice A n c) ms mc ps pc base got age)[3]? = some (.int .i64 pc) := rfl
  have f4 : (lC (.slice A n c) ms mc ps pc base got age)[4]? = some (.slice A n c) := rfl
  have f5 : (lC (.slice A n c) ms mc ps pc base got age)[5]? = some (.int .i64 base) := rfl
  have f6 : (lC (.slice A n c) ms mc ps pc base got age)[6]? = some (.int .i64 got) := rfl
  have f7 : (lC (.slice A n c) ms mc ps pc base got age)[7]? = some (.int .i64 age) := rfl
  have g0 : (lC (.slice A' n c') ms mc ps pc base got age)[0]? = some (.int .i64 ms) := rfl
  have g1 : (lC (.slice A' n c') ms mc ps pc base got age)[1]? = some (.int .i64 mc) := rfl
  have g2 : (lC (.slice A' n c') ms mc ps pc base got age)[2]? = some (.int .i64 ps) := rfl
  have g3 : (lC (.slice A' n c') ms mc ps pc base got age)[3]? = some (.int .i64 pc) := rfl
  have g4 : (lC (.slice A' n c') ms mc ps pc base got age)[4]? = some (.slice A' n c') := rfl
  have g5 : (lC (.slice A' n c') ms mc ps pc base got age)[5]? = some (.int .i64 base) := rfl
  have g6 : (lC (.slice A' n c') ms mc ps pc base got age)[6]? = some (.int .i64 got) := rfl
  have g7 : (lC (.slice A' n c') ms mc ps pc base got age)[7]? = some (.int .i64 age) := rfl
  generalize lC (.slice A n c) ms mc ps pc base got age = ta at *
  generalize lC (.slice A' n c') ms mc ps pc base got age = tb at *
  have HF0 := Lib.hid f4
  have HG0 := Lib.hid g4
  go_enter Try.func13, Try.ntmps13
  go_wp2_with fail
  go_loopw [5] (fun vi wr => ∃ k : Nat, k ≤ n ∧ vi = .int .i64 k ∧ Hid (Kn w.heap.size w wr [(w.heap.size, 27, ta), (w.heap.size + 1, 27, tb)] [])) (fun vi _ => n - (intOf vi).toNat)
  case atStart => exact ⟨0, Nat.zero_le _, rfl, HK⟩
  case round =>
    clear HK f0 f1 f2 f3 f4 f5 f6 f7 g0 g1 g2 g3 g4 g5 g6 g7
    obtain ⟨k, hk, rfl, HK⟩ := hrel
    have x0 := HK.out.cell 0 rfl 4 HF0.out
    have y0 := HK.out.cell 1 rfl 4 HG0.out
    have HB := HK.out.b
    by_cases hlt : k < n
    · obtain ⟨p, hp⟩ := HGo.out k hlt
      obtain ⟨b, o, rfl, hb, hc⟩ := HI.out (by rw [HN.out]; omega)
      obtain ⟨b', o', rfl, hb', hc'⟩ := HI'.out (by rw [HN.out]; omega)
      have c0 := at_str ((hc k p hp).keep fun q hq => HB.cell (by rw [hq]; exact hb))
      have d0 := at_str ((hc' k p hp).keep fun q hq => HB.cell (by rw [hq]; exact hb'))
      have hk1 : (0 : Int) ≤ (k : Int) := by omega
      have hk2 : (k : Int) < (n : Int) := by omega
      clear hc hc' hp hb hb' HB
      go_wp2_with fail
      go_quiet (fail)
      go_wp2_with fail
      exact ⟨⟨k + 1, by omega, by go_num, Lib.hid (HK.out.drewN _)⟩, by simp [intOf]; omega⟩
    · obtain rfl : k = n := by omega
      go_wp2_with fail
      go_ret
      exact ⟨rfl, HK.out.b⟩
end Go.Proofs.Ytamjcghdebjpjaa
