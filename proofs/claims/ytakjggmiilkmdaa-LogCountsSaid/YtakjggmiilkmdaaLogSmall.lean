/-
  What log's End, own, inside, unfit, expires return; slices.Clone of events.
  No condition but what the slices read as, and bounds.
-/
import Derived.Test.YtakjggmiilkmdaaLogDoM
import Derived.Test.YtakjggmiilkmdaaCmdFits
import Derived.Lib.LazyBuf
set_option linter.unusedSimpArgs false
set_option linter.unusedVariables false
namespace Go.Proofs.Ytakjggmiilkmdaa
open Go.RowKit

set_option maxRecDepth 100000 in
theorem lcend_any (l : Lg) (A : Option Addr) (n c : Nat) (w : World) (hn : l.ev.length = n) (hb : 0 ≤ l.b) (hb2 : l.b ≤ 4611686018427387904) (hn2 : n ≤ 140737488355328) :
    Calls Try.prog 15 #[.agg #[.int .i64 l.b, .int .i64 l.c, .int .i64 l.d, .slice A n c]] w (IsNm (Lgm.en l) w) := by
  have HK := kn1 w 24 (lgC l.b l.c l.d (.slice A n c))
  have hw : IntKind.i64.wrap (l.b + (n : Int)) = l.b + (n : Int) := by rw [IntKind.wrap_i64]; omega
  unfold IsNm Lgm.en
  rw [hn]
  go_enter Try.func15, Try.ntmps15
  go_wp2_with (first | refine wpList_exe (klg_b HK 0 _ (by rfl) (by rfl) (by rfl)) (by rfl) ?_ | refine wpList_exe (klg_e HK 0 _ (by rfl) (by rfl) (by rfl)) (by rfl) ?_)
  go_ret
  exact ⟨rfl, HK.out.b⟩
/-- A slice that is told: new, or none. -/
def IsSlT (G : World → Prop) (n : Nat) (l : List Cmd.E) (w : World) (e : Ending) (w' : World) : Prop := ∃ (A : Option Addr) (c : Nat) (Rn : List RowE), e = .returned (.slice A n c) ∧ Kn w.heap.size w w' [] Rn ∧ Hid (Tl G A n c l Rn)
def IsSlO (n : Nat) (l : List Cmd.E) (w : World) (e : Ending) (w' : World) : Prop := ∃ (A : Option Addr) (c : Nat), e = .returned (.slice A n c) ∧ Kn w.heap.size w w' [] [row evLay (.slice A n c) l]
def IsLgO (n : Nat) (l : Lg) (w : World) (e : Ending) (w' : World) : Prop := ∃ (A : Option Addr) (c : Nat), e = .returned (.agg #[.int .i64 l.b, .int .i64 l.c, .int .i64 l.d, .slice A n c]) ∧ Kn w.heap.size w w' [] [row evLay (.slice A n c) l.ev]
set_option maxRecDepth 100000 in
set_option maxHeartbeats 6400000 in
theorem lcclone_own (A : Option Addr) (n c : Nat) (l : List Cmd.E) (w : World) (hs : Sls evLay lvF w A n c l) :
    Calls Try.prog 50 #[.slice A n c] w (IsSlO n l w) := by
  match A, hs with
  | none, hs =>
    have hl := hs.nl rfl
    have hn := hs.len
    subst hl
    rw [List.length_nil] at hn
    subst hn
    clear hs
    have hq := fun W => run_eql_slice_nil (P := Try.prog) W 22 35 none 0 c Try.underlying22
    unfold IsSlO
    go_enter Try.func50, Try.ntmps50
    go_wp2_with fail
    go_ret
    exact ⟨_, _, rfl, (Kn.start w).nilR evLay⟩
  | some ad, hs =>
    have HB : n * 160 ≤ 140737488355328 := hs.big
    have HT1 : Hid (n = l.length) := Lib.hid hs.len.symm
    have HL1 : Hid (([] : List Cmd.E).length + l.length ≤ 9223372036854775807 ∧ (([] : List Cmd.E).length + l.length) * Lay.bytes evLay ≤ 211106232532992) := Lib.hid (by rw [← HT1.out]; exact ⟨by simp; omega, by show (0 + n) * 160 ≤ _; omega⟩)
    have HN1 : Hid ((([] : List Cmd.E) ++ l).length = n) := Lib.hid (by rw [List.nil_append]; exact HT1.out.symm)
    have HS := Lib.hid hs
    have HK := Lib.hid (Kn.start w)
    clear hs HB
    have hq := fun W => run_eql_slice_nil (P := Try.prog) W 22 35 (some ad) n c Try.underlying22
    unfold IsSlO
    go_enter Try.func50, Try.ntmps50
    go_wp2_with (first | (refine wpList_mk0 evLay HK rfl rfl ?_; intro _ g2 HK'; simp only [List.nil_append] at HK'; replace HK := HK'; clear HK') | (at_builtin; refine wpList_kmore HK evLay 0 rfl _ _ rfl rfl rfl l rfl HT1.out (Lib.hid (let h := HS.out.later HK.out.b; ⟨h.rd, h.nl⟩)) HL1 HN1 ?_; intro A3 c3 _ HK'; simp only [List.set, List.nil_append] at HK'; replace HK := HK'; clear HK'))
    go_ret
    exact ⟨_, _, rfl, HK.out⟩
set_option maxRecDepth 100000 in
set_option maxHeartbeats 3200000 in
theorem lcown_own (l : Lg) (A : Option Addr) (n c : Nat) (w : World) (hs : Sls evLay lvF w A n c l.ev) :
    Calls Try.prog 45 #[.agg #[.int .i64 l.b, .int .i64 l.c, .int .i64 l.d, .slice A n c]] w (IsLgO n l w) := by
  have HC := Lib.hid (fun W (hW : Below w.heap.size w W) => lcclone_own A n c l.ev W (hs.later hW))
  have HK := kn2 w 24 (lgC l.b l.c l.d (.slice A n c)) 24 (lgC 0 0 0 (.slice none 0 0))
  unfold IsSlO at HC
  unfold IsLgO
  clear hs
  obtain ⟨b, cc, d, ev⟩ := l
  simp only at *
  go_enter Try.func45, Try.ntmps45
  go_wp2_with (first | refine wpList_exe (klg_e HK 0 _ (by rfl) (by rfl) (by rfl)) (by rfl) ?_)
  refine (HC.out _ HK.out.b).mono ?_; rintro e w1 ⟨A5, c5, rfl, hkn⟩
  replace HK := Lib.hid (HK.out.join hkn)
  simp only [List.nil_append] at HK
  clear hkn HC
  go_wp2_with (first | (refine wpList_slg_e HK 0 rfl _ _ rfl rfl rfl rfl ?_; intro _ HK'; simp only [List.set] at HK'; replace HK := HK'; clear HK') | refine wpList_exe (klg HK 0 _ (by rfl) (by rfl) (by rfl)) (by rfl) ?_ | (refine wpList_slg HK 1 rfl _ _ rfl rfl rfl rfl rfl ?_; intro _ HK'; simp only [List.set] at HK'; replace HK := HK'; clear HK'))
  exact ret_lg Try.results45 rfl rfl (HK.out.blk 1 rfl) ⟨A5, c5, rfl, HK.out.takeL 0⟩
theorem lcclone_any (G : World → Prop) (A : Option Addr) (n c : Nat) (l : List Cmd.E) (w : World) (hs : Sls evLay lvF w A n c l) :
    Calls Try.prog 50 #[.slice A n c] w (IsSlT G n l w) :=
  (lcclone_own A n c l w hs).mono fun _ _ ⟨A', c', he, hk⟩ => ⟨A', c', _, he, hk, Lib.hid (Tl.own (List.mem_singleton.2 rfl) hs.fit)⟩
theorem lcown_any (G : World → Prop) (l : Lg) (A : Option Addr) (n c : Nat) (w : World) (hs : Sls evLay lvF w A n c l.ev) :
    Calls Try.prog 45 #[.agg #[.int .i64 l.b, .int .i64 l.c, .int .i64 l.d, .slice A n c]] w (IsLgT G l w) :=
  (lcown_own l A n c w hs).mono fun _ _ ⟨A', c', he, hk⟩ => ⟨A', n, c', _, he, hk, Lib.hid (Tl.own (List.mem_singleton.2 rfl) hs.fit)⟩
set_option maxRecDepth 100000 in
set_option maxHeartbeats 3200000 in
theorem lcinside_any (l : Lg) (A : Option Addr) (n c : Nat) (k : Int) (w : World) (hn : l.ev.length = n) (hb : 0 ≤ l.b) (hb2 : l.b ≤ 4611686018427387904) (hn2 : n ≤ 140737488355328) :
    Calls Try.prog 46 #[.agg #[.int .i64 l.b, .int .i64 l.c, .int .i64 l.d, .slice A n c], .int .i64 k] w (IsB (decide (l.b ≤ k ∧ k < Lgm.en l)) w) := by
  have HE := Lib.hid (fun W => lcend_any l A n c W hn hb hb2 hn2)
  have HK := kn1 w 24 (lgC l.b l.c l.d (.slice A n c))
  unfold IsNm at HE
  unfold IsB
  clear hn hb hb2 hn2
  by_cases h1 : l.b ≤ k
  case neg =>
    rw [decide_eq_false (show ¬ (l.b ≤ k ∧ k < Lgm.en l) from fun h => h1 h.1)]
    have hd := decide_eq_false h1
    clear h1 HE
    obtain ⟨b, cc, d, ev⟩ := l
    simp only at *
    go_enter Try.func46, Try.ntmps46
    have f0 := HK.out.cell 0 rfl 0 (v := .int .i64 b) rfl
    go_wp2_with fail
    go_ret
    exact ⟨rfl, HK.out.b⟩
  case pos =>
    have hd := decide_eq_true h1
    rw [show decide (l.b ≤ k ∧ k < Lgm.en l) = decide (k < Lgm.en l) from decide_eq_decide.2 ⟨fun h => h.2, fun h => ⟨h1, h⟩⟩]
    clear h1
    obtain ⟨b, cc, d, ev⟩ := l
    simp only at *
    generalize Lgm.en ⟨b, cc, d, ev⟩ = m at *
    go_enter Try.func46, Try.ntmps46
    go_wp2_with (first | refine wpList_exe (klg_b HK 0 _ (by rfl) (by rfl) (by rfl)) (by rfl) ?_ | refine wpList_exe (klg HK 0 _ (by rfl) (by rfl) (by rfl)) (by rfl) ?_)
    refine (HE.out _).mono ?_; rintro e w1 ⟨rfl, b1⟩
    replace HK := Lib.hid (HK.out.call b1); clear b1
    go_wp2_with fail
    go_ret
    exact ⟨rfl, HK.out.b⟩
set_option maxRecDepth 100000 in
set_option maxHeartbeats 3200000 in
theorem lcunfit_any (x : Cmd.E) (w : World) (h : lvF x) :
    Calls Try.prog 31 #[.agg (evA x)] w (IsB (!decide (Cmd.fits x)) w) := by
  have HE := Lib.hid (fun W => cfits_any x W h.1 h.2)
  have HK := kn1 w 35 (evA x)
  unfold IsB at HE ⊢
  generalize decide (Cmd.fits x) = d at *
  clear h
  go_enter Try.func31, Try.ntmps31
  go_wp2_with (first | refine wpList_exe (kevA HK 0 _ (by rfl) (by rfl) (by rfl)) (by rfl) ?_)
  refine (HE.out _).mono ?_; rintro e w1 ⟨rfl, b1⟩
  replace HK := Lib.hid (HK.out.call b1); clear b1
  go_wp2_with fail
  go_ret
  exact ⟨rfl, HK.out.b⟩
set_option maxRecDepth 100000 in
set_option maxHeartbeats 3200000 in
theorem lcexp_any (x : Cmd.E) (w : World) :
    Calls Try.prog 39 #[.agg (evA x)] w (IsB (x.cmd.k == 18) w) := by
  have HK := kn1 w 35 (evA x)
  have f0 := HK.out.cell 0 rfl 3 (v := .int .i64 x.cmd.k) rfl
  unfold IsB
  generalize hx : evA x = X at *
  generalize x.cmd.k = k at *
  clear hx
  go_enter Try.func39, Try.ntmps39
  go_wp2_with fail
  go_ret
  exact ⟨rfl, HK.out.b⟩
end Go.Proofs.Ytakjggmiilkmdaa
