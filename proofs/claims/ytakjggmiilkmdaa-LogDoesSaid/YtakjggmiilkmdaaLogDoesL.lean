/-
  What the law LogDoes returns: true.
  No condition but what the slices read as, and a number's bounds.
-/
import Derived.Test.YtakjggmiilkmdaaLogDoC
import Derived.Test.YtakjggmiilkmdaaLogDoR
import Derived.Test.YtakjggmiilkmdaaLogCRight
import Derived.Test.YtakjggmiilkmdaaLogRight
import Derived.Test.YtakjggmiilkmdaaLogCHas
import Derived.Test.YtakjggmiilkmdaaLogCode
import Derived.Test.YtakjggmiilkmdaaLogUnd
set_option linter.unusedSimpArgs false
set_option linter.unusedVariables false
namespace Go.Proofs.Ytakjggmiilkmdaa
open Go.RowKit

theorem ldoes_len (l : Lg) (k f m : Int) (es : List Cmd.E) (hn : l.ev.length ≤ 16) (hne : es.length ≤ 100) : (Lgm.doL l k f m es).1.ev.length ≤ 1000 ∧ (Lgm.doL l k f m es).2.2.1.length ≤ 1000 := by
  have ha : (Lgm.add l f es m).ev.length ≤ 1000 := by
    unfold Lgm.add
    split
    · omega
    · have := Lgm.adS_len (b := l.b) (room := m) es l.ev f
      show (Lgm.adS l.b m f l.ev es).length ≤ 1000
      omega
  have hst : (Lgm.stay l f).ev.length ≤ 1000 := by unfold Lgm.stay; split <;> (show l.ev.length ≤ 1000; omega)
  have htk : (Lgm.tkL l).ev.length ≤ 1000 := by unfold Lgm.tkL; split <;> (show l.ev.length ≤ 1000; omega)
  have htr : (Lgm.trim l f).ev.length ≤ 1000 := by
    unfold Lgm.trim
    split
    · omega
    · show (l.ev.drop _).length ≤ 1000
      rw [List.length_drop]; omega
  have hpt : (Lgm.part l f m).length ≤ 1000 := by
    unfold Lgm.part
    rw [List.length_take, List.length_drop]; omega
  unfold Lgm.doL
  split
  · exact ⟨ha, Nat.zero_le _⟩
  split
  · exact ⟨hst, Nat.zero_le _⟩
  split
  · exact ⟨htk, by show 1 ≤ 1000; decide⟩
  split
  · exact ⟨htr, Nat.zero_le _⟩
  split
  · exact ⟨by show l.ev.length ≤ 1000; omega, hpt⟩
  · exact ⟨by show l.ev.length ≤ 1000; omega, Nat.zero_le _⟩
set_option maxRecDepth 100000 in
set_option maxHeartbeats 3200000 in
theorem ltwin_own (l : Lg) (A : Option Addr) (n c : Nat) (w : World) (hs : Sls evLay lvF w A n c l.ev) (hn1 : n ≤ 100000) :
    Calls Try.prog 10 #[.agg #[.int .i64 l.b, .int .i64 l.c, .int .i64 l.d, .slice A n c]] w (IsLgO n l w) := by
  have HT2 : Hid (n = l.ev.length) := Lib.hid hs.len.symm
  have HN2 : Hid ((([] : List Cmd.E) ++ l.ev).length = n) := Lib.hid hs.len
  have HL2 := grow_ok (La := evLay) HN2 (by show n * 160 ≤ _; omega) (by omega)
  have HS := Lib.hid hs
  have HK := kn2 w 24 (lgC l.b l.c l.d (.slice A n c)) 24 (lgC 0 0 0 (.slice none 0 0))
  unfold IsLgO
  clear hs
  obtain ⟨b, cc, d, ev⟩ := l
  simp only at *
  go_enter Try.func10, Try.ntmps10
  go_wp2_with (first | (refine wpList_mk0 evLay HK rfl rfl ?_; intro _ g2 HK'; simp only [List.nil_append] at HK'; replace HK := HK'; clear HK') | refine wpList_exe (klg_e HK 0 _ (by rfl) (by rfl) (by rfl)) (by rfl) ?_ | (at_builtin; refine wpList_kmore HK evLay 0 rfl _ _ rfl rfl rfl ev rfl HT2.out (Lib.hid (let h := HS.out.later HK.out.b; ⟨h.rd, h.nl⟩)) HL2 HN2 ?_; intro A5 c5 _ HK'; simp only [List.set, List.nil_append] at HK'; replace HK := HK'; clear HK') | (refine wpList_slg_e HK 0 rfl _ _ rfl rfl rfl rfl ?_; intro _ HK'; simp only [List.set] at HK'; replace HK := HK'; clear HK') | refine wpList_exe (klg HK 0 _ (by rfl) (by rfl) (by rfl)) (by rfl) ?_ | (refine wpList_slg HK 1 rfl _ _ rfl rfl rfl rfl rfl ?_; intro _ HK'; simp only [List.set] at HK'; replace HK := HK'; clear HK'))
  exact ret_lg Try.results10 rfl rfl (HK.out.blk 1 rfl) ⟨A5, c5, rfl, HK.out.takeL 0⟩
set_option maxRecDepth 100000 in
set_option maxHeartbeats 12800000 in
theorem ldoes_yes (l : Lg) (A : Option Addr) (n c : Nat) (k f m : Int) (es : List Cmd.E) (A2 : Option Addr) (ne c2 : Nat) (e : Cmd.E) (w : World) (hs : Sls evLay lvF w A n c l.ev) (hs2 : Sls evLay lvF w A2 ne c2 es) (hf : -9223372036854775808 ≤ f ∧ f ≤ 9223372036854775807) :
    Calls Try.prog 3 #[.agg #[.int .i64 l.b, .int .i64 l.c, .int .i64 l.d, .slice A n c], .agg #[.int .i64 k, .int .i64 f, .int .i64 m, .slice A2 ne c2], .agg (evA e)] w (fun e w' => e = .returned (.bool true) ∧ Below w.heap.size w w') := by
  have HAw := Lib.hid (fun W => lawake_any W)
  have HRr := Lib.hid (fun W (hW : Below w.heap.size w W) => lgrright_any l A n c W (hs.later hW))
  have HRc := Lib.hid (fun W (hW : Below w.heap.size w W) => lcright_any l A n c W (hs.later hW))
  have HSl := Lib.hid hs
  have HSe := Lib.hid hs2
  have HK := kn3 w 24 (lgC l.b l.c l.d (.slice A n c)) 26 (loC k f m (.slice A2 ne c2)) 35 (evA e)
  unfold IsB at HAw HRr HRc
  by_cases hr : Lgm.Right l
  case neg =>
    as_aux_lemma =>
    rw [decide_eq_false hr] at HRr HRc
    clear hs hs2 hf hr HSl HSe
    obtain ⟨b, cc, d, ev⟩ := l
    simp only at *
    go_enter Try.func3, Try.ntmps3
    go_wp2_with (first | refine wpList_exe (klg HK 0 _ (by rfl) (by rfl) (by rfl)) (by rfl) ?_)
    refine (HRr.out _ HK.out.b).mono ?_; rintro en w1 ⟨rfl, b1⟩
    replace HK := Lib.hid (HK.out.call b1); clear b1
    go_wp2_with fail
    have HK0 := Lib.hid HK.out.drew
    clear HK
    refine wp_region_held_drew (S := (fun W => Hid (Kn w.heap.size w W [(w.heap.size, 24, lgC b cc d (.slice A n c)), (w.heap.size + 1, 26, loC k f m (.slice A2 ne c2)), (w.heap.size + 2, 35, evA e)] []))) (by kernel_rfl) ?_ (fun hHeld => ?_)
    · (try dsimp only); exact HK0
    refine wpAnyH_ready (rs := [0]) (by kernel_rfl) (by simp) ?_
    refine AllReadyH.cons (o := ⟨some 27, _, _, _, _, _⟩) rfl (fun K hK => ?_) AllReadyH.nil
    go_simp
    go_at_call 8
    refine (HAw.out _).mono ?_; rintro en w5 ⟨rfl, b5⟩; have hs := Lib.hid (hHeld.out.call b5); clear b5
    refine hK.out _ _ hs (fun hHeld => ?_)
    clear hK K
    try simp only [ap1, ap2, ap3, ap4, ap5]
    refine wpAnyH_take (i := 1) (oi := ⟨some 28, _, _, _, _, _⟩) (v := ?_) rfl (by kernel_rfl) (by kernel_rfl) (by kernel_rfl) (fun _ _ _ h => h) (Or.inl ⟨by rfl, ?_⟩) (by assumption) ?_
    rotate_left
    · (intro w hSw; (try dsimp only at hSw); go_simp; try with_reducible rfl)
    try simp only [Act.put, List.setIfInBounds_toArray, List.set_cons_zero, List.set_cons_succ]
    refine wpAnyH_take (i := 2) (oi := ⟨some 29, _, _, _, _, _⟩) (v := ?_) rfl (by kernel_rfl) (by kernel_rfl) (by kernel_rfl) (fun _ _ _ h => h) (Or.inl ⟨by rfl, ?_⟩) (by assumption) ?_
    rotate_left
    · (intro w hSw; refine Eq.trans (klg hSw 0 _ (by rfl) (by rfl) (by rfl)) ?_; with_reducible rfl)
    try simp only [Act.put, List.setIfInBounds_toArray, List.set_cons_zero, List.set_cons_succ]
    refine wpAnyH_take (i := 4) (oi := ⟨some 31, _, _, _, _, _⟩) (v := ?_) rfl (by kernel_rfl) (by kernel_rfl) (by kernel_rfl) (fun _ _ _ h => h) (Or.inl ⟨by rfl, ?_⟩) (by assumption) ?_
    rotate_left
    · (intro w hSw; refine Eq.trans (klg hSw 0 _ (by rfl) (by rfl) (by rfl)) ?_; with_reducible rfl)
    try simp only [Act.put, List.setIfInBounds_toArray, List.set_cons_zero, List.set_cons_succ]
    refine wpAnyH_ready (rs := [3]) (by kernel_rfl) (by simp) ?_
    refine AllReadyH.cons (o := ⟨some 30, _, _, _, _, _⟩) rfl (fun K hK => ?_) AllReadyH.nil
    go_simp
    go_at_call 9
    refine (HRc.out _ hHeld.out.b).mono ?_; rintro en w5 ⟨rfl, b5⟩; have hs := Lib.hid (hHeld.out.call b5); clear b5
    refine hK.out _ _ hs (fun hHeld => ?_)
    clear hK K
    try simp only [ap1, ap2, ap3, ap4, ap5]
    refine wpAnyH_ready (rs := [5]) (by kernel_rfl) (by simp) ?_
    refine AllReadyH.cons (o := ⟨some 32, _, _, _, _, _⟩) rfl (fun K hK => ?_) AllReadyH.nil
    go_simp
    go_at_call 7
    refine (HRr.out _ hHeld.out.b).mono ?_; rintro en w5 ⟨rfl, b5⟩; have hs := Lib.hid (hHeld.out.call b5); clear b5
    refine hK.out _ _ hs (fun hHeld => ?_)
    clear hK K
    try simp only [ap1, ap2, ap3, ap4, ap5]
    refine wpAnyH_take (i := 6) (oi := ⟨some 33, _, _, _, _, _⟩) (v := ?_) rfl (by kernel_rfl) (by kernel_rfl) (by kernel_rfl) (fun _ _ _ h => h) (Or.inl ⟨by rfl, ?_⟩) (by assumption) ?_
    rotate_left
    · (intro w hSw; refine Eq.trans (exec_booleq (x := false) (y := false) _ _ (by rfl) (by rfl) (by rfl) rfl) ?_; with_reducible rfl)
    try simp only [Act.put, List.setIfInBounds_toArray, List.set_cons_zero, List.set_cons_succ]
    refine wpAnyH_take (i := 7) (oi := ⟨some 34, _, _, _, _, _⟩) (v := ?_) rfl (by kernel_rfl) (by kernel_rfl) (by kernel_rfl) (fun _ _ _ h => h) (Or.inl ⟨by rfl, ?_⟩) (by assumption) ?_
    rotate_left
    · (intro w hSw; (try dsimp only at hSw); go_simp; try with_reducible rfl)
    try simp only [Act.put, List.setIfInBounds_toArray, List.set_cons_zero, List.set_cons_succ]
    refine wpAnyH_take (i := 8) (oi := ⟨some 6, _, _, _, _, _⟩) (v := ?_) rfl (by kernel_rfl) (by kernel_rfl) (by kernel_rfl) (fun _ _ _ h => h) (Or.inl ⟨by rfl, ?_⟩) (by assumption) ?_
    rotate_left
    · (intro w hSw; (try dsimp only at hSw); go_simp; try with_reducible rfl)
    try simp only [Act.put, List.setIfInBounds_toArray, List.set_cons_zero, List.set_cons_succ]
    refine wpAnyH_done (by kernel_rfl) ?_ _
    all_goals
      have HK := hHeld
      clear HK0 hHeld
      go_wp2_with fail
      go_ret
      exact ⟨rfl, HK.out.b⟩
  rw [decide_eq_true hr] at HRr HRc
  by_cases h1 : 100 < ne
  case pos =>
    as_aux_lemma =>
    have h1i : decide ((100 : Int) < (ne : Int)) = true := decide_eq_true (by omega)
    clear hs hs2 hf hr HSl HSe h1
    obtain ⟨b, cc, d, ev⟩ := l
    simp only at *
    go_enter Try.func3, Try.ntmps3
    go_wp2_with (first | refine wpList_exe (klg HK 0 _ (by rfl) (by rfl) (by rfl)) (by rfl) ?_)
    refine (HRr.out _ HK.out.b).mono ?_; rintro en w1 ⟨rfl, b1⟩
    replace HK := Lib.hid (HK.out.call b1); clear b1
    have f3 := HK.out.cell 1 rfl 3 (v := .slice A2 ne c2) rfl
    go_wp2_with fail
    clear f3
    have HK0 := Lib.hid HK.out.drew
    clear HK
    refine wp_region_held_drew (S := (fun W => Hid (Kn w.heap.size w W [(w.heap.size, 24, lgC b cc d (.slice A n c)), (w.heap.size + 1, 26, loC k f m (.slice A2 ne c2)), (w.heap.size + 2, 35, evA e)] []))) (by kernel_rfl) ?_ (fun hHeld => ?_)
    · (try dsimp only); exact HK0
    refine wpAnyH_ready (rs := [0]) (by kernel_rfl) (by simp) ?_
    refine AllReadyH.cons (o := ⟨some 27, _, _, _, _, _⟩) rfl (fun K hK => ?_) AllReadyH.nil
    go_simp
    go_at_call 8
    refine (HAw.out _).mono ?_; rintro en w5 ⟨rfl, b5⟩; have hs := Lib.hid (hHeld.out.call b5); clear b5
    refine hK.out _ _ hs (fun hHeld => ?_)
    clear hK K
    try simp only [ap1, ap2, ap3, ap4, ap5]
    refine wpAnyH_take (i := 1) (oi := ⟨some 28, _, _, _, _, _⟩) (v := ?_) rfl (by kernel_rfl) (by kernel_rfl) (by kernel_rfl) (fun _ _ _ h => h) (Or.inl ⟨by rfl, ?_⟩) (by assumption) ?_
    rotate_left
    · (intro w hSw; (try dsimp only at hSw); go_simp; try with_reducible rfl)
    try simp only [Act.put, List.setIfInBounds_toArray, List.set_cons_zero, List.set_cons_succ]
    refine wpAnyH_take (i := 2) (oi := ⟨some 29, _, _, _, _, _⟩) (v := ?_) rfl (by kernel_rfl) (by kernel_rfl) (by kernel_rfl) (fun _ _ _ h => h) (Or.inl ⟨by rfl, ?_⟩) (by assumption) ?_
    rotate_left
    · (intro w hSw; refine Eq.trans (klg hSw 0 _ (by rfl) (by rfl) (by rfl)) ?_; with_reducible rfl)
    try simp only [Act.put, List.setIfInBounds_toArray, List.set_cons_zero, List.set_cons_succ]
    refine wpAnyH_take (i := 4) (oi := ⟨some 31, _, _, _, _, _⟩) (v := ?_) rfl (by kernel_rfl) (by kernel_rfl) (by kernel_rfl) (fun _ _ _ h => h) (Or.inl ⟨by rfl, ?_⟩) (by assumption) ?_
    rotate_left
    · (intro w hSw; refine Eq.trans (klg hSw 0 _ (by rfl) (by rfl) (by rfl)) ?_; with_reducible rfl)
    try simp only [Act.put, List.setIfInBounds_toArray, List.set_cons_zero, List.set_cons_succ]
    refine wpAnyH_ready (rs := [3]) (by kernel_rfl) (by simp) ?_
    refine AllReadyH.cons (o := ⟨some 30, _, _, _, _, _⟩) rfl (fun K hK => ?_) AllReadyH.nil
    go_simp
    go_at_call 9
    refine (HRc.out _ hHeld.out.b).mono ?_; rintro en w5 ⟨rfl, b5⟩; have hs := Lib.hid (hHeld.out.call b5); clear b5
    refine hK.out _ _ hs (fun hHeld => ?_)
    clear hK K
    try simp only [ap1, ap2, ap3, ap4, ap5]
    refine wpAnyH_ready (rs := [5]) (by kernel_rfl) (by simp) ?_
    refine AllReadyH.cons (o := ⟨some 32, _, _, _, _, _⟩) rfl (fun K hK => ?_) AllReadyH.nil
    go_simp
    go_at_call 7
    refine (HRr.out _ hHeld.out.b).mono ?_; rintro en w5 ⟨rfl, b5⟩; have hs := Lib.hid (hHeld.out.call b5); clear b5
    refine hK.out _ _ hs (fun hHeld => ?_)
    clear hK K
    try simp only [ap1, ap2, ap3, ap4, ap5]
    refine wpAnyH_take (i := 6) (oi := ⟨some 33, _, _, _, _, _⟩) (v := ?_) rfl (by kernel_rfl) (by kernel_rfl) (by kernel_rfl) (fun _ _ _ h => h) (Or.inl ⟨by rfl, ?_⟩) (by assumption) ?_
    rotate_left
    · (intro w hSw; refine Eq.trans (exec_booleq (x := true) (y := true) _ _ (by rfl) (by rfl) (by rfl) rfl) ?_; with_reducible rfl)
    try simp only [Act.put, List.setIfInBounds_toArray, List.set_cons_zero, List.set_cons_succ]
    refine wpAnyH_take (i := 7) (oi := ⟨some 34, _, _, _, _, _⟩) (v := ?_) rfl (by kernel_rfl) (by kernel_rfl) (by kernel_rfl) (fun _ _ _ h => h) (Or.inl ⟨by rfl, ?_⟩) (by assumption) ?_
    rotate_left
    · (intro w hSw; (try dsimp only at hSw); go_simp; try with_reducible rfl)
    try simp only [Act.put, List.setIfInBounds_toArray, List.set_cons_zero, List.set_cons_succ]
    refine wpAnyH_take (i := 8) (oi := ⟨some 6, _, _, _, _, _⟩) (v := ?_) rfl (by kernel_rfl) (by kernel_rfl) (by kernel_rfl) (fun _ _ _ h => h) (Or.inl ⟨by rfl, ?_⟩) (by assumption) ?_
    rotate_left
    · (intro w hSw; (try dsimp only at hSw); go_simp; try with_reducible rfl)
    try simp only [Act.put, List.setIfInBounds_toArray, List.set_cons_zero, List.set_cons_succ]
    refine wpAnyH_done (by kernel_rfl) ?_ _
    all_goals
      have HK := hHeld
      clear HK0 hHeld
      go_wp2_with fail
      go_ret
      exact ⟨rfl, HK.out.b⟩
  case neg =>
  as_aux_lemma =>
  have h1i : decide ((100 : Int) < (ne : Int)) = false := decide_eq_false (by omega)
  have hn := hs.len
  have hne := hs2.len
  obtain ⟨r1, r2, r3, r4, r5, r6, r7⟩ := hr
  have hn16 : n ≤ 16 := by omega
  have hne5 : ne ≤ 100000 := by omega
  have hr : Lgm.Right l := ⟨r1, r2, r3, r4, r5, r6, r7⟩
  have HTw : Hid (∀ (A3 : Option Addr) (c3 : Nat) W, Sls evLay lvF W A3 n c3 l.ev → Calls Try.prog 10 #[.agg #[.int .i64 l.b, .int .i64 l.c, .int .i64 l.d, .slice A3 n c3]] W (IsLgO n l W)) := Lib.hid (fun A3 c3 W h => ltwin_own l A3 n c3 W h (by omega))
  have HDo := Lib.hid (fun W (hW : Below w.heap.size w W) => lcdo_any (fun W => Sls evLay lvF W A n c l.ev) l A n c k f m A2 ne c2 es W (fun W h => h) (hs.later hW) hr (hs2.later hW) (by omega) hf)
  have HRe : Hid (∀ (A3 : Option Addr) (c3 : Nat) W, Below w.heap.size w W → Sls evLay lvF W A3 n c3 l.ev → Calls Try.prog 12 #[.agg #[.int .i64 l.b, .int .i64 l.c, .int .i64 l.d, .slice A3 n c3], .agg #[.int .i64 k, .int .i64 f, .int .i64 m, .slice A2 ne c2]] W (IsDoT (fun W => Sls evLay lvF W A3 n c3 l.ev) (Lgm.doL l k f m es) W)) :=
    Lib.hid (fun A3 c3 W hW h => lrref_any (fun W => Sls evLay lvF W A3 n c3 l.ev) l A3 n c3 k f m A2 ne c2 es W (fun W h => h) h hr (hs2.later hW) (by omega))
  have HSm : Hid (∀ (x : Lg) (A3 A4 : Option Addr) (n3 c3 c4 : Nat) W, Sls evLay lvF W A3 n3 c3 x.ev → Sls evLay lvF W A4 n3 c4 x.ev → n3 ≤ 100000 → Calls Try.prog 13 #[.agg #[.int .i64 x.b, .int .i64 x.c, .int .i64 x.d, .slice A3 n3 c3], .agg #[.int .i64 x.b, .int .i64 x.c, .int .i64 x.d, .slice A4 n3 c4]] W (IsB true W)) := Lib.hid (fun x A3 A4 n3 c3 c4 W h1 h2 h3 => lrsame_yes x A3 A4 n3 c3 c4 W h1 h2 h3)
  have HSv : Hid (∀ (x : List Cmd.E) (A3 A4 : Option Addr) (n3 c3 c4 : Nat) W, Sls evLay lvF W A3 n3 c3 x → Sls evLay lvF W A4 n3 c4 x → n3 ≤ 100000 → Calls Try.prog 14 #[.slice A3 n3 c3, .slice A4 n3 c4] W (IsB true W)) := Lib.hid (fun x A3 A4 n3 c3 c4 W h1 h2 h3 => by
    have h4 := h1.len
    have := esame_any A3 A4 c3 c4 x W (by omega) h1.rd h2.rd
    rw [h4] at this
    exact this)
  have HEc := Lib.hid (fun (A3 : Option Addr) (c3 : Nat) W => lcend_any l A3 n c3 W hn r1 r3 (by omega))
  have HEr := Lib.hid (fun (A3 : Option Addr) (c3 : Nat) W => lrend_any l A3 n c3 W hn r1 r3 (by omega))
  have HHc := Lib.hid (fun W (hW : Below w.heap.size w W) => lchas_any l e A n c W (hs.later hW))
  have HHr : Hid (∀ (A3 : Option Addr) (c3 : Nat) W, Sls evLay lvF W A3 n c3 l.ev → Calls Try.prog 18 #[.agg #[.int .i64 l.b, .int .i64 l.c, .int .i64 l.d, .slice A3 n c3], .agg (evA e)] W fun en w' => ∃ d, en = .returned (.bool d) ∧ (d = true ↔ Lgm.has l.ev e) ∧ Below W.heap.size W w') := Lib.hid (fun A3 c3 W h => lrhas_any l e A3 n c3 W h)
  have HFl : Hid (Fits evLay lvF l.ev) := Lib.hid hs.fit
  have HFe : Hid (Fits evLay lvF es) := Lib.hid hs2.fit
  have HTe : Hid (ne = es.length) := Lib.hid hne.symm
  have HNe : Hid ((([] : List Cmd.E) ++ es).length = ne) := Lib.hid hne
  have HLe := grow_ok (La := evLay) HNe (by show ne * 160 ≤ _; omega) (by omega)
  have HX : Hid ((Lgm.doL l k f m es).1.ev.length ≤ 1000 ∧ (Lgm.doL l k f m es).2.2.1.length ≤ 1000) := Lib.hid (ldoes_len l k f m es (by omega) (by omega))
  unfold IsLgO at HTw
  unfold IsDoT at HDo HRe
  unfold IsB at HSm HSv
  unfold IsNm at HEc HEr
  generalize Lgm.doL l k f m es = X at *
  obtain ⟨xl, xn, xe, xb⟩ := X
  obtain ⟨b, cc, d, ev⟩ := l
  simp only at *
  generalize Lgm.en ⟨b, cc, d, ev⟩ = en1 at *
  clear hs hs2 hf hr h1 r1 r2 r3 r4 r5 r6 r7 hn hne
  go_enter Try.func3, Try.ntmps3
  go_wp2_with (first | refine wpList_exe (klg HK 0 _ (by rfl) (by rfl) (by rfl)) (by rfl) ?_)
  refine (HRr.out _ HK.out.b).mono ?_; rintro en w1 ⟨rfl, b1⟩
  replace HK := Lib.hid (HK.out.call b1); clear b1
  have f3 := HK.out.cell 1 rfl 3 (v := .slice A2 ne c2) rfl
  go_upto_region 3 with fail
  clear f3 h1i HRr
  go_cut [7, 8] (fun v7 v8 wx => ∃ (g7 : Nat) (A3 : Option Addr) (c3 : Nat) (A4 : Option Addr) (c4 : Nat) (R3 : List RowE), v7 = .pointer (some ⟨g7, 0, none⟩) ∧ v8 = .slice A4 ne c4 ∧ Hid (Kn w.heap.size w wx [(w.heap.size, 24, lgC b cc d (.slice A n c)), (w.heap.size + 1, 26, loC k f m (.slice A2 ne c2)), (w.heap.size + 2, 35, evA e), (g7, 24, lgC b cc d (.slice A3 n c3))] R3) ∧ Hid (Tl (fun _ => True) A3 n c3 ev R3) ∧ Hid (Tl (fun _ => True) A4 ne c4 es R3))
  case first =>
    as_aux_lemma =>
    go_wp2_with fail
    have HK0 := Lib.hid HK.out.drew
    clear HK
    refine wp_region_held_drew (S := (fun W => Hid (Kn w.heap.size w W [(w.heap.size, 24, lgC b cc d (.slice A n c)), (w.heap.size + 1, 26, loC k f m (.slice A2 ne c2)), (w.heap.size + 2, 35, evA e)] []))) (by kernel_rfl) ?_ (fun hHeld => ?_)
    · (try dsimp only); exact HK0
    refine wpAnyH_take (i := 0) (oi := ⟨some 35, _, _, _, _, _⟩) (v := ?_) rfl (by kernel_rfl) (by kernel_rfl) (by kernel_rfl) (fun _ _ _ h => h) (Or.inl ⟨by rfl, ?_⟩) (by assumption) ?_
    rotate_left
    · (intro w hSw; refine Eq.trans (klg hSw 0 _ (by rfl) (by rfl) (by rfl)) ?_; with_reducible rfl)
    try simp only [Act.put, List.setIfInBounds_toArray, List.set_cons_zero, List.set_cons_succ]
    refine wpAnyH_take (i := 3) (oi := ⟨some 38, _, _, _, _, _⟩) (v := ?_) rfl (by kernel_rfl) (by kernel_rfl) (by kernel_rfl) (fun _ _ _ h => h) (Or.inl ⟨by rfl, ?_⟩) (by assumption) ?_
    rotate_left
    · (intro w hSw; (try dsimp only at hSw); go_simp; try with_reducible rfl)
    try simp only [Act.put, List.setIfInBounds_toArray, List.set_cons_zero, List.set_cons_succ]
    refine wpAnyH_take (i := 4) (oi := ⟨some 39, _, _, _, _, _⟩) (v := ?_) rfl (by kernel_rfl) (by kernel_rfl) (by kernel_rfl) (fun _ _ _ h => h) (Or.inl ⟨by rfl, ?_⟩) (by assumption) ?_
    rotate_left
    · (intro w hSw; refine Eq.trans (klo_e hSw 1 _ (by rfl) (by rfl) (by rfl)) ?_; with_reducible rfl)
    try simp only [Act.put, List.setIfInBounds_toArray, List.set_cons_zero, List.set_cons_succ]
    refine wpAnyH_ready (rs := [1, 2, 6]) (by kernel_rfl) (by simp) ?_
    refine AllReadyH.cons (o := ⟨some 36, _, _, _, _, _⟩) rfl (fun K hK => ?_) (AllReadyH.cons (o := ⟨some 37, _, _, _, _, _⟩) rfl (fun K hK => ?_) (AllReadyH.cons (o := ⟨some 7, _, _, _, _, _⟩) rfl (fun K hK => ?_) AllReadyH.nil))
    go_simp
    go_at_call 10
    refine (HTw.out A c _ (HSl.out.later HK0.out.b)).mono ?_; rintro en w5 ⟨A3, c3, rfl, kn5⟩; replace HK0 := Lib.hid (HK0.out.join kn5); simp only [List.nil_append, List.cons_append] at HK0; clear kn5; have hs := Lib.hid ((HK0.out.takeL 3).takeR 0)
    refine hK.out _ _ hs (fun hHeld => ?_)
    clear hK K
    try simp only [ap1, ap2, ap3, ap4, ap5]
    refine wpAnyH_ready (rs := [2, 6]) (by kernel_rfl) (by simp) ?_
    refine AllReadyH.cons (o := ⟨some 37, _, _, _, _, _⟩) rfl (fun K hK => ?_) (AllReadyH.cons (o := ⟨some 7, _, _, _, _, _⟩) rfl (fun K hK => ?_) AllReadyH.nil)
    refine step_mk0 evLay HK0 (by rfl) (by rfl) ?_; clear HK0; intro wq g4 HK0 _; simp only [List.nil_append, List.cons_append] at HK0; have hs := Lib.hid ((HK0.out.takeL 3).takeR 0)
    refine hK.out _ _ hs (fun hHeld => ?_)
    clear hK K
    try simp only [ap1, ap2, ap3, ap4, ap5]
    refine wpAnyH_ready (rs := [5, 6]) (by kernel_rfl) (by simp) ?_
    refine AllReadyH.cons (o := ⟨some 40, _, _, _, _, _⟩) rfl (fun K hK => ?_) (AllReadyH.cons (o := ⟨some 7, _, _, _, _, _⟩) rfl (fun K hK => ?_) AllReadyH.nil)
    (first | refine step_more2 evLay HK0 1 (by rfl) _ _ (by rfl) (by rfl) (by rfl) es (by rfl) HTe.out (Lib.hid (let h := HSe.out.later HK0.out.b; ⟨h.rd, h.nl⟩)) HLe HNe ?_ | refine step_more2 evLay HK0 0 (by rfl) _ _ (by rfl) (by rfl) (by rfl) es (by rfl) HTe.out (Lib.hid (let h := HSe.out.later HK0.out.b; ⟨h.rd, h.nl⟩)) HLe HNe ?_); clear HK0; intro A4 c4 wq HK0; simp only [List.set, List.nil_append] at HK0; have hs := Lib.hid ((HK0.out.takeL 3).takeR 0)
    refine hK.out _ _ hs (fun hHeld => ?_)
    clear hK K
    try simp only [ap1, ap2, ap3, ap4, ap5]
    refine wpAnyH_ready (rs := [6]) (by kernel_rfl) (by simp) ?_
    refine AllReadyH.cons (o := ⟨some 7, _, _, _, _, _⟩) rfl (fun K hK => ?_) AllReadyH.nil
    refine step_alg HK0 (by rfl) (by rfl) ?_; clear HK0; intro wq g7 HK0 _; simp only [List.nil_append, List.cons_append] at HK0; have hs := Lib.hid ((HK0.out.takeL 3).takeR 0)
    refine hK.out _ _ hs (fun hHeld => ?_)
    clear hK K
    try simp only [ap1, ap2, ap3, ap4, ap5]
    refine wpAnyH_ready (rs := [7]) (by kernel_rfl) (by simp) ?_
    refine AllReadyH.cons (o := ⟨none, _, _, _, _, _⟩) rfl (fun K hK => ?_) AllReadyH.nil
    refine step_slg HK0 3 (by rfl) _ _ (by rfl) (by rfl) (by rfl) (by rfl) (by rfl) ?_; clear HK0; intro wq HK0; simp only [List.set] at HK0; have hs := Lib.hid ((HK0.out.takeL 3).takeR 0)
    refine hK.out _ _ hs (fun hHeld => ?_)
    clear hK K
    try simp only [ap1, ap2, ap3, ap4, ap5]
    refine wpAnyH_take (i := 8) (oi := ⟨some 8, _, _, _, _, _⟩) (v := ?_) rfl (by kernel_rfl) (by kernel_rfl) (by kernel_rfl) (fun _ _ _ h => h) (Or.inl ⟨by rfl, ?_⟩) (by assumption) ?_
    rotate_left
    · (intro w hSw; (try dsimp only at hSw); go_simp; try with_reducible rfl)
    try simp only [Act.put, List.setIfInBounds_toArray, List.set_cons_zero, List.set_cons_succ]
    refine wpAnyH_done (by kernel_rfl) ?_ _
    rotate_left
    refine step_alg HK0 (by rfl) (by rfl) ?_; clear HK0; intro wq g7 HK0 _; simp only [List.nil_append, List.cons_append] at HK0; have hs := Lib.hid ((HK0.out.takeL 3).takeR 0)
    refine hK.out _ _ hs (fun hHeld => ?_)
    clear hK K
    try simp only [ap1, ap2, ap3, ap4, ap5]
    refine wpAnyH_ready (rs := [5]) (by kernel_rfl) (by simp) ?_
    refine AllReadyH.cons (o := ⟨some 40, _, _, _, _, _⟩) rfl (fun K hK => ?_) AllReadyH.nil
    (first | refine step_more2 evLay HK0 1 (by rfl) _ _ (by rfl) (by rfl) (by rfl) es (by rfl) HTe.out (Lib.hid (let h := HSe.out.later HK0.out.b; ⟨h.rd, h.nl⟩)) HLe HNe ?_ | refine step_more2 evLay HK0 0 (by rfl) _ _ (by rfl) (by rfl) (by rfl) es (by rfl) HTe.out (Lib.hid (let h := HSe.out.later HK0.out.b; ⟨h.rd, h.nl⟩)) HLe HNe ?_); clear HK0; intro A4 c4 wq HK0; simp only [List.set, List.nil_append] at HK0; have hs := Lib.hid ((HK0.out.takeL 3).takeR 0)
    refine hK.out _ _ hs (fun hHeld => ?_)
    clear hK K
    try simp only [ap1, ap2, ap3, ap4, ap5]
    refine wpAnyH_ready (rs := [7]) (by kernel_rfl) (by simp) ?_
    refine AllReadyH.cons (o := ⟨none, _, _, _, _, _⟩) rfl (fun K hK => ?_) AllReadyH.nil
    refine step_slg HK0 3 (by rfl) _ _ (by rfl) (by rfl) (by rfl) (by rfl) (by rfl) ?_; clear HK0; intro wq HK0; simp only [List.set] at HK0; have hs := Lib.hid ((HK0.out.takeL 3).takeR 0)
    refine hK.out _ _ hs (fun hHeld => ?_)
    clear hK K
    try simp only [ap1, ap2, ap3, ap4, ap5]
    refine wpAnyH_take (i := 8) (oi := ⟨some 8, _, _, _, _, _⟩) (v := ?_) rfl (by kernel_rfl) (by kernel_rfl) (by kernel_rfl) (fun _ _ _ h => h) (Or.inl ⟨by rfl, ?_⟩) (by assumption) ?_
    rotate_left
    · (intro w hSw; (try dsimp only at hSw); go_simp; try with_reducible rfl)
    try simp only [Act.put, List.setIfInBounds_toArray, List.set_cons_zero, List.set_cons_succ]
    refine wpAnyH_done (by kernel_rfl) ?_ _
    rotate_left
    refine step_alg HK0 (by rfl) (by rfl) ?_; clear HK0; intro wq g7 HK0 _; simp only [List.nil_append, List.cons_append] at HK0; have hs := Lib.hid ((HK0.out.takeL 3).takeR 0)
    refine hK.out _ _ hs (fun hHeld => ?_)
    clear hK K
    try simp only [ap1, ap2, ap3, ap4, ap5]
    refine wpAnyH_ready (rs := [2]) (by kernel_rfl) (by simp) ?_
    refine AllReadyH.cons (o := ⟨some 37, _, _, _, _, _⟩) rfl (fun K hK => ?_) AllReadyH.nil
    refine step_mk0 evLay HK0 (by rfl) (by rfl) ?_; clear HK0; intro wq g4 HK0 _; simp only [List.nil_append, List.cons_append] at HK0; have hs := Lib.hid ((HK0.out.takeL 3).takeR 0)
    refine hK.out _ _ hs (fun hHeld => ?_)
    clear hK K
    try simp only [ap1, ap2, ap3, ap4, ap5]
    refine wpAnyH_ready (rs := [5]) (by kernel_rfl) (by simp) ?_
    refine AllReadyH.cons (o := ⟨some 40, _, _, _, _, _⟩) rfl (fun K hK => ?_) AllReadyH.nil
    (first | refine step_more2 evLay HK0 1 (by rfl) _ _ (by rfl) (by rfl) (by rfl) es (by rfl) HTe.out (Lib.hid (let h := HSe.out.later HK0.out.b; ⟨h.rd, h.nl⟩)) HLe HNe ?_ | refine step_more2 evLay HK0 0 (by rfl) _ _ (by rfl) (by rfl) (by rfl) es (by rfl) HTe.out (Lib.hid (let h := HSe.out.later HK0.out.b; ⟨h.rd, h.nl⟩)) HLe HNe ?_); clear HK0; intro A4 c4 wq HK0; simp only [List.set, List.nil_append] at HK0; have hs := Lib.hid ((HK0.out.takeL 3).takeR 0)
    refine hK.out _ _ hs (fun hHeld => ?_)
    clear hK K
    try simp only [ap1, ap2, ap3, ap4, ap5]
    refine wpAnyH_ready (rs := [7]) (by kernel_rfl) (by simp) ?_
    refine AllReadyH.cons (o := ⟨none, _, _, _, _, _⟩) rfl (fun K hK => ?_) AllReadyH.nil
    refine step_slg HK0 3 (by rfl) _ _ (by rfl) (by rfl) (by rfl) (by rfl) (by rfl) ?_; clear HK0; intro wq HK0; simp only [List.set] at HK0; have hs := Lib.hid ((HK0.out.takeL 3).takeR 0)
    refine hK.out _ _ hs (fun hHeld => ?_)
    clear hK K
    try simp only [ap1, ap2, ap3, ap4, ap5]
    refine wpAnyH_take (i := 8) (oi := ⟨some 8, _, _, _, _, _⟩) (v := ?_) rfl (by kernel_rfl) (by kernel_rfl) (by kernel_rfl) (fun _ _ _ h => h) (Or.inl ⟨by rfl, ?_⟩) (by assumption) ?_
    rotate_left
    · (intro w hSw; (try dsimp only at hSw); go_simp; try with_reducible rfl)
    try simp only [Act.put, List.setIfInBounds_toArray, List.set_cons_zero, List.set_cons_succ]
    refine wpAnyH_done (by kernel_rfl) ?_ _
    rotate_left
    refine step_mk0 evLay HK0 (by rfl) (by rfl) ?_; clear HK0; intro wq g4 HK0 _; simp only [List.nil_append, List.cons_append] at HK0; have hs := Lib.hid ((HK0.out.takeL 3).takeR 0)
    refine hK.out _ _ hs (fun hHeld => ?_)
    clear hK K
    try simp only [ap1, ap2, ap3, ap4, ap5]
    refine wpAnyH_ready (rs := [1, 6]) (by kernel_rfl) (by simp) ?_
    refine AllReadyH.cons (o := ⟨some 36, _, _, _, _, _⟩) rfl (fun K hK => ?_) (AllReadyH.cons (o := ⟨some 7, _, _, _, _, _⟩) rfl (fun K hK => ?_) AllReadyH.nil)
    go_simp
    go_at_call 10
    refine (HTw.out A c _ (HSl.out.later HK0.out.b)).mono ?_; rintro en w5 ⟨A3, c3, rfl, kn5⟩; replace HK0 := Lib.hid (HK0.out.join kn5); simp only [List.nil_append, List.cons_append] at HK0; clear kn5; have hs := Lib.hid ((HK0.out.takeL 3).takeR 0)
    refine hK.out _ _ hs (fun hHeld => ?_)
    clear hK K
    try simp only [ap1, ap2, ap3, ap4, ap5]
    refine wpAnyH_ready (rs := [5, 6]) (by kernel_rfl) (by simp) ?_
    refine AllReadyH.cons (o := ⟨some 40, _, _, _, _, _⟩) rfl (fun K hK => ?_) (AllReadyH.cons (o := ⟨some 7, _, _, _, _, _⟩) rfl (fun K hK => ?_) AllReadyH.nil)
    (first | refine step_more2 evLay HK0 1 (by rfl) _ _ (by rfl) (by rfl) (by rfl) es (by rfl) HTe.out (Lib.hid (let h := HSe.out.later HK0.out.b; ⟨h.rd, h.nl⟩)) HLe HNe ?_ | refine step_more2 evLay HK0 0 (by rfl) _ _ (by rfl) (by rfl) (by rfl) es (by rfl) HTe.out (Lib.hid (let h := HSe.out.later HK0.out.b; ⟨h.rd, h.nl⟩)) HLe HNe ?_); clear HK0; intro A4 c4 wq HK0; simp only [List.set, List.nil_append] at HK0; have hs := Lib.hid ((HK0.out.takeL 3).takeR 0)
    refine hK.out _ _ hs (fun hHeld => ?_)
    clear hK K
    try simp only [ap1, ap2, ap3, ap4, ap5]
    refine wpAnyH_ready (rs := [6]) (by kernel_rfl) (by simp) ?_
    refine AllReadyH.cons (o := ⟨some 7, _, _, _, _, _⟩) rfl (fun K hK => ?_) AllReadyH.nil
    refine step_alg HK0 (by rfl) (by rfl) ?_; clear HK0; intro wq g7 HK0 _; simp only [List.nil_append, List.cons_append] at HK0; have hs := Lib.hid ((HK0.out.takeL 3).takeR 0)
    refine hK.out _ _ hs (fun hHeld => ?_)
    clear hK K
    try simp only [ap1, ap2, ap3, ap4, ap5]
    refine wpAnyH_ready (rs := [7]) (by kernel_rfl) (by simp) ?_
    refine AllReadyH.cons (o := ⟨none, _, _, _, _, _⟩) rfl (fun K hK => ?_) AllReadyH.nil
    refine step_slg HK0 3 (by rfl) _ _ (by rfl) (by rfl) (by rfl) (by rfl) (by rfl) ?_; clear HK0; intro wq HK0; simp only [List.set] at HK0; have hs := Lib.hid ((HK0.out.takeL 3).takeR 0)
    refine hK.out _ _ hs (fun hHeld => ?_)
    clear hK K
    try simp only [ap1, ap2, ap3, ap4, ap5]
    refine wpAnyH_take (i := 8) (oi := ⟨some 8, _, _, _, _, _⟩) (v := ?_) rfl (by kernel_rfl) (by kernel_rfl) (by kernel_rfl) (fun _ _ _ h => h) (Or.inl ⟨by rfl, ?_⟩) (by assumption) ?_
    rotate_left
    · (intro w hSw; (try dsimp only at hSw); go_simp; try with_reducible rfl)
    try simp only [Act.put, List.setIfInBounds_toArray, List.set_cons_zero, List.set_cons_succ]
    refine wpAnyH_done (by kernel_rfl) ?_ _
    rotate_left
    refine step_alg HK0 (by rfl) (by rfl) ?_; clear HK0; intro wq g7 HK0 _; simp only [List.nil_append, List.cons_append] at HK0; have hs := Lib.hid ((HK0.out.takeL 3).takeR 0)
    refine hK.out _ _ hs (fun hHeld => ?_)
    clear hK K
    try simp only [ap1, ap2, ap3, ap4, ap5]
    refine wpAnyH_ready (rs := [5]) (by kernel_rfl) (by simp) ?_
    refine AllReadyH.cons (o := ⟨some 40, _, _, _, _, _⟩) rfl (fun K hK => ?_) AllReadyH.nil
    (first | refine step_more2 evLay HK0 1 (by rfl) _ _ (by rfl) (by rfl) (by rfl) es (by rfl) HTe.out (Lib.hid (let h := HSe.out.later HK0.out.b; ⟨h.rd, h.nl⟩)) HLe HNe ?_ | refine step_more2 evLay HK0 0 (by rfl) _ _ (by rfl) (by rfl) (by rfl) es (by rfl) HTe.out (Lib.hid (let h := HSe.out.later HK0.out.b; ⟨h.rd, h.nl⟩)) HLe HNe ?_); clear HK0; intro A4 c4 wq HK0; simp only [List.set, List.nil_append] at HK0; have hs := Lib.hid ((HK0.out.takeL 3).takeR 0)
    refine hK.out _ _ hs (fun hHeld => ?_)
    clear hK K
    try simp only [ap1, ap2, ap3, ap4, ap5]
    refine wpAnyH_ready (rs := [7]) (by kernel_rfl) (by simp) ?_
    refine AllReadyH.cons (o := ⟨none, _, _, _, _, _⟩) rfl (fun K hK => ?_) AllReadyH.nil
    refine step_slg HK0 3 (by rfl) _ _ (by rfl) (by rfl) (by rfl) (by rfl) (by rfl) ?_; clear HK0; intro wq HK0; simp only [List.set] at HK0; have hs := Lib.hid ((HK0.out.takeL 3).takeR 0)
    refine hK.out _ _ hs (fun hHeld => ?_)
    clear hK K
    try simp only [ap1, ap2, ap3, ap4, ap5]
    refine wpAnyH_take (i := 8) (oi := ⟨some 8, _, _, _, _, _⟩) (v := ?_) rfl (by kernel_rfl) (by kernel_rfl) (by kernel_rfl) (fun _ _ _ h => h) (Or.inl ⟨by rfl, ?_⟩) (by assumption) ?_
    rotate_left
    · (intro w hSw; (try dsimp only at hSw); go_simp; try with_reducible rfl)
    try simp only [Act.put, List.setIfInBounds_toArray, List.set_cons_zero, List.set_cons_succ]
    refine wpAnyH_done (by kernel_rfl) ?_ _
    rotate_left
    refine step_alg HK0 (by rfl) (by rfl) ?_; clear HK0; intro wq g7 HK0 _; simp only [List.nil_append, List.cons_append] at HK0; have hs := Lib.hid ((HK0.out.takeL 3).takeR 0)
    refine hK.out _ _ hs (fun hHeld => ?_)
    clear hK K
    try simp only [ap1, ap2, ap3, ap4, ap5]
    refine wpAnyH_ready (rs := [1]) (by kernel_rfl) (by simp) ?_
    refine AllReadyH.cons (o := ⟨some 36, _, _, _, _, _⟩) rfl (fun K hK => ?_) AllReadyH.nil
    go_simp
    go_at_call 10
    refine (HTw.out A c _ (HSl.out.later HK0.out.b)).mono ?_; rintro en w5 ⟨A3, c3, rfl, kn5⟩; replace HK0 := Lib.hid (HK0.out.join kn5); simp only [List.nil_append, List.cons_append] at HK0; clear kn5; have hs := Lib.hid ((HK0.out.takeL 3).takeR 0)
    refine hK.out _ _ hs (fun hHeld => ?_)
    clear hK K
    try simp only [ap1, ap2, ap3, ap4, ap5]
    refine wpAnyH_ready (rs := [5]) (by kernel_rfl) (by simp) ?_
    refine AllReadyH.cons (o := ⟨some 40, _, _, _, _, _⟩) rfl (fun K hK => ?_) AllReadyH.nil
    (first | refine step_more2 evLay HK0 1 (by rfl) _ _ (by rfl) (by rfl) (by rfl) es (by rfl) HTe.out (Lib.hid (let h := HSe.out.later HK0.out.b; ⟨h.rd, h.nl⟩)) HLe HNe ?_ | refine step_more2 evLay HK0 0 (by rfl) _ _ (by rfl) (by rfl) (by rfl) es (by rfl) HTe.out (Lib.hid (let h := HSe.out.later HK0.out.b; ⟨h.rd, h.nl⟩)) HLe HNe ?_); clear HK0; intro A4 c4 wq HK0; simp only [List.set, List.nil_append] at HK0; have hs := Lib.hid ((HK0.out.takeL 3).takeR 0)
    refine hK.out _ _ hs (fun hHeld => ?_)
    clear hK K
    try simp only [ap1, ap2, ap3, ap4, ap5]
    refine wpAnyH_ready (rs := [7]) (by kernel_rfl) (by simp) ?_
    refine AllReadyH.cons (o := ⟨none, _, _, _, _, _⟩) rfl (fun K hK => ?_) AllReadyH.nil
    refine step_slg HK0 3 (by rfl) _ _ (by rfl) (by rfl) (by rfl) (by rfl) (by rfl) ?_; clear HK0; intro wq HK0; simp only [List.set] at HK0; have hs := Lib.hid ((HK0.out.takeL 3).takeR 0)
    refine hK.out _ _ hs (fun hHeld => ?_)
    clear hK K
    try simp only [ap1, ap2, ap3, ap4, ap5]
    refine wpAnyH_take (i := 8) (oi := ⟨some 8, _, _, _, _, _⟩) (v := ?_) rfl (by kernel_rfl) (by kernel_rfl) (by kernel_rfl) (fun _ _ _ h => h) (Or.inl ⟨by rfl, ?_⟩) (by assumption) ?_
    rotate_left
    · (intro w hSw; (try dsimp only at hSw); go_simp; try with_reducible rfl)
    try simp only [Act.put, List.setIfInBounds_toArray, List.set_cons_zero, List.set_cons_succ]
    refine wpAnyH_done (by kernel_rfl) ?_ _
    rotate_left
    refine step_alg HK0 (by rfl) (by rfl) ?_; clear HK0; intro wq g7 HK0 _; simp only [List.nil_append, List.cons_append] at HK0; have hs := Lib.hid ((HK0.out.takeL 3).takeR 0)
    refine hK.out _ _ hs (fun hHeld => ?_)
    clear hK K
    try simp only [ap1, ap2, ap3, ap4, ap5]
    refine wpAnyH_ready (rs := [1, 2]) (by kernel_rfl) (by simp) ?_
    refine AllReadyH.cons (o := ⟨some 36, _, _, _, _, _⟩) rfl (fun K hK => ?_) (AllReadyH.cons (o := ⟨some 37, _, _, _, _, _⟩) rfl (fun K hK => ?_) AllReadyH.nil)
    go_simp
    go_at_call 10
    refine (HTw.out A c _ (HSl.out.later HK0.out.b)).mono ?_; rintro en w5 ⟨A3, c3, rfl, kn5⟩; replace HK0 := Lib.hid (HK0.out.join kn5); simp only [List.nil_append, List.cons_append] at HK0; clear kn5; have hs := Lib.hid ((HK0.out.takeL 3).takeR 0)
    refine hK.out _ _ hs (fun hHeld => ?_)
    clear hK K
    try simp only [ap1, ap2, ap3, ap4, ap5]
    refine wpAnyH_ready (rs := [2]) (by kernel_rfl) (by simp) ?_
    refine AllReadyH.cons (o := ⟨some 37, _, _, _, _, _⟩) rfl (fun K hK => ?_) AllReadyH.nil
    refine step_mk0 evLay HK0 (by rfl) (by rfl) ?_; clear HK0; intro wq g4 HK0 _; simp only [List.nil_append, List.cons_append] at HK0; have hs := Lib.hid ((HK0.out.takeL 3).takeR 0)
    refine hK.out _ _ hs (fun hHeld => ?_)
    clear hK K
    try simp only [ap1, ap2, ap3, ap4, ap5]
    refine wpAnyH_ready (rs := [5]) (by kernel_rfl) (by simp) ?_
    refine AllReadyH.cons (o := ⟨some 40, _, _, _, _, _⟩) rfl (fun K hK => ?_) AllReadyH.nil
    (first | refine step_more2 evLay HK0 1 (by rfl) _ _ (by rfl) (by rfl) (by rfl) es (by rfl) HTe.out (Lib.hid (let h := HSe.out.later HK0.out.b; ⟨h.rd, h.nl⟩)) HLe HNe ?_ | refine step_more2 evLay HK0 0 (by rfl) _ _ (by rfl) (by rfl) (by rfl) es (by rfl) HTe.out (Lib.hid (let h := HSe.out.later HK0.out.b; ⟨h.rd, h.nl⟩)) HLe HNe ?_); clear HK0; intro A4 c4 wq HK0; simp only [List.set, List.nil_append] at HK0; have hs := Lib.hid ((HK0.out.takeL 3).takeR 0)
    refine hK.out _ _ hs (fun hHeld => ?_)
    clear hK K
    try simp only [ap1, ap2, ap3, ap4, ap5]
    refine wpAnyH_ready (rs := [7]) (by kernel_rfl) (by simp) ?_
    refine AllReadyH.cons (o := ⟨none, _, _, _, _, _⟩) rfl (fun K hK => ?_) AllReadyH.nil
    refine step_slg HK0 3 (by rfl) _ _ (by rfl) (by rfl) (by rfl) (by rfl) (by rfl) ?_; clear HK0; intro wq HK0; simp only [List.set] at HK0; have hs := Lib.hid ((HK0.out.takeL 3).takeR 0)
    refine hK.out _ _ hs (fun hHeld => ?_)
    clear hK K
    try simp only [ap1, ap2, ap3, ap4, ap5]
    refine wpAnyH_take (i := 8) (oi := ⟨some 8, _, _, _, _, _⟩) (v := ?_) rfl (by kernel_rfl) (by kernel_rfl) (by kernel_rfl) (fun _ _ _ h => h) (Or.inl ⟨by rfl, ?_⟩) (by assumption) ?_
    rotate_left
    · (intro w hSw; (try dsimp only at hSw); go_simp; try with_reducible rfl)
    try simp only [Act.put, List.setIfInBounds_toArray, List.set_cons_zero, List.set_cons_succ]
    refine wpAnyH_done (by kernel_rfl) ?_ _
    rotate_left
    refine step_mk0 evLay HK0 (by rfl) (by rfl) ?_; clear HK0; intro wq g4 HK0 _; simp only [List.nil_append, List.cons_append] at HK0; have hs := Lib.hid ((HK0.out.takeL 3).takeR 0)
    refine hK.out _ _ hs (fun hHeld => ?_)
    clear hK K
    try simp only [ap1, ap2, ap3, ap4, ap5]
    refine wpAnyH_ready (rs := [1]) (by kernel_rfl) (by simp) ?_
    refine AllReadyH.cons (o := ⟨some 36, _, _, _, _, _⟩) rfl (fun K hK => ?_) AllReadyH.nil
    go_simp
    go_at_call 10
    refine (HTw.out A c _ (HSl.out.later HK0.out.b)).mono ?_; rintro en w5 ⟨A3, c3, rfl, kn5⟩; replace HK0 := Lib.hid (HK0.out.join kn5); simp only [List.nil_append, List.cons_append] at HK0; clear kn5; have hs := Lib.hid ((HK0.out.takeL 3).takeR 0)
    refine hK.out _ _ hs (fun hHeld => ?_)
    clear hK K
    try simp only [ap1, ap2, ap3, ap4, ap5]
    refine wpAnyH_ready (rs := [5]) (by kernel_rfl) (by simp) ?_
    refine AllReadyH.cons (o := ⟨some 40, _, _, _, _, _⟩) rfl (fun K hK => ?_) AllReadyH.nil
    (first | refine step_more2 evLay HK0 1 (by rfl) _ _ (by rfl) (by rfl) (by rfl) es (by rfl) HTe.out (Lib.hid (let h := HSe.out.later HK0.out.b; ⟨h.rd, h.nl⟩)) HLe HNe ?_ | refine step_more2 evLay HK0 0 (by rfl) _ _ (by rfl) (by rfl) (by rfl) es (by rfl) HTe.out (Lib.hid (let h := HSe.out.later HK0.out.b; ⟨h.rd, h.nl⟩)) HLe HNe ?_); clear HK0; intro A4 c4 wq HK0; simp only [List.set, List.nil_append] at HK0; have hs := Lib.hid ((HK0.out.takeL 3).takeR 0)
    refine hK.out _ _ hs (fun hHeld => ?_)
    clear hK K
    try simp only [ap1, ap2, ap3, ap4, ap5]
    refine wpAnyH_ready (rs := [7]) (by kernel_rfl) (by simp) ?_
    refine AllReadyH.cons (o := ⟨none, _, _, _, _, _⟩) rfl (fun K hK => ?_) AllReadyH.nil
    refine step_slg HK0 3 (by rfl) _ _ (by rfl) (by rfl) (by rfl) (by rfl) (by rfl) ?_; clear HK0; intro wq HK0; simp only [List.set] at HK0; have hs := Lib.hid ((HK0.out.takeL 3).takeR 0)
    refine hK.out _ _ hs (fun hHeld => ?_)
    clear hK K
    try simp only [ap1, ap2, ap3, ap4, ap5]
    refine wpAnyH_take (i := 8) (oi := ⟨some 8, _, _, _, _, _⟩) (v := ?_) rfl (by kernel_rfl) (by kernel_rfl) (by kernel_rfl) (fun _ _ _ h => h) (Or.inl ⟨by rfl, ?_⟩) (by assumption) ?_
    rotate_left
    · (intro w hSw; (try dsimp only at hSw); go_simp; try with_reducible rfl)
    try simp only [Act.put, List.setIfInBounds_toArray, List.set_cons_zero, List.set_cons_succ]
    refine wpAnyH_done (by kernel_rfl) ?_ _
    rotate_left
    all_goals
      have HK := HK0
      clear HK0 hHeld
      go_wp2_with fail
      go_meet
      exact ⟨g7, A3, c3, A4, c4, _, rfl, rfl, HK, Lib.hid (Tl.own (by first | exact List.mem_cons_self .. | exact List.mem_cons_of_mem _ (List.mem_cons_self ..)) HFl.out), Lib.hid (Tl.own (by first | exact List.mem_cons_self .. | exact List.mem_cons_of_mem _ (List.mem_cons_self ..)) HFe.out)⟩
  case rest =>
  clear HK HTe HNe HLe
  obtain ⟨g7, A3, c3, A4, c4, R3, rfl, rfl, HK, HT3, HT4⟩ := hcut
  go_wp2_with (first | refine wpList_exe (klg HK 0 _ (by rfl) (by rfl) (by rfl)) (by rfl) ?_ | refine wpList_exe (klo HK 1 _ (by rfl) (by rfl) (by rfl)) (by rfl) ?_)
  refine (HDo.out _ HK.out.b).mono ?_; rintro en w2 ⟨A5, n5, c5, A6, n6, c6, R5, rfl, kn5, HT5, HT6⟩
  replace HK := Lib.hid (HK.out.join kn5)
  clear kn5 HDo
  go_upto_region 5 with (first | (refine wpList_alg HK rfl rfl ?_; intro _ g9 HK'; simp only [List.cons_append, List.nil_append] at HK'; replace HK := HK'; clear HK') | (refine wpList_slg HK 4 rfl _ _ rfl rfl rfl rfl rfl ?_; intro _ HK'; simp only [List.set] at HK'; replace HK := HK'; clear HK'))
  go_cut [13, 14, 15, 16] (fun v13 v14 v15 v16 wx => ∃ (g13 : Nat) (A7 : Option Addr) (n7 c7 : Nat) (A8 : Option Addr) (n8 c8 : Nat) (R7 : List RowE), v13 = .pointer (some ⟨g13, 0, none⟩) ∧ v14 = .int .i64 xn ∧ v15 = .slice A8 n8 c8 ∧ v16 = .bool xb ∧ Hid (Kn w.heap.size w wx [(w.heap.size, 24, lgC b cc d (.slice A n c)), (w.heap.size + 1, 26, loC k f m (.slice A2 ne c2)), (w.heap.size + 2, 35, evA e), (g7, 24, lgC b cc d (.slice A3 n c3)), (g9, 24, lgC xl.b xl.c xl.d (.slice A5 n5 c5)), (g13, 24, lgC xl.b xl.c xl.d (.slice A7 n7 c7))] ((R3 ++ R5) ++ R7)) ∧ Hid (Tl (fun _ => True) A7 n7 c7 xl.ev R7) ∧ Hid (Tl (fun _ => True) A8 n8 c8 xe R7))
  case first =>
    as_aux_lemma =>
    go_wp2_with fail
    have HK0 := Lib.hid HK.out.drew
    clear HK
    refine wp_region_held_drew (S := (fun W => Hid (Kn w.heap.size w W [(w.heap.size, 24, lgC b cc d (.slice A n c)), (w.heap.size + 1, 26, loC k f m (.slice A2 ne c2)), (w.heap.size + 2, 35, evA e), (g7, 24, lgC b cc d (.slice A3 n c3)), (g9, 24, lgC xl.b xl.c xl.d (.slice A5 n5 c5))] []))) (by kernel_rfl) ?_ (fun hHeld => ?_)
    · (try dsimp only); exact Lib.hid ((HK0.out.takeL 5).takeR 0)
    refine wpAnyH_take (i := 0) (oi := ⟨some 50, _, _, _, _, _⟩) (v := ?_) rfl (by kernel_rfl) (by kernel_rfl) (by kernel_rfl) (fun _ _ _ h => h) (Or.inl ⟨by rfl, ?_⟩) (by assumption) ?_
    rotate_left
    · (intro w hSw; refine Eq.trans (klg hSw 3 _ (by rfl) (by rfl) (by rfl)) ?_; with_reducible rfl)
    try simp only [Act.put, List.setIfInBounds_toArray, List.set_cons_zero, List.set_cons_succ]
    refine wpAnyH_take (i := 2) (oi := ⟨some 52, _, _, _, _, _⟩) (v := ?_) rfl (by kernel_rfl) (by kernel_rfl) (by kernel_rfl) (fun _ _ _ h => h) (Or.inl ⟨by rfl, ?_⟩) (by assumption) ?_
    rotate_left
    · (intro w hSw; refine Eq.trans (klo hSw 1 _ (by rfl) (by rfl) (by rfl)) ?_; with_reducible rfl)
    try simp only [Act.put, List.setIfInBounds_toArray, List.set_cons_zero, List.set_cons_succ]
    refine wpAnyH_ready (rs := [1, 9]) (by kernel_rfl) (by simp) ?_
    refine AllReadyH.cons (o := ⟨some 51, _, _, _, _, _⟩) rfl (fun K hK => ?_) (AllReadyH.cons (o := ⟨some 13, _, _, _, _, _⟩) rfl (fun K hK => ?_) AllReadyH.nil)
    go_simp
    go_at_call 10
    refine (HTw.out A3 c3 _ (HT3.out _ _ _ _ _ HK0.out (fun z hz => List.mem_append_left _ hz) trivial)).mono ?_; rintro en w5 ⟨A10, c10, rfl, kn10⟩; replace HK0 := Lib.hid (HK0.out.join kn10); clear kn10; have hs := Lib.hid ((HK0.out.takeL 5).takeR 0)
    refine hK.out _ _ hs (fun hHeld => ?_)
    clear hK K
    try simp only [ap1, ap2, ap3, ap4, ap5]
    refine wpAnyH_ready (rs := [3, 9]) (by kernel_rfl) (by simp) ?_
    refine AllReadyH.cons (o := ⟨some 53, _, _, _, _, _⟩) rfl (fun K hK => ?_) (AllReadyH.cons (o := ⟨some 13, _, _, _, _, _⟩) rfl (fun K hK => ?_) AllReadyH.nil)
    go_simp
    go_at_call 12
    refine (HRe.out A10 c10 _ HK0.out.b (Sls.own (HK0.out.mem (show row evLay (.slice A10 n c10) ev ∈ _ from List.mem_append_right _ (List.mem_singleton.2 rfl))) HFl.out)).mono ?_; rintro en w5 ⟨A7, n7, c7, A8, n8, c8, R7, rfl, kn7, HT7, HT8⟩; replace HK0 := Lib.hid (HK0.out.join kn7); clear kn7; have hs := Lib.hid ((HK0.out.takeL 5).takeR 0)
    refine hK.out _ _ hs (fun hHeld => ?_)
    clear hK K
    try simp only [ap1, ap2, ap3, ap4, ap5]
    refine wpAnyH_take (i := 4) (oi := ⟨some 49, _, _, _, _, _⟩) (v := ?_) rfl (by kernel_rfl) (by kernel_rfl) (by kernel_rfl) (fun _ _ _ h => h) (Or.inl ⟨by rfl, ?_⟩) (by assumption) ?_
    rotate_left
    · (intro w hSw; (try dsimp only at hSw); go_simp; try with_reducible rfl)
    try simp only [Act.put, List.setIfInBounds_toArray, List.set_cons_zero, List.set_cons_succ]
    refine wpAnyH_take (i := 5) (oi := ⟨some 54, _, _, _, _, _⟩) (v := ?_) rfl (by kernel_rfl) (by kernel_rfl) (by kernel_rfl) (fun _ _ _ h => h) (Or.inl ⟨by rfl, ?_⟩) (by assumption) ?_
    rotate_left
    · (intro w hSw; (try dsimp only at hSw); go_simp; try with_reducible rfl)
    try simp only [Act.put, List.setIfInBounds_toArray, List.set_cons_zero, List.set_cons_succ]
    refine wpAnyH_take (i := 6) (oi := ⟨some 55, _, _, _, _, _⟩) (v := ?_) rfl (by kernel_rfl) (by kernel_rfl) (by kernel_rfl) (fun _ _ _ h => h) (Or.inl ⟨by rfl, ?_⟩) (by assumption) ?_
    rotate_left
    · (intro w hSw; (try dsimp only at hSw); go_simp; try with_reducible rfl)
    try simp only [Act.put, List.setIfInBounds_toArray, List.set_cons_zero, List.set_cons_succ]
    refine wpAnyH_take (i := 7) (oi := ⟨some 56, _, _, _, _, _⟩) (v := ?_) rfl (by kernel_rfl) (by kernel_rfl) (by kernel_rfl) (fun _ _ _ h => h) (Or.inl ⟨by rfl, ?_⟩) (by assumption) ?_
    rotate_left
    · (intro w hSw; (try dsimp only at hSw); go_simp; try with_reducible rfl)
    try simp only [Act.put, List.setIfInBounds_toArray, List.set_cons_zero, List.set_cons_succ]
    refine wpAnyH_take (i := 8) (oi := ⟨some 57, _, _, _, _, _⟩) (v := ?_) rfl (by kernel_rfl) (by kernel_rfl) (by kernel_rfl) (fun _ _ _ h => h) (Or.inl ⟨by rfl, ?_⟩) (by assumption) ?_
    rotate_left
    · (intro w hSw; (try dsimp only at hSw); go_simp; try with_reducible rfl)
    try simp only [Act.put, List.setIfInBounds_toArray, List.set_cons_zero, List.set_cons_succ]
    refine wpAnyH_ready (rs := [9]) (by kernel_rfl) (by simp) ?_
    refine AllReadyH.cons (o := ⟨some 13, _, _, _, _, _⟩) rfl (fun K hK => ?_) AllReadyH.nil
    refine step_alg HK0 (by rfl) (by rfl) ?_; clear HK0; intro wq g13 HK0 _; simp only [List.nil_append, List.cons_append] at HK0; have hs := Lib.hid ((HK0.out.takeL 5).takeR 0)
    refine hK.out _ _ hs (fun hHeld => ?_)
    clear hK K
    try simp only [ap1, ap2, ap3, ap4, ap5]
    refine wpAnyH_ready (rs := [10]) (by kernel_rfl) (by simp) ?_
    refine AllReadyH.cons (o := ⟨none, _, _, _, _, _⟩) rfl (fun K hK => ?_) AllReadyH.nil
    refine step_slg HK0 5 (by rfl) _ _ (by rfl) (by rfl) (by rfl) (by rfl) (by rfl) ?_; clear HK0; intro wq HK0; simp only [List.set] at HK0; have hs := Lib.hid ((HK0.out.takeL 5).takeR 0)
    refine hK.out _ _ hs (fun hHeld => ?_)
    clear hK K
    try simp only [ap1, ap2, ap3, ap4, ap5]
    refine wpAnyH_take (i := 11) (oi := ⟨some 14, _, _, _, _, _⟩) (v := ?_) rfl (by kernel_rfl) (by kernel_rfl) (by kernel_rfl) (fun _ _ _ h => h) (Or.inl ⟨by rfl, ?_⟩) (by assumption) ?_
    rotate_left
    · (intro w hSw; (try dsimp only at hSw); go_simp; try with_reducible rfl)
    try simp only [Act.put, List.setIfInBounds_toArray, List.set_cons_zero, List.set_cons_succ]
    refine wpAnyH_take (i := 12) (oi := ⟨some 15, _, _, _, _, _⟩) (v := ?_) rfl (by kernel_rfl) (by kernel_rfl) (by kernel_rfl) (fun _ _ _ h => h) (Or.inl ⟨by rfl, ?_⟩) (by assumption) ?_
    rotate_left
    · (intro w hSw; (try dsimp only at hSw); go_simp; try with_reducible rfl)
    try simp only [Act.put, List.setIfInBounds_toArray, List.set_cons_zero, List.set_cons_succ]
    refine wpAnyH_take (i := 13) (oi := ⟨some 16, _, _, _, _, _⟩) (v := ?_) rfl (by kernel_rfl) (by kernel_rfl) (by kernel_rfl) (fun _ _ _ h => h) (Or.inl ⟨by rfl, ?_⟩) (by assumption) ?_
    rotate_left
    · (intro w hSw; (try dsimp only at hSw); go_simp; try with_reducible rfl)
    try simp only [Act.put, List.setIfInBounds_toArray, List.set_cons_zero, List.set_cons_succ]
    refine wpAnyH_done (by kernel_rfl) ?_ _
    rotate_left
    refine step_alg HK0 (by rfl) (by rfl) ?_; clear HK0; intro wq g13 HK0 _; simp only [List.nil_append, List.cons_append] at HK0; have hs := Lib.hid ((HK0.out.takeL 5).takeR 0)
    refine hK.out _ _ hs (fun hHeld => ?_)
    clear hK K
    try simp only [ap1, ap2, ap3, ap4, ap5]
    refine wpAnyH_ready (rs := [3]) (by kernel_rfl) (by simp) ?_
    refine AllReadyH.cons (o := ⟨some 53, _, _, _, _, _⟩) rfl (fun K hK => ?_) AllReadyH.nil
    go_simp
    go_at_call 12
    refine (HRe.out A10 c10 _ HK0.out.b (Sls.own (HK0.out.mem (show row evLay (.slice A10 n c10) ev ∈ _ from List.mem_append_right _ (List.mem_singleton.2 rfl))) HFl.out)).mono ?_; rintro en w5 ⟨A7, n7, c7, A8, n8, c8, R7, rfl, kn7, HT7, HT8⟩; replace HK0 := Lib.hid (HK0.out.join kn7); clear kn7; have hs := Lib.hid ((HK0.out.takeL 5).takeR 0)
    refine hK.out _ _ hs (fun hHeld => ?_)
    clear hK K
    try simp only [ap1, ap2, ap3, ap4, ap5]
    refine wpAnyH_take (i := 4) (oi := ⟨some 49, _, _, _, _, _⟩) (v := ?_) rfl (by kernel_rfl) (by kernel_rfl) (by kernel_rfl) (fun _ _ _ h => h) (Or.inl ⟨by rfl, ?_⟩) (by assumption) ?_
    rotate_left
    · (intro w hSw; (try dsimp only at hSw); go_simp; try with_reducible rfl)
    try simp only [Act.put, List.setIfInBounds_toArray, List.set_cons_zero, List.set_cons_succ]
    refine wpAnyH_take (i := 5) (oi := ⟨some 54, _, _, _, _, _⟩) (v := ?_) rfl (by kernel_rfl) (by kernel_rfl) (by kernel_rfl) (fun _ _ _ h => h) (Or.inl ⟨by rfl, ?_⟩) (by assumption) ?_
    rotate_left
    · (intro w hSw; (try dsimp only at hSw); go_simp; try with_reducible rfl)
    try simp only [Act.put, List.setIfInBounds_toArray, List.set_cons_zero, List.set_cons_succ]
    refine wpAnyH_take (i := 6) (oi := ⟨some 55, _, _, _, _, _⟩) (v := ?_) rfl (by kernel_rfl) (by kernel_rfl) (by kernel_rfl) (fun _ _ _ h => h) (Or.inl ⟨by rfl, ?_⟩) (by assumption) ?_
    rotate_left
    · (intro w hSw; (try dsimp only at hSw); go_simp; try with_reducible rfl)
    try simp only [Act.put, List.setIfInBounds_toArray, List.set_cons_zero, List.set_cons_succ]
    refine wpAnyH_take (i := 7) (oi := ⟨some 56, _, _, _, _, _⟩) (v := ?_) rfl (by kernel_rfl) (by kernel_rfl) (by kernel_rfl) (fun _ _ _ h => h) (Or.inl ⟨by rfl, ?_⟩) (by assumption) ?_
    rotate_left
    · (intro w hSw; (try dsimp only at hSw); go_simp; try with_reducible rfl)
    try simp only [Act.put, List.setIfInBounds_toArray, List.set_cons_zero, List.set_cons_succ]
    refine wpAnyH_take (i := 8) (oi := ⟨some 57, _, _, _, _, _⟩) (v := ?_) rfl (by kernel_rfl) (by kernel_rfl) (by kernel_rfl) (fun _ _ _ h => h) (Or.inl ⟨by rfl, ?_⟩) (by assumption) ?_
    rotate_left
    · (intro w hSw; (try dsimp only at hSw); go_simp; try with_reducible rfl)
    try simp only [Act.put, List.setIfInBounds_toArray, List.set_cons_zero, List.set_cons_succ]
    refine wpAnyH_ready (rs := [10]) (by kernel_rfl) (by simp) ?_
    refine AllReadyH.cons (o := ⟨none, _, _, _, _, _⟩) rfl (fun K hK => ?_) AllReadyH.nil
    refine step_slg HK0 5 (by rfl) _ _ (by rfl) (by rfl) (by rfl) (by rfl) (by rfl) ?_; clear HK0; intro wq HK0; simp only [List.set] at HK0; have hs := Lib.hid ((HK0.out.takeL 5).takeR 0)
    refine hK.out _ _ hs (fun hHeld => ?_)
    clear hK K
    try simp only [ap1, ap2, ap3, ap4, ap5]
    refine wpAnyH_take (i := 11) (oi := ⟨some 14, _, _, _, _, _⟩) (v := ?_) rfl (by kernel_rfl) (by kernel_rfl) (by kernel_rfl) (fun _ _ _ h => h) (Or.inl ⟨by rfl, ?_⟩) (by assumption) ?_
    rotate_left
    · (intro w hSw; (try dsimp only at hSw); go_simp; try with_reducible rfl)
    try simp only [Act.put, List.setIfInBounds_toArray, List.set_cons_zero, List.set_cons_succ]
    refine wpAnyH_take (i := 12) (oi := ⟨some 15, _, _, _, _, _⟩) (v := ?_) rfl (by kernel_rfl) (by kernel_rfl) (by kernel_rfl) (fun _ _ _ h => h) (Or.inl ⟨by rfl, ?_⟩) (by assumption) ?_
    rotate_left
    · (intro w hSw; (try dsimp only at hSw); go_simp; try with_reducible rfl)
    try simp only [Act.put, List.setIfInBounds_toArray, List.set_cons_zero, List.set_cons_succ]
    refine wpAnyH_take (i := 13) (oi := ⟨some 16, _, _, _, _, _⟩) (v := ?_) rfl (by kernel_rfl) (by kernel_rfl) (by kernel_rfl) (fun _ _ _ h => h) (Or.inl ⟨by rfl, ?_⟩) (by assumption) ?_
    rotate_left
    · (intro w hSw; (try dsimp only at hSw); go_simp; try with_reducible rfl)
    try simp only [Act.put, List.setIfInBounds_toArray, List.set_cons_zero, List.set_cons_succ]
    refine wpAnyH_done (by kernel_rfl) ?_ _
    rotate_left
    refine step_alg HK0 (by rfl) (by rfl) ?_; clear HK0; intro wq g13 HK0 _; simp only [List.nil_append, List.cons_append] at HK0; have hs := Lib.hid ((HK0.out.takeL 5).takeR 0)
    refine hK.out _ _ hs (fun hHeld => ?_)
    clear hK K
    try simp only [ap1, ap2, ap3, ap4, ap5]
    refine wpAnyH_ready (rs := [1]) (by kernel_rfl) (by simp) ?_
    refine AllReadyH.cons (o := ⟨some 51, _, _, _, _, _⟩) rfl (fun K hK => ?_) AllReadyH.nil
    go_simp
    go_at_call 10
    refine (HTw.out A3 c3 _ (HT3.out _ _ _ _ _ HK0.out (fun z hz => List.mem_append_left _ hz) trivial)).mono ?_; rintro en w5 ⟨A10, c10, rfl, kn10⟩; replace HK0 := Lib.hid (HK0.out.join kn10); clear kn10; have hs := Lib.hid ((HK0.out.takeL 5).takeR 0)
    refine hK.out _ _ hs (fun hHeld => ?_)
    clear hK K
    try simp only [ap1, ap2, ap3, ap4, ap5]
    refine wpAnyH_ready (rs := [3]) (by kernel_rfl) (by simp) ?_
    refine AllReadyH.cons (o := ⟨some 53, _, _, _, _, _⟩) rfl (fun K hK => ?_) AllReadyH.nil
    go_simp
    go_at_call 12
    refine (HRe.out A10 c10 _ HK0.out.b (Sls.own (HK0.out.mem (show row evLay (.slice A10 n c10) ev ∈ _ from List.mem_append_right _ (List.mem_singleton.2 rfl))) HFl.out)).mono ?_; rintro en w5 ⟨A7, n7, c7, A8, n8, c8, R7, rfl, kn7, HT7, HT8⟩; replace HK0 := Lib.hid (HK0.out.join kn7); clear kn7; have hs := Lib.hid ((HK0.out.takeL 5).takeR 0)
    refine hK.out _ _ hs (fun hHeld => ?_)
    clear hK K
    try simp only [ap1, ap2, ap3, ap4, ap5]
    refine wpAnyH_take (i := 4) (oi := ⟨some 49, _, _, _, _, _⟩) (v := ?_) rfl (by kernel_rfl) (by kernel_rfl) (by kernel_rfl) (fun _ _ _ h => h) (Or.inl ⟨by rfl, ?_⟩) (by assumption) ?_
    rotate_left
    · (intro w hSw; (try dsimp only at hSw); go_simp; try with_reducible rfl)
    try simp only [Act.put, List.setIfInBounds_toArray, List.set_cons_zero, List.set_cons_succ]
    refine wpAnyH_take (i := 5) (oi := ⟨some 54, _, _, _, _, _⟩) (v := ?_) rfl (by kernel_rfl) (by kernel_rfl) (by kernel_rfl) (fun _ _ _ h => h) (Or.inl ⟨by rfl, ?_⟩) (by assumption) ?_
    rotate_left
    · (intro w hSw; (try dsimp only at hSw); go_simp; try with_reducible rfl)
    try simp only [Act.put, List.setIfInBounds_toArray, List.set_cons_zero, List.set_cons_succ]
    refine wpAnyH_take (i := 6) (oi := ⟨some 55, _, _, _, _, _⟩) (v := ?_) rfl (by kernel_rfl) (by kernel_rfl) (by kernel_rfl) (fun _ _ _ h => h) (Or.inl ⟨by rfl, ?_⟩) (by assumption) ?_
    rotate_left
    · (intro w hSw; (try dsimp only at hSw); go_simp; try with_reducible rfl)
    try simp only [Act.put, List.setIfInBounds_toArray, List.set_cons_zero, List.set_cons_succ]
    refine wpAnyH_take (i := 7) (oi := ⟨some 56, _, _, _, _, _⟩) (v := ?_) rfl (by kernel_rfl) (by kernel_rfl) (by kernel_rfl) (fun _ _ _ h => h) (Or.inl ⟨by rfl, ?_⟩) (by assumption) ?_
    rotate_left
    · (intro w hSw; (try dsimp only at hSw); go_simp; try with_reducible rfl)
    try simp only [Act.put, List.setIfInBounds_toArray, List.set_cons_zero, List.set_cons_succ]
    refine wpAnyH_take (i := 8) (oi := ⟨some 57, _, _, _, _, _⟩) (v := ?_) rfl (by kernel_rfl) (by kernel_rfl) (by kernel_rfl) (fun _ _ _ h => h) (Or.inl ⟨by rfl, ?_⟩) (by assumption) ?_
    rotate_left
    · (intro w hSw; (try dsimp only at hSw); go_simp; try with_reducible rfl)
    try simp only [Act.put, List.setIfInBounds_toArray, List.set_cons_zero, List.set_cons_succ]
    refine wpAnyH_ready (rs := [10]) (by kernel_rfl) (by simp) ?_
    refine AllReadyH.cons (o := ⟨none, _, _, _, _, _⟩) rfl (fun K hK => ?_) AllReadyH.nil
    refine step_slg HK0 5 (by rfl) _ _ (by rfl) (by rfl) (by rfl) (by rfl) (by rfl) ?_; clear HK0; intro wq HK0; simp only [List.set] at HK0; have hs := Lib.hid ((HK0.out.takeL 5).takeR 0)
    refine hK.out _ _ hs (fun hHeld => ?_)
    clear hK K
    try simp only [ap1, ap2, ap3, ap4, ap5]
    refine wpAnyH_take (i := 11) (oi := ⟨some 14, _, _, _, _, _⟩) (v := ?_) rfl (by kernel_rfl) (by kernel_rfl) (by kernel_rfl) (fun _ _ _ h => h) (Or.inl ⟨by rfl, ?_⟩) (by assumption) ?_
    rotate_left
    · (intro w hSw; (try dsimp only at hSw); go_simp; try with_reducible rfl)
    try simp only [Act.put, List.setIfInBounds_toArray, List.set_cons_zero, List.set_cons_succ]
    refine wpAnyH_take (i := 12) (oi := ⟨some 15, _, _, _, _, _⟩) (v := ?_) rfl (by kernel_rfl) (by kernel_rfl) (by kernel_rfl) (fun _ _ _ h => h) (Or.inl ⟨by rfl, ?_⟩) (by assumption) ?_
    rotate_left
    · (intro w hSw; (try dsimp only at hSw); go_simp; try with_reducible rfl)
    try simp only [Act.put, List.setIfInBounds_toArray, List.set_cons_zero, List.set_cons_succ]
    refine wpAnyH_take (i := 13) (oi := ⟨some 16, _, _, _, _, _⟩) (v := ?_) rfl (by kernel_rfl) (by kernel_rfl) (by kernel_rfl) (fun _ _ _ h => h) (Or.inl ⟨by rfl, ?_⟩) (by assumption) ?_
    rotate_left
    · (intro w hSw; (try dsimp only at hSw); go_simp; try with_reducible rfl)
    try simp only [Act.put, List.setIfInBounds_toArray, List.set_cons_zero, List.set_cons_succ]
    refine wpAnyH_done (by kernel_rfl) ?_ _
    rotate_left
    all_goals
      have HK := HK0
      clear HK0 hHeld
      go_wp2_with fail
      go_meet
      have HG : ∀ (b2 : Nat) (W0 W : World) L R, Kn b2 W0 W L R → (∀ z ∈ [row evLay (.slice A10 n c10) ev] ++ R7, z ∈ R) → Sls evLay lvF W A10 n c10 ev := fun b2 W0 W L R K hR => Sls.own (K.mem (show row evLay (.slice A10 n c10) ev ∈ _ from hR _ (List.mem_append_left _ (List.mem_singleton.2 rfl)))) HFl.out
      exact ⟨g13, A7, n7, c7, A8, n8, c8, [row evLay (.slice A10 n c10) ev] ++ R7, rfl, rfl, rfl, rfl, (by rw [List.append_assoc] at HK; exact HK), Lib.hid (HT7.out.under (fun z hz => List.mem_append_right _ hz) HG), Lib.hid (HT8.out.under (fun z hz => List.mem_append_right _ hz) HG)⟩
  case rest =>
  clear HK HTw HRe HFl HFe
  obtain ⟨g13, A7, n7, c7, A8, n8, c8, R7, rfl, rfl, rfl, rfl, HK, HT7, HT8⟩ := hcut
  have h5 := HT5.out _ _ _ _ _ HK.out (fun z hz => List.mem_append_left _ (List.mem_append_right _ hz)) (HSl.out.later HK.out.b)
  have h6 := HT6.out _ _ _ _ _ HK.out (fun z hz => List.mem_append_left _ (List.mem_append_right _ hz)) (HSl.out.later HK.out.b)
  have h7 := HT7.out _ _ _ _ _ HK.out (fun z hz => List.mem_append_right _ hz) trivial
  have h8 := HT8.out _ _ _ _ _ HK.out (fun z hz => List.mem_append_right _ hz) trivial
  obtain rfl : n5 = n7 := h5.len.symm.trans h7.len
  obtain rfl : n6 = n8 := h6.len.symm.trans h8.len
  have hn5 : n5 ≤ 100000 := by have := HX.out.1; rw [h5.len] at this; omega
  have hn6 : n6 ≤ 100000 := by have := HX.out.2; rw [h6.len] at this; omega
  clear h5 h6 h7 h8 HX
  have hxx : (xn == xn) = true := beq_self_eq_true xn
  go_wp2_with (first | refine wpList_exe (klg HK 4 _ (by rfl) (by rfl) (by rfl)) (by rfl) ?_ | refine wpList_exe (klg HK 5 _ (by rfl) (by rfl) (by rfl)) (by rfl) ?_)
  refine (HSm.out xl A5 A7 n5 c5 c7 _ (HT5.out _ _ _ _ _ HK.out (fun z hz => List.mem_append_left _ (List.mem_append_right _ hz)) (HSl.out.later HK.out.b)) (HT7.out _ _ _ _ _ HK.out (fun z hz => List.mem_append_right _ hz) trivial) hn5).mono ?_; rintro en w3 ⟨rfl, b1⟩
  replace HK := Lib.hid (HK.out.call b1); clear b1
  go_wp2_with fail
  refine (HSv.out xe A6 A8 n6 c6 c8 _ (HT6.out _ _ _ _ _ HK.out (fun z hz => List.mem_append_left _ (List.mem_append_right _ hz)) (HSl.out.later HK.out.b)) (HT8.out _ _ _ _ _ HK.out (fun z hz => List.mem_append_right _ hz) trivial) hn6).mono ?_; rintro en w3 ⟨rfl, b1⟩
  replace HK := Lib.hid (HK.out.call b1); clear b1
  go_wp2_with (first | refine wpList_exe (exec_booleq (x := xb) (y := xb) (d := true) _ _ (by rfl) (by rfl) (by rfl) (beq_self_eq_true xb)) (by rfl) ?_ | refine wpList_exe (klg HK 0 _ (by rfl) (by rfl) (by rfl)) (by rfl) ?_ | refine wpList_exe (klg HK 3 _ (by rfl) (by rfl) (by rfl)) (by rfl) ?_)
  refine (HSm.out ⟨b, cc, d, ev⟩ A A3 n c c3 _ (HSl.out.later HK.out.b) (HT3.out _ _ _ _ _ HK.out (fun z hz => List.mem_append_left _ (List.mem_append_left _ hz)) trivial) (by omega)).mono ?_; rintro en w3 ⟨rfl, b1⟩
  replace HK := Lib.hid (HK.out.call b1); clear b1
  go_wp2_with (first | refine wpList_exe (klo_e HK 1 _ (by rfl) (by rfl) (by rfl)) (by rfl) ?_)
  refine (HSv.out es A2 A4 ne c2 c4 _ (HSe.out.later HK.out.b) (HT4.out _ _ _ _ _ HK.out (fun z hz => List.mem_append_left _ (List.mem_append_left _ hz)) trivial) (by omega)).mono ?_; rintro en w3 ⟨rfl, b1⟩
  replace HK := Lib.hid (HK.out.call b1); clear b1
  clear HSm HSv
  go_wp2_with fail
  have HK0 := Lib.hid HK.out.drew
  clear HK
  refine wp_region_held_drew (S := (fun W => Hid (Kn w.heap.size w W [(w.heap.size, 24, lgC b cc d (.slice A n c)), (w.heap.size + 1, 26, loC k f m (.slice A2 ne c2)), (w.heap.size + 2, 35, evA e), (g7, 24, lgC b cc d (.slice A3 n c3)), (g9, 24, lgC xl.b xl.c xl.d (.slice A5 n5 c5)), (g13, 24, lgC xl.b xl.c xl.d (.slice A7 n5 c7))] ((R3 ++ R5) ++ R7)))) (by kernel_rfl) ?_ (fun hHeld => ?_)
  · (try dsimp only); exact HK0
  refine wpAnyH_ready (rs := [0]) (by kernel_rfl) (by simp) ?_
  refine AllReadyH.cons (o := ⟨some 87, _, _, _, _, _⟩) rfl (fun K hK => ?_) AllReadyH.nil
  go_simp
  go_at_call 8
  refine (HAw.out _).mono ?_; rintro en w5 ⟨rfl, b5⟩; have hs := Lib.hid (hHeld.out.call b5); clear b5
  refine hK.out _ _ hs (fun hHeld => ?_)
  clear hK K
  try simp only [ap1, ap2, ap3, ap4, ap5]
  refine wpAnyH_take (i := 1) (oi := ⟨some 88, _, _, _, _, _⟩) (v := ?_) rfl (by kernel_rfl) (by kernel_rfl) (by kernel_rfl) (fun _ _ _ h => h) (Or.inl ⟨by rfl, ?_⟩) (by assumption) ?_
  rotate_left
  · (intro w hSw; (try dsimp only at hSw); go_simp; try with_reducible rfl)
  try simp only [Act.put, List.setIfInBounds_toArray, List.set_cons_zero, List.set_cons_succ]
  refine wpAnyH_take (i := 2) (oi := ⟨some 89, _, _, _, _, _⟩) (v := ?_) rfl (by kernel_rfl) (by kernel_rfl) (by kernel_rfl) (fun _ _ _ h => h) (Or.inl ⟨by rfl, ?_⟩) (by assumption) ?_
  rotate_left
  · (intro w hSw; (try dsimp only at hSw); go_simp; try with_reducible rfl)
  try simp only [Act.put, List.setIfInBounds_toArray, List.set_cons_zero, List.set_cons_succ]
  refine wpAnyH_take (i := 3) (oi := ⟨some 90, _, _, _, _, _⟩) (v := ?_) rfl (by kernel_rfl) (by kernel_rfl) (by kernel_rfl) (fun _ _ _ h => h) (Or.inl ⟨by rfl, ?_⟩) (by assumption) ?_
  rotate_left
  · (intro w hSw; (try dsimp only at hSw); go_simp; try with_reducible rfl)
  try simp only [Act.put, List.setIfInBounds_toArray, List.set_cons_zero, List.set_cons_succ]
  refine wpAnyH_take (i := 4) (oi := ⟨some 91, _, _, _, _, _⟩) (v := ?_) rfl (by kernel_rfl) (by kernel_rfl) (by kernel_rfl) (fun _ _ _ h => h) (Or.inl ⟨by rfl, ?_⟩) (by assumption) ?_
  rotate_left
  · (intro w hSw; (try dsimp only at hSw); go_simp; try with_reducible rfl)
  try simp only [Act.put, List.setIfInBounds_toArray, List.set_cons_zero, List.set_cons_succ]
  refine wpAnyH_take (i := 5) (oi := ⟨some 92, _, _, _, _, _⟩) (v := ?_) rfl (by kernel_rfl) (by kernel_rfl) (by kernel_rfl) (fun _ _ _ h => h) (Or.inl ⟨by rfl, ?_⟩) (by assumption) ?_
  rotate_left
  · (intro w hSw; refine Eq.trans (klg hSw 0 _ (by rfl) (by rfl) (by rfl)) ?_; with_reducible rfl)
  try simp only [Act.put, List.setIfInBounds_toArray, List.set_cons_zero, List.set_cons_succ]
  refine wpAnyH_ready (rs := [6]) (by kernel_rfl) (by simp) ?_
  refine AllReadyH.cons (o := ⟨some 93, _, _, _, _, _⟩) rfl (fun K hK => ?_) AllReadyH.nil
  go_simp
  go_at_call 9
  refine (HRc.out _ hHeld.out.b).mono ?_; rintro en w5 ⟨rfl, b5⟩; have hs := Lib.hid (hHeld.out.call b5); clear b5
  refine hK.out _ _ hs (fun hHeld => ?_)
  clear hK K
  try simp only [ap1, ap2, ap3, ap4, ap5]
  refine wpAnyH_take (i := 7) (oi := ⟨some 94, _, _, _, _, _⟩) (v := ?_) rfl (by kernel_rfl) (by kernel_rfl) (by kernel_rfl) (fun _ _ _ h => h) (Or.inl ⟨by rfl, ?_⟩) (by assumption) ?_
  rotate_left
  · (intro w hSw; (try dsimp only at hSw); go_simp; try with_reducible rfl)
  try simp only [Act.put, List.setIfInBounds_toArray, List.set_cons_zero, List.set_cons_succ]
  refine wpAnyH_take (i := 8) (oi := ⟨some 95, _, _, _, _, _⟩) (v := ?_) rfl (by kernel_rfl) (by kernel_rfl) (by kernel_rfl) (fun _ _ _ h => h) (Or.inl ⟨by rfl, ?_⟩) (by assumption) ?_
  rotate_left
  · (intro w hSw; (try dsimp only at hSw); go_simp; try with_reducible rfl)
  try simp only [Act.put, List.setIfInBounds_toArray, List.set_cons_zero, List.set_cons_succ]
  refine wpAnyH_take (i := 9) (oi := ⟨some 96, _, _, _, _, _⟩) (v := ?_) rfl (by kernel_rfl) (by kernel_rfl) (by kernel_rfl) (fun _ _ _ h => h) (Or.inl ⟨by rfl, ?_⟩) (by assumption) ?_
  rotate_left
  · (intro w hSw; refine Eq.trans (klg hSw 0 _ (by rfl) (by rfl) (by rfl)) ?_; with_reducible rfl)
  try simp only [Act.put, List.setIfInBounds_toArray, List.set_cons_zero, List.set_cons_succ]
  refine wpAnyH_take (i := 11) (oi := ⟨some 98, _, _, _, _, _⟩) (v := ?_) rfl (by kernel_rfl) (by kernel_rfl) (by kernel_rfl) (fun _ _ _ h => h) (Or.inl ⟨by rfl, ?_⟩) (by assumption) ?_
  rotate_left
  · (intro w hSw; refine Eq.trans (klg hSw 3 _ (by rfl) (by rfl) (by rfl)) ?_; with_reducible rfl)
  try simp only [Act.put, List.setIfInBounds_toArray, List.set_cons_zero, List.set_cons_succ]
  refine wpAnyH_ready (rs := [10]) (by kernel_rfl) (by simp) ?_
  refine AllReadyH.cons (o := ⟨some 97, _, _, _, _, _⟩) rfl (fun K hK => ?_) AllReadyH.nil
  go_simp
  go_at_call 15
  refine (HEc.out _ _ _).mono ?_; rintro en w5 ⟨rfl, b5⟩; have hs := Lib.hid (hHeld.out.call b5); clear b5
  refine hK.out _ _ hs (fun hHeld => ?_)
  clear hK K
  try simp only [ap1, ap2, ap3, ap4, ap5]
  refine wpAnyH_ready (rs := [12]) (by kernel_rfl) (by simp) ?_
  refine AllReadyH.cons (o := ⟨some 99, _, _, _, _, _⟩) rfl (fun K hK => ?_) AllReadyH.nil
  go_simp
  go_at_call 16
  refine (HEr.out _ _ _).mono ?_; rintro en w5 ⟨rfl, b5⟩; have hs := Lib.hid (hHeld.out.call b5); clear b5
  refine hK.out _ _ hs (fun hHeld => ?_)
  clear hK K
  try simp only [ap1, ap2, ap3, ap4, ap5]
  refine wpAnyH_take (i := 13) (oi := ⟨some 100, _, _, _, _, _⟩) (v := ?_) rfl (by kernel_rfl) (by kernel_rfl) (by kernel_rfl) (fun _ _ _ h => h) (Or.inl ⟨by rfl, ?_⟩) (by assumption) ?_
  rotate_left
  · (intro w hSw; refine Eq.trans (exec_inteq (x := en1) _ _ (by rfl) (by rfl) (by rfl)) ?_; with_reducible rfl)
  try simp only [Act.put, List.setIfInBounds_toArray, List.set_cons_zero, List.set_cons_succ]
  refine wpAnyH_take (i := 14) (oi := ⟨some 101, _, _, _, _, _⟩) (v := ?_) rfl (by kernel_rfl) (by kernel_rfl) (by kernel_rfl) (fun _ _ _ h => h) (Or.inl ⟨by rfl, ?_⟩) (by assumption) ?_
  rotate_left
  · (intro w hSw; (try dsimp only at hSw); go_simp; try with_reducible rfl)
  try simp only [Act.put, List.setIfInBounds_toArray, List.set_cons_zero, List.set_cons_succ]
  refine wpAnyH_take (i := 15) (oi := ⟨some 102, _, _, _, _, _⟩) (v := ?_) rfl (by kernel_rfl) (by kernel_rfl) (by kernel_rfl) (fun _ _ _ h => h) (Or.inl ⟨by rfl, ?_⟩) (by assumption) ?_
  rotate_left
  · (intro w hSw; (try dsimp only at hSw); go_simp; try with_reducible rfl)
  try simp only [Act.put, List.setIfInBounds_toArray, List.set_cons_zero, List.set_cons_succ]
  refine wpAnyH_take (i := 16) (oi := ⟨some 103, _, _, _, _, _⟩) (v := ?_) rfl (by kernel_rfl) (by kernel_rfl) (by kernel_rfl) (fun _ _ _ h => h) (Or.inl ⟨by rfl, ?_⟩) (by assumption) ?_
  rotate_left
  · (intro w hSw; refine Eq.trans (klg hSw 0 _ (by rfl) (by rfl) (by rfl)) ?_; with_reducible rfl)
  try simp only [Act.put, List.setIfInBounds_toArray, List.set_cons_zero, List.set_cons_succ]
  refine wpAnyH_take (i := 17) (oi := ⟨some 104, _, _, _, _, _⟩) (v := ?_) rfl (by kernel_rfl) (by kernel_rfl) (by kernel_rfl) (fun _ _ _ h => h) (Or.inl ⟨by rfl, ?_⟩) (by assumption) ?_
  rotate_left
  · (intro w hSw; refine Eq.trans (kevA hSw 2 _ (by rfl) (by rfl) (by rfl)) ?_; with_reducible rfl)
  try simp only [Act.put, List.setIfInBounds_toArray, List.set_cons_zero, List.set_cons_succ]
  refine wpAnyH_take (i := 19) (oi := ⟨some 106, _, _, _, _, _⟩) (v := ?_) rfl (by kernel_rfl) (by kernel_rfl) (by kernel_rfl) (fun _ _ _ h => h) (Or.inl ⟨by rfl, ?_⟩) (by assumption) ?_
  rotate_left
  · (intro w hSw; refine Eq.trans (klg hSw 3 _ (by rfl) (by rfl) (by rfl)) ?_; with_reducible rfl)
  try simp only [Act.put, List.setIfInBounds_toArray, List.set_cons_zero, List.set_cons_succ]
  refine wpAnyH_take (i := 20) (oi := ⟨some 107, _, _, _, _, _⟩) (v := ?_) rfl (by kernel_rfl) (by kernel_rfl) (by kernel_rfl) (fun _ _ _ h => h) (Or.inl ⟨by rfl, ?_⟩) (by assumption) ?_
  rotate_left
  · (intro w hSw; refine Eq.trans (kevA hSw 2 _ (by rfl) (by rfl) (by rfl)) ?_; with_reducible rfl)
  try simp only [Act.put, List.setIfInBounds_toArray, List.set_cons_zero, List.set_cons_succ]
  refine wpAnyH_ready (rs := [18]) (by kernel_rfl) (by simp) ?_
  refine AllReadyH.cons (o := ⟨some 105, _, _, _, _, _⟩) rfl (fun K hK => ?_) AllReadyH.nil
  go_simp
  go_at_call 17
  refine (HHc.out _ hHeld.out.b).mono ?_; rintro en w5 ⟨d1, rfl, hd1, b5⟩; have hs := Lib.hid (hHeld.out.call b5); have HD1 := Lib.hid hd1; clear b5 hd1
  refine hK.out _ _ hs (fun hHeld => ?_)
  clear hK K
  try simp only [ap1, ap2, ap3, ap4, ap5]
  refine wpAnyH_ready (rs := [21]) (by kernel_rfl) (by simp) ?_
  refine AllReadyH.cons (o := ⟨some 108, _, _, _, _, _⟩) rfl (fun K hK => ?_) AllReadyH.nil
  go_simp
  go_at_call 18
  refine (HHr.out A3 c3 _ (HT3.out _ _ _ _ _ hHeld.out (fun z hz => List.mem_append_left _ (List.mem_append_left _ hz)) trivial)).mono ?_; rintro en w5 ⟨d2, rfl, hd2, b5⟩; obtain rfl : d1 = d2 := (by rw [Bool.eq_iff_iff, HD1.out, hd2]); have hs := Lib.hid (hHeld.out.call b5); clear b5 hd2
  refine hK.out _ _ hs (fun hHeld => ?_)
  clear hK K
  try simp only [ap1, ap2, ap3, ap4, ap5]
  refine wpAnyH_take (i := 22) (oi := ⟨some 109, _, _, _, _, _⟩) (v := ?_) rfl (by kernel_rfl) (by kernel_rfl) (by kernel_rfl) (fun _ _ _ h => h) (Or.inl ⟨by rfl, ?_⟩) (by assumption) ?_
  rotate_left
  · (intro w hSw; refine Eq.trans (exec_booleq (x := d1) (y := d1) _ _ (by rfl) (by rfl) (by rfl) (beq_self_eq_true d1)) ?_; with_reducible rfl)
  try simp only [Act.put, List.setIfInBounds_toArray, List.set_cons_zero, List.set_cons_succ]
  refine wpAnyH_take (i := 23) (oi := ⟨some 110, _, _, _, _, _⟩) (v := ?_) rfl (by kernel_rfl) (by kernel_rfl) (by kernel_rfl) (fun _ _ _ h => h) (Or.inl ⟨by rfl, ?_⟩) (by assumption) ?_
  rotate_left
  · (intro w hSw; (try dsimp only at hSw); go_simp; try with_reducible rfl)
  try simp only [Act.put, List.setIfInBounds_toArray, List.set_cons_zero, List.set_cons_succ]
  refine wpAnyH_take (i := 24) (oi := ⟨some 6, _, _, _, _, _⟩) (v := ?_) rfl (by kernel_rfl) (by kernel_rfl) (by kernel_rfl) (fun _ _ _ h => h) (Or.inl ⟨by rfl, ?_⟩) (by assumption) ?_
  rotate_left
  · (intro w hSw; (try dsimp only at hSw); go_simp; try with_reducible rfl)
  try simp only [Act.put, List.setIfInBounds_toArray, List.set_cons_zero, List.set_cons_succ]
  refine wpAnyH_done (by kernel_rfl) ?_ _
  all_goals
    have HK := hHeld
    clear HK0 hHeld
    go_wp2_with fail
    go_ret
    exact ⟨rfl, HK.out.b⟩
end Go.Proofs.Ytakjggmiilkmdaa
