/-
  Logs that are told: numbers, and events that lie in rows of the call's own or as the argument's did; ways out.
  No condition but those named.
  What the document's own End, Stay, Trim and Take return.
  No condition but what the slice reads as, and bounds.
-/
import Derived.Test.YtakjggmiilkmdaaEvAt
import Derived.Test.YtakjggmiilkmdaaLogLay
import Derived.Deep.DeepCutAuto
set_option linter.unusedSimpArgs false
set_option linter.unusedVariables false
namespace Go.Proofs.Ytakjggmiilkmdaa
open Go.ChangeShapes Go.WideShapes Go.Deep Go.RowKit

def lvF (e : Cmd.E) : Prop := e.cmd.val.f < 18446744073709551616 ∧ e.cmd.old.f < 18446744073709551616
/-- Events that read so wherever the rows are known, and where G holds. -/
def Tl (G : World → Prop) (A : Option Addr) (n c : Nat) (l : List Cmd.E) (Rn : List RowE) : Prop := ∀ (b : Nat) (W0 W : World) L R, Kn b W0 W L R → (∀ z ∈ Rn, z ∈ R) → G W → Sls evLay lvF W A n c l
theorem Tl.same {G : World → Prop} {A : Option Addr} {n c : Nat} {l : List Cmd.E} (hG : ∀ W, G W → Sls evLay lvF W A n c l) : Tl G A n c l [] := fun _ _ W _ _ _ _ h => hG W h
theorem Tl.own {G : World → Prop} {A : Option Addr} {n c : Nat} {l : List Cmd.E} {Rn : List RowE} (hm : row evLay (.slice A n c) l ∈ Rn) (hf : Fits evLay lvF l) : Tl G A n c l Rn := fun _ _ W _ _ K hR _ => Sls.own (K.mem (hR _ hm)) hf
/-- Told: a number; a log; a log, an event and whether; a number and events. -/
def IsNm (x : Int) (w : World) (e : Ending) (w' : World) : Prop := e = .returned (.int .i64 x) ∧ Below w.heap.size w w'
def IsLgT (G : World → Prop) (l : Lg) (w : World) (e : Ending) (w' : World) : Prop := ∃ (A : Option Addr) (n c : Nat) (Rn : List RowE), e = .returned (.agg #[.int .i64 l.b, .int .i64 l.c, .int .i64 l.d, .slice A n c]) ∧ Kn w.heap.size w w' [] Rn ∧ Hid (Tl G A n c l.ev Rn)
def IsTkT (G : World → Prop) (l : Lg) (x : Cmd.E) (d : Bool) (w : World) (e : Ending) (w' : World) : Prop := ∃ (A : Option Addr) (n c : Nat) (Rn : List RowE), e = .returned (.tuple #[.agg #[.int .i64 l.b, .int .i64 l.c, .int .i64 l.d, .slice A n c], .agg (evA x), .bool d]) ∧ Kn w.heap.size w w' [] Rn ∧ Hid (Tl G A n c l.ev Rn)
def IsPtT (G : World → Prop) (x : Int) (l : List Cmd.E) (w : World) (e : Ending) (w' : World) : Prop := ∃ (A : Option Addr) (n c : Nat) (Rn : List RowE), e = .returned (.tuple #[.int .i64 x, .slice A n c]) ∧ Kn w.heap.size w w' [] Rn ∧ Hid (Tl G A n c l Rn)
section
variable {fn : Func} {R : Ending → World → Prop} {a : Act} {w : World} {B B2 : Nat} {b c d : Int} {H u : Value} {x : Cmd.E} {q q2 q3 : Tmp}
theorem ret_lg (hf : fn.results = #[.cell q 24]) (h2 : a.tmps[q]? = some (.pointer (some ⟨B, 0, none⟩))) (hd : a.defers = []) (hb : Blk w B 24 (lgC b c d H))
    (hR : R (.returned (.agg #[.int .i64 b, .int .i64 c, .int .i64 d, H])) w) : bodyPost Try.prog fn R Exit.ret a w := by
  refine bodyPost_ret (v := .agg #[.int .i64 b, .int .i64 c, .int .i64 d, H]) ?_ hd hR
  have h : (loadVar 24 ⟨B, 0, none⟩).run Try.prog w = .ok (.agg (lgC b c d H)) w := run_loadVar_row (P := Try.prog) w B _ _ _ (0, 0) _ hb Try.underlying24 rfl info_lg
  unfold lgC at h
  simp [results, hf, asAddr, Sem.run_bind, h2, h]
theorem ret_lgev (hf : fn.results = #[.cell q 24, .cell q2 35, .tmp q3]) (h2 : a.tmps[q]? = some (.pointer (some ⟨B, 0, none⟩))) (h3 : a.tmps[q2]? = some (.pointer (some ⟨B2, 0, none⟩))) (h4 : a.tmps[q3]? = some u) (hd : a.defers = []) (hb : Blk w B 24 (lgC b c d H)) (hb2 : Blk w B2 35 (evA x))
    (hR : R (.returned (.tuple #[.agg #[.int .i64 b, .int .i64 c, .int .i64 d, H], .agg (evA x), u])) w) : bodyPost Try.prog fn R Exit.ret a w := by
  refine bodyPost_ret (v := .tuple #[.agg #[.int .i64 b, .int .i64 c, .int .i64 d, H], .agg (evA x), u]) ?_ hd hR
  have h : (loadVar 24 ⟨B, 0, none⟩).run Try.prog w = .ok (.agg (lgC b c d H)) w := run_loadVar_row (P := Try.prog) w B _ _ _ (0, 0) _ hb Try.underlying24 rfl info_lg
  have h' : (loadVar 35 ⟨B2, 0, none⟩).run Try.prog w = .ok (.agg (evA x)) w := run_loadVar_row (P := Try.prog) w B2 _ _ _ (0, 0) _ hb2 Try.underlying35 rfl (by
    have h : (Try.prog.info? 35).map (·.size) = some (evA x).size := info_ev
    exact h)
  unfold lgC at h
  simp [results, hf, asAddr, Sem.run_bind, h2, h3, h4, h, h']
end
end Go.Proofs.Ytakjggmiilkmdaa
set_option linter.unusedSimpArgs false
set_option linter.unusedVariables false
namespace Go.Proofs.Ytakjggmiilkmdaa
open Go.RowKit

set_option maxRecDepth 100000 in
theorem lrend_any (l : Lg) (A : Option Addr) (n c : Nat) (w : World) (hn : l.ev.length = n) (hb : 0 ≤ l.b) (hb2 : l.b ≤ 4611686018427387904) (hn2 : n ≤ 140737488355328) :
    Calls Try.prog 16 #[.agg #[.int .i64 l.b, .int .i64 l.c, .int .i64 l.d, .slice A n c]] w (IsNm (Lgm.en l) w) := by
  have HK := kn1 w 24 (lgC l.b l.c l.d (.slice A n c))
  have hw : IntKind.i64.wrap (l.b + (n : Int)) = l.b + (n : Int) := by rw [IntKind.wrap_i64]; omega
  unfold IsNm Lgm.en
  rw [hn]
  go_enter Try.func16, Try.ntmps16
  go_wp2_with (first | refine wpList_exe (klg_b HK 0 _ (by rfl) (by rfl) (by rfl)) (by rfl) ?_ | refine wpList_exe (klg_e HK 0 _ (by rfl) (by rfl) (by rfl)) (by rfl) ?_)
  go_ret
  exact ⟨rfl, HK.out.b⟩
set_option maxRecDepth 100000 in
set_option maxHeartbeats 3200000 in
theorem lrstay_any (G : World → Prop) (l : Lg) (A : Option Addr) (n c : Nat) (k : Int) (w : World) (hG : ∀ W, G W → Sls evLay lvF W A n c l.ev) (hn : l.ev.length = n) (hb : 0 ≤ l.b) (hb2 : l.b ≤ 4611686018427387904) (hn2 : n ≤ 140737488355328) :
    Calls Try.prog 34 #[.agg #[.int .i64 l.b, .int .i64 l.c, .int .i64 l.d, .slice A n c], .int .i64 k] w (IsLgT G (Lgm.stay l k) w) := by
  have HE := Lib.hid (fun W => lrend_any l A n c W hn hb hb2 hn2)
  have HT := Lib.hid (Tl.same hG)
  have HK := kn2 w 24 (lgC l.b l.c l.d (.slice A n c)) 24 (lgC 0 0 0 (.slice none 0 0))
  have hst : (Lgm.en l < k ∧ Lgm.sm l k = Lgm.en l) ∨ (¬ Lgm.en l < k ∧ Lgm.sm l k = k) := by
    by_cases h : Lgm.en l < k
    · exact .inl ⟨h, if_pos h⟩
    · exact .inr ⟨h, if_neg h⟩
  unfold IsNm at HE
  unfold IsLgT
  clear hG hn hb hb2
  by_cases hc : l.c < Lgm.sm l k
  · have e : Lgm.stay l k = ⟨l.b, Lgm.sm l k, l.d, l.ev⟩ := if_pos hc
    rw [e]
    have hcd : decide (l.c < Lgm.sm l k) = true := decide_eq_true hc
    clear e hc
    obtain ⟨b, cc, d, ev⟩ := l
    simp only at *
    rcases hst with ⟨h1, h2⟩ | ⟨h1, h2⟩
    · rw [h2] at hcd ⊢
      have hd := decide_eq_true h1
      clear h1 h2
      generalize Lgm.en ⟨b, cc, d, ev⟩ = m at *
      go_enter Try.func34, Try.ntmps34
      go_wp2_with (first | refine wpList_exe (klg HK 0 _ (by rfl) (by rfl) (by rfl)) (by rfl) ?_)
      refine (HE.out _).mono ?_; rintro e w1 ⟨rfl, b1⟩
      replace HK := Lib.hid (HK.out.call b1); clear b1
      go_wp2_with (first | refine wpList_exe (klg HK 0 _ (by rfl) (by rfl) (by rfl)) (by rfl) ?_)
      refine (HE.out _).mono ?_; rintro e w1 ⟨rfl, b1⟩
      replace HK := Lib.hid (HK.out.call b1); clear b1
      go_wp2_with (first | refine wpList_exe (klg_c HK 0 _ (by rfl) (by rfl) (by rfl)) (by rfl) ?_ | (refine wpList_slg_c HK 0 rfl _ _ rfl rfl rfl rfl ?_; intro _ HK'; simp only [List.set] at HK'; replace HK := HK'; clear HK') | refine wpList_exe (klg HK 0 _ (by rfl) (by rfl) (by rfl)) (by rfl) ?_ | (refine wpList_slg HK 1 rfl _ _ rfl rfl rfl rfl rfl ?_; intro _ HK'; simp only [List.set] at HK'; replace HK := HK'; clear HK'))
      exact ret_lg Try.results34 rfl rfl (HK.out.blk 1 rfl) ⟨A, n, c, [], rfl, HK.out.takeL 0, HT⟩
    · rw [h2] at hcd ⊢
      have hd := decide_eq_false h1
      clear h1 h2
      generalize Lgm.en ⟨b, cc, d, ev⟩ = m at *
      go_enter Try.func34, Try.ntmps34
      go_wp2_with (first | refine wpList_exe (klg HK 0 _ (by rfl) (by rfl) (by rfl)) (by rfl) ?_)
      refine (HE.out _).mono ?_; rintro e w1 ⟨rfl, b1⟩
      replace HK := Lib.hid (HK.out.call b1); clear b1
      go_wp2_with (first | refine wpList_exe (klg_c HK 0 _ (by rfl) (by rfl) (by rfl)) (by rfl) ?_ | (refine wpList_slg_c HK 0 rfl _ _ rfl rfl rfl rfl ?_; intro _ HK'; simp only [List.set] at HK'; replace HK := HK'; clear HK') | refine wpList_exe (klg HK 0 _ (by rfl) (by rfl) (by rfl)) (by rfl) ?_ | (refine wpList_slg HK 1 rfl _ _ rfl rfl rfl rfl rfl ?_; intro _ HK'; simp only [List.set] at HK'; replace HK := HK'; clear HK'))
      exact ret_lg Try.results34 rfl rfl (HK.out.blk 1 rfl) ⟨A, n, c, [], rfl, HK.out.takeL 0, HT⟩
  · have e : Lgm.stay l k = l := if_neg hc
    rw [e]
    have hcd : decide (l.c < Lgm.sm l k) = false := decide_eq_false hc
    clear e hc
    obtain ⟨b, cc, d, ev⟩ := l
    simp only at *
    rcases hst with ⟨h1, h2⟩ | ⟨h1, h2⟩
    · rw [h2] at hcd
      have hd := decide_eq_true h1
      clear h1 h2
      generalize Lgm.en ⟨b, cc, d, ev⟩ = m at *
      go_enter Try.func34, Try.ntmps34
      go_wp2_with (first | refine wpList_exe (klg HK 0 _ (by rfl) (by rfl) (by rfl)) (by rfl) ?_)
      refine (HE.out _).mono ?_; rintro e w1 ⟨rfl, b1⟩
      replace HK := Lib.hid (HK.out.call b1); clear b1
      go_wp2_with (first | refine wpList_exe (klg HK 0 _ (by rfl) (by rfl) (by rfl)) (by rfl) ?_)
      refine (HE.out _).mono ?_; rintro e w1 ⟨rfl, b1⟩
      replace HK := Lib.hid (HK.out.call b1); clear b1
      go_wp2_with (first | refine wpList_exe (klg_c HK 0 _ (by rfl) (by rfl) (by rfl)) (by rfl) ?_ | refine wpList_exe (klg HK 0 _ (by rfl) (by rfl) (by rfl)) (by rfl) ?_ | (refine wpList_slg HK 1 rfl _ _ rfl rfl rfl rfl rfl ?_; intro _ HK'; simp only [List.set] at HK'; replace HK := HK'; clear HK'))
      exact ret_lg Try.results34 rfl rfl (HK.out.blk 1 rfl) ⟨A, n, c, [], rfl, HK.out.takeL 0, HT⟩
    · rw [h2] at hcd
      have hd := decide_eq_false h1
      clear h1 h2
      generalize Lgm.en ⟨b, cc, d, ev⟩ = m at *
      go_enter Try.func34, Try.ntmps34
      go_wp2_with (first | refine wpList_exe (klg HK 0 _ (by rfl) (by rfl) (by rfl)) (by rfl) ?_)
      refine (HE.out _).mono ?_; rintro e w1 ⟨rfl, b1⟩
      replace HK := Lib.hid (HK.out.call b1); clear b1
      go_wp2_with (first | refine wpList_exe (klg_c HK 0 _ (by rfl) (by rfl) (by rfl)) (by rfl) ?_ | refine wpList_exe (klg HK 0 _ (by rfl) (by rfl) (by rfl)) (by rfl) ?_ | (refine wpList_slg HK 1 rfl _ _ rfl rfl rfl rfl rfl ?_; intro _ HK'; simp only [List.set] at HK'; replace HK := HK'; clear HK'))
      exact ret_lg Try.results34 rfl rfl (HK.out.blk 1 rfl) ⟨A, n, c, [], rfl, HK.out.takeL 0, HT⟩
set_option maxRecDepth 100000 in
set_option maxHeartbeats 6400000 in
theorem lrtrim_any (G : World → Prop) (l : Lg) (A : Option Addr) (n c : Nat) (k : Int) (w : World) (hG : ∀ W, G W → Sls evLay lvF W A n c l.ev) (hs : Sls evLay lvF w A n c l.ev) (hr : Lgm.Right l) :
    Calls Try.prog 36 #[.agg #[.int .i64 l.b, .int .i64 l.c, .int .i64 l.d, .slice A n c], .int .i64 k] w (IsLgT G (Lgm.trim l k) w) := by
  have hn := hs.len
  obtain ⟨r1, r2, r3, r4, r5, r6, r7⟩ := hr
  have hn16 : n ≤ 16 := by omega
  have HE := Lib.hid (fun W => lrend_any l A n c W hn r1 r3 (by omega))
  have HT := Lib.hid (Tl.same hG)
  have HK := kn2 w 24 (lgC l.b l.c l.d (.slice A n c)) 24 (lgC 0 0 0 (.slice none 0 0))
  have htm : (l.d < k ∧ Lgm.tm l k = l.d) ∨ (¬ l.d < k ∧ Lgm.tm l k = k) := by
    by_cases h : l.d < k
    · exact .inl ⟨h, if_pos h⟩
    · exact .inr ⟨h, if_neg h⟩
  have hte : ¬ Lgm.en l < Lgm.tm l k := by rcases htm with ⟨_, h⟩ | ⟨_, h⟩ <;> omega
  have htd : Lgm.tm l k ≤ l.d := by rcases htm with ⟨_, h⟩ | ⟨_, h⟩ <;> omega
  have hen : Lgm.en l = l.b + (n : Int) := by unfold Lgm.en; rw [hn]
  unfold IsNm at HE
  unfold IsLgT
  have hed : decide (Lgm.en l < Lgm.tm l k) = false := decide_eq_false hte
  by_cases hc : Lgm.tm l k ≤ l.b
  · have e : Lgm.trim l k = l := if_pos hc
    rw [e]
    have hcd : decide (Lgm.tm l k ≤ l.b) = true := decide_eq_true hc
    clear e hc hG hs hn r1 r2 r3 r4 r5 r6 r7 hte htd hen
    obtain ⟨b, cc, d, ev⟩ := l
    simp only at *
    generalize Lgm.en ⟨b, cc, d, ev⟩ = m at *
    rcases htm with ⟨h1, h2⟩ | ⟨h1, h2⟩
    · rw [h2] at hcd hed
      have hd := decide_eq_true h1
      clear h1 h2
      go_enter Try.func36, Try.ntmps36
      go_wp2_with (first | refine wpList_exe (klg_d HK 0 _ (by rfl) (by rfl) (by rfl)) (by rfl) ?_ | refine wpList_exe (klg HK 0 _ (by rfl) (by rfl) (by rfl)) (by rfl) ?_)
      refine (HE.out _).mono ?_; rintro e w1 ⟨rfl, b1⟩
      replace HK := Lib.hid (HK.out.call b1); clear b1
      go_wp2_with (first | refine wpList_exe (klg_b HK 0 _ (by rfl) (by rfl) (by rfl)) (by rfl) ?_ | refine wpList_exe (klg HK 0 _ (by rfl) (by rfl) (by rfl)) (by rfl) ?_ | (refine wpList_slg HK 1 rfl _ _ rfl rfl rfl rfl rfl ?_; intro _ HK'; simp only [List.set] at HK'; replace HK := HK'; clear HK'))
      exact ret_lg Try.results36 rfl rfl (HK.out.blk 1 rfl) ⟨A, n, c, [], rfl, HK.out.takeL 0, HT⟩
    · rw [h2] at hcd hed
      have hd := decide_eq_false h1
      clear h1 h2
      go_enter Try.func36, Try.ntmps36
      go_wp2_with (first | refine wpList_exe (klg_d HK 0 _ (by rfl) (by rfl) (by rfl)) (by rfl) ?_ | refine wpList_exe (klg HK 0 _ (by rfl) (by rfl) (by rfl)) (by rfl) ?_)
      refine (HE.out _).mono ?_; rintro e w1 ⟨rfl, b1⟩
      replace HK := Lib.hid (HK.out.call b1); clear b1
      go_wp2_with (first | refine wpList_exe (klg_b HK 0 _ (by rfl) (by rfl) (by rfl)) (by rfl) ?_ | refine wpList_exe (klg HK 0 _ (by rfl) (by rfl) (by rfl)) (by rfl) ?_ | (refine wpList_slg HK 1 rfl _ _ rfl rfl rfl rfl rfl ?_; intro _ HK'; simp only [List.set] at HK'; replace HK := HK'; clear HK'))
      exact ret_lg Try.results36 rfl rfl (HK.out.blk 1 rfl) ⟨A, n, c, [], rfl, HK.out.takeL 0, HT⟩
  · obtain ⟨lo, hlo⟩ : ∃ lo : Nat, (Lgm.tm l k - l.b).toNat = lo := ⟨_, rfl⟩
    have e : Lgm.trim l k = ⟨Lgm.tm l k, l.c, l.d, l.ev.drop lo⟩ := (if_neg hc).trans (by rw [hlo])
    rw [e]
    have hcd : decide (Lgm.tm l k ≤ l.b) = false := decide_eq_false hc
    have hlon : lo ≤ n := by omega
    have hsub : IntKind.i64.wrap (Lgm.tm l k - l.b) = (lo : Int) := by rw [IntKind.wrap_i64]; omega
    have H2 := Lib.hid (hs.drop (lo := lo) hlon)
    have HT2 : Hid (n - lo = (l.ev.drop lo).length) := Lib.hid H2.out.len.symm
    have HN2 : Hid ((([] : List Cmd.E) ++ l.ev.drop lo).length = n - lo) := Lib.hid HT2.out.symm
    have HL2 := grow_ok (La := evLay) HN2 (by show (n - lo) * 160 ≤ _; omega) (by omega)
    have HF : Hid (Fits evLay lvF (l.ev.drop lo)) := Lib.hid H2.out.fit
    clear e hc hG hs hn r1 r2 r3 r4 r5 r6 r7 hte htd hen HT hlo
    obtain ⟨b, cc, d, ev⟩ := l
    simp only at *
    generalize Lgm.en ⟨b, cc, d, ev⟩ = m at *
    generalize ev.drop lo = D at *
    rcases htm with ⟨h1, h2⟩ | ⟨h1, h2⟩
    · rw [h2] at hcd hed hsub ⊢
      have hd := decide_eq_true h1
      clear h1 h2
      go_enter Try.func36, Try.ntmps36
      go_wp2_with (first | refine wpList_exe (klg_d HK 0 _ (by rfl) (by rfl) (by rfl)) (by rfl) ?_ | refine wpList_exe (klg HK 0 _ (by rfl) (by rfl) (by rfl)) (by rfl) ?_)
      refine (HE.out _).mono ?_; rintro e w1 ⟨rfl, b1⟩
      replace HK := Lib.hid (HK.out.call b1); clear b1
      go_wp2_with (first | refine wpList_exe (klg_b HK 0 _ (by rfl) (by rfl) (by rfl)) (by rfl) ?_ | (refine wpList_mk0 evLay HK rfl rfl ?_; intro _ g2 HK'; simp only [List.nil_append] at HK'; replace HK := HK'; clear HK') | refine wpList_exe (klg_e HK 0 _ (by rfl) (by rfl) (by rfl)) (by rfl) ?_ | refine wpList_exe (exec_sls_l evLay (lo := lo) _ _ (by rfl) (by rfl) (by rfl) hlon) (by rfl) ?_ | (at_builtin; refine wpList_kmore HK evLay 0 rfl _ _ rfl rfl rfl D rfl HT2.out (Lib.hid (let h := H2.out.later HK.out.b; ⟨h.rd, h.nl⟩)) HL2 HN2 ?_; intro A5 c5 _ HK'; simp only [List.set, List.nil_append] at HK'; replace HK := HK'; clear HK') | (refine wpList_slg_e HK 0 rfl _ _ rfl rfl rfl rfl ?_; intro _ HK'; simp only [List.set] at HK'; replace HK := HK'; clear HK') | (refine wpList_slg_b HK 0 rfl _ _ rfl rfl rfl rfl ?_; intro _ HK'; simp only [List.set] at HK'; replace HK := HK'; clear HK') | refine wpList_exe (klg HK 0 _ (by rfl) (by rfl) (by rfl)) (by rfl) ?_ | (refine wpList_slg HK 1 rfl _ _ rfl rfl rfl rfl rfl ?_; intro _ HK'; simp only [List.set] at HK'; replace HK := HK'; clear HK'))
      exact ret_lg Try.results36 rfl rfl (HK.out.blk 1 rfl) ⟨A5, n - lo, c5, [row evLay (.slice A5 (n - lo) c5) D], rfl, HK.out.takeL 0, Lib.hid (Tl.own (List.mem_singleton.2 rfl) HF.out)⟩
    · rw [h2] at hcd hed hsub ⊢
      have hd := decide_eq_false h1
      clear h1 h2
      go_enter Try.func36, Try.ntmps36
      go_wp2_with (first | refine wpList_exe (klg_d HK 0 _ (by rfl) (by rfl) (by rfl)) (by rfl) ?_ | refine wpList_exe (klg HK 0 _ (by rfl) (by rfl) (by rfl)) (by rfl) ?_)
      refine (HE.out _).mono ?_; rintro e w1 ⟨rfl, b1⟩
      replace HK := Lib.hid (HK.out.call b1); clear b1
      go_wp2_with (first | refine wpList_exe (klg_b HK 0 _ (by rfl) (by rfl) (by rfl)) (by rfl) ?_ | (refine wpList_mk0 evLay HK rfl rfl ?_; intro _ g2 HK'; simp only [List.nil_append] at HK'; replace HK := HK'; clear HK') | refine wpList_exe (klg_e HK 0 _ (by rfl) (by rfl) (by rfl)) (by rfl) ?_ | refine wpList_exe (exec_sls_l evLay (lo := lo) _ _ (by rfl) (by rfl) (by rfl) hlon) (by rfl) ?_ | (at_builtin; refine wpList_kmore HK evLay 0 rfl _ _ rfl rfl rfl D rfl HT2.out (Lib.hid (let h := H2.out.later HK.out.b; ⟨h.rd, h.nl⟩)) HL2 HN2 ?_; intro A5 c5 _ HK'; simp only [List.set, List.nil_append] at HK'; replace HK := HK'; clear HK') | (refine wpList_slg_e HK 0 rfl _ _ rfl rfl rfl rfl ?_; intro _ HK'; simp only [List.set] at HK'; replace HK := HK'; clear HK') | (refine wpList_slg_b HK 0 rfl _ _ rfl rfl rfl rfl ?_; intro _ HK'; simp only [List.set] at HK'; replace HK := HK'; clear HK') | refine wpList_exe (klg HK 0 _ (by rfl) (by rfl) (by rfl)) (by rfl) ?_ | (refine wpList_slg HK 1 rfl _ _ rfl rfl rfl rfl rfl ?_; intro _ HK'; simp only [List.set] at HK'; replace HK := HK'; clear HK'))
      exact ret_lg Try.results36 rfl rfl (HK.out.blk 1 rfl) ⟨A5, n - lo, c5, [row evLay (.slice A5 (n - lo) c5) D], rfl, HK.out.takeL 0, Lib.hid (Tl.own (List.mem_singleton.2 rfl) HF.out)⟩
end Go.Proofs.Ytakjggmiilkmdaa
