/-
  The law LogAgrees: it returns true, and leaves what came in as it was.
  No condition but what the slice reads as.
-/
import Derived.Test.YtakjggmiilkmdaaLogCode
import Derived.Test.YtakjggmiilkmdaaLogAg
import Derived.Deep.DeepCutAuto
set_option linter.unusedSimpArgs false
set_option linter.unusedVariables false
namespace Go.Proofs.Ytakjggmiilkmdaa
open Go.RowKit

namespace Lgm
def ab (l : List Int) (c : Int) : Nat := l.countP (fun x => decide (c < x))
theorem ab_take {l : List Int} {c x : Int} {k : Nat} (h : l[k]? = some x) : ab (l.take (k + 1)) c = ab (l.take k) c + (if c < x then 1 else 0) := by
  unfold ab
  rw [List.take_add_one, h, Option.toList_some, List.countP_append]
  by_cases hc : c < x <;> simp [hc]
end Lgm
section
variable {w : World} {o : Oper} {a : Act}
theorem exec_ixin {b off n c i : Nat} (x q : Operand) (ho : o.op = .indexAddr 46 x q) (hx : a.eval x = .slice (some ⟨b, off, none⟩) n c) (hq : a.eval q = .int .i64 (i : Int)) (h : i < n) :
    (execOp a.eval o).run Try.prog w = .ok (.value (.pointer (some ⟨b, off + i, none⟩))) w := by
  have h1 := exec_slx (w := w) inLay x q ho hx hq h
  have e : off + i * inLay.k = off + i := by show off + i * 1 = _; rw [Nat.mul_one]
  rw [e] at h1
  exact h1
theorem exec_max0 {x m : Int} (q : Tmp) (ho : o.op = .call { callee := .builtin .max, args := #[.const (.int .i64 0), .tmp q], argTypes := #[3, 3] }) (hty : o.type = 3) (hp : a.tmps[q]? = some (.int .i64 x)) (hm : (x ≤ 0 ∧ m = 0) ∨ (0 < x ∧ m = x)) :
    (execOp a.eval o).run Try.prog w = .ok (.value (.int .i64 m)) w := by
  rcases hm with ⟨h, rfl⟩ | ⟨h, rfl⟩
  · unfold execOp
    simp only [ho, hty]
    go_simp
    all_goals omega
  · unfold execOp
    simp only [ho, hty]
    go_simp
    all_goals omega
theorem exec_gtb {x y : Int} {d : Bool} (p q : Operand) (ho : o.op = .binOp .gtr 3 p q 3) (hx : a.eval p = .int .i64 x) (hy : a.eval q = .int .i64 y) (hb : decide (y < x) = d) :
    (execOp a.eval o).run Try.prog w = .ok (.value (.bool d)) w := by
  subst hb
  unfold execOp
  simp only [ho, hx, hy]
  go_simp
end
set_option maxRecDepth 100000 in
set_option maxHeartbeats 12800000 in
theorem lagrees_yes (A : Option Addr) (n c : Nat) (l : List Int) (w : World) (hs : Sls inLay inF w A n c l) : Calls Try.prog 5 #[.slice A n c] w (fun e w' => e = .returned (.bool true) ∧ Below w.heap.size w w') := by
  have HAw := Lib.hid (fun W => lawake_any W)
  have HK := Lib.hid (Kn.start w)
  unfold IsB at HAw
  by_cases h1 : 100 < n ∨ n = 0
  case pos =>
    have H1 := Lib.hid (fun W (hW : Below w.heap.size w W) => lcag_any A 0 c [] W (by have h := (hs.later hW).take (hi := 0) (Nat.zero_le _); rw [List.take_zero] at h; exact h))
    rw [show Lgm.ag [] = 0 from rfl] at H1
    unfold IsNm at H1
    clear hs
    have hc0 : 0 ≤ c := Nat.zero_le _
    by_cases h2 : 100 < n
    · have h1i : decide ((100 : Int) < (n : Int)) = true := decide_eq_true (by omega)
      clear h1 h2
      go_enter Try.func5, Try.ntmps5
      go_wp2_with fail
      refine (HAw.out _).mono ?_; rintro e w1 ⟨rfl, b1⟩
      replace HK := Lib.hid (HK.out.call b1); clear b1
      go_wp2_with (first | refine wpList_exe (exec_sls_h inLay (hi := 0) _ _ (by rfl) (by rfl) (by rfl) hc0) (by rfl) ?_)
      refine (H1.out _ HK.out.b).mono ?_; rintro e w1 ⟨rfl, b1⟩
      replace HK := Lib.hid (HK.out.call b1); clear b1
      go_wp2_with fail
      go_ret
      exact ⟨rfl, HK.out.b⟩
    · obtain rfl : n = 0 := h1.resolve_left h2
      clear h1 h2
      go_enter Try.func5, Try.ntmps5
      go_wp2_with fail
      refine (HAw.out _).mono ?_; rintro e w1 ⟨rfl, b1⟩
      replace HK := Lib.hid (HK.out.call b1); clear b1
      go_wp2_with (first | refine wpList_exe (exec_sls_h inLay (hi := 0) _ _ (by rfl) (by rfl) (by rfl) hc0) (by rfl) ?_)
      refine (H1.out _ HK.out.b).mono ?_; rintro e w1 ⟨rfl, b1⟩
      replace HK := Lib.hid (HK.out.call b1); clear b1
      go_wp2_with fail
      go_ret
      exact ⟨rfl, HK.out.b⟩
  case neg =>
  have hn1 : n ≤ 100 := by omega
  have hn0 : 0 < n := by omega
  have H1 := Lib.hid (fun W (hW : Below w.heap.size w W) => lcag_any A n c l W (hs.later hW))
  have H3 := Lib.hid (fun W (hW : Below w.heap.size w W) => lcal_any A n c l W (hs.later hW))
  have HS := Lib.hid hs
  have HL := Lib.hid hs.len
  have HT : Hid (l.take n = l) := Lib.hid (List.take_of_length_le (by rw [hs.len]; exact Nat.le_refl _))
  have HAg := Lib.hid (Lgm.ag_told l)
  have HAl := Lib.hid (Lgm.al_told l)
  have h1i : decide ((100 : Int) < (n : Int)) = false := decide_eq_false (by omega)
  have hz : ((n : Int) == 0) = false := by rw [beq_eq_false_iff_ne]; omega
  unfold IsNm at H1 H3
  clear hs h1
  generalize Lgm.ag l = g at *
  generalize Lgm.al l = al at *
  obtain ⟨b, o, rfl, hat⟩ := HS.out.iat hn0
  have HAt := Lib.hid hat
  clear hat
  go_enter Try.func5, Try.ntmps5
  go_wp2_with fail
  refine (H1.out _ HK.out.b).mono ?_; rintro e w1 ⟨rfl, b1⟩
  replace HK := Lib.hid (HK.out.call b1); clear b1
  clear H1 h1i hz
  go_wp2_with fail
  go_loopw [4, 5, 6] (fun v4 v5 v6 wr => ∃ k : Nat, k ≤ n ∧ v6 = .int .i64 k ∧ v4 = .int .i64 (Lgm.at_ (l.take k) g : Nat) ∧ v5 = .int .i64 (Lgm.ab (l.take k) g : Nat) ∧ Hid (Kn w.heap.size w wr [] [])) (fun _ _ v _ => n - (intOf v).toNat)
  case atStart => exact ⟨0, Nat.zero_le _, rfl, rfl, rfl, HK⟩
  case round =>
    clear HK
    obtain ⟨k, hk, rfl, rfl, rfl, HK⟩ := hrel
    have hk1 : (0 : Int) ≤ (k : Int) := by omega
    have hk3 : k < 9223372036854775807 := by omega
    by_cases hlt : k < n
    case neg =>
      obtain rfl : k = n := by omega
      rw [HT.out]
      have ht1 : Lgm.at_ l g ≤ k := by rw [← HL.out]; exact List.countP_le_length
      have ha1 : Lgm.ab l g ≤ k := by rw [← HL.out]; exact List.countP_le_length
      have hg0 : decide (0 ≤ g) = true := decide_eq_true HAg.out.lo
      have hab : decide ((2 : Int) * ((Lgm.ab l g : Nat) : Int) ≤ (k : Int)) = true := decide_eq_true (by have h := HAg.out.above; rw [HL.out] at h; show 2 * ((Lgm.ab l g : Nat) : Int) ≤ _; unfold Lgm.ab; omega)
      have hth := HAg.out.there
      rw [HL.out] at hth
      have hw1 : IntKind.i64.wrap ((2 : Int) * ((Lgm.at_ l g : Nat) : Int)) = (2 : Int) * ((Lgm.at_ l g : Nat) : Int) := by rw [IntKind.wrap_i64]; omega
      have hw2 : IntKind.i64.wrap ((2 : Int) * ((Lgm.ab l g : Nat) : Int)) = (2 : Int) * ((Lgm.ab l g : Nat) : Int) := by rw [IntKind.wrap_i64]; omega
      by_cases hgz : g = 0
      · subst hgz
        clear hth HAg HAl HS HAt H3
        generalize Lgm.at_ l 0 = t1 at *
        generalize Lgm.ab l 0 = t2 at *
        go_wp2_with fail
        refine (HAw.out _).mono ?_; rintro e w1 ⟨rfl, b1⟩
        replace HK := Lib.hid (HK.out.call b1); clear b1
        go_wp2_with fail
        go_ret
        exact ⟨rfl, HK.out.b⟩
      · have hzg : (g == 0) = false := by rw [beq_eq_false_iff_ne]; exact hgz
        have hmj : decide ((k : Int) < (2 : Int) * ((Lgm.at_ l g : Nat) : Int)) = true := decide_eq_true (by have := hth.resolve_left hgz; omega)
        clear hth HAg HAl HS HAt H3 hgz
        generalize Lgm.at_ l g = t1 at *
        generalize Lgm.ab l g = t2 at *
        go_wp2_with fail
        refine (HAw.out _).mono ?_; rintro e w1 ⟨rfl, b1⟩
        replace HK := Lib.hid (HK.out.call b1); clear b1
        go_wp2_with fail
        go_ret
        exact ⟨rfl, HK.out.b⟩
    case pos =>
    have hk2 : (k : Int) < (n : Int) := by omega
    obtain ⟨x, hx, _⟩ := HS.out.get hlt
    have HX : Hid (∀ W, Below w.heap.size w W → W.cell? ⟨b, o + k, none⟩ = some (.int .i64 x)) := Lib.hid (fun W hW => HAt.out W hW k x hx)
    have HC1 := Lib.hid (Lgm.at_take (c := g) hx)
    have HC2 := Lib.hid (Lgm.ab_take (c := g) hx)
    have hmx := HAl.out.le (List.mem_of_getElem? hx)
    have ht1 : Lgm.at_ (l.take k) g ≤ k := Nat.le_trans List.countP_le_length (by rw [List.length_take]; omega)
    have ha1 : Lgm.ab (l.take k) g ≤ k := Nat.le_trans List.countP_le_length (by rw [List.length_take]; omega)
    clear hx HS HAt HAg HAl HAw HT HL
    generalize Lgm.at_ (l.take k) g = t1 at *
    generalize Lgm.ab (l.take k) g = t2 at *
    have hw1 : IntKind.i64.wrap ((t1 : Int) + 1) = ((t1 + 1 : Nat) : Int) := by rw [IntKind.wrap_i64]; omega
    have hw2 : IntKind.i64.wrap ((t2 : Int) + 1) = ((t2 + 1 : Nat) : Int) := by rw [IntKind.wrap_i64]; omega
    have hc := HX.out _ HK.out.b
    have hway : ∃ d1 d2 : Bool, decide (g ≤ x) = d1 ∧ decide (g < x) = d2 ∧ Lgm.at_ (l.take (k + 1)) g = t1 + (if d1 then 1 else 0) ∧ Lgm.ab (l.take (k + 1)) g = t2 + (if d2 then 1 else 0) := ⟨_, _, rfl, rfl, by rw [HC1.out]; simp, by rw [HC2.out]; simp⟩
    obtain ⟨d1, d2, e1, e2, e3, e4⟩ := hway
    have E3 := Lib.hid e3
    have E4 := Lib.hid e4
    clear HC1 HC2 e3 e4
    have hxs : x ≤ 0 ∨ 0 < x := by omega
    cases d1 <;> cases d2 <;> rcases hxs with hx0 | hx0
    all_goals
      first
      | (exfalso; simp at e1 e2; omega)
      | skip
    all_goals
      as_aux_lemma =>
        obtain ⟨m, hm⟩ : ∃ m, (x ≤ 0 ∧ m = 0) ∨ (0 < x ∧ m = x) := ⟨max 0 x, by omega⟩
        have hlast : decide (m < al) = false := decide_eq_false (by omega)
        have HM := Lib.hid hm
        have HLast := Lib.hid hlast
        clear hm hlast hx0
        clear hmx
        go_upto_region 12 with fail
        clear hc e1 e2 hw1 hw2
        go_wp2_with fail
        have HK0 := Lib.hid HK.out.drew
        clear HK
        refine wp_region_held_drew (S := (fun W => Hid (Kn w.heap.size w W [] []))) (by kernel_rfl) ?_ (fun hHeld => ?_)
        · (try dsimp only); exact HK0
        refine wpAnyH_take (i := 0) (oi := ⟨some 46, _, _, _, _, _⟩) (v := ?_) rfl (by kernel_rfl) (by kernel_rfl) (by kernel_rfl) (fun _ _ _ h => h) (Or.inl ⟨by rfl, ?_⟩) (by assumption) ?_
        rotate_left
        · (intro w hSw; (try dsimp only at hSw); go_simp; try with_reducible rfl)
        try simp only [Act.put, List.setIfInBounds_toArray, List.set_cons_zero, List.set_cons_succ]
        refine wpAnyH_take (i := 2) (oi := ⟨some 48, _, _, _, _, _⟩) (v := ?_) rfl (by kernel_rfl) (by kernel_rfl) (by kernel_rfl) (fun _ _ _ h => h) (Or.inl ⟨by rfl, ?_⟩) (by assumption) ?_
        rotate_left
        · (intro w hSw; (try dsimp only at hSw); go_simp; try with_reducible rfl)
        try simp only [Act.put, List.setIfInBounds_toArray, List.set_cons_zero, List.set_cons_succ]
        refine wpAnyH_take (i := 3) (oi := ⟨some 49, _, _, _, _, _⟩) (v := ?_) rfl (by kernel_rfl) (by kernel_rfl) (by kernel_rfl) (fun _ _ _ h => h) (Or.inl ⟨by rfl, ?_⟩) (by assumption) ?_
        rotate_left
        · (intro w hSw; (try dsimp only at hSw); go_simp; try with_reducible rfl)
        try simp only [Act.put, List.setIfInBounds_toArray, List.set_cons_zero, List.set_cons_succ]
        refine wpAnyH_take (i := 4) (oi := ⟨some 50, _, _, _, _, _⟩) (v := ?_) rfl (by kernel_rfl) (by kernel_rfl) (by kernel_rfl) (fun _ _ _ h => h) (Or.inl ⟨by rfl, ?_⟩) (by assumption) ?_
        rotate_left
        · (intro w hSw; refine Eq.trans (exec_ixin (i := k) _ _ (by rfl) (by rfl) (by rfl) hlt) ?_; with_reducible rfl)
        try simp only [Act.put, List.setIfInBounds_toArray, List.set_cons_zero, List.set_cons_succ]
        refine wpAnyH_take (i := 5) (oi := ⟨some 51, _, _, _, _, _⟩) (v := ?_) rfl (by kernel_rfl) (by kernel_rfl) (by kernel_rfl) (fun _ _ _ h => h) (Or.inl ⟨by rfl, ?_⟩) (by assumption) ?_
        rotate_left
        · (intro w hSw; refine Eq.trans (exec_cell (ad := ⟨b, o + k, none⟩) _ (by rfl) (by rfl) (HX.out _ hSw.out.b) Try.underlying3 rfl) ?_; with_reducible rfl)
        try simp only [Act.put, List.setIfInBounds_toArray, List.set_cons_zero, List.set_cons_succ]
        refine wpAnyH_take (i := 6) (oi := ⟨some 52, _, _, _, _, _⟩) (v := ?_) rfl (by kernel_rfl) (by kernel_rfl) (by kernel_rfl) (fun _ _ _ h => h) (Or.inl ⟨by rfl, ?_⟩) (by assumption) ?_
        rotate_left
        · (intro w hSw; refine Eq.trans (exec_max0 (x := x) (m := m) 51 (by rfl) (by rfl) (by rfl) HM.out) ?_; with_reducible rfl)
        try simp only [Act.put, List.setIfInBounds_toArray, List.set_cons_zero, List.set_cons_succ]
        refine wpAnyH_ready (rs := [1]) (by kernel_rfl) (by simp) ?_
        refine AllReadyH.cons (o := ⟨some 47, _, _, _, _, _⟩) rfl (fun K hK => ?_) AllReadyH.nil
        go_simp
        go_at_call 21
        refine (H3.out _ hHeld.out.b).mono ?_; rintro e w5 ⟨rfl, b5⟩; have hs := Lib.hid (hHeld.out.call b5); clear b5
        refine hK.out _ _ hs (fun hHeld => ?_)
        clear hK K
        try simp only [ap1, ap2, ap3, ap4, ap5]
        refine wpAnyH_take (i := 7) (oi := ⟨some 53, _, _, _, _, _⟩) (v := ?_) rfl (by kernel_rfl) (by kernel_rfl) (by kernel_rfl) (fun _ _ _ h => h) (Or.inl ⟨by rfl, ?_⟩) (by assumption) ?_
        rotate_left
        · (intro w hSw; refine Eq.trans (exec_gtb (x := al) (y := m) _ _ (by rfl) (by rfl) (by rfl) HLast.out) ?_; with_reducible rfl)
        try simp only [Act.put, List.setIfInBounds_toArray, List.set_cons_zero, List.set_cons_succ]
        refine wpAnyH_done (by kernel_rfl) ?_ _
        all_goals
          have HK := hHeld
          clear HK0 hHeld
          go_wp2_with (first | refine wpList_exe (exec_add1 (j := k) _ (by rfl) (by rfl) hk3) (by rfl) ?_)
          exact ⟨⟨k + 1, hlt, rfl, (by rw [E3.out]; rfl), (by rw [E4.out]; rfl), HK⟩, by simp [intOf]; omega⟩
end Go.Proofs.Ytakjggmiilkmdaa
