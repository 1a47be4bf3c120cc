/-
  What within, sized, checkNumbers, checkVal, checkLengths, named return.
  No condition.
  Nothing, part by part.
  No condition but those named.
-/
import Derived.Test.YtakjggmiilkmdaaJCmd
import Derived.Test.YtakjggmiilkmdaaJMath
set_option linter.unusedSimpArgs false
set_option linter.unusedVariables false
namespace Go.Proofs.Ytakjggmiilkmdaa
open Go.RowKit

namespace Cmd
def sized (n m : Int) : Prop := if n = 2 then 1 ≤ m ∧ m ≤ 8 else if n = 4 then 1 ≤ m ∧ m ≤ 5 else 1 ≤ n ∧ n ≤ 5 ∧ m = 0
instance (n m : Int) : Decidable (sized n m) := by unfold sized; infer_instance
def cN (c : C) : Int := if c.k < 1 ∨ 18 < c.k ∨ ¬ others c ∨ (f0 c.k = true ∧ c.name.size = 0) then 1 else 0
def cL (c : C) : Int := if 16 < c.name.size ∨ 64 < c.key.size then 2 else 0
def cV (c : C) : Int := if (c.k = 7 ∨ c.k = 10) ∧ c.val.k = 0 then 1 else if c.k = 15 ∧ c.val.k ≠ 2 then 7 else 0
def cM (c : C) : Int := if ¬ nums c then 1 else 0
/-- The first that is not nought. -/
def nz : List Int → Int
  | [] => 0
  | x :: r => if x ≠ 0 then x else nz r
theorem chk_nz (c : C) : nz [cN c, cL c, Val.chk c.old, Val.chk c.val, cV c, cM c] = chk c := by
  unfold chk cN cL cV cM
  simp only [nz]
  split <;> rename_i h1
  · rw [if_pos (by decide)]
  · rw [if_neg (by decide)]
    split <;> rename_i h2
    · rw [if_pos (by decide)]
    · rw [if_neg (by decide)]
      split <;> rename_i h3
      · rfl
      · split <;> rename_i h4
        · rfl
        · split <;> rename_i h5
          · rw [if_pos (by decide)]
          · split <;> rename_i h6
            · rw [if_pos (by decide)]
            · rw [if_neg (by decide)]
              split <;> rename_i h7
              · rw [if_pos (by decide)]
              · rw [if_neg (by decide)]
end Cmd
set_option maxHeartbeats 1600000 in
theorem within_any (a b c : Int) (w : World) : Calls Try.prog 88 #[.int .i64 a, .int .i64 b, .int .i64 c] w fun e w' => e = .returned (.bool (decide (b ≤ a ∧ a ≤ c))) ∧ w' = w := by
  have HE : Hid (∀ q : Bool, (q = true ↔ (b ≤ a ∧ a ≤ c)) → q = decide (b ≤ a ∧ a ≤ c)) := Lib.hid fun q hq => by
    rw [Bool.eq_iff_iff, hq, decide_eq_true_eq]
  generalize decide (b ≤ a ∧ a ≤ c) = r at *
  go_enter Try.func88, Try.ntmps88
  go_wp2_with fail
  all_goals
    go_ret
    refine ⟨congrArg (fun b => Ending.returned (.bool b)) (HE.out _ ?_), rfl⟩
    clear HE
    simp_all <;> omega
set_option maxHeartbeats 3200000 in
theorem sized_any (n m : Int) (w : World) : Calls Try.prog 87 #[.int .i64 n, .int .i64 m] w fun e w' => e = .returned (.bool (decide (Cmd.sized n m))) ∧ w' = w := by
  have HE : Hid (∀ q : Bool, (q = true ↔ Cmd.sized n m) → q = decide (Cmd.sized n m)) := Lib.hid fun q hq => by
    rw [Bool.eq_iff_iff, hq, decide_eq_true_eq]
  have HW := Lib.hid within_any
  generalize decide (Cmd.sized n m) = r at *
  by_cases h2 : n = 2
  · subst h2
    go_enter Try.func87, Try.ntmps87
    go_wp2_with fail
    refine (HW.out _ _ _ _).mono ?_; rintro e w1 ⟨rfl, rfl⟩
    go_wp2_with fail
    go_ret
    refine ⟨congrArg (fun b => Ending.returned (.bool b)) (HE.out _ ?_), rfl⟩
    unfold Cmd.sized; simp
  by_cases h4 : n = 4
  · subst h4
    go_enter Try.func87, Try.ntmps87
    go_wp2_with fail
    refine (HW.out _ _ _ _).mono ?_; rintro e w1 ⟨rfl, rfl⟩
    go_wp2_with fail
    go_ret
    refine ⟨congrArg (fun b => Ending.returned (.bool b)) (HE.out _ ?_), rfl⟩
    unfold Cmd.sized; simp
  · go_enter Try.func87, Try.ntmps87
    go_wp2_with fail
    all_goals
      go_ret
      refine ⟨congrArg (fun b => Ending.returned (.bool b)) (HE.out _ ?_), rfl⟩
      clear HE HW
      unfold Cmd.sized
      simp_all <;> omega
set_option maxHeartbeats 6400000 in
theorem cnums_any (c : Cmd.C) (w : World) : Calls Try.prog 76 #[.agg (cmA c)] w fun en w' => en = .returned (.int .i64 (Cmd.cM c)) ∧ Below w.heap.size w w' := by
  have HS := Lib.hid (fun W => sized_any c.n c.m W)
  have HW := Lib.hid (fun W => within_any c.n 0 3 W)
  have HE : Hid (∀ x : Int, Cmd.cM c = x → ∀ (en : Ending) (w' : World), (en = .returned (.int .i64 x) ∧ Below w.heap.size w w') → (en = .returned (.int .i64 (Cmd.cM c)) ∧ Below w.heap.size w w')) := Lib.hid fun x hx en w' h => by rw [hx]; exact h
  have hm : Cmd.cM c = if c.k = 16 then (if 0 ≤ c.n ∧ c.n ≤ 3 then 0 else 1) else if c.k ≠ 4 then 0 else if Cmd.sized c.n c.m then 0 else 1 := by
    unfold Cmd.cM Cmd.nums Cmd.sized
    repeat' split
    all_goals simp_all
  generalize Cmd.cM c = z at *
  obtain ⟨k, name, key, val, old, n, m⟩ := c
  unfold cmA
  simp only at HE HS HW hm ⊢
  have HK := kn1 w 33 (cmC k name key val.k val.n val.f val.s old.k old.n old.f old.s n m)
  have p0 : (cmC k name key val.k val.n val.f val.s old.k old.n old.f old.s n m)[0]? = some (.int .i64 k) := rfl
  have p11 : (cmC k name key val.k val.n val.f val.s old.k old.n old.f old.s n m)[11]? = some (.int .i64 n) := rfl
  have p12 : (cmC k name key val.k val.n val.f val.s old.k old.n old.f old.s n m)[12]? = some (.int .i64 m) := rfl
  by_cases h16 : k = 16
  · subst h16
    rw [if_pos rfl] at hm
    generalize hd : decide ((0 : Int) ≤ n ∧ n ≤ 3) = d at *
    have HD := Lib.hid hd
    have HM := Lib.hid hm
    clear hd hm
    generalize cmC 16 name key val.k val.n val.f val.s old.k old.n old.f old.s n m = pa at *
    cases d
    all_goals
      go_enter Try.func76, Try.ntmps76
      go_wp2_with fail
      refine (HW.out _).mono ?_; rintro e w1 ⟨rfl, rfl⟩
      go_wp2_with fail
      go_ret
      refine HE.out _ ?_ _ _ ⟨rfl, HK.out.b⟩
      have hd := HD.out
      rw [HM.out]
      simp at hd
      first | rw [if_pos (by omega)] | rw [if_neg (by omega)]
  · rw [if_neg h16] at hm
    by_cases h4 : k = 4
    · subst h4
      rw [if_neg (by decide)] at hm
      generalize hd : decide (Cmd.sized n m) = d at *
      have HD := Lib.hid hd
      have HM := Lib.hid hm
      clear hd hm
      generalize cmC 4 name key val.k val.n val.f val.s old.k old.n old.f old.s n m = pa at *
      cases d
      all_goals
        go_enter Try.func76, Try.ntmps76
        go_wp2_with fail
        refine (HS.out _).mono ?_; rintro e w1 ⟨rfl, rfl⟩
        go_wp2_with fail
        go_ret
        refine HE.out _ ?_ _ _ ⟨rfl, HK.out.b⟩
        have hd := HD.out
        rw [HM.out]
        simp at hd
        first | rw [if_pos hd] | rw [if_neg hd]
    · rw [if_pos h4] at hm
      subst hm
      generalize cmC k name key val.k val.n val.f val.s old.k old.n old.f old.s n m = pa at *
      go_enter Try.func76, Try.ntmps76
      go_wp2_with fail
      go_ret
      exact HE.out _ rfl _ _ ⟨rfl, HK.out.b⟩
set_option maxHeartbeats 6400000 in
theorem cval_any (c : Cmd.C) (w : World) : Calls Try.prog 75 #[.agg (cmA c)] w fun en w' => en = .returned (.int .i64 (Cmd.cV c)) ∧ Below w.heap.size w w' := by
  have HE : Hid (∀ x : Int, x = Cmd.cV c → ∀ (en : Ending) (w' : World), (en = .returned (.int .i64 x) ∧ Below w.heap.size w w') → (en = .returned (.int .i64 (Cmd.cV c)) ∧ Below w.heap.size w w')) := Lib.hid fun x hx en w' h => by rw [← hx]; exact h
  have hm : Cmd.cV c = if (c.k = 7 ∨ c.k = 10) ∧ c.val.k = 0 then 1 else if c.k = 15 ∧ c.val.k ≠ 2 then 7 else 0 := rfl
  generalize Cmd.cV c = z at *
  obtain ⟨k, name, key, ⟨vk, vn, vf, vs⟩, old, n, m⟩ := c
  unfold cmA
  simp only at HE hm ⊢
  have HK := kn1 w 33 (cmC k name key vk vn vf vs old.k old.n old.f old.s n m)
  have p0 : (cmC k name key vk vn vf vs old.k old.n old.f old.s n m)[0]? = some (.int .i64 k) := rfl
  have p3 : (cmC k name key vk vn vf vs old.k old.n old.f old.s n m)[3]? = some (.int .i64 vk) := rfl
  generalize cmC k name key vk vn vf vs old.k old.n old.f old.s n m = pa at *
  have HM := Lib.hid hm
  clear hm
  go_enter Try.func75, Try.ntmps75
  go_wp2_with fail
  all_goals
    go_ret
    refine HE.out _ ?_ _ _ ⟨rfl, HK.out.b⟩
    have hm := HM.out
    clear HE HK HM p0 p3
    simp_all <;> omega
set_option maxHeartbeats 6400000 in
theorem clen_any (c : Cmd.C) (w : World) : Calls Try.prog 73 #[.agg (cmA c)] w fun en w' => en = .returned (.int .i64 (Cmd.cL c)) ∧ Below w.heap.size w w' := by
  have HE : Hid (∀ x : Int, x = Cmd.cL c → ∀ (en : Ending) (w' : World), (en = .returned (.int .i64 x) ∧ Below w.heap.size w w') → (en = .returned (.int .i64 (Cmd.cL c)) ∧ Below w.heap.size w w')) := Lib.hid fun x hx en w' h => by rw [← hx]; exact h
  have hm : Cmd.cL c = if 16 < (c.name.size : Int) ∨ 64 < (c.key.size : Int) then 2 else 0 := by
    unfold Cmd.cL
    split
    · rw [if_pos (by omega)]
    · rw [if_neg (by omega)]
  generalize Cmd.cL c = z at *
  obtain ⟨k, name, key, val, old, n, m⟩ := c
  unfold cmA
  simp only at HE hm ⊢
  have HK := kn1 w 33 (cmC k name key val.k val.n val.f val.s old.k old.n old.f old.s n m)
  have p1 : (cmC k name key val.k val.n val.f val.s old.k old.n old.f old.s n m)[1]? = some (.string name) := rfl
  have p2 : (cmC k name key val.k val.n val.f val.s old.k old.n old.f old.s n m)[2]? = some (.string key) := rfl
  generalize cmC k name key val.k val.n val.f val.s old.k old.n old.f old.s n m = pa at *
  have HM := Lib.hid hm
  clear hm
  go_enter Try.func73, Try.ntmps73
  go_wp2_with fail
  all_goals
    go_ret
    refine HE.out _ ?_ _ _ ⟨rfl, HK.out.b⟩
    have hm := HM.out
    clear HE HK HM p1 p2
    simp_all <;> omega
/-- Which fields a kind names, and whether it is one. -/
def IsN (b0 b1 b2 b3 b4 b5 ok : Bool) (w : World) (e : Ending) (w' : World) : Prop := e = .returned (.tuple #[.agg (fl b0 b1 b2 b3 b4 b5), .bool ok]) ∧ Below w.heap.size w w'
theorem ret_fln {f : Func} {R : Ending → World → Prop} {a : Act} {w : World} {B : Nat} {b0 b1 b2 b3 b4 b5 : Bool} {u : Value} {k q : Tmp} (hf : f.results = #[.cell k 72, .tmp q]) (h2 : a.tmps[k]? = some (.pointer (some ⟨B, 0, none⟩))) (h4 : a.tmps[q]? = some u) (hd : a.defers = [])
    (hb : Blk w B 72 (fl b0 b1 b2 b3 b4 b5)) (hR : R (.returned (.tuple #[.agg (fl b0 b1 b2 b3 b4 b5), u])) w) : bodyPost Try.prog f R Exit.ret a w := by
  refine bodyPost_ret (v := .tuple #[.agg (fl b0 b1 b2 b3 b4 b5), u]) ?_ hd hR
  have h := run_loadVar_row (P := Try.prog) w B _ _ _ (0, 0) _ hb Try.underlying72 rfl info_fl
  simp [results, hf, asAddr, Sem.run_bind, h2, h4, h]
theorem isN {k : Int} {b0 b1 b2 b3 b4 b5 ok : Bool} {w : World} {e : Ending} {w' : World} (h : IsN b0 b1 b2 b3 b4 b5 ok w e w') (e0 : Cmd.f0 k = b0) (e1 : Cmd.f1 k = b1) (e2 : Cmd.f3 k = b2) (e3 : Cmd.f2 k = b3) (e4 : Cmd.f4 k = b4) (e5 : Cmd.f5 k = b5) (e6 : decide (1 ≤ k ∧ k ≤ 18) = ok) : IsN (Cmd.f0 k) (Cmd.f1 k) (Cmd.f3 k) (Cmd.f2 k) (Cmd.f4 k) (Cmd.f5 k) (decide (1 ≤ k ∧ k ≤ 18)) w e w' := by
  rw [e0, e1, e2, e3, e4, e5, e6]; exact h
set_option maxHeartbeats 3200000 in
theorem cnamed_any (k : Int) (w : World) : Calls Try.prog 83 #[.int .i64 k] w (IsN (Cmd.f0 k) (Cmd.f1 k) (Cmd.f3 k) (Cmd.f2 k) (Cmd.f4 k) (Cmd.f5 k) (decide (1 ≤ k ∧ k ≤ 18)) w) := by
  have hk : (k = 1 ∨ k = 2 ∨ k = 3 ∨ k = 18) ∨ (k = 4 ∨ k = 5 ∨ k = 6 ∨ k = 7 ∨ k = 8 ∨ k = 9 ∨ k = 10 ∨ k = 11 ∨ k = 12 ∨ k = 13 ∨ k = 14 ∨ k = 15 ∨ k = 16 ∨ k = 17) ∨ (k < 1 ∨ 18 < k) := by omega
  rcases hk with (rfl | rfl | rfl | rfl) | (rfl | rfl | rfl | rfl | rfl | rfl | rfl | rfl | rfl | rfl | rfl | rfl | rfl | rfl) | h
  case inr.inr =>
    obtain ⟨e0, e1, e2, e3, e4, e5⟩ := Cmd.flags_none (k := k) (by omega)
    have e6 : decide (1 ≤ k ∧ k ≤ 18) = false := by simp; omega
    have n1 : ¬ k = 1 := by omega
    have n2 : ¬ k = 2 := by omega
    have n3 : ¬ k = 3 := by omega
    have n4 : ¬ k = 4 := by omega
    have n5 : ¬ k = 5 := by omega
    have n6 : ¬ k = 6 := by omega
    have n7 : ¬ k = 7 := by omega
    have n8 : ¬ k = 8 := by omega
    have n9 : ¬ k = 9 := by omega
    have n10 : ¬ k = 10 := by omega
    have n11 : ¬ k = 11 := by omega
    have n12 : ¬ k = 12 := by omega
    have n13 : ¬ k = 13 := by omega
    have n14 : ¬ k = 14 := by omega
    have n15 : ¬ k = 15 := by omega
    have n16 : ¬ k = 16 := by omega
    have n17 : ¬ k = 17 := by omega
    have n18 : ¬ k = 18 := by omega
    refine Calls.mono (R := IsN false false false false false false false w) ?_ fun e w' h => isN h e0 e1 e3 e2 e4 e5 e6
    clear h e0 e1 e2 e3 e4 e5 e6
    go_enter Try.func83, Try.ntmps83
    go_wp2_with fail
    exact ret_fln Try.results83 rfl rfl rfl (Blk.new w _ _) ⟨rfl, (Below.refl _ w).alloc (Nat.le_refl _) _⟩
  all_goals
    go_enter Try.func83, Try.ntmps83
    go_wp2_with fail
    exact ret_fln Try.results83 rfl rfl rfl (Blk.new w _ _) ⟨rfl, (Below.refl _ w).alloc (Nat.le_refl _) _⟩
end Go.Proofs.Ytakjggmiilkmdaa
set_option linter.unusedSimpArgs false
set_option linter.unusedVariables false
namespace Go.Proofs.Ytakjggmiilkmdaa

theorem nil_is (v : Val.V) : Cmd.nil v ↔ (v.k = 0 ∧ v.n = 0 ∧ v.f = 0 ∧ v.s.toList = []) := by
  unfold Cmd.nil
  constructor
  · rintro ⟨h1, h2, h3, h4⟩
    rw [Cmd.size_emp h4]
    exact ⟨h1, h2, h3, by rw [ByteArray.toList_eq]; rfl⟩
  · rintro ⟨h1, h2, h3, h4⟩
    refine ⟨h1, h2, h3, ?_⟩
    rw [ByteArray.toList_eq] at h4
    have := congrArg List.length h4
    simpa using this
end Go.Proofs.Ytakjggmiilkmdaa
