/- How commands and events lie; ways out. No condition but those named. -/
import Derived.Test.YtpkodjllljnleaaGreatTk
import Derived.Test.YtpkodjllljnleaaGreatMD
import Derived.Test.YtpkodjllljnleaaGreatMB
import Derived.Test.YtpkodjllljnleaaGreatMC
import Derived.Test.YtpkodjllljnleaaGreatME
import Derived.Test.YtpkodjllljnleaaGreatRows
import Derived.KernelRfl
import Derived.Deep.RegionWith
import Derived.Deep.RegionHeld3
import Derived.Deep.Draws
import Derived.Lib.Hide
import Derived.Deep.CutBlock
import Derived.Deep.DeepCutAuto
set_option linter.unusedSimpArgs false
set_option linter.unusedVariables false
namespace Go.Proofs.YtpkodjllljnleaaGreat
open Go.RowKit
def cmC (k : Int) (name key : ByteArray) (vk vn : Int) (vf : Nat) (vs : ByteArray) (ok on : Int) (of : Nat) (os : ByteArray) (n m : Int) : Array Value :=
 #[.int .i64 k, .string name, .string key, .int .i64 vk, .int .i64 vn, .int .u64 (vf : Int), .string vs, .int .i64 ok, .int .i64 on, .int .u64 (of : Int), .string os, .int .i64 n, .int .i64 m]
def cmA (c : Cmd.C) : Array Value := cmC c.k c.name c.key c.val.k c.val.n c.val.f c.val.s c.old.k c.old.n c.old.f c.old.s c.n c.m
def fl (b0 b1 b2 b3 b4 b5 : Bool) : Array Value := #[.bool b0, .bool b1, .bool b2, .bool b3, .bool b4, .bool b5]
theorem info_fl : (Tryz.prog.info? 112).map (·.size) = some 6 := by kernel_rfl
theorem info_cm : (Tryz.prog.info? 29).map (·.size) = some 13 := by kernel_rfl
section
variable {b0 : Nat} {w0 w : World} {L : List (Nat × TypeId × Array Value)} {R : List RowE} {ops : Array Oper} {rest : List Oper} {o : Oper} {a : Act} {Q : Exit → Act → World → Prop}
theorem kexec_bi (HK : Hid (Kn b0 w0 w L R)) (i : Nat) (x : Operand) (ho : o.op = .load 3 x) {g off : Nat} {t : TypeId} {cs : Array Value} (hL : L[i]? = some (g, t, cs)) (hx : a.eval x = .pointer (some ⟨g, off, none⟩)) {n : Int} (hv : cs[off]? = some (.int .i64 n)) :
  (execOp a.eval o).run Tryz.prog w = .ok (.value (.int .i64 n)) w := kexec_lc HK _ x ho i hL hx hv Tryz.underlying3 rfl
theorem kexec_bs (HK : Hid (Kn b0 w0 w L R)) (i : Nat) (x : Operand) (ho : o.op = .load 9 x) {g off : Nat} {t : TypeId} {cs : Array Value} (hL : L[i]? = some (g, t, cs)) (hx : a.eval x = .pointer (some ⟨g, off, none⟩)) {s : ByteArray} (hv : cs[off]? = some (.string s)) :
  (execOp a.eval o).run Tryz.prog w = .ok (.value (.string s)) w := kexec_lc HK _ x ho i hL hx hv Tryz.underlying9 rfl
end
def IsF (b0 b1 b2 b3 b4 b5 : Bool) (w : World) (e : Ending) (w' : World) : Prop := e = .returned (.agg (fl b0 b1 b2 b3 b4 b5)) ∧ Below w.heap.size w w'
theorem ret_fl {f : Func} {R : Ending → World → Prop} {a : Act} {w : World} {B : Nat} {b0 b1 b2 b3 b4 b5 : Bool} {q : Tmp} (hf : f.results = #[.cell q 112]) (h2 : a.tmps[q]? = some (.pointer (some ⟨B, 0, none⟩))) (hd : a.defers = []) (hb : Blk w B 112 (fl b0 b1 b2 b3 b4 b5))
  (hR : R (.returned (.agg (fl b0 b1 b2 b3 b4 b5))) w) : bodyPost Tryz.prog f R Exit.ret a w :=
 bodyPost_ret (results_cell_row hf a.tmps w B _ _ (0, 0) _ (by simp [h2]) hb Tryz.underlying112 rfl info_fl) hd hR
end Go.Proofs.YtpkodjllljnleaaGreat
namespace Go.Proofs.YtpkodjllljnleaaGreat
open Go.RowKit
namespace Cmd
def sized (n m : Int) : Prop := if n = 2 then 1 ≤ m ∧ m ≤ 8 else if n = 4 then 1 ≤ m ∧ m ≤ 5 else 1 ≤ n ∧ n ≤ 5 ∧ m = 0
instance (n m : Int) : Decidable (sized n m) := by unfold sized; infer_instance
def cN (c : C) : Int := if c.k < 1 ∨ 18 < c.k ∨ ¬ others c ∨ (f0 c.k = true ∧ c.name.size = 0) then 1 else 0
def cL (c : C) : Int := if 16 < c.name.size ∨ 64 < c.key.size then 2 else 0
def cV (c : C) : Int := if (c.k = 7 ∨ c.k = 10) ∧ c.val.k = 0 then 1 else if c.k = 15 ∧ c.val.k ≠ 2 then 7 else 0
def cM (c : C) : Int := if ¬ nums c then 1 else 0
def nz : List Int → Int
 | [] => 0
 | x :: r => if x ≠ 0 then x else nz r
theorem chk_nz (c : C) : nz [cN c, cL c, Val.chk c.old, Val.chk c.val, cV c, cM c] = chk c := by
 unfold chk cN cL cV cM
 simp only [nz]
 split <;> rename_i h1
 ·rw [if_pos (by decide)]
 ·rw [if_neg (by decide)]
  split <;> rename_i h2
  ·rw [if_pos (by decide)]
  ·rw [if_neg (by decide)]
   split <;> rename_i h3
   ·rfl
   ·split <;> rename_i h4
    ·rfl
    ·split <;> rename_i h5
     ·rw [if_pos (by decide)]
     ·split <;> rename_i h6
      ·rw [if_pos (by decide)]
      ·rw [if_neg (by decide)]
       split <;> rename_i h7
       ·rw [if_pos (by decide)]
       ·rw [if_neg (by decide)]
end Cmd
set_option maxHeartbeats 1600000 in
theorem within_any (a b c : Int) (w : World) : Calls Tryz.prog 137 #[.int .i64 a, .int .i64 b, .int .i64 c] w fun e w' => e = .returned (.bool (decide (b ≤ a ∧ a ≤ c))) ∧ w' = w := by
 have HE : Hid (∀ q : Bool, (q = true ↔ (b ≤ a ∧ a ≤ c)) → q = decide (b ≤ a ∧ a ≤ c)) := zH fun q hq => by
  rw [Bool.eq_iff_iff, hq, decide_eq_true_eq]
 generalize decide (b ≤ a ∧ a ≤ c) = r at *
 go_enter Tryz.func137, Tryz.ntmps137
 go_wp2_with fail
 all_goals
  go_ret
  refine ⟨congrArg (fun b => Ending.returned (.bool b)) (HE.out _ ?_), rfl⟩
  clear HE
  simp_all <;> omega
set_option maxHeartbeats 3200000 in
theorem sized_any (n m : Int) (w : World) : Calls Tryz.prog 136 #[.int .i64 n, .int .i64 m] w fun e w' => e = .returned (.bool (decide (Cmd.sized n m))) ∧ w' = w := by
 have HE : Hid (∀ q : Bool, (q = true ↔ Cmd.sized n m) → q = decide (Cmd.sized n m)) := zH fun q hq => by
  rw [Bool.eq_iff_iff, hq, decide_eq_true_eq]
 have HW := zH within_any
 generalize decide (Cmd.sized n m) = r at *
 by_cases h2 : n = 2
 ·subst h2
  go_enter Tryz.func136, Tryz.ntmps136
  go_wp2_with fail
  refine (HW.out _ _ _ _).mono ?_; rintro e w1 ⟨rfl, rfl⟩
  go_wp2_with fail
  go_ret
  refine ⟨congrArg (fun b => Ending.returned (.bool b)) (HE.out _ ?_), rfl⟩
  unfold Cmd.sized; simp
 by_cases h4 : n = 4
 ·subst h4
  go_enter Tryz.func136, Tryz.ntmps136
  go_wp2_with fail
  refine (HW.out _ _ _ _).mono ?_; rintro e w1 ⟨rfl, rfl⟩
  go_wp2_with fail
  go_ret
  refine ⟨congrArg (fun b => Ending.returned (.bool b)) (HE.out _ ?_), rfl⟩
  unfold Cmd.sized; simp
 ·go_enter Tryz.func136, Tryz.ntmps136
  go_wp2_with fail
  all_goals
   go_ret
   refine ⟨congrArg (fun b => Ending.returned (.bool b)) (HE.out _ ?_), rfl⟩
   clear HE HW
   unfold Cmd.sized
   simp_all <;> omega
set_option maxHeartbeats 6400000 in
theorem cnums_any (c : Cmd.C) (w : World) : Calls Tryz.prog 99 #[.agg (cmA c)] w fun en w' => en = .returned (.int .i64 (Cmd.cM c)) ∧ Below w.heap.size w w' := by
 have HS := zH (fun W => sized_any c.n c.m W)
 have HW := zH (fun W => within_any c.n 0 3 W)
 have HE : Hid (∀ x : Int, Cmd.cM c = x → ∀ (en : Ending) (w' : World), (en = .returned (.int .i64 x) ∧ Below w.heap.size w w') → (en = .returned (.int .i64 (Cmd.cM c)) ∧ Below w.heap.size w w')) := zH fun x hx en w' h => by rw [hx]; exact h
 have hm : Cmd.cM c = if c.k = 16 then (if 0 ≤ c.n ∧ c.n ≤ 3 then 0 else 1) else if c.k ≠ 4 then 0 else if Cmd.sized c.n c.m then 0 else 1 := by
  unfold Cmd.cM Cmd.nums Cmd.sized
  repeat' split
  all_goals simp_all
 generalize Cmd.cM c = z at *
 obtain ⟨k, name, key, val, old, n, m⟩ := c
 unfold cmA
 simp only at HE HS HW hm ⊢
 have HK := kn1 w 29 (cmC k name key val.k val.n val.f val.s old.k old.n old.f old.s n m)
 have p0 : (cmC k name key val.k val.n val.f val.s old.k old.n old.f old.s n m)[0]? = some (.int .i64 k) := rfl
 have p11 : (cmC k name key val.k val.n val.f val.s old.k old.n old.f old.s n m)[11]? = some (.int .i64 n) := rfl
 have p12 : (cmC k name key val.k val.n val.f val.s old.k old.n old.f old.s n m)[12]? = some (.int .i64 m) := rfl
 by_cases h16 : k = 16
 ·subst h16
  rw [if_pos rfl] at hm
  generalize hd : decide ((0 : Int) ≤ n ∧ n ≤ 3) = d at *
  have HD := zH hd
  have HM := zH hm
  clear hd hm
  generalize cmC 16 name key val.k val.n val.f val.s old.k old.n old.f old.s n m = pa at *
  cases d
  all_goals
   go_enter Tryz.func99, Tryz.ntmps99
   go_wp2_with fail
   refine (HW.out _).mono ?_; rintro e w1 ⟨rfl, rfl⟩
   go_wp2_with fail
   go_ret
   refine HE.out _ ?_ _ _ ⟨rfl, HK.out.b⟩
   have hd := HD.out
   rw [HM.out]
   simp at hd
   first | rw [if_pos (by omega)] | rw [if_neg (by omega)]
 ·rw [if_neg h16] at hm
  by_cases h4 : k = 4
  ·subst h4
   rw [if_neg (by decide)] at hm
   generalize hd : decide (Cmd.sized n m) = d at *
   have HD := zH hd
   have HM := zH hm
   clear hd hm
   generalize cmC 4 name key val.k val.n val.f val.s old.k old.n old.f old.s n m = pa at *
   cases d
   all_goals
    go_enter Tryz.func99, Tryz.ntmps99
    go_wp2_with fail
    refine (HS.out _).mono ?_; rintro e w1 ⟨rfl, rfl⟩
    go_wp2_with fail
    go_ret
    refine HE.out _ ?_ _ _ ⟨rfl, HK.out.b⟩
    have hd := HD.out
    rw [HM.out]
    simp at hd
    first | rw [if_pos hd] | rw [if_neg hd]
  ·rw [if_pos h4] at hm
   subst hm
   generalize cmC k name key val.k val.n val.f val.s old.k old.n old.f old.s n m = pa at *
   go_enter Tryz.func99, Tryz.ntmps99
   go_wp2_with fail
   go_ret
   exact HE.out _ rfl _ _ ⟨rfl, HK.out.b⟩
set_option maxHeartbeats 6400000 in
theorem cval_any (c : Cmd.C) (w : World) : Calls Tryz.prog 98 #[.agg (cmA c)] w fun en w' => en = .returned (.int .i64 (Cmd.cV c)) ∧ Below w.heap.size w w' := by
 have HE : Hid (∀ x : Int, x = Cmd.cV c → ∀ (en : Ending) (w' : World), (en = .returned (.int .i64 x) ∧ Below w.heap.size w w') → (en = .returned (.int .i64 (Cmd.cV c)) ∧ Below w.heap.size w w')) := zH fun x hx en w' h => by rw [← hx]; exact h
 have hm : Cmd.cV c = if (c.k = 7 ∨ c.k = 10) ∧ c.val.k = 0 then 1 else if c.k = 15 ∧ c.val.k ≠ 2 then 7 else 0 := rfl
 generalize Cmd.cV c = z at *
 obtain ⟨k, name, key, ⟨vk, vn, vf, vs⟩, old, n, m⟩ := c
 unfold cmA
 simp only at HE hm ⊢
 have HK := kn1 w 29 (cmC k name key vk vn vf vs old.k old.n old.f old.s n m)
 have p0 : (cmC k name key vk vn vf vs old.k old.n old.f old.s n m)[0]? = some (.int .i64 k) := rfl
 have p3 : (cmC k name key vk vn vf vs old.k old.n old.f old.s n m)[3]? = some (.int .i64 vk) := rfl
 generalize cmC k name key vk vn vf vs old.k old.n old.f old.s n m = pa at *
 have HM := zH hm
 clear hm
 go_enter Tryz.func98, Tryz.ntmps98
 go_wp2_with fail
 all_goals
  go_ret
  refine HE.out _ ?_ _ _ ⟨rfl, HK.out.b⟩
  have hm := HM.out
  clear HE HK HM p0 p3
  simp_all <;> omega
set_option maxHeartbeats 6400000 in
theorem clen_any (c : Cmd.C) (w : World) : Calls Tryz.prog 96 #[.agg (cmA c)] w fun en w' => en = .returned (.int .i64 (Cmd.cL c)) ∧ Below w.heap.size w w' := by
 have HE : Hid (∀ x : Int, x = Cmd.cL c → ∀ (en : Ending) (w' : World), (en = .returned (.int .i64 x) ∧ Below w.heap.size w w') → (en = .returned (.int .i64 (Cmd.cL c)) ∧ Below w.heap.size w w')) := zH fun x hx en w' h => by rw [← hx]; exact h
 have hm : Cmd.cL c = if 16 < (c.name.size : Int) ∨ 64 < (c.key.size : Int) then 2 else 0 := by
  unfold Cmd.cL
  split
  ·rw [if_pos (by omega)]
  ·rw [if_neg (by omega)]
 generalize Cmd.cL c = z at *
 obtain ⟨k, name, key, val, old, n, m⟩ := c
 unfold cmA
 simp only at HE hm ⊢
 have HK := kn1 w 29 (cmC k name key val.k val.n val.f val.s old.k old.n old.f old.s n m)
 have p1 : (cmC k name key val.k val.n val.f val.s old.k old.n old.f old.s n m)[1]? = some (.string name) := rfl
 have p2 : (cmC k name key val.k val.n val.f val.s old.k old.n old.f old.s n m)[2]? = some (.string key) := rfl
 generalize cmC k name key val.k val.n val.f val.s old.k old.n old.f old.s n m = pa at *
 have HM := zH hm
 clear hm
 go_enter Tryz.func96, Tryz.ntmps96
 go_wp2_with fail
 all_goals
  go_ret
  refine HE.out _ ?_ _ _ ⟨rfl, HK.out.b⟩
  have hm := HM.out
  clear HE HK HM p1 p2
  simp_all <;> omega
def IsN (b0 b1 b2 b3 b4 b5 ok : Bool) (w : World) (e : Ending) (w' : World) : Prop := e = .returned (.tuple #[.agg (fl b0 b1 b2 b3 b4 b5), .bool ok]) ∧ Below w.heap.size w w'
theorem ret_fln {f : Func} {R : Ending → World → Prop} {a : Act} {w : World} {B : Nat} {b0 b1 b2 b3 b4 b5 : Bool} {u : Value} {k q : Tmp} (hf : f.results = #[.cell k 112, .tmp q]) (h2 : a.tmps[k]? = some (.pointer (some ⟨B, 0, none⟩))) (h4 : a.tmps[q]? = some u) (hd : a.defers = [])
  (hb : Blk w B 112 (fl b0 b1 b2 b3 b4 b5)) (hR : R (.returned (.tuple #[.agg (fl b0 b1 b2 b3 b4 b5), u])) w) : bodyPost Tryz.prog f R Exit.ret a w := by
 refine bodyPost_ret (v := .tuple #[.agg (fl b0 b1 b2 b3 b4 b5), u]) ?_ hd hR
 have h := run_loadVar_row (P := Tryz.prog) w B _ _ _ (0, 0) _ hb Tryz.underlying112 rfl info_fl
 simp [results, hf, asAddr, Sem.run_bind, h2, h4, h]
theorem isN {k : Int} {b0 b1 b2 b3 b4 b5 ok : Bool} {w : World} {e : Ending} {w' : World} (h : IsN b0 b1 b2 b3 b4 b5 ok w e w') (e0 : Cmd.f0 k = b0) (e1 : Cmd.f1 k = b1) (e2 : Cmd.f3 k = b2) (e3 : Cmd.f2 k = b3) (e4 : Cmd.f4 k = b4) (e5 : Cmd.f5 k = b5) (e6 : decide (1 ≤ k ∧ k ≤ 18) = ok) : IsN (Cmd.f0 k) (Cmd.f1 k) (Cmd.f3 k) (Cmd.f2 k) (Cmd.f4 k) (Cmd.f5 k) (decide (1 ≤ k ∧ k ≤ 18)) w e w' := by
 rw [e0, e1, e2, e3, e4, e5, e6]; exact h
set_option maxHeartbeats 3200000 in
theorem cnamed_any (k : Int) (w : World) : Calls Tryz.prog 133 #[.int .i64 k] w (IsN (Cmd.f0 k) (Cmd.f1 k) (Cmd.f3 k) (Cmd.f2 k) (Cmd.f4 k) (Cmd.f5 k) (decide (1 ≤ k ∧ k ≤ 18)) w) := by
 have hk : (k = 1 ∨ k = 2 ∨ k = 3 ∨ k = 18) ∨ (k = 4 ∨ k = 5 ∨ k = 6 ∨ k = 7 ∨ k = 8 ∨ k = 9 ∨ k = 10 ∨ k = 11 ∨ k = 12 ∨ k = 13 ∨ k = 14 ∨ k = 15 ∨ k = 16 ∨ k = 17) ∨ (k < 1 ∨ 18 < k) := by omega
 rcases hk with (rfl | rfl | rfl | rfl) | (rfl | rfl | rfl | rfl | rfl | rfl | rfl | rfl | rfl | rfl | rfl | rfl | rfl | rfl) | h
 case inr.inr =>
  obtain ⟨e0, e1, e2, e3, e4, e5⟩ := Cmd.flags_none (k := k) (by omega)
  have e6 : decide (1 ≤ k ∧ k ≤ 18) = false := by simp; omega
  have n1 : ¬ k = 1 := by omega
  have n2 : ¬ k = 2 := by omega
  have n3 : ¬ k = 3 := by omega
  have n4 : ¬ k = 4 := by omega
  have n5 : ¬ k = 5 := by omega
  have n6 : ¬ k = 6 := by omega
  have n7 : ¬ k = 7 := by omega
  have n8 : ¬ k = 8 := by omega
  have n9 : ¬ k = 9 := by omega
  have n10 : ¬ k = 10 := by omega
  have n11 : ¬ k = 11 := by omega
  have n12 : ¬ k = 12 := by omega
  have n13 : ¬ k = 13 := by omega
  have n14 : ¬ k = 14 := by omega
  have n15 : ¬ k = 15 := by omega
  have n16 : ¬ k = 16 := by omega
  have n17 : ¬ k = 17 := by omega
  have n18 : ¬ k = 18 := by omega
  refine Calls.mono (R := IsN false false false false false false false w) ?_ fun e w' h => isN h e0 e1 e3 e2 e4 e5 e6
  clear h e0 e1 e2 e3 e4 e5 e6
  go_enter Tryz.func133, Tryz.ntmps133
  go_wp2_with fail
  exact ret_fln Tryz.results133 rfl rfl rfl (Blk.new w _ _) ⟨rfl, (Below.refl _ w).alloc (Nat.le_refl _) _⟩
 all_goals
  go_enter Tryz.func133, Tryz.ntmps133
  go_wp2_with fail
  exact ret_fln Tryz.results133 rfl rfl rfl (Blk.new w _ _) ⟨rfl, (Below.refl _ w).alloc (Nat.le_refl _) _⟩
end Go.Proofs.YtpkodjllljnleaaGreat
namespace Go.Proofs.YtpkodjllljnleaaGreat
open Go.RowKit
theorem info_va4 : (Tryz.prog.info? 27).map (·.size) = some 4 := by kernel_rfl
section
variable {b0 : Nat} {w0 w : World} {L : List (Nat × TypeId × Array Value)} {R : List RowE} {ops : Array Oper} {rest : List Oper} {o : Oper} {a : Act} {Q : Exit → Act → World → Prop}
theorem kexec_va (HK : Hid (Kn b0 w0 w L R)) (i : Nat) (x : Operand) (ho : o.op = .load 27 x) {g : Nat} {t : TypeId} {k : Int} {name key : ByteArray} {vk vn : Int} {vf : Nat} {vs : ByteArray} {ok on : Int} {of : Nat} {os : ByteArray} {n m : Int} (hL : L[i]? = some (g, t, cmC k name key vk vn vf vs ok on of os n m)) (hx : a.eval x = .pointer (some ⟨g, 3, none⟩)) :
  (execOp a.eval o).run Tryz.prog w = .ok (.value (.agg #[.int .i64 vk, .int .i64 vn, .int .u64 (vf : Int), .string vs])) w :=
 kexec_ls HK _ x ho i hL hx #[.int .i64 vk, .int .i64 vn, .int .u64 (vf : Int), .string vs] (fun j hj => by
  match j, hj with
  | 0, _ | 1, _ | 2, _ | 3, _ => rfl) Tryz.underlying27 info_va4
theorem kexec_ol (HK : Hid (Kn b0 w0 w L R)) (i : Nat) (x : Operand) (ho : o.op = .load 27 x) {g : Nat} {t : TypeId} {k : Int} {name key : ByteArray} {vk vn : Int} {vf : Nat} {vs : ByteArray} {ok on : Int} {of : Nat} {os : ByteArray} {n m : Int} (hL : L[i]? = some (g, t, cmC k name key vk vn vf vs ok on of os n m)) (hx : a.eval x = .pointer (some ⟨g, 7, none⟩)) :
  (execOp a.eval o).run Tryz.prog w = .ok (.value (.agg #[.int .i64 ok, .int .i64 on, .int .u64 (of : Int), .string os])) w :=
 kexec_ls HK _ x ho i hL hx #[.int .i64 ok, .int .i64 on, .int .u64 (of : Int), .string os] (fun j hj => by
  match j, hj with
  | 0, _ | 1, _ | 2, _ | 3, _ => rfl) Tryz.underlying27 info_va4
theorem kexec_cm (HK : Hid (Kn b0 w0 w L R)) (i : Nat) (x : Operand) (ho : o.op = .load 29 x) {g : Nat} {t : TypeId} {k : Int} {name key : ByteArray} {vk vn : Int} {vf : Nat} {vs : ByteArray} {ok on : Int} {of : Nat} {os : ByteArray} {n m : Int} (hL : L[i]? = some (g, t, cmC k name key vk vn vf vs ok on of os n m)) (hx : a.eval x = .pointer (some ⟨g, 0, none⟩)) :
  (execOp a.eval o).run Tryz.prog w = .ok (.value (.agg (cmC k name key vk vn vf vs ok on of os n m))) w :=
 kexec_ls HK _ x ho i hL hx (cmC k name key vk vn vf vs ok on of os n m) (fun j _ => by rw [Nat.zero_add]) Tryz.underlying29 info_cm
end
def IsFl (c : Cmd.C) (w : World) (e : Ending) (w' : World) : Prop := ∃ b0 b1 b2 b3 b4 b5, e = .returned (.agg (fl b0 b1 b2 b3 b4 b5)) ∧ ((b0 = false ↔ c.name.size = 0) ∧ (b1 = false ↔ c.key.size = 0) ∧ (b2 = false ↔ Cmd.nil c.val) ∧ (b3 = false ↔ Cmd.nil c.old) ∧ (b4 = false ↔ c.n = 0) ∧ (b5 = false ↔ c.m = 0)) ∧ Below w.heap.size w w'
theorem emp_l {s : ByteArray} : s.size = 0 ↔ s.toList = [] := by
 constructor
 ·intro h
  rw [Cmd.size_emp h, ByteArray.toList_eq]; rfl
 ·intro h
  rw [ByteArray.toList_eq] at h
  have := congrArg List.length h
  simpa using this
set_option maxRecDepth 10000 in
set_option maxHeartbeats 6400000 in
theorem cfilled_any (c : Cmd.C) (w : World) : Calls Tryz.prog 134 #[.agg (cmA c)] w (IsFl c w) := by
 obtain ⟨k, name, key, ⟨vk, vn, vf, vs⟩, ⟨ok, on, of, os⟩, n, m⟩ := c
 unfold cmA IsFl
 simp only [nil_is, emp_l]
 have HK := kn2 w 29 (cmC k name key vk vn vf vs ok on of os n m) 112 (fl false false false false false false)
 go_enter Tryz.func134, Tryz.ntmps134
 go_wp2_with fail
 replace HK := zH HK.out.drew
 refine wp_region_held_drew (S := (fun W => Hid (Kn w.heap.size w W [(w.heap.size, 29, cmC k name key vk vn vf vs ok on of os n m)] []))) (by kernel_rfl) ?_ (fun hHeld => ?_)
 ·(try dsimp only); exact zH (HK.out.takeL 1)
 refine wpAnyH_take (i := 0) (oi := ⟨some 3, _, _, _, _, _⟩) (v := ?_) rfl (by kernel_rfl) (by kernel_rfl) (by kernel_rfl) (fun _ _ _ h => h) (Or.inl ⟨by rfl, ?_⟩) (by assumption) ?_
 rotate_left
 ·(intro w hSw; (try dsimp only at hSw); go_simp; try with_reducible rfl)
 try simp only [Act.put, List.setIfInBounds_toArray, List.set_cons_zero, List.set_cons_succ]
 refine wpAnyH_take (i := 1) (oi := ⟨some 4, _, _, _, _, _⟩) (v := ?_) rfl (by kernel_rfl) (by kernel_rfl) (by kernel_rfl) (fun _ _ _ h => h) (Or.inl ⟨by rfl, ?_⟩) (by assumption) ?_
 rotate_left
 ·(intro w hSw; refine Eq.trans (kexec_bs hSw 0 _ (by rfl) (by rfl) (by rfl) (by rfl)) ?_; with_reducible rfl)
 try simp only [Act.put, List.setIfInBounds_toArray, List.set_cons_zero, List.set_cons_succ]
 refine wpAnyH_take (i := 2) (oi := ⟨some 5, _, _, _, _, _⟩) (v := ?_) rfl (by kernel_rfl) (by kernel_rfl) (by kernel_rfl) (fun _ _ _ h => h) (Or.inl ⟨by rfl, ?_⟩) (by assumption) ?_
 rotate_left
 ·(intro w hSw; (try dsimp only at hSw); go_simp; try with_reducible rfl)
 try simp only [Act.put, List.setIfInBounds_toArray, List.set_cons_zero, List.set_cons_succ]
 refine wpAnyH_take (i := 3) (oi := ⟨some 6, _, _, _, _, _⟩) (v := ?_) rfl (by kernel_rfl) (by kernel_rfl) (by kernel_rfl) (fun _ _ _ h => h) (Or.inl ⟨by rfl, ?_⟩) (by assumption) ?_
 rotate_left
 ·(intro w hSw; (try dsimp only at hSw); go_simp; try with_reducible rfl)
 try simp only [Act.put, List.setIfInBounds_toArray, List.set_cons_zero, List.set_cons_succ]
 refine wpAnyH_take (i := 4) (oi := ⟨some 7, _, _, _, _, _⟩) (v := ?_) rfl (by kernel_rfl) (by kernel_rfl) (by kernel_rfl) (fun _ _ _ h => h) (Or.inl ⟨by rfl, ?_⟩) (by assumption) ?_
 rotate_left
 ·(intro w hSw; refine Eq.trans (kexec_bs hSw 0 _ (by rfl) (by rfl) (by rfl) (by rfl)) ?_; with_reducible rfl)
 try simp only [Act.put, List.setIfInBounds_toArray, List.set_cons_zero, List.set_cons_succ]
 refine wpAnyH_take (i := 5) (oi := ⟨some 8, _, _, _, _, _⟩) (v := ?_) rfl (by kernel_rfl) (by kernel_rfl) (by kernel_rfl) (fun _ _ _ h => h) (Or.inl ⟨by rfl, ?_⟩) (by assumption) ?_
 rotate_left
 ·(intro w hSw; (try dsimp only at hSw); go_simp; try with_reducible rfl)
 try simp only [Act.put, List.setIfInBounds_toArray, List.set_cons_zero, List.set_cons_succ]
 refine wpAnyH_take (i := 6) (oi := ⟨some 9, _, _, _, _, _⟩) (v := ?_) rfl (by kernel_rfl) (by kernel_rfl) (by kernel_rfl) (fun _ _ _ h => h) (Or.inl ⟨by rfl, ?_⟩) (by assumption) ?_
 rotate_left
 ·(intro w hSw; (try dsimp only at hSw); go_simp; try with_reducible rfl)
 try simp only [Act.put, List.setIfInBounds_toArray, List.set_cons_zero, List.set_cons_succ]
 refine wpAnyH_take (i := 7) (oi := ⟨some 10, _, _, _, _, _⟩) (v := ?_) rfl (by kernel_rfl) (by kernel_rfl) (by kernel_rfl) (fun _ _ _ h => h) (Or.inl ⟨by rfl, ?_⟩) (by assumption) ?_
 rotate_left
 ·(intro w hSw; refine Eq.trans (kexec_va hSw 0 _ (by rfl) (by rfl) (by rfl)) ?_; with_reducible rfl)
 try simp only [Act.put, List.setIfInBounds_toArray, List.set_cons_zero, List.set_cons_succ]
 refine wpAnyH_take (i := 8) (oi := ⟨some 11, _, _, _, _, _⟩) (v := ?_) rfl (by kernel_rfl) (by kernel_rfl) (by kernel_rfl) (fun _ _ _ h => h) (Or.inl ⟨by rfl, ?_⟩) (by assumption) ?_
 rotate_left
 ·(intro w hSw; (try dsimp only at hSw); go_simp; try with_reducible rfl)
 try simp only [Act.put, List.setIfInBounds_toArray, List.set_cons_zero, List.set_cons_succ]
 refine wpAnyH_take (i := 9) (oi := ⟨some 12, _, _, _, _, _⟩) (v := ?_) rfl (by kernel_rfl) (by kernel_rfl) (by kernel_rfl) (fun _ _ _ h => h) (Or.inl ⟨by rfl, ?_⟩) (by assumption) ?_
 rotate_left
 ·(intro w hSw; refine Eq.trans ((show _ = Result.ok (Next.value (Value.bool (!(decide (vk = 0) && decide (vn = 0) && decide (vf = 0) && decide (vs.toList = []))))) w from by go_simp; by_cases h1 : vk = 0 <;> by_cases h2 : vn = 0 <;> by_cases h3 : vf = 0 <;> by_cases h4 : vs.toList = [] <;> simp [h1, h2, h3, h4])) ?_; with_reducible rfl)
 try simp only [Act.put, List.setIfInBounds_toArray, List.set_cons_zero, List.set_cons_succ]
 refine wpAnyH_take (i := 10) (oi := ⟨some 13, _, _, _, _, _⟩) (v := ?_) rfl (by kernel_rfl) (by kernel_rfl) (by kernel_rfl) (fun _ _ _ h => h) (Or.inl ⟨by rfl, ?_⟩) (by assumption) ?_
 rotate_left
 ·(intro w hSw; (try dsimp only at hSw); go_simp; try with_reducible rfl)
 try simp only [Act.put, List.setIfInBounds_toArray, List.set_cons_zero, List.set_cons_succ]
 refine wpAnyH_take (i := 11) (oi := ⟨some 14, _, _, _, _, _⟩) (v := ?_) rfl (by kernel_rfl) (by kernel_rfl) (by kernel_rfl) (fun _ _ _ h => h) (Or.inl ⟨by rfl, ?_⟩) (by assumption) ?_
 rotate_left
 ·(intro w hSw; refine Eq.trans (kexec_ol hSw 0 _ (by rfl) (by rfl) (by rfl)) ?_; with_reducible rfl)
 try simp only [Act.put, List.setIfInBounds_toArray, List.set_cons_zero, List.set_cons_succ]
 refine wpAnyH_take (i := 12) (oi := ⟨some 15, _, _, _, _, _⟩) (v := ?_) rfl (by kernel_rfl) (by kernel_rfl) (by kernel_rfl) (fun _ _ _ h => h) (Or.inl ⟨by rfl, ?_⟩) (by assumption) ?_
 rotate_left
 ·(intro w hSw; (try dsimp only at hSw); go_simp; try with_reducible rfl)
 try simp only [Act.put, List.setIfInBounds_toArray, List.set_cons_zero, List.set_cons_succ]
 refine wpAnyH_take (i := 13) (oi := ⟨some 16, _, _, _, _, _⟩) (v := ?_) rfl (by kernel_rfl) (by kernel_rfl) (by kernel_rfl) (fun _ _ _ h => h) (Or.inl ⟨by rfl, ?_⟩) (by assumption) ?_
 rotate_left
 ·(intro w hSw; refine Eq.trans ((show _ = Result.ok (Next.value (Value.bool (!(decide (ok = 0) && decide (on = 0) && decide (of = 0) && decide (os.toList = []))))) w from by go_simp; by_cases h1 : ok = 0 <;> by_cases h2 : on = 0 <;> by_cases h3 : of = 0 <;> by_cases h4 : os.toList = [] <;> simp [h1, h2, h3, h4])) ?_; with_reducible rfl)
 try simp only [Act.put, List.setIfInBounds_toArray, List.set_cons_zero, List.set_cons_succ]
 refine wpAnyH_take (i := 14) (oi := ⟨some 17, _, _, _, _, _⟩) (v := ?_) rfl (by kernel_rfl) (by kernel_rfl) (by kernel_rfl) (fun _ _ _ h => h) (Or.inl ⟨by rfl, ?_⟩) (by assumption) ?_
 rotate_left
 ·(intro w hSw; (try dsimp only at hSw); go_simp; try with_reducible rfl)
 try simp only [Act.put, List.setIfInBounds_toArray, List.set_cons_zero, List.set_cons_succ]
 refine wpAnyH_take (i := 15) (oi := ⟨some 18, _, _, _, _, _⟩) (v := ?_) rfl (by kernel_rfl) (by kernel_rfl) (by kernel_rfl) (fun _ _ _ h => h) (Or.inl ⟨by rfl, ?_⟩) (by assumption) ?_
 rotate_left
 ·(intro w hSw; refine Eq.trans (kexec_bi hSw 0 _ (by rfl) (by rfl) (by rfl) (by rfl)) ?_; with_reducible rfl)
 try simp only [Act.put, List.setIfInBounds_toArray, List.set_cons_zero, List.set_cons_succ]
 refine wpAnyH_take (i := 16) (oi := ⟨some 19, _, _, _, _, _⟩) (v := ?_) rfl (by kernel_rfl) (by kernel_rfl) (by kernel_rfl) (fun _ _ _ h => h) (Or.inl ⟨by rfl, ?_⟩) (by assumption) ?_
 rotate_left
 ·(intro w hSw; (try dsimp only at hSw); go_simp; try with_reducible rfl)
 try simp only [Act.put, List.setIfInBounds_toArray, List.set_cons_zero, List.set_cons_succ]
 refine wpAnyH_take (i := 17) (oi := ⟨some 20, _, _, _, _, _⟩) (v := ?_) rfl (by kernel_rfl) (by kernel_rfl) (by kernel_rfl) (fun _ _ _ h => h) (Or.inl ⟨by rfl, ?_⟩) (by assumption) ?_
 rotate_left
 ·(intro w hSw; (try dsimp only at hSw); go_simp; try with_reducible rfl)
 try simp only [Act.put, List.setIfInBounds_toArray, List.set_cons_zero, List.set_cons_succ]
 refine wpAnyH_take (i := 18) (oi := ⟨some 21, _, _, _, _, _⟩) (v := ?_) rfl (by kernel_rfl) (by kernel_rfl) (by kernel_rfl) (fun _ _ _ h => h) (Or.inl ⟨by rfl, ?_⟩) (by assumption) ?_
 rotate_left
 ·(intro w hSw; refine Eq.trans (kexec_bi hSw 0 _ (by rfl) (by rfl) (by rfl) (by rfl)) ?_; with_reducible rfl)
 try simp only [Act.put, List.setIfInBounds_toArray, List.set_cons_zero, List.set_cons_succ]
 refine wpAnyH_take (i := 19) (oi := ⟨some 22, _, _, _, _, _⟩) (v := ?_) rfl (by kernel_rfl) (by kernel_rfl) (by kernel_rfl) (fun _ _ _ h => h) (Or.inl ⟨by rfl, ?_⟩) (by assumption) ?_
 rotate_left
 ·(intro w hSw; (try dsimp only at hSw); go_simp; try with_reducible rfl)
 try simp only [Act.put, List.setIfInBounds_toArray, List.set_cons_zero, List.set_cons_succ]
 refine wpAnyH_take (i := 20) (oi := ⟨some 23, _, _, _, _, _⟩) (v := ?_) rfl (by kernel_rfl) (by kernel_rfl) (by kernel_rfl) (fun _ _ _ h => h) (Or.inl ⟨by rfl, ?_⟩) (by assumption) ?_
 rotate_left
 ·(intro w hSw; (try dsimp only at hSw); go_simp; try with_reducible rfl)
 try simp only [Act.put, List.setIfInBounds_toArray, List.set_cons_zero, List.set_cons_succ]
 refine wpAnyH_ready (rs := [21]) (by kernel_rfl) (by simp) ?_
 refine AllReadyH.cons (o := ⟨none, _, _, _, _, _⟩) rfl (fun K hK => ?_) AllReadyH.nil
 refine step_ss HK 1 (by rfl) _ _ _ (by rfl) (by rfl) (by rfl) (by rfl) (by show 6 ≤ 6; decide) info_fl (by simp [Value.oneCell']) ?_; intro _ HK' _; simp only [List.set] at HK'; replace HK := HK'; clear HK'; have hs := zH (HK.out.takeL 1)
 refine hK.out _ _ hs (fun hHeld => ?_)
 clear hK K
 try simp only [ap1, ap2, ap3, ap4, ap5]
 refine wpAnyH_done (by kernel_rfl) ?_ _
 go_wp2_with fail
 refine ret_fl Tryz.results134 rfl rfl (HK.out.blk 1 rfl) ⟨_, _, _, _, _, _, rfl, ?_, HK.out.b⟩
 clear HK hHeld
 refine ⟨?_, ?_, ?_, ?_, ?_, ?_⟩ <;> simp [and_assoc]
end Go.Proofs.YtpkodjllljnleaaGreat
namespace Go.Proofs.YtpkodjllljnleaaGreat
open Go.RowKit
section
variable {b0 : Nat} {w0 w : World} {L : List (Nat × TypeId × Array Value)} {R : List RowE} {ops : Array Oper} {rest : List Oper} {o : Oper} {a : Act} {Q : Exit → Act → World → Prop}
theorem wpList_akF (HK : Hid (Kn b0 w0 w L R)) (hgd : o.guard = none) (ho : o.op = .alloc 112)
  (h : ∀ w' g, Hid (Kn b0 w0 w' (L ++ [(g, 112, fl false false false false false false)]) R) → wpList Tryz.prog ops Q rest (a.put o.dst (.pointer (some ⟨g, 0, none⟩))) w') : wpList Tryz.prog ops Q (o :: rest) a w :=
 wpList_plain hgd fun K hK => by
  have h4 := h _ w.heap.size (zH (HK.out.alloc _ _))
  unfold Oper.wp execOp
  simp only [ho]
  unfold fl at h4
  go_simp
  exact hK _ _ h4
theorem wpList_sfL (HK : Hid (Kn b0 w0 w L R)) (i : Nat) (hgd : o.guard = none) (p q : Operand) (ho : o.op = .store 112 p q) {g : Nat} {x0 x1 x2 x3 x4 x5 y0 y1 y2 y3 y4 y5 : Bool} (hL : L[i]? = some (g, 112, fl x0 x1 x2 x3 x4 x5)) (hx : a.eval p = .pointer (some ⟨g, 0, none⟩)) (hy : a.eval q = .agg (fl y0 y1 y2 y3 y4 y5))
  (h : ∀ w', Hid (Kn b0 w0 w' (L.set i (g, 112, fl y0 y1 y2 y3 y4 y5)) R) → Hid (w'.heap.size = w.heap.size) → wpList Tryz.prog ops Q rest (a.put o.dst undef) w') : wpList Tryz.prog ops Q (o :: rest) a w :=
 wpList_ss HK i hgd _ p q ho hL hx hy (by show 6 ≤ 6; decide) info_fl (by simp [fl, Value.oneCell']) fun w' h1 h2 => h w' (by
  have e : putCells (fl x0 x1 x2 x3 x4 x5) 0 (fl y0 y1 y2 y3 y4 y5).toList = fl y0 y1 y2 y3 y4 y5 := by
   rw [putCells_all (vs := (fl y0 y1 y2 y3 y4 y5).toList) (cs := fl x0 x1 x2 x3 x4 x5) rfl, Array.toArray_toList]
  rw [e] at h1
  exact h1) h2
end
def at6 (b0 b1 b2 b3 b4 b5 : Bool) : Nat → Bool
 | 0 => b0
 | 1 => b1
 | 2 => b2
 | 3 => b3
 | 4 => b4
 | _ => b5
theorem at6_cell {b0 b1 b2 b3 b4 b5 : Bool} {k : Nat} (h : k < 6) : (fl b0 b1 b2 b3 b4 b5)[k]? = some (.bool (at6 b0 b1 b2 b3 b4 b5 k)) := by
 match k, h with
 | 0, _ | 1, _ | 2, _ | 3, _ | 4, _ | 5, _ => rfl
theorem others_at (c : Cmd.C) {b0 b1 b2 b3 b4 b5 : Bool} (h : (b0 = false ↔ c.name.size = 0) ∧ (b1 = false ↔ c.key.size = 0) ∧ (b2 = false ↔ Cmd.nil c.val) ∧ (b3 = false ↔ Cmd.nil c.old) ∧ (b4 = false ↔ c.n = 0) ∧ (b5 = false ↔ c.m = 0)) :
  Cmd.others c ↔ ∀ j, j < 6 → ¬ (at6 b0 b1 b2 b3 b4 b5 j = true ∧ at6 (Cmd.f0 c.k) (Cmd.f1 c.k) (Cmd.f3 c.k) (Cmd.f2 c.k) (Cmd.f4 c.k) (Cmd.f5 c.k) j = false) := by
 obtain ⟨h0, h1, h2, h3, h4, h5⟩ := h
 unfold Cmd.others
 rw [← h0, ← h1, ← h2, ← h3, ← h4, ← h5]
 constructor
 ·rintro ⟨g0, g1, g2, g3, g4, g5⟩ j hj ⟨k1, k2⟩
  match j, hj with
  | 0, _ => simp_all [at6]
  | 1, _ => simp_all [at6]
  | 2, _ => simp_all [at6]
  | 3, _ => simp_all [at6]
  | 4, _ => simp_all [at6]
  | 5, _ => simp_all [at6]
 ·intro h
  have k0 := h 0 (by decide)
  have k1 := h 1 (by decide)
  have k2 := h 2 (by decide)
  have k3 := h 3 (by decide)
  have k4 := h 4 (by decide)
  have k5 := h 5 (by decide)
  simp only [at6, not_and, Bool.not_eq_false] at k0 k1 k2 k3 k4 k5
  refine ⟨?_, ?_, ?_, ?_, ?_, ?_⟩
  ·cases hb : b0 <;> simp_all
  ·cases hb : b1 <;> simp_all
  ·cases hb : b3 <;> simp_all
  ·cases hb : b2 <;> simp_all
  ·cases hb : b4 <;> simp_all
  ·cases hb : b5 <;> simp_all
set_option maxRecDepth 10000 in
set_option maxHeartbeats 12800000 in
theorem cnames_any (c : Cmd.C) (w : World) : Calls Tryz.prog 95 #[.agg (cmA c)] w fun en w' => en = .returned (.int .i64 (Cmd.cN c)) ∧ Below w.heap.size w w' := by
 have HN := zH (fun W => cnamed_any c.k W)
 have HF := zH (fun W => cfilled_any c W)
 have HOth := zH (fun b0 b1 b2 b3 b4 b5 h => others_at c (b0 := b0) (b1 := b1) (b2 := b2) (b3 := b3) (b4 := b4) (b5 := b5) h)
 have HE : Hid (∀ x : Int, Cmd.cN c = x → ∀ (en : Ending) (w' : World), (en = .returned (.int .i64 x) ∧ Below w.heap.size w w') → (en = .returned (.int .i64 (Cmd.cN c)) ∧ Below w.heap.size w w')) := zH fun x hx en w' h => by rw [hx]; exact h
 have h1 : ¬ (1 ≤ c.k ∧ c.k ≤ 18) → Cmd.cN c = 1 := fun h => if_pos (by omega)
 have h2 : Cmd.f0 c.k = true → c.name.size = 0 → Cmd.cN c = 1 := fun h h' => if_pos (.inr (.inr (.inr ⟨h, h'⟩)))
 have h3 : ¬ Cmd.others c → Cmd.cN c = 1 := fun h => if_pos (.inr (.inr (.inl h)))
 have h4 : (1 ≤ c.k ∧ c.k ≤ 18) → (Cmd.f0 c.k = true → ¬ c.name.size = 0) → Cmd.others c → Cmd.cN c = 0 := fun h h' h'' => if_neg (by rintro (g | g | g | g); omega; omega; exact g h''; exact h' g.1 g.2)
 have H1 := zH h1
 have H2 := zH h2
 have H3 := zH h3
 have H4 := zH h4
 clear h1 h2 h3 h4
 generalize Cmd.cN c = z at *
 generalize Cmd.f0 c.k = a0 at *
 generalize Cmd.f1 c.k = a1 at *
 generalize Cmd.f2 c.k = a2 at *
 generalize Cmd.f3 c.k = a3 at *
 generalize Cmd.f4 c.k = a4 at *
 generalize Cmd.f5 c.k = a5 at *
 generalize hok : decide (1 ≤ c.k ∧ c.k ≤ 18) = ok at *
 have HOK := zH hok
 clear hok
 obtain ⟨k, name, key, ⟨vk, vn, vf, vs⟩, ⟨o1, on, of, os⟩, n, m⟩ := c
 unfold cmA IsN IsFl at *
 simp only at *
 have HK := kn1 w 29 (cmC k name key vk vn vf vs o1 on of os n m)
 go_enter Tryz.func95, Tryz.ntmps95
 go_wp2_with (first | refine wpList_of_exec (by rfl) (kexec_bi HK 0 _ rfl rfl rfl rfl) ?_)
 refine (HN.out _).mono ?_; rintro e w1 ⟨rfl, x1⟩
 replace HK := hkC HK x1
 clear x1
 go_upto_region 2 with (first | (refine wpList_akF HK rfl rfl ?_; intro _ g3 HK'; simp only [lcA, lnA] at HK'; replace HK := HK'; clear HK') | (refine wpList_sfL HK 1 rfl _ _ rfl rfl rfl rfl ?_; intro _ HK' _; simp only [List.set] at HK'; replace HK := HK'; clear HK'))
 go_wp2_with (first | refine wpList_of_exec (by rfl) (kexec_cm HK 0 _ rfl rfl rfl) ?_)
 refine (HF.out _).mono ?_; rintro e w2 ⟨b0, b1, b2, b3, b4, b5, rfl, hb, x2⟩
 replace HK := hkC HK x2
 have HB := zH hb
 have HO2 := zH (HOth.out _ _ _ _ _ _ hb)
 clear x2 hb HOth
 go_upto_region 3 with (first | (refine wpList_akF HK rfl rfl ?_; intro _ g4 HK'; simp only [lcA, lnA] at HK'; replace HK := HK'; clear HK') | (refine wpList_sfL HK 2 rfl _ _ rfl rfl rfl rfl ?_; intro wz HK' _; simp only [List.set] at HK'; replace HK := HK'; clear HK'))
 have y0_ := HK.out.cell 1 rfl 0 (v := .bool a0) rfl
 have y1_ := HK.out.cell 2 rfl 0 (v := .bool b0) rfl
 cases ok
 ·go_wp2_with fail
  go_ret
  exact HE.out 1 (H1.out (of_decide_eq_false HOK.out)) _ _ ⟨rfl, HK.out.b⟩
 have hq : (a0 = true ∧ b0 = false) ∨ (a0 = false) ∨ (a0 = true ∧ b0 = true) := by cases a0 <;> cases b0 <;> simp
 rcases hq with ⟨rfl, rfl⟩ | hq
 ·go_wp2_with fail
  go_ret
  exact HE.out 1 (H2.out (by simp) (HB.out.1.1 (by simp))) _ _ ⟨rfl, HK.out.b⟩
 have HNM : Hid (a0 = true → ¬ name.size = 0) := zH fun h h' => by
  have := HB.out.1.2 h'
  rcases hq with hq | hq <;> simp_all
 have HG : Hid (∀ j, j < 6 → wz.cell? ⟨g3, j, none⟩ = some (.bool (at6 a0 a1 a3 a2 a4 a5 j)) ∧ wz.cell? ⟨g4, j, none⟩ = some (.bool (at6 b0 b1 b2 b3 b4 b5 j))) := zH fun j hj => And.intro (HK.out.cell 1 rfl j (at6_cell hj)) (HK.out.cell 2 rfl j (at6_cell hj))
 have HKB := zH HK.out.b
 clear HK HB
 generalize HA : at6 a0 a1 a3 a2 a4 a5 = fa at *
 generalize HBf : at6 b0 b1 b2 b3 b4 b5 = fb at *
 clear HA HBf
 have hk1 : of_decide_eq_true HOK.out = of_decide_eq_true HOK.out := rfl
 clear hk1
 have HOK2 := zH (of_decide_eq_true HOK.out)
 clear HOK HN HF
 rcases hq with rfl | ⟨rfl, rfl⟩
 all_goals
  go_wp2_with fail
  go_loopw [26] (fun vi wr => ∃ k : Nat, k ≤ 6 ∧ vi = .int .i64 k ∧ wr = wz ∧ Hid (∀ j, j < k → ¬ (fb j = true ∧ fa j = false))) (fun vi _ => 6 - (intOf vi).toNat)
  case atStart => exact ⟨0, Nat.zero_le _, rfl, rfl, zH fun j hj => absurd hj (by omega)⟩
  case round =>
   obtain ⟨q, hq, rfl, rfl, hh⟩ := hrel
   by_cases hlt : q < 6
   ·obtain ⟨c1, c2⟩ := HG.out q hlt
    have hk1 : (0 : Int) ≤ (q : Int) := by omega
    have hk2 : (q : Int) < 6 := by omega
    have HS : Hid (¬ (fb q = true ∧ fa q = false) → ∀ j, j < q + 1 → ¬ (fb j = true ∧ fa j = false)) := zH fun h j hj => by
     by_cases e : j = q
     ·subst e; exact h
     ·exact hh.out j (by omega)
    have HX : Hid ((fb q = true ∧ fa q = false) → z = 1) := zH fun h => H3.out fun ho => HO2.out.1 ho q hlt h
    generalize fa q = xa at *
    generalize fb q = xb at *
    have hc : xb = false ∨ (xb = true ∧ xa = true) ∨ (xb = true ∧ xa = false) := by cases xa <;> cases xb <;> simp
    rcases hc with rfl | ⟨rfl, rfl⟩ | ⟨rfl, rfl⟩
    ·go_wp2_with fail
     exact ⟨⟨q + 1, by omega, by go_num, by simp, zH (HS.out (by simp))⟩, by simp [intOf]; omega⟩
    ·go_wp2_with fail
     exact ⟨⟨q + 1, by omega, by go_num, by simp, zH (HS.out (by simp))⟩, by simp [intOf]; omega⟩
    ·go_wp2_with fail
     go_ret
     exact HE.out 1 (HX.out (by simp)) _ _ ⟨rfl, HKB.out⟩
   ·obtain rfl : q = 6 := by omega
    go_wp2_with fail
    go_ret
    exact HE.out 0 (H4.out HOK2.out HNM.out (HO2.out.2 hh.out)) _ _ ⟨rfl, HKB.out⟩
end Go.Proofs.YtpkodjllljnleaaGreat
namespace Go.Proofs.YtpkodjllljnleaaGreat
open Go.RowKit
set_option maxHeartbeats 800000 in
theorem or_any (g n : Nat) (xs : List Int) (w : World) (hn : xs.length = n) (hb : n ≤ 6) (hc : ∀ i x, xs[i]? = some x → w.cell? ⟨g, i, none⟩ = some (.int .i64 x)) :
  Calls Tryz.prog 94 #[.slice (some ⟨g, 0, none⟩) n n] w fun e w' => e = .returned (.int .i64 (Cmd.nz xs)) ∧ w' = w := by
 have HC := zH hc
 have HN := zH hn
 clear hc hn
 go_enter Tryz.func94, Tryz.ntmps94
 go_wp2
 go_loop [8] (fun vi => ∃ k : Nat, k ≤ n ∧ vi = .int .i64 k ∧ Hid (Cmd.nz xs = Cmd.nz (xs.drop k))) (fun vi => n - (intOf vi).toNat)
 case atStart => exact ⟨0, Nat.zero_le _, rfl, zH rfl⟩
 case round =>
  obtain ⟨k, hk, rfl, hh⟩ := hrel
  by_cases hlt : k < n
  ·have hk2 : k < xs.length := by rw [HN.out]; exact hlt
   have hd := List.drop_eq_getElem_cons hk2
   have h0 := hh.out
   rw [hd] at h0
   have hcell := HC.out k xs[k] (List.getElem?_eq_getElem hk2)
   generalize xs[k] = x at *
   by_cases hx : x = 0
   ·subst hx
    have h1 : Cmd.nz xs = Cmd.nz (xs.drop (k + 1)) := h0
    have H1 := zH h1
    clear h0 h1 hd hh hk2
    go_wp2_with fail
    exact ⟨⟨k + 1, by omega, by go_num, H1⟩, by simp [intOf]; omega⟩
   ·have h1 : Cmd.nz xs = x := h0.trans (if_pos hx)
    have H1 := zH h1
    clear h0 h1 hd hh hk2
    have hx2 : (x != 0) = true := by simpa using hx
    go_wp2_with fail
    go_ret
    exact ⟨by rw [H1.out]; rfl, rfl⟩
  ·obtain rfl : k = n := by omega
   have h0 := hh.out
   rw [List.drop_of_length_le (by rw [HN.out]; exact Nat.le_refl _)] at h0
   have H1 := zH h0
   clear h0 hh
   go_wp2_with fail
   go_ret
   exact ⟨by rw [H1.out]; rfl, rfl⟩
theorem or6_any (a b c d e f : Int) (W : World) (t : TypeId) (g : Nat) (hg : g = W.heap.size) : Calls Tryz.prog 94 #[.slice (some ⟨g, 0, none⟩) 6 6] (W.alloc (.cells #[.int .i64 a, .int .i64 b, .int .i64 c, .int .i64 d, .int .i64 e, .int .i64 f] t)) fun en w' => en = .returned (.int .i64 (Cmd.nz [a, b, c, d, e, f])) ∧ w' = W.alloc (.cells #[.int .i64 a, .int .i64 b, .int .i64 c, .int .i64 d, .int .i64 e, .int .i64 f] t) := by
 subst hg
 refine or_any _ 6 [a, b, c, d, e, f] _ rfl (Nat.le_refl _) fun i x hx => ?_
 rw [World.cell?_alloc_new]
 match i, hx with
 | 0, hx | 1, hx | 2, hx | 3, hx | 4, hx | 5, hx => simp at hx; subst hx; rfl
set_option maxRecDepth 10000 in
set_option maxHeartbeats 6400000 in
theorem chk_any (c : Cmd.C) (w : World) (hv : c.val.f < 18446744073709551616) (ho : c.old.f < 18446744073709551616) : Calls Tryz.prog 44 #[.agg (cmA c)] w (IsE (Cmd.chk c) w) := by
 have HN := zH (fun W => cnames_any c W)
 have HL := zH (fun W => clen_any c W)
 have HCo := zH (fun W => check_any c.old W ho)
 have HCv := zH (fun W => check_any c.val W hv)
 have HV := zH (fun W => cval_any c W)
 have HM := zH (fun W => cnums_any c W)
 have HOr := zH (fun a b c d e f W t g hg => or6_any a b c d e f W t g hg)
 have HZ := zH (Cmd.chk_nz c)
 clear hv ho
 generalize Cmd.chk c = E at *
 generalize Val.chk c.old = eo at *
 generalize Val.chk c.val = ev at *
 generalize Cmd.cN c = zn at *
 generalize Cmd.cL c = zl at *
 generalize Cmd.cV c = zv at *
 generalize Cmd.cM c = zm at *
 obtain ⟨k, name, key, ⟨vk, vn, vf, vs⟩, ⟨ok, on, of, os⟩, n, m⟩ := c
 unfold cmA IsE vv at *
 simp only at *
 have HK := kn1 w 29 (cmC k name key vk vn vf vs ok on of os n m)
 go_enter Tryz.func44, Tryz.ntmps44
 go_wp2_with fail
 replace HK := zH HK.out.drew
 refine wp_region_held_drew (S := (fun W => Hid (Kn w.heap.size w W [(w.heap.size, 29, cmC k name key vk vn vf vs ok on of os n m)] []))) (by kernel_rfl) ?_ (fun hHeld => ?_)
 ·(try dsimp only); exact HK
 refine wpAnyH_take (i := 0) (oi := ⟨some 3, _, _, _, _, _⟩) (v := ?_) rfl (by kernel_rfl) (by kernel_rfl) (by kernel_rfl) (fun _ _ _ h => h) (Or.inl ⟨by rfl, ?_⟩) (by assumption) ?_
 rotate_left
 ·(intro w hSw; refine Eq.trans (kexec_cm hSw 0 _ (by rfl) (by rfl) (by rfl)) ?_; with_reducible rfl)
 try simp only [Act.put, List.setIfInBounds_toArray, List.set_cons_zero, List.set_cons_succ]
 refine wpAnyH_take (i := 2) (oi := ⟨some 5, _, _, _, _, _⟩) (v := ?_) rfl (by kernel_rfl) (by kernel_rfl) (by kernel_rfl) (fun _ _ _ h => h) (Or.inl ⟨by rfl, ?_⟩) (by assumption) ?_
 rotate_left
 ·(intro w hSw; refine Eq.trans (kexec_cm hSw 0 _ (by rfl) (by rfl) (by rfl)) ?_; with_reducible rfl)
 try simp only [Act.put, List.setIfInBounds_toArray, List.set_cons_zero, List.set_cons_succ]
 refine wpAnyH_take (i := 4) (oi := ⟨some 7, _, _, _, _, _⟩) (v := ?_) rfl (by kernel_rfl) (by kernel_rfl) (by kernel_rfl) (fun _ _ _ h => h) (Or.inl ⟨by rfl, ?_⟩) (by assumption) ?_
 rotate_left
 ·(intro w hSw; (try dsimp only at hSw); go_simp; try with_reducible rfl)
 try simp only [Act.put, List.setIfInBounds_toArray, List.set_cons_zero, List.set_cons_succ]
 refine wpAnyH_take (i := 5) (oi := ⟨some 8, _, _, _, _, _⟩) (v := ?_) rfl (by kernel_rfl) (by kernel_rfl) (by kernel_rfl) (fun _ _ _ h => h) (Or.inl ⟨by rfl, ?_⟩) (by assumption) ?_
 rotate_left
 ·(intro w hSw; refine Eq.trans (kexec_ol hSw 0 _ (by rfl) (by rfl) (by rfl)) ?_; with_reducible rfl)
 try simp only [Act.put, List.setIfInBounds_toArray, List.set_cons_zero, List.set_cons_succ]
 refine wpAnyH_take (i := 7) (oi := ⟨some 10, _, _, _, _, _⟩) (v := ?_) rfl (by kernel_rfl) (by kernel_rfl) (by kernel_rfl) (fun _ _ _ h => h) (Or.inl ⟨by rfl, ?_⟩) (by assumption) ?_
 rotate_left
 ·(intro w hSw; (try dsimp only at hSw); go_simp; try with_reducible rfl)
 try simp only [Act.put, List.setIfInBounds_toArray, List.set_cons_zero, List.set_cons_succ]
 refine wpAnyH_take (i := 8) (oi := ⟨some 11, _, _, _, _, _⟩) (v := ?_) rfl (by kernel_rfl) (by kernel_rfl) (by kernel_rfl) (fun _ _ _ h => h) (Or.inl ⟨by rfl, ?_⟩) (by assumption) ?_
 rotate_left
 ·(intro w hSw; refine Eq.trans (kexec_va hSw 0 _ (by rfl) (by rfl) (by rfl)) ?_; with_reducible rfl)
 try simp only [Act.put, List.setIfInBounds_toArray, List.set_cons_zero, List.set_cons_succ]
 refine wpAnyH_take (i := 10) (oi := ⟨some 13, _, _, _, _, _⟩) (v := ?_) rfl (by kernel_rfl) (by kernel_rfl) (by kernel_rfl) (fun _ _ _ h => h) (Or.inl ⟨by rfl, ?_⟩) (by assumption) ?_
 rotate_left
 ·(intro w hSw; refine Eq.trans (kexec_cm hSw 0 _ (by rfl) (by rfl) (by rfl)) ?_; with_reducible rfl)
 try simp only [Act.put, List.setIfInBounds_toArray, List.set_cons_zero, List.set_cons_succ]
 refine wpAnyH_take (i := 12) (oi := ⟨some 15, _, _, _, _, _⟩) (v := ?_) rfl (by kernel_rfl) (by kernel_rfl) (by kernel_rfl) (fun _ _ _ h => h) (Or.inl ⟨by rfl, ?_⟩) (by assumption) ?_
 rotate_left
 ·(intro w hSw; refine Eq.trans (kexec_cm hSw 0 _ (by rfl) (by rfl) (by rfl)) ?_; with_reducible rfl)
 try simp only [Act.put, List.setIfInBounds_toArray, List.set_cons_zero, List.set_cons_succ]
 refine wpAnyH_ready (rs := [1]) (by kernel_rfl) (by simp) ?_
 refine AllReadyH.cons (o := ⟨some 4, _, _, _, _, _⟩) rfl (fun K hK => ?_) AllReadyH.nil
 go_simp
 go_at_call 95
 refine (HN.out _).mono ?_; rintro e w5 ⟨rfl, b5⟩; have hs := zH (hHeld.out.call b5); clear b5
 refine hK.out _ _ hs (fun hHeld => ?_)
 clear hK K
 try simp only [ap1, ap2, ap3, ap4, ap5]
 refine wpAnyH_ready (rs := [3]) (by kernel_rfl) (by simp) ?_
 refine AllReadyH.cons (o := ⟨some 6, _, _, _, _, _⟩) rfl (fun K hK => ?_) AllReadyH.nil
 go_simp
 go_at_call 96
 refine (HL.out _).mono ?_; rintro e w5 ⟨rfl, b5⟩; have hs := zH (hHeld.out.call b5); clear b5
 refine hK.out _ _ hs (fun hHeld => ?_)
 clear hK K
 try simp only [ap1, ap2, ap3, ap4, ap5]
 refine wpAnyH_ready (rs := [6]) (by kernel_rfl) (by simp) ?_
 refine AllReadyH.cons (o := ⟨some 9, _, _, _, _, _⟩) rfl (fun K hK => ?_) AllReadyH.nil
 go_simp
 go_at_call 97
 refine (HCo.out _).mono ?_; rintro e w5 ⟨rfl, b5⟩; have hs := zH (hHeld.out.call b5); clear b5
 refine hK.out _ _ hs (fun hHeld => ?_)
 clear hK K
 try simp only [ap1, ap2, ap3, ap4, ap5]
 refine wpAnyH_ready (rs := [9]) (by kernel_rfl) (by simp) ?_
 refine AllReadyH.cons (o := ⟨some 12, _, _, _, _, _⟩) rfl (fun K hK => ?_) AllReadyH.nil
 go_simp
 go_at_call 97
 refine (HCv.out _).mono ?_; rintro e w5 ⟨rfl, b5⟩; have hs := zH (hHeld.out.call b5); clear b5
 refine hK.out _ _ hs (fun hHeld => ?_)
 clear hK K
 try simp only [ap1, ap2, ap3, ap4, ap5]
 refine wpAnyH_ready (rs := [11]) (by kernel_rfl) (by simp) ?_
 refine AllReadyH.cons (o := ⟨some 14, _, _, _, _, _⟩) rfl (fun K hK => ?_) AllReadyH.nil
 go_simp
 go_at_call 98
 refine (HV.out _).mono ?_; rintro e w5 ⟨rfl, b5⟩; have hs := zH (hHeld.out.call b5); clear b5
 refine hK.out _ _ hs (fun hHeld => ?_)
 clear hK K
 try simp only [ap1, ap2, ap3, ap4, ap5]
 refine wpAnyH_ready (rs := [13]) (by kernel_rfl) (by simp) ?_
 refine AllReadyH.cons (o := ⟨some 16, _, _, _, _, _⟩) rfl (fun K hK => ?_) AllReadyH.nil
 go_simp
 go_at_call 99
 refine (HM.out _).mono ?_; rintro e w5 ⟨rfl, b5⟩; have hs := zH (hHeld.out.call b5); clear b5
 refine hK.out _ _ hs (fun hHeld => ?_)
 clear hK K
 try simp only [ap1, ap2, ap3, ap4, ap5]
 refine wpAnyH_ready (rs := [14]) (by kernel_rfl) (by simp) ?_
 refine AllReadyH.cons (o := ⟨some 17, _, _, _, _, _⟩) rfl (fun K hK => ?_) AllReadyH.nil
 go_simp; have hs := zH (hHeld.out.allocO (.cells #[.int .i64 zn, .int .i64 zl, .int .i64 eo, .int .i64 ev, .int .i64 zv, .int .i64 zm] 31))
 refine hK.out _ _ hs (fun hHeld => ?_)
 clear hK K
 try simp only [ap1, ap2, ap3, ap4, ap5]
 refine wpAnyH_ready (rs := [15]) (by kernel_rfl) (by simp) ?_
 refine AllReadyH.cons (o := ⟨some 18, _, _, _, _, _⟩) rfl (fun K hK => ?_) AllReadyH.nil
 go_simp
 go_at_call 94
 refine (HOr.out _ _ _ _ _ _ _ _ _ rfl).mono ?_; rintro e w6 ⟨rfl, rfl⟩; have hs := hHeld
 refine hK.out _ _ hs (fun hHeld => ?_)
 clear hK K
 try simp only [ap1, ap2, ap3, ap4, ap5]
 refine wpAnyH_take (i := 16) (oi := ⟨some 2, _, _, _, _, _⟩) (v := ?_) rfl (by kernel_rfl) (by kernel_rfl) (by kernel_rfl) (fun _ _ _ h => h) (Or.inl ⟨by rfl, ?_⟩) (by assumption) ?_
 rotate_left
 ·(intro w hSw; (try dsimp only at hSw); go_simp; try with_reducible rfl)
 try simp only [Act.put, List.setIfInBounds_toArray, List.set_cons_zero, List.set_cons_succ]
 refine wpAnyH_done (by kernel_rfl) ?_ _
 go_wp2_with fail
 go_ret
 exact ⟨congrArg (fun z => Ending.returned (.int .i64 z)) HZ.out, hHeld.out.b⟩
end Go.Proofs.YtpkodjllljnleaaGreat
set_option maxRecDepth 100000
namespace Go.Proofs.YtpkodjllljnleaaGreat
open Go.ChangeShapes Go.WideShapes Go.Deep Go.RowKit
def cmL (c : Cmd.C) : List Value :=
 [.int .i64 c.k, .string c.name, .string c.key, .int .i64 c.val.k, .int .i64 c.val.n, .int .u64 (c.val.f : Int), .string c.val.s, .int .i64 c.old.k, .int .i64 c.old.n, .int .u64 (c.old.f : Int), .string c.old.s, .int .i64 c.n, .int .i64 c.m]
section
variable {H : Type} {enc : TypeId × Value → H} {W : World} {base : Nat} {α : Type}
theorem cells_cmd : Tryz.prog.cellsOf 29 = 13 := by kernel_rfl
theorem opens_cmd : OpensT enc 29 cmL (fun c => c.val.f < 18446744073709551616 ∧ c.old.f < 18446744073709551616) := fun W n cs x ht => by
 obtain ⟨ys, m, _, hx, hlen, hyl, hf⟩ := DataW.trod_struct Tryz.underlying29 ht
 have hlen : cs.length = Tryz.prog.cellsOf 29 := hlen
 rw [cells_cmd] at hlen
 match cs, hlen, ys, hyl with
 | [v0, v1, v2, v3, v4, v5, v6, v7, v8, v9, v10, v11, v12], _, [y0, y1, y2, y3, y4, y5, y6], _ =>
  have f0 := hf 0 _ rfl
  have f1 := hf 1 _ rfl
  have f2 := hf 2 _ rfl
  have f3 := hf 3 _ rfl
  have f4 := hf 4 _ rfl
  have f5 := hf 5 _ rfl
  have f6 := hf 6 _ rfl
  simp only [List.getElem?_cons_zero, List.getElem?_cons_succ] at f0 f1 f2 f3 f4 f5 f6
  obtain ⟨a0, e0, _, _⟩ := DataW.trod_int Tryz.underlying3 f0
  obtain ⟨a1, e1, _, _⟩ := DataW.trod_string Tryz.underlying9 f1
  obtain ⟨a2, e2, _, _⟩ := DataW.trod_string Tryz.underlying9 f2
  obtain ⟨a3, e3, w3⟩ := opens_val (enc := enc) W _ _ _ f3
  obtain ⟨a4, e4, w4⟩ := opens_val (enc := enc) W _ _ _ f4
  obtain ⟨a5, e5, _, _⟩ := DataW.trod_int Tryz.underlying3 f5
  obtain ⟨a6, e6, _, _⟩ := DataW.trod_int Tryz.underlying3 f6
  cases e0; cases e1; cases e2; cases e3; cases e4; cases e5; cases e6
  exact ⟨⟨a0, a1, a2, a3, a4, a5, a6⟩, rfl, w3, w4⟩
theorem Lift.Given.cmd {ts : List TypeId} {args : List Value} {ds : List (DataW H)} {before : List MemPlace} (h : Lift.Given enc Tryz.prog (29 :: ts) W base args ds before) :
  ∃ (x : Cmd.C) (vs : List Value) (d : DataW H) (ds' : List (DataW H)) (q : List MemPlace), args = .agg (cmL x).toArray :: vs ∧ ds = d :: ds' ∧ (x.val.f < 18446744073709551616 ∧ x.old.f < 18446744073709551616) ∧ Lift.Given enc Tryz.prog ts W base vs ds' q := h.one opens_cmd Tryz.underlying29
end
end Go.Proofs.YtpkodjllljnleaaGreat
