/-
  What the document's Right, numbers, others return.
  No condition.
-/
import Derived.Test.YtakjggmiilkmdaaCmdRNames
import Derived.Test.YtakjggmiilkmdaaJNam
import Derived.Test.YtakjggmiilkmdaaValRChk
set_option linter.unusedSimpArgs false
set_option linter.unusedVariables false
namespace Go.Proofs.Ytakjggmiilkmdaa
open Go.RowKit

set_option maxHeartbeats 3200000 in
theorem crright_any (e : Cmd.E) (w : World) : Calls Try.prog 43 #[.agg #[.int .i64 e.c, .int .i64 e.e, .int .i64 e.r]] w fun en w' => en = .returned (.bool (decide (Cmd.right e))) ∧ Below w.heap.size w w' := by
  have HE : Hid (∀ q : Bool, (q = true ↔ (0 ≤ e.c ∧ e.c < 5 ∧ 1 ≤ e.e ∧ 0 ≤ e.r)) → q = decide (Cmd.right e)) := Lib.hid fun q hq => by
    rw [Bool.eq_iff_iff, hq, decide_eq_true_eq]
    exact Iff.rfl
  generalize decide (Cmd.right e) = r at *
  obtain ⟨c, ep, rq, cmd⟩ := e
  simp only at HE ⊢
  have HK := kn1 w 28 #[.int .i64 c, .int .i64 ep, .int .i64 rq]
  go_enter Try.func43, Try.ntmps43
  go_wp2_with fail
  all_goals
    go_ret
    refine ⟨congrArg (fun b => Ending.returned (.bool b)) (HE.out _ ?_), HK.out.b⟩
    clear HE HK
    simp_all <;> omega
set_option maxHeartbeats 6400000 in
theorem rnumbers_any (c : Cmd.C) (w : World) : Calls Try.prog 56 #[.agg (cmA c)] w fun en w' => en = .returned (.bool (decide (Cmd.nums c))) ∧ Below w.heap.size w w' := by
  have HE : Hid (∀ q : Bool, (q = true ↔ Cmd.nums c) → q = decide (Cmd.nums c)) := Lib.hid fun q hq => by
    rw [Bool.eq_iff_iff, hq, decide_eq_true_eq]
  generalize decide (Cmd.nums c) = r at *
  obtain ⟨k, name, key, val, old, n, m⟩ := c
  unfold cmA
  simp only at HE ⊢
  have HK := kn1 w 33 (cmC k name key val.k val.n val.f val.s old.k old.n old.f old.s n m)
  have p0 : (cmC k name key val.k val.n val.f val.s old.k old.n old.f old.s n m)[0]? = some (.int .i64 k) := rfl
  have p11 : (cmC k name key val.k val.n val.f val.s old.k old.n old.f old.s n m)[11]? = some (.int .i64 n) := rfl
  have p12 : (cmC k name key val.k val.n val.f val.s old.k old.n old.f old.s n m)[12]? = some (.int .i64 m) := rfl
  generalize cmC k name key val.k val.n val.f val.s old.k old.n old.f old.s n m = pa at *
  go_enter Try.func56, Try.ntmps56
  go_wp2_with fail
  all_goals
    go_ret
    refine ⟨congrArg (fun b => Ending.returned (.bool b)) (HE.out _ ?_), HK.out.b⟩
    clear HE HK p0 p11 p12
    unfold Cmd.nums
    simp_all <;> omega
set_option maxHeartbeats 6400000 in
theorem rothersA (k : Int) (name key : ByteArray) (vk vn : Int) (vf : Nat) (vs : ByteArray) (ok on : Int) (of : Nat) (os : ByteArray) (n m : Int) (w : World) :
    Calls Try.prog 54 #[.agg (cmC k name key vk vn vf vs ok on of os n m), .agg (fl true false false false true true)] w fun en w' => (∃ b, en = .returned (.bool b) ∧ (b = true ↔ (key.toList = [] ∧ (ok = 0 ∧ on = 0 ∧ of = 0 ∧ os.toList = []) ∧ (vk = 0 ∧ vn = 0 ∧ vf = 0 ∧ vs.toList = [])))) ∧ Below w.heap.size w w' := by
  have HK := kn2 w 33 (cmC k name key vk vn vf vs ok on of os n m) 72 (fl true false false false true true)
  have p0 : (cmC k name key vk vn vf vs ok on of os n m)[0]? = some (.int .i64 k) := rfl
  have p1 : (cmC k name key vk vn vf vs ok on of os n m)[1]? = some (.string name) := rfl
  have p2 : (cmC k name key vk vn vf vs ok on of os n m)[2]? = some (.string key) := rfl
  have p3 : (cmC k name key vk vn vf vs ok on of os n m)[3]? = some (.int .i64 vk) := rfl
  have p4 : (cmC k name key vk vn vf vs ok on of os n m)[4]? = some (.int .i64 vn) := rfl
  have p5 : (cmC k name key vk vn vf vs ok on of os n m)[5]? = some (.int .u64 (vf : Int)) := rfl
  have p6 : (cmC k name key vk vn vf vs ok on of os n m)[6]? = some (.string vs) := rfl
  have p7 : (cmC k name key vk vn vf vs ok on of os n m)[7]? = some (.int .i64 ok) := rfl
  have p8 : (cmC k name key vk vn vf vs ok on of os n m)[8]? = some (.int .i64 on) := rfl
  have p9 : (cmC k name key vk vn vf vs ok on of os n m)[9]? = some (.int .u64 (of : Int)) := rfl
  have p10 : (cmC k name key vk vn vf vs ok on of os n m)[10]? = some (.string os) := rfl
  have p11 : (cmC k name key vk vn vf vs ok on of os n m)[11]? = some (.int .i64 n) := rfl
  have p12 : (cmC k name key vk vn vf vs ok on of os n m)[12]? = some (.int .i64 m) := rfl
  have q0 : (fl true false false false true true)[0]? = some (.bool true) := rfl
  have q1 : (fl true false false false true true)[1]? = some (.bool false) := rfl
  have q2 : (fl true false false false true true)[2]? = some (.bool false) := rfl
  have q3 : (fl true false false false true true)[3]? = some (.bool false) := rfl
  have q4 : (fl true false false false true true)[4]? = some (.bool true) := rfl
  have q5 : (fl true false false false true true)[5]? = some (.bool true) := rfl
  generalize cmC k name key vk vn vf vs ok on of os n m = pa at *
  generalize fl true false false false true true = pb at *
  go_enter Try.func54, Try.ntmps54
  go_wp2_with fail
  all_goals
    go_ret
    refine ⟨⟨_, rfl, ?_⟩, HK.out.b⟩
    clear HK p0 p1 p2 p3 p4 p5 p6 p7 p8 p9 p10 p11 p12 q0 q1 q2 q3 q4 q5
    simp_all <;> omega
set_option maxHeartbeats 6400000 in
theorem rothersB (k : Int) (name key : ByteArray) (vk vn : Int) (vf : Nat) (vs : ByteArray) (ok on : Int) (of : Nat) (os : ByteArray) (n m : Int) (w : World) :
    Calls Try.prog 54 #[.agg (cmC k name key vk vn vf vs ok on of os n m), .agg (fl true false false false false false)] w fun en w' => (∃ b, en = .returned (.bool b) ∧ (b = true ↔ (key.toList = [] ∧ (ok = 0 ∧ on = 0 ∧ of = 0 ∧ os.toList = []) ∧ (vk = 0 ∧ vn = 0 ∧ vf = 0 ∧ vs.toList = []) ∧ n = 0 ∧ m = 0))) ∧ Below w.heap.size w w' := by
  have HK := kn2 w 33 (cmC k name key vk vn vf vs ok on of os n m) 72 (fl true false false false false false)
  have p0 : (cmC k name key vk vn vf vs ok on of os n m)[0]? = some (.int .i64 k) := rfl
  have p1 : (cmC k name key vk vn vf vs ok on of os n m)[1]? = some (.string name) := rfl
  have p2 : (cmC k name key vk vn vf vs ok on of os n m)[2]? = some (.string key) := rfl
  have p3 : (cmC k name key vk vn vf vs ok on of os n m)[3]? = some (.int .i64 vk) := rfl
  have p4 : (cmC k name key vk vn vf vs ok on of os n m)[4]? = some (.int .i64 vn) := rfl
  have p5 : (cmC k name key vk vn vf vs ok on of os n m)[5]? = some (.int .u64 (vf : Int)) := rfl
  have p6 : (cmC k name key vk vn vf vs ok on of os n m)[6]? = some (.string vs) := rfl
  have p7 : (cmC k name key vk vn vf vs ok on of os n m)[7]? = some (.int .i64 ok) := rfl
  have p8 : (cmC k name key vk vn vf vs ok on of os n m)[8]? = some (.int .i64 on) := rfl
  have p9 : (cmC k name key vk vn vf vs ok on of os n m)[9]? = some (.int .u64 (of : Int)) := rfl
  have p10 : (cmC k name key vk vn vf vs ok on of os n m)[10]? = some (.string os) := rfl
  have p11 : (cmC k name key vk vn vf vs ok on of os n m)[11]? = some (.int .i64 n) := rfl
  have p12 : (cmC k name key vk vn vf vs ok on of os n m)[12]? = some (.int .i64 m) := rfl
  have q0 : (fl true false false false false false)[0]? = some (.bool true) := rfl
  have q1 : (fl true false false false false false)[1]? = some (.bool false) := rfl
  have q2 : (fl true false false false false false)[2]? = some (.bool false) := rfl
  have q3 : (fl true false false false false false)[3]? = some (.bool false) := rfl
  have q4 : (fl true false false false false false)[4]? = some (.bool false) := rfl
  have q5 : (fl true false false false false false)[5]? = some (.bool false) := rfl
  generalize cmC k name key vk vn vf vs ok on of os n m = pa at *
  generalize fl true false false false false false = pb at *
  go_enter Try.func54, Try.ntmps54
  go_wp2_with fail
  all_goals
    go_ret
    refine ⟨⟨_, rfl, ?_⟩, HK.out.b⟩
    clear HK p0 p1 p2 p3 p4 p5 p6 p7 p8 p9 p10 p11 p12 q0 q1 q2 q3 q4 q5
    simp_all <;> omega
set_option maxHeartbeats 6400000 in
theorem rothersC (k : Int) (name key : ByteArray) (vk vn : Int) (vf : Nat) (vs : ByteArray) (ok on : Int) (of : Nat) (os : ByteArray) (n m : Int) (w : World) :
    Calls Try.prog 54 #[.agg (cmC k name key vk vn vf vs ok on of os n m), .agg (fl true true false false false false)] w fun en w' => (∃ b, en = .returned (.bool b) ∧ (b = true ↔ ((ok = 0 ∧ on = 0 ∧ of = 0 ∧ os.toList = []) ∧ (vk = 0 ∧ vn = 0 ∧ vf = 0 ∧ vs.toList = []) ∧ n = 0 ∧ m = 0))) ∧ Below w.heap.size w w' := by
  have HK := kn2 w 33 (cmC k name key vk vn vf vs ok on of os n m) 72 (fl true true false false false false)
  have p0 : (cmC k name key vk vn vf vs ok on of os n m)[0]? = some (.int .i64 k) := rfl
  have p1 : (cmC k name key vk vn vf vs ok on of os n m)[1]? = some (.string name) := rfl
  have p2 : (cmC k name key vk vn vf vs ok on of os n m)[2]? = some (.string key) := rfl
  have p3 : (cmC k name key vk vn vf vs ok on of os n m)[3]? = some (.int .i64 vk) := rfl
  have p4 : (cmC k name key vk vn vf vs ok on of os n m)[4]? = some (.int .i64 vn) := rfl
  have p5 : (cmC k name key vk vn vf vs ok on of os n m)[5]? = some (.int .u64 (vf : Int)) := rfl
  have p6 : (cmC k name key vk vn vf vs ok on of os n m)[6]? = some (.string vs) := rfl
  have p7 : (cmC k name key vk vn vf vs ok on of os n m)[7]? = some (.int .i64 ok) := rfl
  have p8 : (cmC k name key vk vn vf vs ok on of os n m)[8]? = some (.int .i64 on) := rfl
  have p9 : (cmC k name key vk vn vf vs ok on of os n m)[9]? = some (.int .u64 (of : Int)) := rfl
  have p10 : (cmC k name key vk vn vf vs ok on of os n m)[10]? = some (.string os) := rfl
  have p11 : (cmC k name key vk vn vf vs ok on of os n m)[11]? = some (.int .i64 n) := rfl
  have p12 : (cmC k name key vk vn vf vs ok on of os n m)[12]? = some (.int .i64 m) := rfl
  have q0 : (fl true true false false false false)[0]? = some (.bool true) := rfl
  have q1 : (fl true true false false false false)[1]? = some (.bool true) := rfl
  have q2 : (fl true true false false false false)[2]? = some (.bool false) := rfl
  have q3 : (fl true true false false false false)[3]? = some (.bool false) := rfl
  have q4 : (fl true true false false false false)[4]? = some (.bool false) := rfl
  have q5 : (fl true true false false false false)[5]? = some (.bool false) := rfl
  generalize cmC k name key vk vn vf vs ok on of os n m = pa at *
  generalize fl true true false false false false = pb at *
  go_enter Try.func54, Try.ntmps54
  go_wp2_with fail
  all_goals
    go_ret
    refine ⟨⟨_, rfl, ?_⟩, HK.out.b⟩
    clear HK p0 p1 p2 p3 p4 p5 p6 p7 p8 p9 p10 p11 p12 q0 q1 q2 q3 q4 q5
    simp_all <;> omega
set_option maxHeartbeats 6400000 in
theorem rothersD (k : Int) (name key : ByteArray) (vk vn : Int) (vf : Nat) (vs : ByteArray) (ok on : Int) (of : Nat) (os : ByteArray) (n m : Int) (w : World) :
    Calls Try.prog 54 #[.agg (cmC k name key vk vn vf vs ok on of os n m), .agg (fl true true false true false false)] w fun en w' => (∃ b, en = .returned (.bool b) ∧ (b = true ↔ ((ok = 0 ∧ on = 0 ∧ of = 0 ∧ os.toList = []) ∧ n = 0 ∧ m = 0))) ∧ Below w.heap.size w w' := by
  have HK := kn2 w 33 (cmC k name key vk vn vf vs ok on of os n m) 72 (fl true true false true false false)
  have p0 : (cmC k name key vk vn vf vs ok on of os n m)[0]? = some (.int .i64 k) := rfl
  have p1 : (cmC k name key vk vn vf vs ok on of os n m)[1]? = some (.string name) := rfl
  have p2 : (cmC k name key vk vn vf vs ok on of os n m)[2]? = some (.string key) := rfl
  have p3 : (cmC k name key vk vn vf vs ok on of os n m)[3]? = some (.int .i64 vk) := rfl
  have p4 : (cmC k name key vk vn vf vs ok on of os n m)[4]? = some (.int .i64 vn) := rfl
  have p5 : (cmC k name key vk vn vf vs ok on of os n m)[5]? = some (.int .u64 (vf : Int)) := rfl
  have p6 : (cmC k name key vk vn vf vs ok on of os n m)[6]? = some (.string vs) := rfl
  have p7 : (cmC k name key vk vn vf vs ok on of os n m)[7]? = some (.int .i64 ok) := rfl
  have p8 : (cmC k name key vk vn vf vs ok on of os n m)[8]? = some (.int .i64 on) := rfl
  have p9 : (cmC k name key vk vn vf vs ok on of os n m)[9]? = some (.int .u64 (of : Int)) := rfl
  have p10 : (cmC k name key vk vn vf vs ok on of os n m)[10]? = some (.string os) := rfl
  have p11 : (cmC k name key vk vn vf vs ok on of os n m)[11]? = some (.int .i64 n) := rfl
  have p12 : (cmC k name key vk vn vf vs ok on of os n m)[12]? = some (.int .i64 m) := rfl
  have q0 : (fl true true false true false false)[0]? = some (.bool true) := rfl
  have q1 : (fl true true false true false false)[1]? = some (.bool true) := rfl
  have q2 : (fl true true false true false false)[2]? = some (.bool false) := rfl
  have q3 : (fl true true false true false false)[3]? = some (.bool true) := rfl
  have q4 : (fl true true false true false false)[4]? = some (.bool false) := rfl
  have q5 : (fl true true false true false false)[5]? = some (.bool false) := rfl
  generalize cmC k name key vk vn vf vs ok on of os n m = pa at *
  generalize fl true true false true false false = pb at *
  go_enter Try.func54, Try.ntmps54
  go_wp2_with fail
  all_goals
    go_ret
    refine ⟨⟨_, rfl, ?_⟩, HK.out.b⟩
    clear HK p0 p1 p2 p3 p4 p5 p6 p7 p8 p9 p10 p11 p12 q0 q1 q2 q3 q4 q5
    simp_all <;> omega
set_option maxHeartbeats 6400000 in
theorem rothersE (k : Int) (name key : ByteArray) (vk vn : Int) (vf : Nat) (vs : ByteArray) (ok on : Int) (of : Nat) (os : ByteArray) (n m : Int) (w : World) :
    Calls Try.prog 54 #[.agg (cmC k name key vk vn vf vs ok on of os n m), .agg (fl true true true true false false)] w fun en w' => (∃ b, en = .returned (.bool b) ∧ (b = true ↔ (n = 0 ∧ m = 0))) ∧ Below w.heap.size w w' := by
  have HK := kn2 w 33 (cmC k name key vk vn vf vs ok on of os n m) 72 (fl true true true true false false)
  have p0 : (cmC k name key vk vn vf vs ok on of os n m)[0]? = some (.int .i64 k) := rfl
  have p1 : (cmC k name key vk vn vf vs ok on of os n m)[1]? = some (.string name) := rfl
  have p2 : (cmC k name key vk vn vf vs ok on of os n m)[2]? = some (.string key) := rfl
  have p3 : (cmC k name key vk vn vf vs ok on of os n m)[3]? = some (.int .i64 vk) := rfl
  have p4 : (cmC k name key vk vn vf vs ok on of os n m)[4]? = some (.int .i64 vn) := rfl
  have p5 : (cmC k name key vk vn vf vs ok on of os n m)[5]? = some (.int .u64 (vf : Int)) := rfl
  have p6 : (cmC k name key vk vn vf vs ok on of os n m)[6]? = some (.string vs) := rfl
  have p7 : (cmC k name key vk vn vf vs ok on of os n m)[7]? = some (.int .i64 ok) := rfl
  have p8 : (cmC k name key vk vn vf vs ok on of os n m)[8]? = some (.int .i64 on) := rfl
  have p9 : (cmC k name key vk vn vf vs ok on of os n m)[9]? = some (.int .u64 (of : Int)) := rfl
  have p10 : (cmC k name key vk vn vf vs ok on of os n m)[10]? = some (.string os) := rfl
  have p11 : (cmC k name key vk vn vf vs ok on of os n m)[11]? = some (.int .i64 n) := rfl
  have p12 : (cmC k name key vk vn vf vs ok on of os n m)[12]? = some (.int .i64 m) := rfl
  have q0 : (fl true true true true false false)[0]? = some (.bool true) := rfl
  have q1 : (fl true true true true false false)[1]? = some (.bool true) := rfl
  have q2 : (fl true true true true false false)[2]? = some (.bool true) := rfl
  have q3 : (fl true true true true false false)[3]? = some (.bool true) := rfl
  have q4 : (fl true true true true false false)[4]? = some (.bool false) := rfl
  have q5 : (fl true true true true false false)[5]? = some (.bool false) := rfl
  generalize cmC k name key vk vn vf vs ok on of os n m = pa at *
  generalize fl true true true true false false = pb at *
  go_enter Try.func54, Try.ntmps54
  go_wp2_with fail
  all_goals
    go_ret
    refine ⟨⟨_, rfl, ?_⟩, HK.out.b⟩
    clear HK p0 p1 p2 p3 p4 p5 p6 p7 p8 p9 p10 p11 p12 q0 q1 q2 q3 q4 q5
    simp_all <;> omega
set_option maxHeartbeats 6400000 in
theorem rothersF (k : Int) (name key : ByteArray) (vk vn : Int) (vf : Nat) (vs : ByteArray) (ok on : Int) (of : Nat) (os : ByteArray) (n m : Int) (w : World) :
    Calls Try.prog 54 #[.agg (cmC k name key vk vn vf vs ok on of os n m), .agg (fl true false false true false false)] w fun en w' => (∃ b, en = .returned (.bool b) ∧ (b = true ↔ (key.toList = [] ∧ (ok = 0 ∧ on = 0 ∧ of = 0 ∧ os.toList = []) ∧ n = 0 ∧ m = 0))) ∧ Below w.heap.size w w' := by
  have HK := kn2 w 33 (cmC k name key vk vn vf vs ok on of os n m) 72 (fl true false false true false false)
  have p0 : (cmC k name key vk vn vf vs ok on of os n m)[0]? = some (.int .i64 k) := rfl
  have p1 : (cmC k name key vk vn vf vs ok on of os n m)[1]? = some (.string name) := rfl
  have p2 : (cmC k name key vk vn vf vs ok on of os n m)[2]? = some (.string key) := rfl
  have p3 : (cmC k name key vk vn vf vs ok on of os n m)[3]? = some (.int .i64 vk) := rfl
  have p4 : (cmC k name key vk vn vf vs ok on of os n m)[4]? = some (.int .i64 vn) := rfl
  have p5 : (cmC k name key vk vn vf vs ok on of os n m)[5]? = some (.int .u64 (vf : Int)) := rfl
  have p6 : (cmC k name key vk vn vf vs ok on of os n m)[6]? = some (.string vs) := rfl
  have p7 : (cmC k name key vk vn vf vs ok on of os n m)[7]? = some (.int .i64 ok) := rfl
  have p8 : (cmC k name key vk vn vf vs ok on of os n m)[8]? = some (.int .i64 on) := rfl
  have p9 : (cmC k name key vk vn vf vs ok on of os n m)[9]? = some (.int .u64 (of : Int)) := rfl
  have p10 : (cmC k name key vk vn vf vs ok on of os n m)[10]? = some (.string os) := rfl
  have p11 : (cmC k name key vk vn vf vs ok on of os n m)[11]? = some (.int .i64 n) := rfl
  have p12 : (cmC k name key vk vn vf vs ok on of os n m)[12]? = some (.int .i64 m) := rfl
  have q0 : (fl true false false true false false)[0]? = some (.bool true) := rfl
  have q1 : (fl true false false true false false)[1]? = some (.bool false) := rfl
  have q2 : (fl true false false true false false)[2]? = some (.bool false) := rfl
  have q3 : (fl true false false true false false)[3]? = some (.bool true) := rfl
  have q4 : (fl true false false true false false)[4]? = some (.bool false) := rfl
  have q5 : (fl true false false true false false)[5]? = some (.bool false) := rfl
  generalize cmC k name key vk vn vf vs ok on of os n m = pa at *
  generalize fl true false false true false false = pb at *
  go_enter Try.func54, Try.ntmps54
  go_wp2_with fail
  all_goals
    go_ret
    refine ⟨⟨_, rfl, ?_⟩, HK.out.b⟩
    clear HK p0 p1 p2 p3 p4 p5 p6 p7 p8 p9 p10 p11 p12 q0 q1 q2 q3 q4 q5
    simp_all <;> omega
set_option maxHeartbeats 6400000 in
theorem rothersG (k : Int) (name key : ByteArray) (vk vn : Int) (vf : Nat) (vs : ByteArray) (ok on : Int) (of : Nat) (os : ByteArray) (n m : Int) (w : World) :
    Calls Try.prog 54 #[.agg (cmC k name key vk vn vf vs ok on of os n m), .agg (fl true false false false true false)] w fun en w' => (∃ b, en = .returned (.bool b) ∧ (b = true ↔ (key.toList = [] ∧ (ok = 0 ∧ on = 0 ∧ of = 0 ∧ os.toList = []) ∧ (vk = 0 ∧ vn = 0 ∧ vf = 0 ∧ vs.toList = []) ∧ m = 0))) ∧ Below w.heap.size w w' := by
  have HK := kn2 w 33 (cmC k name key vk vn vf vs ok on of os n m) 72 (fl true false false false true false)
  have p0 : (cmC k name key vk vn vf vs ok on of os n m)[0]? = some (.int .i64 k) := rfl
  have p1 : (cmC k name key vk vn vf vs ok on of os n m)[1]? = some (.string name) := rfl
  have p2 : (cmC k name key vk vn vf vs ok on of os n m)[2]? = some (.string key) := rfl
  have p3 : (cmC k name key vk vn vf vs ok on of os n m)[3]? = some (.int .i64 vk) := rfl
  have p4 : (cmC k name key vk vn vf vs ok on of os n m)[4]? = some (.int .i64 vn) := rfl
  have p5 : (cmC k name key vk vn vf vs ok on of os n m)[5]? = some (.int .u64 (vf : Int)) := rfl
  have p6 : (cmC k name key vk vn vf vs ok on of os n m)[6]? = some (.string vs) := rfl
  have p7 : (cmC k name key vk vn vf vs ok on of os n m)[7]? = some (.int .i64 ok) := rfl
  have p8 : (cmC k name key vk vn vf vs ok on of os n m)[8]? = some (.int .i64 on) := rfl
  have p9 : (cmC k name key vk vn vf vs ok on of os n m)[9]? = some (.int .u64 (of : Int)) := rfl
  have p10 : (cmC k name key vk vn vf vs ok on of os n m)[10]? = some (.string os) := rfl
  have p11 : (cmC k name key vk vn vf vs ok on of os n m)[11]? = some (.int .i64 n) := rfl
  have p12 : (cmC k name key vk vn vf vs ok on of os n m)[12]? = some (.int .i64 m) := rfl
  have q0 : (fl true false false false true false)[0]? = some (.bool true) := rfl
  have q1 : (fl true false false false true false)[1]? = some (.bool false) := rfl
  have q2 : (fl true false false false true false)[2]? = some (.bool false) := rfl
  have q3 : (fl true false false false true false)[3]? = some (.bool false) := rfl
  have q4 : (fl true false false false true false)[4]? = some (.bool true) := rfl
  have q5 : (fl true false false false true false)[5]? = some (.bool false) := rfl
  generalize cmC k name key vk vn vf vs ok on of os n m = pa at *
  generalize fl true false false false true false = pb at *
  go_enter Try.func54, Try.ntmps54
  go_wp2_with fail
  all_goals
    go_ret
    refine ⟨⟨_, rfl, ?_⟩, HK.out.b⟩
    clear HK p0 p1 p2 p3 p4 p5 p6 p7 p8 p9 p10 p11 p12 q0 q1 q2 q3 q4 q5
    simp_all <;> omega
set_option maxHeartbeats 6400000 in
theorem rothersZ (k : Int) (name key : ByteArray) (vk vn : Int) (vf : Nat) (vs : ByteArray) (ok on : Int) (of : Nat) (os : ByteArray) (n m : Int) (w : World) :
    Calls Try.prog 54 #[.agg (cmC k name key vk vn vf vs ok on of os n m), .agg (fl false false false false false false)] w fun en w' => (∃ b, en = .returned (.bool b) ∧ (b = true ↔ (name.toList = [] ∧ key.toList = [] ∧ (ok = 0 ∧ on = 0 ∧ of = 0 ∧ os.toList = []) ∧ (vk = 0 ∧ vn = 0 ∧ vf = 0 ∧ vs.toList = []) ∧ n = 0 ∧ m = 0))) ∧ Below w.heap.size w w' := by
  have HK := kn2 w 33 (cmC k name key vk vn vf vs ok on of os n m) 72 (fl false false false false false false)
  have p0 : (cmC k name key vk vn vf vs ok on of os n m)[0]? = some (.int .i64 k) := rfl
  have p1 : (cmC k name key vk vn vf vs ok on of os n m)[1]? = some (.string name) := rfl
  have p2 : (cmC k name key vk vn vf vs ok on of os n m)[2]? = some (.string key) := rfl
  have p3 : (cmC k name key vk vn vf vs ok on of os n m)[3]? = some (.int .i64 vk) := rfl
  have p4 : (cmC k name key vk vn vf vs ok on of os n m)[4]? = some (.int .i64 vn) := rfl
  have p5 : (cmC k name key vk vn vf vs ok on of os n m)[5]? = some (.int .u64 (vf : Int)) := rfl
  have p6 : (cmC k name key vk vn vf vs ok on of os n m)[6]? = some (.string vs) := rfl
  have p7 : (cmC k name key vk vn vf vs ok on of os n m)[7]? = some (.int .i64 ok) := rfl
  have p8 : (cmC k name key vk vn vf vs ok on of os n m)[8]? = some (.int .i64 on) := rfl
  have p9 : (cmC k name key vk vn vf vs ok on of os n m)[9]? = some (.int .u64 (of : Int)) := rfl
  have p10 : (cmC k name key vk vn vf vs ok on of os n m)[10]? = some (.string os) := rfl
  have p11 : (cmC k name key vk vn vf vs ok on of os n m)[11]? = some (.int .i64 n) := rfl
  have p12 : (cmC k name key vk vn vf vs ok on of os n m)[12]? = some (.int .i64 m) := rfl
  have q0 : (fl false false false false false false)[0]? = some (.bool false) := rfl
  have q1 : (fl false false false false false false)[1]? = some (.bool false) := rfl
  have q2 : (fl false false false false false false)[2]? = some (.bool false) := rfl
  have q3 : (fl false false false false false false)[3]? = some (.bool false) := rfl
  have q4 : (fl false false false false false false)[4]? = some (.bool false) := rfl
  have q5 : (fl false false false false false false)[5]? = some (.bool false) := rfl
  generalize cmC k name key vk vn vf vs ok on of os n m = pa at *
  generalize fl false false false false false false = pb at *
  go_enter Try.func54, Try.ntmps54
  go_wp2_with fail
  all_goals
    go_ret
    refine ⟨⟨_, rfl, ?_⟩, HK.out.b⟩
    clear HK p0 p1 p2 p3 p4 p5 p6 p7 p8 p9 p10 p11 p12 q0 q1 q2 q3 q4 q5
    simp_all <;> omega
end Go.Proofs.Ytakjggmiilkmdaa
