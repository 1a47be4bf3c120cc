/-
  What Right, Has and Slot return, the program's and the document's.
  No condition but that a slice is no longer than a machine's.
-/
import Derived.Test.YtichkobifmfffaaNode
import Derived.WalkKit
import Derived.WalkSpells
import Derived.WalkLawsBesides
import Derived.Handy
import Derived.Deep.QuietTactic
import Derived.BigQuiet
import Derived.Deep.Draws
import Derived.Lib.Hide
namespace Go.Proofs.Ytichkobifmfffaa
open Go.RowKit

/-- Block B is a node's two cells. -/
def Pair (w : World) (B : Nat) (x : Ident.Id) : Prop := w.heap[B]? = some (.cells #[.int .i64 x.s, .int .i64 x.c] 24 (0, 0))
section
variable {w w' : World} {B : Nat} {x : Ident.Id}
theorem Pair.lt (h : Pair w B x) : B < w.heap.size := (Array.getElem?_eq_some_iff.1 h).1
theorem Pair.cell (h : Pair w B x) (i : Nat) : w.cell? ⟨B, i, none⟩ = #[Value.int .i64 x.s, .int .i64 x.c][i]? := cell_of_row w B i _ _ (0, 0) h
theorem Pair.frozen (h : Pair w B x) (i : Nat) : w.frozen? ⟨B, i, none⟩ = false := by
  unfold Pair at h
  simp [World.frozen?, h]
theorem Pair.below {n : Nat} (h : Pair w B x) (hb : Below n w w') (hB : B < n) : Pair w' B x := (hb.block B hB).trans h
theorem Pair.alloc (h : Pair w B x) (o : Obj) : Pair (w.alloc o) B x := (Below.heap_alloc w o B h.lt).trans h
theorem Pair.drewN (h : Pair w B x) (n : Nat) : Pair (w.drewN n) B x := h
theorem Pair.new (w : World) (x : Ident.Id) : Pair (w.alloc (.cells #[.int .i64 x.s, .int .i64 x.c] 24)) w.heap.size x := heap_alloc_new w _
/-- The two cells, and that they may be written. -/
theorem Pair.all (h : Pair w B x) : w.cell? ⟨B, 0, none⟩ = some (.int .i64 x.s) ∧ w.cell? ⟨B, 1, none⟩ = some (.int .i64 x.c) ∧ w.frozen? ⟨B, 0, none⟩ = false ∧ w.frozen? ⟨B, 1, none⟩ = false :=
  ⟨h.cell 0, h.cell 1, h.frozen 0, h.frozen 1⟩
end
theorem pair_set (w : World) (B : Nat) {a b : Value} (i : Nat) (v : Value) (h : w.heap[B]? = some (.cells #[a, b] 24 (0, 0))) : (w.setCell ⟨B, i, none⟩ v).heap[B]? = some (.cells (#[a, b].setIfInBounds i v) 24 (0, 0)) := by
  simp [World.setCell, Array.getElem?_modify, h]
/-- Two stores into a box. -/
def stored2 (w : World) (B : Nat) (y : Ident.Id) : World := (w.setCell ⟨B, 0, none⟩ (.int .i64 y.s)).setCell ⟨B, 1, none⟩ (.int .i64 y.c)
theorem pair_store {w : World} {B : Nat} {x : Ident.Id} (h : Pair w B x) (y : Ident.Id) : Pair (stored2 w B y) B y :=
  pair_set _ B 1 _ (pair_set w B 0 (.int .i64 y.s) h)
theorem stored2_below {w W : World} {n B : Nat} (h : Below n W w) (hB : n ≤ B) (y : Ident.Id) : Below n W (stored2 w B y) :=
  (h.setCell (p := ⟨B, 0, none⟩) hB _).setCell (p := ⟨B, 1, none⟩) hB _
/-- A way out of a function that answers with a node's block and a slot. -/
theorem ret_node {f : Func} (hf : f.results = #[.cell 4 24, .tmp 5]) {R : Ending → World → Prop} {a : Act} {w : World} {B : Nat} {x : Ident.Id} {u : Value}
    (h2 : a.tmps[4]? = some (.pointer (some ⟨B, 0, none⟩))) (h3 : a.tmps[5]? = some u) (hd : a.defers = []) (hb : Pair w B x)
    (hR : R (.returned (.tuple #[nv x, u])) w) : bodyPost Try.prog f R Exit.ret a w := by
  obtain ⟨k0, k1, -⟩ := hb.all
  exact bodyPost_ret (v := .tuple #[.agg #[.int .i64 x.s, .int .i64 x.c], u]) (by simp [results, hf, go_sem, h2, h3, k0, k1]) hd hR

theorem right_is (x : Ident.Id) (r : Bool) (h : Ident.right x = r) : (r = true ∧ 0 ≤ x.s ∧ x.s < 7 ∧ 1 ≤ x.c) ∨ (r = false ∧ (¬ 0 ≤ x.s ∨ (0 ≤ x.s ∧ ¬ x.s < 7) ∨ (0 ≤ x.s ∧ x.s < 7 ∧ ¬ 1 ≤ x.c))) := by
  subst h
  unfold Ident.right
  by_cases h1 : 0 ≤ x.s <;> by_cases h2 : x.s < 7 <;> by_cases h3 : 1 ≤ x.c <;> simp [h1, h2, h3] <;> omega

set_option maxHeartbeats 800000 in
theorem right_any (x : Ident.Id) (w : World) : Calls Try.prog 12 #[nv x] w fun e w' => e = .returned (.bool (Ident.right x)) ∧ Below w.heap.size w w' := by
  have h := right_is x _ rfl
  obtain ⟨s, c⟩ := x
  have HB := Lib.hid ((Below.refl _ w).alloc (Nat.le_refl _) (.cells #[.int .i64 s, .int .i64 c] 24))
  simp only at h
  generalize Ident.right ⟨s, c⟩ = r at *
  unfold nv
  rcases h with ⟨rfl, h1, h2, h3⟩ | ⟨rfl, h1 | ⟨h1, h2⟩ | ⟨h1, h2, h3⟩⟩
  all_goals
    go_enter Try.func12, Try.ntmps12
    go_wp2_with fail
    go_ret
    exact ⟨rfl, HB.out⟩
set_option maxHeartbeats 800000 in
theorem rright_any (x : Ident.Id) (w : World) : Calls Try.prog 13 #[nv x] w fun e w' => e = .returned (.bool (Ident.right x)) ∧ Below w.heap.size w w' := by
  have h := right_is x _ rfl
  obtain ⟨s, c⟩ := x
  have HB := Lib.hid ((Below.refl _ w).alloc (Nat.le_refl _) (.cells #[.int .i64 s, .int .i64 c] 24))
  simp only at h
  generalize Ident.right ⟨s, c⟩ = r at *
  unfold nv
  rcases h with ⟨rfl, h1, h2, h3⟩ | ⟨rfl, h1 | ⟨h1, h2⟩ | ⟨h1, h2, h3⟩⟩
  all_goals
    go_enter Try.func13, Try.ntmps13
    go_wp2_with fail
    go_ret
    exact ⟨rfl, HB.out⟩

/-- What stands in no place so far. -/
def Lacks (l : List Ident.Id) (k : Nat) (x : Ident.Id) : Prop := ∀ y ∈ l.take k, ¬ y = x
theorem has_yes {l : List Ident.Id} {k : Nat} {x : Ident.Id} (h : l[k]? = some x) : Ident.has l x = true := by
  unfold Ident.has; exact decide_eq_true (List.mem_of_getElem? h)
theorem has_not {l : List Ident.Id} {k : Nat} {x : Ident.Id} (h : Lacks l k x) (hk : l.length ≤ k) : Ident.has l x = false := by
  unfold Ident.has
  rw [decide_eq_false_iff_not]
  intro hm
  refine h x ?_ rfl
  rw [List.take_of_length_le hk]; exact hm
theorem id_cases (s c t d : Int) : (s = t ∧ c = d) ∨ (¬ (⟨s, c⟩ : Ident.Id) = ⟨t, d⟩ ∧ ((s == t) = false ∨ (s = t ∧ (c == d) = false))) := by
  by_cases h1 : s = t
  · by_cases h2 : c = d
    · exact .inl ⟨h1, h2⟩
    · exact .inr ⟨fun e => h2 (by injection e), .inr ⟨h1, by simpa using h2⟩⟩
  · exact .inr ⟨fun e => h1 (by injection e), .inl (by simpa using h1)⟩

set_option maxHeartbeats 1600000 in
theorem has_any (A : Option Addr) (c : Nat) (l : List Ident.Id) (x : Ident.Id) (w : World) (hl : l.length ≤ 9223372036854775807) (hi : nodeLay.Reads w w.heap.size A l) :
    Calls Try.prog 16 #[.slice A l.length c, nv x] w fun e w' => e = .returned (.bool (Ident.has l x)) ∧ Below w.heap.size w w' := by
  have HI := Lib.hid hi
  clear hi
  obtain ⟨s, d⟩ := x
  have HP := Lib.hid (Pair.new w ⟨s, d⟩)
  have HB0 := Lib.hid ((Below.refl _ w).alloc (Nat.le_refl _) (.cells #[.int .i64 s, .int .i64 d] 24))
  unfold nv
  generalize hn : l.length = n at *
  have HN := Lib.hid hn
  clear hn
  go_enter Try.func16, Try.ntmps16
  go_wp2_with fail
  go_loopw [9] (fun vi wr => ∃ k : Nat, k ≤ n ∧ vi = .int .i64 k ∧ Hid (Lacks l k ⟨s, d⟩) ∧ Hid (Pair wr w.heap.size ⟨s, d⟩) ∧ Hid (Below w.heap.size w wr)) (fun vi _ => n - (intOf vi).toNat)
  case atStart => exact ⟨0, Nat.zero_le _, rfl, Lib.hid (fun y hy => by simp at hy), HP, HB0⟩
  case round =>
    obtain ⟨k, hk, rfl, HF, HQ, HB⟩ := hrel
    obtain ⟨q0, q1, -⟩ := HQ.out.all
    have hs := HB.out.size
    clear HP HB0
    by_cases hlt : k < n
    · obtain ⟨x, hx⟩ := Lay.get_of (l := l) (k := k) (by rw [HN.out]; exact hlt)
      obtain ⟨b, o, rfl, hb, hc⟩ := HI.out (by rw [HN.out]; omega)
      obtain ⟨c0, c1⟩ := at_node ((hc k x hx).keep (w' := wr) fun p hp => HB.out.cell (by rw [hp]; exact hb))
      have HX := Lib.hid hx
      obtain ⟨xs, xc⟩ := x
      have HB1 := Lib.hid (HB.out.alloc hs (.cells #[.int .i64 xs, .int .i64 xc] 24))
      have HQ1 := Lib.hid (HQ.out.alloc (.cells #[.int .i64 xs, .int .i64 xc] 24))
      have hlt2 := HQ.out.lt
      clear hx hc
      simp only at c0 c1 q0 q1
      rcases id_cases xs xc s d with ⟨rfl, rfl⟩ | ⟨hne, h1 | ⟨rfl, h1⟩⟩
      · have HR := Lib.hid (has_yes HX.out)
        go_wp2_with fail
        go_ret
        exact ⟨by rw [HR.out]; rfl, HB1.out⟩
      · have HF1 : Hid (Lacks l (k + 1) ⟨s, d⟩) := Lib.hid (Ident.take_step HF.out HX.out hne)
        clear hne HF
        go_wp2_with fail
        exact ⟨⟨k + 1, by omega, by go_num, HF1, HQ1, HB1⟩, by simp [intOf]; omega⟩
      · have HF1 : Hid (Lacks l (k + 1) ⟨xs, d⟩) := Lib.hid (Ident.take_step HF.out HX.out hne)
        clear hne HF
        go_wp2_with fail
        exact ⟨⟨k + 1, by omega, by go_num, HF1, HQ1, HB1⟩, by simp [intOf]; omega⟩
    · obtain rfl : k = n := by omega
      have HR := Lib.hid (has_not HF.out (by rw [HN.out]; exact Nat.le_refl _))
      go_wp2_with fail
      go_ret
      exact ⟨by rw [HR.out]; rfl, HB.out⟩

set_option maxHeartbeats 1600000 in
theorem rhas_any (A : Option Addr) (c : Nat) (l : List Ident.Id) (x : Ident.Id) (w : World) (hl : l.length ≤ 9223372036854775807) (hi : nodeLay.Reads w w.heap.size A l) :
    Calls Try.prog 17 #[.slice A l.length c, nv x] w fun e w' => e = .returned (.bool (Ident.has l x)) ∧ Below w.heap.size w w' := by
  have HI := Lib.hid hi
  clear hi
  obtain ⟨s, d⟩ := x
  have HP := Lib.hid (Pair.new w ⟨s, d⟩)
  have HB0 := Lib.hid ((Below.refl _ w).alloc (Nat.le_refl _) (.cells #[.int .i64 s, .int .i64 d] 24))
  unfold nv
  generalize hn : l.length = n at *
  have HN := Lib.hid hn
  clear hn
  go_enter Try.func17, Try.ntmps17
  go_wp2_with fail
  go_loopw [5] (fun vi wr => ∃ k : Nat, k ≤ n ∧ vi = .int .i64 k ∧ Hid (Lacks l k ⟨s, d⟩) ∧ Hid (Pair wr w.heap.size ⟨s, d⟩) ∧ Hid (Below w.heap.size w wr)) (fun vi _ => n - (intOf vi).toNat)
  case atStart => exact ⟨0, Nat.zero_le _, rfl, Lib.hid (fun y hy => by simp at hy), HP, HB0⟩
  case round =>
    obtain ⟨k, hk, rfl, HF, HQ, HB⟩ := hrel
    obtain ⟨q0, q1, -⟩ := HQ.out.all
    have hs := HB.out.size
    clear HP HB0
    by_cases hlt : k < n
    · obtain ⟨x, hx⟩ := Lay.get_of (l := l) (k := k) (by rw [HN.out]; exact hlt)
      obtain ⟨b, o, rfl, hb, hc⟩ := HI.out (by rw [HN.out]; omega)
      obtain ⟨c0, c1⟩ := at_node ((hc k x hx).keep (w' := wr) fun p hp => HB.out.cell (by rw [hp]; exact hb))
      have HX := Lib.hid hx
      obtain ⟨xs, xc⟩ := x
      have hk1 : (0 : Int) ≤ (k : Int) := by omega
      have hk2 : (k : Int) < (n : Int) := by omega
      clear hx hc
      simp only at c0 c1 q0 q1
      rcases id_cases xs xc s d with ⟨rfl, rfl⟩ | ⟨hne, h1 | ⟨rfl, h1⟩⟩
      · have HR := Lib.hid (has_yes HX.out)
        go_wp2_with fail
        go_quiet (fail)
        go_wp2_with fail
        go_ret
        exact ⟨by rw [HR.out]; rfl, Lift.drewN_then HB.out _⟩
      · have HF1 : Hid (Lacks l (k + 1) ⟨s, d⟩) := Lib.hid (Ident.take_step HF.out HX.out hne)
        clear hne HF
        go_wp2_with fail
        go_quiet (fail)
        go_wp2_with fail
        exact ⟨⟨k + 1, by omega, by go_num, HF1, Lib.hid (HQ.out.drewN _), Lib.hid (Lift.drewN_then HB.out _)⟩, by simp [intOf]; omega⟩
      · have HF1 : Hid (Lacks l (k + 1) ⟨xs, d⟩) := Lib.hid (Ident.take_step HF.out HX.out hne)
        clear hne HF
        go_wp2_with fail
        go_quiet (fail)
        go_wp2_with fail
        exact ⟨⟨k + 1, by omega, by go_num, HF1, Lib.hid (HQ.out.drewN _), Lib.hid (Lift.drewN_then HB.out _)⟩, by simp [intOf]; omega⟩
    · obtain rfl : k = n := by omega
      have HR := Lib.hid (has_not HF.out (by rw [HN.out]; exact Nat.le_refl _))
      go_wp2_with fail
      go_ret
      exact ⟨by rw [HR.out]; rfl, HB.out⟩
end Go.Proofs.Ytichkobifmfffaa
