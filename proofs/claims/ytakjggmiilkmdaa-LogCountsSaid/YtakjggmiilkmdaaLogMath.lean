/-
  Logs: whether one may be, what is in it; what comes, stays, is taken, goes; pieces; what counts agree on.
  Pure. No condition but those named.
-/
import Derived.Test.YtakjggmiilkmdaaJMath
namespace Go.Proofs.Ytakjggmiilkmdaa
structure Lg where
  b : Int
  c : Int
  d : Int
  ev : List Cmd.E
namespace Lgm
def en (l : Lg) : Int := l.b + (l.ev.length : Int)
def Right (l : Lg) : Prop := 0 ≤ l.b ∧ l.ev.length ≤ 16 ∧ l.b ≤ 4611686018427387904 ∧ l.b ≤ l.d ∧ l.d ≤ l.c ∧ l.c ≤ en l ∧ ∀ e ∈ l.ev, Cmd.fits e
instance (l : Lg) : Decidable (Right l) := by unfold Right; infer_instance
/-- Of the same request. -/
def like (x e : Cmd.E) : Prop := x.c = e.c ∧ x.e = e.e ∧ x.r = e.r ∧ (x.cmd.k = 18 ↔ e.cmd.k = 18)
instance (x e : Cmd.E) : Decidable (like x e) := by unfold like; infer_instance
def has (l : List Cmd.E) (e : Cmd.E) : Prop := ∃ x ∈ l, like x e
/-- Events from a number on. -/
def adS (b room : Int) : Int → List Cmd.E → List Cmd.E → List Cmd.E
  | _, acc, [] => acc
  | f, acc, e :: r => adS b room (f + 1) (if f = b + (acc.length : Int) ∧ (acc.length : Int) < room ∧ Cmd.fits e then acc ++ [e] else acc) r
def add (l : Lg) (f : Int) (es : List Cmd.E) (room : Int) : Lg := if f < 0 ∨ en l < f then l else { l with ev := adS l.b room f l.ev es }
def sm (l : Lg) (n : Int) : Int := if en l < n then en l else n
def stay (l : Lg) (n : Int) : Lg := if l.c < sm l n then { l with c := sm l n } else l
def tm (l : Lg) (n : Int) : Int := if l.d < n then l.d else n
def trim (l : Lg) (n : Int) : Lg := if tm l n ≤ l.b then l else { l with b := tm l n, ev := l.ev.drop (tm l n - l.b).toNat }
def pf (l : Lg) (f : Int) : Int := if f < l.b then l.b else if en l < f then en l else f
def part (l : Lg) (f most : Int) : List Cmd.E := (l.ev.drop (pf l f - l.b).toNat).take most.toNat
/-- What more than half come to. -/
def at_ (l : List Int) (c : Int) : Nat := l.countP (fun x => decide (c ≤ x))
def maj (l : List Int) (c : Int) : Prop := l.length / 2 < at_ l c
instance (l : List Int) (c : Int) : Decidable (maj l c) := by unfold maj; infer_instance
structure IsAg (l : List Int) (n : Int) : Prop where
  lo : 0 ≤ n
  it : n = 0 ∨ (n ∈ l ∧ maj l n)
  up : ∀ c ∈ l, maj l c → c ≤ n
def IsAl (l : List Int) (n : Int) : Prop := (l = [] ∧ n = 0) ∨ ∃ m, m ∈ l ∧ (∀ c ∈ l, m ≤ c) ∧ n = max 0 m

theorem IsAg.one {l : List Int} {m n : Int} (h : IsAg l m) (k : IsAg l n) : m = n := by
  rcases h.it with h1 | ⟨h1, h2⟩ <;> rcases k.it with k1 | ⟨k1, k2⟩
  · rw [h1, k1]
  · have := h.up n k1 k2; have := k.lo; omega
  · have := k.up m h1 h2; have := h.lo; omega
  · have := h.up n k1 k2; have := k.up m h1 h2; omega
theorem IsAl.one {l : List Int} {m n : Int} (h : IsAl l m) (k : IsAl l n) : m = n := by
  rcases h with ⟨h1, h2⟩ | ⟨x, h1, h2, h3⟩ <;> rcases k with ⟨k1, k2⟩ | ⟨y, k1, k2, k3⟩
  · rw [h2, k2]
  · rw [h1] at k1; cases k1
  · rw [k1] at h1; cases h1
  · have := h2 y k1
    have := k2 x h1
    rw [h3, k3, show x = y by omega]
theorem IsAl.le {l : List Int} {n c : Int} (h : IsAl l n) (hc : c ∈ l) : n ≤ max 0 c := by
  rcases h with ⟨h1, _⟩ | ⟨m, _, h2, h3⟩
  · rw [h1] at hc; cases hc
  · have := h2 c hc
    omega
/-- No more than half are above what is agreed. -/
theorem at_mono {l : List Int} {c d : Int} (h : d ≤ c) : at_ l c ≤ at_ l d := by
  unfold at_
  refine List.countP_mono_left fun x _ hx => ?_
  simp only [decide_eq_true_eq] at hx ⊢
  omega
theorem least_above : ∀ (l : List Int) (n : Int), (∃ c ∈ l, n < c) → ∃ c ∈ l, n < c ∧ ∀ d ∈ l, n < d → c ≤ d
  | [], _, h => by obtain ⟨c, hc, _⟩ := h; cases hc
  | x :: r, n, h => by
    by_cases hr : ∃ c ∈ r, n < c
    · obtain ⟨c, hc, hn, hm⟩ := least_above r n hr
      by_cases hx : n < x ∧ x ≤ c
      · refine ⟨x, List.mem_cons_self .., hx.1, fun d hd hnd => ?_⟩
        rcases List.mem_cons.1 hd with rfl | hd
        · exact Int.le_refl _
        · exact Int.le_trans hx.2 (hm d hd hnd)
      · refine ⟨c, List.mem_cons_of_mem _ hc, hn, fun d hd hnd => ?_⟩
        rcases List.mem_cons.1 hd with rfl | hd
        · omega
        · exact hm d hd hnd
    · obtain ⟨c, hc, hn⟩ := h
      rcases List.mem_cons.1 hc with rfl | hc
      · refine ⟨c, List.mem_cons_self .., hn, fun d hd hnd => ?_⟩
        rcases List.mem_cons.1 hd with rfl | hd
        · exact Int.le_refl _
        · exact absurd ⟨d, hd, hnd⟩ hr
      · exact absurd ⟨c, hc, hn⟩ hr
theorem IsAg.above {l : List Int} {n : Int} (h : IsAg l n) : 2 * l.countP (fun x => decide (n < x)) ≤ l.length := by
  by_cases hx : ∃ c ∈ l, n < c
  · obtain ⟨c, hc, hn, hm⟩ := least_above l n hx
    have h1 : l.countP (fun x => decide (n < x)) ≤ at_ l c := by
      unfold at_
      refine List.countP_mono_left fun x hxl hx => ?_
      simp only [decide_eq_true_eq] at hx ⊢
      exact hm x hxl hx
    have h2 : ¬ maj l c := fun hj => by have := h.up c hc hj; omega
    unfold maj at h2
    omega
  · have h0 : l.countP (fun x => decide (n < x)) = 0 := by
      rw [List.countP_eq_zero]
      intro x hxl hx2
      exact hx ⟨x, hxl, by simpa using hx2⟩
    omega
theorem IsAg.there {l : List Int} {n : Int} (h : IsAg l n) : n = 0 ∨ l.length < 2 * at_ l n := by
  rcases h.it with h1 | ⟨_, h2⟩
  · exact .inl h1
  · right
    unfold maj at h2
    omega
/-- One count more is looked at. -/
def agS (l : List Int) (best c : Int) : Int := if maj l c ∧ best < c then c else best
theorem ag_fold (l : List Int) : ∀ (r pre : List Int) (best : Int), (0 ≤ best ∧ (best = 0 ∨ (best ∈ l ∧ maj l best)) ∧ ∀ c ∈ pre, maj l c → c ≤ best) → (∀ c ∈ r, c ∈ l) →
    (0 ≤ r.foldl (agS l) best ∧ (r.foldl (agS l) best = 0 ∨ (r.foldl (agS l) best ∈ l ∧ maj l (r.foldl (agS l) best))) ∧ ∀ c ∈ pre ++ r, maj l c → c ≤ r.foldl (agS l) best)
  | [], pre, best, h, _ => by simpa using h
  | x :: r, pre, best, h, hr => by
    have key : (0 ≤ agS l best x ∧ (agS l best x = 0 ∨ (agS l best x ∈ l ∧ maj l (agS l best x))) ∧ ∀ c ∈ pre ++ [x], maj l c → c ≤ agS l best x) := by
      obtain ⟨h1, h2, h3⟩ := h
      unfold agS
      split
      · rename_i hc
        refine ⟨by omega, .inr ⟨hr x (List.mem_cons_self ..), hc.1⟩, fun c hc2 hj => ?_⟩
        rcases List.mem_append.1 hc2 with q | q
        · have := h3 c q hj; omega
        · rw [List.mem_singleton.1 q]; exact Int.le_refl _
      · rename_i hc
        refine ⟨h1, h2, fun c hc2 hj => ?_⟩
        rcases List.mem_append.1 hc2 with q | q
        · exact h3 c q hj
        · rw [List.mem_singleton.1 q] at hj ⊢
          exact Classical.byContradiction fun hn => hc ⟨hj, by omega⟩
    have := ag_fold l r (pre ++ [x]) (agS l best x) key (fun c hc => hr c (List.mem_cons_of_mem _ hc))
    rw [List.append_assoc] at this
    exact this
def ag (l : List Int) : Int := l.foldl (agS l) 0
theorem ag_told (l : List Int) : IsAg l (ag l) := by
  have := ag_fold l l [] 0 ⟨Int.le_refl _, .inl rfl, fun c hc => by cases hc⟩ (fun c hc => hc)
  exact ⟨this.1, this.2.1, fun c hc hj => this.2.2 c (by simpa using hc) hj⟩
def al (l : List Int) : Int := match l with
  | [] => 0
  | x :: r => max 0 (r.foldl min x)
theorem min_fold : ∀ (r : List Int) (x : Int), (r.foldl min x = x ∨ r.foldl min x ∈ r) ∧ r.foldl min x ≤ x ∧ ∀ c ∈ r, r.foldl min x ≤ c
  | [], x => ⟨.inl rfl, Int.le_refl _, fun c hc => by cases hc⟩
  | y :: r, x => by
    obtain ⟨h1, h2, h3⟩ := min_fold r (min x y)
    rw [List.foldl_cons]
    refine ⟨?_, by omega, fun c hc => ?_⟩
    · rcases h1 with h1 | h1
      · rw [h1]
        by_cases hxy : x ≤ y
        · left; omega
        · right; rw [show min x y = y by omega]; exact List.mem_cons_self ..
      · exact .inr (List.mem_cons_of_mem _ h1)
    · rcases List.mem_cons.1 hc with rfl | hc
      · omega
      · exact h3 c hc
theorem al_told (l : List Int) : IsAl l (al l) := by
  match l with
  | [] => exact .inl ⟨rfl, rfl⟩
  | x :: r =>
    obtain ⟨h1, h2, h3⟩ := min_fold r x
    refine .inr ⟨r.foldl min x, ?_, fun c hc => ?_, rfl⟩
    · rcases h1 with h1 | h1
      · rw [h1]; exact List.mem_cons_self ..
      · exact List.mem_cons_of_mem _ h1
    · rcases List.mem_cons.1 hc with rfl | hc
      · exact h2
      · exact h3 c hc
end Lgm
end Go.Proofs.Ytakjggmiilkmdaa
