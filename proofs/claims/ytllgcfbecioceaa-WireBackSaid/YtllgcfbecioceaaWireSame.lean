/-
  What phalanxref03.Same, the law's copied and awake return.
  A slice of items is no longer than the form's own reach.
-/
import Derived.Test.YtllgcfbecioceaaWireREncode
import Derived.Test.YtllgcfbecioceaaWireRDecode
namespace Go.Proofs.Ytllgcfbecioceaa
open Go.RowKit

theorem flat_cons (x : Wire.It) (l : List Wire.It) : flat (x :: l) = .int .i64 x.k :: .int .i64 x.n :: .string x.s :: flat l := rfl
theorem flat_get : ∀ (l : List Wire.It) (i : Nat) (x : Wire.It), l[i]? = some x → (flat l)[i * 3]? = some (.int .i64 x.k) ∧ (flat l)[i * 3 + 1]? = some (.int .i64 x.n) ∧ (flat l)[i * 3 + 2]? = some (.string x.s)
  | y :: l, 0, x, h => by
    simp at h; subst h
    exact ⟨rfl, rfl, rfl⟩
  | y :: l, i + 1, x, h => by
    rw [List.getElem?_cons_succ] at h
    have ih := flat_get l i x h
    rw [flat_cons]
    rw [show (i + 1) * 3 = i * 3 + 1 + 1 + 1 from by omega, show i * 3 + 1 + 1 + 1 + 1 = i * 3 + 1 + 1 + 1 + 1 from rfl]
    simp only [List.getElem?_cons_succ]
    exact ⟨ih.1, ih.2.1, ih.2.2⟩
theorem flat_of : ∀ (l : List Wire.It) (j : Nat) (u : Value), (flat l)[j]? = some u → ∃ x, l[j / 3]? = some x ∧ ((j % 3 = 0 ∧ u = .int .i64 x.k) ∨ (j % 3 = 1 ∧ u = .int .i64 x.n) ∨ (j % 3 = 2 ∧ u = .string x.s))
  | [], j, u, h => by simp [flat] at h
  | y :: l, 0, u, h => by rw [flat_cons] at h; simp at h; exact ⟨y, rfl, .inl ⟨rfl, h.symm⟩⟩
  | y :: l, 1, u, h => by rw [flat_cons] at h; simp at h; exact ⟨y, rfl, .inr (.inl ⟨rfl, h.symm⟩)⟩
  | y :: l, 2, u, h => by rw [flat_cons] at h; simp at h; exact ⟨y, rfl, .inr (.inr ⟨rfl, h.symm⟩)⟩
  | y :: l, j + 3, u, h => by
    rw [flat_cons] at h
    simp only [List.getElem?_cons_succ] at h
    obtain ⟨x, h1, h2⟩ := flat_of l j u h
    refine ⟨x, by rw [show (j + 3) / 3 = j / 3 + 1 from by omega, List.getElem?_cons_succ]; exact h1, ?_⟩
    rw [show (j + 3) % 3 = j % 3 from by omega]
    exact h2
/-- A slice of the call's own, as a slice that reads as items. -/
theorem Its.items {base : Nat} {w : World} {A : Option Addr} {n c : Nat} {l : List Wire.It} (h : Its base w (.slice A n c) l) : n = l.length ∧ Items w w.heap.size A l := by
  have hc := fun g => World.ownsRow.cells h (g := g)
  rcases h.2 with ⟨h1, h0⟩ | ⟨g, cap, cur, h1, _, hg, _⟩
  · injection h1 with h1 h2 h3
    subst h1 h2 h3
    exact ⟨h0.symm, fun hp => absurd hp (by omega)⟩
  · injection h1 with h1 h2 h3
    subst h1 h2 h3
    refine ⟨rfl, fun _ => ⟨g, 0, rfl, (Array.getElem?_eq_some_iff.1 hg).1, fun i x hx => ?_⟩⟩
    have hf := flat_get l i x hx
    have h3 := fun j u hu => hc g rfl j u hu
    simp only [add_at] at h3
    exact ⟨h3 _ _ hf.1, h3 _ _ hf.2.1, h3 _ _ hf.2.2⟩
/-- What an append of items yields. -/
theorem items_src {w : World} {B : Nat} {A : Option Addr} {l : List Wire.It} (c : Nat) (h : Items w B A l) (hA : A = none → l = []) : Src Try.prog 3 22 (.slice A l.length c) l.length (flat l) w := by
  match A, h, hA with
  | none, _, hA =>
    obtain rfl := hA rfl
    exact Src.ofNil w Try.underlying22 c
  | some a, h, _ =>
    refine Src.ofSlice w Try.underlying22 a l.length c (flat l) (flat_length l) (fun j u hu => ?_) (fun u hu => ?_)
    · obtain ⟨x, h1, h2⟩ := flat_of l j u hu
      have hj : j / 3 < l.length := (List.getElem?_eq_some_iff.1 h1).1
      obtain ⟨b, o, ha, _, hc⟩ := h (by omega)
      injection ha with ha
      subst ha
      obtain ⟨c0, c1, c2⟩ := hc _ x h1
      rw [add_at]
      rcases h2 with ⟨hm, rfl⟩ | ⟨hm, rfl⟩ | ⟨hm, rfl⟩
      · rw [show o + j = o + j / 3 * 3 from by omega]; exact c0
      · rw [show o + j = o + j / 3 * 3 + 1 from by omega]; exact c1
      · rw [show o + j = o + j / 3 * 3 + 2 from by omega]; exact c2
    · simp only [flat, List.mem_flatMap] at hu
      obtain ⟨x, _, hx⟩ := hu
      simp at hx
      rcases hx with rfl | rfl | rfl <;> rfl

set_option maxHeartbeats 1600000 in
theorem copied_any (A : Option Addr) (c : Nat) (l : List Wire.It) (w : World) (hl : l.length * 32 ≤ 140737488351232) (hi : Items w w.heap.size A l) (hA : A = none → l = []) :
    Calls Try.prog 9 #[.slice A l.length c] w fun e w' => ∃ A' c', e = .returned (.slice A' l.length c') ∧ Its w.heap.size w' (.slice A' l.length c') l ∧ Below w.heap.size w w' := by
  obtain ⟨i0, hi0, hz0, hz1, hz2⟩ := info_parts info_item
  have HS := Lib.hid (fun o => items_src c (hi.below (((Below.refl _ w).alloc (Nat.le_refl _) o))) hA)
  have HR := Lib.hid (World.ownsRow_made (base := w.heap.size) (e := 36) (size := 3) w #[] 0 (Nat.le_refl _) (by decide) rfl)
  clear hi hA
  generalize hn : l.length = n at *
  have HN := Lib.hid hn
  clear hn
  go_enter Try.func9, Try.ntmps9
  go_wp2_with (at_builtin; refine wpList_append_src _ rfl (.tmp 3) (.tmp 4) 22 22 rfl w.heap.size 36 i0 (.agg #[.int .i64 0, .int .i64 0, .string ⟨#[]⟩]) 3 32 Try.underlying22 hi0 hz0 hz1 hz2 rfl (by decide) (by decide) (.slice (some ⟨w.heap.size, 0, none⟩) 0 0) 0 [] rfl HR.out n (flat l) (.slice A n c) rfl (HS.out _) ?c1 ?c2 ?c3 ?cn)
  case c1 => unfold maxLen; omega
  case c2 => omega
  case c3 => simp
  intro v2 w2 hown hg _
  have hI : Its w.heap.size w2 v2 l := by
    unfold Its
    rw [HN.out]
    simpa using hown
  obtain ⟨A', c', hv⟩ := Its.shape hI
  rw [HN.out] at hv
  subst hv
  have HI := Lib.hid hI
  have HB := Lib.hid (((Below.refl _ w).alloc (Nat.le_refl _) (Obj.cells #[] 36)).grown hg (by simp) (fun b hb => by
    simp [Value.ownBlock] at hb; omega))
  clear hI hown hg
  go_wp2_with fail
  go_ret
  exact ⟨_, _, rfl, HI.out, HB.out⟩

set_option maxHeartbeats 1600000 in
theorem same_any (A A' : Option Addr) (c c' : Nat) (l : List Wire.It) (w : World) (B B' : Nat) (hl : l.length ≤ 9223372036854775807) (hi : Items w B A l) (hi' : Items w B' A' l) :
    Calls Try.prog 13 #[.slice A l.length c, .slice A' l.length c'] w fun e w' => e = .returned (.bool true) ∧ ∃ m, w' = w.drewN m := by
  have HI := Lib.hid hi
  have HI' := Lib.hid hi'
  clear hi hi'
  generalize hn : l.length = n at *
  have HN := Lib.hid hn
  clear hn
  have hnn : ((n : Int) != (n : Int)) = false := by simp
  go_enter Try.func13, Try.ntmps13
  go_wp2_with fail
  go_loopw [5] (fun vi wr => ∃ k m : Nat, k ≤ n ∧ vi = .int .i64 k ∧ wr = w.drewN m) (fun vi _ => n - (intOf vi).toNat)
  case atStart => exact ⟨0, 0, Nat.zero_le _, rfl, rfl⟩
  case round =>
    obtain ⟨k, m, hk, rfl, rfl⟩ := hrel
    by_cases hlt : k < n
    · obtain ⟨x, hx⟩ := get_of (l := l) (k := k) (by rw [HN.out]; exact hlt)
      obtain ⟨b, o, rfl, _, hc⟩ := HI.out (by rw [HN.out]; omega)
      obtain ⟨b', o', rfl, _, hc'⟩ := HI'.out (by rw [HN.out]; omega)
      obtain ⟨c0, c1, c2⟩ := hc k x hx
      obtain ⟨d0, d1, d2⟩ := hc' k x hx
      clear hc hc' hx
      have hk1 : (0 : Int) ≤ (k : Int) := by omega
      have hk2 : (k : Int) < (n : Int) := by omega
      obtain ⟨xk, xn, xs⟩ := x
      simp only at c0 c1 c2 d0 d1 d2
      go_wp2_with fail
      go_quiet (fail)
      go_wp2_with fail
      exact ⟨⟨k + 1, m + nq, by omega, by go_num, rfl⟩, by simp [intOf]; omega⟩
    · obtain rfl : k = n := by omega
      go_wp2_with fail
      go_ret
      exact ⟨rfl, m, rfl⟩

/-- The document's example. -/
def exl : List Wire.It := [⟨0, 128, ⟨#[]⟩⟩, ⟨1, 0, ⟨#[97, 98]⟩⟩]
theorem ex_all : Wire.all exl = [2, 1, 0, 17, 2, 97, 98] := by
  have h1 : Wire.nb 256 = 2 := Wire.nb_eq (k := 1) (by decide) (by decide)
  have h2 : Wire.nb 2 = 1 := Wire.nb_eq (k := 0) (by decide) (by decide)
  have e1 : Wire.one ⟨0, 128, ⟨#[]⟩⟩ = [2, 1, 0] := by
    show Wire.lead 0 256 = _
    unfold Wire.lead
    rw [h1]; decide
  have e2 : Wire.one ⟨1, 0, ⟨#[97, 98]⟩⟩ = [17, 2, 97, 98] := by
    show Wire.lead 16 2 ++ [97, 98] = _
    unfold Wire.lead
    rw [h2]; decide
  show Wire.one _ ++ (Wire.one _ ++ []) = _
  rw [e1, e2]; rfl
theorem ex_fits : exl.all Wire.fits = true := by decide
theorem ex_E : Wire.E exl = (⟨#[2, 1, 0, 17, 2, 97, 98]⟩, 0) := by
  rw [Wire.E_of ex_fits (by rw [ex_all]; decide), ex_all]
theorem ex_wf : Wire.Wf exl := by
  intro x hx
  simp only [exl, List.mem_cons, List.not_mem_nil, or_false] at hx
  rcases hx with rfl | rfl <;> exact ⟨by decide, by decide⟩
theorem ex_D : Wire.D ⟨#[2, 1, 0, 17, 2, 97, 98]⟩ = (exl, 0) := by
  have h := Wire.back ex_wf (by rw [ex_E])
  rwa [ex_E] at h
theorem ex_items (w : World) : Items (w.alloc (.cells #[.int .i64 0, .int .i64 128, .string ⟨#[]⟩, .int .i64 1, .int .i64 0, .string ⟨#[97, 98]⟩] 36)) (w.heap.size + 1) (some ⟨w.heap.size, 0, none⟩) exl := fun _ => by
  refine ⟨w.heap.size, 0, rfl, by omega, fun i x hx => ?_⟩
  match i, hx with
  | 0, hx => simp [exl] at hx; subst hx; exact ⟨World.cell?_alloc_new .., World.cell?_alloc_new .., World.cell?_alloc_new ..⟩
  | 1, hx => simp [exl] at hx; subst hx; exact ⟨World.cell?_alloc_new .., World.cell?_alloc_new .., World.cell?_alloc_new ..⟩
  | i + 2, hx => simp [exl] at hx

set_option maxHeartbeats 1600000 in
theorem awake_any (w : World) : Calls Try.prog 12 #[] w fun e w' => e = .returned (.bool true) ∧ Below w.heap.size w w' := by
  have HE := Lib.hid (encode_any (some ⟨w.heap.size, 0, none⟩) 2 exl (w.alloc (.cells #[.int .i64 0, .int .i64 128, .string ⟨#[]⟩, .int .i64 1, .int .i64 0, .string ⟨#[97, 98]⟩] 36)) (by decide) (by have := ex_items w; simpa using this) ex_wf (by
    intro x hx
    simp only [exl, List.mem_cons, List.not_mem_nil, or_false] at hx
    rcases hx with rfl | rfl <;> decide))
  have HD := Lib.hid (fun w => decode_any ⟨#[2, 1, 0, 17, 2, 97, 98]⟩ w (by decide))
  rw [ex_E] at HE
  rw [ex_D] at HD
  simp only [exl, List.length_cons, List.length_nil, Nat.zero_add] at HE
  go_enter Try.func12, Try.ntmps12
  go_wp2_with fail
  refine (HE.out).mono ?_; rintro e w1 ⟨rfl, b1⟩
  go_wp2_with fail
  refine (HD.out _).mono ?_; rintro e w2 ⟨v, rfl, hi, b2⟩
  obtain ⟨A', c', hv⟩ := Its.shape hi
  subst hv
  have HB := Lib.hid ((((Below.refl _ w).alloc (Nat.le_refl _) _).trans (b1.mono (by simp))).trans (b2.mono (by have := b1.size; simp at this; omega)))
  clear hi b1 b2
  have hl2 : exl.length = 2 := rfl
  rw [hl2]
  go_wp2_with fail
  go_ret
  exact ⟨rfl, HB.out⟩

end Go.Proofs.Ytllgcfbecioceaa
