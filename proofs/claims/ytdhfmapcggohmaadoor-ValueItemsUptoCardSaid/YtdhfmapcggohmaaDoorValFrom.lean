/-
  What value.From returns at a place of items: what stands there, where it is a value.
  No condition but bounds on the slice.
-/
import Derived.Test.YtdhfmapcggohmaaDoorValEqual
import Derived.Test.YtdhfmapcggohmaaDoorValRead
import Derived.WalkKit
import Derived.WalkSpells
import Derived.WalkLawsBesides
import Derived.Handy
import Derived.Deep.QuietTactic
import Derived.BigQuiet
import Derived.Deep.Draws
import Derived.Lib.Hide
namespace Go.Proofs.YtdhfmapcggohmaaDoor
open Go.RowKit

/-- A way out of a function that answers with a block's value and two slots'. -/
theorem ret_box3 {f : Func} (hf : f.results = #[.cell 4 24, .tmp 5, .tmp 6]) {R : Ending → World → Prop} {a : Act} {w : World} {B : Nat} {p q r s u z : Value}
    (h2 : a.tmps[4]? = some (.pointer (some ⟨B, 0, none⟩))) (h3 : a.tmps[5]? = some u) (h4 : a.tmps[6]? = some z) (hd : a.defers = []) (hb : Box w B p q r s)
    (hR : R (.returned (.tuple #[.agg #[p, q, r, s], u, z])) w) : bodyPost Tryd.prog f R Exit.ret a w := by
  obtain ⟨k0, k1, k2, k3, -⟩ := hb.all
  exact bodyPost_ret (v := .tuple #[.agg #[p, q, r, s], u, z]) (by simp [results, hf, go_sem, h2, h3, h4, k0, k1, k2, k3]) hd hR
/-- What From leaves: something; the value v, the place behind it and true, where c holds. -/
def IsFrom (v : Val.V) (z : Int) (c : Prop) (w : World) (e : Ending) (w' : World) : Prop := ∃ (u : Val.V) (n : Int) (b : Bool), e = .returned (.tuple #[vv u, .int .i64 n, .bool b]) ∧ (c → u = v ∧ n = z ∧ b = true) ∧ Below w.heap.size w w'
theorem items_drop {w : World} {b o : Nat} {l : List Val.It} (p : Nat) (h : ∀ i x, l[i]? = some x → At w b o i x) : ∀ i x, (l.drop p)[i]? = some x → At w b (o + p * 3) i x := fun i x hx => by
  rw [List.getElem?_drop] at hx
  have h1 := h _ _ hx
  unfold At at h1 ⊢
  rw [show o + p * 3 + i * 3 = o + (p + i) * 3 from by omega]
  exact h1
theorem Box.drewN0 {w : World} {B : Nat} {p q r s : Value} (h : Box w B p q r s) (n : Nat) : Box (w.drewN n) B p q r s := h
theorem at_below {w w1 : World} {B b o : Nat} {l : List Val.It} (hb : Below B w w1) (hB : b < B) (h : ∀ i x, l[i]? = some x → At w b o i x) : ∀ i x, l[i]? = some x → At w1 b o i x := fun i x hx =>
  (h i x hx).keep fun p hp => hb.cell (by rw [hp]; exact hB)
theorem items_take {w : World} {b o : Nat} {l : List Val.It} (q : Nat) (h : ∀ i x, l[i]? = some x → At w b o i x) : ∀ i x, (l.take q)[i]? = some x → At w b o i x := fun i x hx => by
  rw [List.getElem?_take] at hx
  split at hx
  · exact h i x hx
  · cases hx
theorem items_of {w : World} {b o B : Nat} {l : List Val.It} (hb : b < B) (h : ∀ i x, l[i]? = some x → At w b o i x) : Items w B (some ⟨b, o, none⟩) l := fun _ => ⟨b, o, rfl, hb, h⟩

set_option maxRecDepth 100000 in
set_option maxHeartbeats 3200000 in
theorem from_any (b o c n p : Nat) (L : List Val.It) (w : World) (hl : L.length = n) (hp : p < n) (hc : n ≤ c) (hbig : n ≤ 1000000000) (hb : b < w.heap.size) (hi : ∀ i x, L[i]? = some x → At w b o i x) :
    Calls Tryd.prog 16 #[.slice (some ⟨b, o, none⟩) n c, .int .i64 p] w
      (IsFrom (Val.take (L.drop p)) ((p : Int) + ((Val.items (Val.take (L.drop p))).length : Int)) (Val.chk (Val.take (L.drop p)) = 0 ∧ p + (Val.items (Val.take (L.drop p))).length ≤ n ∧ (L.drop p).take (Val.items (Val.take (L.drop p))).length = Val.items (Val.take (L.drop p))) w) := by
  have HT := Lib.hid (fun o1 c1 W hi2 hb2 => vtake_any b o1 c1 (n - p) (L.drop p) W (by rw [List.length_drop, hl]) (by omega) hb2 hi2)
  have hf := take_f_lt (L.drop p)
  have hil : (Val.items (Val.take (L.drop p))).length ≤ 2 := by rw [items_split]; (repeat' split) <;> simp
  have hil1 : 1 ≤ (Val.items (Val.take (L.drop p))).length := by rw [items_split]; (repeat' split) <;> simp
  have HI := Lib.hid hi
  have HL := Lib.hid hl
  have HIt := Lib.hid (fun W => vitems_any (Val.take (L.drop p)) W hf)
  have HCk := Lib.hid (fun W => check_any (Val.take (L.drop p)) W hf)
  clear hi hl
  generalize hv : Val.take (L.drop p) = v at *
  clear hv hf
  obtain ⟨k, q, f, s⟩ := v
  generalize hown : Val.items ⟨k, q, f, s⟩ = own at *
  clear hown
  have HZ := Lib.hid (Box.new w (.int .i64 0) (.int .i64 0) (.int .u64 0) (.string ⟨#[]⟩))
  unfold vv at *
  simp only at HIt HCk HT
  go_enter Tryd.func16, Tryd.ntmps16
  go_wp2_with fail
  have HI0 := Lib.hid (at_below ((Below.refl _ w).alloc (Nat.le_refl _) (.cells #[.int .i64 0, .int .i64 0, .int .u64 0, .string ⟨#[]⟩] 24)) hb HI.out)
  refine (HT.out (o + p * 3) (c - p) _ (items_drop p HI0.out) (by simp; omega)).mono ?_; rintro e w1 ⟨rfl, b1⟩
  have HB1 := Lib.hid (new_below b1)
  have HX1 := Lib.hid (HZ.out.below b1 (by simp))
  have HI1 := Lib.hid (at_below HB1.out hb HI.out)
  have hlt1 := HX1.out.lt
  have HY1 := Lib.hid (Box.new w1 (.int .i64 k) (.int .i64 q) (.int .u64 (f : Int)) (.string s))
  have HX1a := Lib.hid (fun o => HX1.out.alloc o)
  have HB1a := Lib.hid (fun o => HB1.out.alloc HB1.out.size o)
  have HE := Lib.hid (fun A A' c1 c2 W B B' h1 h2 => equal_any A A' c1 c2 ((L.drop p).take own.length) own W B B' h1 h2)
  have hlen : p + own.length ≤ n → ((L.drop p).take own.length).length = own.length := fun h => by
    rw [List.length_take, List.length_drop, HL.out]; omega
  have hchk := chk_bd ⟨k, q, f, s⟩
  generalize hm : own.length = m at *
  have HM := Lib.hid hm
  clear b1 HI0 hm HZ HT
  go_wp2_with fail
  refine (HIt.out _).mono ?_; rintro e w2 ⟨A, c2, rfl, hi2, hA, b2⟩
  have HX2 := Lib.hid ((HX1a.out _).below b2 (by simp; omega))
  have HY2 := Lib.hid (HY1.out.below b2 (by simp))
  have HB2 := Lib.hid ((HB1a.out _).trans (b2.mono (by simp; omega)))
  have HIA := Lib.hid hi2
  have hlt2 := HY2.out.lt
  rw [HM.out]
  clear b2 hi2 HX1a HB1a
  obtain ⟨y0, y1, y2, y3, -⟩ := HY2.out.all
  by_cases hc0 : Val.chk ⟨k, q, f, s⟩ = 0
  · rw [hc0] at HCk
    by_cases hend : p + m ≤ n
    · have hle : ¬ (n : Int) < (p : Int) + (m : Int) := by omega
      have hpc : p + m ≤ c := by omega
      have hpm : p ≤ p + m := by omega
      go_wp2_with fail
      refine (HCk.out _).mono ?_; rintro e w3 ⟨rfl, b3⟩
      have HX3 := Lib.hid (HX2.out.below b3 (by have := HX2.out.lt; omega))
      have HY3 := Lib.hid (HY2.out.below b3 hlt2)
      have HB3 := Lib.hid (HB2.out.trans (b3.mono HB2.out.size))
      have HI3 := Lib.hid (at_below HB3.out hb HI.out)
      have HIA3 := Lib.hid (HIA.out.below (b3))
      have hlt3 := HY3.out.lt
      obtain ⟨y0, y1, y2, y3, -⟩ := HY3.out.all
      obtain ⟨x0, x1, x2, x3, f0, f1, f2, f3⟩ := HX3.out.all
      clear b3
      go_wp2_with fail
      have he := HE.out (some ⟨b, o + p * 3, none⟩) A (c - p) c2 w3 w3.heap.size w2.heap.size (by rw [hlen hend]; omega) (by omega) (items_of (Nat.lt_of_lt_of_le hb HB3.out.size) (items_take m (items_drop p HI3.out))) HIA3.out
      rw [hlen hend] at he
      try rw [HM.out] at he
      have HQ := Lib.hid he
      clear he
      refine (HQ.out).mono ?_; rintro e w4 ⟨bb, rfl, hbb, nn, rfl⟩
      cases bb with
      | true =>
        have HF : Hid (∀ w', Below w.heap.size w w' → IsFrom ⟨k, q, f, s⟩ ((p : Int) + (m : Int)) (Val.chk ⟨k, q, f, s⟩ = 0 ∧ p + m ≤ n ∧ (L.drop p).take m = own) w (.returned (.tuple #[.agg #[.int .i64 k, .int .i64 q, .int .u64 (f : Int), .string s], .int .i64 ((p : Int) + (m : Int)), .bool true])) w') :=
          Lib.hid fun w' hb => ⟨⟨k, q, f, s⟩, _, true, rfl, fun _ => ⟨rfl, rfl, rfl⟩, hb⟩
        clear hbb HQ
        go_wp2_with fail
        exact ret_box3 Tryd.results16 rfl rfl rfl rfl (box_store (Box.drewN0 HX3.out nn) _ _ _ _) (HF.out _ (stored_below (HB3.out.trans (below_drew0 _ _ _)) (Nat.le_refl _) _ _ _ _))
      | false =>
        have HF : Hid (∀ w', Below w.heap.size w w' → IsFrom ⟨k, q, f, s⟩ ((p : Int) + (m : Int)) (Val.chk ⟨k, q, f, s⟩ = 0 ∧ p + m ≤ n ∧ (L.drop p).take m = own) w (.returned (.tuple #[.agg #[.int .i64 0, .int .i64 0, .int .u64 0, .string ⟨#[]⟩], .int .i64 0, .bool false])) w') :=
          Lib.hid fun w' hb => ⟨⟨0, 0, 0, Val.emp⟩, _, false, rfl, (fun h => by have := hbb h.2.2; cases this), hb⟩
        clear hbb HQ
        go_wp2_with fail
        exact ret_box3 Tryd.results16 rfl rfl rfl rfl (box_store (Box.drewN0 HX3.out nn) _ _ _ _) (HF.out _ (stored_below (HB3.out.trans (below_drew0 _ _ _)) (Nat.le_refl _) _ _ _ _))
    · have hgt : (n : Int) < (p : Int) + (m : Int) := by omega
      have HF : Hid (∀ w', Below w.heap.size w w' → IsFrom ⟨k, q, f, s⟩ ((p : Int) + (m : Int)) (Val.chk ⟨k, q, f, s⟩ = 0 ∧ p + m ≤ n ∧ (L.drop p).take m = own) w (.returned (.tuple #[.agg #[.int .i64 0, .int .i64 0, .int .u64 0, .string ⟨#[]⟩], .int .i64 0, .bool false])) w') :=
        Lib.hid fun w' hb => ⟨⟨0, 0, 0, Val.emp⟩, _, false, rfl, fun h => absurd h.2.1 hend, hb⟩
      go_wp2_with fail
      refine (HCk.out _).mono ?_; rintro e w3 ⟨rfl, b3⟩
      have HX3 := Lib.hid (HX2.out.below b3 (by have := HX2.out.lt; omega))
      have HB3 := Lib.hid (HB2.out.trans (b3.mono HB2.out.size))
      obtain ⟨x0, x1, x2, x3, f0, f1, f2, f3⟩ := HX3.out.all
      clear b3
      go_wp2_with fail
      exact ret_box3 Tryd.results16 rfl rfl rfl rfl (box_store HX3.out _ _ _ _) (HF.out _ (stored_below HB3.out (Nat.le_refl _) _ _ _ _))
  · have HF : Hid (∀ w', Below w.heap.size w w' → IsFrom ⟨k, q, f, s⟩ ((p : Int) + (m : Int)) (Val.chk ⟨k, q, f, s⟩ = 0 ∧ p + m ≤ n ∧ (L.drop p).take m = own) w (.returned (.tuple #[.agg #[.int .i64 0, .int .i64 0, .int .u64 0, .string ⟨#[]⟩], .int .i64 0, .bool false])) w') :=
      Lib.hid fun w' hb => ⟨⟨0, 0, 0, Val.emp⟩, _, false, rfl, fun h => absurd h.1 hc0, hb⟩
    have hx2 : (Val.chk ⟨k, q, f, s⟩ != 0) = true := ne_true hc0
    generalize Val.chk ⟨k, q, f, s⟩ = x at *
    clear hchk hc0
    go_wp2_with fail
    refine (HCk.out _).mono ?_; rintro e w3 ⟨rfl, b3⟩
    have HX3 := Lib.hid (HX2.out.below b3 (by have := HX2.out.lt; omega))
    have HB3 := Lib.hid (HB2.out.trans (b3.mono HB2.out.size))
    obtain ⟨x0, x1, x2, x3, f0, f1, f2, f3⟩ := HX3.out.all
    clear b3
    go_wp2_with fail
    exact ret_box3 Tryd.results16 rfl rfl rfl rfl (box_store HX3.out _ _ _ _) (HF.out _ (stored_below HB3.out (Nat.le_refl _) _ _ _ _))
end Go.Proofs.YtdhfmapcggohmaaDoor
