/-
  What the law ValueItems returns: true, where the items ahead and behind are no more than the second form's bulk.
  No condition but the form's own, and what the listed variables hold.
-/
import Derived.Test.YtdhfmapcggohmaaDoorValFrom
import Derived.Test.YtdhfmapcggohmaaDoorValLaws2
import Derived.WalkKit
import Derived.WalkSpells
import Derived.WalkLawsBesides
import Derived.Handy
import Derived.Deep.QuietTactic
import Derived.BigQuiet
import Derived.Deep.Draws
import Derived.Lib.Hide
namespace Go.Proofs.YtdhfmapcggohmaaDoor
open Go.RowKit

theorem Its.block {base : Nat} {w : World} {v : Value} {l : List Val.It} (h : Its base w v l) (hl : l ≠ []) : ∃ g c, v = .slice (some ⟨g, 0, none⟩) l.length c ∧ l.length ≤ c ∧ g < w.heap.size ∧ ∀ i x, l[i]? = some x → At w g 0 i x := by
  have h0 : 0 < l.length := List.length_pos_iff.2 hl
  have h2 := h.2
  obtain ⟨A, c, hv⟩ := h.shape
  subst hv
  obtain ⟨_, hi⟩ := h.items
  rcases h2 with ⟨h1, h3⟩ | ⟨g, cap, cur, h1, _, hg, hnc, _⟩
  · omega
  · injection h1 with e1 e2 e3
    subst e1 e3
    obtain ⟨b, o, e, hb, hc⟩ := hi h0
    injection e with e
    injection e with e1 e2
    subst e1 e2
    exact ⟨g, _, rfl, hnc, hb, hc⟩
/-- What the law asks of From. -/
def IsBack (v : Val.V) (z0 : Int) (w : World) (e : Ending) (w' : World) : Prop := ∃ (k n : Int) (f : Nat) (s : ByteArray) (z : Int) (b : Bool), e = .returned (.tuple #[.agg #[.int .i64 k, .int .i64 n, .int .u64 (f : Int), .string s], .int .i64 z, .bool b]) ∧ (Val.chk v = 0 → (⟨k, n, f, s⟩ : Val.V) = v ∧ z = z0 ∧ b = true) ∧ Below w.heap.size w w'
theorem from_here (v : Val.V) (l l' : List Val.It) (hf : v.f < 18446744073709551616) (g c1 : Nat) (W : World) (hc : (l ++ (Val.items v ++ l')).length ≤ c1) (hb : (l ++ (Val.items v ++ l')).length ≤ 1000000000) (hg : g < W.heap.size) (hi : ∀ i x, (l ++ (Val.items v ++ l'))[i]? = some x → At W g 0 i x) :
    Calls Tryd.prog 16 #[.slice (some ⟨g, 0, none⟩) (l ++ (Val.items v ++ l')).length c1, .int .i64 l.length] W (IsBack v ((l.length : Int) + ((Val.items v).length : Int)) W) := by
  have hil : 0 < (Val.items v).length := by unfold Val.items; simp
  have hd : (l ++ (Val.items v ++ l')).drop l.length = Val.items v ++ l' := List.drop_left
  refine (from_any g 0 c1 _ l.length _ W rfl (by simp; omega) hc hb hg hi).mono ?_
  rintro e w' ⟨u, z, b, rfl, h, hb'⟩
  obtain ⟨k, n, f, s⟩ := u
  refine ⟨k, n, f, s, z, b, rfl, fun hch => ?_, hb'⟩
  rw [hd, Val.take_all hch hf l'] at h
  obtain ⟨h1, h2, h3⟩ := h ⟨hch, by simp, List.take_left⟩
  exact ⟨h1, h2, h3⟩

set_option maxRecDepth 100000 in
set_option maxHeartbeats 6400000 in
theorem items_yes (v : Val.V) (A A' : Option Addr) (c c' : Nat) (l l' : List Val.It) (w : World) (hf : v.f < 18446744073709551616) (hi : Items w w.heap.size A l) (hi' : Items w w.heap.size A' l') (hA : A = none → l = []) (hA' : A' = none → l' = [])
    (hl : l.length ≤ 1048576) (hl' : l'.length ≤ 1048576) (ht : TabOk w) (hv : ErrOk w) : Lift.Yes Tryd.prog 5 #[vv v, .slice A l.length c, .slice A' l'.length c'] w := by
  obtain ⟨i0, hi0, hz0, hz1, hz2⟩ := info_parts info_item
  have hil : (Val.items v).length ≤ 2 := by rw [items_split]; (repeat' split) <;> simp
  have HIt := Lib.hid (fun W => vitems_any v W hf)
  have HRIt := Lib.hid (fun W => rvitems_any v W hf)
  have HCk := Lib.hid (fun W => check_any v W hf)
  have HFr := Lib.hid (fun g c1 W => from_here v l l' hf g c1 W)
  have HA := Lib.hid (fun W hb => awake_any W (ht.below hb) (hv.below hb))
  have HI := Lib.hid hi
  have HI' := Lib.hid hi'
  have HAn := Lib.hid hA
  have HAn' := Lib.hid hA'
  have hb0 := Lib.hid ((Below.refl _ w).alloc (Nat.le_refl _) (.cells #[.int .i64 v.k, .int .i64 v.n, .int .u64 (v.f : Int), .string v.s] 24))
  have hown1 : Val.items v ≠ [] := by unfold Val.items; simp
  have HW1 := Lib.hid hown1
  generalize hown : Val.items v = own at *
  unfold IsBack at HFr
  clear hown hown1 hi hi' hA hA' ht hv
  unfold Lift.Yes
  obtain ⟨k, n, f, s⟩ := v
  unfold vv at *
  simp only at HIt HRIt HCk hb0 hf
  have HF0 := Lib.hid (Four.new w k n f s)
  go_enter Tryd.func5, Tryd.ntmps5
  go_wp2_with fail
  refine (HIt.out _).mono ?_; rintro e w1 ⟨A1, c1, rfl, hi1, hA1, b1⟩
  have HI1 := Lib.hid hi1
  have HB1 := Lib.hid (hb0.out.trans (b1.mono hb0.out.size))
  have HF1 := Lib.hid (HF0.out.keep b1)
  clear hi1 b1
  go_wp2_with fail
  refine (HA.out _ HB1.out).mono ?_; rintro e w2 ⟨rfl, b2⟩
  have HI2 := Lib.hid (HI1.out.below b2)
  have HB2 := Lib.hid (HB1.out.trans (b2.mono HB1.out.size))
  have HF2 := Lib.hid (HF1.out.keep b2)
  have h12 := b2.size
  clear b2
  obtain ⟨p0, p1, p2, p3⟩ := HF2.out
  go_wp2_with fail
  refine (HRIt.out _).mono ?_; rintro e w3 ⟨A3, c3, rfl, hi3, hA3, b3⟩
  have HI3 := Lib.hid (HI2.out.below (b3.mono h12))
  have HJ3 := Lib.hid hi3
  have HB3 := Lib.hid (HB2.out.trans (b3.mono HB2.out.size))
  have HF3 := Lib.hid (HF2.out.keep b3)
  have h23 := b3.size
  clear b3 hi3
  go_wp2_with fail
  refine (same_any A1 A3 c1 c3 own w3 w1.heap.size w3.heap.size (by omega) HI3.out HJ3.out).mono ?_; rintro e w4 ⟨rfl, mm, rfl⟩
  have hr0 : Its w3.heap.size ((w3.drewN mm).alloc (.cells #[] 50)) (.slice (some ⟨w3.heap.size, 0, none⟩) 0 0) [] := World.ownsRow_made (base := w3.heap.size) (e := 50) (size := 3) (w3.drewN mm) #[] 0 (Nat.le_refl _) (by decide) rfl
  have HR0 := Lib.hid hr0
  have HD0 := Lib.hid (((Below.refl w3.heap.size w3).trans (below_drew0 _ w3 mm)).alloc (Nat.le_refl _) (.cells #[] 50))
  have HIl := Lib.hid (fun W (h : Below w3.heap.size w3 W) => HI.out.below (HB3.out.trans (h.mono HB3.out.size)))
  have HIl' := Lib.hid (fun W (h : Below w3.heap.size w3 W) => HI'.out.below (HB3.out.trans (h.mono HB3.out.size)))
  have HIo := Lib.hid (fun W (h : Below w3.heap.size w3 W) => HI3.out.below (h.mono (Nat.le_trans h12 h23)))
  clear hr0
  go_wp2_with (at_builtin; refine wpList_more rfl (.tmp 23) (.tmp 24) rfl w3.heap.size _ _ [] A c w.heap.size l rfl rfl HR0.out (HIl.out _ HD0.out) HAn.out (by simp; omega) HD0.out.size ?_)
  intro v5 w5 HR5 HD5 hs5
  have HE5 := Lib.hid (HD5.out _ HD0.out)
  obtain ⟨A5, c5, hv5⟩ := HR5.out.shape
  subst hv5
  clear HD5 HR0 HD0
  go_wp2_with (at_builtin; refine wpList_more rfl (.tmp 25) (.tmp 26) rfl w3.heap.size _ _ l A1 c1 w1.heap.size own rfl rfl HR5.out (HIo.out _ HE5.out) (fun h => absurd h hA1) (by omega) hs5 ?_)
  intro v6 w6 HR6 HD6 hs6
  have HE6 := Lib.hid (HD6.out _ HE5.out)
  obtain ⟨A6, c6, hv6⟩ := HR6.out.shape
  subst hv6
  clear HD6 HR5 HE5
  go_wp2_with (at_builtin; refine wpList_more rfl (.tmp 27) (.tmp 28) rfl w3.heap.size _ _ (l ++ own) A' c' w.heap.size l' rfl rfl HR6.out (HIl'.out _ HE6.out) HAn'.out (by rw [List.length_append]; omega) hs6 ?_)
  intro v7 w7 HR7 HD7 hs7
  have HE7 := Lib.hid (HD7.out _ HE6.out)
  have hr7 := HR7.out
  obtain ⟨g, c7, rfl, hc7, hg7, hi7⟩ := hr7.block (by simp [HW1.out])
  have HI7 := Lib.hid hi7
  have HF7 := Lib.hid (HF3.out.keep HE7.out)
  have HB7 := Lib.hid (HB3.out.trans (HE7.out.mono HB3.out.size))
  have hL : (l ++ (own ++ l')).length ≤ 1000000000 := by simp; omega
  have HFr2 := Lib.hid (HFr.out g c7 w7 hc7 hL hg7 HI7.out)
  clear hr7 HD7 HR6 HR7 HE6 hi7 HI7 HFr hc7 hL
  generalize (l ++ (own ++ l')).length = N at *
  go_wp2_with fail
  refine (HFr2.out).mono ?_
  rintro e w8 ⟨k8, n8, f8, s8, z, bb, rfl, hfr, b8⟩
  have HF8 := Lib.hid (HF7.out.keep b8)
  have HB8 := Lib.hid (HB7.out.trans (b8.mono HB7.out.size))
  have HF9 := Lib.hid (HF8.out.keep ((Below.refl _ w8).alloc (Nat.le_refl _) (.cells #[.int .i64 k8, .int .i64 n8, .int .u64 (f8 : Int), .string s8] 24)))
  have HB9 := Lib.hid (HB8.out.alloc HB8.out.size (.cells #[.int .i64 k8, .int .i64 n8, .int .u64 (f8 : Int), .string s8] 24))
  have HG9 := Lib.hid (Four.new w8 k8 n8 f8 s8)
  have hlt8 := HF8.out.lt
  clear b8 HFr2
  obtain ⟨q0, q1, q2, q3⟩ := HF9.out
  by_cases hch : Val.chk ⟨k, n, f, s⟩ = 0
  · obtain ⟨h1, h2, h3⟩ := hfr hch
    injection h1 with e1 e2 e3 e4
    subst e1 e2 e3 e4 h2 h3
    rw [hch] at HCk
    clear hfr hch
    go_wp2_with fail
    refine (HCk.out _).mono ?_; rintro e w9 ⟨rfl, b9⟩
    obtain ⟨r0, r1, r2, r3⟩ := HF9.out.keep b9
    obtain ⟨t0, t1, t2, t3⟩ := HG9.out.keep b9
    have HB10 := Lib.hid (HB9.out.trans (b9.mono HB9.out.size))
    clear b9
    go_wp2_with fail
    go_ret
    exact ⟨rfl, HB10.out⟩
  · have hx : (Val.chk ⟨k, n, f, s⟩ != 0) = true := ne_true hch
    generalize Val.chk ⟨k, n, f, s⟩ = x at *
    clear hfr hch
    go_wp2_with fail
    refine (HCk.out _).mono ?_; rintro e w9 ⟨rfl, b9⟩
    have HB10 := Lib.hid (HB9.out.trans (b9.mono HB9.out.size))
    clear b9
    go_wp2_with fail
    go_ret
    exact ⟨rfl, HB10.out⟩
end Go.Proofs.YtdhfmapcggohmaaDoor
