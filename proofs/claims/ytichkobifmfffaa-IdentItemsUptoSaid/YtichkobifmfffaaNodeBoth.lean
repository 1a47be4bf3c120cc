/-
  What Both, Most and Major return, the program's and the document's; and Same, copied, slices.Clone.
  No condition but that a slice is no longer than the form's reach.
-/
import Derived.Test.YtichkobifmfffaaNodeOne
import Derived.WalkKit
import Derived.WalkSpells
import Derived.WalkLawsBesides
import Derived.Handy
import Derived.Deep.QuietTactic
import Derived.BigQuiet
import Derived.Deep.RegionWith
import Derived.Deep.RegionHeld3
import Derived.Deep.Draws
import Derived.Lib.Hide
namespace Go.Proofs.Ytichkobifmfffaa
open Go.RowKit
theorem hasb (A : Option Addr) (c : Nat) (l : List Ident.Id) (x : Ident.Id) (r : Bool) (w : World) (h : Ident.has l x = r) (hl : l.length ≤ 9223372036854775807) (hi : nodeLay.Reads w w.heap.size A l) :
    Calls Try.prog 16 #[.slice A l.length c, nv x] w fun e w' => e = .returned (.bool r) ∧ Below w.heap.size w w' := h ▸ has_any A c l x w hl hi
theorem rhasb (A : Option Addr) (c : Nat) (l : List Ident.Id) (x : Ident.Id) (r : Bool) (w : World) (h : Ident.has l x = r) (hl : l.length ≤ 9223372036854775807) (hi : nodeLay.Reads w w.heap.size A l) :
    Calls Try.prog 17 #[.slice A l.length c, nv x] w fun e w' => e = .returned (.bool r) ∧ Below w.heap.size w w' := h ▸ rhas_any A c l x w hl hi
/-- A slice of the call's own of just these nodes; below all is as it was. -/
def IsNodes (l : List Ident.Id) (w : World) (e : Ending) (w' : World) : Prop := ∃ A c, e = .returned (.slice A l.length c) ∧ nodeLay.Own w.heap.size w' (.slice A l.length c) l ∧ Below w.heap.size w w'
theorem isNodes {l : List Ident.Id} {w w' : World} {v : Value} {base : Nat} (h : nodeLay.Own base w' v l) (hb : w.heap.size ≤ base) (hw : Below w.heap.size w w') : IsNodes l w (.returned v) w' := by
  obtain ⟨A, c, rfl⟩ := h.shape
  exact ⟨A, c, rfl, h.mono hb, hw⟩

set_option maxHeartbeats 1600000 in
theorem both_any (A B : Option Addr) (c d : Nat) (l m : List Ident.Id) (w : World) (hl : l.length ≤ 8796093022208) (hm : m.length ≤ 9223372036854775807) (hi : nodeLay.Reads w w.heap.size A l) (hj : nodeLay.Reads w w.heap.size B m) :
    Calls Try.prog 19 #[.slice A l.length c, .slice B m.length d] w (IsNodes (Ident.both l m) w) := by
  have HI := Lib.hid hi
  have HH := Lib.hid (fun x r W (hx : Ident.has m x = r) (hb : Below w.heap.size w W) => hasb B d m x r W hx hm (hj.later hb (Nat.le_refl _)))
  have HW : Hid (nodeLay.Own w.heap.size (w.alloc (.cells #[] 24)) (.slice (some ⟨w.heap.size, 0, none⟩) 0 0) []) := Lib.hid (Lay.Own.new w [] _ _ _ _ rfl (Nat.le_refl _) rfl rfl rfl (by decide))
  have HB0 := Lib.hid ((Below.refl _ w).alloc (Nat.le_refl _) (.cells #[] 24))
  clear hi hj
  generalize hn : l.length = n at *
  have HN := Lib.hid hn
  clear hn
  generalize m.length = mm at *
  go_enter Try.func19, Try.ntmps19
  go_wp2_with fail
  go_loopw [5, 11] (fun vs vi wr => ∃ k : Nat, k ≤ n ∧ vi = .int .i64 k ∧ Hid (nodeLay.Own w.heap.size wr vs (Ident.both (l.take k) m)) ∧ Hid (Below w.heap.size w wr)) (fun _ vi _ => n - (intOf vi).toNat)
  case atStart => exact ⟨0, Nat.zero_le _, rfl, HW, HB0⟩
  case round =>
    obtain ⟨k, hk, rfl, HR, HB⟩ := hrel
    have hs := HB.out.size
    clear HW HB0
    by_cases hlt : k < n
    · obtain ⟨x, hx⟩ := Lay.get_of (l := l) (k := k) (by rw [HN.out]; exact hlt)
      obtain ⟨b, o, rfl, hb, hc⟩ := HI.out (by rw [HN.out]; omega)
      obtain ⟨c0, c1⟩ := at_node ((hc k x hx).keep (w' := wr) fun p hp => HB.out.cell (by rw [hp]; exact hb))
      have HB1 := Lib.hid (HB.out.alloc hs (.cells #[.int .i64 x.s, .int .i64 x.c] 24))
      have HP := Lib.hid (Pair.new wr x)
      have HX := Lib.hid hx
      have hlen := Ident.both_le (l.take k) m
      have HRa := Lib.hid (HR.out.alloc (.cells #[.int .i64 x.s, .int .i64 x.c] 24))
      rw [List.length_take] at hlen
      clear hx hc HR
      cases hh : Ident.has m x
      · have HH1 := Lib.hid (HH.out x _ (wr.alloc (.cells #[.int .i64 x.s, .int .i64 x.c] 24)) hh HB1.out)
        have HE := Lib.hid (Ident.both_no HX.out hh)
        clear hh
        obtain ⟨xs, xc⟩ := x
        unfold nv at HH1
        simp only at c0 c1 HH1 HB1 HP HRa
        go_wp2_with fail
        refine (HH1.out).mono ?_; rintro e w1 ⟨rfl, b1⟩
        have HR1 := Lib.hid (HRa.out.below b1)
        have HB2 := Lib.hid (HB1.out.trans (b1.mono HB1.out.size))
        clear b1
        go_wp2_with fail
        exact ⟨⟨k + 1, by omega, by go_num, by rw [HE.out]; exact HR1, HB2⟩, by simp [intOf]; omega⟩
      · have HH1 := Lib.hid (HH.out x _ (wr.alloc (.cells #[.int .i64 x.s, .int .i64 x.c] 24)) hh HB1.out)
        have HE := Lib.hid (Ident.both_yes HX.out hh)
        clear hh
        obtain ⟨xs, xc⟩ := x
        unfold nv at HH1
        simp only at c0 c1 HH1 HB1 HP HRa
        go_wp2_with fail
        refine (HH1.out).mono ?_; rintro e w1 ⟨rfl, b1⟩
        have HR1 := Lib.hid (HRa.out.below b1)
        have HB2 := Lib.hid (HB1.out.trans (b1.mono HB1.out.size))
        obtain ⟨p0, p1, -⟩ := (HP.out.below b1 (by simp)).all
        simp only at p0 p1
        have hs1 := HB2.out.size
        clear b1
        go_wp2_with (at_builtin; refine nodeLay.wpList_push rfl (.tmp 18) (.tmp 20) rfl w.heap.size _ _ (Ident.both (l.take k) m) [⟨xs, xc⟩] _ _ _ _ (by rfl) rfl rfl rfl rfl HR1.out (by simp; omega) ?hb hs1 ?_)
        case hb => show _ * 16 ≤ _; simp; omega
        intro v2 w2 HR2 HT2 hs2
        have HB3 := Lib.hid (below_turns HB2.out HT2.out (Nat.le_refl _))
        clear HT2 HR1
        go_wp2_with fail
        exact ⟨⟨k + 1, by omega, by go_num, by rw [HE.out]; exact HR2, HB3⟩, by simp [intOf]; omega⟩
    · obtain rfl : k = n := by omega
      have hr := HR.out
      rw [List.take_of_length_le (by rw [HN.out]; exact Nat.le_refl _)] at hr
      have HR1 := Lib.hid hr
      clear hr HR
      go_wp2_with fail
      go_ret
      exact isNodes HR1.out (Nat.le_refl _) HB.out

set_option maxHeartbeats 1600000 in
theorem rboth_any (A B : Option Addr) (c d : Nat) (l m : List Ident.Id) (w : World) (hl : l.length ≤ 8796093022208) (hm : m.length ≤ 9223372036854775807) (hi : nodeLay.Reads w w.heap.size A l) (hj : nodeLay.Reads w w.heap.size B m) :
    Calls Try.prog 22 #[.slice A l.length c, .slice B m.length d] w (IsNodes (Ident.both l m) w) := by
  have HI := Lib.hid hi
  have HH := Lib.hid (fun x r W (hx : Ident.has m x = r) (hb : Below w.heap.size w W) => rhasb B d m x r W hx hm (hj.later hb (Nat.le_refl _)))
  have HW : Hid (nodeLay.Own w.heap.size w (.slice none 0 0) []) := Lib.hid (Lay.Own.none w _)
  have HB0 := Lib.hid (Below.refl w.heap.size w)
  clear hi hj
  generalize hn : l.length = n at *
  have HN := Lib.hid hn
  clear hn
  generalize m.length = mm at *
  go_enter Try.func22, Try.ntmps22
  go_wp2_with fail
  go_loopw [5, 6] (fun vs vi wr => ∃ k : Nat, k ≤ n ∧ vi = .int .i64 k ∧ Hid (nodeLay.Own w.heap.size wr vs (Ident.both (l.take k) m)) ∧ Hid (Below w.heap.size w wr)) (fun _ vi _ => n - (intOf vi).toNat)
  case atStart => exact ⟨0, Nat.zero_le _, rfl, HW, HB0⟩
  case round =>
    obtain ⟨k, hk, rfl, HR, HB⟩ := hrel
    have hs := HB.out.size
    clear HW HB0
    by_cases hlt : k < n
    · obtain ⟨x, hx⟩ := Lay.get_of (l := l) (k := k) (by rw [HN.out]; exact hlt)
      obtain ⟨b, o, rfl, hb, hc⟩ := HI.out (by rw [HN.out]; omega)
      obtain ⟨c0, c1⟩ := at_node ((hc k x hx).keep (w' := wr) fun p hp => HB.out.cell (by rw [hp]; exact hb))
      have HX := Lib.hid hx
      have HC := Lib.hid hc
      have hlen := Ident.both_le (l.take k) m
      rw [List.length_take] at hlen
      clear hx hc
      cases hh : Ident.has m x
      · have HH1 := Lib.hid (HH.out x _ wr hh HB.out)
        have HE := Lib.hid (Ident.both_no HX.out hh)
        clear hh
        obtain ⟨xs, xc⟩ := x
        unfold nv at HH1
        simp only at c0 c1 HH1
        go_wp2_with fail
        refine (HH1.out).mono ?_; rintro e w1 ⟨rfl, b1⟩
        have HR1 := Lib.hid (HR.out.below b1)
        have HB2 := Lib.hid (HB.out.trans (b1.mono HB.out.size))
        clear b1 HR
        go_wp2_with fail
        exact ⟨⟨k + 1, by omega, by go_num, by rw [HE.out]; exact HR1, HB2⟩, by simp [intOf]; omega⟩
      · have HH1 := Lib.hid (HH.out x _ wr hh HB.out)
        have HE := Lib.hid (Ident.both_yes HX.out hh)
        clear hh
        obtain ⟨xs, xc⟩ := x
        unfold nv at HH1
        simp only at c0 c1 HH1
        go_wp2_with fail
        refine (HH1.out).mono ?_; rintro e w1 ⟨rfl, b1⟩
        have HR1 := Lib.hid (HR.out.below b1)
        have HB2 := Lib.hid (HB.out.trans (b1.mono HB.out.size))
        obtain ⟨c0, c1⟩ := at_node ((HC.out k _ HX.out).keep (w' := w1) fun p hp => HB2.out.cell (by rw [hp]; exact hb))
        simp only at c0 c1
        have hs1 := HB2.out.size
        clear b1 HR
        go_wp2_with (at_builtin; refine nodeLay.wpList_push rfl (.tmp 19) (.tmp 24) rfl w.heap.size _ _ (Ident.both (l.take k) m) [⟨xs, xc⟩] _ _ _ _ (by rfl) rfl rfl rfl rfl HR1.out (by simp; omega) ?hb hs1 ?_)
        case hb => show _ * 16 ≤ _; simp; omega
        intro v2 w2 HR2 HT2 hs2
        have HB3 := Lib.hid (below_turns HB2.out HT2.out (Nat.le_refl _))
        clear HT2 HR1
        go_wp2_with fail
        exact ⟨⟨k + 1, by omega, by go_num, by rw [HE.out]; exact HR2, HB3⟩, by simp [intOf]; omega⟩
    · obtain rfl : k = n := by omega
      have hr := HR.out
      rw [List.take_of_length_le (by rw [HN.out]; exact Nat.le_refl _)] at hr
      have HR1 := Lib.hid hr
      clear hr HR
      go_wp2_with fail
      go_ret
      exact isNodes HR1.out (Nat.le_refl _) HB.out
end Go.Proofs.Ytichkobifmfffaa
