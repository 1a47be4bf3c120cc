/-
  What the reader's item does: takes an item off the front, or panics.
  The reader is a block of its own; its text is no longer than a frame's body.
-/
import Derived.Test.YtllgcfbecioceaaWireRead
namespace Go.Proofs.Ytllgcfbecioceaa
open Go.RowKit

/-- Block B is an item's three cells. -/
def Box (w : World) (B : Nat) (x y z : Value) : Prop := w.heap[B]? = some (.cells #[x, y, z] 36 (0, 0))
section
variable {w w' : World} {g B : Nat} {s : ByteArray} {x y z : Value}
theorem Box.lt (h : Box w B x y z) : B < w.heap.size := (Array.getElem?_eq_some_iff.1 h).1
theorem Box.cell (h : Box w B x y z) (i : Nat) : w.cell? ⟨B, i, none⟩ = #[x, y, z][i]? := cell_of_row w B i _ _ (0, 0) h
theorem Box.frozen (h : Box w B x y z) (i : Nat) : w.frozen? ⟨B, i, none⟩ = false := by
  unfold Box at h
  simp [World.frozen?, h]
theorem Box.grown (h : Box w B x y z) (hg : w.grownBy w' (some g)) (hne : B ≠ g) : Box w' B x y z := (hg.block B h.lt (fun e => hne (by injection e))).trans h
theorem Rd.alloc (h : Rd w g s) (o : Obj) : Rd (w.alloc o) g s := (Below.heap_alloc w o g h.lt).trans h
theorem grown_alloc (w : World) (o : Obj) (r : Option Nat) : w.grownBy (w.alloc o) r := World.grownBy_alloc w o r
end

theorem box_set (w : World) (B : Nat) {x y z : Value} (i : Nat) (v : Value) (h : Box w B x y z) : (w.setCell ⟨B, i, none⟩ v).heap[B]? = some (.cells (#[x, y, z].setIfInBounds i v) 36 (0, 0)) := by
  unfold Box at h
  simp [World.setCell, Array.getElem?_modify, h]
/-- Three stores into a box. -/
theorem box_store {w : World} {B : Nat} {x y z : Value} (h : Box w B x y z) (a b c : Value) : Box (((w.setCell ⟨B, 0, none⟩ a).setCell ⟨B, 1, none⟩ b).setCell ⟨B, 2, none⟩ c) B a b c := by
  have h1 : Box (w.setCell ⟨B, 0, none⟩ a) B a y z := box_set w B 0 a h
  have h2 : Box ((w.setCell ⟨B, 0, none⟩ a).setCell ⟨B, 1, none⟩ b) B a b z := box_set _ B 1 b h1
  exact box_set _ B 2 c h2
theorem rd_store {w : World} {g B : Nat} {s : ByteArray} (h : Rd w g s) (hne : g ≠ B) (a b c : Value) : Rd (((w.setCell ⟨B, 0, none⟩ a).setCell ⟨B, 1, none⟩ b).setCell ⟨B, 2, none⟩ c) g s := by
  unfold Rd
  rw [Below.heap_setCell _ ⟨B, 2, none⟩ _ g hne, Below.heap_setCell _ ⟨B, 1, none⟩ _ g hne, Below.heap_setCell _ ⟨B, 0, none⟩ _ g hne]
  exact h
theorem grown_setNew {W w : World} {r : Option Nat} (h : W.grownBy w r) {B : Nat} (hB : W.heap.size ≤ B) (i : Nat) (v : Value) : W.grownBy (w.setCell ⟨B, i, none⟩ v) r :=
  ⟨h.os, h.tape, h.output, by simpa [World.setCell] using h.size, fun j hj hne => (Below.heap_setCell w ⟨B, i, none⟩ v j (by show j ≠ B; omega)).trans (h.block j hj hne)⟩
theorem grown_store {W w : World} {r : Option Nat} (h : W.grownBy w r) {B : Nat} (hB : W.heap.size ≤ B) (a b c : Value) : W.grownBy (((w.setCell ⟨B, 0, none⟩ a).setCell ⟨B, 1, none⟩ b).setCell ⟨B, 2, none⟩ c) r :=
  grown_setNew (grown_setNew (grown_setNew h hB 0 a) hB 1 b) hB 2 c

/-- What item leaves. -/
def IsItem (g : Nat) (w : World) (x : Wire.It) (t : List UInt8) (e : Ending) (w' : World) : Prop := e = .returned (itv x) ∧ Rd w' g (txt t) ∧ w.grownBy w' (some g)

/-- The first byte cut off, behind the result's own block. -/
theorem first_cut (g : Nat) (c : UInt8) (r : List UInt8) (w : World) (hr : Rd w g (txt (c :: r))) (hs : (c :: r).length ≤ 16384) :
    Calls Try.prog 27 #[.pointer (some ⟨g, 0, none⟩), .int .i64 1] (w.alloc (.cells #[.int .i64 0, .int .i64 0, .string ⟨#[]⟩] 36)) fun e w' =>
      e = .returned (.string ⟨#[c]⟩) ∧ Rd w' g (txt r) ∧ Box w' w.heap.size (.int .i64 0) (.int .i64 0) (.string ⟨#[]⟩) ∧ w.grownBy w' (some g) := by
  have h := cut_ok g (txt (c :: r)) 1 _ (hr.alloc (.cells #[.int .i64 0, .int .i64 0, .string ⟨#[]⟩] 36)) (by rw [txt_size]; simp) (by rw [txt_size]; omega)
  rw [txt_take, txt_drop _ _ _ rfl] at h
  refine h.mono ?_
  rintro e w' ⟨he, rfl⟩
  refine ⟨he, (hr.alloc _).set _, ?_, grown_trans (grown_alloc _ _ _) (grown_set _ _ _)⟩
  exact Box.grown (w := w.alloc _) (heap_alloc_new w _) (grown_set _ _ _) (by have := hr.lt; omega)

theorem index_one (c : UInt8) (W : World) : (Instr.index 9 (.string ⟨#[c]⟩) (.int .i64 0)).run Try.prog W = .ok (.int .u8 (c.toNat : Int)) W := by
  rw [run_index_string W 9 _ .i64 _ Try.underlying9, dif_pos ⟨by decide, by show (0 : Int) < 1; decide⟩]
  rfl

set_option maxHeartbeats 800000 in
theorem item_int (g : Nat) (c : UInt8) (r t : List UInt8) (u : Nat) (w : World) (hr : Rd w g (txt (c :: r))) (hs : (c :: r).length ≤ 16384) (hc : c.toNat ≤ 8) (ht : Wire.takeLeast c.toNat r = some (u, t)) :
    Calls Try.prog 21 #[.pointer (some ⟨g, 0, none⟩)] w (IsItem g w ⟨0, Wire.unfold u, ⟨#[]⟩⟩ t) := by
  have HC := Lib.hid (first_cut g c r w hr hs)
  have hne := hr.lt
  have HL := Lib.hid (fun (w1 : World) (h : Rd w1 g (txt r)) => least_some g r t c.toNat u w1 hc h (by simp at hs; omega) ht)
  have hu : u < 18446744073709551616 := Nat.lt_of_lt_of_le (Wire.takeLeast_some ht).2.2.1 (Nat.pow_le_pow_right (n := 256) (by decide) hc)
  have HU := Lib.hid (fun w => unfold_any u w hu)
  have hix := index_one c
  have hcl := c.toNat_lt
  clear hr hs ht
  generalize c.toNat = f at *
  generalize (⟨#[c]⟩ : ByteArray) = s1 at *
  go_enter Try.func21, Try.ntmps21
  go_wp2_with fail
  refine (HC.out).mono ?_; rintro e w1 ⟨rfl, hr1, hb1, hg1⟩
  have HR1 := Lib.hid hr1
  have HB1 := Lib.hid hb1
  have HG1 := Lib.hid hg1
  clear hr1 hb1 hg1
  go_wp2_with fail
  refine (HL.out _ HR1.out).mono ?_; rintro e w2 ⟨rfl, hr2, hg2⟩
  have HR2 := Lib.hid hr2
  have HB2 := Lib.hid (HB1.out.grown hg2 (by omega))
  have HG2 := Lib.hid (grown_trans HG1.out hg2)
  clear hr2 hg2 HR1 HB1 HG1
  go_wp2_with fail
  refine (HU.out _).mono ?_; rintro e w' ⟨rfl, rfl⟩
  have k0 := HB2.out.cell 0
  have k1 := HB2.out.cell 1
  have k2 := HB2.out.cell 2
  have f0 := HB2.out.frozen 0
  have f1 := HB2.out.frozen 1
  have f2 := HB2.out.frozen 2
  simp at k0 k1 k2
  go_wp2_with fail
  have HS := box_store HB2.out (.int .i64 0) (.int .i64 (Wire.unfold u)) (.string ⟨#[]⟩)
  have HRS := rd_store HR2.out (B := w.heap.size) (by omega) (.int .i64 0) (.int .i64 (Wire.unfold u)) (.string ⟨#[]⟩)
  have HGS := grown_store HG2.out (B := w.heap.size) (Nat.le_refl _) (.int .i64 0) (.int .i64 (Wire.unfold u)) (.string ⟨#[]⟩)
  clear k0 k1 k2 f0 f1 f2
  generalize (((w2.setCell ⟨w.heap.size, 0, none⟩ (.int .i64 0)).setCell ⟨w.heap.size, 1, none⟩ (.int .i64 (Wire.unfold u))).setCell ⟨w.heap.size, 2, none⟩ (.string ⟨#[]⟩)) = w3 at *
  have k0 := HS.cell 0
  have k1 := HS.cell 1
  have k2 := HS.cell 2
  simp at k0 k1 k2
  exact bodyPost_ret (v := .agg #[.int .i64 0, .int .i64 (Wire.unfold u), .string ⟨#[]⟩]) (by simp [results, Try.results21, go_sem, k0, k1, k2]) rfl ⟨rfl, HRS, HGS⟩

set_option maxHeartbeats 1600000 in
theorem item_text (g : Nat) (c : UInt8) (r t : List UInt8) (u : Nat) (w : World) (hr : Rd w g (txt (c :: r))) (hs : (c :: r).length ≤ 16384) (hc : 16 ≤ c.toNat) (hc2 : c.toNat ≤ 18) (ht : Wire.takeLeast (c.toNat - 16) r = some (u, t)) (hut : u ≤ t.length) :
    Calls Try.prog 21 #[.pointer (some ⟨g, 0, none⟩)] w (IsItem g w ⟨1, 0, txt (t.take u)⟩ (t.drop u)) := by
  have HC := Lib.hid (first_cut g c r w hr hs)
  have hne := hr.lt
  have htl := (Wire.takeLeast_some ht).2.2.2
  have hrl : r.length ≤ 16383 := by simp at hs; omega
  have HL := Lib.hid (fun (w1 : World) (h : Rd w1 g (txt r)) => least_some g r t (c.toNat - 16) u w1 (by omega) h (by omega) ht)
  have HK : Hid (∀ w1 : World, Rd w1 g (txt t) → Calls Try.prog 27 #[.pointer (some ⟨g, 0, none⟩), .int .i64 u] w1 fun e w' => e = .returned (.string (txt (t.take u))) ∧ Rd w' g (txt (t.drop u)) ∧ w1.grownBy w' (some g)) := Lib.hid (fun w1 h => by
    have h1 := cut_ok g (txt t) u w1 h (by rw [txt_size]; exact hut) (by rw [txt_size]; omega)
    rw [txt_take, txt_drop _ _ _ rfl] at h1
    refine h1.mono ?_
    rintro e w' ⟨he, rfl⟩
    exact ⟨he, h.set _, grown_set _ _ _⟩)
  have HN := Lib.hid (fun w => clone_any (txt (t.take u)) w (by rw [txt_size]; have := List.length_take_le u t; omega))
  have hix := index_one c
  have hcl := c.toNat_lt
  have hu : u ≤ 16384 := by omega
  have hsub : ((c.toNat : Int) - 16) = ((c.toNat - 16 : Nat) : Int) := by omega
  have HSub := Lib.hid hsub
  clear hr hs ht htl hsub hrl hut
  generalize (c.toNat - 16) = f' at *
  generalize c.toNat = f at *
  generalize (⟨#[c]⟩ : ByteArray) = s1 at *
  generalize txt (t.take u) = s2 at *
  go_enter Try.func21, Try.ntmps21
  go_wp2_with fail
  refine (HC.out).mono ?_; rintro e w1 ⟨rfl, hr1, hb1, hg1⟩
  have HR1 := Lib.hid hr1
  have HB1 := Lib.hid hb1
  have HG1 := Lib.hid hg1
  clear hr1 hb1 hg1
  go_wp2_with fail
  rw [HSub.out]
  refine (HL.out _ HR1.out).mono ?_; rintro e w2 ⟨rfl, hr2, hg2⟩
  have HR2 := Lib.hid hr2
  have HB2 := Lib.hid (HB1.out.grown hg2 (by omega))
  have HG2 := Lib.hid (grown_trans HG1.out hg2)
  clear hr2 hg2 HR1 HB1 HG1
  go_wp2_with fail
  refine (HK.out _ HR2.out).mono ?_; rintro e w3 ⟨rfl, hr3, hg3⟩
  have HR3 := Lib.hid hr3
  have HB3 := Lib.hid (HB2.out.grown hg3 (by omega))
  have HG3 := Lib.hid (grown_trans HG2.out hg3)
  clear hr3 hg3 HR2 HB2 HG2
  go_wp2_with fail
  refine (HN.out _).mono ?_; rintro e w4 ⟨rfl, hb4⟩
  have HR4 := Lib.hid (Rd.below HR3.out hb4)
  have HB4 := Lib.hid (HB3.out.grown (grown_below hb4 (some g)) (by omega))
  have HG4 := Lib.hid (grown_trans HG3.out (grown_below hb4 _))
  clear hb4 HR3 HB3 HG3
  have k0 := HB4.out.cell 0
  have k1 := HB4.out.cell 1
  have k2 := HB4.out.cell 2
  have f0 := HB4.out.frozen 0
  have f1 := HB4.out.frozen 1
  have f2 := HB4.out.frozen 2
  simp at k0 k1 k2
  go_wp2_with fail
  have HS := box_store HB4.out (.int .i64 1) (.int .i64 0) (.string s2)
  have HRS := rd_store HR4.out (B := w.heap.size) (by omega) (.int .i64 1) (.int .i64 0) (.string s2)
  have HGS := grown_store HG4.out (B := w.heap.size) (Nat.le_refl _) (.int .i64 1) (.int .i64 0) (.string s2)
  clear k0 k1 k2 f0 f1 f2
  generalize (((w4.setCell ⟨w.heap.size, 0, none⟩ (.int .i64 1)).setCell ⟨w.heap.size, 1, none⟩ (.int .i64 0)).setCell ⟨w.heap.size, 2, none⟩ (.string s2)) = w5 at *
  have k0 := HS.cell 0
  have k1 := HS.cell 1
  have k2 := HS.cell 2
  simp at k0 k1 k2
  exact bodyPost_ret (v := .agg #[.int .i64 1, .int .i64 0, .string s2]) (by simp [results, Try.results21, go_sem, k0, k1, k2]) rfl ⟨rfl, HRS, HGS⟩

set_option maxHeartbeats 800000 in
theorem item_none (g : Nat) (c : UInt8) (r : List UInt8) (w : World) (hr : Rd w g (txt (c :: r))) (hs : (c :: r).length ≤ 16384) (hn : Wire.next (c :: r) = none) :
    Calls Try.prog 21 #[.pointer (some ⟨g, 0, none⟩)] w (GaveUp g w) := by
  have HC := Lib.hid (first_cut g c r w hr hs)
  have hne := hr.lt
  have hrl : r.length ≤ 16383 := by simp at hs; omega
  have hix := index_one c
  have hcl := c.toNat_lt
  rw [Wire.next] at hn
  by_cases hc : c.toNat ≤ 8
  · rw [if_pos hc, Option.map_eq_none_iff] at hn
    have HL := Lib.hid (fun (w1 : World) (h : Rd w1 g (txt r)) => least_none g r c.toNat w1 hc h (by omega) hn)
    clear hr hs hn
    generalize c.toNat = f at *
    generalize (⟨#[c]⟩ : ByteArray) = s1 at *
    go_enter Try.func21, Try.ntmps21
    go_wp2_with fail
    refine (HC.out).mono ?_; rintro e w1 ⟨rfl, hr1, hb1, hg1⟩
    have HR1 := Lib.hid hr1
    have HG1 := Lib.hid hg1
    clear hr1 hb1 hg1
    go_wp2_with fail
    refine (HL.out _ HR1.out).mono ?_; rintro e w2 ⟨rfl, hg2⟩
    have HG2 := Lib.hid (grown_trans HG1.out hg2)
    clear hg2
    go_wp2_with fail
    exact ⟨rfl, rfl, HG2.out⟩
  · rw [if_neg hc] at hn
    by_cases hc1 : 16 ≤ c.toNat ∧ c.toNat ≤ 18
    · rw [if_pos hc1] at hn
      obtain ⟨hc1, hc2⟩ := hc1
      have HSub : Hid (((c.toNat : Int) - 16) = ((c.toNat - 16 : Nat) : Int)) := Lib.hid (by omega)
      rw [Option.bind_eq_none_iff] at hn
      cases ht : Wire.takeLeast (c.toNat - 16) r with
      | none =>
        have HL := Lib.hid (fun (w1 : World) (h : Rd w1 g (txt r)) => least_none g r (c.toNat - 16) w1 (by omega) h (by omega) ht)
        clear hr hs hn ht
        generalize (c.toNat - 16) = f' at *
        generalize c.toNat = f at *
        generalize (⟨#[c]⟩ : ByteArray) = s1 at *
        go_enter Try.func21, Try.ntmps21
        go_wp2_with fail
        refine (HC.out).mono ?_; rintro e w1 ⟨rfl, hr1, hb1, hg1⟩
        have HR1 := Lib.hid hr1
        have HG1 := Lib.hid hg1
        clear hr1 hb1 hg1
        go_wp2_with fail
        rw [HSub.out]
        refine (HL.out _ HR1.out).mono ?_; rintro e w2 ⟨rfl, hg2⟩
        have HG2 := Lib.hid (grown_trans HG1.out hg2)
        clear hg2
        go_wp2_with fail
        exact ⟨rfl, rfl, HG2.out⟩
      | some p =>
        obtain ⟨u, t⟩ := p
        have hu := hn (u, t) ht
        simp only at hu
        have hlt : t.length < u := by
          rcases Nat.lt_or_ge t.length u with h | h
          · exact h
          · rw [if_neg (by omega)] at hu; cases hu
        have htl := (Wire.takeLeast_some ht).2.2.2
        have hu2 : u < 65536 := Nat.lt_of_lt_of_le (Wire.takeLeast_some ht).2.2.1 (Nat.pow_le_pow_right (n := 256) (by decide) (show c.toNat - 16 ≤ 2 by omega))
        have HL := Lib.hid (fun (w1 : World) (h : Rd w1 g (txt r)) => least_some g r t (c.toNat - 16) u w1 (by omega) h (by omega) ht)
        have HK := Lib.hid (fun (w1 : World) (h : Rd w1 g (txt t)) => cut_bad g (txt t) u w1 h (by rw [txt_size]; exact hlt) (by rw [txt_size]; omega))
        clear hr hs hn ht hu htl hlt
        generalize (c.toNat - 16) = f' at *
        generalize c.toNat = f at *
        generalize (⟨#[c]⟩ : ByteArray) = s1 at *
        go_enter Try.func21, Try.ntmps21
        go_wp2_with fail
        refine (HC.out).mono ?_; rintro e w1 ⟨rfl, hr1, hb1, hg1⟩
        have HR1 := Lib.hid hr1
        have HG1 := Lib.hid hg1
        clear hr1 hb1 hg1
        go_wp2_with fail
        rw [HSub.out]
        refine (HL.out _ HR1.out).mono ?_; rintro e w2 ⟨rfl, hr2, hg2⟩
        have HR2 := Lib.hid hr2
        have HG2 := Lib.hid (grown_trans HG1.out hg2)
        clear hr2 hg2
        go_wp2_with fail
        refine (HK.out _ HR2.out).mono ?_; rintro e w' ⟨rfl, rfl⟩
        go_wp2_with fail
        exact ⟨rfl, rfl, HG2.out⟩
    · have hd : ¬ (16 ≤ c.toNat) ∨ (16 ≤ c.toNat ∧ ¬ (c.toNat ≤ 18)) := by omega
      clear hr hs hn hc1
      generalize c.toNat = f at *
      generalize (⟨#[c]⟩ : ByteArray) = s1 at *
      rcases hd with hd | ⟨hd, hd2⟩
      all_goals
        go_enter Try.func21, Try.ntmps21
        go_wp2_with fail
        refine (HC.out).mono ?_; rintro e w1 ⟨rfl, hr1, hb1, hg1⟩
        have HG1 := Lib.hid hg1
        clear hr1 hb1 hg1
        go_wp2_with fail
        exact ⟨rfl, rfl, HG1.out⟩

/-- An item that is there is taken. -/
theorem item_some (g : Nat) (s t : List UInt8) (x : Wire.It) (w : World) (hr : Rd w g (txt s)) (hs : s.length ≤ 16384) (hn : Wire.next s = some (x, t)) :
    Calls Try.prog 21 #[.pointer (some ⟨g, 0, none⟩)] w (IsItem g w x t) := by
  match s, hn with
  | c :: r, hn =>
    rw [Wire.next] at hn
    split at hn
    · rename_i hc
      obtain ⟨⟨u, t'⟩, h1, h2⟩ := Option.map_eq_some_iff.1 hn
      cases h2
      exact item_int g c r _ u w hr hs hc h1
    · split at hn
      · rename_i hc1 hc
        obtain ⟨⟨u, t'⟩, h1, h2⟩ := Option.bind_eq_some_iff.1 hn
        simp only at h2
        split at h2
        · cases h2
        · rename_i hlen
          cases h2
          exact item_text g c r t' u w hr hs hc.1 hc.2 h1 (by omega)
      · cases hn

end Go.Proofs.Ytllgcfbecioceaa
