/-
  What ident.From returns at a place of items: the rising list whose items stand there, if it is one.
  No condition but bounds on the slice.
-/
import Derived.Test.YtichkobifmfffaaNodeTake
import Derived.Test.YtichkobifmfffaaNodeRise
import Derived.Test.YtichkobifmfffaaItemEqual
import Derived.WalkKit
import Derived.WalkSpells
import Derived.WalkLawsBesides
import Derived.Handy
import Derived.Deep.QuietTactic
import Derived.BigQuiet
import Derived.Deep.RegionWith
import Derived.Deep.RegionHeld3
import Derived.Deep.Draws
import Derived.Lib.Hide
namespace Go.Proofs.Ytichkobifmfffaa
open Go.RowKit
theorem at_below {w w1 : World} {B b o : Nat} {l : List Itm.It} (hb : Below B w w1) (hB : b < B) (h : ∀ i x, l[i]? = some x → itemLay.At w b o i x) : ∀ i x, l[i]? = some x → itemLay.At w1 b o i x := fun i x hx =>
  (h i x hx).keep fun p hp => hb.cell (by rw [hp]; exact hB)
theorem at_drop {w : World} {b o : Nat} {l : List Itm.It} (p : Nat) (h : ∀ i x, l[i]? = some x → itemLay.At w b o i x) : ∀ i x, (l.drop p)[i]? = some x → itemLay.At w b (o + p * 3) i x := fun i x hx j u hu => by
  rw [List.getElem?_drop] at hx
  have h1 := h _ _ hx j u hu
  have e : itemLay.k = 3 := rfl
  rw [e] at h1 ⊢
  rw [show o + p * 3 + i * 3 + j = o + (p + i) * 3 + j from by omega]
  exact h1
theorem at_take {w : World} {b o : Nat} {l : List Itm.It} (q : Nat) (h : ∀ i x, l[i]? = some x → itemLay.At w b o i x) : ∀ i x, (l.take q)[i]? = some x → itemLay.At w b o i x := fun i x hx => by
  rw [List.getElem?_take] at hx
  split at hx
  · exact h i x hx
  · cases hx
theorem reads_of {w : World} {b o B : Nat} {l : List Itm.It} (hb : b < B) (h : ∀ i x, l[i]? = some x → itemLay.At w b o i x) : itemLay.Reads w B (some ⟨b, o, none⟩) l := fun _ => ⟨b, o, rfl, hb, h⟩

/-- What From leaves: something; the list ids, the place z and true, where c holds. -/
def IsFrom (ids : List Ident.Id) (z : Int) (c : Prop) (w : World) (e : Ending) (w' : World) : Prop :=
  ∃ (A : Option Addr) (m : List Ident.Id) (q : Nat) (n : Int) (b : Bool), e = .returned (.tuple #[.slice A m.length q, .int .i64 n, .bool b]) ∧ nodeLay.Reads w' w'.heap.size A m ∧ (c → m = ids ∧ n = z ∧ b = true) ∧ Below w.heap.size w w'

set_option maxHeartbeats 3200000 in
theorem from_any (b o c n p : Nat) (L : List Itm.It) (w : World) (hl : L.length = n) (hp : p < n) (hc : n ≤ c) (hbig : n ≤ 1000000000) (hb : b < w.heap.size) (hi : ∀ i x, L[i]? = some x → itemLay.At w b o i x) :
    Calls Try.prog 29 #[.slice (some ⟨b, o, none⟩) n c, .int .i64 p] w
      (IsFrom (Ident.tk (L.drop p)) ((p : Int) + ((Ident.items (Ident.tk (L.drop p))).length : Int)) (Ident.rises (Ident.tk (L.drop p)) = true ∧ (L.drop p).take (Ident.items (Ident.tk (L.drop p))).length = Ident.items (Ident.tk (L.drop p))) w) := by
  have hld : (L.drop p).length = n - p := by rw [List.length_drop, hl]
  have HT := Lib.hid (fun o1 c1 W hb2 hi2 => take_any b o1 c1 (n - p) (L.drop p) W hld (by omega) (by omega) hb2 hi2)
  have how := Ident.own_length (L.drop p) (by rw [hld]; omega)
  rw [hld] at how
  have hil := Ident.items_length (Ident.tk (L.drop p))
  have htl := Ident.tk_length (L.drop p)
  have hc7 := (Ident.cnt_le (L.drop p)).1
  have HI := Lib.hid hi
  generalize Ident.cnt (L.drop p) = cn at *
  generalize Ident.tk (L.drop p) = ids at *
  have HIt := Lib.hid (fun A1 c1 W h => items_any A1 c1 ids W (by omega) h)
  have HRi := Lib.hid (fun A1 c1 W h => rises_any A1 c1 ids W (by omega) h)
  have HM : Hid (∀ A W (bb : Bool), nodeLay.Reads W W.heap.size A ids → Below w.heap.size w W → ∀ q, IsFrom ids ((p : Int) + ((Ident.items ids).length : Int)) (Ident.rises ids = true ∧ (L.drop p).take (Ident.items ids).length = Ident.items ids) w (.returned (.tuple #[.slice A ids.length q, .int .i64 ((p : Int) + ((Ident.items ids).length : Int)), .bool true])) W) := Lib.hid fun A W _ hr hb q => ⟨A, ids, q, _, true, rfl, hr, fun _ => ⟨rfl, rfl, rfl⟩, hb⟩
  have HZ : Hid (∀ W, Below w.heap.size w W → ¬ (Ident.rises ids = true ∧ (L.drop p).take (Ident.items ids).length = Ident.items ids) → IsFrom ids ((p : Int) + ((Ident.items ids).length : Int)) (Ident.rises ids = true ∧ (L.drop p).take (Ident.items ids).length = Ident.items ids) w (.returned (.tuple #[.slice none 0 0, .int .i64 0, .bool false])) W) := Lib.hid fun W hb hn => ⟨none, [], 0, 0, false, rfl, Lay.Reads.nil _ _ _, fun h => absurd h hn, hb⟩
  have htake : ((L.drop p).take (Ident.items ids).length).length = (Ident.items ids).length := by rw [List.length_take, hld]; omega
  have HE := Lib.hid (fun A A' c1 c2 W B B' h1 h2 => iequal_any A A' c1 c2 ((L.drop p).take (Ident.items ids).length) (Ident.items ids) W B B' (by rw [htake]; omega) (by omega) h1 h2)
  rw [htake] at HE
  generalize hown : Ident.items ids = own at *
  have HRs : Hid (Ident.rises ids = Ident.rises ids) := Lib.hid rfl
  generalize hrr : Ident.rises ids = r at HRi HM HZ HRs ⊢
  generalize hm : own.length = m at *
  have HMl := Lib.hid hm
  generalize hin : ids.length = ni at *
  unfold IsNodes at HT
  rw [hin] at HT
  unfold IsItems at HIt
  rw [hm] at HIt
  have hpm : p + m ≤ n := by omega
  have hpc : p + m ≤ c := by omega
  have hpp : p ≤ p + m := by omega
  have hpcl : p < c := by omega
  clear hi hl hld how hil htl hc7 hown hm hin htake hrr HRs
  go_enter Try.func29, Try.ntmps29
  go_wp2_with fail
  refine (HT.out (o + p * 3) (c - p) _ hb (at_drop p HI.out)).mono ?_; rintro e w1 ⟨A1, c1, rfl, o1, b1⟩
  have HB1 := Lib.hid b1
  have HN1 := Lib.hid o1.reads.2
  clear b1 o1 HT
  go_wp2_with fail
  refine (HIt.out _ _ _ HN1.out).mono ?_; rintro e w2 ⟨A2, c2, rfl, o2, b2⟩
  have HB2 := Lib.hid (Lift.then2 HB1.out b2)
  have HN2 := Lib.hid (HN1.out.later b2 (Nat.le_refl _))
  have HO2 := Lib.hid o2.reads.2
  clear b2 o2 HN1 HIt
  go_wp2_with fail
  refine (HRi.out _ _ _ HN2.out).mono ?_; rintro e w3 ⟨rfl, b3⟩
  have HB3 := Lib.hid (Lift.then2 HB2.out b3)
  have HN3 := Lib.hid (HN2.out.later b3 (Nat.le_refl _))
  have HO3 := Lib.hid (HO2.out.later b3 (Nat.le_refl _))
  have HI3 := Lib.hid (reads_of (Nat.lt_of_lt_of_le hb HB3.out.size) (at_take m (at_drop p (at_below HB3.out hb HI.out))))
  clear b3 HN2 HO2 HRi
  cases r with
  | false =>
    have HF := Lib.hid (HZ.out _ HB3.out (fun h => by cases h.1))
    go_wp2_with fail
    go_ret3
    exact HF.out
  | true =>
    go_wp2_with fail
    refine (HE.out _ _ _ _ _ _ _ HI3.out HO3.out).mono ?_; rintro e w4 ⟨bb, rfl, hbb, q, rfl⟩
    cases bb with
    | true =>
      have HF := Lib.hid (HM.out _ _ true (HN3.out.drewN q) (Lift.drewN_then HB3.out q) c1)
      clear hbb
      go_wp2_with fail
      go_ret3
      exact HF.out
    | false =>
      have HF := Lib.hid (HZ.out _ (Lift.drewN_then HB3.out q) (fun h => by have := hbb h.2; cases this))
      clear hbb
      go_wp2_with fail
      go_ret3
      exact HF.out
end Go.Proofs.Ytichkobifmfffaa
