/-
  What the law's awake returns: true.
  No condition.
-/
import Derived.Test.YtichkobifmfffaaNodeWith
import Derived.WalkKit
import Derived.WalkSpells
import Derived.WalkLawsBesides
import Derived.Handy
import Derived.Deep.QuietTactic
import Derived.BigQuiet
import Derived.Deep.RegionWith
import Derived.Deep.RegionHeld3
import Derived.Deep.Draws
import Derived.Lib.Hide
namespace Go.Proofs.Ytichkobifmfffaa
open Go.RowKit
theorem reach_num : reachBytes = 140737488351232 := by decide
def exl : List Ident.Id := [⟨0, 1⟩, ⟨2, 1⟩]
def exm : List Ident.Id := [⟨0, 1⟩, ⟨1, 1⟩, ⟨2, 1⟩]
theorem ex_with : Ident.withN exl ⟨1, 1⟩ = exm := by decide
theorem ex_major : Ident.major exl exm = true := by decide

set_option maxHeartbeats 1600000 in
theorem nawake_any (w : World) : Calls Try.prog 11 #[] w fun e w' => e = .returned (.bool true) ∧ Below w.heap.size w w' := by
  have hi : nodeLay.Reads (w.alloc (.cells #[.int .i64 0, .int .i64 1, .int .i64 2, .int .i64 1] 24)) (w.alloc (.cells #[.int .i64 0, .int .i64 1, .int .i64 2, .int .i64 1] 24)).heap.size (some ⟨w.heap.size, 0, none⟩) exl := Lay.Reads.new nodeLay w exl _ rfl
  have HW := Lib.hid (with_any (some ⟨w.heap.size, 0, none⟩) 2 exl ⟨1, 1⟩ _ (by decide) (by decide) hi (fun h => by cases h))
  have HM := Lib.hid (fun A c w1 (h : nodeLay.Reads w1 w1.heap.size (some ⟨w.heap.size, 0, none⟩) exl) (h2 : nodeLay.Reads w1 w1.heap.size A exm) => major_any (some ⟨w.heap.size, 0, none⟩) A 2 c exl exm w1 (by decide) (by decide) h h2)
  have HS := Lib.hid (fun W => mostn_any 5 W (by decide))
  have HI := Lib.hid hi
  have HB0 := Lib.hid ((Below.refl _ w).alloc (Nat.le_refl _) (.cells #[.int .i64 0, .int .i64 1, .int .i64 2, .int .i64 1] 24))
  rw [ex_with] at HW
  simp only [ex_major] at HM
  unfold IsNodes nv at HW
  simp only [show exl.length = 2 from rfl, show exm.length = 3 from rfl] at HW HM
  clear hi
  go_enter Try.func11, Try.ntmps11
  go_wp2_with fail
  refine (HW.out).mono ?_; rintro e w1 ⟨A1, c1, rfl, ho, hb1⟩
  have HI1 := Lib.hid (HI.out.later hb1 (Nat.le_refl _))
  have HB1 := Lib.hid (HB0.out.trans (hb1.mono HB0.out.size))
  have HR1 := Lib.hid ho.reads.2
  obtain ⟨g, c2, hv, hc2, _, hg, hat⟩ := ho.block (by decide)
  injection hv with e1 e2 e3
  subst e1 e3
  have h1 := (at_node (hat 1 ⟨1, 1⟩ rfl)).1
  simp only [Nat.zero_add, Nat.one_mul] at h1
  clear ho hb1 hat e2 hc2 HW HI
  go_wp2_with fail
  refine (HS.out _).mono ?_; rintro e w2 ⟨rfl, rfl⟩
  have h5 : ((Ident.most 5 : Nat) : Int) = 3 := rfl
  go_wp2_with fail
  refine (HM.out _ _ _ HI1.out HR1.out).mono ?_; rintro e w3 ⟨rfl, hb3⟩
  have HB3 := Lib.hid (HB1.out.trans (hb3.mono HB1.out.size))
  clear hb3
  go_wp2_with fail
  go_ret
  exact ⟨rfl, HB3.out⟩
end Go.Proofs.Ytichkobifmfffaa
