/-
  What With returns: the list with one node more.
  No condition but that a slice is no longer than the form's reach.
-/
import Derived.Test.YtichkobifmfffaaNodeMost
import Derived.Test.YtichkobifmfffaaNodeRise
import Derived.WalkKit
import Derived.WalkSpells
import Derived.WalkLawsBesides
import Derived.Handy
import Derived.Deep.QuietTactic
import Derived.BigQuiet
import Derived.Deep.RegionWith
import Derived.Deep.RegionHeld3
import Derived.Deep.Draws
import Derived.Lib.Hide
namespace Go.Proofs.Ytichkobifmfffaa
open Go.RowKit
theorem Keep2.alloc {w W : World} {g : Nat} {x : Ident.Id} (h : Keep2 w g x W) (o : Obj) : Keep2 w g x (W.alloc o) := h.step ((Below.refl _ W).alloc (Nat.le_refl _) o)
theorem Keep2.turned {w W W' : World} {g : Nat} {x : Ident.Id} (h : Keep2 w g x W) {t : TypeId} (hT : Turns (g + 1) t W W') (hg : w.heap.size ≤ g) : Keep2 w g x W' :=
  ⟨(hT.below.cell (p := ⟨g, 0, none⟩) (Nat.lt_succ_self g)).trans h.1, (hT.below.cell (p := ⟨g, 1, none⟩) (Nat.lt_succ_self g)).trans h.2.1, Lib.hid (below_turns h.2.2.out hT (by omega))⟩
theorem Keep2.lt {w W : World} {g : Nat} {x : Ident.Id} (h : Keep2 w g x W) : g < W.heap.size := World.block_lt_of_cell? W _ h.1
theorem Keep2.drewN {w W : World} {g : Nat} {x : Ident.Id} (h : Keep2 w g x W) (n : Nat) : Keep2 w g x (W.drewN n) := ⟨h.1, h.2.1, Lib.hid (Lift.drewN_then h.2.2.out n)⟩
theorem Keep2.new (w : World) (x : Ident.Id) : Keep2 w w.heap.size x (w.alloc (.cells #[.int .i64 x.s, .int .i64 x.c] 24)) := ⟨(Pair.new w x).cell 0, (Pair.new w x).cell 1, Lib.hid ((Below.refl _ w).alloc (Nat.le_refl _) _)⟩

theorem nclone_any (A : Option Addr) (c : Nat) (l : List Ident.Id) (n : Nat) (w : World) (hn : l.length = n) (hl : l.length ≤ 8796093022208) (hi : nodeLay.Reads w w.heap.size A l) (hA : A = none → l = []) :
    Calls Try.prog 30 #[.slice A n c] w (IsNodes l w) := by
  subst hn
  cases A with
  | none =>
    obtain rfl := hA rfl
    exact clone_nil c w
  | some a => exact clone_some a c l w hl hi
theorem clone_held {w W : World} {A : Option Addr} {c n : Nat} {l : List Ident.Id} {x : Ident.Id} (hW : Keep2 w w.heap.size x W) (hn : l.length = n) (hl : l.length ≤ 8796093022208) (hi : nodeLay.Reads w w.heap.size A l) (hA : A = none → l = []) :
    Calls Try.prog 30 #[.slice A n c] W fun e w2 => ∃ A2 c2, e = .returned (.slice A2 n c2) ∧ Hid (nodeLay.Own (w.heap.size + 1) w2 (.slice A2 n c2) l) ∧ Hid (Below W.heap.size W w2) ∧ Keep2 w w.heap.size x w2 :=
  (nclone_any A c l n W hn hl (hi.later hW.2.2.out (Nat.le_refl _)) hA).mono fun e w2 ⟨A2, c2, he, ho, hb⟩ => by
    rw [hn] at he ho
    exact ⟨A2, c2, he, Lib.hid (ho.mono hW.lt), Lib.hid hb, hW.step hb⟩

set_option maxHeartbeats 3200000 in
theorem with_any (A : Option Addr) (c : Nat) (l : List Ident.Id) (x : Ident.Id) (w : World) (hl : l.length ≤ 8796093022207) (hlc : l.length ≤ c) (hi : nodeLay.Reads w w.heap.size A l) (hA : A = none → l = []) :
    Calls Try.prog 20 #[.slice A l.length c, nv x] w (IsNodes (Ident.withN l x) w) := by
  have HI := Lib.hid hi
  have HA := Lib.hid hA
  have hk0 := Keep2.new w x
  have HK0 := Lib.hid hk0
  clear hi hA
  generalize hn : l.length = n at *
  have HN := Lib.hid hn
  clear hn
  obtain ⟨s, d⟩ := x
  unfold nv
  unfold Keep2 at hk0
  simp only at hk0
  go_enter Try.func20, Try.ntmps20
  go_wp2_with fail
  clear hk0
  go_loopw [5] (fun vi wr => ∃ k : Nat, k ≤ n ∧ vi = .int .i64 k ∧ Hid (∀ y ∈ l.take k, y.s < s) ∧ Hid (Keep2 w w.heap.size ⟨s, d⟩ wr)) (fun vi _ => n - (intOf vi).toNat)
  case atStart => exact ⟨0, Nat.zero_le _, rfl, Lib.hid (fun y hy => by simp at hy), HK0⟩
  case round =>
    obtain ⟨k, hk, rfl, HF, HK⟩ := hrel
    have hB := HK.out.2.2
    have hk1 : (0 : Int) ≤ (k : Int) := by omega
    obtain ⟨q0, q1, -⟩ := HK.out
    simp only at q0 q1
    by_cases hlt : k < n
    · have hk2 : (k : Int) < (n : Int) := by omega
      obtain ⟨y, hy⟩ := Lay.get_of (l := l) (k := k) (by rw [HN.out]; exact hlt)
      obtain ⟨b, o, rfl, hb, hc⟩ := HI.out (by rw [HN.out]; omega)
      obtain ⟨c0, c1⟩ := at_node ((hc k y hy).keep (w' := wr) fun p hp => hB.out.cell (by rw [hp]; exact hb))
      have HX := Lib.hid hy
      have HC := Lib.hid hc
      clear hy hc
      obtain ⟨ys, yc⟩ := y
      simp only at c0 c1
      by_cases hup : ys < s
      · have HF1 : Hid (∀ y ∈ l.take (k + 1), y.s < s) := Lib.hid (Ident.take_step (p := fun y => y.s < s) HF.out HX.out hup)
        clear HF
        go_wp2_with fail
        go_quiet (fail)
        go_wp2_with fail
        exact ⟨⟨k + 1, by omega, by go_num, HF1, Lib.hid (HK.out.drewN _)⟩, by simp [intOf]; omega⟩
      · have HE := Lib.hid (Ident.withN_split (l := l) (x := ⟨s, d⟩) (k := k) (by rw [HN.out]; omega) HF.out (.inr ⟨_, HX.out, hup⟩))
        clear HF
        go_wp2_with fail
        go_quiet (fail)
        have hkc : (k : Int) ≤ (c : Int) := by omega
        have hkc2 : k < c := by omega
        have hkn : k ≤ n := by omega
        have hlk : (l.take k).length = k := by rw [List.length_take, HN.out]; omega
        have HCl := Lib.hid (fun W (hW : Keep2 w w.heap.size ⟨s, d⟩ W) => clone_held (c := c) hW hlk (by omega) (HI.out.take k) (fun h => by cases h))
        have HL1 : Hid ((l.take k).length + [(⟨s, d⟩ : Ident.Id)].length ≤ 9223372036854775807) := Lib.hid (by rw [hlk]; simp; omega)
        have HL2 : Hid (((l.take k).length + [(⟨s, d⟩ : Ident.Id)].length) * nodeLay.bytes ≤ 211106232532992) := Lib.hid (by rw [hlk]; show _ * 16 ≤ _; simp; omega)
        have HLk := Lib.hid hlk
        have hs1 := (HK.out.drewN nq).drewN 1
        clear hlk
        unfold Keep2 at HCl hs1
        simp only at HCl hs1
        go_wp2_with fail
        refine wp_region_held_drew (S := (fun W => W.cell? ⟨w.heap.size, 0, none⟩ = some (.int .i64 s) ∧ W.cell? ⟨w.heap.size, 1, none⟩ = some (.int .i64 d) ∧ Hid (Below w.heap.size w W))) (by kernel_rfl) ?_ (fun hHeld => ?_)
        · (try dsimp only); exact hs1
        refine wpAnyH_take (i := 0) (oi := ⟨some 25, _, _, _, _, _⟩) (v := ?_) rfl (by kernel_rfl) (by kernel_rfl) (by kernel_rfl) (fun _ _ _ h => h) (Or.inl ⟨by rfl, ?_⟩) (by assumption) ?_
        rotate_left
        · (intro w hSw; (try dsimp only at hSw); go_simp; try with_reducible rfl)
        try simp only [Act.put, List.setIfInBounds_toArray, List.set_cons_zero, List.set_cons_succ]
        refine wpAnyH_take (i := 1) (oi := ⟨some 26, _, _, _, _, _⟩) (v := ?_) rfl (by kernel_rfl) (by kernel_rfl) (by kernel_rfl) (fun _ _ _ h => h) (Or.inl ⟨by rfl, ?_⟩) (by assumption) ?_
        rotate_left
        · (intro w hSw; (try dsimp only at hSw); go_simp; try with_reducible rfl)
        try simp only [Act.put, List.setIfInBounds_toArray, List.set_cons_zero, List.set_cons_succ]
        refine wpAnyH_take (i := 2) (oi := ⟨some 27, _, _, _, _, _⟩) (v := ?_) rfl (by kernel_rfl) (by kernel_rfl) (by kernel_rfl) (fun _ _ _ h => h) (Or.inl ⟨by rfl, ?_⟩) (by assumption) ?_
        rotate_left
        · (intro w hSw; (try dsimp only at hSw); go_simp; try with_reducible rfl)
        try simp only [Act.put, List.setIfInBounds_toArray, List.set_cons_zero, List.set_cons_succ]
        refine wpAnyH_take (i := 4) (oi := ⟨some 29, _, _, _, _, _⟩) (v := ?_) rfl (by kernel_rfl) (by kernel_rfl) (by kernel_rfl) (fun _ _ _ h => h) (Or.inl ⟨by rfl, ?_⟩) (by assumption) ?_
        rotate_left
        · (intro w hSw; (try dsimp only at hSw); go_simp; try with_reducible rfl)
        try simp only [Act.put, List.setIfInBounds_toArray, List.set_cons_zero, List.set_cons_succ]
        refine wpAnyH_ready (rs := [3, 5]) (by kernel_rfl) (by simp) ?_
        refine AllReadyH.cons (o := ⟨some 28, _, _, _, _, _⟩) rfl (fun K hK => ?_) (AllReadyH.cons (o := ⟨some 30, _, _, _, _, _⟩) rfl (fun K hK => ?_) AllReadyH.nil)
        go_simp
        go_at_call 30
        refine (HCl.out _ (by assumption)).mono ?_; rintro e w2 ⟨A2, c2, rfl, hr2, hb2, hs⟩
        refine hK.out _ _ hs (fun hHeld => ?_)
        clear hK K
        try simp only [Act.put, List.setIfInBounds_toArray, List.set_cons_zero, List.set_cons_succ]
        refine wpAnyH_ready (rs := [5]) (by kernel_rfl) (by simp) ?_
        refine AllReadyH.cons (o := ⟨some 30, _, _, _, _, _⟩) rfl (fun K hK => ?_) AllReadyH.nil
        go_simp
        refine hK.out _ _ ?_ (fun hHeld => ?_)
        · (try dsimp only); exact Keep2.alloc (x := ⟨s, d⟩) hHeld _
        clear hK K
        try simp only [Act.put, List.setIfInBounds_toArray, List.set_cons_zero, List.set_cons_succ]
        refine wpAnyH_ready (rs := [6]) (by kernel_rfl) (by simp) ?_
        refine AllReadyH.cons (o := ⟨some 31, _, _, _, _, _⟩) rfl (fun K hK => ?_) AllReadyH.nil
        refine nodeLay.step_more (by rfl) (.tmp 28) (.tmp 30) (by rfl) (w.heap.size + 1) _ _ (l.take k) _ 1 1 _ [⟨s, d⟩] (by rfl) (by rfl) rfl (hr2.out.alloc _) (Lay.Reads.new nodeLay _ _ _ rfl) (fun h => by cases h) HL1.out HL2.out (Keep2.lt (x := ⟨s, d⟩) hHeld) ?_; intro v3 w3 HR3 HT3 hs3; have hs := Keep2.turned (x := ⟨s, d⟩) hHeld HT3.out (Nat.le_refl _); unfold Keep2 at hs; simp only at hs
        refine hK.out _ _ hs (fun hHeld => ?_)
        clear hK K
        try simp only [Act.put, List.setIfInBounds_toArray, List.set_cons_zero, List.set_cons_succ]
        refine wpAnyH_take (i := 7) (oi := ⟨some 6, _, _, _, _, _⟩) (v := ?_) rfl (by kernel_rfl) (by kernel_rfl) (by kernel_rfl) (fun _ _ _ h => h) (Or.inl ⟨by rfl, ?_⟩) (by assumption) ?_
        rotate_left
        · (intro w hSw; (try dsimp only at hSw); go_simp; try with_reducible rfl)
        try simp only [Act.put, List.setIfInBounds_toArray, List.set_cons_zero, List.set_cons_succ]
        refine wpAnyH_done (by kernel_rfl) ?_ _
        rotate_left
        go_simp
        refine hK.out _ _ ?_ (fun hHeld => ?_)
        · (try dsimp only); exact Keep2.alloc (x := ⟨s, d⟩) hHeld _
        clear hK K
        try simp only [Act.put, List.setIfInBounds_toArray, List.set_cons_zero, List.set_cons_succ]
        refine wpAnyH_ready (rs := [3]) (by kernel_rfl) (by simp) ?_
        refine AllReadyH.cons (o := ⟨some 28, _, _, _, _, _⟩) rfl (fun K hK => ?_) AllReadyH.nil
        go_simp
        go_at_call 30
        refine (HCl.out _ (by assumption)).mono ?_; rintro e w2 ⟨A2, c2, rfl, hr2, hb2, hs⟩
        refine hK.out _ _ hs (fun hHeld => ?_)
        clear hK K
        try simp only [Act.put, List.setIfInBounds_toArray, List.set_cons_zero, List.set_cons_succ]
        refine wpAnyH_ready (rs := [6]) (by kernel_rfl) (by simp) ?_
        refine AllReadyH.cons (o := ⟨some 31, _, _, _, _, _⟩) rfl (fun K hK => ?_) AllReadyH.nil
        refine nodeLay.step_more (by rfl) (.tmp 28) (.tmp 30) (by rfl) (w.heap.size + 1) _ _ (l.take k) _ 1 1 _ [⟨s, d⟩] (by rfl) (by rfl) rfl hr2.out ((Lay.Reads.new nodeLay _ _ _ rfl).later hb2.out (Nat.le_refl _)) (fun h => by cases h) HL1.out HL2.out (Keep2.lt (x := ⟨s, d⟩) hHeld) ?_; intro v3 w3 HR3 HT3 hs3; have hs := Keep2.turned (x := ⟨s, d⟩) hHeld HT3.out (Nat.le_refl _); unfold Keep2 at hs; simp only at hs
        refine hK.out _ _ hs (fun hHeld => ?_)
        clear hK K
        try simp only [Act.put, List.setIfInBounds_toArray, List.set_cons_zero, List.set_cons_succ]
        refine wpAnyH_take (i := 7) (oi := ⟨some 6, _, _, _, _, _⟩) (v := ?_) rfl (by kernel_rfl) (by kernel_rfl) (by kernel_rfl) (fun _ _ _ h => h) (Or.inl ⟨by rfl, ?_⟩) (by assumption) ?_
        rotate_left
        · (intro w hSw; (try dsimp only at hSw); go_simp; try with_reducible rfl)
        try simp only [Act.put, List.setIfInBounds_toArray, List.set_cons_zero, List.set_cons_succ]
        refine wpAnyH_done (by kernel_rfl) ?_ _
        rotate_left
        all_goals
          have HKe := Lib.hid (show Keep2 w w.heap.size ⟨s, d⟩ w3 from hs)
          have HRd := Lib.hid (Lay.Reads.drop HI.out k)
          have HLd : Hid ((l.drop k).length = n - k) := Lib.hid (by rw [List.length_drop, HN.out])
          clear hs hs1 HT3 HCl hr2 hb2 HL1 HL2 c0 c1 q0 q1 HC HX
          go_wp2_with fail
          go_loopw [6, 36] (fun vs vi wr => ∃ j : Nat, j ≤ n - k ∧ vi = .int .i64 j ∧ Hid (nodeLay.Own (w.heap.size + 1) wr vs (l.take k ++ (⟨s, d⟩ :: ((l.drop k).take j).filter fun y => decide (y.s ≠ s)))) ∧ Hid (Keep2 w w.heap.size ⟨s, d⟩ wr)) (fun _ vi _ => n - k - (intOf vi).toNat)
          case atStart => exact ⟨0, Nat.zero_le _, rfl, HR3, HKe⟩
          case round =>
            obtain ⟨j, hj, rfl, HR, HKr⟩ := hrel
            clear HR3 HKe
            have hbr := HKr.out.2.2.out
            have hsr := hbr.size
            have hltr := HKr.out.lt
            by_cases hjl : j < n - k
            · obtain ⟨z, hz⟩ := Lay.get_of (l := l.drop k) (k := j) (by rw [HLd.out]; exact hjl)
              obtain ⟨hb3, hc3⟩ := HRd.out.block (by rw [HLd.out]; omega)
              obtain ⟨c0, c1⟩ := at_node ((hc3 j z hz).keep (w' := wr) fun p hp => hbr.cell (by rw [hp]; exact hb3))
              have c0' : wr.cell? ⟨b, o + k * 2 + j * 2, none⟩ = some (.int .i64 z.s) := c0
              have c1' : wr.cell? ⟨b, o + k * 2 + j * 2 + 1, none⟩ = some (.int .i64 z.c) := c1
              have HZ := Lib.hid hz
              obtain ⟨zs, zc⟩ := z
              simp only at c0' c1'
              clear hz hc3 c0 c1
              have HKa := Lib.hid (HKr.out.alloc (.cells #[.int .i64 zs, .int .i64 zc] 24))
              have HRa := Lib.hid (HR.out.alloc (.cells #[.int .i64 zs, .int .i64 zc] 24))
              obtain ⟨q0, q1, -⟩ := HKr.out
              simp only at q0 q1
              have hlen : ((l.drop k).take j |>.filter fun y => decide (y.s ≠ s)).length ≤ j := Nat.le_trans (List.length_filter_le _ _) (by rw [List.length_take]; omega)
              by_cases hz : zs = s
              · have HE2 := Lib.hid (Ident.filter_skip (p := fun y => decide (y.s ≠ s)) HZ.out (by simp [hz]))
                have hzb : (zs != s) = false := by simp [hz]
                clear hz
                go_wp2_with fail
                exact ⟨⟨j + 1, by omega, by go_num, by rw [HE2.out]; exact HRa, HKa⟩, by simp [intOf]; omega⟩
              · have HE2 := Lib.hid (Ident.filter_step (p := fun y => decide (y.s ≠ s)) HZ.out (by simpa using hz))
                have hzb : (zs != s) = true := by simpa using hz
                have HL1 : Hid ((l.take k ++ (⟨s, d⟩ :: ((l.drop k).take j).filter fun y => decide (y.s ≠ s))).length + [(⟨zs, zc⟩ : Ident.Id)].length ≤ 9223372036854775807) := Lib.hid (by rw [List.length_append, HLk.out, List.length_cons]; simp only [List.length_cons, List.length_nil]; omega)
                have HL2 : Hid (((l.take k ++ (⟨s, d⟩ :: ((l.drop k).take j).filter fun y => decide (y.s ≠ s))).length + [(⟨zs, zc⟩ : Ident.Id)].length) * nodeLay.bytes ≤ 211106232532992) := Lib.hid (by rw [List.length_append, HLk.out, List.length_cons]; show _ * 16 ≤ _; simp only [List.length_cons, List.length_nil]; omega)
                clear hz hlen
                go_wp2_with (at_builtin; refine nodeLay.wpList_push rfl (.tmp 45) (.tmp 47) rfl (w.heap.size + 1) _ _ _ [⟨zs, zc⟩] _ _ _ _ (by rfl) rfl rfl (by simp) rfl HRa.out HL1.out HL2.out HKa.out.lt ?_)
                intro v4 w4 HR4 HT4 hs4
                have HK4 := Lib.hid (HKa.out.turned HT4.out (Nat.le_refl _))
                have HR5 : Hid (nodeLay.Own (w.heap.size + 1) w4 v4 (l.take k ++ (⟨s, d⟩ :: ((l.drop k).take (j + 1)).filter fun y => decide (y.s ≠ s)))) := Lib.hid (by rw [HE2.out]; simpa using HR4.out)
                clear HT4 HR4 HRa HKa HR
                go_wp2_with fail
                exact ⟨⟨j + 1, by omega, by go_num, HR5, HK4⟩, by simp [intOf]; omega⟩
            · obtain rfl : j = n - k := by omega
              have hr := HR.out
              have ht : (l.drop k).take (n - k) = l.drop k := List.take_of_length_le (by rw [HLd.out]; exact Nat.le_refl _)
              rw [ht, ← HE.out] at hr
              have HRe := Lib.hid hr
              clear HR hr ht
              go_wp2_with fail
              go_ret
              exact isNodes HRe.out (Nat.le_succ _) hbr
    · obtain rfl : k = n := by omega
      have HE := Lib.hid (Ident.withN_split (l := l) (x := ⟨s, d⟩) (k := k) (by rw [HN.out]; omega) HF.out (.inl HN.out.symm))
      have hnk : ¬ (k : Int) < (k : Int) := by omega
      have hkc : (k : Int) ≤ (c : Int) := by omega
      clear HF
      go_wp2_with fail
      go_quiet (fail)
      have HCl := Lib.hid (fun W (hW : Keep2 w w.heap.size ⟨s, d⟩ W) => clone_held (c := c) hW (show l.length = k from HN.out) (by rw [HN.out]; omega) HI.out HA.out)
      have hs1 := (HK.out.drewN nq).drewN 1
      unfold Keep2 at HCl hs1
      simp only at HCl hs1
      go_wp2_with fail
      have HL1 : Hid (l.length + [(⟨s, d⟩ : Ident.Id)].length ≤ 9223372036854775807) := Lib.hid (by rw [HN.out]; simp; omega)
      have HL2 : Hid ((l.length + [(⟨s, d⟩ : Ident.Id)].length) * nodeLay.bytes ≤ 211106232532992) := Lib.hid (by rw [HN.out]; show _ * 16 ≤ _; simp; omega)
      refine wp_region_held_drew (S := (fun W => W.cell? ⟨w.heap.size, 0, none⟩ = some (.int .i64 s) ∧ W.cell? ⟨w.heap.size, 1, none⟩ = some (.int .i64 d) ∧ Hid (Below w.heap.size w W))) (by kernel_rfl) ?_ (fun hHeld => ?_)
      · (try dsimp only); exact hs1
      refine wpAnyH_take (i := 0) (oi := ⟨some 25, _, _, _, _, _⟩) (v := ?_) rfl (by kernel_rfl) (by kernel_rfl) (by kernel_rfl) (fun _ _ _ h => h) (Or.inl ⟨by rfl, ?_⟩) (by assumption) ?_
      rotate_left
      · (intro w hSw; (try dsimp only at hSw); go_simp; try with_reducible rfl)
      try simp only [Act.put, List.setIfInBounds_toArray, List.set_cons_zero, List.set_cons_succ]
      refine wpAnyH_take (i := 1) (oi := ⟨some 26, _, _, _, _, _⟩) (v := ?_) rfl (by kernel_rfl) (by kernel_rfl) (by kernel_rfl) (fun _ _ _ h => h) (Or.inl ⟨by rfl, ?_⟩) (by assumption) ?_
      rotate_left
      · (intro w hSw; (try dsimp only at hSw); go_simp; try with_reducible rfl)
      try simp only [Act.put, List.setIfInBounds_toArray, List.set_cons_zero, List.set_cons_succ]
      refine wpAnyH_take (i := 2) (oi := ⟨some 27, _, _, _, _, _⟩) (v := ?_) rfl (by kernel_rfl) (by kernel_rfl) (by kernel_rfl) (fun _ _ _ h => h) (Or.inl ⟨by rfl, ?_⟩) (by assumption) ?_
      rotate_left
      · (intro w hSw; (try dsimp only at hSw); go_simp; try with_reducible rfl)
      try simp only [Act.put, List.setIfInBounds_toArray, List.set_cons_zero, List.set_cons_succ]
      refine wpAnyH_take (i := 4) (oi := ⟨some 29, _, _, _, _, _⟩) (v := ?_) rfl (by kernel_rfl) (by kernel_rfl) (by kernel_rfl) (fun _ _ _ h => h) (Or.inl ⟨by rfl, ?_⟩) (by assumption) ?_
      rotate_left
      · (intro w hSw; (try dsimp only at hSw); go_simp; try with_reducible rfl)
      try simp only [Act.put, List.setIfInBounds_toArray, List.set_cons_zero, List.set_cons_succ]
      refine wpAnyH_ready (rs := [3, 5]) (by kernel_rfl) (by simp) ?_
      refine AllReadyH.cons (o := ⟨some 28, _, _, _, _, _⟩) rfl (fun K hK => ?_) (AllReadyH.cons (o := ⟨some 30, _, _, _, _, _⟩) rfl (fun K hK => ?_) AllReadyH.nil)
      go_simp
      go_at_call 30
      refine (HCl.out _ (by assumption)).mono ?_; rintro e w2 ⟨A2, c2, rfl, hr2, hb2, hs⟩
      refine hK.out _ _ hs (fun hHeld => ?_)
      clear hK K
      try simp only [Act.put, List.setIfInBounds_toArray, List.set_cons_zero, List.set_cons_succ]
      refine wpAnyH_ready (rs := [5]) (by kernel_rfl) (by simp) ?_
      refine AllReadyH.cons (o := ⟨some 30, _, _, _, _, _⟩) rfl (fun K hK => ?_) AllReadyH.nil
      go_simp
      refine hK.out _ _ ?_ (fun hHeld => ?_)
      · (try dsimp only); exact Keep2.alloc (x := ⟨s, d⟩) hHeld _
      clear hK K
      try simp only [Act.put, List.setIfInBounds_toArray, List.set_cons_zero, List.set_cons_succ]
      refine wpAnyH_ready (rs := [6]) (by kernel_rfl) (by simp) ?_
      refine AllReadyH.cons (o := ⟨some 31, _, _, _, _, _⟩) rfl (fun K hK => ?_) AllReadyH.nil
      refine nodeLay.step_more (by rfl) (.tmp 28) (.tmp 30) (by rfl) (w.heap.size + 1) _ _ l _ 1 1 _ [⟨s, d⟩] (by rfl) (by rfl) rfl (hr2.out.alloc _) (Lay.Reads.new nodeLay _ _ _ rfl) (fun h => by cases h) HL1.out HL2.out (Keep2.lt (x := ⟨s, d⟩) hHeld) ?_; intro v3 w3 HR3 HT3 hs3; have hs := Keep2.turned (x := ⟨s, d⟩) hHeld HT3.out (Nat.le_refl _); unfold Keep2 at hs; simp only at hs
      refine hK.out _ _ hs (fun hHeld => ?_)
      clear hK K
      try simp only [Act.put, List.setIfInBounds_toArray, List.set_cons_zero, List.set_cons_succ]
      refine wpAnyH_take (i := 7) (oi := ⟨some 6, _, _, _, _, _⟩) (v := ?_) rfl (by kernel_rfl) (by kernel_rfl) (by kernel_rfl) (fun _ _ _ h => h) (Or.inl ⟨by rfl, ?_⟩) (by assumption) ?_
      rotate_left
      · (intro w hSw; (try dsimp only at hSw); go_simp; try with_reducible rfl)
      try simp only [Act.put, List.setIfInBounds_toArray, List.set_cons_zero, List.set_cons_succ]
      refine wpAnyH_done (by kernel_rfl) ?_ _
      rotate_left
      go_simp
      refine hK.out _ _ ?_ (fun hHeld => ?_)
      · (try dsimp only); exact Keep2.alloc (x := ⟨s, d⟩) hHeld _
      clear hK K
      try simp only [Act.put, List.setIfInBounds_toArray, List.set_cons_zero, List.set_cons_succ]
      refine wpAnyH_ready (rs := [3]) (by kernel_rfl) (by simp) ?_
      refine AllReadyH.cons (o := ⟨some 28, _, _, _, _, _⟩) rfl (fun K hK => ?_) AllReadyH.nil
      go_simp
      go_at_call 30
      refine (HCl.out _ (by assumption)).mono ?_; rintro e w2 ⟨A2, c2, rfl, hr2, hb2, hs⟩
      refine hK.out _ _ hs (fun hHeld => ?_)
      clear hK K
      try simp only [Act.put, List.setIfInBounds_toArray, List.set_cons_zero, List.set_cons_succ]
      refine wpAnyH_ready (rs := [6]) (by kernel_rfl) (by simp) ?_
      refine AllReadyH.cons (o := ⟨some 31, _, _, _, _, _⟩) rfl (fun K hK => ?_) AllReadyH.nil
      refine nodeLay.step_more (by rfl) (.tmp 28) (.tmp 30) (by rfl) (w.heap.size + 1) _ _ l _ 1 1 _ [⟨s, d⟩] (by rfl) (by rfl) rfl hr2.out ((Lay.Reads.new nodeLay _ _ _ rfl).later hb2.out (Nat.le_refl _)) (fun h => by cases h) HL1.out HL2.out (Keep2.lt (x := ⟨s, d⟩) hHeld) ?_; intro v3 w3 HR3 HT3 hs3; have hs := Keep2.turned (x := ⟨s, d⟩) hHeld HT3.out (Nat.le_refl _); unfold Keep2 at hs; simp only at hs
      refine hK.out _ _ hs (fun hHeld => ?_)
      clear hK K
      try simp only [Act.put, List.setIfInBounds_toArray, List.set_cons_zero, List.set_cons_succ]
      refine wpAnyH_take (i := 7) (oi := ⟨some 6, _, _, _, _, _⟩) (v := ?_) rfl (by kernel_rfl) (by kernel_rfl) (by kernel_rfl) (fun _ _ _ h => h) (Or.inl ⟨by rfl, ?_⟩) (by assumption) ?_
      rotate_left
      · (intro w hSw; (try dsimp only at hSw); go_simp; try with_reducible rfl)
      try simp only [Act.put, List.setIfInBounds_toArray, List.set_cons_zero, List.set_cons_succ]
      refine wpAnyH_done (by kernel_rfl) ?_ _
      rotate_left
      all_goals
        have HKe := Lib.hid (show Keep2 w w.heap.size ⟨s, d⟩ w3 from hs)
        have HRe : Hid (nodeLay.Own (w.heap.size + 1) w3 v3 (Ident.withN l ⟨s, d⟩)) := Lib.hid (by rw [HE.out, List.take_of_length_le (by rw [HN.out]; exact Nat.le_refl _), List.drop_eq_nil_of_le (by rw [HN.out]; exact Nat.le_refl _)]; exact HR3.out)
        clear hs hs1 HR3 HT3 HCl hr2 hb2 HL1 HL2
        go_wp2_with fail
        all_goals
          go_loopw [6, 36] (fun vs vi wr => ∃ j : Nat, j ≤ 0 ∧ vi = .int .i64 j ∧ Hid (nodeLay.Own (w.heap.size + 1) wr vs (Ident.withN l ⟨s, d⟩)) ∧ Hid (Keep2 w w.heap.size ⟨s, d⟩ wr)) (fun _ vi _ => 0 - (intOf vi).toNat)
          case atStart => exact ⟨0, Nat.le_refl _, rfl, HRe, HKe⟩
          case round =>
            obtain ⟨j, hj, rfl, HR, HKr⟩ := hrel
            obtain rfl : j = 0 := by omega
            go_wp2_with fail
            go_ret
            exact isNodes HR.out (Nat.le_succ _) HKr.out.2.2.out
end Go.Proofs.Ytichkobifmfffaa
