/-
  What the document's With returns: the list with one node more.
  No condition but that a slice is no longer than the form's reach.
-/
import Derived.Test.YtichkobifmfffaaNodeWith
import Derived.WalkKit
import Derived.WalkSpells
import Derived.WalkLawsBesides
import Derived.Handy
import Derived.Deep.QuietTactic
import Derived.BigQuiet
import Derived.Deep.RegionWith
import Derived.Deep.RegionHeld3
import Derived.Deep.Draws
import Derived.Lib.Hide
namespace Go.Proofs.Ytichkobifmfffaa
open Go.RowKit
theorem wgo_len {x : Ident.Id} {l o : List Ident.Id} {dn : Bool} {k : Nat} (h : Ident.wgo x (l.take k) = (o, dn)) : o.length ≤ k + 1 := by
  have := Ident.wgo_le x (l.take k) ([], false)
  unfold Ident.wgo at h
  rw [h, List.length_take] at this
  simp only [List.length_nil] at this
  have h2 : (if (false : Bool) = true then (0 : Nat) else 1) = 1 := rfl
  omega
theorem wgo_end {x : Ident.Id} {l o : List Ident.Id} {dn : Bool} (h : Ident.wgo x l = (o, dn)) : (if dn = true then o else o ++ [x]) = Ident.withN l x := by
  have := Ident.wgo_all x l []
  unfold Ident.wgo at h
  rw [h] at this
  simpa using this

set_option maxHeartbeats 3200000 in
theorem rwith_any (A : Option Addr) (c : Nat) (l : List Ident.Id) (x : Ident.Id) (w : World) (hl : l.length ≤ 8796093022207) (hi : nodeLay.Reads w w.heap.size A l) :
    Calls Try.prog 23 #[.slice A l.length c, nv x] w (IsNodes (Ident.withN l x) w) := by
  have HI := Lib.hid hi
  have hk0 := Keep2.new w x
  have HK0 := Lib.hid hk0
  have HR0 : Hid (nodeLay.Own (w.heap.size + 1) (w.alloc (.cells #[.int .i64 x.s, .int .i64 x.c] 24)) (.slice none 0 0) []) := Lib.hid (Lay.Own.none _ _)
  clear hi
  generalize hn : l.length = n at *
  have HN := Lib.hid hn
  clear hn
  obtain ⟨s, d⟩ := x
  unfold nv
  clear hk0
  simp only at HR0
  go_enter Try.func23, Try.ntmps23
  go_wp2_with fail
  go_loopw [5, 6, 7] (fun vs vd vi wr => ∃ (k : Nat) (q : List Ident.Id) (dn : Bool), k ≤ n ∧ vd = .bool dn ∧ vi = .int .i64 k ∧ Hid (Ident.wgo ⟨s, d⟩ (l.take k) = (q, dn)) ∧ Hid (nodeLay.Own (w.heap.size + 1) wr vs q) ∧ Hid (Keep2 w w.heap.size ⟨s, d⟩ wr)) (fun _ _ vi _ => n - (intOf vi).toNat)
  case atStart => exact ⟨0, [], false, Nat.zero_le _, rfl, rfl, Lib.hid rfl, HR0, HK0⟩
  case round =>
    obtain ⟨k, q, dn, hk, rfl, rfl, HG, HR, HK⟩ := hrel
    clear HR0 HK0
    have hB := HK.out.2.2
    have hk1 : (0 : Int) ≤ (k : Int) := by omega
    have hql := wgo_len HG.out
    obtain ⟨q0, q1, -⟩ := HK.out
    simp only at q0 q1
    by_cases hlt : k < n
    · have hk2 : (k : Int) < (n : Int) := by omega
      obtain ⟨y, hy⟩ := Lay.get_of (l := l) (k := k) (by rw [HN.out]; exact hlt)
      obtain ⟨b, o, rfl, hb, hc⟩ := HI.out (by rw [HN.out]; omega)
      obtain ⟨c0, c1⟩ := at_node ((hc k y hy).keep (w' := wr) fun p hp => hB.out.cell (by rw [hp]; exact hb))
      have HX := Lib.hid hy
      have HC := Lib.hid hc
      clear hy hc
      obtain ⟨ys, yc⟩ := y
      simp only at c0 c1
      by_cases hd0 : dn = false
      · subst hd0
        by_cases hup : s ≤ ys
        · by_cases hq : ys = s
          · have hzb : (ys != s) = false := by simp [hq]
            have HG1 : Hid (Ident.wgo (⟨s, d⟩ : Ident.Id) (l.take (k + 1)) = (q ++ [(⟨s, d⟩ : Ident.Id)], true)) := Lib.hid (by rw [Ident.wgo_step HX.out, HG.out]; simp [Ident.wstep, hq])
            clear hq
            go_wp2_with fail
            go_quiet (fail)
            have HL1x : Hid ((q).length + [(⟨s, d⟩ : Ident.Id)].length ≤ 9223372036854775807) := Lib.hid (by simp; omega)
            have HL2x : Hid (((q).length + [(⟨s, d⟩ : Ident.Id)].length) * nodeLay.bytes ≤ 211106232532992) := Lib.hid (by show _ * 16 ≤ _; simp; omega)
            go_wp2_with (at_builtin; refine nodeLay.wpList_push rfl (.tmp 26) (.tmp 28) rfl (w.heap.size + 1) _ _ q [(⟨s, d⟩ : Ident.Id)] _ _ _ _ (by rfl) rfl rfl (by simp) rfl (HR.out.drewN _) HL1x.out HL2x.out (HK.out.drewN _).lt ?_)
            intro v3 w3 HR3 HT3 hs3
            have HK3 := Lib.hid ((HK.out.drewN _).turned HT3.out (Nat.le_refl _))
            clear HT3 HL1x HL2x HR
            obtain ⟨q0, q1, -⟩ := HK3.out
            obtain ⟨c0, c1⟩ := at_node ((HC.out k _ HX.out).keep (w' := w3) fun p hp => HK3.out.2.2.out.cell (by rw [hp]; exact hb))
            simp only at c0 c1 q0 q1
            go_wp2_with fail
            go_quiet (fail)
            go_wp2_with fail
            exact ⟨⟨k + 1, q ++ [(⟨s, d⟩ : Ident.Id)], true, by omega, rfl, by go_num, HG1, Lib.hid (HR3.out.drewN _), Lib.hid (HK3.out.drewN _)⟩, by simp [intOf]; omega⟩
          · have hzb : (ys != s) = true := by simpa using hq
            have HG1 : Hid (Ident.wgo (⟨s, d⟩ : Ident.Id) (l.take (k + 1)) = (q ++ [(⟨s, d⟩ : Ident.Id)] ++ [(⟨ys, yc⟩ : Ident.Id)], true)) := Lib.hid (by rw [Ident.wgo_step HX.out, HG.out]; simp [Ident.wstep, hup, hq])
            clear hq
            go_wp2_with fail
            go_quiet (fail)
            have HL1x : Hid ((q).length + [(⟨s, d⟩ : Ident.Id)].length ≤ 9223372036854775807) := Lib.hid (by simp; omega)
            have HL2x : Hid (((q).length + [(⟨s, d⟩ : Ident.Id)].length) * nodeLay.bytes ≤ 211106232532992) := Lib.hid (by show _ * 16 ≤ _; simp; omega)
            go_wp2_with (at_builtin; refine nodeLay.wpList_push rfl (.tmp 26) (.tmp 28) rfl (w.heap.size + 1) _ _ q [(⟨s, d⟩ : Ident.Id)] _ _ _ _ (by rfl) rfl rfl (by simp) rfl (HR.out.drewN _) HL1x.out HL2x.out (HK.out.drewN _).lt ?_)
            intro v3 w3 HR3 HT3 hs3
            have HK3 := Lib.hid ((HK.out.drewN _).turned HT3.out (Nat.le_refl _))
            clear HT3 HL1x HL2x HR
            obtain ⟨q0, q1, -⟩ := HK3.out
            obtain ⟨c0, c1⟩ := at_node ((HC.out k _ HX.out).keep (w' := w3) fun p hp => HK3.out.2.2.out.cell (by rw [hp]; exact hb))
            simp only at c0 c1 q0 q1
            go_wp2_with fail
            go_quiet (fail)
            have HL1y : Hid ((q ++ [(⟨s, d⟩ : Ident.Id)]).length + [(⟨ys, yc⟩ : Ident.Id)].length ≤ 9223372036854775807) := Lib.hid (by simp; omega)
            have HL2y : Hid (((q ++ [(⟨s, d⟩ : Ident.Id)]).length + [(⟨ys, yc⟩ : Ident.Id)].length) * nodeLay.bytes ≤ 211106232532992) := Lib.hid (by show _ * 16 ≤ _; simp; omega)
            have HCk := Lib.hid (fun W (h : Below w.heap.size w W) => at_node ((HC.out k _ HX.out).keep (w' := W) fun p hp => h.cell (by rw [hp]; exact hb)))
            go_wp2_with (at_builtin; refine nodeLay.wpList_push rfl (.tmp 38) (.tmp 43) rfl (w.heap.size + 1) _ _ (q ++ [(⟨s, d⟩ : Ident.Id)]) [(⟨ys, yc⟩ : Ident.Id)] _ _ _ _ (by rfl) rfl rfl (by simp) rfl (HR3.out.drewN _) HL1y.out HL2y.out (HK3.out.drewN _).lt ?_)
            intro v4 w4 HR4 HT4 hs4
            have HK4 := Lib.hid ((HK3.out.drewN _).turned HT4.out (Nat.le_refl _))
            have HR5 : Hid (nodeLay.Own (w.heap.size + 1) w4 v4 ((q ++ [(⟨s, d⟩ : Ident.Id)]) ++ [(⟨ys, yc⟩ : Ident.Id)])) := Lib.hid (by simpa using HR4.out)
            clear HT4 HR4 HL1y HL2y
            go_wp2_with fail
            exact ⟨⟨k + 1, q ++ [(⟨s, d⟩ : Ident.Id)] ++ [(⟨ys, yc⟩ : Ident.Id)], true, by omega, rfl, by go_num, HG1, HR5, HK4⟩, by simp [intOf]; omega⟩
        · have hq : ¬ ys = s := by omega
          have hzb : (ys != s) = true := by simpa using hq
          have HG1 : Hid (Ident.wgo (⟨s, d⟩ : Ident.Id) (l.take (k + 1)) = (q ++ [(⟨ys, yc⟩ : Ident.Id)], false)) := Lib.hid (by rw [Ident.wgo_step HX.out, HG.out]; simp [Ident.wstep, hup, hq])
          clear hq
          go_wp2_with fail
          go_quiet (fail)
          go_wp2_with fail
          go_quiet (fail)
          have HL1y : Hid ((q).length + [(⟨ys, yc⟩ : Ident.Id)].length ≤ 9223372036854775807) := Lib.hid (by simp; omega)
          have HL2y : Hid (((q).length + [(⟨ys, yc⟩ : Ident.Id)].length) * nodeLay.bytes ≤ 211106232532992) := Lib.hid (by show _ * 16 ≤ _; simp; omega)
          have HCk := Lib.hid (fun W (h : Below w.heap.size w W) => at_node ((HC.out k _ HX.out).keep (w' := W) fun p hp => h.cell (by rw [hp]; exact hb)))
          go_wp2_with (at_builtin; refine nodeLay.wpList_push rfl (.tmp 38) (.tmp 43) rfl (w.heap.size + 1) _ _ (q) [(⟨ys, yc⟩ : Ident.Id)] _ _ _ _ (by rfl) rfl rfl (by simp) rfl (HR.out.drewN _) HL1y.out HL2y.out (HK.out.drewN _).lt ?_)
          intro v4 w4 HR4 HT4 hs4
          have HK4 := Lib.hid ((HK.out.drewN _).turned HT4.out (Nat.le_refl _))
          have HR5 : Hid (nodeLay.Own (w.heap.size + 1) w4 v4 ((q) ++ [(⟨ys, yc⟩ : Ident.Id)])) := Lib.hid (by simpa using HR4.out)
          clear HT4 HR4 HL1y HL2y
          go_wp2_with fail
          exact ⟨⟨k + 1, q ++ [(⟨ys, yc⟩ : Ident.Id)], false, by omega, rfl, by go_num, HG1, HR5, HK4⟩, by simp [intOf]; omega⟩
      · have hd1 : dn = true := by simpa using hd0
        subst hd1
        clear hd0
        by_cases hq : ys = s
        · have hzb : (ys != s) = false := by simp [hq]
          have HG1 : Hid (Ident.wgo (⟨s, d⟩ : Ident.Id) (l.take (k + 1)) = (q, true)) := Lib.hid (by rw [Ident.wgo_step HX.out, HG.out]; simp [Ident.wstep, hq])
          clear hq
          go_wp2_with fail
          go_quiet (fail)
          go_wp2_with fail
          go_quiet (fail)
          go_wp2_with fail
          exact ⟨⟨k + 1, q, true, by omega, rfl, by go_num, HG1, Lib.hid (HR.out.drewN _), Lib.hid (HK.out.drewN _)⟩, by simp [intOf]; omega⟩
        · have hzb : (ys != s) = true := by simpa using hq
          have HG1 : Hid (Ident.wgo (⟨s, d⟩ : Ident.Id) (l.take (k + 1)) = (q ++ [(⟨ys, yc⟩ : Ident.Id)], true)) := Lib.hid (by rw [Ident.wgo_step HX.out, HG.out]; simp [Ident.wstep, hq])
          clear hq
          go_wp2_with fail
          go_quiet (fail)
          go_wp2_with fail
          go_quiet (fail)
          have HL1y : Hid ((q).length + [(⟨ys, yc⟩ : Ident.Id)].length ≤ 9223372036854775807) := Lib.hid (by simp; omega)
          have HL2y : Hid (((q).length + [(⟨ys, yc⟩ : Ident.Id)].length) * nodeLay.bytes ≤ 211106232532992) := Lib.hid (by show _ * 16 ≤ _; simp; omega)
          have HCk := Lib.hid (fun W (h : Below w.heap.size w W) => at_node ((HC.out k _ HX.out).keep (w' := W) fun p hp => h.cell (by rw [hp]; exact hb)))
          go_wp2_with (at_builtin; refine nodeLay.wpList_push rfl (.tmp 38) (.tmp 43) rfl (w.heap.size + 1) _ _ (q) [(⟨ys, yc⟩ : Ident.Id)] _ _ _ _ (by rfl) rfl rfl (by simp) rfl (HR.out.drewN _) HL1y.out HL2y.out (HK.out.drewN _).lt ?_)
          intro v4 w4 HR4 HT4 hs4
          have HK4 := Lib.hid ((HK.out.drewN _).turned HT4.out (Nat.le_refl _))
          have HR5 : Hid (nodeLay.Own (w.heap.size + 1) w4 v4 ((q) ++ [(⟨ys, yc⟩ : Ident.Id)])) := Lib.hid (by simpa using HR4.out)
          clear HT4 HR4 HL1y HL2y
          go_wp2_with fail
          exact ⟨⟨k + 1, q ++ [(⟨ys, yc⟩ : Ident.Id)], true, by omega, rfl, by go_num, HG1, HR5, HK4⟩, by simp [intOf]; omega⟩
    · obtain rfl : k = n := by omega
      have hg := HG.out
      rw [List.take_of_length_le (by rw [HN.out]; exact Nat.le_refl _)] at hg
      have HE := Lib.hid (wgo_end hg)
      clear hg HG
      by_cases hd0 : dn = false
      · subst hd0
        have HL1x : Hid ((q).length + [(⟨s, d⟩ : Ident.Id)].length ≤ 9223372036854775807) := Lib.hid (by simp; omega)
        have HL2x : Hid (((q).length + [(⟨s, d⟩ : Ident.Id)].length) * nodeLay.bytes ≤ 211106232532992) := Lib.hid (by show _ * 16 ≤ _; simp; omega)
        go_wp2_with (at_builtin; refine nodeLay.wpList_push rfl (.tmp 47) (.tmp 49) rfl (w.heap.size + 1) _ _ q [(⟨s, d⟩ : Ident.Id)] _ _ _ _ (by rfl) rfl rfl (by simp) rfl HR.out HL1x.out HL2x.out HK.out.lt ?_)
        intro v3 w3 HR3 HT3 hs3
        have HK3 := Lib.hid (HK.out.turned HT3.out (Nat.le_refl _))
        have HR4 : Hid (nodeLay.Own (w.heap.size + 1) w3 v3 (Ident.withN l ⟨s, d⟩)) := Lib.hid (by rw [← HE.out]; exact HR3.out)
        clear HT3 HL1x HL2x HR HR3
        go_wp2_with fail
        go_ret
        exact isNodes HR4.out (Nat.le_succ _) HK3.out.2.2.out
      · have hd1 : dn = true := by simpa using hd0
        subst hd1
        have hr := HR.out
        rw [show q = Ident.withN l ⟨s, d⟩ from HE.out] at hr
        have HR4 := Lib.hid hr
        clear hr HR hd0
        go_wp2_with fail
        go_ret
        exact isNodes HR4.out (Nat.le_succ _) HK.out.2.2.out
end Go.Proofs.Ytichkobifmfffaa
