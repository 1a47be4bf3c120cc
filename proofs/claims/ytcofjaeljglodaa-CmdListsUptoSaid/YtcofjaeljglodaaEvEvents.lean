/-
  What counted and Events return of events' items; the document's Same of events that are the same.
  No condition but bounds.
-/
import Derived.Test.YtcofjaeljglodaaEvFrom
import Derived.Test.YtcofjaeljglodaaEvListM
set_option linter.unusedSimpArgs false
set_option linter.unusedVariables false
namespace Go.Proofs.Ytcofjaeljglodaa
open Go.RowKit

set_option maxRecDepth 10000 in
set_option maxHeartbeats 3200000 in
theorem counted_any (A : Option Addr) (c n : Nat) (N : Int) (r : List Itm.It) (w : World) (hn : n = r.length + 1) (hc : n ≤ c) (hi : itemLay.Reads w w.heap.size A (⟨0, N, ⟨#[]⟩⟩ :: r)) :
    Calls Try.prog 40 #[.slice A n c, .int .i64 0] w fun en w' => en = .returned (.tuple #[.int .i64 N, .bool (decide (0 ≤ N ∧ N ≤ 16))]) ∧ Below w.heap.size w w' := by
  obtain ⟨b, o, rfl, hb, hat⟩ := hi (by simp)
  have HC : Hid (∀ W, Below w.heap.size w W → W.cell? ⟨b, o, none⟩ = some (.int .i64 0) ∧ W.cell? ⟨b, o + 1, none⟩ = some (.int .i64 N) ∧ W.cell? ⟨b, o + 2, none⟩ = some (.string ⟨#[]⟩)) := Lib.hid fun W hW => by
    have h := at_item ((hat 0 _ rfl).keep (w' := W) fun q hq => hW.cell (by rw [hq]; exact hb))
    simp only [Nat.zero_mul, Nat.add_zero] at h
    exact h
  have h0 : (0 : Int) < (n : Int) := by omega
  have h00 : 0 < n := by omega
  have h1 : ¬ ((n : Int) ≤ 0) := by omega
  clear hi hat hn
  have HNm := Lib.hid number_any
  have HW := Lib.hid (fun W => within_any N 0 16 W)
  generalize decide ((0 : Int) ≤ N ∧ N ≤ 16) = d at *
  have hh := HC.out w (Below.refl _ w)
  obtain ⟨x0, x1, x2⟩ := hh
  have HBW := Lib.hid (Below.refl w.heap.size w).drew
  go_enter Try.func40, Try.ntmps40
  go_wp2_with fail
  have HD := HC.out _ HBW.out
  refine wp_region_held_drew (S := (fun W => W.cell? ⟨b, o, none⟩ = some (.int .i64 0) ∧ W.cell? ⟨b, o + 1, none⟩ = some (.int .i64 N) ∧ W.cell? ⟨b, o + 2, none⟩ = some (.string ⟨#[]⟩) ∧ Hid (Below w.heap.size w W))) (by kernel_rfl) ?_ (fun hHeld => ?_)
  · (try dsimp only); exact ⟨HD.1, HD.2.1, HD.2.2, HBW⟩
  refine wpAnyH_take (i := 0) (oi := ⟨some 20, _, _, _, _, _⟩) (v := ?_) rfl (by kernel_rfl) (by kernel_rfl) (by kernel_rfl) (fun _ _ _ h => h) (Or.inl ⟨by rfl, ?_⟩) (by assumption) ?_
  rotate_left
  · (intro w hSw; (try dsimp only at hSw); go_simp; try with_reducible rfl)
  try simp only [Act.put, List.setIfInBounds_toArray, List.set_cons_zero, List.set_cons_succ]
  refine wpAnyH_take (i := 1) (oi := ⟨some 21, _, _, _, _, _⟩) (v := ?_) rfl (by kernel_rfl) (by kernel_rfl) (by kernel_rfl) (fun _ _ _ h => h) (Or.inl ⟨by rfl, ?_⟩) (by assumption) ?_
  rotate_left
  · (intro w hSw; (try dsimp only at hSw); go_simp; try with_reducible rfl)
  try simp only [Act.put, List.setIfInBounds_toArray, List.set_cons_zero, List.set_cons_succ]
  refine wpAnyH_take (i := 2) (oi := ⟨some 22, _, _, _, _, _⟩) (v := ?_) rfl (by kernel_rfl) (by kernel_rfl) (by kernel_rfl) (fun _ _ _ h => h) (Or.inl ⟨by rfl, ?_⟩) (by assumption) ?_
  rotate_left
  · (intro w hSw; (try dsimp only at hSw); go_simp; try with_reducible rfl)
  try simp only [Act.put, List.setIfInBounds_toArray, List.set_cons_zero, List.set_cons_succ]
  refine wpAnyH_take (i := 3) (oi := ⟨some 23, _, _, _, _, _⟩) (v := ?_) rfl (by kernel_rfl) (by kernel_rfl) (by kernel_rfl) (fun _ _ _ h => h) (Or.inl ⟨by rfl, ?_⟩) (by assumption) ?_
  rotate_left
  · (intro w hSw; (try dsimp only at hSw); go_simp; try with_reducible rfl)
  try simp only [Act.put, List.setIfInBounds_toArray, List.set_cons_zero, List.set_cons_succ]
  refine wpAnyH_take (i := 4) (oi := ⟨some 24, _, _, _, _, _⟩) (v := ?_) rfl (by kernel_rfl) (by kernel_rfl) (by kernel_rfl) (fun _ _ _ h => h) (Or.inl ⟨by rfl, ?_⟩) (by assumption) ?_
  rotate_left
  · (intro w hSw; (try dsimp only at hSw); go_simp; try with_reducible rfl)
  try simp only [Act.put, List.setIfInBounds_toArray, List.set_cons_zero, List.set_cons_succ]
  refine wpAnyH_take (i := 5) (oi := ⟨some 25, _, _, _, _, _⟩) (v := ?_) rfl (by kernel_rfl) (by kernel_rfl) (by kernel_rfl) (fun _ _ _ h => h) (Or.inl ⟨by rfl, ?_⟩) (by assumption) ?_
  rotate_left
  · (intro w hSw; (try dsimp only at hSw); go_simp; try with_reducible rfl)
  try simp only [Act.put, List.setIfInBounds_toArray, List.set_cons_zero, List.set_cons_succ]
  refine wpAnyH_ready (rs := [6]) (by kernel_rfl) (by simp) ?_
  refine AllReadyH.cons (o := ⟨some 26, _, _, _, _, _⟩) rfl (fun K hK => ?_) AllReadyH.nil
  go_simp
  go_at_call 34
  refine (HNm.out _ _).mono ?_; rintro en w5 ⟨rfl, b5⟩; have hb5 := hHeld.2.2.2.out.trans (b5.mono hHeld.2.2.2.out.size); have hq5 := HC.out _ hb5; have hs := And.intro hq5.1 (And.intro hq5.2.1 (And.intro hq5.2.2 (Lib.hid hb5)))
  refine hK.out _ _ hs (fun hHeld => ?_)
  clear hK K
  try simp only [Act.put, List.setIfInBounds_toArray, List.set_cons_zero, List.set_cons_succ]
  refine wpAnyH_take (i := 7) (oi := ⟨some 27, _, _, _, _, _⟩) (v := ?_) rfl (by kernel_rfl) (by kernel_rfl) (by kernel_rfl) (fun _ _ _ h => h) (Or.inl ⟨by rfl, ?_⟩) (by assumption) ?_
  rotate_left
  · (intro w hSw; (try dsimp only at hSw); go_simp; try with_reducible rfl)
  try simp only [Act.put, List.setIfInBounds_toArray, List.set_cons_zero, List.set_cons_succ]
  refine wpAnyH_take (i := 8) (oi := ⟨some 28, _, _, _, _, _⟩) (v := ?_) rfl (by kernel_rfl) (by kernel_rfl) (by kernel_rfl) (fun _ _ _ h => h) (Or.inl ⟨by rfl, ?_⟩) (by assumption) ?_
  rotate_left
  · (intro w hSw; (try dsimp only at hSw); go_simp; try with_reducible rfl)
  try simp only [Act.put, List.setIfInBounds_toArray, List.set_cons_zero, List.set_cons_succ]
  refine wpAnyH_take (i := 9) (oi := ⟨some 29, _, _, _, _, _⟩) (v := ?_) rfl (by kernel_rfl) (by kernel_rfl) (by kernel_rfl) (fun _ _ _ h => h) (Or.inl ⟨by rfl, ?_⟩) (by assumption) ?_
  rotate_left
  · (intro w hSw; (try dsimp only at hSw); go_simp; try with_reducible rfl)
  try simp only [Act.put, List.setIfInBounds_toArray, List.set_cons_zero, List.set_cons_succ]
  refine wpAnyH_ready (rs := [10]) (by kernel_rfl) (by simp) ?_
  refine AllReadyH.cons (o := ⟨some 30, _, _, _, _, _⟩) rfl (fun K hK => ?_) AllReadyH.nil
  go_simp
  go_at_call 46
  refine (HW.out _).mono ?_; rintro en w6 ⟨rfl, rfl⟩; have hs := hHeld
  refine hK.out _ _ hs (fun hHeld => ?_)
  clear hK K
  try simp only [Act.put, List.setIfInBounds_toArray, List.set_cons_zero, List.set_cons_succ]
  refine wpAnyH_take (i := 11) (oi := ⟨some 31, _, _, _, _, _⟩) (v := ?_) rfl (by kernel_rfl) (by kernel_rfl) (by kernel_rfl) (fun _ _ _ h => h) (Or.inl ⟨by rfl, ?_⟩) (by assumption) ?_
  rotate_left
  · (intro w hSw; (try dsimp only at hSw); go_simp; try with_reducible rfl)
  try simp only [Act.put, List.setIfInBounds_toArray, List.set_cons_zero, List.set_cons_succ]
  refine wpAnyH_take (i := 12) (oi := ⟨some 4, _, _, _, _, _⟩) (v := ?_) rfl (by kernel_rfl) (by kernel_rfl) (by kernel_rfl) (fun _ _ _ h => h) (Or.inl ⟨by rfl, ?_⟩) (by assumption) ?_
  rotate_left
  · (intro w hSw; (try dsimp only at hSw); go_simp; try with_reducible rfl)
  try simp only [Act.put, List.setIfInBounds_toArray, List.set_cons_zero, List.set_cons_succ]
  refine wpAnyH_take (i := 13) (oi := ⟨some 5, _, _, _, _, _⟩) (v := ?_) rfl (by kernel_rfl) (by kernel_rfl) (by kernel_rfl) (fun _ _ _ h => h) (Or.inl ⟨by rfl, ?_⟩) (by assumption) ?_
  rotate_left
  · (intro w hSw; (try dsimp only at hSw); go_simp; try with_reducible rfl)
  try simp only [Act.put, List.setIfInBounds_toArray, List.set_cons_zero, List.set_cons_succ]
  refine wpAnyH_done (by kernel_rfl) ?_ _
  go_wp2_with fail
  exact bodyPost_ret (v := .tuple #[.int .i64 N, .bool d]) (by simp [results, Try.results40, go_sem]) rfl ⟨rfl, hHeld.2.2.2.out⟩
theorem Cmd.chk_both {c : Cmd.C} (h : Cmd.chk c = 0) : Val.chk c.val = 0 ∧ Val.chk c.old = 0 := by
  rcases Cmd.chk_cases c with ⟨_, e⟩ | ⟨_, _, _, e⟩ | ⟨_, _, _, _, _, e⟩ | ⟨_, _, _, _, _, e⟩ | ⟨_, _, _, _, h5, _, e⟩ | ⟨_, _, _, _, _, h6, _, e⟩ | ⟨h1, h2, h3, h4, h5, h6, _⟩
  · rw [e] at h; cases h
  · rw [e] at h; cases h
  · rw [e] at h; cases h
  · rw [e] at h; cases h
  · rw [e] at h; exact absurd h h5
  · rw [e] at h; exact absurd h h6
  · exact ⟨h6, h5⟩
theorem evs_split (l : List Cmd.E) {k : Nat} {x : Cmd.E} (h : l[k]? = some x) : (Cmd.pre l.length l).drop (Cmd.pre l.length (l.take k)).length = Cmd.items x ++ (l.drop (k + 1)).flatMap Cmd.items := by
  have hk := (List.getElem?_eq_some_iff.1 h).1
  have hd : l.drop k = x :: l.drop (k + 1) := by
    rw [List.drop_eq_getElem_cons hk]
    rw [(List.getElem?_eq_some_iff.1 h).2]
  have e1 : l.flatMap Cmd.items = (l.take k).flatMap Cmd.items ++ (Cmd.items x ++ (l.drop (k + 1)).flatMap Cmd.items) := by
    conv => lhs; rw [← List.take_append_drop k l]
    rw [List.flatMap_append, hd, List.flatMap_cons]
  have e : Cmd.pre l.length l = Cmd.pre l.length (l.take k) ++ (Cmd.items x ++ (l.drop (k + 1)).flatMap Cmd.items) := by
    unfold Cmd.pre
    rw [e1]
    rfl
  rw [e, List.drop_left]
theorem pre_le (l : List Cmd.E) (k : Nat) : (Cmd.pre l.length (l.take k)).length ≤ (Cmd.pre l.length l).length := by
  conv => rhs; rw [show Cmd.pre l.length l = ⟨0, (l.length : Int), ⟨#[]⟩⟩ :: (l.take k ++ l.drop k).flatMap Cmd.items from by rw [List.take_append_drop]; rfl]
  unfold Cmd.pre
  simp only [List.length_cons, List.flatMap_append, List.length_append]
  omega
/-- The events may be, and are no more than there is room for. -/
def May (l : List Cmd.E) : Prop := l.length ≤ 16 ∧ ∀ x ∈ l, Cmd.fits x
def IsEvs (l : List Cmd.E) (w : World) (en : Ending) (w' : World) : Prop := ∃ (A' : Option Addr) (c' : Nat) (evs : List Cmd.E) (y : Nat) (bb : Bool), en = .returned (.tuple #[.slice A' evs.length c', .int .i64 (y : Int), .bool bb]) ∧ evLay.Own w.heap.size w' (.slice A' evs.length c') evs ∧ (May l → evs = l ∧ y = (Cmd.pre l.length l).length ∧ bb = true) ∧ Below w.heap.size w w'
set_option maxRecDepth 100000 in
set_option maxHeartbeats 6400000 in
theorem events_any (A : Option Addr) (c : Nat) (l : List Cmd.E) (w : World) (hl : l.length ≤ 2000000) (hc : (Cmd.pre l.length l).length ≤ c) (hi : itemLay.Reads w w.heap.size A (Cmd.pre l.length l)) (hf : ∀ x ∈ l, x.cmd.val.f < 18446744073709551616 ∧ x.cmd.old.f < 18446744073709551616) :
    Calls Try.prog 20 #[.slice A (Cmd.pre l.length l).length c, .int .i64 0] w (IsEvs l w) := by
  have HNil : Hid (∀ w', Below w.heap.size w w' → ¬ May l → IsEvs l w (.returned (.tuple #[.slice none 0 0, .int .i64 ((0 : Nat) : Int), .bool false])) w') := Lib.hid fun w' hb hm => ⟨none, 0, [], 0, false, rfl, Lay.Own.none _ _, fun h => absurd h hm, hb⟩
  have hplen := pre_len l.length l
  have HCo : Hid (Calls Try.prog 40 #[.slice A (Cmd.pre l.length l).length c, .int .i64 0] w fun en w' => en = .returned (.tuple #[.int .i64 (l.length : Nat), .bool (decide (0 ≤ ((l.length : Nat) : Int) ∧ ((l.length : Nat) : Int) ≤ 16))]) ∧ Below w.heap.size w w') := Lib.hid (counted_any A c _ (l.length : Nat) (l.flatMap Cmd.items) w rfl hc hi)
  have HFr : Hid (∀ k x, l[k]? = some x → ∀ W (p : Nat), Below w.heap.size w W → p ≤ (Cmd.pre l.length l).length → Calls Try.prog 18 #[.slice A (Cmd.pre l.length l).length c, .int .i64 (p : Int)] W fun en w' => ∃ (u : Cmd.E) (y : Nat) (bb : Bool), en = .returned (.tuple #[.agg (evA u), .int .i64 (y : Int), .bool bb]) ∧ (May l → p = (Cmd.pre l.length (l.take k)).length → u = x ∧ y = (Cmd.pre l.length (l.take (k + 1))).length ∧ bb = true) ∧ (bb = true → y ≤ (Cmd.pre l.length l).length) ∧ Below W.heap.size W w') := Lib.hid fun k x hx W p hW hp => by
    refine (efrom_any A c _ p (Cmd.pre l.length l) x W rfl hp hc (by omega) (hi.later hW (Nat.le_refl _))).mono fun en w' q => ?_
    obtain ⟨u, y, bb, r1, r2, r3, _, r5⟩ := q
    refine ⟨u, y, bb, r1, fun hm hpe => ?_, fun h => (r3 h).2, r5⟩
    have hmem := List.mem_of_getElem? hx
    have hfit := hm.2 x hmem
    have hck := Cmd.chk_both hfit.2.1
    have h9 := r2 ⟨⟨⟨_, by rw [hpe]; exact evs_split l hx⟩, hck.1, hck.2, (hf x hmem).1, (hf x hmem).2⟩, hfit⟩
    refine ⟨h9.1, ?_, h9.2.2⟩
    rw [h9.2.1, hpe, Cmd.pre_more l.length hx, List.length_append]
  have HGo : Hid (∀ k, k < l.length → ∃ x, l[k]? = some x) := Lib.hid fun k hk => Lay.get_of hk
  have HLe : Hid (May l → l.length ≤ 16) := Lib.hid fun h => h.1
  have HT1 : Hid (∀ k x, l[k]? = some x → l.take (k + 1) = l.take k ++ [x]) := Lib.hid fun k x hx => Lay.take_succ hx
  have HTn : Hid (l.take l.length = l) := Lib.hid List.take_length
  have H1n : Hid (1 ≤ (Cmd.pre l.length l).length) := Lib.hid (by show 1 ≤ _ + 1; omega)
  have H10 : Hid (1 = (Cmd.pre l.length (l.take 0)).length) := Lib.hid rfl
  have hln : (0 : Int) ≤ ((l.length : Nat) : Int) := by omega
  have HB0 := Lib.hid (Kn.start w)
  clear hi hf hl hc hplen
  have HFin : Hid (∀ w' A1 c1 evs (y : Nat) b0, evLay.Own b0 w' (.slice A1 evs.length c1) evs → b0 = w.heap.size → (May l → evs = l ∧ y = (Cmd.pre l.length l).length) → Below w.heap.size w w' → IsEvs l w (.returned (.tuple #[.slice A1 evs.length c1, .int .i64 (y : Int), .bool true])) w') := Lib.hid fun w' A1 c1 evs y b0 h1 h2 h3 h4 => ⟨A1, c1, evs, y, true, rfl, h2 ▸ h1, fun h => ⟨(h3 h).1, (h3 h).2, rfl⟩, h4⟩
  generalize hxn : (Cmd.pre l.length l).length = xn at *
  have HXn := Lib.hid hxn
  clear hxn
  by_cases hn16 : l.length ≤ 16
  case neg =>
    have hd : decide (0 ≤ ((l.length : Nat) : Int) ∧ ((l.length : Nat) : Int) ≤ 16) = false := by simp; omega
    have HM : Hid (¬ May l) := Lib.hid fun h => hn16 (HLe.out h)
    rw [hd] at HCo
    go_enter Try.func20, Try.ntmps20
    go_wp2_with fail
    refine (HCo.out).mono ?_; rintro en w1 ⟨rfl, b1⟩
    have HB1 := Lib.hid b1
    clear b1
    go_wp2_with fail
    exact bodyPost_ret (v := .tuple #[.slice none 0 0, .int .i64 ((0 : Nat) : Int), .bool false]) (by simp [results, Try.results20, go_sem]) rfl (HNil.out _ HB1.out HM.out)
  case pos =>
  have hd : decide (0 ≤ ((l.length : Nat) : Int) ∧ ((l.length : Nat) : Int) ≤ 16) = true := by simp; omega
  rw [hd] at HCo
  generalize hn : l.length = n at *
  clear hd
  go_enter Try.func20, Try.ntmps20
  go_wp2_with fail
  refine (HCo.out).mono ?_; rintro en w1 ⟨rfl, b1⟩
  have HK := Lib.hid ((HB0.out.call b1).literal evLay (C := #[]) rfl)
  simp only [List.nil_append] at HK
  clear b1 HCo
  go_wp2_with fail
  go_loopw [9, 10, 26] (fun vs ve vi wr => ∃ (k : Nat) (A1 : Option Addr) (c1 p : Nat) (evs : List Cmd.E), k ≤ n ∧ vs = .slice A1 k c1 ∧ ve = .int .i64 (p : Int) ∧ vi = .int .i64 k ∧ p ≤ xn ∧ Hid (evs.length = k) ∧ Hid (May l → evs = l.take k ∧ p = (Cmd.pre n (l.take k)).length) ∧ Hid (Kn w.heap.size w wr [] [row evLay (.slice A1 k c1) evs])) (fun _ _ vi _ => n - (intOf vi).toNat)
  case atStart => exact ⟨0, _, 0, 1, [], Nat.zero_le _, rfl, rfl, rfl, H1n.out, Lib.hid rfl, Lib.hid fun _ => ⟨rfl, H10.out⟩, HK⟩
  case round =>
    clear HK
    obtain ⟨k, A1, c1, p, evs, hk, rfl, rfl, rfl, hp, hev, hmay, HK⟩ := hrel
    by_cases hlt : k < n
    · obtain ⟨x, hx⟩ := HGo.out k hlt
      have HFx := Lib.hid (HFr.out k x hx)
      have HT := Lib.hid (HT1.out k x hx)
      clear hx
      go_wp2_with fail
      refine (HFx.out _ _ HK.out.b hp).mono ?_; rintro en w2 ⟨⟨uc, ue, ur, ⟨uk, unm, uky, ⟨vk, vn, vf, vs⟩, ⟨ok, on, of, os⟩, uN, uM⟩⟩, y, bb, rfl, hu, hy, b2⟩
      replace HK := Lib.hid (HK.out.call b2)
      have HU := Lib.hid hu
      clear b2 hu HFx
      cases bb
      · have HM : Hid (¬ May l) := Lib.hid fun h => by have := (HU.out h (hmay.out h).2).2.2; cases this
        go_wp2_with (first | (refine wpList_akev HK rfl rfl ?_; intro _ g2 HK'; simp only [List.nil_append] at HK'; replace HK := HK'; clear HK') | (refine wpList_sev HK 0 rfl _ _ rfl rfl rfl rfl ?_; intro _ HK' _; simp only [List.set] at HK'; replace HK := HK'; clear HK'))
        exact bodyPost_ret (v := .tuple #[.slice none 0 0, .int .i64 ((0 : Nat) : Int), .bool false]) (by simp [results, Try.results20, go_sem]) rfl (HNil.out _ HK.out.b HM.out)
      · have hyn := hy rfl
        clear hy
        have HL : Hid (evs.length + 1 ≤ 9223372036854775807 ∧ (evs.length + 1) * evLay.bytes ≤ 211106232532992) := Lib.hid ⟨by rw [hev.out]; omega, by rw [hev.out]; show _ * 160 ≤ _; omega⟩
        have HN : Hid ((evs ++ [(⟨uc, ue, ur, ⟨uk, unm, uky, ⟨vk, vn, vf, vs⟩, ⟨ok, on, of, os⟩, uN, uM⟩⟩ : Cmd.E)]).length = k + 1) := Lib.hid (by rw [List.length_append, hev.out]; rfl)
        have HM : Hid (May l → evs ++ [(⟨uc, ue, ur, ⟨uk, unm, uky, ⟨vk, vn, vf, vs⟩, ⟨ok, on, of, os⟩, uN, uM⟩⟩ : Cmd.E)] = l.take (k + 1) ∧ y = (Cmd.pre n (l.take (k + 1))).length) := Lib.hid fun h => by
          obtain ⟨h1, h2⟩ := hmay.out h
          obtain ⟨h3, h4, _⟩ := HU.out h h2
          exact ⟨by rw [HT.out, h1, h3], h4⟩
        clear HU hmay
        go_wp2_with (first | (refine wpList_akev HK rfl rfl ?_; intro _ g2 HK'; simp only [List.nil_append] at HK'; replace HK := HK'; clear HK') | (refine wpList_sev HK 0 rfl _ _ rfl rfl rfl rfl ?_; intro _ HK' _; simp only [List.set] at HK'; replace HK := HK'; clear HK') | refine wpList_of_exec (v := .agg #[.int .i64 uc, .int .i64 ue, .int .i64 ur, .int .i64 uk, .string unm, .string uky, .int .i64 vk, .int .i64 vn, .int .u64 (vf : Int), .string vs, .int .i64 ok, .int .i64 on, .int .u64 (of : Int), .string os, .int .i64 uN, .int .i64 uM]) (by rfl) (kexec_ee HK 0 _ (by rfl) (by rfl) (by rfl)) ?_ | (at_builtin; refine wpList_kpush HK evLay 0 rfl _ _ rfl rfl rfl [⟨uc, ue, ur, ⟨uk, unm, uky, ⟨vk, vn, vf, vs⟩, ⟨ok, on, of, os⟩, uN, uM⟩⟩] rfl rfl rfl rfl HL (N := k + 1) HN ?_; intro A4 c4 _ HK'; simp only [List.set] at HK'; replace HK := HK'; clear HK'))
        exact ⟨⟨k + 1, A4, c4, y, evs ++ [(⟨uc, ue, ur, ⟨uk, unm, uky, ⟨vk, vn, vf, vs⟩, ⟨ok, on, of, os⟩, uN, uM⟩⟩ : Cmd.E)], by omega, rfl, rfl, by go_num, hyn, HN, HM, Lib.hid (HK.out.takeL 0)⟩, by simp [intOf]; omega⟩
    · obtain rfl : k = n := by omega
      obtain rfl := hev.out
      go_wp2_with fail
      exact bodyPost_ret (v := .tuple #[.slice A1 evs.length c1, .int .i64 (p : Int), .bool true]) (by simp [results, Try.results20, go_sem]) rfl (HFin.out _ A1 c1 evs p _ (HK.out.own 0 rfl) rfl (fun h => by
        obtain ⟨h1, h2⟩ := hmay.out h
        rw [HTn.out] at h1 h2
        exact ⟨h1, by rw [h2]; exact HXn.out⟩) HK.out.b)
theorem exec_ene {o : Oper} {a : Act} {w : World} {x : Cmd.E} (p q : Operand) (ho : o.op = .binOp .neq 34 p q 34) (hx : a.eval p = .agg (evA x)) (hy : a.eval q = .agg (evA x)) :
    (execOp a.eval o).run Try.prog w = .ok (.value (.bool false)) w := by
  unfold execOp
  simp only [ho, hx, hy]
  unfold evA evC
  go_simp
set_option maxRecDepth 10000 in
set_option maxHeartbeats 3200000 in
theorem esame_any (A A' : Option Addr) (c c' : Nat) (l : List Cmd.E) (w : World) (hl : l.length ≤ 100000000) (hi : evLay.Reads w w.heap.size A l) (hi' : evLay.Reads w w.heap.size A' l) :
    Calls Try.prog 22 #[.slice A l.length c, .slice A' l.length c'] w fun en w' => en = .returned (.bool true) ∧ Below w.heap.size w w' := by
  have HI := Lib.hid hi
  have HI' := Lib.hid hi'
  clear hi hi'
  have HGo : Hid (∀ k, k < l.length → ∃ b, l[k]? = some b) := Lib.hid fun k hk => Lay.get_of hk
  generalize hn : l.length = n at *
  have HN := Lib.hid hn
  clear hn
  have hnn : ((n : Int) != (n : Int)) = false := by simp
  have HB := Lib.hid (Below.refl w.heap.size w)
  go_enter Try.func22, Try.ntmps22
  go_wp2_with fail
  go_loopw [5] (fun vi wr => ∃ k : Nat, k ≤ n ∧ vi = .int .i64 k ∧ Hid (Below w.heap.size w wr)) (fun vi _ => n - (intOf vi).toNat)
  case atStart => exact ⟨0, Nat.zero_le _, rfl, HB⟩
  case round =>
    clear HB
    obtain ⟨k, hk, rfl, HB⟩ := hrel
    by_cases hlt : k < n
    · obtain ⟨x, hx⟩ := HGo.out k hlt
      have hr1 := HI.out.later HB.out.drew (Nat.le_refl _)
      have hr2 := HI'.out.later HB.out.drew (Nat.le_refl _)
      have hpos : 0 < l.length := by rw [HN.out]; omega
      obtain ⟨b, o, rfl, _⟩ := hr1 hpos
      obtain ⟨b', o', rfl, _⟩ := hr2 hpos
      have HA1 := Lib.hid (evs_at hr1 hx)
      have HA2 := Lib.hid (evs_at hr2 hx)
      clear hr1 hr2 hx hpos
      have hk1 : (0 : Int) ≤ (k : Int) := by omega
      have hk2 : (k : Int) < (n : Int) := by omega
      have HBd := Lib.hid HB.out.drew
      go_wp2_with fail
      refine wp_region_held_drew (S := (fun W => (∀ j v, (evL x)[j]? = some v → W.cell? ⟨b, o + k * 16 + j, none⟩ = some v) ∧ (∀ j v, (evL x)[j]? = some v → W.cell? ⟨b', o' + k * 16 + j, none⟩ = some v) ∧ Hid (Below w.heap.size w W))) (by kernel_rfl) ?_ (fun hHeld => ?_)
      · (try dsimp only); exact ⟨HA1.out, HA2.out, HBd⟩
      refine wpAnyH_take (i := 0) (oi := ⟨some 17, _, _, _, _, _⟩) (v := ?_) rfl (by kernel_rfl) (by kernel_rfl) (by kernel_rfl) (fun _ _ _ h => h) (Or.inl ⟨by rfl, ?_⟩) (by assumption) ?_
      rotate_left
      · (intro w hSw; (try dsimp only at hSw); go_simp; try with_reducible rfl)
      try simp only [Act.put, List.setIfInBounds_toArray, List.set_cons_zero, List.set_cons_succ]
      refine wpAnyH_take (i := 1) (oi := ⟨some 18, _, _, _, _, _⟩) (v := ?_) rfl (by kernel_rfl) (by kernel_rfl) (by kernel_rfl) (fun _ _ _ h => h) (Or.inl ⟨by rfl, ?_⟩) (by assumption) ?_
      rotate_left
      · (intro w hSw; (try dsimp only at hSw); go_simp; try with_reducible rfl)
      try simp only [Act.put, List.setIfInBounds_toArray, List.set_cons_zero, List.set_cons_succ]
      refine wpAnyH_take (i := 2) (oi := ⟨some 19, _, _, _, _, _⟩) (v := ?_) rfl (by kernel_rfl) (by kernel_rfl) (by kernel_rfl) (fun _ _ _ h => h) (Or.inl ⟨by rfl, ?_⟩) (by assumption) ?_
      rotate_left
      · (intro w hSw; (try dsimp only at hSw); go_simp; try with_reducible rfl)
      try simp only [Act.put, List.setIfInBounds_toArray, List.set_cons_zero, List.set_cons_succ]
      refine wpAnyH_take (i := 3) (oi := ⟨some 20, _, _, _, _, _⟩) (v := ?_) rfl (by kernel_rfl) (by kernel_rfl) (by kernel_rfl) (fun _ _ _ h => h) (Or.inl ⟨by rfl, ?_⟩) (by assumption) ?_
      rotate_left
      · (intro w hSw; refine Eq.trans (exec_lev (x := x) (off := o + k * 16) _ (by rfl) (by rfl) hSw.1) ?_; with_reducible rfl)
      try simp only [Act.put, List.setIfInBounds_toArray, List.set_cons_zero, List.set_cons_succ]
      refine wpAnyH_take (i := 4) (oi := ⟨some 21, _, _, _, _, _⟩) (v := ?_) rfl (by kernel_rfl) (by kernel_rfl) (by kernel_rfl) (fun _ _ _ h => h) (Or.inl ⟨by rfl, ?_⟩) (by assumption) ?_
      rotate_left
      · (intro w hSw; (try dsimp only at hSw); go_simp; try with_reducible rfl)
      try simp only [Act.put, List.setIfInBounds_toArray, List.set_cons_zero, List.set_cons_succ]
      refine wpAnyH_take (i := 5) (oi := ⟨some 22, _, _, _, _, _⟩) (v := ?_) rfl (by kernel_rfl) (by kernel_rfl) (by kernel_rfl) (fun _ _ _ h => h) (Or.inl ⟨by rfl, ?_⟩) (by assumption) ?_
      rotate_left
      · (intro w hSw; (try dsimp only at hSw); go_simp; try with_reducible rfl)
      try simp only [Act.put, List.setIfInBounds_toArray, List.set_cons_zero, List.set_cons_succ]
      refine wpAnyH_take (i := 6) (oi := ⟨some 23, _, _, _, _, _⟩) (v := ?_) rfl (by kernel_rfl) (by kernel_rfl) (by kernel_rfl) (fun _ _ _ h => h) (Or.inl ⟨by rfl, ?_⟩) (by assumption) ?_
      rotate_left
      · (intro w hSw; (try dsimp only at hSw); go_simp; try with_reducible rfl)
      try simp only [Act.put, List.setIfInBounds_toArray, List.set_cons_zero, List.set_cons_succ]
      refine wpAnyH_take (i := 7) (oi := ⟨some 24, _, _, _, _, _⟩) (v := ?_) rfl (by kernel_rfl) (by kernel_rfl) (by kernel_rfl) (fun _ _ _ h => h) (Or.inl ⟨by rfl, ?_⟩) (by assumption) ?_
      rotate_left
      · (intro w hSw; refine Eq.trans (exec_lev (x := x) (off := o' + k * 16) _ (by rfl) (by rfl) hSw.2.1) ?_; with_reducible rfl)
      try simp only [Act.put, List.setIfInBounds_toArray, List.set_cons_zero, List.set_cons_succ]
      refine wpAnyH_take (i := 8) (oi := ⟨some 25, _, _, _, _, _⟩) (v := ?_) rfl (by kernel_rfl) (by kernel_rfl) (by kernel_rfl) (fun _ _ _ h => h) (Or.inl ⟨by rfl, ?_⟩) (by assumption) ?_
      rotate_left
      · (intro w hSw; refine Eq.trans (exec_ene (x := x) _ _ (by rfl) (by rfl) (by rfl)) ?_; with_reducible rfl)
      try simp only [Act.put, List.setIfInBounds_toArray, List.set_cons_zero, List.set_cons_succ]
      refine wpAnyH_done (by kernel_rfl) ?_ _
      go_wp2_with fail
      exact ⟨⟨k + 1, by omega, by go_num, hHeld.2.2⟩, by simp [intOf]; omega⟩
    · obtain rfl : k = n := by omega
      go_wp2_with fail
      go_ret
      exact ⟨rfl, HB.out⟩
end Go.Proofs.Ytcofjaeljglodaa
