/-
  What the law's own 'begin' returns: the tries as they were, or one more.
  No condition but what is known of the memory, and that the tries are not many.
-/
import Derived.Test.YtfganmbjaglmiaaBalSta
import Derived.Test.YtfganmbjaglmiaaBalCode
set_option linter.unusedSimpArgs false
set_option linter.unusedVariables false
namespace Go.Proofs.Ytfganmbjaglmiaa
open Go.RowKit

def newT (N : Nat) (b : Bal) (g1 g2 : Nat) : Trh := ⟨⟨b, List.replicate N false, [], ⟨#[]⟩, false, List.replicate N false⟩, g1, g2, none, 0, 0⟩
/-- Told: the tries, with their rows. -/
def IsBg (N : Nat) (F : List Trh) (b : Bal) (L : List (Nat × TypeId × Array Value)) (rv : RowE) (b0 : Nat) (w0 : World) (e : Ending) (w' : World) : Prop :=
  ∃ A n c F', e = .returned (.slice A n c) ∧ Hid (Kn b0 w0 w' L (rv :: row (trLay N) (.slice A n c) F' :: F'.flatMap (rows3 N))) ∧ Hid (F'.length = n) ∧ Hid (F' = F ∨ (Blt.Rt b ∧ (∀ x ∈ F, ¬ x.t.b = b) ∧ F.length < 20 ∧ ∃ g1 g2, F' = F ++ [newT N b g1 g2]))
theorem IsBg.same {N : Nat} {F : List Trh} {b : Bal} {L : List (Nat × TypeId × Array Value)} {rv : RowE} {b0 : Nat} {w0 w' : World} {A : Option Addr} {n c : Nat} (h : Kn b0 w0 w' L (rv :: row (trLay N) (.slice A n c) F :: F.flatMap (rows3 N))) (hn : F.length = n) : IsBg N F b L rv b0 w0 (.returned (.slice A n c)) w' :=
  ⟨A, n, c, F, rfl, Lib.hid h, Lib.hid hn, Lib.hid (.inl rfl)⟩
theorem IsBg.new {N : Nat} {F : List Trh} {b : Bal} {L : List (Nat × TypeId × Array Value)} {rv : RowE} {b0 : Nat} {w0 w' : World} {A : Option Addr} {n c : Nat} {g1 g2 : Nat} {X : List RowE} (h : Kn b0 w0 w' L (rv :: row (trLay N) (.slice A (n + 1) c) (F ++ [newT N b g1 g2]) :: (F.flatMap (rows3 N) ++ X))) (hn : F.length = n)
    (hX : ∃ Y, (X ++ [row pmLay (.slice none 0 0) []]).Perm (rows3 N (newT N b g1 g2) ++ Y)) (h1 : Blt.Rt b) (h2 : ∀ x ∈ F, ¬ x.t.b = b) (h3 : F.length < 20) : IsBg N F b L rv b0 w0 (.returned (.slice A (n + 1) c)) w' := by
  obtain ⟨Y, hX⟩ := hX
  refine ⟨A, n + 1, c, _, rfl, Lib.hid ?_, Lib.hid (by rw [List.length_append, hn]; rfl), Lib.hid (.inr ⟨h1, h2, h3, g1, g2, rfl⟩)⟩
  refine (h.nilR pmLay).part (X := Y) ?_
  simp only [List.cons_append, List.flatMap_append, List.flatMap_cons, List.flatMap_nil, List.append_nil, List.append_assoc]
  refine List.Perm.cons _ (List.Perm.cons _ (List.Perm.append_left _ ?_))
  exact hX
set_option maxRecDepth 100000 in
set_option maxHeartbeats 12800000 in
theorem bbegin_any (N : Nat) (F : List Trh) (m : Mov) (gm : Nat) (rv : RowE) (b0 : Nat) (w0 : World) (A : Option Addr) (n c : Nat) (w : World) (hk : Kn b0 w0 w [(gm, 42, mvC m)] (rv :: row (trLay N) (.slice A n c) F :: F.flatMap (rows3 N))) (hn : F.length = n) (hN : N ≤ 7) (h20 : n ≤ 20) :
    Calls Try.prog 19 #[.slice A n c, .int .i64 (N : Int), .agg #[.int .i64 m.k, .int .i64 m.t, .int .i64 m.v, .int .i64 m.r, .int .i64 m.s]] w (IsBg N F ⟨m.r, m.s⟩ [(gm, 42, mvC m)] rv b0 w0) := by
  have HR := Lib.hid (fun W => b20cright_any ⟨m.r, m.s⟩ W)
  unfold IsB at HR
  have HN := Lib.hid hn
  have HK := Lib.hid (hk.alloc 42 (mvC m))
  simp only [List.cons_append, List.nil_append] at HK
  have HNew := Lib.hid (fun (w' : World) (A' : Option Addr) (c' g1 g2 : Nat) (X : List RowE) => IsBg.new (N := N) (F := F) (b := ⟨m.r, m.s⟩) (L := [(gm, 42, mvC m)]) (rv := rv) (b0 := b0) (w0 := w0) (w' := w') (A := A') (n := n) (c := c') (g1 := g1) (g2 := g2) (X := X))
  have HSame := Lib.hid (fun (w' : World) => IsBg.same (N := N) (F := F) (b := ⟨m.r, m.s⟩) (L := [(gm, 42, mvC m)]) (rv := rv) (b0 := b0) (w0 := w0) (w' := w') (A := A) (n := n) (c := c))
  generalize F.flatMap (rows3 N) = O at *
  clear hk hn
  go_enter Try.func19, Try.ntmps19
  go_wp2_with (first | refine wpList_exe (km_c HK 1 3 rfl _ (by rfl) (by rfl) (by rfl)) (by rfl) ?_ | refine wpList_exe (km_c HK 1 4 rfl _ (by rfl) (by rfl) (by rfl)) (by rfl) ?_ | (refine wpList_abl HK rfl rfl ?_; intro _ g7 HK'; simp only [List.cons_append, List.nil_append] at HK'; replace HK := HK'; clear HK') | (refine wpList_sbl (b := ⟨0, 0⟩) (c := ⟨m.r, m.s⟩) HK 2 rfl _ _ rfl rfl rfl rfl ?_; intro _ HK'; simp only [List.set] at HK'; replace HK := HK'; clear HK'))
  go_loopw [8] (fun v8 wr => ∃ i : Nat, i ≤ n ∧ v8 = .int .i64 i ∧ Hid (∀ (j : Nat) x, j < i → F[j]? = some x → ¬ x.t.b = ⟨m.r, m.s⟩) ∧ Hid (Kn b0 w0 wr [(gm, 42, mvC m), (w.heap.size, 42, mvC m), (g7, 23, blA ⟨m.r, m.s⟩)] (rv :: row (trLay N) (.slice A n c) F :: O))) (fun v _ => n - (intOf v).toNat)
  case atStart => exact ⟨0, Nat.zero_le _, rfl, Lib.hid (fun j x h => by omega), HK⟩
  case round =>
    clear HK
    obtain ⟨i, hi, rfl, HB, HK⟩ := hrel
    have hi1 : (0 : Int) ≤ (i : Int) := by omega
    have hi3 : i < 9223372036854775807 := by omega
    by_cases hlt : i < n
    case pos =>
      have hi2 : (i : Int) < (n : Int) := by omega
      obtain ⟨x, hx⟩ := Lay.get_of (l := F) (k := i) (by rw [HN.out]; exact hlt)
      obtain ⟨gT, rfl⟩ := HK.out.headR (La := trLay N) (j := 1) rfl (by rw [HN.out]; omega)
      have HX := Lib.hid hx
      by_cases he : x.t.b = ⟨m.r, m.s⟩
      case pos =>
        as_aux_lemma =>
          have hd := decide_eq_true he
          have HD : Hid (decide (x.t.b = ⟨m.r, m.s⟩) = true) := Lib.hid hd
          clear hx he hd HB HR HNew
          go_wp2_with fail
          have HK0 := Lib.hid HK.out.drew
          clear HK
          refine wp_region_held_drew (S := (fun W => Hid (Kn b0 w0 W [(gm, 42, mvC m), (w.heap.size, 42, mvC m), (g7, 23, blA ⟨m.r, m.s⟩)] (rv :: row (trLay N) (.slice (some ⟨gT, 0, none⟩) n c) F :: O)))) (by kernel_rfl) ?_ (fun hHeld => ?_)
          · (try dsimp only); exact HK0
          refine wpAnyH_take (i := 0) (oi := ⟨some 20, _, _, _, _, _⟩) (v := ?_) rfl (by kernel_rfl) (by kernel_rfl) (by kernel_rfl) (fun _ _ _ h => h) (Or.inl ⟨by rfl, ?_⟩) (by assumption) ?_
          rotate_left
          · (intro w hSw; (try dsimp only at hSw); go_simp; try with_reducible rfl)
          try simp only [Act.put, List.setIfInBounds_toArray, List.set_cons_zero, List.set_cons_succ]
          refine wpAnyH_take (i := 1) (oi := ⟨some 21, _, _, _, _, _⟩) (v := ?_) rfl (by kernel_rfl) (by kernel_rfl) (by kernel_rfl) (fun _ _ _ h => h) (Or.inl ⟨by rfl, ?_⟩) (by assumption) ?_
          rotate_left
          · (intro w hSw; (try dsimp only at hSw); go_simp; try with_reducible rfl)
          try simp only [Act.put, List.setIfInBounds_toArray, List.set_cons_zero, List.set_cons_succ]
          refine wpAnyH_take (i := 2) (oi := ⟨some 22, _, _, _, _, _⟩) (v := ?_) rfl (by kernel_rfl) (by kernel_rfl) (by kernel_rfl) (fun _ _ _ h => h) (Or.inl ⟨by rfl, ?_⟩) (by assumption) ?_
          rotate_left
          · (intro w hSw; refine Eq.trans (exec_ixtr (N := N) (i := i) _ _ (by rfl) (by rfl) (by rfl) hlt) ?_; with_reducible rfl)
          try simp only [Act.put, List.setIfInBounds_toArray, List.set_cons_zero, List.set_cons_succ]
          refine wpAnyH_take (i := 3) (oi := ⟨some 23, _, _, _, _, _⟩) (v := ?_) rfl (by kernel_rfl) (by kernel_rfl) (by kernel_rfl) (fun _ _ _ h => h) (Or.inl ⟨by rfl, ?_⟩) (by assumption) ?_
          rotate_left
          · (intro w hSw; (try dsimp only at hSw); go_simp; try with_reducible rfl)
          try simp only [Act.put, List.setIfInBounds_toArray, List.set_cons_zero, List.set_cons_succ]
          refine wpAnyH_take (i := 4) (oi := ⟨some 24, _, _, _, _, _⟩) (v := ?_) rfl (by kernel_rfl) (by kernel_rfl) (by kernel_rfl) (fun _ _ _ h => h) (Or.inl ⟨by rfl, ?_⟩) (by assumption) ?_
          rotate_left
          · (intro w hSw; refine Eq.trans (exec_rtb hSw 1 (by rfl) HX.out _ (by rfl) (by rfl)) ?_; with_reducible rfl)
          try simp only [Act.put, List.setIfInBounds_toArray, List.set_cons_zero, List.set_cons_succ]
          refine wpAnyH_take (i := 5) (oi := ⟨some 25, _, _, _, _, _⟩) (v := ?_) rfl (by kernel_rfl) (by kernel_rfl) (by kernel_rfl) (fun _ _ _ h => h) (Or.inl ⟨by rfl, ?_⟩) (by assumption) ?_
          rotate_left
          · (intro w hSw; refine Eq.trans (kb_b hSw 2 _ (by rfl) (by rfl) (by rfl)) ?_; with_reducible rfl)
          try simp only [Act.put, List.setIfInBounds_toArray, List.set_cons_zero, List.set_cons_succ]
          refine wpAnyH_take (i := 6) (oi := ⟨some 26, _, _, _, _, _⟩) (v := ?_) rfl (by kernel_rfl) (by kernel_rfl) (by kernel_rfl) (fun _ _ _ h => h) (Or.inl ⟨by rfl, ?_⟩) (by assumption) ?_
          rotate_left
          · (intro w hSw; refine Eq.trans (exec_beq (b := x.t.b) (c := ⟨m.r, m.s⟩) _ _ (by rfl) (by rfl) (by rfl) HD.out) ?_; with_reducible rfl)
          try simp only [Act.put, List.setIfInBounds_toArray, List.set_cons_zero, List.set_cons_succ]
          refine wpAnyH_done (by kernel_rfl) ?_ _
          all_goals
            go_wp2_with fail
            go_ret
            exact HSame.out _ (hHeld.out.takeL 1) HN.out
      case neg =>
        as_aux_lemma =>
          have HB2 : Hid (∀ (j : Nat) x, j < i + 1 → F[j]? = some x → ¬ x.t.b = ⟨m.r, m.s⟩) := Lib.hid (fun j y hj hy => by
            by_cases h : j = i
            · subst h
              rw [hx] at hy
              injection hy with hy
              subst hy
              exact he
            · exact HB.out j y (by omega) hy)
          have HD : Hid (decide (x.t.b = ⟨m.r, m.s⟩) = false) := Lib.hid (decide_eq_false he)
          clear hx he HB HR HNew HSame
          go_wp2_with fail
          have HK0 := Lib.hid HK.out.drew
          clear HK
          refine wp_region_held_drew (S := (fun W => Hid (Kn b0 w0 W [(gm, 42, mvC m), (w.heap.size, 42, mvC m), (g7, 23, blA ⟨m.r, m.s⟩)] (rv :: row (trLay N) (.slice (some ⟨gT, 0, none⟩) n c) F :: O)))) (by kernel_rfl) ?_ (fun hHeld => ?_)
          · (try dsimp only); exact HK0
          refine wpAnyH_take (i := 0) (oi := ⟨some 20, _, _, _, _, _⟩) (v := ?_) rfl (by kernel_rfl) (by kernel_rfl) (by kernel_rfl) (fun _ _ _ h => h) (Or.inl ⟨by rfl, ?_⟩) (by assumption) ?_
          rotate_left
          · (intro w hSw; (try dsimp only at hSw); go_simp; try with_reducible rfl)
          try simp only [Act.put, List.setIfInBounds_toArray, List.set_cons_zero, List.set_cons_succ]
          refine wpAnyH_take (i := 1) (oi := ⟨some 21, _, _, _, _, _⟩) (v := ?_) rfl (by kernel_rfl) (by kernel_rfl) (by kernel_rfl) (fun _ _ _ h => h) (Or.inl ⟨by rfl, ?_⟩) (by assumption) ?_
          rotate_left
          · (intro w hSw; (try dsimp only at hSw); go_simp; try with_reducible rfl)
          try simp only [Act.put, List.setIfInBounds_toArray, List.set_cons_zero, List.set_cons_succ]
          refine wpAnyH_take (i := 2) (oi := ⟨some 22, _, _, _, _, _⟩) (v := ?_) rfl (by kernel_rfl) (by kernel_rfl) (by kernel_rfl) (fun _ _ _ h => h) (Or.inl ⟨by rfl, ?_⟩) (by assumption) ?_
          rotate_left
          · (intro w hSw; refine Eq.trans (exec_ixtr (N := N) (i := i) _ _ (by rfl) (by rfl) (by rfl) hlt) ?_; with_reducible rfl)
          try simp only [Act.put, List.setIfInBounds_toArray, List.set_cons_zero, List.set_cons_succ]
          refine wpAnyH_take (i := 3) (oi := ⟨some 23, _, _, _, _, _⟩) (v := ?_) rfl (by kernel_rfl) (by kernel_rfl) (by kernel_rfl) (fun _ _ _ h => h) (Or.inl ⟨by rfl, ?_⟩) (by assumption) ?_
          rotate_left
          · (intro w hSw; (try dsimp only at hSw); go_simp; try with_reducible rfl)
          try simp only [Act.put, List.setIfInBounds_toArray, List.set_cons_zero, List.set_cons_succ]
          refine wpAnyH_take (i := 4) (oi := ⟨some 24, _, _, _, _, _⟩) (v := ?_) rfl (by kernel_rfl) (by kernel_rfl) (by kernel_rfl) (fun _ _ _ h => h) (Or.inl ⟨by rfl, ?_⟩) (by assumption) ?_
          rotate_left
          · (intro w hSw; refine Eq.trans (exec_rtb hSw 1 (by rfl) HX.out _ (by rfl) (by rfl)) ?_; with_reducible rfl)
          try simp only [Act.put, List.setIfInBounds_toArray, List.set_cons_zero, List.set_cons_succ]
          refine wpAnyH_take (i := 5) (oi := ⟨some 25, _, _, _, _, _⟩) (v := ?_) rfl (by kernel_rfl) (by kernel_rfl) (by kernel_rfl) (fun _ _ _ h => h) (Or.inl ⟨by rfl, ?_⟩) (by assumption) ?_
          rotate_left
          · (intro w hSw; refine Eq.trans (kb_b hSw 2 _ (by rfl) (by rfl) (by rfl)) ?_; with_reducible rfl)
          try simp only [Act.put, List.setIfInBounds_toArray, List.set_cons_zero, List.set_cons_succ]
          refine wpAnyH_take (i := 6) (oi := ⟨some 26, _, _, _, _, _⟩) (v := ?_) rfl (by kernel_rfl) (by kernel_rfl) (by kernel_rfl) (fun _ _ _ h => h) (Or.inl ⟨by rfl, ?_⟩) (by assumption) ?_
          rotate_left
          · (intro w hSw; refine Eq.trans (exec_beq (b := x.t.b) (c := ⟨m.r, m.s⟩) _ _ (by rfl) (by rfl) (by rfl) HD.out) ?_; with_reducible rfl)
          try simp only [Act.put, List.setIfInBounds_toArray, List.set_cons_zero, List.set_cons_succ]
          refine wpAnyH_done (by kernel_rfl) ?_ _
          all_goals
            have HK := hHeld
            clear HK0 hHeld
            go_wp2_with (first | refine wpList_exe (exec_add1 (j := i) _ (by rfl) (by rfl) hi3) (by rfl) ?_)
            exact ⟨⟨i + 1, hlt, rfl, HB2, HK⟩, by simp [intOf]; omega⟩
    case neg =>
      obtain rfl : i = n := by omega
      by_cases hr : Blt.Rt ⟨m.r, m.s⟩
      case neg =>
        as_aux_lemma =>
          rw [decide_eq_false hr] at HR
          clear hr HB HNew
          go_wp2_with (first | refine wpList_exe (kb_b HK 2 _ (by rfl) (by rfl) (by rfl)) (by rfl) ?_)
          refine (HR.out _).mono ?_; rintro e w1 ⟨rfl, b1⟩
          replace HK := Lib.hid (HK.out.call b1); clear b1
          go_wp2_with fail
          go_ret
          exact HSame.out _ (HK.out.takeL 1) HN.out
      by_cases h20' : i = 20
      case pos =>
        as_aux_lemma =>
          rw [decide_eq_true hr] at HR
          subst h20'
          clear hr HB HNew
          go_wp2_with (first | refine wpList_exe (kb_b HK 2 _ (by rfl) (by rfl) (by rfl)) (by rfl) ?_)
          refine (HR.out _).mono ?_; rintro e w1 ⟨rfl, b1⟩
          replace HK := Lib.hid (HK.out.call b1); clear b1
          go_wp2_with fail
          go_ret
          exact HSame.out _ (HK.out.takeL 1) HN.out
      rw [decide_eq_true hr] at HR
      have hz : ((i : Int) == 20) = false := by rw [beq_eq_false_iff_ne]; omega
      have HAll : Hid (∀ x ∈ F, ¬ x.t.b = ⟨m.r, m.s⟩) := Lib.hid (fun x hx => by
        obtain ⟨j, hj⟩ := List.mem_iff_getElem?.1 hx
        exact HB.out j x (by have := (List.getElem?_eq_some_iff.1 hj).1; rw [HN.out] at this; exact this) hj)
      have HRt := Lib.hid hr
      have hlt20 : i < 20 := by omega
      have hN9 : N ≤ 65536 := by omega
      have HL : Hid (∀ x : Trh, (F ++ [x]).length = i + 1) := Lib.hid fun x => by rw [List.length_append, HN.out]; rfl
      clear hr HB HSame h20'
      go_wp2_with (first | refine wpList_exe (kb_b HK 2 _ (by rfl) (by rfl) (by rfl)) (by rfl) ?_)
      refine (HR.out _).mono ?_; rintro e w1 ⟨rfl, b1⟩
      replace HK := Lib.hid (HK.out.call b1); clear b1
      go_wp2_with fail
      have HK0 := Lib.hid HK.out.drew
      clear HK HR
      refine wp_region_held_drew (S := (fun W => Hid (Kn b0 w0 W [(gm, 42, mvC m), (w.heap.size, 42, mvC m), (g7, 23, blA ⟨m.r, m.s⟩)] []))) (by kernel_rfl) ?_ (fun hHeld => ?_)
      · (try dsimp only); exact Lib.hid (HK0.out.takeR 0)
      refine wpAnyH_take (i := 0) (oi := ⟨some 37, _, _, _, _, _⟩) (v := ?_) rfl (by kernel_rfl) (by kernel_rfl) (by kernel_rfl) (fun _ _ _ h => h) (Or.inl ⟨by rfl, ?_⟩) (by assumption) ?_
      rotate_left
      · (intro w hSw; (try dsimp only at hSw); go_simp; try with_reducible rfl)
      try simp only [Act.put, List.setIfInBounds_toArray, List.set_cons_zero, List.set_cons_succ]
      refine wpAnyH_take (i := 1) (oi := ⟨some 38, _, _, _, _, _⟩) (v := ?_) rfl (by kernel_rfl) (by kernel_rfl) (by kernel_rfl) (fun _ _ _ h => h) (Or.inl ⟨by rfl, ?_⟩) (by assumption) ?_
      rotate_left
      · (intro w hSw; refine Eq.trans (kb_b hSw 2 _ (by rfl) (by rfl) (by rfl)) ?_; with_reducible rfl)
      try simp only [Act.put, List.setIfInBounds_toArray, List.set_cons_zero, List.set_cons_succ]
      refine wpAnyH_take (i := 2) (oi := ⟨some 39, _, _, _, _, _⟩) (v := ?_) rfl (by kernel_rfl) (by kernel_rfl) (by kernel_rfl) (fun _ _ _ h => h) (Or.inl ⟨by rfl, ?_⟩) (by assumption) ?_
      rotate_left
      · (intro w hSw; (try dsimp only at hSw); go_simp; try with_reducible rfl)
      try simp only [Act.put, List.setIfInBounds_toArray, List.set_cons_zero, List.set_cons_succ]
      refine wpAnyH_take (i := 4) (oi := ⟨some 41, _, _, _, _, _⟩) (v := ?_) rfl (by kernel_rfl) (by kernel_rfl) (by kernel_rfl) (fun _ _ _ h => h) (Or.inl ⟨by rfl, ?_⟩) (by assumption) ?_
      rotate_left
      · (intro w hSw; (try dsimp only at hSw); go_simp; try with_reducible rfl)
      try simp only [Act.put, List.setIfInBounds_toArray, List.set_cons_zero, List.set_cons_succ]
      refine wpAnyH_ready (rs := [3, 5]) (by kernel_rfl) (by simp) ?_
      refine AllReadyH.cons (o := ⟨some 40, _, _, _, _, _⟩) rfl (fun K hK => ?_) (AllReadyH.cons (o := ⟨some 42, _, _, _, _, _⟩) rfl (fun K hK => ?_) AllReadyH.nil)
      refine step_mnb HK0 (by rfl) _ (by rfl) (by rfl) hN9 ?_; clear HK0; intro wq g1 HK0 _; simp only [List.cons_append] at HK0; have hs := Lib.hid (HK0.out.takeR 0)
      refine hK.out _ _ hs (fun hHeld => ?_)
      clear hK K
      try simp only [ap1, ap2, ap3, ap4, ap5]
      refine wpAnyH_ready (rs := [5]) (by kernel_rfl) (by simp) ?_
      refine AllReadyH.cons (o := ⟨some 42, _, _, _, _, _⟩) rfl (fun K hK => ?_) AllReadyH.nil
      refine step_mnb HK0 (by rfl) _ (by rfl) (by rfl) hN9 ?_; clear HK0; intro wq g2 HK0 _; simp only [List.cons_append] at HK0; have hs := Lib.hid (HK0.out.takeR 0)
      refine hK.out _ _ hs (fun hHeld => ?_)
      clear hK K
      try simp only [ap1, ap2, ap3, ap4, ap5]
      refine wpAnyH_take (i := 6) (oi := ⟨some 43, _, _, _, _, _⟩) (v := ?_) rfl (by kernel_rfl) (by kernel_rfl) (by kernel_rfl) (fun _ _ _ h => h) (Or.inl ⟨by rfl, ?_⟩) (by assumption) ?_
      rotate_left
      · (intro w hSw; (try dsimp only at hSw); go_simp; try with_reducible rfl)
      try simp only [Act.put, List.setIfInBounds_toArray, List.set_cons_zero, List.set_cons_succ]
      refine wpAnyH_ready (rs := [7]) (by kernel_rfl) (by simp) ?_
      refine AllReadyH.cons (o := ⟨some 44, _, _, _, _, _⟩) rfl (fun K hK => ?_) AllReadyH.nil
      refine step_mk1 (trLay N) (p := newT N ⟨m.r, m.s⟩ g1 g2) HK0 (by show 7 ≤ 65536; decide) (by rfl) _ (by rfl) (by rfl) (by rfl) ?_; clear HK0; intro wq g3 HK0 _; simp only [List.cons_append] at HK0; have HRd := Lib.hid (HK0.out.mem (La := trLay N) (v := .slice (some ⟨g3, 0, none⟩) 1 1) (l := [newT N ⟨m.r, m.s⟩ g1 g2]) (by simp)).rd; have hs := Lib.hid (HK0.out.takeR 0)
      refine hK.out _ _ hs (fun hHeld => ?_)
      clear hK K
      try simp only [ap1, ap2, ap3, ap4, ap5]
      refine wpAnyH_ready (rs := [8]) (by kernel_rfl) (by simp) ?_
      refine AllReadyH.cons (o := ⟨some 45, _, _, _, _, _⟩) rfl (fun K hK => ?_) AllReadyH.nil
      refine step_more2 (trLay N) HK0 1 (by rfl) _ _ (by rfl) (by rfl) (by rfl) [newT N ⟨m.r, m.s⟩ g1 g2] (by rfl) (by rfl) HRd (grow_ok (HL.out _) (by show (i + 1) * 112 ≤ _; omega) (by omega)) (N := i + 1) (Lib.hid (HL.out _)) ?_; clear HK0; intro A5 c5 wq HK0; simp only [List.set] at HK0; have hs := Lib.hid (HK0.out.takeR 0)
      refine hK.out _ _ hs (fun hHeld => ?_)
      clear hK K
      try simp only [ap1, ap2, ap3, ap4, ap5]
      refine wpAnyH_take (i := 9) (oi := ⟨some 6, _, _, _, _, _⟩) (v := ?_) rfl (by kernel_rfl) (by kernel_rfl) (by kernel_rfl) (fun _ _ _ h => h) (Or.inl ⟨by rfl, ?_⟩) (by assumption) ?_
      rotate_left
      · (intro w hSw; (try dsimp only at hSw); go_simp; try with_reducible rfl)
      try simp only [Act.put, List.setIfInBounds_toArray, List.set_cons_zero, List.set_cons_succ]
      refine wpAnyH_done (by kernel_rfl) ?_ _
      rotate_left
      refine step_mnb HK0 (by rfl) _ (by rfl) (by rfl) hN9 ?_; clear HK0; intro wq g2 HK0 _; simp only [List.cons_append] at HK0; have hs := Lib.hid (HK0.out.takeR 0)
      refine hK.out _ _ hs (fun hHeld => ?_)
      clear hK K
      try simp only [ap1, ap2, ap3, ap4, ap5]
      refine wpAnyH_ready (rs := [3]) (by kernel_rfl) (by simp) ?_
      refine AllReadyH.cons (o := ⟨some 40, _, _, _, _, _⟩) rfl (fun K hK => ?_) AllReadyH.nil
      refine step_mnb HK0 (by rfl) _ (by rfl) (by rfl) hN9 ?_; clear HK0; intro wq g1 HK0 _; simp only [List.cons_append] at HK0; have hs := Lib.hid (HK0.out.takeR 0)
      refine hK.out _ _ hs (fun hHeld => ?_)
      clear hK K
      try simp only [ap1, ap2, ap3, ap4, ap5]
      refine wpAnyH_take (i := 6) (oi := ⟨some 43, _, _, _, _, _⟩) (v := ?_) rfl (by kernel_rfl) (by kernel_rfl) (by kernel_rfl) (fun _ _ _ h => h) (Or.inl ⟨by rfl, ?_⟩) (by assumption) ?_
      rotate_left
      · (intro w hSw; (try dsimp only at hSw); go_simp; try with_reducible rfl)
      try simp only [Act.put, List.setIfInBounds_toArray, List.set_cons_zero, List.set_cons_succ]
      refine wpAnyH_ready (rs := [7]) (by kernel_rfl) (by simp) ?_
      refine AllReadyH.cons (o := ⟨some 44, _, _, _, _, _⟩) rfl (fun K hK => ?_) AllReadyH.nil
      refine step_mk1 (trLay N) (p := newT N ⟨m.r, m.s⟩ g1 g2) HK0 (by show 7 ≤ 65536; decide) (by rfl) _ (by rfl) (by rfl) (by rfl) ?_; clear HK0; intro wq g3 HK0 _; simp only [List.cons_append] at HK0; have HRd := Lib.hid (HK0.out.mem (La := trLay N) (v := .slice (some ⟨g3, 0, none⟩) 1 1) (l := [newT N ⟨m.r, m.s⟩ g1 g2]) (by simp)).rd; have hs := Lib.hid (HK0.out.takeR 0)
      refine hK.out _ _ hs (fun hHeld => ?_)
      clear hK K
      try simp only [ap1, ap2, ap3, ap4, ap5]
      refine wpAnyH_ready (rs := [8]) (by kernel_rfl) (by simp) ?_
      refine AllReadyH.cons (o := ⟨some 45, _, _, _, _, _⟩) rfl (fun K hK => ?_) AllReadyH.nil
      refine step_more2 (trLay N) HK0 1 (by rfl) _ _ (by rfl) (by rfl) (by rfl) [newT N ⟨m.r, m.s⟩ g1 g2] (by rfl) (by rfl) HRd (grow_ok (HL.out _) (by show (i + 1) * 112 ≤ _; omega) (by omega)) (N := i + 1) (Lib.hid (HL.out _)) ?_; clear HK0; intro A5 c5 wq HK0; simp only [List.set] at HK0; have hs := Lib.hid (HK0.out.takeR 0)
      refine hK.out _ _ hs (fun hHeld => ?_)
      clear hK K
      try simp only [ap1, ap2, ap3, ap4, ap5]
      refine wpAnyH_take (i := 9) (oi := ⟨some 6, _, _, _, _, _⟩) (v := ?_) rfl (by kernel_rfl) (by kernel_rfl) (by kernel_rfl) (fun _ _ _ h => h) (Or.inl ⟨by rfl, ?_⟩) (by assumption) ?_
      rotate_left
      · (intro w hSw; (try dsimp only at hSw); go_simp; try with_reducible rfl)
      try simp only [Act.put, List.setIfInBounds_toArray, List.set_cons_zero, List.set_cons_succ]
      refine wpAnyH_done (by kernel_rfl) ?_ _
      rotate_left
      · go_wp2_with fail
        go_ret
        simp only [List.append_assoc, List.cons_append, List.nil_append] at HK0
        exact HNew.out _ _ _ _ _ _ (HK0.out.takeL 1) HN.out ⟨_, List.Perm.cons _ (List.Perm.cons _ (List.Perm.swap _ _ _))⟩ HRt.out HAll.out (by rw [HN.out]; exact hlt20)
      · go_wp2_with fail
        go_ret
        simp only [List.append_assoc, List.cons_append, List.nil_append] at HK0
        exact HNew.out _ _ _ _ _ _ (HK0.out.takeL 1) HN.out ⟨_, (List.Perm.swap _ _ _).trans (List.Perm.cons _ (List.Perm.cons _ (List.Perm.swap _ _ _)))⟩ HRt.out HAll.out (by rw [HN.out]; exact hlt20)
end Go.Proofs.Ytfganmbjaglmiaa
