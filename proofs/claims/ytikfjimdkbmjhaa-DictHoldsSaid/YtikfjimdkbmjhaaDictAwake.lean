/-
  What the laws' example returns: true.
  No condition.
-/
import Derived.Test.YtikfjimdkbmjhaaDictSame
set_option linter.unusedSimpArgs false
set_option linter.unusedVariables false
namespace Go.Proofs.Ytikfjimdkbmjhaa
open Go.RowKit

namespace Dct
def ka : ByteArray := ⟨#[97]⟩
def kb : ByteArray := ⟨#[98]⟩
def num (n : Int) : Val.V := ⟨1, n, 0, ⟨#[]⟩⟩
theorem chk_num (k : ByteArray) (hk : k.size = 1) (n : Int) : pchk k (num n) = 0 := by
  unfold pchk
  rw [if_neg (by show ¬ (1 : Int) = 0; decide), if_neg (by omega)]
  exact Val.chk_int n
theorem lt_ab : lt ka kb = true := by unfold lt ka kb; rw [ByteArray.toList_eq, ByteArray.toList_eq]; decide
theorem put_b : ptE [] kb (num 1) = 0 ∧ ptL [] kb (num 1) = [⟨kb, num 1⟩] := pt_ok right_nil (chk_num kb rfl 1) (by decide)
theorem right_b : Right [⟨kb, num 1⟩] := by
  have h := ins_right right_nil (chk_num kb rfl 1) (by decide)
  exact h
theorem put_a : ptE [⟨kb, num 1⟩] ka (num 2) = 0 ∧ ptL [⟨kb, num 1⟩] ka (num 2) = [⟨ka, num 2⟩, ⟨kb, num 1⟩] := by
  have hw : wo [⟨kb, num 1⟩] ka = [⟨kb, num 1⟩] := wo_above fun x hx => by
    rw [List.mem_singleton] at hx; subst hx; exact fun e => lt_ne lt_ab e.symm
  obtain ⟨h1, h2⟩ := pt_ok right_b (chk_num ka rfl 2) (by rw [hw]; decide)
  refine ⟨h1, h2.trans ?_⟩
  obtain ⟨i1, i2⟩ := fin_cons_gt (x := ⟨kb, num 1⟩) (r := []) (k := ka) lt_ab
  unfold ins
  rw [i1, i2]
  rfl
theorem right_a : Right [⟨ka, num 2⟩, ⟨kb, num 1⟩] := by
  have hw : wo [⟨kb, num 1⟩] ka = [⟨kb, num 1⟩] := wo_above fun x hx => by
    rw [List.mem_singleton] at hx; subst hx; exact fun e => lt_ne lt_ab e.symm
  have h := ins_right right_b (chk_num ka rfl 2) (by rw [hw]; decide)
  obtain ⟨i1, i2⟩ := fin_cons_gt (x := ⟨kb, num 1⟩) (r := []) (k := ka) lt_ab
  unfold ins at h
  rw [i1, i2] at h
  exact h
theorem swap_a : swE [⟨ka, num 2⟩, ⟨kb, num 1⟩] ka emp (num 1) = 9 ∧ swV [⟨ka, num 2⟩, ⟨kb, num 1⟩] ka emp = num 2 := by
  have hg : gtV [⟨ka, num 2⟩, ⟨kb, num 1⟩] ka = num 2 := (gt_some right_a (by unfold fnd; rw [if_pos rfl])).1
  have hne : ¬ gtV [⟨ka, num 2⟩, ⟨kb, num 1⟩] ka = emp := by
    rw [hg]
    intro e
    have := congrArg Val.V.k e
    cases this
  obtain ⟨h1, _, h3⟩ := sw_unlike right_a (num 1) hne
  exact ⟨h1, h3.trans hg⟩
end Dct
set_option maxRecDepth 100000 in
set_option maxHeartbeats 6400000 in
theorem awake_any (w : World) : Calls Try.prog 14 #[] w (IsB true w) := by
  have HN := Lib.hid (fun x W => num_any x W)
  have f1 : Fit [⟨Dct.kb, Dct.num 1⟩] := ⟨fun x hx => by rw [List.mem_singleton] at hx; subst hx; decide, by decide⟩
  have f2 : Fit [⟨Dct.ka, Dct.num 2⟩, ⟨Dct.kb, Dct.num 1⟩] := ⟨fun x hx => by
    simp only [List.mem_cons, List.not_mem_nil, or_false] at hx
    rcases hx with rfl | rfl <;> decide, by decide⟩
  have HP1 : Hid (∀ W, Calls Try.prog 10 #[.slice none 0 0, .string Dct.kb, .agg #[.int .i64 1, .int .i64 1, .int .u64 ((0 : Nat) : Int), .string ⟨#[]⟩]] W (IsPE [⟨Dct.kb, Dct.num 1⟩] 0 W)) := Lib.hid fun W => by
    have h := put_any none 0 0 [] Dct.kb (Dct.num 1) W (Sl.none W) (by decide)
    rw [Dct.put_b.1, Dct.put_b.2] at h
    exact h
  have HP2 : Hid (∀ W A n c, Sl W A n c [⟨Dct.kb, Dct.num 1⟩] → Calls Try.prog 10 #[.slice A n c, .string Dct.ka, .agg #[.int .i64 1, .int .i64 2, .int .u64 ((0 : Nat) : Int), .string ⟨#[]⟩]] W (IsPE [⟨Dct.ka, Dct.num 2⟩, ⟨Dct.kb, Dct.num 1⟩] 0 W)) := Lib.hid fun W A n c hs => by
    have h := put_any A c n _ Dct.ka (Dct.num 2) W hs (by decide)
    rw [Dct.put_a.1, Dct.put_a.2] at h
    exact h
  have HSw : Hid (∀ W A n c, Sl W A n c [⟨Dct.ka, Dct.num 2⟩, ⟨Dct.kb, Dct.num 1⟩] → Calls Try.prog 18 #[.slice A n c, .string Dct.ka, .agg #[.int .i64 0, .int .i64 0, .int .u64 ((0 : Nat) : Int), .string ⟨#[]⟩], .agg #[.int .i64 1, .int .i64 1, .int .u64 ((0 : Nat) : Int), .string ⟨#[]⟩]] W (fun e w' => ∃ A n c, e = .returned (.tuple #[.slice A n c, .agg #[.int .i64 1, .int .i64 2, .int .u64 ((0 : Nat) : Int), .string ⟨#[]⟩], .int .i64 9]) ∧ Below W.heap.size W w')) := Lib.hid fun W A n c hs => by
    have h := swap_any A c n _ Dct.ka Dct.emp (Dct.num 1) W hs (by decide)
    rw [Dct.swap_a.1, Dct.swap_a.2] at h
    exact h.mono fun e w' ⟨A, n, c, h1, h2, h3⟩ => ⟨A, n, c, h1, h3⟩
  have HF1 := Lib.hid f1
  have HF2 := Lib.hid f2
  clear f1 f2
  unfold IsPE at *
  have HK := Lib.hid (Kn.start w)
  go_enter Try.func14, Try.ntmps14
  go_wp2_with fail
  refine (HN.out _ _).mono ?_; rintro e w1 ⟨rfl, b1⟩
  replace HK := Lib.hid (HK.out.call b1)
  clear b1
  go_wp2_with fail
  refine (HP1.out _).mono ?_; rintro e w2 ⟨A1, n1, c1, rfl, o1, b1⟩
  replace HK := Lib.hid (HK.out.called b1 o1)
  simp only [List.nil_append] at HK
  clear b1 o1
  go_wp2_with fail
  refine (HN.out _ _).mono ?_; rintro e w1 ⟨rfl, b1⟩
  replace HK := Lib.hid (HK.out.call b1)
  clear b1
  go_wp2_with fail
  refine (HP2.out _ _ _ _ (Sl.own (HK.out.own 0 rfl) HF1.out)).mono ?_; rintro e w2 ⟨A2, n2, c2, rfl, o1, b1⟩
  replace HK := Lib.hid (HK.out.called b1 o1)
  simp only [List.cons_append, List.nil_append] at HK
  obtain rfl : n2 = 2 := (Lay.Own.reads o1).1
  clear b1 o1
  go_wp2_with fail
  refine (HN.out _ _).mono ?_; rintro e w1 ⟨rfl, b1⟩
  replace HK := Lib.hid (HK.out.call b1)
  clear b1
  go_wp2_with fail
  refine (HSw.out _ _ _ _ (Sl.own (HK.out.own 1 rfl) HF2.out)).mono ?_; rintro e w2 ⟨A3, n3, c3, rfl, b1⟩
  replace HK := Lib.hid ((HK.out.call b1).dropR 1)
  clear b1
  obtain ⟨b, o, rfl, _⟩ := (Sl.own (HK.out.own 0 rfl) HF2.out).at (by decide)
  go_wp2_with (first | (refine wpList_akv HK rfl rfl ?_; intro _ g1 HK'; simp only [List.cons_append, List.nil_append] at HK'; replace HK := HK'; clear HK') | (refine wpList_sv (f2 := 0) HK 0 rfl _ _ rfl rfl rfl rfl ?_; intro _ HK'; simp only [List.set] at HK'; replace HK := HK'; clear HK'))
  have hlt0 : (0 : Nat) < 2 := by decide
  have hb1 : decide (Dct.ka = Dct.ka) = true := decide_eq_true rfl
  have hb2 : decide (Dct.num 2 = Dct.num 2) = true := decide_eq_true rfl
  refine wp_region_held_drew (S := (fun W => Hid (Kn w.heap.size w W [(g1, 25, vC 1 2 0 ⟨#[]⟩)] [row prLay (.slice (some ⟨b, o, none⟩) 2 c2) [⟨Dct.ka, Dct.num 2⟩, ⟨Dct.kb, Dct.num 1⟩]]))) (by kernel_rfl) ?_ (fun hHeld => ?_)
  · (try dsimp only); exact Lib.hid HK.out.drew
  refine wpAnyH_take (i := 0) (oi := ⟨some 26, _, _, _, _, _⟩) (v := ?_) rfl (by kernel_rfl) (by kernel_rfl) (by kernel_rfl) (fun _ _ _ h => h) (Or.inl ⟨by rfl, ?_⟩) (by assumption) ?_
  rotate_left
  · (intro w hSw; (try dsimp only at hSw); go_simp; try with_reducible rfl)
  try simp only [Act.put, List.setIfInBounds_toArray, List.set_cons_zero, List.set_cons_succ]
  refine wpAnyH_take (i := 1) (oi := ⟨some 27, _, _, _, _, _⟩) (v := ?_) rfl (by kernel_rfl) (by kernel_rfl) (by kernel_rfl) (fun _ _ _ h => h) (Or.inl ⟨by rfl, ?_⟩) (by assumption) ?_
  rotate_left
  · (intro w hSw; (try dsimp only at hSw); go_simp; try with_reducible rfl)
  try simp only [Act.put, List.setIfInBounds_toArray, List.set_cons_zero, List.set_cons_succ]
  refine wpAnyH_take (i := 2) (oi := ⟨some 28, _, _, _, _, _⟩) (v := ?_) rfl (by kernel_rfl) (by kernel_rfl) (by kernel_rfl) (fun _ _ _ h => h) (Or.inl ⟨by rfl, ?_⟩) (by assumption) ?_
  rotate_left
  · (intro w hSw; (try dsimp only at hSw); go_simp; try with_reducible rfl)
  try simp only [Act.put, List.setIfInBounds_toArray, List.set_cons_zero, List.set_cons_succ]
  refine wpAnyH_take (i := 3) (oi := ⟨some 29, _, _, _, _, _⟩) (v := ?_) rfl (by kernel_rfl) (by kernel_rfl) (by kernel_rfl) (fun _ _ _ h => h) (Or.inl ⟨by rfl, ?_⟩) (by assumption) ?_
  rotate_left
  · (intro w hSw; (try dsimp only at hSw); go_simp; try with_reducible rfl)
  try simp only [Act.put, List.setIfInBounds_toArray, List.set_cons_zero, List.set_cons_succ]
  refine wpAnyH_take (i := 4) (oi := ⟨some 30, _, _, _, _, _⟩) (v := ?_) rfl (by kernel_rfl) (by kernel_rfl) (by kernel_rfl) (fun _ _ _ h => h) (Or.inl ⟨by rfl, ?_⟩) (by assumption) ?_
  rotate_left
  · (intro w hSw; (try dsimp only at hSw); go_simp; try with_reducible rfl)
  try simp only [Act.put, List.setIfInBounds_toArray, List.set_cons_zero, List.set_cons_succ]
  refine wpAnyH_take (i := 5) (oi := ⟨some 31, _, _, _, _, _⟩) (v := ?_) rfl (by kernel_rfl) (by kernel_rfl) (by kernel_rfl) (fun _ _ _ h => h) (Or.inl ⟨by rfl, ?_⟩) (by assumption) ?_
  rotate_left
  · (intro w hSw; (try dsimp only at hSw); go_simp; try with_reducible rfl)
  try simp only [Act.put, List.setIfInBounds_toArray, List.set_cons_zero, List.set_cons_succ]
  refine wpAnyH_take (i := 6) (oi := ⟨some 32, _, _, _, _, _⟩) (v := ?_) rfl (by kernel_rfl) (by kernel_rfl) (by kernel_rfl) (fun _ _ _ h => h) (Or.inl ⟨by rfl, ?_⟩) (by assumption) ?_
  rotate_left
  · (intro w hSw; (try dsimp only at hSw); go_simp; try with_reducible rfl)
  try simp only [Act.put, List.setIfInBounds_toArray, List.set_cons_zero, List.set_cons_succ]
  refine wpAnyH_take (i := 7) (oi := ⟨some 33, _, _, _, _, _⟩) (v := ?_) rfl (by kernel_rfl) (by kernel_rfl) (by kernel_rfl) (fun _ _ _ h => h) (Or.inl ⟨by rfl, ?_⟩) (by assumption) ?_
  rotate_left
  · (intro w hSw; (try dsimp only at hSw); go_simp; try with_reducible rfl)
  try simp only [Act.put, List.setIfInBounds_toArray, List.set_cons_zero, List.set_cons_succ]
  refine wpAnyH_take (i := 8) (oi := ⟨some 34, _, _, _, _, _⟩) (v := ?_) rfl (by kernel_rfl) (by kernel_rfl) (by kernel_rfl) (fun _ _ _ h => h) (Or.inl ⟨by rfl, ?_⟩) (by assumption) ?_
  rotate_left
  · (intro w hSw; (try dsimp only at hSw); go_simp; try with_reducible rfl)
  try simp only [Act.put, List.setIfInBounds_toArray, List.set_cons_zero, List.set_cons_succ]
  refine wpAnyH_take (i := 9) (oi := ⟨some 35, _, _, _, _, _⟩) (v := ?_) rfl (by kernel_rfl) (by kernel_rfl) (by kernel_rfl) (fun _ _ _ h => h) (Or.inl ⟨by rfl, ?_⟩) (by assumption) ?_
  rotate_left
  · (intro w hSw; (try dsimp only at hSw); go_simp; try with_reducible rfl)
  try simp only [Act.put, List.setIfInBounds_toArray, List.set_cons_zero, List.set_cons_succ]
  refine wpAnyH_take (i := 10) (oi := ⟨some 36, _, _, _, _, _⟩) (v := ?_) rfl (by kernel_rfl) (by kernel_rfl) (by kernel_rfl) (fun _ _ _ h => h) (Or.inl ⟨by rfl, ?_⟩) (by assumption) ?_
  rotate_left
  · (intro w hSw; (try dsimp only at hSw); go_simp; try with_reducible rfl)
  try simp only [Act.put, List.setIfInBounds_toArray, List.set_cons_zero, List.set_cons_succ]
  refine wpAnyH_take (i := 11) (oi := ⟨some 37, _, _, _, _, _⟩) (v := ?_) rfl (by kernel_rfl) (by kernel_rfl) (by kernel_rfl) (fun _ _ _ h => h) (Or.inl ⟨by rfl, ?_⟩) (by assumption) ?_
  rotate_left
  · (intro w hSw; (try dsimp only at hSw); go_simp; try with_reducible rfl)
  try simp only [Act.put, List.setIfInBounds_toArray, List.set_cons_zero, List.set_cons_succ]
  refine wpAnyH_take (i := 12) (oi := ⟨some 38, _, _, _, _, _⟩) (v := ?_) rfl (by kernel_rfl) (by kernel_rfl) (by kernel_rfl) (fun _ _ _ h => h) (Or.inl ⟨by rfl, ?_⟩) (by assumption) ?_
  rotate_left
  · (intro w hSw; (try dsimp only at hSw); go_simp; try with_reducible rfl)
  try simp only [Act.put, List.setIfInBounds_toArray, List.set_cons_zero, List.set_cons_succ]
  refine wpAnyH_take (i := 13) (oi := ⟨some 39, _, _, _, _, _⟩) (v := ?_) rfl (by kernel_rfl) (by kernel_rfl) (by kernel_rfl) (fun _ _ _ h => h) (Or.inl ⟨by rfl, ?_⟩) (by assumption) ?_
  rotate_left
  · (intro w hSw; refine Eq.trans (exec_ix (i := 0) _ _ (by rfl) (by rfl) (by rfl) hlt0) ?_; with_reducible rfl)
  try simp only [Act.put, List.setIfInBounds_toArray, List.set_cons_zero, List.set_cons_succ]
  refine wpAnyH_take (i := 14) (oi := ⟨some 40, _, _, _, _, _⟩) (v := ?_) rfl (by kernel_rfl) (by kernel_rfl) (by kernel_rfl) (fun _ _ _ h => h) (Or.inl ⟨by rfl, ?_⟩) (by assumption) ?_
  rotate_left
  · (intro w hSw; (try dsimp only at hSw); go_simp; try with_reducible rfl)
  try simp only [Act.put, List.setIfInBounds_toArray, List.set_cons_zero, List.set_cons_succ]
  refine wpAnyH_take (i := 15) (oi := ⟨some 41, _, _, _, _, _⟩) (v := ?_) rfl (by kernel_rfl) (by kernel_rfl) (by kernel_rfl) (fun _ _ _ h => h) (Or.inl ⟨by rfl, ?_⟩) (by assumption) ?_
  rotate_left
  · (intro w hSw; refine Eq.trans (exec_lpk (x := ⟨Dct.ka, Dct.num 2⟩) (off := o + 0 * 5) _ (by rfl) (by rfl) ((Sl.own (hSw.out.own 0 rfl) HF2.out).cells rfl)) ?_; with_reducible rfl)
  try simp only [Act.put, List.setIfInBounds_toArray, List.set_cons_zero, List.set_cons_succ]
  refine wpAnyH_take (i := 16) (oi := ⟨some 42, _, _, _, _, _⟩) (v := ?_) rfl (by kernel_rfl) (by kernel_rfl) (by kernel_rfl) (fun _ _ _ h => h) (Or.inl ⟨by rfl, ?_⟩) (by assumption) ?_
  rotate_left
  · (intro w hSw; refine Eq.trans (exec_seq (x := Dct.ka) (y := Dct.ka) _ _ (by rfl) (by rfl) (by rfl) hb1) ?_; with_reducible rfl)
  try simp only [Act.put, List.setIfInBounds_toArray, List.set_cons_zero, List.set_cons_succ]
  refine wpAnyH_take (i := 17) (oi := ⟨some 43, _, _, _, _, _⟩) (v := ?_) rfl (by kernel_rfl) (by kernel_rfl) (by kernel_rfl) (fun _ _ _ h => h) (Or.inl ⟨by rfl, ?_⟩) (by assumption) ?_
  rotate_left
  · (intro w hSw; (try dsimp only at hSw); go_simp; try with_reducible rfl)
  try simp only [Act.put, List.setIfInBounds_toArray, List.set_cons_zero, List.set_cons_succ]
  refine wpAnyH_take (i := 18) (oi := ⟨some 44, _, _, _, _, _⟩) (v := ?_) rfl (by kernel_rfl) (by kernel_rfl) (by kernel_rfl) (fun _ _ _ h => h) (Or.inl ⟨by rfl, ?_⟩) (by assumption) ?_
  rotate_left
  · (intro w hSw; (try dsimp only at hSw); go_simp; try with_reducible rfl)
  try simp only [Act.put, List.setIfInBounds_toArray, List.set_cons_zero, List.set_cons_succ]
  refine wpAnyH_take (i := 19) (oi := ⟨some 45, _, _, _, _, _⟩) (v := ?_) rfl (by kernel_rfl) (by kernel_rfl) (by kernel_rfl) (fun _ _ _ h => h) (Or.inl ⟨by rfl, ?_⟩) (by assumption) ?_
  rotate_left
  · (intro w hSw; refine Eq.trans (kexec_vv hSw 0 _ (by rfl) (by rfl) (by rfl)) ?_; with_reducible rfl)
  try simp only [Act.put, List.setIfInBounds_toArray, List.set_cons_zero, List.set_cons_succ]
  refine wpAnyH_ready (rs := [20]) (by kernel_rfl) (by simp) ?_
  refine AllReadyH.cons (o := ⟨some 46, _, _, _, _, _⟩) rfl (fun K hK => ?_) AllReadyH.nil
  go_simp
  go_at_call 28
  refine (HN.out _ _).mono ?_; rintro e w5 ⟨rfl, b5⟩; have hs := Lib.hid (hHeld.out.call b5); clear b5
  refine hK.out _ _ hs (fun hHeld => ?_)
  clear hK K
  try simp only [Act.put, List.setIfInBounds_toArray, List.set_cons_zero, List.set_cons_succ]
  refine wpAnyH_take (i := 21) (oi := ⟨some 47, _, _, _, _, _⟩) (v := ?_) rfl (by kernel_rfl) (by kernel_rfl) (by kernel_rfl) (fun _ _ _ h => h) (Or.inl ⟨by rfl, ?_⟩) (by assumption) ?_
  rotate_left
  · (intro w hSw; refine Eq.trans (exec_veq (v := Dct.num 2) (u := Dct.num 2) _ _ (by rfl) (by rfl) (by rfl) hb2) ?_; with_reducible rfl)
  try simp only [Act.put, List.setIfInBounds_toArray, List.set_cons_zero, List.set_cons_succ]
  refine wpAnyH_take (i := 22) (oi := ⟨some 48, _, _, _, _, _⟩) (v := ?_) rfl (by kernel_rfl) (by kernel_rfl) (by kernel_rfl) (fun _ _ _ h => h) (Or.inl ⟨by rfl, ?_⟩) (by assumption) ?_
  rotate_left
  · (intro w hSw; (try dsimp only at hSw); go_simp; try with_reducible rfl)
  try simp only [Act.put, List.setIfInBounds_toArray, List.set_cons_zero, List.set_cons_succ]
  refine wpAnyH_take (i := 23) (oi := ⟨some 49, _, _, _, _, _⟩) (v := ?_) rfl (by kernel_rfl) (by kernel_rfl) (by kernel_rfl) (fun _ _ _ h => h) (Or.inl ⟨by rfl, ?_⟩) (by assumption) ?_
  rotate_left
  · (intro w hSw; (try dsimp only at hSw); go_simp; try with_reducible rfl)
  try simp only [Act.put, List.setIfInBounds_toArray, List.set_cons_zero, List.set_cons_succ]
  refine wpAnyH_take (i := 24) (oi := ⟨some 50, _, _, _, _, _⟩) (v := ?_) rfl (by kernel_rfl) (by kernel_rfl) (by kernel_rfl) (fun _ _ _ h => h) (Or.inl ⟨by rfl, ?_⟩) (by assumption) ?_
  rotate_left
  · (intro w hSw; (try dsimp only at hSw); go_simp; try with_reducible rfl)
  try simp only [Act.put, List.setIfInBounds_toArray, List.set_cons_zero, List.set_cons_succ]
  refine wpAnyH_take (i := 25) (oi := ⟨some 51, _, _, _, _, _⟩) (v := ?_) rfl (by kernel_rfl) (by kernel_rfl) (by kernel_rfl) (fun _ _ _ h => h) (Or.inl ⟨by rfl, ?_⟩) (by assumption) ?_
  rotate_left
  · (intro w hSw; (try dsimp only at hSw); go_simp; try with_reducible rfl)
  try simp only [Act.put, List.setIfInBounds_toArray, List.set_cons_zero, List.set_cons_succ]
  refine wpAnyH_take (i := 26) (oi := ⟨some 52, _, _, _, _, _⟩) (v := ?_) rfl (by kernel_rfl) (by kernel_rfl) (by kernel_rfl) (fun _ _ _ h => h) (Or.inl ⟨by rfl, ?_⟩) (by assumption) ?_
  rotate_left
  · (intro w hSw; (try dsimp only at hSw); go_simp; try with_reducible rfl)
  try simp only [Act.put, List.setIfInBounds_toArray, List.set_cons_zero, List.set_cons_succ]
  refine wpAnyH_take (i := 27) (oi := ⟨some 0, _, _, _, _, _⟩) (v := ?_) rfl (by kernel_rfl) (by kernel_rfl) (by kernel_rfl) (fun _ _ _ h => h) (Or.inl ⟨by rfl, ?_⟩) (by assumption) ?_
  rotate_left
  · (intro w hSw; (try dsimp only at hSw); go_simp; try with_reducible rfl)
  try simp only [Act.put, List.setIfInBounds_toArray, List.set_cons_zero, List.set_cons_succ]
  refine wpAnyH_done (by kernel_rfl) ?_ _
  go_wp2_with fail
  go_ret
  exact ⟨rfl, hHeld.out.b⟩
end Go.Proofs.Ytikfjimdkbmjhaa
