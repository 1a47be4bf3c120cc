/-
  What Get returns.
  No condition but what the slice reads as.
-/
import Derived.Test.YtikfjimdkbmjhaaDictJoin
import Derived.Test.YtikfjimdkbmjhaaDictRight
set_option linter.unusedSimpArgs false
set_option linter.unusedVariables false
namespace Go.Proofs.Ytikfjimdkbmjhaa
open Go.RowKit

def IsVE (v : Val.V) (x : Int) (w : World) (e : Ending) (w' : World) : Prop := e = .returned (.tuple #[vv v, .int .i64 x]) ∧ Below w.heap.size w w'
theorem at_one {w : World} {A : Option Addr} {c : Nat} {x : Dct.Pr} (h : Sl w A 1 c [x]) : ∃ b o, A = some ⟨b, o, none⟩ ∧ ∀ W, Below w.heap.size w W → ∀ j v, (prL x)[j]? = some v → W.cell? ⟨b, o + j, none⟩ = some v := by
  obtain ⟨b, o, rfl, hc⟩ := h.at (by decide)
  refine ⟨b, o, rfl, fun W hW j v hv => ?_⟩
  have := hc W hW 0 x rfl j v hv
  rw [Nat.zero_mul, Nat.add_zero] at this
  exact this
set_option maxRecDepth 100000 in
set_option maxHeartbeats 6400000 in
theorem get_any (A : Option Addr) (c n : Nat) (l : List Dct.Pr) (key : ByteArray) (w : World) (hs : Sl w A n c l) :
    Calls Try.prog 8 #[.slice A n c, .string key] w (IsVE (Dct.gtV l key) (Dct.gtE l key) w) := by
  have HM := Lib.hid (fun W (hW : Below w.heap.size w W) => mchk_any A c n l W (hs.later hW))
  have HP := Lib.hid (fun W (hW : Below w.heap.size w W) => parts_any A c n l key w W hs hW)
  clear hs
  unfold IsVE IsE at *
  have HK := Lib.hid (Kn.start w)
  by_cases hr : Dct.Right l
  · rw [Dct.mchk_ok hr] at HM
    rcases Dct.fnd_parts hr.up key with ⟨hf, hn⟩ | ⟨hf, x, hx, hn⟩
    · obtain ⟨e1, e2⟩ := Dct.gt_none hr hn
      rw [e1, e2]
      rw [hf, Nat.sub_self] at HP
      unfold Dct.emp vv
      simp only
      generalize l.take (Dct.idx l key) = l1 at *
      generalize l.drop (Dct.idx l key) = l3 at *
      clear e1 e2 hf hn hr
      go_enter Try.func8, Try.ntmps8
      go_wp2_with (first | (refine wpList_akv HK rfl rfl ?_; intro _ g1 HK'; simp only [List.cons_append, List.nil_append] at HK'; replace HK := HK'; clear HK'))
      refine (HM.out _ HK.out.b).mono ?_; rintro e w1 ⟨rfl, b1⟩
      replace HK := Lib.hid (HK.out.call b1)
      clear b1
      go_wp2_with fail
      refine (HP.out _ HK.out.b).mono ?_; rintro e w1 ⟨A1, n1, c1, A2, n2, c2, A3, n3, c3, rfl, s1, s2, s3, b1⟩
      replace HK := Lib.hid (HK.out.call b1)
      obtain rfl : n2 = 0 := by have := s2.len; simpa using this.symm
      clear s1 s2 s3 b1
      go_wp2_with (first | (refine wpList_sv (f2 := 0) HK 0 rfl _ _ rfl rfl rfl rfl ?_; intro _ HK'; simp only [List.set] at HK'; replace HK := HK'; clear HK'))
      exact ret_ve Try.results8 rfl rfl rfl (HK.out.blk 0 rfl) ⟨rfl, HK.out.b⟩
    · obtain ⟨e1, e2⟩ := Dct.gt_some hr hn
      have hl2 : (l.drop (Dct.idx l key)).take (Dct.fin l key - Dct.idx l key) = [x] := by
        rw [hf, Nat.add_sub_cancel_left]
        have h1 := (List.getElem?_eq_some_iff.1 hx)
        obtain ⟨h1, h2⟩ := h1
        rw [List.drop_eq_getElem_cons h1, h2]
        rfl
      rw [e1, e2]
      rw [hl2] at HP
      generalize l.take (Dct.idx l key) = l1 at *
      generalize l.drop (Dct.fin l key) = l3 at *
      clear e1 e2 hf hn hr hl2 hx
      obtain ⟨key', k, m, f, s⟩ := x
      unfold vv
      simp only
      go_enter Try.func8, Try.ntmps8
      go_wp2_with (first | (refine wpList_akv HK rfl rfl ?_; intro _ g1 HK'; simp only [List.cons_append, List.nil_append] at HK'; replace HK := HK'; clear HK'))
      refine (HM.out _ HK.out.b).mono ?_; rintro e w1 ⟨rfl, b1⟩
      replace HK := Lib.hid (HK.out.call b1)
      clear b1
      go_wp2_with fail
      refine (HP.out _ HK.out.b).mono ?_; rintro e w1 ⟨A1, n1, c1, A2, n2, c2, A3, n3, c3, rfl, s1, s2, s3, b1⟩
      replace HK := Lib.hid (HK.out.call b1)
      obtain rfl : n2 = 1 := by have := s2.len; simpa using this.symm
      obtain ⟨b, o, rfl, hc⟩ := at_one s2
      have HX := Lib.hid hc
      clear s1 s2 s3 b1 hc
      go_wp2_with (first | refine wpList_of_exec (by rfl) (exec_lpv (off := o) _ (by rfl) (by rfl) rfl (HX.out _ HK.out.b)) ?_ | (refine wpList_sv (f2 := f) HK 0 rfl _ _ rfl rfl rfl rfl ?_; intro _ HK'; simp only [List.set] at HK'; replace HK := HK'; clear HK'))
      exact ret_ve Try.results8 rfl rfl rfl (HK.out.blk 0 rfl) ⟨rfl, HK.out.b⟩
  · rw [Dct.mchk_one hr] at HM
    obtain ⟨e1, e2⟩ := Dct.gt_bad hr key
    rw [e1, e2]
    clear e1 e2 hr HP
    unfold Dct.emp vv
    simp only
    go_enter Try.func8, Try.ntmps8
    go_wp2_with (first | (refine wpList_akv HK rfl rfl ?_; intro _ g1 HK'; simp only [List.cons_append, List.nil_append] at HK'; replace HK := HK'; clear HK'))
    refine (HM.out _ HK.out.b).mono ?_; rintro e w1 ⟨rfl, b1⟩
    replace HK := Lib.hid (HK.out.call b1)
    clear b1
    go_wp2_with (first | (refine wpList_sv (f2 := 0) HK 0 rfl _ _ rfl rfl rfl rfl ?_; intro _ HK'; simp only [List.set] at HK'; replace HK := HK'; clear HK'))
    exact ret_ve Try.results8 rfl rfl rfl (HK.out.blk 0 rfl) ⟨rfl, HK.out.b⟩
end Go.Proofs.Ytikfjimdkbmjhaa
