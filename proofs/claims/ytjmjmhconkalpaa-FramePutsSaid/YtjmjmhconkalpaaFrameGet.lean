/-
  The walk of frame.Get.
  No condition but a text's greatest size.
-/
import Derived.Test.YtjmjmhconkalpaaFramePut
import Derived.Test.YtjmjmhconkalpaaFrameClone
import Derived.OwnWalk
import Derived.Deep.RegionHeld3
import Derived.Deep.RegionWith
import Derived.Deep.RegionLaw
import Derived.BigQuiet
import Derived.MapKept
namespace Go.Proofs.Ytjmjmhconkalpaa
open Go.RowKit

macro "go_ret3" : tactic => `(tactic|
  ((try simp only [Exit.inBlock, Exit.then]); refine bodyPost_ret (results_tmp3 rfl _ _ _) rfl ?_))
/-- A call's contract, from any world that comes behind the first. -/
theorem behind {P : Program} {f : FuncId} {args : Array Value} {v : Value} {w W : World} (hW : Hid (Below w.heap.size w W)) (h : Calls P f args W fun e w' => e = .returned v ∧ Below W.heap.size W w') :
    Calls P f args W fun e w' => e = .returned v ∧ Hid (Below w.heap.size w w') :=
  h.mono fun _ _ ⟨he, hb⟩ => ⟨he, Lib.hid (hW.out.trans (hb.mono hW.out.size))⟩

theorem ret_get {a b c d : Int} {s t : ByteArray} (h1 : a = b) (h2 : s = t) (h3 : c = d) : Ending.returned (.tuple #[.int .i64 a, .string s, .int .i64 c]) = .returned (.tuple #[.int .i64 b, .string t, .int .i64 d]) := by rw [h1, h2, h3]
theorem cut_list (s : ByteArray) (i j : Nat) : s.extract i j = Val.of ((s.data.toList.take j).drop i) := by
  apply ByteArray.ext
  apply Array.ext'
  simp [Val.of, ByteArray.data_extract, List.extract_eq_take_drop, List.drop_take]
theorem cut_from (s : ByteArray) (i : Nat) (z : Int) (hz : z = (i : Int)) (hi : i ≤ s.size) (t : List UInt8) (ht : s.data.toList.drop i = t) (W : World) :
    (Instr.slice 9 (.string s) (some (.int .i64 z)) none none).run Try.prog W = .ok (.string (Val.of t)) W := by
  subst hz ht
  rw [run_slice_string_from_if W 9 s .i64 _ Try.underlying9, if_pos ⟨by omega, by omega⟩, cut_list, show ((i : Int)).toNat = i by omega, List.take_of_length_le (by rw [Array.length_toList]; exact Nat.le_refl _)]
theorem cut_to (s : ByteArray) (i : Nat) (z : Int) (hz : z = (i : Int)) (hi : i ≤ s.size) (t : List UInt8) (ht : s.data.toList.take i = t) (W : World) :
    (Instr.slice 9 (.string s) none (some (.int .i64 z)) none).run Try.prog W = .ok (.string (Val.of t)) W := by
  subst hz ht
  rw [run_slice_string_to_if W 9 s .i64 _ Try.underlying9, if_pos ⟨by omega, by omega⟩, cut_list, show ((i : Int)).toNat = i by omega, List.drop_zero]
theorem cut_both (s : ByteArray) (i j : Nat) (y z : Int) (hy : y = (i : Int)) (hz : z = (j : Int)) (hij : i ≤ j) (hj : j ≤ s.size) (t : List UInt8) (ht : (s.data.toList.take j).drop i = t) (W : World) :
    (Instr.slice 9 (.string s) (some (.int .i64 y)) (some (.int .i64 z)) none).run Try.prog W = .ok (.string (Val.of t)) W := by
  subst hy hz ht
  rw [run_slice_string_if W 9 s .i64 .i64 _ _ Try.underlying9, if_pos ⟨by omega, by omega⟩, if_pos ⟨by omega, by omega⟩, cut_list, show ((i : Int)).toNat = i by omega, show ((j : Int)).toNat = j by omega]

set_option maxHeartbeats 1000000 in
theorem get_any (s : ByteArray) (w : World) (hs : s.size ≤ maxLen) :
    Calls Try.prog 11 #[.string s] w fun e w' =>
      e = .returned (.tuple #[.int .i64 (Frame.getOf s.data.toList).1, .string (Val.of (Frame.getOf s.data.toList).2.1), .int .i64 (Frame.getOf s.data.toList).2.2]) ∧ Below w.heap.size w w' := by
  have hs0 := hs
  unfold maxLen at hs
  have hz : s.data.toList.length = s.size := by rw [Array.length_toList]; rfl
  cases hf : Frame.formed s.data.toList
  · have HE := Lib.hid (Frame.getOf_unformed hf)
    have HF := fun w => Lib.hid (formed_any s false hf w hs0)
    clear hf hz
    go_enter Try.func11, Try.ntmps11
    go_wp2_with fail
    refine ((HF _).out).mono ?_; rintro e w1 ⟨rfl, hb⟩
    have HB := Lib.hid hb
    clear hb
    go_wp2_with fail
    go_ret3
    exact ⟨ret_get (by rw [HE.out]; rfl) (by rw [HE.out]; rfl) (by rw [HE.out]), HB.out⟩
  · have HF := fun w => Lib.hid (formed_any s true hf w hs0)
    obtain ⟨k, b, t, hfm, ht, hk1, hk2, hb⟩ := Frame.formed_form hf
    have hlen : s.size = b.length + 8 := by rw [← hz, hfm, List.length_append, Frame.mk_length, ht]
    have hiA := fun W => cut_from s (b.length + 4) ((s.size : Int) - 4) (by omega) (by omega) t (by rw [hfm]; have := Frame.drop_mk k b t ht; rwa [List.length_append, Frame.mk_length, ht, Nat.add_sub_cancel] at this) W
    have hiB := fun W => cut_to s (b.length + 4) ((s.size : Int) - 4) (by omega) (by omega) (Frame.mk k b) (by rw [hfm]; have := Frame.take_mk k b t ht; rwa [List.length_append, Frame.mk_length, ht, Nat.add_sub_cancel] at this) W
    have hiC := fun W => cut_both s 4 (b.length + 4) 4 ((s.size : Int) - 4) rfl (by omega) (by omega) (by omega) b (by rw [hfm]; have := Frame.take_mk k b t ht; rw [List.length_append, Frame.mk_length, ht, Nat.add_sub_cancel] at this; rw [this]; rfl) W
    have hiI := fun W => index_at s 1 1 rfl (UInt8.ofNat k) (by rw [hfm]; rfl) W
    rw [show (((UInt8.ofNat k).toNat : Nat) : Int) = (k : Int) by rw [UInt8.toNat_ofNat']; omega] at hiI
    have hE := Frame.getOf_mk k b t hk1 hk2 hb ht
    rw [← hfm] at hE
    have HS := Lib.hid (fun W hW => behind (w := w) hW (fsum_any (Val.of (Frame.mk k b)) W (by rw [Val.of_size, Frame.mk_length]; unfold maxLen; omega)))
    have HC := Lib.hid (fun W hW => behind (w := w) hW (clone_any (Val.of b) W (by rw [Val.of_size]; omega)))
    rw [Val.of_toList] at HS
    generalize Frame.sum (Frame.mk k b) = u at *
    generalize Frame.mk k b = F at *
    by_cases hu : u = t
    · subst hu
      rw [if_pos rfl] at hE
      have HE := Lib.hid hE
      have HL := Lib.hid hlen
      have hs8 : 8 ≤ s.size := by omega
      clear hE hfm hf hz hlen
      go_enter Try.func11, Try.ntmps11
      go_wp2_with fail
      refine ((HF _).out).mono ?_; rintro e w1 ⟨rfl, hb1⟩
      have HB1 := Lib.hid hb1.drew
      clear hb1
      go_wp2_with fail
      go_region_held3 (fun W => Hid (Below w.heap.size w W)) (first | assumption | go_keep)
        (first
          | (go_simp; go_at_call 14; refine (HS.out _ (by assumption)).mono ?_; rintro e w2 ⟨rfl, hs2⟩))
      go_wp2_with fail
      have HB2 := Lib.hid (Hid.out hs2).drew
      go_region_held3 (fun W => Hid (Below w.heap.size w W)) (first | assumption | go_keep)
        (first
          | (go_simp; go_at_call 18; refine (HC.out _ (by assumption)).mono ?_; rintro e w3 ⟨rfl, hs3⟩))
      all_goals go_wp2_with fail
      all_goals go_ret3
      all_goals exact ⟨ret_get (by rw [HE.out]; exact wrap64 _ (by omega)) (by rw [HE.out]) (by rw [HE.out]), Hid.out (by assumption)⟩
    · rw [if_neg hu] at hE
      have hne : ((Val.of t).toList == (Val.of u).toList) = false := by
        rw [ByteArray.toList_eq, ByteArray.toList_eq, Val.of_toList, Val.of_toList, beq_eq_false_iff_ne]; exact fun e => hu e.symm
      have HE := Lib.hid hE
      have HL := Lib.hid hlen
      have hs8 : 8 ≤ s.size := by omega
      clear hE hfm hf hz hlen
      go_enter Try.func11, Try.ntmps11
      go_wp2_with fail
      refine ((HF _).out).mono ?_; rintro e w1 ⟨rfl, hb1⟩
      have HB1 := Lib.hid hb1.drew
      clear hb1
      go_wp2_with fail
      go_region_held3 (fun W => Hid (Below w.heap.size w W)) (first | assumption | go_keep)
        (first
          | (go_simp; go_at_call 14; refine (HS.out _ (by assumption)).mono ?_; rintro e w2 ⟨rfl, hs2⟩))
      all_goals go_wp2_with fail
      all_goals go_ret3
      all_goals exact ⟨ret_get (by rw [HE.out]; rfl) (by rw [HE.out]; rfl) (by rw [HE.out]), Hid.out (by assumption)⟩
end Go.Proofs.Ytjmjmhconkalpaa
