/-
  What List returns, the program's and the document's.
  No condition but that floats' bits fit 64, and a bound on how many.
-/
import Derived.Test.YtcofjaeljglodaaEvListM
set_option linter.unusedSimpArgs false
set_option linter.unusedVariables false
namespace Go.Proofs.Ytcofjaeljglodaa
open Go.RowKit

set_option maxRecDepth 100000 in
set_option maxHeartbeats 6400000 in
theorem elist_any (A : Option Addr) (c : Nat) (l : List Cmd.E) (w : World) (hl : l.length ≤ 2000000) (hi : evLay.Reads w w.heap.size A l) (hf : ∀ x ∈ l, x.cmd.val.f < 18446744073709551616 ∧ x.cmd.old.f < 18446744073709551616) :
    Calls Try.prog 19 #[.slice A l.length c] w (IsIt (Cmd.pre l.length l) w) := by
  have HI := Lib.hid hi
  have HGo : Hid (∀ k, k < l.length → ∃ x, l[k]? = some x ∧ (∀ W, Calls Try.prog 15 #[.agg (evA x)] W (IsIt (Cmd.items x) W))) := Lib.hid fun k hk => by
    obtain ⟨x, hx⟩ := Lay.get_of hk
    exact ⟨x, hx, fun W => eitems_any x W (hf x (List.mem_of_getElem? hx)).1 (hf x (List.mem_of_getElem? hx)).2⟩
  have HLen : Hid (∀ k, (Cmd.pre l.length (l.take k)).length ≤ 24000001) := Lib.hid fun k => by
    have h := pre_len l.length (l.take k)
    have h2 : (l.take k).length ≤ l.length := by rw [List.length_take]; omega
    omega
  have HTake : Hid (l.take l.length = l) := Lib.hid List.take_length
  have HNm := Lib.hid number_any
  clear hi hf
  generalize hn : l.length = n at *
  clear hn
  have HK := Lib.hid (Kn.start w)
  go_enter Try.func19, Try.ntmps19
  go_wp2_with fail
  refine (HNm.out _ _).mono ?_; rintro en w1 ⟨rfl, b1⟩
  replace HK := Lib.hid (HK.out.call b1)
  clear b1
  go_wp2_with (first | (refine wpList_bs1 HK rfl _ rfl rfl ?_; intro _ g4 HK'; simp only [List.nil_append] at HK'; replace HK := HK'; clear HK'))
  go_loopw [3, 12] (fun vs vi wr => ∃ (k : Nat) (A1 : Option Addr) (c1 N : Nat), k ≤ n ∧ vs = .slice A1 N c1 ∧ vi = .int .i64 k ∧ Hid ((Cmd.pre n (l.take k)).length = N) ∧ Hid (Kn w.heap.size w wr [] [row itemLay (.slice A1 N c1) (Cmd.pre n (l.take k))])) (fun _ vi _ => n - (intOf vi).toNat)
  case atStart => exact ⟨0, _, _, 1, Nat.zero_le _, rfl, rfl, Lib.hid rfl, HK⟩
  case round =>
    clear HK
    obtain ⟨k, A1, c1, N, hk, rfl, rfl, hN, HK⟩ := hrel
    by_cases hlt : k < n
    · obtain ⟨x, hx, hix⟩ := HGo.out k hlt
      have HIx := Lib.hid hix
      have hlen := HLen.out (k + 1)
      have he := Cmd.pre_more n hx
      rw [he, List.length_append, hN.out] at hlen
      have HE := Lib.hid he
      have HL : Hid ((Cmd.pre n (l.take k)).length + (Cmd.items x).length ≤ 9223372036854775807 ∧ ((Cmd.pre n (l.take k)).length + (Cmd.items x).length) * itemLay.bytes ≤ 211106232532992) := Lib.hid ⟨by rw [hN.out]; omega, by show _ * 32 ≤ _; rw [hN.out]; omega⟩
      have HN2 : Hid ((Cmd.pre n (l.take k) ++ Cmd.items x).length = N + (Cmd.items x).length) := Lib.hid (by rw [List.length_append, hN.out])
      clear hlen he hix
      have hR := HI.out.later HK.out.b (Nat.le_refl _)
      obtain ⟨b, o, rfl, _⟩ := hR (List.length_pos_of_mem (List.mem_of_getElem? hx))
      have HAt := Lib.hid (evs_at hR hx)
      clear hR hx
      have hk1 : (0 : Int) ≤ (k : Int) := by omega
      have hk2 : (k : Int) < (n : Int) := by omega
      generalize Cmd.items x = its at *
      go_wp2_with (first | (refine wpList_of_exec (v := .agg (evA x)) (by rfl) (exec_lev (off := o + k * 16) _ (by rfl) (by rfl) HAt.out) ?_) | (refine wpList_akev HK rfl rfl ?_; intro _ g2 HK'; simp only [List.nil_append] at HK'; replace HK := HK'; clear HK') | (refine wpList_sev HK 0 rfl _ _ rfl rfl rfl rfl ?_; intro _ HK' _; simp only [List.set] at HK'; replace HK := HK'; clear HK') | refine wpList_of_exec (by rfl) (kexec_ee HK 0 _ (by rfl) (by rfl) (by rfl)) ?_)
      refine (HIx.out _).mono ?_; rintro en w2 ⟨A2, c2, rfl, o2, b2⟩
      have HR2 := Lib.hid (rown_some o2)
      replace HK := Lib.hid (HK.out.call b2)
      clear b2 o2
      go_wp2_with (first | (at_builtin; refine wpList_kmore HK itemLay 0 rfl _ _ rfl rfl rfl its rfl rfl HR2 HL (N := N + its.length) HN2 ?_; intro A4 c4 _ HK'; simp only [List.set] at HK'; replace HK := HK'; clear HK'))
      refine ⟨⟨k + 1, A4, c4, N + its.length, by omega, rfl, by go_num, Lib.hid (by rw [HE.out, HN2.out]), ?_⟩, by simp [intOf]; omega⟩
      rw [HE.out]
      exact Lib.hid (HK.out.takeL 0)
    · obtain rfl : k = n := by omega
      rw [HTake.out] at HK hN
      obtain rfl := hN.out
      go_wp2_with fail
      go_ret
      exact ⟨A1, c1, rfl, HK.out.own 0 rfl, HK.out.b⟩
set_option maxRecDepth 100000 in
set_option maxHeartbeats 6400000 in
theorem relist_any (A : Option Addr) (c : Nat) (l : List Cmd.E) (w : World) (hl : l.length ≤ 2000000) (hi : evLay.Reads w w.heap.size A l) (hf : ∀ x ∈ l, x.cmd.val.f < 18446744073709551616 ∧ x.cmd.old.f < 18446744073709551616) :
    Calls Try.prog 21 #[.slice A l.length c] w (IsIt (Cmd.pre l.length l) w) := by
  have HI := Lib.hid hi
  have HGo : Hid (∀ k, k < l.length → ∃ x, l[k]? = some x ∧ (∀ W, Calls Try.prog 17 #[.agg (evA x)] W (IsIt (Cmd.items x) W))) := Lib.hid fun k hk => by
    obtain ⟨x, hx⟩ := Lay.get_of hk
    exact ⟨x, hx, fun W => reitems_any x W (hf x (List.mem_of_getElem? hx)).1 (hf x (List.mem_of_getElem? hx)).2⟩
  have HLen : Hid (∀ k, (Cmd.pre l.length (l.take k)).length ≤ 24000001) := Lib.hid fun k => by
    have h := pre_len l.length (l.take k)
    have h2 : (l.take k).length ≤ l.length := by rw [List.length_take]; omega
    omega
  have HTake : Hid (l.take l.length = l) := Lib.hid List.take_length
  clear hi hf
  generalize hn : l.length = n at *
  clear hn
  have HK := Lib.hid (Kn.start w)
  go_enter Try.func21, Try.ntmps21
  go_wp2_with (first | (refine wpList_bs1 HK rfl _ rfl rfl ?_; intro _ g4 HK'; simp only [List.nil_append] at HK'; replace HK := HK'; clear HK'))
  go_loopw [3, 4] (fun vs vi wr => ∃ (k : Nat) (A1 : Option Addr) (c1 N : Nat), k ≤ n ∧ vs = .slice A1 N c1 ∧ vi = .int .i64 k ∧ Hid ((Cmd.pre n (l.take k)).length = N) ∧ Hid (Kn w.heap.size w wr [] [row itemLay (.slice A1 N c1) (Cmd.pre n (l.take k))])) (fun _ vi _ => n - (intOf vi).toNat)
  case atStart => exact ⟨0, _, _, 1, Nat.zero_le _, rfl, rfl, Lib.hid rfl, HK⟩
  case round =>
    clear HK
    obtain ⟨k, A1, c1, N, hk, rfl, rfl, hN, HK⟩ := hrel
    by_cases hlt : k < n
    · obtain ⟨x, hx, hix⟩ := HGo.out k hlt
      have HIx := Lib.hid hix
      have hlen := HLen.out (k + 1)
      have he := Cmd.pre_more n hx
      rw [he, List.length_append, hN.out] at hlen
      have HE := Lib.hid he
      have HL : Hid ((Cmd.pre n (l.take k)).length + (Cmd.items x).length ≤ 9223372036854775807 ∧ ((Cmd.pre n (l.take k)).length + (Cmd.items x).length) * itemLay.bytes ≤ 211106232532992) := Lib.hid ⟨by rw [hN.out]; omega, by show _ * 32 ≤ _; rw [hN.out]; omega⟩
      have HN2 : Hid ((Cmd.pre n (l.take k) ++ Cmd.items x).length = N + (Cmd.items x).length) := Lib.hid (by rw [List.length_append, hN.out])
      clear hlen he hix
      have hR := HI.out.later HK.out.b (Nat.le_refl _)
      obtain ⟨b, o, rfl, _⟩ := hR (List.length_pos_of_mem (List.mem_of_getElem? hx))
      have HAt := Lib.hid (evs_at hR hx)
      clear hR hx
      have hk1 : (0 : Int) ≤ (k : Int) := by omega
      have hk2 : (k : Int) < (n : Int) := by omega
      generalize Cmd.items x = its at *
      go_wp2_with (first | (refine wpList_of_exec (v := .agg (evA x)) (by rfl) (exec_lev (off := o + k * 16) _ (by rfl) (by rfl) HAt.out) ?_))
      refine (HIx.out _).mono ?_; rintro en w2 ⟨A2, c2, rfl, o2, b2⟩
      have HR2 := Lib.hid (rown_some o2)
      replace HK := Lib.hid (HK.out.call b2)
      clear b2 o2
      go_wp2_with (first | (at_builtin; refine wpList_kmore HK itemLay 0 rfl _ _ rfl rfl rfl its rfl rfl HR2 HL (N := N + its.length) HN2 ?_; intro A4 c4 _ HK'; simp only [List.set] at HK'; replace HK := HK'; clear HK'))
      refine ⟨⟨k + 1, A4, c4, N + its.length, by omega, rfl, by go_num, Lib.hid (by rw [HE.out, HN2.out]), ?_⟩, by simp [intOf]; omega⟩
      rw [HE.out]
      exact HK
    · obtain rfl : k = n := by omega
      rw [HTake.out] at HK hN
      obtain rfl := hN.out
      go_wp2_with fail
      go_ret
      exact ⟨A1, c1, rfl, HK.out.own 0 rfl, HK.out.b⟩
end Go.Proofs.Ytcofjaeljglodaa
