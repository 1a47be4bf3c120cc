/-
  What the document's Items of an event returns.
  No condition but that floats' bits fit 64.
-/
import Derived.Test.YtcofjaeljglodaaVlItems
import Derived.Test.YtcofjaeljglodaaEvLay
set_option linter.unusedSimpArgs false
set_option linter.unusedVariables false
namespace Go.Proofs.Ytcofjaeljglodaa
open Go.RowKit

theorem ritems_len (v : Val.V) : 1 ≤ (Val.items v).length ∧ (Val.items v).length ≤ 2 := by
  rw [items_split]; (repeat' split) <;> simp
theorem rown_some {b : Nat} {w : World} {A : Option Addr} {n c : Nat} {l : List Itm.It} (h : itemLay.Own b w (.slice A n c) l) : itemLay.Reads w w.heap.size A l ∧ (A = none → l = []) := by
  refine ⟨h.reads.2, fun e => ?_⟩
  subst e
  by_cases hl : l = []
  · exact hl
  · obtain ⟨g, c', h1, _⟩ := h.block hl
    cases h1
theorem flat_six (c e r k : Int) (s t : ByteArray) : #[Value.int .i64 0, .int .i64 c, .string ⟨#[]⟩, .int .i64 0, .int .i64 e, .string ⟨#[]⟩, .int .i64 0, .int .i64 r, .string ⟨#[]⟩, .int .i64 0, .int .i64 k, .string ⟨#[]⟩, .int .i64 1, .int .i64 0, .string s, .int .i64 1, .int .i64 0, .string t] = (itemLay.flat [⟨0, c, ⟨#[]⟩⟩, ⟨0, e, ⟨#[]⟩⟩, ⟨0, r, ⟨#[]⟩⟩, ⟨0, k, ⟨#[]⟩⟩, ⟨1, 0, s⟩, ⟨1, 0, t⟩]).toArray := rfl
theorem l2_ok {l m : List Itm.It} (h : l.length + m.length ≤ 1000) : Hid (l.length + m.length ≤ 9223372036854775807 ∧ (l.length + m.length) * itemLay.bytes ≤ 211106232532992) := Lib.hid ⟨by omega, by show _ * 32 ≤ _; omega⟩
set_option maxRecDepth 10000 in
set_option maxHeartbeats 3200000 in
theorem reitems_any (e : Cmd.E) (w : World) (hv : e.cmd.val.f < 18446744073709551616) (ho : e.cmd.old.f < 18446744073709551616) : Calls Try.prog 17 #[.agg (evA e)] w (IsIt (Cmd.items e) w) := by
  obtain ⟨c, ep, r, k, name, key, val, old, n, m⟩ := e
  have HIv := Lib.hid (fun W => rvitems_any val W hv)
  have HIo := Lib.hid (fun W => rvitems_any old W ho)
  have hlv := ritems_len val
  have hlo := ritems_len old
  clear hv ho
  unfold evA Cmd.items Cmd.emp
  simp only at hlv hlo HIv HIo ⊢
  unfold vv at HIv HIo
  obtain ⟨vk, vn, vf, vs⟩ := val
  obtain ⟨ok, on, of, os⟩ := old
  simp only at hlv hlo HIv HIo ⊢
  generalize Val.items ⟨vk, vn, vf, vs⟩ = lv at *
  generalize Val.items ⟨ok, on, of, os⟩ = lo at *
  generalize hl6 : ([⟨0, c, ⟨#[]⟩⟩, ⟨0, ep, ⟨#[]⟩⟩, ⟨0, r, ⟨#[]⟩⟩, ⟨0, k, ⟨#[]⟩⟩, ⟨1, 0, name⟩, ⟨1, 0, key⟩] : List Itm.It) = l6
  have hn6 : l6.length = 6 := by rw [← hl6]; rfl
  have HL1 : Hid (l6.length + lv.length ≤ 9223372036854775807 ∧ (l6.length + lv.length) * itemLay.bytes ≤ 211106232532992) := l2_ok (by omega)
  have HL2 : Hid ((l6 ++ lv).length + lo.length ≤ 9223372036854775807 ∧ ((l6 ++ lv).length + lo.length) * itemLay.bytes ≤ 211106232532992) := l2_ok (by rw [List.length_append]; omega)
  have HL3 : Hid ((l6 ++ lv ++ lo).length + 2 ≤ 9223372036854775807 ∧ ((l6 ++ lv ++ lo).length + 2) * itemLay.bytes ≤ 211106232532992) := l2_ok (l := l6 ++ lv ++ lo) (m := [⟨0, n, ⟨#[]⟩⟩, ⟨0, m, ⟨#[]⟩⟩]) (by rw [List.length_append, List.length_append]; show _ + 2 ≤ _; omega)
  have HS6 : Hid (#[Value.int .i64 0, .int .i64 c, .string ⟨#[]⟩, .int .i64 0, .int .i64 ep, .string ⟨#[]⟩, .int .i64 0, .int .i64 r, .string ⟨#[]⟩, .int .i64 0, .int .i64 k, .string ⟨#[]⟩, .int .i64 1, .int .i64 0, .string name, .int .i64 1, .int .i64 0, .string key] = (itemLay.flat l6).toArray) := Lib.hid (by rw [← hl6]; rfl)
  have HN6 := Lib.hid hn6.symm
  have HN8 : Hid ((l6 ++ lv ++ lo).length = l6.length + lv.length + lo.length) := Lib.hid (by rw [List.length_append, List.length_append])
  have HN9 : Hid ((l6 ++ lv ++ lo ++ ([⟨0, n, ⟨#[]⟩⟩, ⟨0, m, ⟨#[]⟩⟩] : List Itm.It)).length = l6.length + lv.length + lo.length + 2) := Lib.hid (by rw [List.length_append, List.length_append, List.length_append]; rfl)
  clear hlv hlo hl6 hn6
  have HK := kn1 w 34 (evC c ep r k name key vk vn vf vs ok on of os n m)
  have HKx := Lib.hid (fun cs => (HK.out.alloc 57 cs))
  obtain ⟨x0, x1, x2, x3, x4, x5, x6, x7⟩ := Kn.ev HK.out 0 rfl
  go_enter Try.func17, Try.ntmps17
  go_upto_region 2 with fail
  have HK2 := Lib.hid (HK.out.mkR l6 _ HS6.out 6 HN6.out (by rw [← HN6.out]; decide))
  clear x0 x1 x2 x3 x4 x5 x6 x7 HKx HK
  simp only [List.nil_append] at HK2
  rw [show (w.alloc (.cells (evC c ep r k name key vk vn vf vs ok on of os n m) 34)).heap.size = w.heap.size + 1 from by simp] at HK2
  go_wp2_with (first | refine wpList_of_exec (by rfl) (kexec_eva HK2 0 _ rfl rfl rfl) ?_)
  refine (HIv.out _).mono ?_; rintro e w1 ⟨A1, c1, rfl, o1, b1⟩
  have HR1 := Lib.hid (rown_some o1)
  have HK := Lib.hid (HK2.out.call b1)
  clear b1 o1 HK2
  go_wp2_with (first | (at_builtin; refine wpList_kmore HK itemLay 0 rfl _ _ rfl rfl rfl lv rfl rfl HR1 HL1 (Lib.hid List.length_append) ?_; intro A4 c4 _ HK'; simp only [List.set] at HK'; replace HK := HK'; clear HK') | refine wpList_of_exec (by rfl) (kexec_eol HK 0 _ rfl rfl rfl) ?_)
  refine (HIo.out _).mono ?_; rintro e w2 ⟨A2, c2, rfl, o2, b2⟩
  have HR2 := Lib.hid (rown_some o2)
  replace HK := Lib.hid (HK.out.call b2)
  clear b2 o2
  obtain ⟨x0, x1, x2, x3, x4, x5, x6, x7⟩ := Kn.ev HK.out 0 rfl
  go_wp2_with (first | (at_builtin; first | (refine wpList_kmore HK itemLay 0 rfl _ _ rfl rfl rfl lo rfl rfl HR2 HL2 (N := l6.length + lv.length + lo.length) HN8 ?_; intro A5 c5 _ HK'; simp only [List.set] at HK'; replace HK := HK'; clear HK'; clear x0 x1 x2 x3 x4 x5 x6 x7; obtain ⟨x0, x1, x2, x3, x4, x5, x6, x7⟩ := Kn.ev HK.out 0 rfl) | (refine wpList_kpush HK itemLay 0 rfl _ _ rfl rfl rfl [⟨0, n, ⟨#[]⟩⟩, ⟨0, m, ⟨#[]⟩⟩] rfl rfl rfl rfl HL3 (N := l6.length + lv.length + lo.length + 2) HN9 ?_; intro A6 c6 _ HK'; simp only [List.set] at HK'; replace HK := HK'; clear HK')))
  go_ret
  refine ⟨A6, c6, ?_, ?_, HK.out.b⟩
  · rw [HN9.out]; rfl
  · rw [HN9.out]; exact HK.out.own 0 rfl
end Go.Proofs.Ytcofjaeljglodaa
