/-
  The law CmdItems: it returns true whatever is handed in. No condition but that floats' bits fit 64, and bounds on the slices.
-/
import Derived.Test.YtcofjaeljglodaaCmdAwake
import Derived.Test.YtcofjaeljglodaaCmdRItems
import Derived.Test.YtcofjaeljglodaaItSame
import Derived.Test.YtcofjaeljglodaaLift
set_option linter.unusedSimpArgs false
set_option linter.unusedVariables false
namespace Go.Proofs.Ytcofjaeljglodaa
open Go.RowKit

section
variable {o : Oper} {a : Act} {w : World} {c e r k : Int} {name key : ByteArray} {vk vn : Int} {vf : Nat} {vs : ByteArray} {ok on : Int} {of : Nat} {os : ByteArray} {n m : Int}
theorem exec_eeq (p q : Operand) (ho : o.op = .binOp .eql 34 p q 34) (hx : a.eval p = .agg (evC c e r k name key vk vn vf vs ok on of os n m)) (hy : a.eval q = .agg (evC c e r k name key vk vn vf vs ok on of os n m)) :
    (execOp a.eval o).run Try.prog w = .ok (.value (.bool true)) w := by
  unfold execOp
  simp only [ho, hx, hy]
  unfold evC
  go_simp
end
theorem Cmd.chk_zero' {c : Cmd.C} (h : Cmd.chk c = 0) : True ∧ True ∧ True ∧ True ∧ Val.chk c.old = 0 ∧ Val.chk c.val = 0 ∧ True := by
  rcases Cmd.chk_cases c with ⟨_, e⟩ | ⟨_, _, _, e⟩ | ⟨_, _, _, _, _, e⟩ | ⟨_, _, _, _, _, e⟩ | ⟨_, _, _, _, h5, _, e⟩ | ⟨_, _, _, _, _, h6, _, e⟩ | ⟨h1, h2, h3, h4, h5, h6, _⟩
  · rw [e] at h; cases h
  · rw [e] at h; cases h
  · rw [e] at h; cases h
  · rw [e] at h; cases h
  · rw [e] at h; exact absurd h h5
  · rw [e] at h; exact absurd h h6
  · exact ⟨trivial, trivial, trivial, trivial, h5, h6, trivial⟩
theorem own_rd {b : Nat} {w : World} {A : Option Addr} {n c : Nat} {l : List Itm.It} (h : itemLay.Own b w (.slice A n c) l) : itemLay.Reads w w.heap.size A l ∧ (A = none → l = []) := own_some h
set_option maxRecDepth 10000 in
set_option maxHeartbeats 6400000 in
theorem items_yes (e : Cmd.E) (A B : Option Addr) (ca cb : Nat) (la lb : List Itm.It) (w : World) (hf : e.cmd.val.f < 18446744073709551616 ∧ e.cmd.old.f < 18446744073709551616) (ha : itemLay.Reads w w.heap.size A la) (hA : A = none → la = []) (hb : itemLay.Reads w w.heap.size B lb) (hB : B = none → lb = []) (hla : la.length ≤ 2000000) (hlb : lb.length ≤ 2000000) :
    Lift.Yes Try.prog 6 #[.agg (evA e), .slice A la.length ca, .slice B lb.length cb] w := by
  unfold Lift.Yes
  have HAw := Lib.hid awake_any
  have hn : (Cmd.items e).length ≤ 12 := by
    rw [items_length]
    have := it_len e.cmd.val
    have := it_len e.cmd.old
    omega
  have HI : Hid (∀ W, Calls Try.prog 15 #[.agg (evA e)] W (IsIt (Cmd.items e) W)) := Lib.hid fun W => eitems_any e W hf.1 hf.2
  have HR : Hid (∀ W, Calls Try.prog 17 #[.agg (evA e)] W (IsIt (Cmd.items e) W)) := Lib.hid fun W => reitems_any e W hf.1 hf.2
  have HF : Hid (∀ W, Calls Try.prog 13 #[.agg (evA e)] W fun en w' => en = .returned (.bool (decide (Cmd.fits e))) ∧ Below W.heap.size W w') := Lib.hid fun W => cfits_any e W hf.1 hf.2
  have HS : Hid (∀ W A1 c1 b1 A2 c2 b2, itemLay.Own b1 W (.slice A1 (Cmd.items e).length c1) (Cmd.items e) → itemLay.Own b2 W (.slice A2 (Cmd.items e).length c2) (Cmd.items e) → Calls Try.prog 16 #[.slice A1 (Cmd.items e).length c1, .slice A2 (Cmd.items e).length c2] W fun en w' => en = .returned (.bool true) ∧ ∃ q, w' = W.drewN q) := Lib.hid fun W A1 c1 b1 A2 c2 b2 h1 h2 => isame_any A1 A2 c1 c2 (Cmd.items e) W (by omega) h1.reads.2 h2.reads.2
  have HFr : Hid (∀ W A3 c3 b3, itemLay.Own b3 W (.slice A3 (la.length + (Cmd.items e).length + lb.length) c3) (la ++ Cmd.items e ++ lb) → Calls Try.prog 18 #[.slice A3 (la.length + (Cmd.items e).length + lb.length) c3, .int .i64 (la.length : Nat)] W fun en w' => ∃ (u : Cmd.E) (y : Nat) (bb : Bool), en = .returned (.tuple #[.agg (evA u), .int .i64 (y : Int), .bool bb]) ∧ (Cmd.fits e → u = e ∧ y = la.length + (Cmd.items e).length ∧ bb = true) ∧ Below W.heap.size W w') := Lib.hid fun W A3 c3 b3 h => by
    have hlen : (la ++ Cmd.items e ++ lb).length = la.length + (Cmd.items e).length + lb.length := by rw [List.length_append, List.length_append]
    have hcap := h.cap
    rw [hlen] at hcap
    refine (efrom_any A3 c3 (la.length + (Cmd.items e).length + lb.length) la.length (la ++ Cmd.items e ++ lb) e W hlen (by omega) hcap (by omega) h.reads.2).mono fun en w' q => ?_
    obtain ⟨u, y, bb, r1, r2, _, _, r3⟩ := q
    refine ⟨u, y, bb, r1, fun hfit => ?_, r3⟩
    obtain ⟨_, _, _, _, h5, h6, _⟩ := Cmd.chk_zero' hfit.2.1
    refine r2 ⟨⟨⟨lb, ?_⟩, h6, h5, hf.1, hf.2⟩, hfit⟩
    rw [List.append_assoc, List.drop_left]
  have HIa : Hid (∀ W, Below w.heap.size w W → itemLay.Reads W W.heap.size A la ∧ (A = none → la = [])) := Lib.hid fun W hW => ⟨ha.later hW (Nat.le_refl _), hA⟩
  have HIb : Hid (∀ W, Below w.heap.size w W → itemLay.Reads W W.heap.size B lb ∧ (B = none → lb = [])) := Lib.hid fun W hW => ⟨hb.later hW (Nat.le_refl _), hB⟩
  have HL1 : Hid (([] : List Itm.It).length + la.length ≤ 9223372036854775807 ∧ (([] : List Itm.It).length + la.length) * itemLay.bytes ≤ 211106232532992) := Lib.hid ⟨by show 0 + _ ≤ _; omega, by show (0 + _) * 32 ≤ _; omega⟩
  have HL2 : Hid (la.length + (Cmd.items e).length ≤ 9223372036854775807 ∧ (la.length + (Cmd.items e).length) * itemLay.bytes ≤ 211106232532992) := Lib.hid ⟨by omega, by show _ * 32 ≤ _; omega⟩
  have HL3 : Hid ((la ++ Cmd.items e).length + lb.length ≤ 9223372036854775807 ∧ ((la ++ Cmd.items e).length + lb.length) * itemLay.bytes ≤ 211106232532992) := Lib.hid ⟨by rw [List.length_append]; omega, by show _ * 32 ≤ _; rw [List.length_append]; omega⟩
  have HN3 : Hid ((la ++ Cmd.items e ++ lb).length = la.length + (Cmd.items e).length + lb.length) := Lib.hid (by rw [List.length_append, List.length_append])
  have hsum : IntKind.i64.wrap ((la.length : Int) + ((Cmd.items e).length : Int)) = ((la.length + (Cmd.items e).length : Nat) : Int) ∧ wrap64 ((la.length : Int) + ((Cmd.items e).length : Int)) = ((la.length + (Cmd.items e).length : Nat) : Int) := ⟨by rw [IntKind.wrap_i64]; omega, by unfold wrap64; omega⟩
  obtain ⟨hs1, hs2⟩ := hsum
  generalize hdf : decide (Cmd.fits e) = df at *
  have HDF : Hid (df = true → Cmd.fits e) := Lib.hid fun h => of_decide_eq_true (hdf.trans h)
  clear hdf ha hA hb hB hf hla hlb hn
  generalize Cmd.items e = its at *
  unfold IsIt at HI HR
  obtain ⟨c, ep, r, k, name, key, ⟨vk, vn, vf, vs⟩, ⟨ok, on, of, os⟩, n, m⟩ := e
  unfold evA at *
  simp only at HI HR HF HFr ⊢
  have HK := kn1 w 34 (evC c ep r k name key vk vn vf vs ok on of os n m)
  go_enter Try.func6, Try.ntmps6
  go_wp2_with (first | refine wpList_of_exec (by rfl) (kexec_ee HK 0 _ (by rfl) (by rfl) (by rfl)) ?_)
  refine (HI.out _).mono ?_; rintro en w1 ⟨A1, c1, rfl, o1, b1⟩
  replace HK := Lib.hid (HK.out.called b1 o1)
  simp only [List.nil_append] at HK
  clear b1 o1 HI
  go_wp2_with fail
  refine (HAw.out _).mono ?_; rintro en w2 ⟨rfl, b2⟩
  replace HK := Lib.hid (HK.out.call b2)
  clear b2 HAw
  go_wp2_with (first | refine wpList_of_exec (by rfl) (kexec_ee HK 0 _ (by rfl) (by rfl) (by rfl)) ?_)
  refine (HR.out _).mono ?_; rintro en w3 ⟨A2, c2, rfl, o3, b3⟩
  replace HK := Lib.hid (HK.out.called b3 o3)
  simp only [List.cons_append, List.nil_append] at HK
  clear b3 o3 HR
  go_wp2_with fail
  refine (HS.out _ _ _ _ _ _ _ (HK.out.own 0 rfl) (HK.out.own 1 rfl)).mono ?_; rintro en w4 ⟨rfl, q4, rfl⟩
  replace HK := Lib.hid (HK.out.drewN q4)
  clear HS
  have HKL := Lib.hid (HK.out.literal itemLay (C := #[]) rfl)
  have HIA := Lib.hid (HIa.out _ HKL.out.b)
  simp only [List.cons_append, List.nil_append] at HKL
  go_wp2_with (first | (at_builtin; refine wpList_kmore HKL itemLay 2 rfl _ _ rfl rfl rfl la rfl rfl HIA HL1 (N := la.length) (Lib.hid rfl) ?_; intro A4 c4 _ HK'; simp only [List.set, List.nil_append] at HK'; replace HK := HK'; clear HK') | (at_builtin; refine wpList_kmore HK itemLay 2 rfl _ _ rfl rfl rfl its rfl rfl (Lib.hid (own_rd (HK.out.own 0 rfl))) HL2 (N := la.length + its.length) (Lib.hid List.length_append) ?_; intro A5 c5 _ HK'; simp only [List.set] at HK'; replace HK := HK'; clear HK') | (at_builtin; refine wpList_kmore HK itemLay 2 rfl _ _ rfl rfl rfl lb rfl rfl (Lib.hid (HIb.out _ HK.out.b)) HL3 (N := la.length + its.length + lb.length) HN3 ?_; intro A6 c6 _ HK'; simp only [List.set] at HK'; replace HK := HK'; clear HK'))
  refine (HFr.out _ _ _ _ (HK.out.own 2 rfl)).mono ?_; rintro en w5 ⟨u, y, bb, rfl, hu, b5⟩
  have HU := Lib.hid hu
  replace HK := Lib.hid (HK.out.call b5)
  clear b5 hu HFr
  go_wp2_with (first | (refine wpList_akev HK rfl rfl ?_; intro _ g2 HK'; simp only [List.cons_append, List.nil_append] at HK'; replace HK := HK'; clear HK') | (refine wpList_sev HK 1 rfl _ _ rfl rfl rfl rfl ?_; intro _ HK' _; simp only [List.set] at HK'; replace HK := HK'; clear HK') | refine wpList_of_exec (by rfl) (kexec_ee HK 0 _ (by rfl) (by rfl) (by rfl)) ?_)
  refine (HF.out _).mono ?_; rintro en w6 ⟨rfl, b6⟩
  replace HK := Lib.hid (HK.out.call b6)
  clear b6 HF
  cases df
  · go_wp2_with fail
    go_ret
    exact ⟨rfl, HK.out.b⟩
  · obtain ⟨rfl, rfl, rfl⟩ := HU.out (HDF.out rfl)
    go_wp2_with (first | refine wpList_of_exec (by rfl) (kexec_ee HK 0 _ (by rfl) (by rfl) (by rfl)) ?_ | refine wpList_of_exec (by rfl) (kexec_ee HK 1 _ (by rfl) (by rfl) (by rfl)) ?_ | refine wpList_of_exec (by rfl) (exec_eeq _ _ (by rfl) (by rfl) (by rfl)) ?_)
    go_ret
    exact ⟨rfl, HK.out.b⟩
end Go.Proofs.Ytcofjaeljglodaa
