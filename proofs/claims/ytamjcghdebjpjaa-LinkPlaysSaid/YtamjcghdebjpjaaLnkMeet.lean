/-
  What packet, New and Meet return, the program's and the document's.
  No condition but that an end has no more payloads than the form's reach.
-/
import Derived.Test.YtamjcghdebjpjaaLnkOne
import Derived.WalkKit
import Derived.WalkSpells
import Derived.WalkLawsBesides
import Derived.Handy
import Derived.Deep.QuietTactic
import Derived.BigQuiet
import Derived.Deep.RegionWith
import Derived.Deep.RegionHeld3
import Derived.Deep.Draws
import Derived.Lib.Hide
import Derived.Lib.LazyBuf
namespace Go.Proofs.Ytamjcghdebjpjaa
open Go.RowKit

def IsK (p : Lnk.Pkt) (w : World) (e : Ending) (w' : World) : Prop := e = .returned (.agg (pA p)) ∧ Below w.heap.size w w'
theorem packet_any (v : Value) (ms mc ps pc base got age seq : Int) (body : ByteArray) (w : World) : Calls Try.prog 40 #[.agg (lC v ms mc ps pc base got age), .int .i64 seq, .string body] w (IsK ⟨ms, mc, ps, pc, seq, got, body⟩ w) := by
  have HK := kn2 w 27 (lC v ms mc ps pc base got age) 36 (pC 0 0 0 0 0 0 ⟨#[]⟩)
  go_enter Try.func40, Try.ntmps40
  go_wp2_with (first | refine wpList_ki HK 0 rfl _ rfl rfl rfl rfl rfl ?_ | refine wpList_kci HK 0 rfl _ rfl rfl rfl rfl ?_ | (refine wpList_ksp HK 1 rfl _ _ rfl rfl rfl rfl rfl ?_; intro _ HK' _; simp only [List.set] at HK'; replace HK := HK'; clear HK'))
  exact ret_k Try.results40 rfl rfl (HK.out.blk 1 rfl) ⟨rfl, HK.out.b⟩
theorem rpacket_any (v : Value) (ms mc ps pc base got age seq : Int) (body : ByteArray) (w : World) : Calls Try.prog 43 #[.agg (lC v ms mc ps pc base got age), .int .i64 seq, .string body] w (IsK ⟨ms, mc, ps, pc, seq, got, body⟩ w) := by
  have HK := kn2 w 27 (lC v ms mc ps pc base got age) 36 (pC 0 0 0 0 0 0 ⟨#[]⟩)
  go_enter Try.func43, Try.ntmps43
  go_wp2_with (first | refine wpList_ki HK 0 rfl _ rfl rfl rfl rfl rfl ?_ | refine wpList_kci HK 0 rfl _ rfl rfl rfl rfl ?_ | (refine wpList_ksp HK 1 rfl _ _ rfl rfl rfl rfl rfl ?_; intro _ HK' _; simp only [List.set] at HK'; replace HK := HK'; clear HK'))
  exact ret_k Try.results43 rfl rfl (HK.out.blk 1 rfl) ⟨rfl, HK.out.b⟩

theorem new_any (s c slot : Int) (w : World) : Calls Try.prog 8 #[.agg #[.int .i64 s, .int .i64 c], .int .i64 slot] w (IsL (Lnk.new s c slot) w) := by
  have HK := kn2 w 23 #[.int .i64 s, .int .i64 c] 27 (lC (.slice none 0 0) 0 0 0 0 0 0 0)
  go_enter Try.func8, Try.ntmps8
  go_wp2_with (first | refine wpList_ki HK 0 rfl _ rfl rfl rfl rfl rfl ?_ | (refine wpList_ksl HK 1 rfl _ _ rfl rfl rfl rfl rfl ?_; intro _ HK' _; simp only [List.set] at HK'; replace HK := HK'; clear HK'))
  exact ret_l Try.results8 rfl rfl (HK.out.blk 1 rfl) ⟨none, 0, rfl, Lay.Own.none _ _, HK.out.b⟩
theorem rnew_any (s c slot : Int) (w : World) : Calls Try.prog 9 #[.agg #[.int .i64 s, .int .i64 c], .int .i64 slot] w (IsL (Lnk.new s c slot) w) := by
  have HK := kn2 w 23 #[.int .i64 s, .int .i64 c] 27 (lC (.slice none 0 0) 0 0 0 0 0 0 0)
  go_enter Try.func9, Try.ntmps9
  go_wp2_with (first | refine wpList_ki HK 0 rfl _ rfl rfl rfl rfl rfl ?_ | (refine wpList_ksl HK 1 rfl _ _ rfl rfl rfl rfl rfl ?_; intro _ HK' _; simp only [List.set] at HK'; replace HK := HK'; clear HK'))
  exact ret_l Try.results9 rfl rfl (HK.out.blk 1 rfl) ⟨none, 0, rfl, Lay.Own.none _ _, HK.out.b⟩
theorem own_pre {A : Option Addr} (c : Nat) {l : Lnk.L} {w : World} (hi : In w A l) :
    Hid (∀ W, Below w.heap.size w W → Calls Try.prog 39 #[.agg (lA (.slice A l.out.length c) l)] W (IsL l W)) := Lib.hid fun W hW => own_any A _ c l.out l.ms l.mc l.ps l.pc l.base l.got l.age W rfl hi.2.2 (hi.later hW).1 hi.2.1

theorem meet_is (l : Lnk.L) (i : Int) : (i ≤ l.pc ∧ Lnk.meet l i = l) ∨ (l.pc < i ∧ l.pc = 0 ∧ Lnk.meet l i = ⟨l.ms, l.mc, l.ps, i, l.out, l.base, 0, 0⟩) ∨ (l.pc < i ∧ l.pc ≠ 0 ∧ Lnk.meet l i = ⟨l.ms, l.mc, l.ps, i, [], 1, 0, 0⟩) := by
  unfold Lnk.meet
  by_cases h : i ≤ l.pc
  · exact .inl ⟨h, by rw [if_pos h]⟩
  · by_cases h0 : l.pc = 0
    · exact .inr (.inl ⟨by omega, h0, by rw [if_neg h, if_pos h0]⟩)
    · exact .inr (.inr ⟨by omega, h0, by rw [if_neg h, if_neg h0]⟩)
set_option maxHeartbeats 1600000 in
theorem meet_any (A : Option Addr) (c : Nat) (l : Lnk.L) (i : Int) (w : World) (hi : In w A l) : Calls Try.prog 27 #[.agg (lA (.slice A l.out.length c) l), .int .i64 i] w (IsL (Lnk.meet l i) w) := by
  have HO := own_pre c hi
  have hm := meet_is l i
  generalize Lnk.meet l i = r at *
  obtain ⟨ms, mc, ps, pc, out, base, got, age⟩ := l
  unfold lA at *
  simp only at HO hm ⊢
  clear hi
  have HK := kn2 w 27 (lC (.slice A out.length c) ms mc ps pc base got age) 27 (lC (.slice none 0 0) 0 0 0 0 0 0 0)
  go_enter Try.func27, Try.ntmps27
  go_wp2_with (first | refine wpList_kll HK 0 rfl _ rfl rfl rfl ?_)
  refine (HO.out _ HK.out.b).mono ?_; rintro e w1 ⟨A1, c1, rfl, o1, b1⟩
  replace HK := Lib.hid (HK.out.called b1 o1)
  clear b1 o1 HO
  unfold lA at *
  rcases hm with ⟨h1, rfl⟩ | ⟨h1, h2, rfl⟩ | ⟨h1, h2, rfl⟩
  · go_wp2_with (first | refine wpList_kll HK 0 rfl _ rfl rfl rfl ?_ | (refine wpList_ksl HK 0 rfl _ _ rfl rfl rfl rfl rfl ?_; intro _ HK' _; simp only [List.set] at HK'; replace HK := HK'; clear HK') | refine wpList_kci HK 0 rfl _ rfl rfl rfl rfl ?_ | (refine wpList_ksl HK 1 rfl _ _ rfl rfl rfl rfl rfl ?_; intro _ HK' _; simp only [List.set] at HK'; replace HK := HK'; clear HK'))
    exact ret_l Try.results27 rfl rfl (HK.out.blk 1 rfl) ⟨A1, c1, rfl, HK.out.own 0 rfl, HK.out.b⟩
  · subst h2
    go_wp2_with (first | refine wpList_kll HK 0 rfl _ rfl rfl rfl ?_ | (refine wpList_ksl HK 0 rfl _ _ rfl rfl rfl rfl rfl ?_; intro _ HK' _; simp only [List.set] at HK'; replace HK := HK'; clear HK') | refine wpList_kci HK 0 rfl _ rfl rfl rfl rfl ?_ | (refine wpList_ksl HK 1 rfl _ _ rfl rfl rfl rfl rfl ?_; intro _ HK' _; simp only [List.set] at HK'; replace HK := HK'; clear HK') | (first | (refine wpList_k7 HK 0 rfl _ _ rfl rfl rfl rfl ?_; intro _ HK' _; simp only [List.set] at HK'; replace HK := HK'; clear HK') | (refine wpList_k6 HK 0 rfl _ _ rfl rfl rfl rfl ?_; intro _ HK' _; simp only [List.set] at HK'; replace HK := HK'; clear HK') | (refine wpList_k5 HK 0 rfl _ _ rfl rfl rfl rfl ?_; intro _ HK' _; simp only [List.set] at HK'; replace HK := HK'; clear HK') | (refine wpList_k3 HK 0 rfl _ _ rfl rfl rfl rfl ?_; intro _ HK' _; simp only [List.set] at HK'; replace HK := HK'; clear HK')) | (refine wpList_k4 HK 0 rfl _ _ rfl rfl rfl rfl ?_; intro _ HK' _; simp only [List.set] at HK'; replace HK := HK'; clear HK'))
    exact ret_l Try.results27 rfl rfl (HK.out.blk 1 rfl) ⟨A1, c1, rfl, HK.out.own 0 rfl, HK.out.b⟩
  · have h3 : (pc != 0) = true := by simpa using h2
    clear h2
    go_wp2_with (first | refine wpList_kll HK 0 rfl _ rfl rfl rfl ?_ | (refine wpList_ksl HK 0 rfl _ _ rfl rfl rfl rfl rfl ?_; intro _ HK' _; simp only [List.set] at HK'; replace HK := HK'; clear HK') | refine wpList_kci HK 0 rfl _ rfl rfl rfl rfl ?_ | (refine wpList_ksl HK 1 rfl _ _ rfl rfl rfl rfl rfl ?_; intro _ HK' _; simp only [List.set] at HK'; replace HK := HK'; clear HK') | (first | (refine wpList_k7 HK 0 rfl _ _ rfl rfl rfl rfl ?_; intro _ HK' _; simp only [List.set] at HK'; replace HK := HK'; clear HK') | (refine wpList_k6 HK 0 rfl _ _ rfl rfl rfl rfl ?_; intro _ HK' _; simp only [List.set] at HK'; replace HK := HK'; clear HK') | (refine wpList_k5 HK 0 rfl _ _ rfl rfl rfl rfl ?_; intro _ HK' _; simp only [List.set] at HK'; replace HK := HK'; clear HK') | (refine wpList_k3 HK 0 rfl _ _ rfl rfl rfl rfl ?_; intro _ HK' _; simp only [List.set] at HK'; replace HK := HK'; clear HK')) | (refine wpList_k4 HK 0 rfl _ _ rfl rfl rfl rfl ?_; intro _ HK' _; simp only [List.set] at HK'; replace HK := HK'; clear HK'))
    exact ret_l Try.results27 rfl rfl (HK.out.blk 1 rfl) ⟨none, 0, rfl, Lay.Own.none _ _, HK.out.b⟩
end Go.Proofs.Ytamjcghdebjpjaa
