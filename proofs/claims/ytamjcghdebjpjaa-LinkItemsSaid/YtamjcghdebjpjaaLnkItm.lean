/-
  What number, Items and the document's Items return; the document's Same of items that are the same.
  No condition.
-/
import Derived.Test.YtamjcghdebjpjaaLnkTold
import Derived.Test.YtamjcghdebjpjaaItem
namespace Go.Proofs.Ytamjcghdebjpjaa
open Go.RowKit

/-- A packet's items. -/
def itemsP (p : Lnk.Pkt) : List Itm.It := [⟨0, p.fs, ⟨#[]⟩⟩, ⟨0, p.fc, ⟨#[]⟩⟩, ⟨0, p.ts, ⟨#[]⟩⟩, ⟨0, p.tc, ⟨#[]⟩⟩, ⟨0, p.seq, ⟨#[]⟩⟩, ⟨0, p.ack, ⟨#[]⟩⟩, ⟨1, 0, p.body⟩]
def IsIt (l : List Itm.It) (w : World) (e : Ending) (w' : World) : Prop := ∃ A c, e = .returned (.slice A l.length c) ∧ itemLay.Own w.heap.size w' (.slice A l.length c) l ∧ Below w.heap.size w w'
theorem info_it3 : (Try.prog.info? 71).map (·.size) = some 3 := by kernel_rfl
theorem ret_it {f : Func} {R : Ending → World → Prop} {a : Act} {w : World} {B : Nat} {k n : Int} {s : ByteArray} {q : Tmp} (hf : f.results = #[.cell q 71]) (h2 : a.tmps[q]? = some (.pointer (some ⟨B, 0, none⟩))) (hd : a.defers = []) (hb : Blk w B 71 #[.int .i64 k, .int .i64 n, .string s])
    (hR : R (.returned (.agg #[.int .i64 k, .int .i64 n, .string s])) w) : bodyPost Try.prog f R Exit.ret a w :=
  bodyPost_ret (results_cell_row hf a.tmps w B _ _ (0, 0) _ (by simp [h2]) hb Try.underlying71 rfl info_it3) hd hR
theorem number_any (n : Int) (w : World) : Calls Try.prog 34 #[.int .i64 n] w fun e w' => e = .returned (.agg #[.int .i64 0, .int .i64 n, .string ⟨#[]⟩]) ∧ Below w.heap.size w w' := by
  have HB := Lib.hid ((Below.refl w.heap.size w).alloc (Nat.le_refl _) (.cells #[.int .i64 0, .int .i64 n, .string ⟨#[]⟩] 71))
  go_enter Try.func34, Try.ntmps34
  go_wp2_with fail
  exact ret_it Try.results34 rfl rfl (Blk.new w _ _) ⟨rfl, HB.out⟩
set_option maxHeartbeats 3200000 in
theorem ritems_any (p : Lnk.Pkt) (w : World) : Calls Try.prog 23 #[.agg (pA p)] w (IsIt (itemsP p) w) := by
  obtain ⟨fs, fc, ts, tc, seq, ack, body⟩ := p
  unfold pA itemsP
  simp only
  have HK := kn1 w 36 (pC fs fc ts tc seq ack body)
  have HO : Hid (itemLay.Own w.heap.size ((w.alloc (.cells (pC fs fc ts tc seq ack body) 36)).alloc (.cells _ itemLay.e)) (.slice (some ⟨w.heap.size + 1, 0, none⟩) 7 7) [⟨0, fs, ⟨#[]⟩⟩, ⟨0, fc, ⟨#[]⟩⟩, ⟨0, ts, ⟨#[]⟩⟩, ⟨0, tc, ⟨#[]⟩⟩, ⟨0, seq, ⟨#[]⟩⟩, ⟨0, ack, ⟨#[]⟩⟩, ⟨1, 0, body⟩]) := Lib.hid (Lay.Own.new _ _ _ _ _ _ rfl (by simp) (by simp) rfl rfl (by simp))
  have HB := Lib.hid (HK.out.b.alloc (by simp) (.cells (itemLay.flat [⟨0, fs, ⟨#[]⟩⟩, ⟨0, fc, ⟨#[]⟩⟩, ⟨0, ts, ⟨#[]⟩⟩, ⟨0, tc, ⟨#[]⟩⟩, ⟨0, seq, ⟨#[]⟩⟩, ⟨0, ack, ⟨#[]⟩⟩, ⟨1, 0, body⟩]).toArray 71))
  go_enter Try.func23, Try.ntmps23
  go_wp2_with (first | refine wpList_kci HK 0 rfl _ rfl rfl rfl rfl ?_ | refine wpList_kcs HK 0 rfl _ rfl rfl rfl rfl ?_)
  go_ret
  exact ⟨_, _, rfl, HO.out, HB.out⟩
set_option maxHeartbeats 3200000 in
theorem isame_any (A A' : Option Addr) (c c' : Nat) (l : List Itm.It) (w : World) (hl : l.length ≤ 5000000) (hi : itemLay.Reads w w.heap.size A l) (hi' : itemLay.Reads w w.heap.size A' l) :
    Calls Try.prog 24 #[.slice A l.length c, .slice A' l.length c'] w fun en w' => en = .returned (.bool true) ∧ ∃ q, w' = w.drewN q := by
  have HI := Lib.hid hi
  have HI' := Lib.hid hi'
  clear hi hi'
  have HGo : Hid (∀ k, k < l.length → ∃ b, l[k]? = some b) := Lib.hid fun k hk => Lay.get_of hk
  generalize hn : l.length = n at *
  have HN := Lib.hid hn
  clear hn
  have hnn : ((n : Int) != (n : Int)) = false := by simp
  go_enter Try.func24, Try.ntmps24
  go_wp2_with fail
  go_loopw [5] (fun vi wr => ∃ k q : Nat, k ≤ n ∧ vi = .int .i64 k ∧ wr = w.drewN q) (fun vi _ => n - (intOf vi).toNat)
  case atStart => exact ⟨0, 0, Nat.zero_le _, rfl, rfl⟩
  case round =>
    obtain ⟨k, q, hk, rfl, rfl⟩ := hrel
    by_cases hlt : k < n
    · obtain ⟨x, hx⟩ := HGo.out k hlt
      obtain ⟨b, o, rfl, _, hc⟩ := HI.out (by rw [HN.out]; omega)
      obtain ⟨b', o', rfl, _, hc'⟩ := HI'.out (by rw [HN.out]; omega)
      obtain ⟨c0, c1, c2⟩ := at_item (hc k x hx)
      obtain ⟨d0, d1, d2⟩ := at_item (hc' k x hx)
      clear hc hc' hx
      have hk1 : (0 : Int) ≤ (k : Int) := by omega
      have hk2 : (k : Int) < (n : Int) := by omega
      obtain ⟨xk, xn, xs⟩ := x
      simp only at c0 c1 c2 d0 d1 d2
      go_wp2_with fail
      go_quiet (fail)
      go_wp2_with fail
      exact ⟨⟨k + 1, q + nq, by omega, by go_num, rfl⟩, by simp [intOf]; omega⟩
    · obtain rfl : k = n := by omega
      go_wp2_with fail
      go_ret
      exact ⟨rfl, q, rfl⟩
end Go.Proofs.Ytamjcghdebjpjaa
