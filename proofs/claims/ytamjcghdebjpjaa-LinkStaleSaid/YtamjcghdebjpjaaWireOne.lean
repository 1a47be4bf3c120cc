/-
  What name, begun and begins return.
  No condition but those named.
-/
import Derived.Test.YtamjcghdebjpjaaWireFit
import Derived.Test.YtamjcghdebjpjaaWireLay
import Derived.Laws.IdiomStrings
set_option linter.unusedSimpArgs false
set_option linter.unusedVariables false
namespace Go.Proofs.Ytamjcghdebjpjaa
open Go.RowKit

theorem u8_nat (k : Int) : ((Lnk.u8 k).toNat : Int) = k % 256 := by
  have h1 : IntKind.u8.signed = false := rfl
  have h2 : IntKind.u8.bits = 8 := rfl
  unfold Lnk.u8 IntKind.wrap
  simp only [h1, h2, Bool.false_and, Bool.false_eq_true, if_false, UInt8.toNat_ofNat']
  omega
theorem name_any (inc n : Int) (w : World) (hi : 0 ≤ inc ∧ inc ≤ 1000000) (hn : 0 ≤ n ∧ n ≤ 1000000) :
    Calls Try.prog 44 #[.int .i64 inc, .int .i64 n] w fun e w' => e = .returned (.string (Lnk.name inc n)) ∧ Below w.heap.size w w' := by
  have h1 : IntKind.i64.wrap (inc.tdiv 256) = inc.tdiv 256 := IntWalk.i64_in _ (by rw [Int.tdiv_eq_ediv_of_nonneg (by omega)]; omega)
  have h2 : IntKind.i64.wrap (n.tdiv 256) = n.tdiv 256 := IntWalk.i64_in _ (by rw [Int.tdiv_eq_ediv_of_nonneg (by omega)]; omega)
  have h3 : (convert 84 9 (.slice (some ⟨w.heap.size, 0, none⟩) 4 4)).run Try.prog (w.alloc (.cells #[.int .u8 (inc.tdiv 256 % 256), .int .u8 (inc % 256), .int .u8 (n.tdiv 256 % 256), .int .u8 (n % 256)] 5)) =
      .ok (.string (Lnk.name inc n)) (w.alloc (.cells #[.int .u8 (inc.tdiv 256 % 256), .int .u8 (inc % 256), .int .u8 (n.tdiv 256 % 256), .int .u8 (n % 256)] 5)) := by
    refine run_convert_bytes_back _ _ _ _ ⟨w.heap.size, 0, none⟩ 4 [Lnk.u8 (inc.tdiv 256), Lnk.u8 inc, Lnk.u8 (n.tdiv 256), Lnk.u8 n] Try.underlying84 Try.underlying5 Try.underlying9 fun j hj => ?_
    rw [Lay.add_at, Nat.zero_add, Go.World.cell?_alloc_mark]
    match j, hj with
    | 0, _ => exact congrArg (fun x => some (Value.int .u8 x)) (u8_nat _).symm
    | 1, _ => exact congrArg (fun x => some (Value.int .u8 x)) (u8_nat _).symm
    | 2, _ => exact congrArg (fun x => some (Value.int .u8 x)) (u8_nat _).symm
    | 3, _ => exact congrArg (fun x => some (Value.int .u8 x)) (u8_nat _).symm
  have HB := Lib.hid ((Below.refl _ w).alloc (Nat.le_refl _) (.cells #[.int .u8 (inc.tdiv 256 % 256), .int .u8 (inc % 256), .int .u8 (n.tdiv 256 % 256), .int .u8 (n % 256)] 5))
  generalize Lnk.name inc n = nm at *
  go_enter Try.func44, Try.ntmps44
  go_wp2_with fail
  go_ret
  exact ⟨rfl, HB.out⟩
set_option maxHeartbeats 3200000 in
theorem begun_any (win ret : Int) (w : World) (hw : 0 ≤ win ∧ win ≤ 255) (hr : 0 ≤ ret ∧ ret ≤ 255) :
    Calls Try.prog 15 #[.int .u8 win, .int .u8 ret] w fun e w' => ∃ g, e = .returned (.pointer (some ⟨g, 0, none⟩)) ∧ WireAt w.heap.size w g (Lnk.Wr.begun (1 + win % 8) (1 + ret % 5)) w' := by
  have H1 : Hid (∀ W, Calls Try.prog 8 #[.agg #[.int .i64 0, .int .i64 1], .int .i64 1] W (IsL ⟨0, 1, 1, 0, [], 1, 0, 0⟩ W)) := Lib.hid fun W => new_any 0 1 1 W
  have H2 : Hid (∀ W, Calls Try.prog 8 #[.agg #[.int .i64 1, .int .i64 1], .int .i64 0] W (IsL ⟨1, 1, 0, 0, [], 1, 0, 0⟩ W)) := Lib.hid fun W => new_any 1 1 0 W
  have HK0 := Lib.hid (Kn.start w)
  go_enter Try.func15, Try.ntmps15
  go_wp2_with fail
  refine (H1.out _).mono ?_; rintro e w1 ⟨A1, c1, rfl, o1, b1⟩
  have HK := Lib.hid (HK0.out.called b1 o1)
  clear b1 HK0 H1
  go_wp2_with fail
  refine (H2.out _).mono ?_; rintro e w2 ⟨A2, c2, rfl, o2, b2⟩
  replace HK := Lib.hid (HK.out.called b2 o2)
  unfold lA lC
  go_wp2_with fail
  replace HK := HK.out.called ((Below.refl _ w2).alloc (Nat.le_refl _) (.cells #[.slice none 0 0] 25)) (La := hdLay) (v := .slice (some ⟨w2.heap.size, 0, none⟩) 1 1) (l := [(⟨none, 0, 0⟩ : Hd)]) (Lay.Own.new (L := hdLay) w2 [(⟨none, 0, 0⟩ : Hd)] _ _ _ _ rfl (Nat.le_refl _) rfl rfl rfl (by decide))
  replace HK := Lib.hid (((HK.alloc 52 (wC (.slice A1 0 c1) (.slice A2 0 c2) (.slice none 0 0) (.slice (some ⟨w2.heap.size, 0, none⟩) 1 1) (.slice none 0 0) (.slice none 0 0) (.slice none 0 0) ⟨0, 1, 1, 0, [], 1, 0, 0⟩ ⟨1, 1, 0, 0, [], 1, 0, 0⟩ (1 + win % 8) (1 + ret % 5))).nilR pktLay).nilR strLay)
  have h5 := HK.out.nilR strLay
  have h6 := (h5.nilR strLay).nilR strLay
  simp only [List.nil_append, List.cons_append] at h6
  go_ret
  refine ⟨_, rfl, A1, A2, none, some ⟨w2.heap.size, 0, none⟩, none, none, none, 0, 0, 0, 1, 0, 0, 0, c1, c2, 0, 1, 0, 0, 0, [⟨none, 0, []⟩], ⟨rfl, rfl, rfl, rfl, rfl, rfl, rfl⟩, rfl, ?_⟩
  refine h6.pick id (fun j => if j = 2 then 3 else if j = 3 then 2 else j) (fun i j _ _ h => h) (fun i j hi hj h => ?_) (fun i x hx => ?_) (fun i x hx => ?_)
  · simp at hi hj; (try dsimp only); split <;> split <;> (try split) <;> (try split) <;> omega
  · match i, hx with
    | 0, hx => rw [← hx]; simp [Lnk.Wr.begun]; rfl
  · match i, hx with
    | 0, hx => exact hx
    | 1, hx => exact hx
    | 2, hx => exact hx
    | 3, hx => exact hx
    | 4, hx => exact hx
    | 5, hx => exact hx
    | 6, hx => exact hx
    | 7, hx => exact hx
end Go.Proofs.Ytamjcghdebjpjaa
