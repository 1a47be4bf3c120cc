/-
  What the document's own Read returns, for every text.
  No condition but a bound on the text's length.
-/
import Derived.Test.YtdhfmapcggohmaaDoorValRead
import Derived.WalkKit
import Derived.WalkSpells
import Derived.WalkLawsBesides
import Derived.Handy
import Derived.Deep.QuietTactic
import Derived.BigQuiet
import Derived.Deep.Draws
import Derived.Lib.Hide
namespace Go.Proofs.YtdhfmapcggohmaaDoor
open Go.RowKit

theorem rdV_nil : Val.rdV [] = none := by
  unfold Val.rdV
  rw [if_neg (by decide), if_neg (by decide), if_neg (by decide), Val.rd_none_empty rfl]; rfl
theorem rd_f {l : List UInt8} {t : ByteArray} (h1 : l ≠ [110, 111, 110, 101]) (h2 : l.head? = some 102) (ht : t.data.toList = l.tail) : Val.rdV l = if (readAns t).2 = 0 then some ⟨2, 0, (readAns t).1, Val.emp⟩ else none := by
  have e : Val.of l.tail = t := by rw [← ht]; exact Val.of_self t
  unfold Val.rdV
  rw [if_neg h1, if_pos h2, e]
theorem rd_x {l : List UInt8} (h1 : l ≠ [110, 111, 110, 101]) (h2 : l.head? = some 120) (h3 : l.length ≤ 129) : Val.rdV l = (Val.unL l.tail).map fun t => ⟨3, 0, 0, Val.of t⟩ := by
  unfold Val.rdV
  rw [if_neg h1, if_neg (by rw [h2]; decide), if_pos h2]
  cases hu : Val.unL l.tail with
  | none => rfl
  | some t =>
    have := Val.hexL_unL _ _ hu
    have h4 := Val.hexL_length t
    rw [this, List.length_tail] at h4
    simp only [Option.map_some]
    rw [if_pos (by omega)]
theorem rd_n {l : List UInt8} (h1 : l ≠ [110, 111, 110, 101]) (h2 : l.head? ≠ some 102) (h3 : l.head? ≠ some 120) : Val.rdV l = (Val.rd l).map fun n => ⟨1, n, 0, Val.emp⟩ := by
  unfold Val.rdV
  rw [if_neg h1, if_neg h2, if_neg h3]

set_option maxRecDepth 100000 in
set_option maxHeartbeats 3200000 in
theorem rvread_any (s : ByteArray) (w : World) (hs : s.size ≤ 140737488355328) :
    Calls Tryd.prog 20 #[.string s] w (IsRead s.data.toList w) := by
  have BB := Lib.hid (fun o => (Below.refl _ w).alloc (Nat.le_refl _) o)
  have HZ := Lib.hid (zero_new w)
  have hsize : s.data.toList.length = s.size := by rw [Array.length_toList]; rfl
  by_cases hn : s.data.toList = [110, 111, 110, 101]
  · have h1 : s.toList = [110, 111, 110, 101] := by rw [ByteArray.toList_eq]; exact hn
    have h2 : (s.toList == [110, 111, 110, 101]) = true := by rw [h1]; rfl
    have HR := Lib.hid (isRead_some (w := w) (show Val.rdV s.data.toList = some Val.zero by rw [hn]; rfl))
    clear hn hs hsize
    go_enter Tryd.func20, Tryd.ntmps20
    go_wp2_with fail
    exact ret_box Tryd.results20 rfl rfl rfl HZ.out (HR.out _ (BB.out _))
  · have h1 : ¬ s.toList = [110, 111, 110, 101] := by rw [ByteArray.toList_eq]; exact hn
    have h2 : (s.toList == [110, 111, 110, 101]) = false := by simpa using h1
    by_cases h0 : s.size = 0
    · have HR := Lib.hid (isRead_none (w := w) (show Val.rdV s.data.toList = none by rw [Val.size_zero h0]; exact rdV_nil))
      obtain ⟨e1, e2⟩ := str_none h0
      clear hn hs hsize h0
      go_enter Tryd.func20, Tryd.ntmps20
      go_wp2_with fail
      exact ret_box Tryd.results20 rfl rfl rfl HZ.out (HR.out _ (BB.out _))
    · obtain ⟨e1, e2⟩ := str_some h0
      by_cases hl : 129 < s.size
      · have HR := Lib.hid (isRead_none (w := w) (show Val.rdV s.data.toList = none from Val.rdV_long (by rw [hsize]; exact hl)))
        have hl2 : 129 < (s.size : Int) := by omega
        clear hn hs hsize h0
        go_enter Tryd.func20, Tryd.ntmps20
        go_wp2_with fail
        exact ret_box Tryd.results20 rfl rfl rfl HZ.out (HR.out _ (BB.out _))
      · have hl2 : ¬ 129 < (s.size : Int) := by omega
        have h11 : 1 ≤ s.size := by omega
        obtain ⟨c0, hc0⟩ : ∃ c, s.data.toList[0]? = some c := ⟨_, List.getElem?_eq_getElem (by omega)⟩
        have hhead : s.data.toList.head? = some c0 := by rw [List.head?_eq_getElem?]; exact hc0
        have hx0 := index_at s 0 0 rfl c0 hc0
        by_cases hf : c0.toNat = 102
        · have ec : c0 = 102 := UInt8.toNat_inj.1 hf
          have hr := rd_f hn (by rw [hhead, ec]) (rest_toList s)
          have q1 : (c0.toNat : Int) = 102 := by omega
          rw [q1] at hx0
          have hre : (rest s).size ≤ maxLen := by unfold rest maxLen; rw [ByteArray.size_extract]; omega
          have HD : Hid (∀ w, Calls Tryd.prog 38 #[.string (s.extract 1 s.size)] w fun e w' => e = .returned (.tuple #[.int .u64 ((readAns (rest s)).1 : Nat), .int .i64 (readAns (rest s)).2]) ∧ w = w') := Lib.hid fun w => rread_any (rest s) w hre
          clear hhead hc0 hf ec hs hsize h0 hn hre
          generalize (readAns (rest s)).1 = f at *
          by_cases he : (readAns (rest s)).2 = 0
          · have HR := Lib.hid (isRead_some (w := w) (hr.trans (if_pos he)))
            rw [he] at HD
            clear hr he
            go_enter Tryd.func20, Tryd.ntmps20
            go_wp2_with fail
            refine (HD.out _).mono ?_; rintro e w' ⟨rfl, rfl⟩
            go_wp2_with fail
            exact ret_box Tryd.results20 rfl rfl rfl (Box.new w _ _ _ _) (HR.out _ (BB.out _))
          · have HR := Lib.hid (isRead_none (w := w) (hr.trans (if_neg he)))
            have he2 : ((readAns (rest s)).2 != 0) = true := ne_true he
            generalize (readAns (rest s)).2 = e3 at *
            clear hr
            go_enter Tryd.func20, Tryd.ntmps20
            go_wp2_with fail
            refine (HD.out _).mono ?_; rintro e w' ⟨rfl, rfl⟩
            go_wp2_with fail
            exact ret_box Tryd.results20 rfl rfl rfl HZ.out (HR.out _ (BB.out _))
        · by_cases hx : c0.toNat = 120
          · have ec : c0 = 120 := UInt8.toNat_inj.1 hx
            have hr := rd_x hn (by rw [hhead, ec]) (by rw [hsize]; omega)
            have q1 : (c0.toNat : Int) = 120 := by omega
            rw [q1] at hx0
            have hre : (rest s).size ≤ 211106232532992 := by unfold rest; rw [ByteArray.size_extract]; omega
            have HD : Hid (∀ w, Calls Tryd.prog 39 #[.string (s.extract 1 s.size)] w fun e w' => IsTxt (Val.unL s.data.toList.tail) e ∧ Below w.heap.size w w') := Lib.hid fun w => by
              have := runhex_any (rest s) w hre
              rwa [rest_toList s] at this
            clear hhead hc0 hf hx ec hs hsize h0 hn hre
            go_enter Tryd.func20, Tryd.ntmps20
            go_wp2_with fail
            refine (HD.out _).mono ?_
            rintro e w1 ⟨⟨u, hu, rfl⟩ | ⟨hu, rfl⟩, b1⟩
            · have HR := Lib.hid (isRead_some (w := w) (v := ⟨3, 0, 0, Val.of u⟩) (hr.trans (by rw [hu]; rfl)))
              have HB := Lib.hid (new_below b1)
              have HX := Lib.hid (HZ.out.below b1 (by simp))
              clear b1 hu hr
              obtain ⟨c0, c1, c2, c3, f0, f1, f2, f3⟩ := HX.out.all
              generalize Val.of u = z at *
              go_wp2_with fail
              exact ret_box Tryd.results20 rfl rfl rfl (box_store HX.out _ _ _ _) (HR.out _ (stored_below HB.out (Nat.le_refl _) _ _ _ _))
            · have HR := Lib.hid (isRead_none (w := w) (hr.trans (by rw [hu]; rfl)))
              have HB := Lib.hid (new_below b1)
              have HX := Lib.hid (HZ.out.below b1 (by simp))
              clear b1 hu hr
              obtain ⟨c0, c1, c2, c3, f0, f1, f2, f3⟩ := HX.out.all
              go_wp2_with fail
              exact ret_box Tryd.results20 rfl rfl rfl (box_store HX.out _ _ _ _) (HR.out _ (stored_below HB.out (Nat.le_refl _) _ _ _ _))
          · have hr := rd_n hn (by rw [hhead]; intro e; injection e with e; exact hf (by rw [e]; rfl)) (by rw [hhead]; intro e; injection e with e; exact hx (by rw [e]; rfl))
            have q1 : ((c0.toNat : Int) == 102) = false := by rw [beq_eq_false_iff_ne]; omega
            have q2 : ((c0.toNat : Int) == 120) = false := by rw [beq_eq_false_iff_ne]; omega
            have HD := Lib.hid (fun w => number_is s w (by simp only [maxLen]; omega))
            clear hhead hc0 hf hx hs hsize h0 hn
            go_enter Tryd.func20, Tryd.ntmps20
            go_wp2_with fail
            refine (HD.out _).mono ?_
            rintro e w1 ⟨⟨x, b, rfl, h⟩, b1⟩
            have HB := Lib.hid (new_below b1)
            have HX := Lib.hid (HZ.out.below b1 (by simp))
            clear b1
            obtain ⟨c0, c1, c2, c3, f0, f1, f2, f3⟩ := HX.out.all
            rcases h with ⟨hu, rfl⟩ | ⟨hu, rfl⟩
            · have HR := Lib.hid (isRead_some (w := w) (v := ⟨1, x, 0, Val.emp⟩) (hr.trans (by rw [hu]; rfl)))
              clear hu hr
              go_wp2_with fail
              exact ret_box Tryd.results20 rfl rfl rfl (box_store HX.out _ _ _ _) (HR.out _ (stored_below HB.out (Nat.le_refl _) _ _ _ _))
            · have HR := Lib.hid (isRead_none (w := w) (hr.trans (by rw [hu]; rfl)))
              clear hu hr
              go_wp2_with fail
              exact ret_box Tryd.results20 rfl rfl rfl (box_store HX.out _ _ _ _) (HR.out _ (stored_below HB.out (Nat.le_refl _) _ _ _ _))

end Go.Proofs.YtdhfmapcggohmaaDoor
