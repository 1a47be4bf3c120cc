/-
  What the laws ValueWords and ValueOrders return: true, for every argument (the first: whose text is no longer than the second form's bulk).
  No condition but the form's own, and what the listed variables hold.
-/
import Derived.Test.YtdhfmapcggohmaaDoorValLaws
import Derived.Test.YtdhfmapcggohmaaDoorValCmp
import Derived.WalkKit
import Derived.WalkSpells
import Derived.WalkLawsBesides
import Derived.Handy
import Derived.Deep.QuietTactic
import Derived.BigQuiet
import Derived.Deep.RegionWith
import Derived.Deep.RegionHeld3
import Derived.Deep.Draws
import Derived.Lib.Hide
namespace Go.Proofs.YtdhfmapcggohmaaDoor
open Go.RowKit

theorem word_len (v : Val.V) (hs : v.s.size ≤ 1048576) (hn : Val.inR v.n) : (Val.word v).length ≤ 2097153 := by
  unfold Val.word
  unfold Val.inR at hn
  have h1 : v.s.data.toList.length = v.s.size := by rw [Array.length_toList]; rfl
  have h2 : (hexText (Num.M v.f)).data.toList.length = 16 := by
    have := hexText_size (Num.M v.f)
    rw [Array.length_toList]; exact this
  split
  · unfold Val.dec
    have := Val.dgs_len 19 v.n.natAbs (by decide) (by omega)
    split
    · simp; omega
    · omega
  · split
    · rw [List.length_cons, h2]; omega
    · split
      · rw [List.length_cons, Val.hexL_length, h1]; omega
      · decide

set_option maxRecDepth 100000 in
set_option maxHeartbeats 3200000 in
theorem words_yes (v : Val.V) (w : World) (hn : Val.inR v.n) (hf : v.f < 18446744073709551616) (hs : v.s.size ≤ 1048576) (ht : TabOk w) (hv : ErrOk w) : Lift.Yes Tryd.prog 6 #[vv v] w := by
  have hsz := Val.of_size (Val.word v)
  have hwl := word_len v hs hn
  have HT := Lib.hid (fun W hb => vtext_any v W hn hf (by omega) (ht.below hb))
  have HTT := Lib.hid (fun W => rvtext_any v W hn hf (by omega))
  have HR := Lib.hid (fun W hb => vread_any (Val.of (Val.word v)) W (by omega) (ht.below hb) (hv.below hb))
  have HA := Lib.hid (fun W hb => awake_any W (ht.below hb) (hv.below hb))
  have HC := Lib.hid (fun W => check_any v W hf)
  rw [Val.of_toList] at HR
  unfold IsRead at HR
  unfold IsWord at HT HTT
  unfold Lift.Yes
  have hb0 := Lib.hid ((Below.refl _ w).alloc (Nat.le_refl _) (.cells #[.int .i64 v.k, .int .i64 v.n, .int .u64 (v.f : Int), .string v.s] 24))
  by_cases hc : Val.chk v = 0
  · rw [ans_some (Val.rdV_word hc hf hn)] at HR
    rw [hc] at HC
    generalize Val.of (Val.word v) = q at *
    obtain ⟨k, n, f, t⟩ := v
    unfold vv at *
    simp only at HT HTT HR HC hb0
    clear hn hf hs ht hv hc hsz hwl
    have HF0 := Lib.hid (Four.new w k n f t)
    go_enter Tryd.func6, Tryd.ntmps6
    go_wp2_with fail
    refine (HT.out _ hb0.out).mono ?_; rintro e w1 ⟨rfl, b1⟩
    have HF1 := Lib.hid (HF0.out.keep b1)
    have HB1 := Lib.hid (hb0.out.trans (b1.mono hb0.out.size))
    clear b1
    go_wp2_with fail
    refine (HR.out _ HB1.out).mono ?_; rintro e w2 ⟨rfl, b2⟩
    have HF2 := Lib.hid (HF1.out.keep b2)
    have hlt2 := HF2.out.lt
    have HB2 := Lib.hid (HB1.out.trans (b2.mono HB1.out.size))
    have HB3 := Lib.hid (HB2.out.alloc HB2.out.size (.cells #[.int .i64 k, .int .i64 n, .int .u64 (f : Int), .string t] 24))
    have HF3 := Lib.hid (HF2.out.keep ((Below.refl _ w2).alloc (Nat.le_refl _) (.cells #[.int .i64 k, .int .i64 n, .int .u64 (f : Int), .string t] 24)))
    have HG3 := Lib.hid (Four.new w2 k n f t)
    clear b2
    go_wp2_with fail
    refine (HA.out _ HB3.out).mono ?_; rintro e w4 ⟨rfl, b4⟩
    have HF4 := Lib.hid (HF3.out.keep b4)
    have HG4 := Lib.hid (HG3.out.keep b4)
    obtain ⟨c0, c1, c2, c3⟩ := HF4.out
    have HB4 := Lib.hid (HB3.out.trans (b4.mono HB3.out.size))
    clear b4
    go_wp2_with fail
    refine (HTT.out _).mono ?_; rintro e w5 ⟨rfl, b5⟩
    have HF5 := Lib.hid (HF4.out.keep b5)
    have HG5 := Lib.hid (HG4.out.keep b5)
    obtain ⟨p0, p1, p2, p3⟩ := HF5.out
    have HB5 := Lib.hid (HB4.out.trans (b5.mono HB4.out.size))
    clear b5
    go_wp2_with fail
    refine (HC.out _).mono ?_; rintro e w6 ⟨rfl, b6⟩
    obtain ⟨r0, r1, r2, r3⟩ := HF5.out.keep b6
    obtain ⟨s0, s1, s2, s3⟩ := HG5.out.keep b6
    have HB6 := Lib.hid (HB5.out.trans (b6.mono HB5.out.size))
    clear b6
    go_wp2_with fail
    go_ret
    exact ⟨rfl, HB6.out⟩
  · have hx : (Val.chk v != 0) = true := ne_true hc
    generalize Val.chk v = x at *
    generalize (ans (Val.word v)).2 = er at *
    generalize (ans (Val.word v)).1 = u at *
    generalize Val.of (Val.word v) = q at *
    obtain ⟨k, n, f, t⟩ := v
    obtain ⟨k', n', f', t'⟩ := u
    unfold vv at *
    simp only at HT HTT HR HC hb0
    clear hn hf hs ht hv hc hsz hwl
    have HF0 := Lib.hid (Four.new w k n f t)
    go_enter Tryd.func6, Tryd.ntmps6
    go_wp2_with fail
    refine (HT.out _ hb0.out).mono ?_; rintro e w1 ⟨rfl, b1⟩
    have HF1 := Lib.hid (HF0.out.keep b1)
    have HB1 := Lib.hid (hb0.out.trans (b1.mono hb0.out.size))
    clear b1
    go_wp2_with fail
    refine (HR.out _ HB1.out).mono ?_; rintro e w2 ⟨rfl, b2⟩
    have HF2 := Lib.hid (HF1.out.keep b2)
    have hlt2 := HF2.out.lt
    have HB2 := Lib.hid (HB1.out.trans (b2.mono HB1.out.size))
    have HB3 := Lib.hid (HB2.out.alloc HB2.out.size (.cells #[.int .i64 k', .int .i64 n', .int .u64 (f' : Int), .string t'] 24))
    have HF3 := Lib.hid (HF2.out.keep ((Below.refl _ w2).alloc (Nat.le_refl _) (.cells #[.int .i64 k', .int .i64 n', .int .u64 (f' : Int), .string t'] 24)))
    clear b2
    go_wp2_with fail
    refine (HA.out _ HB3.out).mono ?_; rintro e w4 ⟨rfl, b4⟩
    have HF4 := Lib.hid (HF3.out.keep b4)
    obtain ⟨c0, c1, c2, c3⟩ := HF4.out
    have HB4 := Lib.hid (HB3.out.trans (b4.mono HB3.out.size))
    clear b4
    go_wp2_with fail
    refine (HTT.out _).mono ?_; rintro e w5 ⟨rfl, b5⟩
    have HF5 := Lib.hid (HF4.out.keep b5)
    obtain ⟨p0, p1, p2, p3⟩ := HF5.out
    have HB5 := Lib.hid (HB4.out.trans (b5.mono HB4.out.size))
    clear b5
    go_wp2_with fail
    refine (HC.out _).mono ?_; rintro e w6 ⟨rfl, b6⟩
    have HB6 := Lib.hid (HB5.out.trans (b6.mono HB5.out.size))
    clear b6
    go_wp2_with fail
    go_ret
    exact ⟨rfl, HB6.out⟩
end Go.Proofs.YtdhfmapcggohmaaDoor
