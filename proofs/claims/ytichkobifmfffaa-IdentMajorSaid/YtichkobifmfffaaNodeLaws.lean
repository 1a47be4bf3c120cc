/-
  What the laws IdentMajor, IdentLists and IdentMeets return: true, for every argument.
  No condition but the form's own.
-/
import Derived.Test.YtichkobifmfffaaNodeAwake
import Derived.Test.YtichkobifmfffaaNodeRWith
import Derived.WalkKit
import Derived.WalkSpells
import Derived.WalkLawsBesides
import Derived.Handy
import Derived.Deep.QuietTactic
import Derived.BigQuiet
import Derived.Deep.RegionWith
import Derived.Deep.RegionHeld3
import Derived.Deep.Draws
import Derived.Lib.Hide
namespace Go.Proofs.Ytichkobifmfffaa
open Go.RowKit
theorem then2' {a b c : World} (h : Below a.heap.size a b) (k : Below b.heap.size b c) : Below a.heap.size a c := Lift.then2 h k

set_option maxHeartbeats 1600000 in
theorem majorl_yes (A B : Option Addr) (c d : Nat) (p m : List Ident.Id) (z : Int) (w : World) (hp : p.length * 16 ≤ reachBytes) (hm : m.length * 16 ≤ reachBytes) (hi : nodeLay.Reads w w.heap.size A p) (hj : nodeLay.Reads w w.heap.size B m) :
    Lift.Yes Try.prog 5 #[.slice A p.length c, .slice B m.length d, .int .i64 z] w := by
  rw [reach_num] at hp hm
  have H1 := Lib.hid (fun W (h : Below w.heap.size w W) => major_any A B c d p m W (by omega) (by omega) (hi.later h (Nat.le_refl _)) (hj.later h (Nat.le_refl _)))
  have H2 := Lib.hid (fun W (h : Below w.heap.size w W) => rmajor_any A B c d p m W (by omega) (by omega) (hi.later h (Nat.le_refl _)) (hj.later h (Nat.le_refl _)))
  have H3 := Lib.hid (fun W => most_any z W)
  have H4 := Lib.hid (fun W => rmost_any z W)
  generalize Ident.major p m = r at *
  generalize wrap64 (wrap64 (z.tdiv 2) + 1) = y at *
  generalize p.length = pp at *
  generalize m.length = mm at *
  have hrr : (r == r) = true := by simp
  have hyy : (y == y) = true := by simp
  clear hi hj
  unfold Lift.Yes
  go_enter Try.func5, Try.ntmps5
  go_wp2_with fail
  refine (nawake_any _).mono ?_; rintro e w1 ⟨rfl, b1⟩
  have HB1 := Lib.hid b1
  clear b1
  go_wp2_with fail
  refine (H1.out _ HB1.out).mono ?_; rintro e w2 ⟨rfl, b2⟩
  have HB2 := Lib.hid (then2' HB1.out b2)
  clear b2
  go_wp2_with fail
  refine (H2.out _ HB2.out).mono ?_; rintro e w3 ⟨rfl, b3⟩
  have HB3 := Lib.hid (then2' HB2.out b3)
  clear b3
  go_wp2_with fail
  refine (H3.out _).mono ?_; rintro e w4 ⟨rfl, rfl⟩
  go_wp2_with fail
  refine (H4.out _).mono ?_; rintro e w5 ⟨rfl, rfl⟩
  go_wp2_with fail
  go_ret
  exact ⟨rfl, HB3.out⟩

theorem metTo_nil (a b : List Ident.Id) : Ident.metTo a b [] = false := rfl
set_option maxHeartbeats 3200000 in
theorem meets_yes (A B C : Option Addr) (c d e : Nat) (l p m : List Ident.Id) (w : World) (hl : l.length * 16 ≤ reachBytes) (hp : p.length * 16 ≤ reachBytes) (hm : m.length * 16 ≤ reachBytes) (hi : nodeLay.Reads w w.heap.size A l) (hj : nodeLay.Reads w w.heap.size B p) (hk : nodeLay.Reads w w.heap.size C m) :
    Lift.Yes Try.prog 6 #[.slice A l.length c, .slice B p.length d, .slice C m.length e] w := by
  rw [reach_num] at hl hp hm
  have H1 := Lib.hid (rises_any A c l w (by omega) hi)
  have H2 := Lib.hid (fun W (h : Below w.heap.size w W) => major_any B A d c p l W (by omega) (by omega) (hj.later h (Nat.le_refl _)) (hi.later h (Nat.le_refl _)))
  have H3 := Lib.hid (fun W (h : Below w.heap.size w W) => major_any C A e c m l W (by omega) (by omega) (hk.later h (Nat.le_refl _)) (hi.later h (Nat.le_refl _)))
  have H4 := Lib.hid (fun x r W (hx : Ident.has p x = r) (h : Below w.heap.size w W) => hasb B d p x r W hx (by omega) (hj.later h (Nat.le_refl _)))
  have H5 := Lib.hid (fun x r W (hx : Ident.has m x = r) (h : Below w.heap.size w W) => hasb C e m x r W hx (by omega) (hk.later h (Nat.le_refl _)))
  have HI := Lib.hid hi
  have HMet := Lib.hid (fun h1 h2 => Ident.metTo_all (whole := l) (a := p) (b := m) h1 h2)
  clear hi hj hk
  generalize p.length = pp at *
  generalize m.length = mm at *
  generalize hn : l.length = n at *
  have HN := Lib.hid hn
  clear hn
  unfold Lift.Yes
  cases hr : Ident.rises l
  · rw [hr] at H1
    go_enter Try.func6, Try.ntmps6
    go_wp2_with fail
    refine (H1.out).mono ?_; rintro e w1 ⟨rfl, b1⟩
    have HB1 := Lib.hid b1
    clear b1
    go_wp2_with fail
    refine (nawake_any _).mono ?_; rintro e w2 ⟨rfl, b2⟩
    have HB2 := Lib.hid (then2' HB1.out b2)
    clear b2
    go_wp2_with fail
    go_ret
    exact ⟨rfl, HB2.out⟩
  · rw [hr] at H1
    by_cases h0 : n = 0
    · subst h0
      go_enter Try.func6, Try.ntmps6
      go_wp2_with fail
      refine (H1.out).mono ?_; rintro e w1 ⟨rfl, b1⟩
      have HB1 := Lib.hid b1
      clear b1
      go_wp2_with fail
      refine (nawake_any _).mono ?_; rintro e w2 ⟨rfl, b2⟩
      have HB2 := Lib.hid (then2' HB1.out b2)
      clear b2
      go_wp2_with fail
      go_ret
      exact ⟨rfl, HB2.out⟩
    · have hz : ((n : Int) == 0) = false := by rw [beq_eq_false_iff_ne]; omega
      have h0' : 0 < n := by omega
      clear h0
      cases hma : Ident.major p l
      · rw [hma] at H2
        go_enter Try.func6, Try.ntmps6
        go_wp2_with fail
        refine (H1.out).mono ?_; rintro e w1 ⟨rfl, b1⟩
        have HB1 := Lib.hid b1
        clear b1
        go_wp2_with fail
        refine (H2.out _ HB1.out).mono ?_; rintro e w2 ⟨rfl, b2⟩
        have HB2 := Lib.hid (then2' HB1.out b2)
        clear b2
        go_wp2_with fail
        refine (nawake_any _).mono ?_; rintro e w3 ⟨rfl, b3⟩
        have HB3 := Lib.hid (then2' HB2.out b3)
        clear b3
        go_wp2_with fail
        go_ret
        exact ⟨rfl, HB3.out⟩
      · rw [hma] at H2
        cases hmb : Ident.major m l
        · rw [hmb] at H3
          go_enter Try.func6, Try.ntmps6
          go_wp2_with fail
          refine (H1.out).mono ?_; rintro e w1 ⟨rfl, b1⟩
          have HB1 := Lib.hid b1
          clear b1
          go_wp2_with fail
          refine (H2.out _ HB1.out).mono ?_; rintro e w2 ⟨rfl, b2⟩
          have HB2 := Lib.hid (then2' HB1.out b2)
          clear b2
          go_wp2_with fail
          refine (H3.out _ HB2.out).mono ?_; rintro e w3 ⟨rfl, b3⟩
          have HB3 := Lib.hid (then2' HB2.out b3)
          clear b3
          go_wp2_with fail
          refine (nawake_any _).mono ?_; rintro e w4 ⟨rfl, b4⟩
          have HB4 := Lib.hid (then2' HB3.out b4)
          clear b4
          go_wp2_with fail
          go_ret
          exact ⟨rfl, HB4.out⟩
        · rw [hmb] at H3
          have HAll := Lib.hid (HMet.out hma hmb)
          clear hr hma hmb HMet
          go_enter Try.func6, Try.ntmps6
          go_wp2_with fail
          refine (H1.out).mono ?_; rintro e w1 ⟨rfl, b1⟩
          have HB1 := Lib.hid b1
          clear b1
          go_wp2_with fail
          refine (H2.out _ HB1.out).mono ?_; rintro e w2 ⟨rfl, b2⟩
          have HB2 := Lib.hid (then2' HB1.out b2)
          clear b2
          go_wp2_with fail
          refine (H3.out _ HB2.out).mono ?_; rintro e w3 ⟨rfl, b3⟩
          have HB3 := Lib.hid (then2' HB2.out b3)
          clear b3 H1 H2 H3
          go_wp2_with fail
          go_loopw [7, 8] (fun vm vi wr => ∃ (k : Nat) (mt : Bool), k ≤ n ∧ vm = .bool mt ∧ vi = .int .i64 k ∧ Hid (Ident.metTo p m (l.take k) = mt) ∧ Hid (Below w.heap.size w wr)) (fun _ vi _ => n - (intOf vi).toNat)
          case atStart => exact ⟨0, false, Nat.zero_le _, rfl, rfl, Lib.hid rfl, HB3⟩
          case round =>
            obtain ⟨k, mt, hk, rfl, rfl, HG, HB⟩ := hrel
            clear HB1 HB2 HB3
            by_cases hlt : k < n
            · obtain ⟨x, hx⟩ := Lay.get_of (l := l) (k := k) (by rw [HN.out]; exact hlt)
              obtain ⟨b, o, rfl, hb, hc⟩ := HI.out (by rw [HN.out]; omega)
              have HC := Lib.hid hc
              have HX := Lib.hid hx
              have HG1 := Lib.hid (Ident.metTo_step (a := p) (b := m) hx)
              obtain ⟨c0, c1⟩ := at_node ((hc k x hx).keep (w' := wr) fun p hp => HB.out.cell (by rw [hp]; exact hb))
              have hk1 : (0 : Int) ≤ (k : Int) := by omega
              have hk2 : (k : Int) < (n : Int) := by omega
              clear hx hc
              by_cases hd0 : mt = false
              · subst hd0
                cases hpa : Ident.has p x
                · have HG2 : Hid (Ident.metTo p m (l.take (k + 1)) = false) := Lib.hid (by rw [HG1.out, HG.out, hpa]; rfl)
                  have HH := Lib.hid (fun W => H4.out x _ W hpa)
                  obtain ⟨xs, xc⟩ := x
                  unfold nv at HH
                  simp only at c0 c1 HH
                  go_wp2_with fail
                  refine (HH.out _ HB.out).mono ?_; rintro e w4 ⟨rfl, b4⟩
                  have HB4 := Lib.hid (then2' HB.out b4)
                  clear b4
                  go_wp2_with fail
                  exact ⟨⟨k + 1, _, by omega, rfl, by go_num, HG2, HB4⟩, by simp [intOf]; omega⟩
                · cases hpb : Ident.has m x
                  all_goals
                    have HG2 := HG1.out
                    rw [HG.out, hpa, hpb] at HG2
                    have HG3 := Lib.hid HG2
                    have HH := Lib.hid (fun W => H4.out x _ W hpa)
                    have HK := Lib.hid (fun W => H5.out x _ W hpb)
                    have HCk := Lib.hid (fun W (h : Below w.heap.size w W) => at_node ((HC.out k _ HX.out).keep (w' := W) fun p hp => h.cell (by rw [hp]; exact hb)))
                    clear HG2
                    obtain ⟨xs, xc⟩ := x
                    unfold nv at HH HK
                    simp only at c0 c1 HH HK
                    go_wp2_with fail
                    refine (HH.out _ HB.out).mono ?_; rintro e w4 ⟨rfl, b4⟩
                    have HB4 := Lib.hid (then2' HB.out b4)
                    obtain ⟨c0, c1⟩ := HCk.out _ HB4.out
                    try simp only at c0 c1
                    clear b4
                    go_wp2_with fail
                    refine (HK.out _ HB4.out).mono ?_; rintro e w5 ⟨rfl, b5⟩
                    have HB5 := Lib.hid (then2' HB4.out b5)
                    clear b5
                    go_wp2_with fail
                    exact ⟨⟨k + 1, _, by omega, rfl, by go_num, HG3, HB5⟩, by simp [intOf]; omega⟩
              · have hd1 : mt = true := by simpa using hd0
                subst hd1
                have HG2 : Hid (Ident.metTo p m (l.take (k + 1)) = true) := Lib.hid (by rw [HG1.out, HG.out]; rfl)
                clear hd0
                go_wp2_with fail
                exact ⟨⟨k + 1, _, by omega, rfl, by go_num, HG2, HB⟩, by simp [intOf]; omega⟩
            · obtain rfl : k = n := by omega
              have hg := HG.out
              rw [List.take_of_length_le (by rw [HN.out]; exact Nat.le_refl _), HAll.out] at hg
              subst hg
              go_wp2_with fail
              refine (nawake_any _).mono ?_; rintro e w6 ⟨rfl, b6⟩
              have HB6 := Lib.hid (then2' HB.out b6)
              clear b6
              go_wp2_with fail
              go_ret
              exact ⟨rfl, HB6.out⟩
end Go.Proofs.Ytichkobifmfffaa
