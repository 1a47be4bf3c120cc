/-
  What num.Read and the document's own return of any letters.
  The library's table of places, and its variable for a wrong form, are as its text lays them.
-/
import Derived.Test.YtdhfmapcggohmaaDoorHexTexts
import Derived.Test.YtdhfmapcggohmaaDoorHexErr
namespace Go.Proofs.YtdhfmapcggohmaaDoor
open Go.RowKit

/-- The float that letters are, and the error's number. -/
def readAns (s : ByteArray) : Nat × Int :=
  if s.size = 16 then match Hex.pl 0 s.data.toList with
    | some n => if Num.M n = n then (n, 0) else (0, 3)
    | none => (0, 3)
  else (0, 3)
theorem readAns_size {s : ByteArray} (h : s.size ≠ 16) : readAns s = (0, 3) := by unfold readAns; rw [if_neg h]
theorem readAns_none {s : ByteArray} (h : Hex.pl 0 s.data.toList = none) : readAns s = (0, 3) := by unfold readAns; rw [h]; split <;> rfl
theorem readAns_some {s : ByteArray} {n : Nat} (h : s.size = 16) (hp : Hex.pl 0 s.data.toList = some n) (hm : Num.M n = n) : readAns s = (n, 0) := by
  unfold readAns; rw [if_pos h, hp]; exact if_pos hm
theorem readAns_nan {s : ByteArray} {n : Nat} (hp : Hex.pl 0 s.data.toList = some n) (hm : Num.M n ≠ n) : readAns s = (0, 3) := by
  unfold readAns; rw [hp]; split
  · exact if_neg hm
  · rfl
theorem pl_size {s : ByteArray} {n : Nat} (h : s.size = 16) (hp : Hex.pl 0 s.data.toList = some n) : n < 18446744073709551616 ∧ hexText n = s := by
  have hl : s.data.toList.length = 16 := by rw [Array.length_toList]; exact h
  have h1 := Hex.pl_bound _ _ hp
  have h2 := (Hex.pl_back _ _ _ hp).2
  rw [hl] at h1 h2
  refine ⟨by omega, ?_⟩
  unfold hexText
  rw [h2]
theorem ps_bound : ∀ (l : List UInt8) (k acc n : Nat), acc < 16 ^ k → Hex.ps acc l = some n → n < 16 ^ (k + l.length)
  | [], k, acc, n, ha, h => by cases h; simpa using ha
  | c :: r, k, acc, n, ha, h => by
    cases hc : Hex.up c with
    | none => rw [ps_bad hc] at h; cases h
    | some d =>
      rw [ps_cons hc] at h
      have := ps_bound r (k + 1) _ n (Hex.ps_step ha (Hex.up_lt hc)) h
      rw [List.length_cons, show k + (r.length + 1) = k + 1 + r.length from by omega]
      exact this
theorem ps_size {s : ByteArray} {n : Nat} (h : s.size = 16) (hp : Hex.ps 0 s.data.toList = some n) : n < 18446744073709551616 := by
  have hl : s.data.toList.length = 16 := by rw [Array.length_toList]; exact h
  have h1 := ps_bound _ 0 0 n (by decide) hp
  rw [hl] at h1
  omega
theorem hexText_inj {a b : Nat} (ha : a < 18446744073709551616) (hb : b < 18446744073709551616) (h : hexText a = hexText b) : a = b := by
  unfold hexText at h
  have h1 : Hex.L a 16 = Hex.L b 16 := by
    have := congrArg (fun s => s.data.toList) h
    simpa using this
  exact Hex.L_inj (k := 16) (by omega) (by omega) h1
theorem hexText_size (b : Nat) : (hexText b).size = 16 := Hex.L_length b 16
theorem hexText_pl {b : Nat} (hb : b < 18446744073709551616) : Hex.pl 0 (hexText b).data.toList = some b := by
  have h := Hex.pl_L b 16 0
  rw [Nat.mod_eq_of_lt (by omega)] at h
  unfold hexText
  simpa using h
/-- Letters that are read as a number, and whose number's own text they are. -/
theorem readAns_same {s : ByteArray} {n : Nat} (h : s.size = 16) (hp : Hex.ps 0 s.data.toList = some n) (ht : hexText (Num.M n) = s) : readAns s = (n, 0) := by
  have hn := ps_size h hp
  have h1 := hexText_pl (Num.M_lt hn)
  rw [ht] at h1
  have h2 := Hex.pl_ps _ _ _ h1
  rw [hp] at h2
  have h3 : n = Num.M n := Option.some.inj h2
  rw [← h3] at h1
  exact readAns_some h h1 h3.symm
theorem readAns_other {s : ByteArray} {n : Nat} (h : s.size = 16) (hp : Hex.ps 0 s.data.toList = some n) (ht : hexText (Num.M n) ≠ s) : readAns s = (0, 3) := by
  cases hq : Hex.pl 0 s.data.toList with
  | none => exact readAns_none hq
  | some m =>
    have h2 := Hex.pl_ps _ _ _ hq
    rw [hp] at h2
    obtain rfl : n = m := Option.some.inj h2
    refine readAns_nan hq fun hm => ht ?_
    rw [hm]
    exact (pl_size h hq).2
theorem readAns_bad {s : ByteArray} (hp : Hex.ps 0 s.data.toList = none) : readAns s = (0, 3) := by
  cases hq : Hex.pl 0 s.data.toList with
  | none => exact readAns_none hq
  | some m => have h2 := Hex.pl_ps _ _ _ hq; rw [hp] at h2; cases h2

theorem bytes_same {a b : ByteArray} (h : a.toList = b.toList) : a = b := by
  rw [ByteArray.toList_eq, ByteArray.toList_eq] at h
  exact Go.WideShapes.bytes_inj h

def IsAns (s : ByteArray) (w : World) (e : Ending) (w' : World) : Prop := e = .returned (.tuple #[.int .u64 ((readAns s).1 : Nat), .int .i64 (readAns s).2]) ∧ Below w.heap.size w w'
theorem isAns {s : ByteArray} {n : Nat} {e : Int} (h : readAns s = (n, e)) {w w' : World} (hb : Below w.heap.size w w') : IsAns s w (.returned (.tuple #[.int .u64 (n : Nat), .int .i64 e])) w' := by
  unfold IsAns; rw [h]; exact ⟨rfl, hb⟩

set_option maxHeartbeats 400000 in
theorem read_any (s : ByteArray) (w : World) (_hs : s.size ≤ maxLen) (ht : TabOk w) (hv : ErrOk w) :
    Calls Tryd.prog 50 #[.string s] w (IsAns s w) := by
  unfold maxLen at _hs
  by_cases h : s.size = 16
  · have hb16 : ((s.size : Int) != 16) = false := by rw [bne_eq_false_iff_eq]; omega
    cases hp : Hex.ps 0 s.data.toList with
    | none =>
      have HP := Lib.hid (parse_none s h hp w hv)
      have HA := Lib.hid (fun w' hb => isAns (readAns_bad hp) (w := w) (w' := w') hb)
      clear h ht hv hp
      go_enter Tryd.func50, Tryd.ntmps50
      go_wp2_with fail
      refine (HP.out).mono ?_
      rintro e w2 ⟨⟨t, v, rfl⟩, hb⟩
      go_wp2_with fail
      go_ret2
      exact HA.out _ hb
    | some n =>
      have hn := ps_size h hp
      have HP := Lib.hid (parse_some s h n hp w)
      have HT := Lib.hid ht
      by_cases hq : hexText (Num.M n) = s
      · have HA := Lib.hid (fun w' hb => isAns (readAns_same h hp hq) (w := w) (w' := w') hb)
        have HX := Lib.hid (fun w ht => text_any n w hn ht)
        rw [hq] at HX
        clear h ht hv hp hq
        go_enter Tryd.func50, Tryd.ntmps50
        go_wp2_with fail
        refine (HP.out).mono ?_
        rintro e w2 ⟨rfl, hb⟩
        have HT2 := Lib.hid (HT.out.below hb)
        go_wp2_with fail
        refine (HX.out _ HT2.out).mono ?_
        rintro e w3 ⟨rfl, hb3⟩
        go_wp2_with fail
        go_ret2
        exact HA.out _ (hb.trans (hb3.mono hb.size))
      · have HA := Lib.hid (fun w' hb => isAns (readAns_other h hp hq) (w := w) (w' := w') hb)
        have HX := Lib.hid (fun w ht => text_any n w hn ht)
        have hne : ((hexText (Num.M n)).toList == s.toList) = false := by rw [beq_eq_false_iff_ne]; exact fun e => hq (bytes_same e)
        clear h ht hv hp hq
        generalize hexText (Num.M n) = x at *
        go_enter Tryd.func50, Tryd.ntmps50
        go_wp2_with fail
        refine (HP.out).mono ?_
        rintro e w2 ⟨rfl, hb⟩
        have HT2 := Lib.hid (HT.out.below hb)
        go_wp2_with fail
        refine (HX.out _ HT2.out).mono ?_
        rintro e w3 ⟨rfl, hb3⟩
        go_wp2_with fail
        go_ret2
        exact HA.out _ (hb.trans (hb3.mono hb.size))
  · have hb16 : ((s.size : Int) != 16) = true := by rw [bne_iff_ne]; omega
    have HA := Lib.hid (fun w' hb => isAns (readAns_size h) (w := w) (w' := w') hb)
    clear h
    go_enter Tryd.func50, Tryd.ntmps50
    go_wp2_with fail
    go_ret2
    exact HA.out _ (Below.refl _ _)

/-- A letter's digit, or -1. -/
def digitOf (c : UInt8) : Int := match Hex.lo c with
  | some d => (d : Int)
  | none => -1
theorem digitOf_some {c : UInt8} {d : Nat} (h : Hex.lo c = some d) : digitOf c = (d : Int) := by unfold digitOf; rw [h]
theorem digitOf_none {c : UInt8} (h : Hex.lo c = none) : digitOf c = -1 := by unfold digitOf; rw [h]

set_option maxHeartbeats 400000 in
theorem rdigit_any (c : UInt8) (w : World) :
    Calls Tryd.prog 53 #[.int .u8 (c.toNat : Int)] w fun e w' => e = .returned (.int .i64 (digitOf c)) ∧ w = w' := by
  have hc := c.toNat_lt
  by_cases h1 : 48 ≤ c.toNat ∧ c.toNat ≤ 57
  · have hl : Hid (Hex.lo c = some (c.toNat - 48)) := Lib.hid (by unfold Hex.lo; exact if_pos h1)
    obtain ⟨h1, h2⟩ := h1
    go_enter Tryd.func53, Tryd.ntmps53
    go_wp2
    go_ret
    refine ⟨ret_int ?_, rfl⟩
    rw [digitOf_some hl.out]
    omega
  · by_cases h2 : 97 ≤ c.toNat ∧ c.toNat ≤ 102
    · have hl : Hid (Hex.lo c = some (c.toNat - 87)) := Lib.hid (by unfold Hex.lo; rw [if_neg h1]; exact if_pos h2)
      obtain ⟨h2, h3⟩ := h2
      clear h1
      go_enter Tryd.func53, Tryd.ntmps53
      go_wp2
      go_ret
      refine ⟨ret_int ?_, rfl⟩
      rw [digitOf_some hl.out]
      omega
    · have hl : Hid (Hex.lo c = none) := Lib.hid (by unfold Hex.lo; rw [if_neg h1]; exact if_neg h2)
      have h1' : c.toNat < 48 ∨ 57 < c.toNat := by omega
      have h2' : c.toNat < 97 ∨ 102 < c.toNat := by omega
      clear h1 h2
      rcases h1' with h1 | h1 <;> rcases h2' with h2 | h2
      all_goals first
        | (exfalso; omega)
        | (go_enter Tryd.func53, Tryd.ntmps53
           go_wp2
           go_ret
           exact ⟨ret_int (digitOf_none hl.out).symm, rfl⟩)

theorem pl_cons {acc : Nat} {c : UInt8} {r : List UInt8} {d : Nat} (h : Hex.lo c = some d) : Hex.pl acc (c :: r) = Hex.pl (16 * acc + d) r := by
  show (match Hex.lo c with | some d => Hex.pl (16 * acc + d) r | none => none) = _
  rw [h]
theorem pl_bad {acc : Nat} {c : UInt8} {r : List UInt8} (h : Hex.lo c = none) : Hex.pl acc (c :: r) = none := by
  show (match Hex.lo c with | some d => Hex.pl (16 * acc + d) r | none => none) = _
  rw [h]

set_option maxHeartbeats 1000000 in
theorem rread_any (s : ByteArray) (w : World) (hs : s.size ≤ maxLen) :
    Calls Tryd.prog 38 #[.string s] w fun e w' => e = .returned (.tuple #[.int .u64 ((readAns s).1 : Nat), .int .i64 (readAns s).2]) ∧ w = w' := by
  unfold maxLen at hs
  by_cases h : s.size = 16
  · have hb16 : ((s.size : Int) != 16) = false := by rw [bne_eq_false_iff_eq]; omega
    obtain ⟨r, hr⟩ : ∃ r, r = readAns s := ⟨_, rfl⟩
    rw [← hr]
    have h1 := Lib.hid (readAns_none (s := s))
    have h2 := Lib.hid (fun n hp hm => readAns_some (n := n) h hp hm)
    have h3 := Lib.hid (fun n hp hm => readAns_nan (s := s) (n := n) hp hm)
    rw [← hr] at h1 h2 h3
    have hsz : s.size ≤ 16 := by omega
    have hsz2 : 16 ≤ s.size := by omega
    have HR := Lib.hid hr
    clear hr h
    have hln : s.data.toList.length = s.size := by rw [Array.length_toList]; rfl
    have HLn := Lib.hid hln
    clear hln
    go_enter Tryd.func38, Tryd.ntmps38
    go_wp2_with fail
    go_loop [4, 5] (fun vb vi => ∃ (k acc : Nat) (a : Int), k ≤ 16 ∧ vb = .int .u64 a ∧ vi = .int .i64 k ∧ Hid (a = (acc : Int) ∧ acc < 16 ^ k ∧ Hex.pl 0 s.data.toList = Hex.pl acc (s.data.toList.drop k))) (fun _ vi => 16 - (intOf vi).toNat)
    case atStart => exact ⟨0, 0, 0, by omega, rfl, rfl, Lib.hid ⟨rfl, by decide, rfl⟩⟩
    case round =>
      obtain ⟨k, acc, a, hk, rfl, rfl, hh⟩ := hrel
      obtain ⟨ha, hacc, hdec⟩ := hh.out
      clear hh
      by_cases hlt : k < 16
      · have hsmall := pow_fifteen hacc hlt
        have a0 : 0 ≤ a := by omega
        have a1 : a < 1152921504606846976 := by omega
        clear hsmall
        have hks : k < s.size := by omega
        have hdrop : s.data.toList.drop k = s[k] :: s.data.toList.drop (k + 1) := by
          rw [List.drop_eq_getElem_cons (by rw [HLn.out]; exact hks)]
          simp
          rfl
        rw [hdrop] at hdec
        clear hdrop
        cases hc : Hex.lo s[k] with
        | none =>
          rw [pl_bad hc] at hdec
          have HA := Lib.hid (h1.out hdec)
          have HD := Lib.hid (fun w => rdigit_any s[k] w)
          rw [digitOf_none hc] at HD
          clear hdec hacc ha hc
          go_wp2_with (go_at_call 53; refine (HD.out _).mono ?_; rintro e w' ⟨rfl, rfl⟩)
          go_ret2
          exact ⟨by rw [HA.out]; rfl, rfl⟩
        | some d =>
          have hd := Hex.lo_lt hc
          rw [pl_cons hc] at hdec
          have HD := Lib.hid (fun w => rdigit_any s[k] w)
          rw [digitOf_some hc] at HD
          have HN : Hid (16 * a + (d : Int) = ((16 * acc + d : Nat) : Int) ∧ 16 * acc + d < 16 ^ (k + 1) ∧ Hex.pl 0 s.data.toList = Hex.pl (16 * acc + d) (s.data.toList.drop (k + 1))) := Lib.hid ⟨by omega, Hex.ps_step hacc hd, hdec⟩
          clear hdec hacc ha hc
          go_wp2_with (go_at_call 53; refine (HD.out _).mono ?_; rintro e w' ⟨rfl, rfl⟩)
          go_round
          case rel => exact ⟨k + 1, 16 * acc + d, 16 * a + (d : Int), by omega, rfl, by go_num, HN⟩
          case measure => simp [intOf]; omega
      · obtain rfl : k = 16 := by omega
        rw [List.drop_eq_nil_of_le (by rw [HLn.out]; omega)] at hdec
        have hdec2 : Hex.pl 0 s.data.toList = some acc := hdec
        subst ha
        have hb : acc < 18446744073709551616 := by omega
        have HM := Lib.hid (fun w => rmake_any acc w hb)
        by_cases hm : Num.M acc = acc
        · have HA := Lib.hid (h2.out acc hdec2 hm)
          rw [hm] at HM
          clear hm hdec hdec2 hacc
          go_wp2_with fail
          refine (HM.out _).mono ?_; rintro e w' ⟨rfl, rfl⟩
          go_wp2_with fail
          go_ret2
          exact ⟨by rw [HA.out]; rfl, rfl⟩
        · have HA := Lib.hid (h3.out acc hdec2 hm)
          have hne : ((acc : Int) != (Num.M acc : Nat)) = true := by rw [bne_iff_ne]; omega
          clear hm hdec hdec2 hacc
          generalize Num.M acc = m at *
          go_wp2_with fail
          refine (HM.out _).mono ?_; rintro e w' ⟨rfl, rfl⟩
          go_wp2_with fail
          go_ret2
          exact ⟨by rw [HA.out]; rfl, rfl⟩
  · have hb16 : ((s.size : Int) != 16) = true := by rw [bne_iff_ne]; omega
    have HA := Lib.hid (readAns_size h)
    clear h
    go_enter Tryd.func38, Tryd.ntmps38
    go_wp2_with fail
    go_ret2
    exact ⟨by rw [HA.out]; rfl, rfl⟩

end Go.Proofs.YtdhfmapcggohmaaDoor
