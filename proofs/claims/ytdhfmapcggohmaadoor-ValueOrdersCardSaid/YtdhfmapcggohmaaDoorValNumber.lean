/-
  What the document's own Number returns, for every text: the number whose digits it is, or that there is none.
  No condition but that the text is no longer than a text can be.
-/
import Derived.Test.YtdhfmapcggohmaaDoorValDigits
import Derived.Test.YtdhfmapcggohmaaDoorValUndec
import Derived.WalkKit
import Derived.WalkSpells
import Derived.WalkLawsBesides
import Derived.Handy
import Derived.Deep.QuietTactic
import Derived.BigQuiet
import Derived.Deep.Draws
import Derived.Lib.Hide
namespace Go.Proofs.YtdhfmapcggohmaaDoor
open Go.RowKit

theorem inR_wrap (z : Int) : Val.inR (IntKind.i64.wrap z) := by unfold Val.inR; rw [IntKind.wrap_i64]; omega
theorem inR_wrap64 (z : Int) : Val.inR (wrap64 z) := by unfold Val.inR wrap64; omega
theorem vl_body (l : List UInt8) : Val.vl l = Val.vl (Val.body l) := by
  unfold Val.body
  split
  · next h =>
    cases l with
    | nil => rfl
    | cons a r => simp at h; subst h; rfl
  · rfl
theorem rd_all {l : List UInt8} {m : Int} (h : Val.rd l = some m) : (Val.body l).all Val.isd = true := by
  cases e : (Val.body l).all Val.isd with
  | true => rfl
  | false =>
    have : Val.rd l = none := if_pos (.inr (.inr e))
    rw [this] at h; cases h
theorem rd_chars {l : List UInt8} {m : Int} (h : Val.rd l = some m) {i : Nat} {c : UInt8} (hc : l[i]? = some c) : (i = 0 ∧ c = 45) ∨ Val.isd c = true := by
  have ha := rd_all h
  unfold Val.body at ha
  split at ha
  · next h45 =>
    cases l with
    | nil => cases h45
    | cons a r =>
      simp at h45
      subst h45
      cases i with
      | zero => left; exact ⟨rfl, by simpa using hc.symm⟩
      | succ i => right; exact List.all_eq_true.1 ha c (List.mem_of_getElem? (i := i) (by simpa using hc))
  · right; exact List.all_eq_true.1 ha c (List.mem_of_getElem? hc)
theorem rd_vl {l : List UInt8} {m : Int} (h : Val.rd l = some m) : Val.vl l = m.natAbs ∧ (m = -(Val.vl l : Int) ∧ l.head? = some 45 ∨ m = (Val.vl l : Int) ∧ ¬ l.head? = some 45 ∧ Val.vl l < 9223372036854775808) := by
  rw [vl_body]
  unfold Val.rd at h
  split at h
  · cases h
  · split at h
    · next h45 =>
      split at h
      · have e := Option.some.inj h
        exact ⟨by omega, .inl ⟨e.symm, h45⟩⟩
      · cases h
    · next h45 =>
      split at h
      · have e := Option.some.inj h
        exact ⟨by omega, .inr ⟨e.symm, h45, by omega⟩⟩
      · cases h
def Told (s : ByteArray) (r : Bool) (w : World) (e : Ending) (w' : World) : Prop := ∃ t : ByteArray, e = .returned (.string t) ∧ (t.toList == s.toList) = r ∧ Below w.heap.size w w'
theorem told_none {s : ByteArray} (h : Val.rd s.data.toList = none) (n : Int) (hn : Val.inR n) (w : World) : Calls Tryd.prog 35 #[.int .i64 n] w (Told s false w) :=
  (digits_is n w hn).mono fun e w' ⟨he, hb⟩ => ⟨_, he, (by
    rw [beq_eq_false_iff_ne, ByteArray.toList_eq, ByteArray.toList_eq, Val.of_toList]
    intro e2
    have := Val.rd_dec hn
    rw [e2, h] at this
    cases this), hb⟩
theorem told_some {s : ByteArray} {m : Int} (h : Val.rd s.data.toList = some m) (w : World) : Calls Tryd.prog 35 #[.int .i64 m] w (Told s true w) :=
  (digits_is m w (Val.rd_some h).2).mono fun e w' ⟨he, hb⟩ => ⟨_, he, (by
    rw [ByteArray.toList_eq, ByteArray.toList_eq, Val.of_toList, ← (Val.rd_some h).1]
    simp), hb⟩

set_option maxRecDepth 100000 in
set_option maxHeartbeats 3200000 in
theorem number_bad (s : ByteArray) (w : World) (hs : s.size ≤ 20) (h1 : ¬ s.size = 0) (h : Val.rd s.data.toList = none) :
    Calls Tryd.prog 40 #[.string s] w fun e w' => IsNum none e ∧ Below w.heap.size w w' := by
  have hsize : s.data.toList.length = s.size := by rw [Array.length_toList]; rfl
  have HSz := Lib.hid hsize
  have HD := Lib.hid (fun n hn w => told_none h n hn w)
  obtain ⟨c0, hc0⟩ : ∃ c, s.data.toList[0]? = some c := ⟨_, List.getElem?_eq_getElem (by omega)⟩
  have hx0 := index_at s 0 0 rfl c0 hc0
  have HC0 := Lib.hid hc0
  obtain ⟨e1, e2⟩ := str_some h1
  have hsz : (s.size : Int) ≤ 20 := by omega
  clear hsize h hc0
  go_enter Tryd.func40, Tryd.ntmps40
  go_wp2_with fail
  go_loop [4, 5] (fun vn vi => ∃ (k : Nat) (x : Int), k ≤ s.size ∧ vn = .int .i64 x ∧ vi = .int .i64 k ∧ Hid (Val.inR x)) (fun _ vi => s.size - (intOf vi).toNat)
  case atStart => exact ⟨0, 0, Nat.zero_le _, rfl, rfl, Lib.hid (by unfold Val.inR; omega)⟩
  case round =>
    obtain ⟨k, x, hk, rfl, rfl, hx⟩ := hrel
    by_cases hlt : k < s.size
    · obtain ⟨c, hck⟩ : ∃ c, s.data.toList[k]? = some c := ⟨_, List.getElem?_eq_getElem (by rw [HSz.out]; exact hlt)⟩
      have hxk := index_at s k k rfl c hck
      have hcb := c.toNat_lt
      by_cases hm : k = 0 ∧ c.toNat = 45
      · obtain ⟨rfl, hm⟩ := hm
        have : c0 = c := Option.some.inj (HC0.out.symm.trans hck)
        subst this
        have q1 : (c0.toNat : Int) = 45 := by omega
        rw [q1] at hx0
        clear hck hxk
        go_wp2_with fail
        exact ⟨⟨1, x, by omega, rfl, rfl, hx⟩, by simp [intOf]; omega⟩
      · have hg : ((k : Int) == 0) = false ∨ (k = 0 ∧ c0 = c ∧ ((c0.toNat : Int) == 45) = false) := by
          by_cases hk0 : k = 0
          · right
            subst hk0
            have : c0 = c := Option.some.inj (HC0.out.symm.trans hck)
            subst this
            refine ⟨rfl, rfl, ?_⟩
            rw [beq_eq_false_iff_ne]
            intro e
            exact hm ⟨rfl, by omega⟩
          · left; rw [beq_eq_false_iff_ne]; omega
        clear hm hck
        by_cases hd1 : c.toNat < 48
        · have d1 : (c.toNat : Int) < 48 := by omega
          rcases hg with hg | ⟨rfl, rfl, hg2⟩
          all_goals
            go_wp2_with fail
            go_ret2
            exact ⟨isNum_none rfl _, Below.refl _ _⟩
        · have d1 : ¬ (c.toNat : Int) < 48 := by omega
          by_cases hd2 : 57 < c.toNat
          · have d2 : 57 < (c.toNat : Int) := by omega
            rcases hg with hg | ⟨rfl, rfl, hg2⟩
            all_goals
              go_wp2_with fail
              go_ret2
              exact ⟨isNum_none rfl _, Below.refl _ _⟩
          · have d2 : ¬ 57 < (c.toNat : Int) := by omega
            rcases hg with hg | ⟨rfl, rfl, hg2⟩
            · go_wp2_with fail
              exact ⟨⟨k + 1, _, by omega, rfl, by go_num, Lib.hid (inR_wrap64 _)⟩, by simp [intOf]; omega⟩
            · go_wp2_with fail
              exact ⟨⟨1, _, by omega, rfl, rfl, Lib.hid (inR_wrap64 _)⟩, by simp [intOf]; omega⟩
    · obtain rfl : k = s.size := by omega
      by_cases hm : c0.toNat = 45
      · have q1 : (c0.toNat : Int) = 45 := by omega
        rw [q1] at hx0
        have HX := Lib.hid (fun w => HD.out x hx.out w)
        go_wp2_with fail
        refine (HX.out _).mono ?_; rintro e w1 ⟨t, rfl, ht, hb⟩
        have HB := Lib.hid hb
        clear hb
        go_wp2_with fail
        go_ret2
        exact ⟨isNum_none rfl _, HB.out⟩
      · have q1 : ((c0.toNat : Int) != 45) = true := ne_true (by omega)
        go_wp2_with fail
        refine (HD.out _ (inR_wrap64 _) _).mono ?_; rintro e w1 ⟨t, rfl, ht, hb⟩
        have HB := Lib.hid hb
        clear hb
        go_wp2_with fail
        go_ret2
        exact ⟨isNum_none rfl _, HB.out⟩

set_option maxRecDepth 100000 in
set_option maxHeartbeats 3200000 in
theorem number_good (s : ByteArray) (m : Int) (w : World) (hs : s.size ≤ 20) (h1 : ¬ s.size = 0) (h : Val.rd s.data.toList = some m) :
    Calls Tryd.prog 40 #[.string s] w fun e w' => IsNum (some m) e ∧ Below w.heap.size w w' := by
  have hsize : s.data.toList.length = s.size := by rw [Array.length_toList]; rfl
  have HSz := Lib.hid hsize
  have HD := Lib.hid (fun w => told_some h w)
  have HCh := Lib.hid (fun i c (hc : s.data.toList[i]? = some c) => rd_chars h hc)
  obtain ⟨hvl, hv2⟩ := rd_vl h
  have hR := (Val.rd_some h).2
  unfold Val.inR at hR
  have HV : Hid (Val.vl s.data.toList ≤ 9223372036854775808) := Lib.hid (by omega)
  obtain ⟨c0, hc0⟩ : ∃ c, s.data.toList[0]? = some c := ⟨_, List.getElem?_eq_getElem (by omega)⟩
  have hhead : s.data.toList.head? = some c0 := by rw [List.head?_eq_getElem?]; exact hc0
  have hx0 := index_at s 0 0 rfl c0 hc0
  have HC0 := Lib.hid hc0
  have HV2 := Lib.hid hv2
  have HHd := Lib.hid hhead
  obtain ⟨e1, e2⟩ := str_some h1
  have hsz : (s.size : Int) ≤ 20 := by omega
  clear hsize h hc0 hvl hv2 hhead hR
  go_enter Tryd.func40, Tryd.ntmps40
  go_wp2_with fail
  go_loop [4, 5] (fun vn vi => ∃ (k v : Nat), k ≤ s.size ∧ vn = .int .i64 (-(v : Int)) ∧ vi = .int .i64 k ∧ v ≤ 9223372036854775808 ∧ Hid (Val.vl (s.data.toList.take k) = v)) (fun _ vi => s.size - (intOf vi).toNat)
  case atStart => exact ⟨0, 0, Nat.zero_le _, rfl, rfl, by decide, Lib.hid rfl⟩
  case round =>
    obtain ⟨k, v, hk, rfl, rfl, hv, hx⟩ := hrel
    by_cases hlt : k < s.size
    · obtain ⟨c, hck⟩ : ∃ c, s.data.toList[k]? = some c := ⟨_, List.getElem?_eq_getElem (by rw [HSz.out]; exact hlt)⟩
      have hxk := index_at s k k rfl c hck
      have hcb := c.toNat_lt
      have htk := Val.take_one hck
      have hva := Val.vl_append (s.data.toList.take k) c
      rw [← htk, hx.out] at hva
      have hge := Val.vl_ge (s.data.toList.take (k + 1)) (s.data.toList.drop (k + 1))
      rw [List.take_append_drop, hva] at hge
      have hvn : 10 * v + (c.toNat - 48) ≤ 9223372036854775808 := Nat.le_trans hge HV.out
      have HVA := Lib.hid hva
      clear hge hva htk
      by_cases hm : k = 0 ∧ c.toNat = 45
      · obtain ⟨rfl, hm⟩ := hm
        have : c0 = c := Option.some.inj (HC0.out.symm.trans hck)
        subst this
        have q1 : (c0.toNat : Int) = 45 := by omega
        rw [q1] at hx0
        have hv0 : v = 0 := by have := hx.out; rw [List.take_zero] at this; exact this.symm
        subst hv0
        rw [hm] at HVA
        clear hck hxk
        go_wp2_with fail
        exact ⟨⟨1, 0, by omega, rfl, rfl, by decide, HVA⟩, by simp [intOf]; omega⟩
      · have hg : ((k : Int) == 0) = false ∨ (k = 0 ∧ c0 = c ∧ ((c0.toNat : Int) == 45) = false) := by
          by_cases hk0 : k = 0
          · right
            subst hk0
            have : c0 = c := Option.some.inj (HC0.out.symm.trans hck)
            subst this
            refine ⟨rfl, rfl, ?_⟩
            rw [beq_eq_false_iff_ne]
            intro e
            exact hm ⟨rfl, by omega⟩
          · left; rw [beq_eq_false_iff_ne]; omega
        have hd : 48 ≤ c.toNat ∧ c.toNat ≤ 57 := by
          rcases HCh.out k c hck with ⟨h1, h2⟩ | h2
          · exact absurd ⟨h1, by rw [h2]; rfl⟩ hm
          · unfold Val.isd at h2; simpa using h2
        obtain ⟨d1, d2⟩ := hd
        have d3 : ¬ (c.toNat : Int) < 48 := by omega
        have d4 : ¬ 57 < (c.toNat : Int) := by omega
        clear hm hck hx
        rcases hg with hg | ⟨rfl, rfl, hg2⟩
        · go_wp2_with fail
          exact ⟨⟨k + 1, 10 * v + (c.toNat - 48), by omega, by congr 1; omega, by go_num, hvn, HVA⟩, by simp [intOf]; omega⟩
        · go_wp2_with fail
          exact ⟨⟨1, 10 * v + (c0.toNat - 48), by omega, by congr 1; omega, rfl, hvn, HVA⟩, by simp [intOf]; omega⟩
    · obtain rfl : k = s.size := by omega
      have hvw : Val.vl s.data.toList = v := by
        have := hx.out
        rwa [List.take_of_length_le (by rw [HSz.out]; exact Nat.le_refl _)] at this
      rcases HV2.out with ⟨hm, h45⟩ | ⟨hm, h45, hlt2⟩
      · have q0 : c0 = 45 := Option.some.inj (HHd.out.symm.trans h45)
        have q1 : (c0.toNat : Int) = 45 := by rw [q0]; rfl
        rw [q1] at hx0
        rw [hvw] at hm
        subst hm
        clear hvw h45 q0 hx
        go_wp2_with fail
        refine (HD.out _).mono ?_; rintro e w1 ⟨t, rfl, ht, hb⟩
        have HB := Lib.hid hb
        clear hb
        go_wp2_with fail
        go_ret2
        exact ⟨isNum_some rfl, HB.out⟩
      · have q1 : ((c0.toNat : Int) != 45) = true := ne_true (fun e => h45 (by
          rw [HHd.out]
          have : c0 = 45 := UInt8.toNat_inj.1 (by
            have h : (45 : UInt8).toNat = 45 := rfl
            rw [h]; omega)
          rw [this]))
        rw [hvw] at hm hlt2
        subst hm
        have hwr : IntKind.i64.wrap (- -(v : Int)) = (v : Int) := by rw [Int.neg_neg]; exact IntWalk.i64_in _ (by omega)
        clear hvw h45 hx
        go_wp2_with fail
        refine (HD.out _).mono ?_; rintro e w1 ⟨t, rfl, ht, hb⟩
        have HB := Lib.hid hb
        clear hb
        go_wp2_with fail
        go_ret2
        exact ⟨isNum_some rfl, HB.out⟩

set_option maxHeartbeats 800000 in
theorem number_is (s : ByteArray) (w : World) (hs : s.size ≤ maxLen) :
    Calls Tryd.prog 40 #[.string s] w fun e w' => IsNum (Val.rd s.data.toList) e ∧ Below w.heap.size w w' := by
  unfold maxLen at hs
  by_cases h0 : s.size = 0
  · have hn : Val.rd s.data.toList = none := Val.rd_none_empty (by rw [Val.size_zero h0]; rfl)
    rw [hn]
    obtain ⟨e1, e2⟩ := str_none h0
    clear h0
    go_enter Tryd.func40, Tryd.ntmps40
    go_wp2_with fail
    go_ret2
    exact ⟨isNum_none rfl _, Below.refl _ _⟩
  · by_cases h20 : s.size ≤ 20
    · cases hr : Val.rd s.data.toList with
      | none => exact number_bad s w h20 h0 hr
      | some m => exact number_good s m w h20 h0 hr
    · have hn : Val.rd s.data.toList = none := by
        cases hr : Val.rd s.data.toList with
        | none => rfl
        | some m =>
          have := Val.rd_len hr
          rw [Array.length_toList] at this
          exact absurd this h20
      rw [hn]
      obtain ⟨e1, e2⟩ := str_some h0
      have h21 : 20 < (s.size : Int) := by omega
      clear h0 h20
      go_enter Tryd.func40, Tryd.ntmps40
      go_wp2_with fail
      go_ret2
      exact ⟨isNum_none rfl _, Below.refl _ _⟩
end Go.Proofs.YtdhfmapcggohmaaDoor
