/-
  What the reader's methods cut, least and item do: bytes, a number, an item taken off the front, or a panic.
  The reader is a block of its own; its text is no longer than 2^47 bytes.
-/
import Derived.Test.YtllgcfbecioceaaWireItems
import Derived.Deep.OwnRows
namespace Go.Proofs.Ytllgcfbecioceaa
open Go.RowKit

/-- Block g is a reader whose rest is this text. -/
def Rd (w : World) (g : Nat) (s : ByteArray) : Prop := w.heap[g]? = some (.cells #[.string s] 43 (0, 0))
/-- The panic's chain. -/
def gaveUp : List PanicEntry := [{ v := .iface 24 (.int .i64 3), recovered := false }]

section
variable {w w' : World} {g : Nat} {s t : ByteArray}
theorem Rd.lt (h : Rd w g s) : g < w.heap.size := (Array.getElem?_eq_some_iff.1 h).1
theorem Rd.cell (h : Rd w g s) : w.cell? ⟨g, 0, none⟩ = some (.string s) := cell_of_row w g 0 _ _ (0, 0) h
theorem Rd.frozen (h : Rd w g s) : w.frozen? ⟨g, 0, none⟩ = false := by
  unfold Rd at h
  simp [World.frozen?, h]
theorem Rd.set (h : Rd w g s) (t : ByteArray) : Rd (w.setCell ⟨g, 0, none⟩ (.string t)) g t := by
  unfold Rd at h ⊢
  simp [World.setCell, Array.getElem?_modify, h]
theorem Rd.below (h : Rd w g s) (hb : Below w.heap.size w w') : Rd w' g s := (hb.block g h.lt).trans h
theorem grown_set (w : World) (g : Nat) (v : Value) : w.grownBy (w.setCell ⟨g, 0, none⟩ v) (some g) :=
  ⟨rfl, rfl, rfl, by simp [World.setCell], fun i _ hne => Below.heap_setCell w ⟨g, 0, none⟩ v i (by rintro rfl; exact hne rfl)⟩
theorem grown_trans {a b c : World} {r : Option Nat} (h : a.grownBy b r) (k : b.grownBy c r) : a.grownBy c r :=
  ⟨k.os.trans h.os, k.tape.trans h.tape, k.output.trans h.output, Nat.le_trans h.size k.size, fun i hi hne => (k.block i (Nat.lt_of_lt_of_le hi h.size) hne).trans (h.block i hi hne)⟩
theorem grown_below {a b : World} (h : Below a.heap.size a b) (r : Option Nat) : a.grownBy b r := ⟨h.os, h.tape, h.output, h.size, fun i hi _ => h.block i hi⟩
theorem grown_drewN {a b : World} {r : Option Nat} (h : a.grownBy b r) (n : Nat) : a.grownBy (b.drewN n) r := ⟨h.os, h.tape, h.output, h.size, h.block⟩
end

set_option maxHeartbeats 400000 in
theorem cut_ok (g : Nat) (s : ByteArray) (k : Nat) (w : World) (hr : Rd w g s) (hk : k ≤ s.size) (_hs : s.size ≤ 140737488355328) :
    Calls Try.prog 27 #[.pointer (some ⟨g, 0, none⟩), .int .i64 k] w fun e w' => e = .returned (.string (s.extract 0 k)) ∧ w' = w.setCell ⟨g, 0, none⟩ (.string (s.extract k s.size)) := by
  have hc := hr.cell
  have hf := hr.frozen
  go_enter Try.func27, Try.ntmps27
  go_wp2_with fail
  go_ret
  exact ⟨rfl, rfl⟩

set_option maxHeartbeats 400000 in
theorem cut_bad (g : Nat) (s : ByteArray) (k : Nat) (w : World) (hr : Rd w g s) (hk : s.size < k) (_hs : s.size ≤ 140737488355328) :
    Calls Try.prog 27 #[.pointer (some ⟨g, 0, none⟩), .int .i64 k] w fun e w' => e = .panicked gaveUp ∧ w = w' := by
  have hc := hr.cell
  have hf := hr.frozen
  go_enter Try.func27, Try.ntmps27
  go_wp2_with fail
  exact ⟨rfl, rfl, rfl⟩

/-- Taken off the front of a text. -/
theorem txt_take (l : List UInt8) (k : Nat) : (txt l).extract 0 k = txt (l.take k) := by
  apply ByteArray.ext
  simp [txt]
theorem txt_drop (l : List UInt8) (k : Nat) (n : Nat) (hn : n = (txt l).size) : (txt l).extract k n = txt (l.drop k) := by
  subst hn
  apply ByteArray.ext
  rw [txt_size]
  simp [txt]
  exact List.take_of_length_le (by rw [List.length_drop]; exact Nat.le_refl _)
theorem or_low (x c : Nat) (hx : x < 72057594037927936) (hc : c < 256) : bits .or .u64 ((x : Int) * 256) (c : Int) = ((256 * x + c : Nat) : Int) := by
  have h1 : ((x : Int) * 256) = ((256 * x : Nat) : Int) := by omega
  rw [h1, u64_or_nat _ _ (by omega) (by omega)]
  have h2 := Nat.two_pow_add_eq_or_of_lt (i := 8) (b := c) (by omega) x
  rw [show (2 : Nat) ^ 8 = 256 from rfl] at h2
  rw [h2]
theorem V_next (l : List UInt8) (i : Nat) (c : UInt8) (h : l[i]? = some c) : Wire.V (l.take (i + 1)) = 256 * Wire.V (l.take i) + c.toNat := by
  rw [List.take_add_one, h]
  exact Wire.V_snoc _ _
theorem V_take_lt (l : List UInt8) (i : Nat) (h : i ≤ 7) : Wire.V (l.take i) < 72057594037927936 := by
  refine Nat.lt_of_lt_of_le (Wire.V_lt _) ?_
  have : (l.take i).length ≤ 7 := Nat.le_trans (List.length_take_le _ _) h
  exact Nat.pow_le_pow_right (n := 256) (by decide) this

/-- What least leaves: the number, and the reader behind it. -/
def IsNum (g : Nat) (w : World) (u : Nat) (t : List UInt8) (e : Ending) (w' : World) : Prop := e = .returned (.int .u64 u) ∧ Rd w' g (txt t) ∧ w.grownBy w' (some g)
def GaveUp (g : Nat) (w : World) (e : Ending) (w' : World) : Prop := e = .panicked gaveUp ∧ w.grownBy w' (some g)

set_option maxHeartbeats 400000 in
theorem least_none (g : Nat) (l : List UInt8) (k : Nat) (w : World) (hk8 : k ≤ 8) (hr : Rd w g (txt l)) (hs : l.length ≤ 16384) (ht : Wire.takeLeast k l = none) :
    Calls Try.prog 29 #[.pointer (some ⟨g, 0, none⟩), .int .i64 k] w (GaveUp g w) := by
  by_cases hk : l.length < k
  · have HC := Lib.hid (cut_bad g (txt l) k w hr hk (by rw [txt_size]; omega))
    clear ht
    go_enter Try.func29, Try.ntmps29
    go_wp2_with fail
    refine (HC.out).mono ?_; rintro e w' ⟨rfl, rfl⟩
    go_wp2_with fail
    exact ⟨rfl, rfl, World.grownBy.refl _ _⟩
  · have HC := Lib.hid (cut_ok g (txt l) k w hr (by rw [txt_size]; omega) (by rw [txt_size]; omega))
    unfold Wire.takeLeast at ht
    rw [if_neg hk] at ht
    split at ht
    · rename_i h2
      obtain ⟨h0, h1⟩ := h2
      have HG := Lib.hid (grown_set w g (.string ((txt l).extract k (txt l).size)))
      have hz : ((txt l).extract 0 k).size = k := by rw [txt_take, txt_size, List.length_take]; omega
      have hb : ∀ hp : 0 < ((txt l).extract 0 k).size, (((txt l).extract 0 k)[0]'hp).toNat = 0 := by
        rw [txt_take]
        intro hp
        show (List.toArray (l.take k))[0].toNat = 0
        obtain ⟨k, rfl⟩ : ∃ j, k = j + 1 := ⟨k - 1, by omega⟩
        match l, h1 with
        | [], _ => simp at hk
        | c :: l, h1 => simp at h1; simp [h1]
      generalize (txt l).extract 0 k = s at *
      generalize (Value.string ((txt l).extract k (txt l).size)) = vr at *
      clear hr ht
      go_enter Try.func29, Try.ntmps29
      go_wp2_with fail
      refine (HC.out).mono ?_; rintro e w' ⟨rfl, rfl⟩
      go_wp2_with fail
      exact ⟨rfl, rfl, HG.out⟩
    · cases ht

theorem V_byte (s : ByteArray) (i : Nat) (h : i < s.size) : Wire.V (s.data.toList.take (i + 1)) = 256 * Wire.V (s.data.toList.take i) + (s[i]'h).toNat := by
  rw [List.take_succ_eq_append_getElem (by simpa using h)]
  exact Wire.V_snoc _ _

set_option maxHeartbeats 800000 in
theorem least_loop (g : Nat) (s : ByteArray) (k : Nat) (w w1 : World) (hk8 : k ≤ 8) (hz : s.size = k)
    (HC : Hid (Calls Try.prog 27 #[.pointer (some ⟨g, 0, none⟩), .int .i64 k] w fun e w' => e = .returned (.string s) ∧ w1 = w'))
    (hb : ∀ hp : 0 < s.size, ((((s[0]'hp).toNat : Nat) : Int) == 0) = false) :
    Calls Try.prog 29 #[.pointer (some ⟨g, 0, none⟩), .int .i64 k] w fun e w' => e = .returned (.int .u64 (Wire.V s.data.toList : Nat)) ∧ w1 = w' := by
  by_cases hk0 : k = 0
  · subst hk0
    have hs : Hid (Wire.V s.data.toList = 0) := Lib.hid (by
      have : s.data.toList = [] := List.eq_nil_of_length_eq_zero (by rw [Array.length_toList]; exact hz)
      rw [this]; rfl)
    clear hb
    go_enter Try.func29, Try.ntmps29
    go_wp2_with fail
    refine (HC.out).mono ?_; rintro e w' ⟨rfl, rfl⟩
    go_wp2_with fail
    refine wp_loop_rounds 1 ?_; rw [rounds_succ]
    go_wp2_with fail
    go_ret
    exact ⟨ret_int (by rw [hs.out]; rfl), rfl⟩
  · have hpos : 0 < k := by omega
    have HV := Lib.hid (V_byte s)
    go_enter Try.func29, Try.ntmps29
    go_wp2_with fail
    refine (HC.out).mono ?_; rintro e w' ⟨rfl, rfl⟩
    go_wp2_with fail
    clear hb
    go_loop [6, 20] (fun vu vi => ∃ i : Nat, i ≤ k ∧ vi = .int .i64 i ∧ vu = .int .u64 (Wire.V (s.data.toList.take i) : Nat)) (fun _ vi => k - (intOf vi).toNat)
    case atStart => exact ⟨0, Nat.zero_le _, rfl, rfl⟩
    case round =>
      obtain ⟨i, hi, rfl, rfl⟩ := hrel
      by_cases hlt : i < k
      · have hx := V_take_lt s.data.toList i (by omega)
        have hVi := HV.out i (by omega)
        have hcl := (s[i]'(by omega)).toNat_lt
        have HO := Lib.hid (or_low _ _ hx hcl)
        have HVi := Lib.hid hVi
        have HW : Hid (IntKind.u64.wrap ((s[i]'(by omega)).toNat : Int) = ((s[i]'(by omega)).toNat : Int)) := Lib.hid (IntWalk.u64_in _ (by omega))
        clear hVi hcl
        generalize Wire.V (s.data.toList.take i) = x at *
        go_wp2_with fail
        refine ⟨⟨i + 1, by omega, by go_num, ?_⟩, by simp [intOf]; omega⟩
        rw [HVi.out, HW.out]
        exact congrArg (Value.int IntKind.u64) HO.out
      · obtain rfl : i = k := by omega
        have HT : Hid (s.data.toList.take i = s.data.toList) := Lib.hid (List.take_of_length_le (by rw [Array.length_toList]; exact Nat.le_of_eq hz))
        go_wp2_with fail
        go_ret
        exact ⟨ret_int (by rw [HT.out]), rfl⟩

theorem least_some (g : Nat) (l t : List UInt8) (k u : Nat) (w : World) (hk8 : k ≤ 8) (hr : Rd w g (txt l)) (hs : l.length ≤ 16384) (ht : Wire.takeLeast k l = some (u, t)) :
    Calls Try.prog 29 #[.pointer (some ⟨g, 0, none⟩), .int .i64 k] w (IsNum g w u t) := by
  unfold Wire.takeLeast at ht
  split at ht
  · cases ht
  · rename_i hk
    split at ht
    · cases ht
    · rename_i h2
      cases ht
      have hz : (txt (l.take k)).size = k := by rw [txt_size, List.length_take]; omega
      have hc := cut_ok g (txt l) k w hr (by rw [txt_size]; omega) (by rw [txt_size]; omega)
      rw [txt_take, txt_drop l k _ rfl] at hc
      refine (least_loop g (txt (l.take k)) k w (w.setCell ⟨g, 0, none⟩ (.string (txt (l.drop k)))) hk8 hz (Lib.hid (hc.mono fun e w' ⟨h1, h2⟩ => ⟨h1, h2.symm⟩)) ?_).mono ?_
      · intro hp
        rw [beq_eq_false_iff_ne]
        intro e
        apply h2
        refine ⟨by omega, ?_⟩
        have hk0 : 0 < k := by omega
        obtain ⟨k, rfl⟩ : ∃ j, k = j + 1 := ⟨k - 1, by omega⟩
        match l, hk with
        | [], hk => simp at hk
        | c :: l, _ =>
          have e2 : (c.toNat : Int) = 0 := e
          have : c.toNat = 0 := by omega
          exact UInt8.toNat_inj.1 this
      · rintro e w' ⟨he, rfl⟩
        exact ⟨he, hr.set _, grown_set _ _ _⟩

end Go.Proofs.Ytllgcfbecioceaa
