/-
  The law CrcBursts: it returns true whatever is handed in.
  No condition but the form's own reach of a string (2^47 - 4096 bytes).
-/
import Derived.Test.YtldfldfmoiiciaaCrcLaws
namespace Go.Proofs.Ytldfldfmoiiciaa
open Go.RowKit

namespace Crc
/-- A text of which up to k neighbouring bytes from p on are turned by t's bytes. -/
def turned (l : List UInt8) (p t : Nat) : Nat → List UInt8
  | 0 => l
  | k + 1 => if p + k < l.length then (turned l p t k).set (p + k) ((turned l p t k).getD (p + k) 0 ^^^ UInt8.ofNat (t / 2 ^ (8 * k))) else turned l p t k
theorem turned_length (l : List UInt8) (p t : Nat) : ∀ k, (turned l p t k).length = l.length
  | 0 => rfl
  | k + 1 => by
    unfold turned
    split
    · rw [List.length_set]; exact turned_length l p t k
    · exact turned_length l p t k
theorem turned_take (l : List UInt8) (p t : Nat) : ∀ k, (turned l p t k).take p = l.take p
  | 0 => rfl
  | k + 1 => by
    unfold turned
    split
    · rw [List.take_set_of_le (by omega)]; exact turned_take l p t k
    · exact turned_take l p t k
theorem turned_drop (l : List UInt8) (p t : Nat) : ∀ k, k ≤ 4 → (turned l p t k).drop (p + 4) = l.drop (p + 4)
  | 0, _ => rfl
  | k + 1, h => by
    unfold turned
    split
    · rw [List.drop_set_of_lt (by omega)]; exact turned_drop l p t k (by omega)
    · exact turned_drop l p t k (by omega)
theorem parts (l : List UInt8) (p : Nat) : l = l.take p ++ (l.drop p).take 4 ++ l.drop (p + 4) := by
  rw [← List.drop_drop, List.append_assoc, List.take_append_drop, List.take_append_drop]
theorem turned_sum (l : List UInt8) (p t : Nat) (h : more 0 (turned l p t 4) = more 0 l) : turned l p t 4 = l := by
  have h1 := parts (turned l p t 4) p
  have h2 := parts l p
  rw [turned_take, turned_drop l p t 4 (by omega)] at h1
  have h3 : more 0 (l.take p ++ ((turned l p t 4).drop p).take 4 ++ l.drop (p + 4)) = more 0 (l.take p ++ (l.drop p).take 4 ++ l.drop (p + 4)) := by
    rw [← h1, ← h2]; exact h
  have h4 := more_burst 0 _ _ _ _ (by simp; omega) (by simp [turned_length]) h3
  rw [h1, h4, ← h2]
end Crc

theorem bytes_ext {a b : ByteArray} (h : a.toList = b.toList) : a = b := by
  rw [ByteArray.toList_eq, ByteArray.toList_eq] at h
  exact Go.WideShapes.bytes_inj h

/-- Block B holds the bytes l, and they may be written. -/
def Owns (w : World) (B : Nat) (l : List UInt8) : Prop := ∀ j, j < l.length → w.cell? ⟨B, j, none⟩ = some (.int .u8 ((l.getD j 0).toNat : Int)) ∧ w.frozen? ⟨B, j, none⟩ = false

theorem Owns.set {w : World} {B : Nat} {l : List UInt8} (h : Owns w B l) (i : Nat) (hi : i < l.length) (x : UInt8) (n : Int) (hn : n = (x.toNat : Int)) : Owns (w.setCell ⟨B, i, none⟩ (.int .u8 n)) B (l.set i x) := by
  subst hn
  intro j hj
  rw [List.length_set] at hj
  obtain ⟨h1, h2⟩ := h j hj
  obtain ⟨h3, _⟩ := h i hi
  refine ⟨?_, ?_⟩
  · by_cases hij : i = j
    · subst hij
      rw [World.cell?_setCell_same _ _ _ h3]
      simp [List.getD, hi]
    · rw [World.cell?_setCell_other _ _ _ _ (fun e => hij (by injection e)), h1]
      simp [List.getD, hij]
  · rw [World.frozen?_setCell]; exact h2
theorem Owns.drew {w : World} {B : Nat} {l : List UInt8} (h : Owns w B l) : Owns w.drew B l := h
theorem xor_turn (x : UInt8) (t k : Nat) : bits .xor .u8 (x.toNat : Int) ((t : Int) / 2 ^ (8 * k) % 256) = ((x ^^^ UInt8.ofNat (t / 2 ^ (8 * k))).toNat : Int) := by
  have h1 : (t : Int) / 2 ^ (8 * k) % 256 = ((t / 2 ^ (8 * k) % 256 : Nat) : Int) := by simp
  rw [h1, u8_xor_nat _ _ x.toNat_lt (by omega), UInt8.toNat_xor, UInt8.toNat_ofNat']
theorem owns_made (s : ByteArray) (w : World) (c : Nat) (t : TypeId) :
    Owns (w.alloc (.cells (bytesRow s c) t ((bytesRow s c).size, (bytesRow s c).size + 1))).drew w.heap.size s.data.toList := by
  intro j hj
  have hj2 : j < s.data.size := by simpa using hj
  refine ⟨?_, ?_⟩
  · show (w.alloc _).cell? _ = _
    rw [World.cell?_alloc_mark, bytesRow_at s c j hj2]
    simp only [List.getD, Array.getElem?_toList, Array.getElem?_eq_getElem hj2, Option.getD_some]
  · show (w.alloc _).frozen? _ = _
    rw [World.frozen?_alloc_mark]
    have h2 : s.data.size ≤ (bytesRow s c).size := by simp [bytesRow]
    simp; omega
theorem tmod_at (a : Int) (n : Nat) (hn : 0 < n) : ∃ p : Nat, p < n ∧ (IntKind.u64.wrap a).tmod (n : Int) = (p : Int) := by
  rw [IntKind.wrap_u64]
  obtain ⟨m, hm⟩ := Int.eq_ofNat_of_zero_le (show 0 ≤ a % 18446744073709551616 by omega)
  rw [hm]
  exact ⟨m % n, Nat.mod_lt _ hn, rfl⟩

set_option maxHeartbeats 400000 in
theorem bursts_yes (s : ByteArray) (at' : Int) (turn : Nat) (w : World) (hs : s.size ≤ reachBytes) (hpos : 0 < s.size) :
    Lift.Yes Try.prog 6 #[.string s, .int .i64 at', .int .u32 turn] w := by
  have hm := reach_max hs
  rw [reach_num] at hs
  obtain ⟨p, hpn, he⟩ := tmod_at at' s.size hpos
  have hb := fun w => run_bytes_of_string (P := Try.prog) w 9 29 5 s Try.underlying9 Try.underlying29 Try.underlying5
  unfold Lift.Yes
  go_enter Try.func6, Try.ntmps6
  go_wp2_with fail
  go_loopw [8] (fun i wr => ∃ (k : Nat), k ≤ 4 ∧ i = .int .i64 k ∧ Owns wr w.heap.size (Crc.turned s.data.toList p turn k) ∧ Below w.heap.size w wr) (fun i _ => 4 - (intOf i).toNat)
  case atStart => exact ⟨0, by omega, rfl, owns_made _ _ _ _, by go_grown⟩
  case round =>
    obtain ⟨k, hk, rfl, hown, hbel⟩ := hrel
    have hp : (0 : Int) < s.size := by omega
    clear hb
    have hl := Crc.turned_length s.data.toList p turn k
    have hT : Hid (Crc.turned s.data.toList p turn (k + 1) = if p + k < s.data.toList.length then (Crc.turned s.data.toList p turn k).set (p + k) ((Crc.turned s.data.toList p turn k).getD (p + k) 0 ^^^ UInt8.ofNat (turn / 2 ^ (8 * k))) else Crc.turned s.data.toList p turn k) := Lib.hid rfl
    have hz : s.data.toList.length = s.size := by rw [Array.length_toList]; rfl
    rw [hz] at hl hT
    by_cases hlt : k < 4
    · by_cases hq : p + k < s.size
      · obtain ⟨hc, hf⟩ := hown (p + k) (by omega)
        have HO := Lib.hid hown
        clear hown
        generalize Crc.turned s.data.toList p turn k = l at *
        generalize l.getD (p + k) 0 = x at *
        have HL := Lib.hid hl
        have HZ := Lib.hid hz
        clear hl hz
        go_wp2_with fail
        go_region
        all_goals go_wp2_with fail
        all_goals go_roundw
        case rel =>
          refine ⟨k + 1, by omega, by go_num, ?_, ?_⟩
          · rw [hT.out, if_pos hq]
            exact (HO.out.set (p + k) (by rw [HL.out]; exact hq) _ _ (xor_turn x turn k)).drew
          · exact (hbel.setCell (Nat.le_refl _) _).drew
        case measure => simp [intOf]; omega
      · have HO := Lib.hid hown
        clear hown
        generalize Crc.turned s.data.toList p turn k = l at *
        have HL := Lib.hid hl
        have HZ := Lib.hid hz
        clear hl hz
        go_wp2_with fail
        go_roundw
        case rel => exact ⟨k + 1, by omega, by go_num, by rw [hT.out, if_neg hq]; exact HO.out, hbel⟩
        case measure => simp [intOf]; omega
    · obtain rfl : k = 4 := by omega
      have HO := Lib.hid hown
      have HL := Lib.hid hl
      have HZ := Lib.hid hz
      have HT := Lib.hid (Crc.turned_sum s.data.toList p turn)
      clear hown hl hz hT
      generalize Crc.turned s.data.toList p turn 4 = l at *
      go_wp2_with fail
      refine (awake_any _).mono ?_; rintro e w' ⟨rfl, rfl⟩
      have hcv := run_convert_bytes_back (P := Try.prog) wr 29 9 5 ⟨w.heap.size, 0, none⟩ (grownCap w s.size 0 5) l Try.underlying29 Try.underlying5 Try.underlying9 (fun j hj => by
        have h2 := (HO.out j hj).1
        rw [show (⟨w.heap.size, 0, none⟩ : Addr).add j = ⟨w.heap.size, j, none⟩ from by unfold Addr.add; split <;> simp_all, h2]
        simp [List.getD, hj])
      rw [HL.out] at hcv
      obtain ⟨b, hbl⟩ : ∃ b : ByteArray, (⟨l.toArray⟩ : ByteArray) = b := ⟨_, rfl⟩
      have hbl2 : l = b.data.toList := by rw [← hbl]
      rw [hbl] at hcv
      have hbs : b.size ≤ maxLen := by
        have h3 := HL.out
        rw [hbl2, Array.length_toList] at h3
        show b.data.size ≤ maxLen
        rw [h3]; exact hm
      subst hbl2
      clear hbl HL HO HZ
      by_cases hq : b = s
      · subst hq
        go_wp2_with fail
        go_ret
        exact ⟨rfl, hbel⟩
      · have hsn : ((Crc.more 0 b.data.toList : Nat) : Int) ≠ (Crc.more 0 s.data.toList : Nat) := fun h => hq (by
          have h5 := HT.out (Int.ofNat.inj h)
          exact ByteArray.ext (Array.toList_inj.1 h5))
        clear HT
        have hq2 : ¬ b.toList = s.toList := fun h => hq (bytes_ext h)
        go_wp2_with fail
        refine (sum_any _ _ hbs).mono ?_; rintro e w' ⟨rfl, rfl⟩
        go_wp2_with fail
        refine (sum_any _ _ hm).mono ?_; rintro e w' ⟨rfl, rfl⟩
        have hsn2 : (((Crc.more 0 b.data.toList : Nat) : Int) != (Crc.more 0 s.data.toList : Nat)) = true := by rw [bne_iff_ne]; exact hsn
        go_wp2_with fail
        go_ret
        exact ⟨rfl, hbel⟩

theorem empty_of {s : ByteArray} (h : s.size = 0) : s = ⟨#[]⟩ := by
  obtain ⟨a⟩ := s
  have : a = #[] := Array.eq_empty_of_size_eq_zero h
  rw [this]

set_option maxHeartbeats 400000 in
theorem bursts_none (at' : Int) (turn : Int) (w : World) :
    Lift.Yes Try.prog 6 #[.string ⟨#[]⟩, .int .i64 at', .int .u32 turn] w := by
  have hb := fun w => run_bytes_of_string (P := Try.prog) w 9 29 5 ⟨#[]⟩ Try.underlying9 Try.underlying29 Try.underlying5
  have hcv : ∀ (wr : World) (a : Addr) (cap : Nat), (convert 29 9 (.slice (some a) 0 cap)).run Try.prog wr = .ok (.string ⟨#[]⟩) wr := fun (wr : World) (a : Addr) (cap : Nat) => run_convert_bytes_back (P := Try.prog) wr 29 9 5 a cap [] Try.underlying29 Try.underlying5 Try.underlying9 (fun j hj => absurd hj (by simp))
  unfold Lift.Yes
  go_enter Try.func6, Try.ntmps6
  go_wp2_with fail
  refine wp_loop_rounds 1 ?_
  rw [rounds_succ]
  go_wp2_with fail
  refine (awake_any _).mono ?_; rintro e w' ⟨rfl, rfl⟩
  go_wp2_with fail
  go_ret
  exact ⟨rfl, by go_grown⟩

theorem bursts_law (s : ByteArray) (at' : Int) (turn : Int) (w : World) (hs : s.size ≤ reachBytes) (_ha : (Lit.int .i64 at').wf = true) (ht : (Lit.int .u32 turn).wf = true) :
    Lift.Yes Try.prog 6 #[.string s, .int .i64 at', .int .u32 turn] w := by
  by_cases h : s.size = 0
  · rw [empty_of h]
    exact bursts_none at' turn w
  · have hb := bounds_u32 ht
    obtain ⟨t, rfl⟩ := Int.eq_ofNat_of_zero_le hb.1
    exact bursts_yes s at' t w hs (by omega)

end Go.Proofs.Ytldfldfmoiiciaa
