/-
  The law FrameTurned: it returns true whatever is handed in.
  No condition but the form's own reach of a string (2^47 - 4096 bytes).
-/
import Derived.Test.YtjmjmhconkalpaaFrameLaws
import Derived.Test.YtjmjmhconkalpaaTurned
namespace Go.Proofs.Ytjmjmhconkalpaa
open Go.RowKit

theorem cell_box {w w1 : World} {cs : Array Value} {t : TypeId} (hb : Below (w.alloc (.cells cs t)).heap.size (w.alloc (.cells cs t)) w1) {i : Nat} {v : Value} (h : cs[i]? = some v) : w1.cell? ⟨w.heap.size, i, none⟩ = some v := by
  rw [hb.cell (by simp), World.cell?_alloc_new]; exact h
theorem Owns.below {w W : World} {B : Nat} {l : List UInt8} (h : Owns w B l) (hB : B < w.heap.size) (b : Below w.heap.size w W) : Owns W B l := by
  intro j hj
  obtain ⟨h1, h2⟩ := h j hj
  refine ⟨?_, ?_⟩
  · rw [b.cell (by exact hB)]; exact h1
  · have := b.block B hB
    unfold World.frozen? at h2 ⊢
    simp only [this]; exact h2
theorem turned_not {n : Nat} {b : List UInt8} {p t : Nat} (h : Crc.turned (Frame.put n b) p t 4 ≠ Frame.put n b) : (Frame.getOf (Crc.turned (Frame.put n b) p t 4)).2.2 ≠ 0 := by
  intro h0
  obtain ⟨k, b', hl, _⟩ := Frame.getOf_ok h0
  exact h (Crc.turned_sum _ _ _ (by rw [hl, Frame.more_put, Frame.more_put]))

set_option maxHeartbeats 1600000 in
theorem turned_yes (k0 : Int) (s : ByteArray) (at' : Int) (turn : Nat) (w : World) (hs : s.size ≤ reachBytes) :
    Lift.Yes Try.prog 6 #[.int .i64 k0, .string s, .agg #[.int .i64 at', .int .u32 turn]] w := by
  have hm := reach_max hs
  unfold Lift.Yes
  by_cases hx : (Frame.putOf k0 s.data.toList).2 = 0
  · obtain ⟨n, rfl, h1, h2, hb, hp⟩ := Frame.putOf_ok hx
    have hlen := Frame.put_length n s.data.toList
    have HTurn := Lib.hid (fun p => turned_not (n := n) (b := s.data.toList) (p := p) (t := turn))
    have HP := Lib.hid (fun W => put_is n s W hm _ _ hp)
    have hz : s.data.toList.length = s.size := by rw [Array.length_toList]; rfl
    rw [hz] at hlen hb
    clear hx hp hz
    generalize Frame.put n s.data.toList = L at *
    have hT : (Val.of L).size = L.length := Val.of_size _
    have HTL : Hid ((Val.of L).data.toList = L) := Lib.hid (Val.of_toList L)
    obtain ⟨T, hTe⟩ : ∃ T, T = Val.of L := ⟨_, rfl⟩
    rw [← hTe] at HP hT HTL
    have hpos : 8 ≤ T.size := by omega
    have hbig : T.size ≤ 16392 := by omega
    obtain ⟨p, hpn, he⟩ := tmod_at at' T.size (by omega)
    have hcb := fun w => run_bytes_of_string (P := Try.prog) w 9 35 5 T Try.underlying9 Try.underlying35 Try.underlying5
    clear hs hm hlen hb hT
    have HTe := Lib.hid hTe
    clear hTe
    go_enter Try.func6, Try.ntmps6
    go_wp2_with fail
    refine (HP.out _).mono ?_; rintro e w1 ⟨rfl, b1⟩
    have c0 : w1.cell? ⟨w.heap.size, 0, none⟩ = some (.int .i64 at') := cell_box b1 rfl
    have c1 : w1.cell? ⟨w.heap.size, 1, none⟩ = some (.int .u32 turn) := cell_box b1 rfl
    have hsz1 := b1.size
    simp at hsz1
    have HB1 := Lib.hid (((Below.refl w.heap.size w).alloc (Nat.le_refl _) _).trans (b1.mono (by simp)))
    clear b1
    go_wp2_with fail
    go_loopw [10] (fun i wr => ∃ (k : Nat), k ≤ 4 ∧ i = .int .i64 k ∧ Owns wr w1.heap.size (Crc.turned T.data.toList p turn k) ∧ Hid (Below w1.heap.size w1 wr) ∧ w1.heap.size < wr.heap.size) (fun i _ => 4 - (intOf i).toNat)
    case atStart => exact ⟨0, by omega, rfl, owns_made _ _ _ _, Lib.hid (by go_grown), by simp⟩
    case round =>
      obtain ⟨k, hk, rfl, hown, HBr, hBr⟩ := hrel
      have d0 : wr.cell? ⟨w.heap.size, 0, none⟩ = some (.int .i64 at') := (HBr.out.cell (by show w.heap.size < _; omega)).trans c0
      have d1 : wr.cell? ⟨w.heap.size, 1, none⟩ = some (.int .u32 turn) := (HBr.out.cell (by show w.heap.size < _; omega)).trans c1
      have hp : (0 : Int) < T.size := by omega
      clear hcb c0 c1
      have hl := Crc.turned_length T.data.toList p turn k
      have hT : Hid (Crc.turned T.data.toList p turn (k + 1) = if p + k < T.data.toList.length then (Crc.turned T.data.toList p turn k).set (p + k) ((Crc.turned T.data.toList p turn k).getD (p + k) 0 ^^^ UInt8.ofNat (turn / 2 ^ (8 * k))) else Crc.turned T.data.toList p turn k) := Lib.hid rfl
      have hz : T.data.toList.length = T.size := by rw [Array.length_toList]; rfl
      rw [hz] at hl hT
      by_cases hlt : k < 4
      · by_cases hq : p + k < T.size
        · obtain ⟨hc, hf⟩ := hown (p + k) (by omega)
          have HO := Lib.hid hown
          clear hown
          generalize Crc.turned T.data.toList p turn k = l at *
          generalize l.getD (p + k) 0 = x at *
          have HL := Lib.hid hl
          have HZ := Lib.hid hz
          clear hl hz
          go_wp2_with fail
          go_region
          all_goals go_wp2_with fail
          all_goals go_roundw
          case rel =>
            refine ⟨k + 1, by omega, by go_num, ?_, Lib.hid ?_, by simp; omega⟩
            · rw [hT.out, if_pos hq]
              exact (HO.out.set (p + k) (by rw [HL.out]; exact hq) _ _ (xor_turn x turn k)).drew
            · exact (HBr.out.setCell (Nat.le_refl _) _).drew
          case measure => simp [intOf]; omega
        · have HO := Lib.hid hown
          clear hown
          generalize Crc.turned T.data.toList p turn k = l at *
          have HL := Lib.hid hl
          have HZ := Lib.hid hz
          clear hl hz
          go_wp2_with fail
          go_roundw
          case rel => exact ⟨k + 1, by omega, by go_num, by rw [hT.out, if_neg hq]; exact HO.out, HBr, hBr⟩
          case measure => simp [intOf]; omega
      · obtain rfl : k = 4 := by omega
        have HU := HTurn.out p
        rw [← HTL.out] at HU
        have HB2 := Lib.hid (HB1.out.trans (HBr.out.mono (by omega)))
        clear HBr hT d0 d1 HTurn hz
        generalize Crc.turned T.data.toList p turn 4 = l at *
        have hll : l.length = T.size := hl
        have hcv : ∀ (W : World) (c : Nat), Hid (Below wr.heap.size wr W) → (convert 35 9 (.slice (some ⟨w1.heap.size, 0, none⟩) T.size c)).run Try.prog W = .ok (.string (Val.of l)) W := fun W c hW => (hown.below hBr hW.out).text 0 c T.size (by omega)
        have HCV := Lib.hid hcv
        have hcv1 := fun c => hcv wr c (Lib.hid (Below.refl _ _))
        have HG := Lib.hid (fun W => get_any (Val.of l) W (by rw [Val.of_size]; unfold maxLen; omega))
        rw [Val.of_toList] at HG
        clear hcv hown hl
        by_cases hlT : l = T.data.toList
        · have hVT : Val.of l = T := by rw [hlT, Val.of_self]
          rw [hVT] at hcv1 HG HCV
          clear HU hll
          generalize (Frame.getOf l).1 = rk at *
          generalize (Frame.getOf l).2.1 = rb at *
          generalize (Frame.getOf l).2.2 = rx at *
          clear hVT hlT HTL
          go_wp2_with fail
          refine (HG.out _).mono ?_; rintro e w2 ⟨rfl, b2⟩
          have HB3 := Lib.hid (HB2.out.trans (b2.mono HB2.out.size))
          have hw2 := b2.size
          go_wp2_with fail
          refine (awake_any _).mono ?_; rintro e w3 ⟨rfl, b3⟩
          have HB4 := Lib.hid (HB3.out.trans (b3.mono HB3.out.size))
          have hcv3 := fun c => HCV.out w3 c (Lib.hid (b2.trans (b3.mono hw2)))
          clear b2 b3 hcv1
          go_wp2_with fail
          go_ret
          exact ⟨rfl, HB4.out⟩
        · have hU := HU hlT
          obtain ⟨e1, e2⟩ := Frame.getOf_not hU
          rw [e1, e2] at HG
          generalize (Frame.getOf l).2.2 = rx at *
          have hnil : (Val.of []).toList = [] := by rw [ByteArray.toList_eq, Val.of_toList]
          have hxm : (rx != 0) = true := by simpa using hU
          have hne : ((Val.of l).toList == T.toList) = false := by
            rw [ByteArray.toList_eq, ByteArray.toList_eq, Val.of_toList, beq_eq_false_iff_ne]; exact hlT
          clear HU hll hU e1 e2 HTL hlT
          go_wp2_with fail
          refine (HG.out _).mono ?_; rintro e w2 ⟨rfl, b2⟩
          have HB3 := Lib.hid (HB2.out.trans (b2.mono HB2.out.size))
          have hw2 := b2.size
          go_wp2_with fail
          refine (awake_any _).mono ?_; rintro e w3 ⟨rfl, b3⟩
          have HB4 := Lib.hid (HB3.out.trans (b3.mono HB3.out.size))
          have hcv3 := fun c => HCV.out w3 c (Lib.hid (b2.trans (b3.mono hw2)))
          clear b2 b3 hcv1
          go_wp2_with fail
          go_ret
          exact ⟨rfl, HB4.out⟩
  · have hn := Frame.putOf_not hx
    have HP := Lib.hid (fun W => put_is k0 s W hm [] (Frame.putOf k0 s.data.toList).2 (by rw [← hn]))
    generalize (Frame.putOf k0 s.data.toList).2 = x at HP hx
    have hxm : (x != 0) = true := by simpa using hx
    clear hs hm hx hn
    go_enter Try.func6, Try.ntmps6
    go_wp2_with fail
    refine (HP.out _).mono ?_; rintro e w1 ⟨rfl, b1⟩
    have HB1 := Lib.hid (((Below.refl w.heap.size w).alloc (Nat.le_refl _) _).trans (b1.mono (by simp)))
    clear b1
    go_wp2_with fail
    refine (awake_any _).mono ?_; rintro e w3 ⟨rfl, b3⟩
    have HB3 := Lib.hid (HB1.out.trans (b3.mono HB1.out.size))
    clear b3
    go_wp2_with fail
    go_ret
    exact ⟨rfl, HB3.out⟩
end Go.Proofs.Ytjmjmhconkalpaa
