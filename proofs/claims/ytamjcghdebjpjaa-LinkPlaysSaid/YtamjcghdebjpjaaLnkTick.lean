/-
  What Tick returns.
  No condition but that an end has no more payloads than the form's reach, and a first number of no more.
-/
import Derived.Test.YtamjcghdebjpjaaLnkMeet
import Derived.Deep.CutBlock
import Derived.Deep.DeepCutAuto
namespace Go.Proofs.Ytamjcghdebjpjaa
open Go.RowKit

/-- An end, packets of the call's own. -/
def IsT (r : Lnk.L × List Lnk.Pkt) (w : World) (e : Ending) (w' : World) : Prop := ∃ A c A2 c2, e = .returned (.tuple #[.agg (lA (.slice A r.1.out.length c) r.1), .slice A2 r.2.length c2]) ∧ strLay.Own w.heap.size w' (.slice A r.1.out.length c) r.1.out ∧ pktLay.Own w.heap.size w' (.slice A2 r.2.length c2) r.2 ∧ Below w.heap.size w w'
theorem again_len (l : Lnk.L) : ∀ (r : List ByteArray) (i : Int), (Lnk.again l r i).length = r.length
  | [], _ => rfl
  | b :: r, i => by
    unfold Lnk.again
    rw [List.length_cons, List.length_cons, again_len l r]
theorem again_get (l : Lnk.L) : ∀ (r : List ByteArray) (i : Int) (k : Nat) (b : ByteArray), r[k]? = some b → (Lnk.again l r i)[k]? = some (Lnk.pkt l (l.base + (i + k)) b)
  | [], _, _, _, h => by simp at h
  | c :: r, i, 0, b, h => by
    simp at h; subst h
    unfold Lnk.again
    simp
  | c :: r, i, k + 1, b, h => by
    rw [List.getElem?_cons_succ] at h
    unfold Lnk.again
    rw [List.getElem?_cons_succ, again_get l r (i + 1) k b h, show (i + 1 + (k : Int)) = i + ((k + 1 : Nat) : Int) from by push_cast; omega]
theorem again_none (l : Lnk.L) (v : Int) : ∀ (r : List ByteArray) (i : Int), Lnk.again ⟨l.ms, l.mc, l.ps, l.pc, l.out, l.base, l.got, v⟩ r i = Lnk.again l r i
  | [], _ => rfl
  | b :: r, i => by
    unfold Lnk.again
    rw [again_none l v r (i + 1)]
    rfl
theorem tick_is (l : Lnk.L) (retry : Int) : (0 < l.out.length ∧ l.age < 1000 ∧ l.age + 1 < retry ∧ Lnk.tick l retry = (⟨l.ms, l.mc, l.ps, l.pc, l.out, l.base, l.got, l.age + 1⟩, [])) ∨
    ((l.out.length = 0 ∨ (0 < l.out.length ∧ 1000 ≤ l.age) ∨ (0 < l.out.length ∧ l.age < 1000 ∧ retry ≤ l.age + 1)) ∧ Lnk.tick l retry = (⟨l.ms, l.mc, l.ps, l.pc, l.out, l.base, l.got, 0⟩, Lnk.again l l.out 0)) := by
  unfold Lnk.tick
  by_cases h : l.out = []
  · rw [if_pos h]
    refine .inr ⟨.inl (by rw [h]; rfl), ?_⟩
    rw [h]; rfl
  · rw [if_neg h]
    have h0 : 0 < l.out.length := List.length_pos_iff.2 h
    by_cases h2 : l.age < 1000 ∧ l.age + 1 < retry
    · rw [if_pos h2]; exact .inl ⟨h0, h2.1, h2.2, rfl⟩
    · rw [if_neg h2]; exact .inr ⟨by omega, rfl⟩
set_option maxHeartbeats 3200000 in
theorem tick_any (A : Option Addr) (c : Nat) (l : Lnk.L) (retry : Int) (w : World) (hi : In w A l) (hb : 1 ≤ l.base ∧ l.base ≤ 1000000) (ha : 0 ≤ l.age ∧ l.age ≤ 1000) :
    Calls Try.prog 26 #[.agg (lA (.slice A l.out.length c) l), .int .i64 retry] w (IsT (Lnk.tick l retry) w) := by
  have HO := own_pre c hi
  have hs := tick_is l retry
  have hL := hi.2.2
  have HLen := Lib.hid (again_len l l.out 0)
  have HGet := Lib.hid (again_get l l.out 0)
  generalize Lnk.again l l.out 0 = ag at *
  generalize Lnk.tick l retry = r at *
  obtain ⟨ms, mc, ps, pc, out, base, got, age⟩ := l
  unfold lA Lnk.pkt at *
  simp only at HO hs hb hL ha HLen HGet ⊢
  clear hi
  have HK := kn2 w 27 (lC (.slice A out.length c) ms mc ps pc base got age) 27 (lC (.slice none 0 0) 0 0 0 0 0 0 0)
  have HNil := Lib.hid (List.take_zero (l := ag))
  have HAll := Lib.hid (List.take_length (l := ag))
  go_enter Try.func26, Try.ntmps26
  go_wp2_with (first | refine wpList_kll HK 0 rfl _ rfl rfl rfl ?_)
  refine (HO.out _ HK.out.b).mono ?_; rintro e w1 ⟨A1, c1, rfl, o1, b1⟩
  replace HK := Lib.hid (HK.out.called b1 o1)
  clear b1 o1 HO
  unfold lA at *
  simp only [List.nil_append] at HK
  have hk1 : IntKind.i64.wrap (age + 1) = age + 1 := IntWalk.i64_in _ (by omega)
  have HPk := Lib.hid (fun (k : Nat) body W => packet_any (.slice A1 out.length c1) ms mc ps pc base got 0 (base + (k : Int)) body W)
  have HGo : Hid (∀ k, k < out.length → ∃ b, out[k]? = some b) := Lib.hid fun k hk => Lay.get_of hk
  rcases hs with ⟨h1, h2, h3, rfl⟩ | ⟨hs, rfl⟩
  · generalize hn : out.length = n at *
    have HN := Lib.hid hn
    clear hn
    have hd1 : decide (0 < (n : Int)) = true := by simpa using h1
    have hd2 : decide (age < 1000) = true := by simpa using h2
    have hd3 : decide (age + 1 < retry) = true := by simpa using h3
    go_wp2_with (first | refine wpList_kll HK 0 rfl _ rfl rfl rfl ?_ | (refine wpList_ksl HK 0 rfl _ _ rfl rfl rfl rfl rfl ?_; intro _ HK' _; simp only [List.set] at HK'; replace HK := HK'; clear HK') | refine wpList_kci HK 0 rfl _ rfl rfl rfl rfl ?_ | refine wpList_kcv HK 0 rfl _ rfl rfl rfl rfl ?_ | (first | (refine wpList_k7 HK 0 rfl _ _ rfl rfl rfl rfl ?_; intro _ HK' _; simp only [List.set] at HK'; replace HK := HK'; clear HK') | (refine wpList_k6 HK 0 rfl _ _ rfl rfl rfl rfl ?_; intro _ HK' _; simp only [List.set] at HK'; replace HK := HK'; clear HK') | (refine wpList_k5 HK 0 rfl _ _ rfl rfl rfl rfl ?_; intro _ HK' _; simp only [List.set] at HK'; replace HK := HK'; clear HK') | (refine wpList_k3 HK 0 rfl _ _ rfl rfl rfl rfl ?_; intro _ HK' _; simp only [List.set] at HK'; replace HK := HK'; clear HK')) | (refine wpList_ksl HK 1 rfl _ _ rfl rfl rfl rfl rfl ?_; intro _ HK' _; simp only [List.set] at HK'; replace HK := HK'; clear HK'))
    refine ret_ls Try.results26 rfl rfl rfl (HK.out.blk 1 rfl) ⟨A1, c1, none, 0, ?_, ?_, Lay.Own.none _ _, HK.out.b⟩
    · simp only [HN.out]; rfl
    · simp only [HN.out]; exact HK.out.own 0 rfl
  · generalize hn : out.length = n at *
    have HN := Lib.hid hn
    have hs2 : (decide (0 < (n : Int)) = false ∧ ¬ 0 < n) ∨ (decide (0 < (n : Int)) = true ∧ 0 < n ∧ decide (age < 1000) = false ∧ 1000 ≤ age) ∨ (decide (0 < (n : Int)) = true ∧ 0 < n ∧ decide (age < 1000) = true ∧ age < 1000 ∧ decide (age + 1 < retry) = false ∧ retry ≤ age + 1) := by
      rcases hs with h | ⟨h, h'⟩ | ⟨h, h', h''⟩
      · exact .inl ⟨by simp; omega, by omega⟩
      · exact .inr (.inl ⟨by simpa using h, h, by simpa using h', h'⟩)
      · exact .inr (.inr ⟨by simpa using h, h, by simpa using h', h', by simpa using h'', h''⟩)
    clear hs hn
    go_upto_region 2 with (first | (refine wpList_ksl HK 0 rfl _ _ rfl rfl rfl rfl rfl ?_; intro _ HK' _; simp only [List.set] at HK'; replace HK := HK'; clear HK'))
    try simp only [Act.put]
    go_cut [26] (fun v wx => v = .bool false ∧ Hid (Kn w.heap.size w wx [(w.heap.size, 27, lC (.slice A1 n c1) ms mc ps pc base got age), (w.heap.size + 1, 27, lC (.slice none 0 0) 0 0 0 0 0 0 0)] [row strLay (.slice A1 n c1) out]))
    case first =>
      rcases hs2 with ⟨h1, h2⟩ | ⟨h1, h2, h3, h4⟩ | ⟨h1, h2, h3, h4, h5, h6⟩
      all_goals
        go_wp2_with (first | refine wpList_kci HK 0 rfl _ rfl rfl rfl rfl ?_ | refine wpList_kcv HK 0 rfl _ rfl rfl rfl rfl ?_)
        go_meet
        exact ⟨rfl, HK⟩
    case rest =>
    clear HK hs2
    obtain ⟨rfl, HK⟩ := hcut
    go_wp2_with (first | refine wpList_kll HK 0 rfl _ rfl rfl rfl ?_ | (refine wpList_ksl HK 0 rfl _ _ rfl rfl rfl rfl rfl ?_; intro _ HK' _; simp only [List.set] at HK'; replace HK := HK'; clear HK') | refine wpList_kci HK 0 rfl _ rfl rfl rfl rfl ?_ | refine wpList_kcv HK 0 rfl _ rfl rfl rfl rfl ?_ | (first | (refine wpList_k7 HK 0 rfl _ _ rfl rfl rfl rfl ?_; intro _ HK' _; simp only [List.set] at HK'; replace HK := HK'; clear HK') | (refine wpList_k6 HK 0 rfl _ _ rfl rfl rfl rfl ?_; intro _ HK' _; simp only [List.set] at HK'; replace HK := HK'; clear HK') | (refine wpList_k5 HK 0 rfl _ _ rfl rfl rfl rfl ?_; intro _ HK' _; simp only [List.set] at HK'; replace HK := HK'; clear HK') | (refine wpList_k3 HK 0 rfl _ _ rfl rfl rfl rfl ?_; intro _ HK' _; simp only [List.set] at HK'; replace HK := HK'; clear HK')) | (refine wpList_ksl HK 1 rfl _ _ rfl rfl rfl rfl rfl ?_; intro _ HK' _; simp only [List.set] at HK'; replace HK := HK'; clear HK') | refine wpList_kcv (Lib.hid (HK.out.literal pktLay (C := #[]) rfl)) 0 rfl _ rfl rfl rfl rfl ?_)
    replace HK := Lib.hid (HK.out.literal pktLay (C := #[]) rfl)
    simp only [List.cons_append, List.nil_append] at HK
    go_loopw [6, 7, 8, 37] (fun v _ _ vi wr => ∃ (k : Nat) (A2 : Option Addr) (c2 : Nat), k ≤ n ∧ vi = .int .i64 k ∧ v = .slice A2 k c2 ∧ Hid (Kn w.heap.size w wr [(w.heap.size, 27, lC (.slice A1 n c1) ms mc ps pc base got 0), (w.heap.size + 1, 27, lC (.slice none 0 0) 0 0 0 0 0 0 0)] [row strLay (.slice A1 n c1) out, row pktLay (.slice A2 k c2) (ag.take k)])) (fun _ _ _ vi _ => n - (intOf vi).toNat)
    case atStart => exact ⟨0, _, 0, Nat.zero_le _, rfl, rfl, Lib.hid (by rw [HNil.out]; exact HK.out)⟩
    case round =>
      clear HK
      obtain ⟨k, A2, c2, hkn, rfl, rfl, HK⟩ := hrel
      by_cases hlt : k < n
      · obtain ⟨b, hb1⟩ := HGo.out k hlt
        have hne : out ≠ [] := fun e => by have := HN.out; rw [e] at this; simp at this; omega
        obtain ⟨g, c3, hv, _, _, _, hat⟩ := (HK.out.own 0 rfl).block hne
        injection hv with e1 e2 e3
        subst e1
        have hx1 := at_str (hat k b hb1)
        rw [Nat.zero_add] at hx1
        have hk2 : IntKind.i64.wrap (base + (k : Int)) = base + (k : Int) := IntWalk.i64_in _ (by omega)
        have HT : Hid (ag.take (k + 1) = ag.take k ++ [⟨ms, mc, ps, pc, base + (k : Int), got, b⟩]) := Lib.hid (Lay.take_succ (by have := HGet.out k b hb1; rw [Int.zero_add] at this; exact this))
        have hlk : (ag.take k).length = k := by rw [List.length_take, HLen.out]; omega
        have HL1 : Hid ((ag.take k).length + [(⟨ms, mc, ps, pc, base + (k : Int), got, b⟩ : Lnk.Pkt)].length ≤ 9223372036854775807 ∧ ((ag.take k).length + [(⟨ms, mc, ps, pc, base + (k : Int), got, b⟩ : Lnk.Pkt)].length) * pktLay.bytes ≤ 211106232532992) := Lib.hid ⟨by rw [hlk]; simp; omega, by rw [hlk]; show _ * 64 ≤ _; simp; omega⟩
        have HL2 : Hid ((ag.take k ++ [(⟨ms, mc, ps, pc, base + (k : Int), got, b⟩ : Lnk.Pkt)]).length = k + 1) := Lib.hid (by rw [List.length_append, hlk]; rfl)
        clear hlk hne hat e2 e3 hb1
        go_wp2_with (first | refine wpList_kll HK 0 rfl _ rfl rfl rfl ?_ | refine wpList_kci HK 0 rfl _ rfl rfl rfl rfl ?_)
        refine (HPk.out k b _).mono ?_; rintro e w2 ⟨rfl, b2⟩
        replace HK := Lib.hid (HK.out.call b2)
        clear b2
        unfold pA pC
        go_wp2_with (first | (at_builtin; refine wpList_kpush HK pktLay 1 rfl _ _ rfl rfl rfl [⟨ms, mc, ps, pc, base + (k : Int), got, b⟩] rfl rfl (flat_pkt ⟨ms, mc, ps, pc, base + (k : Int), got, b⟩) rfl HL1 HL2 ?_; intro A3 c4 _ HK'; simp only [List.set] at HK'; replace HK := HK'; clear HK'))
        rw [← HT.out] at HK
        exact ⟨⟨k + 1, A3, c4, by omega, by go_num, rfl, HK⟩, by simp [intOf]; omega⟩
      · obtain rfl : k = n := by omega
        have hA := HAll.out
        rw [HLen.out] at hA
        rw [hA] at HK
        clear hA
        go_wp2_with (first | refine wpList_kll HK 0 rfl _ rfl rfl rfl ?_ | (refine wpList_ksl HK 1 rfl _ _ rfl rfl rfl rfl rfl ?_; intro _ HK' _; simp only [List.set] at HK'; replace HK := HK'; clear HK'))
        refine ret_ls Try.results26 rfl rfl rfl (HK.out.blk 1 rfl) ⟨A1, c1, A2, c2, ?_, ?_, ?_, HK.out.b⟩
        · simp only [HN.out, HLen.out]; rfl
        · simp only [HN.out]; exact HK.out.own 0 rfl
        · simp only [HLen.out]; exact HK.out.own 1 rfl
end Go.Proofs.Ytamjcghdebjpjaa
