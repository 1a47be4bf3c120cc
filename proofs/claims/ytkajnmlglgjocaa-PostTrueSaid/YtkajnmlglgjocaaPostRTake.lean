/-
  What the document's Take and Lose return.
  No condition but that the messages are no more than the form's reach.
-/
import Derived.Test.YtkajnmlglgjocaaPostTake
import Derived.Deep.MidRow
import Derived.WalkKit
import Derived.WalkSpells
import Derived.WalkLawsBesides
import Derived.Handy
import Derived.Deep.QuietTactic
import Derived.BigQuiet
import Derived.Deep.RegionWith
import Derived.Deep.RegionHeld3
import Derived.Deep.Draws
import Derived.Lib.Hide
import Derived.Lib.LazyBuf
namespace Go.Proofs.Ytkajnmlglgjocaa
open Go.RowKit


/-- The first so many messages but number i. -/
def er (l : List Pst.Mail) (i k : Nat) : List Pst.Mail := (l.take k).eraseIdx i
theorem er_zero (l : List Pst.Mail) (i : Nat) : er l i 0 = [] := by simp [er]
theorem er_all (l : List Pst.Mail) (i : Nat) : er l i l.length = l.eraseIdx i := by simp [er]
theorem er_same {l : List Pst.Mail} {k : Nat} {x : Pst.Mail} (h : l[k]? = some x) : er l k (k + 1) = er l k k := by
  have hk := (List.getElem?_eq_some_iff.1 h).1
  unfold er
  have hlen : (l.take k).length = k := by rw [List.length_take]; omega
  have h1 : (l.take k).eraseIdx k = l.take k := List.eraseIdx_of_length_le (by omega)
  rw [Lay.take_succ h, List.eraseIdx_append_of_length_le (by omega), h1, hlen]
  simp
theorem er_more {l : List Pst.Mail} {i k : Nat} {x : Pst.Mail} (h : l[k]? = some x) (hne : k ≠ i) : er l i (k + 1) = er l i k ++ [x] := by
  have hk := (List.getElem?_eq_some_iff.1 h).1
  have hlen : (l.take k).length = k := by rw [List.length_take]; omega
  unfold er
  rw [Lay.take_succ h]
  rcases Nat.lt_or_ge i k with hi | hi
  · rw [List.eraseIdx_append_of_lt_length (by rw [hlen]; exact hi)]
  · have h1 : (l.take k).eraseIdx i = l.take k := List.eraseIdx_of_length_le (by rw [hlen]; exact hi)
    rw [List.eraseIdx_append_of_length_le (by rw [hlen]; exact hi), h1, hlen]
    obtain ⟨j, hj⟩ : ∃ j, i - k = j + 1 := ⟨i - k - 1, by omega⟩
    rw [hj]; rfl
theorem er_len (l : List Pst.Mail) (i k : Nat) : (er l i k).length ≤ k := by
  unfold er
  rw [List.length_eraseIdx]
  split <;> simp <;> omega
/-- What stands while the others are gathered. -/
structure TK (w : World) (A : Option Addr) (n c : Nat) (s : Nat → Int) (m : Pst.Mail) (W : World) : Prop where
  p : Blk W w.heap.size 25 (pc A n c s)
  r : Blk W (w.heap.size + 1) 25 (pc none 0 0 fun _ => 0)
  q : Blk W (w.heap.size + 2) 27 (mc Pst.noMail)
  m : Blk W (w.heap.size + 3) 27 (mc m)
  b : Below w.heap.size w W
  z : w.heap.size + 4 ≤ W.heap.size
theorem TK.turned {w : World} {A : Option Addr} {n c : Nat} {s : Nat → Int} {m : Pst.Mail} {W W' : World} {t : TypeId} (h : TK w A n c s m W) (hT : Turns (w.heap.size + 4) t W W') : TK w A n c s m W' :=
  ⟨h.p.below hT.below (by omega), h.r.below hT.below (by omega), h.q.below hT.below (by omega), h.m.below hT.below (by omega), below_turns h.b hT (by omega), Nat.le_trans h.z hT.size⟩
theorem TK.new (w : World) (A : Option Addr) (n c : Nat) (s : Nat → Int) (m : Pst.Mail) : TK w A n c s m ((((w.alloc (.cells (pc A n c s) 25)).alloc (.cells (pc none 0 0 fun _ => 0) 25)).alloc (.cells (mc Pst.noMail) 27)).alloc (.cells (mc m) 27)) := by
  obtain ⟨HP, HR, HQ, HB, hs⟩ := made3 w 25 (pc A n c s) 25 (pc none 0 0 fun _ => 0) 27 (mc Pst.noMail)
  have hm := Blk.new (((w.alloc (.cells (pc A n c s) 25)).alloc (.cells (pc none 0 0 fun _ => 0) 25)).alloc (.cells (mc Pst.noMail) 27)) 27 (mc m)
  rw [hs] at hm
  exact ⟨HP.out.alloc _, HR.out.alloc _, HQ.out.alloc _, hm, HB.out.alloc (by omega) _, by simp⟩
/-- A load of a message that lies somewhere in a block. -/
theorem wpList_lmid {ops : Array Oper} {rest : List Oper} {o : Oper} {a : Act} {w : World} {Q : Exit → Act → World → Prop} (hgd : o.guard = none) (x : Operand) (ho : o.op = .load 27 x) {b q : Nat} {m : Pst.Mail}
    (hc : Hid (w.cell? ⟨b, q, none⟩ = some (.int .i64 m.f) ∧ w.cell? ⟨b, q + 1, none⟩ = some (.int .i64 m.t) ∧ w.cell? ⟨b, q + 2, none⟩ = some (.string m.d) ∧ w.cell? ⟨b, q + 3, none⟩ = some (.bool m.s))) (hx : a.eval x = .pointer (some ⟨b, q, none⟩))
    (h : wpList Try.prog ops Q rest (a.put o.dst (.agg #[.int .i64 m.f, .int .i64 m.t, .string m.d, .bool m.s])) w) : wpList Try.prog ops Q (o :: rest) a w := by
  refine wpList_load_mid hgd _ x ho b q hx [.int .i64 m.f, .int .i64 m.t, .string m.d, .bool m.s] _ (fun j v hv => ?_) Try.underlying27 rfl info_mail4 h
  obtain ⟨c0, c1, c2, c3⟩ := hc.out
  match j, hv with
  | 0, hv => cases hv; exact c0
  | 1, hv => cases hv; exact c1
  | 2, hv => cases hv; exact c2
  | 3, hv => cases hv; exact c3
theorem rtake_is (p : Pst.P) (i : Int) : ((i < 0 ∨ (0 ≤ i ∧ (p.m.length : Int) ≤ i)) ∧ Pst.take p i = (p, Pst.noMail, false, 5)) ∨
    ∃ (k : Nat) (m : Pst.Mail), i = k ∧ k < p.m.length ∧ p.m[k]? = some m ∧ Pst.take p i = (⟨p.m.eraseIdx k, p.s⟩, m, Pst.arrives p m, 0) := by
  unfold Pst.take
  rcases at_is p i with ⟨h1, h2⟩ | ⟨k, m, rfl, h1, h2, h3, h4⟩
  · rw [h1]
    rw [decide_eq_false_iff_not] at h2
    exact .inl ⟨by omega, rfl⟩
  · rw [h3]; exact .inr ⟨k, m, rfl, h1, h2, by simp⟩

set_option maxHeartbeats 3200000 in
theorem rtake_x (A : Option Addr) (c : Nat) (p : Pst.P) (i : Int) (w : World) (hl : p.m.length ≤ 5000000000000) (hi : mailLay.Reads w w.heap.size A p.m) (hA : A = none → p.m = []) (hcap : p.m.length ≤ c) :
    Calls Try.prog 20 #[pv A p.m.length c p.s, .int .i64 i] w (IsTX A c p.m (Pst.take p i) w) := by
  rcases rtake_is p i with ⟨hf, he⟩ | ⟨i, m, rfl, hk, hm, he⟩
  · obtain ⟨HP0, HR0, HN0, HB0, hsz⟩ := made3 w 25 (pc A p.m.length c p.s) 25 (pc none 0 0 fun _ => 0) 27 (mc Pst.noMail)
    have HE := Lib.hid he
    have hpc : (pc A p.m.length c p.s)[0]? = some (.slice A p.m.length c) := rfl
    clear hi hA he
    unfold pv
    rcases hf with hf | ⟨hf, hf2⟩
    all_goals
      go_enter Try.func20, Try.ntmps20
      go_wp2_with (first | refine wpList_lp rfl _ rfl HP0 rfl ?_ | refine wpList_sp rfl _ _ rfl HR0 rfl rfl (Nat.le_add_right w.heap.size 1) ?_)
      intro w3 HS
      have HN3 := Lib.hid (HS.out.far HN0.out (by omega))
      go_wp2_with (refine wpList_sm (m' := Pst.noMail) rfl _ _ rfl HN3 rfl rfl (Nat.le_add_right w.heap.size 2) ?_)
      intro w4 HS4
      have HB4 := below_turns (below_turns HB0.out HS.out.turns (Nat.le_refl _)) HS4.out.turns (Nat.le_refl _)
      go_wp2_with fail
      refine ret_pmbe Try.results20 rfl rfl rfl rfl rfl (HS4.out.far HS.out.blk (by omega)) HS4.out.blk ?_
      rw [HE.out]
      exact ⟨A, c, rfl, .inr ⟨rfl, rfl, rfl⟩, HB4⟩
  · obtain ⟨b, o, rfl, hb, hc⟩ := hi (by omega)
    have HC := Lib.hid hc
    have HMs : Hid (∀ (k : Nat) (x : Pst.Mail), p.m[k]? = some x → ∀ W, Below w.heap.size w W → W.cell? ⟨b, o + k * 4, none⟩ = some (.int .i64 x.f) ∧ W.cell? ⟨b, o + k * 4 + 1, none⟩ = some (.int .i64 x.t) ∧ W.cell? ⟨b, o + k * 4 + 2, none⟩ = some (.string x.d) ∧ W.cell? ⟨b, o + k * 4 + 3, none⟩ = some (.bool x.s)) := Lib.hid fun k x hx W hB => by
      obtain ⟨m0, m1, m2, m3⟩ := at_mail (hc k x hx)
      exact ⟨(hB.cell (by exact hb)).trans m0, (hB.cell (by exact hb)).trans m1, (hB.cell (by exact hb)).trans m2, (hB.cell (by exact hb)).trans m3⟩
    obtain ⟨_, _, _, HB0, _⟩ := made3 w 25 (pc (some ⟨b, o, none⟩) p.m.length c p.s) 25 (pc none 0 0 fun _ => 0) 27 (mc Pst.noMail)
    have HM0 := Lib.hid (HMs.out i m hm _ HB0.out)
    have HK0 := Lib.hid (TK.new w (some ⟨b, o, none⟩) p.m.length c p.s m)
    have HE := Lib.hid he
    have hpc : (pc (some ⟨b, o, none⟩) p.m.length c p.s)[0]? = some (.slice (some ⟨b, o, none⟩) p.m.length c) := rfl
    have hk1 : (0 : Int) ≤ (i : Int) := by omega
    have hk2 : (i : Int) < (p.m.length : Int) := by omega
    have hmi : mc m = #[.int .i64 m.f, .int .i64 m.t, .string m.d, .bool m.s] := rfl
    rw [hmi] at HK0
    clear hi hA he hc hm hmi
    have HER : Hid (er p.m i p.m.length = p.m.eraseIdx i) := Lib.hid (er_all p.m i)
    have HSt : Hid (∀ k x, p.m[k]? = some x → (k = i → er p.m i (k + 1) = er p.m i k) ∧ (k ≠ i → er p.m i (k + 1) = er p.m i k ++ [x])) := Lib.hid fun k x hx => ⟨fun e => by subst e; exact er_same hx, fun e => er_more hx e⟩
    have HLe := Lib.hid (er_len p.m i)
    have HZ := Lib.hid (er_zero p.m i)
    have HAr := Lib.hid (fun r h => arrives_is p m r h)
    have HGet : Hid (∀ k, k < p.m.length → ∃ x, p.m[k]? = some x) := Lib.hid fun k hk => Lay.get_of hk
    unfold pv
    generalize hn : p.m.length = n at *
    have HN := Lib.hid hn
    clear hn
    go_enter Try.func20, Try.ntmps20
    go_wp2_with (refine wpList_lmid rfl _ rfl HM0 rfl ?_)
    go_loopw [9, 10] (fun v vi wr => ∃ k : Nat, k ≤ n ∧ vi = .int .i64 k ∧ Hid (mailLay.Own (w.heap.size + 4) wr v (er p.m i k)) ∧ Hid (TK w (some ⟨b, o, none⟩) n c p.s m wr)) (fun _ vi _ => n - (intOf vi).toNat)
    case atStart => exact ⟨0, Nat.zero_le _, rfl, Lib.hid (by rw [HZ.out]; exact Lay.Own.none _ _), HK0⟩
    case round =>
      obtain ⟨k, hkn, rfl, HO, HK⟩ := hrel
      obtain ⟨x0, _⟩ := Blk.one (Lib.hid HK.out.p) 0 (v := .slice (some ⟨b, o, none⟩) n c) rfl
      clear HK0 HM0 HB0 hpc
      by_cases hlt : k < n
      · obtain ⟨x, hx⟩ := HGet.out k hlt
        obtain ⟨m0, m1, m2, m3⟩ := HMs.out k x hx wr HK.out.b
        have hk3 : (0 : Int) ≤ (k : Int) := by omega
        have hk4 : (k : Int) < (n : Int) := by omega
        by_cases hne : k = i
        · have HO1 : Hid (mailLay.Own (w.heap.size + 4) wr _ (er p.m i (k + 1))) := Lib.hid (by rw [(HSt.out k x hx).1 hne]; exact HO.out)
          have hne2 : ((k : Int) != (i : Int)) = false := by simp [hne]
          clear hx hne HO
          go_wp2_with fail
          exact ⟨⟨k + 1, by omega, by go_num, HO1, HK⟩, by simp [intOf]; omega⟩
        · have HX : Hid (er p.m i (k + 1) = er p.m i k ++ [⟨x.f, x.t, x.d, x.s⟩]) := Lib.hid ((HSt.out k x hx).2 hne)
          have hne2 : ((k : Int) != (i : Int)) = true := by simp; omega
          have hle := HLe.out k
          have HL1 : Hid ((er p.m i k).length + 1 ≤ 9223372036854775807) := Lib.hid (by omega)
          have HL2 : Hid (((er p.m i k).length + 1) * mailLay.bytes ≤ 211106232532992) := Lib.hid (by show _ * 40 ≤ _; omega)
          clear hx hne hle
          obtain ⟨xf, xt, xd, xs⟩ := x
          simp only at m0 m1 m2 m3 HX
          go_wp2_with (at_builtin; refine mailLay.wpList_push rfl (.tmp 37) (.tmp 43) rfl (w.heap.size + 4) wr _ (er p.m i k) [⟨xf, xt, xd, xs⟩] _ wr.heap.size 1 1 rfl rfl rfl rfl rfl HO.out HL1.out HL2.out HK.out.z ?_)
          intro v3 w3 HR3 HT3 hs3
          have HK3 := Lib.hid (HK.out.turned HT3.out)
          have HO3 : Hid (mailLay.Own (w.heap.size + 4) w3 v3 (er p.m i (k + 1))) := Lib.hid (by rw [HX.out]; exact HR3.out)
          clear HR3 HT3 HO HK
          go_wp2_with fail
          exact ⟨⟨k + 1, by omega, by go_num, HO3, HK3⟩, by simp [intOf]; omega⟩
      · obtain rfl : k = n := by omega
        rw [HER.out] at HO
        generalize p.m.eraseIdx i = le at *
        have ho := HO.out
        obtain ⟨A9, c9, hv⟩ := ho.shape
        subst hv
        clear HSt HLe HZ HGet HMs hlt ho HC HER
        have HB3 : Hid (Below w.heap.size w (wr.setCell ⟨w.heap.size, 0, none⟩ (.slice A9 le.length c9)).drew) := Lib.hid (HK.out.b.setCell (p := ⟨w.heap.size, 0, none⟩) (Nat.le_refl _) _).drew
        have HO3 : Hid (mailLay.Own (w.heap.size + 4) (wr.setCell ⟨w.heap.size, 0, none⟩ (.slice A9 le.length c9)).drew (.slice A9 le.length c9) le) := Lib.hid (Lay.Own.cell HO.out HK.out.p ne_mp 0 _)
        have HP3 : Hid (Blk (wr.setCell ⟨w.heap.size, 0, none⟩ (.slice A9 le.length c9)).drew w.heap.size 25 (pc A9 le.length c9 p.s)) := Lib.hid (pc_mails _ A9 _ _ le.length c9 p.s ▸ HK.out.p.set_ 0 (.slice A9 le.length c9))
        have HR3 : Hid (Blk (wr.setCell ⟨w.heap.size, 0, none⟩ (.slice A9 le.length c9)).drew (w.heap.size + 1) 25 (pc none 0 0 fun _ => 0)) := Lib.hid (HK.out.r.far (p := ⟨w.heap.size, 0, none⟩) (by simp) _)
        have HN3 : Hid (Blk (wr.setCell ⟨w.heap.size, 0, none⟩ (.slice A9 le.length c9)).drew (w.heap.size + 2) 27 (mc Pst.noMail)) := Lib.hid (HK.out.q.far (p := ⟨w.heap.size, 0, none⟩) (by simp) _)
        have HM3 : Hid (Blk (wr.setCell ⟨w.heap.size, 0, none⟩ (.slice A9 le.length c9)).drew (w.heap.size + 3) 27 (mc m)) := Lib.hid (HK.out.m.far (p := ⟨w.heap.size, 0, none⟩) (by simp) _)
        have hAr := HAr.out _ rfl
        generalize Pst.arrives p m = ar at *
        clear HO HK HAr
        rcases hAr with ⟨hf, rfl⟩ | ⟨hf, ht, rfl⟩ | ⟨k1, k2, hq1, hq2, e1, e2, hf, ht, hr⟩
        · have HF := rplace_pre _ _ hf
          have HSo : Hid (∀ W, Hid (Blk W w.heap.size 25 (pc A9 le.length c9 p.s)) → Hid (Blk W (w.heap.size + 3) 27 (mc m)) → Hid (Blk W w.heap.size 25 (pc A9 le.length c9 p.s)) ∧ Hid (Blk W (w.heap.size + 3) 27 (mc m)) ∧ W.cell? ⟨w.heap.size + 3, 0, none⟩ = some (.int .i64 m.f) ∧ W.cell? ⟨w.heap.size + 3, 1, none⟩ = some (.int .i64 m.t)) := Lib.hid fun W h h' => ⟨h, h', (Blk.one h' 0 rfl).1, (Blk.one h' 1 rfl).1⟩
          have HH0 := Lib.hid (HSo.out _ HP3 HM3)
          have HT := HF
          clear hf
          go_wp2_with fail
          refine wp_region_held_drew (S := (fun W => Hid (Blk W w.heap.size 25 (pc A9 le.length c9 p.s)) ∧ Hid (Blk W (w.heap.size + 3) 27 (mc m)) ∧ W.cell? ⟨w.heap.size + 3, 0, none⟩ = some (.int .i64 m.f) ∧ W.cell? ⟨w.heap.size + 3, 1, none⟩ = some (.int .i64 m.t))) (by kernel_rfl) ?_ (fun hHeld => ?_)
          · (try dsimp only); exact HH0.out
          refine wpAnyH_take (i := 0) (oi := ⟨some 47, _, _, _, _, _⟩) (v := ?_) rfl (by kernel_rfl) (by kernel_rfl) (by kernel_rfl) (fun _ _ _ h => h) (Or.inl ⟨by rfl, ?_⟩) (by assumption) ?_
          rotate_left
          · (intro w hSw; refine Eq.trans (exec_lp hSw.1 (by rfl) (by rfl)) ?_; with_reducible rfl)
          try simp only [Act.put, List.setIfInBounds_toArray, List.set_cons_zero, List.set_cons_succ]
          refine wpAnyH_take (i := 1) (oi := ⟨some 48, _, _, _, _, _⟩) (v := ?_) rfl (by kernel_rfl) (by kernel_rfl) (by kernel_rfl) (fun _ _ _ h => h) (Or.inl ⟨by rfl, ?_⟩) (by assumption) ?_
          rotate_left
          · (intro w hSw; refine Eq.trans (exec_lm hSw.2.1 (by rfl) (by rfl)) ?_; with_reducible rfl)
          try simp only [Act.put, List.setIfInBounds_toArray, List.set_cons_zero, List.set_cons_succ]
          refine wpAnyH_take (i := 2) (oi := ⟨some 49, _, _, _, _, _⟩) (v := ?_) rfl (by kernel_rfl) (by kernel_rfl) (by kernel_rfl) (fun _ _ _ h => h) (Or.inl ⟨by rfl, ?_⟩) (by assumption) ?_
          rotate_left
          · (intro w hSw; (try dsimp only at hSw); go_simp; try with_reducible rfl)
          try simp only [Act.put, List.setIfInBounds_toArray, List.set_cons_zero, List.set_cons_succ]
          refine wpAnyH_take (i := 3) (oi := ⟨some 50, _, _, _, _, _⟩) (v := ?_) rfl (by kernel_rfl) (by kernel_rfl) (by kernel_rfl) (fun _ _ _ h => h) (Or.inl ⟨by rfl, ?_⟩) (by assumption) ?_
          rotate_left
          · (intro w hSw; (try dsimp only at hSw); go_simp; try with_reducible rfl)
          try simp only [Act.put, List.setIfInBounds_toArray, List.set_cons_zero, List.set_cons_succ]
          refine wpAnyH_ready (rs := [4]) (by kernel_rfl) (by simp) ?_
          refine AllReadyH.cons (o := ⟨some 51, _, _, _, _, _⟩) rfl (fun K hK => ?_) AllReadyH.nil
          go_simp
          go_at_call 31
          refine (HF.out _).mono ?_; rintro e w1 ⟨rfl, rfl⟩; have hs := hHeld
          refine hK.out _ _ hs (fun hHeld => ?_)
          clear hK K
          try simp only [Act.put, List.setIfInBounds_toArray, List.set_cons_zero, List.set_cons_succ]
          refine wpAnyH_take (i := 5) (oi := ⟨some 52, _, _, _, _, _⟩) (v := ?_) rfl (by kernel_rfl) (by kernel_rfl) (by kernel_rfl) (fun _ _ _ h => h) (Or.inl ⟨by rfl, ?_⟩) (by assumption) ?_
          rotate_left
          · (intro w hSw; (try dsimp only at hSw); go_simp; try with_reducible rfl)
          try simp only [Act.put, List.setIfInBounds_toArray, List.set_cons_zero, List.set_cons_succ]
          refine wpAnyH_take (i := 6) (oi := ⟨some 53, _, _, _, _, _⟩) (v := undef) rfl (by kernel_rfl) (by kernel_rfl) (by kernel_rfl) (fun _ _ _ h => h) (Or.inr ⟨by rfl, rfl⟩) (by assumption) ?_
          try simp only [Act.put, List.setIfInBounds_toArray, List.set_cons_zero, List.set_cons_succ]
          refine wpAnyH_take (i := 7) (oi := ⟨some 54, _, _, _, _, _⟩) (v := undef) rfl (by kernel_rfl) (by kernel_rfl) (by kernel_rfl) (fun _ _ _ h => h) (Or.inr ⟨by rfl, rfl⟩) (by assumption) ?_
          try simp only [Act.put, List.setIfInBounds_toArray, List.set_cons_zero, List.set_cons_succ]
          refine wpAnyH_take (i := 8) (oi := ⟨some 55, _, _, _, _, _⟩) (v := undef) rfl (by kernel_rfl) (by kernel_rfl) (by kernel_rfl) (fun _ _ _ h => h) (Or.inr ⟨by rfl, rfl⟩) (by assumption) ?_
          try simp only [Act.put, List.setIfInBounds_toArray, List.set_cons_zero, List.set_cons_succ]
          refine wpAnyH_take (i := 9) (oi := ⟨some 56, _, _, _, _, _⟩) (v := ?_) rfl (by kernel_rfl) (by kernel_rfl) (by kernel_rfl) (fun _ _ _ h => h) (Or.inl ⟨by rfl, ?_⟩) (by assumption) ?_
          rotate_left
          · (intro w hSw; (try dsimp only at hSw); go_simp; try with_reducible rfl)
          try simp only [Act.put, List.setIfInBounds_toArray, List.set_cons_zero, List.set_cons_succ]
          refine wpAnyH_take (i := 10) (oi := ⟨some 57, _, _, _, _, _⟩) (v := ?_) rfl (by kernel_rfl) (by kernel_rfl) (by kernel_rfl) (fun _ _ _ h => h) (Or.inl ⟨by rfl, ?_⟩) (by assumption) ?_
          rotate_left
          · (intro w hSw; (try dsimp only at hSw); go_simp; try with_reducible rfl)
          try simp only [Act.put, List.setIfInBounds_toArray, List.set_cons_zero, List.set_cons_succ]
          refine wpAnyH_take (i := 11) (oi := ⟨some 58, _, _, _, _, _⟩) (v := undef) rfl (by kernel_rfl) (by kernel_rfl) (by kernel_rfl) (fun _ _ _ h => h) (Or.inr ⟨by rfl, rfl⟩) (by assumption) ?_
          try simp only [Act.put, List.setIfInBounds_toArray, List.set_cons_zero, List.set_cons_succ]
          refine wpAnyH_take (i := 12) (oi := ⟨some 59, _, _, _, _, _⟩) (v := undef) rfl (by kernel_rfl) (by kernel_rfl) (by kernel_rfl) (fun _ _ _ h => h) (Or.inr ⟨by rfl, rfl⟩) (by assumption) ?_
          try simp only [Act.put, List.setIfInBounds_toArray, List.set_cons_zero, List.set_cons_succ]
          refine wpAnyH_take (i := 13) (oi := ⟨some 60, _, _, _, _, _⟩) (v := undef) rfl (by kernel_rfl) (by kernel_rfl) (by kernel_rfl) (fun _ _ _ h => h) (Or.inr ⟨by rfl, rfl⟩) (by assumption) ?_
          try simp only [Act.put, List.setIfInBounds_toArray, List.set_cons_zero, List.set_cons_succ]
          refine wpAnyH_take (i := 14) (oi := ⟨some 61, _, _, _, _, _⟩) (v := undef) rfl (by kernel_rfl) (by kernel_rfl) (by kernel_rfl) (fun _ _ _ h => h) (Or.inr ⟨by rfl, rfl⟩) (by assumption) ?_
          try simp only [Act.put, List.setIfInBounds_toArray, List.set_cons_zero, List.set_cons_succ]
          refine wpAnyH_take (i := 15) (oi := ⟨some 62, _, _, _, _, _⟩) (v := undef) rfl (by kernel_rfl) (by kernel_rfl) (by kernel_rfl) (fun _ _ _ h => h) (Or.inr ⟨by rfl, rfl⟩) (by assumption) ?_
          try simp only [Act.put, List.setIfInBounds_toArray, List.set_cons_zero, List.set_cons_succ]
          refine wpAnyH_take (i := 16) (oi := ⟨some 63, _, _, _, _, _⟩) (v := undef) rfl (by kernel_rfl) (by kernel_rfl) (by kernel_rfl) (fun _ _ _ h => h) (Or.inr ⟨by rfl, rfl⟩) (by assumption) ?_
          try simp only [Act.put, List.setIfInBounds_toArray, List.set_cons_zero, List.set_cons_succ]
          refine wpAnyH_take (i := 17) (oi := ⟨some 64, _, _, _, _, _⟩) (v := undef) rfl (by kernel_rfl) (by kernel_rfl) (by kernel_rfl) (fun _ _ _ h => h) (Or.inr ⟨by rfl, rfl⟩) (by assumption) ?_
          try simp only [Act.put, List.setIfInBounds_toArray, List.set_cons_zero, List.set_cons_succ]
          refine wpAnyH_take (i := 18) (oi := ⟨some 65, _, _, _, _, _⟩) (v := undef) rfl (by kernel_rfl) (by kernel_rfl) (by kernel_rfl) (fun _ _ _ h => h) (Or.inr ⟨by rfl, rfl⟩) (by assumption) ?_
          try simp only [Act.put, List.setIfInBounds_toArray, List.set_cons_zero, List.set_cons_succ]
          refine wpAnyH_take (i := 19) (oi := ⟨some 66, _, _, _, _, _⟩) (v := undef) rfl (by kernel_rfl) (by kernel_rfl) (by kernel_rfl) (fun _ _ _ h => h) (Or.inr ⟨by rfl, rfl⟩) (by assumption) ?_
          try simp only [Act.put, List.setIfInBounds_toArray, List.set_cons_zero, List.set_cons_succ]
          refine wpAnyH_take (i := 20) (oi := ⟨some 67, _, _, _, _, _⟩) (v := undef) rfl (by kernel_rfl) (by kernel_rfl) (by kernel_rfl) (fun _ _ _ h => h) (Or.inr ⟨by rfl, rfl⟩) (by assumption) ?_
          try simp only [Act.put, List.setIfInBounds_toArray, List.set_cons_zero, List.set_cons_succ]
          refine wpAnyH_take (i := 21) (oi := ⟨some 68, _, _, _, _, _⟩) (v := undef) rfl (by kernel_rfl) (by kernel_rfl) (by kernel_rfl) (fun _ _ _ h => h) (Or.inr ⟨by rfl, rfl⟩) (by assumption) ?_
          try simp only [Act.put, List.setIfInBounds_toArray, List.set_cons_zero, List.set_cons_succ]
          refine wpAnyH_take (i := 22) (oi := ⟨some 69, _, _, _, _, _⟩) (v := ?_) rfl (by kernel_rfl) (by kernel_rfl) (by kernel_rfl) (fun _ _ _ h => h) (Or.inl ⟨by rfl, ?_⟩) (by assumption) ?_
          rotate_left
          · (intro w hSw; (try dsimp only at hSw); go_simp; try with_reducible rfl)
          try simp only [Act.put, List.setIfInBounds_toArray, List.set_cons_zero, List.set_cons_succ]
          refine wpAnyH_ready (rs := [23]) (by kernel_rfl) (by simp) ?_
          refine AllReadyH.cons (o := ⟨none, _, _, _, _, _⟩) rfl (fun K hK => ?_) AllReadyH.nil
          refine step_sp (by rfl) (.tmp 4) (.tmp 47) (by rfl) HR3 (by rfl) (by rfl) (Nat.le_add_right w.heap.size 1) ?_; intro w5 HS5; have hs := HSo.out _ (Lib.hid (HS5.out.far hHeld.1.out (by omega))) (Lib.hid (HS5.out.far hHeld.2.1.out (by omega))); have HN5 := Lib.hid (HS5.out.far HN3.out (by omega)); have HB5 := Lib.hid (below_turns HB3.out HS5.out.turns (Nat.le_refl _)); have HO5 := Lib.hid (HO3.out.turned ne_mp HS5.out.turns)
          refine hK.out _ _ hs (fun hHeld => ?_)
          clear hK K
          try simp only [Act.put]
          refine wpAnyH_ready (rs := [24]) (by kernel_rfl) (by simp) ?_
          refine AllReadyH.cons (o := ⟨none, _, _, _, _, _⟩) rfl (fun K hK => ?_) AllReadyH.nil
          refine step_sm (by rfl) (.tmp 5) (.tmp 48) (by rfl) Pst.noMail m HN5 (by rfl) (by rfl) (Nat.le_add_right w.heap.size 2) ?_; intro w6 HS6; have hs := HSo.out _ (Lib.hid (HS6.out.far hHeld.1.out (by omega))) (Lib.hid (HS6.out.far hHeld.2.1.out (by omega)))
          refine hK.out _ _ hs (fun hHeld => ?_)
          clear hK K
          try simp only [Act.put]
          refine wpAnyH_take (i := 25) (oi := ⟨some 6, _, _, _, _, _⟩) (v := ?_) rfl (by kernel_rfl) (by kernel_rfl) (by kernel_rfl) (fun _ _ _ h => h) (Or.inl ⟨by rfl, ?_⟩) (by assumption) ?_
          rotate_left
          · (intro w hSw; (try dsimp only at hSw); go_simp; try with_reducible rfl)
          try simp only [Act.put, List.setIfInBounds_toArray, List.set_cons_zero, List.set_cons_succ]
          refine wpAnyH_take (i := 26) (oi := ⟨some 7, _, _, _, _, _⟩) (v := ?_) rfl (by kernel_rfl) (by kernel_rfl) (by kernel_rfl) (fun _ _ _ h => h) (Or.inl ⟨by rfl, ?_⟩) (by assumption) ?_
          rotate_left
          · (intro w hSw; (try dsimp only at hSw); go_simp; try with_reducible rfl)
          try simp only [Act.put, List.setIfInBounds_toArray, List.set_cons_zero, List.set_cons_succ]
          refine wpAnyH_done (by kernel_rfl) ?_ _
          go_wp2_with fail
          refine ret_pmbe Try.results20 rfl rfl rfl rfl rfl (HS6.out.far HS5.out.blk (by omega)) HS6.out.blk ?_
          rw [HE.out]
          have ho := HO5.out.far HS6.out (by omega)
          exact ⟨A9, c9, rfl, .inl (ho.mono (Nat.le_add_right _ 4)), below_turns HB5.out HS6.out.turns (Nat.le_refl _)⟩
        · have HF := rplace_pre _ _ hf
          have HT := rplace_pre _ _ ht
          have HSo : Hid (∀ W, Hid (Blk W w.heap.size 25 (pc A9 le.length c9 p.s)) → Hid (Blk W (w.heap.size + 3) 27 (mc m)) → Hid (Blk W w.heap.size 25 (pc A9 le.length c9 p.s)) ∧ Hid (Blk W (w.heap.size + 3) 27 (mc m)) ∧ W.cell? ⟨w.heap.size + 3, 0, none⟩ = some (.int .i64 m.f) ∧ W.cell? ⟨w.heap.size + 3, 1, none⟩ = some (.int .i64 m.t)) := Lib.hid fun W h h' => ⟨h, h', (Blk.one h' 0 rfl).1, (Blk.one h' 1 rfl).1⟩
          have HH0 := Lib.hid (HSo.out _ HP3 HM3)
          clear hf ht
          go_wp2_with fail
          refine wp_region_held_drew (S := (fun W => Hid (Blk W w.heap.size 25 (pc A9 le.length c9 p.s)) ∧ Hid (Blk W (w.heap.size + 3) 27 (mc m)) ∧ W.cell? ⟨w.heap.size + 3, 0, none⟩ = some (.int .i64 m.f) ∧ W.cell? ⟨w.heap.size + 3, 1, none⟩ = some (.int .i64 m.t))) (by kernel_rfl) ?_ (fun hHeld => ?_)
          · (try dsimp only); exact HH0.out
          refine wpAnyH_take (i := 0) (oi := ⟨some 47, _, _, _, _, _⟩) (v := ?_) rfl (by kernel_rfl) (by kernel_rfl) (by kernel_rfl) (fun _ _ _ h => h) (Or.inl ⟨by rfl, ?_⟩) (by assumption) ?_
          rotate_left
          · (intro w hSw; refine Eq.trans (exec_lp hSw.1 (by rfl) (by rfl)) ?_; with_reducible rfl)
          try simp only [Act.put, List.setIfInBounds_toArray, List.set_cons_zero, List.set_cons_succ]
          refine wpAnyH_take (i := 1) (oi := ⟨some 48, _, _, _, _, _⟩) (v := ?_) rfl (by kernel_rfl) (by kernel_rfl) (by kernel_rfl) (fun _ _ _ h => h) (Or.inl ⟨by rfl, ?_⟩) (by assumption) ?_
          rotate_left
          · (intro w hSw; refine Eq.trans (exec_lm hSw.2.1 (by rfl) (by rfl)) ?_; with_reducible rfl)
          try simp only [Act.put, List.setIfInBounds_toArray, List.set_cons_zero, List.set_cons_succ]
          refine wpAnyH_take (i := 2) (oi := ⟨some 49, _, _, _, _, _⟩) (v := ?_) rfl (by kernel_rfl) (by kernel_rfl) (by kernel_rfl) (fun _ _ _ h => h) (Or.inl ⟨by rfl, ?_⟩) (by assumption) ?_
          rotate_left
          · (intro w hSw; (try dsimp only at hSw); go_simp; try with_reducible rfl)
          try simp only [Act.put, List.setIfInBounds_toArray, List.set_cons_zero, List.set_cons_succ]
          refine wpAnyH_take (i := 3) (oi := ⟨some 50, _, _, _, _, _⟩) (v := ?_) rfl (by kernel_rfl) (by kernel_rfl) (by kernel_rfl) (fun _ _ _ h => h) (Or.inl ⟨by rfl, ?_⟩) (by assumption) ?_
          rotate_left
          · (intro w hSw; (try dsimp only at hSw); go_simp; try with_reducible rfl)
          try simp only [Act.put, List.setIfInBounds_toArray, List.set_cons_zero, List.set_cons_succ]
          refine wpAnyH_ready (rs := [4]) (by kernel_rfl) (by simp) ?_
          refine AllReadyH.cons (o := ⟨some 51, _, _, _, _, _⟩) rfl (fun K hK => ?_) AllReadyH.nil
          go_simp
          go_at_call 31
          refine (HF.out _).mono ?_; rintro e w1 ⟨rfl, rfl⟩; have hs := hHeld
          refine hK.out _ _ hs (fun hHeld => ?_)
          clear hK K
          try simp only [Act.put, List.setIfInBounds_toArray, List.set_cons_zero, List.set_cons_succ]
          refine wpAnyH_take (i := 5) (oi := ⟨some 52, _, _, _, _, _⟩) (v := ?_) rfl (by kernel_rfl) (by kernel_rfl) (by kernel_rfl) (fun _ _ _ h => h) (Or.inl ⟨by rfl, ?_⟩) (by assumption) ?_
          rotate_left
          · (intro w hSw; (try dsimp only at hSw); go_simp; try with_reducible rfl)
          try simp only [Act.put, List.setIfInBounds_toArray, List.set_cons_zero, List.set_cons_succ]
          refine wpAnyH_take (i := 6) (oi := ⟨some 53, _, _, _, _, _⟩) (v := ?_) rfl (by kernel_rfl) (by kernel_rfl) (by kernel_rfl) (fun _ _ _ h => h) (Or.inl ⟨by rfl, ?_⟩) (by assumption) ?_
          rotate_left
          · (intro w hSw; (try dsimp only at hSw); go_simp; try with_reducible rfl)
          try simp only [Act.put, List.setIfInBounds_toArray, List.set_cons_zero, List.set_cons_succ]
          refine wpAnyH_take (i := 7) (oi := ⟨some 54, _, _, _, _, _⟩) (v := ?_) rfl (by kernel_rfl) (by kernel_rfl) (by kernel_rfl) (fun _ _ _ h => h) (Or.inl ⟨by rfl, ?_⟩) (by assumption) ?_
          rotate_left
          · (intro w hSw; (try dsimp only at hSw); go_simp; try with_reducible rfl)
          try simp only [Act.put, List.setIfInBounds_toArray, List.set_cons_zero, List.set_cons_succ]
          refine wpAnyH_ready (rs := [8]) (by kernel_rfl) (by simp) ?_
          refine AllReadyH.cons (o := ⟨some 55, _, _, _, _, _⟩) rfl (fun K hK => ?_) AllReadyH.nil
          go_simp
          go_at_call 31
          refine (HT.out _).mono ?_; rintro e w1 ⟨rfl, rfl⟩; have hs := hHeld
          refine hK.out _ _ hs (fun hHeld => ?_)
          clear hK K
          try simp only [Act.put, List.setIfInBounds_toArray, List.set_cons_zero, List.set_cons_succ]
          refine wpAnyH_take (i := 9) (oi := ⟨some 56, _, _, _, _, _⟩) (v := ?_) rfl (by kernel_rfl) (by kernel_rfl) (by kernel_rfl) (fun _ _ _ h => h) (Or.inl ⟨by rfl, ?_⟩) (by assumption) ?_
          rotate_left
          · (intro w hSw; (try dsimp only at hSw); go_simp; try with_reducible rfl)
          try simp only [Act.put, List.setIfInBounds_toArray, List.set_cons_zero, List.set_cons_succ]
          refine wpAnyH_take (i := 10) (oi := ⟨some 57, _, _, _, _, _⟩) (v := ?_) rfl (by kernel_rfl) (by kernel_rfl) (by kernel_rfl) (fun _ _ _ h => h) (Or.inl ⟨by rfl, ?_⟩) (by assumption) ?_
          rotate_left
          · (intro w hSw; (try dsimp only at hSw); go_simp; try with_reducible rfl)
          try simp only [Act.put, List.setIfInBounds_toArray, List.set_cons_zero, List.set_cons_succ]
          refine wpAnyH_take (i := 11) (oi := ⟨some 58, _, _, _, _, _⟩) (v := undef) rfl (by kernel_rfl) (by kernel_rfl) (by kernel_rfl) (fun _ _ _ h => h) (Or.inr ⟨by rfl, rfl⟩) (by assumption) ?_
          try simp only [Act.put, List.setIfInBounds_toArray, List.set_cons_zero, List.set_cons_succ]
          refine wpAnyH_take (i := 12) (oi := ⟨some 59, _, _, _, _, _⟩) (v := undef) rfl (by kernel_rfl) (by kernel_rfl) (by kernel_rfl) (fun _ _ _ h => h) (Or.inr ⟨by rfl, rfl⟩) (by assumption) ?_
          try simp only [Act.put, List.setIfInBounds_toArray, List.set_cons_zero, List.set_cons_succ]
          refine wpAnyH_take (i := 13) (oi := ⟨some 60, _, _, _, _, _⟩) (v := undef) rfl (by kernel_rfl) (by kernel_rfl) (by kernel_rfl) (fun _ _ _ h => h) (Or.inr ⟨by rfl, rfl⟩) (by assumption) ?_
          try simp only [Act.put, List.setIfInBounds_toArray, List.set_cons_zero, List.set_cons_succ]
          refine wpAnyH_take (i := 14) (oi := ⟨some 61, _, _, _, _, _⟩) (v := undef) rfl (by kernel_rfl) (by kernel_rfl) (by kernel_rfl) (fun _ _ _ h => h) (Or.inr ⟨by rfl, rfl⟩) (by assumption) ?_
          try simp only [Act.put, List.setIfInBounds_toArray, List.set_cons_zero, List.set_cons_succ]
          refine wpAnyH_take (i := 15) (oi := ⟨some 62, _, _, _, _, _⟩) (v := undef) rfl (by kernel_rfl) (by kernel_rfl) (by kernel_rfl) (fun _ _ _ h => h) (Or.inr ⟨by rfl, rfl⟩) (by assumption) ?_
          try simp only [Act.put, List.setIfInBounds_toArray, List.set_cons_zero, List.set_cons_succ]
          refine wpAnyH_take (i := 16) (oi := ⟨some 63, _, _, _, _, _⟩) (v := undef) rfl (by kernel_rfl) (by kernel_rfl) (by kernel_rfl) (fun _ _ _ h => h) (Or.inr ⟨by rfl, rfl⟩) (by assumption) ?_
          try simp only [Act.put, List.setIfInBounds_toArray, List.set_cons_zero, List.set_cons_succ]
          refine wpAnyH_take (i := 17) (oi := ⟨some 64, _, _, _, _, _⟩) (v := undef) rfl (by kernel_rfl) (by kernel_rfl) (by kernel_rfl) (fun _ _ _ h => h) (Or.inr ⟨by rfl, rfl⟩) (by assumption) ?_
          try simp only [Act.put, List.setIfInBounds_toArray, List.set_cons_zero, List.set_cons_succ]
          refine wpAnyH_take (i := 18) (oi := ⟨some 65, _, _, _, _, _⟩) (v := undef) rfl (by kernel_rfl) (by kernel_rfl) (by kernel_rfl) (fun _ _ _ h => h) (Or.inr ⟨by rfl, rfl⟩) (by assumption) ?_
          try simp only [Act.put, List.setIfInBounds_toArray, List.set_cons_zero, List.set_cons_succ]
          refine wpAnyH_take (i := 19) (oi := ⟨some 66, _, _, _, _, _⟩) (v := undef) rfl (by kernel_rfl) (by kernel_rfl) (by kernel_rfl) (fun _ _ _ h => h) (Or.inr ⟨by rfl, rfl⟩) (by assumption) ?_
          try simp only [Act.put, List.setIfInBounds_toArray, List.set_cons_zero, List.set_cons_succ]
          refine wpAnyH_take (i := 20) (oi := ⟨some 67, _, _, _, _, _⟩) (v := undef) rfl (by kernel_rfl) (by kernel_rfl) (by kernel_rfl) (fun _ _ _ h => h) (Or.inr ⟨by rfl, rfl⟩) (by assumption) ?_
          try simp only [Act.put, List.setIfInBounds_toArray, List.set_cons_zero, List.set_cons_succ]
          refine wpAnyH_take (i := 21) (oi := ⟨some 68, _, _, _, _, _⟩) (v := undef) rfl (by kernel_rfl) (by kernel_rfl) (by kernel_rfl) (fun _ _ _ h => h) (Or.inr ⟨by rfl, rfl⟩) (by assumption) ?_
          try simp only [Act.put, List.setIfInBounds_toArray, List.set_cons_zero, List.set_cons_succ]
          refine wpAnyH_take (i := 22) (oi := ⟨some 69, _, _, _, _, _⟩) (v := ?_) rfl (by kernel_rfl) (by kernel_rfl) (by kernel_rfl) (fun _ _ _ h => h) (Or.inl ⟨by rfl, ?_⟩) (by assumption) ?_
          rotate_left
          · (intro w hSw; (try dsimp only at hSw); go_simp; try with_reducible rfl)
          try simp only [Act.put, List.setIfInBounds_toArray, List.set_cons_zero, List.set_cons_succ]
          refine wpAnyH_ready (rs := [23]) (by kernel_rfl) (by simp) ?_
          refine AllReadyH.cons (o := ⟨none, _, _, _, _, _⟩) rfl (fun K hK => ?_) AllReadyH.nil
          refine step_sp (by rfl) (.tmp 4) (.tmp 47) (by rfl) HR3 (by rfl) (by rfl) (Nat.le_add_right w.heap.size 1) ?_; intro w5 HS5; have hs := HSo.out _ (Lib.hid (HS5.out.far hHeld.1.out (by omega))) (Lib.hid (HS5.out.far hHeld.2.1.out (by omega))); have HN5 := Lib.hid (HS5.out.far HN3.out (by omega)); have HB5 := Lib.hid (below_turns HB3.out HS5.out.turns (Nat.le_refl _)); have HO5 := Lib.hid (HO3.out.turned ne_mp HS5.out.turns)
          refine hK.out _ _ hs (fun hHeld => ?_)
          clear hK K
          try simp only [Act.put]
          refine wpAnyH_ready (rs := [24]) (by kernel_rfl) (by simp) ?_
          refine AllReadyH.cons (o := ⟨none, _, _, _, _, _⟩) rfl (fun K hK => ?_) AllReadyH.nil
          refine step_sm (by rfl) (.tmp 5) (.tmp 48) (by rfl) Pst.noMail m HN5 (by rfl) (by rfl) (Nat.le_add_right w.heap.size 2) ?_; intro w6 HS6; have hs := HSo.out _ (Lib.hid (HS6.out.far hHeld.1.out (by omega))) (Lib.hid (HS6.out.far hHeld.2.1.out (by omega)))
          refine hK.out _ _ hs (fun hHeld => ?_)
          clear hK K
          try simp only [Act.put]
          refine wpAnyH_take (i := 25) (oi := ⟨some 6, _, _, _, _, _⟩) (v := ?_) rfl (by kernel_rfl) (by kernel_rfl) (by kernel_rfl) (fun _ _ _ h => h) (Or.inl ⟨by rfl, ?_⟩) (by assumption) ?_
          rotate_left
          · (intro w hSw; (try dsimp only at hSw); go_simp; try with_reducible rfl)
          try simp only [Act.put, List.setIfInBounds_toArray, List.set_cons_zero, List.set_cons_succ]
          refine wpAnyH_take (i := 26) (oi := ⟨some 7, _, _, _, _, _⟩) (v := ?_) rfl (by kernel_rfl) (by kernel_rfl) (by kernel_rfl) (fun _ _ _ h => h) (Or.inl ⟨by rfl, ?_⟩) (by assumption) ?_
          rotate_left
          · (intro w hSw; (try dsimp only at hSw); go_simp; try with_reducible rfl)
          try simp only [Act.put, List.setIfInBounds_toArray, List.set_cons_zero, List.set_cons_succ]
          refine wpAnyH_done (by kernel_rfl) ?_ _
          go_wp2_with fail
          refine ret_pmbe Try.results20 rfl rfl rfl rfl rfl (HS6.out.far HS5.out.blk (by omega)) HS6.out.blk ?_
          rw [HE.out]
          have ho := HO5.out.far HS6.out (by omega)
          exact ⟨A9, c9, rfl, .inl (ho.mono (Nat.le_add_right _ 4)), below_turns HB5.out HS6.out.turns (Nat.le_refl _)⟩
        · have HF := rplace_pre _ _ hf
          have HT := rplace_pre _ _ ht
          have HSo : Hid (∀ W, Hid (Blk W w.heap.size 25 (pc A9 le.length c9 p.s)) → Hid (Blk W (w.heap.size + 3) 27 (mc m)) → Hid (Blk W w.heap.size 25 (pc A9 le.length c9 p.s)) ∧ Hid (Blk W (w.heap.size + 3) 27 (mc m)) ∧ W.cell? ⟨w.heap.size + 3, 0, none⟩ = some (.int .i64 k1) ∧ W.cell? ⟨w.heap.size + 3, 1, none⟩ = some (.int .i64 k2) ∧ W.cell? ⟨w.heap.size, 1 + k1, none⟩ = some (.int .i64 (p.s k1)) ∧ W.cell? ⟨w.heap.size, 1 + k2, none⟩ = some (.int .i64 (p.s k2))) := Lib.hid fun W h h' => ⟨h, h', (Blk.one h' 0 (congrArg (fun z => some (Value.int .i64 z)) e1)).1, (Blk.one h' 1 (congrArg (fun z => some (Value.int .i64 z)) e2)).1, (Blk.one h (1 + k1) (pc_at _ _ _ _ k1 hq1)).1, (Blk.one h (1 + k2) (pc_at _ _ _ _ k2 hq2)).1⟩
          have HH0 := Lib.hid (HSo.out _ HP3 HM3)
          rw [e1] at HF
          rw [e2] at HT
          have hq3 : (0 : Int) ≤ (k1 : Int) := by omega
          have hq4 : (k1 : Int) < 12 := by omega
          have hq5 : (0 : Int) ≤ (k2 : Int) := by omega
          have hq6 : (k2 : Int) < 12 := by omega
          clear hf ht e1 e2
          go_wp2_with fail
          refine wp_region_held_drew (S := (fun W => Hid (Blk W w.heap.size 25 (pc A9 le.length c9 p.s)) ∧ Hid (Blk W (w.heap.size + 3) 27 (mc m)) ∧ W.cell? ⟨w.heap.size + 3, 0, none⟩ = some (.int .i64 k1) ∧ W.cell? ⟨w.heap.size + 3, 1, none⟩ = some (.int .i64 k2) ∧ W.cell? ⟨w.heap.size, 1 + k1, none⟩ = some (.int .i64 (p.s k1)) ∧ W.cell? ⟨w.heap.size, 1 + k2, none⟩ = some (.int .i64 (p.s k2)))) (by kernel_rfl) ?_ (fun hHeld => ?_)
          · (try dsimp only); exact HH0.out
          refine wpAnyH_take (i := 0) (oi := ⟨some 47, _, _, _, _, _⟩) (v := ?_) rfl (by kernel_rfl) (by kernel_rfl) (by kernel_rfl) (fun _ _ _ h => h) (Or.inl ⟨by rfl, ?_⟩) (by assumption) ?_
          rotate_left
          · (intro w hSw; refine Eq.trans (exec_lp hSw.1 (by rfl) (by rfl)) ?_; with_reducible rfl)
          try simp only [Act.put, List.setIfInBounds_toArray, List.set_cons_zero, List.set_cons_succ]
          refine wpAnyH_take (i := 1) (oi := ⟨some 48, _, _, _, _, _⟩) (v := ?_) rfl (by kernel_rfl) (by kernel_rfl) (by kernel_rfl) (fun _ _ _ h => h) (Or.inl ⟨by rfl, ?_⟩) (by assumption) ?_
          rotate_left
          · (intro w hSw; refine Eq.trans (exec_lm hSw.2.1 (by rfl) (by rfl)) ?_; with_reducible rfl)
          try simp only [Act.put, List.setIfInBounds_toArray, List.set_cons_zero, List.set_cons_succ]
          refine wpAnyH_take (i := 2) (oi := ⟨some 49, _, _, _, _, _⟩) (v := ?_) rfl (by kernel_rfl) (by kernel_rfl) (by kernel_rfl) (fun _ _ _ h => h) (Or.inl ⟨by rfl, ?_⟩) (by assumption) ?_
          rotate_left
          · (intro w hSw; (try dsimp only at hSw); go_simp; try with_reducible rfl)
          try simp only [Act.put, List.setIfInBounds_toArray, List.set_cons_zero, List.set_cons_succ]
          refine wpAnyH_take (i := 3) (oi := ⟨some 50, _, _, _, _, _⟩) (v := ?_) rfl (by kernel_rfl) (by kernel_rfl) (by kernel_rfl) (fun _ _ _ h => h) (Or.inl ⟨by rfl, ?_⟩) (by assumption) ?_
          rotate_left
          · (intro w hSw; (try dsimp only at hSw); go_simp; try with_reducible rfl)
          try simp only [Act.put, List.setIfInBounds_toArray, List.set_cons_zero, List.set_cons_succ]
          refine wpAnyH_ready (rs := [4]) (by kernel_rfl) (by simp) ?_
          refine AllReadyH.cons (o := ⟨some 51, _, _, _, _, _⟩) rfl (fun K hK => ?_) AllReadyH.nil
          go_simp
          go_at_call 31
          refine (HF.out _).mono ?_; rintro e w1 ⟨rfl, rfl⟩; have hs := hHeld
          refine hK.out _ _ hs (fun hHeld => ?_)
          clear hK K
          try simp only [Act.put, List.setIfInBounds_toArray, List.set_cons_zero, List.set_cons_succ]
          refine wpAnyH_take (i := 5) (oi := ⟨some 52, _, _, _, _, _⟩) (v := ?_) rfl (by kernel_rfl) (by kernel_rfl) (by kernel_rfl) (fun _ _ _ h => h) (Or.inl ⟨by rfl, ?_⟩) (by assumption) ?_
          rotate_left
          · (intro w hSw; (try dsimp only at hSw); go_simp; try with_reducible rfl)
          try simp only [Act.put, List.setIfInBounds_toArray, List.set_cons_zero, List.set_cons_succ]
          refine wpAnyH_take (i := 6) (oi := ⟨some 53, _, _, _, _, _⟩) (v := ?_) rfl (by kernel_rfl) (by kernel_rfl) (by kernel_rfl) (fun _ _ _ h => h) (Or.inl ⟨by rfl, ?_⟩) (by assumption) ?_
          rotate_left
          · (intro w hSw; (try dsimp only at hSw); go_simp; try with_reducible rfl)
          try simp only [Act.put, List.setIfInBounds_toArray, List.set_cons_zero, List.set_cons_succ]
          refine wpAnyH_take (i := 7) (oi := ⟨some 54, _, _, _, _, _⟩) (v := ?_) rfl (by kernel_rfl) (by kernel_rfl) (by kernel_rfl) (fun _ _ _ h => h) (Or.inl ⟨by rfl, ?_⟩) (by assumption) ?_
          rotate_left
          · (intro w hSw; (try dsimp only at hSw); go_simp; try with_reducible rfl)
          try simp only [Act.put, List.setIfInBounds_toArray, List.set_cons_zero, List.set_cons_succ]
          refine wpAnyH_ready (rs := [8]) (by kernel_rfl) (by simp) ?_
          refine AllReadyH.cons (o := ⟨some 55, _, _, _, _, _⟩) rfl (fun K hK => ?_) AllReadyH.nil
          go_simp
          go_at_call 31
          refine (HT.out _).mono ?_; rintro e w1 ⟨rfl, rfl⟩; have hs := hHeld
          refine hK.out _ _ hs (fun hHeld => ?_)
          clear hK K
          try simp only [Act.put, List.setIfInBounds_toArray, List.set_cons_zero, List.set_cons_succ]
          refine wpAnyH_take (i := 9) (oi := ⟨some 56, _, _, _, _, _⟩) (v := ?_) rfl (by kernel_rfl) (by kernel_rfl) (by kernel_rfl) (fun _ _ _ h => h) (Or.inl ⟨by rfl, ?_⟩) (by assumption) ?_
          rotate_left
          · (intro w hSw; (try dsimp only at hSw); go_simp; try with_reducible rfl)
          try simp only [Act.put, List.setIfInBounds_toArray, List.set_cons_zero, List.set_cons_succ]
          refine wpAnyH_take (i := 10) (oi := ⟨some 57, _, _, _, _, _⟩) (v := ?_) rfl (by kernel_rfl) (by kernel_rfl) (by kernel_rfl) (fun _ _ _ h => h) (Or.inl ⟨by rfl, ?_⟩) (by assumption) ?_
          rotate_left
          · (intro w hSw; (try dsimp only at hSw); go_simp; try with_reducible rfl)
          try simp only [Act.put, List.setIfInBounds_toArray, List.set_cons_zero, List.set_cons_succ]
          refine wpAnyH_take (i := 11) (oi := ⟨some 58, _, _, _, _, _⟩) (v := ?_) rfl (by kernel_rfl) (by kernel_rfl) (by kernel_rfl) (fun _ _ _ h => h) (Or.inl ⟨by rfl, ?_⟩) (by assumption) ?_
          rotate_left
          · (intro w hSw; (try dsimp only at hSw); go_simp; try with_reducible rfl)
          try simp only [Act.put, List.setIfInBounds_toArray, List.set_cons_zero, List.set_cons_succ]
          refine wpAnyH_take (i := 12) (oi := ⟨some 59, _, _, _, _, _⟩) (v := ?_) rfl (by kernel_rfl) (by kernel_rfl) (by kernel_rfl) (fun _ _ _ h => h) (Or.inl ⟨by rfl, ?_⟩) (by assumption) ?_
          rotate_left
          · (intro w hSw; (try dsimp only at hSw); go_simp; try with_reducible rfl)
          try simp only [Act.put, List.setIfInBounds_toArray, List.set_cons_zero, List.set_cons_succ]
          refine wpAnyH_take (i := 13) (oi := ⟨some 60, _, _, _, _, _⟩) (v := ?_) rfl (by kernel_rfl) (by kernel_rfl) (by kernel_rfl) (fun _ _ _ h => h) (Or.inl ⟨by rfl, ?_⟩) (by assumption) ?_
          rotate_left
          · (intro w hSw; (try dsimp only at hSw); go_simp; try with_reducible rfl)
          try simp only [Act.put, List.setIfInBounds_toArray, List.set_cons_zero, List.set_cons_succ]
          refine wpAnyH_take (i := 14) (oi := ⟨some 61, _, _, _, _, _⟩) (v := ?_) rfl (by kernel_rfl) (by kernel_rfl) (by kernel_rfl) (fun _ _ _ h => h) (Or.inl ⟨by rfl, ?_⟩) (by assumption) ?_
          rotate_left
          · (intro w hSw; (try dsimp only at hSw); go_simp; try with_reducible rfl)
          try simp only [Act.put, List.setIfInBounds_toArray, List.set_cons_zero, List.set_cons_succ]
          refine wpAnyH_take (i := 15) (oi := ⟨some 62, _, _, _, _, _⟩) (v := ?_) rfl (by kernel_rfl) (by kernel_rfl) (by kernel_rfl) (fun _ _ _ h => h) (Or.inl ⟨by rfl, ?_⟩) (by assumption) ?_
          rotate_left
          · (intro w hSw; (try dsimp only at hSw); go_simp; try with_reducible rfl)
          try simp only [Act.put, List.setIfInBounds_toArray, List.set_cons_zero, List.set_cons_succ]
          refine wpAnyH_take (i := 16) (oi := ⟨some 63, _, _, _, _, _⟩) (v := ?_) rfl (by kernel_rfl) (by kernel_rfl) (by kernel_rfl) (fun _ _ _ h => h) (Or.inl ⟨by rfl, ?_⟩) (by assumption) ?_
          rotate_left
          · (intro w hSw; (try dsimp only at hSw); go_simp; try with_reducible rfl)
          try simp only [Act.put, List.setIfInBounds_toArray, List.set_cons_zero, List.set_cons_succ]
          refine wpAnyH_take (i := 17) (oi := ⟨some 64, _, _, _, _, _⟩) (v := ?_) rfl (by kernel_rfl) (by kernel_rfl) (by kernel_rfl) (fun _ _ _ h => h) (Or.inl ⟨by rfl, ?_⟩) (by assumption) ?_
          rotate_left
          · (intro w hSw; (try dsimp only at hSw); go_simp; try with_reducible rfl)
          try simp only [Act.put, List.setIfInBounds_toArray, List.set_cons_zero, List.set_cons_succ]
          refine wpAnyH_take (i := 18) (oi := ⟨some 65, _, _, _, _, _⟩) (v := ?_) rfl (by kernel_rfl) (by kernel_rfl) (by kernel_rfl) (fun _ _ _ h => h) (Or.inl ⟨by rfl, ?_⟩) (by assumption) ?_
          rotate_left
          · (intro w hSw; (try dsimp only at hSw); go_simp; try with_reducible rfl)
          try simp only [Act.put, List.setIfInBounds_toArray, List.set_cons_zero, List.set_cons_succ]
          refine wpAnyH_take (i := 19) (oi := ⟨some 66, _, _, _, _, _⟩) (v := ?_) rfl (by kernel_rfl) (by kernel_rfl) (by kernel_rfl) (fun _ _ _ h => h) (Or.inl ⟨by rfl, ?_⟩) (by assumption) ?_
          rotate_left
          · (intro w hSw; (try dsimp only at hSw); go_simp; try with_reducible rfl)
          try simp only [Act.put, List.setIfInBounds_toArray, List.set_cons_zero, List.set_cons_succ]
          refine wpAnyH_take (i := 20) (oi := ⟨some 67, _, _, _, _, _⟩) (v := ?_) rfl (by kernel_rfl) (by kernel_rfl) (by kernel_rfl) (fun _ _ _ h => h) (Or.inl ⟨by rfl, ?_⟩) (by assumption) ?_
          rotate_left
          · (intro w hSw; (try dsimp only at hSw); go_simp; try with_reducible rfl)
          try simp only [Act.put, List.setIfInBounds_toArray, List.set_cons_zero, List.set_cons_succ]
          refine wpAnyH_take (i := 21) (oi := ⟨some 68, _, _, _, _, _⟩) (v := ?_) rfl (by kernel_rfl) (by kernel_rfl) (by kernel_rfl) (fun _ _ _ h => h) (Or.inl ⟨by rfl, ?_⟩) (by assumption) ?_
          rotate_left
          · (intro w hSw; (try dsimp only at hSw); go_simp; try with_reducible rfl)
          try simp only [Act.put, List.setIfInBounds_toArray, List.set_cons_zero, List.set_cons_succ]
          refine wpAnyH_take (i := 22) (oi := ⟨some 69, _, _, _, _, _⟩) (v := ?_) rfl (by kernel_rfl) (by kernel_rfl) (by kernel_rfl) (fun _ _ _ h => h) (Or.inl ⟨by rfl, ?_⟩) (by assumption) ?_
          rotate_left
          · (intro w hSw; (try dsimp only at hSw); go_simp; try with_reducible rfl)
          try simp only [Act.put, List.setIfInBounds_toArray, List.set_cons_zero, List.set_cons_succ]
          refine wpAnyH_ready (rs := [23]) (by kernel_rfl) (by simp) ?_
          refine AllReadyH.cons (o := ⟨none, _, _, _, _, _⟩) rfl (fun K hK => ?_) AllReadyH.nil
          refine step_sp (by rfl) (.tmp 4) (.tmp 47) (by rfl) HR3 (by rfl) (by rfl) (Nat.le_add_right w.heap.size 1) ?_; intro w5 HS5; have hs := HSo.out _ (Lib.hid (HS5.out.far hHeld.1.out (by omega))) (Lib.hid (HS5.out.far hHeld.2.1.out (by omega))); have HN5 := Lib.hid (HS5.out.far HN3.out (by omega)); have HB5 := Lib.hid (below_turns HB3.out HS5.out.turns (Nat.le_refl _)); have HO5 := Lib.hid (HO3.out.turned ne_mp HS5.out.turns)
          refine hK.out _ _ hs (fun hHeld => ?_)
          clear hK K
          try simp only [Act.put]
          refine wpAnyH_ready (rs := [24]) (by kernel_rfl) (by simp) ?_
          refine AllReadyH.cons (o := ⟨none, _, _, _, _, _⟩) rfl (fun K hK => ?_) AllReadyH.nil
          refine step_sm (by rfl) (.tmp 5) (.tmp 48) (by rfl) Pst.noMail m HN5 (by rfl) (by rfl) (Nat.le_add_right w.heap.size 2) ?_; intro w6 HS6; have hs := HSo.out _ (Lib.hid (HS6.out.far hHeld.1.out (by omega))) (Lib.hid (HS6.out.far hHeld.2.1.out (by omega)))
          refine hK.out _ _ hs (fun hHeld => ?_)
          clear hK K
          try simp only [Act.put]
          refine wpAnyH_take (i := 25) (oi := ⟨some 6, _, _, _, _, _⟩) (v := ?_) rfl (by kernel_rfl) (by kernel_rfl) (by kernel_rfl) (fun _ _ _ h => h) (Or.inl ⟨by rfl, ?_⟩) (by assumption) ?_
          rotate_left
          · (intro w hSw; (try dsimp only at hSw); go_simp; try with_reducible rfl)
          try simp only [Act.put, List.setIfInBounds_toArray, List.set_cons_zero, List.set_cons_succ]
          refine wpAnyH_take (i := 26) (oi := ⟨some 7, _, _, _, _, _⟩) (v := ?_) rfl (by kernel_rfl) (by kernel_rfl) (by kernel_rfl) (fun _ _ _ h => h) (Or.inl ⟨by rfl, ?_⟩) (by assumption) ?_
          rotate_left
          · (intro w hSw; (try dsimp only at hSw); go_simp; try with_reducible rfl)
          try simp only [Act.put, List.setIfInBounds_toArray, List.set_cons_zero, List.set_cons_succ]
          refine wpAnyH_done (by kernel_rfl) ?_ _
          go_wp2_with fail
          refine ret_pmbe Try.results20 rfl rfl rfl rfl rfl (HS6.out.far HS5.out.blk (by omega)) HS6.out.blk ?_
          rw [HE.out]
          have ho := HO5.out.far HS6.out (by omega)
          exact ⟨A9, c9, rfl, .inl (ho.mono (Nat.le_add_right _ 4)), below_turns HB5.out HS6.out.turns (Nat.le_refl _)⟩
end Go.Proofs.Ytkajnmlglgjocaa
