/-
  What do returns.
  No condition but that an end has no more payloads than the form's reach, and numbers of no more.
-/
import Derived.Test.YtamjcghdebjpjaaLnkTold
import Derived.Test.YtamjcghdebjpjaaLnkRTake
import Derived.Test.YtamjcghdebjpjaaLnkRTick
namespace Go.Proofs.Ytamjcghdebjpjaa
open Go.RowKit

/-- A call, as both do it. -/
def doM (l : Lnk.L) (k n : Int) (b : ByteArray) (p : Lnk.Pkt) : Lnk.L × List Lnk.Pkt × ByteArray × Bool × Int :=
  if k = 1 then ((Lnk.send l b n).1, [(Lnk.send l b n).2.1], Lnk.emp, false, (Lnk.send l b n).2.2) else
  if k = 2 then ((Lnk.tick l n).1, (Lnk.tick l n).2, Lnk.emp, false, 0) else
  if k = 3 then (Lnk.meet l n, [], Lnk.emp, false, 0) else
  if k = 4 then ((Lnk.take l p).1, (if (Lnk.take l p).2.2.2.2 = true then [(Lnk.take l p).2.2.2.1] else []), (Lnk.take l p).2.1, (Lnk.take l p).2.2.1, 0) else
  (l, [], Lnk.emp, false, 0)
def IsD (A : Option Addr) (c : Nat) (l : List ByteArray) (r : Lnk.L × List Lnk.Pkt × ByteArray × Bool × Int) (w : World) (e : Ending) (w' : World) : Prop :=
  ∃ A' c' A2 c2, e = .returned (.tuple #[.agg (lA (.slice A' r.1.out.length c') r.1), .agg (tC (.slice A2 r.2.1.length c2) r.2.2.1 r.2.2.2.1 r.2.2.2.2)]) ∧ From w w' A c l A' c' r.1.out ∧ pktLay.Own w.heap.size w' (.slice A2 r.2.1.length c2) r.2.1 ∧ Below w.heap.size w w'
theorem kn6 (w : World) (t1 : TypeId) (c1 : Array Value) (t2 : TypeId) (c2 : Array Value) (t3 : TypeId) (c3 : Array Value) (t4 : TypeId) (c4 : Array Value) (t5 : TypeId) (c5 : Array Value) (t6 : TypeId) (c6 : Array Value) :
    Hid (Kn w.heap.size w ((((((w.alloc (.cells c1 t1)).alloc (.cells c2 t2)).alloc (.cells c3 t3)).alloc (.cells c4 t4)).alloc (.cells c5 t5)).alloc (.cells c6 t6)) [(w.heap.size, t1, c1), (w.heap.size + 1, t2, c2), (w.heap.size + 2, t3, c3), (w.heap.size + 3, t4, c4), (w.heap.size + 4, t5, c5), (w.heap.size + 5, t6, c6)] []) := by
  have h := ((kn4 w t1 c1 t2 c2 t3 c3 t4 c4).out.alloc t5 c5).alloc t6 c6
  rw [show (((((w.alloc (.cells c1 t1)).alloc (.cells c2 t2)).alloc (.cells c3 t3)).alloc (.cells c4 t4)).alloc (.cells c5 t5)).heap.size = w.heap.size + 5 from by simp,
    show ((((w.alloc (.cells c1 t1)).alloc (.cells c2 t2)).alloc (.cells c3 t3)).alloc (.cells c4 t4)).heap.size = w.heap.size + 4 from by simp] at h
  exact Lib.hid h
theorem apart_types {P : Program} {α β : Type} {La : Lay P α} {Lb : Lay P β} (hne : La.e ≠ Lb.e) {w : World} {b b' : Nat} {u v : Value} {l : List α} {m : List β} (ha : La.Own b w u l) (hb : Lb.Own b' w v m) : Apart u v := fun k hk hk' => by
  rcases ha.2 with ⟨rfl, _⟩ | ⟨g, cap, cur, rfl, _, hg, _⟩
  · cases hk
  rcases hb.2 with ⟨rfl, _⟩ | ⟨g', cap', cur', rfl, _, hg', _⟩
  · cases hk'
  injection hk with hk; injection hk' with hk'
  simp only at hk hk'
  subst hk hk'
  rw [hg] at hg'
  injection hg' with hg'
  injection hg' with _ h
  exact hne h
section
variable {w W w1 : World} {L : List (Nat × TypeId × Array Value)} {A A' : Option Addr} {c c' : Nat} {l l' : List ByteArray}
theorem from_kn (h : Kn w.heap.size w W L []) (hb : Below W.heap.size W w1) (hf : From W w1 A c l A' c' l') : ∃ R, Kn w.heap.size w w1 L R ∧ ∀ W' L', Kn w.heap.size w W' L' R → From w W' A c l A' c' l' := by
  rcases hf with ho | hs
  · have h1 := h.called hb ho
    rw [List.nil_append] at h1
    exact ⟨_, h1, fun W' L' h' => .inl (h'.own 0 rfl)⟩
  · exact ⟨[], h.call hb, fun _ _ _ => .inr hs⟩
theorem from_kn2 (h : Kn w.heap.size w W L []) (hb : Below W.heap.size W w1) (hf : From W w1 A c l A' c' l') {v : Value} {ps : List Lnk.Pkt} (hp : pktLay.Own W.heap.size w1 v ps) :
    ∃ R, Kn w.heap.size w w1 L R ∧ ∀ W' L', Kn w.heap.size w W' L' R → From w W' A c l A' c' l' ∧ pktLay.Own w.heap.size W' v ps := by
  rcases hf with ho | hs
  · have h1 := h.called hb ho
    rw [List.nil_append] at h1
    have h2 := h1.addR (y := row pktLay v ps) (World.ownsRow.mono hp h.m) (fun i x hx e => by
        have := (World.ownsRow.lt hp _ e).1
        have := (h.l i x hx).2.lt
        omega) (fun i x hx => by
        match i, hx with
        | 0, hx => cases hx; exact apart_types (La := strLay) (Lb := pktLay) (by decide) ho hp)
    exact ⟨_, h2, fun W' L' h' => ⟨.inl (h'.own 0 rfl), h'.own 1 rfl⟩⟩
  · have h1 := h.called hb hp
    rw [List.nil_append] at h1
    exact ⟨_, h1, fun W' L' h' => ⟨.inr hs, h'.own 0 rfl⟩⟩
end
theorem Kn.literalP {b0 : Nat} {w0 w : World} {L : List (Nat × TypeId × Array Value)} {R : List RowE} (h : Kn b0 w0 w L R) (p : Lnk.Pkt) : Kn b0 w0 (w.alloc (.cells (pA p) 36)) L (R ++ [row pktLay (.slice (some ⟨w.heap.size, 0, none⟩) 1 1) [p]]) :=
  h.called ((Below.refl _ w).alloc (Nat.le_refl _) _) (Lay.Own.new w [p] (pA p) _ _ _ (flat_pkt p) (Nat.le_refl _) rfl rfl rfl (by simp))
set_option maxRecDepth 10000 in
set_option maxHeartbeats 6400000 in
theorem do_any (A : Option Addr) (c : Nat) (l : Lnk.L) (k n : Int) (b : ByteArray) (p : Lnk.Pkt) (w : World) (hi : In w A l) (_hcap : l.out.length ≤ c) (hb : 1 ≤ l.base ∧ l.base ≤ 1000000) (hg : 0 ≤ l.got ∧ l.got ≤ 1000000) (ha : 0 ≤ l.age ∧ l.age ≤ 1000) (h64 : -9223372036854775808 ≤ p.ack ∧ p.ack ≤ 9223372036854775807) (_h65 : -9223372036854775808 ≤ p.seq ∧ p.seq ≤ 9223372036854775807) :
    Calls Try.prog 10 #[.agg (lA (.slice A l.out.length c) l), .agg (oC k n b p.fs p.fc p.ts p.tc p.seq p.ack p.body)] w (IsD A c l.out (doM l k n b p) w) := by
  have HS : Hid (∀ W, Below w.heap.size w W → Calls Try.prog 25 #[.agg (lA (.slice A l.out.length c) l), .string b, .int .i64 n] W (IsRS A c l.out (Lnk.send l b n) W)) := Lib.hid fun W hW => (send_any A c l b n W (hi.later hW) hb).mono fun e w1 ⟨A1, c1, h1, h2, h3⟩ => ⟨A1, c1, h1, .inl h2, h3⟩
  have HT : Hid (∀ W, Below w.heap.size w W → Calls Try.prog 26 #[.agg (lA (.slice A l.out.length c) l), .int .i64 n] W (IsRT A c l.out (Lnk.tick l n) W)) := Lib.hid fun W hW => (tick_any A c l n W (hi.later hW) hb ha).mono fun e w1 ⟨A1, c1, A2, c2, h1, h2, h3, h4⟩ => ⟨A1, c1, A2, c2, h1, .inl h2, h3, h4⟩
  have HM : Hid (∀ W, Below w.heap.size w W → Calls Try.prog 27 #[.agg (lA (.slice A l.out.length c) l), .int .i64 n] W (fun e w1 => ∃ A' c', e = .returned (.agg (lA (.slice A' (Lnk.meet l n).out.length c') (Lnk.meet l n))) ∧ From W w1 A c l.out A' c' (Lnk.meet l n).out ∧ Below W.heap.size W w1)) := Lib.hid fun W hW => (meet_any A c l n W (hi.later hW)).mono fun e w1 ⟨A1, c1, h1, h2, h3⟩ => ⟨A1, c1, h1, .inl h2, h3⟩
  have HTk : Hid (∀ W, Below w.heap.size w W → Calls Try.prog 28 #[.agg (lA (.slice A l.out.length c) l), .agg (pA p)] W (IsRTk A c l.out (Lnk.take l p) W)) := Lib.hid fun W hW => (take_any A c l p W (hi.later hW) hb hg h64).mono fun e w1 ⟨A1, c1, h1, h2, h3⟩ => ⟨A1, c1, h1, .inl h2, h3⟩
  have HK := kn6 w 27 (lA (.slice A l.out.length c) l) 38 (oC k n b p.fs p.fc p.ts p.tc p.seq p.ack p.body) 27 (lC (.slice none 0 0) 0 0 0 0 0 0 0) 32 (tC (.slice none 0 0) ⟨#[]⟩ false 0) 32 (tC (.slice none 0 0) ⟨#[]⟩ false 0) 36 (pC 0 0 0 0 0 0 ⟨#[]⟩)
  clear hi _hcap hb hg ha h64 _h65
  unfold doM
  generalize Lnk.send l b n = rs at *
  generalize Lnk.tick l n = rt at *
  generalize Lnk.meet l n = rm at *
  generalize Lnk.take l p = rk at *
  obtain ⟨fs, fc, ts, tc, seq, ack, body⟩ := p
  unfold lA pA at *
  simp only at HS HT HM HTk HK ⊢
  generalize hlo : l.out = out at *
  have HLO := Lib.hid hlo
  clear hlo
  generalize hln : out.length = ln at *
  have HLN := Lib.hid hln
  clear hln
  have hk : k = 1 ∨ k = 2 ∨ k = 3 ∨ k = 4 ∨ (k ≠ 1 ∧ k ≠ 2 ∧ k ≠ 3 ∧ k ≠ 4) := by omega
  rcases hk with rfl | rfl | rfl | rfl | ⟨k1, k2, k3, k4⟩
  · simp only [if_true]
    go_enter Try.func10, Try.ntmps10
    go_wp2_with (first | refine wpList_kll HK 0 rfl _ rfl rfl rfl ?_ | refine wpList_kci HK 1 rfl _ rfl rfl rfl rfl ?_ | refine wpList_kcs HK 1 rfl _ rfl rfl rfl rfl ?_)
    refine (HS.out _ HK.out.b).mono ?_; rintro e w1 ⟨A1, c1, rfl, o1, b1⟩
    obtain ⟨R1, k1, HF⟩ := from_kn HK.out b1 o1
    replace HK := Lib.hid k1
    replace HF := Lib.hid HF
    clear b1 o1 k1 HS HT HM HTk
    obtain ⟨⟨qms, qmc, qps, qpc, qout, qbase, qgot, qage⟩, ⟨pfs, pfc, pts, ptc, pseq, pack, pbody⟩, er⟩ := rs
    unfold lA pA at *
    simp only at HF ⊢
    go_wp2_with (first | (refine wpList_ksl HK 0 rfl _ _ rfl rfl rfl rfl rfl ?_; intro _ HK' _; simp only [List.set] at HK'; replace HK := HK'; clear HK') | (refine wpList_ksp HK 5 rfl _ _ rfl rfl rfl rfl rfl ?_; intro _ HK' _; simp only [List.set] at HK'; replace HK := HK'; clear HK') | (refine wpList_t3 HK 4 rfl _ _ rfl rfl rfl rfl ?_; intro _ HK' _; simp only [List.set] at HK'; replace HK := HK'; clear HK') | refine wpList_klpx HK 5 rfl _ rfl rfl rfl ?_ | (refine wpList_t0 (Lib.hid (HK.out.literalP ⟨pfs, pfc, pts, ptc, pseq, pack, pbody⟩)) 4 rfl _ _ rfl rfl rfl rfl ?_; intro _ HK' _; simp only [List.set] at HK'; replace HK := HK'; clear HK'))
    replace HK := Lib.hid HK.out.drew
    refine wp_region_any (by kernel_rfl) ?_
    change wpAny _ _ _ _ _ _ _ (World.drew _)
    refine wpAny_ready (rs := [0, 1]) (by kernel_rfl) (by simp) ?_
    refine AllReady.cons (o := ⟨some 61, _, _, _, _, _⟩) rfl (fun K hK => ?_) (AllReady.cons (o := ⟨some 62, _, _, _, _, _⟩) rfl (fun K hK => ?_) AllReady.nil)
    replace hK := Lib.hid hK
    refine step_kll HK 0 (by rfl) _ (by rfl) (by rfl) (by rfl) ?_
    refine hK.out _ _ ?_
    clear hK K
    try simp only [Act.put, List.setIfInBounds_toArray, List.set_cons_zero, List.set_cons_succ]
    refine wpAny_ready (rs := [1, 2]) (by kernel_rfl) (by simp) ?_
    refine AllReady.cons (o := ⟨some 62, _, _, _, _, _⟩) rfl (fun K hK => ?_) (AllReady.cons (o := ⟨none, _, _, _, _, _⟩) rfl (fun K hK => ?_) AllReady.nil)
    replace hK := Lib.hid hK
    refine step_klt HK 4 (by rfl) _ (by rfl) (by rfl) (by rfl) ?_
    refine hK.out _ _ ?_
    clear hK K
    try simp only [Act.put, List.setIfInBounds_toArray, List.set_cons_zero, List.set_cons_succ]
    refine wpAny_ready (rs := [2]) (by kernel_rfl) (by simp) ?_
    refine AllReady.cons (o := ⟨none, _, _, _, _, _⟩) rfl (fun K hK => ?_) AllReady.nil
    replace hK := Lib.hid hK
    refine step_ksl HK 2 (by rfl) _ _ (by rfl) (by rfl) (by rfl) (by rfl) (by rfl) ?_; intro _ HK' _; simp only [List.set] at HK'; replace HK := HK'; clear HK'
    refine hK.out _ _ ?_
    clear hK K
    try simp only [Act.put]
    refine wpAny_ready (rs := [3]) (by kernel_rfl) (by simp) ?_
    refine AllReady.cons (o := ⟨none, _, _, _, _, _⟩) rfl (fun K hK => ?_) AllReady.nil
    replace hK := Lib.hid hK
    refine step_kst HK 3 (by rfl) _ _ (by rfl) (by rfl) (by rfl) (by rfl) (by rfl) ?_; intro _ HK' _; simp only [List.set] at HK'; replace HK := HK'; clear HK'
    refine hK.out _ _ ?_
    clear hK K
    try simp only [Act.put]
    refine wpAny_done (by kernel_rfl) ?_ _
    rotate_left
    replace hK := Lib.hid hK
    refine step_ksl HK 2 (by rfl) _ _ (by rfl) (by rfl) (by rfl) (by rfl) (by rfl) ?_; intro _ HK' _; simp only [List.set] at HK'; replace HK := HK'; clear HK'
    refine hK.out _ _ ?_
    clear hK K
    try simp only [Act.put]
    refine wpAny_ready (rs := [1]) (by kernel_rfl) (by simp) ?_
    refine AllReady.cons (o := ⟨some 62, _, _, _, _, _⟩) rfl (fun K hK => ?_) AllReady.nil
    replace hK := Lib.hid hK
    refine step_klt HK 4 (by rfl) _ (by rfl) (by rfl) (by rfl) ?_
    refine hK.out _ _ ?_
    clear hK K
    try simp only [Act.put, List.setIfInBounds_toArray, List.set_cons_zero, List.set_cons_succ]
    refine wpAny_ready (rs := [3]) (by kernel_rfl) (by simp) ?_
    refine AllReady.cons (o := ⟨none, _, _, _, _, _⟩) rfl (fun K hK => ?_) AllReady.nil
    replace hK := Lib.hid hK
    refine step_kst HK 3 (by rfl) _ _ (by rfl) (by rfl) (by rfl) (by rfl) (by rfl) ?_; intro _ HK' _; simp only [List.set] at HK'; replace HK := HK'; clear HK'
    refine hK.out _ _ ?_
    clear hK K
    try simp only [Act.put]
    refine wpAny_done (by kernel_rfl) ?_ _
    rotate_left
    replace hK := Lib.hid hK
    refine step_klt HK 4 (by rfl) _ (by rfl) (by rfl) (by rfl) ?_
    refine hK.out _ _ ?_
    clear hK K
    try simp only [Act.put, List.setIfInBounds_toArray, List.set_cons_zero, List.set_cons_succ]
    refine wpAny_ready (rs := [0]) (by kernel_rfl) (by simp) ?_
    refine AllReady.cons (o := ⟨some 61, _, _, _, _, _⟩) rfl (fun K hK => ?_) AllReady.nil
    replace hK := Lib.hid hK
    refine step_kll HK 0 (by rfl) _ (by rfl) (by rfl) (by rfl) ?_
    refine hK.out _ _ ?_
    clear hK K
    try simp only [Act.put, List.setIfInBounds_toArray, List.set_cons_zero, List.set_cons_succ]
    refine wpAny_ready (rs := [2]) (by kernel_rfl) (by simp) ?_
    refine AllReady.cons (o := ⟨none, _, _, _, _, _⟩) rfl (fun K hK => ?_) AllReady.nil
    replace hK := Lib.hid hK
    refine step_ksl HK 2 (by rfl) _ _ (by rfl) (by rfl) (by rfl) (by rfl) (by rfl) ?_; intro _ HK' _; simp only [List.set] at HK'; replace HK := HK'; clear HK'
    refine hK.out _ _ ?_
    clear hK K
    try simp only [Act.put]
    refine wpAny_ready (rs := [3]) (by kernel_rfl) (by simp) ?_
    refine AllReady.cons (o := ⟨none, _, _, _, _, _⟩) rfl (fun K hK => ?_) AllReady.nil
    replace hK := Lib.hid hK
    refine step_kst HK 3 (by rfl) _ _ (by rfl) (by rfl) (by rfl) (by rfl) (by rfl) ?_; intro _ HK' _; simp only [List.set] at HK'; replace HK := HK'; clear HK'
    refine hK.out _ _ ?_
    clear hK K
    try simp only [Act.put]
    refine wpAny_done (by kernel_rfl) ?_ _
    rotate_left
    all_goals
      go_wp2_with fail
      all_goals
        refine ret_lt Try.results10 rfl rfl rfl (HK.out.blk 2 rfl) (HK.out.blk 3 rfl) ⟨A1, c1, _, _, rfl, ?_, ?_, HK.out.b⟩
        · exact HF.out _ _ (by simpa using HK.out.takeR R1.length)
        · exact HK.out.own R1.length (by simp)
  · simp only [if_true, if_neg (show ¬ (2 : Int) = 1 by decide)]
    go_enter Try.func10, Try.ntmps10
    go_wp2_with (first | refine wpList_kll HK 0 rfl _ rfl rfl rfl ?_ | refine wpList_kci HK 1 rfl _ rfl rfl rfl rfl ?_)
    refine (HT.out _ HK.out.b).mono ?_; rintro e w1 ⟨A1, c1, A2, c2, rfl, o1, p1, b1⟩
    obtain ⟨R1, k1, HF⟩ := from_kn2 HK.out b1 o1 p1
    replace HK := Lib.hid k1
    replace HF := Lib.hid HF
    clear b1 o1 k1 p1 HS HT HM HTk
    obtain ⟨⟨qms, qmc, qps, qpc, qout, qbase, qgot, qage⟩, ps⟩ := rt
    unfold lA at *
    simp only at HF ⊢
    go_wp2_with (first | (refine wpList_ksl HK 0 rfl _ _ rfl rfl rfl rfl rfl ?_; intro _ HK' _; simp only [List.set] at HK'; replace HK := HK'; clear HK') | (refine wpList_t0 HK 4 rfl _ _ rfl rfl rfl rfl ?_; intro _ HK' _; simp only [List.set] at HK'; replace HK := HK'; clear HK'))
    replace HK := Lib.hid HK.out.drew
    refine wp_region_any (by kernel_rfl) ?_
    change wpAny _ _ _ _ _ _ _ (World.drew _)
    refine wpAny_ready (rs := [0, 1]) (by kernel_rfl) (by simp) ?_
    refine AllReady.cons (o := ⟨some 61, _, _, _, _, _⟩) rfl (fun K hK => ?_) (AllReady.cons (o := ⟨some 62, _, _, _, _, _⟩) rfl (fun K hK => ?_) AllReady.nil)
    replace hK := Lib.hid hK
    refine step_kll HK 0 (by rfl) _ (by rfl) (by rfl) (by rfl) ?_
    refine hK.out _ _ ?_
    clear hK K
    try simp only [Act.put, List.setIfInBounds_toArray, List.set_cons_zero, List.set_cons_succ]
    refine wpAny_ready (rs := [1, 2]) (by kernel_rfl) (by simp) ?_
    refine AllReady.cons (o := ⟨some 62, _, _, _, _, _⟩) rfl (fun K hK => ?_) (AllReady.cons (o := ⟨none, _, _, _, _, _⟩) rfl (fun K hK => ?_) AllReady.nil)
    replace hK := Lib.hid hK
    refine step_klt HK 4 (by rfl) _ (by rfl) (by rfl) (by rfl) ?_
    refine hK.out _ _ ?_
    clear hK K
    try simp only [Act.put, List.setIfInBounds_toArray, List.set_cons_zero, List.set_cons_succ]
    refine wpAny_ready (rs := [2]) (by kernel_rfl) (by simp) ?_
    refine AllReady.cons (o := ⟨none, _, _, _, _, _⟩) rfl (fun K hK => ?_) AllReady.nil
    replace hK := Lib.hid hK
    refine step_ksl HK 2 (by rfl) _ _ (by rfl) (by rfl) (by rfl) (by rfl) (by rfl) ?_; intro _ HK' _; simp only [List.set] at HK'; replace HK := HK'; clear HK'
    refine hK.out _ _ ?_
    clear hK K
    try simp only [Act.put]
    refine wpAny_ready (rs := [3]) (by kernel_rfl) (by simp) ?_
    refine AllReady.cons (o := ⟨none, _, _, _, _, _⟩) rfl (fun K hK => ?_) AllReady.nil
    replace hK := Lib.hid hK
    refine step_kst HK 3 (by rfl) _ _ (by rfl) (by rfl) (by rfl) (by rfl) (by rfl) ?_; intro _ HK' _; simp only [List.set] at HK'; replace HK := HK'; clear HK'
    refine hK.out _ _ ?_
    clear hK K
    try simp only [Act.put]
    refine wpAny_done (by kernel_rfl) ?_ _
    rotate_left
    replace hK := Lib.hid hK
    refine step_ksl HK 2 (by rfl) _ _ (by rfl) (by rfl) (by rfl) (by rfl) (by rfl) ?_; intro _ HK' _; simp only [List.set] at HK'; replace HK := HK'; clear HK'
    refine hK.out _ _ ?_
    clear hK K
    try simp only [Act.put]
    refine wpAny_ready (rs := [1]) (by kernel_rfl) (by simp) ?_
    refine AllReady.cons (o := ⟨some 62, _, _, _, _, _⟩) rfl (fun K hK => ?_) AllReady.nil
    replace hK := Lib.hid hK
    refine step_klt HK 4 (by rfl) _ (by rfl) (by rfl) (by rfl) ?_
    refine hK.out _ _ ?_
    clear hK K
    try simp only [Act.put, List.setIfInBounds_toArray, List.set_cons_zero, List.set_cons_succ]
    refine wpAny_ready (rs := [3]) (by kernel_rfl) (by simp) ?_
    refine AllReady.cons (o := ⟨none, _, _, _, _, _⟩) rfl (fun K hK => ?_) AllReady.nil
    replace hK := Lib.hid hK
    refine step_kst HK 3 (by rfl) _ _ (by rfl) (by rfl) (by rfl) (by rfl) (by rfl) ?_; intro _ HK' _; simp only [List.set] at HK'; replace HK := HK'; clear HK'
    refine hK.out _ _ ?_
    clear hK K
    try simp only [Act.put]
    refine wpAny_done (by kernel_rfl) ?_ _
    rotate_left
    replace hK := Lib.hid hK
    refine step_klt HK 4 (by rfl) _ (by rfl) (by rfl) (by rfl) ?_
    refine hK.out _ _ ?_
    clear hK K
    try simp only [Act.put, List.setIfInBounds_toArray, List.set_cons_zero, List.set_cons_succ]
    refine wpAny_ready (rs := [0]) (by kernel_rfl) (by simp) ?_
    refine AllReady.cons (o := ⟨some 61, _, _, _, _, _⟩) rfl (fun K hK => ?_) AllReady.nil
    replace hK := Lib.hid hK
    refine step_kll HK 0 (by rfl) _ (by rfl) (by rfl) (by rfl) ?_
    refine hK.out _ _ ?_
    clear hK K
    try simp only [Act.put, List.setIfInBounds_toArray, List.set_cons_zero, List.set_cons_succ]
    refine wpAny_ready (rs := [2]) (by kernel_rfl) (by simp) ?_
    refine AllReady.cons (o := ⟨none, _, _, _, _, _⟩) rfl (fun K hK => ?_) AllReady.nil
    replace hK := Lib.hid hK
    refine step_ksl HK 2 (by rfl) _ _ (by rfl) (by rfl) (by rfl) (by rfl) (by rfl) ?_; intro _ HK' _; simp only [List.set] at HK'; replace HK := HK'; clear HK'
    refine hK.out _ _ ?_
    clear hK K
    try simp only [Act.put]
    refine wpAny_ready (rs := [3]) (by kernel_rfl) (by simp) ?_
    refine AllReady.cons (o := ⟨none, _, _, _, _, _⟩) rfl (fun K hK => ?_) AllReady.nil
    replace hK := Lib.hid hK
    refine step_kst HK 3 (by rfl) _ _ (by rfl) (by rfl) (by rfl) (by rfl) (by rfl) ?_; intro _ HK' _; simp only [List.set] at HK'; replace HK := HK'; clear HK'
    refine hK.out _ _ ?_
    clear hK K
    try simp only [Act.put]
    refine wpAny_done (by kernel_rfl) ?_ _
    rotate_left
    all_goals
      go_wp2_with fail
      all_goals
        refine ret_lt Try.results10 rfl rfl rfl (HK.out.blk 2 rfl) (HK.out.blk 3 rfl) ⟨A1, c1, _, _, rfl, ?_, ?_, HK.out.b⟩
        · exact (HF.out _ _ HK.out).1
        · exact (HF.out _ _ HK.out).2
  · simp only [if_true, if_neg (show ¬ (3 : Int) = 1 by decide), if_neg (show ¬ (3 : Int) = 2 by decide)]
    go_enter Try.func10, Try.ntmps10
    go_wp2_with (first | refine wpList_kll HK 0 rfl _ rfl rfl rfl ?_ | refine wpList_kci HK 1 rfl _ rfl rfl rfl rfl ?_)
    refine (HM.out _ HK.out.b).mono ?_; rintro e w1 ⟨A1, c1, rfl, o1, b1⟩
    obtain ⟨R1, k1, HF⟩ := from_kn HK.out b1 o1
    replace HK := Lib.hid k1
    replace HF := Lib.hid HF
    clear b1 o1 k1 HS HT HM HTk
    obtain ⟨qms, qmc, qps, qpc, qout, qbase, qgot, qage⟩ := rm
    unfold lA at *
    simp only at HF ⊢
    go_wp2_with (first | (refine wpList_ksl HK 0 rfl _ _ rfl rfl rfl rfl rfl ?_; intro _ HK' _; simp only [List.set] at HK'; replace HK := HK'; clear HK'))
    replace HK := Lib.hid HK.out.drew
    refine wp_region_any (by kernel_rfl) ?_
    change wpAny _ _ _ _ _ _ _ (World.drew _)
    refine wpAny_ready (rs := [0, 1]) (by kernel_rfl) (by simp) ?_
    refine AllReady.cons (o := ⟨some 61, _, _, _, _, _⟩) rfl (fun K hK => ?_) (AllReady.cons (o := ⟨some 62, _, _, _, _, _⟩) rfl (fun K hK => ?_) AllReady.nil)
    replace hK := Lib.hid hK
    refine step_kll HK 0 (by rfl) _ (by rfl) (by rfl) (by rfl) ?_
    refine hK.out _ _ ?_
    clear hK K
    try simp only [Act.put, List.setIfInBounds_toArray, List.set_cons_zero, List.set_cons_succ]
    refine wpAny_ready (rs := [1, 2]) (by kernel_rfl) (by simp) ?_
    refine AllReady.cons (o := ⟨some 62, _, _, _, _, _⟩) rfl (fun K hK => ?_) (AllReady.cons (o := ⟨none, _, _, _, _, _⟩) rfl (fun K hK => ?_) AllReady.nil)
    replace hK := Lib.hid hK
    refine step_klt HK 4 (by rfl) _ (by rfl) (by rfl) (by rfl) ?_
    refine hK.out _ _ ?_
    clear hK K
    try simp only [Act.put, List.setIfInBounds_toArray, List.set_cons_zero, List.set_cons_succ]
    refine wpAny_ready (rs := [2]) (by kernel_rfl) (by simp) ?_
    refine AllReady.cons (o := ⟨none, _, _, _, _, _⟩) rfl (fun K hK => ?_) AllReady.nil
    replace hK := Lib.hid hK
    refine step_ksl HK 2 (by rfl) _ _ (by rfl) (by rfl) (by rfl) (by rfl) (by rfl) ?_; intro _ HK' _; simp only [List.set] at HK'; replace HK := HK'; clear HK'
    refine hK.out _ _ ?_
    clear hK K
    try simp only [Act.put]
    refine wpAny_ready (rs := [3]) (by kernel_rfl) (by simp) ?_
    refine AllReady.cons (o := ⟨none, _, _, _, _, _⟩) rfl (fun K hK => ?_) AllReady.nil
    replace hK := Lib.hid hK
    refine step_kst HK 3 (by rfl) _ _ (by rfl) (by rfl) (by rfl) (by rfl) (by rfl) ?_; intro _ HK' _; simp only [List.set] at HK'; replace HK := HK'; clear HK'
    refine hK.out _ _ ?_
    clear hK K
    try simp only [Act.put]
    refine wpAny_done (by kernel_rfl) ?_ _
    rotate_left
    replace hK := Lib.hid hK
    refine step_ksl HK 2 (by rfl) _ _ (by rfl) (by rfl) (by rfl) (by rfl) (by rfl) ?_; intro _ HK' _; simp only [List.set] at HK'; replace HK := HK'; clear HK'
    refine hK.out _ _ ?_
    clear hK K
    try simp only [Act.put]
    refine wpAny_ready (rs := [1]) (by kernel_rfl) (by simp) ?_
    refine AllReady.cons (o := ⟨some 62, _, _, _, _, _⟩) rfl (fun K hK => ?_) AllReady.nil
    replace hK := Lib.hid hK
    refine step_klt HK 4 (by rfl) _ (by rfl) (by rfl) (by rfl) ?_
    refine hK.out _ _ ?_
    clear hK K
    try simp only [Act.put, List.setIfInBounds_toArray, List.set_cons_zero, List.set_cons_succ]
    refine wpAny_ready (rs := [3]) (by kernel_rfl) (by simp) ?_
    refine AllReady.cons (o := ⟨none, _, _, _, _, _⟩) rfl (fun K hK => ?_) AllReady.nil
    replace hK := Lib.hid hK
    refine step_kst HK 3 (by rfl) _ _ (by rfl) (by rfl) (by rfl) (by rfl) (by rfl) ?_; intro _ HK' _; simp only [List.set] at HK'; replace HK := HK'; clear HK'
    refine hK.out _ _ ?_
    clear hK K
    try simp only [Act.put]
    refine wpAny_done (by kernel_rfl) ?_ _
    rotate_left
    replace hK := Lib.hid hK
    refine step_klt HK 4 (by rfl) _ (by rfl) (by rfl) (by rfl) ?_
    refine hK.out _ _ ?_
    clear hK K
    try simp only [Act.put, List.setIfInBounds_toArray, List.set_cons_zero, List.set_cons_succ]
    refine wpAny_ready (rs := [0]) (by kernel_rfl) (by simp) ?_
    refine AllReady.cons (o := ⟨some 61, _, _, _, _, _⟩) rfl (fun K hK => ?_) AllReady.nil
    replace hK := Lib.hid hK
    refine step_kll HK 0 (by rfl) _ (by rfl) (by rfl) (by rfl) ?_
    refine hK.out _ _ ?_
    clear hK K
    try simp only [Act.put, List.setIfInBounds_toArray, List.set_cons_zero, List.set_cons_succ]
    refine wpAny_ready (rs := [2]) (by kernel_rfl) (by simp) ?_
    refine AllReady.cons (o := ⟨none, _, _, _, _, _⟩) rfl (fun K hK => ?_) AllReady.nil
    replace hK := Lib.hid hK
    refine step_ksl HK 2 (by rfl) _ _ (by rfl) (by rfl) (by rfl) (by rfl) (by rfl) ?_; intro _ HK' _; simp only [List.set] at HK'; replace HK := HK'; clear HK'
    refine hK.out _ _ ?_
    clear hK K
    try simp only [Act.put]
    refine wpAny_ready (rs := [3]) (by kernel_rfl) (by simp) ?_
    refine AllReady.cons (o := ⟨none, _, _, _, _, _⟩) rfl (fun K hK => ?_) AllReady.nil
    replace hK := Lib.hid hK
    refine step_kst HK 3 (by rfl) _ _ (by rfl) (by rfl) (by rfl) (by rfl) (by rfl) ?_; intro _ HK' _; simp only [List.set] at HK'; replace HK := HK'; clear HK'
    refine hK.out _ _ ?_
    clear hK K
    try simp only [Act.put]
    refine wpAny_done (by kernel_rfl) ?_ _
    rotate_left
    all_goals
      go_wp2_with fail
      all_goals
        refine ret_lt Try.results10 rfl rfl rfl (HK.out.blk 2 rfl) (HK.out.blk 3 rfl) ⟨A1, c1, _, _, rfl, ?_, ?_, HK.out.b⟩
        · exact HF.out _ _ HK.out
        · exact Lay.Own.none _ _
  · simp only [if_true, if_neg (show ¬ (4 : Int) = 1 by decide), if_neg (show ¬ (4 : Int) = 2 by decide), if_neg (show ¬ (4 : Int) = 3 by decide)]
    obtain ⟨⟨qms, qmc, qps, qpc, qout, qbase, qgot, qage⟩, qb, qt, ⟨pfs, pfc, pts, ptc, pseq, pack, pbody⟩, qa⟩ := rk
    cases qa
    · simp only [Bool.false_eq_true, if_false]
      go_enter Try.func10, Try.ntmps10
      go_wp2_with (first | refine wpList_kll HK 0 rfl _ rfl rfl rfl ?_ | refine wpList_kci HK 1 rfl _ rfl rfl rfl rfl ?_ | refine wpList_kop HK 1 rfl _ rfl rfl rfl ?_)
      refine (HTk.out _ HK.out.b).mono ?_; rintro e w1 ⟨A1, c1, rfl, o1, b1⟩
      obtain ⟨R1, k1, HF⟩ := from_kn HK.out b1 o1
      replace HK := Lib.hid k1
      replace HF := Lib.hid HF
      clear b1 o1 k1 HS HT HM HTk
      unfold lA pA at *
      simp only at HF ⊢
      go_wp2_with (first | (refine wpList_ksl HK 0 rfl _ _ rfl rfl rfl rfl rfl ?_; intro _ HK' _; simp only [List.set] at HK'; replace HK := HK'; clear HK') | (refine wpList_t1 HK 4 rfl _ _ rfl rfl rfl rfl ?_; intro _ HK' _; simp only [List.set] at HK'; replace HK := HK'; clear HK') | (refine wpList_t2 HK 4 rfl _ _ rfl rfl rfl rfl ?_; intro _ HK' _; simp only [List.set] at HK'; replace HK := HK'; clear HK') | (refine wpList_ksp HK 5 rfl _ _ rfl rfl rfl rfl rfl ?_; intro _ HK' _; simp only [List.set] at HK'; replace HK := HK'; clear HK'))
      replace HK := Lib.hid HK.out.drew
      refine wp_region_any (by kernel_rfl) ?_
      change wpAny _ _ _ _ _ _ _ (World.drew _)
      refine wpAny_ready (rs := [0, 1]) (by kernel_rfl) (by simp) ?_
      refine AllReady.cons (o := ⟨some 61, _, _, _, _, _⟩) rfl (fun K hK => ?_) (AllReady.cons (o := ⟨some 62, _, _, _, _, _⟩) rfl (fun K hK => ?_) AllReady.nil)
      replace hK := Lib.hid hK
      refine step_kll HK 0 (by rfl) _ (by rfl) (by rfl) (by rfl) ?_
      refine hK.out _ _ ?_
      clear hK K
      try simp only [Act.put, List.setIfInBounds_toArray, List.set_cons_zero, List.set_cons_succ]
      refine wpAny_ready (rs := [1, 2]) (by kernel_rfl) (by simp) ?_
      refine AllReady.cons (o := ⟨some 62, _, _, _, _, _⟩) rfl (fun K hK => ?_) (AllReady.cons (o := ⟨none, _, _, _, _, _⟩) rfl (fun K hK => ?_) AllReady.nil)
      replace hK := Lib.hid hK
      refine step_klt HK 4 (by rfl) _ (by rfl) (by rfl) (by rfl) ?_
      refine hK.out _ _ ?_
      clear hK K
      try simp only [Act.put, List.setIfInBounds_toArray, List.set_cons_zero, List.set_cons_succ]
      refine wpAny_ready (rs := [2]) (by kernel_rfl) (by simp) ?_
      refine AllReady.cons (o := ⟨none, _, _, _, _, _⟩) rfl (fun K hK => ?_) AllReady.nil
      replace hK := Lib.hid hK
      refine step_ksl HK 2 (by rfl) _ _ (by rfl) (by rfl) (by rfl) (by rfl) (by rfl) ?_; intro _ HK' _; simp only [List.set] at HK'; replace HK := HK'; clear HK'
      refine hK.out _ _ ?_
      clear hK K
      try simp only [Act.put]
      refine wpAny_ready (rs := [3]) (by kernel_rfl) (by simp) ?_
      refine AllReady.cons (o := ⟨none, _, _, _, _, _⟩) rfl (fun K hK => ?_) AllReady.nil
      replace hK := Lib.hid hK
      refine step_kst HK 3 (by rfl) _ _ (by rfl) (by rfl) (by rfl) (by rfl) (by rfl) ?_; intro _ HK' _; simp only [List.set] at HK'; replace HK := HK'; clear HK'
      refine hK.out _ _ ?_
      clear hK K
      try simp only [Act.put]
      refine wpAny_done (by kernel_rfl) ?_ _
      rotate_left
      replace hK := Lib.hid hK
      refine step_ksl HK 2 (by rfl) _ _ (by rfl) (by rfl) (by rfl) (by rfl) (by rfl) ?_; intro _ HK' _; simp only [List.set] at HK'; replace HK := HK'; clear HK'
      refine hK.out _ _ ?_
      clear hK K
      try simp only [Act.put]
      refine wpAny_ready (rs := [1]) (by kernel_rfl) (by simp) ?_
      refine AllReady.cons (o := ⟨some 62, _, _, _, _, _⟩) rfl (fun K hK => ?_) AllReady.nil
      replace hK := Lib.hid hK
      refine step_klt HK 4 (by rfl) _ (by rfl) (by rfl) (by rfl) ?_
      refine hK.out _ _ ?_
      clear hK K
      try simp only [Act.put, List.setIfInBounds_toArray, List.set_cons_zero, List.set_cons_succ]
      refine wpAny_ready (rs := [3]) (by kernel_rfl) (by simp) ?_
      refine AllReady.cons (o := ⟨none, _, _, _, _, _⟩) rfl (fun K hK => ?_) AllReady.nil
      replace hK := Lib.hid hK
      refine step_kst HK 3 (by rfl) _ _ (by rfl) (by rfl) (by rfl) (by rfl) (by rfl) ?_; intro _ HK' _; simp only [List.set] at HK'; replace HK := HK'; clear HK'
      refine hK.out _ _ ?_
      clear hK K
      try simp only [Act.put]
      refine wpAny_done (by kernel_rfl) ?_ _
      rotate_left
      replace hK := Lib.hid hK
      refine step_klt HK 4 (by rfl) _ (by rfl) (by rfl) (by rfl) ?_
      refine hK.out _ _ ?_
      clear hK K
      try simp only [Act.put, List.setIfInBounds_toArray, List.set_cons_zero, List.set_cons_succ]
      refine wpAny_ready (rs := [0]) (by kernel_rfl) (by simp) ?_
      refine AllReady.cons (o := ⟨some 61, _, _, _, _, _⟩) rfl (fun K hK => ?_) AllReady.nil
      replace hK := Lib.hid hK
      refine step_kll HK 0 (by rfl) _ (by rfl) (by rfl) (by rfl) ?_
      refine hK.out _ _ ?_
      clear hK K
      try simp only [Act.put, List.setIfInBounds_toArray, List.set_cons_zero, List.set_cons_succ]
      refine wpAny_ready (rs := [2]) (by kernel_rfl) (by simp) ?_
      refine AllReady.cons (o := ⟨none, _, _, _, _, _⟩) rfl (fun K hK => ?_) AllReady.nil
      replace hK := Lib.hid hK
      refine step_ksl HK 2 (by rfl) _ _ (by rfl) (by rfl) (by rfl) (by rfl) (by rfl) ?_; intro _ HK' _; simp only [List.set] at HK'; replace HK := HK'; clear HK'
      refine hK.out _ _ ?_
      clear hK K
      try simp only [Act.put]
      refine wpAny_ready (rs := [3]) (by kernel_rfl) (by simp) ?_
      refine AllReady.cons (o := ⟨none, _, _, _, _, _⟩) rfl (fun K hK => ?_) AllReady.nil
      replace hK := Lib.hid hK
      refine step_kst HK 3 (by rfl) _ _ (by rfl) (by rfl) (by rfl) (by rfl) (by rfl) ?_; intro _ HK' _; simp only [List.set] at HK'; replace HK := HK'; clear HK'
      refine hK.out _ _ ?_
      clear hK K
      try simp only [Act.put]
      refine wpAny_done (by kernel_rfl) ?_ _
      rotate_left
      all_goals
        go_wp2_with fail
        all_goals
          refine ret_lt Try.results10 rfl rfl rfl (HK.out.blk 2 rfl) (HK.out.blk 3 rfl) ⟨A1, c1, _, _, rfl, ?_, ?_, HK.out.b⟩
          · exact HF.out _ _ HK.out
          · exact Lay.Own.none _ _
    · simp only [if_true]
      go_enter Try.func10, Try.ntmps10
      go_wp2_with (first | refine wpList_kll HK 0 rfl _ rfl rfl rfl ?_ | refine wpList_kci HK 1 rfl _ rfl rfl rfl rfl ?_ | refine wpList_kop HK 1 rfl _ rfl rfl rfl ?_)
      refine (HTk.out _ HK.out.b).mono ?_; rintro e w1 ⟨A1, c1, rfl, o1, b1⟩
      obtain ⟨R1, k1, HF⟩ := from_kn HK.out b1 o1
      replace HK := Lib.hid k1
      replace HF := Lib.hid HF
      clear b1 o1 k1 HS HT HM HTk
      unfold lA pA at *
      simp only at HF ⊢
      go_wp2_with (first | (refine wpList_ksl HK 0 rfl _ _ rfl rfl rfl rfl rfl ?_; intro _ HK' _; simp only [List.set] at HK'; replace HK := HK'; clear HK') | (refine wpList_t1 HK 4 rfl _ _ rfl rfl rfl rfl ?_; intro _ HK' _; simp only [List.set] at HK'; replace HK := HK'; clear HK') | (refine wpList_t2 HK 4 rfl _ _ rfl rfl rfl rfl ?_; intro _ HK' _; simp only [List.set] at HK'; replace HK := HK'; clear HK') | (refine wpList_ksp HK 5 rfl _ _ rfl rfl rfl rfl rfl ?_; intro _ HK' _; simp only [List.set] at HK'; replace HK := HK'; clear HK') | refine wpList_klpx HK 5 rfl _ rfl rfl rfl ?_ | (refine wpList_t0 (Lib.hid (HK.out.literalP ⟨pfs, pfc, pts, ptc, pseq, pack, pbody⟩)) 4 rfl _ _ rfl rfl rfl rfl ?_; intro _ HK' _; simp only [List.set] at HK'; replace HK := HK'; clear HK'))
      replace HK := Lib.hid HK.out.drew
      refine wp_region_any (by kernel_rfl) ?_
      change wpAny _ _ _ _ _ _ _ (World.drew _)
      refine wpAny_ready (rs := [0, 1]) (by kernel_rfl) (by simp) ?_
      refine AllReady.cons (o := ⟨some 61, _, _, _, _, _⟩) rfl (fun K hK => ?_) (AllReady.cons (o := ⟨some 62, _, _, _, _, _⟩) rfl (fun K hK => ?_) AllReady.nil)
      replace hK := Lib.hid hK
      refine step_kll HK 0 (by rfl) _ (by rfl) (by rfl) (by rfl) ?_
      refine hK.out _ _ ?_
      clear hK K
      try simp only [Act.put, List.setIfInBounds_toArray, List.set_cons_zero, List.set_cons_succ]
      refine wpAny_ready (rs := [1, 2]) (by kernel_rfl) (by simp) ?_
      refine AllReady.cons (o := ⟨some 62, _, _, _, _, _⟩) rfl (fun K hK => ?_) (AllReady.cons (o := ⟨none, _, _, _, _, _⟩) rfl (fun K hK => ?_) AllReady.nil)
      replace hK := Lib.hid hK
      refine step_klt HK 4 (by rfl) _ (by rfl) (by rfl) (by rfl) ?_
      refine hK.out _ _ ?_
      clear hK K
      try simp only [Act.put, List.setIfInBounds_toArray, List.set_cons_zero, List.set_cons_succ]
      refine wpAny_ready (rs := [2]) (by kernel_rfl) (by simp) ?_
      refine AllReady.cons (o := ⟨none, _, _, _, _, _⟩) rfl (fun K hK => ?_) AllReady.nil
      replace hK := Lib.hid hK
      refine step_ksl HK 2 (by rfl) _ _ (by rfl) (by rfl) (by rfl) (by rfl) (by rfl) ?_; intro _ HK' _; simp only [List.set] at HK'; replace HK := HK'; clear HK'
      refine hK.out _ _ ?_
      clear hK K
      try simp only [Act.put]
      refine wpAny_ready (rs := [3]) (by kernel_rfl) (by simp) ?_
      refine AllReady.cons (o := ⟨none, _, _, _, _, _⟩) rfl (fun K hK => ?_) AllReady.nil
      replace hK := Lib.hid hK
      refine step_kst HK 3 (by rfl) _ _ (by rfl) (by rfl) (by rfl) (by rfl) (by rfl) ?_; intro _ HK' _; simp only [List.set] at HK'; replace HK := HK'; clear HK'
      refine hK.out _ _ ?_
      clear hK K
      try simp only [Act.put]
      refine wpAny_done (by kernel_rfl) ?_ _
      rotate_left
      replace hK := Lib.hid hK
      refine step_ksl HK 2 (by rfl) _ _ (by rfl) (by rfl) (by rfl) (by rfl) (by rfl) ?_; intro _ HK' _; simp only [List.set] at HK'; replace HK := HK'; clear HK'
      refine hK.out _ _ ?_
      clear hK K
      try simp only [Act.put]
      refine wpAny_ready (rs := [1]) (by kernel_rfl) (by simp) ?_
      refine AllReady.cons (o := ⟨some 62, _, _, _, _, _⟩) rfl (fun K hK => ?_) AllReady.nil
      replace hK := Lib.hid hK
      refine step_klt HK 4 (by rfl) _ (by rfl) (by rfl) (by rfl) ?_
      refine hK.out _ _ ?_
      clear hK K
      try simp only [Act.put, List.setIfInBounds_toArray, List.set_cons_zero, List.set_cons_succ]
      refine wpAny_ready (rs := [3]) (by kernel_rfl) (by simp) ?_
      refine AllReady.cons (o := ⟨none, _, _, _, _, _⟩) rfl (fun K hK => ?_) AllReady.nil
      replace hK := Lib.hid hK
      refine step_kst HK 3 (by rfl) _ _ (by rfl) (by rfl) (by rfl) (by rfl) (by rfl) ?_; intro _ HK' _; simp only [List.set] at HK'; replace HK := HK'; clear HK'
      refine hK.out _ _ ?_
      clear hK K
      try simp only [Act.put]
      refine wpAny_done (by kernel_rfl) ?_ _
      rotate_left
      replace hK := Lib.hid hK
      refine step_klt HK 4 (by rfl) _ (by rfl) (by rfl) (by rfl) ?_
      refine hK.out _ _ ?_
      clear hK K
      try simp only [Act.put, List.setIfInBounds_toArray, List.set_cons_zero, List.set_cons_succ]
      refine wpAny_ready (rs := [0]) (by kernel_rfl) (by simp) ?_
      refine AllReady.cons (o := ⟨some 61, _, _, _, _, _⟩) rfl (fun K hK => ?_) AllReady.nil
      replace hK := Lib.hid hK
      refine step_kll HK 0 (by rfl) _ (by rfl) (by rfl) (by rfl) ?_
      refine hK.out _ _ ?_
      clear hK K
      try simp only [Act.put, List.setIfInBounds_toArray, List.set_cons_zero, List.set_cons_succ]
      refine wpAny_ready (rs := [2]) (by kernel_rfl) (by simp) ?_
      refine AllReady.cons (o := ⟨none, _, _, _, _, _⟩) rfl (fun K hK => ?_) AllReady.nil
      replace hK := Lib.hid hK
      refine step_ksl HK 2 (by rfl) _ _ (by rfl) (by rfl) (by rfl) (by rfl) (by rfl) ?_; intro _ HK' _; simp only [List.set] at HK'; replace HK := HK'; clear HK'
      refine hK.out _ _ ?_
      clear hK K
      try simp only [Act.put]
      refine wpAny_ready (rs := [3]) (by kernel_rfl) (by simp) ?_
      refine AllReady.cons (o := ⟨none, _, _, _, _, _⟩) rfl (fun K hK => ?_) AllReady.nil
      replace hK := Lib.hid hK
      refine step_kst HK 3 (by rfl) _ _ (by rfl) (by rfl) (by rfl) (by rfl) (by rfl) ?_; intro _ HK' _; simp only [List.set] at HK'; replace HK := HK'; clear HK'
      refine hK.out _ _ ?_
      clear hK K
      try simp only [Act.put]
      refine wpAny_done (by kernel_rfl) ?_ _
      rotate_left
      all_goals
        go_wp2_with fail
        all_goals
          refine ret_lt Try.results10 rfl rfl rfl (HK.out.blk 2 rfl) (HK.out.blk 3 rfl) ⟨A1, c1, _, _, rfl, ?_, ?_, HK.out.b⟩
          · exact HF.out _ _ (by simpa using HK.out.takeR R1.length)
          · exact HK.out.own R1.length (by simp)
  · simp only [if_neg k1, if_neg k2, if_neg k3, if_neg k4]
    have e1 : (k == 1) = false := by simpa using k1
    have e2 : (k == 2) = false := by simpa using k2
    have e3 : (k == 3) = false := by simpa using k3
    have e4 : (k == 4) = false := by simpa using k4
    clear k1 k2 k3 k4 HS HT HM HTk
    obtain ⟨ms, mc, ps, pc, out0, base, got, age⟩ := l
    simp only at HK HLO ⊢
    have HLO2 : Hid (out0 = out) := HLO
    go_enter Try.func10, Try.ntmps10
    go_wp2_with (first | refine wpList_kci HK 1 rfl _ rfl rfl rfl rfl ?_)
    replace HK := Lib.hid HK.out.drew
    refine wp_region_any (by kernel_rfl) ?_
    change wpAny _ _ _ _ _ _ _ (World.drew _)
    refine wpAny_ready (rs := [0, 1]) (by kernel_rfl) (by simp) ?_
    refine AllReady.cons (o := ⟨some 61, _, _, _, _, _⟩) rfl (fun K hK => ?_) (AllReady.cons (o := ⟨some 62, _, _, _, _, _⟩) rfl (fun K hK => ?_) AllReady.nil)
    replace hK := Lib.hid hK
    refine step_kll HK 0 (by rfl) _ (by rfl) (by rfl) (by rfl) ?_
    refine hK.out _ _ ?_
    clear hK K
    try simp only [Act.put, List.setIfInBounds_toArray, List.set_cons_zero, List.set_cons_succ]
    refine wpAny_ready (rs := [1, 2]) (by kernel_rfl) (by simp) ?_
    refine AllReady.cons (o := ⟨some 62, _, _, _, _, _⟩) rfl (fun K hK => ?_) (AllReady.cons (o := ⟨none, _, _, _, _, _⟩) rfl (fun K hK => ?_) AllReady.nil)
    replace hK := Lib.hid hK
    refine step_klt HK 4 (by rfl) _ (by rfl) (by rfl) (by rfl) ?_
    refine hK.out _ _ ?_
    clear hK K
    try simp only [Act.put, List.setIfInBounds_toArray, List.set_cons_zero, List.set_cons_succ]
    refine wpAny_ready (rs := [2]) (by kernel_rfl) (by simp) ?_
    refine AllReady.cons (o := ⟨none, _, _, _, _, _⟩) rfl (fun K hK => ?_) AllReady.nil
    replace hK := Lib.hid hK
    refine step_ksl HK 2 (by rfl) _ _ (by rfl) (by rfl) (by rfl) (by rfl) (by rfl) ?_; intro _ HK' _; simp only [List.set] at HK'; replace HK := HK'; clear HK'
    refine hK.out _ _ ?_
    clear hK K
    try simp only [Act.put]
    refine wpAny_ready (rs := [3]) (by kernel_rfl) (by simp) ?_
    refine AllReady.cons (o := ⟨none, _, _, _, _, _⟩) rfl (fun K hK => ?_) AllReady.nil
    replace hK := Lib.hid hK
    refine step_kst HK 3 (by rfl) _ _ (by rfl) (by rfl) (by rfl) (by rfl) (by rfl) ?_; intro _ HK' _; simp only [List.set] at HK'; replace HK := HK'; clear HK'
    refine hK.out _ _ ?_
    clear hK K
    try simp only [Act.put]
    refine wpAny_done (by kernel_rfl) ?_ _
    rotate_left
    replace hK := Lib.hid hK
    refine step_ksl HK 2 (by rfl) _ _ (by rfl) (by rfl) (by rfl) (by rfl) (by rfl) ?_; intro _ HK' _; simp only [List.set] at HK'; replace HK := HK'; clear HK'
    refine hK.out _ _ ?_
    clear hK K
    try simp only [Act.put]
    refine wpAny_ready (rs := [1]) (by kernel_rfl) (by simp) ?_
    refine AllReady.cons (o := ⟨some 62, _, _, _, _, _⟩) rfl (fun K hK => ?_) AllReady.nil
    replace hK := Lib.hid hK
    refine step_klt HK 4 (by rfl) _ (by rfl) (by rfl) (by rfl) ?_
    refine hK.out _ _ ?_
    clear hK K
    try simp only [Act.put, List.setIfInBounds_toArray, List.set_cons_zero, List.set_cons_succ]
    refine wpAny_ready (rs := [3]) (by kernel_rfl) (by simp) ?_
    refine AllReady.cons (o := ⟨none, _, _, _, _, _⟩) rfl (fun K hK => ?_) AllReady.nil
    replace hK := Lib.hid hK
    refine step_kst HK 3 (by rfl) _ _ (by rfl) (by rfl) (by rfl) (by rfl) (by rfl) ?_; intro _ HK' _; simp only [List.set] at HK'; replace HK := HK'; clear HK'
    refine hK.out _ _ ?_
    clear hK K
    try simp only [Act.put]
    refine wpAny_done (by kernel_rfl) ?_ _
    rotate_left
    replace hK := Lib.hid hK
    refine step_klt HK 4 (by rfl) _ (by rfl) (by rfl) (by rfl) ?_
    refine hK.out _ _ ?_
    clear hK K
    try simp only [Act.put, List.setIfInBounds_toArray, List.set_cons_zero, List.set_cons_succ]
    refine wpAny_ready (rs := [0]) (by kernel_rfl) (by simp) ?_
    refine AllReady.cons (o := ⟨some 61, _, _, _, _, _⟩) rfl (fun K hK => ?_) AllReady.nil
    replace hK := Lib.hid hK
    refine step_kll HK 0 (by rfl) _ (by rfl) (by rfl) (by rfl) ?_
    refine hK.out _ _ ?_
    clear hK K
    try simp only [Act.put, List.setIfInBounds_toArray, List.set_cons_zero, List.set_cons_succ]
    refine wpAny_ready (rs := [2]) (by kernel_rfl) (by simp) ?_
    refine AllReady.cons (o := ⟨none, _, _, _, _, _⟩) rfl (fun K hK => ?_) AllReady.nil
    replace hK := Lib.hid hK
    refine step_ksl HK 2 (by rfl) _ _ (by rfl) (by rfl) (by rfl) (by rfl) (by rfl) ?_; intro _ HK' _; simp only [List.set] at HK'; replace HK := HK'; clear HK'
    refine hK.out _ _ ?_
    clear hK K
    try simp only [Act.put]
    refine wpAny_ready (rs := [3]) (by kernel_rfl) (by simp) ?_
    refine AllReady.cons (o := ⟨none, _, _, _, _, _⟩) rfl (fun K hK => ?_) AllReady.nil
    replace hK := Lib.hid hK
    refine step_kst HK 3 (by rfl) _ _ (by rfl) (by rfl) (by rfl) (by rfl) (by rfl) ?_; intro _ HK' _; simp only [List.set] at HK'; replace HK := HK'; clear HK'
    refine hK.out _ _ ?_
    clear hK K
    try simp only [Act.put]
    refine wpAny_done (by kernel_rfl) ?_ _
    rotate_left
    all_goals
      go_wp2_with fail
      all_goals
        refine ret_lt Try.results10 rfl rfl rfl (HK.out.blk 2 rfl) (HK.out.blk 3 rfl) ⟨A, c, none, 0, by simp only [HLO2.out, HLN.out]; rfl, ?_, ?_, HK.out.b⟩
        · exact .inr ⟨rfl, rfl, HLO2.out⟩
        · exact Lay.Own.none _ _
end Go.Proofs.Ytamjcghdebjpjaa
