/-
  What tick of the wire does: a's half, b's half.
  No condition but that numbers are small.
-/
import Derived.Test.YtamjcghdebjpjaaWireOne
import Derived.Test.YtamjcghdebjpjaaLnkTick
import Derived.Test.YtamjcghdebjpjaaLnkRef
import Derived.Deep.CutBlock
import Derived.Deep.DeepCutAuto
set_option linter.unusedSimpArgs false
set_option linter.unusedVariables false
namespace Go.Proofs.Ytamjcghdebjpjaa
open Go.RowKit

theorem apartT {P : Program} {α β : Type} {La : Lay P α} {Lb : Lay P β} (hne : La.e ≠ Lb.e) {w : World} {b b' : Nat} {u v : Value} {l : List α} {m : List β} (ha : La.Own b w u l) (hb : Lb.Own b' w v m) : Apart u v := fun k hk hk' => by
  rcases ha.2 with ⟨rfl, _⟩ | ⟨g, cap, cur, rfl, _, hg, _⟩
  · cases hk
  rcases hb.2 with ⟨rfl, _⟩ | ⟨g', cap', cur', rfl, _, hg', _⟩
  · cases hk'
  injection hk with hk; injection hk' with hk'
  simp only at hk hk'
  subst hk
  subst hk'
  rw [hg] at hg'
  injection hg' with hg'
  injection hg' with _ h2
  exact hne h2
/-- Two rows that one call has made. -/
theorem Kn.calledF2 {P : Program} {b0 : Nat} {w0 w w' : World} {L : List (Nat × TypeId × Array Value)} {R : List RowE} (h : Kn b0 w0 w L R) (hb : Below w.heap.size w w') {α β : Type} {La : Lay P α} {Lb : Lay P β} {v u : Value} {l : List α} {m : List β}
    (ho : La.Own w.heap.size w' v l) (hp : Lb.Own w.heap.size w' u m) (hne : La.e ≠ Lb.e) : Kn b0 w0 w' L (row Lb u m :: row La v l :: R) := by
  refine Kn.front ((h.calledF hb ho).addR (y := row Lb u m) (World.ownsRow.mono hp h.m) (fun j x hx e => ?_) (fun j x hx => ?_))
  · have := (World.ownsRow.lt hp _ e).1
    have := (h.l j x hx).2.lt
    omega
  · match j, hx with
    | 0, hx =>
      have : x = row La v l := by simpa using hx.symm
      subst this
      exact apartT (La := La) (Lb := Lb) hne ho hp
    | j + 1, hx =>
      rw [List.getElem?_cons_succ] at hx
      intro k hk hk'
      have := (World.ownsRow.lt hp _ hk').1
      have := (owns_lt (h.r j x hx) hk).2
      omega
theorem Kn.tailR {b0 : Nat} {w0 w : World} {L : List (Nat × TypeId × Array Value)} {R : List RowE} {y : RowE} (h : Kn b0 w0 w L (y :: R)) : Kn b0 w0 w L R := h.dropR 1

set_option maxRecDepth 100000 in
set_option maxHeartbeats 12800000 in
theorem tickA_any (b0 : Nat) (w0 : World) (g : Nat) (x : Lnk.Wr) (w : World) (n m : Nat) (hW : WireAt b0 w0 g x w) (hf : Lnk.Wr.Fits n m x) (hn : n ≤ 900000) (hm : m ≤ 100000) :
    Calls Try.prog 19 #[.pointer (some ⟨g, 0, none⟩), .bool true] w fun e w' => e = .returned (.tuple #[]) ∧ WireAt b0 w0 g x.tickA w' := by
  obtain ⟨a, b, way, sent, back, got, gotA, win, ret⟩ := x
  obtain ⟨Aa, Ab, Aw, As, Ak, Ag, Ah, na, nb, nw, ns, nk, ng, nh, ca, cb, cw, cs, ck, cg, ch, S, ⟨ena, enb, enw, ens, enk, eng, enh⟩, eS, hK⟩ := hW
  simp only at ena enb enw ens enk eng enh eS hK
  have HK := Lib.hid hK
  have hw8 := hf.w8
  have hT : Hid (∀ W v c, strLay.Own b0 W (.slice v na c) a.out → Calls Try.prog 26 #[.agg (lA (.slice v na c) a), .int .i64 ret] W (IsT (Lnk.tick a ret) W)) := Lib.hid fun W v c ho => by
    have h1 := hf.a.b1
    have h2 := hf.a.bn
    have h3 := hf.a.a0
    have h4 := hf.a.a1
    simp only at h1 h2 h3 h4
    subst ena
    exact tick_any v c a ret W ⟨ho.read.1, ho.read.2.1, by omega⟩ ⟨h1, by omega⟩ ⟨h3, h4⟩
  have hpl := (hf.a.tick ret).2.1
  have hway : nw ≤ 900000 := by have := hf.way; simp only at this; omega
  unfold Lnk.Wr.tickA
  generalize Lnk.tick a ret = q at *
  obtain ⟨l1, ps⟩ := q
  unfold IsT at hT
  simp only at hT hpl hw8 ⊢
  have hps : ps.length ≤ 8 := by omega
  generalize hn1 : l1.out.length = n1 at hT
  have HN1 := Lib.hid hn1
  generalize hm1 : ps.length = m1 at hT
  have HM1 := Lib.hid hm1
  have HNw := Lib.hid enw
  have HL1 : Hid (way.length + ps.length ≤ 9223372036854775807 ∧ (way.length + ps.length) * pktLay.bytes ≤ 211106232532992) := Lib.hid ⟨by omega, by show _ * 64 ≤ _; omega⟩
  have HL2 : Hid ((way ++ ps).length = nw + m1) := Lib.hid (by rw [List.length_append, enw, hm1])
  clear hn1 hm1 hps hpl hw8 hf hn hm hK
  generalize hPX : WireAt b0 w0 g _ = PX
  have HPX := Lib.hid hPX
  clear hPX
  have HF := Lib.hid (And.intro (And.intro ena (And.intro enb (And.intro ens (And.intro enk (And.intro eng enh))))) eS)
  clear ena enb enw ens enk eng enh eS
  go_enter Try.func19, Try.ntmps19
  go_wp2_with fail
  replace HK := Lib.hid HK.out.drew
  refine wp_region_any (by kernel_rfl) ?_
  change wpAny _ _ _ _ _ _ _ (World.drew _)
  refine wpAny_take (i := 0) (oi := ⟨some 7, _, _, _, _, _⟩) (v := ?_) rfl (by kernel_rfl) (by kernel_rfl) (by kernel_rfl) (fun _ _ _ h => h) (Or.inl ⟨by rfl, ?_⟩) ?_
  rotate_left
  · (intro w; go_simp; try with_reducible rfl)
  try simp only [Act.put, List.setIfInBounds_toArray, List.set_cons_zero, List.set_cons_succ]
  refine wpAny_take (i := 1) (oi := ⟨some 8, _, _, _, _, _⟩) (v := ?_) rfl (by kernel_rfl) (by kernel_rfl) (by kernel_rfl) (fun _ _ _ h => h) (Or.inl ⟨by rfl, ?_⟩) ?_
  rotate_left
  · (intro w; go_simp; try with_reducible rfl)
  try simp only [Act.put, List.setIfInBounds_toArray, List.set_cons_zero, List.set_cons_succ]
  refine wpAny_take (i := 2) (oi := ⟨some 9, _, _, _, _, _⟩) (v := ?_) rfl (by kernel_rfl) (by kernel_rfl) (by kernel_rfl) (fun _ _ _ h => h) (Or.inl ⟨by rfl, ?_⟩) ?_
  rotate_left
  · (intro w; go_simp; try with_reducible rfl)
  try simp only [Act.put, List.setIfInBounds_toArray, List.set_cons_zero, List.set_cons_succ]
  refine wpAny_take (i := 3) (oi := ⟨some 10, _, _, _, _, _⟩) (v := ?_) rfl (by kernel_rfl) (by kernel_rfl) (by kernel_rfl) (fun _ _ _ h => h) (Or.inl ⟨by rfl, ?_⟩) ?_
  rotate_left
  · (intro w; go_simp; try with_reducible rfl)
  try simp only [Act.put, List.setIfInBounds_toArray, List.set_cons_zero, List.set_cons_succ]
  refine wpAny_take (i := 5) (oi := ⟨some 12, _, _, _, _, _⟩) (v := ?_) rfl (by kernel_rfl) (by kernel_rfl) (by kernel_rfl) (fun _ _ _ h => h) (Or.inl ⟨by rfl, ?_⟩) ?_
  rotate_left
  · (intro w; go_simp; try with_reducible rfl)
  try simp only [Act.put, List.setIfInBounds_toArray, List.set_cons_zero, List.set_cons_succ]
  refine wpAny_take (i := 6) (oi := ⟨some 13, _, _, _, _, _⟩) (v := ?_) rfl (by kernel_rfl) (by kernel_rfl) (by kernel_rfl) (fun _ _ _ h => h) (Or.inl ⟨by rfl, ?_⟩) ?_
  rotate_left
  · (intro w; go_simp; try with_reducible rfl)
  try simp only [Act.put, List.setIfInBounds_toArray, List.set_cons_zero, List.set_cons_succ]
  refine wpAny_take (i := 7) (oi := ⟨some 14, _, _, _, _, _⟩) (v := ?_) rfl (by kernel_rfl) (by kernel_rfl) (by kernel_rfl) (fun _ _ _ h => h) (Or.inl ⟨by rfl, ?_⟩) ?_
  rotate_left
  · (intro w; go_simp; try with_reducible rfl)
  try simp only [Act.put, List.setIfInBounds_toArray, List.set_cons_zero, List.set_cons_succ]
  refine wpAny_ready (rs := [4, 8]) (by kernel_rfl) (by simp) ?_
  refine AllReady.cons (o := ⟨some 11, _, _, _, _, _⟩) rfl (fun K hK => ?_) (AllReady.cons (o := ⟨some 15, _, _, _, _, _⟩) rfl (fun K hK => ?_) AllReady.nil)
  replace hK := Lib.hid hK
  refine step_x (by rfl) (kexec_wa HK 0 _ (by rfl) (by rfl) (by rfl)) ?_
  refine hK.out _ _ ?_
  clear hK K
  try simp only [Act.put, List.setIfInBounds_toArray, List.set_cons_zero, List.set_cons_succ]
  refine wpAny_ready (rs := [8]) (by kernel_rfl) (by simp) ?_
  refine AllReady.cons (o := ⟨some 15, _, _, _, _, _⟩) rfl (fun K hK => ?_) AllReady.nil
  replace hK := Lib.hid hK
  refine step_x (by rfl) (kexec_ci HK 0 _ (by rfl) (by rfl) (by rfl) (by rfl)) ?_
  refine hK.out _ _ ?_
  clear hK K
  try simp only [Act.put, List.setIfInBounds_toArray, List.set_cons_zero, List.set_cons_succ]
  refine wpAny_ready (rs := [9]) (by kernel_rfl) (by simp) ?_
  refine AllReady.cons (o := ⟨some 16, _, _, _, _, _⟩) rfl (fun K hK => ?_) AllReady.nil
  replace hK := Lib.hid hK
  go_simp
  go_at_call 26
  refine (hT.out _ _ _ (HK.out.own 0 rfl)).mono ?_; rintro e w2 ⟨A1, c1, A2, c2, rfl, o1, p1, b1⟩; replace HK := Lib.hid (HK.out.calledF2 b1 o1 p1 (by decide)); clear o1 p1 b1
  refine hK.out _ _ ?_
  clear hK K
  try simp only [Act.put, List.setIfInBounds_toArray, List.set_cons_zero, List.set_cons_succ]
  refine wpAny_take (i := 10) (oi := ⟨some 6, _, _, _, _, _⟩) (v := ?_) rfl (by kernel_rfl) (by kernel_rfl) (by kernel_rfl) (fun _ _ _ h => h) (Or.inl ⟨by rfl, ?_⟩) ?_
  rotate_left
  · (intro w; go_simp; try with_reducible rfl)
  try simp only [Act.put, List.setIfInBounds_toArray, List.set_cons_zero, List.set_cons_succ]
  refine wpAny_take (i := 11) (oi := ⟨some 17, _, _, _, _, _⟩) (v := ?_) rfl (by kernel_rfl) (by kernel_rfl) (by kernel_rfl) (fun _ _ _ h => h) (Or.inl ⟨by rfl, ?_⟩) ?_
  rotate_left
  · (intro w; go_simp; try with_reducible rfl)
  try simp only [Act.put, List.setIfInBounds_toArray, List.set_cons_zero, List.set_cons_succ]
  refine wpAny_take (i := 12) (oi := ⟨some 18, _, _, _, _, _⟩) (v := ?_) rfl (by kernel_rfl) (by kernel_rfl) (by kernel_rfl) (fun _ _ _ h => h) (Or.inl ⟨by rfl, ?_⟩) ?_
  rotate_left
  · (intro w; go_simp; try with_reducible rfl)
  try simp only [Act.put, List.setIfInBounds_toArray, List.set_cons_zero, List.set_cons_succ]
  refine wpAny_take (i := 13) (oi := ⟨some 19, _, _, _, _, _⟩) (v := ?_) rfl (by kernel_rfl) (by kernel_rfl) (by kernel_rfl) (fun _ _ _ h => h) (Or.inl ⟨by rfl, ?_⟩) ?_
  rotate_left
  · (intro w; go_simp; try with_reducible rfl)
  try simp only [Act.put, List.setIfInBounds_toArray, List.set_cons_zero, List.set_cons_succ]
  refine wpAny_take (i := 14) (oi := ⟨some 20, _, _, _, _, _⟩) (v := ?_) rfl (by kernel_rfl) (by kernel_rfl) (by kernel_rfl) (fun _ _ _ h => h) (Or.inl ⟨by rfl, ?_⟩) ?_
  rotate_left
  · (intro w; go_simp; try with_reducible rfl)
  try simp only [Act.put, List.setIfInBounds_toArray, List.set_cons_zero, List.set_cons_succ]
  refine wpAny_ready (rs := [15]) (by kernel_rfl) (by simp) ?_
  refine AllReady.cons (o := ⟨none, _, _, _, _, _⟩) rfl (fun K hK => ?_) AllReady.nil
  replace hK := Lib.hid hK
  refine step_sa HK 0 (by rfl) _ _ (by rfl) (by rfl) (by rfl) (by rfl) ?_; intro w4 HK' _; simp only [List.set] at HK'; replace HK := HK'; clear HK'
  refine hK.out _ _ ?_
  clear hK K
  try simp only [Act.put, List.setIfInBounds_toArray, List.set_cons_zero, List.set_cons_succ]
  refine wpAny_take (i := 16) (oi := ⟨some 4, _, _, _, _, _⟩) (v := ?_) rfl (by kernel_rfl) (by kernel_rfl) (by kernel_rfl) (fun _ _ _ h => h) (Or.inl ⟨by rfl, ?_⟩) ?_
  rotate_left
  · (intro w; go_simp; try with_reducible rfl)
  try simp only [Act.put, List.setIfInBounds_toArray, List.set_cons_zero, List.set_cons_succ]
  refine wpAny_done (by kernel_rfl) ?_ _
  rotate_left
  replace hK := Lib.hid hK
  refine step_x (by rfl) (kexec_ci HK 0 _ (by rfl) (by rfl) (by rfl) (by rfl)) ?_
  refine hK.out _ _ ?_
  clear hK K
  try simp only [Act.put, List.setIfInBounds_toArray, List.set_cons_zero, List.set_cons_succ]
  refine wpAny_ready (rs := [4]) (by kernel_rfl) (by simp) ?_
  refine AllReady.cons (o := ⟨some 11, _, _, _, _, _⟩) rfl (fun K hK => ?_) AllReady.nil
  replace hK := Lib.hid hK
  refine step_x (by rfl) (kexec_wa HK 0 _ (by rfl) (by rfl) (by rfl)) ?_
  refine hK.out _ _ ?_
  clear hK K
  try simp only [Act.put, List.setIfInBounds_toArray, List.set_cons_zero, List.set_cons_succ]
  refine wpAny_ready (rs := [9]) (by kernel_rfl) (by simp) ?_
  refine AllReady.cons (o := ⟨some 16, _, _, _, _, _⟩) rfl (fun K hK => ?_) AllReady.nil
  replace hK := Lib.hid hK
  go_simp
  go_at_call 26
  refine (hT.out _ _ _ (HK.out.own 0 rfl)).mono ?_; rintro e w2 ⟨A1, c1, A2, c2, rfl, o1, p1, b1⟩; replace HK := Lib.hid (HK.out.calledF2 b1 o1 p1 (by decide)); clear o1 p1 b1
  refine hK.out _ _ ?_
  clear hK K
  try simp only [Act.put, List.setIfInBounds_toArray, List.set_cons_zero, List.set_cons_succ]
  refine wpAny_take (i := 10) (oi := ⟨some 6, _, _, _, _, _⟩) (v := ?_) rfl (by kernel_rfl) (by kernel_rfl) (by kernel_rfl) (fun _ _ _ h => h) (Or.inl ⟨by rfl, ?_⟩) ?_
  rotate_left
  · (intro w; go_simp; try with_reducible rfl)
  try simp only [Act.put, List.setIfInBounds_toArray, List.set_cons_zero, List.set_cons_succ]
  refine wpAny_take (i := 11) (oi := ⟨some 17, _, _, _, _, _⟩) (v := ?_) rfl (by kernel_rfl) (by kernel_rfl) (by kernel_rfl) (fun _ _ _ h => h) (Or.inl ⟨by rfl, ?_⟩) ?_
  rotate_left
  · (intro w; go_simp; try with_reducible rfl)
  try simp only [Act.put, List.setIfInBounds_toArray, List.set_cons_zero, List.set_cons_succ]
  refine wpAny_take (i := 12) (oi := ⟨some 18, _, _, _, _, _⟩) (v := ?_) rfl (by kernel_rfl) (by kernel_rfl) (by kernel_rfl) (fun _ _ _ h => h) (Or.inl ⟨by rfl, ?_⟩) ?_
  rotate_left
  · (intro w; go_simp; try with_reducible rfl)
  try simp only [Act.put, List.setIfInBounds_toArray, List.set_cons_zero, List.set_cons_succ]
  refine wpAny_take (i := 13) (oi := ⟨some 19, _, _, _, _, _⟩) (v := ?_) rfl (by kernel_rfl) (by kernel_rfl) (by kernel_rfl) (fun _ _ _ h => h) (Or.inl ⟨by rfl, ?_⟩) ?_
  rotate_left
  · (intro w; go_simp; try with_reducible rfl)
  try simp only [Act.put, List.setIfInBounds_toArray, List.set_cons_zero, List.set_cons_succ]
  refine wpAny_take (i := 14) (oi := ⟨some 20, _, _, _, _, _⟩) (v := ?_) rfl (by kernel_rfl) (by kernel_rfl) (by kernel_rfl) (fun _ _ _ h => h) (Or.inl ⟨by rfl, ?_⟩) ?_
  rotate_left
  · (intro w; go_simp; try with_reducible rfl)
  try simp only [Act.put, List.setIfInBounds_toArray, List.set_cons_zero, List.set_cons_succ]
  refine wpAny_ready (rs := [15]) (by kernel_rfl) (by simp) ?_
  refine AllReady.cons (o := ⟨none, _, _, _, _, _⟩) rfl (fun K hK => ?_) AllReady.nil
  replace hK := Lib.hid hK
  refine step_sa HK 0 (by rfl) _ _ (by rfl) (by rfl) (by rfl) (by rfl) ?_; intro w4 HK' _; simp only [List.set] at HK'; replace HK := HK'; clear HK'
  refine hK.out _ _ ?_
  clear hK K
  try simp only [Act.put, List.setIfInBounds_toArray, List.set_cons_zero, List.set_cons_succ]
  refine wpAny_take (i := 16) (oi := ⟨some 4, _, _, _, _, _⟩) (v := ?_) rfl (by kernel_rfl) (by kernel_rfl) (by kernel_rfl) (fun _ _ _ h => h) (Or.inl ⟨by rfl, ?_⟩) ?_
  rotate_left
  · (intro w; go_simp; try with_reducible rfl)
  try simp only [Act.put, List.setIfInBounds_toArray, List.set_cons_zero, List.set_cons_succ]
  refine wpAny_done (by kernel_rfl) ?_ _
  rotate_left
  all_goals
    clear hT
    go_wp2_with (first | refine wpList_of_exec (by rfl) (kexec_cw HK 0 _ rfl rfl rfl rfl) ?_ | (at_builtin; refine wpList_kmore HK pktLay 4 rfl _ _ rfl rfl rfl ps rfl HM1.out.symm (Lib.hid ⟨(HK.out.own 0 rfl).read.1, (HK.out.own 0 rfl).read.2.1⟩) HL1 HL2 ?_; intro A3 c3 _ HK'; simp only [List.set] at HK'; replace HK := HK'; clear HK') | (refine wpList_s16 HK 0 rfl _ _ rfl rfl rfl rfl ?_; intro _ HK' _; simp only [List.set] at HK'; replace HK := HK'; clear HK'))
    ((try simp only [Exit.inBlock, Exit.then]); first | refine bodyPost_ret (results_none Try.results19 _ _ _) rfl ?_ | refine bodyPost_end (results_none Try.results19 _ _ _) rfl ?_)
    rw [← HPX.out]
    have hk := (Kn.tailR HK.out).into 0
    simp only [List.set] at hk
    exact ⟨rfl, A1, Ab, A3, As, Ak, Ag, Ah, n1, nb, nw + m1, ns, nk, ng, nh, c1, cb, c3, cs, ck, cg, ch, S, ⟨HN1.out.symm, HF.out.1.2.1, HL2.out.symm, HF.out.1.2.2.1, HF.out.1.2.2.2.1, HF.out.1.2.2.2.2.1, HF.out.1.2.2.2.2.2⟩, HF.out.2, hk⟩

set_option maxRecDepth 100000 in
set_option maxHeartbeats 12800000 in
theorem tickB_any (b0 : Nat) (w0 : World) (g : Nat) (x : Lnk.Wr) (w : World) (n m : Nat) (hW : WireAt b0 w0 g x w) (hf : Lnk.Wr.Fits n m x) (hn : n ≤ 900000) (hm : m ≤ 100000) :
    Calls Try.prog 19 #[.pointer (some ⟨g, 0, none⟩), .bool false] w fun e w' => e = .returned (.tuple #[]) ∧ WireAt b0 w0 g x.tickB w' := by
  obtain ⟨a, b, way, sent, back, got, gotA, win, ret⟩ := x
  obtain ⟨Aa, Ab, Aw, As, Ak, Ag, Ah, na, nb, nw, ns, nk, ng, nh, ca, cb, cw, cs, ck, cg, ch, S, ⟨ena, enb, enw, ens, enk, eng, enh⟩, eS, hK⟩ := hW
  simp only at ena enb enw ens enk eng enh eS hK
  have HK := Lib.hid hK
  have hw8 := hf.w8
  have hT : Hid (∀ W v c, strLay.Own b0 W (.slice v nb c) b.out → Calls Try.prog 26 #[.agg (lA (.slice v nb c) b), .int .i64 ret] W (IsT (Lnk.tick b ret) W)) := Lib.hid fun W v c ho => by
    have h1 := hf.b.b1
    have h2 := hf.b.bn
    have h3 := hf.b.a0
    have h4 := hf.b.a1
    simp only at h1 h2 h3 h4
    subst enb
    exact tick_any v c b ret W ⟨ho.read.1, ho.read.2.1, by omega⟩ ⟨h1, by omega⟩ ⟨h3, h4⟩
  have hpl := (hf.b.tick ret).2.1
  have hway : nw ≤ 900000 := by have := hf.way; simp only at this; omega
  unfold Lnk.Wr.tickB
  generalize Lnk.tick b ret = q at *
  obtain ⟨l1, ps⟩ := q
  unfold IsT at hT
  simp only at hT hpl hw8 ⊢
  have hps : ps.length ≤ 8 := by omega
  generalize hn1 : l1.out.length = n1 at hT
  have HN1 := Lib.hid hn1
  generalize hm1 : ps.length = m1 at hT
  have HM1 := Lib.hid hm1
  have HNw := Lib.hid enw
  have HL1 : Hid (way.length + ps.length ≤ 9223372036854775807 ∧ (way.length + ps.length) * pktLay.bytes ≤ 211106232532992) := Lib.hid ⟨by omega, by show _ * 64 ≤ _; omega⟩
  have HL2 : Hid ((way ++ ps).length = nw + m1) := Lib.hid (by rw [List.length_append, enw, hm1])
  clear hn1 hm1 hps hpl hw8 hf hn hm hK
  generalize hPX : WireAt b0 w0 g _ = PX
  have HPX := Lib.hid hPX
  clear hPX
  have HF := Lib.hid (And.intro (And.intro ena (And.intro enb (And.intro ens (And.intro enk (And.intro eng enh))))) eS)
  clear ena enb enw ens enk eng enh eS
  go_enter Try.func19, Try.ntmps19
  go_wp2_with fail
  replace HK := Lib.hid HK.out.drew
  refine wp_region_any (by kernel_rfl) ?_
  change wpAny _ _ _ _ _ _ _ (World.drew _)
  refine wpAny_take (i := 0) (oi := ⟨some 22, _, _, _, _, _⟩) (v := ?_) rfl (by kernel_rfl) (by kernel_rfl) (by kernel_rfl) (fun _ _ _ h => h) (Or.inl ⟨by rfl, ?_⟩) ?_
  rotate_left
  · (intro w; go_simp; try with_reducible rfl)
  try simp only [Act.put, List.setIfInBounds_toArray, List.set_cons_zero, List.set_cons_succ]
  refine wpAny_take (i := 1) (oi := ⟨some 23, _, _, _, _, _⟩) (v := ?_) rfl (by kernel_rfl) (by kernel_rfl) (by kernel_rfl) (fun _ _ _ h => h) (Or.inl ⟨by rfl, ?_⟩) ?_
  rotate_left
  · (intro w; go_simp; try with_reducible rfl)
  try simp only [Act.put, List.setIfInBounds_toArray, List.set_cons_zero, List.set_cons_succ]
  refine wpAny_take (i := 2) (oi := ⟨some 24, _, _, _, _, _⟩) (v := ?_) rfl (by kernel_rfl) (by kernel_rfl) (by kernel_rfl) (fun _ _ _ h => h) (Or.inl ⟨by rfl, ?_⟩) ?_
  rotate_left
  · (intro w; go_simp; try with_reducible rfl)
  try simp only [Act.put, List.setIfInBounds_toArray, List.set_cons_zero, List.set_cons_succ]
  refine wpAny_take (i := 3) (oi := ⟨some 25, _, _, _, _, _⟩) (v := ?_) rfl (by kernel_rfl) (by kernel_rfl) (by kernel_rfl) (fun _ _ _ h => h) (Or.inl ⟨by rfl, ?_⟩) ?_
  rotate_left
  · (intro w; go_simp; try with_reducible rfl)
  try simp only [Act.put, List.setIfInBounds_toArray, List.set_cons_zero, List.set_cons_succ]
  refine wpAny_take (i := 5) (oi := ⟨some 27, _, _, _, _, _⟩) (v := ?_) rfl (by kernel_rfl) (by kernel_rfl) (by kernel_rfl) (fun _ _ _ h => h) (Or.inl ⟨by rfl, ?_⟩) ?_
  rotate_left
  · (intro w; go_simp; try with_reducible rfl)
  try simp only [Act.put, List.setIfInBounds_toArray, List.set_cons_zero, List.set_cons_succ]
  refine wpAny_take (i := 6) (oi := ⟨some 28, _, _, _, _, _⟩) (v := ?_) rfl (by kernel_rfl) (by kernel_rfl) (by kernel_rfl) (fun _ _ _ h => h) (Or.inl ⟨by rfl, ?_⟩) ?_
  rotate_left
  · (intro w; go_simp; try with_reducible rfl)
  try simp only [Act.put, List.setIfInBounds_toArray, List.set_cons_zero, List.set_cons_succ]
  refine wpAny_take (i := 7) (oi := ⟨some 29, _, _, _, _, _⟩) (v := ?_) rfl (by kernel_rfl) (by kernel_rfl) (by kernel_rfl) (fun _ _ _ h => h) (Or.inl ⟨by rfl, ?_⟩) ?_
  rotate_left
  · (intro w; go_simp; try with_reducible rfl)
  try simp only [Act.put, List.setIfInBounds_toArray, List.set_cons_zero, List.set_cons_succ]
  refine wpAny_ready (rs := [4, 8]) (by kernel_rfl) (by simp) ?_
  refine AllReady.cons (o := ⟨some 26, _, _, _, _, _⟩) rfl (fun K hK => ?_) (AllReady.cons (o := ⟨some 30, _, _, _, _, _⟩) rfl (fun K hK => ?_) AllReady.nil)
  replace hK := Lib.hid hK
  refine step_x (by rfl) (kexec_wb HK 0 _ (by rfl) (by rfl) (by rfl)) ?_
  refine hK.out _ _ ?_
  clear hK K
  try simp only [Act.put, List.setIfInBounds_toArray, List.set_cons_zero, List.set_cons_succ]
  refine wpAny_ready (rs := [8]) (by kernel_rfl) (by simp) ?_
  refine AllReady.cons (o := ⟨some 30, _, _, _, _, _⟩) rfl (fun K hK => ?_) AllReady.nil
  replace hK := Lib.hid hK
  refine step_x (by rfl) (kexec_ci HK 0 _ (by rfl) (by rfl) (by rfl) (by rfl)) ?_
  refine hK.out _ _ ?_
  clear hK K
  try simp only [Act.put, List.setIfInBounds_toArray, List.set_cons_zero, List.set_cons_succ]
  refine wpAny_ready (rs := [9]) (by kernel_rfl) (by simp) ?_
  refine AllReady.cons (o := ⟨some 31, _, _, _, _, _⟩) rfl (fun K hK => ?_) AllReady.nil
  replace hK := Lib.hid hK
  go_simp
  go_at_call 26
  refine (hT.out _ _ _ (HK.out.own 1 rfl)).mono ?_; rintro e w2 ⟨A1, c1, A2, c2, rfl, o1, p1, b1⟩; replace HK := Lib.hid (HK.out.calledF2 b1 o1 p1 (by decide)); clear o1 p1 b1
  refine hK.out _ _ ?_
  clear hK K
  try simp only [Act.put, List.setIfInBounds_toArray, List.set_cons_zero, List.set_cons_succ]
  refine wpAny_take (i := 10) (oi := ⟨some 21, _, _, _, _, _⟩) (v := ?_) rfl (by kernel_rfl) (by kernel_rfl) (by kernel_rfl) (fun _ _ _ h => h) (Or.inl ⟨by rfl, ?_⟩) ?_
  rotate_left
  · (intro w; go_simp; try with_reducible rfl)
  try simp only [Act.put, List.setIfInBounds_toArray, List.set_cons_zero, List.set_cons_succ]
  refine wpAny_take (i := 11) (oi := ⟨some 32, _, _, _, _, _⟩) (v := ?_) rfl (by kernel_rfl) (by kernel_rfl) (by kernel_rfl) (fun _ _ _ h => h) (Or.inl ⟨by rfl, ?_⟩) ?_
  rotate_left
  · (intro w; go_simp; try with_reducible rfl)
  try simp only [Act.put, List.setIfInBounds_toArray, List.set_cons_zero, List.set_cons_succ]
  refine wpAny_take (i := 12) (oi := ⟨some 33, _, _, _, _, _⟩) (v := ?_) rfl (by kernel_rfl) (by kernel_rfl) (by kernel_rfl) (fun _ _ _ h => h) (Or.inl ⟨by rfl, ?_⟩) ?_
  rotate_left
  · (intro w; go_simp; try with_reducible rfl)
  try simp only [Act.put, List.setIfInBounds_toArray, List.set_cons_zero, List.set_cons_succ]
  refine wpAny_take (i := 13) (oi := ⟨some 34, _, _, _, _, _⟩) (v := ?_) rfl (by kernel_rfl) (by kernel_rfl) (by kernel_rfl) (fun _ _ _ h => h) (Or.inl ⟨by rfl, ?_⟩) ?_
  rotate_left
  · (intro w; go_simp; try with_reducible rfl)
  try simp only [Act.put, List.setIfInBounds_toArray, List.set_cons_zero, List.set_cons_succ]
  refine wpAny_take (i := 14) (oi := ⟨some 35, _, _, _, _, _⟩) (v := ?_) rfl (by kernel_rfl) (by kernel_rfl) (by kernel_rfl) (fun _ _ _ h => h) (Or.inl ⟨by rfl, ?_⟩) ?_
  rotate_left
  · (intro w; go_simp; try with_reducible rfl)
  try simp only [Act.put, List.setIfInBounds_toArray, List.set_cons_zero, List.set_cons_succ]
  refine wpAny_ready (rs := [15]) (by kernel_rfl) (by simp) ?_
  refine AllReady.cons (o := ⟨none, _, _, _, _, _⟩) rfl (fun K hK => ?_) AllReady.nil
  replace hK := Lib.hid hK
  refine step_sb HK 0 (by rfl) _ _ (by rfl) (by rfl) (by rfl) (by rfl) ?_; intro w4 HK' _; simp only [List.set] at HK'; replace HK := HK'; clear HK'
  refine hK.out _ _ ?_
  clear hK K
  try simp only [Act.put, List.setIfInBounds_toArray, List.set_cons_zero, List.set_cons_succ]
  refine wpAny_take (i := 16) (oi := ⟨some 4, _, _, _, _, _⟩) (v := ?_) rfl (by kernel_rfl) (by kernel_rfl) (by kernel_rfl) (fun _ _ _ h => h) (Or.inl ⟨by rfl, ?_⟩) ?_
  rotate_left
  · (intro w; go_simp; try with_reducible rfl)
  try simp only [Act.put, List.setIfInBounds_toArray, List.set_cons_zero, List.set_cons_succ]
  refine wpAny_done (by kernel_rfl) ?_ _
  rotate_left
  replace hK := Lib.hid hK
  refine step_x (by rfl) (kexec_ci HK 0 _ (by rfl) (by rfl) (by rfl) (by rfl)) ?_
  refine hK.out _ _ ?_
  clear hK K
  try simp only [Act.put, List.setIfInBounds_toArray, List.set_cons_zero, List.set_cons_succ]
  refine wpAny_ready (rs := [4]) (by kernel_rfl) (by simp) ?_
  refine AllReady.cons (o := ⟨some 26, _, _, _, _, _⟩) rfl (fun K hK => ?_) AllReady.nil
  replace hK := Lib.hid hK
  refine step_x (by rfl) (kexec_wb HK 0 _ (by rfl) (by rfl) (by rfl)) ?_
  refine hK.out _ _ ?_
  clear hK K
  try simp only [Act.put, List.setIfInBounds_toArray, List.set_cons_zero, List.set_cons_succ]
  refine wpAny_ready (rs := [9]) (by kernel_rfl) (by simp) ?_
  refine AllReady.cons (o := ⟨some 31, _, _, _, _, _⟩) rfl (fun K hK => ?_) AllReady.nil
  replace hK := Lib.hid hK
  go_simp
  go_at_call 26
  refine (hT.out _ _ _ (HK.out.own 1 rfl)).mono ?_; rintro e w2 ⟨A1, c1, A2, c2, rfl, o1, p1, b1⟩; replace HK := Lib.hid (HK.out.calledF2 b1 o1 p1 (by decide)); clear o1 p1 b1
  refine hK.out _ _ ?_
  clear hK K
  try simp only [Act.put, List.setIfInBounds_toArray, List.set_cons_zero, List.set_cons_succ]
  refine wpAny_take (i := 10) (oi := ⟨some 21, _, _, _, _, _⟩) (v := ?_) rfl (by kernel_rfl) (by kernel_rfl) (by kernel_rfl) (fun _ _ _ h => h) (Or.inl ⟨by rfl, ?_⟩) ?_
  rotate_left
  · (intro w; go_simp; try with_reducible rfl)
  try simp only [Act.put, List.setIfInBounds_toArray, List.set_cons_zero, List.set_cons_succ]
  refine wpAny_take (i := 11) (oi := ⟨some 32, _, _, _, _, _⟩) (v := ?_) rfl (by kernel_rfl) (by kernel_rfl) (by kernel_rfl) (fun _ _ _ h => h) (Or.inl ⟨by rfl, ?_⟩) ?_
  rotate_left
  · (intro w; go_simp; try with_reducible rfl)
  try simp only [Act.put, List.setIfInBounds_toArray, List.set_cons_zero, List.set_cons_succ]
  refine wpAny_take (i := 12) (oi := ⟨some 33, _, _, _, _, _⟩) (v := ?_) rfl (by kernel_rfl) (by kernel_rfl) (by kernel_rfl) (fun _ _ _ h => h) (Or.inl ⟨by rfl, ?_⟩) ?_
  rotate_left
  · (intro w; go_simp; try with_reducible rfl)
  try simp only [Act.put, List.setIfInBounds_toArray, List.set_cons_zero, List.set_cons_succ]
  refine wpAny_take (i := 13) (oi := ⟨some 34, _, _, _, _, _⟩) (v := ?_) rfl (by kernel_rfl) (by kernel_rfl) (by kernel_rfl) (fun _ _ _ h => h) (Or.inl ⟨by rfl, ?_⟩) ?_
  rotate_left
  · (intro w; go_simp; try with_reducible rfl)
  try simp only [Act.put, List.setIfInBounds_toArray, List.set_cons_zero, List.set_cons_succ]
  refine wpAny_take (i := 14) (oi := ⟨some 35, _, _, _, _, _⟩) (v := ?_) rfl (by kernel_rfl) (by kernel_rfl) (by kernel_rfl) (fun _ _ _ h => h) (Or.inl ⟨by rfl, ?_⟩) ?_
  rotate_left
  · (intro w; go_simp; try with_reducible rfl)
  try simp only [Act.put, List.setIfInBounds_toArray, List.set_cons_zero, List.set_cons_succ]
  refine wpAny_ready (rs := [15]) (by kernel_rfl) (by simp) ?_
  refine AllReady.cons (o := ⟨none, _, _, _, _, _⟩) rfl (fun K hK => ?_) AllReady.nil
  replace hK := Lib.hid hK
  refine step_sb HK 0 (by rfl) _ _ (by rfl) (by rfl) (by rfl) (by rfl) ?_; intro w4 HK' _; simp only [List.set] at HK'; replace HK := HK'; clear HK'
  refine hK.out _ _ ?_
  clear hK K
  try simp only [Act.put, List.setIfInBounds_toArray, List.set_cons_zero, List.set_cons_succ]
  refine wpAny_take (i := 16) (oi := ⟨some 4, _, _, _, _, _⟩) (v := ?_) rfl (by kernel_rfl) (by kernel_rfl) (by kernel_rfl) (fun _ _ _ h => h) (Or.inl ⟨by rfl, ?_⟩) ?_
  rotate_left
  · (intro w; go_simp; try with_reducible rfl)
  try simp only [Act.put, List.setIfInBounds_toArray, List.set_cons_zero, List.set_cons_succ]
  refine wpAny_done (by kernel_rfl) ?_ _
  rotate_left
  all_goals
    clear hT
    go_wp2_with (first | refine wpList_of_exec (by rfl) (kexec_cw HK 0 _ rfl rfl rfl rfl) ?_ | (at_builtin; refine wpList_kmore HK pktLay 4 rfl _ _ rfl rfl rfl ps rfl HM1.out.symm (Lib.hid ⟨(HK.out.own 0 rfl).read.1, (HK.out.own 0 rfl).read.2.1⟩) HL1 HL2 ?_; intro A3 c3 _ HK'; simp only [List.set] at HK'; replace HK := HK'; clear HK') | (refine wpList_s16 HK 0 rfl _ _ rfl rfl rfl rfl ?_; intro _ HK' _; simp only [List.set] at HK'; replace HK := HK'; clear HK'))
    ((try simp only [Exit.inBlock, Exit.then]); first | refine bodyPost_ret (results_none Try.results19 _ _ _) rfl ?_ | refine bodyPost_end (results_none Try.results19 _ _ _) rfl ?_)
    rw [← HPX.out]
    have hk := (Kn.tailR HK.out).into 1
    simp only [List.set] at hk
    exact ⟨rfl, Aa, A1, A3, As, Ak, Ag, Ah, na, n1, nw + m1, ns, nk, ng, nh, ca, c1, c3, cs, ck, cg, ch, S, ⟨HF.out.1.1, HN1.out.symm, HL2.out.symm, HF.out.1.2.2.1, HF.out.1.2.2.2.1, HF.out.1.2.2.2.2.1, HF.out.1.2.2.2.2.2⟩, HF.out.2, hk⟩

end Go.Proofs.Ytamjcghdebjpjaa
