/-
  The law PostDoes: it returns true whatever is handed in.
  No condition but the form's own: the messages are no more than its reach, a byte fits its kind.
-/
import Derived.Test.YtkajnmlglgjocaaPostGood
import Derived.WalkKit
import Derived.WalkSpells
import Derived.WalkLawsBesides
import Derived.Handy
import Derived.Deep.QuietTactic
import Derived.BigQuiet
import Derived.Deep.RegionWith
import Derived.Deep.RegionHeld3
import Derived.Deep.Draws
import Derived.Lib.Hide
import Derived.Lib.LazyBuf
namespace Go.Proofs.Ytkajnmlglgjocaa
open Go.RowKit


theorem wpList_lpd {ops : Array Oper} {rest : List Oper} {o : Oper} {a : Act} {w : World} {Q : Exit → Act → World → Prop} (hw : Region.wanted o (yielded ops a.tmps) = true) (x : Operand) (ho : o.op = .load 25 x)
    {g : Nat} {A : Option Addr} {n c : Nat} {s : Nat → Int} (hb : Hid (Blk w g 25 (pc A n c s))) (hx : a.eval x = .pointer (some ⟨g, 0, none⟩))
    (h : wpList Try.prog ops Q rest (a.put o.dst (.agg (pc A n c s))) w) : wpList Try.prog ops Q (o :: rest) a w :=
  BigFrame.wpList_want hw fun _ hK => wp_load_row _ x ho g hx _ _ (0, 0) _ hb.out Try.underlying25 rfl info_post (hK _ _ h)
theorem wpList_lmd {ops : Array Oper} {rest : List Oper} {o : Oper} {a : Act} {w : World} {Q : Exit → Act → World → Prop} (hw : Region.wanted o (yielded ops a.tmps) = true) (x : Operand) (ho : o.op = .load 27 x)
    {g : Nat} {m : Pst.Mail} (hb : Hid (Blk w g 27 (mc m))) (hx : a.eval x = .pointer (some ⟨g, 0, none⟩))
    (h : wpList Try.prog ops Q rest (a.put o.dst (.agg #[.int .i64 m.f, .int .i64 m.t, .string m.d, .bool m.s])) w) : wpList Try.prog ops Q (o :: rest) a w :=
  BigFrame.wpList_want hw fun _ hK => wp_load_row _ x ho g hx _ _ (0, 0) _ hb.out Try.underlying27 rfl info_mail4 (hK _ _ h)

/-- A call's record, as a block's cells. -/
def oc (x : Pst.Op) : Array Value := (opLay.f x).toArray
theorem info_op8 : (Try.prog.info? 29).map (·.size) = some 8 := by kernel_rfl
theorem wpList_lob {ops : Array Oper} {rest : List Oper} {o : Oper} {a : Act} {w : World} {Q : Exit → Act → World → Prop} (hgd : o.guard = none) (x : Operand) (ho : o.op = .load 29 x)
    {g : Nat} {y : Pst.Op} (hb : Hid (Blk w g 29 (oc y))) (hx : a.eval x = .pointer (some ⟨g, 0, none⟩)) (h : wpList Try.prog ops Q rest (a.put o.dst (opV y)) w) : wpList Try.prog ops Q (o :: rest) a w :=
  wpList_lblk hgd _ x ho hb hx Try.underlying29 info_op8 h
theorem exec_lob {o : Oper} {a : Act} {x : Operand} {w : World} {g : Nat} {y : Pst.Op} (hb : Hid (Blk w g 29 (oc y))) (ho : o.op = .load 29 x) (hx : a.eval x = .pointer (some ⟨g, 0, none⟩)) :
    (execOp a.eval o).run Try.prog w = .ok (.value (opV y)) w := by
  unfold execOp
  have h := run_loadVar_row (P := Try.prog) w g _ _ _ (0, 0) _ hb.out Try.underlying29 rfl info_op8
  simp only [ho, hx, Instr.loadAt, Instr.sureAddr, Sem.run_bind, Sem.run_pure, Result.andThen_ok, h]
  rfl
/-- What ref answers, and in which block its messages are. -/
def IsGoodK (w0 : World) (base k0 : Nat) (r : Pst.P × Pst.Mail × Bool × Int) (W : World) (e : Ending) (W' : World) : Prop := ∃ A c k, e = .returned (.tuple #[pv A r.1.m.length c r.1.s, mailV r.2.1, .bool r.2.2.1, .int .i64 r.2.2.2]) ∧ Good w0 base W' A c r.1.m k ∧ (k = k0 ∨ (W.heap.size ≤ k ∧ k < W'.heap.size)) ∧ Below W.heap.size W W'
theorem ref_goodK {w0 W : World} {base : Nat} {A : Option Addr} {c k : Nat} {p : Pst.P} (o : Pst.Op) (hb : 0 ≤ o.b ∧ o.b < 256) (h0 : Below w0.heap.size w0 W) (hbase : base ≤ W.heap.size) (hg : Good w0 base W A c p.m k) (hl : p.m.length ≤ 5000000000000) :
    Calls Try.prog 9 #[.agg (pc A p.m.length c p.s), opV o] W (IsGoodK w0 base k (Pst.step p o) W) := by
  obtain ⟨h1, h2, h3⟩ := hg.reads h0
  refine (ref_any A c p o W hl h1 h2 h3 hb).mono fun e w' h => ?_
  obtain ⟨A1, c1, he, ho, hb⟩ := h
  rcases ho with ho | ⟨rfl, rfl, hlm⟩
  · have h4 := World.ownsRow.lt ho
    have h5 := ho.mono hbase
    cases hv : (Value.slice A1 (Pst.step p o).1.m.length c1).ownBlock with
    | none => exact ⟨A1, c1, k, he, .inl ⟨h5, .inr hv⟩, .inl rfl, hb⟩
    | some k1 => exact ⟨A1, c1, k1, he, .inl ⟨h5, .inl hv⟩, .inr (h4 k1 hv), hb⟩
  · refine ⟨A1, c1, k, he, ?_, .inl rfl, hb⟩
    rw [hlm]
    exact hg.later hb
/-- What twin answers, and in which block its messages are. -/
def IsTwin (w0 : World) (base : Nat) (p : Pst.P) (W : World) (e : Ending) (W' : World) : Prop := ∃ A c k, e = .returned (.agg (pc A p.m.length c p.s)) ∧ Good w0 base W' A c p.m k ∧ (k = 0 ∨ (W.heap.size ≤ k ∧ k < W'.heap.size)) ∧ Below W.heap.size W W'
theorem twin_good {w0 W : World} {base : Nat} {A : Option Addr} {c k : Nat} {p : Pst.P} (h0 : Below w0.heap.size w0 W) (hbase : base ≤ W.heap.size) (hg : Good w0 base W A c p.m k) (hl : p.m.length ≤ 5000000000000) :
    Calls Try.prog 7 #[.agg (pc A p.m.length c p.s)] W (IsTwin w0 base p W) := by
  obtain ⟨h1, h2, h3⟩ := hg.reads h0
  refine (twin_any A p.m.length c p.s p.m W rfl hl h1 h2).mono fun e w' h => ?_
  obtain ⟨A1, c1, he, ho, hb⟩ := h
  have h4 := World.ownsRow.lt ho
  have h5 := ho.mono hbase
  cases hv : (Value.slice A1 p.m.length c1).ownBlock with
  | none => exact ⟨A1, c1, 0, he, .inl ⟨h5, .inr hv⟩, .inl rfl, hb⟩
  | some k1 => exact ⟨A1, c1, k1, he, .inl ⟨h5, .inl hv⟩, .inr (h4 k1 hv), hb⟩

set_option maxRecDepth 100000 in
set_option maxHeartbeats 6400000 in
theorem does_yes (A : Option Addr) (c : Nat) (p : Pst.P) (o : Pst.Op) (w : World) (hl4 : p.m.length ≤ 4000000000000) (hi : mailLay.Reads w w.heap.size A p.m) (hA : A = none → p.m = []) (hcap : p.m.length ≤ c) (hob : 0 ≤ o.b ∧ o.b < 256) :
    Lift.Yes Try.prog 3 #[.agg (pc A p.m.length c p.s), opV o] w := by
  unfold Lift.Yes
  have hl : p.m.length ≤ 5000000000000 := by omega
  obtain ⟨HP0, HO0, HB0, hs0⟩ := made2 w 25 (pc A p.m.length c p.s) 29 (oc o)
  have HG0 : Hid (∀ W, Good w w.heap.size W A c p.m 0) := Lib.hid fun W => .inr ⟨hi, hA, hcap⟩
  have HTw : Hid (∀ (A1 : Option Addr) (c1 k1 : Nat) (W : World), Below w.heap.size w W → Good w w.heap.size W A1 c1 p.m k1 → Calls Try.prog 7 #[.agg (pc A1 p.m.length c1 p.s)] W (IsTwin w w.heap.size p W)) := Lib.hid fun A1 c1 k1 W hW hg => twin_good hW hW.size hg hl
  have HRf : Hid (∀ (A1 : Option Addr) (c1 k1 : Nat) (W : World), Below w.heap.size w W → Good w w.heap.size W A1 c1 p.m k1 → Calls Try.prog 9 #[.agg (pc A1 p.m.length c1 p.s), opV o] W (IsGoodK w w.heap.size k1 (Pst.step p o) W)) := Lib.hid fun A1 c1 k1 W hW hg => ref_goodK o hob hW hW.size hg hl
  have HDo : Hid (∀ (W : World), Below w.heap.size w W → 0 < W.heap.size → Calls Try.prog 8 #[.agg (pc A p.m.length c p.s), opV o] W (IsGood w w.heap.size W.heap.size (Pst.step p o) W)) := Lib.hid fun W hW h0 => (do_good o hob hW hW.size (HG0.out W) h0 hl).out W (Below.refl _ _)
  have hql := Pst.step_le p o
  obtain ⟨⟨q, mm, ar, er⟩, hst⟩ : ∃ r, Pst.step p o = r := ⟨_, rfl⟩
  rw [hst] at HRf HDo hql
  replace hql : q.m.length ≤ p.m.length + 1 := hql
  clear hst hi hA hcap
  have ho8 : opV o = .agg (oc o) := rfl
  have HOV := Lib.hid ho8
  rw [ho8]
  clear ho8
  generalize hoc : oc o = ocs at *
  have HOC := Lib.hid hoc
  clear hoc
  go_enter Try.func3, Try.ntmps3
  go_wp2_with (refine wpList_lp rfl _ rfl HP0 rfl ?_)
  refine (HTw.out _ _ _ _ HB0.out (HG0.out _)).mono ?_; rintro e w1 ⟨A1, c1, k1, rfl, g1, n1, b1⟩
  have HB1 := Lib.hid ((Lift.then2 HB0.out b1).alloc (Lift.then2 HB0.out b1).size (.cells (pc none 0 0 fun _ => 0) 25))
  have HP1 := Lib.hid ((Blk.hb HP0 b1).out.alloc (.cells (pc none 0 0 fun _ => 0) 25))
  have HO1 := Lib.hid ((Blk.hb HO0 b1).out.alloc (.cells (pc none 0 0 fun _ => 0) 25))
  have HT1 := Lib.hid (Blk.new w1 25 (pc none 0 0 fun _ => 0))
  have HG1 := Lib.hid (g1.later ((Below.refl _ w1).alloc (Nat.le_refl _) (.cells (pc none 0 0 fun _ => 0) 25)))
  have hs1 := b1.size
  rw [hs0] at hs1 n1
  clear b1 g1 HP0 HO0 hs0
  go_wp2_with (refine wpList_sp rfl _ _ rfl HT1 rfl rfl (by omega : w.heap.size ≤ w1.heap.size) ?_)
  intro w2 HS
  have hz2 : w2.heap.size = w1.heap.size + 1 := by rw [HS.out.size]; simp
  have HB2 := Lib.hid (below_turns HB1.out HS.out.turns (Nat.le_refl _))
  have HP2 := Lib.hid (HS.out.far HP1.out (by omega))
  have HO2 := Lib.hid (HS.out.far HO1.out (by omega))
  have HT2 := Lib.hid HS.out.blk
  have HG2 := Lib.hid (HG1.out.turned HS.out.turns)
  clear HS HB1 HP1 HO1 HT1 HG1 HB0
  rw [← HOC.out] at HO2
  go_wp2_with (first | refine wpList_lp rfl _ rfl HP2 rfl ?_ | refine wpList_lob rfl _ rfl HO2 rfl ?_)
  refine (HDo.out _ HB2.out (by omega)).mono ?_; rintro e w3 ⟨A2, c2, k2, rfl, g3, n3, b3⟩
  obtain ⟨HQ4, HM4, HB4, hs4⟩ := made2 w3 25 (pc none 0 0 fun _ => 0) 27 (mc Pst.noMail)
  have hs3 := b3.size
  have HB3 := Lib.hid (Lift.then2 (Lift.then2 HB2.out b3) HB4.out)
  have HP3 := Blk.hb (Blk.hb HP2 b3) HB4.out
  have HO3 := Blk.hb (Blk.hb HO2 b3) HB4.out
  have HT3 := Blk.hb (Blk.hb HT2 b3) HB4.out
  have HG3 := Lib.hid ((HG2.out.later b3).later HB4.out)
  have HX3 := Lib.hid (g3.later HB4.out)
  clear b3 g3 HB2 HP2 HO2 HT2 HG2 HDo HB4
  go_wp2_with (refine wpList_sp rfl _ _ rfl HQ4 rfl rfl (by omega : w.heap.size ≤ w3.heap.size) ?_)
  intro w4 HS
  have hz4 : w4.heap.size = w3.heap.size + 2 := by rw [HS.out.size]; exact hs4
  have HM5 := Lib.hid (HS.out.far HM4.out (by omega))
  have HB5 := Lib.hid (below_turns HB3.out HS.out.turns (Nat.le_refl _))
  have HP5 := Lib.hid (HS.out.far HP3.out (by omega))
  have HO5 := Lib.hid (HS.out.far HO3.out (by omega))
  have HT5 := Lib.hid (HS.out.far HT3.out (by omega))
  have HQ5 := Lib.hid HS.out.blk
  have HG5 := Lib.hid (HG3.out.turned HS.out.turns)
  have HX5 := Lib.hid (HX3.out.turned HS.out.turns)
  clear HS HB3 HP3 HO3 HT3 HG3 HX3 HQ4 HM4
  go_wp2_with (refine wpList_sm (m' := mm) rfl _ _ rfl HM5 rfl rfl (by omega : w.heap.size ≤ w3.heap.size + 1) ?_)
  intro w5 HS
  have hz5 : w5.drew.heap.size = w3.heap.size + 2 := by show w5.heap.size = _; rw [HS.out.size]; exact hz4
  have HM6 : Hid (Blk w5.drew (w3.heap.size + 1) 27 (mc mm)) := Lib.hid HS.out.blk
  have HB6 : Hid (Below w.heap.size w w5.drew) := Lib.hid (below_turns HB5.out HS.out.turns (Nat.le_refl _)).drew
  have HP6 : Hid (Blk w5.drew w.heap.size 25 _) := Lib.hid (HS.out.far HP5.out (by omega))
  have HO6 : Hid (Blk w5.drew (w.heap.size + 1) 29 _) := Lib.hid (HS.out.far HO5.out (by omega))
  have HT6 : Hid (Blk w5.drew w1.heap.size 25 _) := Lib.hid (HS.out.far HT5.out (by omega))
  have HQ6 : Hid (Blk w5.drew w3.heap.size 25 _) := Lib.hid (HS.out.far HQ5.out (by omega))
  have HG6 : Hid (Good w w.heap.size w5.drew A1 c1 p.m k1) := Lib.hid ((HG5.out.apart HS.out (by omega)).later ((Below.refl _ w5).drew))
  have HX6 : Hid (Good w w.heap.size w5.drew A2 c2 q.m k2) := Lib.hid ((HX5.out.apart HS.out (by omega)).later ((Below.refl _ w5).drew))
  clear HS HB5 HP5 HO5 HT5 HQ5 HM5 HG5 HX5
  have HTf : Hid (∀ W, Below w5.drew.heap.size w5.drew W → Hid (Blk W w1.heap.size 25 (pc A1 p.m.length c1 p.s))) := Lib.hid fun W hW => Blk.hb HT6 hW
  have HOf : Hid (∀ W, Below w5.drew.heap.size w5.drew W → Hid (Blk W (w.heap.size + 1) 29 (oc o))) := Lib.hid fun W hW => Blk.hb HO6 hW
  have hnz : 0 < w5.drew.heap.size := by omega
  go_wp2_with fail
  go_cut [10, 11, 12, 13] (fun sQ sM sOk sE wx => ∃ (gQ gM : Nat) (A4 : Option Addr) (c4 k4 : Nat), sQ = .pointer (some ⟨gQ, 0, none⟩) ∧ sM = .pointer (some ⟨gM, 0, none⟩) ∧ sOk = .bool ar ∧ sE = .int .i64 er ∧ Hid (Done w w5.drew w.heap.size q mm A4 c4 k4 gQ gM wx))
  case first =>
    refine wp_region_held_drew (S := (fun W => Hid (Below w5.drew.heap.size w5.drew W))) (by kernel_rfl) ?_ (fun hHeld => ?_)
    · (try dsimp only); exact Lib.hid (Below.refl _ _)
    refine wpAnyH_take (i := 0) (oi := ⟨some 25, _, _, _, _, _⟩) (v := ?_) rfl (by kernel_rfl) (by kernel_rfl) (by kernel_rfl) (fun _ _ _ h => h) (Or.inl ⟨by rfl, ?_⟩) (by assumption) ?_
    rotate_left
    · (intro w hSw; refine Eq.trans (exec_lp (HTf.out w hSw.out) (by rfl) (by rfl)) ?_; with_reducible rfl)
    try simp only [Act.put, List.setIfInBounds_toArray, List.set_cons_zero, List.set_cons_succ]
    refine wpAnyH_take (i := 2) (oi := ⟨some 27, _, _, _, _, _⟩) (v := ?_) rfl (by kernel_rfl) (by kernel_rfl) (by kernel_rfl) (fun _ _ _ h => h) (Or.inl ⟨by rfl, ?_⟩) (by assumption) ?_
    rotate_left
    · (intro w hSw; refine Eq.trans (exec_lob (HOf.out w hSw.out) (by rfl) (by rfl)) ?_; with_reducible rfl)
    try simp only [Act.put, List.setIfInBounds_toArray, List.set_cons_zero, List.set_cons_succ]
    refine wpAnyH_ready (rs := [1, 9, 10]) (by kernel_rfl) (by simp) ?_
    refine AllReadyH.cons (o := ⟨some 26, _, _, _, _, _⟩) rfl (fun K hK => ?_) (AllReadyH.cons (o := ⟨some 10, _, _, _, _, _⟩) rfl (fun K hK => ?_) (AllReadyH.cons (o := ⟨some 11, _, _, _, _, _⟩) rfl (fun K hK => ?_) AllReadyH.nil))
    go_simp
    go_at_call 7
    refine (HTw.out _ _ _ _ (Lift.then2 HB6.out hHeld.out) (HG6.out.later hHeld.out)).mono ?_; rintro e wT ⟨A3, c3, k3, rfl, g3, nT, b1⟩; have HH := Lib.hid g3; (try have HQ := Blk.hb HQ b1); (try have HM := Blk.hb HM b1); have hzT := b1.size; have hs := Lib.hid (Lift.then2 hHeld.out b1); clear g3 b1
    refine hK.out _ _ hs (fun hHeld => ?_)
    clear hK K
    try simp only [Act.put, List.setIfInBounds_toArray, List.set_cons_zero, List.set_cons_succ]
    refine wpAnyH_ready (rs := [3, 9, 10]) (by kernel_rfl) (by simp) ?_
    refine AllReadyH.cons (o := ⟨some 28, _, _, _, _, _⟩) rfl (fun K hK => ?_) (AllReadyH.cons (o := ⟨some 10, _, _, _, _, _⟩) rfl (fun K hK => ?_) (AllReadyH.cons (o := ⟨some 11, _, _, _, _, _⟩) rfl (fun K hK => ?_) AllReadyH.nil))
    go_simp
    go_at_call 9
    refine (HRf.out _ _ _ _ (Lift.then2 HB6.out hHeld.out) HH.out).mono ?_; rintro e wA ⟨A4, c4, k4, rfl, g1, nA, b1⟩; have HG := Lib.hid g1; (try have HQ := Blk.hb HQ b1); (try have HM := Blk.hb HM b1); have hzA := b1.size; have hkA : k4 < wA.heap.size := (by have := hHeld.out.size; omega); have hs := Lib.hid (Lift.then2 hHeld.out b1); clear g1 b1
    refine hK.out _ _ hs (fun hHeld => ?_)
    clear hK K
    try simp only 
    refine wpAnyH_take (i := 4) (oi := ⟨some 24, _, _, _, _, _⟩) (v := ?_) rfl (by kernel_rfl) (by kernel_rfl) (by kernel_rfl) (fun _ _ _ h => h) (Or.inl ⟨by rfl, ?_⟩) (by assumption) ?_
    rotate_left
    · (intro w hSw; (try dsimp only at hSw); go_simp; try with_reducible rfl)
    try simp only [Act.put, List.setIfInBounds_toArray, List.set_cons_zero, List.set_cons_succ]
    refine wpAnyH_take (i := 5) (oi := ⟨some 29, _, _, _, _, _⟩) (v := ?_) rfl (by kernel_rfl) (by kernel_rfl) (by kernel_rfl) (fun _ _ _ h => h) (Or.inl ⟨by rfl, ?_⟩) (by assumption) ?_
    rotate_left
    · (intro w hSw; (try dsimp only at hSw); go_simp; try with_reducible rfl)
    try simp only [Act.put, List.setIfInBounds_toArray, List.set_cons_zero, List.set_cons_succ]
    refine wpAnyH_take (i := 6) (oi := ⟨some 30, _, _, _, _, _⟩) (v := ?_) rfl (by kernel_rfl) (by kernel_rfl) (by kernel_rfl) (fun _ _ _ h => h) (Or.inl ⟨by rfl, ?_⟩) (by assumption) ?_
    rotate_left
    · (intro w hSw; (try dsimp only at hSw); go_simp; try with_reducible rfl)
    try simp only [Act.put, List.setIfInBounds_toArray, List.set_cons_zero, List.set_cons_succ]
    refine wpAnyH_take (i := 7) (oi := ⟨some 31, _, _, _, _, _⟩) (v := ?_) rfl (by kernel_rfl) (by kernel_rfl) (by kernel_rfl) (fun _ _ _ h => h) (Or.inl ⟨by rfl, ?_⟩) (by assumption) ?_
    rotate_left
    · (intro w hSw; (try dsimp only at hSw); go_simp; try with_reducible rfl)
    try simp only [Act.put, List.setIfInBounds_toArray, List.set_cons_zero, List.set_cons_succ]
    refine wpAnyH_take (i := 8) (oi := ⟨some 32, _, _, _, _, _⟩) (v := ?_) rfl (by kernel_rfl) (by kernel_rfl) (by kernel_rfl) (fun _ _ _ h => h) (Or.inl ⟨by rfl, ?_⟩) (by assumption) ?_
    rotate_left
    · (intro w hSw; (try dsimp only at hSw); go_simp; try with_reducible rfl)
    try simp only [Act.put, List.setIfInBounds_toArray, List.set_cons_zero, List.set_cons_succ]
    refine wpAnyH_ready (rs := [9, 10]) (by kernel_rfl) (by simp) ?_
    refine AllReadyH.cons (o := ⟨some 10, _, _, _, _, _⟩) rfl (fun K hK => ?_) (AllReadyH.cons (o := ⟨some 11, _, _, _, _, _⟩) rfl (fun K hK => ?_) AllReadyH.nil)
    refine step_ap (by rfl) (by rfl) ?_; intro wB gQ HQ hb1 hzB hq1 hq2; (try have HG := Lib.hid (HG.out.later hb1.out)); (try have HH := Lib.hid (HH.out.later hb1.out)); (try have HM := Blk.hb HM hb1.out); have hqb : w5.drew.heap.size ≤ gQ := Nat.le_trans hHeld.out.size hq1; have hs := Lib.hid (Lift.then2 hHeld.out hb1.out); clear hb1
    refine hK.out _ _ hs (fun hHeld => ?_)
    clear hK K
    try simp only [Act.put, List.setIfInBounds_toArray, List.set_cons_zero, List.set_cons_succ]
    refine wpAnyH_ready (rs := [10]) (by kernel_rfl) (by simp) ?_
    refine AllReadyH.cons (o := ⟨some 11, _, _, _, _, _⟩) rfl (fun K hK => ?_) AllReadyH.nil
    refine step_am (by rfl) (by rfl) ?_; intro wC gM HM hb1 hzC hm1 hm2; (try have HG := Lib.hid (HG.out.later hb1.out)); (try have HH := Lib.hid (HH.out.later hb1.out)); (try have HQ := Blk.hb HQ hb1.out); have hmb : w5.drew.heap.size ≤ gM := Nat.le_trans hHeld.out.size hm1; have hs := Lib.hid (Lift.then2 hHeld.out hb1.out); clear hb1
    refine hK.out _ _ hs (fun hHeld => ?_)
    clear hK K
    try simp only [Act.put, List.setIfInBounds_toArray, List.set_cons_zero, List.set_cons_succ]
    refine wpAnyH_ready (rs := [11]) (by kernel_rfl) (by simp) ?_
    refine AllReadyH.cons (o := ⟨none, _, _, _, _, _⟩) rfl (fun K hK => ?_) AllReadyH.nil
    refine step_sp (by rfl) (.tmp 10) (.tmp 29) (by rfl) HQ (by rfl) (by rfl) hqb ?_; intro wD HSq; have HM := Lib.hid (HM.out.turned HSq.out.turns (by decide)); have HG := Lib.hid (HG.out.turned HSq.out.turns); have hzD := HSq.out.size; have hs := Lib.hid (below_turns hHeld.out HSq.out.turns (Nat.le_refl _))
    refine hK.out _ _ hs (fun hHeld => ?_)
    clear hK K
    try simp only [Act.put]
    refine wpAnyH_ready (rs := [12]) (by kernel_rfl) (by simp) ?_
    refine AllReadyH.cons (o := ⟨none, _, _, _, _, _⟩) rfl (fun K hK => ?_) AllReadyH.nil
    refine step_sm (by rfl) (.tmp 11) (.tmp 30) (by rfl) Pst.noMail mm HM (by rfl) (by rfl) hmb ?_; intro wE HSm; have HQ := Lib.hid (HSq.out.blk.turned HSm.out.turns (by decide)); have HG := Lib.hid (HG.out.apart HSm.out (by omega)); have hzE := HSm.out.size; have hs := Lib.hid (below_turns hHeld.out HSm.out.turns (Nat.le_refl _))
    refine hK.out _ _ hs (fun hHeld => ?_)
    clear hK K
    try simp only [Act.put]
    refine wpAnyH_take (i := 13) (oi := ⟨some 12, _, _, _, _, _⟩) (v := ?_) rfl (by kernel_rfl) (by kernel_rfl) (by kernel_rfl) (fun _ _ _ h => h) (Or.inl ⟨by rfl, ?_⟩) (by assumption) ?_
    rotate_left
    · (intro w hSw; (try dsimp only at hSw); go_simp; try with_reducible rfl)
    try simp only [Act.put, List.setIfInBounds_toArray, List.set_cons_zero, List.set_cons_succ]
    refine wpAnyH_take (i := 14) (oi := ⟨some 13, _, _, _, _, _⟩) (v := ?_) rfl (by kernel_rfl) (by kernel_rfl) (by kernel_rfl) (fun _ _ _ h => h) (Or.inl ⟨by rfl, ?_⟩) (by assumption) ?_
    rotate_left
    · (intro w hSw; (try dsimp only at hSw); go_simp; try with_reducible rfl)
    try simp only [Act.put, List.setIfInBounds_toArray, List.set_cons_zero, List.set_cons_succ]
    refine wpAnyH_done (by kernel_rfl) ?_ _
    rotate_left
    refine step_am (by rfl) (by rfl) ?_; intro wC gM HM hb1 hzC hm1 hm2; (try have HG := Lib.hid (HG.out.later hb1.out)); (try have HH := Lib.hid (HH.out.later hb1.out)); (try have HQ := Blk.hb HQ hb1.out); have hmb : w5.drew.heap.size ≤ gM := Nat.le_trans hHeld.out.size hm1; have hs := Lib.hid (Lift.then2 hHeld.out hb1.out); clear hb1
    refine hK.out _ _ hs (fun hHeld => ?_)
    clear hK K
    try simp only [Act.put, List.setIfInBounds_toArray, List.set_cons_zero, List.set_cons_succ]
    refine wpAnyH_ready (rs := [9]) (by kernel_rfl) (by simp) ?_
    refine AllReadyH.cons (o := ⟨some 10, _, _, _, _, _⟩) rfl (fun K hK => ?_) AllReadyH.nil
    refine step_ap (by rfl) (by rfl) ?_; intro wB gQ HQ hb1 hzB hq1 hq2; (try have HG := Lib.hid (HG.out.later hb1.out)); (try have HH := Lib.hid (HH.out.later hb1.out)); (try have HM := Blk.hb HM hb1.out); have hqb : w5.drew.heap.size ≤ gQ := Nat.le_trans hHeld.out.size hq1; have hs := Lib.hid (Lift.then2 hHeld.out hb1.out); clear hb1
    refine hK.out _ _ hs (fun hHeld => ?_)
    clear hK K
    try simp only [Act.put, List.setIfInBounds_toArray, List.set_cons_zero, List.set_cons_succ]
    refine wpAnyH_ready (rs := [11]) (by kernel_rfl) (by simp) ?_
    refine AllReadyH.cons (o := ⟨none, _, _, _, _, _⟩) rfl (fun K hK => ?_) AllReadyH.nil
    refine step_sp (by rfl) (.tmp 10) (.tmp 29) (by rfl) HQ (by rfl) (by rfl) hqb ?_; intro wD HSq; have HM := Lib.hid (HM.out.turned HSq.out.turns (by decide)); have HG := Lib.hid (HG.out.turned HSq.out.turns); have hzD := HSq.out.size; have hs := Lib.hid (below_turns hHeld.out HSq.out.turns (Nat.le_refl _))
    refine hK.out _ _ hs (fun hHeld => ?_)
    clear hK K
    try simp only [Act.put]
    refine wpAnyH_ready (rs := [12]) (by kernel_rfl) (by simp) ?_
    refine AllReadyH.cons (o := ⟨none, _, _, _, _, _⟩) rfl (fun K hK => ?_) AllReadyH.nil
    refine step_sm (by rfl) (.tmp 11) (.tmp 30) (by rfl) Pst.noMail mm HM (by rfl) (by rfl) hmb ?_; intro wE HSm; have HQ := Lib.hid (HSq.out.blk.turned HSm.out.turns (by decide)); have HG := Lib.hid (HG.out.apart HSm.out (by omega)); have hzE := HSm.out.size; have hs := Lib.hid (below_turns hHeld.out HSm.out.turns (Nat.le_refl _))
    refine hK.out _ _ hs (fun hHeld => ?_)
    clear hK K
    try simp only [Act.put]
    refine wpAnyH_take (i := 13) (oi := ⟨some 12, _, _, _, _, _⟩) (v := ?_) rfl (by kernel_rfl) (by kernel_rfl) (by kernel_rfl) (fun _ _ _ h => h) (Or.inl ⟨by rfl, ?_⟩) (by assumption) ?_
    rotate_left
    · (intro w hSw; (try dsimp only at hSw); go_simp; try with_reducible rfl)
    try simp only [Act.put, List.setIfInBounds_toArray, List.set_cons_zero, List.set_cons_succ]
    refine wpAnyH_take (i := 14) (oi := ⟨some 13, _, _, _, _, _⟩) (v := ?_) rfl (by kernel_rfl) (by kernel_rfl) (by kernel_rfl) (fun _ _ _ h => h) (Or.inl ⟨by rfl, ?_⟩) (by assumption) ?_
    rotate_left
    · (intro w hSw; (try dsimp only at hSw); go_simp; try with_reducible rfl)
    try simp only [Act.put, List.setIfInBounds_toArray, List.set_cons_zero, List.set_cons_succ]
    refine wpAnyH_done (by kernel_rfl) ?_ _
    rotate_left
    refine step_ap (by rfl) (by rfl) ?_; intro wB gQ HQ hb1 hzB hq1 hq2; (try have HG := Lib.hid (HG.out.later hb1.out)); (try have HH := Lib.hid (HH.out.later hb1.out)); (try have HM := Blk.hb HM hb1.out); have hqb : w5.drew.heap.size ≤ gQ := Nat.le_trans hHeld.out.size hq1; have hs := Lib.hid (Lift.then2 hHeld.out hb1.out); clear hb1
    refine hK.out _ _ hs (fun hHeld => ?_)
    clear hK K
    try simp only [Act.put, List.setIfInBounds_toArray, List.set_cons_zero, List.set_cons_succ]
    refine wpAnyH_ready (rs := [3, 10]) (by kernel_rfl) (by simp) ?_
    refine AllReadyH.cons (o := ⟨some 28, _, _, _, _, _⟩) rfl (fun K hK => ?_) (AllReadyH.cons (o := ⟨some 11, _, _, _, _, _⟩) rfl (fun K hK => ?_) AllReadyH.nil)
    go_simp
    go_at_call 9
    refine (HRf.out _ _ _ _ (Lift.then2 HB6.out hHeld.out) HH.out).mono ?_; rintro e wA ⟨A4, c4, k4, rfl, g1, nA, b1⟩; have HG := Lib.hid g1; (try have HQ := Blk.hb HQ b1); (try have HM := Blk.hb HM b1); have hzA := b1.size; have hkA : k4 < wA.heap.size := (by have := hHeld.out.size; omega); have hs := Lib.hid (Lift.then2 hHeld.out b1); clear g1 b1
    refine hK.out _ _ hs (fun hHeld => ?_)
    clear hK K
    try simp only 
    refine wpAnyH_take (i := 4) (oi := ⟨some 24, _, _, _, _, _⟩) (v := ?_) rfl (by kernel_rfl) (by kernel_rfl) (by kernel_rfl) (fun _ _ _ h => h) (Or.inl ⟨by rfl, ?_⟩) (by assumption) ?_
    rotate_left
    · (intro w hSw; (try dsimp only at hSw); go_simp; try with_reducible rfl)
    try simp only [Act.put, List.setIfInBounds_toArray, List.set_cons_zero, List.set_cons_succ]
    refine wpAnyH_take (i := 5) (oi := ⟨some 29, _, _, _, _, _⟩) (v := ?_) rfl (by kernel_rfl) (by kernel_rfl) (by kernel_rfl) (fun _ _ _ h => h) (Or.inl ⟨by rfl, ?_⟩) (by assumption) ?_
    rotate_left
    · (intro w hSw; (try dsimp only at hSw); go_simp; try with_reducible rfl)
    try simp only [Act.put, List.setIfInBounds_toArray, List.set_cons_zero, List.set_cons_succ]
    refine wpAnyH_take (i := 6) (oi := ⟨some 30, _, _, _, _, _⟩) (v := ?_) rfl (by kernel_rfl) (by kernel_rfl) (by kernel_rfl) (fun _ _ _ h => h) (Or.inl ⟨by rfl, ?_⟩) (by assumption) ?_
    rotate_left
    · (intro w hSw; (try dsimp only at hSw); go_simp; try with_reducible rfl)
    try simp only [Act.put, List.setIfInBounds_toArray, List.set_cons_zero, List.set_cons_succ]
    refine wpAnyH_take (i := 7) (oi := ⟨some 31, _, _, _, _, _⟩) (v := ?_) rfl (by kernel_rfl) (by kernel_rfl) (by kernel_rfl) (fun _ _ _ h => h) (Or.inl ⟨by rfl, ?_⟩) (by assumption) ?_
    rotate_left
    · (intro w hSw; (try dsimp only at hSw); go_simp; try with_reducible rfl)
    try simp only [Act.put, List.setIfInBounds_toArray, List.set_cons_zero, List.set_cons_succ]
    refine wpAnyH_take (i := 8) (oi := ⟨some 32, _, _, _, _, _⟩) (v := ?_) rfl (by kernel_rfl) (by kernel_rfl) (by kernel_rfl) (fun _ _ _ h => h) (Or.inl ⟨by rfl, ?_⟩) (by assumption) ?_
    rotate_left
    · (intro w hSw; (try dsimp only at hSw); go_simp; try with_reducible rfl)
    try simp only [Act.put, List.setIfInBounds_toArray, List.set_cons_zero, List.set_cons_succ]
    refine wpAnyH_ready (rs := [10]) (by kernel_rfl) (by simp) ?_
    refine AllReadyH.cons (o := ⟨some 11, _, _, _, _, _⟩) rfl (fun K hK => ?_) AllReadyH.nil
    refine step_am (by rfl) (by rfl) ?_; intro wC gM HM hb1 hzC hm1 hm2; (try have HG := Lib.hid (HG.out.later hb1.out)); (try have HH := Lib.hid (HH.out.later hb1.out)); (try have HQ := Blk.hb HQ hb1.out); have hmb : w5.drew.heap.size ≤ gM := Nat.le_trans hHeld.out.size hm1; have hs := Lib.hid (Lift.then2 hHeld.out hb1.out); clear hb1
    refine hK.out _ _ hs (fun hHeld => ?_)
    clear hK K
    try simp only [Act.put, List.setIfInBounds_toArray, List.set_cons_zero, List.set_cons_succ]
    refine wpAnyH_ready (rs := [11]) (by kernel_rfl) (by simp) ?_
    refine AllReadyH.cons (o := ⟨none, _, _, _, _, _⟩) rfl (fun K hK => ?_) AllReadyH.nil
    refine step_sp (by rfl) (.tmp 10) (.tmp 29) (by rfl) HQ (by rfl) (by rfl) hqb ?_; intro wD HSq; have HM := Lib.hid (HM.out.turned HSq.out.turns (by decide)); have HG := Lib.hid (HG.out.turned HSq.out.turns); have hzD := HSq.out.size; have hs := Lib.hid (below_turns hHeld.out HSq.out.turns (Nat.le_refl _))
    refine hK.out _ _ hs (fun hHeld => ?_)
    clear hK K
    try simp only [Act.put]
    refine wpAnyH_ready (rs := [12]) (by kernel_rfl) (by simp) ?_
    refine AllReadyH.cons (o := ⟨none, _, _, _, _, _⟩) rfl (fun K hK => ?_) AllReadyH.nil
    refine step_sm (by rfl) (.tmp 11) (.tmp 30) (by rfl) Pst.noMail mm HM (by rfl) (by rfl) hmb ?_; intro wE HSm; have HQ := Lib.hid (HSq.out.blk.turned HSm.out.turns (by decide)); have HG := Lib.hid (HG.out.apart HSm.out (by omega)); have hzE := HSm.out.size; have hs := Lib.hid (below_turns hHeld.out HSm.out.turns (Nat.le_refl _))
    refine hK.out _ _ hs (fun hHeld => ?_)
    clear hK K
    try simp only [Act.put]
    refine wpAnyH_take (i := 13) (oi := ⟨some 12, _, _, _, _, _⟩) (v := ?_) rfl (by kernel_rfl) (by kernel_rfl) (by kernel_rfl) (fun _ _ _ h => h) (Or.inl ⟨by rfl, ?_⟩) (by assumption) ?_
    rotate_left
    · (intro w hSw; (try dsimp only at hSw); go_simp; try with_reducible rfl)
    try simp only [Act.put, List.setIfInBounds_toArray, List.set_cons_zero, List.set_cons_succ]
    refine wpAnyH_take (i := 14) (oi := ⟨some 13, _, _, _, _, _⟩) (v := ?_) rfl (by kernel_rfl) (by kernel_rfl) (by kernel_rfl) (fun _ _ _ h => h) (Or.inl ⟨by rfl, ?_⟩) (by assumption) ?_
    rotate_left
    · (intro w hSw; (try dsimp only at hSw); go_simp; try with_reducible rfl)
    try simp only [Act.put, List.setIfInBounds_toArray, List.set_cons_zero, List.set_cons_succ]
    refine wpAnyH_done (by kernel_rfl) ?_ _
    rotate_left
    refine step_am (by rfl) (by rfl) ?_; intro wC gM HM hb1 hzC hm1 hm2; (try have HG := Lib.hid (HG.out.later hb1.out)); (try have HH := Lib.hid (HH.out.later hb1.out)); (try have HQ := Blk.hb HQ hb1.out); have hmb : w5.drew.heap.size ≤ gM := Nat.le_trans hHeld.out.size hm1; have hs := Lib.hid (Lift.then2 hHeld.out hb1.out); clear hb1
    refine hK.out _ _ hs (fun hHeld => ?_)
    clear hK K
    try simp only [Act.put, List.setIfInBounds_toArray, List.set_cons_zero, List.set_cons_succ]
    refine wpAnyH_ready (rs := [3]) (by kernel_rfl) (by simp) ?_
    refine AllReadyH.cons (o := ⟨some 28, _, _, _, _, _⟩) rfl (fun K hK => ?_) AllReadyH.nil
    go_simp
    go_at_call 9
    refine (HRf.out _ _ _ _ (Lift.then2 HB6.out hHeld.out) HH.out).mono ?_; rintro e wA ⟨A4, c4, k4, rfl, g1, nA, b1⟩; have HG := Lib.hid g1; (try have HQ := Blk.hb HQ b1); (try have HM := Blk.hb HM b1); have hzA := b1.size; have hkA : k4 < wA.heap.size := (by have := hHeld.out.size; omega); have hs := Lib.hid (Lift.then2 hHeld.out b1); clear g1 b1
    refine hK.out _ _ hs (fun hHeld => ?_)
    clear hK K
    try simp only 
    refine wpAnyH_take (i := 4) (oi := ⟨some 24, _, _, _, _, _⟩) (v := ?_) rfl (by kernel_rfl) (by kernel_rfl) (by kernel_rfl) (fun _ _ _ h => h) (Or.inl ⟨by rfl, ?_⟩) (by assumption) ?_
    rotate_left
    · (intro w hSw; (try dsimp only at hSw); go_simp; try with_reducible rfl)
    try simp only [Act.put, List.setIfInBounds_toArray, List.set_cons_zero, List.set_cons_succ]
    refine wpAnyH_take (i := 5) (oi := ⟨some 29, _, _, _, _, _⟩) (v := ?_) rfl (by kernel_rfl) (by kernel_rfl) (by kernel_rfl) (fun _ _ _ h => h) (Or.inl ⟨by rfl, ?_⟩) (by assumption) ?_
    rotate_left
    · (intro w hSw; (try dsimp only at hSw); go_simp; try with_reducible rfl)
    try simp only [Act.put, List.setIfInBounds_toArray, List.set_cons_zero, List.set_cons_succ]
    refine wpAnyH_take (i := 6) (oi := ⟨some 30, _, _, _, _, _⟩) (v := ?_) rfl (by kernel_rfl) (by kernel_rfl) (by kernel_rfl) (fun _ _ _ h => h) (Or.inl ⟨by rfl, ?_⟩) (by assumption) ?_
    rotate_left
    · (intro w hSw; (try dsimp only at hSw); go_simp; try with_reducible rfl)
    try simp only [Act.put, List.setIfInBounds_toArray, List.set_cons_zero, List.set_cons_succ]
    refine wpAnyH_take (i := 7) (oi := ⟨some 31, _, _, _, _, _⟩) (v := ?_) rfl (by kernel_rfl) (by kernel_rfl) (by kernel_rfl) (fun _ _ _ h => h) (Or.inl ⟨by rfl, ?_⟩) (by assumption) ?_
    rotate_left
    · (intro w hSw; (try dsimp only at hSw); go_simp; try with_reducible rfl)
    try simp only [Act.put, List.setIfInBounds_toArray, List.set_cons_zero, List.set_cons_succ]
    refine wpAnyH_take (i := 8) (oi := ⟨some 32, _, _, _, _, _⟩) (v := ?_) rfl (by kernel_rfl) (by kernel_rfl) (by kernel_rfl) (fun _ _ _ h => h) (Or.inl ⟨by rfl, ?_⟩) (by assumption) ?_
    rotate_left
    · (intro w hSw; (try dsimp only at hSw); go_simp; try with_reducible rfl)
    try simp only [Act.put, List.setIfInBounds_toArray, List.set_cons_zero, List.set_cons_succ]
    refine wpAnyH_ready (rs := [11]) (by kernel_rfl) (by simp) ?_
    refine AllReadyH.cons (o := ⟨none, _, _, _, _, _⟩) rfl (fun K hK => ?_) AllReadyH.nil
    refine step_sp (by rfl) (.tmp 10) (.tmp 29) (by rfl) HQ (by rfl) (by rfl) hqb ?_; intro wD HSq; have HM := Lib.hid (HM.out.turned HSq.out.turns (by decide)); have HG := Lib.hid (HG.out.turned HSq.out.turns); have hzD := HSq.out.size; have hs := Lib.hid (below_turns hHeld.out HSq.out.turns (Nat.le_refl _))
    refine hK.out _ _ hs (fun hHeld => ?_)
    clear hK K
    try simp only [Act.put]
    refine wpAnyH_ready (rs := [12]) (by kernel_rfl) (by simp) ?_
    refine AllReadyH.cons (o := ⟨none, _, _, _, _, _⟩) rfl (fun K hK => ?_) AllReadyH.nil
    refine step_sm (by rfl) (.tmp 11) (.tmp 30) (by rfl) Pst.noMail mm HM (by rfl) (by rfl) hmb ?_; intro wE HSm; have HQ := Lib.hid (HSq.out.blk.turned HSm.out.turns (by decide)); have HG := Lib.hid (HG.out.apart HSm.out (by omega)); have hzE := HSm.out.size; have hs := Lib.hid (below_turns hHeld.out HSm.out.turns (Nat.le_refl _))
    refine hK.out _ _ hs (fun hHeld => ?_)
    clear hK K
    try simp only [Act.put]
    refine wpAnyH_take (i := 13) (oi := ⟨some 12, _, _, _, _, _⟩) (v := ?_) rfl (by kernel_rfl) (by kernel_rfl) (by kernel_rfl) (fun _ _ _ h => h) (Or.inl ⟨by rfl, ?_⟩) (by assumption) ?_
    rotate_left
    · (intro w hSw; (try dsimp only at hSw); go_simp; try with_reducible rfl)
    try simp only [Act.put, List.setIfInBounds_toArray, List.set_cons_zero, List.set_cons_succ]
    refine wpAnyH_take (i := 14) (oi := ⟨some 13, _, _, _, _, _⟩) (v := ?_) rfl (by kernel_rfl) (by kernel_rfl) (by kernel_rfl) (fun _ _ _ h => h) (Or.inl ⟨by rfl, ?_⟩) (by assumption) ?_
    rotate_left
    · (intro w hSw; (try dsimp only at hSw); go_simp; try with_reducible rfl)
    try simp only [Act.put, List.setIfInBounds_toArray, List.set_cons_zero, List.set_cons_succ]
    refine wpAnyH_done (by kernel_rfl) ?_ _
    rotate_left
    refine step_am (by rfl) (by rfl) ?_; intro wC gM HM hb1 hzC hm1 hm2; (try have HG := Lib.hid (HG.out.later hb1.out)); (try have HH := Lib.hid (HH.out.later hb1.out)); (try have HQ := Blk.hb HQ hb1.out); have hmb : w5.drew.heap.size ≤ gM := Nat.le_trans hHeld.out.size hm1; have hs := Lib.hid (Lift.then2 hHeld.out hb1.out); clear hb1
    refine hK.out _ _ hs (fun hHeld => ?_)
    clear hK K
    try simp only [Act.put, List.setIfInBounds_toArray, List.set_cons_zero, List.set_cons_succ]
    refine wpAnyH_ready (rs := [3, 9]) (by kernel_rfl) (by simp) ?_
    refine AllReadyH.cons (o := ⟨some 28, _, _, _, _, _⟩) rfl (fun K hK => ?_) (AllReadyH.cons (o := ⟨some 10, _, _, _, _, _⟩) rfl (fun K hK => ?_) AllReadyH.nil)
    go_simp
    go_at_call 9
    refine (HRf.out _ _ _ _ (Lift.then2 HB6.out hHeld.out) HH.out).mono ?_; rintro e wA ⟨A4, c4, k4, rfl, g1, nA, b1⟩; have HG := Lib.hid g1; (try have HQ := Blk.hb HQ b1); (try have HM := Blk.hb HM b1); have hzA := b1.size; have hkA : k4 < wA.heap.size := (by have := hHeld.out.size; omega); have hs := Lib.hid (Lift.then2 hHeld.out b1); clear g1 b1
    refine hK.out _ _ hs (fun hHeld => ?_)
    clear hK K
    try simp only 
    refine wpAnyH_take (i := 4) (oi := ⟨some 24, _, _, _, _, _⟩) (v := ?_) rfl (by kernel_rfl) (by kernel_rfl) (by kernel_rfl) (fun _ _ _ h => h) (Or.inl ⟨by rfl, ?_⟩) (by assumption) ?_
    rotate_left
    · (intro w hSw; (try dsimp only at hSw); go_simp; try with_reducible rfl)
    try simp only [Act.put, List.setIfInBounds_toArray, List.set_cons_zero, List.set_cons_succ]
    refine wpAnyH_take (i := 5) (oi := ⟨some 29, _, _, _, _, _⟩) (v := ?_) rfl (by kernel_rfl) (by kernel_rfl) (by kernel_rfl) (fun _ _ _ h => h) (Or.inl ⟨by rfl, ?_⟩) (by assumption) ?_
    rotate_left
    · (intro w hSw; (try dsimp only at hSw); go_simp; try with_reducible rfl)
    try simp only [Act.put, List.setIfInBounds_toArray, List.set_cons_zero, List.set_cons_succ]
    refine wpAnyH_take (i := 6) (oi := ⟨some 30, _, _, _, _, _⟩) (v := ?_) rfl (by kernel_rfl) (by kernel_rfl) (by kernel_rfl) (fun _ _ _ h => h) (Or.inl ⟨by rfl, ?_⟩) (by assumption) ?_
    rotate_left
    · (intro w hSw; (try dsimp only at hSw); go_simp; try with_reducible rfl)
    try simp only [Act.put, List.setIfInBounds_toArray, List.set_cons_zero, List.set_cons_succ]
    refine wpAnyH_take (i := 7) (oi := ⟨some 31, _, _, _, _, _⟩) (v := ?_) rfl (by kernel_rfl) (by kernel_rfl) (by kernel_rfl) (fun _ _ _ h => h) (Or.inl ⟨by rfl, ?_⟩) (by assumption) ?_
    rotate_left
    · (intro w hSw; (try dsimp only at hSw); go_simp; try with_reducible rfl)
    try simp only [Act.put, List.setIfInBounds_toArray, List.set_cons_zero, List.set_cons_succ]
    refine wpAnyH_take (i := 8) (oi := ⟨some 32, _, _, _, _, _⟩) (v := ?_) rfl (by kernel_rfl) (by kernel_rfl) (by kernel_rfl) (fun _ _ _ h => h) (Or.inl ⟨by rfl, ?_⟩) (by assumption) ?_
    rotate_left
    · (intro w hSw; (try dsimp only at hSw); go_simp; try with_reducible rfl)
    try simp only [Act.put, List.setIfInBounds_toArray, List.set_cons_zero, List.set_cons_succ]
    refine wpAnyH_ready (rs := [9]) (by kernel_rfl) (by simp) ?_
    refine AllReadyH.cons (o := ⟨some 10, _, _, _, _, _⟩) rfl (fun K hK => ?_) AllReadyH.nil
    refine step_ap (by rfl) (by rfl) ?_; intro wB gQ HQ hb1 hzB hq1 hq2; (try have HG := Lib.hid (HG.out.later hb1.out)); (try have HH := Lib.hid (HH.out.later hb1.out)); (try have HM := Blk.hb HM hb1.out); have hqb : w5.drew.heap.size ≤ gQ := Nat.le_trans hHeld.out.size hq1; have hs := Lib.hid (Lift.then2 hHeld.out hb1.out); clear hb1
    refine hK.out _ _ hs (fun hHeld => ?_)
    clear hK K
    try simp only [Act.put, List.setIfInBounds_toArray, List.set_cons_zero, List.set_cons_succ]
    refine wpAnyH_ready (rs := [11]) (by kernel_rfl) (by simp) ?_
    refine AllReadyH.cons (o := ⟨none, _, _, _, _, _⟩) rfl (fun K hK => ?_) AllReadyH.nil
    refine step_sp (by rfl) (.tmp 10) (.tmp 29) (by rfl) HQ (by rfl) (by rfl) hqb ?_; intro wD HSq; have HM := Lib.hid (HM.out.turned HSq.out.turns (by decide)); have HG := Lib.hid (HG.out.turned HSq.out.turns); have hzD := HSq.out.size; have hs := Lib.hid (below_turns hHeld.out HSq.out.turns (Nat.le_refl _))
    refine hK.out _ _ hs (fun hHeld => ?_)
    clear hK K
    try simp only [Act.put]
    refine wpAnyH_ready (rs := [12]) (by kernel_rfl) (by simp) ?_
    refine AllReadyH.cons (o := ⟨none, _, _, _, _, _⟩) rfl (fun K hK => ?_) AllReadyH.nil
    refine step_sm (by rfl) (.tmp 11) (.tmp 30) (by rfl) Pst.noMail mm HM (by rfl) (by rfl) hmb ?_; intro wE HSm; have HQ := Lib.hid (HSq.out.blk.turned HSm.out.turns (by decide)); have HG := Lib.hid (HG.out.apart HSm.out (by omega)); have hzE := HSm.out.size; have hs := Lib.hid (below_turns hHeld.out HSm.out.turns (Nat.le_refl _))
    refine hK.out _ _ hs (fun hHeld => ?_)
    clear hK K
    try simp only [Act.put]
    refine wpAnyH_take (i := 13) (oi := ⟨some 12, _, _, _, _, _⟩) (v := ?_) rfl (by kernel_rfl) (by kernel_rfl) (by kernel_rfl) (fun _ _ _ h => h) (Or.inl ⟨by rfl, ?_⟩) (by assumption) ?_
    rotate_left
    · (intro w hSw; (try dsimp only at hSw); go_simp; try with_reducible rfl)
    try simp only [Act.put, List.setIfInBounds_toArray, List.set_cons_zero, List.set_cons_succ]
    refine wpAnyH_take (i := 14) (oi := ⟨some 13, _, _, _, _, _⟩) (v := ?_) rfl (by kernel_rfl) (by kernel_rfl) (by kernel_rfl) (fun _ _ _ h => h) (Or.inl ⟨by rfl, ?_⟩) (by assumption) ?_
    rotate_left
    · (intro w hSw; (try dsimp only at hSw); go_simp; try with_reducible rfl)
    try simp only [Act.put, List.setIfInBounds_toArray, List.set_cons_zero, List.set_cons_succ]
    refine wpAnyH_done (by kernel_rfl) ?_ _
    rotate_left
    refine step_ap (by rfl) (by rfl) ?_; intro wB gQ HQ hb1 hzB hq1 hq2; (try have HG := Lib.hid (HG.out.later hb1.out)); (try have HH := Lib.hid (HH.out.later hb1.out)); (try have HM := Blk.hb HM hb1.out); have hqb : w5.drew.heap.size ≤ gQ := Nat.le_trans hHeld.out.size hq1; have hs := Lib.hid (Lift.then2 hHeld.out hb1.out); clear hb1
    refine hK.out _ _ hs (fun hHeld => ?_)
    clear hK K
    try simp only [Act.put, List.setIfInBounds_toArray, List.set_cons_zero, List.set_cons_succ]
    refine wpAnyH_ready (rs := [3]) (by kernel_rfl) (by simp) ?_
    refine AllReadyH.cons (o := ⟨some 28, _, _, _, _, _⟩) rfl (fun K hK => ?_) AllReadyH.nil
    go_simp
    go_at_call 9
    refine (HRf.out _ _ _ _ (Lift.then2 HB6.out hHeld.out) HH.out).mono ?_; rintro e wA ⟨A4, c4, k4, rfl, g1, nA, b1⟩; have HG := Lib.hid g1; (try have HQ := Blk.hb HQ b1); (try have HM := Blk.hb HM b1); have hzA := b1.size; have hkA : k4 < wA.heap.size := (by have := hHeld.out.size; omega); have hs := Lib.hid (Lift.then2 hHeld.out b1); clear g1 b1
    refine hK.out _ _ hs (fun hHeld => ?_)
    clear hK K
    try simp only 
    refine wpAnyH_take (i := 4) (oi := ⟨some 24, _, _, _, _, _⟩) (v := ?_) rfl (by kernel_rfl) (by kernel_rfl) (by kernel_rfl) (fun _ _ _ h => h) (Or.inl ⟨by rfl, ?_⟩) (by assumption) ?_
    rotate_left
    · (intro w hSw; (try dsimp only at hSw); go_simp; try with_reducible rfl)
    try simp only [Act.put, List.setIfInBounds_toArray, List.set_cons_zero, List.set_cons_succ]
    refine wpAnyH_take (i := 5) (oi := ⟨some 29, _, _, _, _, _⟩) (v := ?_) rfl (by kernel_rfl) (by kernel_rfl) (by kernel_rfl) (fun _ _ _ h => h) (Or.inl ⟨by rfl, ?_⟩) (by assumption) ?_
    rotate_left
    · (intro w hSw; (try dsimp only at hSw); go_simp; try with_reducible rfl)
    try simp only [Act.put, List.setIfInBounds_toArray, List.set_cons_zero, List.set_cons_succ]
    refine wpAnyH_take (i := 6) (oi := ⟨some 30, _, _, _, _, _⟩) (v := ?_) rfl (by kernel_rfl) (by kernel_rfl) (by kernel_rfl) (fun _ _ _ h => h) (Or.inl ⟨by rfl, ?_⟩) (by assumption) ?_
    rotate_left
    · (intro w hSw; (try dsimp only at hSw); go_simp; try with_reducible rfl)
    try simp only [Act.put, List.setIfInBounds_toArray, List.set_cons_zero, List.set_cons_succ]
    refine wpAnyH_take (i := 7) (oi := ⟨some 31, _, _, _, _, _⟩) (v := ?_) rfl (by kernel_rfl) (by kernel_rfl) (by kernel_rfl) (fun _ _ _ h => h) (Or.inl ⟨by rfl, ?_⟩) (by assumption) ?_
    rotate_left
    · (intro w hSw; (try dsimp only at hSw); go_simp; try with_reducible rfl)
    try simp only [Act.put, List.setIfInBounds_toArray, List.set_cons_zero, List.set_cons_succ]
    refine wpAnyH_take (i := 8) (oi := ⟨some 32, _, _, _, _, _⟩) (v := ?_) rfl (by kernel_rfl) (by kernel_rfl) (by kernel_rfl) (fun _ _ _ h => h) (Or.inl ⟨by rfl, ?_⟩) (by assumption) ?_
    rotate_left
    · (intro w hSw; (try dsimp only at hSw); go_simp; try with_reducible rfl)
    try simp only [Act.put, List.setIfInBounds_toArray, List.set_cons_zero, List.set_cons_succ]
    refine wpAnyH_ready (rs := [11]) (by kernel_rfl) (by simp) ?_
    refine AllReadyH.cons (o := ⟨none, _, _, _, _, _⟩) rfl (fun K hK => ?_) AllReadyH.nil
    refine step_sp (by rfl) (.tmp 10) (.tmp 29) (by rfl) HQ (by rfl) (by rfl) hqb ?_; intro wD HSq; have HM := Lib.hid (HM.out.turned HSq.out.turns (by decide)); have HG := Lib.hid (HG.out.turned HSq.out.turns); have hzD := HSq.out.size; have hs := Lib.hid (below_turns hHeld.out HSq.out.turns (Nat.le_refl _))
    refine hK.out _ _ hs (fun hHeld => ?_)
    clear hK K
    try simp only [Act.put]
    refine wpAnyH_ready (rs := [12]) (by kernel_rfl) (by simp) ?_
    refine AllReadyH.cons (o := ⟨none, _, _, _, _, _⟩) rfl (fun K hK => ?_) AllReadyH.nil
    refine step_sm (by rfl) (.tmp 11) (.tmp 30) (by rfl) Pst.noMail mm HM (by rfl) (by rfl) hmb ?_; intro wE HSm; have HQ := Lib.hid (HSq.out.blk.turned HSm.out.turns (by decide)); have HG := Lib.hid (HG.out.apart HSm.out (by omega)); have hzE := HSm.out.size; have hs := Lib.hid (below_turns hHeld.out HSm.out.turns (Nat.le_refl _))
    refine hK.out _ _ hs (fun hHeld => ?_)
    clear hK K
    try simp only [Act.put]
    refine wpAnyH_take (i := 13) (oi := ⟨some 12, _, _, _, _, _⟩) (v := ?_) rfl (by kernel_rfl) (by kernel_rfl) (by kernel_rfl) (fun _ _ _ h => h) (Or.inl ⟨by rfl, ?_⟩) (by assumption) ?_
    rotate_left
    · (intro w hSw; (try dsimp only at hSw); go_simp; try with_reducible rfl)
    try simp only [Act.put, List.setIfInBounds_toArray, List.set_cons_zero, List.set_cons_succ]
    refine wpAnyH_take (i := 14) (oi := ⟨some 13, _, _, _, _, _⟩) (v := ?_) rfl (by kernel_rfl) (by kernel_rfl) (by kernel_rfl) (fun _ _ _ h => h) (Or.inl ⟨by rfl, ?_⟩) (by assumption) ?_
    rotate_left
    · (intro w hSw; (try dsimp only at hSw); go_simp; try with_reducible rfl)
    try simp only [Act.put, List.setIfInBounds_toArray, List.set_cons_zero, List.set_cons_succ]
    refine wpAnyH_done (by kernel_rfl) ?_ _
    rotate_left
    refine step_ap (by rfl) (by rfl) ?_; intro wB gQ HQ hb1 hzB hq1 hq2; (try have HG := Lib.hid (HG.out.later hb1.out)); (try have HH := Lib.hid (HH.out.later hb1.out)); (try have HM := Blk.hb HM hb1.out); have hqb : w5.drew.heap.size ≤ gQ := Nat.le_trans hHeld.out.size hq1; have hs := Lib.hid (Lift.then2 hHeld.out hb1.out); clear hb1
    refine hK.out _ _ hs (fun hHeld => ?_)
    clear hK K
    try simp only [Act.put, List.setIfInBounds_toArray, List.set_cons_zero, List.set_cons_succ]
    refine wpAnyH_ready (rs := [1, 10]) (by kernel_rfl) (by simp) ?_
    refine AllReadyH.cons (o := ⟨some 26, _, _, _, _, _⟩) rfl (fun K hK => ?_) (AllReadyH.cons (o := ⟨some 11, _, _, _, _, _⟩) rfl (fun K hK => ?_) AllReadyH.nil)
    go_simp
    go_at_call 7
    refine (HTw.out _ _ _ _ (Lift.then2 HB6.out hHeld.out) (HG6.out.later hHeld.out)).mono ?_; rintro e wT ⟨A3, c3, k3, rfl, g3, nT, b1⟩; have HH := Lib.hid g3; (try have HQ := Blk.hb HQ b1); (try have HM := Blk.hb HM b1); have hzT := b1.size; have hs := Lib.hid (Lift.then2 hHeld.out b1); clear g3 b1
    refine hK.out _ _ hs (fun hHeld => ?_)
    clear hK K
    try simp only [Act.put, List.setIfInBounds_toArray, List.set_cons_zero, List.set_cons_succ]
    refine wpAnyH_ready (rs := [3, 10]) (by kernel_rfl) (by simp) ?_
    refine AllReadyH.cons (o := ⟨some 28, _, _, _, _, _⟩) rfl (fun K hK => ?_) (AllReadyH.cons (o := ⟨some 11, _, _, _, _, _⟩) rfl (fun K hK => ?_) AllReadyH.nil)
    go_simp
    go_at_call 9
    refine (HRf.out _ _ _ _ (Lift.then2 HB6.out hHeld.out) HH.out).mono ?_; rintro e wA ⟨A4, c4, k4, rfl, g1, nA, b1⟩; have HG := Lib.hid g1; (try have HQ := Blk.hb HQ b1); (try have HM := Blk.hb HM b1); have hzA := b1.size; have hkA : k4 < wA.heap.size := (by have := hHeld.out.size; omega); have hs := Lib.hid (Lift.then2 hHeld.out b1); clear g1 b1
    refine hK.out _ _ hs (fun hHeld => ?_)
    clear hK K
    try simp only 
    refine wpAnyH_take (i := 4) (oi := ⟨some 24, _, _, _, _, _⟩) (v := ?_) rfl (by kernel_rfl) (by kernel_rfl) (by kernel_rfl) (fun _ _ _ h => h) (Or.inl ⟨by rfl, ?_⟩) (by assumption) ?_
    rotate_left
    · (intro w hSw; (try dsimp only at hSw); go_simp; try with_reducible rfl)
    try simp only [Act.put, List.setIfInBounds_toArray, List.set_cons_zero, List.set_cons_succ]
    refine wpAnyH_take (i := 5) (oi := ⟨some 29, _, _, _, _, _⟩) (v := ?_) rfl (by kernel_rfl) (by kernel_rfl) (by kernel_rfl) (fun _ _ _ h => h) (Or.inl ⟨by rfl, ?_⟩) (by assumption) ?_
    rotate_left
    · (intro w hSw; (try dsimp only at hSw); go_simp; try with_reducible rfl)
    try simp only [Act.put, List.setIfInBounds_toArray, List.set_cons_zero, List.set_cons_succ]
    refine wpAnyH_take (i := 6) (oi := ⟨some 30, _, _, _, _, _⟩) (v := ?_) rfl (by kernel_rfl) (by kernel_rfl) (by kernel_rfl) (fun _ _ _ h => h) (Or.inl ⟨by rfl, ?_⟩) (by assumption) ?_
    rotate_left
    · (intro w hSw; (try dsimp only at hSw); go_simp; try with_reducible rfl)
    try simp only [Act.put, List.setIfInBounds_toArray, List.set_cons_zero, List.set_cons_succ]
    refine wpAnyH_take (i := 7) (oi := ⟨some 31, _, _, _, _, _⟩) (v := ?_) rfl (by kernel_rfl) (by kernel_rfl) (by kernel_rfl) (fun _ _ _ h => h) (Or.inl ⟨by rfl, ?_⟩) (by assumption) ?_
    rotate_left
    · (intro w hSw; (try dsimp only at hSw); go_simp; try with_reducible rfl)
    try simp only [Act.put, List.setIfInBounds_toArray, List.set_cons_zero, List.set_cons_succ]
    refine wpAnyH_take (i := 8) (oi := ⟨some 32, _, _, _, _, _⟩) (v := ?_) rfl (by kernel_rfl) (by kernel_rfl) (by kernel_rfl) (fun _ _ _ h => h) (Or.inl ⟨by rfl, ?_⟩) (by assumption) ?_
    rotate_left
    · (intro w hSw; (try dsimp only at hSw); go_simp; try with_reducible rfl)
    try simp only [Act.put, List.setIfInBounds_toArray, List.set_cons_zero, List.set_cons_succ]
    refine wpAnyH_ready (rs := [10]) (by kernel_rfl) (by simp) ?_
    refine AllReadyH.cons (o := ⟨some 11, _, _, _, _, _⟩) rfl (fun K hK => ?_) AllReadyH.nil
    refine step_am (by rfl) (by rfl) ?_; intro wC gM HM hb1 hzC hm1 hm2; (try have HG := Lib.hid (HG.out.later hb1.out)); (try have HH := Lib.hid (HH.out.later hb1.out)); (try have HQ := Blk.hb HQ hb1.out); have hmb : w5.drew.heap.size ≤ gM := Nat.le_trans hHeld.out.size hm1; have hs := Lib.hid (Lift.then2 hHeld.out hb1.out); clear hb1
    refine hK.out _ _ hs (fun hHeld => ?_)
    clear hK K
    try simp only [Act.put, List.setIfInBounds_toArray, List.set_cons_zero, List.set_cons_succ]
    refine wpAnyH_ready (rs := [11]) (by kernel_rfl) (by simp) ?_
    refine AllReadyH.cons (o := ⟨none, _, _, _, _, _⟩) rfl (fun K hK => ?_) AllReadyH.nil
    refine step_sp (by rfl) (.tmp 10) (.tmp 29) (by rfl) HQ (by rfl) (by rfl) hqb ?_; intro wD HSq; have HM := Lib.hid (HM.out.turned HSq.out.turns (by decide)); have HG := Lib.hid (HG.out.turned HSq.out.turns); have hzD := HSq.out.size; have hs := Lib.hid (below_turns hHeld.out HSq.out.turns (Nat.le_refl _))
    refine hK.out _ _ hs (fun hHeld => ?_)
    clear hK K
    try simp only [Act.put]
    refine wpAnyH_ready (rs := [12]) (by kernel_rfl) (by simp) ?_
    refine AllReadyH.cons (o := ⟨none, _, _, _, _, _⟩) rfl (fun K hK => ?_) AllReadyH.nil
    refine step_sm (by rfl) (.tmp 11) (.tmp 30) (by rfl) Pst.noMail mm HM (by rfl) (by rfl) hmb ?_; intro wE HSm; have HQ := Lib.hid (HSq.out.blk.turned HSm.out.turns (by decide)); have HG := Lib.hid (HG.out.apart HSm.out (by omega)); have hzE := HSm.out.size; have hs := Lib.hid (below_turns hHeld.out HSm.out.turns (Nat.le_refl _))
    refine hK.out _ _ hs (fun hHeld => ?_)
    clear hK K
    try simp only [Act.put]
    refine wpAnyH_take (i := 13) (oi := ⟨some 12, _, _, _, _, _⟩) (v := ?_) rfl (by kernel_rfl) (by kernel_rfl) (by kernel_rfl) (fun _ _ _ h => h) (Or.inl ⟨by rfl, ?_⟩) (by assumption) ?_
    rotate_left
    · (intro w hSw; (try dsimp only at hSw); go_simp; try with_reducible rfl)
    try simp only [Act.put, List.setIfInBounds_toArray, List.set_cons_zero, List.set_cons_succ]
    refine wpAnyH_take (i := 14) (oi := ⟨some 13, _, _, _, _, _⟩) (v := ?_) rfl (by kernel_rfl) (by kernel_rfl) (by kernel_rfl) (fun _ _ _ h => h) (Or.inl ⟨by rfl, ?_⟩) (by assumption) ?_
    rotate_left
    · (intro w hSw; (try dsimp only at hSw); go_simp; try with_reducible rfl)
    try simp only [Act.put, List.setIfInBounds_toArray, List.set_cons_zero, List.set_cons_succ]
    refine wpAnyH_done (by kernel_rfl) ?_ _
    rotate_left
    refine step_am (by rfl) (by rfl) ?_; intro wC gM HM hb1 hzC hm1 hm2; (try have HG := Lib.hid (HG.out.later hb1.out)); (try have HH := Lib.hid (HH.out.later hb1.out)); (try have HQ := Blk.hb HQ hb1.out); have hmb : w5.drew.heap.size ≤ gM := Nat.le_trans hHeld.out.size hm1; have hs := Lib.hid (Lift.then2 hHeld.out hb1.out); clear hb1
    refine hK.out _ _ hs (fun hHeld => ?_)
    clear hK K
    try simp only [Act.put, List.setIfInBounds_toArray, List.set_cons_zero, List.set_cons_succ]
    refine wpAnyH_ready (rs := [3]) (by kernel_rfl) (by simp) ?_
    refine AllReadyH.cons (o := ⟨some 28, _, _, _, _, _⟩) rfl (fun K hK => ?_) AllReadyH.nil
    go_simp
    go_at_call 9
    refine (HRf.out _ _ _ _ (Lift.then2 HB6.out hHeld.out) HH.out).mono ?_; rintro e wA ⟨A4, c4, k4, rfl, g1, nA, b1⟩; have HG := Lib.hid g1; (try have HQ := Blk.hb HQ b1); (try have HM := Blk.hb HM b1); have hzA := b1.size; have hkA : k4 < wA.heap.size := (by have := hHeld.out.size; omega); have hs := Lib.hid (Lift.then2 hHeld.out b1); clear g1 b1
    refine hK.out _ _ hs (fun hHeld => ?_)
    clear hK K
    try simp only 
    refine wpAnyH_take (i := 4) (oi := ⟨some 24, _, _, _, _, _⟩) (v := ?_) rfl (by kernel_rfl) (by kernel_rfl) (by kernel_rfl) (fun _ _ _ h => h) (Or.inl ⟨by rfl, ?_⟩) (by assumption) ?_
    rotate_left
    · (intro w hSw; (try dsimp only at hSw); go_simp; try with_reducible rfl)
    try simp only [Act.put, List.setIfInBounds_toArray, List.set_cons_zero, List.set_cons_succ]
    refine wpAnyH_take (i := 5) (oi := ⟨some 29, _, _, _, _, _⟩) (v := ?_) rfl (by kernel_rfl) (by kernel_rfl) (by kernel_rfl) (fun _ _ _ h => h) (Or.inl ⟨by rfl, ?_⟩) (by assumption) ?_
    rotate_left
    · (intro w hSw; (try dsimp only at hSw); go_simp; try with_reducible rfl)
    try simp only [Act.put, List.setIfInBounds_toArray, List.set_cons_zero, List.set_cons_succ]
    refine wpAnyH_take (i := 6) (oi := ⟨some 30, _, _, _, _, _⟩) (v := ?_) rfl (by kernel_rfl) (by kernel_rfl) (by kernel_rfl) (fun _ _ _ h => h) (Or.inl ⟨by rfl, ?_⟩) (by assumption) ?_
    rotate_left
    · (intro w hSw; (try dsimp only at hSw); go_simp; try with_reducible rfl)
    try simp only [Act.put, List.setIfInBounds_toArray, List.set_cons_zero, List.set_cons_succ]
    refine wpAnyH_take (i := 7) (oi := ⟨some 31, _, _, _, _, _⟩) (v := ?_) rfl (by kernel_rfl) (by kernel_rfl) (by kernel_rfl) (fun _ _ _ h => h) (Or.inl ⟨by rfl, ?_⟩) (by assumption) ?_
    rotate_left
    · (intro w hSw; (try dsimp only at hSw); go_simp; try with_reducible rfl)
    try simp only [Act.put, List.setIfInBounds_toArray, List.set_cons_zero, List.set_cons_succ]
    refine wpAnyH_take (i := 8) (oi := ⟨some 32, _, _, _, _, _⟩) (v := ?_) rfl (by kernel_rfl) (by kernel_rfl) (by kernel_rfl) (fun _ _ _ h => h) (Or.inl ⟨by rfl, ?_⟩) (by assumption) ?_
    rotate_left
    · (intro w hSw; (try dsimp only at hSw); go_simp; try with_reducible rfl)
    try simp only [Act.put, List.setIfInBounds_toArray, List.set_cons_zero, List.set_cons_succ]
    refine wpAnyH_ready (rs := [11]) (by kernel_rfl) (by simp) ?_
    refine AllReadyH.cons (o := ⟨none, _, _, _, _, _⟩) rfl (fun K hK => ?_) AllReadyH.nil
    refine step_sp (by rfl) (.tmp 10) (.tmp 29) (by rfl) HQ (by rfl) (by rfl) hqb ?_; intro wD HSq; have HM := Lib.hid (HM.out.turned HSq.out.turns (by decide)); have HG := Lib.hid (HG.out.turned HSq.out.turns); have hzD := HSq.out.size; have hs := Lib.hid (below_turns hHeld.out HSq.out.turns (Nat.le_refl _))
    refine hK.out _ _ hs (fun hHeld => ?_)
    clear hK K
    try simp only [Act.put]
    refine wpAnyH_ready (rs := [12]) (by kernel_rfl) (by simp) ?_
    refine AllReadyH.cons (o := ⟨none, _, _, _, _, _⟩) rfl (fun K hK => ?_) AllReadyH.nil
    refine step_sm (by rfl) (.tmp 11) (.tmp 30) (by rfl) Pst.noMail mm HM (by rfl) (by rfl) hmb ?_; intro wE HSm; have HQ := Lib.hid (HSq.out.blk.turned HSm.out.turns (by decide)); have HG := Lib.hid (HG.out.apart HSm.out (by omega)); have hzE := HSm.out.size; have hs := Lib.hid (below_turns hHeld.out HSm.out.turns (Nat.le_refl _))
    refine hK.out _ _ hs (fun hHeld => ?_)
    clear hK K
    try simp only [Act.put]
    refine wpAnyH_take (i := 13) (oi := ⟨some 12, _, _, _, _, _⟩) (v := ?_) rfl (by kernel_rfl) (by kernel_rfl) (by kernel_rfl) (fun _ _ _ h => h) (Or.inl ⟨by rfl, ?_⟩) (by assumption) ?_
    rotate_left
    · (intro w hSw; (try dsimp only at hSw); go_simp; try with_reducible rfl)
    try simp only [Act.put, List.setIfInBounds_toArray, List.set_cons_zero, List.set_cons_succ]
    refine wpAnyH_take (i := 14) (oi := ⟨some 13, _, _, _, _, _⟩) (v := ?_) rfl (by kernel_rfl) (by kernel_rfl) (by kernel_rfl) (fun _ _ _ h => h) (Or.inl ⟨by rfl, ?_⟩) (by assumption) ?_
    rotate_left
    · (intro w hSw; (try dsimp only at hSw); go_simp; try with_reducible rfl)
    try simp only [Act.put, List.setIfInBounds_toArray, List.set_cons_zero, List.set_cons_succ]
    refine wpAnyH_done (by kernel_rfl) ?_ _
    rotate_left
    refine step_am (by rfl) (by rfl) ?_; intro wC gM HM hb1 hzC hm1 hm2; (try have HG := Lib.hid (HG.out.later hb1.out)); (try have HH := Lib.hid (HH.out.later hb1.out)); (try have HQ := Blk.hb HQ hb1.out); have hmb : w5.drew.heap.size ≤ gM := Nat.le_trans hHeld.out.size hm1; have hs := Lib.hid (Lift.then2 hHeld.out hb1.out); clear hb1
    refine hK.out _ _ hs (fun hHeld => ?_)
    clear hK K
    try simp only [Act.put, List.setIfInBounds_toArray, List.set_cons_zero, List.set_cons_succ]
    refine wpAnyH_ready (rs := [1]) (by kernel_rfl) (by simp) ?_
    refine AllReadyH.cons (o := ⟨some 26, _, _, _, _, _⟩) rfl (fun K hK => ?_) AllReadyH.nil
    go_simp
    go_at_call 7
    refine (HTw.out _ _ _ _ (Lift.then2 HB6.out hHeld.out) (HG6.out.later hHeld.out)).mono ?_; rintro e wT ⟨A3, c3, k3, rfl, g3, nT, b1⟩; have HH := Lib.hid g3; (try have HQ := Blk.hb HQ b1); (try have HM := Blk.hb HM b1); have hzT := b1.size; have hs := Lib.hid (Lift.then2 hHeld.out b1); clear g3 b1
    refine hK.out _ _ hs (fun hHeld => ?_)
    clear hK K
    try simp only [Act.put, List.setIfInBounds_toArray, List.set_cons_zero, List.set_cons_succ]
    refine wpAnyH_ready (rs := [3]) (by kernel_rfl) (by simp) ?_
    refine AllReadyH.cons (o := ⟨some 28, _, _, _, _, _⟩) rfl (fun K hK => ?_) AllReadyH.nil
    go_simp
    go_at_call 9
    refine (HRf.out _ _ _ _ (Lift.then2 HB6.out hHeld.out) HH.out).mono ?_; rintro e wA ⟨A4, c4, k4, rfl, g1, nA, b1⟩; have HG := Lib.hid g1; (try have HQ := Blk.hb HQ b1); (try have HM := Blk.hb HM b1); have hzA := b1.size; have hkA : k4 < wA.heap.size := (by have := hHeld.out.size; omega); have hs := Lib.hid (Lift.then2 hHeld.out b1); clear g1 b1
    refine hK.out _ _ hs (fun hHeld => ?_)
    clear hK K
    try simp only 
    refine wpAnyH_take (i := 4) (oi := ⟨some 24, _, _, _, _, _⟩) (v := ?_) rfl (by kernel_rfl) (by kernel_rfl) (by kernel_rfl) (fun _ _ _ h => h) (Or.inl ⟨by rfl, ?_⟩) (by assumption) ?_
    rotate_left
    · (intro w hSw; (try dsimp only at hSw); go_simp; try with_reducible rfl)
    try simp only [Act.put, List.setIfInBounds_toArray, List.set_cons_zero, List.set_cons_succ]
    refine wpAnyH_take (i := 5) (oi := ⟨some 29, _, _, _, _, _⟩) (v := ?_) rfl (by kernel_rfl) (by kernel_rfl) (by kernel_rfl) (fun _ _ _ h => h) (Or.inl ⟨by rfl, ?_⟩) (by assumption) ?_
    rotate_left
    · (intro w hSw; (try dsimp only at hSw); go_simp; try with_reducible rfl)
    try simp only [Act.put, List.setIfInBounds_toArray, List.set_cons_zero, List.set_cons_succ]
    refine wpAnyH_take (i := 6) (oi := ⟨some 30, _, _, _, _, _⟩) (v := ?_) rfl (by kernel_rfl) (by kernel_rfl) (by kernel_rfl) (fun _ _ _ h => h) (Or.inl ⟨by rfl, ?_⟩) (by assumption) ?_
    rotate_left
    · (intro w hSw; (try dsimp only at hSw); go_simp; try with_reducible rfl)
    try simp only [Act.put, List.setIfInBounds_toArray, List.set_cons_zero, List.set_cons_succ]
    refine wpAnyH_take (i := 7) (oi := ⟨some 31, _, _, _, _, _⟩) (v := ?_) rfl (by kernel_rfl) (by kernel_rfl) (by kernel_rfl) (fun _ _ _ h => h) (Or.inl ⟨by rfl, ?_⟩) (by assumption) ?_
    rotate_left
    · (intro w hSw; (try dsimp only at hSw); go_simp; try with_reducible rfl)
    try simp only [Act.put, List.setIfInBounds_toArray, List.set_cons_zero, List.set_cons_succ]
    refine wpAnyH_take (i := 8) (oi := ⟨some 32, _, _, _, _, _⟩) (v := ?_) rfl (by kernel_rfl) (by kernel_rfl) (by kernel_rfl) (fun _ _ _ h => h) (Or.inl ⟨by rfl, ?_⟩) (by assumption) ?_
    rotate_left
    · (intro w hSw; (try dsimp only at hSw); go_simp; try with_reducible rfl)
    try simp only [Act.put, List.setIfInBounds_toArray, List.set_cons_zero, List.set_cons_succ]
    refine wpAnyH_ready (rs := [11]) (by kernel_rfl) (by simp) ?_
    refine AllReadyH.cons (o := ⟨none, _, _, _, _, _⟩) rfl (fun K hK => ?_) AllReadyH.nil
    refine step_sp (by rfl) (.tmp 10) (.tmp 29) (by rfl) HQ (by rfl) (by rfl) hqb ?_; intro wD HSq; have HM := Lib.hid (HM.out.turned HSq.out.turns (by decide)); have HG := Lib.hid (HG.out.turned HSq.out.turns); have hzD := HSq.out.size; have hs := Lib.hid (below_turns hHeld.out HSq.out.turns (Nat.le_refl _))
    refine hK.out _ _ hs (fun hHeld => ?_)
    clear hK K
    try simp only [Act.put]
    refine wpAnyH_ready (rs := [12]) (by kernel_rfl) (by simp) ?_
    refine AllReadyH.cons (o := ⟨none, _, _, _, _, _⟩) rfl (fun K hK => ?_) AllReadyH.nil
    refine step_sm (by rfl) (.tmp 11) (.tmp 30) (by rfl) Pst.noMail mm HM (by rfl) (by rfl) hmb ?_; intro wE HSm; have HQ := Lib.hid (HSq.out.blk.turned HSm.out.turns (by decide)); have HG := Lib.hid (HG.out.apart HSm.out (by omega)); have hzE := HSm.out.size; have hs := Lib.hid (below_turns hHeld.out HSm.out.turns (Nat.le_refl _))
    refine hK.out _ _ hs (fun hHeld => ?_)
    clear hK K
    try simp only [Act.put]
    refine wpAnyH_take (i := 13) (oi := ⟨some 12, _, _, _, _, _⟩) (v := ?_) rfl (by kernel_rfl) (by kernel_rfl) (by kernel_rfl) (fun _ _ _ h => h) (Or.inl ⟨by rfl, ?_⟩) (by assumption) ?_
    rotate_left
    · (intro w hSw; (try dsimp only at hSw); go_simp; try with_reducible rfl)
    try simp only [Act.put, List.setIfInBounds_toArray, List.set_cons_zero, List.set_cons_succ]
    refine wpAnyH_take (i := 14) (oi := ⟨some 13, _, _, _, _, _⟩) (v := ?_) rfl (by kernel_rfl) (by kernel_rfl) (by kernel_rfl) (fun _ _ _ h => h) (Or.inl ⟨by rfl, ?_⟩) (by assumption) ?_
    rotate_left
    · (intro w hSw; (try dsimp only at hSw); go_simp; try with_reducible rfl)
    try simp only [Act.put, List.setIfInBounds_toArray, List.set_cons_zero, List.set_cons_succ]
    refine wpAnyH_done (by kernel_rfl) ?_ _
    rotate_left
    refine step_am (by rfl) (by rfl) ?_; intro wC gM HM hb1 hzC hm1 hm2; (try have HG := Lib.hid (HG.out.later hb1.out)); (try have HH := Lib.hid (HH.out.later hb1.out)); (try have HQ := Blk.hb HQ hb1.out); have hmb : w5.drew.heap.size ≤ gM := Nat.le_trans hHeld.out.size hm1; have hs := Lib.hid (Lift.then2 hHeld.out hb1.out); clear hb1
    refine hK.out _ _ hs (fun hHeld => ?_)
    clear hK K
    try simp only [Act.put, List.setIfInBounds_toArray, List.set_cons_zero, List.set_cons_succ]
    refine wpAnyH_ready (rs := [1, 9]) (by kernel_rfl) (by simp) ?_
    refine AllReadyH.cons (o := ⟨some 26, _, _, _, _, _⟩) rfl (fun K hK => ?_) (AllReadyH.cons (o := ⟨some 10, _, _, _, _, _⟩) rfl (fun K hK => ?_) AllReadyH.nil)
    go_simp
    go_at_call 7
    refine (HTw.out _ _ _ _ (Lift.then2 HB6.out hHeld.out) (HG6.out.later hHeld.out)).mono ?_; rintro e wT ⟨A3, c3, k3, rfl, g3, nT, b1⟩; have HH := Lib.hid g3; (try have HQ := Blk.hb HQ b1); (try have HM := Blk.hb HM b1); have hzT := b1.size; have hs := Lib.hid (Lift.then2 hHeld.out b1); clear g3 b1
    refine hK.out _ _ hs (fun hHeld => ?_)
    clear hK K
    try simp only [Act.put, List.setIfInBounds_toArray, List.set_cons_zero, List.set_cons_succ]
    refine wpAnyH_ready (rs := [3, 9]) (by kernel_rfl) (by simp) ?_
    refine AllReadyH.cons (o := ⟨some 28, _, _, _, _, _⟩) rfl (fun K hK => ?_) (AllReadyH.cons (o := ⟨some 10, _, _, _, _, _⟩) rfl (fun K hK => ?_) AllReadyH.nil)
    go_simp
    go_at_call 9
    refine (HRf.out _ _ _ _ (Lift.then2 HB6.out hHeld.out) HH.out).mono ?_; rintro e wA ⟨A4, c4, k4, rfl, g1, nA, b1⟩; have HG := Lib.hid g1; (try have HQ := Blk.hb HQ b1); (try have HM := Blk.hb HM b1); have hzA := b1.size; have hkA : k4 < wA.heap.size := (by have := hHeld.out.size; omega); have hs := Lib.hid (Lift.then2 hHeld.out b1); clear g1 b1
    refine hK.out _ _ hs (fun hHeld => ?_)
    clear hK K
    try simp only 
    refine wpAnyH_take (i := 4) (oi := ⟨some 24, _, _, _, _, _⟩) (v := ?_) rfl (by kernel_rfl) (by kernel_rfl) (by kernel_rfl) (fun _ _ _ h => h) (Or.inl ⟨by rfl, ?_⟩) (by assumption) ?_
    rotate_left
    · (intro w hSw; (try dsimp only at hSw); go_simp; try with_reducible rfl)
    try simp only [Act.put, List.setIfInBounds_toArray, List.set_cons_zero, List.set_cons_succ]
    refine wpAnyH_take (i := 5) (oi := ⟨some 29, _, _, _, _, _⟩) (v := ?_) rfl (by kernel_rfl) (by kernel_rfl) (by kernel_rfl) (fun _ _ _ h => h) (Or.inl ⟨by rfl, ?_⟩) (by assumption) ?_
    rotate_left
    · (intro w hSw; (try dsimp only at hSw); go_simp; try with_reducible rfl)
    try simp only [Act.put, List.setIfInBounds_toArray, List.set_cons_zero, List.set_cons_succ]
    refine wpAnyH_take (i := 6) (oi := ⟨some 30, _, _, _, _, _⟩) (v := ?_) rfl (by kernel_rfl) (by kernel_rfl) (by kernel_rfl) (fun _ _ _ h => h) (Or.inl ⟨by rfl, ?_⟩) (by assumption) ?_
    rotate_left
    · (intro w hSw; (try dsimp only at hSw); go_simp; try with_reducible rfl)
    try simp only [Act.put, List.setIfInBounds_toArray, List.set_cons_zero, List.set_cons_succ]
    refine wpAnyH_take (i := 7) (oi := ⟨some 31, _, _, _, _, _⟩) (v := ?_) rfl (by kernel_rfl) (by kernel_rfl) (by kernel_rfl) (fun _ _ _ h => h) (Or.inl ⟨by rfl, ?_⟩) (by assumption) ?_
    rotate_left
    · (intro w hSw; (try dsimp only at hSw); go_simp; try with_reducible rfl)
    try simp only [Act.put, List.setIfInBounds_toArray, List.set_cons_zero, List.set_cons_succ]
    refine wpAnyH_take (i := 8) (oi := ⟨some 32, _, _, _, _, _⟩) (v := ?_) rfl (by kernel_rfl) (by kernel_rfl) (by kernel_rfl) (fun _ _ _ h => h) (Or.inl ⟨by rfl, ?_⟩) (by assumption) ?_
    rotate_left
    · (intro w hSw; (try dsimp only at hSw); go_simp; try with_reducible rfl)
    try simp only [Act.put, List.setIfInBounds_toArray, List.set_cons_zero, List.set_cons_succ]
    refine wpAnyH_ready (rs := [9]) (by kernel_rfl) (by simp) ?_
    refine AllReadyH.cons (o := ⟨some 10, _, _, _, _, _⟩) rfl (fun K hK => ?_) AllReadyH.nil
    refine step_ap (by rfl) (by rfl) ?_; intro wB gQ HQ hb1 hzB hq1 hq2; (try have HG := Lib.hid (HG.out.later hb1.out)); (try have HH := Lib.hid (HH.out.later hb1.out)); (try have HM := Blk.hb HM hb1.out); have hqb : w5.drew.heap.size ≤ gQ := Nat.le_trans hHeld.out.size hq1; have hs := Lib.hid (Lift.then2 hHeld.out hb1.out); clear hb1
    refine hK.out _ _ hs (fun hHeld => ?_)
    clear hK K
    try simp only [Act.put, List.setIfInBounds_toArray, List.set_cons_zero, List.set_cons_succ]
    refine wpAnyH_ready (rs := [11]) (by kernel_rfl) (by simp) ?_
    refine AllReadyH.cons (o := ⟨none, _, _, _, _, _⟩) rfl (fun K hK => ?_) AllReadyH.nil
    refine step_sp (by rfl) (.tmp 10) (.tmp 29) (by rfl) HQ (by rfl) (by rfl) hqb ?_; intro wD HSq; have HM := Lib.hid (HM.out.turned HSq.out.turns (by decide)); have HG := Lib.hid (HG.out.turned HSq.out.turns); have hzD := HSq.out.size; have hs := Lib.hid (below_turns hHeld.out HSq.out.turns (Nat.le_refl _))
    refine hK.out _ _ hs (fun hHeld => ?_)
    clear hK K
    try simp only [Act.put]
    refine wpAnyH_ready (rs := [12]) (by kernel_rfl) (by simp) ?_
    refine AllReadyH.cons (o := ⟨none, _, _, _, _, _⟩) rfl (fun K hK => ?_) AllReadyH.nil
    refine step_sm (by rfl) (.tmp 11) (.tmp 30) (by rfl) Pst.noMail mm HM (by rfl) (by rfl) hmb ?_; intro wE HSm; have HQ := Lib.hid (HSq.out.blk.turned HSm.out.turns (by decide)); have HG := Lib.hid (HG.out.apart HSm.out (by omega)); have hzE := HSm.out.size; have hs := Lib.hid (below_turns hHeld.out HSm.out.turns (Nat.le_refl _))
    refine hK.out _ _ hs (fun hHeld => ?_)
    clear hK K
    try simp only [Act.put]
    refine wpAnyH_take (i := 13) (oi := ⟨some 12, _, _, _, _, _⟩) (v := ?_) rfl (by kernel_rfl) (by kernel_rfl) (by kernel_rfl) (fun _ _ _ h => h) (Or.inl ⟨by rfl, ?_⟩) (by assumption) ?_
    rotate_left
    · (intro w hSw; (try dsimp only at hSw); go_simp; try with_reducible rfl)
    try simp only [Act.put, List.setIfInBounds_toArray, List.set_cons_zero, List.set_cons_succ]
    refine wpAnyH_take (i := 14) (oi := ⟨some 13, _, _, _, _, _⟩) (v := ?_) rfl (by kernel_rfl) (by kernel_rfl) (by kernel_rfl) (fun _ _ _ h => h) (Or.inl ⟨by rfl, ?_⟩) (by assumption) ?_
    rotate_left
    · (intro w hSw; (try dsimp only at hSw); go_simp; try with_reducible rfl)
    try simp only [Act.put, List.setIfInBounds_toArray, List.set_cons_zero, List.set_cons_succ]
    refine wpAnyH_done (by kernel_rfl) ?_ _
    rotate_left
    refine step_ap (by rfl) (by rfl) ?_; intro wB gQ HQ hb1 hzB hq1 hq2; (try have HG := Lib.hid (HG.out.later hb1.out)); (try have HH := Lib.hid (HH.out.later hb1.out)); (try have HM := Blk.hb HM hb1.out); have hqb : w5.drew.heap.size ≤ gQ := Nat.le_trans hHeld.out.size hq1; have hs := Lib.hid (Lift.then2 hHeld.out hb1.out); clear hb1
    refine hK.out _ _ hs (fun hHeld => ?_)
    clear hK K
    try simp only [Act.put, List.setIfInBounds_toArray, List.set_cons_zero, List.set_cons_succ]
    refine wpAnyH_ready (rs := [3]) (by kernel_rfl) (by simp) ?_
    refine AllReadyH.cons (o := ⟨some 28, _, _, _, _, _⟩) rfl (fun K hK => ?_) AllReadyH.nil
    go_simp
    go_at_call 9
    refine (HRf.out _ _ _ _ (Lift.then2 HB6.out hHeld.out) HH.out).mono ?_; rintro e wA ⟨A4, c4, k4, rfl, g1, nA, b1⟩; have HG := Lib.hid g1; (try have HQ := Blk.hb HQ b1); (try have HM := Blk.hb HM b1); have hzA := b1.size; have hkA : k4 < wA.heap.size := (by have := hHeld.out.size; omega); have hs := Lib.hid (Lift.then2 hHeld.out b1); clear g1 b1
    refine hK.out _ _ hs (fun hHeld => ?_)
    clear hK K
    try simp only 
    refine wpAnyH_take (i := 4) (oi := ⟨some 24, _, _, _, _, _⟩) (v := ?_) rfl (by kernel_rfl) (by kernel_rfl) (by kernel_rfl) (fun _ _ _ h => h) (Or.inl ⟨by rfl, ?_⟩) (by assumption) ?_
    rotate_left
    · (intro w hSw; (try dsimp only at hSw); go_simp; try with_reducible rfl)
    try simp only [Act.put, List.setIfInBounds_toArray, List.set_cons_zero, List.set_cons_succ]
    refine wpAnyH_take (i := 5) (oi := ⟨some 29, _, _, _, _, _⟩) (v := ?_) rfl (by kernel_rfl) (by kernel_rfl) (by kernel_rfl) (fun _ _ _ h => h) (Or.inl ⟨by rfl, ?_⟩) (by assumption) ?_
    rotate_left
    · (intro w hSw; (try dsimp only at hSw); go_simp; try with_reducible rfl)
    try simp only [Act.put, List.setIfInBounds_toArray, List.set_cons_zero, List.set_cons_succ]
    refine wpAnyH_take (i := 6) (oi := ⟨some 30, _, _, _, _, _⟩) (v := ?_) rfl (by kernel_rfl) (by kernel_rfl) (by kernel_rfl) (fun _ _ _ h => h) (Or.inl ⟨by rfl, ?_⟩) (by assumption) ?_
    rotate_left
    · (intro w hSw; (try dsimp only at hSw); go_simp; try with_reducible rfl)
    try simp only [Act.put, List.setIfInBounds_toArray, List.set_cons_zero, List.set_cons_succ]
    refine wpAnyH_take (i := 7) (oi := ⟨some 31, _, _, _, _, _⟩) (v := ?_) rfl (by kernel_rfl) (by kernel_rfl) (by kernel_rfl) (fun _ _ _ h => h) (Or.inl ⟨by rfl, ?_⟩) (by assumption) ?_
    rotate_left
    · (intro w hSw; (try dsimp only at hSw); go_simp; try with_reducible rfl)
    try simp only [Act.put, List.setIfInBounds_toArray, List.set_cons_zero, List.set_cons_succ]
    refine wpAnyH_take (i := 8) (oi := ⟨some 32, _, _, _, _, _⟩) (v := ?_) rfl (by kernel_rfl) (by kernel_rfl) (by kernel_rfl) (fun _ _ _ h => h) (Or.inl ⟨by rfl, ?_⟩) (by assumption) ?_
    rotate_left
    · (intro w hSw; (try dsimp only at hSw); go_simp; try with_reducible rfl)
    try simp only [Act.put, List.setIfInBounds_toArray, List.set_cons_zero, List.set_cons_succ]
    refine wpAnyH_ready (rs := [11]) (by kernel_rfl) (by simp) ?_
    refine AllReadyH.cons (o := ⟨none, _, _, _, _, _⟩) rfl (fun K hK => ?_) AllReadyH.nil
    refine step_sp (by rfl) (.tmp 10) (.tmp 29) (by rfl) HQ (by rfl) (by rfl) hqb ?_; intro wD HSq; have HM := Lib.hid (HM.out.turned HSq.out.turns (by decide)); have HG := Lib.hid (HG.out.turned HSq.out.turns); have hzD := HSq.out.size; have hs := Lib.hid (below_turns hHeld.out HSq.out.turns (Nat.le_refl _))
    refine hK.out _ _ hs (fun hHeld => ?_)
    clear hK K
    try simp only [Act.put, List.setIfInBounds_toArray, List.set_cons_zero, List.set_cons_succ]
    refine wpAnyH_ready (rs := [12]) (by kernel_rfl) (by simp) ?_
    refine AllReadyH.cons (o := ⟨none, _, _, _, _, _⟩) rfl (fun K hK => ?_) AllReadyH.nil
    refine step_sm (by rfl) (.tmp 11) (.tmp 30) (by rfl) Pst.noMail mm HM (by rfl) (by rfl) hmb ?_; intro wE HSm; have HQ := Lib.hid (HSq.out.blk.turned HSm.out.turns (by decide)); have HG := Lib.hid (HG.out.apart HSm.out (by omega)); have hzE := HSm.out.size; have hs := Lib.hid (below_turns hHeld.out HSm.out.turns (Nat.le_refl _))
    refine hK.out _ _ hs (fun hHeld => ?_)
    clear hK K
    try simp only [Act.put, List.setIfInBounds_toArray, List.set_cons_zero, List.set_cons_succ]
    refine wpAnyH_take (i := 13) (oi := ⟨some 12, _, _, _, _, _⟩) (v := ?_) rfl (by kernel_rfl) (by kernel_rfl) (by kernel_rfl) (fun _ _ _ h => h) (Or.inl ⟨by rfl, ?_⟩) (by assumption) ?_
    rotate_left
    · (intro w hSw; (try dsimp only at hSw); go_simp; try with_reducible rfl)
    try simp only [Act.put, List.setIfInBounds_toArray, List.set_cons_zero, List.set_cons_succ]
    refine wpAnyH_take (i := 14) (oi := ⟨some 13, _, _, _, _, _⟩) (v := ?_) rfl (by kernel_rfl) (by kernel_rfl) (by kernel_rfl) (fun _ _ _ h => h) (Or.inl ⟨by rfl, ?_⟩) (by assumption) ?_
    rotate_left
    · (intro w hSw; (try dsimp only at hSw); go_simp; try with_reducible rfl)
    try simp only [Act.put, List.setIfInBounds_toArray, List.set_cons_zero, List.set_cons_succ]
    refine wpAnyH_done (by kernel_rfl) ?_ _
    rotate_left
    refine step_ap (by rfl) (by rfl) ?_; intro wB gQ HQ hb1 hzB hq1 hq2; (try have HG := Lib.hid (HG.out.later hb1.out)); (try have HH := Lib.hid (HH.out.later hb1.out)); (try have HM := Blk.hb HM hb1.out); have hqb : w5.drew.heap.size ≤ gQ := Nat.le_trans hHeld.out.size hq1; have hs := Lib.hid (Lift.then2 hHeld.out hb1.out); clear hb1
    refine hK.out _ _ hs (fun hHeld => ?_)
    clear hK K
    try simp only [Act.put, List.setIfInBounds_toArray, List.set_cons_zero, List.set_cons_succ]
    refine wpAnyH_ready (rs := [1]) (by kernel_rfl) (by simp) ?_
    refine AllReadyH.cons (o := ⟨some 26, _, _, _, _, _⟩) rfl (fun K hK => ?_) AllReadyH.nil
    go_simp
    go_at_call 7
    refine (HTw.out _ _ _ _ (Lift.then2 HB6.out hHeld.out) (HG6.out.later hHeld.out)).mono ?_; rintro e wT ⟨A3, c3, k3, rfl, g3, nT, b1⟩; have HH := Lib.hid g3; (try have HQ := Blk.hb HQ b1); (try have HM := Blk.hb HM b1); have hzT := b1.size; have hs := Lib.hid (Lift.then2 hHeld.out b1); clear g3 b1
    refine hK.out _ _ hs (fun hHeld => ?_)
    clear hK K
    try simp only [Act.put, List.setIfInBounds_toArray, List.set_cons_zero, List.set_cons_succ]
    refine wpAnyH_ready (rs := [3]) (by kernel_rfl) (by simp) ?_
    refine AllReadyH.cons (o := ⟨some 28, _, _, _, _, _⟩) rfl (fun K hK => ?_) AllReadyH.nil
    go_simp
    go_at_call 9
    refine (HRf.out _ _ _ _ (Lift.then2 HB6.out hHeld.out) HH.out).mono ?_; rintro e wA ⟨A4, c4, k4, rfl, g1, nA, b1⟩; have HG := Lib.hid g1; (try have HQ := Blk.hb HQ b1); (try have HM := Blk.hb HM b1); have hzA := b1.size; have hkA : k4 < wA.heap.size := (by have := hHeld.out.size; omega); have hs := Lib.hid (Lift.then2 hHeld.out b1); clear g1 b1
    refine hK.out _ _ hs (fun hHeld => ?_)
    clear hK K
    try simp only [Act.put, List.setIfInBounds_toArray, List.set_cons_zero, List.set_cons_succ]
    refine wpAnyH_take (i := 4) (oi := ⟨some 24, _, _, _, _, _⟩) (v := ?_) rfl (by kernel_rfl) (by kernel_rfl) (by kernel_rfl) (fun _ _ _ h => h) (Or.inl ⟨by rfl, ?_⟩) (by assumption) ?_
    rotate_left
    · (intro w hSw; (try dsimp only at hSw); go_simp; try with_reducible rfl)
    try simp only [Act.put, List.setIfInBounds_toArray, List.set_cons_zero, List.set_cons_succ]
    refine wpAnyH_take (i := 5) (oi := ⟨some 29, _, _, _, _, _⟩) (v := ?_) rfl (by kernel_rfl) (by kernel_rfl) (by kernel_rfl) (fun _ _ _ h => h) (Or.inl ⟨by rfl, ?_⟩) (by assumption) ?_
    rotate_left
    · (intro w hSw; (try dsimp only at hSw); go_simp; try with_reducible rfl)
    try simp only [Act.put, List.setIfInBounds_toArray, List.set_cons_zero, List.set_cons_succ]
    refine wpAnyH_take (i := 6) (oi := ⟨some 30, _, _, _, _, _⟩) (v := ?_) rfl (by kernel_rfl) (by kernel_rfl) (by kernel_rfl) (fun _ _ _ h => h) (Or.inl ⟨by rfl, ?_⟩) (by assumption) ?_
    rotate_left
    · (intro w hSw; (try dsimp only at hSw); go_simp; try with_reducible rfl)
    try simp only [Act.put, List.setIfInBounds_toArray, List.set_cons_zero, List.set_cons_succ]
    refine wpAnyH_take (i := 7) (oi := ⟨some 31, _, _, _, _, _⟩) (v := ?_) rfl (by kernel_rfl) (by kernel_rfl) (by kernel_rfl) (fun _ _ _ h => h) (Or.inl ⟨by rfl, ?_⟩) (by assumption) ?_
    rotate_left
    · (intro w hSw; (try dsimp only at hSw); go_simp; try with_reducible rfl)
    try simp only [Act.put, List.setIfInBounds_toArray, List.set_cons_zero, List.set_cons_succ]
    refine wpAnyH_take (i := 8) (oi := ⟨some 32, _, _, _, _, _⟩) (v := ?_) rfl (by kernel_rfl) (by kernel_rfl) (by kernel_rfl) (fun _ _ _ h => h) (Or.inl ⟨by rfl, ?_⟩) (by assumption) ?_
    rotate_left
    · (intro w hSw; (try dsimp only at hSw); go_simp; try with_reducible rfl)
    try simp only [Act.put, List.setIfInBounds_toArray, List.set_cons_zero, List.set_cons_succ]
    refine wpAnyH_ready (rs := [11]) (by kernel_rfl) (by simp) ?_
    refine AllReadyH.cons (o := ⟨none, _, _, _, _, _⟩) rfl (fun K hK => ?_) AllReadyH.nil
    refine step_sp (by rfl) (.tmp 10) (.tmp 29) (by rfl) HQ (by rfl) (by rfl) hqb ?_; intro wD HSq; have HM := Lib.hid (HM.out.turned HSq.out.turns (by decide)); have HG := Lib.hid (HG.out.turned HSq.out.turns); have hzD := HSq.out.size; have hs := Lib.hid (below_turns hHeld.out HSq.out.turns (Nat.le_refl _))
    refine hK.out _ _ hs (fun hHeld => ?_)
    clear hK K
    try simp only [Act.put, List.setIfInBounds_toArray, List.set_cons_zero, List.set_cons_succ]
    refine wpAnyH_ready (rs := [12]) (by kernel_rfl) (by simp) ?_
    refine AllReadyH.cons (o := ⟨none, _, _, _, _, _⟩) rfl (fun K hK => ?_) AllReadyH.nil
    refine step_sm (by rfl) (.tmp 11) (.tmp 30) (by rfl) Pst.noMail mm HM (by rfl) (by rfl) hmb ?_; intro wE HSm; have HQ := Lib.hid (HSq.out.blk.turned HSm.out.turns (by decide)); have HG := Lib.hid (HG.out.apart HSm.out (by omega)); have hzE := HSm.out.size; have hs := Lib.hid (below_turns hHeld.out HSm.out.turns (Nat.le_refl _))
    refine hK.out _ _ hs (fun hHeld => ?_)
    clear hK K
    try simp only [Act.put, List.setIfInBounds_toArray, List.set_cons_zero, List.set_cons_succ]
    refine wpAnyH_take (i := 13) (oi := ⟨some 12, _, _, _, _, _⟩) (v := ?_) rfl (by kernel_rfl) (by kernel_rfl) (by kernel_rfl) (fun _ _ _ h => h) (Or.inl ⟨by rfl, ?_⟩) (by assumption) ?_
    rotate_left
    · (intro w hSw; (try dsimp only at hSw); go_simp; try with_reducible rfl)
    try simp only [Act.put, List.setIfInBounds_toArray, List.set_cons_zero, List.set_cons_succ]
    refine wpAnyH_take (i := 14) (oi := ⟨some 13, _, _, _, _, _⟩) (v := ?_) rfl (by kernel_rfl) (by kernel_rfl) (by kernel_rfl) (fun _ _ _ h => h) (Or.inl ⟨by rfl, ?_⟩) (by assumption) ?_
    rotate_left
    · (intro w hSw; (try dsimp only at hSw); go_simp; try with_reducible rfl)
    try simp only [Act.put, List.setIfInBounds_toArray, List.set_cons_zero, List.set_cons_succ]
    refine wpAnyH_done (by kernel_rfl) ?_ _
    rotate_left
    all_goals
      go_wp2_with fail
      go_meet
      exact ⟨gQ, gM, A4, c4, k4, rfl, rfl, rfl, rfl, Lib.hid ⟨HQ.out, HSm.out.blk, HG.out, hs.out, hqb, hmb, by omega⟩⟩
  case rest =>
  obtain ⟨gQ, gM, A4, c4, k4, rfl, rfl, rfl, rfl, HD⟩ := hcut
  have hbd := HD.out.b
  have HBx := Lib.hid (Lift.then2 HB6.out hbd)
  have HQ7 := Blk.hb HQ6 hbd
  have HM7 := Blk.hb HM6 hbd
  have HP7 := Blk.hb HP6 hbd
  have HT7 := Blk.hb HT6 hbd
  have HG7 := Lib.hid (HG6.out.later hbd)
  have HX7 := Lib.hid (HX6.out.later hbd)
  clear hbd HQ6 HM6 HP6 HT6 HG6 HX6 HTf HOf HTw HRf HO6 HB6
  go_wp2_with fail
  refine (awake_any _).mono ?_; rintro e w8 ⟨rfl, b8⟩
  have HQ8 := Blk.hb HQ7 b8
  have HM8 := Blk.hb HM7 b8
  have HP8 := Blk.hb HP7 b8
  have HT8 := Blk.hb HT7 b8
  have HD8 := Lib.hid (HD.out.later b8)
  have HY8 := Lib.hid HD8.out.q
  have HZ8 := Lib.hid HD8.out.m
  have HB8 := Lib.hid (Lift.then2 HBx.out b8)
  have HG8 := Lib.hid (HG7.out.later b8)
  have HX8 := Lib.hid (HX7.out.later b8)
  have HSm : Hid (Calls Try.prog 11 #[.agg (pc A2 q.m.length c2 q.s), .agg (pc A4 q.m.length c4 q.s)] w8 fun e w' => e = .returned (.bool true) ∧ Below w8.heap.size w8 w') := Lib.hid (same_any A2 A4 c2 c4 q.s q.m w8 (by omega) (HX8.out.reads HB8.out).1 (HD8.out.g.reads HB8.out).1)
  clear b8 HQ7 HM7 HP7 HT7 HG7 HX7 HD HBx
  go_wp2_with (first | refine wpList_lpd (by rfl) _ rfl HQ8 rfl ?_ | refine wpList_lpd (by rfl) _ rfl HY8 rfl ?_)
  refine (HSm.out).mono ?_; rintro e w9 ⟨rfl, b9⟩
  have HM9 := Blk.hb HM8 b9
  have HZ9 := Blk.hb HZ8 b9
  have HP9 := Blk.hb HP8 b9
  have HT9 := Blk.hb HT8 b9
  have HB9 := Lib.hid (Lift.then2 HB8.out b9)
  have HG9 := Lib.hid (HG8.out.later b9)
  have HSn : Hid (Calls Try.prog 11 #[.agg (pc A p.m.length c p.s), .agg (pc A1 p.m.length c1 p.s)] w9 fun e w' => e = .returned (.bool true) ∧ Below w9.heap.size w9 w') := Lib.hid (same_any A A1 c c1 p.s p.m w9 (by omega) ((HG0.out w9).reads HB9.out).1 (HG9.out.reads HB9.out).1)
  clear b9 HM8 HZ8 HP8 HT8 HG8 HX8 HD8 HB8 HY8 HQ8 HSm
  go_wp2_with (first | refine wpList_lmd (by rfl) _ rfl HM9 rfl ?_ | refine wpList_lmd (by rfl) _ rfl HZ9 rfl ?_ | refine wpList_lpd (by rfl) _ rfl HP9 rfl ?_ | refine wpList_lpd (by rfl) _ rfl HT9 rfl ?_)
  refine (HSn.out).mono ?_; rintro e w10 ⟨rfl, b10⟩
  have HB10 := Lib.hid (Lift.then2 HB9.out b10)
  clear b10
  go_wp2_with fail
  go_ret
  exact ⟨rfl, HB10.out⟩
end Go.Proofs.Ytkajnmlglgjocaa
