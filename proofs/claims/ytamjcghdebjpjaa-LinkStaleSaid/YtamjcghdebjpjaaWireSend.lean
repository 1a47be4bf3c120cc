/-
  What send of the wire does: a's half, b's half.
  No condition but that numbers are small.
-/
import Derived.Test.YtamjcghdebjpjaaWireOne
import Derived.Test.YtamjcghdebjpjaaLnkSend
import Derived.Deep.CutBlock
import Derived.Deep.DeepCutAuto
set_option linter.unusedSimpArgs false
set_option linter.unusedVariables false
namespace Go.Proofs.Ytamjcghdebjpjaa
open Go.RowKit

theorem set_map {S : List Rw} {i : Nat} {y : Rw} : (S.map Rw.row).set i y.row = (S.set i y).map Rw.row := by rw [List.map_set]
theorem set_hd {S : List Rw} {i : Nat} {y : Rw} : (S.map Rw.hd).set i y.hd = (S.set i y).map Rw.hd := by rw [List.map_set]

set_option maxRecDepth 100000 in
set_option maxHeartbeats 12800000 in
theorem sendA_any (b0 : Nat) (w0 : World) (g : Nat) (x : Lnk.Wr) (w : World) (n m : Nat) (hW : WireAt b0 w0 g x w) (hf : Lnk.Wr.Fits n m x) (hn : n ≤ 900000) (hm : m ≤ 100000) :
    Calls Try.prog 33 #[.pointer (some ⟨g, 0, none⟩), .bool true] w fun e w' => e = .returned (.tuple #[]) ∧ WireAt b0 w0 g x.sendA w' := by
  obtain ⟨a, b, way, sent, back, got, gotA, win, ret⟩ := x
  obtain ⟨Aa, Ab, Aw, As, Ak, Ag, Ah, na, nb, nw, ns, nk, ng, nh, ca, cb, cw, cs, ck, cg, ch, S, ⟨ena, enb, enw, ens, enk, eng, enh⟩, eS, hK⟩ := hW
  simp only at ena enb enw ens enk eng enh eS hK
  have HK := Lib.hid hK
  have hX : Hid (∀ W v c, strLay.Own b0 W (.slice v na c) a.out → ∀ nm, Calls Try.prog 25 #[.agg (lA (.slice v na c) a), .string nm, .int .i64 win] W (IsS (Lnk.send a nm win) W)) := Lib.hid fun W v c ho nm => by
    have h1 := hf.a.b1
    have h2 := hf.a.bn
    simp only at h1 h2
    subst ena
    exact send_any v c a nm win W ⟨ho.read.1, ho.read.2.1, by omega⟩ ⟨h1, by omega⟩
  have hs1 : 1 ≤ ns := by have := hf.s1; simp only at this; omega
  have hsn : ns ≤ 900001 := by have := hf.sn; simp only at this; omega
  have hSl : S.length = ns := by rw [ens, ← eS, List.length_map]
  obtain ⟨i, rfl⟩ : ∃ i, ns = i + 1 := ⟨ns - 1, by omega⟩
  obtain ⟨⟨rA, rc, rl⟩, hr⟩ : ∃ r, S[i]? = some r := ⟨S[i]'(by omega), List.getElem?_eq_getElem _⟩
  have hlast : Lnk.lastOf sent = rl := by
    unfold Lnk.lastOf
    rw [← ens, ← eS, Nat.add_sub_cancel, List.getD_eq_getElem?_getD, List.getElem?_map, hr]
    rfl
  have hrl : rl.length ≤ 900000 := by
    have := hf.sr rl (by rw [← eS]; exact List.mem_map_of_mem (f := fun x : Rw => x.l) (List.mem_of_getElem? hr))
    omega
  have HNm := Lib.hid (fun W => name_any ((i : Int) + 1) (rl.length : Int) W (by omega) (by omega))
  have hnm : Lnk.Wr.nameA ⟨a, b, way, sent, back, got, gotA, win, ret⟩ = Lnk.name ((i : Int) + 1) (rl.length : Int) := by
    unfold Lnk.Wr.nameA
    simp only
    rw [hlast, ← ens]
    rfl
  obtain ⟨gs, rfl⟩ := hK.someR 3 rfl (by rw [List.length_map]; omega)
  have hrh : (S.map Rw.hd)[i]? = some ⟨rA, rl.length, rc⟩ := by rw [List.getElem?_map, hr]; rfl
  have hrr : (S.map Rw.row)[i]? = some (row strLay (.slice rA rl.length rc) rl) := by rw [List.getElem?_map, hr]; rfl
  have HSl := Lib.hid (And.intro hr hSl)
  clear hr hSl hlast
  have hway : nw ≤ 900000 := by have := hf.way; simp only at this; omega
  unfold Lnk.Wr.sendA
  rw [hnm]
  clear hnm
  generalize Lnk.name ((i : Int) + 1) (rl.length : Int) = nm at *
  have hX := Lib.hid (fun W v c ho => hX.out W v c ho nm)
  generalize Lnk.send a nm win = q at *
  obtain ⟨l1, p1, e1⟩ := q
  unfold IsS at hX
  simp only at hX ⊢
  generalize hn1 : l1.out.length = n1 at hX
  have HN1 := Lib.hid hn1
  have HNw := Lib.hid enw
  clear hn1 hf hn hm hK
  obtain ⟨nr, hnr⟩ : ∃ nr, nr = rl.length := ⟨_, rfl⟩
  rw [← hnr] at hrh hrr hrl HNm
  have HNr := Lib.hid hnr
  clear hnr
  have HHd := Lib.hid hrh
  have HHr := Lib.hid hrr
  clear hrh hrr
  have hi0 : ((i + 1 : Nat) : Int) - 1 = (i : Int) := by omega
  have hi1 : (i : Int) < ((i + 1 : Nat) : Int) := by omega
  have hi2 : (0 : Int) ≤ (i : Int) := by omega
  have hi3 : (i : Int) < (i : Int) + 1 := by omega
  have hwr : IntKind.i64.wrap (((i + 1 : Nat) : Int) - 1) = (i : Int) := by rw [hi0]; exact IntWalk.i64_in _ (by omega)
  have hwr2 : IntKind.i64.wrap (i : Int) = (i : Int) := IntWalk.i64_in _ (by omega)
  generalize hPX : WireAt b0 w0 g (if e1 = 0 then _ else _) = PX
  have HPX := Lib.hid hPX
  clear hPX
  have HF := Lib.hid (And.intro (And.intro ena (And.intro enb (And.intro ens (And.intro enk (And.intro eng enh))))) eS)
  clear ena enb enw ens enk eng enh eS
  go_enter Try.func33, Try.ntmps33
  go_wp2_with (first | refine wpList_x rfl (kexec_ch HK 0 _ rfl rfl rfl rfl) ?_ | refine wpList_kcv HK 0 rfl _ rfl rfl rfl rfl ?_ | refine wpList_x rfl (exec_hd _ rfl (HK.out.atR 3 rfl HHd.out) rfl) ?_)
  refine (HNm.out _).mono ?_; rintro e w1 ⟨rfl, b1⟩
  replace HK := Lib.hid (HK.out.call b1)
  clear b1 HNm
  go_wp2_with fail
  go_cut [6, 7, 8] (fun s6 s7 s8 wx => ∃ (gl gp : Nat) (A1 : Option Addr) (c1 : Nat), s6 = .pointer (some ⟨gl, 0, none⟩) ∧ s7 = .pointer (some ⟨gp, 0, none⟩) ∧ s8 = .int .i64 e1 ∧ Hid (Kn b0 w0 wx [(g, 52, wC (.slice Aa na ca) (.slice Ab nb cb) (.slice Aw nw cw) (.slice (some ⟨gs, 0, none⟩) (i + 1) cs) (.slice Ak nk ck) (.slice Ag ng cg) (.slice Ah nh ch) a b win ret), (gl, 27, lA (.slice A1 n1 c1) l1), (gp, 36, pA p1)] (row strLay (.slice A1 n1 c1) l1.out :: row strLay (.slice Aa na ca) a.out :: row strLay (.slice Ab nb cb) b.out :: row pktLay (.slice Aw nw cw) way :: row hdLay (.slice (some ⟨gs, 0, none⟩) (i + 1) cs) (S.map Rw.hd) :: row strLay (.slice Ak nk ck) back :: row strLay (.slice Ag ng cg) got :: row strLay (.slice Ah nh ch) gotA :: S.map Rw.row)))
  case first =>
    replace HK := Lib.hid HK.out.drew
    have HH := Lib.hid ((HK.out.takeL 1).takeR 0)
    refine wp_region_held_drew (S := (fun W => Hid (Kn b0 w0 W [(g, 52, wC (.slice Aa na ca) (.slice Ab nb cb) (.slice Aw nw cw) (.slice (some ⟨gs, 0, none⟩) (i + 1) cs) (.slice Ak nk ck) (.slice Ag ng cg) (.slice Ah nh ch) a b win ret)] []))) (by kernel_rfl) ?_ (fun hHeld => ?_)
    · (try dsimp only); exact HH
    refine wpAnyH_take (i := 0) (oi := ⟨some 31, _, _, _, _, _⟩) (v := ?_) rfl (by kernel_rfl) (by kernel_rfl) (by kernel_rfl) (fun _ _ _ h => h) (Or.inl ⟨by rfl, ?_⟩) (by assumption) ?_
    rotate_left
    · (intro w hSw; (try dsimp only at hSw); go_simp; try with_reducible rfl)
    try simp only [Act.put, List.setIfInBounds_toArray, List.set_cons_zero, List.set_cons_succ]
    refine wpAnyH_take (i := 1) (oi := ⟨some 32, _, _, _, _, _⟩) (v := ?_) rfl (by kernel_rfl) (by kernel_rfl) (by kernel_rfl) (fun _ _ _ h => h) (Or.inl ⟨by rfl, ?_⟩) (by assumption) ?_
    rotate_left
    · (intro w hSw; (try dsimp only at hSw); go_simp; try with_reducible rfl)
    try simp only [Act.put, List.setIfInBounds_toArray, List.set_cons_zero, List.set_cons_succ]
    refine wpAnyH_take (i := 2) (oi := ⟨some 33, _, _, _, _, _⟩) (v := ?_) rfl (by kernel_rfl) (by kernel_rfl) (by kernel_rfl) (fun _ _ _ h => h) (Or.inl ⟨by rfl, ?_⟩) (by assumption) ?_
    rotate_left
    · (intro w hSw; (try dsimp only at hSw); go_simp; try with_reducible rfl)
    try simp only [Act.put, List.setIfInBounds_toArray, List.set_cons_zero, List.set_cons_succ]
    refine wpAnyH_take (i := 3) (oi := ⟨some 34, _, _, _, _, _⟩) (v := ?_) rfl (by kernel_rfl) (by kernel_rfl) (by kernel_rfl) (fun _ _ _ h => h) (Or.inl ⟨by rfl, ?_⟩) (by assumption) ?_
    rotate_left
    · (intro w hSw; refine Eq.trans (kexec_wa hSw 0 _ (by rfl) (by rfl) (by rfl)) ?_; with_reducible rfl)
    try simp only [Act.put, List.setIfInBounds_toArray, List.set_cons_zero, List.set_cons_succ]
    refine wpAnyH_take (i := 4) (oi := ⟨some 35, _, _, _, _, _⟩) (v := ?_) rfl (by kernel_rfl) (by kernel_rfl) (by kernel_rfl) (fun _ _ _ h => h) (Or.inl ⟨by rfl, ?_⟩) (by assumption) ?_
    rotate_left
    · (intro w hSw; (try dsimp only at hSw); go_simp; try with_reducible rfl)
    try simp only [Act.put, List.setIfInBounds_toArray, List.set_cons_zero, List.set_cons_succ]
    refine wpAnyH_take (i := 5) (oi := ⟨some 36, _, _, _, _, _⟩) (v := ?_) rfl (by kernel_rfl) (by kernel_rfl) (by kernel_rfl) (fun _ _ _ h => h) (Or.inl ⟨by rfl, ?_⟩) (by assumption) ?_
    rotate_left
    · (intro w hSw; (try dsimp only at hSw); go_simp; try with_reducible rfl)
    try simp only [Act.put, List.setIfInBounds_toArray, List.set_cons_zero, List.set_cons_succ]
    refine wpAnyH_take (i := 6) (oi := ⟨some 37, _, _, _, _, _⟩) (v := ?_) rfl (by kernel_rfl) (by kernel_rfl) (by kernel_rfl) (fun _ _ _ h => h) (Or.inl ⟨by rfl, ?_⟩) (by assumption) ?_
    rotate_left
    · (intro w hSw; (try dsimp only at hSw); go_simp; try with_reducible rfl)
    try simp only [Act.put, List.setIfInBounds_toArray, List.set_cons_zero, List.set_cons_succ]
    refine wpAnyH_take (i := 7) (oi := ⟨some 38, _, _, _, _, _⟩) (v := ?_) rfl (by kernel_rfl) (by kernel_rfl) (by kernel_rfl) (fun _ _ _ h => h) (Or.inl ⟨by rfl, ?_⟩) (by assumption) ?_
    rotate_left
    · (intro w hSw; (try dsimp only at hSw); go_simp; try with_reducible rfl)
    try simp only [Act.put, List.setIfInBounds_toArray, List.set_cons_zero, List.set_cons_succ]
    refine wpAnyH_take (i := 8) (oi := ⟨some 39, _, _, _, _, _⟩) (v := ?_) rfl (by kernel_rfl) (by kernel_rfl) (by kernel_rfl) (fun _ _ _ h => h) (Or.inl ⟨by rfl, ?_⟩) (by assumption) ?_
    rotate_left
    · (intro w hSw; refine Eq.trans (kexec_ci hSw 0 _ (by rfl) (by rfl) (by rfl) (by rfl)) ?_; with_reducible rfl)
    try simp only [Act.put, List.setIfInBounds_toArray, List.set_cons_zero, List.set_cons_succ]
    refine wpAnyH_ready (rs := [9, 14, 15]) (by kernel_rfl) (by simp) ?_
    refine AllReadyH.cons (o := ⟨some 40, _, _, _, _, _⟩) rfl (fun K hK => ?_) (AllReadyH.cons (o := ⟨some 6, _, _, _, _, _⟩) rfl (fun K hK => ?_) (AllReadyH.cons (o := ⟨some 7, _, _, _, _, _⟩) rfl (fun K hK => ?_) AllReadyH.nil))
    go_simp
    go_at_call 25
    refine (hX.out _ _ _ (HK.out.own 0 rfl)).mono ?_; rintro e w2 ⟨A1, c1, rfl, o1, b1⟩; replace HK := Lib.hid (HK.out.calledF b1 o1); clear o1 b1; have hs := Lib.hid ((HK.out.takeL 1).takeR 0)
    refine hK.out _ _ hs (fun hHeld => ?_)
    clear hK K
    try simp only [Act.put, List.setIfInBounds_toArray, List.set_cons_zero, List.set_cons_succ]
    refine wpAnyH_take (i := 10) (oi := ⟨some 30, _, _, _, _, _⟩) (v := ?_) rfl (by kernel_rfl) (by kernel_rfl) (by kernel_rfl) (fun _ _ _ h => h) (Or.inl ⟨by rfl, ?_⟩) (by assumption) ?_
    rotate_left
    · (intro w hSw; (try dsimp only at hSw); go_simp; try with_reducible rfl)
    try simp only [Act.put, List.setIfInBounds_toArray, List.set_cons_zero, List.set_cons_succ]
    refine wpAnyH_take (i := 11) (oi := ⟨some 41, _, _, _, _, _⟩) (v := ?_) rfl (by kernel_rfl) (by kernel_rfl) (by kernel_rfl) (fun _ _ _ h => h) (Or.inl ⟨by rfl, ?_⟩) (by assumption) ?_
    rotate_left
    · (intro w hSw; (try dsimp only at hSw); go_simp; try with_reducible rfl)
    try simp only [Act.put, List.setIfInBounds_toArray, List.set_cons_zero, List.set_cons_succ]
    refine wpAnyH_take (i := 12) (oi := ⟨some 42, _, _, _, _, _⟩) (v := ?_) rfl (by kernel_rfl) (by kernel_rfl) (by kernel_rfl) (fun _ _ _ h => h) (Or.inl ⟨by rfl, ?_⟩) (by assumption) ?_
    rotate_left
    · (intro w hSw; (try dsimp only at hSw); go_simp; try with_reducible rfl)
    try simp only [Act.put, List.setIfInBounds_toArray, List.set_cons_zero, List.set_cons_succ]
    refine wpAnyH_take (i := 13) (oi := ⟨some 43, _, _, _, _, _⟩) (v := ?_) rfl (by kernel_rfl) (by kernel_rfl) (by kernel_rfl) (fun _ _ _ h => h) (Or.inl ⟨by rfl, ?_⟩) (by assumption) ?_
    rotate_left
    · (intro w hSw; (try dsimp only at hSw); go_simp; try with_reducible rfl)
    try simp only [Act.put, List.setIfInBounds_toArray, List.set_cons_zero, List.set_cons_succ]
    refine wpAnyH_ready (rs := [14, 15]) (by kernel_rfl) (by simp) ?_
    refine AllReadyH.cons (o := ⟨some 6, _, _, _, _, _⟩) rfl (fun K hK => ?_) (AllReadyH.cons (o := ⟨some 7, _, _, _, _, _⟩) rfl (fun K hK => ?_) AllReadyH.nil)
    refine step_akl' HK (by rfl) (by rfl) ?_; intro wA gl HK' _; simp only [List.cons_append, List.nil_append] at HK'; replace HK := HK'; clear HK'; have hs := Lib.hid ((HK.out.takeL 1).takeR 0)
    refine hK.out _ _ hs (fun hHeld => ?_)
    clear hK K
    try simp only [Act.put, List.setIfInBounds_toArray, List.set_cons_zero, List.set_cons_succ]
    refine wpAnyH_ready (rs := [15]) (by kernel_rfl) (by simp) ?_
    refine AllReadyH.cons (o := ⟨some 7, _, _, _, _, _⟩) rfl (fun K hK => ?_) AllReadyH.nil
    refine step_akp HK (by rfl) (by rfl) ?_; intro wA gp HK' _; simp only [List.cons_append, List.nil_append] at HK'; replace HK := HK'; clear HK'; have hs := Lib.hid ((HK.out.takeL 1).takeR 0)
    refine hK.out _ _ hs (fun hHeld => ?_)
    clear hK K
    try simp only [Act.put, List.setIfInBounds_toArray, List.set_cons_zero, List.set_cons_succ]
    refine wpAnyH_ready (rs := [16]) (by kernel_rfl) (by simp) ?_
    refine AllReadyH.cons (o := ⟨none, _, _, _, _, _⟩) rfl (fun K hK => ?_) AllReadyH.nil
    first | (refine step_ksl HK 1 (by rfl) _ _ (by rfl) (by rfl) (by rfl) (by rfl) (by rfl) ?_; intro _ HK' _; simp only [List.set] at HK'; replace HK := HK'; clear HK'; have hs := Lib.hid ((HK.out.takeL 1).takeR 0)) | (refine step_ksl HK 2 (by rfl) _ _ (by rfl) (by rfl) (by rfl) (by rfl) (by rfl) ?_; intro _ HK' _; simp only [List.set] at HK'; replace HK := HK'; clear HK'; have hs := Lib.hid ((HK.out.takeL 1).takeR 0))
    refine hK.out _ _ hs (fun hHeld => ?_)
    clear hK K
    try simp only [Act.put, List.setIfInBounds_toArray, List.set_cons_zero, List.set_cons_succ]
    refine wpAnyH_ready (rs := [17]) (by kernel_rfl) (by simp) ?_
    refine AllReadyH.cons (o := ⟨none, _, _, _, _, _⟩) rfl (fun K hK => ?_) AllReadyH.nil
    first | (refine step_ksp HK 1 (by rfl) _ _ (by rfl) (by rfl) (by rfl) (by rfl) (by rfl) ?_; intro _ HK' _; simp only [List.set] at HK'; replace HK := HK'; clear HK'; have hs := Lib.hid ((HK.out.takeL 1).takeR 0)) | (refine step_ksp HK 2 (by rfl) _ _ (by rfl) (by rfl) (by rfl) (by rfl) (by rfl) ?_; intro _ HK' _; simp only [List.set] at HK'; replace HK := HK'; clear HK'; have hs := Lib.hid ((HK.out.takeL 1).takeR 0))
    refine hK.out _ _ hs (fun hHeld => ?_)
    clear hK K
    try simp only [Act.put, List.setIfInBounds_toArray, List.set_cons_zero, List.set_cons_succ]
    refine wpAnyH_take (i := 18) (oi := ⟨some 8, _, _, _, _, _⟩) (v := ?_) rfl (by kernel_rfl) (by kernel_rfl) (by kernel_rfl) (fun _ _ _ h => h) (Or.inl ⟨by rfl, ?_⟩) (by assumption) ?_
    rotate_left
    · (intro w hSw; (try dsimp only at hSw); go_simp; try with_reducible rfl)
    try simp only [Act.put, List.setIfInBounds_toArray, List.set_cons_zero, List.set_cons_succ]
    refine wpAnyH_done (by kernel_rfl) ?_ _
    rotate_left
    refine step_akp HK (by rfl) (by rfl) ?_; intro wA gp HK' _; simp only [List.cons_append, List.nil_append] at HK'; replace HK := HK'; clear HK'; have hs := Lib.hid ((HK.out.takeL 1).takeR 0)
    refine hK.out _ _ hs (fun hHeld => ?_)
    clear hK K
    try simp only [Act.put, List.setIfInBounds_toArray, List.set_cons_zero, List.set_cons_succ]
    refine wpAnyH_ready (rs := [14]) (by kernel_rfl) (by simp) ?_
    refine AllReadyH.cons (o := ⟨some 6, _, _, _, _, _⟩) rfl (fun K hK => ?_) AllReadyH.nil
    refine step_akl' HK (by rfl) (by rfl) ?_; intro wA gl HK' _; simp only [List.cons_append, List.nil_append] at HK'; replace HK := HK'; clear HK'; have hs := Lib.hid ((HK.out.takeL 1).takeR 0)
    refine hK.out _ _ hs (fun hHeld => ?_)
    clear hK K
    try simp only [Act.put, List.setIfInBounds_toArray, List.set_cons_zero, List.set_cons_succ]
    refine wpAnyH_ready (rs := [16]) (by kernel_rfl) (by simp) ?_
    refine AllReadyH.cons (o := ⟨none, _, _, _, _, _⟩) rfl (fun K hK => ?_) AllReadyH.nil
    first | (refine step_ksl HK 1 (by rfl) _ _ (by rfl) (by rfl) (by rfl) (by rfl) (by rfl) ?_; intro _ HK' _; simp only [List.set] at HK'; replace HK := HK'; clear HK'; have hs := Lib.hid ((HK.out.takeL 1).takeR 0)) | (refine step_ksl HK 2 (by rfl) _ _ (by rfl) (by rfl) (by rfl) (by rfl) (by rfl) ?_; intro _ HK' _; simp only [List.set] at HK'; replace HK := HK'; clear HK'; have hs := Lib.hid ((HK.out.takeL 1).takeR 0))
    refine hK.out _ _ hs (fun hHeld => ?_)
    clear hK K
    try simp only [Act.put, List.setIfInBounds_toArray, List.set_cons_zero, List.set_cons_succ]
    refine wpAnyH_ready (rs := [17]) (by kernel_rfl) (by simp) ?_
    refine AllReadyH.cons (o := ⟨none, _, _, _, _, _⟩) rfl (fun K hK => ?_) AllReadyH.nil
    first | (refine step_ksp HK 1 (by rfl) _ _ (by rfl) (by rfl) (by rfl) (by rfl) (by rfl) ?_; intro _ HK' _; simp only [List.set] at HK'; replace HK := HK'; clear HK'; have hs := Lib.hid ((HK.out.takeL 1).takeR 0)) | (refine step_ksp HK 2 (by rfl) _ _ (by rfl) (by rfl) (by rfl) (by rfl) (by rfl) ?_; intro _ HK' _; simp only [List.set] at HK'; replace HK := HK'; clear HK'; have hs := Lib.hid ((HK.out.takeL 1).takeR 0))
    refine hK.out _ _ hs (fun hHeld => ?_)
    clear hK K
    try simp only [Act.put, List.setIfInBounds_toArray, List.set_cons_zero, List.set_cons_succ]
    refine wpAnyH_take (i := 18) (oi := ⟨some 8, _, _, _, _, _⟩) (v := ?_) rfl (by kernel_rfl) (by kernel_rfl) (by kernel_rfl) (fun _ _ _ h => h) (Or.inl ⟨by rfl, ?_⟩) (by assumption) ?_
    rotate_left
    · (intro w hSw; (try dsimp only at hSw); go_simp; try with_reducible rfl)
    try simp only [Act.put, List.setIfInBounds_toArray, List.set_cons_zero, List.set_cons_succ]
    refine wpAnyH_done (by kernel_rfl) ?_ _
    rotate_left
    refine step_akl' HK (by rfl) (by rfl) ?_; intro wA gl HK' _; simp only [List.cons_append, List.nil_append] at HK'; replace HK := HK'; clear HK'; have hs := Lib.hid ((HK.out.takeL 1).takeR 0)
    refine hK.out _ _ hs (fun hHeld => ?_)
    clear hK K
    try simp only [Act.put, List.setIfInBounds_toArray, List.set_cons_zero, List.set_cons_succ]
    refine wpAnyH_ready (rs := [9, 15]) (by kernel_rfl) (by simp) ?_
    refine AllReadyH.cons (o := ⟨some 40, _, _, _, _, _⟩) rfl (fun K hK => ?_) (AllReadyH.cons (o := ⟨some 7, _, _, _, _, _⟩) rfl (fun K hK => ?_) AllReadyH.nil)
    go_simp
    go_at_call 25
    refine (hX.out _ _ _ (HK.out.own 0 rfl)).mono ?_; rintro e w2 ⟨A1, c1, rfl, o1, b1⟩; replace HK := Lib.hid (HK.out.calledF b1 o1); clear o1 b1; have hs := Lib.hid ((HK.out.takeL 1).takeR 0)
    refine hK.out _ _ hs (fun hHeld => ?_)
    clear hK K
    try simp only [Act.put, List.setIfInBounds_toArray, List.set_cons_zero, List.set_cons_succ]
    refine wpAnyH_take (i := 10) (oi := ⟨some 30, _, _, _, _, _⟩) (v := ?_) rfl (by kernel_rfl) (by kernel_rfl) (by kernel_rfl) (fun _ _ _ h => h) (Or.inl ⟨by rfl, ?_⟩) (by assumption) ?_
    rotate_left
    · (intro w hSw; (try dsimp only at hSw); go_simp; try with_reducible rfl)
    try simp only [Act.put, List.setIfInBounds_toArray, List.set_cons_zero, List.set_cons_succ]
    refine wpAnyH_take (i := 11) (oi := ⟨some 41, _, _, _, _, _⟩) (v := ?_) rfl (by kernel_rfl) (by kernel_rfl) (by kernel_rfl) (fun _ _ _ h => h) (Or.inl ⟨by rfl, ?_⟩) (by assumption) ?_
    rotate_left
    · (intro w hSw; (try dsimp only at hSw); go_simp; try with_reducible rfl)
    try simp only [Act.put, List.setIfInBounds_toArray, List.set_cons_zero, List.set_cons_succ]
    refine wpAnyH_take (i := 12) (oi := ⟨some 42, _, _, _, _, _⟩) (v := ?_) rfl (by kernel_rfl) (by kernel_rfl) (by kernel_rfl) (fun _ _ _ h => h) (Or.inl ⟨by rfl, ?_⟩) (by assumption) ?_
    rotate_left
    · (intro w hSw; (try dsimp only at hSw); go_simp; try with_reducible rfl)
    try simp only [Act.put, List.setIfInBounds_toArray, List.set_cons_zero, List.set_cons_succ]
    refine wpAnyH_take (i := 13) (oi := ⟨some 43, _, _, _, _, _⟩) (v := ?_) rfl (by kernel_rfl) (by kernel_rfl) (by kernel_rfl) (fun _ _ _ h => h) (Or.inl ⟨by rfl, ?_⟩) (by assumption) ?_
    rotate_left
    · (intro w hSw; (try dsimp only at hSw); go_simp; try with_reducible rfl)
    try simp only [Act.put, List.setIfInBounds_toArray, List.set_cons_zero, List.set_cons_succ]
    refine wpAnyH_ready (rs := [15]) (by kernel_rfl) (by simp) ?_
    refine AllReadyH.cons (o := ⟨some 7, _, _, _, _, _⟩) rfl (fun K hK => ?_) AllReadyH.nil
    refine step_akp HK (by rfl) (by rfl) ?_; intro wA gp HK' _; simp only [List.cons_append, List.nil_append] at HK'; replace HK := HK'; clear HK'; have hs := Lib.hid ((HK.out.takeL 1).takeR 0)
    refine hK.out _ _ hs (fun hHeld => ?_)
    clear hK K
    try simp only [Act.put, List.setIfInBounds_toArray, List.set_cons_zero, List.set_cons_succ]
    refine wpAnyH_ready (rs := [16]) (by kernel_rfl) (by simp) ?_
    refine AllReadyH.cons (o := ⟨none, _, _, _, _, _⟩) rfl (fun K hK => ?_) AllReadyH.nil
    first | (refine step_ksl HK 1 (by rfl) _ _ (by rfl) (by rfl) (by rfl) (by rfl) (by rfl) ?_; intro _ HK' _; simp only [List.set] at HK'; replace HK := HK'; clear HK'; have hs := Lib.hid ((HK.out.takeL 1).takeR 0)) | (refine step_ksl HK 2 (by rfl) _ _ (by rfl) (by rfl) (by rfl) (by rfl) (by rfl) ?_; intro _ HK' _; simp only [List.set] at HK'; replace HK := HK'; clear HK'; have hs := Lib.hid ((HK.out.takeL 1).takeR 0))
    refine hK.out _ _ hs (fun hHeld => ?_)
    clear hK K
    try simp only [Act.put, List.setIfInBounds_toArray, List.set_cons_zero, List.set_cons_succ]
    refine wpAnyH_ready (rs := [17]) (by kernel_rfl) (by simp) ?_
    refine AllReadyH.cons (o := ⟨none, _, _, _, _, _⟩) rfl (fun K hK => ?_) AllReadyH.nil
    first | (refine step_ksp HK 1 (by rfl) _ _ (by rfl) (by rfl) (by rfl) (by rfl) (by rfl) ?_; intro _ HK' _; simp only [List.set] at HK'; replace HK := HK'; clear HK'; have hs := Lib.hid ((HK.out.takeL 1).takeR 0)) | (refine step_ksp HK 2 (by rfl) _ _ (by rfl) (by rfl) (by rfl) (by rfl) (by rfl) ?_; intro _ HK' _; simp only [List.set] at HK'; replace HK := HK'; clear HK'; have hs := Lib.hid ((HK.out.takeL 1).takeR 0))
    refine hK.out _ _ hs (fun hHeld => ?_)
    clear hK K
    try simp only [Act.put, List.setIfInBounds_toArray, List.set_cons_zero, List.set_cons_succ]
    refine wpAnyH_take (i := 18) (oi := ⟨some 8, _, _, _, _, _⟩) (v := ?_) rfl (by kernel_rfl) (by kernel_rfl) (by kernel_rfl) (fun _ _ _ h => h) (Or.inl ⟨by rfl, ?_⟩) (by assumption) ?_
    rotate_left
    · (intro w hSw; (try dsimp only at hSw); go_simp; try with_reducible rfl)
    try simp only [Act.put, List.setIfInBounds_toArray, List.set_cons_zero, List.set_cons_succ]
    refine wpAnyH_done (by kernel_rfl) ?_ _
    rotate_left
    refine step_akp HK (by rfl) (by rfl) ?_; intro wA gp HK' _; simp only [List.cons_append, List.nil_append] at HK'; replace HK := HK'; clear HK'; have hs := Lib.hid ((HK.out.takeL 1).takeR 0)
    refine hK.out _ _ hs (fun hHeld => ?_)
    clear hK K
    try simp only [Act.put, List.setIfInBounds_toArray, List.set_cons_zero, List.set_cons_succ]
    refine wpAnyH_ready (rs := [9]) (by kernel_rfl) (by simp) ?_
    refine AllReadyH.cons (o := ⟨some 40, _, _, _, _, _⟩) rfl (fun K hK => ?_) AllReadyH.nil
    go_simp
    go_at_call 25
    refine (hX.out _ _ _ (HK.out.own 0 rfl)).mono ?_; rintro e w2 ⟨A1, c1, rfl, o1, b1⟩; replace HK := Lib.hid (HK.out.calledF b1 o1); clear o1 b1; have hs := Lib.hid ((HK.out.takeL 1).takeR 0)
    refine hK.out _ _ hs (fun hHeld => ?_)
    clear hK K
    try simp only [Act.put, List.setIfInBounds_toArray, List.set_cons_zero, List.set_cons_succ]
    refine wpAnyH_take (i := 10) (oi := ⟨some 30, _, _, _, _, _⟩) (v := ?_) rfl (by kernel_rfl) (by kernel_rfl) (by kernel_rfl) (fun _ _ _ h => h) (Or.inl ⟨by rfl, ?_⟩) (by assumption) ?_
    rotate_left
    · (intro w hSw; (try dsimp only at hSw); go_simp; try with_reducible rfl)
    try simp only [Act.put, List.setIfInBounds_toArray, List.set_cons_zero, List.set_cons_succ]
    refine wpAnyH_take (i := 11) (oi := ⟨some 41, _, _, _, _, _⟩) (v := ?_) rfl (by kernel_rfl) (by kernel_rfl) (by kernel_rfl) (fun _ _ _ h => h) (Or.inl ⟨by rfl, ?_⟩) (by assumption) ?_
    rotate_left
    · (intro w hSw; (try dsimp only at hSw); go_simp; try with_reducible rfl)
    try simp only [Act.put, List.setIfInBounds_toArray, List.set_cons_zero, List.set_cons_succ]
    refine wpAnyH_take (i := 12) (oi := ⟨some 42, _, _, _, _, _⟩) (v := ?_) rfl (by kernel_rfl) (by kernel_rfl) (by kernel_rfl) (fun _ _ _ h => h) (Or.inl ⟨by rfl, ?_⟩) (by assumption) ?_
    rotate_left
    · (intro w hSw; (try dsimp only at hSw); go_simp; try with_reducible rfl)
    try simp only [Act.put, List.setIfInBounds_toArray, List.set_cons_zero, List.set_cons_succ]
    refine wpAnyH_take (i := 13) (oi := ⟨some 43, _, _, _, _, _⟩) (v := ?_) rfl (by kernel_rfl) (by kernel_rfl) (by kernel_rfl) (fun _ _ _ h => h) (Or.inl ⟨by rfl, ?_⟩) (by assumption) ?_
    rotate_left
    · (intro w hSw; (try dsimp only at hSw); go_simp; try with_reducible rfl)
    try simp only [Act.put, List.setIfInBounds_toArray, List.set_cons_zero, List.set_cons_succ]
    refine wpAnyH_ready (rs := [16]) (by kernel_rfl) (by simp) ?_
    refine AllReadyH.cons (o := ⟨none, _, _, _, _, _⟩) rfl (fun K hK => ?_) AllReadyH.nil
    first | (refine step_ksl HK 1 (by rfl) _ _ (by rfl) (by rfl) (by rfl) (by rfl) (by rfl) ?_; intro _ HK' _; simp only [List.set] at HK'; replace HK := HK'; clear HK'; have hs := Lib.hid ((HK.out.takeL 1).takeR 0)) | (refine step_ksl HK 2 (by rfl) _ _ (by rfl) (by rfl) (by rfl) (by rfl) (by rfl) ?_; intro _ HK' _; simp only [List.set] at HK'; replace HK := HK'; clear HK'; have hs := Lib.hid ((HK.out.takeL 1).takeR 0))
    refine hK.out _ _ hs (fun hHeld => ?_)
    clear hK K
    try simp only [Act.put, List.setIfInBounds_toArray, List.set_cons_zero, List.set_cons_succ]
    refine wpAnyH_ready (rs := [17]) (by kernel_rfl) (by simp) ?_
    refine AllReadyH.cons (o := ⟨none, _, _, _, _, _⟩) rfl (fun K hK => ?_) AllReadyH.nil
    first | (refine step_ksp HK 1 (by rfl) _ _ (by rfl) (by rfl) (by rfl) (by rfl) (by rfl) ?_; intro _ HK' _; simp only [List.set] at HK'; replace HK := HK'; clear HK'; have hs := Lib.hid ((HK.out.takeL 1).takeR 0)) | (refine step_ksp HK 2 (by rfl) _ _ (by rfl) (by rfl) (by rfl) (by rfl) (by rfl) ?_; intro _ HK' _; simp only [List.set] at HK'; replace HK := HK'; clear HK'; have hs := Lib.hid ((HK.out.takeL 1).takeR 0))
    refine hK.out _ _ hs (fun hHeld => ?_)
    clear hK K
    try simp only [Act.put, List.setIfInBounds_toArray, List.set_cons_zero, List.set_cons_succ]
    refine wpAnyH_take (i := 18) (oi := ⟨some 8, _, _, _, _, _⟩) (v := ?_) rfl (by kernel_rfl) (by kernel_rfl) (by kernel_rfl) (fun _ _ _ h => h) (Or.inl ⟨by rfl, ?_⟩) (by assumption) ?_
    rotate_left
    · (intro w hSw; (try dsimp only at hSw); go_simp; try with_reducible rfl)
    try simp only [Act.put, List.setIfInBounds_toArray, List.set_cons_zero, List.set_cons_succ]
    refine wpAnyH_done (by kernel_rfl) ?_ _
    rotate_left
    refine step_akp HK (by rfl) (by rfl) ?_; intro wA gp HK' _; simp only [List.cons_append, List.nil_append] at HK'; replace HK := HK'; clear HK'; have hs := Lib.hid ((HK.out.takeL 1).takeR 0)
    refine hK.out _ _ hs (fun hHeld => ?_)
    clear hK K
    try simp only [Act.put, List.setIfInBounds_toArray, List.set_cons_zero, List.set_cons_succ]
    refine wpAnyH_ready (rs := [9, 14]) (by kernel_rfl) (by simp) ?_
    refine AllReadyH.cons (o := ⟨some 40, _, _, _, _, _⟩) rfl (fun K hK => ?_) (AllReadyH.cons (o := ⟨some 6, _, _, _, _, _⟩) rfl (fun K hK => ?_) AllReadyH.nil)
    go_simp
    go_at_call 25
    refine (hX.out _ _ _ (HK.out.own 0 rfl)).mono ?_; rintro e w2 ⟨A1, c1, rfl, o1, b1⟩; replace HK := Lib.hid (HK.out.calledF b1 o1); clear o1 b1; have hs := Lib.hid ((HK.out.takeL 1).takeR 0)
    refine hK.out _ _ hs (fun hHeld => ?_)
    clear hK K
    try simp only [Act.put, List.setIfInBounds_toArray, List.set_cons_zero, List.set_cons_succ]
    refine wpAnyH_take (i := 10) (oi := ⟨some 30, _, _, _, _, _⟩) (v := ?_) rfl (by kernel_rfl) (by kernel_rfl) (by kernel_rfl) (fun _ _ _ h => h) (Or.inl ⟨by rfl, ?_⟩) (by assumption) ?_
    rotate_left
    · (intro w hSw; (try dsimp only at hSw); go_simp; try with_reducible rfl)
    try simp only [Act.put, List.setIfInBounds_toArray, List.set_cons_zero, List.set_cons_succ]
    refine wpAnyH_take (i := 11) (oi := ⟨some 41, _, _, _, _, _⟩) (v := ?_) rfl (by kernel_rfl) (by kernel_rfl) (by kernel_rfl) (fun _ _ _ h => h) (Or.inl ⟨by rfl, ?_⟩) (by assumption) ?_
    rotate_left
    · (intro w hSw; (try dsimp only at hSw); go_simp; try with_reducible rfl)
    try simp only [Act.put, List.setIfInBounds_toArray, List.set_cons_zero, List.set_cons_succ]
    refine wpAnyH_take (i := 12) (oi := ⟨some 42, _, _, _, _, _⟩) (v := ?_) rfl (by kernel_rfl) (by kernel_rfl) (by kernel_rfl) (fun _ _ _ h => h) (Or.inl ⟨by rfl, ?_⟩) (by assumption) ?_
    rotate_left
    · (intro w hSw; (try dsimp only at hSw); go_simp; try with_reducible rfl)
    try simp only [Act.put, List.setIfInBounds_toArray, List.set_cons_zero, List.set_cons_succ]
    refine wpAnyH_take (i := 13) (oi := ⟨some 43, _, _, _, _, _⟩) (v := ?_) rfl (by kernel_rfl) (by kernel_rfl) (by kernel_rfl) (fun _ _ _ h => h) (Or.inl ⟨by rfl, ?_⟩) (by assumption) ?_
    rotate_left
    · (intro w hSw; (try dsimp only at hSw); go_simp; try with_reducible rfl)
    try simp only [Act.put, List.setIfInBounds_toArray, List.set_cons_zero, List.set_cons_succ]
    refine wpAnyH_ready (rs := [14]) (by kernel_rfl) (by simp) ?_
    refine AllReadyH.cons (o := ⟨some 6, _, _, _, _, _⟩) rfl (fun K hK => ?_) AllReadyH.nil
    refine step_akl' HK (by rfl) (by rfl) ?_; intro wA gl HK' _; simp only [List.cons_append, List.nil_append] at HK'; replace HK := HK'; clear HK'; have hs := Lib.hid ((HK.out.takeL 1).takeR 0)
    refine hK.out _ _ hs (fun hHeld => ?_)
    clear hK K
    try simp only [Act.put, List.setIfInBounds_toArray, List.set_cons_zero, List.set_cons_succ]
    refine wpAnyH_ready (rs := [16]) (by kernel_rfl) (by simp) ?_
    refine AllReadyH.cons (o := ⟨none, _, _, _, _, _⟩) rfl (fun K hK => ?_) AllReadyH.nil
    first | (refine step_ksl HK 1 (by rfl) _ _ (by rfl) (by rfl) (by rfl) (by rfl) (by rfl) ?_; intro _ HK' _; simp only [List.set] at HK'; replace HK := HK'; clear HK'; have hs := Lib.hid ((HK.out.takeL 1).takeR 0)) | (refine step_ksl HK 2 (by rfl) _ _ (by rfl) (by rfl) (by rfl) (by rfl) (by rfl) ?_; intro _ HK' _; simp only [List.set] at HK'; replace HK := HK'; clear HK'; have hs := Lib.hid ((HK.out.takeL 1).takeR 0))
    refine hK.out _ _ hs (fun hHeld => ?_)
    clear hK K
    try simp only [Act.put, List.setIfInBounds_toArray, List.set_cons_zero, List.set_cons_succ]
    refine wpAnyH_ready (rs := [17]) (by kernel_rfl) (by simp) ?_
    refine AllReadyH.cons (o := ⟨none, _, _, _, _, _⟩) rfl (fun K hK => ?_) AllReadyH.nil
    first | (refine step_ksp HK 1 (by rfl) _ _ (by rfl) (by rfl) (by rfl) (by rfl) (by rfl) ?_; intro _ HK' _; simp only [List.set] at HK'; replace HK := HK'; clear HK'; have hs := Lib.hid ((HK.out.takeL 1).takeR 0)) | (refine step_ksp HK 2 (by rfl) _ _ (by rfl) (by rfl) (by rfl) (by rfl) (by rfl) ?_; intro _ HK' _; simp only [List.set] at HK'; replace HK := HK'; clear HK'; have hs := Lib.hid ((HK.out.takeL 1).takeR 0))
    refine hK.out _ _ hs (fun hHeld => ?_)
    clear hK K
    try simp only [Act.put, List.setIfInBounds_toArray, List.set_cons_zero, List.set_cons_succ]
    refine wpAnyH_take (i := 18) (oi := ⟨some 8, _, _, _, _, _⟩) (v := ?_) rfl (by kernel_rfl) (by kernel_rfl) (by kernel_rfl) (fun _ _ _ h => h) (Or.inl ⟨by rfl, ?_⟩) (by assumption) ?_
    rotate_left
    · (intro w hSw; (try dsimp only at hSw); go_simp; try with_reducible rfl)
    try simp only [Act.put, List.setIfInBounds_toArray, List.set_cons_zero, List.set_cons_succ]
    refine wpAnyH_done (by kernel_rfl) ?_ _
    rotate_left
    refine step_akl' HK (by rfl) (by rfl) ?_; intro wA gl HK' _; simp only [List.cons_append, List.nil_append] at HK'; replace HK := HK'; clear HK'; have hs := Lib.hid ((HK.out.takeL 1).takeR 0)
    refine hK.out _ _ hs (fun hHeld => ?_)
    clear hK K
    try simp only [Act.put, List.setIfInBounds_toArray, List.set_cons_zero, List.set_cons_succ]
    refine wpAnyH_ready (rs := [9]) (by kernel_rfl) (by simp) ?_
    refine AllReadyH.cons (o := ⟨some 40, _, _, _, _, _⟩) rfl (fun K hK => ?_) AllReadyH.nil
    go_simp
    go_at_call 25
    refine (hX.out _ _ _ (HK.out.own 0 rfl)).mono ?_; rintro e w2 ⟨A1, c1, rfl, o1, b1⟩; replace HK := Lib.hid (HK.out.calledF b1 o1); clear o1 b1; have hs := Lib.hid ((HK.out.takeL 1).takeR 0)
    refine hK.out _ _ hs (fun hHeld => ?_)
    clear hK K
    try simp only [Act.put, List.setIfInBounds_toArray, List.set_cons_zero, List.set_cons_succ]
    refine wpAnyH_take (i := 10) (oi := ⟨some 30, _, _, _, _, _⟩) (v := ?_) rfl (by kernel_rfl) (by kernel_rfl) (by kernel_rfl) (fun _ _ _ h => h) (Or.inl ⟨by rfl, ?_⟩) (by assumption) ?_
    rotate_left
    · (intro w hSw; (try dsimp only at hSw); go_simp; try with_reducible rfl)
    try simp only [Act.put, List.setIfInBounds_toArray, List.set_cons_zero, List.set_cons_succ]
    refine wpAnyH_take (i := 11) (oi := ⟨some 41, _, _, _, _, _⟩) (v := ?_) rfl (by kernel_rfl) (by kernel_rfl) (by kernel_rfl) (fun _ _ _ h => h) (Or.inl ⟨by rfl, ?_⟩) (by assumption) ?_
    rotate_left
    · (intro w hSw; (try dsimp only at hSw); go_simp; try with_reducible rfl)
    try simp only [Act.put, List.setIfInBounds_toArray, List.set_cons_zero, List.set_cons_succ]
    refine wpAnyH_take (i := 12) (oi := ⟨some 42, _, _, _, _, _⟩) (v := ?_) rfl (by kernel_rfl) (by kernel_rfl) (by kernel_rfl) (fun _ _ _ h => h) (Or.inl ⟨by rfl, ?_⟩) (by assumption) ?_
    rotate_left
    · (intro w hSw; (try dsimp only at hSw); go_simp; try with_reducible rfl)
    try simp only [Act.put, List.setIfInBounds_toArray, List.set_cons_zero, List.set_cons_succ]
    refine wpAnyH_take (i := 13) (oi := ⟨some 43, _, _, _, _, _⟩) (v := ?_) rfl (by kernel_rfl) (by kernel_rfl) (by kernel_rfl) (fun _ _ _ h => h) (Or.inl ⟨by rfl, ?_⟩) (by assumption) ?_
    rotate_left
    · (intro w hSw; (try dsimp only at hSw); go_simp; try with_reducible rfl)
    try simp only [Act.put, List.setIfInBounds_toArray, List.set_cons_zero, List.set_cons_succ]
    refine wpAnyH_ready (rs := [16]) (by kernel_rfl) (by simp) ?_
    refine AllReadyH.cons (o := ⟨none, _, _, _, _, _⟩) rfl (fun K hK => ?_) AllReadyH.nil
    first | (refine step_ksl HK 1 (by rfl) _ _ (by rfl) (by rfl) (by rfl) (by rfl) (by rfl) ?_; intro _ HK' _; simp only [List.set] at HK'; replace HK := HK'; clear HK'; have hs := Lib.hid ((HK.out.takeL 1).takeR 0)) | (refine step_ksl HK 2 (by rfl) _ _ (by rfl) (by rfl) (by rfl) (by rfl) (by rfl) ?_; intro _ HK' _; simp only [List.set] at HK'; replace HK := HK'; clear HK'; have hs := Lib.hid ((HK.out.takeL 1).takeR 0))
    refine hK.out _ _ hs (fun hHeld => ?_)
    clear hK K
    try simp only [Act.put, List.setIfInBounds_toArray, List.set_cons_zero, List.set_cons_succ]
    refine wpAnyH_ready (rs := [17]) (by kernel_rfl) (by simp) ?_
    refine AllReadyH.cons (o := ⟨none, _, _, _, _, _⟩) rfl (fun K hK => ?_) AllReadyH.nil
    first | (refine step_ksp HK 1 (by rfl) _ _ (by rfl) (by rfl) (by rfl) (by rfl) (by rfl) ?_; intro _ HK' _; simp only [List.set] at HK'; replace HK := HK'; clear HK'; have hs := Lib.hid ((HK.out.takeL 1).takeR 0)) | (refine step_ksp HK 2 (by rfl) _ _ (by rfl) (by rfl) (by rfl) (by rfl) (by rfl) ?_; intro _ HK' _; simp only [List.set] at HK'; replace HK := HK'; clear HK'; have hs := Lib.hid ((HK.out.takeL 1).takeR 0))
    refine hK.out _ _ hs (fun hHeld => ?_)
    clear hK K
    try simp only [Act.put, List.setIfInBounds_toArray, List.set_cons_zero, List.set_cons_succ]
    refine wpAnyH_take (i := 18) (oi := ⟨some 8, _, _, _, _, _⟩) (v := ?_) rfl (by kernel_rfl) (by kernel_rfl) (by kernel_rfl) (fun _ _ _ h => h) (Or.inl ⟨by rfl, ?_⟩) (by assumption) ?_
    rotate_left
    · (intro w hSw; (try dsimp only at hSw); go_simp; try with_reducible rfl)
    try simp only [Act.put, List.setIfInBounds_toArray, List.set_cons_zero, List.set_cons_succ]
    refine wpAnyH_done (by kernel_rfl) ?_ _
    rotate_left
    all_goals
      go_wp2_with fail
      go_meet
      first
        | exact ⟨gl, gp, A1, c1, rfl, rfl, rfl, HK⟩
        | exact ⟨gl, gp, A1, c1, rfl, rfl, rfl, Lib.hid (Kn.swap1 HK.out)⟩
  case rest =>
  clear HK hX
  obtain ⟨gl, gp, A1, c1, rfl, rfl, rfl, HK⟩ := hcut
  have HLw : Hid (way.length + [p1].length ≤ 9223372036854775807 ∧ (way.length + [p1].length) * pktLay.bytes ≤ 211106232532992) := Lib.hid ⟨by rw [← HNw.out]; simp; omega, by rw [← HNw.out]; show _ * 64 ≤ _; simp; omega⟩
  have HLx : Hid ((way ++ [p1]).length = nw + 1) := Lib.hid (by rw [HNw.out]; simp)
  have HLr : Hid (rl.length + [nm].length ≤ 9223372036854775807 ∧ (rl.length + [nm].length) * strLay.bytes ≤ 211106232532992) := Lib.hid ⟨by rw [← HNr.out]; simp; omega, by rw [← HNr.out]; show _ * 16 ≤ _; simp; omega⟩
  have HLs : Hid ((rl ++ [nm]).length = nr + 1) := Lib.hid (by rw [HNr.out]; simp)
  have HSi : Hid (i < (S.map Rw.hd).length) := Lib.hid (by rw [List.length_map, HSl.out.2]; omega)
  have HSe : Hid (∀ A3 c3, (S.map Rw.hd).set i ⟨A3, nr + 1, c3⟩ = (S.set i ⟨A3, c3, rl ++ [nm]⟩).map Rw.hd ∧ (S.map Rw.row).set i (row strLay (.slice A3 (nr + 1) c3) (rl ++ [nm])) = (S.set i ⟨A3, c3, rl ++ [nm]⟩).map Rw.row ∧ (S.set i ⟨A3, c3, rl ++ [nm]⟩).map (·.l) = Lnk.putLast sent nm ∧ i + 1 = (Lnk.putLast sent nm).length) := Lib.hid fun A3 c3 => by
    have e1 : Rw.hd ⟨A3, c3, rl ++ [nm]⟩ = ⟨A3, nr + 1, c3⟩ := by unfold Rw.hd; simp only [HLs.out]
    have e2 : Rw.row ⟨A3, c3, rl ++ [nm]⟩ = row strLay (.slice A3 (nr + 1) c3) (rl ++ [nm]) := by unfold Rw.row; simp only [HLs.out]
    have e3 : sent.length - 1 = i := by rw [← HF.out.1.2.2.1]; rfl
    have e4 : sent.getD i [] = rl := by
      rw [← HF.out.2, List.getD_eq_getElem?_getD, List.getElem?_map, HSl.out.1]; rfl
    refine ⟨by rw [List.map_set, e1], by rw [List.map_set, e2], ?_, ?_⟩
    · unfold Lnk.putLast
      rw [List.map_set, HF.out.2, e3, e4]
    · unfold Lnk.putLast
      rw [List.length_set]; exact HF.out.1.2.2.1
  by_cases h0 : e1 = 0
  · subst h0
    go_wp2_with (first | refine wpList_kll HK 1 rfl _ rfl rfl rfl ?_ | (refine wpList_sa HK 0 rfl _ _ rfl rfl rfl rfl ?_; intro _ HK' _; simp only [List.set] at HK'; replace HK := HK'; clear HK'))
    replace HK := Lib.hid HK.out.drew
    have HH := Lib.hid ((HK.out.dropL 2).takeR 0)
    refine wp_region_held_drew (S := (fun W => Hid (Kn b0 w0 W [(gp, 36, pA p1)] []))) (by kernel_rfl) ?_ (fun hHeld => ?_)
    · (try dsimp only); exact HH
    refine wpAnyH_take (i := 0) (oi := ⟨some 50, _, _, _, _, _⟩) (v := ?_) rfl (by kernel_rfl) (by kernel_rfl) (by kernel_rfl) (fun _ _ _ h => h) (Or.inl ⟨by rfl, ?_⟩) (by assumption) ?_
    rotate_left
    · (intro w hSw; (try dsimp only at hSw); go_simp; try with_reducible rfl)
    try simp only [Act.put, List.setIfInBounds_toArray, List.set_cons_zero, List.set_cons_succ]
    refine wpAnyH_take (i := 1) (oi := ⟨some 51, _, _, _, _, _⟩) (v := ?_) rfl (by kernel_rfl) (by kernel_rfl) (by kernel_rfl) (fun _ _ _ h => h) (Or.inl ⟨by rfl, ?_⟩) (by assumption) ?_
    rotate_left
    · (intro w hSw; (try dsimp only at hSw); go_simp; try with_reducible rfl)
    try simp only [Act.put, List.setIfInBounds_toArray, List.set_cons_zero, List.set_cons_succ]
    refine wpAnyH_take (i := 2) (oi := ⟨some 52, _, _, _, _, _⟩) (v := ?_) rfl (by kernel_rfl) (by kernel_rfl) (by kernel_rfl) (fun _ _ _ h => h) (Or.inl ⟨by rfl, ?_⟩) (by assumption) ?_
    rotate_left
    · (intro w hSw; (try dsimp only at hSw); go_simp; try with_reducible rfl)
    try simp only [Act.put, List.setIfInBounds_toArray, List.set_cons_zero, List.set_cons_succ]
    refine wpAnyH_take (i := 3) (oi := ⟨some 53, _, _, _, _, _⟩) (v := ?_) rfl (by kernel_rfl) (by kernel_rfl) (by kernel_rfl) (fun _ _ _ h => h) (Or.inl ⟨by rfl, ?_⟩) (by assumption) ?_
    rotate_left
    · (intro w hSw; (try dsimp only at hSw); go_simp; try with_reducible rfl)
    try simp only [Act.put, List.setIfInBounds_toArray, List.set_cons_zero, List.set_cons_succ]
    refine wpAnyH_take (i := 5) (oi := ⟨some 55, _, _, _, _, _⟩) (v := ?_) rfl (by kernel_rfl) (by kernel_rfl) (by kernel_rfl) (fun _ _ _ h => h) (Or.inl ⟨by rfl, ?_⟩) (by assumption) ?_
    rotate_left
    · (intro w hSw; refine Eq.trans (kexec_lp hSw 0 _ (by rfl) (by rfl) (by rfl)) ?_; with_reducible rfl)
    try simp only [Act.put, List.setIfInBounds_toArray, List.set_cons_zero, List.set_cons_succ]
    refine wpAnyH_ready (rs := [4, 6]) (by kernel_rfl) (by simp) ?_
    refine AllReadyH.cons (o := ⟨some 54, _, _, _, _, _⟩) rfl (fun K hK => ?_) (AllReadyH.cons (o := ⟨some 56, _, _, _, _, _⟩) rfl (fun K hK => ?_) AllReadyH.nil)
    refine step_x (by rfl) (kexec_cw HK 0 _ (by rfl) (by rfl) (by rfl) (by rfl)) ?_; have hs := Lib.hid ((HK.out.dropL 2).takeR 0)
    refine hK.out _ _ hs (fun hHeld => ?_)
    clear hK K
    try simp only [Act.put, List.setIfInBounds_toArray, List.set_cons_zero, List.set_cons_succ]
    refine wpAnyH_ready (rs := [6]) (by kernel_rfl) (by simp) ?_
    refine AllReadyH.cons (o := ⟨some 56, _, _, _, _, _⟩) rfl (fun K hK => ?_) AllReadyH.nil
    refine step_mkp (by rfl) _ (by rfl) (by rfl) ?_; have hs := Lib.hid (((HK.out.dropL 2).takeR 0).allocO (.cells (pA p1) 36))
    refine hK.out _ _ hs (fun hHeld => ?_)
    clear hK K
    try simp only [Act.put, List.setIfInBounds_toArray, List.set_cons_zero, List.set_cons_succ]
    refine wpAnyH_ready (rs := [7]) (by kernel_rfl) (by simp) ?_
    refine AllReadyH.cons (o := ⟨some 57, _, _, _, _, _⟩) rfl (fun K hK => ?_) AllReadyH.nil
    refine step_kpush HK pktLay 3 (by rfl) _ _ (by rfl) (by rfl) (by rfl) [p1] (by rfl) (by rfl) (by rfl) (by rfl) HLw HLx ?_; intro A2 c2 w3 HK'; simp only [List.set] at HK'; replace HK := HK'; clear HK'; have hs := Lib.hid ((HK.out.dropL 2).takeR 0)
    refine hK.out _ _ hs (fun hHeld => ?_)
    clear hK K
    try simp only [Act.put, List.setIfInBounds_toArray, List.set_cons_zero, List.set_cons_succ]
    refine wpAnyH_take (i := 8) (oi := ⟨some 58, _, _, _, _, _⟩) (v := ?_) rfl (by kernel_rfl) (by kernel_rfl) (by kernel_rfl) (fun _ _ _ h => h) (Or.inl ⟨by rfl, ?_⟩) (by assumption) ?_
    rotate_left
    · (intro w hSw; (try dsimp only at hSw); go_simp; try with_reducible rfl)
    try simp only [Act.put, List.setIfInBounds_toArray, List.set_cons_zero, List.set_cons_succ]
    refine wpAnyH_take (i := 9) (oi := ⟨some 59, _, _, _, _, _⟩) (v := ?_) rfl (by kernel_rfl) (by kernel_rfl) (by kernel_rfl) (fun _ _ _ h => h) (Or.inl ⟨by rfl, ?_⟩) (by assumption) ?_
    rotate_left
    · (intro w hSw; (try dsimp only at hSw); go_simp; try with_reducible rfl)
    try simp only [Act.put, List.setIfInBounds_toArray, List.set_cons_zero, List.set_cons_succ]
    refine wpAnyH_ready (rs := [10]) (by kernel_rfl) (by simp) ?_
    refine AllReadyH.cons (o := ⟨none, _, _, _, _, _⟩) rfl (fun K hK => ?_) AllReadyH.nil
    refine step_s16 HK 0 (by rfl) _ _ (by rfl) (by rfl) (by rfl) (by rfl) ?_; intro w4 HK' _; simp only [List.set] at HK'; replace HK := HK'; clear HK'; have hs := Lib.hid ((HK.out.dropL 2).takeR 0)
    refine hK.out _ _ hs (fun hHeld => ?_)
    clear hK K
    try simp only [Act.put, List.setIfInBounds_toArray, List.set_cons_zero, List.set_cons_succ]
    refine wpAnyH_done (by kernel_rfl) ?_ _
    rotate_left
    refine step_mkp (by rfl) _ (by rfl) (by rfl) ?_; have hs := Lib.hid (((HK.out.dropL 2).takeR 0).allocO (.cells (pA p1) 36))
    refine hK.out _ _ hs (fun hHeld => ?_)
    clear hK K
    try simp only [Act.put, List.setIfInBounds_toArray, List.set_cons_zero, List.set_cons_succ]
    refine wpAnyH_ready (rs := [4]) (by kernel_rfl) (by simp) ?_
    refine AllReadyH.cons (o := ⟨some 54, _, _, _, _, _⟩) rfl (fun K hK => ?_) AllReadyH.nil
    refine step_x (by rfl) (kexec_cw (Lib.hid (HK.out.allocO _)) 0 _ (by rfl) (by rfl) (by rfl) (by rfl)) ?_; have hs := Lib.hid (((HK.out.dropL 2).takeR 0).allocO (.cells (pA p1) 36))
    refine hK.out _ _ hs (fun hHeld => ?_)
    clear hK K
    try simp only [Act.put, List.setIfInBounds_toArray, List.set_cons_zero, List.set_cons_succ]
    refine wpAnyH_ready (rs := [7]) (by kernel_rfl) (by simp) ?_
    refine AllReadyH.cons (o := ⟨some 57, _, _, _, _, _⟩) rfl (fun K hK => ?_) AllReadyH.nil
    refine step_kpush HK pktLay 3 (by rfl) _ _ (by rfl) (by rfl) (by rfl) [p1] (by rfl) (by rfl) (by rfl) (by rfl) HLw HLx ?_; intro A2 c2 w3 HK'; simp only [List.set] at HK'; replace HK := HK'; clear HK'; have hs := Lib.hid ((HK.out.dropL 2).takeR 0)
    refine hK.out _ _ hs (fun hHeld => ?_)
    clear hK K
    try simp only [Act.put, List.setIfInBounds_toArray, List.set_cons_zero, List.set_cons_succ]
    refine wpAnyH_take (i := 8) (oi := ⟨some 58, _, _, _, _, _⟩) (v := ?_) rfl (by kernel_rfl) (by kernel_rfl) (by kernel_rfl) (fun _ _ _ h => h) (Or.inl ⟨by rfl, ?_⟩) (by assumption) ?_
    rotate_left
    · (intro w hSw; (try dsimp only at hSw); go_simp; try with_reducible rfl)
    try simp only [Act.put, List.setIfInBounds_toArray, List.set_cons_zero, List.set_cons_succ]
    refine wpAnyH_take (i := 9) (oi := ⟨some 59, _, _, _, _, _⟩) (v := ?_) rfl (by kernel_rfl) (by kernel_rfl) (by kernel_rfl) (fun _ _ _ h => h) (Or.inl ⟨by rfl, ?_⟩) (by assumption) ?_
    rotate_left
    · (intro w hSw; (try dsimp only at hSw); go_simp; try with_reducible rfl)
    try simp only [Act.put, List.setIfInBounds_toArray, List.set_cons_zero, List.set_cons_succ]
    refine wpAnyH_ready (rs := [10]) (by kernel_rfl) (by simp) ?_
    refine AllReadyH.cons (o := ⟨none, _, _, _, _, _⟩) rfl (fun K hK => ?_) AllReadyH.nil
    refine step_s16 HK 0 (by rfl) _ _ (by rfl) (by rfl) (by rfl) (by rfl) ?_; intro w4 HK' _; simp only [List.set] at HK'; replace HK := HK'; clear HK'; have hs := Lib.hid ((HK.out.dropL 2).takeR 0)
    refine hK.out _ _ hs (fun hHeld => ?_)
    clear hK K
    try simp only [Act.put, List.setIfInBounds_toArray, List.set_cons_zero, List.set_cons_succ]
    refine wpAnyH_done (by kernel_rfl) ?_ _
    rotate_left
    all_goals
      go_wp2_with fail
      replace HK := Lib.hid HK.out.drew
      have HH := Lib.hid ((HK.out.takeL 1).takeR 0)
      refine wp_region_held_drew (S := (fun W => Hid (Kn b0 w0 W [(g, 52, wC (.slice A1 n1 c1) (.slice Ab nb cb) (.slice A2 (nw + 1) c2) (.slice (some ⟨gs, 0, none⟩) (i + 1) cs) (.slice Ak nk ck) (.slice Ag ng cg) (.slice Ah nh ch) l1 b win ret)] []))) (by kernel_rfl) ?_ (fun hHeld => ?_)
      · (try dsimp only); exact HH
      refine wpAnyH_take (i := 0) (oi := ⟨some 60, _, _, _, _, _⟩) (v := ?_) rfl (by kernel_rfl) (by kernel_rfl) (by kernel_rfl) (fun _ _ _ h => h) (Or.inl ⟨by rfl, ?_⟩) (by assumption) ?_
      rotate_left
      · (intro w hSw; (try dsimp only at hSw); go_simp; try with_reducible rfl)
      try simp only [Act.put, List.setIfInBounds_toArray, List.set_cons_zero, List.set_cons_succ]
      refine wpAnyH_take (i := 1) (oi := ⟨some 61, _, _, _, _, _⟩) (v := ?_) rfl (by kernel_rfl) (by kernel_rfl) (by kernel_rfl) (fun _ _ _ h => h) (Or.inl ⟨by rfl, ?_⟩) (by assumption) ?_
      rotate_left
      · (intro w hSw; (try dsimp only at hSw); go_simp; try with_reducible rfl)
      try simp only [Act.put, List.setIfInBounds_toArray, List.set_cons_zero, List.set_cons_succ]
      refine wpAnyH_take (i := 2) (oi := ⟨some 62, _, _, _, _, _⟩) (v := ?_) rfl (by kernel_rfl) (by kernel_rfl) (by kernel_rfl) (fun _ _ _ h => h) (Or.inl ⟨by rfl, ?_⟩) (by assumption) ?_
      rotate_left
      · (intro w hSw; (try dsimp only at hSw); go_simp; try with_reducible rfl)
      try simp only [Act.put, List.setIfInBounds_toArray, List.set_cons_zero, List.set_cons_succ]
      refine wpAnyH_take (i := 3) (oi := ⟨some 63, _, _, _, _, _⟩) (v := ?_) rfl (by kernel_rfl) (by kernel_rfl) (by kernel_rfl) (fun _ _ _ h => h) (Or.inl ⟨by rfl, ?_⟩) (by assumption) ?_
      rotate_left
      · (intro w hSw; refine Eq.trans (kexec_ch hSw 0 _ (by rfl) (by rfl) (by rfl) (by rfl)) ?_; with_reducible rfl)
      try simp only [Act.put, List.setIfInBounds_toArray, List.set_cons_zero, List.set_cons_succ]
      refine wpAnyH_take (i := 4) (oi := ⟨some 64, _, _, _, _, _⟩) (v := ?_) rfl (by kernel_rfl) (by kernel_rfl) (by kernel_rfl) (fun _ _ _ h => h) (Or.inl ⟨by rfl, ?_⟩) (by assumption) ?_
      rotate_left
      · (intro w hSw; (try dsimp only at hSw); go_simp; try with_reducible rfl)
      try simp only [Act.put, List.setIfInBounds_toArray, List.set_cons_zero, List.set_cons_succ]
      refine wpAnyH_take (i := 5) (oi := ⟨some 65, _, _, _, _, _⟩) (v := ?_) rfl (by kernel_rfl) (by kernel_rfl) (by kernel_rfl) (fun _ _ _ h => h) (Or.inl ⟨by rfl, ?_⟩) (by assumption) ?_
      rotate_left
      · (intro w hSw; (try dsimp only at hSw); go_simp; try with_reducible rfl)
      try simp only [Act.put, List.setIfInBounds_toArray, List.set_cons_zero, List.set_cons_succ]
      refine wpAnyH_take (i := 6) (oi := ⟨some 66, _, _, _, _, _⟩) (v := ?_) rfl (by kernel_rfl) (by kernel_rfl) (by kernel_rfl) (fun _ _ _ h => h) (Or.inl ⟨by rfl, ?_⟩) (by assumption) ?_
      rotate_left
      · (intro w hSw; (try dsimp only at hSw); go_simp; try with_reducible rfl)
      try simp only [Act.put, List.setIfInBounds_toArray, List.set_cons_zero, List.set_cons_succ]
      refine wpAnyH_take (i := 7) (oi := ⟨some 67, _, _, _, _, _⟩) (v := ?_) rfl (by kernel_rfl) (by kernel_rfl) (by kernel_rfl) (fun _ _ _ h => h) (Or.inl ⟨by rfl, ?_⟩) (by assumption) ?_
      rotate_left
      · (intro w hSw; (try dsimp only at hSw); go_simp; try with_reducible rfl)
      try simp only [Act.put, List.setIfInBounds_toArray, List.set_cons_zero, List.set_cons_succ]
      refine wpAnyH_take (i := 8) (oi := ⟨some 68, _, _, _, _, _⟩) (v := ?_) rfl (by kernel_rfl) (by kernel_rfl) (by kernel_rfl) (fun _ _ _ h => h) (Or.inl ⟨by rfl, ?_⟩) (by assumption) ?_
      rotate_left
      · (intro w hSw; (try dsimp only at hSw); go_simp; try with_reducible rfl)
      try simp only [Act.put, List.setIfInBounds_toArray, List.set_cons_zero, List.set_cons_succ]
      refine wpAnyH_take (i := 9) (oi := ⟨some 69, _, _, _, _, _⟩) (v := ?_) rfl (by kernel_rfl) (by kernel_rfl) (by kernel_rfl) (fun _ _ _ h => h) (Or.inl ⟨by rfl, ?_⟩) (by assumption) ?_
      rotate_left
      · (intro w hSw; refine Eq.trans (kexec_ch hSw 0 _ (by rfl) (by rfl) (by rfl) (by rfl)) ?_; with_reducible rfl)
      try simp only [Act.put, List.setIfInBounds_toArray, List.set_cons_zero, List.set_cons_succ]
      refine wpAnyH_take (i := 10) (oi := ⟨some 70, _, _, _, _, _⟩) (v := ?_) rfl (by kernel_rfl) (by kernel_rfl) (by kernel_rfl) (fun _ _ _ h => h) (Or.inl ⟨by rfl, ?_⟩) (by assumption) ?_
      rotate_left
      · (intro w hSw; (try dsimp only at hSw); go_simp; try with_reducible rfl)
      try simp only [Act.put, List.setIfInBounds_toArray, List.set_cons_zero, List.set_cons_succ]
      refine wpAnyH_take (i := 11) (oi := ⟨some 71, _, _, _, _, _⟩) (v := ?_) rfl (by kernel_rfl) (by kernel_rfl) (by kernel_rfl) (fun _ _ _ h => h) (Or.inl ⟨by rfl, ?_⟩) (by assumption) ?_
      rotate_left
      · (intro w hSw; (try dsimp only at hSw); go_simp; try with_reducible rfl)
      try simp only [Act.put, List.setIfInBounds_toArray, List.set_cons_zero, List.set_cons_succ]
      refine wpAnyH_take (i := 12) (oi := ⟨some 72, _, _, _, _, _⟩) (v := ?_) rfl (by kernel_rfl) (by kernel_rfl) (by kernel_rfl) (fun _ _ _ h => h) (Or.inl ⟨by rfl, ?_⟩) (by assumption) ?_
      rotate_left
      · (intro w hSw; (try dsimp only at hSw); go_simp; try with_reducible rfl)
      try simp only [Act.put, List.setIfInBounds_toArray, List.set_cons_zero, List.set_cons_succ]
      refine wpAnyH_take (i := 14) (oi := ⟨some 74, _, _, _, _, _⟩) (v := ?_) rfl (by kernel_rfl) (by kernel_rfl) (by kernel_rfl) (fun _ _ _ h => h) (Or.inl ⟨by rfl, ?_⟩) (by assumption) ?_
      rotate_left
      · (intro w hSw; (try dsimp only at hSw); go_simp; try with_reducible rfl)
      try simp only [Act.put, List.setIfInBounds_toArray, List.set_cons_zero, List.set_cons_succ]
      refine wpAnyH_ready (rs := [13, 15]) (by kernel_rfl) (by simp) ?_
      refine AllReadyH.cons (o := ⟨some 73, _, _, _, _, _⟩) rfl (fun K hK => ?_) (AllReadyH.cons (o := ⟨some 75, _, _, _, _, _⟩) rfl (fun K hK => ?_) AllReadyH.nil)
      refine step_x (by rfl) (exec_hd _ (by rfl) (HK.out.atR 4 rfl HHd.out) (by rfl)) ?_; have hs := Lib.hid ((HK.out.takeL 1).takeR 0)
      refine hK.out _ _ hs (fun hHeld => ?_)
      clear hK K
      try simp only [Act.put, List.setIfInBounds_toArray, List.set_cons_zero, List.set_cons_succ]
      refine wpAnyH_ready (rs := [15]) (by kernel_rfl) (by simp) ?_
      refine AllReadyH.cons (o := ⟨some 75, _, _, _, _, _⟩) rfl (fun K hK => ?_) AllReadyH.nil
      go_simp
      refine hK.out _ _ ?_ (fun hHeld => ?_)
      · (try dsimp only); exact Lib.hid (((HK.out.takeL 1).takeR 0).allocO _)
      clear hK K
      try simp only [Act.put, List.setIfInBounds_toArray, List.set_cons_zero, List.set_cons_succ]
      refine wpAnyH_ready (rs := [16]) (by kernel_rfl) (by simp) ?_
      refine AllReadyH.cons (o := ⟨some 76, _, _, _, _, _⟩) rfl (fun K hK => ?_) AllReadyH.nil
      refine step_kpush HK strLay (i + 8) (by rfl) _ _ (by rfl) HHr.out (by rfl) [nm] (by rfl) (by rfl) (by rfl) (by rfl) HLr HLs ?_; intro A3 c3 w5 HK'; simp only [List.set_cons_succ] at HK'; replace HK := HK'; clear HK'; have hs := Lib.hid ((HK.out.takeL 1).takeR 0)
      refine hK.out _ _ hs (fun hHeld => ?_)
      clear hK K
      try simp only [Act.put, List.setIfInBounds_toArray, List.set_cons_zero, List.set_cons_succ]
      refine wpAnyH_take (i := 17) (oi := ⟨some 77, _, _, _, _, _⟩) (v := ?_) rfl (by kernel_rfl) (by kernel_rfl) (by kernel_rfl) (fun _ _ _ h => h) (Or.inl ⟨by rfl, ?_⟩) (by assumption) ?_
      rotate_left
      · (intro w hSw; (try dsimp only at hSw); go_simp; try with_reducible rfl)
      try simp only [Act.put, List.setIfInBounds_toArray, List.set_cons_zero, List.set_cons_succ]
      refine wpAnyH_ready (rs := [18]) (by kernel_rfl) (by simp) ?_
      refine AllReadyH.cons (o := ⟨none, _, _, _, _, _⟩) rfl (fun K hK => ?_) AllReadyH.nil
      refine step_shd HK 4 (by rfl) _ _ (by rfl) (by rfl) HSi (by rfl) (by rfl) ?_; intro w6 HK'; simp only [List.set] at HK'; replace HK := HK'; clear HK'; have hs := Lib.hid ((HK.out.takeL 1).takeR 0)
      refine hK.out _ _ hs (fun hHeld => ?_)
      clear hK K
      try simp only [Act.put, List.setIfInBounds_toArray, List.set_cons_zero, List.set_cons_succ]
      refine wpAnyH_done (by kernel_rfl) ?_ _
      rotate_left
      go_simp
      refine hK.out _ _ ?_ (fun hHeld => ?_)
      · (try dsimp only); exact Lib.hid (((HK.out.takeL 1).takeR 0).allocO _)
      clear hK K
      try simp only [Act.put, List.setIfInBounds_toArray, List.set_cons_zero, List.set_cons_succ]
      refine wpAnyH_ready (rs := [13]) (by kernel_rfl) (by simp) ?_
      refine AllReadyH.cons (o := ⟨some 73, _, _, _, _, _⟩) rfl (fun K hK => ?_) AllReadyH.nil
      refine step_x (by rfl) (exec_hd _ (by rfl) ((HK.out.allocO _).atR 4 rfl HHd.out) (by rfl)) ?_; have hs := Lib.hid (((HK.out.takeL 1).takeR 0).allocO (.cells #[.string nm] 9))
      refine hK.out _ _ hs (fun hHeld => ?_)
      clear hK K
      try simp only [Act.put, List.setIfInBounds_toArray, List.set_cons_zero, List.set_cons_succ]
      refine wpAnyH_ready (rs := [16]) (by kernel_rfl) (by simp) ?_
      refine AllReadyH.cons (o := ⟨some 76, _, _, _, _, _⟩) rfl (fun K hK => ?_) AllReadyH.nil
      refine step_kpush HK strLay (i + 8) (by rfl) _ _ (by rfl) HHr.out (by rfl) [nm] (by rfl) (by rfl) (by rfl) (by rfl) HLr HLs ?_; intro A3 c3 w5 HK'; simp only [List.set_cons_succ] at HK'; replace HK := HK'; clear HK'; have hs := Lib.hid ((HK.out.takeL 1).takeR 0)
      refine hK.out _ _ hs (fun hHeld => ?_)
      clear hK K
      try simp only [Act.put, List.setIfInBounds_toArray, List.set_cons_zero, List.set_cons_succ]
      refine wpAnyH_take (i := 17) (oi := ⟨some 77, _, _, _, _, _⟩) (v := ?_) rfl (by kernel_rfl) (by kernel_rfl) (by kernel_rfl) (fun _ _ _ h => h) (Or.inl ⟨by rfl, ?_⟩) (by assumption) ?_
      rotate_left
      · (intro w hSw; (try dsimp only at hSw); go_simp; try with_reducible rfl)
      try simp only [Act.put, List.setIfInBounds_toArray, List.set_cons_zero, List.set_cons_succ]
      refine wpAnyH_ready (rs := [18]) (by kernel_rfl) (by simp) ?_
      refine AllReadyH.cons (o := ⟨none, _, _, _, _, _⟩) rfl (fun K hK => ?_) AllReadyH.nil
      refine step_shd HK 4 (by rfl) _ _ (by rfl) (by rfl) HSi (by rfl) (by rfl) ?_; intro w6 HK'; simp only [List.set] at HK'; replace HK := HK'; clear HK'; have hs := Lib.hid ((HK.out.takeL 1).takeR 0)
      refine hK.out _ _ hs (fun hHeld => ?_)
      clear hK K
      try simp only [Act.put, List.setIfInBounds_toArray, List.set_cons_zero, List.set_cons_succ]
      refine wpAnyH_done (by kernel_rfl) ?_ _
      rotate_left
      all_goals
        go_wp2_with fail
        ((try simp only [Exit.inBlock, Exit.then]); first | refine bodyPost_ret (results_none Try.results33 _ _ _) rfl ?_ | refine bodyPost_end (results_none Try.results33 _ _ _) rfl ?_)
        rw [← HPX.out]; first | rw [if_pos trivial] | rw [if_pos rfl]
        obtain ⟨s1, s2, s3, s4⟩ := HSe.out A3 c3
        have hk := (HK.out.takeL 1).into 0
        simp only [List.take, List.set] at hk
        rw [s1, s2] at hk
        exact ⟨rfl, A1, Ab, A2, some ⟨gs, 0, none⟩, Ak, Ag, Ah, n1, nb, nw + 1, i + 1, nk, ng, nh, c1, cb, c2, cs, ck, cg, ch, S.set i ⟨A3, c3, rl ++ [nm]⟩, ⟨HN1.out.symm, HF.out.1.2.1, HLx.out.symm, s4, HF.out.1.2.2.2.1, HF.out.1.2.2.2.2.1, HF.out.1.2.2.2.2.2⟩, s3, hk⟩
  · have hd : (e1 == 0) = false := by simpa using h0
    go_wp2_with fail
    ((try simp only [Exit.inBlock, Exit.then]); first | refine bodyPost_ret (results_none Try.results33 _ _ _) rfl ?_ | refine bodyPost_end (results_none Try.results33 _ _ _) rfl ?_)
    rw [← HPX.out, if_neg h0]
    exact ⟨rfl, Aa, Ab, Aw, some ⟨gs, 0, none⟩, Ak, Ag, Ah, na, nb, nw, (i + 1), nk, ng, nh, ca, cb, cw, cs, ck, cg, ch, S, ⟨HF.out.1.1, HF.out.1.2.1, HNw.out, HF.out.1.2.2.1, HF.out.1.2.2.2.1, HF.out.1.2.2.2.2.1, HF.out.1.2.2.2.2.2⟩, HF.out.2, (HK.out.takeL 1).dropR 1⟩
set_option maxRecDepth 100000 in
set_option maxHeartbeats 12800000 in
theorem sendB_any (b0 : Nat) (w0 : World) (g : Nat) (x : Lnk.Wr) (w : World) (n m : Nat) (hW : WireAt b0 w0 g x w) (hf : Lnk.Wr.Fits n m x) (hn : n ≤ 900000) (hm : m ≤ 100000) :
    Calls Try.prog 33 #[.pointer (some ⟨g, 0, none⟩), .bool false] w fun e w' => e = .returned (.tuple #[]) ∧ WireAt b0 w0 g x.sendB w' := by
  obtain ⟨a, b, way, sent, back, got, gotA, win, ret⟩ := x
  obtain ⟨Aa, Ab, Aw, As, Ak, Ag, Ah, na, nb, nw, ns, nk, ng, nh, ca, cb, cw, cs, ck, cg, ch, S, ⟨ena, enb, enw, ens, enk, eng, enh⟩, eS, hK⟩ := hW
  simp only at ena enb enw ens enk eng enh eS hK
  have HK := Lib.hid hK
  have hX : Hid (∀ W v c, strLay.Own b0 W (.slice v nb c) b.out → ∀ nm, Calls Try.prog 25 #[.agg (lA (.slice v nb c) b), .string nm, .int .i64 win] W (IsS (Lnk.send b nm win) W)) := Lib.hid fun W v c ho nm => by
    have h1 := hf.b.b1
    have h2 := hf.b.bn
    simp only at h1 h2
    subst enb
    exact send_any v c b nm win W ⟨ho.read.1, ho.read.2.1, by omega⟩ ⟨h1, by omega⟩
  have HNk := Lib.hid enk
  have hbk : nk ≤ 900000 := by have := hf.bk; simp only at this; omega
  have HNm := Lib.hid (fun W => name_any 0 (nk : Int) W (by omega) (by omega))
  have hnm : Lnk.Wr.nameB ⟨a, b, way, sent, back, got, gotA, win, ret⟩ = Lnk.name 0 (nk : Int) := by
    unfold Lnk.Wr.nameB
    simp only
    rw [← enk]
  have hway : nw ≤ 900000 := by have := hf.way; simp only at this; omega
  unfold Lnk.Wr.sendB
  rw [hnm]
  clear hnm
  generalize Lnk.name 0 (nk : Int) = nm at *
  have hX := Lib.hid (fun W v c ho => hX.out W v c ho nm)
  generalize Lnk.send b nm win = q at *
  obtain ⟨l1, p1, e1⟩ := q
  unfold IsS at hX
  simp only at hX ⊢
  generalize hn1 : l1.out.length = n1 at hX
  have HN1 := Lib.hid hn1
  have HNw := Lib.hid enw
  clear hn1 hf hn hm hK
  generalize hPX : WireAt b0 w0 g (if e1 = 0 then _ else _) = PX
  have HPX := Lib.hid hPX
  clear hPX
  have HF := Lib.hid (And.intro (And.intro ena (And.intro enb (And.intro ens (And.intro enk (And.intro eng enh))))) eS)
  clear ena enb enw ens enk eng enh eS
  go_enter Try.func33, Try.ntmps33
  go_wp2_with (first | refine wpList_x rfl (kexec_ch HK 0 _ rfl rfl rfl rfl) ?_ | refine wpList_kcv HK 0 rfl _ rfl rfl rfl rfl ?_ )
  refine (HNm.out _).mono ?_; rintro e w1 ⟨rfl, b1⟩
  replace HK := Lib.hid (HK.out.call b1)
  clear b1 HNm
  go_wp2_with fail
  go_cut [10, 11, 12] (fun s6 s7 s8 wx => ∃ (gl gp : Nat) (A1 : Option Addr) (c1 : Nat), s6 = .pointer (some ⟨gl, 0, none⟩) ∧ s7 = .pointer (some ⟨gp, 0, none⟩) ∧ s8 = .int .i64 e1 ∧ Hid (Kn b0 w0 wx [(g, 52, wC (.slice Aa na ca) (.slice Ab nb cb) (.slice Aw nw cw) (.slice As ns cs) (.slice Ak nk ck) (.slice Ag ng cg) (.slice Ah nh ch) a b win ret), (gl, 27, lA (.slice A1 n1 c1) l1), (gp, 36, pA p1)] (row strLay (.slice A1 n1 c1) l1.out :: row strLay (.slice Aa na ca) a.out :: row strLay (.slice Ab nb cb) b.out :: row pktLay (.slice Aw nw cw) way :: row hdLay (.slice As ns cs) (S.map Rw.hd) :: row strLay (.slice Ak nk ck) back :: row strLay (.slice Ag ng cg) got :: row strLay (.slice Ah nh ch) gotA :: S.map Rw.row)))
  case first =>
    replace HK := Lib.hid HK.out.drew
    have HH := Lib.hid ((HK.out.takeL 1).takeR 0)
    refine wp_region_held_drew (S := (fun W => Hid (Kn b0 w0 W [(g, 52, wC (.slice Aa na ca) (.slice Ab nb cb) (.slice Aw nw cw) (.slice As ns cs) (.slice Ak nk ck) (.slice Ag ng cg) (.slice Ah nh ch) a b win ret)] []))) (by kernel_rfl) ?_ (fun hHeld => ?_)
    · (try dsimp only); exact HH
    refine wpAnyH_take (i := 0) (oi := ⟨some 85, _, _, _, _, _⟩) (v := ?_) rfl (by kernel_rfl) (by kernel_rfl) (by kernel_rfl) (fun _ _ _ h => h) (Or.inl ⟨by rfl, ?_⟩) (by assumption) ?_
    rotate_left
    · (intro w hSw; (try dsimp only at hSw); go_simp; try with_reducible rfl)
    try simp only [Act.put, List.setIfInBounds_toArray, List.set_cons_zero, List.set_cons_succ]
    refine wpAnyH_take (i := 1) (oi := ⟨some 86, _, _, _, _, _⟩) (v := ?_) rfl (by kernel_rfl) (by kernel_rfl) (by kernel_rfl) (fun _ _ _ h => h) (Or.inl ⟨by rfl, ?_⟩) (by assumption) ?_
    rotate_left
    · (intro w hSw; (try dsimp only at hSw); go_simp; try with_reducible rfl)
    try simp only [Act.put, List.setIfInBounds_toArray, List.set_cons_zero, List.set_cons_succ]
    refine wpAnyH_take (i := 2) (oi := ⟨some 87, _, _, _, _, _⟩) (v := ?_) rfl (by kernel_rfl) (by kernel_rfl) (by kernel_rfl) (fun _ _ _ h => h) (Or.inl ⟨by rfl, ?_⟩) (by assumption) ?_
    rotate_left
    · (intro w hSw; (try dsimp only at hSw); go_simp; try with_reducible rfl)
    try simp only [Act.put, List.setIfInBounds_toArray, List.set_cons_zero, List.set_cons_succ]
    refine wpAnyH_take (i := 3) (oi := ⟨some 88, _, _, _, _, _⟩) (v := ?_) rfl (by kernel_rfl) (by kernel_rfl) (by kernel_rfl) (fun _ _ _ h => h) (Or.inl ⟨by rfl, ?_⟩) (by assumption) ?_
    rotate_left
    · (intro w hSw; refine Eq.trans (kexec_wb hSw 0 _ (by rfl) (by rfl) (by rfl)) ?_; with_reducible rfl)
    try simp only [Act.put, List.setIfInBounds_toArray, List.set_cons_zero, List.set_cons_succ]
    refine wpAnyH_take (i := 4) (oi := ⟨some 89, _, _, _, _, _⟩) (v := ?_) rfl (by kernel_rfl) (by kernel_rfl) (by kernel_rfl) (fun _ _ _ h => h) (Or.inl ⟨by rfl, ?_⟩) (by assumption) ?_
    rotate_left
    · (intro w hSw; (try dsimp only at hSw); go_simp; try with_reducible rfl)
    try simp only [Act.put, List.setIfInBounds_toArray, List.set_cons_zero, List.set_cons_succ]
    refine wpAnyH_take (i := 5) (oi := ⟨some 90, _, _, _, _, _⟩) (v := ?_) rfl (by kernel_rfl) (by kernel_rfl) (by kernel_rfl) (fun _ _ _ h => h) (Or.inl ⟨by rfl, ?_⟩) (by assumption) ?_
    rotate_left
    · (intro w hSw; (try dsimp only at hSw); go_simp; try with_reducible rfl)
    try simp only [Act.put, List.setIfInBounds_toArray, List.set_cons_zero, List.set_cons_succ]
    refine wpAnyH_take (i := 6) (oi := ⟨some 91, _, _, _, _, _⟩) (v := ?_) rfl (by kernel_rfl) (by kernel_rfl) (by kernel_rfl) (fun _ _ _ h => h) (Or.inl ⟨by rfl, ?_⟩) (by assumption) ?_
    rotate_left
    · (intro w hSw; (try dsimp only at hSw); go_simp; try with_reducible rfl)
    try simp only [Act.put, List.setIfInBounds_toArray, List.set_cons_zero, List.set_cons_succ]
    refine wpAnyH_take (i := 7) (oi := ⟨some 92, _, _, _, _, _⟩) (v := ?_) rfl (by kernel_rfl) (by kernel_rfl) (by kernel_rfl) (fun _ _ _ h => h) (Or.inl ⟨by rfl, ?_⟩) (by assumption) ?_
    rotate_left
    · (intro w hSw; (try dsimp only at hSw); go_simp; try with_reducible rfl)
    try simp only [Act.put, List.setIfInBounds_toArray, List.set_cons_zero, List.set_cons_succ]
    refine wpAnyH_take (i := 8) (oi := ⟨some 93, _, _, _, _, _⟩) (v := ?_) rfl (by kernel_rfl) (by kernel_rfl) (by kernel_rfl) (fun _ _ _ h => h) (Or.inl ⟨by rfl, ?_⟩) (by assumption) ?_
    rotate_left
    · (intro w hSw; refine Eq.trans (kexec_ci hSw 0 _ (by rfl) (by rfl) (by rfl) (by rfl)) ?_; with_reducible rfl)
    try simp only [Act.put, List.setIfInBounds_toArray, List.set_cons_zero, List.set_cons_succ]
    refine wpAnyH_ready (rs := [9, 14, 15]) (by kernel_rfl) (by simp) ?_
    refine AllReadyH.cons (o := ⟨some 94, _, _, _, _, _⟩) rfl (fun K hK => ?_) (AllReadyH.cons (o := ⟨some 10, _, _, _, _, _⟩) rfl (fun K hK => ?_) (AllReadyH.cons (o := ⟨some 11, _, _, _, _, _⟩) rfl (fun K hK => ?_) AllReadyH.nil))
    go_simp
    go_at_call 25
    refine (hX.out _ _ _ (HK.out.own 1 rfl)).mono ?_; rintro e w2 ⟨A1, c1, rfl, o1, b1⟩; replace HK := Lib.hid (HK.out.calledF b1 o1); clear o1 b1; have hs := Lib.hid ((HK.out.takeL 1).takeR 0)
    refine hK.out _ _ hs (fun hHeld => ?_)
    clear hK K
    try simp only [Act.put, List.setIfInBounds_toArray, List.set_cons_zero, List.set_cons_succ]
    refine wpAnyH_take (i := 10) (oi := ⟨some 84, _, _, _, _, _⟩) (v := ?_) rfl (by kernel_rfl) (by kernel_rfl) (by kernel_rfl) (fun _ _ _ h => h) (Or.inl ⟨by rfl, ?_⟩) (by assumption) ?_
    rotate_left
    · (intro w hSw; (try dsimp only at hSw); go_simp; try with_reducible rfl)
    try simp only [Act.put, List.setIfInBounds_toArray, List.set_cons_zero, List.set_cons_succ]
    refine wpAnyH_take (i := 11) (oi := ⟨some 95, _, _, _, _, _⟩) (v := ?_) rfl (by kernel_rfl) (by kernel_rfl) (by kernel_rfl) (fun _ _ _ h => h) (Or.inl ⟨by rfl, ?_⟩) (by assumption) ?_
    rotate_left
    · (intro w hSw; (try dsimp only at hSw); go_simp; try with_reducible rfl)
    try simp only [Act.put, List.setIfInBounds_toArray, List.set_cons_zero, List.set_cons_succ]
    refine wpAnyH_take (i := 12) (oi := ⟨some 96, _, _, _, _, _⟩) (v := ?_) rfl (by kernel_rfl) (by kernel_rfl) (by kernel_rfl) (fun _ _ _ h => h) (Or.inl ⟨by rfl, ?_⟩) (by assumption) ?_
    rotate_left
    · (intro w hSw; (try dsimp only at hSw); go_simp; try with_reducible rfl)
    try simp only [Act.put, List.setIfInBounds_toArray, List.set_cons_zero, List.set_cons_succ]
    refine wpAnyH_take (i := 13) (oi := ⟨some 97, _, _, _, _, _⟩) (v := ?_) rfl (by kernel_rfl) (by kernel_rfl) (by kernel_rfl) (fun _ _ _ h => h) (Or.inl ⟨by rfl, ?_⟩) (by assumption) ?_
    rotate_left
    · (intro w hSw; (try dsimp only at hSw); go_simp; try with_reducible rfl)
    try simp only [Act.put, List.setIfInBounds_toArray, List.set_cons_zero, List.set_cons_succ]
    refine wpAnyH_ready (rs := [14, 15]) (by kernel_rfl) (by simp) ?_
    refine AllReadyH.cons (o := ⟨some 10, _, _, _, _, _⟩) rfl (fun K hK => ?_) (AllReadyH.cons (o := ⟨some 11, _, _, _, _, _⟩) rfl (fun K hK => ?_) AllReadyH.nil)
    refine step_akl' HK (by rfl) (by rfl) ?_; intro wA gl HK' _; simp only [List.cons_append, List.nil_append] at HK'; replace HK := HK'; clear HK'; have hs := Lib.hid ((HK.out.takeL 1).takeR 0)
    refine hK.out _ _ hs (fun hHeld => ?_)
    clear hK K
    try simp only [Act.put, List.setIfInBounds_toArray, List.set_cons_zero, List.set_cons_succ]
    refine wpAnyH_ready (rs := [15]) (by kernel_rfl) (by simp) ?_
    refine AllReadyH.cons (o := ⟨some 11, _, _, _, _, _⟩) rfl (fun K hK => ?_) AllReadyH.nil
    refine step_akp HK (by rfl) (by rfl) ?_; intro wA gp HK' _; simp only [List.cons_append, List.nil_append] at HK'; replace HK := HK'; clear HK'; have hs := Lib.hid ((HK.out.takeL 1).takeR 0)
    refine hK.out _ _ hs (fun hHeld => ?_)
    clear hK K
    try simp only [Act.put, List.setIfInBounds_toArray, List.set_cons_zero, List.set_cons_succ]
    refine wpAnyH_ready (rs := [16]) (by kernel_rfl) (by simp) ?_
    refine AllReadyH.cons (o := ⟨none, _, _, _, _, _⟩) rfl (fun K hK => ?_) AllReadyH.nil
    first | (refine step_ksl HK 1 (by rfl) _ _ (by rfl) (by rfl) (by rfl) (by rfl) (by rfl) ?_; intro _ HK' _; simp only [List.set] at HK'; replace HK := HK'; clear HK'; have hs := Lib.hid ((HK.out.takeL 1).takeR 0)) | (refine step_ksl HK 2 (by rfl) _ _ (by rfl) (by rfl) (by rfl) (by rfl) (by rfl) ?_; intro _ HK' _; simp only [List.set] at HK'; replace HK := HK'; clear HK'; have hs := Lib.hid ((HK.out.takeL 1).takeR 0))
    refine hK.out _ _ hs (fun hHeld => ?_)
    clear hK K
    try simp only [Act.put, List.setIfInBounds_toArray, List.set_cons_zero, List.set_cons_succ]
    refine wpAnyH_ready (rs := [17]) (by kernel_rfl) (by simp) ?_
    refine AllReadyH.cons (o := ⟨none, _, _, _, _, _⟩) rfl (fun K hK => ?_) AllReadyH.nil
    first | (refine step_ksp HK 1 (by rfl) _ _ (by rfl) (by rfl) (by rfl) (by rfl) (by rfl) ?_; intro _ HK' _; simp only [List.set] at HK'; replace HK := HK'; clear HK'; have hs := Lib.hid ((HK.out.takeL 1).takeR 0)) | (refine step_ksp HK 2 (by rfl) _ _ (by rfl) (by rfl) (by rfl) (by rfl) (by rfl) ?_; intro _ HK' _; simp only [List.set] at HK'; replace HK := HK'; clear HK'; have hs := Lib.hid ((HK.out.takeL 1).takeR 0))
    refine hK.out _ _ hs (fun hHeld => ?_)
    clear hK K
    try simp only [Act.put, List.setIfInBounds_toArray, List.set_cons_zero, List.set_cons_succ]
    refine wpAnyH_take (i := 18) (oi := ⟨some 12, _, _, _, _, _⟩) (v := ?_) rfl (by kernel_rfl) (by kernel_rfl) (by kernel_rfl) (fun _ _ _ h => h) (Or.inl ⟨by rfl, ?_⟩) (by assumption) ?_
    rotate_left
    · (intro w hSw; (try dsimp only at hSw); go_simp; try with_reducible rfl)
    try simp only [Act.put, List.setIfInBounds_toArray, List.set_cons_zero, List.set_cons_succ]
    refine wpAnyH_done (by kernel_rfl) ?_ _
    rotate_left
    refine step_akp HK (by rfl) (by rfl) ?_; intro wA gp HK' _; simp only [List.cons_append, List.nil_append] at HK'; replace HK := HK'; clear HK'; have hs := Lib.hid ((HK.out.takeL 1).takeR 0)
    refine hK.out _ _ hs (fun hHeld => ?_)
    clear hK K
    try simp only [Act.put, List.setIfInBounds_toArray, List.set_cons_zero, List.set_cons_succ]
    refine wpAnyH_ready (rs := [14]) (by kernel_rfl) (by simp) ?_
    refine AllReadyH.cons (o := ⟨some 10, _, _, _, _, _⟩) rfl (fun K hK => ?_) AllReadyH.nil
    refine step_akl' HK (by rfl) (by rfl) ?_; intro wA gl HK' _; simp only [List.cons_append, List.nil_append] at HK'; replace HK := HK'; clear HK'; have hs := Lib.hid ((HK.out.takeL 1).takeR 0)
    refine hK.out _ _ hs (fun hHeld => ?_)
    clear hK K
    try simp only [Act.put, List.setIfInBounds_toArray, List.set_cons_zero, List.set_cons_succ]
    refine wpAnyH_ready (rs := [16]) (by kernel_rfl) (by simp) ?_
    refine AllReadyH.cons (o := ⟨none, _, _, _, _, _⟩) rfl (fun K hK => ?_) AllReadyH.nil
    first | (refine step_ksl HK 1 (by rfl) _ _ (by rfl) (by rfl) (by rfl) (by rfl) (by rfl) ?_; intro _ HK' _; simp only [List.set] at HK'; replace HK := HK'; clear HK'; have hs := Lib.hid ((HK.out.takeL 1).takeR 0)) | (refine step_ksl HK 2 (by rfl) _ _ (by rfl) (by rfl) (by rfl) (by rfl) (by rfl) ?_; intro _ HK' _; simp only [List.set] at HK'; replace HK := HK'; clear HK'; have hs := Lib.hid ((HK.out.takeL 1).takeR 0))
    refine hK.out _ _ hs (fun hHeld => ?_)
    clear hK K
    try simp only [Act.put, List.setIfInBounds_toArray, List.set_cons_zero, List.set_cons_succ]
    refine wpAnyH_ready (rs := [17]) (by kernel_rfl) (by simp) ?_
    refine AllReadyH.cons (o := ⟨none, _, _, _, _, _⟩) rfl (fun K hK => ?_) AllReadyH.nil
    first | (refine step_ksp HK 1 (by rfl) _ _ (by rfl) (by rfl) (by rfl) (by rfl) (by rfl) ?_; intro _ HK' _; simp only [List.set] at HK'; replace HK := HK'; clear HK'; have hs := Lib.hid ((HK.out.takeL 1).takeR 0)) | (refine step_ksp HK 2 (by rfl) _ _ (by rfl) (by rfl) (by rfl) (by rfl) (by rfl) ?_; intro _ HK' _; simp only [List.set] at HK'; replace HK := HK'; clear HK'; have hs := Lib.hid ((HK.out.takeL 1).takeR 0))
    refine hK.out _ _ hs (fun hHeld => ?_)
    clear hK K
    try simp only [Act.put, List.setIfInBounds_toArray, List.set_cons_zero, List.set_cons_succ]
    refine wpAnyH_take (i := 18) (oi := ⟨some 12, _, _, _, _, _⟩) (v := ?_) rfl (by kernel_rfl) (by kernel_rfl) (by kernel_rfl) (fun _ _ _ h => h) (Or.inl ⟨by rfl, ?_⟩) (by assumption) ?_
    rotate_left
    · (intro w hSw; (try dsimp only at hSw); go_simp; try with_reducible rfl)
    try simp only [Act.put, List.setIfInBounds_toArray, List.set_cons_zero, List.set_cons_succ]
    refine wpAnyH_done (by kernel_rfl) ?_ _
    rotate_left
    refine step_akl' HK (by rfl) (by rfl) ?_; intro wA gl HK' _; simp only [List.cons_append, List.nil_append] at HK'; replace HK := HK'; clear HK'; have hs := Lib.hid ((HK.out.takeL 1).takeR 0)
    refine hK.out _ _ hs (fun hHeld => ?_)
    clear hK K
    try simp only [Act.put, List.setIfInBounds_toArray, List.set_cons_zero, List.set_cons_succ]
    refine wpAnyH_ready (rs := [9, 15]) (by kernel_rfl) (by simp) ?_
    refine AllReadyH.cons (o := ⟨some 94, _, _, _, _, _⟩) rfl (fun K hK => ?_) (AllReadyH.cons (o := ⟨some 11, _, _, _, _, _⟩) rfl (fun K hK => ?_) AllReadyH.nil)
    go_simp
    go_at_call 25
    refine (hX.out _ _ _ (HK.out.own 1 rfl)).mono ?_; rintro e w2 ⟨A1, c1, rfl, o1, b1⟩; replace HK := Lib.hid (HK.out.calledF b1 o1); clear o1 b1; have hs := Lib.hid ((HK.out.takeL 1).takeR 0)
    refine hK.out _ _ hs (fun hHeld => ?_)
    clear hK K
    try simp only [Act.put, List.setIfInBounds_toArray, List.set_cons_zero, List.set_cons_succ]
    refine wpAnyH_take (i := 10) (oi := ⟨some 84, _, _, _, _, _⟩) (v := ?_) rfl (by kernel_rfl) (by kernel_rfl) (by kernel_rfl) (fun _ _ _ h => h) (Or.inl ⟨by rfl, ?_⟩) (by assumption) ?_
    rotate_left
    · (intro w hSw; (try dsimp only at hSw); go_simp; try with_reducible rfl)
    try simp only [Act.put, List.setIfInBounds_toArray, List.set_cons_zero, List.set_cons_succ]
    refine wpAnyH_take (i := 11) (oi := ⟨some 95, _, _, _, _, _⟩) (v := ?_) rfl (by kernel_rfl) (by kernel_rfl) (by kernel_rfl) (fun _ _ _ h => h) (Or.inl ⟨by rfl, ?_⟩) (by assumption) ?_
    rotate_left
    · (intro w hSw; (try dsimp only at hSw); go_simp; try with_reducible rfl)
    try simp only [Act.put, List.setIfInBounds_toArray, List.set_cons_zero, List.set_cons_succ]
    refine wpAnyH_take (i := 12) (oi := ⟨some 96, _, _, _, _, _⟩) (v := ?_) rfl (by kernel_rfl) (by kernel_rfl) (by kernel_rfl) (fun _ _ _ h => h) (Or.inl ⟨by rfl, ?_⟩) (by assumption) ?_
    rotate_left
    · (intro w hSw; (try dsimp only at hSw); go_simp; try with_reducible rfl)
    try simp only [Act.put, List.setIfInBounds_toArray, List.set_cons_zero, List.set_cons_succ]
    refine wpAnyH_take (i := 13) (oi := ⟨some 97, _, _, _, _, _⟩) (v := ?_) rfl (by kernel_rfl) (by kernel_rfl) (by kernel_rfl) (fun _ _ _ h => h) (Or.inl ⟨by rfl, ?_⟩) (by assumption) ?_
    rotate_left
    · (intro w hSw; (try dsimp only at hSw); go_simp; try with_reducible rfl)
    try simp only [Act.put, List.setIfInBounds_toArray, List.set_cons_zero, List.set_cons_succ]
    refine wpAnyH_ready (rs := [15]) (by kernel_rfl) (by simp) ?_
    refine AllReadyH.cons (o := ⟨some 11, _, _, _, _, _⟩) rfl (fun K hK => ?_) AllReadyH.nil
    refine step_akp HK (by rfl) (by rfl) ?_; intro wA gp HK' _; simp only [List.cons_append, List.nil_append] at HK'; replace HK := HK'; clear HK'; have hs := Lib.hid ((HK.out.takeL 1).takeR 0)
    refine hK.out _ _ hs (fun hHeld => ?_)
    clear hK K
    try simp only [Act.put, List.setIfInBounds_toArray, List.set_cons_zero, List.set_cons_succ]
    refine wpAnyH_ready (rs := [16]) (by kernel_rfl) (by simp) ?_
    refine AllReadyH.cons (o := ⟨none, _, _, _, _, _⟩) rfl (fun K hK => ?_) AllReadyH.nil
    first | (refine step_ksl HK 1 (by rfl) _ _ (by rfl) (by rfl) (by rfl) (by rfl) (by rfl) ?_; intro _ HK' _; simp only [List.set] at HK'; replace HK := HK'; clear HK'; have hs := Lib.hid ((HK.out.takeL 1).takeR 0)) | (refine step_ksl HK 2 (by rfl) _ _ (by rfl) (by rfl) (by rfl) (by rfl) (by rfl) ?_; intro _ HK' _; simp only [List.set] at HK'; replace HK := HK'; clear HK'; have hs := Lib.hid ((HK.out.takeL 1).takeR 0))
    refine hK.out _ _ hs (fun hHeld => ?_)
    clear hK K
    try simp only [Act.put, List.setIfInBounds_toArray, List.set_cons_zero, List.set_cons_succ]
    refine wpAnyH_ready (rs := [17]) (by kernel_rfl) (by simp) ?_
    refine AllReadyH.cons (o := ⟨none, _, _, _, _, _⟩) rfl (fun K hK => ?_) AllReadyH.nil
    first | (refine step_ksp HK 1 (by rfl) _ _ (by rfl) (by rfl) (by rfl) (by rfl) (by rfl) ?_; intro _ HK' _; simp only [List.set] at HK'; replace HK := HK'; clear HK'; have hs := Lib.hid ((HK.out.takeL 1).takeR 0)) | (refine step_ksp HK 2 (by rfl) _ _ (by rfl) (by rfl) (by rfl) (by rfl) (by rfl) ?_; intro _ HK' _; simp only [List.set] at HK'; replace HK := HK'; clear HK'; have hs := Lib.hid ((HK.out.takeL 1).takeR 0))
    refine hK.out _ _ hs (fun hHeld => ?_)
    clear hK K
    try simp only [Act.put, List.setIfInBounds_toArray, List.set_cons_zero, List.set_cons_succ]
    refine wpAnyH_take (i := 18) (oi := ⟨some 12, _, _, _, _, _⟩) (v := ?_) rfl (by kernel_rfl) (by kernel_rfl) (by kernel_rfl) (fun _ _ _ h => h) (Or.inl ⟨by rfl, ?_⟩) (by assumption) ?_
    rotate_left
    · (intro w hSw; (try dsimp only at hSw); go_simp; try with_reducible rfl)
    try simp only [Act.put, List.setIfInBounds_toArray, List.set_cons_zero, List.set_cons_succ]
    refine wpAnyH_done (by kernel_rfl) ?_ _
    rotate_left
    refine step_akp HK (by rfl) (by rfl) ?_; intro wA gp HK' _; simp only [List.cons_append, List.nil_append] at HK'; replace HK := HK'; clear HK'; have hs := Lib.hid ((HK.out.takeL 1).takeR 0)
    refine hK.out _ _ hs (fun hHeld => ?_)
    clear hK K
    try simp only [Act.put, List.setIfInBounds_toArray, List.set_cons_zero, List.set_cons_succ]
    refine wpAnyH_ready (rs := [9]) (by kernel_rfl) (by simp) ?_
    refine AllReadyH.cons (o := ⟨some 94, _, _, _, _, _⟩) rfl (fun K hK => ?_) AllReadyH.nil
    go_simp
    go_at_call 25
    refine (hX.out _ _ _ (HK.out.own 1 rfl)).mono ?_; rintro e w2 ⟨A1, c1, rfl, o1, b1⟩; replace HK := Lib.hid (HK.out.calledF b1 o1); clear o1 b1; have hs := Lib.hid ((HK.out.takeL 1).takeR 0)
    refine hK.out _ _ hs (fun hHeld => ?_)
    clear hK K
    try simp only [Act.put, List.setIfInBounds_toArray, List.set_cons_zero, List.set_cons_succ]
    refine wpAnyH_take (i := 10) (oi := ⟨some 84, _, _, _, _, _⟩) (v := ?_) rfl (by kernel_rfl) (by kernel_rfl) (by kernel_rfl) (fun _ _ _ h => h) (Or.inl ⟨by rfl, ?_⟩) (by assumption) ?_
    rotate_left
    · (intro w hSw; (try dsimp only at hSw); go_simp; try with_reducible rfl)
    try simp only [Act.put, List.setIfInBounds_toArray, List.set_cons_zero, List.set_cons_succ]
    refine wpAnyH_take (i := 11) (oi := ⟨some 95, _, _, _, _, _⟩) (v := ?_) rfl (by kernel_rfl) (by kernel_rfl) (by kernel_rfl) (fun _ _ _ h => h) (Or.inl ⟨by rfl, ?_⟩) (by assumption) ?_
    rotate_left
    · (intro w hSw; (try dsimp only at hSw); go_simp; try with_reducible rfl)
    try simp only [Act.put, List.setIfInBounds_toArray, List.set_cons_zero, List.set_cons_succ]
    refine wpAnyH_take (i := 12) (oi := ⟨some 96, _, _, _, _, _⟩) (v := ?_) rfl (by kernel_rfl) (by kernel_rfl) (by kernel_rfl) (fun _ _ _ h => h) (Or.inl ⟨by rfl, ?_⟩) (by assumption) ?_
    rotate_left
    · (intro w hSw; (try dsimp only at hSw); go_simp; try with_reducible rfl)
    try simp only [Act.put, List.setIfInBounds_toArray, List.set_cons_zero, List.set_cons_succ]
    refine wpAnyH_take (i := 13) (oi := ⟨some 97, _, _, _, _, _⟩) (v := ?_) rfl (by kernel_rfl) (by kernel_rfl) (by kernel_rfl) (fun _ _ _ h => h) (Or.inl ⟨by rfl, ?_⟩) (by assumption) ?_
    rotate_left
    · (intro w hSw; (try dsimp only at hSw); go_simp; try with_reducible rfl)
    try simp only [Act.put, List.setIfInBounds_toArray, List.set_cons_zero, List.set_cons_succ]
    refine wpAnyH_ready (rs := [16]) (by kernel_rfl) (by simp) ?_
    refine AllReadyH.cons (o := ⟨none, _, _, _, _, _⟩) rfl (fun K hK => ?_) AllReadyH.nil
    first | (refine step_ksl HK 1 (by rfl) _ _ (by rfl) (by rfl) (by rfl) (by rfl) (by rfl) ?_; intro _ HK' _; simp only [List.set] at HK'; replace HK := HK'; clear HK'; have hs := Lib.hid ((HK.out.takeL 1).takeR 0)) | (refine step_ksl HK 2 (by rfl) _ _ (by rfl) (by rfl) (by rfl) (by rfl) (by rfl) ?_; intro _ HK' _; simp only [List.set] at HK'; replace HK := HK'; clear HK'; have hs := Lib.hid ((HK.out.takeL 1).takeR 0))
    refine hK.out _ _ hs (fun hHeld => ?_)
    clear hK K
    try simp only [Act.put, List.setIfInBounds_toArray, List.set_cons_zero, List.set_cons_succ]
    refine wpAnyH_ready (rs := [17]) (by kernel_rfl) (by simp) ?_
    refine AllReadyH.cons (o := ⟨none, _, _, _, _, _⟩) rfl (fun K hK => ?_) AllReadyH.nil
    first | (refine step_ksp HK 1 (by rfl) _ _ (by rfl) (by rfl) (by rfl) (by rfl) (by rfl) ?_; intro _ HK' _; simp only [List.set] at HK'; replace HK := HK'; clear HK'; have hs := Lib.hid ((HK.out.takeL 1).takeR 0)) | (refine step_ksp HK 2 (by rfl) _ _ (by rfl) (by rfl) (by rfl) (by rfl) (by rfl) ?_; intro _ HK' _; simp only [List.set] at HK'; replace HK := HK'; clear HK'; have hs := Lib.hid ((HK.out.takeL 1).takeR 0))
    refine hK.out _ _ hs (fun hHeld => ?_)
    clear hK K
    try simp only [Act.put, List.setIfInBounds_toArray, List.set_cons_zero, List.set_cons_succ]
    refine wpAnyH_take (i := 18) (oi := ⟨some 12, _, _, _, _, _⟩) (v := ?_) rfl (by kernel_rfl) (by kernel_rfl) (by kernel_rfl) (fun _ _ _ h => h) (Or.inl ⟨by rfl, ?_⟩) (by assumption) ?_
    rotate_left
    · (intro w hSw; (try dsimp only at hSw); go_simp; try with_reducible rfl)
    try simp only [Act.put, List.setIfInBounds_toArray, List.set_cons_zero, List.set_cons_succ]
    refine wpAnyH_done (by kernel_rfl) ?_ _
    rotate_left
    refine step_akp HK (by rfl) (by rfl) ?_; intro wA gp HK' _; simp only [List.cons_append, List.nil_append] at HK'; replace HK := HK'; clear HK'; have hs := Lib.hid ((HK.out.takeL 1).takeR 0)
    refine hK.out _ _ hs (fun hHeld => ?_)
    clear hK K
    try simp only [Act.put, List.setIfInBounds_toArray, List.set_cons_zero, List.set_cons_succ]
    refine wpAnyH_ready (rs := [9, 14]) (by kernel_rfl) (by simp) ?_
    refine AllReadyH.cons (o := ⟨some 94, _, _, _, _, _⟩) rfl (fun K hK => ?_) (AllReadyH.cons (o := ⟨some 10, _, _, _, _, _⟩) rfl (fun K hK => ?_) AllReadyH.nil)
    go_simp
    go_at_call 25
    refine (hX.out _ _ _ (HK.out.own 1 rfl)).mono ?_; rintro e w2 ⟨A1, c1, rfl, o1, b1⟩; replace HK := Lib.hid (HK.out.calledF b1 o1); clear o1 b1; have hs := Lib.hid ((HK.out.takeL 1).takeR 0)
    refine hK.out _ _ hs (fun hHeld => ?_)
    clear hK K
    try simp only [Act.put, List.setIfInBounds_toArray, List.set_cons_zero, List.set_cons_succ]
    refine wpAnyH_take (i := 10) (oi := ⟨some 84, _, _, _, _, _⟩) (v := ?_) rfl (by kernel_rfl) (by kernel_rfl) (by kernel_rfl) (fun _ _ _ h => h) (Or.inl ⟨by rfl, ?_⟩) (by assumption) ?_
    rotate_left
    · (intro w hSw; (try dsimp only at hSw); go_simp; try with_reducible rfl)
    try simp only [Act.put, List.setIfInBounds_toArray, List.set_cons_zero, List.set_cons_succ]
    refine wpAnyH_take (i := 11) (oi := ⟨some 95, _, _, _, _, _⟩) (v := ?_) rfl (by kernel_rfl) (by kernel_rfl) (by kernel_rfl) (fun _ _ _ h => h) (Or.inl ⟨by rfl, ?_⟩) (by assumption) ?_
    rotate_left
    · (intro w hSw; (try dsimp only at hSw); go_simp; try with_reducible rfl)
    try simp only [Act.put, List.setIfInBounds_toArray, List.set_cons_zero, List.set_cons_succ]
    refine wpAnyH_take (i := 12) (oi := ⟨some 96, _, _, _, _, _⟩) (v := ?_) rfl (by kernel_rfl) (by kernel_rfl) (by kernel_rfl) (fun _ _ _ h => h) (Or.inl ⟨by rfl, ?_⟩) (by assumption) ?_
    rotate_left
    · (intro w hSw; (try dsimp only at hSw); go_simp; try with_reducible rfl)
    try simp only [Act.put, List.setIfInBounds_toArray, List.set_cons_zero, List.set_cons_succ]
    refine wpAnyH_take (i := 13) (oi := ⟨some 97, _, _, _, _, _⟩) (v := ?_) rfl (by kernel_rfl) (by kernel_rfl) (by kernel_rfl) (fun _ _ _ h => h) (Or.inl ⟨by rfl, ?_⟩) (by assumption) ?_
    rotate_left
    · (intro w hSw; (try dsimp only at hSw); go_simp; try with_reducible rfl)
    try simp only [Act.put, List.setIfInBounds_toArray, List.set_cons_zero, List.set_cons_succ]
    refine wpAnyH_ready (rs := [14]) (by kernel_rfl) (by simp) ?_
    refine AllReadyH.cons (o := ⟨some 10, _, _, _, _, _⟩) rfl (fun K hK => ?_) AllReadyH.nil
    refine step_akl' HK (by rfl) (by rfl) ?_; intro wA gl HK' _; simp only [List.cons_append, List.nil_append] at HK'; replace HK := HK'; clear HK'; have hs := Lib.hid ((HK.out.takeL 1).takeR 0)
    refine hK.out _ _ hs (fun hHeld => ?_)
    clear hK K
    try simp only [Act.put, List.setIfInBounds_toArray, List.set_cons_zero, List.set_cons_succ]
    refine wpAnyH_ready (rs := [16]) (by kernel_rfl) (by simp) ?_
    refine AllReadyH.cons (o := ⟨none, _, _, _, _, _⟩) rfl (fun K hK => ?_) AllReadyH.nil
    first | (refine step_ksl HK 1 (by rfl) _ _ (by rfl) (by rfl) (by rfl) (by rfl) (by rfl) ?_; intro _ HK' _; simp only [List.set] at HK'; replace HK := HK'; clear HK'; have hs := Lib.hid ((HK.out.takeL 1).takeR 0)) | (refine step_ksl HK 2 (by rfl) _ _ (by rfl) (by rfl) (by rfl) (by rfl) (by rfl) ?_; intro _ HK' _; simp only [List.set] at HK'; replace HK := HK'; clear HK'; have hs := Lib.hid ((HK.out.takeL 1).takeR 0))
    refine hK.out _ _ hs (fun hHeld => ?_)
    clear hK K
    try simp only [Act.put, List.setIfInBounds_toArray, List.set_cons_zero, List.set_cons_succ]
    refine wpAnyH_ready (rs := [17]) (by kernel_rfl) (by simp) ?_
    refine AllReadyH.cons (o := ⟨none, _, _, _, _, _⟩) rfl (fun K hK => ?_) AllReadyH.nil
    first | (refine step_ksp HK 1 (by rfl) _ _ (by rfl) (by rfl) (by rfl) (by rfl) (by rfl) ?_; intro _ HK' _; simp only [List.set] at HK'; replace HK := HK'; clear HK'; have hs := Lib.hid ((HK.out.takeL 1).takeR 0)) | (refine step_ksp HK 2 (by rfl) _ _ (by rfl) (by rfl) (by rfl) (by rfl) (by rfl) ?_; intro _ HK' _; simp only [List.set] at HK'; replace HK := HK'; clear HK'; have hs := Lib.hid ((HK.out.takeL 1).takeR 0))
    refine hK.out _ _ hs (fun hHeld => ?_)
    clear hK K
    try simp only [Act.put, List.setIfInBounds_toArray, List.set_cons_zero, List.set_cons_succ]
    refine wpAnyH_take (i := 18) (oi := ⟨some 12, _, _, _, _, _⟩) (v := ?_) rfl (by kernel_rfl) (by kernel_rfl) (by kernel_rfl) (fun _ _ _ h => h) (Or.inl ⟨by rfl, ?_⟩) (by assumption) ?_
    rotate_left
    · (intro w hSw; (try dsimp only at hSw); go_simp; try with_reducible rfl)
    try simp only [Act.put, List.setIfInBounds_toArray, List.set_cons_zero, List.set_cons_succ]
    refine wpAnyH_done (by kernel_rfl) ?_ _
    rotate_left
    refine step_akl' HK (by rfl) (by rfl) ?_; intro wA gl HK' _; simp only [List.cons_append, List.nil_append] at HK'; replace HK := HK'; clear HK'; have hs := Lib.hid ((HK.out.takeL 1).takeR 0)
    refine hK.out _ _ hs (fun hHeld => ?_)
    clear hK K
    try simp only [Act.put, List.setIfInBounds_toArray, List.set_cons_zero, List.set_cons_succ]
    refine wpAnyH_ready (rs := [9]) (by kernel_rfl) (by simp) ?_
    refine AllReadyH.cons (o := ⟨some 94, _, _, _, _, _⟩) rfl (fun K hK => ?_) AllReadyH.nil
    go_simp
    go_at_call 25
    refine (hX.out _ _ _ (HK.out.own 1 rfl)).mono ?_; rintro e w2 ⟨A1, c1, rfl, o1, b1⟩; replace HK := Lib.hid (HK.out.calledF b1 o1); clear o1 b1; have hs := Lib.hid ((HK.out.takeL 1).takeR 0)
    refine hK.out _ _ hs (fun hHeld => ?_)
    clear hK K
    try simp only [Act.put, List.setIfInBounds_toArray, List.set_cons_zero, List.set_cons_succ]
    refine wpAnyH_take (i := 10) (oi := ⟨some 84, _, _, _, _, _⟩) (v := ?_) rfl (by kernel_rfl) (by kernel_rfl) (by kernel_rfl) (fun _ _ _ h => h) (Or.inl ⟨by rfl, ?_⟩) (by assumption) ?_
    rotate_left
    · (intro w hSw; (try dsimp only at hSw); go_simp; try with_reducible rfl)
    try simp only [Act.put, List.setIfInBounds_toArray, List.set_cons_zero, List.set_cons_succ]
    refine wpAnyH_take (i := 11) (oi := ⟨some 95, _, _, _, _, _⟩) (v := ?_) rfl (by kernel_rfl) (by kernel_rfl) (by kernel_rfl) (fun _ _ _ h => h) (Or.inl ⟨by rfl, ?_⟩) (by assumption) ?_
    rotate_left
    · (intro w hSw; (try dsimp only at hSw); go_simp; try with_reducible rfl)
    try simp only [Act.put, List.setIfInBounds_toArray, List.set_cons_zero, List.set_cons_succ]
    refine wpAnyH_take (i := 12) (oi := ⟨some 96, _, _, _, _, _⟩) (v := ?_) rfl (by kernel_rfl) (by kernel_rfl) (by kernel_rfl) (fun _ _ _ h => h) (Or.inl ⟨by rfl, ?_⟩) (by assumption) ?_
    rotate_left
    · (intro w hSw; (try dsimp only at hSw); go_simp; try with_reducible rfl)
    try simp only [Act.put, List.setIfInBounds_toArray, List.set_cons_zero, List.set_cons_succ]
    refine wpAnyH_take (i := 13) (oi := ⟨some 97, _, _, _, _, _⟩) (v := ?_) rfl (by kernel_rfl) (by kernel_rfl) (by kernel_rfl) (fun _ _ _ h => h) (Or.inl ⟨by rfl, ?_⟩) (by assumption) ?_
    rotate_left
    · (intro w hSw; (try dsimp only at hSw); go_simp; try with_reducible rfl)
    try simp only [Act.put, List.setIfInBounds_toArray, List.set_cons_zero, List.set_cons_succ]
    refine wpAnyH_ready (rs := [16]) (by kernel_rfl) (by simp) ?_
    refine AllReadyH.cons (o := ⟨none, _, _, _, _, _⟩) rfl (fun K hK => ?_) AllReadyH.nil
    first | (refine step_ksl HK 1 (by rfl) _ _ (by rfl) (by rfl) (by rfl) (by rfl) (by rfl) ?_; intro _ HK' _; simp only [List.set] at HK'; replace HK := HK'; clear HK'; have hs := Lib.hid ((HK.out.takeL 1).takeR 0)) | (refine step_ksl HK 2 (by rfl) _ _ (by rfl) (by rfl) (by rfl) (by rfl) (by rfl) ?_; intro _ HK' _; simp only [List.set] at HK'; replace HK := HK'; clear HK'; have hs := Lib.hid ((HK.out.takeL 1).takeR 0))
    refine hK.out _ _ hs (fun hHeld => ?_)
    clear hK K
    try simp only [Act.put, List.setIfInBounds_toArray, List.set_cons_zero, List.set_cons_succ]
    refine wpAnyH_ready (rs := [17]) (by kernel_rfl) (by simp) ?_
    refine AllReadyH.cons (o := ⟨none, _, _, _, _, _⟩) rfl (fun K hK => ?_) AllReadyH.nil
    first | (refine step_ksp HK 1 (by rfl) _ _ (by rfl) (by rfl) (by rfl) (by rfl) (by rfl) ?_; intro _ HK' _; simp only [List.set] at HK'; replace HK := HK'; clear HK'; have hs := Lib.hid ((HK.out.takeL 1).takeR 0)) | (refine step_ksp HK 2 (by rfl) _ _ (by rfl) (by rfl) (by rfl) (by rfl) (by rfl) ?_; intro _ HK' _; simp only [List.set] at HK'; replace HK := HK'; clear HK'; have hs := Lib.hid ((HK.out.takeL 1).takeR 0))
    refine hK.out _ _ hs (fun hHeld => ?_)
    clear hK K
    try simp only [Act.put, List.setIfInBounds_toArray, List.set_cons_zero, List.set_cons_succ]
    refine wpAnyH_take (i := 18) (oi := ⟨some 12, _, _, _, _, _⟩) (v := ?_) rfl (by kernel_rfl) (by kernel_rfl) (by kernel_rfl) (fun _ _ _ h => h) (Or.inl ⟨by rfl, ?_⟩) (by assumption) ?_
    rotate_left
    · (intro w hSw; (try dsimp only at hSw); go_simp; try with_reducible rfl)
    try simp only [Act.put, List.setIfInBounds_toArray, List.set_cons_zero, List.set_cons_succ]
    refine wpAnyH_done (by kernel_rfl) ?_ _
    rotate_left
    all_goals
      go_wp2_with fail
      go_meet
      first
        | exact ⟨gl, gp, A1, c1, rfl, rfl, rfl, HK⟩
        | exact ⟨gl, gp, A1, c1, rfl, rfl, rfl, Lib.hid (Kn.swap1 HK.out)⟩
  case rest =>
  clear HK hX
  obtain ⟨gl, gp, A1, c1, rfl, rfl, rfl, HK⟩ := hcut
  have HLw : Hid (way.length + [p1].length ≤ 9223372036854775807 ∧ (way.length + [p1].length) * pktLay.bytes ≤ 211106232532992) := Lib.hid ⟨by rw [← HNw.out]; simp; omega, by rw [← HNw.out]; show _ * 64 ≤ _; simp; omega⟩
  have HLx : Hid ((way ++ [p1]).length = nw + 1) := Lib.hid (by rw [HNw.out]; simp)
  have HLr : Hid (back.length + [nm].length ≤ 9223372036854775807 ∧ (back.length + [nm].length) * strLay.bytes ≤ 211106232532992) := Lib.hid ⟨by rw [← HNk.out]; simp; omega, by rw [← HNk.out]; show _ * 16 ≤ _; simp; omega⟩
  have HLs : Hid ((back ++ [nm]).length = nk + 1) := Lib.hid (by rw [HNk.out]; simp)
  by_cases h0 : e1 = 0
  · subst h0
    go_wp2_with (first | refine wpList_kll HK 1 rfl _ rfl rfl rfl ?_ | (refine wpList_sb HK 0 rfl _ _ rfl rfl rfl rfl ?_; intro _ HK' _; simp only [List.set] at HK'; replace HK := HK'; clear HK'))
    replace HK := Lib.hid HK.out.drew
    have HH := Lib.hid ((HK.out.dropL 2).takeR 0)
    refine wp_region_held_drew (S := (fun W => Hid (Kn b0 w0 W [(gp, 36, pA p1)] []))) (by kernel_rfl) ?_ (fun hHeld => ?_)
    · (try dsimp only); exact HH
    refine wpAnyH_take (i := 0) (oi := ⟨some 104, _, _, _, _, _⟩) (v := ?_) rfl (by kernel_rfl) (by kernel_rfl) (by kernel_rfl) (fun _ _ _ h => h) (Or.inl ⟨by rfl, ?_⟩) (by assumption) ?_
    rotate_left
    · (intro w hSw; (try dsimp only at hSw); go_simp; try with_reducible rfl)
    try simp only [Act.put, List.setIfInBounds_toArray, List.set_cons_zero, List.set_cons_succ]
    refine wpAnyH_take (i := 1) (oi := ⟨some 105, _, _, _, _, _⟩) (v := ?_) rfl (by kernel_rfl) (by kernel_rfl) (by kernel_rfl) (fun _ _ _ h => h) (Or.inl ⟨by rfl, ?_⟩) (by assumption) ?_
    rotate_left
    · (intro w hSw; (try dsimp only at hSw); go_simp; try with_reducible rfl)
    try simp only [Act.put, List.setIfInBounds_toArray, List.set_cons_zero, List.set_cons_succ]
    refine wpAnyH_take (i := 2) (oi := ⟨some 106, _, _, _, _, _⟩) (v := ?_) rfl (by kernel_rfl) (by kernel_rfl) (by kernel_rfl) (fun _ _ _ h => h) (Or.inl ⟨by rfl, ?_⟩) (by assumption) ?_
    rotate_left
    · (intro w hSw; (try dsimp only at hSw); go_simp; try with_reducible rfl)
    try simp only [Act.put, List.setIfInBounds_toArray, List.set_cons_zero, List.set_cons_succ]
    refine wpAnyH_take (i := 3) (oi := ⟨some 107, _, _, _, _, _⟩) (v := ?_) rfl (by kernel_rfl) (by kernel_rfl) (by kernel_rfl) (fun _ _ _ h => h) (Or.inl ⟨by rfl, ?_⟩) (by assumption) ?_
    rotate_left
    · (intro w hSw; (try dsimp only at hSw); go_simp; try with_reducible rfl)
    try simp only [Act.put, List.setIfInBounds_toArray, List.set_cons_zero, List.set_cons_succ]
    refine wpAnyH_take (i := 5) (oi := ⟨some 109, _, _, _, _, _⟩) (v := ?_) rfl (by kernel_rfl) (by kernel_rfl) (by kernel_rfl) (fun _ _ _ h => h) (Or.inl ⟨by rfl, ?_⟩) (by assumption) ?_
    rotate_left
    · (intro w hSw; refine Eq.trans (kexec_lp hSw 0 _ (by rfl) (by rfl) (by rfl)) ?_; with_reducible rfl)
    try simp only [Act.put, List.setIfInBounds_toArray, List.set_cons_zero, List.set_cons_succ]
    refine wpAnyH_ready (rs := [4, 6]) (by kernel_rfl) (by simp) ?_
    refine AllReadyH.cons (o := ⟨some 108, _, _, _, _, _⟩) rfl (fun K hK => ?_) (AllReadyH.cons (o := ⟨some 110, _, _, _, _, _⟩) rfl (fun K hK => ?_) AllReadyH.nil)
    refine step_x (by rfl) (kexec_cw HK 0 _ (by rfl) (by rfl) (by rfl) (by rfl)) ?_; have hs := Lib.hid ((HK.out.dropL 2).takeR 0)
    refine hK.out _ _ hs (fun hHeld => ?_)
    clear hK K
    try simp only [Act.put, List.setIfInBounds_toArray, List.set_cons_zero, List.set_cons_succ]
    refine wpAnyH_ready (rs := [6]) (by kernel_rfl) (by simp) ?_
    refine AllReadyH.cons (o := ⟨some 110, _, _, _, _, _⟩) rfl (fun K hK => ?_) AllReadyH.nil
    refine step_mkp (by rfl) _ (by rfl) (by rfl) ?_; have hs := Lib.hid (((HK.out.dropL 2).takeR 0).allocO (.cells (pA p1) 36))
    refine hK.out _ _ hs (fun hHeld => ?_)
    clear hK K
    try simp only [Act.put, List.setIfInBounds_toArray, List.set_cons_zero, List.set_cons_succ]
    refine wpAnyH_ready (rs := [7]) (by kernel_rfl) (by simp) ?_
    refine AllReadyH.cons (o := ⟨some 111, _, _, _, _, _⟩) rfl (fun K hK => ?_) AllReadyH.nil
    refine step_kpush HK pktLay 3 (by rfl) _ _ (by rfl) (by rfl) (by rfl) [p1] (by rfl) (by rfl) (by rfl) (by rfl) HLw HLx ?_; intro A2 c2 w3 HK'; simp only [List.set] at HK'; replace HK := HK'; clear HK'; have hs := Lib.hid ((HK.out.dropL 2).takeR 0)
    refine hK.out _ _ hs (fun hHeld => ?_)
    clear hK K
    try simp only [Act.put, List.setIfInBounds_toArray, List.set_cons_zero, List.set_cons_succ]
    refine wpAnyH_take (i := 8) (oi := ⟨some 112, _, _, _, _, _⟩) (v := ?_) rfl (by kernel_rfl) (by kernel_rfl) (by kernel_rfl) (fun _ _ _ h => h) (Or.inl ⟨by rfl, ?_⟩) (by assumption) ?_
    rotate_left
    · (intro w hSw; (try dsimp only at hSw); go_simp; try with_reducible rfl)
    try simp only [Act.put, List.setIfInBounds_toArray, List.set_cons_zero, List.set_cons_succ]
    refine wpAnyH_take (i := 9) (oi := ⟨some 113, _, _, _, _, _⟩) (v := ?_) rfl (by kernel_rfl) (by kernel_rfl) (by kernel_rfl) (fun _ _ _ h => h) (Or.inl ⟨by rfl, ?_⟩) (by assumption) ?_
    rotate_left
    · (intro w hSw; (try dsimp only at hSw); go_simp; try with_reducible rfl)
    try simp only [Act.put, List.setIfInBounds_toArray, List.set_cons_zero, List.set_cons_succ]
    refine wpAnyH_ready (rs := [10]) (by kernel_rfl) (by simp) ?_
    refine AllReadyH.cons (o := ⟨none, _, _, _, _, _⟩) rfl (fun K hK => ?_) AllReadyH.nil
    refine step_s16 HK 0 (by rfl) _ _ (by rfl) (by rfl) (by rfl) (by rfl) ?_; intro w4 HK' _; simp only [List.set] at HK'; replace HK := HK'; clear HK'; have hs := Lib.hid ((HK.out.dropL 2).takeR 0)
    refine hK.out _ _ hs (fun hHeld => ?_)
    clear hK K
    try simp only [Act.put, List.setIfInBounds_toArray, List.set_cons_zero, List.set_cons_succ]
    refine wpAnyH_done (by kernel_rfl) ?_ _
    rotate_left
    refine step_mkp (by rfl) _ (by rfl) (by rfl) ?_; have hs := Lib.hid (((HK.out.dropL 2).takeR 0).allocO (.cells (pA p1) 36))
    refine hK.out _ _ hs (fun hHeld => ?_)
    clear hK K
    try simp only [Act.put, List.setIfInBounds_toArray, List.set_cons_zero, List.set_cons_succ]
    refine wpAnyH_ready (rs := [4]) (by kernel_rfl) (by simp) ?_
    refine AllReadyH.cons (o := ⟨some 108, _, _, _, _, _⟩) rfl (fun K hK => ?_) AllReadyH.nil
    refine step_x (by rfl) (kexec_cw (Lib.hid (HK.out.allocO _)) 0 _ (by rfl) (by rfl) (by rfl) (by rfl)) ?_; have hs := Lib.hid (((HK.out.dropL 2).takeR 0).allocO (.cells (pA p1) 36))
    refine hK.out _ _ hs (fun hHeld => ?_)
    clear hK K
    try simp only [Act.put, List.setIfInBounds_toArray, List.set_cons_zero, List.set_cons_succ]
    refine wpAnyH_ready (rs := [7]) (by kernel_rfl) (by simp) ?_
    refine AllReadyH.cons (o := ⟨some 111, _, _, _, _, _⟩) rfl (fun K hK => ?_) AllReadyH.nil
    refine step_kpush HK pktLay 3 (by rfl) _ _ (by rfl) (by rfl) (by rfl) [p1] (by rfl) (by rfl) (by rfl) (by rfl) HLw HLx ?_; intro A2 c2 w3 HK'; simp only [List.set] at HK'; replace HK := HK'; clear HK'; have hs := Lib.hid ((HK.out.dropL 2).takeR 0)
    refine hK.out _ _ hs (fun hHeld => ?_)
    clear hK K
    try simp only [Act.put, List.setIfInBounds_toArray, List.set_cons_zero, List.set_cons_succ]
    refine wpAnyH_take (i := 8) (oi := ⟨some 112, _, _, _, _, _⟩) (v := ?_) rfl (by kernel_rfl) (by kernel_rfl) (by kernel_rfl) (fun _ _ _ h => h) (Or.inl ⟨by rfl, ?_⟩) (by assumption) ?_
    rotate_left
    · (intro w hSw; (try dsimp only at hSw); go_simp; try with_reducible rfl)
    try simp only [Act.put, List.setIfInBounds_toArray, List.set_cons_zero, List.set_cons_succ]
    refine wpAnyH_take (i := 9) (oi := ⟨some 113, _, _, _, _, _⟩) (v := ?_) rfl (by kernel_rfl) (by kernel_rfl) (by kernel_rfl) (fun _ _ _ h => h) (Or.inl ⟨by rfl, ?_⟩) (by assumption) ?_
    rotate_left
    · (intro w hSw; (try dsimp only at hSw); go_simp; try with_reducible rfl)
    try simp only [Act.put, List.setIfInBounds_toArray, List.set_cons_zero, List.set_cons_succ]
    refine wpAnyH_ready (rs := [10]) (by kernel_rfl) (by simp) ?_
    refine AllReadyH.cons (o := ⟨none, _, _, _, _, _⟩) rfl (fun K hK => ?_) AllReadyH.nil
    refine step_s16 HK 0 (by rfl) _ _ (by rfl) (by rfl) (by rfl) (by rfl) ?_; intro w4 HK' _; simp only [List.set] at HK'; replace HK := HK'; clear HK'; have hs := Lib.hid ((HK.out.dropL 2).takeR 0)
    refine hK.out _ _ hs (fun hHeld => ?_)
    clear hK K
    try simp only [Act.put, List.setIfInBounds_toArray, List.set_cons_zero, List.set_cons_succ]
    refine wpAnyH_done (by kernel_rfl) ?_ _
    rotate_left
    all_goals
      go_wp2_with (first | refine wpList_kcv HK 0 rfl _ rfl rfl rfl rfl ?_ | (at_builtin; refine wpList_kpush HK strLay 5 rfl _ _ rfl rfl rfl [nm] rfl rfl rfl rfl HLr HLs ?_; intro A3 c3 _ HK'; simp only [List.set] at HK'; replace HK := HK'; clear HK') | (refine wpList_s18 HK 0 rfl _ _ rfl rfl rfl rfl ?_; intro _ HK' _; simp only [List.set] at HK'; replace HK := HK'; clear HK'))
      ((try simp only [Exit.inBlock, Exit.then]); first | refine bodyPost_ret (results_none Try.results33 _ _ _) rfl ?_ | refine bodyPost_end (results_none Try.results33 _ _ _) rfl ?_)
      rw [← HPX.out]; first | rw [if_pos trivial] | rw [if_pos rfl]
      have hk := (HK.out.takeL 1).into 1
      simp only [List.take, List.set] at hk
      exact ⟨rfl, Aa, A1, A2, As, A3, Ag, Ah, na, n1, nw + 1, ns, nk + 1, ng, nh, ca, c1, c2, cs, c3, cg, ch, S, ⟨HF.out.1.1, HN1.out.symm, HLx.out.symm, HF.out.1.2.2.1, HLs.out.symm, HF.out.1.2.2.2.2.1, HF.out.1.2.2.2.2.2⟩, HF.out.2, hk⟩
  · have hd : (e1 == 0) = false := by simpa using h0
    go_wp2_with fail
    ((try simp only [Exit.inBlock, Exit.then]); first | refine bodyPost_ret (results_none Try.results33 _ _ _) rfl ?_ | refine bodyPost_end (results_none Try.results33 _ _ _) rfl ?_)
    rw [← HPX.out, if_neg h0]
    exact ⟨rfl, Aa, Ab, Aw, As, Ak, Ag, Ah, na, nb, nw, ns, nk, ng, nh, ca, cb, cw, cs, ck, cg, ch, S, ⟨HF.out.1.1, HF.out.1.2.1, HNw.out, HF.out.1.2.2.1, HF.out.1.2.2.2.1, HF.out.1.2.2.2.2.1, HF.out.1.2.2.2.2.2⟩, HF.out.2, (HK.out.takeL 1).dropR 1⟩
end Go.Proofs.Ytamjcghdebjpjaa
