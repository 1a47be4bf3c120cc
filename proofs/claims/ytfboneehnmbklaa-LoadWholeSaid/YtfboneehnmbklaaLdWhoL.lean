/-
  The law LoadWhole.
  No condition but what the slice reads as, and the form's own reach of a text.
-/
import Derived.Test.YtfboneehnmbklaaLdPlaysL
import Derived.Test.YtfboneehnmbklaaLdCutsL
import Derived.Test.YtfboneehnmbklaaLdWhM
import Derived.Deep.DeepCutAuto
set_option linter.unusedSimpArgs false
set_option linter.unusedVariables false
namespace Go.Proofs.Ytfboneehnmbklaa
open Go.RowKit

theorem ltmod_at (a : Int) (n : Nat) (hn : 0 < n) : ∃ p : Nat, p < n ∧ (IntKind.u64.wrap a).tmod (n : Int) = (p : Int) := by
  rw [IntKind.wrap_u64]
  obtain ⟨m, hm⟩ := Int.eq_ofNat_of_zero_le (show 0 ≤ a % 18446744073709551616 by omega)
  rw [hm]
  exact ⟨m % n, Nat.mod_lt _ hn, rfl⟩
theorem ct_pce {v : Int} {s : ByteArray} {k : Nat} (hs : s.size ≤ 16384) (hk : k < Ldm.cn s.size) : Ldm.ct v s (k : Int) = ⟨v, (k : Int), (Ldm.cn s.size : Nat), Crc.more 0 s.data.toList, Ldm.pce s k⟩ ∧ Ldm.ctE s (k : Int) = 0 := ct_ok (by omega) hk
theorem pce_pr {v : Int} {s : ByteArray} {k : Nat} (hs : s.size ≤ 16384) (hk : k < Ldm.cn s.size) : Ldm.PR ⟨v, (k : Int), (Ldm.cn s.size : Nat), Crc.more 0 s.data.toList, Ldm.pce s k⟩ := by
  have h := ct_pr (v := v) (ct_pce (v := v) hs hk).2
  rw [(ct_pce (v := v) hs hk).1] at h
  exact h
theorem st_other {v : Int} {s : ByteArray} {C : List Bool} {y : Ldd} {k : Nat} (h : Ldm.Inv v s C y) (hs : s.size ≤ 16384) (hk : k < Ldm.cn s.size) : Ldm.tkE y ⟨v + 1, (k : Int), (Ldm.cn s.size : Nat), Crc.more 0 s.data.toList, Ldm.pce s k⟩ = 9 :=
  (Ldm.tk_other (Ldm.inv_lr h hs) (pce_pr hs hk) (fun q => by have q1 := q.1; rw [h.2.1] at q1; exact absurd q1 (by show ¬ v = v + 1; omega))).2
theorem inv_al {v : Int} {s : ByteArray} {C : List Bool} {y : Ldd} {k : Nat} (h : Ldm.Inv v s C y) : Ldm.AL y ⟨v, (k : Int), (Ldm.cn s.size : Nat), Crc.more 0 s.data.toList, Ldm.pce s k⟩ := by
  refine ⟨h.2.1, ?_⟩
  rcases h.2.2 with ⟨rfl, _⟩ | ⟨h1, h2, _⟩
  · exact .inl rfl
  · exact .inr ⟨h1, h2⟩
theorem st_have {v : Int} {s : ByteArray} {C : List Bool} {y : Ldd} {k : Nat} (h : Ldm.Inv v s C y) (hs : s.size ≤ 16384) (hk : k < Ldm.cn s.size) (hx : C[k]? = some true) :
    Ldm.tkE y ⟨v, (k : Int), (Ldm.cn s.size : Nat), Crc.more 0 s.data.toList, Ldm.pce s k⟩ = 8 ∧ ¬ y.t = 0 := by
  have c1 := Ldm.cn_pos s.size
  have ht : ¬ y.t = 0 := by
    rcases h.2.2 with ⟨_, h2⟩ | ⟨h1, _⟩
    · rw [h2 k hk] at hx; cases hx
    · rw [h1]; omega
  refine ⟨(Ldm.tk_twice (Ldm.inv_lr h hs) (pce_pr hs hk) (inv_al h) ht ?_).2, ht⟩
  rcases h.2.2 with ⟨_, h2⟩ | ⟨_, _, h3, _⟩
  · rw [h2 k hk] at hx; cases hx
  · rw [h3]; exact hx
theorem st_new {v : Int} {s : ByteArray} {C : List Bool} {y : Ldd} {k : Nat} (h : Ldm.Inv v s C y) (hs : s.size ≤ 16384) (hk : k < Ldm.cn s.size) (hx : C[k]? = some false) :
    Ldm.tkE y ⟨v, (k : Int), (Ldm.cn s.size : Nat), Crc.more 0 s.data.toList, Ldm.pce s k⟩ = 0 ∧ Ldm.Inv v s (C.set k true) (Ldm.tk y ⟨v, (k : Int), (Ldm.cn s.size : Nat), Crc.more 0 s.data.toList, Ldm.pce s k⟩) ∧ ¬ (Ldm.tk y ⟨v, (k : Int), (Ldm.cn s.size : Nat), Crc.more 0 s.data.toList, Ldm.pce s k⟩).t = 0 := by
  have c1 := Ldm.cn_pos s.size
  have hl := Ldm.inv_lr h hs
  have hp := pce_pr (v := v) hs hk
  have ha := inv_al (k := k) h
  have hset : ∀ (D : List ByteArray), D.length = Ldm.cn s.size → (∀ j, j ≠ k → C[j]? = some true → D[j]? = some (Ldm.pce s j)) → ∀ j, (C.set k true)[j]? = some true → (D.set k (Ldm.pce s k))[j]? = some (Ldm.pce s j) := fun D hD hj j q => by
    rw [List.getElem?_set] at q ⊢
    by_cases e : k = j
    · subst e
      rw [if_pos rfl, if_pos (by omega)]
    · rw [if_neg e] at q ⊢
      exact hj j (fun e2 => e e2.symm) q
  rcases h.2.2 with ⟨rfl, h2⟩ | ⟨h1, h2, h3, h4, h5⟩
  · obtain ⟨e1, e2⟩ := Ldm.tk_first hl hp ha rfl
    have hC : C = List.replicate (Ldm.cn s.size) false := by
      apply List.ext_getElem?
      intro i
      rw [List.getElem?_replicate]
      split
      · rename_i q; exact h2 i q
      · rename_i q; exact List.getElem?_eq_none (by rw [h.1]; omega)
    refine ⟨e2, ?_, ?_⟩
    · rw [e1]
      refine ⟨by rw [List.length_set]; exact h.1, rfl, .inr ⟨rfl, rfl, ?_, by simp [Ldm.pt, Ldm.bg], ?_⟩⟩
      · rw [hC]; simp [Ldm.pt, Ldm.bg]
      · have e3 : (Ldm.pt (Ldm.bg ⟨v, (k : Int), (Ldm.cn s.size : Nat), Crc.more 0 s.data.toList, Ldm.pce s k⟩) ⟨v, (k : Int), (Ldm.cn s.size : Nat), Crc.more 0 s.data.toList, Ldm.pce s k⟩).d = (List.replicate (Ldm.cn s.size) ⟨#[]⟩).set k (Ldm.pce s k) := by simp [Ldm.pt, Ldm.bg]
        rw [e3]
        exact hset _ (by simp) (fun j hj q => by
          have hjl := (List.getElem?_eq_some_iff.1 q).1
          rw [h2 j (by rw [← h.1]; exact hjl)] at q; cases q)
    · rw [e1]
      show ¬ ((Ldm.cn s.size : Nat) : Int) = 0
      omega
  · have ht : ¬ y.t = 0 := by rw [h1]; omega
    obtain ⟨e1, e2⟩ := Ldm.tk_new hl hp ha ht (by rw [h3]; show ¬ C[((k : Int)).toNat]? = some true; rw [Int.toNat_natCast, hx]; simp)
    refine ⟨e2, ?_, ?_⟩
    · rw [e1]
      refine ⟨by rw [List.length_set]; exact h.1, h.2.1, .inr ⟨h1, h2, ?_, ?_, ?_⟩⟩
      · show y.h.set _ _ = _
        rw [h3]; rfl
      · show (y.d.set _ _).length = _
        rw [List.length_set]; exact h4
      · exact hset y.d h4 (fun j _ q => h5 j q)
    · rw [e1]; exact ht
theorem Kn.rotB {b0 : Nat} {w0 w : World} {L : List (Nat × TypeId × Array Value)} {r0 r1 r2 r3 r4 : RowE} (h : Kn b0 w0 w L [r0, r1, r2, r3, r4]) : Kn b0 w0 w L [r0, r3, r4] :=
  h.pick id (fun i => if i = 0 then 0 else i + 2) (fun i j _ _ h => h) (fun i j hi hj h => by simp at hi hj; split <;> split <;> omega) (fun i x hx => hx) (fun i x hx => by
    match i, hx with
    | 0, hx => exact hx
    | 1, hx => exact hx
    | 2, hx => exact hx)
/-- A cell of a row that is known. -/
theorem Kn.bat {b0 : Nat} {w0 w : World} {L : List (Nat × TypeId × Array Value)} {R : List RowE} (h : Kn b0 w0 w L R) {j g n c : Nat} {l : List Bool} (hR : R[j]? = some (row bLay (.slice (some ⟨g, 0, none⟩) n c) l)) {i : Nat} {x : Bool} (hx : l[i]? = some x) : w.cell? ⟨g, i, none⟩ = some (.bool x) := by
  have ho := h.own j hR
  obtain ⟨b, o, e, _, hc⟩ := ho.rd.1 (by have := (List.getElem?_eq_some_iff.1 hx).1; omega)
  injection e with e
  injection e with e1 e2
  subst e1 e2
  have h1 := hc i x hx 0 _ rfl
  have e3 : 0 + i * bLay.k + 0 = i := by show 0 + i * 1 + 0 = _; omega
  rwa [e3] at h1
set_option maxRecDepth 100000 in
set_option maxHeartbeats 25600000 in
theorem lwholes_any (v : Int) (s : ByteArray) (A : Option Addr) (n c : Nat) (l : List Int) (w : World) (hs : s.size ≤ reachBytes) (hl : Sls inLay inF w A n c l) :
    Lift.Yes Try.prog 6 #[.int .i64 v, .string s, .slice A n c] w := by
  have hs2 : s.size ≤ 140737488351232 := hs
  have HAw := Lib.hid lawake_any
  have HN := Lib.hid (fun W => (count_any s W hs2).mono fun e w' h => (⟨h.1, h.2.symm⟩ : e = .returned (.int .i64 (Ldm.cn s.size : Nat)) ∧ W = w'))
  have HL := Lib.hid hl
  have hn : n * 8 ≤ 140737488355328 := hl.big
  have HNew := Lib.hid (fun W => lnew_any v W)
  have HK := Lib.hid (Kn.start w)
  have hN1 := Ldm.cn_pos s.size
  clear hl hs
  unfold IsB at HAw
  unfold Lift.Yes
  by_cases hc : s.size ≤ 4000 ∧ 1 ≤ v ∧ v ≤ 1099511627776
  case neg =>
    have h3 : 4000 < s.size ∨ (s.size ≤ 4000 ∧ v < 1) ∨ (s.size ≤ 4000 ∧ 1 ≤ v ∧ 1099511627776 < v) := by omega
    clear hc HL hn HNew
    generalize Ldm.cn s.size = N at *
    have hNi : (1 : Int) ≤ (N : Int) := by omega
    have h4 : (4000 : Int) < (s.size : Int) ∨ (¬ (4000 : Int) < (s.size : Int) ∧ v < 1) ∨ (¬ (4000 : Int) < (s.size : Int) ∧ ¬ v < 1 ∧ 1099511627776 < v) := by omega
    clear h3
    rcases h4 with q1 | ⟨q1, q2⟩ | ⟨q1, q2, q3⟩
    all_goals
      go_enter Try.func6, Try.ntmps6
      go_wp2_with fail
      refine (HN.out _).mono ?_; rintro e w1 ⟨rfl, rfl⟩
      go_wp2_with fail
      refine (HAw.out _).mono ?_; rintro e w1 ⟨rfl, b1⟩
      replace HK := Lib.hid (HK.out.call b1); clear b1
      go_wp2_with fail
      go_ret
      exact ⟨rfl, HK.out.b⟩
  obtain ⟨hs4, hv1, hv2⟩ := hc
  have hs6 : s.size ≤ 16384 := by omega
  have hN2 := Ldm.cn_le hs6
  have HInv := Lib.hid (Ldm.inv_new v s)
  have HLft := Lib.hid (Ldm.lft_rep (Ldm.cn s.size))
  have HOth : Hid (∀ (C : List Bool) (y : Ldd) (k : Nat), Ldm.Inv v s C y → k < Ldm.cn s.size → Ldm.tkE y ⟨v + 1, (k : Int), (Ldm.cn s.size : Nat), Crc.more 0 s.data.toList, Ldm.pce s k⟩ = 9) := Lib.hid fun C y k h hk => st_other h hs6 hk
  have HHav : Hid (∀ (C : List Bool) (y : Ldd) (k : Nat), Ldm.Inv v s C y → k < Ldm.cn s.size → C[k]? = some true → Ldm.tkE y ⟨v, (k : Int), (Ldm.cn s.size : Nat), Crc.more 0 s.data.toList, Ldm.pce s k⟩ = 8 ∧ ¬ y.t = 0) := Lib.hid fun C y k h hk => st_have h hs6 hk
  have HNw : Hid (∀ (C : List Bool) (y : Ldd) (k : Nat), Ldm.Inv v s C y → k < Ldm.cn s.size → C[k]? = some false → Ldm.tkE y ⟨v, (k : Int), (Ldm.cn s.size : Nat), Crc.more 0 s.data.toList, Ldm.pce s k⟩ = 0 ∧ Ldm.Inv v s (C.set k true) (Ldm.tk y ⟨v, (k : Int), (Ldm.cn s.size : Nat), Crc.more 0 s.data.toList, Ldm.pce s k⟩) ∧ ¬ (Ldm.tk y ⟨v, (k : Int), (Ldm.cn s.size : Nat), Crc.more 0 s.data.toList, Ldm.pce s k⟩).t = 0) := Lib.hid fun C y k h hk => st_new h hs6 hk
  have HMore : Hid (∀ (C : List Bool) (y : Ldd), Ldm.Inv v s C y → 0 < Ldm.lft C → ¬ y.t = 0 → ∃ j, j < Ldm.cn s.size ∧ Ldm.ms y = (j : Int) ∧ C[j]? = some false ∧ Ldm.whE y = 5) := Lib.hid fun C y h => Ldm.wh_more h hs6
  have HAll : Hid (∀ (C : List Bool) (y : Ldd), Ldm.Inv v s C y → Ldm.lft C = 0 → ¬ y.t = 0 → Ldm.ms y = -1 ∧ Ldm.whE y = 0 ∧ Ldm.wh y = s) := Lib.hid fun C y h => Ldm.wh_all h hs6
  have HPr : Hid (∀ (u : Int) (k : Nat), k < Ldm.cn s.size → Ldm.PR ⟨u, (k : Int), (Ldm.cn s.size : Nat), Crc.more 0 s.data.toList, Ldm.pce s k⟩) := Lib.hid fun u k hk => pce_pr hs6 hk
  have HCut : Hid (∀ (u : Int) (k : Nat), k < Ldm.cn s.size → ∀ W, Calls Try.prog 8 #[.int .i64 u, .string s, .int .i64 (k : Int)] W fun e w' => e = .returned (.tuple #[.agg #[.int .i64 u, .int .i64 (k : Int), .int .i64 (Ldm.cn s.size : Nat), .int .u32 (Crc.more 0 s.data.toList : Nat), .string (Ldm.pce s k)], .int .i64 0]) ∧ Below W.heap.size W w') := Lib.hid fun u k hk W => by
    have h := lcut_any u s (k : Int) W hs2
    rw [(ct_pce (v := u) hs6 hk).1, (ct_pce (v := u) hs6 hk).2] at h
    exact h
  have HCl : Hid (∀ (C : List Bool) (y : Ldd), Ldm.Inv v s C y → C.length = Ldm.cn s.size) := Lib.hid fun C y h => h.1
  have hw1 : IntKind.i64.wrap (v + 1) = v + 1 := by rw [IntKind.wrap_i64]; omega
  have q1 : ¬ (4000 : Int) < (s.size : Int) := by omega
  have q2 : ¬ v < 1 := by omega
  have q3 : ¬ 1099511627776 < v := by omega
  clear hs2 hs4 hv1 hv2 hs6
  generalize Ldm.cn s.size = N at *
  generalize Crc.more 0 s.data.toList = CR at *
  have q4 : ¬ (N : Int) < 1 := by omega
  have q5 : ¬ (256 : Int) < (N : Int) := by omega
  have hN6 : N ≤ 65536 := by omega
  have hwN : IntKind.u64.wrap (N : Int) = (N : Int) := by rw [IntKind.wrap_u64]; omega
  go_enter Try.func6, Try.ntmps6
  go_wp2_with fail
  refine (HN.out _).mono ?_; rintro e w1 ⟨rfl, rfl⟩
  go_wp2_with fail
  refine (HNew.out _).mono ?_; rintro e w1 ⟨rfl, b1⟩
  replace HK := Lib.hid (HK.out.call b1); clear b1
  go_upto_region 8 with (first | (refine wpList_akl HK rfl rfl ?_; intro _ g8 HK'; simp only [List.cons_append, List.nil_append] at HK'; replace HK := HK'; clear HK') | (refine wpList_sl HK 0 rfl _ _ rfl rfl rfl rfl rfl rfl ?_; intro _ HK'; simp only [List.set] at HK'; replace HK := HK'; clear HK') | (refine wpList_mnb HK rfl _ rfl rfl hN6 ?_; intro w2 g9 HK'; simp only [List.cons_append, List.nil_append] at HK'; replace HK := HK'; clear HK'))
  have HK1 := Lib.hid ((HK.out.nilR bLay).nilR sLay)
  simp only [List.cons_append, List.nil_append] at HK1
  clear HK HN HNew
  have HK := HK1
  clear HK1 q1 q2 q3 q4 q5
  go_loopw [10, 11] (fun vl vi wr => ∃ (i : Nat) (C : List Bool) (y : Ldd) (A1 : Option Addr) (n1 c1 : Nat) (A2 : Option Addr) (n2 c2 : Nat), i ≤ n ∧ vl = .int .i64 (Ldm.lft C : Nat) ∧ vi = .int .i64 i ∧ Hid (Ldm.Inv v s C y) ∧ Hid (PG y) ∧ Hid (Kn w.heap.size w wr [(g8, 35, ldC y.n y.t y.s (.slice A1 n1 c1) (.slice A2 n2 c2))] [row bLay (.slice (some ⟨g9, 0, none⟩) N N) C, row bLay (.slice A1 n1 c1) y.h, row sLay (.slice A2 n2 c2) y.d])) (fun _ vi _ => n - (intOf vi).toNat)
  case atStart => exact ⟨0, List.replicate N false, ⟨v, 0, 0, [], []⟩, none, 0, 0, none, 0, 0, Nat.zero_le _, by rw [HLft.out], rfl, HInv, Lib.hid ⟨by simp, by simp, fun x hx => by cases hx⟩, HK⟩
  case round =>
    clear HK HInv HLft
    obtain ⟨i, C, y, A1, n1, c1, A2, n2, c2, hi, rfl, rfl, HI, HG, HK⟩ := hrel
    have hi0 : (0 : Int) ≤ (i : Int) := by omega
    by_cases hlt : i < n
    case neg =>
      have hlt2 : ¬ (i : Int) < (n : Int) := by omega
      clear HOth HHav HNw HMore HAll HPr HCut HCl
      go_wp2_with fail
      refine (HAw.out _).mono ?_; rintro e w1 ⟨rfl, b1⟩
      replace HK := Lib.hid (HK.out.call b1); clear b1
      go_wp2_with fail
      go_ret
      exact ⟨rfl, HK.out.b⟩
    have hlt2 : (i : Int) < (n : Int) := by omega
    by_cases h200 : i < 500
    case neg =>
      have h2 : ¬ (i : Int) < 500 := by omega
      clear HOth HHav HNw HMore HAll HPr HCut HCl
      go_wp2_with fail
      refine (HAw.out _).mono ?_; rintro e w1 ⟨rfl, b1⟩
      replace HK := Lib.hid (HK.out.call b1); clear b1
      go_wp2_with fail
      go_ret
      exact ⟨rfl, HK.out.b⟩
    have h2 : (i : Int) < 500 := by omega
    have hi3 : i < 9223372036854775807 := by omega
    have hwi : IntKind.i64.wrap ((i : Int) + 1) = ((i + 1 : Nat) : Int) := by rw [IntKind.wrap_i64]; omega
    obtain ⟨a, hx, _⟩ := HL.out.get hlt
    obtain ⟨b, o, rfl, hat⟩ := HL.out.at (Nat.lt_of_le_of_lt (Nat.zero_le _) hlt)
    have hcl := hat _ HK.out.b i a hx 0 _ rfl
    have e0 : o + i * inLay.k + 0 = o + i := by show o + i * 1 + 0 = _; omega
    rw [e0] at hcl
    clear e0 hat hx
    obtain ⟨k, hkN, hke⟩ := ltmod_at a N (by omega)
    have hk6 : IntKind.i64.wrap (k : Int) = (k : Int) := by rw [IntKind.wrap_i64]; omega
    have hkI0 : (0 : Int) ≤ (k : Int) := by omega
    have hkI1 : (k : Int) < (N : Int) := by omega
    have HC1 := Lib.hid (HCut.out v k hkN)
    have HC2 := Lib.hid (HCut.out (v + 1) k hkN)
    have hpd : (Ldm.pce s k).size ≤ 140737488351232 := Nat.le_trans (pr_size (HPr.out v k hkN)) (by decide)
    have HT1 := Lib.hid (fun A n c A2 n2 c2 W h1 h2 => ltake_any y ⟨v + 1, (k : Int), (N : Nat), CR, Ldm.pce s k⟩ A n c A2 n2 c2 W h1 h2 hpd)
    have HT2 := Lib.hid (fun A n c A2 n2 c2 W h1 h2 => ltake_any y ⟨v, (k : Int), (N : Nat), CR, Ldm.pce s k⟩ A n c A2 n2 c2 W h1 h2 hpd)
    rw [HOth.out C y k HI.out hkN] at HT1
    unfold IsLE at HT1 HT2
    have hCl := HCl.out C y HI.out
    obtain ⟨x, hxk⟩ := Lay.get_of (l := C) (k := k) (by omega)
    have HXk := Lib.hid hxk
    have HHav2 := Lib.hid (HHav.out C y k HI.out hkN)
    have HNw2 := Lib.hid (HNw.out C y k HI.out hkN)
    have HLs := Lib.hid (Ldm.lft_set C k)
    have HClN := Lib.hid hCl
    clear hxk hCl HOth HHav HNw HCut HPr hpd HCl
    generalize Ldm.pce s k = pd at *
    generalize Ldm.tk y ⟨v + 1, (k : Int), (N : Nat), CR, pd⟩ = z1 at *
    simp only at HT1 HT2
    cases x
    case true =>
      obtain ⟨hE, ht⟩ := HHav2.out HXk.out
      rw [hE] at HT2
      clear HHav2 HNw2 HLs hE
      generalize Ldm.tk y ⟨v, (k : Int), (N : Nat), CR, pd⟩ = z2 at *
      have HW := Lib.hid (fun A n c A2 n2 c2 W h1 h2 => lwhole_any y A n c A2 n2 c2 W h1 h2 HG.out.cat)
      have HM := Lib.hid (fun A n c A2 n2 c2 W h1 h2 => lmiss_any y A n c A2 n2 c2 W h1 h2)
      unfold IsSE at HW
      unfold IsI at HM
      have HMr := Lib.hid (HMore.out C y HI.out)
      have HAl := Lib.hid (HAll.out C y HI.out)
      clear HMore HAll
      generalize Ldm.wh y = ws at *
      generalize Ldm.whE y = we at *
      generalize Ldm.ms y = ms at *
      go_wp2_with fail
      refine (HC1.out _).mono ?_; rintro e w1 ⟨rfl, b1⟩
      replace HK := Lib.hid (HK.out.call b1); clear b1
      go_wp2_with (first | (refine wpList_akp HK rfl rfl ?_; intro _ g3 HK'; simp only [List.cons_append, List.nil_append] at HK'; replace HK := HK'; clear HK') | (refine wpList_sp HK 1 rfl _ _ rfl rfl rfl rfl ?_; intro _ HK'; simp only [List.set] at HK'; replace HK := HK'; clear HK'))
      refine (HC2.out _).mono ?_; rintro e w1 ⟨rfl, b1⟩
      replace HK := Lib.hid (HK.out.call b1); clear b1
      go_wp2_with (first | (refine wpList_akp HK rfl rfl ?_; intro _ g4 HK'; simp only [List.cons_append, List.nil_append] at HK'; replace HK := HK'; clear HK') | (refine wpList_sp HK 2 rfl _ _ rfl rfl rfl rfl ?_; intro _ HK'; simp only [List.set] at HK'; replace HK := HK'; clear HK') | refine wpList_exe (kl_l HK 0 _ (by rfl) (by rfl) (by rfl)) (by rfl) ?_ | refine wpList_exe (kp_p HK 2 _ (by rfl) (by rfl) (by rfl)) (by rfl) ?_)
      refine (HT1.out _ _ _ _ _ _ _ (Sls.own (HK.out.own 1 rfl) HG.out.fb) (Sls.own (HK.out.own 2 rfl) HG.out.fs)).mono ?_; rintro e w3 ⟨A3, n3, c3, A4, n4, c4, rfl, k3⟩; replace HK := Lib.hid (HK.out.call k3.b); clear k3
      go_wp2_with (first | (refine wpList_akl HK rfl rfl ?_; intro _ g5 HK'; simp only [List.cons_append, List.nil_append] at HK'; replace HK := HK'; clear HK') | (refine wpList_sl HK 3 rfl _ _ rfl rfl rfl rfl rfl rfl ?_; intro _ HK'; simp only [List.set] at HK'; replace HK := HK'; clear HK') | refine wpList_exe (kl_l HK 0 _ (by rfl) (by rfl) (by rfl)) (by rfl) ?_ | refine wpList_exe (kp_p HK 1 _ (by rfl) (by rfl) (by rfl)) (by rfl) ?_)
      refine (HT2.out _ _ _ _ _ _ _ (Sls.own (HK.out.own 1 rfl) HG.out.fb) (Sls.own (HK.out.own 2 rfl) HG.out.fs)).mono ?_; rintro e w4 ⟨A5, n5, c5, A6, n6, c6, rfl, k3⟩; replace HK := Lib.hid (HK.out.join k3); simp only [List.cons_append, List.nil_append] at HK; clear k3
      replace HK := Lib.hid (HK.out.takeR 3); simp only [List.take] at HK
      clear HT1 HT2 HC1 HC2
      go_upto_region 15 with (first | (refine wpList_akl HK rfl rfl ?_; intro _ g6 HK'; simp only [List.cons_append, List.nil_append] at HK'; replace HK := HK'; clear HK') | (refine wpList_sl HK 4 rfl _ _ rfl rfl rfl rfl rfl rfl ?_; intro _ HK'; simp only [List.set] at HK'; replace HK := HK'; clear HK'))
      have hc1 := HK.out.bat (j := 0) rfl HXk.out
      go_upto_region 21 with fail
      clear hc1 hcl
      go_wp2_with (first | refine wpList_exe (kl_l HK 0 _ (by rfl) (by rfl) (by rfl)) (by rfl) ?_)
      refine (HW.out _ _ _ _ _ _ _ (Sls.own (HK.out.own 1 rfl) HG.out.fb) (Sls.own (HK.out.own 2 rfl) HG.out.fs)).mono ?_; rintro e w7 ⟨rfl, b1⟩
      replace HK := Lib.hid (HK.out.call b1); clear b1
      clear HW
      rcases Nat.eq_zero_or_pos (Ldm.lft C) with h0 | h0
      · obtain ⟨rfl, rfl, rfl⟩ := HAl.out h0 ht
        have h0a : ¬ (0 : Int) < (Ldm.lft C : Nat) := by omega
        have h0b : (((Ldm.lft C : Nat) : Int) == 0) = true := by rw [h0]; rfl
        clear HMr HAl
        go_wp2_with (first | refine wpList_exe (kl_l HK 0 _ (by rfl) (by rfl) (by rfl)) (by rfl) ?_)
        refine (HM.out _ _ _ _ _ _ _ (Sls.own (HK.out.own 1 rfl) HG.out.fb) (HK.out.own (La := sLay) 2 rfl).reads.1.symm).mono ?_; rintro e w8 ⟨rfl, b1⟩
        replace HK := Lib.hid (HK.out.call b1); clear b1
        clear HM
        go_wp2_with fail
        exact ⟨⟨i + 1, C, y, A1, n1, c1, A2, n2, c2, hlt, by rw [h0]; rfl, by go_num, HI, HG, Lib.hid (HK.out.takeL 1)⟩, by simp [intOf, hwi]; omega⟩
      · obtain ⟨j, hjN, rfl, hjf, rfl⟩ := HMr.out h0 ht
        have h0a : (0 : Int) < (Ldm.lft C : Nat) := by omega
        have h0b : (((Ldm.lft C : Nat) : Int) == 0) = false := by simp; omega
        have hj0 : (0 : Int) ≤ (j : Int) := by omega
        have hj1 : (j : Int) < (N : Int) := by omega
        have HJ := Lib.hid hjf
        clear HMr HAl hjf
        go_wp2_with (first | refine wpList_exe (kl_l HK 0 _ (by rfl) (by rfl) (by rfl)) (by rfl) ?_)
        refine (HM.out _ _ _ _ _ _ _ (Sls.own (HK.out.own 1 rfl) HG.out.fb) (HK.out.own (La := sLay) 2 rfl).reads.1.symm).mono ?_; rintro e w8 ⟨rfl, b1⟩
        replace HK := Lib.hid (HK.out.call b1); clear b1
        go_wp2_with (first | refine wpList_exe (kl_l HK 0 _ (by rfl) (by rfl) (by rfl)) (by rfl) ?_)
        refine (HM.out _ _ _ _ _ _ _ (Sls.own (HK.out.own 1 rfl) HG.out.fb) (HK.out.own (La := sLay) 2 rfl).reads.1.symm).mono ?_; rintro e w8 ⟨rfl, b1⟩
        replace HK := Lib.hid (HK.out.call b1); clear b1
        have f0 := HK.out.cell 0 rfl 0 (v := .int .i64 y.n) rfl
        have f1 := HK.out.cell 0 rfl 1 (v := .int .i64 y.t) rfl
        have f2 := HK.out.cell 0 rfl 2 (v := .int .u32 (y.s : Int)) rfl
        have f3 := HK.out.cell 0 rfl 3 (v := .slice A1 n1 c1) rfl
        have f4 := HK.out.cell 0 rfl 4 (v := .slice A2 n2 c2) rfl
        go_wp2_with fail
        refine (HM.out _ _ _ _ _ _ _ (Sls.own (HK.out.own 1 rfl) HG.out.fb) (HK.out.own (La := sLay) 2 rfl).reads.1.symm).mono ?_; rintro e w8 ⟨rfl, b1⟩
        replace HK := Lib.hid (HK.out.call b1); clear b1
        have hcj := HK.out.bat (j := 0) rfl HJ.out
        clear HM
        go_wp2_with fail
        exact ⟨⟨i + 1, C, y, A1, n1, c1, A2, n2, c2, hlt, rfl, by go_num, HI, HG, Lib.hid (HK.out.takeL 1)⟩, by simp [intOf, hwi]; omega⟩
    case false =>
      obtain ⟨hE, hI2, ht⟩ := HNw2.out HXk.out
      rw [hE] at HT2
      have hls := HLs.out HXk.out
      have HI2 := Lib.hid hI2
      have HG2 : Hid (PG (Ldm.tk y ⟨v, (k : Int), (N : Nat), CR, pd⟩)) := Lib.hid HG.out.tk
      have HClen : Hid (k < C.length) := Lib.hid (List.getElem?_eq_some_iff.1 HXk.out).1
      clear HHav2 HNw2 HLs hE hI2
      generalize Ldm.tk y ⟨v, (k : Int), (N : Nat), CR, pd⟩ = z2 at *
      have hwl : IntKind.i64.wrap ((Ldm.lft C : Nat) - 1 : Int) = (Ldm.lft (C.set k true) : Nat) := by
        have h3 := Ldm.lft_le C
        have h4 := HClN.out
        rw [IntKind.wrap_i64]; omega
      have HW := Lib.hid (fun A n c A2 n2 c2 W h1 h2 => lwhole_any z2 A n c A2 n2 c2 W h1 h2 HG2.out.cat)
      have HM := Lib.hid (fun A n c A2 n2 c2 W h1 h2 => lmiss_any z2 A n c A2 n2 c2 W h1 h2)
      unfold IsSE at HW
      unfold IsI at HM
      have HMr := Lib.hid (HMore.out (C.set k true) z2 HI2.out)
      have HAl := Lib.hid (HAll.out (C.set k true) z2 HI2.out)
      clear HMore HAll
      generalize Ldm.wh z2 = ws at *
      generalize Ldm.whE z2 = we at *
      generalize Ldm.ms z2 = ms at *
      go_wp2_with fail
      refine (HC1.out _).mono ?_; rintro e w1 ⟨rfl, b1⟩
      replace HK := Lib.hid (HK.out.call b1); clear b1
      go_wp2_with (first | (refine wpList_akp HK rfl rfl ?_; intro _ g3 HK'; simp only [List.cons_append, List.nil_append] at HK'; replace HK := HK'; clear HK') | (refine wpList_sp HK 1 rfl _ _ rfl rfl rfl rfl ?_; intro _ HK'; simp only [List.set] at HK'; replace HK := HK'; clear HK'))
      refine (HC2.out _).mono ?_; rintro e w1 ⟨rfl, b1⟩
      replace HK := Lib.hid (HK.out.call b1); clear b1
      go_wp2_with (first | (refine wpList_akp HK rfl rfl ?_; intro _ g4 HK'; simp only [List.cons_append, List.nil_append] at HK'; replace HK := HK'; clear HK') | (refine wpList_sp HK 2 rfl _ _ rfl rfl rfl rfl ?_; intro _ HK'; simp only [List.set] at HK'; replace HK := HK'; clear HK') | refine wpList_exe (kl_l HK 0 _ (by rfl) (by rfl) (by rfl)) (by rfl) ?_ | refine wpList_exe (kp_p HK 2 _ (by rfl) (by rfl) (by rfl)) (by rfl) ?_)
      refine (HT1.out _ _ _ _ _ _ _ (Sls.own (HK.out.own 1 rfl) HG.out.fb) (Sls.own (HK.out.own 2 rfl) HG.out.fs)).mono ?_; rintro e w3 ⟨A3, n3, c3, A4, n4, c4, rfl, k3⟩; replace HK := Lib.hid (HK.out.call k3.b); clear k3
      go_wp2_with (first | (refine wpList_akl HK rfl rfl ?_; intro _ g5 HK'; simp only [List.cons_append, List.nil_append] at HK'; replace HK := HK'; clear HK') | (refine wpList_sl HK 3 rfl _ _ rfl rfl rfl rfl rfl rfl ?_; intro _ HK'; simp only [List.set] at HK'; replace HK := HK'; clear HK') | refine wpList_exe (kl_l HK 0 _ (by rfl) (by rfl) (by rfl)) (by rfl) ?_ | refine wpList_exe (kp_p HK 1 _ (by rfl) (by rfl) (by rfl)) (by rfl) ?_)
      refine (HT2.out _ _ _ _ _ _ _ (Sls.own (HK.out.own 1 rfl) HG.out.fb) (Sls.own (HK.out.own 2 rfl) HG.out.fs)).mono ?_; rintro e w4 ⟨A5, n5, c5, A6, n6, c6, rfl, k3⟩; replace HK := Lib.hid (HK.out.join k3); simp only [List.cons_append, List.nil_append] at HK; clear k3
      clear HT1 HT2 HC1 HC2
      go_upto_region 15 with (first | (refine wpList_akl HK rfl rfl ?_; intro _ g6 HK'; simp only [List.cons_append, List.nil_append] at HK'; replace HK := HK'; clear HK') | (refine wpList_sl HK 4 rfl _ _ rfl rfl rfl rfl rfl rfl ?_; intro _ HK'; simp only [List.set] at HK'; replace HK := HK'; clear HK'))
      have hc1 := HK.out.bat (j := 0) rfl HXk.out
      go_upto_region 18 with fail
      clear hc1 hcl
      go_upto_region 21 with (first | refine wpList_exe (exec_ix0b (i := k) _ _ (by rfl) (by rfl) (by rfl) hkN) (by rfl) ?_ | (refine wpList_ptb HK 0 rfl _ _ rfl rfl k HClen.out rfl true rfl ?_; intro _ HK'; simp only [List.set] at HK'; replace HK := HK'; clear HK') | refine wpList_exe (kl_l HK 4 _ (by rfl) (by rfl) (by rfl)) (by rfl) ?_ | (refine wpList_sl HK 0 rfl _ _ rfl rfl rfl rfl rfl rfl ?_; intro _ HK'; simp only [List.set] at HK'; replace HK := HK'; clear HK'))
      go_wp2_with (first | refine wpList_exe (kl_l HK 0 _ (by rfl) (by rfl) (by rfl)) (by rfl) ?_)
      refine (HW.out _ _ _ _ _ _ _ (Sls.own (HK.out.own 3 rfl) HG2.out.fb) (Sls.own (HK.out.own 4 rfl) HG2.out.fs)).mono ?_; rintro e w7 ⟨rfl, b1⟩
      replace HK := Lib.hid (HK.out.call b1); clear b1
      clear HW
      rcases Nat.eq_zero_or_pos (Ldm.lft (C.set k true)) with h0 | h0
      · obtain ⟨rfl, rfl, rfl⟩ := HAl.out h0 ht
        have h0a : ¬ (0 : Int) < (Ldm.lft (C.set k true) : Nat) := by omega
        have h0b : (((Ldm.lft (C.set k true) : Nat) : Int) == 0) = true := by rw [h0]; rfl
        clear HMr HAl
        go_wp2_with (first | refine wpList_exe (kl_l HK 0 _ (by rfl) (by rfl) (by rfl)) (by rfl) ?_)
        refine (HM.out _ _ _ _ _ _ _ (Sls.own (HK.out.own 3 rfl) HG2.out.fb) (HK.out.own (La := sLay) 4 rfl).reads.1.symm).mono ?_; rintro e w8 ⟨rfl, b1⟩
        replace HK := Lib.hid (HK.out.call b1); clear b1
        clear HM
        go_wp2_with fail
        exact ⟨⟨i + 1, C.set k true, z2, A5, n5, c5, A6, n6, c6, hlt, by rw [h0]; rfl, by go_num, HI2, HG2, Lib.hid (HK.out.takeL 1).rotB⟩, by simp [intOf, hwi]; omega⟩
      · obtain ⟨j, hjN, rfl, hjf, rfl⟩ := HMr.out h0 ht
        have h0a : (0 : Int) < (Ldm.lft (C.set k true) : Nat) := by omega
        have h0b : (((Ldm.lft (C.set k true) : Nat) : Int) == 0) = false := by simp; omega
        have hj0 : (0 : Int) ≤ (j : Int) := by omega
        have hj1 : (j : Int) < (N : Int) := by omega
        have HJ := Lib.hid hjf
        clear HMr HAl hjf
        go_wp2_with (first | refine wpList_exe (kl_l HK 0 _ (by rfl) (by rfl) (by rfl)) (by rfl) ?_)
        refine (HM.out _ _ _ _ _ _ _ (Sls.own (HK.out.own 3 rfl) HG2.out.fb) (HK.out.own (La := sLay) 4 rfl).reads.1.symm).mono ?_; rintro e w8 ⟨rfl, b1⟩
        replace HK := Lib.hid (HK.out.call b1); clear b1
        go_wp2_with (first | refine wpList_exe (kl_l HK 0 _ (by rfl) (by rfl) (by rfl)) (by rfl) ?_)
        refine (HM.out _ _ _ _ _ _ _ (Sls.own (HK.out.own 3 rfl) HG2.out.fb) (HK.out.own (La := sLay) 4 rfl).reads.1.symm).mono ?_; rintro e w8 ⟨rfl, b1⟩
        replace HK := Lib.hid (HK.out.call b1); clear b1
        have f0 := HK.out.cell 0 rfl 0 (v := .int .i64 z2.n) rfl
        have f1 := HK.out.cell 0 rfl 1 (v := .int .i64 z2.t) rfl
        have f2 := HK.out.cell 0 rfl 2 (v := .int .u32 (z2.s : Int)) rfl
        have f3 := HK.out.cell 0 rfl 3 (v := .slice A5 n5 c5) rfl
        have f4 := HK.out.cell 0 rfl 4 (v := .slice A6 n6 c6) rfl
        go_wp2_with fail
        refine (HM.out _ _ _ _ _ _ _ (Sls.own (HK.out.own 3 rfl) HG2.out.fb) (HK.out.own (La := sLay) 4 rfl).reads.1.symm).mono ?_; rintro e w8 ⟨rfl, b1⟩
        replace HK := Lib.hid (HK.out.call b1); clear b1
        have hcj := HK.out.bat (j := 0) rfl HJ.out
        clear HM
        go_wp2_with fail
        exact ⟨⟨i + 1, C.set k true, z2, A5, n5, c5, A6, n6, c6, hlt, rfl, by go_num, HI2, HG2, Lib.hid (HK.out.takeL 1).rotB⟩, by simp [intOf, hwi]; omega⟩
end Go.Proofs.Ytfboneehnmbklaa
