/- What Do returns: the objects behind a command, its reply, whether that comes later, and others' replies. No condition but those named. -/
import Derived.Test.YtpkodjllljnleaaGreatTk
import Derived.Test.YtpkodjllljnleaaGreatStoAct
import Derived.Test.YtpkodjllljnleaaGreatMB
set_option linter.unusedSimpArgs false
set_option linter.unusedVariables false
namespace Go.Proofs.YtpkodjllljnleaaGreat
open Go.RowKit
section
variable {P : Program} {α : Type} (La : Lay P α) (N : Nest La) {b0 : Nat} {w0 w : World} {L : List (Nat × TypeId × Array Value)} {R : List RowE} {ops : Array Oper} {o : Oper} {a : Act} {Q : Exit → Act → World → Prop} {K : Act → World → Prop} {E : Prop} {A A2 A3 : Option Addr} {n c n2 c2 n3 c3 : Nat}
theorem step_mks3 (HK : Hid (Kn b0 w0 w L R)) (hgd : o.guard = none) (x y z : Operand) (ho : o.op = .buildSlice N.tt 3 #[(0, x), (1, y), (2, z)]) (hx : a.eval x = .slice A n c) (hy : a.eval y = .slice A2 n2 c2) (hz : a.eval z = .slice A3 n3 c3)
  (h : ∀ w' g, Hid (Kn b0 w0 w' (L ++ [(g, La.t, #[.slice A n c, .slice A2 n2 c2, .slice A3 n3 c3])]) R) → Hid (Below w.heap.size w w') → K (a.put o.dst (.slice (some ⟨g, 0, none⟩) 3 3)) w') : if Region.wanted o (yielded ops a.tmps) = true then Oper.wp P o a w K Q else E := by
 rw [if_pos (by simp [Region.wanted, hgd])]
 exact kwp_mks La N HK 3 _ ho [.slice A n c, .slice A2 n2 c2, .slice A3 n3 c3] (by simp [hx, hy, hz]) (by simp [Value.cells]) rfl (by decide) (by decide) h
end
theorem act_any (w0 : World) (x : Oh) (r : Rf) (c : Cmd.C) (w : World) (hx0 : In w0 x) (hw : Below w0.heap.size w0 w) (hv : c.val.f < 18446744073709551616) (hk : 4 ≤ c.k ∧ c.k ≤ 17) (h4 : ¬ c.k = 4) (h5 : ¬ c.k = 5) (hd : c.k = 14 → 0 ≤ x.v.round) :
  Calls Tryz.prog 18 #[.agg (obA x), .agg #[.int .i64 r.c, .int .i64 r.e, .int .i64 r.r], .agg (cmA c)] w (IsOc w0 (Sto.act x.v r c) w) := by
 rcases Sto.act_kinds hk h4 h5 with h | h | h | h | h | h | h | h | h | h | h | h
 ·exact act_6 w0 x r c w hx0 hw hv h
 ·exact act_7 w0 x r c w hx0 hw hv h
 ·exact act_8 w0 x r c w hx0 hw hv h
 ·exact act_9 w0 x r c w hx0 hw hv h
 ·exact act_10 w0 x r c w hx0 hw hv h
 ·exact act_11 w0 x r c w hx0 hw hv h
 ·exact act_12 w0 x r c w hx0 hw hv h
 ·exact act_13 w0 x r c w hx0 hw hv h
 ·exact act_14 w0 x r c w hx0 hw hv h (hd h)
 ·exact act_15 w0 x r c w hx0 hw hv h
 ·exact act_16 w0 x r c w hx0 hw hv h
 ·exact act_17 w0 x r c w hx0 hw hv h
def frO (c : Cmd.C) : Oh := ⟨Sto.fresh c, none, 0, 0, none, 0, 0, none, 0, 0⟩
theorem In.fr (w : World) (c : Cmd.C) : In w (frO c) := ⟨Sl.none w, Sls.none w, Sls.none w, Mt.fit_zero, by show (0 : Int) ≤ _; decide⟩
theorem exec_bfr {w : World} {o : Oper} {a : Act} {c : Cmd.C} (p q r : Operand) (ho : o.op = .build 55 #[(0, p), (1, q), (2, r)]) (hp : a.eval p = .string c.name) (hq : a.eval q = .int .i64 c.n) (hr : a.eval r = .int .i64 c.m) :
  (execOp a.eval o).run Tryz.prog w = .ok (.value (.agg (obA (frO c)))) w := by
 have h : (Instr.build 55 #[(0, .string c.name), (1, .int .i64 c.n), (2, .int .i64 c.m)]).run Tryz.prog w = .ok (.agg (obA (frO c))) w := by
  unfold obA frO Sto.fresh Mt.zero
  go_simp
 unfold execOp
 simp only [ho, Sem.run_bind, Sem.run_pure, Result.andThen_ok, List.map_toArray, List.map_cons, List.map_nil, hp, hq, hr, h]
theorem Obs.one {b : Nat} {w : World} {A : Option Addr} {c : Nat} {y : Oh} (ho : obLay.Own b w (.slice A 1 c) [y]) (hi : In w y) : Obs w A 1 c [y] :=
 ⟨Sls.own ho ⟨fun x hx => trivial, by show 1 * 144 ≤ _; decide⟩, fun x hx => by rw [List.mem_singleton] at hx; subst hx; exact hi⟩
theorem vs_app (a b : List Oh) : vs (a ++ b) = vs a ++ vs b := List.map_append
theorem vs_put (l : List Oh) (p q : Nat) (y : Oh) : vs (l.take p ++ [y] ++ l.drop q) = (vs l).take p ++ [y.v] ++ (vs l).drop q := by
 rw [vs_app, vs_app]
 unfold vs
 rw [List.map_take, List.map_drop]
 rfl
theorem vs_wo (l : List Oh) (p q : Nat) : vs (l.take p ++ l.drop q) = (vs l).take p ++ (vs l).drop q := by
 rw [vs_app]
 unfold vs
 rw [List.map_take, List.map_drop]
def IsDo (y : Sto.Rs) (w : World) (e : Ending) (w' : World) : Prop := ∃ A n c l O k d Rn, e = .returned (.tuple #[.slice A n c, .agg (rpA y.p), .bool y.later, .slice O k d]) ∧ vs l = y.l ∧ Kn w.heap.size w w' [] Rn ∧
 ∀ (b : Nat) (W0 W : World) L R, Kn b W0 W L R → (∀ y ∈ Rn, y ∈ R) → Obs W A n c l ∧ Sls otLay tF W O k d y.outs
set_option maxRecDepth 100000 in
set_option maxHeartbeats 25600000 in
theorem sdo_any (A : Option Addr) (cp n : Nat) (l : List Oh) (r : Rf) (c : Cmd.C) (w : World) (hs : Obs w A n cp l) (hv : c.val.f < 18446744073709551616) (ho : c.old.f < 18446744073709551616) :
  Calls Tryz.prog 7 #[.slice A n cp, .agg #[.int .i64 r.c, .int .i64 r.e, .int .i64 r.r], .agg (cmA c)] w (IsDo (Sto.doo (vs l) r c) w) := by
 unfold IsDo
 have HS := zH hs
 have HC := zH (fun W (hW : Below w.heap.size w W) => scheck_any A cp n l r c W (hs.later hW) hv ho)
 have HJ := zH ojoin_any
 have HP := zH (fun W (hW : Below w.heap.size w W) => oparts_any A cp n l c.name w W hs hW)
 have HK := kn3 w 24 #[.int .i64 r.c, .int .i64 r.e, .int .i64 r.r] 29 (cmA c) 33 (rpA Sto.rz)
 unfold IsN1 at HC
 unfold IsOParts at HP
 by_cases hchk : Sto.chk (vs l) r c = 0
 case neg =>
  rw [Sto.doo_err hchk]
  have hz : (Sto.chk (vs l) r c != 0) = true := by simpa using hchk
  clear hs hv ho hchk HP
  generalize Sto.chk (vs l) r c = z at *
  go_enter Tryz.func7, Tryz.ntmps7
  go_wp2_with (first | refine wpList_exe (kexec_lr HK 0 _ (by rfl) (by rfl) (by rfl)) (by rfl) ?_ | refine wpList_exe (kcm HK 1 _ (by rfl) (by rfl) (by rfl)) (by rfl) ?_)
  refine (HC.out _ HK.out.b).mono ?_; rintro e w1 ⟨rfl, b1⟩
  replace HK := hkC HK b1; clear b1
  go_wp2_with (first | (refine wpList_mks1 obLay obNest HK rfl _ rfl rfl ?_; intro w2 g7 HK' _; simp only [lcA, lnA] at HK'; replace HK := HK'; clear HK'))
  refine (OJoins.one HJ.out HK 3 rfl (HS.out.later HK.out.b)).mono ?_; rintro e w3 ⟨A4, n4, c4, l4, rfl, v4, k4, o4⟩
  replace HK := zH (HK.out.join k4)
  have HFo := zH o4.fo
  have HBg := zH o4.s.big
  have HV4 := zH v4
  clear v4 k4 o4
  simp only [lnA] at HK
  go_wp2_with (first | (refine wpList_srp (q := Sto.err z) HK 2 rfl _ _ rfl rfl rfl rfl ?_; intro _ HK'; simp only [List.set] at HK'; replace HK := HK'; clear HK'))
  exact ret_do Tryz.results7 rfl rfl rfl rfl rfl (HK.out.blk 2 rfl) ⟨A4, n4, c4, l4, _, _, _, _, rfl, HV4.out, HK.out.takeL 0, fun _ _ _ _ _ K hm => ⟨K.obs (hm _ (List.mem_cons_self ..)) (fun y hy => hm _ (List.mem_cons_of_mem _ hy)) HFo.out HBg.out, Sls.none _⟩⟩
 case pos =>
 obtain ⟨hall, hcc, hnew, hown⟩ := Sto.chk_ok hchk
 obtain ⟨hR, hok, hk4, hk17⟩ := hall
 have hn8 : n ≤ 8 := by have := hR.len; rw [vs_len, hs.len] at this; exact this
 rw [hchk] at HC
 by_cases h4 : c.k = 4
 ·rw [Sto.doo_new hchk h4]
  have hk4b : (c.k == 4) = true := by simpa using h4
  have HPut := zH (vs_put l (Sto.idx (vs l) c.name) (Sto.fin (vs l) c.name) (frO c))
  have HLn := zH (Sto.fin_le (vs l) c.name)
  have hlen : (vs l).length = n := by rw [vs_len]; exact hs.len
  unfold Sto.put
  simp only
  clear hs hv ho hchk hcc hnew hown hR hok hk4 hk17 h4
  generalize Sto.idx (vs l) c.name = p at *
  generalize Sto.fin (vs l) c.name = q at *
  go_enter Tryz.func7, Tryz.ntmps7
  go_wp2_with (first | refine wpList_exe (kexec_lr HK 0 _ (by rfl) (by rfl) (by rfl)) (by rfl) ?_ | refine wpList_exe (kcm HK 1 _ (by rfl) (by rfl) (by rfl)) (by rfl) ?_)
  refine (HC.out _ HK.out.b).mono ?_; rintro e w1 ⟨rfl, b1⟩
  replace HK := hkC HK b1; clear b1
  go_wp2_with (first | refine wpList_exe (kcm_n HK 1 _ (by rfl) (by rfl) (by rfl)) (by rfl) ?_)
  refine (HP.out _ HK.out.b).mono ?_; rintro e w1 ⟨A1, n1, c1, A2, n2, c2, A3, n3, c3, rfl, s1, s2, s3, b1⟩
  replace HK := hkC HK b1; clear b1
  have hl1 : n1 ≤ 8 := by have := s1.len; rw [List.length_take, HS.out.len] at this; omega
  have hl3 : n3 ≤ 8 := by have := s3.len; rw [List.length_drop, HS.out.len] at this; omega
  have HS1 := zH s1
  have HS3 := zH s3
  clear s1 s2 s3 HP
  go_wp2_with (first | refine wpList_exe (kcm_k HK 1 _ (by rfl) (by rfl) (by rfl)) (by rfl) ?_ | refine wpList_exe (kcm_n HK 1 _ (by rfl) (by rfl) (by rfl)) (by rfl) ?_ | refine wpList_exe (kcm_N HK 1 _ (by rfl) (by rfl) (by rfl)) (by rfl) ?_ | refine wpList_exe (kcm_M HK 1 _ (by rfl) (by rfl) (by rfl)) (by rfl) ?_ | refine wpList_exe (exec_bfr (c := c) _ _ _ (by rfl) (by rfl) (by rfl) (by rfl)) (by rfl) ?_ | (refine wpList_aob HK rfl rfl ?_; intro _ g5 HK'; simp only [lcA, lnA] at HK'; replace HK := HK'; clear HK') | (refine wpList_sob HK 3 rfl _ _ rfl rfl rfl rfl ?_; intro _ HK'; simp only [List.set] at HK'; replace HK := HK'; clear HK') | refine wpList_exe (kob HK 3 _ (by rfl) (by rfl) (by rfl)) (by rfl) ?_ | (refine wpList_mk1 obLay (p := frO c) HK (by decide) rfl _ rfl rfl rfl ?_; intro _ g9 HK'; simp only [lcA, lnA] at HK'; replace HK := HK'; clear HK') | (refine wpList_mks3 obLay obNest HK rfl _ _ _ rfl rfl rfl rfl ?_; intro w2 g7 HK' _; simp only [lcA, lnA] at HK'; replace HK := HK'; clear HK'))
  refine (OJoins.three HJ.out HK 4 rfl (HS1.out.later HK.out.b) (Obs.one (HK.out.own 0 rfl) (In.fr _ c)) (HS3.out.later HK.out.b) (by omega)).mono ?_; rintro e w3 ⟨A4, n4, c4, l4, rfl, v4, k4, o4⟩
  replace HK := zH (HK.out.join k4)
  have HFo := zH o4.fo
  have HBg := zH o4.s.big
  have HV4 := zH (v4.trans HPut.out)
  clear v4 k4 o4
  simp only [lcA, lnA] at HK
  go_wp2_with (first | (refine wpList_srp (q := Sto.rz) HK 2 rfl _ _ rfl rfl rfl rfl ?_; intro _ HK'; simp only [List.set] at HK'; replace HK := HK'; clear HK'))
  exact ret_do Tryz.results7 rfl rfl rfl rfl rfl (HK.out.blk 2 rfl) ⟨A4, n4, c4, l4, _, _, _, _, rfl, HV4.out, HK.out.takeL 0, fun _ _ _ _ _ K hm => ⟨K.obs (hm _ (List.mem_cons_of_mem _ (List.mem_cons_self ..))) (fun y hy => hm _ (List.mem_cons_of_mem _ (List.mem_cons_of_mem _ hy))) HFo.out HBg.out, Sls.none _⟩⟩
 by_cases h5 : c.k = 5
 ·rw [Sto.doo_cut hchk h5]
  have hk4b : (c.k == 4) = false := by simpa using h4
  have hk5b : (c.k == 5) = true := by simpa using h5
  have HPut := zH (vs_wo l (Sto.idx (vs l) c.name) (Sto.fin (vs l) c.name))
  have HLn := zH (Sto.fin_le (vs l) c.name)
  have HWo := zH (Sto.wo_parts hR.up c.name).1
  simp only
  clear hs hv ho hchk hcc hnew hown hR hok hk4 hk17 h4 h5
  generalize Sto.idx (vs l) c.name = p at *
  generalize Sto.fin (vs l) c.name = q at *
  go_enter Tryz.func7, Tryz.ntmps7
  go_wp2_with (first | refine wpList_exe (kexec_lr HK 0 _ (by rfl) (by rfl) (by rfl)) (by rfl) ?_ | refine wpList_exe (kcm HK 1 _ (by rfl) (by rfl) (by rfl)) (by rfl) ?_)
  refine (HC.out _ HK.out.b).mono ?_; rintro e w1 ⟨rfl, b1⟩
  replace HK := hkC HK b1; clear b1
  go_wp2_with (first | refine wpList_exe (kcm_n HK 1 _ (by rfl) (by rfl) (by rfl)) (by rfl) ?_)
  refine (HP.out _ HK.out.b).mono ?_; rintro e w1 ⟨A1, n1, c1, A2, n2, c2, A3, n3, c3, rfl, s1, s2, s3, b1⟩
  replace HK := hkC HK b1; clear b1
  have hl1 : n1 ≤ 8 := by have := s1.len; rw [List.length_take, HS.out.len] at this; omega
  have hl3 : n3 ≤ 8 := by have := s3.len; rw [List.length_drop, HS.out.len] at this; omega
  have HS1 := zH s1
  have HS3 := zH s3
  clear s1 s2 s3 HP
  go_wp2_with (first | refine wpList_exe (kcm_k HK 1 _ (by rfl) (by rfl) (by rfl)) (by rfl) ?_ | (refine wpList_mks2 obLay obNest HK rfl _ _ rfl rfl rfl ?_; intro w2 g7 HK' _; simp only [lcA, lnA] at HK'; replace HK := HK'; clear HK'))
  refine (OJoins.two HJ.out HK 3 rfl (HS1.out.later HK.out.b) (HS3.out.later HK.out.b) (by omega)).mono ?_; rintro e w3 ⟨A4, n4, c4, l4, rfl, v4, k4, o4⟩
  replace HK := zH (HK.out.join k4)
  have HFo := zH o4.fo
  have HBg := zH o4.s.big
  have HV4 := zH ((v4.trans HPut.out).trans HWo.out)
  clear v4 k4 o4
  simp only [lcA, lnA] at HK
  go_wp2_with (first | (refine wpList_srp (q := Sto.rz) HK 2 rfl _ _ rfl rfl rfl rfl ?_; intro _ HK'; simp only [List.set] at HK'; replace HK := HK'; clear HK'))
  exact ret_do Tryz.results7 rfl rfl rfl rfl rfl (HK.out.blk 2 rfl) ⟨A4, n4, c4, l4, _, _, _, _, rfl, HV4.out, HK.out.takeL 0, fun _ _ _ _ _ K hm => ⟨K.obs (hm _ (List.mem_cons_self ..)) (fun y hy => hm _ (List.mem_cons_of_mem _ hy)) HFo.out HBg.out, Sls.none _⟩⟩
 obtain ⟨o, hfo, hfits, _⟩ := hown h4
 rw [Sto.doo_act hchk h4 h5 hfo]
 have hk4b : (c.k == 4) = false := by simpa using h4
 have hk5b : (c.k == 5) = false := by simpa using h5
 have HPut := zH (fun y => vs_put l (Sto.idx (vs l) c.name) (Sto.fin (vs l) c.name) y)
 have HLn := zH (Sto.fin_le (vs l) c.name)
 have hget := Sto.own_is hR.up c.name
 rw [hfo, ← vs_sub] at hget
 have hrd : c.k = 14 → 0 ≤ o.round := fun h14 => Sto.round_ok (hR.ok o (Sto.fnd_is hfo).1) (by rw [← h14]; exact hfits)
 have HAct : Hid (∀ (x : Oh), x.v = o → In w x → ∀ W, Below w.heap.size w W → Calls Tryz.prog 18 #[.agg (obA x), .agg #[.int .i64 r.c, .int .i64 r.e, .int .i64 r.r], .agg (cmA c)] W (IsOc w (Sto.act o r c) W)) := zH fun x hxo hx W hW => by
  have h := act_any w x r c W hx hW hv ⟨hk4, hk17⟩ h4 h5 (fun h14 => by rw [hxo]; exact hrd h14)
  rw [hxo] at h
  exact h
 unfold Sto.put
 simp only
 clear hs hv ho hchk hcc hnew hown hR hok hk4 hk17 h4 h5 hfo hfits hrd
 unfold IsOc at HAct
 have HGet := zH hget
 clear hget
 generalize Sto.idx (vs l) c.name = p at *
 generalize Sto.fin (vs l) c.name = q at *
 generalize Sto.act o r c = Y at *
 obtain ⟨yo, yp, yt, ys⟩ := Y
 simp only at HAct
 go_enter Tryz.func7, Tryz.ntmps7
 go_wp2_with (first | refine wpList_exe (kexec_lr HK 0 _ (by rfl) (by rfl) (by rfl)) (by rfl) ?_ | refine wpList_exe (kcm HK 1 _ (by rfl) (by rfl) (by rfl)) (by rfl) ?_)
 refine (HC.out _ HK.out.b).mono ?_; rintro e w1 ⟨rfl, b1⟩
 replace HK := hkC HK b1; clear b1
 go_wp2_with (first | refine wpList_exe (kcm_n HK 1 _ (by rfl) (by rfl) (by rfl)) (by rfl) ?_)
 refine (HP.out _ HK.out.b).mono ?_; rintro e w1 ⟨A1, n1, c1, A2, n2, c2, A3, n3, c3, rfl, s1, s2, s3, b1⟩
 replace HK := hkC HK b1; clear b1
 have hl1 : n1 ≤ 8 := by have := s1.len; rw [List.length_take, HS.out.len] at this; omega
 have hl3 : n3 ≤ 8 := by have := s3.len; rw [List.length_drop, HS.out.len] at this; omega
 have HS1 := zH s1
 have HS3 := zH s3
 have hpos : 0 < n2 := by
  rcases Nat.eq_zero_or_pos n2 with h0 | h0
  ·subst h0
   have := HGet.out
   rw [List.length_eq_zero_iff.1 s2.len] at this
   cases this
  ·exact h0
 obtain ⟨x, hx, hin⟩ := s2.get hpos
 have hxo : x.v = o := by
  have := HGet.out
  rw [hx] at this
  injection this
 obtain ⟨b, of, rfl, hat⟩ := s2.s.at hpos
 have HX : Hid (∀ W, Below w.heap.size w W → ∀ j v, (obL x)[j]? = some v → W.cell? ⟨b, of + j, none⟩ = some v) := zH fun W hW j v hv => by
  have h := hat W hW 0 x hx j v hv
  rwa [Nat.zero_mul, Nat.add_zero] at h
 have HA := zH (HAct.out x hxo hin)
 clear s1 s2 s3 HP HAct HGet hx hin hxo hat HC
 have hi0 : (0 : Int) < (n2 : Int) := by omega
 go_upto_region 11 with (first | refine wpList_exe (kcm_k HK 1 _ (by rfl) (by rfl) (by rfl)) (by rfl) ?_)
 replace HK := zH HK.out.drew
 refine wp_region_held_drew (S := (fun W => Hid (Kn w.heap.size w W [(w.heap.size, 24, #[.int .i64 r.c, .int .i64 r.e, .int .i64 r.r]), (w.heap.size + 1, 29, cmA c)] []))) (by kernel_rfl) ?_ (fun hHeld => ?_)
 ·(try dsimp only); exact zH (HK.out.takeL 2)
 refine wpAnyH_take (i := 0) (oi := ⟨some 60, _, _, _, _, _⟩) (v := ?_) rfl (by kernel_rfl) (by kernel_rfl) (by kernel_rfl) (fun _ _ _ h => h) (Or.inl ⟨by rfl, ?_⟩) (by assumption) ?_
 rotate_left
 ·(intro w hSw; (try dsimp only at hSw); go_simp; try with_reducible rfl)
 try simp only [Act.put, List.setIfInBounds_toArray, List.set_cons_zero, List.set_cons_succ]
 refine wpAnyH_take (i := 1) (oi := ⟨some 61, _, _, _, _, _⟩) (v := ?_) rfl (by kernel_rfl) (by kernel_rfl) (by kernel_rfl) (fun _ _ _ h => h) (Or.inl ⟨by rfl, ?_⟩) (by assumption) ?_
 rotate_left
 ·(intro w hSw; (try dsimp only at hSw); go_simp; try with_reducible rfl)
 try simp only [Act.put, List.setIfInBounds_toArray, List.set_cons_zero, List.set_cons_succ]
 refine wpAnyH_take (i := 2) (oi := ⟨some 62, _, _, _, _, _⟩) (v := ?_) rfl (by kernel_rfl) (by kernel_rfl) (by kernel_rfl) (fun _ _ _ h => h) (Or.inl ⟨by rfl, ?_⟩) (by assumption) ?_
 rotate_left
 ·(intro w hSw; refine Eq.trans (exec_obx (off := of) _ (by rfl) (by rfl) (HX.out _ hSw.out.b)) ?_; with_reducible rfl)
 try simp only [Act.put, List.setIfInBounds_toArray, List.set_cons_zero, List.set_cons_succ]
 refine wpAnyH_take (i := 3) (oi := ⟨some 63, _, _, _, _, _⟩) (v := ?_) rfl (by kernel_rfl) (by kernel_rfl) (by kernel_rfl) (fun _ _ _ h => h) (Or.inl ⟨by rfl, ?_⟩) (by assumption) ?_
 rotate_left
 ·(intro w hSw; refine Eq.trans (kexec_lr hSw 0 _ (by rfl) (by rfl) (by rfl)) ?_; with_reducible rfl)
 try simp only [Act.put, List.setIfInBounds_toArray, List.set_cons_zero, List.set_cons_succ]
 refine wpAnyH_take (i := 4) (oi := ⟨some 64, _, _, _, _, _⟩) (v := ?_) rfl (by kernel_rfl) (by kernel_rfl) (by kernel_rfl) (fun _ _ _ h => h) (Or.inl ⟨by rfl, ?_⟩) (by assumption) ?_
 rotate_left
 ·(intro w hSw; refine Eq.trans (kcm hSw 1 _ (by rfl) (by rfl) (by rfl)) ?_; with_reducible rfl)
 try simp only [Act.put, List.setIfInBounds_toArray, List.set_cons_zero, List.set_cons_succ]
 refine wpAnyH_ready (rs := [5, 6]) (by kernel_rfl) (by simp) ?_
 refine AllReadyH.cons (o := ⟨some 65, _, _, _, _, _⟩) rfl (fun K hK => ?_) (AllReadyH.cons (o := ⟨some 15, _, _, _, _, _⟩) rfl (fun K hK => ?_) AllReadyH.nil)
 go_simp
 go_at_call 18
 refine (HA.out _ HK.out.b).mono ?_; rintro e w5 ⟨y, A5, n5, c5, Rn, rfl, v5, k5, i5⟩; replace HK := zH (HK.out.join k5); simp only [lnA] at HK; have HIy := zH i5; have HVy := zH v5; clear k5 i5 v5; have hs := zH ((HK.out.takeL 2).takeR 0)
 refine hK.out _ _ hs (fun hHeld => ?_)
 clear hK K
 try simp only [ap1, ap2, ap3, ap4, ap5]
 refine wpAnyH_ready (rs := [6]) (by kernel_rfl) (by simp) ?_
 refine AllReadyH.cons (o := ⟨some 15, _, _, _, _, _⟩) rfl (fun K hK => ?_) AllReadyH.nil
 refine step_aoc HK (by rfl) (by rfl) ?_; intro _ g6 HK' _; simp only [lcA, lnA] at HK'; replace HK := HK'; clear HK'; have hs := zH ((HK.out.takeL 2).takeR 0)
 refine hK.out _ _ hs (fun hHeld => ?_)
 clear hK K
 try simp only [ap1, ap2, ap3, ap4, ap5]
 refine wpAnyH_ready (rs := [7]) (by kernel_rfl) (by simp) ?_
 refine AllReadyH.cons (o := ⟨none, _, _, _, _, _⟩) rfl (fun K hK => ?_) AllReadyH.nil
 refine step_soc HK 3 (by rfl) _ _ (by rfl) (by rfl) (by rfl) (by rfl) ?_; intro _ HK'; simp only [List.set] at HK'; replace HK := HK'; clear HK'; have hs := zH ((HK.out.takeL 2).takeR 0)
 refine hK.out _ _ hs (fun hHeld => ?_)
 clear hK K
 try simp only [ap1, ap2, ap3, ap4, ap5]
 refine wpAnyH_done (by kernel_rfl) ?_ _
 rotate_left
 refine step_aoc HK (by rfl) (by rfl) ?_; intro _ g6 HK' _; simp only [lcA, lnA] at HK'; replace HK := HK'; clear HK'; have hs := zH ((HK.out.takeL 2).takeR 0)
 refine hK.out _ _ hs (fun hHeld => ?_)
 clear hK K
 try simp only [ap1, ap2, ap3, ap4, ap5]
 refine wpAnyH_ready (rs := [5]) (by kernel_rfl) (by simp) ?_
 refine AllReadyH.cons (o := ⟨some 65, _, _, _, _, _⟩) rfl (fun K hK => ?_) AllReadyH.nil
 go_simp
 go_at_call 18
 refine (HA.out _ HK.out.b).mono ?_; rintro e w5 ⟨y, A5, n5, c5, Rn, rfl, v5, k5, i5⟩; replace HK := zH (HK.out.join k5); simp only [lnA] at HK; have HIy := zH i5; have HVy := zH v5; clear k5 i5 v5; have hs := zH ((HK.out.takeL 2).takeR 0)
 refine hK.out _ _ hs (fun hHeld => ?_)
 clear hK K
 try simp only [ap1, ap2, ap3, ap4, ap5]
 refine wpAnyH_ready (rs := [7]) (by kernel_rfl) (by simp) ?_
 refine AllReadyH.cons (o := ⟨none, _, _, _, _, _⟩) rfl (fun K hK => ?_) AllReadyH.nil
 refine step_soc HK 3 (by rfl) _ _ (by rfl) (by rfl) (by rfl) (by rfl) ?_; intro _ HK'; simp only [List.set] at HK'; replace HK := HK'; clear HK'; have hs := zH ((HK.out.takeL 2).takeR 0)
 refine hK.out _ _ hs (fun hHeld => ?_)
 clear hK K
 try simp only [ap1, ap2, ap3, ap4, ap5]
 refine wpAnyH_done (by kernel_rfl) ?_ _
 rotate_left
 all_goals
  clear hHeld
  go_upto_region 12 with fail
  replace HK := zH HK.out.drew
  refine wp_region_held_drew (S := (fun W => Hid (Kn w.heap.size w W [(g6, 61, ocA y yp yt A5 n5 c5)] []))) (by kernel_rfl) ?_ (fun hHeld => ?_)
  ·(try dsimp only); exact zH (((HK.out.dropL 3).takeL 1).takeR 0)
  refine wpAnyH_take (i := 0) (oi := ⟨some 66, _, _, _, _, _⟩) (v := ?_) rfl (by kernel_rfl) (by kernel_rfl) (by kernel_rfl) (fun _ _ _ h => h) (Or.inl ⟨by rfl, ?_⟩) (by assumption) ?_
  rotate_left
  ·(intro w hSw; (try dsimp only at hSw); go_simp; try with_reducible rfl)
  try simp only [Act.put, List.setIfInBounds_toArray, List.set_cons_zero, List.set_cons_succ]
  refine wpAnyH_take (i := 1) (oi := ⟨some 67, _, _, _, _, _⟩) (v := ?_) rfl (by kernel_rfl) (by kernel_rfl) (by kernel_rfl) (fun _ _ _ h => h) (Or.inl ⟨by rfl, ?_⟩) (by assumption) ?_
  rotate_left
  ·(intro w hSw; (try dsimp only at hSw); go_simp; try with_reducible rfl)
  try simp only [Act.put, List.setIfInBounds_toArray, List.set_cons_zero, List.set_cons_succ]
  refine wpAnyH_take (i := 2) (oi := ⟨some 68, _, _, _, _, _⟩) (v := ?_) rfl (by kernel_rfl) (by kernel_rfl) (by kernel_rfl) (fun _ _ _ h => h) (Or.inl ⟨by rfl, ?_⟩) (by assumption) ?_
  rotate_left
  ·(intro w hSw; refine Eq.trans (koc_o hSw 0 _ (by rfl) (by rfl) (by rfl)) ?_; with_reducible rfl)
  try simp only [Act.put, List.setIfInBounds_toArray, List.set_cons_zero, List.set_cons_succ]
  refine wpAnyH_take (i := 4) (oi := ⟨some 70, _, _, _, _, _⟩) (v := ?_) rfl (by kernel_rfl) (by kernel_rfl) (by kernel_rfl) (fun _ _ _ h => h) (Or.inl ⟨by rfl, ?_⟩) (by assumption) ?_
  rotate_left
  ·(intro w hSw; (try dsimp only at hSw); go_simp; try with_reducible rfl)
  try simp only [Act.put, List.setIfInBounds_toArray, List.set_cons_zero, List.set_cons_succ]
  refine wpAnyH_take (i := 7) (oi := ⟨some 73, _, _, _, _, _⟩) (v := ?_) rfl (by kernel_rfl) (by kernel_rfl) (by kernel_rfl) (fun _ _ _ h => h) (Or.inl ⟨by rfl, ?_⟩) (by assumption) ?_
  rotate_left
  ·(intro w hSw; (try dsimp only at hSw); go_simp; try with_reducible rfl)
  try simp only [Act.put, List.setIfInBounds_toArray, List.set_cons_zero, List.set_cons_succ]
  refine wpAnyH_take (i := 8) (oi := ⟨some 74, _, _, _, _, _⟩) (v := ?_) rfl (by kernel_rfl) (by kernel_rfl) (by kernel_rfl) (fun _ _ _ h => h) (Or.inl ⟨by rfl, ?_⟩) (by assumption) ?_
  rotate_left
  ·(intro w hSw; refine Eq.trans (koc_p hSw 0 _ (by rfl) (by rfl) (by rfl)) ?_; with_reducible rfl)
  try simp only [Act.put, List.setIfInBounds_toArray, List.set_cons_zero, List.set_cons_succ]
  refine wpAnyH_take (i := 9) (oi := ⟨some 75, _, _, _, _, _⟩) (v := ?_) rfl (by kernel_rfl) (by kernel_rfl) (by kernel_rfl) (fun _ _ _ h => h) (Or.inl ⟨by rfl, ?_⟩) (by assumption) ?_
  rotate_left
  ·(intro w hSw; (try dsimp only at hSw); go_simp; try with_reducible rfl)
  try simp only [Act.put, List.setIfInBounds_toArray, List.set_cons_zero, List.set_cons_succ]
  refine wpAnyH_take (i := 10) (oi := ⟨some 76, _, _, _, _, _⟩) (v := ?_) rfl (by kernel_rfl) (by kernel_rfl) (by kernel_rfl) (fun _ _ _ h => h) (Or.inl ⟨by rfl, ?_⟩) (by assumption) ?_
  rotate_left
  ·(intro w hSw; refine Eq.trans (koc_t hSw 0 _ (by rfl) (by rfl) (by rfl)) ?_; with_reducible rfl)
  try simp only [Act.put, List.setIfInBounds_toArray, List.set_cons_zero, List.set_cons_succ]
  refine wpAnyH_take (i := 11) (oi := ⟨some 77, _, _, _, _, _⟩) (v := ?_) rfl (by kernel_rfl) (by kernel_rfl) (by kernel_rfl) (fun _ _ _ h => h) (Or.inl ⟨by rfl, ?_⟩) (by assumption) ?_
  rotate_left
  ·(intro w hSw; (try dsimp only at hSw); go_simp; try with_reducible rfl)
  try simp only [Act.put, List.setIfInBounds_toArray, List.set_cons_zero, List.set_cons_succ]
  refine wpAnyH_take (i := 12) (oi := ⟨some 78, _, _, _, _, _⟩) (v := ?_) rfl (by kernel_rfl) (by kernel_rfl) (by kernel_rfl) (fun _ _ _ h => h) (Or.inl ⟨by rfl, ?_⟩) (by assumption) ?_
  rotate_left
  ·(intro w hSw; refine Eq.trans (koc_s hSw 0 _ (by rfl) (by rfl) (by rfl)) ?_; with_reducible rfl)
  try simp only [Act.put, List.setIfInBounds_toArray, List.set_cons_zero, List.set_cons_succ]
  refine wpAnyH_ready (rs := [3]) (by kernel_rfl) (by simp) ?_
  refine AllReadyH.cons (o := ⟨some 69, _, _, _, _, _⟩) rfl (fun K hK => ?_) AllReadyH.nil
  refine step_mk1 obLay (p := y) HK (by decide) (by rfl) _ (by rfl) (by rfl) (by rfl) ?_; intro _ g9 HK' _; replace HK := HK'; clear HK'; have HMk := zH (Obs.one (Kn.lastOwn HK.out) ((HIy.out _ _ _ _ _ HK.out (fun z hz => List.mem_append_left _ hz)).1 HK.out.b)); have hs := zH (((HK.out.dropL 3).takeL 1).takeR 0)
  refine hK.out _ _ hs (fun hHeld => ?_)
  clear hK K
  try simp only [ap1, ap2, ap3, ap4, ap5]
  refine wpAnyH_ready (rs := [5]) (by kernel_rfl) (by simp) ?_
  refine AllReadyH.cons (o := ⟨some 71, _, _, _, _, _⟩) rfl (fun K hK => ?_) AllReadyH.nil
  refine step_mks3 obLay obNest HK (by rfl) _ _ _ (by rfl) (by rfl) (by rfl) (by rfl) ?_; intro w7 g7 HK' b7; simp only [lcA, lnA] at HK'; replace HK := HK'; clear HK'; replace HMk := zH (HMk.out.later b7.out); clear b7; have hs := zH (((HK.out.dropL 3).takeL 1).takeR 0)
  refine hK.out _ _ hs (fun hHeld => ?_)
  clear hK K
  try simp only [ap1, ap2, ap3, ap4, ap5]
  refine wpAnyH_ready (rs := [6]) (by kernel_rfl) (by simp) ?_
  refine AllReadyH.cons (o := ⟨some 72, _, _, _, _, _⟩) rfl (fun K hK => ?_) AllReadyH.nil
  go_simp
  go_at_call 16
  refine (OJoins.three HJ.out HK 4 rfl (HS1.out.later HK.out.b) HMk.out (HS3.out.later HK.out.b) (by omega)).mono ?_; rintro e w3 ⟨A4, n4, c4, l4, rfl, v4, k4, o4⟩; replace HK := zH (HK.out.join k4); have HFo := zH o4.fo; have HBg := zH o4.s.big; have HV4 := zH (v4.trans (HPut.out y)); clear v4 k4 o4; have hs := zH (((HK.out.dropL 3).takeL 1).takeR 0)
  refine hK.out _ _ hs (fun hHeld => ?_)
  clear hK K
  try simp only [ap1, ap2, ap3, ap4, ap5]
  refine wpAnyH_take (i := 13) (oi := ⟨some 6, _, _, _, _, _⟩) (v := ?_) rfl (by kernel_rfl) (by kernel_rfl) (by kernel_rfl) (fun _ _ _ h => h) (Or.inl ⟨by rfl, ?_⟩) (by assumption) ?_
  rotate_left
  ·(intro w hSw; (try dsimp only at hSw); go_simp; try with_reducible rfl)
  try simp only [Act.put, List.setIfInBounds_toArray, List.set_cons_zero, List.set_cons_succ]
  refine wpAnyH_ready (rs := [14]) (by kernel_rfl) (by simp) ?_
  refine AllReadyH.cons (o := ⟨none, _, _, _, _, _⟩) rfl (fun K hK => ?_) AllReadyH.nil
  refine step_srp HK 2 (by rfl) _ _ (by rfl) (by rfl) (by rfl) (by rfl) ?_; intro _ HK'; simp only [List.set] at HK'; replace HK := HK'; clear HK'; have hs := zH (((HK.out.dropL 3).takeL 1).takeR 0)
  refine hK.out _ _ hs (fun hHeld => ?_)
  clear hK K
  try simp only [ap1, ap2, ap3, ap4, ap5]
  refine wpAnyH_take (i := 15) (oi := ⟨some 8, _, _, _, _, _⟩) (v := ?_) rfl (by kernel_rfl) (by kernel_rfl) (by kernel_rfl) (fun _ _ _ h => h) (Or.inl ⟨by rfl, ?_⟩) (by assumption) ?_
  rotate_left
  ·(intro w hSw; (try dsimp only at hSw); go_simp; try with_reducible rfl)
  try simp only [Act.put, List.setIfInBounds_toArray, List.set_cons_zero, List.set_cons_succ]
  refine wpAnyH_take (i := 16) (oi := ⟨some 9, _, _, _, _, _⟩) (v := ?_) rfl (by kernel_rfl) (by kernel_rfl) (by kernel_rfl) (fun _ _ _ h => h) (Or.inl ⟨by rfl, ?_⟩) (by assumption) ?_
  rotate_left
  ·(intro w hSw; (try dsimp only at hSw); go_simp; try with_reducible rfl)
  try simp only [Act.put, List.setIfInBounds_toArray, List.set_cons_zero, List.set_cons_succ]
  refine wpAnyH_done (by kernel_rfl) ?_ _
  all_goals
   go_wp2_with fail
   exact ret_do Tryz.results7 rfl rfl rfl rfl rfl (HK.out.blk 2 rfl) ⟨A4, n4, c4, l4, _, _, _, _, rfl, by rw [HV4.out, HVy.out], HK.out.takeL 0, fun _ _ _ _ _ K hm => ⟨K.obs (hm _ (List.mem_append_right _ (List.mem_cons_self ..))) (fun z hz => hm _ (List.mem_append_right _ (List.mem_cons_of_mem _ hz))) HFo.out HBg.out, (HIy.out _ _ _ _ _ K (fun z hz => hm _ (List.mem_append_left _ (List.mem_append_left _ hz)))).2⟩⟩
end Go.Proofs.YtpkodjllljnleaaGreat
namespace Go.Proofs.YtpkodjllljnleaaGreat
open Go.RowKit
set_option maxRecDepth 100000 in
theorem la_any (w : World) : Calls Tryz.prog 30 #[] w (fun e w' => e = .returned (.agg #[.int .i64 0, .int .i64 1, .int .i64 1]) ∧ Below w.heap.size w w') := by
 have HK := kn1 w 24 #[.int .i64 0, .int .i64 0, .int .i64 0]
 go_enter Tryz.func30, Tryz.ntmps30
 go_wp2_with (first | (refine wpList_sr HK 0 rfl _ _ rfl rfl rfl rfl ?_; intro _ HK'; simp only [List.set] at HK'; replace HK := HK'; clear HK'))
 exact ret_r Tryz.results30 rfl rfl (HK.out.blk 0 rfl) ⟨rfl, HK.out.b⟩
set_option maxRecDepth 100000 in
theorem lb_any (w : World) : Calls Tryz.prog 31 #[] w (fun e w' => e = .returned (.agg #[.int .i64 1, .int .i64 1, .int .i64 1]) ∧ Below w.heap.size w w') := by
 have HK := kn1 w 24 #[.int .i64 0, .int .i64 0, .int .i64 0]
 go_enter Tryz.func31, Tryz.ntmps31
 go_wp2_with (first | (refine wpList_sr HK 0 rfl _ _ rfl rfl rfl rfl ?_; intro _ HK'; simp only [List.set] at HK'; replace HK := HK'; clear HK'))
 exact ret_r Tryz.results31 rfl rfl (HK.out.blk 0 rfl) ⟨rfl, HK.out.b⟩
set_option maxRecDepth 100000 in
set_option maxHeartbeats 12800000 in
theorem oawake_any (w : World) : Calls Tryz.prog 9 #[] w (IsB true w) := by
 unfold IsB
 have HA := zH la_any
 have HB := zH lb_any
 have HD1 : Hid (∀ W, Calls Tryz.prog 7 #[.slice none 0 0, .agg #[.int .i64 0, .int .i64 1, .int .i64 1], .agg (cmA Sto.cm)] W (IsDo ⟨[Sto.lk []], Sto.rz, false, []⟩ W)) := zH fun W => by
  have h := sdo_any none 0 0 [] Sto.ra Sto.cm W (Obs.none W) (by decide) (by decide)
  rw [show vs [] = [] from rfl, Sto.aw1] at h
  exact h
 have HD2 : Hid (∀ W A n c l, Obs W A n c l → vs l = [Sto.lk []] → Calls Tryz.prog 7 #[.slice A n c, .agg #[.int .i64 0, .int .i64 1, .int .i64 1], .agg (cmA Sto.ck)] W (IsDo ⟨[Sto.lk [Sto.ra]], Sto.rz, false, []⟩ W)) := zH fun W A n c l ho hv => by
  have h := sdo_any A c n l Sto.ra Sto.ck W ho (by decide) (by decide)
  rw [hv, Sto.aw2] at h
  exact h
 have HD3 : Hid (∀ W A n c l, Obs W A n c l → vs l = [Sto.lk [Sto.ra]] → Calls Tryz.prog 7 #[.slice A n c, .agg #[.int .i64 1, .int .i64 1, .int .i64 1], .agg (cmA Sto.ck)] W (IsDo ⟨[Sto.lk [Sto.ra, Sto.rb]], Sto.rz, true, []⟩ W)) := zH fun W A n c l ho hv => by
  have h := sdo_any A c n l Sto.rb Sto.ck W ho (by decide) (by decide)
  rw [hv, Sto.aw3] at h
  exact h
 have HD4 : Hid (∀ W A n c l, Obs W A n c l → vs l = [Sto.lk [Sto.ra, Sto.rb]] → Calls Tryz.prog 7 #[.slice A n c, .agg #[.int .i64 0, .int .i64 1, .int .i64 1], .agg (cmA Sto.cf)] W (IsDo ⟨[Sto.lk [Sto.rb]], Sto.rz, false, [⟨Sto.rb, Sto.rz⟩]⟩ W)) := zH fun W A n c l ho hv => by
  have h := sdo_any A c n l Sto.ra Sto.cf W ho (by decide) (by decide)
  rw [hv, Sto.aw4] at h
  exact h
 unfold IsDo at HD1 HD2 HD3 HD4
 simp only at HD1 HD2 HD3 HD4
 have HK := zH (Kn.start w)
 go_enter Tryz.func9, Tryz.ntmps9
 go_wp2_with fail
 refine (HA.out _).mono ?_; rintro e w1 ⟨rfl, b1⟩
 replace HK := hkC HK b1; clear b1
 go_wp2_with fail
 refine (HD1.out _).mono ?_; rintro e w1 ⟨A1, n1, c1, l1, O1, k1, d1, R1, rfl, v1, k1', i1⟩
 replace HK := zH (HK.out.join k1')
 simp only [lnA] at HK
 have HV1 := zH v1
 have HI1 := zH i1
 clear v1 k1' i1
 go_upto_region 2 with (first | (refine wpList_arp HK rfl rfl ?_; intro _ g2 HK'; simp only [lcA, lnA] at HK'; replace HK := HK'; clear HK') | (refine wpList_srp (q := Sto.rz) HK 0 rfl _ _ rfl rfl rfl rfl ?_; intro _ HK'; simp only [List.set] at HK'; replace HK := HK'; clear HK'))
 go_wp2_with fail
 refine (HA.out _).mono ?_; rintro e w1 ⟨rfl, b1⟩
 replace HK := hkC HK b1; clear b1
 go_wp2_with fail
 refine (HD2.out _ _ _ _ _ (HI1.out _ _ _ _ _ HK.out (fun y hy => hy)).1 HV1.out).mono ?_; rintro e w1 ⟨A2, n2, c2, l2, O2, k2, d2, R2, rfl, v2, k2', i2⟩
 replace HK := zH (HK.out.join k2')
 have HV2 := zH v2
 have HI2 := zH i2
 clear v2 k2' i2
 go_upto_region 3 with (first | (refine wpList_arp HK rfl rfl ?_; intro _ g5 HK'; simp only [lcA, lnA] at HK'; replace HK := HK'; clear HK') | (refine wpList_srp (q := Sto.rz) HK 1 rfl _ _ rfl rfl rfl rfl ?_; intro _ HK'; simp only [List.set] at HK'; replace HK := HK'; clear HK'))
 go_wp2_with fail
 refine (HB.out _).mono ?_; rintro e w1 ⟨rfl, b1⟩
 replace HK := hkC HK b1; clear b1
 go_wp2_with fail
 refine (HD3.out _ _ _ _ _ (HI2.out _ _ _ _ _ HK.out (fun y hy => List.mem_append_right _ hy)).1 HV2.out).mono ?_; rintro e w1 ⟨A3, n3, c3, l3, O3, k3, d3, R3, rfl, v3, k3', i3⟩
 replace HK := zH (HK.out.join k3')
 have HV3 := zH v3
 have HI3 := zH i3
 clear v3 k3' i3
 go_upto_region 4 with (first | (refine wpList_arp HK rfl rfl ?_; intro _ g8 HK'; simp only [lcA, lnA] at HK'; replace HK := HK'; clear HK') | (refine wpList_srp (q := Sto.rz) HK 2 rfl _ _ rfl rfl rfl rfl ?_; intro _ HK'; simp only [List.set] at HK'; replace HK := HK'; clear HK'))
 go_wp2_with fail
 refine (HA.out _).mono ?_; rintro e w1 ⟨rfl, b1⟩
 replace HK := hkC HK b1; clear b1
 go_wp2_with fail
 refine (HD4.out _ _ _ _ _ (HI3.out _ _ _ _ _ HK.out (fun y hy => List.mem_append_right _ hy)).1 HV3.out).mono ?_; rintro e w1 ⟨A4, n4, c4, l4, O4, k4, d4, R4, rfl, v4, k4', i4⟩
 replace HK := zH (HK.out.join k4')
 have HI4 := zH i4
 clear v4 k4' i4
 go_upto_region 5 with (first | (refine wpList_arp HK rfl rfl ?_; intro _ g12 HK'; simp only [lcA, lnA] at HK'; replace HK := HK'; clear HK') | (refine wpList_srp (q := Sto.rz) HK 3 rfl _ _ rfl rfl rfl rfl ?_; intro _ HK'; simp only [List.set] at HK'; replace HK := HK'; clear HK'))
 have hs4 := (HI4.out _ _ _ _ _ HK.out (fun y hy => List.mem_append_right _ hy)).2
 obtain rfl : k4 = 1 := hs4.len.symm
 obtain ⟨b, o, rfl, _⟩ := hs4.at (by decide)
 have HCe : Hid (∀ W L, Kn w.heap.size w W L (R1 ++ R2 ++ R3 ++ R4) → ∀ j v, (rfL Sto.rb)[j]? = some v → W.cell? ⟨b, o + j, none⟩ = some v) := zH fun W L hK j v hv => by
  have h := (HI4.out _ _ _ _ _ hK (fun y hy => List.mem_append_right _ hy)).2
  have h2 := h.cells (i := 0) (x := ⟨Sto.rb, Sto.rz⟩) rfl j v (by
   match j, hv with
   | 0, hv => exact hv
   | 1, hv => exact hv
   | 2, hv => exact hv)
  rwa [Nat.zero_mul, Nat.add_zero] at h2
 clear hs4
 have hz : decide (Sto.rz = Sto.rz) = true := decide_eq_true rfl
 have hi0 : (0 : Int) < ((1 : Nat) : Int) := by decide
 have hrb : decide (Sto.rb = Sto.rb) = true := decide_eq_true rfl
 refine wp_region_held_drew (S := (fun W => Hid (Kn w.heap.size w W [(g2, 33, rpA Sto.rz), (g5, 33, rpA Sto.rz), (g8, 33, rpA Sto.rz), (g12, 33, rpA Sto.rz)] (R1 ++ R2 ++ R3 ++ R4)))) (by kernel_rfl) ?_ (fun hHeld => ?_)
 ·(try dsimp only); exact zH HK.out.drew
 refine wpAnyH_take (i := 0) (oi := ⟨some 50, _, _, _, _, _⟩) (v := ?_) rfl (by kernel_rfl) (by kernel_rfl) (by kernel_rfl) (fun _ _ _ h => h) (Or.inl ⟨by rfl, ?_⟩) (by assumption) ?_
 rotate_left
 ·(intro w hSw; refine Eq.trans (krp hSw 0 _ (by rfl) (by rfl) (by rfl)) ?_; with_reducible rfl)
 try simp only [Act.put, List.setIfInBounds_toArray, List.set_cons_zero, List.set_cons_succ]
 refine wpAnyH_take (i := 1) (oi := ⟨some 51, _, _, _, _, _⟩) (v := ?_) rfl (by kernel_rfl) (by kernel_rfl) (by kernel_rfl) (fun _ _ _ h => h) (Or.inl ⟨by rfl, ?_⟩) (by assumption) ?_
 rotate_left
 ·(intro w hSw; (try dsimp only at hSw); go_simp; try with_reducible rfl)
 try simp only [Act.put, List.setIfInBounds_toArray, List.set_cons_zero, List.set_cons_succ]
 refine wpAnyH_take (i := 2) (oi := ⟨some 52, _, _, _, _, _⟩) (v := ?_) rfl (by kernel_rfl) (by kernel_rfl) (by kernel_rfl) (fun _ _ _ h => h) (Or.inl ⟨by rfl, ?_⟩) (by assumption) ?_
 rotate_left
 ·(intro w hSw; refine Eq.trans (exec_rpe (p := Sto.rz) (q := Sto.rz) _ _ (by rfl) (by rfl) (by rfl) (b := true) rfl) ?_; with_reducible rfl)
 try simp only [Act.put, List.setIfInBounds_toArray, List.set_cons_zero, List.set_cons_succ]
 refine wpAnyH_take (i := 3) (oi := ⟨some 53, _, _, _, _, _⟩) (v := ?_) rfl (by kernel_rfl) (by kernel_rfl) (by kernel_rfl) (fun _ _ _ h => h) (Or.inl ⟨by rfl, ?_⟩) (by assumption) ?_
 rotate_left
 ·(intro w hSw; (try dsimp only at hSw); go_simp; try with_reducible rfl)
 try simp only [Act.put, List.setIfInBounds_toArray, List.set_cons_zero, List.set_cons_succ]
 refine wpAnyH_take (i := 4) (oi := ⟨some 54, _, _, _, _, _⟩) (v := ?_) rfl (by kernel_rfl) (by kernel_rfl) (by kernel_rfl) (fun _ _ _ h => h) (Or.inl ⟨by rfl, ?_⟩) (by assumption) ?_
 rotate_left
 ·(intro w hSw; refine Eq.trans (krp hSw 1 _ (by rfl) (by rfl) (by rfl)) ?_; with_reducible rfl)
 try simp only [Act.put, List.setIfInBounds_toArray, List.set_cons_zero, List.set_cons_succ]
 refine wpAnyH_take (i := 5) (oi := ⟨some 55, _, _, _, _, _⟩) (v := ?_) rfl (by kernel_rfl) (by kernel_rfl) (by kernel_rfl) (fun _ _ _ h => h) (Or.inl ⟨by rfl, ?_⟩) (by assumption) ?_
 rotate_left
 ·(intro w hSw; refine Eq.trans (krp hSw 0 _ (by rfl) (by rfl) (by rfl)) ?_; with_reducible rfl)
 try simp only [Act.put, List.setIfInBounds_toArray, List.set_cons_zero, List.set_cons_succ]
 refine wpAnyH_take (i := 6) (oi := ⟨some 56, _, _, _, _, _⟩) (v := ?_) rfl (by kernel_rfl) (by kernel_rfl) (by kernel_rfl) (fun _ _ _ h => h) (Or.inl ⟨by rfl, ?_⟩) (by assumption) ?_
 rotate_left
 ·(intro w hSw; refine Eq.trans (exec_rpe (p := Sto.rz) (q := Sto.rz) _ _ (by rfl) (by rfl) (by rfl) (b := true) rfl) ?_; with_reducible rfl)
 try simp only [Act.put, List.setIfInBounds_toArray, List.set_cons_zero, List.set_cons_succ]
 refine wpAnyH_take (i := 7) (oi := ⟨some 57, _, _, _, _, _⟩) (v := ?_) rfl (by kernel_rfl) (by kernel_rfl) (by kernel_rfl) (fun _ _ _ h => h) (Or.inl ⟨by rfl, ?_⟩) (by assumption) ?_
 rotate_left
 ·(intro w hSw; (try dsimp only at hSw); go_simp; try with_reducible rfl)
 try simp only [Act.put, List.setIfInBounds_toArray, List.set_cons_zero, List.set_cons_succ]
 refine wpAnyH_take (i := 8) (oi := ⟨some 58, _, _, _, _, _⟩) (v := ?_) rfl (by kernel_rfl) (by kernel_rfl) (by kernel_rfl) (fun _ _ _ h => h) (Or.inl ⟨by rfl, ?_⟩) (by assumption) ?_
 rotate_left
 ·(intro w hSw; (try dsimp only at hSw); go_simp; try with_reducible rfl)
 try simp only [Act.put, List.setIfInBounds_toArray, List.set_cons_zero, List.set_cons_succ]
 refine wpAnyH_take (i := 9) (oi := ⟨some 59, _, _, _, _, _⟩) (v := ?_) rfl (by kernel_rfl) (by kernel_rfl) (by kernel_rfl) (fun _ _ _ h => h) (Or.inl ⟨by rfl, ?_⟩) (by assumption) ?_
 rotate_left
 ·(intro w hSw; refine Eq.trans (krp hSw 3 _ (by rfl) (by rfl) (by rfl)) ?_; with_reducible rfl)
 try simp only [Act.put, List.setIfInBounds_toArray, List.set_cons_zero, List.set_cons_succ]
 refine wpAnyH_take (i := 10) (oi := ⟨some 60, _, _, _, _, _⟩) (v := ?_) rfl (by kernel_rfl) (by kernel_rfl) (by kernel_rfl) (fun _ _ _ h => h) (Or.inl ⟨by rfl, ?_⟩) (by assumption) ?_
 rotate_left
 ·(intro w hSw; refine Eq.trans (krp hSw 0 _ (by rfl) (by rfl) (by rfl)) ?_; with_reducible rfl)
 try simp only [Act.put, List.setIfInBounds_toArray, List.set_cons_zero, List.set_cons_succ]
 refine wpAnyH_take (i := 11) (oi := ⟨some 61, _, _, _, _, _⟩) (v := ?_) rfl (by kernel_rfl) (by kernel_rfl) (by kernel_rfl) (fun _ _ _ h => h) (Or.inl ⟨by rfl, ?_⟩) (by assumption) ?_
 rotate_left
 ·(intro w hSw; refine Eq.trans (exec_rpe (p := Sto.rz) (q := Sto.rz) _ _ (by rfl) (by rfl) (by rfl) (b := true) rfl) ?_; with_reducible rfl)
 try simp only [Act.put, List.setIfInBounds_toArray, List.set_cons_zero, List.set_cons_succ]
 refine wpAnyH_take (i := 12) (oi := ⟨some 62, _, _, _, _, _⟩) (v := ?_) rfl (by kernel_rfl) (by kernel_rfl) (by kernel_rfl) (fun _ _ _ h => h) (Or.inl ⟨by rfl, ?_⟩) (by assumption) ?_
 rotate_left
 ·(intro w hSw; (try dsimp only at hSw); go_simp; try with_reducible rfl)
 try simp only [Act.put, List.setIfInBounds_toArray, List.set_cons_zero, List.set_cons_succ]
 refine wpAnyH_take (i := 13) (oi := ⟨some 63, _, _, _, _, _⟩) (v := ?_) rfl (by kernel_rfl) (by kernel_rfl) (by kernel_rfl) (fun _ _ _ h => h) (Or.inl ⟨by rfl, ?_⟩) (by assumption) ?_
 rotate_left
 ·(intro w hSw; (try dsimp only at hSw); go_simp; try with_reducible rfl)
 try simp only [Act.put, List.setIfInBounds_toArray, List.set_cons_zero, List.set_cons_succ]
 refine wpAnyH_take (i := 14) (oi := ⟨some 64, _, _, _, _, _⟩) (v := ?_) rfl (by kernel_rfl) (by kernel_rfl) (by kernel_rfl) (fun _ _ _ h => h) (Or.inl ⟨by rfl, ?_⟩) (by assumption) ?_
 rotate_left
 ·(intro w hSw; (try dsimp only at hSw); go_simp; try with_reducible rfl)
 try simp only [Act.put, List.setIfInBounds_toArray, List.set_cons_zero, List.set_cons_succ]
 refine wpAnyH_take (i := 15) (oi := ⟨some 65, _, _, _, _, _⟩) (v := ?_) rfl (by kernel_rfl) (by kernel_rfl) (by kernel_rfl) (fun _ _ _ h => h) (Or.inl ⟨by rfl, ?_⟩) (by assumption) ?_
 rotate_left
 ·(intro w hSw; (try dsimp only at hSw); go_simp; try with_reducible rfl)
 try simp only [Act.put, List.setIfInBounds_toArray, List.set_cons_zero, List.set_cons_succ]
 refine wpAnyH_take (i := 16) (oi := ⟨some 66, _, _, _, _, _⟩) (v := ?_) rfl (by kernel_rfl) (by kernel_rfl) (by kernel_rfl) (fun _ _ _ h => h) (Or.inl ⟨by rfl, ?_⟩) (by assumption) ?_
 rotate_left
 ·(intro w hSw; (try dsimp only at hSw); go_simp; try with_reducible rfl)
 try simp only [Act.put, List.setIfInBounds_toArray, List.set_cons_zero, List.set_cons_succ]
 refine wpAnyH_take (i := 17) (oi := ⟨some 67, _, _, _, _, _⟩) (v := ?_) rfl (by kernel_rfl) (by kernel_rfl) (by kernel_rfl) (fun _ _ _ h => h) (Or.inl ⟨by rfl, ?_⟩) (by assumption) ?_
 rotate_left
 ·(intro w hSw; (try dsimp only at hSw); go_simp; try with_reducible rfl)
 try simp only [Act.put, List.setIfInBounds_toArray, List.set_cons_zero, List.set_cons_succ]
 refine wpAnyH_take (i := 18) (oi := ⟨some 68, _, _, _, _, _⟩) (v := ?_) rfl (by kernel_rfl) (by kernel_rfl) (by kernel_rfl) (fun _ _ _ h => h) (Or.inl ⟨by rfl, ?_⟩) (by assumption) ?_
 rotate_left
 ·(intro w hSw; (try dsimp only at hSw); go_simp; try with_reducible rfl)
 try simp only [Act.put, List.setIfInBounds_toArray, List.set_cons_zero, List.set_cons_succ]
 refine wpAnyH_take (i := 19) (oi := ⟨some 69, _, _, _, _, _⟩) (v := ?_) rfl (by kernel_rfl) (by kernel_rfl) (by kernel_rfl) (fun _ _ _ h => h) (Or.inl ⟨by rfl, ?_⟩) (by assumption) ?_
 rotate_left
 ·(intro w hSw; (try dsimp only at hSw); go_simp; try with_reducible rfl)
 try simp only [Act.put, List.setIfInBounds_toArray, List.set_cons_zero, List.set_cons_succ]
 refine wpAnyH_take (i := 20) (oi := ⟨some 70, _, _, _, _, _⟩) (v := ?_) rfl (by kernel_rfl) (by kernel_rfl) (by kernel_rfl) (fun _ _ _ h => h) (Or.inl ⟨by rfl, ?_⟩) (by assumption) ?_
 rotate_left
 ·(intro w hSw; (try dsimp only at hSw); go_simp; try with_reducible rfl)
 try simp only [Act.put, List.setIfInBounds_toArray, List.set_cons_zero, List.set_cons_succ]
 refine wpAnyH_take (i := 21) (oi := ⟨some 71, _, _, _, _, _⟩) (v := ?_) rfl (by kernel_rfl) (by kernel_rfl) (by kernel_rfl) (fun _ _ _ h => h) (Or.inl ⟨by rfl, ?_⟩) (by assumption) ?_
 rotate_left
 ·(intro w hSw; (try dsimp only at hSw); go_simp; try with_reducible rfl)
 try simp only [Act.put, List.setIfInBounds_toArray, List.set_cons_zero, List.set_cons_succ]
 refine wpAnyH_take (i := 22) (oi := ⟨some 72, _, _, _, _, _⟩) (v := ?_) rfl (by kernel_rfl) (by kernel_rfl) (by kernel_rfl) (fun _ _ _ h => h) (Or.inl ⟨by rfl, ?_⟩) (by assumption) ?_
 rotate_left
 ·(intro w hSw; (try dsimp only at hSw); go_simp; try with_reducible rfl)
 try simp only [Act.put, List.setIfInBounds_toArray, List.set_cons_zero, List.set_cons_succ]
 refine wpAnyH_take (i := 23) (oi := ⟨some 73, _, _, _, _, _⟩) (v := ?_) rfl (by kernel_rfl) (by kernel_rfl) (by kernel_rfl) (fun _ _ _ h => h) (Or.inl ⟨by rfl, ?_⟩) (by assumption) ?_
 rotate_left
 ·(intro w hSw; (try dsimp only at hSw); go_simp; try with_reducible rfl)
 try simp only [Act.put, List.setIfInBounds_toArray, List.set_cons_zero, List.set_cons_succ]
 refine wpAnyH_take (i := 24) (oi := ⟨some 74, _, _, _, _, _⟩) (v := ?_) rfl (by kernel_rfl) (by kernel_rfl) (by kernel_rfl) (fun _ _ _ h => h) (Or.inl ⟨by rfl, ?_⟩) (by assumption) ?_
 rotate_left
 ·(intro w hSw; (try dsimp only at hSw); go_simp; try with_reducible rfl)
 try simp only [Act.put, List.setIfInBounds_toArray, List.set_cons_zero, List.set_cons_succ]
 refine wpAnyH_take (i := 25) (oi := ⟨some 75, _, _, _, _, _⟩) (v := ?_) rfl (by kernel_rfl) (by kernel_rfl) (by kernel_rfl) (fun _ _ _ h => h) (Or.inl ⟨by rfl, ?_⟩) (by assumption) ?_
 rotate_left
 ·(intro w hSw; (try dsimp only at hSw); go_simp; try with_reducible rfl)
 try simp only [Act.put, List.setIfInBounds_toArray, List.set_cons_zero, List.set_cons_succ]
 refine wpAnyH_take (i := 26) (oi := ⟨some 76, _, _, _, _, _⟩) (v := ?_) rfl (by kernel_rfl) (by kernel_rfl) (by kernel_rfl) (fun _ _ _ h => h) (Or.inl ⟨by rfl, ?_⟩) (by assumption) ?_
 rotate_left
 ·(intro w hSw; (try dsimp only at hSw); go_simp; try with_reducible rfl)
 try simp only [Act.put, List.setIfInBounds_toArray, List.set_cons_zero, List.set_cons_succ]
 refine wpAnyH_take (i := 27) (oi := ⟨some 77, _, _, _, _, _⟩) (v := ?_) rfl (by kernel_rfl) (by kernel_rfl) (by kernel_rfl) (fun _ _ _ h => h) (Or.inl ⟨by rfl, ?_⟩) (by assumption) ?_
 rotate_left
 ·(intro w hSw; (try dsimp only at hSw); go_simp; try with_reducible rfl)
 try simp only [Act.put, List.setIfInBounds_toArray, List.set_cons_zero, List.set_cons_succ]
 refine wpAnyH_take (i := 28) (oi := ⟨some 78, _, _, _, _, _⟩) (v := ?_) rfl (by kernel_rfl) (by kernel_rfl) (by kernel_rfl) (fun _ _ _ h => h) (Or.inl ⟨by rfl, ?_⟩) (by assumption) ?_
 rotate_left
 ·(intro w hSw; (try dsimp only at hSw); go_simp; try with_reducible rfl)
 try simp only [Act.put, List.setIfInBounds_toArray, List.set_cons_zero, List.set_cons_succ]
 refine wpAnyH_take (i := 29) (oi := ⟨some 79, _, _, _, _, _⟩) (v := ?_) rfl (by kernel_rfl) (by kernel_rfl) (by kernel_rfl) (fun _ _ _ h => h) (Or.inl ⟨by rfl, ?_⟩) (by assumption) ?_
 rotate_left
 ·(intro w hSw; (try dsimp only at hSw); go_simp; try with_reducible rfl)
 try simp only [Act.put, List.setIfInBounds_toArray, List.set_cons_zero, List.set_cons_succ]
 refine wpAnyH_take (i := 30) (oi := ⟨some 80, _, _, _, _, _⟩) (v := ?_) rfl (by kernel_rfl) (by kernel_rfl) (by kernel_rfl) (fun _ _ _ h => h) (Or.inl ⟨by rfl, ?_⟩) (by assumption) ?_
 rotate_left
 ·(intro w hSw; (try dsimp only at hSw); go_simp; try with_reducible rfl)
 try simp only [Act.put, List.setIfInBounds_toArray, List.set_cons_zero, List.set_cons_succ]
 refine wpAnyH_take (i := 31) (oi := ⟨some 81, _, _, _, _, _⟩) (v := ?_) rfl (by kernel_rfl) (by kernel_rfl) (by kernel_rfl) (fun _ _ _ h => h) (Or.inl ⟨by rfl, ?_⟩) (by assumption) ?_
 rotate_left
 ·(intro w hSw; (try dsimp only at hSw); go_simp; try with_reducible rfl)
 try simp only [Act.put, List.setIfInBounds_toArray, List.set_cons_zero, List.set_cons_succ]
 refine wpAnyH_take (i := 32) (oi := ⟨some 82, _, _, _, _, _⟩) (v := ?_) rfl (by kernel_rfl) (by kernel_rfl) (by kernel_rfl) (fun _ _ _ h => h) (Or.inl ⟨by rfl, ?_⟩) (by assumption) ?_
 rotate_left
 ·(intro w hSw; (try dsimp only at hSw); go_simp; try with_reducible rfl)
 try simp only [Act.put, List.setIfInBounds_toArray, List.set_cons_zero, List.set_cons_succ]
 refine wpAnyH_take (i := 33) (oi := ⟨some 83, _, _, _, _, _⟩) (v := ?_) rfl (by kernel_rfl) (by kernel_rfl) (by kernel_rfl) (fun _ _ _ h => h) (Or.inl ⟨by rfl, ?_⟩) (by assumption) ?_
 rotate_left
 ·(intro w hSw; (try dsimp only at hSw); go_simp; try with_reducible rfl)
 try simp only [Act.put, List.setIfInBounds_toArray, List.set_cons_zero, List.set_cons_succ]
 refine wpAnyH_take (i := 34) (oi := ⟨some 84, _, _, _, _, _⟩) (v := ?_) rfl (by kernel_rfl) (by kernel_rfl) (by kernel_rfl) (fun _ _ _ h => h) (Or.inl ⟨by rfl, ?_⟩) (by assumption) ?_
 rotate_left
 ·(intro w hSw; (try dsimp only at hSw); go_simp; try with_reducible rfl)
 try simp only [Act.put, List.setIfInBounds_toArray, List.set_cons_zero, List.set_cons_succ]
 refine wpAnyH_take (i := 35) (oi := ⟨some 85, _, _, _, _, _⟩) (v := ?_) rfl (by kernel_rfl) (by kernel_rfl) (by kernel_rfl) (fun _ _ _ h => h) (Or.inl ⟨by rfl, ?_⟩) (by assumption) ?_
 rotate_left
 ·(intro w hSw; (try dsimp only at hSw); go_simp; try with_reducible rfl)
 try simp only [Act.put, List.setIfInBounds_toArray, List.set_cons_zero, List.set_cons_succ]
 refine wpAnyH_take (i := 36) (oi := ⟨some 86, _, _, _, _, _⟩) (v := ?_) rfl (by kernel_rfl) (by kernel_rfl) (by kernel_rfl) (fun _ _ _ h => h) (Or.inl ⟨by rfl, ?_⟩) (by assumption) ?_
 rotate_left
 ·(intro w hSw; (try dsimp only at hSw); go_simp; try with_reducible rfl)
 try simp only [Act.put, List.setIfInBounds_toArray, List.set_cons_zero, List.set_cons_succ]
 refine wpAnyH_take (i := 37) (oi := ⟨some 87, _, _, _, _, _⟩) (v := ?_) rfl (by kernel_rfl) (by kernel_rfl) (by kernel_rfl) (fun _ _ _ h => h) (Or.inl ⟨by rfl, ?_⟩) (by assumption) ?_
 rotate_left
 ·(intro w hSw; refine Eq.trans (exec_lr (x := Sto.rb) (off := o) _ (by rfl) (by rfl) (HCe.out _ _ hSw.out)) ?_; with_reducible rfl)
 try simp only [Act.put, List.setIfInBounds_toArray, List.set_cons_zero, List.set_cons_succ]
 refine wpAnyH_ready (rs := [38]) (by kernel_rfl) (by simp) ?_
 refine AllReadyH.cons (o := ⟨some 88, _, _, _, _, _⟩) rfl (fun K hK => ?_) AllReadyH.nil
 go_simp
 go_at_call 31
 refine (HB.out _).mono ?_; rintro e w5 ⟨rfl, b5⟩; have hs := zH (hHeld.out.call b5); clear b5
 refine hK.out _ _ hs (fun hHeld => ?_)
 clear hK K
 try simp only [ap1, ap2, ap3, ap4, ap5]
 refine wpAnyH_take (i := 39) (oi := ⟨some 89, _, _, _, _, _⟩) (v := ?_) rfl (by kernel_rfl) (by kernel_rfl) (by kernel_rfl) (fun _ _ _ h => h) (Or.inl ⟨by rfl, ?_⟩) (by assumption) ?_
 rotate_left
 ·(intro w hSw; refine Eq.trans (exec_req (v := Sto.rb) (u := Sto.rb) _ _ (by rfl) (by rfl) (by rfl) (b := true) rfl) ?_; with_reducible rfl)
 try simp only [Act.put, List.setIfInBounds_toArray, List.set_cons_zero, List.set_cons_succ]
 refine wpAnyH_take (i := 40) (oi := ⟨some 90, _, _, _, _, _⟩) (v := ?_) rfl (by kernel_rfl) (by kernel_rfl) (by kernel_rfl) (fun _ _ _ h => h) (Or.inl ⟨by rfl, ?_⟩) (by assumption) ?_
 rotate_left
 ·(intro w hSw; (try dsimp only at hSw); go_simp; try with_reducible rfl)
 try simp only [Act.put, List.setIfInBounds_toArray, List.set_cons_zero, List.set_cons_succ]
 refine wpAnyH_take (i := 41) (oi := ⟨some 0, _, _, _, _, _⟩) (v := ?_) rfl (by kernel_rfl) (by kernel_rfl) (by kernel_rfl) (fun _ _ _ h => h) (Or.inl ⟨by rfl, ?_⟩) (by assumption) ?_
 rotate_left
 ·(intro w hSw; (try dsimp only at hSw); go_simp; try with_reducible rfl)
 try simp only [Act.put, List.setIfInBounds_toArray, List.set_cons_zero, List.set_cons_succ]
 refine wpAnyH_done (by kernel_rfl) ?_ _
 go_wp2_with fail
 go_ret
 exact ⟨rfl, hHeld.out.b⟩
end Go.Proofs.YtpkodjllljnleaaGreat
