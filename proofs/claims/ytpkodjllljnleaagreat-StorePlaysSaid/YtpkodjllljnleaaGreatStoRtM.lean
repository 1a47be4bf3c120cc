/- Objects that may be may be behind a command, and behind a session's end; pure. No condition but those named. -/
import Derived.Test.YtpkodjllljnleaaGreatStoRDoM
import Derived.Test.YtpkodjllljnleaaGreatMB
set_option linter.unusedSimpArgs false
set_option linter.unusedVariables false
namespace Go.Proofs.YtpkodjllljnleaaGreat
namespace Dct
theorem pt_right {l : List Pr} (h : Right l) (k : ByteArray) (v : Val.V) : Right (ptL l k v) := by
 unfold ptL
 split
 next he =>
  unfold ptE at he
  rw [if_pos h] at he
  split at he
  next hp =>
   split at he
   next hn => exact ins_right h hp hn
   next => cases he
  next hp => exact absurd he hp
 next => exact h
theorem ct_right {l : List Pr} (h : Right l) (k : ByteArray) : Right (ctL l k) := by
 unfold ctL
 split
 ·exact wo_right h k
 ·exact h
theorem sw_right {l : List Pr} (h : Right l) (k : ByteArray) (o v : Val.V) : Right (swL l k o v) := by
 unfold swL
 split
 next he =>
  split
  next => exact wo_right h k
  next hv =>
   unfold swE at he
   rw [if_pos h] at he
   split at he
   next hg =>
    have hp := pt_right h k v
    unfold ptL at hp
    rwa [if_pos he] at hp
   next => cases he
 next => exact h
end Dct
namespace Mt
theorem ad_right {x : Mtr} (h : Ok x) (b : Nat) : Ok (ad x b) := by
 by_cases hm : x.n = 9223372036854775807
 ·rw [ad_full h hm]; exact h
 by_cases h0 : x.n = 0
 ·rw [ad_one h h0]; exact ok_one b
 rw [ad_more h hm h0]
 have hok : 0 < x.n ∧ Num.M x.s = x.s ∧ Num.M x.l = x.l ∧ Num.M x.m = x.m ∧ Num.rank x.l ≤ Num.rank x.m := by
  rcases h with ⟨h1, _⟩ | h1
  ·exact absurd h1 h0
  ·exact h1
 obtain ⟨o1, o2, o3, o4, o5⟩ := hok
 have r1 := rank_least x.l (Num.M b)
 have r2 := rank_most x.m (Num.M b)
 rw [Num.rank_M] at r1 r2
 exact .inr ⟨by show 0 < x.n + 1; omega, S_self _ _, least_self _ _, most_self _ _, by show Num.rank (least x.l (Num.M b)) ≤ Num.rank (most x.m (Num.M b)); omega⟩
end Mt
namespace Sto
theorem put_parts {l : List Ob} (h : Up l) (k : ByteArray) : (∀ x ∈ l.take (idx l k), Dct.lt x.name k = true) ∧ (∀ x ∈ l.drop (fin l k), Dct.lt k x.name = true) := by
 induction l with
 | nil => exact ⟨fun x hx => by simp at hx, fun x hx => by simp at hx⟩
 | cons x r ih =>
  obtain ⟨i1, i2⟩ := ih (List.pairwise_cons.1 h).2
  rcases Dct.lt_tri x.name k with hk | hk | hk
  ·obtain ⟨e1, e2⟩ := fin_cons_lt (r := r) hk
   rw [e1, e2]
   refine ⟨fun y hy => ?_, i2⟩
   rw [List.take_succ_cons] at hy
   rcases List.mem_cons.1 hy with rfl | hy
   ·exact hk
   ·exact i1 y hy
  ·subst hk
   obtain ⟨e1, e2⟩ := fin_cons_eq (x := x) (r := r)
   rw [e1, e2]
   exact ⟨fun y hy => by simp at hy, above h (.inl rfl)⟩
  ·obtain ⟨e1, e2⟩ := fin_cons_gt (r := r) hk
   rw [e1, e2]
   refine ⟨fun y hy => by simp at hy, fun y hy => ?_⟩
   rcases List.mem_cons.1 hy with rfl | hy
   ·exact hk
   ·exact above h (.inr hk) y hy
theorem put_right {l : List Ob} (h : Right l) {k : ByteArray} {o : Ob} (hn : o.name = k) (ho : One o = true) (hl : (fnd l k).isSome = true ∨ ¬ l.length = 8) : Right (put l k o) := by
 obtain ⟨p1, p2⟩ := put_parts h.up k
 obtain ⟨_, _, h3, h4⟩ := wo_parts h.up k
 obtain ⟨h5, h6⟩ := fin_le l k
 have h8 := h.len
 subst hn
 refine ⟨?_, fun x hx => ?_, ?_⟩
 ·unfold put
  rw [List.length_append, List.length_append, List.length_take, List.length_drop, List.length_singleton]
  by_cases hq : fin l o.name = idx l o.name
  ·rw [h3, if_pos hq] at hl
   rcases hl with hl | hl
   ·cases hl
   ·omega
  ·omega
 ·unfold put at hx
  rcases List.mem_append.1 hx with hx | hx
  ·rcases List.mem_append.1 hx with hx | hx
   ·exact h.ok x (List.mem_of_mem_take hx)
   ·rw [List.mem_singleton.1 hx]; exact ho
  ·exact h.ok x (List.mem_of_mem_drop hx)
 ·unfold put Up
  rw [List.pairwise_append, List.pairwise_append]
  refine ⟨⟨List.Pairwise.sublist (List.take_sublist _ _) h.up, List.pairwise_singleton _ _, fun a ha b hb => ?_⟩, List.Pairwise.sublist (List.drop_sublist _ _) h.up, fun a ha b hb => ?_⟩
  ·rw [List.mem_singleton.1 hb]
   exact p1 a ha
  ·rcases List.mem_append.1 ha with ha | ha
   ·exact Dct.lt_trans (p1 a ha) (p2 b hb)
   ·rw [List.mem_singleton.1 ha]
    exact p2 b hb
theorem wo_right {l : List Ob} (h : Right l) (k : ByteArray) : Right (wo l k) :=
 ⟨Nat.le_trans (List.length_filter_le _ _) h.len, fun x hx => h.ok x (wo_mem.1 hx).1, wo_up h.up k⟩
section
variable {o : Ob}
theorem clean_of (q1 : is o.kind = true) (q2 : f0 o = false ∨ h0 o.kind = true) (q3 : f1 o = false ∨ h1 o.kind = true) (q4 : f2 o = false ∨ h2 o.kind = true) (q5 : f3 o = false ∨ h3 o.kind = true) (q6 : f4 o = false ∨ h4 o.kind = true) (q7 : f5 o = false ∨ h5 o.kind = true) : clean o = true := by
 unfold clean
 simp only [Bool.and_eq_true, Bool.or_eq_true, Bool.not_eq_true']
 exact ⟨q1, ⟨⟨⟨⟨⟨q2, q3⟩, q4⟩, q5⟩, q6⟩, q7⟩⟩
theorem clean_to (h : clean o = true) : is o.kind = true ∧ (f0 o = false ∨ h0 o.kind = true) ∧ (f1 o = false ∨ h1 o.kind = true) ∧ (f2 o = false ∨ h2 o.kind = true) ∧ (f3 o = false ∨ h3 o.kind = true) ∧ (f4 o = false ∨ h4 o.kind = true) ∧ (f5 o = false ∨ h5 o.kind = true) := by
 unfold clean at h
 simp only [Bool.and_eq_true, Bool.or_eq_true, Bool.not_eq_true'] at h
 obtain ⟨a, ⟨⟨⟨⟨⟨b, c⟩, d⟩, e⟩, f⟩, g⟩⟩ := h
 exact ⟨a, b, c, d, e, f, g⟩
theorem sound_1 (h : o.kind = 1) : sound o = decide (Dct.Right o.prs) := by unfold sound; rw [if_pos h]
theorem sound_2 (h : o.kind = 2) : sound o = decide (Que.Right o.cap o.vals) := by unfold sound; rw [if_neg (by omega), if_pos h]
theorem sound_3 (h : o.kind = 3) : sound o = decide (Lck.Right o.refs) := by unfold sound; rw [if_neg (by omega), if_neg (by omega), if_pos h]
theorem sound_4 (h : o.kind = 4) : sound o = (decide (Gt.Right o.cap o.refs) && decide (0 ≤ o.round)) := by unfold sound; rw [if_neg (by omega), if_neg (by omega), if_neg (by omega), if_pos h]
theorem sound_5 (h : o.kind = 5) : sound o = decide (Mt.Ok o.mt) := by unfold sound; rw [if_neg (by omega), if_neg (by omega), if_neg (by omega), if_neg (by omega), if_pos h]
theorem one_prs (h : One o = true) (hk : o.kind = 1) {m : List Dct.Pr} (hm : Dct.Right o.prs → Dct.Right m) : One { o with prs := m } = true := by
 obtain ⟨a, b, c⟩ := one_parts h
 obtain ⟨b0, b1, b2, b3, b4, b5, b6⟩ := clean_to b
 rw [sound_1 hk] at c
 refine name_one a (clean_of b0 b1 (.inr (by show h1 o.kind = true; rw [hk]; rfl)) b3 b4 b5 b6) ?_
 rw [sound_1 (o := { o with prs := m }) hk]
 exact decide_eq_true (hm (of_decide_eq_true c))
theorem one_vals (h : One o = true) (hk : o.kind = 2) {m : List Val.V} (hm : Que.Right o.cap o.vals → Que.Right o.cap m) : One { o with vals := m } = true := by
 obtain ⟨a, b, c⟩ := one_parts h
 obtain ⟨b0, b1, b2, b3, b4, b5, b6⟩ := clean_to b
 rw [sound_2 hk] at c
 refine name_one a (clean_of b0 b1 b2 (.inr (by show h2 o.kind = true; rw [hk]; rfl)) b4 b5 b6) ?_
 rw [sound_2 (o := { o with vals := m }) hk]
 exact decide_eq_true (hm (of_decide_eq_true c))
theorem one_refs (h : One o = true) (hk : o.kind = 3) {m : List Rf} (hm : Lck.Right o.refs → Lck.Right m) : One { o with refs := m } = true := by
 obtain ⟨a, b, c⟩ := one_parts h
 obtain ⟨b0, b1, b2, b3, b4, b5, b6⟩ := clean_to b
 rw [sound_3 hk] at c
 refine name_one a (clean_of b0 b1 b2 b3 (.inr (by show h3 o.kind = true; rw [hk]; rfl)) b5 b6) ?_
 rw [sound_3 (o := { o with refs := m }) hk]
 exact decide_eq_true (hm (of_decide_eq_true c))
theorem one_gate (h : One o = true) (hk : o.kind = 4) {m : List Rf} {d : Int} (hm : Gt.Right o.cap o.refs → Gt.Right o.cap m) (hd : 0 ≤ o.round → 0 ≤ d) : One { o with refs := m, round := d } = true := by
 obtain ⟨a, b, c⟩ := one_parts h
 obtain ⟨b0, b1, b2, b3, b4, b5, b6⟩ := clean_to b
 rw [sound_4 hk, Bool.and_eq_true] at c
 refine name_one a (clean_of b0 b1 b2 b3 (.inr (by show h3 o.kind = true; rw [hk]; rfl)) (.inr (by show h4 o.kind = true; rw [hk]; rfl)) b6) ?_
 rw [sound_4 (o := { o with refs := m, round := d }) hk, Bool.and_eq_true]
 exact ⟨decide_eq_true (hm (of_decide_eq_true c.1)), decide_eq_true (hd (of_decide_eq_true c.2))⟩
theorem one_mt (h : One o = true) (hk : o.kind = 5) {m : Mtr} (hm : Mt.Ok o.mt → Mt.Ok m) : One { o with mt := m } = true := by
 obtain ⟨a, b, c⟩ := one_parts h
 obtain ⟨b0, b1, b2, b3, b4, b5, b6⟩ := clean_to b
 rw [sound_5 hk] at c
 refine name_one a (clean_of b0 b1 b2 b3 b4 b5 (.inr (by show h5 o.kind = true; rw [hk]; rfl))) ?_
 rw [sound_5 (o := { o with mt := m }) hk]
 exact decide_eq_true (hm (of_decide_eq_true c))
theorem wait_one (h : One o = true) (hk : o.kind = 4) (r : Rf) : One (wait o r).o = true := by
 unfold wait
 split
 next h0 =>
  refine one_gate (d := o.round) h hk (fun hr => ?_) id
  by_cases he : Gt.wtE o.cap o.refs r = 0
  ·obtain ⟨g1, g2, g3⟩ := Gt.wt_is he
   by_cases hf : (o.refs.length : Int) + 1 = o.cap
   ·rw [(Gt.wt_full g1 g2 g3 hf).2.2, List.length_append] at h0
    simp at h0
   ·rw [(Gt.wt_more g1 g2 g3 hf).2.1]
    exact Gt.right_ap g1 g2 g3 hf
  ·rw [(Gt.wt_no (z := Gt.wtE o.cap o.refs r) rfl he).2.1]
   exact hr
 next h0 =>
  split
  next => exact h
  next =>
   refine one_gate h hk (fun hr => ?_) (fun hd => by omega)
   by_cases he : Gt.wtE o.cap o.refs r = 0
   ·obtain ⟨g1, g2, g3⟩ := Gt.wt_is he
    by_cases hf : (o.refs.length : Int) + 1 = o.cap
    ·rw [(Gt.wt_full g1 g2 g3 hf).2.1]
     exact Gt.right_of hr.1 hr.2.1
    ·rw [(Gt.wt_more g1 g2 g3 hf).2.1]
     exact Gt.right_ap g1 g2 g3 hf
   ·rw [(Gt.wt_no (z := Gt.wtE o.cap o.refs r) rfl he).2.1]
    exact hr
theorem act_one (h : One o = true) (r : Rf) {c : Cmd.C} (hk : 4 ≤ c.k ∧ c.k ≤ 17) (h4 : ¬ c.k = 4) (h5 : ¬ c.k = 5) (hf : fits c.k o.kind = true) : One (act o r c).o = true := by
 unfold act
 rcases act_kinds hk h4 h5 with k | k | k | k | k | k | k | k | k | k | k | k <;> rw [k] at hf <;> simp only [k] <;> unfold fits at hf <;> simp at hf ⊢
 ·exact h
 ·exact one_prs h hf (fun g => Dct.pt_right g _ _)
 ·exact one_prs h hf (fun g => Dct.ct_right g _)
 ·exact one_prs h hf (fun g => Dct.sw_right g _ _ _)
 ·exact one_vals h hf (fun g => Que.ps_right g _)
 ·exact one_vals h hf (fun g => Que.pp_right g)
 ·exact one_refs h hf (fun g => Lck.tk_right g r)
 ·exact one_refs h hf (fun g => Lck.fr_right g r)
 ·exact wait_one h hf r
 ·exact one_mt h hf (fun g => Mt.ad_right g _)
 ·exact h
 ·exact h
theorem dr_one (h : One o = true) (r : Rf) : One (dr o r) = true := by
 unfold dr
 split
 next hk => exact one_refs h hk (fun g => Lck.dr_right g r)
 next =>
  split
  next hk =>
   refine one_gate (d := o.round) h hk (fun g => ?_) id
   rw [Gt.dr_yes g]
   exact Gt.right_wo g r
  next => exact h
theorem dr_name (o : Ob) (r : Rf) : (dr o r).name = o.name := by
 unfold dr
 split
 ·rfl
 ·split <;> rfl
end
theorem fresh_one {c : Cmd.C} (he : Cmd.chk c = 0) (h4 : c.k = 4) : One (fresh c) = true := by
 have hn : named c.name ∧ Cmd.nums c := by
  unfold Cmd.chk at he
  split at he
  ·cases he
  next g =>
   split at he
   ·cases he
   next g2 =>
    split at he
    next g3 => exact absurd he g3
    next =>
     split at he
     next g3 => exact absurd he g3
     next =>
      split at he
      ·cases he
      next =>
       split at he
       ·cases he
       next =>
        split at he
        ·cases he
        next g4 =>
         refine ⟨⟨fun hs => g (.inr (.inr (.inr ⟨by rw [h4]; rfl, hs⟩))), by omega⟩, Decidable.byContradiction g4⟩
 obtain ⟨h1, h2⟩ := hn
 unfold Cmd.nums at h2
 rw [if_neg (by omega), if_neg (by omega)] at h2
 have hz : f5 (fresh c) = false := by unfold f5 fresh; simp
 by_cases n2 : c.n = 2
 ·rw [if_pos n2] at h2
  refine name_one h1 (clean_of (by show is c.n = true; rw [n2]; rfl) (.inr (by show h0 c.n = true; rw [n2]; rfl)) (.inl rfl) (.inl rfl) (.inl rfl) (.inl rfl) (.inl hz)) ?_
  rw [sound_2 (o := fresh c) n2]
  exact decide_eq_true (Que.right_nil h2.1 h2.2)
 rw [if_neg n2] at h2
 by_cases n4 : c.n = 4
 ·rw [if_pos n4] at h2
  refine name_one h1 (clean_of (by show is c.n = true; rw [n4]; rfl) (.inr (by show h0 c.n = true; rw [n4]; rfl)) (.inl rfl) (.inl rfl) (.inl rfl) (.inl rfl) (.inl hz)) ?_
  rw [sound_4 (o := fresh c) n4, Bool.and_eq_true]
  exact ⟨decide_eq_true (Gt.right_of h2.1 h2.2), rfl⟩
 rw [if_neg n4] at h2
 have hcap : f0 (fresh c) = false := by show (!decide (c.m = 0)) = false; rw [h2.2.2]; rfl
 have hk : c.n = 1 ∨ c.n = 3 ∨ c.n = 5 := by omega
 refine name_one h1 (clean_of (by show decide (1 ≤ c.n ∧ c.n ≤ 5) = true; exact decide_eq_true (by omega)) (.inl hcap) (.inl rfl) (.inl rfl) (.inl rfl) (.inl rfl) (.inl hz)) ?_
 rcases hk with hk | hk | hk
 ·rw [sound_1 (o := fresh c) hk]; exact decide_eq_true Dct.right_nil
 ·rw [sound_3 (o := fresh c) hk]; exact decide_eq_true Lck.right_nil
 ·rw [sound_5 (o := fresh c) hk]; exact decide_eq_true Mt.ok_zero
theorem doo_right {l : List Ob} (h : Right l) (r : Rf) (c : Cmd.C) : Right (doo l r c).l := by
 by_cases hc : chk l r c = 0
 case neg => rw [doo_err hc]; exact h
 obtain ⟨⟨_, _, hk⟩, he, hnew, hown⟩ := chk_ok hc
 by_cases h4 : c.k = 4
 ·rw [doo_new hc h4]
  exact put_right h rfl (fresh_one he h4) (.inr (hnew h4).2)
 by_cases h5 : c.k = 5
 ·rw [doo_cut hc h5]
  exact wo_right h _
 obtain ⟨o, ho, hf, _⟩ := hown h4
 rw [doo_act hc h4 h5 ho]
 obtain ⟨hm, hn⟩ := fnd_is ho
 exact put_right h ((act_name o r c).trans hn) (act_one (h.ok o hm) r hk h4 h5 hf) (.inl (by rw [ho]; rfl))
theorem drop_right {l : List Ob} (h : Right l) (r : Rf) : Right (dropL l r) := by
 unfold dropL
 rw [if_pos h]
 refine ⟨by rw [List.length_map]; exact h.len, fun x hx => ?_, ?_⟩
 ·obtain ⟨y, hy, rfl⟩ := List.mem_map.1 hx
  exact dr_one (h.ok y hy) r
 ·unfold Up
  rw [List.pairwise_map]
  exact h.up.imp fun {a b} hab => by rw [dr_name, dr_name]; exact hab
end Sto
end Go.Proofs.YtpkodjllljnleaaGreat
