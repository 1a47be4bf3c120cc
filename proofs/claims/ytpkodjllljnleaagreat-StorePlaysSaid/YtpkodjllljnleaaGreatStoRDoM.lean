/- What a command does, by the document's place of its name: the ways through, pure. No condition but those named. -/
import Derived.Test.YtpkodjllljnleaaGreatMBD
set_option linter.unusedSimpArgs false
set_option linter.unusedVariables false
namespace Go.Proofs.YtpkodjllljnleaaGreat
namespace Sto
def All (l : List Ob) (r : Rf) (c : Cmd.C) : Prop := Right l ∧ Lck.ok r ∧ 4 ≤ c.k ∧ c.k ≤ 17
section
variable {l : List Ob} {r : Rf} {c : Cmd.C} {i : Nat} {x : Ob}
theorem doo_arg (h : ¬ All l r c) : doo l r c = ⟨l, err 1, false, []⟩ := by
 have e := chk_arg (l := l) (r := r) (c := c) h
 rw [doo_err (by rw [e]; decide), e]
theorem doo_chk (h : All l r c) (he : Cmd.chk c ≠ 0) : doo l r c = ⟨l, err (Cmd.chk c), false, []⟩ := by
 have e := chk_cmd h he
 rw [doo_err (by rw [e]; exact he), e]
theorem doo_8 (h : All l r c) (he : Cmd.chk c = 0) (h4 : c.k = 4) (hf : fnd l c.name = some x) : doo l r c = ⟨l, err 8, false, []⟩ := by
 have e : chk l r c = 8 := by rw [chk_new h he h4]; unfold chkN; rw [hf]; rfl
 rw [doo_err (by rw [e]; decide), e]
theorem doo_6 (h : All l r c) (he : Cmd.chk c = 0) (h4 : c.k = 4) (hf : fnd l c.name = none) (h8 : l.length = 8) : doo l r c = ⟨l, err 6, false, []⟩ := by
 have e : chk l r c = 6 := by rw [chk_new h he h4]; unfold chkN; rw [hf, if_neg (by simp), if_pos h8]
 rw [doo_err (by rw [e]; decide), e]
theorem doo_made (h : All l r c) (he : Cmd.chk c = 0) (h4 : c.k = 4) (hf : fnd l c.name = none) (h8 : ¬ l.length = 8) : doo l r c = ⟨l.take (idx l c.name) ++ [fresh c] ++ l.drop (idx l c.name), rz, false, []⟩ := by
 have e : chk l r c = 0 := by rw [chk_new h he h4]; unfold chkN; rw [hf, if_neg (by simp), if_neg h8]
 rw [doo_new e h4]
 have hq : fin l c.name = idx l c.name := by
  obtain ⟨_, _, h3, h4⟩ := wo_parts h.1.up c.name
  by_cases hq : fin l c.name = idx l c.name
  ·exact hq
  ·rw [if_neg hq, hf] at h3
   obtain ⟨h5, h6⟩ := fin_le l c.name
   rw [List.getElem?_eq_getElem (by omega)] at h3
   cases h3
 unfold put
 rw [hq]
theorem doo_5 (h : All l r c) (he : Cmd.chk c = 0) (h4 : ¬ c.k = 4) (hf : fnd l c.name = none) : doo l r c = ⟨l, err 5, false, []⟩ := by
 have e : chk l r c = 5 := by rw [chk_own h he h4, hf]; rfl
 rw [doo_err (by rw [e]; decide), e]
theorem doo_7 (h : All l r c) (he : Cmd.chk c = 0) (h4 : ¬ c.k = 4) (hf : fnd l c.name = some x) (hk : fits c.k x.kind = false) : doo l r c = ⟨l, err 7, false, []⟩ := by
 have e : chk l r c = 7 := by rw [chk_own h he h4, hf]; unfold chkO; simp only; rw [if_pos hk]
 rw [doo_err (by rw [e]; decide), e]
theorem doo_13 (h : All l r c) (he : Cmd.chk c = 0) (h5 : c.k = 5) (hf : fnd l c.name = some x) (hr : 0 < x.refs.length) : doo l r c = ⟨l, err 13, false, []⟩ := by
 have hk : fits c.k x.kind = true := by rw [h5]; rfl
 have e : chk l r c = 13 := by rw [chk_own h he (by omega), hf]; unfold chkO; simp only; rw [if_neg (by rw [hk]; simp), if_pos ⟨h5, hr⟩]
 rw [doo_err (by rw [e]; decide), e]
theorem chk_go (h : All l r c) (he : Cmd.chk c = 0) (h4 : ¬ c.k = 4) (hf : fnd l c.name = some x) (hk : fits c.k x.kind = true) (hr : ¬ (c.k = 5 ∧ 0 < x.refs.length)) : chk l r c = 0 := by
 rw [chk_own h he h4, hf]
 unfold chkO
 simp only
 rw [if_neg (by rw [hk]; simp), if_neg hr]
theorem doo_wo (h : All l r c) (he : Cmd.chk c = 0) (h5 : c.k = 5) (hx : l[i]? = some x) (hn : x.name = c.name) (hr : ¬ 0 < x.refs.length) : doo l r c = ⟨l.take i ++ l.drop (i + 1), rz, false, []⟩ := by
 obtain ⟨_, _, hf⟩ := at_idx h.1.up hx hn
 rw [doo_cut (chk_go h he (by omega) hf (by rw [h5]; rfl) (fun g => hr g.2)) h5, cut_wo h.1.up hx hn]
theorem doo_set (h : All l r c) (he : Cmd.chk c = 0) (h4 : ¬ c.k = 4) (h5 : ¬ c.k = 5) (hx : l[i]? = some x) (hn : x.name = c.name) (hk : fits c.k x.kind = true) : doo l r c = ⟨l.set i (act x r c).o, (act x r c).p, (act x r c).later, (act x r c).outs⟩ := by
 obtain ⟨_, _, hf⟩ := at_idx h.1.up hx hn
 rw [doo_act (chk_go h he h4 hf hk (fun g => h5 g.1)) h4 h5 hf, set_put h.1.up hx hn]
theorem name_one {o : Ob} (h : named o.name) (hc : clean o = true) (hs : sound o = true) : One o = true := by
 unfold One
 rw [hc, hs, decide_eq_true h]; rfl
end
end Sto
end Go.Proofs.YtpkodjllljnleaaGreat
