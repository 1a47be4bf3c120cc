/-
  Past a bound, pure: the error of a ninth key, of one value more than there is room for, of a ninth object.
  No condition but those named.
-/
import Derived.Test.YtpkodjllljnleaaMB
set_option linter.unusedSimpArgs false
set_option linter.unusedVariables false
namespace Go.Proofs.Ytpkodjllljnleaa
namespace Sto
theorem fnd_of_mem {l : List Ob} (h : Up l) {x : Ob} (hx : x ∈ l) : fnd l x.name = some x := by
  induction l with
  | nil => simp at hx
  | cons y r ih =>
    unfold fnd
    rcases List.mem_cons.1 hx with rfl | hx
    · rw [if_pos rfl]
    · rw [if_neg (Dct.lt_ne ((List.pairwise_cons.1 h).1 x hx))]
      exact ih (List.pairwise_cons.1 h).2 hx
theorem fnd_any (l : List Ob) (k : ByteArray) : (fnd l k).isSome = l.any fun x => decide (x.name = k) := by
  induction l with
  | nil => rfl
  | cons y r ih =>
    unfold fnd
    rw [List.any_cons]
    by_cases h : y.name = k
    · rw [if_pos h, decide_eq_true h]; rfl
    · rw [if_neg h, decide_eq_false h, ih]; rfl
theorem bl_more : ∀ (a : List UInt8) (z : UInt8), Go.Op.bytesLess a (a ++ [z]) = true
  | [], _ => rfl
  | x :: r, z => by
    rw [List.cons_append]
    unfold Go.Op.bytesLess
    rw [bl_more r z]
    simp
theorem lt_more {a b : ByteArray} {z : UInt8} (h : b.toList = a.toList ++ [z]) : Dct.lt a b = true := by
  unfold Dct.lt
  rw [h]
  exact bl_more _ _
def cPut (nm key : ByteArray) (n : Int) : Cmd.C := ⟨7, nm, key, num n, vz, 0, 0⟩
def cPush (nm : ByteArray) (n : Int) : Cmd.C := ⟨10, nm, ⟨#[]⟩, num n, vz, 0, 0⟩
def cMake (nm : ByteArray) : Cmd.C := ⟨4, nm, ⟨#[]⟩, vz, vz, 1, 0⟩
theorem chk_num (n : Int) : Val.chk (num n) = 0 := Val.chk_int n
theorem chk_vz : Val.chk vz = 0 := Val.chk_none
theorem nil_vz : Cmd.nil vz := ⟨rfl, rfl, rfl, rfl⟩
theorem cput_ok {nm key : ByteArray} (h : named nm) (hk : key.size ≤ 64) (n : Int) : Cmd.chk (cPut nm key n) = 0 := by
  have ho : Cmd.others (cPut nm key n) := ⟨.inl rfl, .inl rfl, .inr nil_vz, .inl rfl, .inr rfl, .inr rfl⟩
  have h1 := h.1
  have h2 := h.2
  unfold Cmd.chk
  rw [if_neg (by
    rintro (g | g | g | g)
    · exact absurd g (by show ¬ (7 : Int) < 1; decide)
    · exact absurd g (by show ¬ (18 : Int) < 7; decide)
    · exact g ho
    · exact h1 g.2)]
  rw [if_neg (by show ¬ (16 < nm.size ∨ 64 < key.size); omega)]
  rw [if_neg (show ¬ Val.chk (cPut nm key n).old ≠ 0 from fun g => g chk_vz), if_neg (show ¬ Val.chk (cPut nm key n).val ≠ 0 from fun g => g (chk_num n))]
  rw [if_neg (by rintro ⟨_, g⟩; exact absurd g (by show ¬ (1 : Int) = 0; decide)), if_neg (by rintro ⟨g, _⟩; exact absurd g (by show ¬ (7 : Int) = 15; decide))]
  rw [if_neg (fun g => g (by unfold Cmd.nums; rw [if_neg (by show ¬ (7 : Int) = 16; decide), if_pos (by show (7 : Int) ≠ 4; decide)]; trivial))]
theorem cpush_ok {nm : ByteArray} (h : named nm) (n : Int) : Cmd.chk (cPush nm n) = 0 := by
  have ho : Cmd.others (cPush nm n) := ⟨.inl rfl, .inr rfl, .inr nil_vz, .inl rfl, .inr rfl, .inr rfl⟩
  have h1 := h.1
  have h2 := h.2
  unfold Cmd.chk
  rw [if_neg (by
    rintro (g | g | g | g)
    · exact absurd g (by show ¬ (10 : Int) < 1; decide)
    · exact absurd g (by show ¬ (18 : Int) < 10; decide)
    · exact g ho
    · exact h1 g.2)]
  rw [if_neg (by show ¬ (16 < nm.size ∨ 64 < 0); omega)]
  rw [if_neg (show ¬ Val.chk (cPush nm n).old ≠ 0 from fun g => g chk_vz), if_neg (show ¬ Val.chk (cPush nm n).val ≠ 0 from fun g => g (chk_num n))]
  rw [if_neg (by rintro ⟨_, g⟩; exact absurd g (by show ¬ (1 : Int) = 0; decide)), if_neg (by rintro ⟨g, _⟩; exact absurd g (by show ¬ (10 : Int) = 15; decide))]
  rw [if_neg (fun g => g (by unfold Cmd.nums; rw [if_neg (by show ¬ (10 : Int) = 16; decide), if_pos (by show (10 : Int) ≠ 4; decide)]; trivial))]
theorem cmake_ok {nm : ByteArray} (h : named nm) : Cmd.chk (cMake nm) = 0 := by
  have ho : Cmd.others (cMake nm) := ⟨.inl rfl, .inr rfl, .inr nil_vz, .inr nil_vz, .inl rfl, .inl rfl⟩
  have h1 := h.1
  have h2 := h.2
  unfold Cmd.chk
  rw [if_neg (by
    rintro (g | g | g | g)
    · exact absurd g (by show ¬ (4 : Int) < 1; decide)
    · exact absurd g (by show ¬ (18 : Int) < 4; decide)
    · exact g ho
    · exact h1 g.2)]
  rw [if_neg (by show ¬ (16 < nm.size ∨ 64 < 0); omega)]
  rw [if_neg (show ¬ Val.chk (cMake nm).old ≠ 0 from fun g => g chk_vz), if_neg (show ¬ Val.chk (cMake nm).val ≠ 0 from fun g => g chk_vz)]
  rw [if_neg (by rintro ⟨g, _⟩; rcases g with g | g <;> exact absurd g (by show ¬ (4 : Int) = _; decide)), if_neg (by rintro ⟨g, _⟩; exact absurd g (by show ¬ (4 : Int) = 15; decide))]
  rw [if_neg (fun g => g (by
    unfold Cmd.nums
    rw [if_neg (by show ¬ (4 : Int) = 16; decide), if_neg (by show ¬ (4 : Int) ≠ 4; decide), if_neg (by show ¬ (1 : Int) = 2; decide), if_neg (by show ¬ (1 : Int) = 4; decide)]
    exact ⟨by show (1 : Int) ≤ 1; decide, by show (1 : Int) ≤ 5; decide, rfl⟩))]
/-- A ninth key. -/
theorem put_full {l : List Ob} {r : Rf} (hR : Right l) (hr : Lck.ok r) {o : Ob} (ho : o ∈ l) (hk : o.kind = 1) (h8 : o.prs.length = 8) {p : Dct.Pr} (hp : o.prs[7]? = some p) {key : ByteArray} (hkey : Dct.lt p.key key = true) (hs : key.size ≤ 64) (n : Int) :
    (doo l r (cPut o.name key n)).p.e = 6 := by
  have hone := one_parts (hR.ok o ho)
  have hd : Dct.Right o.prs := by
    have h3 := hone.2.2
    unfold sound at h3
    rw [if_pos hk] at h3
    exact of_decide_eq_true h3
  have hf := fnd_of_mem hR.up ho
  have hc : chk l r (cPut o.name key n) = 0 := by
    rw [chk_own ⟨hR, hr, by show (4 : Int) ≤ 7; decide, by show (7 : Int) ≤ 17; decide⟩ (cput_ok hone.1 hs n) (by show ¬ (7 : Int) = 4; decide)]
    show chkO (fnd l o.name) 7 = 0
    rw [hf]
    unfold chkO
    have h1 : fits 7 o.kind = true := by rw [hk]; rfl
    simp only [h1]
    rw [if_neg (by simp), if_neg (by rintro ⟨g, _⟩; exact absurd g (by decide))]
  rw [doo_act hc (by show ¬ (7 : Int) = 4; decide) (by show ¬ (7 : Int) = 5; decide) hf]
  show (act o r (cPut o.name key n)).p.e = 6
  have ha : act o r (cPut o.name key n) = ⟨{ o with prs := Dct.ptL o.prs key (num n) }, err (Dct.ptE o.prs key (num n)), false, []⟩ := rfl
  rw [ha]
  show Dct.ptE o.prs key (num n) = 6
  have hne : ∀ x ∈ o.prs, ¬ x.key = key := fun x hx => by
    obtain ⟨i, hi, e⟩ := List.getElem_of_mem hx
    have hl : Dct.lt x.key key = true := by
      obtain ⟨h7, e7⟩ := List.getElem?_eq_some_iff.1 hp
      by_cases h : i = 7
      · subst h
        rw [e] at e7
        subst e7
        exact hkey
      · have := (List.pairwise_iff_getElem.1 hd.up) i 7 hi h7 (by omega)
        rw [e, e7] at this
        exact Dct.lt_trans this hkey
    exact Dct.lt_ne hl
  have hpc : Dct.pchk key (num n) = 0 := by
    unfold Dct.pchk
    rw [if_neg (by show ¬ (1 : Int) = 0; decide), if_neg (by omega)]
    exact chk_num n
  unfold Dct.ptE
  rw [if_pos hd, if_pos hpc, if_neg (by rw [Dct.wo_above hne, h8]; decide)]
/-- One value more than there is room for. -/
theorem push_full {l : List Ob} {r : Rf} (hR : Right l) (hr : Lck.ok r) {o : Ob} (ho : o ∈ l) (hk : o.kind = 2) (h8 : (o.vals.length : Int) = o.cap) (n : Int) :
    (doo l r (cPush o.name n)).p.e = 6 := by
  have hone := one_parts (hR.ok o ho)
  have hd : Que.Right o.cap o.vals := by
    have h3 := hone.2.2
    unfold sound at h3
    rw [if_neg (by rw [hk]; decide), if_pos hk] at h3
    exact of_decide_eq_true h3
  have hf := fnd_of_mem hR.up ho
  have hc : chk l r (cPush o.name n) = 0 := by
    rw [chk_own ⟨hR, hr, by show (4 : Int) ≤ 10; decide, by show (10 : Int) ≤ 17; decide⟩ (cpush_ok hone.1 n) (by show ¬ (10 : Int) = 4; decide)]
    show chkO (fnd l o.name) 10 = 0
    rw [hf]
    unfold chkO
    have h1 : fits 10 o.kind = true := by rw [hk]; rfl
    simp only [h1]
    rw [if_neg (by simp), if_neg (by rintro ⟨g, _⟩; exact absurd g (by decide))]
  rw [doo_act hc (by show ¬ (10 : Int) = 4; decide) (by show ¬ (10 : Int) = 5; decide) hf]
  show (act o r (cPush o.name n)).p.e = 6
  have ha : act o r (cPush o.name n) = ⟨{ o with vals := Que.psL o.cap o.vals (num n) }, err (Que.psE o.cap o.vals (num n)), false, []⟩ := rfl
  rw [ha]
  show Que.psE o.cap o.vals (num n) = 6
  have hvc : Que.vchk (num n) = 0 := by
    unfold Que.vchk
    rw [if_neg (by show ¬ (1 : Int) = 0; decide)]
    exact chk_num n
  exact (Que.ps_full hd hvc h8).1
/-- A ninth object. -/
theorem make_full {l : List Ob} {r : Rf} (hR : Right l) (hr : Lck.ok r) (h8 : l.length = 8) {nm : ByteArray} (hn : named nm) :
    (doo l r (cMake nm)).p.e = if (fnd l nm).isSome = true then 8 else 6 := by
  have hc : chk l r (cMake nm) = if (fnd l nm).isSome = true then 8 else 6 := by
    rw [chk_new ⟨hR, hr, by show (4 : Int) ≤ 4; decide, by show (4 : Int) ≤ 17; decide⟩ (cmake_ok hn) rfl]
    show chkN l nm = _
    unfold chkN
    rw [if_pos h8]
  have hz : chk l r (cMake nm) ≠ 0 := by rw [hc]; split <;> decide
  rw [doo_err hz]
  exact hc
end Sto
end Go.Proofs.Ytpkodjllljnleaa
