/- What a session's end leaves, object by object: the rounds of a loop, pure; how what is told lies. No condition but those named. -/
import Derived.Test.YtpkodjllljnleaaGreatTk
import Derived.Test.YtpkodjllljnleaaGreatMP
import Derived.Test.YtpkodjllljnleaaGreatMY
import Derived.Test.YtpkodjllljnleaaGreatMO
set_option linter.unusedSimpArgs false
set_option linter.unusedVariables false
namespace Go.Proofs.YtpkodjllljnleaaGreat
open Go.RowKit
namespace Sto
def drk (l : List Ob) (r : Rf) (k : Nat) : List Ob := (l.take k).map (fun o => dr o r) ++ l.drop k
def osk (l : List Ob) (r : Rf) (k : Nat) : List Ot := (l.take k).flatMap fun o => drO o r
theorem drk_get {l : List Ob} {r : Rf} {k : Nat} {x : Ob} (h : l[k]? = some x) : (drk l r k)[k]? = some x := by
 have hk := (List.getElem?_eq_some_iff.1 h).1
 have e : ((l.take k).map (fun o => dr o r)).length = k := by rw [List.length_map, List.length_take]; omega
 unfold drk
 rw [List.getElem?_append_right (by omega), e, Nat.sub_self, List.getElem?_drop]
 exact h
theorem drk_succ {l : List Ob} {r : Rf} {k : Nat} {x : Ob} (h : l[k]? = some x) : drk l r (k + 1) = (drk l r k).set k (dr x r) := by
 have hk := (List.getElem?_eq_some_iff.1 h).1
 have hx := (List.getElem?_eq_some_iff.1 h).2
 have e : ((l.take k).map (fun o => dr o r)).length = k := by rw [List.length_map, List.length_take]; omega
 unfold drk
 rw [Lay.take_succ h, List.map_append, List.set_append_right _ _ (by omega), e, Nat.sub_self, List.drop_eq_getElem_cons hk, List.set_cons_zero, List.append_assoc]
 rfl
theorem drk_same {l : List Ob} {r : Rf} {k : Nat} {x : Ob} (h : l[k]? = some x) (hd : dr x r = x) : drk l r (k + 1) = drk l r k := by
 rw [drk_succ h, hd]
 have h2 := drk_get (r := r) h
 obtain ⟨hk, he⟩ := List.getElem?_eq_some_iff.1 h2
 conv => lhs; rw [← he]
 exact List.set_getElem_self hk
theorem drk_all {l : List Ob} {r : Rf} {k : Nat} (h : l.length ≤ k) : drk l r k = l.map fun o => dr o r := by
 unfold drk
 rw [List.take_of_length_le h, List.drop_of_length_le h, List.append_nil]
theorem osk_all {l : List Ob} {r : Rf} {k : Nat} (h : l.length ≤ k) : osk l r k = l.flatMap fun o => drO o r := by
 unfold osk
 rw [List.take_of_length_le h]
theorem osk_succ {l : List Ob} {r : Rf} {k : Nat} {x : Ob} (h : l[k]? = some x) : osk l r (k + 1) = osk l r k ++ drO x r := by
 unfold osk
 rw [Lay.take_succ h, List.flatMap_append, List.flatMap_cons, List.flatMap_nil, List.append_nil]
theorem held_len (y : Rf) (h : Bool) : (held y h).length ≤ 1 := by
 unfold held
 split <;> simp
theorem drO_len (x : Ob) (r : Rf) : (drO x r).length ≤ 1 := by
 unfold drO
 split
 ·exact held_len _ _
 ·simp
theorem osk_len (l : List Ob) (r : Rf) : ∀ k, (osk l r k).length ≤ k
 | 0 => by simp [osk]
 | k + 1 => by
  have ih := osk_len l r k
  cases h : l[k]? with
  | none =>
   have e : osk l r (k + 1) = osk l r k := by
    have := List.getElem?_eq_none_iff.1 h
    rw [osk_all this, osk_all (by omega)]
   rw [e]; omega
  | some x =>
   rw [osk_succ h, List.length_append]
   have := drO_len x r
   omega
end Sto
def IsDp (G : World → Prop) (y : List Sto.Ob) (os : List Sto.Ot) (w : World) (e : Ending) (w' : World) : Prop := ∃ (A : Option Addr) (n c : Nat) (l : List Oh) (O : Option Addr) (k d : Nat) (Rn : List RowE), e = .returned (.tuple #[.slice A n c, .slice O k d]) ∧ Hid (vs l = y) ∧ Kn w.heap.size w w' [] Rn ∧
 Hid (∀ (b : Nat) (W0 W : World) L R, Kn b W0 W L R → (∀ z ∈ Rn, z ∈ R) → G W → Obs W A n c l ∧ Sls otLay tF W O k d os)
section
variable {b0 : Nat} {w0 w : World} {L : List (Nat × TypeId × Array Value)} {R : List RowE}
theorem OwnOr.kn {w' : World} {A A' : Option Addr} {n c n' c' : Nat} {l r : List Rf} (h : OwnOr rfLay w.heap.size w' A n c l A' n' c' r) (hb : Below w.heap.size w w') (hf : Fits rfLay rF r) : ∃ Rn, Kn w.heap.size w w' [] Rn ∧ Hid (∀ (b : Nat) (W0 W : World) L R, Kn b W0 W L R → (∀ z ∈ Rn, z ∈ R) → Sls rfLay rF W A n c l → Sls rfLay rF W A' n' c' r) := by
 rcases h with h | ⟨rfl, rfl, rfl, rfl⟩
 ·exact ⟨_, (Kn.start w).called hb h, zH fun _ _ _ _ _ K hm _ => Sls.own (K.mem (hm _ (List.mem_cons_self ..))) hf⟩
 ·exact ⟨_, (Kn.start w).call hb, zH fun _ _ _ _ _ _ _ h => h⟩
theorem Kn.rot {a b : RowE} {T : List RowE} (h : Kn b0 w0 w L ((a :: T) ++ [b])) : Kn b0 w0 w L (a :: b :: T) := by
 refine h.pick (fun i => i) (fun i => if i = 0 then 0 else if i = 1 then T.length + 1 else i - 1) (fun i j _ _ hij => hij) (fun i j hi hj hij => ?_) (fun i x hx => hx) (fun i x hx => ?_)
 ·simp only [List.length_cons] at hi hj
  show (if i = 0 then 0 else if i = 1 then T.length + 1 else i - 1) ≠ (if j = 0 then 0 else if j = 1 then T.length + 1 else j - 1)
  split <;> split <;> (try split) <;> (try split) <;> omega
 ·match i, hx with
  | 0, hx => simpa using hx
  | 1, hx =>
   show ((a :: T) ++ [b])[T.length + 1]? = some x
   rw [List.getElem?_append_right (by simp)]
   simpa using hx
  | i + 2, hx =>
   have hl := (List.getElem?_eq_some_iff.1 hx).1
   simp only [List.length_cons] at hl
   show ((a :: T) ++ [b])[i + 1]? = some x
   rw [List.getElem?_append_left (by simp; omega)]
   simpa using hx
theorem Kn.atR0 {P : Program} {α : Type} {La : Lay P α} (h : Kn b0 w0 w L R) {j g n c : Nat} {l : List α} (hR : R[j]? = some (row La (.slice (some ⟨g, 0, none⟩) n c) l)) {i : Nat} {x : α} (hx : l[i]? = some x) (q : Nat) (v : Value) (hv : (La.f x)[q]? = some v) : w.cell? ⟨g, i * La.k + q, none⟩ = some v := by
 have h1 := h.atR hR hx q v hv
 rwa [Nat.zero_add] at h1
theorem Kn.cutR {a b m : RowE} {T : List RowE} (h : Kn b0 w0 w L (a :: b :: (T ++ [m]))) : Kn b0 w0 w L (a :: b :: T) := by
 have h1 := h.takeR (T.length + 2)
 have e : (a :: b :: (T ++ [m])).take (T.length + 2) = a :: b :: T := by
  rw [List.take_succ_cons, List.take_succ_cons, List.take_left']
  rfl
 rwa [e] at h1
theorem step_akrd {ops : Array Oper} {o : Oper} {a : Act} {Q : Exit → Act → World → Prop} {K : Act → World → Prop} {E : Prop} (HK : Hid (Kn b0 w0 w L R)) (hgd : o.guard = none) (ho : o.op = .alloc 24)
  (h : ∀ w' g, Hid (Kn b0 w0 w' (L ++ [(g, 24, #[.int .i64 0, .int .i64 0, .int .i64 0])]) R) → K (a.put o.dst (.pointer (some ⟨g, 0, none⟩))) w') : if Region.wanted o (yielded ops a.tmps) = true then Oper.wp Tryz.prog o a w K Q else E := by
 rw [if_pos (by simp [Region.wanted, hgd])]
 have h4 := h _ w.heap.size (zH (HK.out.alloc 24 #[.int .i64 0, .int .i64 0, .int .i64 0]))
 have hr : (Instr.alloc 24 true (.tuple #[])).run Tryz.prog w = .ok (.pointer (some ⟨w.heap.size, 0, none⟩)) (w.alloc (.cells #[.int .i64 0, .int .i64 0, .int .i64 0] 24)) := rfLay.run_alloc w
 unfold Oper.wp execOp
 simp only [ho, Sem.run_bind, Sem.run_pure, hr, Result.andThen_ok]
 exact h4
end
end Go.Proofs.YtpkodjllljnleaaGreat
