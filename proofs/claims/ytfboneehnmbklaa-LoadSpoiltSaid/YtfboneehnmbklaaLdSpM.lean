/-
  The pieces of a text, one of which is turned in some of four neighbouring bytes: what is known of the load that takes them in order.
  Pure. No condition but those named.
-/
import Derived.Test.YtfboneehnmbklaaLdWhM
import Derived.Test.YtfboneehnmbklaaCrcTurn
namespace Go.Proofs.Ytfboneehnmbklaa
namespace Ldm
/-- The piece as it is taken: that of the place i's is turned from there on. -/
def bk (s : ByteArray) (i t k : Nat) : ByteArray := if i / 64 = k then ⟨(Crc.turned (pce s k).data.toList (i % 64) t 4).toArray⟩ else pce s k
theorem bk_size (s : ByteArray) (i t k : Nat) : (bk s i t k).size = (pce s k).size := by
  unfold bk
  split
  · show (Crc.turned (pce s k).data.toList (i % 64) t 4).toArray.size = _
    rw [List.size_toArray, Crc.turned_length, Array.length_toList]; rfl
  · rfl
/-- Of the pieces the first k have been taken. -/
def SI (s : ByteArray) (i t k : Nat) (y : Ldd) : Prop :=
  (k = 0 ∧ y = ⟨1, 0, 0, [], []⟩) ∨ (0 < k ∧ y.n = 1 ∧ y.t = (cn s.size : Nat) ∧ y.s = Crc.more 0 s.data.toList ∧ y.h.length = cn s.size ∧ y.d.length = cn s.size ∧
    (∀ j, j < cn s.size → y.h[j]? = some (decide (j < k))) ∧ ∀ j, j < k → y.d[j]? = some (bk s i t j))
theorem si_new (s : ByteArray) (i t : Nat) : SI s i t 0 ⟨1, 0, 0, [], []⟩ := .inl ⟨rfl, rfl⟩
theorem si_step {s : ByteArray} {i t k : Nat} {y : Ldd} (h : SI s i t k y) (hs : s.size ≤ 16384) (hk : k < cn s.size) (hp : PR ⟨1, (k : Int), (cn s.size : Nat), Crc.more 0 s.data.toList, bk s i t k⟩) :
    SI s i t (k + 1) (tk y ⟨1, (k : Int), (cn s.size : Nat), Crc.more 0 s.data.toList, bk s i t k⟩) := by
  have c1 := cn_pos s.size
  have c2 := cn_le hs
  have hh : ∀ (D : List Bool), D.length = cn s.size → (∀ j, j < cn s.size → D[j]? = some (decide (j < k))) → ∀ j, j < cn s.size → (D.set k true)[j]? = some (decide (j < k + 1)) := fun D hD hj j q => by
    rw [List.getElem?_set]
    by_cases e : k = j
    · subst e
      rw [if_pos rfl, if_pos (by omega), decide_eq_true (by omega)]
    · rw [if_neg e, hj j q]
      congr 1
      rw [decide_eq_decide]
      omega
  have hd : ∀ (D : List ByteArray), D.length = cn s.size → (∀ j, j < k → D[j]? = some (bk s i t j)) → ∀ j, j < k + 1 → (D.set k (bk s i t k))[j]? = some (bk s i t j) := fun D hD hj j q => by
    rw [List.getElem?_set]
    by_cases e : k = j
    · subst e
      rw [if_pos rfl, if_pos (by omega)]
    · rw [if_neg e]
      exact hj j (by omega)
  rcases h with ⟨rfl, rfl⟩ | ⟨h0, h1, h2, h3, h4, h5, h6, h7⟩
  · rw [(tk_first (y := ⟨1, 0, 0, [], []⟩) ⟨by simp, by simp, rfl, rfl⟩ hp ⟨rfl, .inl rfl⟩ rfl).1]
    refine .inr ⟨by omega, rfl, rfl, rfl, by simp [pt, bg], by simp [pt, bg], ?_, ?_⟩
    · have e : (pt (bg ⟨1, ((0 : Nat) : Int), (cn s.size : Nat), Crc.more 0 s.data.toList, bk s i t 0⟩) ⟨1, ((0 : Nat) : Int), (cn s.size : Nat), Crc.more 0 s.data.toList, bk s i t 0⟩).h = (List.replicate (cn s.size) false).set 0 true := by simp [pt, bg]
      rw [e]
      exact hh _ (by simp) (fun j q => by rw [List.getElem?_replicate, if_pos q]; simp)
    · have e : (pt (bg ⟨1, ((0 : Nat) : Int), (cn s.size : Nat), Crc.more 0 s.data.toList, bk s i t 0⟩) ⟨1, ((0 : Nat) : Int), (cn s.size : Nat), Crc.more 0 s.data.toList, bk s i t 0⟩).d = (List.replicate (cn s.size) ⟨#[]⟩).set 0 (bk s i t 0) := by simp [pt, bg]
      rw [e]
      exact hd _ (by simp) (fun j q => by omega)
  · have hx : ¬ y.h[((k : Int)).toNat]? = some true := by
      rw [Int.toNat_natCast, h6 k hk, decide_eq_false (Nat.lt_irrefl k)]; simp
    rw [(tk_new (y := y) ⟨by rw [h2]; omega, by rw [h2]; omega, by rw [h2, h4], by rw [h2, h5]⟩ hp ⟨h1, .inr ⟨h2, h3⟩⟩ (by rw [h2]; omega) hx).1]
    refine .inr ⟨by omega, h1, h2, h3, ?_, ?_, ?_, ?_⟩
    · show (y.h.set _ _).length = _
      rw [List.length_set]; exact h4
    · show (y.d.set _ _).length = _
      rw [List.length_set]; exact h5
    · exact hh y.h h4 h6
    · exact hd y.d h5 h7
theorem burst_mid (A P T B : List UInt8) (m : Nat) (hl : T.length = P.length) (h1 : T.take m = P.take m) (h2 : T.drop (m + 4) = P.drop (m + 4)) (h : Crc.more 0 (A ++ T ++ B) = Crc.more 0 (A ++ P ++ B)) : T = P := by
  have p1 := Crc.parts T m
  have p2 := Crc.parts P m
  rw [h1, h2] at p1
  have e1 : A ++ T ++ B = (A ++ P.take m) ++ (T.drop m).take 4 ++ (P.drop (m + 4) ++ B) := by
    rw [show A ++ T ++ B = A ++ (P.take m ++ (T.drop m).take 4 ++ P.drop (m + 4)) ++ B from by rw [← p1]]
    simp only [List.append_assoc]
  have e2 : A ++ P ++ B = (A ++ P.take m) ++ (P.drop m).take 4 ++ (P.drop (m + 4) ++ B) := by
    rw [show A ++ P ++ B = A ++ (P.take m ++ (P.drop m).take 4 ++ P.drop (m + 4)) ++ B from by rw [← p2]]
    simp only [List.append_assoc]
  rw [e1, e2] at h
  have h9 := Crc.more_burst 0 _ _ _ _ (by rw [List.length_take]; omega) (by simp [hl]) h
  rw [p1, h9, ← p2]
theorem cat_set {l : List ByteArray} {k : Nat} {x : ByteArray} (h : l[k]? = some x) : cat l = cat (l.take k) ++ x.data.toList ++ cat (l.drop (k + 1)) := by
  have h1 : l = l.take k ++ [x] ++ l.drop (k + 1) := by
    have h2 := List.getElem?_eq_some_iff.1 h
    obtain ⟨h3, h4⟩ := h2
    rw [List.append_assoc]
    have : [x] ++ l.drop (k + 1) = l.drop k := by
      rw [List.drop_eq_getElem_cons h3, h4]; rfl
    rw [this, List.take_append_drop]
  conv => lhs; rw [h1]
  rw [cat_append, cat_append, cat_one]
/-- When all have been taken: whole just when none is another one. -/
theorem si_end {s : ByteArray} {i t : Nat} {y : Ldd} (h : SI s i t (cn s.size) y) (hi : i < s.size) (hs : s.size ≤ 16384) :
    (bk s i t (i / 64) = pce s (i / 64) → whE y = 0 ∧ wh y = s) ∧ (¬ bk s i t (i / 64) = pce s (i / 64) → whE y = 4 ∧ wh y = ⟨#[]⟩) := by
  have c1 := cn_pos s.size
  have c2 := cn_le hs
  have c3 : i / 64 < cn s.size := by have := cn_cover s.size; omega
  rcases h with ⟨h0, _⟩ | ⟨_, h1, h2, h3, h4, h5, h6, h7⟩
  · omega
  have hl : LR y := ⟨by rw [h2]; omega, by rw [h2]; omega, by rw [h2, h4], by rw [h2, h5]⟩
  have hm : ms y = -1 := by
    unfold ms
    rw [if_neg (fun q => q.elim (fun q => by rw [h2] at q; omega) (fun q => q hl))]
    exact fi_none _ (fun j hj => by rw [h6 j (by rw [← h4]; exact hj), decide_eq_true (by rw [← h4]; exact hj)])
  -- the text's own pieces
  obtain ⟨D, hD⟩ : ∃ D : List ByteArray, D = (List.range (cn s.size)).map (pce s) := ⟨_, rfl⟩
  have hDl : D.length = cn s.size := by rw [hD]; simp
  have hDk : ∀ k, k < cn s.size → D[k]? = some (pce s k) := fun k hk => by
    rw [hD, List.getElem?_map, List.getElem?_range hk]; rfl
  have hcat := cat_all hDl hDk
  have hyd : y.d = D.set (i / 64) (bk s i t (i / 64)) := by
    apply List.ext_getElem?
    intro j
    rw [List.getElem?_set]
    rcases Nat.lt_or_ge j (cn s.size) with hj | hj
    · rw [h7 j hj]
      by_cases e : i / 64 = j
      · rw [if_pos e, if_pos (by omega), e]
      · rw [if_neg e, hDk j hj]
        unfold bk
        rw [if_neg e]
    · rw [List.getElem?_eq_none (by omega)]
      by_cases e : i / 64 = j
      · omega
      · rw [if_neg e, List.getElem?_eq_none (by omega)]
  constructor
  · intro he
    have hy : y.d = D := by
      rw [hyd, he]
      apply List.ext_getElem?
      intro j
      rw [List.getElem?_set]
      by_cases e : i / 64 = j
      · subst e; rw [if_pos rfl, if_pos (by omega), hDk _ c3]
      · rw [if_neg e]
    refine ⟨?_, ?_⟩
    · unfold whE
      rw [if_neg (fun q => q hm), hy, hcat, if_pos h3.symm]
    · unfold wh
      rw [if_neg (fun q => q hm), hy, hcat, if_pos h3.symm]
  · intro hne
    have hset : cat (D.set (i / 64) (bk s i t (i / 64))) = cat (D.take (i / 64)) ++ (bk s i t (i / 64)).data.toList ++ cat (D.drop (i / 64 + 1)) := by
      have h8 := cat_set (l := D.set (i / 64) (bk s i t (i / 64))) (k := i / 64) (x := bk s i t (i / 64)) (by rw [List.getElem?_set, if_pos rfl, if_pos (by omega)])
      rw [List.take_set_of_le (Nat.le_refl _), List.drop_set_of_lt (by omega)] at h8
      exact h8
    have horig := cat_set (hDk _ c3)
    rw [hcat] at horig
    have hT : (bk s i t (i / 64)).data.toList = Crc.turned (pce s (i / 64)).data.toList (i % 64) t 4 := by
      unfold bk; rw [if_pos rfl]
    have hne2 : ¬ Crc.turned (pce s (i / 64)).data.toList (i % 64) t 4 = (pce s (i / 64)).data.toList := fun q => hne (by
      rw [← hT] at q
      exact ByteArray.ext (Array.toList_inj.1 q))
    have hsum : ¬ Crc.more 0 (cat y.d) = y.s := fun q => by
      rw [h3, hyd, hset, hT] at q
      rw [horig] at q
      exact hne2 (burst_mid _ _ _ _ (i % 64) (Crc.turned_length _ _ _ 4) (Crc.turned_take _ _ _ 4) (Crc.turned_drop _ _ _ 4 (Nat.le_refl 4)) q)
    refine ⟨?_, ?_⟩
    · unfold whE
      rw [if_neg (fun q => q hm), if_neg hsum]
    · unfold wh
      rw [if_neg (fun q => q hm), if_neg hsum]
end Ldm
end Go.Proofs.Ytfboneehnmbklaa
