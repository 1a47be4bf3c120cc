/-
  What value.From returns at a place of items: what stands there, where it is a value.
  No condition but bounds on the slice.
-/
import Derived.Test.YtcofjaeljglodaaVlTake
import Derived.Test.YtcofjaeljglodaaItemEqual
set_option linter.unusedSimpArgs false
set_option linter.unusedVariables false
namespace Go.Proofs.Ytcofjaeljglodaa
open Go.RowKit

/-- What From leaves: something; the value v, the place behind it and true, where c holds. True only with a place in the slice. -/
def IsVF (v : Val.V) (p z n : Nat) (c : Prop) (w : World) (e : Ending) (w' : World) : Prop := ∃ (u : Val.V) (y : Nat) (b : Bool), e = .returned (.tuple #[vv u, .int .i64 (y : Int), .bool b]) ∧ (c → u = v ∧ y = z ∧ b = true) ∧ (b = true → p ≤ y ∧ y ≤ n) ∧ u.f < 18446744073709551616 ∧ Below w.heap.size w w'
theorem ret_v3 {fn : Func} {R : Ending → World → Prop} {a : Act} {w : World} {B : Nat} {k n : Int} {f : Nat} {s : ByteArray} {u z : Value} {q q2 q3 : Tmp} (hf : fn.results = #[.cell q 24, .tmp q2, .tmp q3]) (h2 : a.tmps[q]? = some (.pointer (some ⟨B, 0, none⟩))) (h3 : a.tmps[q2]? = some u) (h4 : a.tmps[q3]? = some z) (hd : a.defers = []) (hb : Blk w B 24 (vC k n f s))
    (hR : R (.returned (.tuple #[.agg #[.int .i64 k, .int .i64 n, .int .u64 (f : Int), .string s], u, z])) w) : bodyPost Try.prog fn R Exit.ret a w := by
  refine bodyPost_ret (v := .tuple #[.agg #[.int .i64 k, .int .i64 n, .int .u64 (f : Int), .string s], u, z]) ?_ hd hR
  have h : (loadVar 24 ⟨B, 0, none⟩).run Try.prog w = .ok (.agg (vC k n f s)) w := run_loadVar_row (P := Try.prog) w B _ _ _ (0, 0) _ hb Try.underlying24 rfl info_v4
  unfold vC at h
  simp [results, hf, asAddr, Sem.run_bind, h2, h3, h4, h]
theorem it_len (v : Val.V) : 1 ≤ (Val.items v).length ∧ (Val.items v).length ≤ 2 := by
  rw [items_split]; (repeat' split) <;> simp
theorem at_drop {w : World} {b o : Nat} {l : List Itm.It} (p : Nat) (h : ∀ i x, l[i]? = some x → itemLay.At w b o i x) : ∀ i x, (l.drop p)[i]? = some x → itemLay.At w b (o + p * 3) i x := fun i x hx => by
  rw [List.getElem?_drop] at hx
  have h1 := h _ _ hx
  intro j u hu
  have := h1 j u hu
  have e : itemLay.k = 3 := rfl
  rw [e] at this ⊢
  rw [show o + p * 3 + i * 3 + j = o + (p + i) * 3 + j from by omega]
  exact this
set_option maxRecDepth 100000 in
set_option maxHeartbeats 6400000 in
theorem vfrom_any (A : Option Addr) (c n p : Nat) (l : List Itm.It) (w : World) (hl : l.length = n) (hp : p ≤ n) (hc : n ≤ c) (hbig : n ≤ 1000000000) (hi : itemLay.Reads w w.heap.size A l) :
    Calls Try.prog 49 #[.slice A n c, .int .i64 p] w
      (IsVF (Val.take (l.drop p)) p (p + (Val.items (Val.take (l.drop p))).length) n (p < n ∧ Val.chk (Val.take (l.drop p)) = 0 ∧ p + (Val.items (Val.take (l.drop p))).length ≤ n ∧ (l.drop p).take (Val.items (Val.take (l.drop p))).length = Val.items (Val.take (l.drop p))) w) := by
  have HZ : Hid (∀ c w', Below w.heap.size w w' → ¬ c → IsVF (Val.take (l.drop p)) p (p + (Val.items (Val.take (l.drop p))).length) n c w (.returned (.tuple #[.agg #[.int .i64 0, .int .i64 0, .int .u64 ((0 : Nat) : Int), .string ⟨#[]⟩], .int .i64 ((0 : Nat) : Int), .bool false])) w') :=
    Lib.hid fun c w' hb hc => ⟨⟨0, 0, 0, ⟨#[]⟩⟩, 0, false, rfl, fun h => absurd h hc, (fun h => by cases h), (by decide), hb⟩
  by_cases hpn : p < n
  case neg =>
    have hpe : ¬ ((p : Int) < (n : Int)) := by omega
    have h1 : ¬ ((p : Int) < 0) := by omega
    have h2 : (n : Int) ≤ (p : Int) := by omega
    have HF : Hid (¬ (p < n ∧ Val.chk (Val.take (l.drop p)) = 0 ∧ p + (Val.items (Val.take (l.drop p))).length ≤ n ∧ (l.drop p).take (Val.items (Val.take (l.drop p))).length = Val.items (Val.take (l.drop p)))) := Lib.hid fun h => hpn h.1
    generalize (p < n ∧ Val.chk (Val.take (l.drop p)) = 0 ∧ p + (Val.items (Val.take (l.drop p))).length ≤ n ∧ (l.drop p).take (Val.items (Val.take (l.drop p))).length = Val.items (Val.take (l.drop p))) = cc at *
    generalize p + (Val.items (Val.take (l.drop p))).length = zz at *
    generalize Val.take (l.drop p) = v at *
    have HK := Lib.hid (Kn.start w)
    clear hi hl hpn
    go_enter Try.func49, Try.ntmps49
    go_wp2_with (first | (refine wpList_akv HK rfl rfl ?_; intro _ g1 HK'; simp only [List.cons_append, List.nil_append] at HK'; replace HK := HK'; clear HK') | (refine wpList_sv (f2 := 0) HK 0 rfl _ _ rfl rfl rfl rfl ?_; intro _ HK'; simp only [List.set] at HK'; replace HK := HK'; clear HK'))
    exact ret_v3 Try.results49 rfl rfl rfl rfl (HK.out.blk 0 rfl) (HZ.out _ _ HK.out.b HF.out)
  case pos =>
  obtain ⟨b, o, rfl, hb, hat⟩ := hi (by omega)
  have HT := Lib.hid (fun W (hW : Below w.heap.size w W) => vtake_any b (o + p * 3) (c - p) (n - p) (l.drop p) W (by rw [List.length_drop, hl]) (by omega) (by omega) (by omega) (Nat.lt_of_lt_of_le hb hW.size) (at_drop p fun i x hx => (hat i x hx).keep fun q hq => hW.cell (by rw [hq]; exact hb)))
  have hf := take_f_lt (l.drop p)
  have hil := it_len (Val.take (l.drop p))
  have HI := Lib.hid hi
  have HIt := Lib.hid (fun W => vitems_any (Val.take (l.drop p)) W hf)
  have HCk := Lib.hid (fun W => check_any (Val.take (l.drop p)) W hf)
  have HF := Lib.hid hf
  have hcd : p + (Val.items (Val.take (l.drop p))).length ≤ n → ((l.drop p).take (Val.items (Val.take (l.drop p))).length).length = (Val.items (Val.take (l.drop p))).length := fun h => by
    rw [List.length_take, List.length_drop, hl]; omega
  have HEQ : Hid (∀ W A' c' m, Below w.heap.size w W → itemLay.Reads W W.heap.size A' (Val.items (Val.take (l.drop p))) → (Val.items (Val.take (l.drop p))).length = m → p + m ≤ n → Calls Try.prog 39 #[.slice (some ⟨b, o + p * 3, none⟩) m (c - p), .slice A' m c'] W (IsEq ((l.drop p).take (Val.items (Val.take (l.drop p))).length) (Val.items (Val.take (l.drop p))) W)) := Lib.hid (by
    intro W A' c' m hW ho hm hle
    subst hm
    have h := iequal_any (some ⟨b, o + p * 3, none⟩) A' (c - p) c' ((l.drop p).take (Val.items (Val.take (l.drop p))).length) (Val.items (Val.take (l.drop p))) W W.heap.size W.heap.size (by rw [hcd (by omega)]; omega) (by omega) (((HI.out.later hW (Nat.le_refl _)).drop p).take _) ho
    rw [hcd (by omega)] at h
    exact h)
  have hpc : p ≤ c := by omega
  have hm := hil.2
  clear hi hat hf hl hil
  have HG : Hid (∀ w', Below w.heap.size w w' → p + (Val.items (Val.take (l.drop p))).length ≤ n → IsVF (Val.take (l.drop p)) p (p + (Val.items (Val.take (l.drop p))).length) n (p < n ∧ Val.chk (Val.take (l.drop p)) = 0 ∧ p + (Val.items (Val.take (l.drop p))).length ≤ n ∧ (l.drop p).take (Val.items (Val.take (l.drop p))).length = Val.items (Val.take (l.drop p))) w (.returned (.tuple #[vv (Val.take (l.drop p)), .int .i64 ((p + (Val.items (Val.take (l.drop p))).length : Nat) : Int), .bool true])) w') :=
    Lib.hid fun w' hb hle => ⟨_, _, true, rfl, fun _ => ⟨rfl, rfl, rfl⟩, fun _ => ⟨by omega, hle⟩, HF.out, hb⟩
  have HN : Hid ((p < n ∧ Val.chk (Val.take (l.drop p)) = 0 ∧ p + (Val.items (Val.take (l.drop p))).length ≤ n ∧ (l.drop p).take (Val.items (Val.take (l.drop p))).length = Val.items (Val.take (l.drop p))) → Val.chk (Val.take (l.drop p)) = 0 ∧ p + (Val.items (Val.take (l.drop p))).length ≤ n ∧ (l.drop p).take (Val.items (Val.take (l.drop p))).length = Val.items (Val.take (l.drop p))) := Lib.hid fun h => h.2
  generalize (p < n ∧ Val.chk (Val.take (l.drop p)) = 0 ∧ p + (Val.items (Val.take (l.drop p))).length ≤ n ∧ (l.drop p).take (Val.items (Val.take (l.drop p))).length = Val.items (Val.take (l.drop p))) = cc at *
  clear hcd HF
  unfold IsIt at HIt
  generalize (l.drop p).take (Val.items (Val.take (l.drop p))).length = pre at *
  generalize Val.take (l.drop p) = v at *
  generalize Val.items v = own at *
  generalize hmm : own.length = m at *
  have HM := Lib.hid hmm
  clear hmm
  obtain ⟨k, q, f, s⟩ := v
  generalize hck : Val.chk ⟨k, q, f, s⟩ = z at *
  have HCK := Lib.hid hck
  clear hck
  unfold vv IsE IsEq at *
  simp only at HT HIt HCk HG
  have h1 : ¬ ((p : Int) < 0) := by omega
  have h2 : ¬ ((n : Int) ≤ (p : Int)) := by omega
  have h3 : wrap64 ((p : Int) + (m : Int)) = ((p + m : Nat) : Int) := by unfold wrap64; omega
  have hz : z = 0 ∨ (z != 0) = true := by
    by_cases h : z = 0
    · exact .inl h
    · exact .inr (by simpa using h)
  have HK := Lib.hid (Kn.start w)
  go_enter Try.func49, Try.ntmps49
  go_wp2_with (first | (refine wpList_akv HK rfl rfl ?_; intro _ g1 HK'; simp only [List.cons_append, List.nil_append] at HK'; replace HK := HK'; clear HK'))
  refine (HT.out _ HK.out.b).mono ?_; rintro e w1 ⟨rfl, b1⟩
  replace HK := Lib.hid (HK.out.call b1)
  clear b1 HT
  go_wp2_with (first | (refine wpList_akv HK rfl rfl ?_; intro _ g1 HK'; simp only [List.cons_append, List.nil_append] at HK'; replace HK := HK'; clear HK') | (refine wpList_sv HK 1 rfl _ _ rfl rfl rfl rfl ?_; intro _ HK'; simp only [List.set] at HK'; replace HK := HK'; clear HK') | refine wpList_of_exec (by rfl) (kexec_vv HK 1 _ rfl rfl rfl) ?_)
  refine (HIt.out _).mono ?_; rintro e w2 ⟨A2, c2, rfl, o2, b2⟩
  have HO := Lib.hid (Lay.Own.reads o2).2
  replace HK := Lib.hid (HK.out.call b2)
  clear b2 o2 HIt
  go_wp2_with (first | refine wpList_of_exec (by rfl) (kexec_vv HK 1 _ rfl rfl rfl) ?_)
  refine (HCk.out _).mono ?_; rintro e w3 ⟨rfl, b3⟩
  replace HK := Lib.hid (HK.out.call b3)
  replace HO := Lib.hid (HO.out.later b3 (Nat.le_refl _))
  clear b3 HCk
  rcases hz with rfl | hz
  · by_cases hle : p + m ≤ n
    · have h4 : ¬ ((n : Int) < ((p + m : Nat) : Int)) := by omega
      have h5 : ¬ ((n : Int) < (p : Int) + (m : Int)) := by omega
      have h6 : p + m ≤ c := by omega
      have h7 : p ≤ p + m := by omega
      go_wp2_with fail
      refine (HEQ.out _ _ _ _ HK.out.b HO.out rfl hle).mono ?_; rintro e w4 ⟨bb, rfl, hbb, nn, rfl⟩
      replace HK := Lib.hid (HK.out.drewN nn)
      have HBB := Lib.hid hbb
      clear hbb
      cases bb
      · go_wp2_with (first | (refine wpList_sv (f2 := 0) HK 0 rfl _ _ rfl rfl rfl rfl ?_; intro _ HK'; simp only [List.set] at HK'; replace HK := HK'; clear HK'))
        exact ret_v3 Try.results49 rfl rfl rfl rfl (HK.out.blk 0 rfl) (HZ.out _ _ HK.out.b fun h => absurd (HBB.out (HN.out h).2.2) (by simp))
      · go_wp2_with (first | refine wpList_of_exec (by rfl) (kexec_vv HK 1 _ rfl rfl rfl) ?_ | (refine wpList_sv HK 0 rfl _ _ rfl rfl rfl rfl ?_; intro _ HK'; simp only [List.set] at HK'; replace HK := HK'; clear HK'))
        exact ret_v3 Try.results49 rfl rfl rfl rfl (HK.out.blk 0 rfl) (HG.out _ HK.out.b hle)
    · have h4 : ((n : Int) < ((p + m : Nat) : Int)) := by omega
      have h5 : ((n : Int) < (p : Int) + (m : Int)) := by omega
      go_wp2_with (first | (refine wpList_sv (f2 := 0) HK 0 rfl _ _ rfl rfl rfl rfl ?_; intro _ HK'; simp only [List.set] at HK'; replace HK := HK'; clear HK'))
      exact ret_v3 Try.results49 rfl rfl rfl rfl (HK.out.blk 0 rfl) (HZ.out _ _ HK.out.b fun h => hle (HN.out h).2.1)
  · have HNZ : Hid (¬ z = 0) := Lib.hid (by simpa using hz)
    go_wp2_with (first | (refine wpList_sv (f2 := 0) HK 0 rfl _ _ rfl rfl rfl rfl ?_; intro _ HK'; simp only [List.set] at HK'; replace HK := HK'; clear HK'))
    exact ret_v3 Try.results49 rfl rfl rfl rfl (HK.out.blk 0 rfl) (HZ.out _ _ HK.out.b fun h => HNZ.out (HN.out h).1)
end Go.Proofs.Ytcofjaeljglodaa
