/-
  What the document's From returns of a packet's items.
  No condition.
-/
import Derived.Test.YtamjcghdebjpjaaLnkItems
import Derived.Deep.CutBlock
import Derived.Deep.DeepCutAuto
namespace Go.Proofs.Ytamjcghdebjpjaa
open Go.RowKit

/-- A packet's numbers, in order. -/
def val (p : Lnk.Pkt) (k : Nat) : Int := match k with | 0 => p.fs | 1 => p.fc | 2 => p.ts | 3 => p.tc | 4 => p.seq | _ => p.ack
def cellAt (p : Lnk.Pkt) (k j : Nat) : Value := if j < k then .int .i64 (val p j) else .int .i64 0
def arrC (p : Lnk.Pkt) (k : Nat) : Array Value := #[cellAt p k 0, cellAt p k 1, cellAt p k 2, cellAt p k 3, cellAt p k 4, cellAt p k 5]
theorem arr_put (p : Lnk.Pkt) {k : Nat} (hk : k < 6) : (arrC p k).setIfInBounds k (.int .i64 (val p k)) = arrC p (k + 1) := by
  match k, hk with
  | 0, _ => rfl
  | 1, _ => rfl
  | 2, _ => rfl
  | 3, _ => rfl
  | 4, _ => rfl
  | 5, _ => rfl
theorem item_at (p : Lnk.Pkt) {k : Nat} (hk : k < 6) : (itemsP p)[k]? = some ⟨0, val p k, ⟨#[]⟩⟩ := by
  match k, hk with
  | 0, _ => rfl
  | 1, _ => rfl
  | 2, _ => rfl
  | 3, _ => rfl
  | 4, _ => rfl
  | 5, _ => rfl
theorem right_val {p : Lnk.Pkt} (h : Right p) {k : Nat} (hk : k < 6) : 0 ≤ val p k := by
  obtain ⟨h1, h2, h3, h4, h5, h6, _⟩ := h
  match k, hk with
  | 0, _ => exact h1.1
  | 1, _ => show 0 ≤ p.fc; omega
  | 2, _ => exact h2.1
  | 3, _ => exact h4
  | 4, _ => exact h5
  | 5, _ => exact h6
theorem ret_kb {f : Func} {R : Ending → World → Prop} {a : Act} {w : World} {B : Nat} {fs fc ts tc seq ack : Int} {body : ByteArray} {u : Value} {k q : Tmp} (hf : f.results = #[.cell k 36, .tmp q]) (h2 : a.tmps[k]? = some (.pointer (some ⟨B, 0, none⟩))) (h4 : a.tmps[q]? = some u) (hd : a.defers = [])
    (hb : Blk w B 36 (pC fs fc ts tc seq ack body)) (hR : R (.returned (.tuple #[.agg (pC fs fc ts tc seq ack body), u])) w) : bodyPost Try.prog f R Exit.ret a w := by
  refine bodyPost_ret (v := .tuple #[.agg (pC fs fc ts tc seq ack body), u]) ?_ hd hR
  have h := load_pkt hb
  simp [results, hf, asAddr, Sem.run_bind, h2, h4, h]
def IsF (p : Lnk.Pkt) (w : World) (e : Ending) (w' : World) : Prop := ∃ q, e = .returned (.tuple #[.agg (pA q), .bool (decide (Right p))]) ∧ (Right p → q = p) ∧ Below w.heap.size w w'
set_option maxRecDepth 10000 in
set_option maxHeartbeats 6400000 in
theorem rfrom_any (A : Option Addr) (c : Nat) (p : Lnk.Pkt) (w : World) (hi : itemLay.Reads w w.heap.size A (itemsP p)) :
    Calls Try.prog 22 #[.slice A 7 c] w (IsF p w) := by
  have HI := Lib.hid hi
  clear hi
  have HInt : Hid (∀ W, Below w.heap.size w W → ∀ k : Nat, k < 6 → Calls Try.prog 37 #[.slice A 7 c, .int .i64 k] W fun e w' => e = .returned (.tuple #[.int .i64 (val p k), .bool true]) ∧ w' = W) := Lib.hid fun W hW k hk => rint_any A c (itemsP p) k _ W (by decide : (7 : Nat) ≤ 1000) (item_at p hk) rfl (HI.out.later hW (Nat.le_refl _))
  have HTx : Hid (∀ W, Below w.heap.size w W → Calls Try.prog 38 #[.slice A 7 c, .int .i64 6] W fun e w' => e = .returned (.tuple #[.string p.body, .bool true]) ∧ w' = W) := Lib.hid fun W hW => rtext_any A c (itemsP p) 6 _ W (by decide : (7 : Nat) ≤ 1000) rfl rfl (HI.out.later hW (Nat.le_refl _))
  have HNo : Hid (∀ k, k < 6 → val p k < 0 → decide (Right p) = false) := Lib.hid fun k hk hv => by
    rw [decide_eq_false_iff_not]
    intro h
    have := right_val h hk
    omega
  have HK := kn1 w 36 (pC 0 0 0 0 0 0 ⟨#[]⟩)
  have HK2 := Lib.hid (HK.out.alloc 73 (arrC p 0))
  simp only [List.cons_append, List.nil_append] at HK2
  rw [show (w.alloc (.cells (pC 0 0 0 0 0 0 ⟨#[]⟩) 36)).heap.size = w.heap.size + 1 from by simp] at HK2
  clear HK
  go_enter Try.func22, Try.ntmps22
  go_wp2_with fail
  go_loopw [5, 6, 7] (fun vi _ _ wr => ∃ k : Nat, k ≤ 6 ∧ vi = .int .i64 k ∧ Hid (Kn w.heap.size w wr [(w.heap.size, 36, pC 0 0 0 0 0 0 ⟨#[]⟩), (w.heap.size + 1, 73, arrC p k)] []) ∧ Hid (∀ j, j < k → 0 ≤ val p j)) (fun vi _ _ _ => 6 - (intOf vi).toNat)
  case atStart => exact ⟨0, by decide, rfl, HK2, Lib.hid fun j hj => by omega⟩
  case round =>
    clear HK2
    obtain ⟨k, hk, rfl, HK, HV⟩ := hrel
    by_cases hlt : k < 6
    · have hk1 : (0 : Int) ≤ (k : Int) := by omega
      have hk2 : (k : Int) < 6 := by omega
      have HP := arr_put p hlt
      have HPh := Lib.hid HP
      have HC := Lib.hid (fun W hW => HInt.out W hW k hlt)
      have hno := HNo.out k hlt
      have HV2 : 0 ≤ val p k → Hid (∀ j, j < k + 1 → 0 ≤ val p j) := fun h0 => Lib.hid fun j hj => by
        rcases Nat.lt_or_ge j k with h | h
        · exact HV.out j h
        · obtain rfl : j = k := by omega
          exact h0
      clear HP
      generalize val p k = v at *
      by_cases hv : v < 0
      · have hr := hno hv
        have d1 : decide (v < 0) = true := by simpa using hv
        clear HV2 hno
        go_wp2_with fail
        refine (HC.out _ HK.out.b).mono ?_; rintro e w3 ⟨rfl, rfl⟩
        go_wp2_with (first | (refine wpList_ksp HK 0 rfl _ _ rfl rfl rfl rfl rfl ?_; intro _ HK' _; simp only [List.set] at HK'; replace HK := HK'; clear HK'))
        exact ret_kb Try.results22 rfl rfl rfl (HK.out.blk 0 rfl) ⟨⟨0, 0, 0, 0, 0, 0, ⟨#[]⟩⟩, by rw [hr]; rfl, fun h => absurd h (of_decide_eq_false hr), HK.out.b⟩
      · have d1 : decide (v < 0) = false := by simpa using hv
        have HV3 := HV2 (by omega)
        clear HV2 hno HV
        go_wp2_with fail
        refine (HC.out _ HK.out.b).mono ?_; rintro e w3 ⟨rfl, rfl⟩
        go_wp2_with (first | (refine wpList_sc HK 1 (off := k) (v := .int .i64 v) rfl _ _ _ rfl rfl rfl rfl rfl rfl (by show k < 6; exact hlt) info_int1 ?_; intro _ HK' _; simp only [List.set] at HK'; rw [HPh.out] at HK'; replace HK := HK'; clear HK'))
        exact ⟨⟨k + 1, by omega, by go_num, HK, HV3⟩, by simp [intOf]; omega⟩
    · obtain rfl : k = 6 := by omega
      have x0 := HK.out.cell 1 rfl 0 (v := .int .i64 p.fs) rfl
      have x1 := HK.out.cell 1 rfl 1 (v := .int .i64 p.fc) rfl
      have x2 := HK.out.cell 1 rfl 2 (v := .int .i64 p.ts) rfl
      have x3 := HK.out.cell 1 rfl 3 (v := .int .i64 p.tc) rfl
      have x4 := HK.out.cell 1 rfl 4 (v := .int .i64 p.seq) rfl
      have x5 := HK.out.cell 1 rfl 5 (v := .int .i64 p.ack) rfl
      have HE : Hid (∀ q : Bool, (q = true ↔ (p.fs < 7 ∧ p.ts < 7 ∧ 1 ≤ p.fc ∧ (p.seq ≠ 0 ∨ p.body.toList = []))) → q = decide (Right p)) := Lib.hid fun q hq => by
        have v0 : 0 ≤ p.fs := HV.out 0 (by decide)
        have v2 : 0 ≤ p.ts := HV.out 2 (by decide)
        have v3 : 0 ≤ p.tc := HV.out 3 (by decide)
        have v4 : 0 ≤ p.seq := HV.out 4 (by decide)
        have v5 : 0 ≤ p.ack := HV.out 5 (by decide)
        rw [Bool.eq_iff_iff, hq, decide_eq_true_eq]
        unfold Right
        constructor
        · rintro ⟨a1, a2, a3, a4⟩
          refine ⟨⟨v0, a1⟩, ⟨v2, a2⟩, a3, v3, v4, v5, ?_⟩
          rcases a4 with h | h
          · exact .inl (by omega)
          · exact .inr h
        · rintro ⟨a1, a2, a3, _, _, _, a4⟩
          refine ⟨a1.2, a2.2, a3, ?_⟩
          rcases a4 with h | h
          · exact .inl (by omega)
          · exact .inr h
      clear HV HNo HInt
      go_wp2_with fail
      refine (HTx.out _ HK.out.b).mono ?_; rintro e w3 ⟨rfl, rfl⟩
      have HE2 : Hid (∀ q : Bool, (q = true ↔ (7 ≤ p.fs ∨ p.fc < 1 ∨ 7 ≤ p.ts ∨ (p.seq = 0 ∧ ¬ p.body.toList = []))) → q = !decide (Right p)) := Lib.hid fun q hq => by
        have h1 := HE.out (!q) (by
          cases q
          · have h2 : ¬ (7 ≤ p.fs ∨ p.fc < 1 ∨ 7 ≤ p.ts ∨ (p.seq = 0 ∧ ¬ p.body.toList = [])) := fun h => by simpa using hq.2 h
            refine ⟨fun _ => ⟨by omega, by omega, by omega, ?_⟩, fun _ => rfl⟩
            by_cases h3 : p.body.toList = []
            · exact .inr h3
            · exact .inl fun h4 => h2 (.inr (.inr (.inr ⟨h4, h3⟩)))
          · have h2 := hq.1 rfl
            refine ⟨fun h => by simp at h, fun ⟨a1, a2, a3, a4⟩ => ?_⟩
            rcases h2 with h | h | h | ⟨h, h'⟩
            · omega
            · omega
            · omega
            · rcases a4 with a4 | a4
              · exact absurd h a4
              · exact absurd a4 h')
        rw [← h1, Bool.not_not]
      clear HE
      generalize hdr : decide (Right p) = dr at *
      have HDR := Lib.hid hdr
      clear hdr
      go_upto_region 12 with fail
      try simp only [Act.put, List.setIfInBounds_toArray, List.set_cons_zero, List.set_cons_succ]
      go_cut [64] (fun v wx => v = .bool (!dr) ∧ Hid (Kn w.heap.size w wx [(w.heap.size, 36, pC 0 0 0 0 0 0 ⟨#[]⟩), (w.heap.size + 1, 73, arrC p 6)] []))
      case first =>
        go_wp2_with fail
        all_goals
          go_meet
          refine ⟨congrArg Value.bool (HE2.out _ ?_), HK⟩
          clear HE2 HK x0 x1 x2 x3 x4 x5
          simp_all <;> first | omega | simp only [or_assoc]
      case rest =>
      clear HK x0 x1 x2 x3 x4 x5 HE2
      obtain ⟨rfl, HK⟩ := hcut
      have x0 := HK.out.cell 1 rfl 0 (v := .int .i64 p.fs) rfl
      have x1 := HK.out.cell 1 rfl 1 (v := .int .i64 p.fc) rfl
      have x2 := HK.out.cell 1 rfl 2 (v := .int .i64 p.ts) rfl
      have x3 := HK.out.cell 1 rfl 3 (v := .int .i64 p.tc) rfl
      have x4 := HK.out.cell 1 rfl 4 (v := .int .i64 p.seq) rfl
      have x5 := HK.out.cell 1 rfl 5 (v := .int .i64 p.ack) rfl
      cases dr
      · go_wp2_with (first | (refine wpList_ksp HK 0 rfl _ _ rfl rfl rfl rfl rfl ?_; intro _ HK' _; simp only [List.set] at HK'; replace HK := HK'; clear HK'))
        refine ret_kb Try.results22 rfl rfl rfl (HK.out.blk 0 rfl) ⟨⟨0, 0, 0, 0, 0, 0, ⟨#[]⟩⟩, ?_, fun h => absurd h (of_decide_eq_false HDR.out), HK.out.b⟩
        rw [HDR.out]; rfl
      · go_wp2_with (first | (refine wpList_ksp HK 0 rfl _ _ rfl rfl rfl rfl rfl ?_; intro _ HK' _; simp only [List.set] at HK'; replace HK := HK'; clear HK'))
        refine ret_kb Try.results22 rfl rfl rfl (HK.out.blk 0 rfl) ⟨p, ?_, fun _ => rfl, HK.out.b⟩
        rw [HDR.out]; rfl
end Go.Proofs.Ytamjcghdebjpjaa
