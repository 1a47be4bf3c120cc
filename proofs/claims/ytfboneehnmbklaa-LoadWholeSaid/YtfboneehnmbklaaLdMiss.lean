/-
  Which piece is missing: what slices.Index, Missing and the document's own return.
  No condition but what the slices read as.
-/
import Derived.Test.YtfboneehnmbklaaLdSound
set_option linter.unusedSimpArgs false
set_option linter.unusedVariables false
namespace Go.Proofs.Ytfboneehnmbklaa
open Go.RowKit

set_option maxHeartbeats 1600000 in
theorem lindex_any (A : Option Addr) (n c : Nat) (l : List Bool) (w : World) (hs : Sls bLay bF w A n c l) :
    Calls Try.prog 35 #[.slice A n c, .bool false] w fun e w' => e = .returned (.int .i64 (Ldm.fi l)) ∧ w' = w := by
  have HS := Lib.hid hs
  have HL := Lib.hid hs.len
  have hn : n ≤ 140737488355328 := by have h : n * 1 ≤ 140737488355328 := hs.big; omega
  clear hs
  go_enter Try.func35, Try.ntmps35
  go_wp2
  go_loop [8] (fun x => ∃ k : Nat, k ≤ n ∧ x = .int .i64 k ∧ Hid (∀ i, i < k → l[i]? = some true)) (fun x => n - (intOf x).toNat)
  case atStart => exact ⟨0, Nat.zero_le _, rfl, Lib.hid (fun i hi => by omega)⟩
  case round =>
    obtain ⟨k, hk, rfl, HG⟩ := hrel
    have hk1 : (0 : Int) ≤ (k : Int) := by omega
    by_cases hlt : k < n
    · have hk2 : (k : Int) < (n : Int) := by omega
      have hw : IntKind.i64.wrap ((k : Int) + 1) = ((k + 1 : Nat) : Int) := by rw [IntKind.wrap_i64]; omega
      obtain ⟨x, hx, _⟩ := HS.out.get hlt
      obtain ⟨b, o, rfl, hat⟩ := HS.out.bat (by omega)
      have hc := hat w (Below.refl _ w) k x hx
      have HX := Lib.hid hx
      clear hat hx
      cases x
      · have HR := Lib.hid (Ldm.fi_some l k HX.out HG.out)
        go_wp2
        go_ret
        exact ⟨by rw [HR.out]; rfl, rfl⟩
      · have HG2 : Hid (∀ i, i < k + 1 → l[i]? = some true) := Lib.hid (fun i hi => by
          by_cases h : i = k
          · rw [h]; exact HX.out
          · exact HG.out i (by omega))
        go_wp2
        go_round
        case rel => exact ⟨k + 1, hlt, by go_num, HG2⟩
        case measure => simp [intOf, hw]; omega
    · obtain rfl : k = n := by omega
      have HR := Lib.hid (Ldm.fi_none l (by rw [HL.out]; exact HG.out))
      go_wp2
      go_ret
      exact ⟨by rw [HR.out]; rfl, rfl⟩
def IsI (x : Int) (w : World) (e : Ending) (w' : World) : Prop := e = .returned (.int .i64 x) ∧ Below w.heap.size w w'
set_option maxRecDepth 100000 in
set_option maxHeartbeats 3200000 in
theorem lmiss_any (l : Ldd) (A : Option Addr) (n c : Nat) (A2 : Option Addr) (n2 c2 : Nat) (w : World) (h1 : Sls bLay bF w A n c l.h) (h2 : l.d.length = n2) :
    Calls Try.prog 21 #[.agg #[.int .i64 l.n, .int .i64 l.t, .int .u32 (l.s : Int), .slice A n c, .slice A2 n2 c2]] w (IsI (Ldm.ms l) w) := by
  have HS := Lib.hid (fun W => lsound_any l A n c A2 n2 c2 W h1.len h2)
  have HI := Lib.hid (fun W (hW : Below w.heap.size w W) => lindex_any A n c l.h W (h1.later hW))
  have HK := kn1 w 35 (ldC l.n l.t l.s (.slice A n c) (.slice A2 n2 c2))
  clear h1 h2
  unfold IsB at HS
  unfold IsI
  by_cases h0 : l.t = 0
  · have e1 : Ldm.ms l = 0 := by unfold Ldm.ms; rw [if_pos (.inl h0)]
    rw [e1]
    obtain ⟨m, t, s, lh, ld⟩ := l
    simp only at *
    subst h0
    clear e1 HS HI
    go_enter Try.func21, Try.ntmps21
    go_wp2_with (first | refine wpList_exe (kl_t_ HK 0 _ (by rfl) (by rfl) (by rfl)) (by rfl) ?_)
    go_ret
    exact ⟨rfl, HK.out.b⟩
  have hz : (l.t == 0) = false := beq_eq_false_iff_ne.2 h0
  by_cases hl : Ldm.LR l
  case neg =>
    have e1 : Ldm.ms l = 0 := by unfold Ldm.ms; rw [if_pos (.inr hl)]
    rw [decide_eq_false hl] at HS
    rw [e1]
    clear e1 hl h0 HI
    obtain ⟨m, t, s, lh, ld⟩ := l
    simp only at *
    go_enter Try.func21, Try.ntmps21
    go_wp2_with (first | refine wpList_exe (kl_t_ HK 0 _ (by rfl) (by rfl) (by rfl)) (by rfl) ?_ | refine wpList_exe (kl_l HK 0 _ (by rfl) (by rfl) (by rfl)) (by rfl) ?_)
    refine (HS.out _).mono ?_; rintro e w1 ⟨rfl, b1⟩
    replace HK := Lib.hid (HK.out.call b1); clear b1
    go_wp2_with fail
    go_ret
    exact ⟨rfl, HK.out.b⟩
  case pos =>
    have e1 : Ldm.ms l = Ldm.fi l.h := by unfold Ldm.ms; rw [if_neg (fun h => h.elim h0 (fun h => h hl))]
    rw [decide_eq_true hl] at HS
    rw [e1]
    clear e1 hl h0
    obtain ⟨m, t, s, lh, ld⟩ := l
    simp only at *
    go_enter Try.func21, Try.ntmps21
    go_wp2_with (first | refine wpList_exe (kl_t_ HK 0 _ (by rfl) (by rfl) (by rfl)) (by rfl) ?_ | refine wpList_exe (kl_l HK 0 _ (by rfl) (by rfl) (by rfl)) (by rfl) ?_)
    refine (HS.out _).mono ?_; rintro e w1 ⟨rfl, b1⟩
    replace HK := Lib.hid (HK.out.call b1); clear b1
    go_wp2_with (first | refine wpList_exe (kl_h_ HK 0 _ (by rfl) (by rfl) (by rfl)) (by rfl) ?_)
    refine (HI.out _ HK.out.b).mono ?_; rintro e w2 ⟨rfl, rfl⟩
    go_wp2_with fail
    go_ret
    exact ⟨rfl, HK.out.b⟩
set_option maxRecDepth 100000 in
set_option maxHeartbeats 3200000 in
theorem lrmiss_any (l : Ldd) (A : Option Addr) (n c : Nat) (A2 : Option Addr) (n2 c2 : Nat) (w : World) (h1 : Sls bLay bF w A n c l.h) (h2 : l.d.length = n2) :
    Calls Try.prog 22 #[.agg #[.int .i64 l.n, .int .i64 l.t, .int .u32 (l.s : Int), .slice A n c, .slice A2 n2 c2]] w (IsI (Ldm.ms l) w) := by
  have HF := Lib.hid (fun W => lfits_any l A n c A2 n2 c2 W h1.len h2)
  have HS := Lib.hid h1
  have HL := Lib.hid h1.len
  have HK := kn1 w 35 (ldC l.n l.t l.s (.slice A n c) (.slice A2 n2 c2))
  clear h1 h2
  unfold IsB at HF
  unfold IsI
  by_cases h0 : l.t = 0
  · have e1 : Ldm.ms l = 0 := by unfold Ldm.ms; rw [if_pos (.inl h0)]
    rw [e1]
    obtain ⟨m, t, s, lh, ld⟩ := l
    simp only at *
    subst h0
    clear e1 HS HF HL
    go_enter Try.func22, Try.ntmps22
    go_wp2_with (first | refine wpList_exe (kl_t_ HK 0 _ (by rfl) (by rfl) (by rfl)) (by rfl) ?_)
    go_ret
    exact ⟨rfl, HK.out.b⟩
  have hz : (l.t == 0) = false := beq_eq_false_iff_ne.2 h0
  by_cases hl : Ldm.LR l
  case neg =>
    have e1 : Ldm.ms l = 0 := by unfold Ldm.ms; rw [if_pos (.inr hl)]
    rw [decide_eq_false hl] at HF
    rw [e1]
    clear e1 hl h0 HS HL
    obtain ⟨m, t, s, lh, ld⟩ := l
    simp only at *
    go_enter Try.func22, Try.ntmps22
    go_wp2_with (first | refine wpList_exe (kl_t_ HK 0 _ (by rfl) (by rfl) (by rfl)) (by rfl) ?_ | refine wpList_exe (kl_l HK 0 _ (by rfl) (by rfl) (by rfl)) (by rfl) ?_)
    refine (HF.out _).mono ?_; rintro e w1 ⟨rfl, b1⟩
    replace HK := Lib.hid (HK.out.call b1); clear b1
    go_wp2_with fail
    go_ret
    exact ⟨rfl, HK.out.b⟩
  case pos =>
    have e1 : Ldm.ms l = Ldm.fi l.h := by unfold Ldm.ms; rw [if_neg (fun h => h.elim h0 (fun h => h hl))]
    have hn : n ≤ 65536 := by have h1 := hl.2.2.1; have h2 := hl.2.1; rw [HL.out] at h1; omega
    have ht : l.t = (n : Int) := by have h1 := hl.2.2.1; rw [HL.out] at h1; omega
    rw [decide_eq_true hl] at HF
    rw [e1]
    clear e1 hl h0
    obtain ⟨m, t, s, lh, ld⟩ := l
    simp only at *
    subst ht
    go_enter Try.func22, Try.ntmps22
    go_wp2_with (first | refine wpList_exe (kl_t_ HK 0 _ (by rfl) (by rfl) (by rfl)) (by rfl) ?_ | refine wpList_exe (kl_l HK 0 _ (by rfl) (by rfl) (by rfl)) (by rfl) ?_)
    refine (HF.out _).mono ?_; rintro e w1 ⟨rfl, b1⟩
    replace HK := Lib.hid (HK.out.call b1); clear b1
    clear HF
    have f1 := HK.out.cell 0 rfl 1 (v := .int .i64 (n : Int)) rfl
    have f3 := HK.out.cell 0 rfl 3 (v := .slice A n c) rfl
    go_wp2_with fail
    go_loop [3] (fun x => ∃ k : Nat, k ≤ n ∧ x = .int .i64 k ∧ Hid (∀ i, i < k → lh[i]? = some true)) (fun x => n - (intOf x).toNat)
    case atStart => exact ⟨0, Nat.zero_le _, rfl, Lib.hid (fun i hi => by omega)⟩
    case round =>
      obtain ⟨k, hk, rfl, HG⟩ := hrel
      have hk1 : (0 : Int) ≤ (k : Int) := by omega
      by_cases hlt : k < n
      · have hk2 : (k : Int) < (n : Int) := by omega
        have hw : IntKind.i64.wrap ((k : Int) + 1) = ((k + 1 : Nat) : Int) := by rw [IntKind.wrap_i64]; omega
        obtain ⟨x, hx, _⟩ := HS.out.get hlt
        obtain ⟨b, o, rfl, hat⟩ := HS.out.bat (by omega)
        have hc := hat w1 HK.out.b k x hx
        have HX := Lib.hid hx
        clear hat hx
        cases x
        · have HR := Lib.hid (Ldm.fi_some lh k HX.out HG.out)
          go_wp2
          go_ret
          exact ⟨by rw [HR.out]; rfl, HK.out.b⟩
        · have HG2 : Hid (∀ i, i < k + 1 → lh[i]? = some true) := Lib.hid (fun i hi => by
            by_cases h : i = k
            · rw [h]; exact HX.out
            · exact HG.out i (by omega))
          go_wp2
          go_round
          case rel => exact ⟨k + 1, hlt, by go_num, HG2⟩
          case measure => simp [intOf, hw]; omega
      · obtain rfl : k = n := by omega
        have HR := Lib.hid (Ldm.fi_none lh (by rw [HL.out]; exact HG.out))
        go_wp2
        go_ret
        exact ⟨by rw [HR.out]; rfl, HK.out.b⟩
end Go.Proofs.Ytfboneehnmbklaa
