/-
  The law DictSwaps: it returns true, and leaves what came in as it was.
  No condition but what the slice reads as, and that floats' bits fit 64.
-/
import Derived.Test.YtikfjimdkbmjhaaDictDoesL
set_option linter.unusedSimpArgs false
set_option linter.unusedVariables false
namespace Go.Proofs.Ytikfjimdkbmjhaa
open Go.RowKit

theorem Fit.sw {l : List Dct.Pr} (h : Fit l) {k : ByteArray} {o v : Val.V} (hv : v.f < 18446744073709551616) : Fit (Dct.swL l k o v) := by
  by_cases hr : Dct.Right l
  · by_cases ho : Dct.gtV l k = o
    · by_cases hve : v = Dct.emp
      · subst hve; rw [(Dct.sw_cut hr ho).2.1]; exact h.wo k
      · rw [(Dct.sw_put hr ho hve).2.1]; exact h.pt hv
    · rw [(Dct.sw_unlike hr v ho).2.1]; exact h
  · rw [(Dct.sw_bad hr k o v).2.1]; exact h
/-- Two values' cells. -/
def v2C (k m : Int) (f : Nat) (s : ByteArray) (k' m' : Int) (f' : Nat) (s' : ByteArray) : Array Value := #[.int .i64 k, .int .i64 m, .int .u64 (f : Int), .string s, .int .i64 k', .int .i64 m', .int .u64 (f' : Int), .string s']
section
variable {b0 : Nat} {w0 w : World} {L : List (Nat × TypeId × Array Value)} {R : List RowE} {o : Oper} {a : Act} {g : Nat} {t : TypeId} {k m k' m' : Int} {f f' : Nat} {s s' : ByteArray}
theorem kexec_v0 (HK : Hid (Kn b0 w0 w L R)) (i : Nat) (x : Operand) (ho : o.op = .load 25 x) (hL : L[i]? = some (g, t, v2C k m f s k' m' f' s')) (hx : a.eval x = .pointer (some ⟨g, 0, none⟩)) :
    (execOp a.eval o).run Try.prog w = .ok (.value (.agg #[.int .i64 k, .int .i64 m, .int .u64 (f : Int), .string s])) w :=
  kexec_ls HK _ x ho i hL hx #[.int .i64 k, .int .i64 m, .int .u64 (f : Int), .string s] (fun j hj => by
    match j, hj with
    | 0, _ | 1, _ | 2, _ | 3, _ => rfl) Try.underlying25 info_v4
theorem kexec_v1 (HK : Hid (Kn b0 w0 w L R)) (i : Nat) (x : Operand) (ho : o.op = .load 25 x) (hL : L[i]? = some (g, t, v2C k m f s k' m' f' s')) (hx : a.eval x = .pointer (some ⟨g, 4, none⟩)) :
    (execOp a.eval o).run Try.prog w = .ok (.value (.agg #[.int .i64 k', .int .i64 m', .int .u64 (f' : Int), .string s'])) w :=
  kexec_ls HK _ x ho i hL hx #[.int .i64 k', .int .i64 m', .int .u64 (f' : Int), .string s'] (fun j hj => by
    match j, hj with
    | 0, _ | 1, _ | 2, _ | 3, _ => rfl) Try.underlying25 info_v4
end
set_option maxRecDepth 100000 in
set_option maxHeartbeats 6400000 in
theorem swaps_yes (A : Option Addr) (c n : Nat) (l : List Dct.Pr) (key : ByteArray) (o v : Val.V) (w : World) (hs : Sl w A n c l) (hv : v.f < 18446744073709551616) :
    Calls Try.prog 4 #[.slice A n c, .string key, .agg #[.int .i64 o.k, .int .i64 o.n, .int .u64 (o.f : Int), .string o.s, .int .i64 v.k, .int .i64 v.n, .int .u64 (v.f : Int), .string v.s]] w (fun e w' => e = .returned (.bool true) ∧ Below w.heap.size w w') := by
  have HS := Lib.hid hs
  have HFl := Lib.hid hs.fit
  have HFp := Lib.hid (hs.fit.sw (k := key) (o := o) hv)
  have HTw2 := Lib.hid (fun W (hW : Below w.heap.size w W) => twin_any A c n l W (hs.later hW))
  have HP := Lib.hid (fun W (hW : Below w.heap.size w W) => swap_any A c n l key o v W (hs.later hW) hv)
  have HRP := Lib.hid (fun W A c n (h : Sl W A n c l) => rswap_any A c n l key o v W h hv)
  have HAw := Lib.hid (fun W => awake_any W)
  clear hs hv
  generalize Dct.swL l key o v = p at *
  generalize Dct.swE l key o v = pe at *
  generalize Dct.swV l key o = gv at *
  obtain ⟨ok, om, of, os⟩ := o
  obtain ⟨vk, vm, vf, vs⟩ := v
  obtain ⟨gk, gm, gf, gs⟩ := gv
  unfold IsPVE IsPVEr IsB IsL vv at *
  simp only at HP HRP ⊢
  have HV := Lib.hid (show decide ((⟨gk, gm, gf, gs⟩ : Val.V) = ⟨gk, gm, gf, gs⟩) = true by simp)
  have HK := kn1 w 38 (v2C ok om of os vk vm vf vs)
  unfold v2C at HK
  go_enter Try.func4, Try.ntmps4
  go_wp2_with fail
  refine (HTw2.out _ HK.out.b).mono ?_; rintro e w1 ⟨A0, n0, c0, rfl, o1, b1⟩
  replace HK := Lib.hid (HK.out.called b1 o1)
  simp only [List.nil_append] at HK
  clear b1 o1 HTw2
  go_wp2_with (first | refine wpList_of_exec (by rfl) (kexec_v0 HK 0 _ (by rfl) (by rfl) (by rfl)) ?_ | refine wpList_of_exec (by rfl) (kexec_v1 HK 0 _ (by rfl) (by rfl) (by rfl)) ?_)
  refine (HP.out _ HK.out.b).mono ?_; rintro e w1 ⟨A1, n1, c1, rfl, o1, b1⟩
  replace HK := Lib.hid (HK.out.called b1 o1)
  simp only [List.cons_append, List.nil_append] at HK
  clear b1 o1
  go_wp2_with (first | refine wpList_of_exec (by rfl) (kexec_v0 HK 0 _ (by rfl) (by rfl) (by rfl)) ?_ | refine wpList_of_exec (by rfl) (kexec_v1 HK 0 _ (by rfl) (by rfl) (by rfl)) ?_ | (refine wpList_akv HK rfl rfl ?_; intro _ g1 HK'; simp only [List.cons_append, List.nil_append] at HK'; replace HK := HK'; clear HK') | (refine wpList_sv (f2 := gf) HK 1 rfl _ _ rfl rfl rfl rfl ?_; intro _ HK'; simp only [List.set] at HK'; replace HK := HK'; clear HK'))
  refine (HRP.out _ _ _ _ (Sl.own (HK.out.own 0 rfl) HFl.out)).mono ?_; rintro e w1 ⟨A2, n2, c2, rfl, o1, b1⟩
  obtain ⟨R1, HK1, hkeep, i2, hi2⟩ := HK.out.told b1 (i := 0) rfl o1
  replace HK := HK1
  have hi0 := Lib.hid (hkeep 0 _ rfl)
  have hi1 := Lib.hid (hkeep 1 _ rfl)
  replace hi2 := Lib.hid hi2
  clear b1 o1 HK1 hkeep
  go_wp2_with (first | (refine wpList_akv HK rfl rfl ?_; intro _ g2 HK'; simp only [List.cons_append, List.nil_append] at HK'; replace HK := HK'; clear HK') | (refine wpList_sv (f2 := gf) HK 2 rfl _ _ rfl rfl rfl rfl ?_; intro _ HK'; simp only [List.set] at HK'; replace HK := HK'; clear HK'))
  refine (HAw.out _).mono ?_; rintro e w1 ⟨rfl, b1⟩
  replace HK := Lib.hid (HK.out.call b1); clear b1
  go_wp2_with fail
  refine (same_self _ _ _ _ _ _ p _ (Sl.own (HK.out.own 1 hi1.out) HFp.out) (Sl.own (HK.out.own i2 hi2.out) HFp.out)).mono ?_; rintro e w1 ⟨rfl, b1⟩
  replace HK := Lib.hid (HK.out.call b1); clear b1
  go_wp2_with (first | refine wpList_of_exec (by rfl) (kexec_vv HK 1 _ (by rfl) (by rfl) (by rfl)) ?_ | refine wpList_of_exec (by rfl) (kexec_vv HK 2 _ (by rfl) (by rfl) (by rfl)) ?_ | refine wpList_of_exec (by rfl) (exec_veq (v := ⟨gk, gm, gf, gs⟩) (u := ⟨gk, gm, gf, gs⟩) _ _ (by rfl) (by rfl) (by rfl) HV.out) ?_)
  refine (same_self _ _ _ _ _ _ l _ (HS.out.later HK.out.b) (Sl.own (HK.out.own 0 hi0.out) HFl.out)).mono ?_; rintro e w1 ⟨rfl, b1⟩
  replace HK := Lib.hid (HK.out.call b1); clear b1
  go_wp2_with fail
  go_ret
  exact ⟨rfl, HK.out.b⟩
end Go.Proofs.Ytikfjimdkbmjhaa
