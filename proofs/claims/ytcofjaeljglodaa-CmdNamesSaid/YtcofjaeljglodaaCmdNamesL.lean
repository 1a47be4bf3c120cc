/-
  The law CmdNames: it returns true whatever is handed in. No condition but that floats' bits fit 64.
-/
import Derived.Test.YtcofjaeljglodaaCmdAwake
import Derived.Test.YtcofjaeljglodaaVlTake
import Derived.Test.YtcofjaeljglodaaLift
set_option linter.unusedSimpArgs false
set_option linter.unusedVariables false
namespace Go.Proofs.Ytcofjaeljglodaa
open Go.RowKit

namespace Cmd
theorem bad {c : C} (h : ¬ others c) : chk c = 1 := by
  unfold chk
  rw [if_pos (.inr (.inr (.inl h)))]
theorem chk_zero {c : C} (h : chk c = 0) : ¬ (c.k < 1 ∨ 18 < c.k) ∧ others c ∧ ¬ (f0 c.k = true ∧ c.name.size = 0) ∧ ¬ (16 < c.name.size ∨ 64 < c.key.size) ∧ Val.chk c.old = 0 ∧ Val.chk c.val = 0 ∧ ¬ ((c.k = 7 ∨ c.k = 10) ∧ c.val.k = 0) ∧ ¬ (c.k = 15 ∧ c.val.k ≠ 2) ∧ nums c := by
  rcases chk_cases c with ⟨_, e⟩ | ⟨_, _, _, e⟩ | ⟨_, _, _, _, _, e⟩ | ⟨_, _, _, _, _, e⟩ | ⟨_, _, _, _, h5, _, e⟩ | ⟨_, _, _, _, _, h6, _, e⟩ | ⟨h1, h2, h3, h4, h5, h6, ⟨_, _, e⟩ | ⟨_, _, _, e⟩ | ⟨_, _, _, e⟩ | ⟨h7, h8, h9, e⟩⟩
  · rw [e] at h; cases h
  · rw [e] at h; cases h
  · rw [e] at h; cases h
  · rw [e] at h; cases h
  · rw [e] at h; exact absurd h h5
  · rw [e] at h; exact absurd h h6
  · rw [e] at h; cases h
  · rw [e] at h; cases h
  · rw [e] at h; cases h
  · exact ⟨h1, of_decide_eq_true h2, h3, h4, h5, h6, h7, h8, of_decide_eq_true h9⟩
theorem no_name {c : C} (h : chk c = 0) (hn : c.name.size ≠ 0) (nm : ByteArray) (he : nm.size = 0) : chk { c with name := nm } = 1 := by
  obtain ⟨h1, h2, h3, _⟩ := chk_zero h
  have hf : f0 c.k = true := h2.1.resolve_right hn
  unfold chk
  exact if_pos (.inr (.inr (.inr ⟨hf, he⟩)))
theorem more_name {c : C} (h : chk c = 0) (hn : c.name.size = 0) (nm : ByteArray) (he : nm.size ≠ 0) : chk { c with name := nm } = 1 := by
  obtain ⟨h1, h2, h3, _⟩ := chk_zero h
  refine bad fun ho => ?_
  rcases ho.1 with hf | hz
  · exact h3 ⟨hf, hn⟩
  · exact he hz
theorem more_old {c : C} (h : chk c = 0) (hk : c.k ≠ 9) (v : Val.V) (hv : ¬ nil v) : chk { c with old := v } = 1 := by
  refine bad fun ho => ?_
  rcases ho.2.2.1 with hf | hz
  · exact hk (of_decide_eq_true hf)
  · exact hv hz
theorem m_bound {c : C} (h : chk c = 0) : 0 ≤ c.m ∧ c.m ≤ 8 := by
  obtain ⟨_, h2, _, _, _, _, _, _, h9⟩ := chk_zero h
  rcases h2.2.2.2.2.2 with hf | hz
  · have hk : c.k = 4 := of_decide_eq_true hf
    unfold nums at h9
    rw [if_neg (by omega), if_neg (by omega)] at h9
    split at h9
    · omega
    · split at h9
      · omega
      · omega
  · omega
theorem more_m {c : C} (h : chk c = 0) (m : Int) (hm : m = c.m + 100) : chk { c with m := m } = 1 := by
  have hb := m_bound h
  obtain ⟨h1, h2, h3, h4, h5, h6, h7, h8, h9⟩ := chk_zero h
  by_cases ho : others { c with m := m }
  · rcases ho.2.2.2.2.2 with hf | hz
    · have hk : c.k = 4 := of_decide_eq_true hf
      have hn : ¬ nums { c with m := m } := by
        unfold nums
        simp only
        rw [if_neg (by omega), if_neg (by omega)]
        split
        · omega
        · split
          · omega
          · omega
      unfold chk
      rw [if_neg (by rintro (g | g | g | g); exact h1 (.inl g); exact h1 (.inr g); exact g ho; exact h3 g), if_neg h4, if_neg (by rw [show ({ c with m := m } : C).old = c.old from rfl, h5]; simp), if_neg (by rw [show ({ c with m := m } : C).val = c.val from rfl, h6]; simp), if_neg h7, if_neg h8, if_pos hn]
    · have : m = 0 := hz
      omega
  · exact bad ho
end Cmd
theorem wrap_m {m : Int} (h : 0 ≤ m ∧ m ≤ 8) : IntKind.i64.wrap (m + 100) = m + 100 ∧ wrap64 (m + 100) = m + 100 := by
  constructor
  · rw [IntKind.wrap_i64]; omega
  · unfold wrap64; omega
section
variable {b0 : Nat} {w0 w : World} {L : List (Nat × TypeId × Array Value)} {R : List RowE} {ops : Array Oper} {rest : List Oper} {o : Oper} {a : Act} {Q : Exit → Act → World → Prop} {g : Nat} {t : TypeId} {k : Int} {name key : ByteArray} {vk vn : Int} {vf : Nat} {vs : ByteArray} {ok on : Int} {of : Nat} {os : ByteArray} {n m : Int}
theorem info_st1 : (Try.prog.info? 9).map (·.size) = some 1 := by kernel_rfl
theorem info_in1 : (Try.prog.info? 3).map (·.size) = some 1 := by kernel_rfl
theorem wpList_scn (HK : Hid (Kn b0 w0 w L R)) (i : Nat) (hgd : o.guard = none) (p q : Operand) (ho : o.op = .store 9 p q) {nm2 : ByteArray} (hL : L[i]? = some (g, t, cmC k name key vk vn vf vs ok on of os n m)) (hx : a.eval p = .pointer (some ⟨g, 1, none⟩)) (hy : a.eval q = .string nm2)
    (h : ∀ w', Hid (Kn b0 w0 w' (L.set i (g, t, cmC k nm2 key vk vn vf vs ok on of os n m)) R) → wpList Try.prog ops Q rest (a.put o.dst undef) w') : wpList Try.prog ops Q (o :: rest) a w :=
  wpList_sc HK i hgd _ p q ho hL hx hy rfl rfl (by show 1 < 13; decide) info_st1 fun w' h1 _ => h w' h1
theorem wpList_scM (HK : Hid (Kn b0 w0 w L R)) (i : Nat) (hgd : o.guard = none) (p q : Operand) (ho : o.op = .store 3 p q) {m2 : Int} (hL : L[i]? = some (g, t, cmC k name key vk vn vf vs ok on of os n m)) (hx : a.eval p = .pointer (some ⟨g, 12, none⟩)) (hy : a.eval q = .int .i64 m2)
    (h : ∀ w', Hid (Kn b0 w0 w' (L.set i (g, t, cmC k name key vk vn vf vs ok on of os n m2)) R) → wpList Try.prog ops Q rest (a.put o.dst undef) w') : wpList Try.prog ops Q (o :: rest) a w :=
  wpList_sc HK i hgd _ p q ho hL hx hy rfl rfl (by show 12 < 13; decide) info_in1 fun w' h1 _ => h w' h1
theorem wpList_sco (HK : Hid (Kn b0 w0 w L R)) (i : Nat) (hgd : o.guard = none) (p q : Operand) (ho : o.op = .store 24 p q) {xk xn : Int} {xf : Nat} {xs : ByteArray} (hL : L[i]? = some (g, t, cmC k name key vk vn vf vs ok on of os n m)) (hx : a.eval p = .pointer (some ⟨g, 7, none⟩)) (hy : a.eval q = .agg #[.int .i64 xk, .int .i64 xn, .int .u64 (xf : Int), .string xs])
    (h : ∀ w', Hid (Kn b0 w0 w' (L.set i (g, t, cmC k name key vk vn vf vs xk xn xf xs n m)) R) → wpList Try.prog ops Q rest (a.put o.dst undef) w') : wpList Try.prog ops Q (o :: rest) a w :=
  wpList_ss HK i hgd _ p q ho hL hx hy (by show 11 ≤ 13; decide) info_v4 (by simp [Value.oneCell']) fun w' h1 _ => h w' h1
theorem exec_veq (p q : Operand) (ho : o.op = .binOp .eql 24 p q 24) (hx : a.eval p = .agg #[.int .i64 vk, .int .i64 vn, .int .u64 (vf : Int), .string vs]) (hy : a.eval q = .agg #[.int .i64 0, .int .i64 0, .int .u64 0, .string ⟨#[]⟩]) :
    (execOp a.eval o).run Try.prog w = .ok (.value (.bool (decide (Cmd.nil ⟨vk, vn, vf, vs⟩)))) w := by
  have hd : decide (Cmd.nil ⟨vk, vn, vf, vs⟩) = (decide (vk = 0) && decide (vn = 0) && decide (vf = 0) && decide (vs.toList = [])) := by
    rw [Bool.eq_iff_iff, decide_eq_true_eq, nil_is]
    simp [and_assoc]
  rw [hd]
  unfold execOp
  simp only [ho, hx, hy]
  go_simp
  by_cases h1 : vk = 0 <;> by_cases h2 : vn = 0 <;> by_cases h3 : vf = 0 <;> by_cases h4 : vs.toList = [] <;> simp [h1, h2, h3, h4]
end
set_option maxRecDepth 10000 in
set_option maxHeartbeats 12800000 in
theorem names_yes (c : Cmd.C) (v : Val.V) (w : World) (hf : c.val.f < 18446744073709551616 ∧ c.old.f < 18446744073709551616) (hv : v.f < 18446744073709551616) : Lift.Yes Try.prog 5 #[.agg (cmA c), vv v] w := by
  unfold Lift.Yes
  have HA := Lib.hid awake_any
  have HC := Lib.hid (fun W => chk_any c W hf.1 hf.2)
  by_cases hz : Cmd.chk c = 0
  case neg =>
    have hz2 : (Cmd.chk c != 0) = true := by simpa using hz
    generalize Cmd.chk c = z at *
    obtain ⟨k, name, key, ⟨vk, vn, vf, vs⟩, ⟨ok, on, of, os⟩, n, m⟩ := c
    obtain ⟨uk, un, uf, us⟩ := v
    unfold cmA IsE vv at *
    simp only at HC ⊢
    have HK := kn2 w 26 (cmC k name key vk vn vf vs ok on of os n m) 24 (vC uk un uf us)
    go_enter Try.func5, Try.ntmps5
    go_wp2_with (first | refine wpList_of_exec (by rfl) (kexec_cmx HK 0 _ (by rfl) (by rfl) (by rfl)) ?_)
    refine (HC.out _).mono ?_; rintro en w1 ⟨rfl, b1⟩
    replace HK := Lib.hid (HK.out.call b1)
    clear b1
    go_wp2_with fail
    refine (HA.out _).mono ?_; rintro en w2 ⟨rfl, b2⟩
    replace HK := Lib.hid (HK.out.call b2)
    clear b2
    go_wp2_with fail
    go_ret
    exact ⟨rfl, HK.out.b⟩
  case pos =>
  have HX := Lib.hid (fun W => chk_any { c with old := v } W hf.1 hv)
  have HXk := Lib.hid (fun hk hn => Cmd.more_old hz hk v hn)
  have hb := Cmd.m_bound hz
  have HY : Hid (∀ W, Calls Try.prog 9 #[.agg (cmA { c with m := c.m + 100 })] W (IsE 1 W)) := Lib.hid fun W => by
    have h := chk_any { c with m := c.m + 100 } W hf.1 hf.2
    rwa [Cmd.more_m hz _ rfl] at h
  have HD0 : Hid (c.name.size ≠ 0 → ∀ W, Calls Try.prog 9 #[.agg (cmA { c with name := ⟨#[]⟩ })] W (IsE 1 W)) := Lib.hid fun hn W => by
    have h := chk_any { c with name := ⟨#[]⟩ } W hf.1 hf.2
    rwa [Cmd.no_name hz hn _ rfl] at h
  have HD1 : Hid (c.name.size = 0 → ∀ W, Calls Try.prog 9 #[.agg (cmA { c with name := ⟨#[97]⟩ })] W (IsE 1 W)) := Lib.hid fun hn W => by
    have h := chk_any { c with name := ⟨#[97]⟩ } W hf.1 hf.2
    rwa [Cmd.more_name hz hn _ (by decide)] at h
  rw [hz] at HC
  clear hz hf hv
  generalize hzx : Cmd.chk { c with old := v } = zx at *
  clear hzx
  obtain ⟨k, name, key, ⟨vk, vn, vf, vs⟩, ⟨ok, on, of, os⟩, n, m⟩ := c
  obtain ⟨uk, un, uf, us⟩ := v
  simp only at hb
  obtain ⟨hw1, hw2⟩ := wrap_m hb
  clear hb
  unfold cmA IsE at *
  unfold vv
  simp only at HC HX HY HD0 HD1 HXk ⊢
  have hnil : Hid (∀ q : Bool, decide (Cmd.nil ⟨uk, un, uf, us⟩) = q → q = false → ¬ Cmd.nil ⟨uk, un, uf, us⟩) := Lib.hid fun q h1 h2 => of_decide_eq_false (h1.trans h2)
  have hbr : ∃ q : Bool, decide (Cmd.nil ⟨uk, un, uf, us⟩) = q := ⟨_, rfl⟩
  obtain ⟨qn, hqn⟩ := hbr
  have HQN := Lib.hid hqn
  have hcase : (k = 9) ∨ ((k == 9) = false ∧ qn = true) ∨ ((k == 9) = false ∧ qn = false ∧ zx = 1) := by
    by_cases h9 : k = 9
    · exact .inl h9
    · cases qn
      · exact .inr (.inr ⟨by simpa using h9, rfl, HXk.out h9 (hnil.out _ hqn rfl)⟩)
      · exact .inr (.inl ⟨by simpa using h9, rfl⟩)
  have hname : (name.toList = [] ∧ name.size = 0) ∨ (¬ name.toList = [] ∧ name.size ≠ 0) := by
    by_cases h : name.size = 0
    · exact .inl ⟨emp_l.1 h, h⟩
    · exact .inr ⟨fun e => h (emp_l.2 e), h⟩
  clear HXk hnil HQN
  rcases hname with ⟨hn1, hn2⟩ | ⟨hn1, hn2⟩
  · have HD := Lib.hid (HD1.out hn2)
    clear HD0 HD1 hn2
    have hn3 : name.toList.isEmpty = true := by rw [hn1]; rfl
    rcases hcase with rfl | ⟨hk, rfl⟩ | ⟨hk, rfl, rfl⟩
    · have HK := kn2 w 26 (cmC 9 name key vk vn vf vs ok on of os n m) 24 (vC uk un uf us)
      go_enter Try.func5, Try.ntmps5
      go_wp2_with (first | refine wpList_of_exec (by rfl) (kexec_cmx HK 0 _ (by rfl) (by rfl) (by rfl)) ?_)
      refine (HC.out _).mono ?_; rintro en w1 ⟨rfl, b1⟩
      replace HK := Lib.hid (HK.out.call b1)
      clear b1
      have x0 := HK.out.cell 0 rfl 0 (v := .int .i64 9) rfl
      have x1 := HK.out.cell 0 rfl 1 (v := .string name) rfl
      have x6 := HK.out.cell 0 rfl 12 (v := .int .i64 m) rfl
      go_wp2_with (first | (refine wpList_akcm HK rfl rfl ?_; intro _ ga HK'; simp only [List.cons_append, List.nil_append] at HK'; replace HK := HK'; clear HK'; clear x0 x1 x6; have x0 := HK.out.cell 0 rfl 0 (v := .int .i64 9) rfl; have x1 := HK.out.cell 0 rfl 1 (v := .string name) rfl; have x6 := HK.out.cell 0 rfl 12 (v := .int .i64 m) rfl) | first | (refine wpList_scm HK 2 rfl _ _ rfl rfl rfl rfl ?_; intro _ HK'; simp only [List.set] at HK'; replace HK := HK'; clear HK'; clear x0 x1 x6; have x0 := HK.out.cell 0 rfl 0 (v := .int .i64 9) rfl; have x1 := HK.out.cell 0 rfl 1 (v := .string name) rfl; have x6 := HK.out.cell 0 rfl 12 (v := .int .i64 m) rfl) | (refine wpList_scm HK 3 rfl _ _ rfl rfl rfl rfl ?_; intro _ HK'; simp only [List.set] at HK'; replace HK := HK'; clear HK'; clear x0 x1 x6; have x0 := HK.out.cell 0 rfl 0 (v := .int .i64 9) rfl; have x1 := HK.out.cell 0 rfl 1 (v := .string name) rfl; have x6 := HK.out.cell 0 rfl 12 (v := .int .i64 m) rfl) | (refine wpList_scm HK 4 rfl _ _ rfl rfl rfl rfl ?_; intro _ HK'; simp only [List.set] at HK'; replace HK := HK'; clear HK'; clear x0 x1 x6; have x0 := HK.out.cell 0 rfl 0 (v := .int .i64 9) rfl; have x1 := HK.out.cell 0 rfl 1 (v := .string name) rfl; have x6 := HK.out.cell 0 rfl 12 (v := .int .i64 m) rfl) | (refine wpList_scn HK 2 rfl _ _ rfl rfl rfl rfl ?_; intro _ HK'; simp only [List.set] at HK'; replace HK := HK'; clear HK'; clear x0 x1 x6; have x0 := HK.out.cell 0 rfl 0 (v := .int .i64 9) rfl; have x1 := HK.out.cell 0 rfl 1 (v := .string name) rfl; have x6 := HK.out.cell 0 rfl 12 (v := .int .i64 m) rfl) | (refine wpList_sco HK 3 rfl _ _ rfl rfl rfl rfl ?_; intro _ HK'; simp only [List.set] at HK'; replace HK := HK'; clear HK'; clear x0 x1 x6; have x0 := HK.out.cell 0 rfl 0 (v := .int .i64 9) rfl; have x1 := HK.out.cell 0 rfl 1 (v := .string name) rfl; have x6 := HK.out.cell 0 rfl 12 (v := .int .i64 m) rfl) | (refine wpList_scM HK 4 rfl _ _ rfl rfl rfl rfl ?_; intro _ HK'; simp only [List.set] at HK'; replace HK := HK'; clear HK'; clear x0 x1 x6; have x0 := HK.out.cell 0 rfl 0 (v := .int .i64 9) rfl; have x1 := HK.out.cell 0 rfl 1 (v := .string name) rfl; have x6 := HK.out.cell 0 rfl 12 (v := .int .i64 m) rfl) | refine wpList_of_exec (by rfl) (kexec_cmx HK 0 _ (by rfl) (by rfl) (by rfl)) ?_ | refine wpList_of_exec (by rfl) (kexec_vv HK 1 _ (by rfl) (by rfl) (by rfl)) ?_ | refine wpList_of_exec (by rfl) (exec_veq _ _ (by rfl) (by rfl) (by rfl)) ?_)
      refine (HA.out _).mono ?_; rintro en w2 ⟨rfl, b2⟩
      replace HK := Lib.hid (HK.out.call b2)
      clear b2 x0 x1 x6
      go_wp2_with (first | refine wpList_of_exec (by rfl) (kexec_cmx HK 2 _ (by rfl) (by rfl) (by rfl)) ?_)
      refine (HD.out _).mono ?_; rintro en w3 ⟨rfl, b3⟩
      replace HK := Lib.hid (HK.out.call b3)
      clear b3
      first
        | (go_wp2_with (first | refine wpList_of_exec (by rfl) (kexec_cmx HK 4 _ (by rfl) (by rfl) (by rfl)) ?_)
           refine (HY.out _).mono ?_; rintro en w5 ⟨rfl, b5⟩
           replace HK := Lib.hid (HK.out.call b5)
           go_wp2_with fail
           go_ret
           exact ⟨rfl, HK.out.b⟩)
        | (go_wp2_with (first | refine wpList_of_exec (by rfl) (kexec_cmx HK 3 _ (by rfl) (by rfl) (by rfl)) ?_)
           refine (HX.out _).mono ?_; rintro en w4 ⟨rfl, b4⟩
           replace HK := Lib.hid (HK.out.call b4)
           clear b4
           go_wp2_with (first | refine wpList_of_exec (by rfl) (kexec_cmx HK 4 _ (by rfl) (by rfl) (by rfl)) ?_)
           refine (HY.out _).mono ?_; rintro en w5 ⟨rfl, b5⟩
           replace HK := Lib.hid (HK.out.call b5)
           go_wp2_with fail
           go_ret
           exact ⟨rfl, HK.out.b⟩)
    · have HK := kn2 w 26 (cmC k name key vk vn vf vs ok on of os n m) 24 (vC uk un uf us)
      go_enter Try.func5, Try.ntmps5
      go_wp2_with (first | refine wpList_of_exec (by rfl) (kexec_cmx HK 0 _ (by rfl) (by rfl) (by rfl)) ?_)
      refine (HC.out _).mono ?_; rintro en w1 ⟨rfl, b1⟩
      replace HK := Lib.hid (HK.out.call b1)
      clear b1
      have x0 := HK.out.cell 0 rfl 0 (v := .int .i64 k) rfl
      have x1 := HK.out.cell 0 rfl 1 (v := .string name) rfl
      have x6 := HK.out.cell 0 rfl 12 (v := .int .i64 m) rfl
      go_wp2_with (first | (refine wpList_akcm HK rfl rfl ?_; intro _ ga HK'; simp only [List.cons_append, List.nil_append] at HK'; replace HK := HK'; clear HK'; clear x0 x1 x6; have x0 := HK.out.cell 0 rfl 0 (v := .int .i64 k) rfl; have x1 := HK.out.cell 0 rfl 1 (v := .string name) rfl; have x6 := HK.out.cell 0 rfl 12 (v := .int .i64 m) rfl) | first | (refine wpList_scm HK 2 rfl _ _ rfl rfl rfl rfl ?_; intro _ HK'; simp only [List.set] at HK'; replace HK := HK'; clear HK'; clear x0 x1 x6; have x0 := HK.out.cell 0 rfl 0 (v := .int .i64 k) rfl; have x1 := HK.out.cell 0 rfl 1 (v := .string name) rfl; have x6 := HK.out.cell 0 rfl 12 (v := .int .i64 m) rfl) | (refine wpList_scm HK 3 rfl _ _ rfl rfl rfl rfl ?_; intro _ HK'; simp only [List.set] at HK'; replace HK := HK'; clear HK'; clear x0 x1 x6; have x0 := HK.out.cell 0 rfl 0 (v := .int .i64 k) rfl; have x1 := HK.out.cell 0 rfl 1 (v := .string name) rfl; have x6 := HK.out.cell 0 rfl 12 (v := .int .i64 m) rfl) | (refine wpList_scm HK 4 rfl _ _ rfl rfl rfl rfl ?_; intro _ HK'; simp only [List.set] at HK'; replace HK := HK'; clear HK'; clear x0 x1 x6; have x0 := HK.out.cell 0 rfl 0 (v := .int .i64 k) rfl; have x1 := HK.out.cell 0 rfl 1 (v := .string name) rfl; have x6 := HK.out.cell 0 rfl 12 (v := .int .i64 m) rfl) | (refine wpList_scn HK 2 rfl _ _ rfl rfl rfl rfl ?_; intro _ HK'; simp only [List.set] at HK'; replace HK := HK'; clear HK'; clear x0 x1 x6; have x0 := HK.out.cell 0 rfl 0 (v := .int .i64 k) rfl; have x1 := HK.out.cell 0 rfl 1 (v := .string name) rfl; have x6 := HK.out.cell 0 rfl 12 (v := .int .i64 m) rfl) | (refine wpList_sco HK 3 rfl _ _ rfl rfl rfl rfl ?_; intro _ HK'; simp only [List.set] at HK'; replace HK := HK'; clear HK'; clear x0 x1 x6; have x0 := HK.out.cell 0 rfl 0 (v := .int .i64 k) rfl; have x1 := HK.out.cell 0 rfl 1 (v := .string name) rfl; have x6 := HK.out.cell 0 rfl 12 (v := .int .i64 m) rfl) | (refine wpList_scM HK 4 rfl _ _ rfl rfl rfl rfl ?_; intro _ HK'; simp only [List.set] at HK'; replace HK := HK'; clear HK'; clear x0 x1 x6; have x0 := HK.out.cell 0 rfl 0 (v := .int .i64 k) rfl; have x1 := HK.out.cell 0 rfl 1 (v := .string name) rfl; have x6 := HK.out.cell 0 rfl 12 (v := .int .i64 m) rfl) | refine wpList_of_exec (by rfl) (kexec_cmx HK 0 _ (by rfl) (by rfl) (by rfl)) ?_ | refine wpList_of_exec (by rfl) (kexec_vv HK 1 _ (by rfl) (by rfl) (by rfl)) ?_ | refine wpList_of_exec (by rfl) (exec_veq _ _ (by rfl) (by rfl) (by rfl)) ?_)
      refine (HA.out _).mono ?_; rintro en w2 ⟨rfl, b2⟩
      replace HK := Lib.hid (HK.out.call b2)
      clear b2 x0 x1 x6
      go_wp2_with (first | refine wpList_of_exec (by rfl) (kexec_cmx HK 2 _ (by rfl) (by rfl) (by rfl)) ?_)
      refine (HD.out _).mono ?_; rintro en w3 ⟨rfl, b3⟩
      replace HK := Lib.hid (HK.out.call b3)
      clear b3
      first
        | (go_wp2_with (first | refine wpList_of_exec (by rfl) (kexec_cmx HK 4 _ (by rfl) (by rfl) (by rfl)) ?_)
           refine (HY.out _).mono ?_; rintro en w5 ⟨rfl, b5⟩
           replace HK := Lib.hid (HK.out.call b5)
           go_wp2_with fail
           go_ret
           exact ⟨rfl, HK.out.b⟩)
        | (go_wp2_with (first | refine wpList_of_exec (by rfl) (kexec_cmx HK 3 _ (by rfl) (by rfl) (by rfl)) ?_)
           refine (HX.out _).mono ?_; rintro en w4 ⟨rfl, b4⟩
           replace HK := Lib.hid (HK.out.call b4)
           clear b4
           go_wp2_with (first | refine wpList_of_exec (by rfl) (kexec_cmx HK 4 _ (by rfl) (by rfl) (by rfl)) ?_)
           refine (HY.out _).mono ?_; rintro en w5 ⟨rfl, b5⟩
           replace HK := Lib.hid (HK.out.call b5)
           go_wp2_with fail
           go_ret
           exact ⟨rfl, HK.out.b⟩)
    · have HK := kn2 w 26 (cmC k name key vk vn vf vs ok on of os n m) 24 (vC uk un uf us)
      go_enter Try.func5, Try.ntmps5
      go_wp2_with (first | refine wpList_of_exec (by rfl) (kexec_cmx HK 0 _ (by rfl) (by rfl) (by rfl)) ?_)
      refine (HC.out _).mono ?_; rintro en w1 ⟨rfl, b1⟩
      replace HK := Lib.hid (HK.out.call b1)
      clear b1
      have x0 := HK.out.cell 0 rfl 0 (v := .int .i64 k) rfl
      have x1 := HK.out.cell 0 rfl 1 (v := .string name) rfl
      have x6 := HK.out.cell 0 rfl 12 (v := .int .i64 m) rfl
      go_wp2_with (first | (refine wpList_akcm HK rfl rfl ?_; intro _ ga HK'; simp only [List.cons_append, List.nil_append] at HK'; replace HK := HK'; clear HK'; clear x0 x1 x6; have x0 := HK.out.cell 0 rfl 0 (v := .int .i64 k) rfl; have x1 := HK.out.cell 0 rfl 1 (v := .string name) rfl; have x6 := HK.out.cell 0 rfl 12 (v := .int .i64 m) rfl) | first | (refine wpList_scm HK 2 rfl _ _ rfl rfl rfl rfl ?_; intro _ HK'; simp only [List.set] at HK'; replace HK := HK'; clear HK'; clear x0 x1 x6; have x0 := HK.out.cell 0 rfl 0 (v := .int .i64 k) rfl; have x1 := HK.out.cell 0 rfl 1 (v := .string name) rfl; have x6 := HK.out.cell 0 rfl 12 (v := .int .i64 m) rfl) | (refine wpList_scm HK 3 rfl _ _ rfl rfl rfl rfl ?_; intro _ HK'; simp only [List.set] at HK'; replace HK := HK'; clear HK'; clear x0 x1 x6; have x0 := HK.out.cell 0 rfl 0 (v := .int .i64 k) rfl; have x1 := HK.out.cell 0 rfl 1 (v := .string name) rfl; have x6 := HK.out.cell 0 rfl 12 (v := .int .i64 m) rfl) | (refine wpList_scm HK 4 rfl _ _ rfl rfl rfl rfl ?_; intro _ HK'; simp only [List.set] at HK'; replace HK := HK'; clear HK'; clear x0 x1 x6; have x0 := HK.out.cell 0 rfl 0 (v := .int .i64 k) rfl; have x1 := HK.out.cell 0 rfl 1 (v := .string name) rfl; have x6 := HK.out.cell 0 rfl 12 (v := .int .i64 m) rfl) | (refine wpList_scn HK 2 rfl _ _ rfl rfl rfl rfl ?_; intro _ HK'; simp only [List.set] at HK'; replace HK := HK'; clear HK'; clear x0 x1 x6; have x0 := HK.out.cell 0 rfl 0 (v := .int .i64 k) rfl; have x1 := HK.out.cell 0 rfl 1 (v := .string name) rfl; have x6 := HK.out.cell 0 rfl 12 (v := .int .i64 m) rfl) | (refine wpList_sco HK 3 rfl _ _ rfl rfl rfl rfl ?_; intro _ HK'; simp only [List.set] at HK'; replace HK := HK'; clear HK'; clear x0 x1 x6; have x0 := HK.out.cell 0 rfl 0 (v := .int .i64 k) rfl; have x1 := HK.out.cell 0 rfl 1 (v := .string name) rfl; have x6 := HK.out.cell 0 rfl 12 (v := .int .i64 m) rfl) | (refine wpList_scM HK 4 rfl _ _ rfl rfl rfl rfl ?_; intro _ HK'; simp only [List.set] at HK'; replace HK := HK'; clear HK'; clear x0 x1 x6; have x0 := HK.out.cell 0 rfl 0 (v := .int .i64 k) rfl; have x1 := HK.out.cell 0 rfl 1 (v := .string name) rfl; have x6 := HK.out.cell 0 rfl 12 (v := .int .i64 m) rfl) | refine wpList_of_exec (by rfl) (kexec_cmx HK 0 _ (by rfl) (by rfl) (by rfl)) ?_ | refine wpList_of_exec (by rfl) (kexec_vv HK 1 _ (by rfl) (by rfl) (by rfl)) ?_ | refine wpList_of_exec (by rfl) (exec_veq _ _ (by rfl) (by rfl) (by rfl)) ?_)
      refine (HA.out _).mono ?_; rintro en w2 ⟨rfl, b2⟩
      replace HK := Lib.hid (HK.out.call b2)
      clear b2 x0 x1 x6
      go_wp2_with (first | refine wpList_of_exec (by rfl) (kexec_cmx HK 2 _ (by rfl) (by rfl) (by rfl)) ?_)
      refine (HD.out _).mono ?_; rintro en w3 ⟨rfl, b3⟩
      replace HK := Lib.hid (HK.out.call b3)
      clear b3
      first
        | (go_wp2_with (first | refine wpList_of_exec (by rfl) (kexec_cmx HK 4 _ (by rfl) (by rfl) (by rfl)) ?_)
           refine (HY.out _).mono ?_; rintro en w5 ⟨rfl, b5⟩
           replace HK := Lib.hid (HK.out.call b5)
           go_wp2_with fail
           go_ret
           exact ⟨rfl, HK.out.b⟩)
        | (go_wp2_with (first | refine wpList_of_exec (by rfl) (kexec_cmx HK 3 _ (by rfl) (by rfl) (by rfl)) ?_)
           refine (HX.out _).mono ?_; rintro en w4 ⟨rfl, b4⟩
           replace HK := Lib.hid (HK.out.call b4)
           clear b4
           go_wp2_with (first | refine wpList_of_exec (by rfl) (kexec_cmx HK 4 _ (by rfl) (by rfl) (by rfl)) ?_)
           refine (HY.out _).mono ?_; rintro en w5 ⟨rfl, b5⟩
           replace HK := Lib.hid (HK.out.call b5)
           go_wp2_with fail
           go_ret
           exact ⟨rfl, HK.out.b⟩)
  · have HD := Lib.hid (HD0.out hn2)
    clear HD0 HD1 hn2
    have hn3 : name.toList.isEmpty = false := by simpa using hn1
    rcases hcase with rfl | ⟨hk, rfl⟩ | ⟨hk, rfl, rfl⟩
    · have HK := kn2 w 26 (cmC 9 name key vk vn vf vs ok on of os n m) 24 (vC uk un uf us)
      go_enter Try.func5, Try.ntmps5
      go_wp2_with (first | refine wpList_of_exec (by rfl) (kexec_cmx HK 0 _ (by rfl) (by rfl) (by rfl)) ?_)
      refine (HC.out _).mono ?_; rintro en w1 ⟨rfl, b1⟩
      replace HK := Lib.hid (HK.out.call b1)
      clear b1
      have x0 := HK.out.cell 0 rfl 0 (v := .int .i64 9) rfl
      have x1 := HK.out.cell 0 rfl 1 (v := .string name) rfl
      have x6 := HK.out.cell 0 rfl 12 (v := .int .i64 m) rfl
      go_wp2_with (first | (refine wpList_akcm HK rfl rfl ?_; intro _ ga HK'; simp only [List.cons_append, List.nil_append] at HK'; replace HK := HK'; clear HK'; clear x0 x1 x6; have x0 := HK.out.cell 0 rfl 0 (v := .int .i64 9) rfl; have x1 := HK.out.cell 0 rfl 1 (v := .string name) rfl; have x6 := HK.out.cell 0 rfl 12 (v := .int .i64 m) rfl) | first | (refine wpList_scm HK 2 rfl _ _ rfl rfl rfl rfl ?_; intro _ HK'; simp only [List.set] at HK'; replace HK := HK'; clear HK'; clear x0 x1 x6; have x0 := HK.out.cell 0 rfl 0 (v := .int .i64 9) rfl; have x1 := HK.out.cell 0 rfl 1 (v := .string name) rfl; have x6 := HK.out.cell 0 rfl 12 (v := .int .i64 m) rfl) | (refine wpList_scm HK 3 rfl _ _ rfl rfl rfl rfl ?_; intro _ HK'; simp only [List.set] at HK'; replace HK := HK'; clear HK'; clear x0 x1 x6; have x0 := HK.out.cell 0 rfl 0 (v := .int .i64 9) rfl; have x1 := HK.out.cell 0 rfl 1 (v := .string name) rfl; have x6 := HK.out.cell 0 rfl 12 (v := .int .i64 m) rfl) | (refine wpList_scm HK 4 rfl _ _ rfl rfl rfl rfl ?_; intro _ HK'; simp only [List.set] at HK'; replace HK := HK'; clear HK'; clear x0 x1 x6; have x0 := HK.out.cell 0 rfl 0 (v := .int .i64 9) rfl; have x1 := HK.out.cell 0 rfl 1 (v := .string name) rfl; have x6 := HK.out.cell 0 rfl 12 (v := .int .i64 m) rfl) | (refine wpList_scn HK 2 rfl _ _ rfl rfl rfl rfl ?_; intro _ HK'; simp only [List.set] at HK'; replace HK := HK'; clear HK'; clear x0 x1 x6; have x0 := HK.out.cell 0 rfl 0 (v := .int .i64 9) rfl; have x1 := HK.out.cell 0 rfl 1 (v := .string name) rfl; have x6 := HK.out.cell 0 rfl 12 (v := .int .i64 m) rfl) | (refine wpList_sco HK 3 rfl _ _ rfl rfl rfl rfl ?_; intro _ HK'; simp only [List.set] at HK'; replace HK := HK'; clear HK'; clear x0 x1 x6; have x0 := HK.out.cell 0 rfl 0 (v := .int .i64 9) rfl; have x1 := HK.out.cell 0 rfl 1 (v := .string name) rfl; have x6 := HK.out.cell 0 rfl 12 (v := .int .i64 m) rfl) | (refine wpList_scM HK 4 rfl _ _ rfl rfl rfl rfl ?_; intro _ HK'; simp only [List.set] at HK'; replace HK := HK'; clear HK'; clear x0 x1 x6; have x0 := HK.out.cell 0 rfl 0 (v := .int .i64 9) rfl; have x1 := HK.out.cell 0 rfl 1 (v := .string name) rfl; have x6 := HK.out.cell 0 rfl 12 (v := .int .i64 m) rfl) | refine wpList_of_exec (by rfl) (kexec_cmx HK 0 _ (by rfl) (by rfl) (by rfl)) ?_ | refine wpList_of_exec (by rfl) (kexec_vv HK 1 _ (by rfl) (by rfl) (by rfl)) ?_ | refine wpList_of_exec (by rfl) (exec_veq _ _ (by rfl) (by rfl) (by rfl)) ?_)
      refine (HA.out _).mono ?_; rintro en w2 ⟨rfl, b2⟩
      replace HK := Lib.hid (HK.out.call b2)
      clear b2 x0 x1 x6
      go_wp2_with (first | refine wpList_of_exec (by rfl) (kexec_cmx HK 2 _ (by rfl) (by rfl) (by rfl)) ?_)
      refine (HD.out _).mono ?_; rintro en w3 ⟨rfl, b3⟩
      replace HK := Lib.hid (HK.out.call b3)
      clear b3
      first
        | (go_wp2_with (first | refine wpList_of_exec (by rfl) (kexec_cmx HK 4 _ (by rfl) (by rfl) (by rfl)) ?_)
           refine (HY.out _).mono ?_; rintro en w5 ⟨rfl, b5⟩
           replace HK := Lib.hid (HK.out.call b5)
           go_wp2_with fail
           go_ret
           exact ⟨rfl, HK.out.b⟩)
        | (go_wp2_with (first | refine wpList_of_exec (by rfl) (kexec_cmx HK 3 _ (by rfl) (by rfl) (by rfl)) ?_)
           refine (HX.out _).mono ?_; rintro en w4 ⟨rfl, b4⟩
           replace HK := Lib.hid (HK.out.call b4)
           clear b4
           go_wp2_with (first | refine wpList_of_exec (by rfl) (kexec_cmx HK 4 _ (by rfl) (by rfl) (by rfl)) ?_)
           refine (HY.out _).mono ?_; rintro en w5 ⟨rfl, b5⟩
           replace HK := Lib.hid (HK.out.call b5)
           go_wp2_with fail
           go_ret
           exact ⟨rfl, HK.out.b⟩)
    · have HK := kn2 w 26 (cmC k name key vk vn vf vs ok on of os n m) 24 (vC uk un uf us)
      go_enter Try.func5, Try.ntmps5
      go_wp2_with (first | refine wpList_of_exec (by rfl) (kexec_cmx HK 0 _ (by rfl) (by rfl) (by rfl)) ?_)
      refine (HC.out _).mono ?_; rintro en w1 ⟨rfl, b1⟩
      replace HK := Lib.hid (HK.out.call b1)
      clear b1
      have x0 := HK.out.cell 0 rfl 0 (v := .int .i64 k) rfl
      have x1 := HK.out.cell 0 rfl 1 (v := .string name) rfl
      have x6 := HK.out.cell 0 rfl 12 (v := .int .i64 m) rfl
      go_wp2_with (first | (refine wpList_akcm HK rfl rfl ?_; intro _ ga HK'; simp only [List.cons_append, List.nil_append] at HK'; replace HK := HK'; clear HK'; clear x0 x1 x6; have x0 := HK.out.cell 0 rfl 0 (v := .int .i64 k) rfl; have x1 := HK.out.cell 0 rfl 1 (v := .string name) rfl; have x6 := HK.out.cell 0 rfl 12 (v := .int .i64 m) rfl) | first | (refine wpList_scm HK 2 rfl _ _ rfl rfl rfl rfl ?_; intro _ HK'; simp only [List.set] at HK'; replace HK := HK'; clear HK'; clear x0 x1 x6; have x0 := HK.out.cell 0 rfl 0 (v := .int .i64 k) rfl; have x1 := HK.out.cell 0 rfl 1 (v := .string name) rfl; have x6 := HK.out.cell 0 rfl 12 (v := .int .i64 m) rfl) | (refine wpList_scm HK 3 rfl _ _ rfl rfl rfl rfl ?_; intro _ HK'; simp only [List.set] at HK'; replace HK := HK'; clear HK'; clear x0 x1 x6; have x0 := HK.out.cell 0 rfl 0 (v := .int .i64 k) rfl; have x1 := HK.out.cell 0 rfl 1 (v := .string name) rfl; have x6 := HK.out.cell 0 rfl 12 (v := .int .i64 m) rfl) | (refine wpList_scm HK 4 rfl _ _ rfl rfl rfl rfl ?_; intro _ HK'; simp only [List.set] at HK'; replace HK := HK'; clear HK'; clear x0 x1 x6; have x0 := HK.out.cell 0 rfl 0 (v := .int .i64 k) rfl; have x1 := HK.out.cell 0 rfl 1 (v := .string name) rfl; have x6 := HK.out.cell 0 rfl 12 (v := .int .i64 m) rfl) | (refine wpList_scn HK 2 rfl _ _ rfl rfl rfl rfl ?_; intro _ HK'; simp only [List.set] at HK'; replace HK := HK'; clear HK'; clear x0 x1 x6; have x0 := HK.out.cell 0 rfl 0 (v := .int .i64 k) rfl; have x1 := HK.out.cell 0 rfl 1 (v := .string name) rfl; have x6 := HK.out.cell 0 rfl 12 (v := .int .i64 m) rfl) | (refine wpList_sco HK 3 rfl _ _ rfl rfl rfl rfl ?_; intro _ HK'; simp only [List.set] at HK'; replace HK := HK'; clear HK'; clear x0 x1 x6; have x0 := HK.out.cell 0 rfl 0 (v := .int .i64 k) rfl; have x1 := HK.out.cell 0 rfl 1 (v := .string name) rfl; have x6 := HK.out.cell 0 rfl 12 (v := .int .i64 m) rfl) | (refine wpList_scM HK 4 rfl _ _ rfl rfl rfl rfl ?_; intro _ HK'; simp only [List.set] at HK'; replace HK := HK'; clear HK'; clear x0 x1 x6; have x0 := HK.out.cell 0 rfl 0 (v := .int .i64 k) rfl; have x1 := HK.out.cell 0 rfl 1 (v := .string name) rfl; have x6 := HK.out.cell 0 rfl 12 (v := .int .i64 m) rfl) | refine wpList_of_exec (by rfl) (kexec_cmx HK 0 _ (by rfl) (by rfl) (by rfl)) ?_ | refine wpList_of_exec (by rfl) (kexec_vv HK 1 _ (by rfl) (by rfl) (by rfl)) ?_ | refine wpList_of_exec (by rfl) (exec_veq _ _ (by rfl) (by rfl) (by rfl)) ?_)
      refine (HA.out _).mono ?_; rintro en w2 ⟨rfl, b2⟩
      replace HK := Lib.hid (HK.out.call b2)
      clear b2 x0 x1 x6
      go_wp2_with (first | refine wpList_of_exec (by rfl) (kexec_cmx HK 2 _ (by rfl) (by rfl) (by rfl)) ?_)
      refine (HD.out _).mono ?_; rintro en w3 ⟨rfl, b3⟩
      replace HK := Lib.hid (HK.out.call b3)
      clear b3
      first
        | (go_wp2_with (first | refine wpList_of_exec (by rfl) (kexec_cmx HK 4 _ (by rfl) (by rfl) (by rfl)) ?_)
           refine (HY.out _).mono ?_; rintro en w5 ⟨rfl, b5⟩
           replace HK := Lib.hid (HK.out.call b5)
           go_wp2_with fail
           go_ret
           exact ⟨rfl, HK.out.b⟩)
        | (go_wp2_with (first | refine wpList_of_exec (by rfl) (kexec_cmx HK 3 _ (by rfl) (by rfl) (by rfl)) ?_)
           refine (HX.out _).mono ?_; rintro en w4 ⟨rfl, b4⟩
           replace HK := Lib.hid (HK.out.call b4)
           clear b4
           go_wp2_with (first | refine wpList_of_exec (by rfl) (kexec_cmx HK 4 _ (by rfl) (by rfl) (by rfl)) ?_)
           refine (HY.out _).mono ?_; rintro en w5 ⟨rfl, b5⟩
           replace HK := Lib.hid (HK.out.call b5)
           go_wp2_with fail
           go_ret
           exact ⟨rfl, HK.out.b⟩)
    · have HK := kn2 w 26 (cmC k name key vk vn vf vs ok on of os n m) 24 (vC uk un uf us)
      go_enter Try.func5, Try.ntmps5
      go_wp2_with (first | refine wpList_of_exec (by rfl) (kexec_cmx HK 0 _ (by rfl) (by rfl) (by rfl)) ?_)
      refine (HC.out _).mono ?_; rintro en w1 ⟨rfl, b1⟩
      replace HK := Lib.hid (HK.out.call b1)
      clear b1
      have x0 := HK.out.cell 0 rfl 0 (v := .int .i64 k) rfl
      have x1 := HK.out.cell 0 rfl 1 (v := .string name) rfl
      have x6 := HK.out.cell 0 rfl 12 (v := .int .i64 m) rfl
      go_wp2_with (first | (refine wpList_akcm HK rfl rfl ?_; intro _ ga HK'; simp only [List.cons_append, List.nil_append] at HK'; replace HK := HK'; clear HK'; clear x0 x1 x6; have x0 := HK.out.cell 0 rfl 0 (v := .int .i64 k) rfl; have x1 := HK.out.cell 0 rfl 1 (v := .string name) rfl; have x6 := HK.out.cell 0 rfl 12 (v := .int .i64 m) rfl) | first | (refine wpList_scm HK 2 rfl _ _ rfl rfl rfl rfl ?_; intro _ HK'; simp only [List.set] at HK'; replace HK := HK'; clear HK'; clear x0 x1 x6; have x0 := HK.out.cell 0 rfl 0 (v := .int .i64 k) rfl; have x1 := HK.out.cell 0 rfl 1 (v := .string name) rfl; have x6 := HK.out.cell 0 rfl 12 (v := .int .i64 m) rfl) | (refine wpList_scm HK 3 rfl _ _ rfl rfl rfl rfl ?_; intro _ HK'; simp only [List.set] at HK'; replace HK := HK'; clear HK'; clear x0 x1 x6; have x0 := HK.out.cell 0 rfl 0 (v := .int .i64 k) rfl; have x1 := HK.out.cell 0 rfl 1 (v := .string name) rfl; have x6 := HK.out.cell 0 rfl 12 (v := .int .i64 m) rfl) | (refine wpList_scm HK 4 rfl _ _ rfl rfl rfl rfl ?_; intro _ HK'; simp only [List.set] at HK'; replace HK := HK'; clear HK'; clear x0 x1 x6; have x0 := HK.out.cell 0 rfl 0 (v := .int .i64 k) rfl; have x1 := HK.out.cell 0 rfl 1 (v := .string name) rfl; have x6 := HK.out.cell 0 rfl 12 (v := .int .i64 m) rfl) | (refine wpList_scn HK 2 rfl _ _ rfl rfl rfl rfl ?_; intro _ HK'; simp only [List.set] at HK'; replace HK := HK'; clear HK'; clear x0 x1 x6; have x0 := HK.out.cell 0 rfl 0 (v := .int .i64 k) rfl; have x1 := HK.out.cell 0 rfl 1 (v := .string name) rfl; have x6 := HK.out.cell 0 rfl 12 (v := .int .i64 m) rfl) | (refine wpList_sco HK 3 rfl _ _ rfl rfl rfl rfl ?_; intro _ HK'; simp only [List.set] at HK'; replace HK := HK'; clear HK'; clear x0 x1 x6; have x0 := HK.out.cell 0 rfl 0 (v := .int .i64 k) rfl; have x1 := HK.out.cell 0 rfl 1 (v := .string name) rfl; have x6 := HK.out.cell 0 rfl 12 (v := .int .i64 m) rfl) | (refine wpList_scM HK 4 rfl _ _ rfl rfl rfl rfl ?_; intro _ HK'; simp only [List.set] at HK'; replace HK := HK'; clear HK'; clear x0 x1 x6; have x0 := HK.out.cell 0 rfl 0 (v := .int .i64 k) rfl; have x1 := HK.out.cell 0 rfl 1 (v := .string name) rfl; have x6 := HK.out.cell 0 rfl 12 (v := .int .i64 m) rfl) | refine wpList_of_exec (by rfl) (kexec_cmx HK 0 _ (by rfl) (by rfl) (by rfl)) ?_ | refine wpList_of_exec (by rfl) (kexec_vv HK 1 _ (by rfl) (by rfl) (by rfl)) ?_ | refine wpList_of_exec (by rfl) (exec_veq _ _ (by rfl) (by rfl) (by rfl)) ?_)
      refine (HA.out _).mono ?_; rintro en w2 ⟨rfl, b2⟩
      replace HK := Lib.hid (HK.out.call b2)
      clear b2 x0 x1 x6
      go_wp2_with (first | refine wpList_of_exec (by rfl) (kexec_cmx HK 2 _ (by rfl) (by rfl) (by rfl)) ?_)
      refine (HD.out _).mono ?_; rintro en w3 ⟨rfl, b3⟩
      replace HK := Lib.hid (HK.out.call b3)
      clear b3
      first
        | (go_wp2_with (first | refine wpList_of_exec (by rfl) (kexec_cmx HK 4 _ (by rfl) (by rfl) (by rfl)) ?_)
           refine (HY.out _).mono ?_; rintro en w5 ⟨rfl, b5⟩
           replace HK := Lib.hid (HK.out.call b5)
           go_wp2_with fail
           go_ret
           exact ⟨rfl, HK.out.b⟩)
        | (go_wp2_with (first | refine wpList_of_exec (by rfl) (kexec_cmx HK 3 _ (by rfl) (by rfl) (by rfl)) ?_)
           refine (HX.out _).mono ?_; rintro en w4 ⟨rfl, b4⟩
           replace HK := Lib.hid (HK.out.call b4)
           clear b4
           go_wp2_with (first | refine wpList_of_exec (by rfl) (kexec_cmx HK 4 _ (by rfl) (by rfl) (by rfl)) ?_)
           refine (HY.out _).mono ?_; rintro en w5 ⟨rfl, b5⟩
           replace HK := Lib.hid (HK.out.call b5)
           go_wp2_with fail
           go_ret
           exact ⟨rfl, HK.out.b⟩)
end Go.Proofs.Ytcofjaeljglodaa
