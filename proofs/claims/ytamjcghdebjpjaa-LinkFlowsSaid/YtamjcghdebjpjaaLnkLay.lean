/-
  How link's structs lie: an end, a packet, texts, packets and headers of slices in a row; ways out.
  No condition but those named.
-/
import Derived.Test.YtamjcghdebjpjaaKn
import Derived.Test.YtamjcghdebjpjaaLayOpen
import Derived.Test.YtamjcghdebjpjaaLinkMath
import Derived.KernelRfl
namespace Go.Proofs.Ytamjcghdebjpjaa
open Go.RowKit

theorem info_str : (Try.prog.info? 9).map (fun i => (i.zero, i.size, i.bytes)) = some (some (Value.string ⟨#[]⟩), 1, 16) := by kernel_rfl
def strLay : Lay Try.prog ByteArray where
  t := 25
  e := 9
  k := 1
  bytes := 16
  z := .string ⟨#[]⟩
  f := fun x => [.string x]
  len := fun _ => rfl
  one := fun x u hu => by
    simp only [List.mem_cons, List.not_mem_nil, or_false] at hu
    subst hu; rfl
  und := Try.underlying25
  info := info_str
  zs := rfl
  pos := by decide
  small := by decide
theorem flat_str (x : ByteArray) : #[Value.string x] = (strLay.flat [x]).toArray := rfl
theorem at_str {w : World} {b o i : Nat} {x : ByteArray} (h : strLay.At w b o i x) : w.cell? ⟨b, o + i, none⟩ = some (.string x) := by
  have h0 := h 0 _ rfl
  have hk : strLay.k = 1 := rfl
  rw [hk, Nat.mul_one] at h0
  exact h0

/-- An end's cells. -/
def lC (v : Value) (ms mc ps pc base got age : Int) : Array Value := #[.int .i64 ms, .int .i64 mc, .int .i64 ps, .int .i64 pc, v, .int .i64 base, .int .i64 got, .int .i64 age]
def lA (v : Value) (l : Lnk.L) : Array Value := lC v l.ms l.mc l.ps l.pc l.base l.got l.age
/-- A packet's cells. -/
def pC (fs fc ts tc seq ack : Int) (body : ByteArray) : Array Value := #[.int .i64 fs, .int .i64 fc, .int .i64 ts, .int .i64 tc, .int .i64 seq, .int .i64 ack, .string body]
def pA (p : Lnk.Pkt) : Array Value := pC p.fs p.fc p.ts p.tc p.seq p.ack p.body
theorem info_lC : (Try.prog.info? 27).map (·.size) = some 8 := by kernel_rfl
theorem info_pC : (Try.prog.info? 36).map (·.size) = some 7 := by kernel_rfl
theorem pC_one (fs fc ts tc seq ack : Int) (body : ByteArray) : (pC fs fc ts tc seq ack body).all (·.oneCell') = true := by simp [pC, Value.oneCell']
theorem lC_one {v : Value} (hv : v.oneCell' = true) (ms mc ps pc base got age : Int) : (lC v ms mc ps pc base got age).all (·.oneCell') = true := by
  rw [Array.all_eq_true_iff_forall_mem]
  intro x hx
  simp only [lC, List.mem_toArray, List.mem_cons, List.not_mem_nil, or_false] at hx
  rcases hx with rfl | rfl | rfl | rfl | rfl | rfl | rfl | rfl <;> first | rfl | exact hv
theorem info_pkt : (Try.prog.info? 36).map (fun i => (i.zero, i.size, i.bytes)) = some (some (Value.agg #[.int .i64 0, .int .i64 0, .int .i64 0, .int .i64 0, .int .i64 0, .int .i64 0, .string ⟨#[]⟩]), 7, 64) := by kernel_rfl
def pktLay : Lay Try.prog Lnk.Pkt where
  t := 29
  e := 36
  k := 7
  bytes := 64
  z := .agg #[.int .i64 0, .int .i64 0, .int .i64 0, .int .i64 0, .int .i64 0, .int .i64 0, .string ⟨#[]⟩]
  f := fun p => [.int .i64 p.fs, .int .i64 p.fc, .int .i64 p.ts, .int .i64 p.tc, .int .i64 p.seq, .int .i64 p.ack, .string p.body]
  len := fun _ => rfl
  one := fun x u hu => by
    simp only [List.mem_cons, List.not_mem_nil, or_false] at hu
    rcases hu with rfl | rfl | rfl | rfl | rfl | rfl | rfl <;> rfl
  und := Try.underlying29
  info := info_pkt
  zs := rfl
  pos := by decide
  small := by decide
theorem flat_pkt (p : Lnk.Pkt) : pA p = (pktLay.flat [p]).toArray := rfl
theorem at_pkt {w : World} {b o i : Nat} {x : Lnk.Pkt} (h : pktLay.At w b o i x) : w.cell? ⟨b, o + i * 7, none⟩ = some (.int .i64 x.fs) ∧ w.cell? ⟨b, o + i * 7 + 1, none⟩ = some (.int .i64 x.fc) ∧ w.cell? ⟨b, o + i * 7 + 2, none⟩ = some (.int .i64 x.ts) ∧ w.cell? ⟨b, o + i * 7 + 3, none⟩ = some (.int .i64 x.tc) ∧
    w.cell? ⟨b, o + i * 7 + 4, none⟩ = some (.int .i64 x.seq) ∧ w.cell? ⟨b, o + i * 7 + 5, none⟩ = some (.int .i64 x.ack) ∧ w.cell? ⟨b, o + i * 7 + 6, none⟩ = some (.string x.body) :=
  ⟨h 0 _ rfl, h 1 _ rfl, h 2 _ rfl, h 3 _ rfl, h 4 _ rfl, h 5 _ rfl, h 6 _ rfl⟩

section
variable {b0 : Nat} {w0 w : World} {L : List (Nat × TypeId × Array Value)} {R : List RowE} {ops : Array Oper} {rest : List Oper} {o : Oper} {a : Act} {Q : Exit → Act → World → Prop}
/-- Loads and stores of ends and packets that lie in known blocks. -/
theorem kexec_ll (HK : Hid (Kn b0 w0 w L R)) (i : Nat) (x : Operand) (ho : o.op = .load 27 x) {g : Nat} {v : Value} {ms mc ps pc base got age : Int} (hL : L[i]? = some (g, 27, lC v ms mc ps pc base got age)) (hx : a.eval x = .pointer (some ⟨g, 0, none⟩)) :
    (execOp a.eval o).run Try.prog w = .ok (.value (.agg (lC v ms mc ps pc base got age))) w :=
  kexec_ls HK _ x ho i hL hx _ (fun j _ => by rw [Nat.zero_add]) Try.underlying27 info_lC
theorem wpList_kll (HK : Hid (Kn b0 w0 w L R)) (i : Nat) (hgd : o.guard = none) (x : Operand) (ho : o.op = .load 27 x) {g : Nat} {v : Value} {ms mc ps pc base got age : Int} (hL : L[i]? = some (g, 27, lC v ms mc ps pc base got age)) (hx : a.eval x = .pointer (some ⟨g, 0, none⟩))
    (h : wpList Try.prog ops Q rest (a.put o.dst (.agg (lC v ms mc ps pc base got age))) w) : wpList Try.prog ops Q (o :: rest) a w :=
  wpList_of_exec (by simp [Region.wanted, hgd]) (kexec_ll HK i x ho hL hx) h
theorem kexec_lp (HK : Hid (Kn b0 w0 w L R)) (i : Nat) (x : Operand) (ho : o.op = .load 36 x) {g : Nat} {fs fc ts tc seq ack : Int} {body : ByteArray} (hL : L[i]? = some (g, 36, pC fs fc ts tc seq ack body)) (hx : a.eval x = .pointer (some ⟨g, 0, none⟩)) :
    (execOp a.eval o).run Try.prog w = .ok (.value (.agg (pC fs fc ts tc seq ack body))) w :=
  kexec_ls HK _ x ho i hL hx _ (fun j _ => by rw [Nat.zero_add]) Try.underlying36 info_pC
theorem wpList_klp (HK : Hid (Kn b0 w0 w L R)) (i : Nat) (hgd : o.guard = none) (x : Operand) (ho : o.op = .load 36 x) {g : Nat} {fs fc ts tc seq ack : Int} {body : ByteArray} (hL : L[i]? = some (g, 36, pC fs fc ts tc seq ack body)) (hx : a.eval x = .pointer (some ⟨g, 0, none⟩))
    (h : wpList Try.prog ops Q rest (a.put o.dst (.agg (pC fs fc ts tc seq ack body))) w) : wpList Try.prog ops Q (o :: rest) a w :=
  wpList_of_exec (by simp [Region.wanted, hgd]) (kexec_lp HK i x ho hL hx) h
theorem kwp_sl {K : Act → World → Prop} (HK : Hid (Kn b0 w0 w L R)) (i : Nat) (x y : Operand) (ho : o.op = .store 27 x y) {g : Nat} {cs : Array Value} (hL : L[i]? = some (g, 27, cs)) (hx : a.eval x = .pointer (some ⟨g, 0, none⟩))
    {A : Option Addr} {n c : Nat} {ms mc ps pc base got age : Int} (hy : a.eval y = .agg (lC (.slice A n c) ms mc ps pc base got age)) (hsz : cs.size = 8)
    (h : ∀ w', Hid (Kn b0 w0 w' (L.set i (g, 27, lC (.slice A n c) ms mc ps pc base got age)) R) → Hid (w'.heap.size = w.heap.size) → K (a.put o.dst undef) w') : o.wp Try.prog a w K Q := by
  refine kwp_ss HK _ x y ho i hL hx hy (by rw [hsz]; exact Nat.le_refl 8) info_lC (lC_one rfl _ _ _ _ _ _ _) fun w' h1 h2 => h w' ?_ h2
  have : putCells cs 0 (lC (.slice A n c) ms mc ps pc base got age).toList = lC (.slice A n c) ms mc ps pc base got age := by
    rw [putCells_all (by rw [hsz]; rfl), Array.toArray_toList]
  rw [this] at h1
  exact h1
theorem wpList_ksl (HK : Hid (Kn b0 w0 w L R)) (i : Nat) (hgd : o.guard = none) (x y : Operand) (ho : o.op = .store 27 x y) {g : Nat} {cs : Array Value} (hL : L[i]? = some (g, 27, cs)) (hx : a.eval x = .pointer (some ⟨g, 0, none⟩))
    {A : Option Addr} {n c : Nat} {ms mc ps pc base got age : Int} (hy : a.eval y = .agg (lC (.slice A n c) ms mc ps pc base got age)) (hsz : cs.size = 8)
    (h : ∀ w', Hid (Kn b0 w0 w' (L.set i (g, 27, lC (.slice A n c) ms mc ps pc base got age)) R) → Hid (w'.heap.size = w.heap.size) → wpList Try.prog ops Q rest (a.put o.dst undef) w') : wpList Try.prog ops Q (o :: rest) a w :=
  wpList_plain hgd fun _ hK => kwp_sl HK i x y ho hL hx hy hsz fun w' h1 h2 => hK _ _ (h w' h1 h2)
theorem step_ksl {K : Act → World → Prop} {E : Prop} (HK : Hid (Kn b0 w0 w L R)) (i : Nat) (hgd : o.guard = none) (x y : Operand) (ho : o.op = .store 27 x y) {g : Nat} {cs : Array Value} (hL : L[i]? = some (g, 27, cs)) (hx : a.eval x = .pointer (some ⟨g, 0, none⟩))
    {A : Option Addr} {n c : Nat} {ms mc ps pc base got age : Int} (hy : a.eval y = .agg (lC (.slice A n c) ms mc ps pc base got age)) (hsz : cs.size = 8)
    (h : ∀ w', Hid (Kn b0 w0 w' (L.set i (g, 27, lC (.slice A n c) ms mc ps pc base got age)) R) → Hid (w'.heap.size = w.heap.size) → K (a.put o.dst undef) w') : if Region.wanted o (yielded ops a.tmps) = true then Oper.wp Try.prog o a w K Q else E := by
  rw [if_pos (by simp [Region.wanted, hgd])]
  exact kwp_sl HK i x y ho hL hx hy hsz h
theorem kwp_sp {K : Act → World → Prop} (HK : Hid (Kn b0 w0 w L R)) (i : Nat) (x y : Operand) (ho : o.op = .store 36 x y) {g : Nat} {cs : Array Value} (hL : L[i]? = some (g, 36, cs)) (hx : a.eval x = .pointer (some ⟨g, 0, none⟩))
    {fs fc ts tc seq ack : Int} {body : ByteArray} (hy : a.eval y = .agg (pC fs fc ts tc seq ack body)) (hsz : cs.size = 7)
    (h : ∀ w', Hid (Kn b0 w0 w' (L.set i (g, 36, pC fs fc ts tc seq ack body)) R) → Hid (w'.heap.size = w.heap.size) → K (a.put o.dst undef) w') : o.wp Try.prog a w K Q := by
  refine kwp_ss HK _ x y ho i hL hx hy (by rw [hsz]; exact Nat.le_refl 7) info_pC (pC_one _ _ _ _ _ _ _) fun w' h1 h2 => h w' ?_ h2
  have : putCells cs 0 (pC fs fc ts tc seq ack body).toList = pC fs fc ts tc seq ack body := by
    rw [putCells_all (by rw [hsz]; rfl), Array.toArray_toList]
  rw [this] at h1
  exact h1
theorem wpList_ksp (HK : Hid (Kn b0 w0 w L R)) (i : Nat) (hgd : o.guard = none) (x y : Operand) (ho : o.op = .store 36 x y) {g : Nat} {cs : Array Value} (hL : L[i]? = some (g, 36, cs)) (hx : a.eval x = .pointer (some ⟨g, 0, none⟩))
    {fs fc ts tc seq ack : Int} {body : ByteArray} (hy : a.eval y = .agg (pC fs fc ts tc seq ack body)) (hsz : cs.size = 7)
    (h : ∀ w', Hid (Kn b0 w0 w' (L.set i (g, 36, pC fs fc ts tc seq ack body)) R) → Hid (w'.heap.size = w.heap.size) → wpList Try.prog ops Q rest (a.put o.dst undef) w') : wpList Try.prog ops Q (o :: rest) a w :=
  wpList_plain hgd fun _ hK => kwp_sp HK i x y ho hL hx hy hsz fun w' h1 h2 => hK _ _ (h w' h1 h2)
theorem step_ksp {K : Act → World → Prop} {E : Prop} (HK : Hid (Kn b0 w0 w L R)) (i : Nat) (hgd : o.guard = none) (x y : Operand) (ho : o.op = .store 36 x y) {g : Nat} {cs : Array Value} (hL : L[i]? = some (g, 36, cs)) (hx : a.eval x = .pointer (some ⟨g, 0, none⟩))
    {fs fc ts tc seq ack : Int} {body : ByteArray} (hy : a.eval y = .agg (pC fs fc ts tc seq ack body)) (hsz : cs.size = 7)
    (h : ∀ w', Hid (Kn b0 w0 w' (L.set i (g, 36, pC fs fc ts tc seq ack body)) R) → Hid (w'.heap.size = w.heap.size) → K (a.put o.dst undef) w') : if Region.wanted o (yielded ops a.tmps) = true then Oper.wp Try.prog o a w K Q else E := by
  rw [if_pos (by simp [Region.wanted, hgd])]
  exact kwp_sp HK i x y ho hL hx hy hsz h
/-- A number, a slice into an end's cell. -/
theorem info_int1 : (Try.prog.info? 3).map (·.size) = some 1 := by kernel_rfl
theorem info_strs1 : (Try.prog.info? 25).map (·.size) = some 1 := by kernel_rfl
theorem wpList_kn (HK : Hid (Kn b0 w0 w L R)) (i : Nat) (hgd : o.guard = none) (x y : Operand) (ho : o.op = .store 3 x y) {g off : Nat} {t : TypeId} {cs : Array Value} (hL : L[i]? = some (g, t, cs)) (hx : a.eval x = .pointer (some ⟨g, off, none⟩)) {n : Int} (hy : a.eval y = .int .i64 n) (cs' : Array Value) (hsz : Nat.ble (off + 1) cs.size = true) (hcs : cs.setIfInBounds off (.int .i64 n) = cs')
    (h : ∀ w', Hid (Kn b0 w0 w' (L.set i (g, t, cs')) R) → Hid (w'.heap.size = w.heap.size) → wpList Try.prog ops Q rest (a.put o.dst undef) w') : wpList Try.prog ops Q (o :: rest) a w := by
  subst hcs
  exact wpList_sc HK i hgd _ x y ho hL hx hy rfl rfl (Nat.le_of_ble_eq_true hsz) info_int1 h
theorem wpList_kv (HK : Hid (Kn b0 w0 w L R)) (i : Nat) (hgd : o.guard = none) (x y : Operand) (ho : o.op = .store 25 x y) {g off : Nat} {t : TypeId} {cs : Array Value} (hL : L[i]? = some (g, t, cs)) (hx : a.eval x = .pointer (some ⟨g, off, none⟩)) {A : Option Addr} {n c : Nat} (hy : a.eval y = .slice A n c) (cs' : Array Value) (hsz : Nat.ble (off + 1) cs.size = true) (hcs : cs.setIfInBounds off (.slice A n c) = cs')
    (h : ∀ w', Hid (Kn b0 w0 w' (L.set i (g, t, cs')) R) → Hid (w'.heap.size = w.heap.size) → wpList Try.prog ops Q rest (a.put o.dst undef) w') : wpList Try.prog ops Q (o :: rest) a w := by
  subst hcs
  exact wpList_sc HK i hgd _ x y ho hL hx hy rfl rfl (Nat.le_of_ble_eq_true hsz) info_strs1 h
theorem kexec_ci (HK : Hid (Kn b0 w0 w L R)) (i : Nat) (x : Operand) (ho : o.op = .load 3 x) {g off : Nat} {t : TypeId} {cs : Array Value} (hL : L[i]? = some (g, t, cs)) (hx : a.eval x = .pointer (some ⟨g, off, none⟩)) {n : Int} (hv : cs[off]? = some (.int .i64 n)) :
    (execOp a.eval o).run Try.prog w = .ok (.value (.int .i64 n)) w := kexec_lc HK _ x ho i hL hx hv Try.underlying3 rfl
theorem kexec_cv (HK : Hid (Kn b0 w0 w L R)) (i : Nat) (x : Operand) (ho : o.op = .load 25 x) {g off : Nat} {t : TypeId} {cs : Array Value} (hL : L[i]? = some (g, t, cs)) (hx : a.eval x = .pointer (some ⟨g, off, none⟩)) {A : Option Addr} {n c : Nat} (hv : cs[off]? = some (.slice A n c)) :
    (execOp a.eval o).run Try.prog w = .ok (.value (.slice A n c)) w := kexec_lc HK _ x ho i hL hx hv Try.underlying25 rfl
theorem kexec_cs (HK : Hid (Kn b0 w0 w L R)) (i : Nat) (x : Operand) (ho : o.op = .load 9 x) {g off : Nat} {t : TypeId} {cs : Array Value} (hL : L[i]? = some (g, t, cs)) (hx : a.eval x = .pointer (some ⟨g, off, none⟩)) {s : ByteArray} (hv : cs[off]? = some (.string s)) :
    (execOp a.eval o).run Try.prog w = .ok (.value (.string s)) w := kexec_lc HK _ x ho i hL hx hv Try.underlying9 rfl
theorem wpList_kci (HK : Hid (Kn b0 w0 w L R)) (i : Nat) (hw : Region.wanted o (yielded ops a.tmps) = true) (x : Operand) (ho : o.op = .load 3 x) {g off : Nat} {t : TypeId} {cs : Array Value} (hL : L[i]? = some (g, t, cs)) (hx : a.eval x = .pointer (some ⟨g, off, none⟩)) {n : Int} (hv : cs[off]? = some (.int .i64 n))
    (h : wpList Try.prog ops Q rest (a.put o.dst (.int .i64 n)) w) : wpList Try.prog ops Q (o :: rest) a w := wpList_of_exec hw (kexec_lc HK _ x ho i hL hx hv Try.underlying3 rfl) h
theorem wpList_kcv (HK : Hid (Kn b0 w0 w L R)) (i : Nat) (hw : Region.wanted o (yielded ops a.tmps) = true) (x : Operand) (ho : o.op = .load 25 x) {g off : Nat} {t : TypeId} {cs : Array Value} (hL : L[i]? = some (g, t, cs)) (hx : a.eval x = .pointer (some ⟨g, off, none⟩)) {A : Option Addr} {n c : Nat} (hv : cs[off]? = some (.slice A n c))
    (h : wpList Try.prog ops Q rest (a.put o.dst (.slice A n c)) w) : wpList Try.prog ops Q (o :: rest) a w := wpList_of_exec hw (kexec_lc HK _ x ho i hL hx hv Try.underlying25 rfl) h
theorem info_idC : (Try.prog.info? 23).map (·.size) = some 2 := by kernel_rfl
theorem wpList_ki (HK : Hid (Kn b0 w0 w L R)) (i : Nat) (hw : Region.wanted o (yielded ops a.tmps) = true) (x : Operand) (ho : o.op = .load 23 x) {g off : Nat} {t : TypeId} {cs : Array Value} (hL : L[i]? = some (g, t, cs)) (hx : a.eval x = .pointer (some ⟨g, off, none⟩)) {n m : Int} (hv : cs[off]? = some (.int .i64 n)) (hv1 : cs[off + 1]? = some (.int .i64 m))
    (h : wpList Try.prog ops Q rest (a.put o.dst (.agg #[.int .i64 n, .int .i64 m])) w) : wpList Try.prog ops Q (o :: rest) a w :=
  wpList_of_exec hw (kexec_ls HK _ x ho i hL hx #[.int .i64 n, .int .i64 m] (fun j hj => by
    match j, hj with
    | 0, _ => exact hv
    | 1, _ => exact hv1) Try.underlying23 info_idC) h
theorem wpList_k3 (HK : Hid (Kn b0 w0 w L R)) (i : Nat) (hgd : o.guard = none) (x y : Operand) (ho : o.op = .store 3 x y) {g : Nat} {v : Value} {ms mc ps pc base got age : Int} (hx : a.eval x = .pointer (some ⟨g, 3, none⟩)) (hL : L[i]? = some (g, 27, lC v ms mc ps pc base got age)) {n : Int} (hy : a.eval y = .int .i64 n)
    (h : ∀ w', Hid (Kn b0 w0 w' (L.set i (g, 27, lC v ms mc ps n base got age)) R) → Hid (w'.heap.size = w.heap.size) → wpList Try.prog ops Q rest (a.put o.dst undef) w') : wpList Try.prog ops Q (o :: rest) a w :=
  wpList_kn HK i hgd x y ho hL hx hy _ rfl rfl h
theorem wpList_k5 (HK : Hid (Kn b0 w0 w L R)) (i : Nat) (hgd : o.guard = none) (x y : Operand) (ho : o.op = .store 3 x y) {g : Nat} {v : Value} {ms mc ps pc base got age : Int} (hx : a.eval x = .pointer (some ⟨g, 5, none⟩)) (hL : L[i]? = some (g, 27, lC v ms mc ps pc base got age)) {n : Int} (hy : a.eval y = .int .i64 n)
    (h : ∀ w', Hid (Kn b0 w0 w' (L.set i (g, 27, lC v ms mc ps pc n got age)) R) → Hid (w'.heap.size = w.heap.size) → wpList Try.prog ops Q rest (a.put o.dst undef) w') : wpList Try.prog ops Q (o :: rest) a w :=
  wpList_kn HK i hgd x y ho hL hx hy _ rfl rfl h
theorem wpList_k6 (HK : Hid (Kn b0 w0 w L R)) (i : Nat) (hgd : o.guard = none) (x y : Operand) (ho : o.op = .store 3 x y) {g : Nat} {v : Value} {ms mc ps pc base got age : Int} (hx : a.eval x = .pointer (some ⟨g, 6, none⟩)) (hL : L[i]? = some (g, 27, lC v ms mc ps pc base got age)) {n : Int} (hy : a.eval y = .int .i64 n)
    (h : ∀ w', Hid (Kn b0 w0 w' (L.set i (g, 27, lC v ms mc ps pc base n age)) R) → Hid (w'.heap.size = w.heap.size) → wpList Try.prog ops Q rest (a.put o.dst undef) w') : wpList Try.prog ops Q (o :: rest) a w :=
  wpList_kn HK i hgd x y ho hL hx hy _ rfl rfl h
theorem wpList_k7 (HK : Hid (Kn b0 w0 w L R)) (i : Nat) (hgd : o.guard = none) (x y : Operand) (ho : o.op = .store 3 x y) {g : Nat} {v : Value} {ms mc ps pc base got age : Int} (hx : a.eval x = .pointer (some ⟨g, 7, none⟩)) (hL : L[i]? = some (g, 27, lC v ms mc ps pc base got age)) {n : Int} (hy : a.eval y = .int .i64 n)
    (h : ∀ w', Hid (Kn b0 w0 w' (L.set i (g, 27, lC v ms mc ps pc base got n)) R) → Hid (w'.heap.size = w.heap.size) → wpList Try.prog ops Q rest (a.put o.dst undef) w') : wpList Try.prog ops Q (o :: rest) a w :=
  wpList_kn HK i hgd x y ho hL hx hy _ rfl rfl h
theorem wpList_k4 (HK : Hid (Kn b0 w0 w L R)) (i : Nat) (hgd : o.guard = none) (x y : Operand) (ho : o.op = .store 25 x y) {g : Nat} {v : Value} {ms mc ps pc base got age : Int} (hx : a.eval x = .pointer (some ⟨g, 4, none⟩)) (hL : L[i]? = some (g, 27, lC v ms mc ps pc base got age)) {A : Option Addr} {n c : Nat} (hy : a.eval y = .slice A n c)
    (h : ∀ w', Hid (Kn b0 w0 w' (L.set i (g, 27, lC (.slice A n c) ms mc ps pc base got age)) R) → Hid (w'.heap.size = w.heap.size) → wpList Try.prog ops Q rest (a.put o.dst undef) w') : wpList Try.prog ops Q (o :: rest) a w :=
  wpList_kv HK i hgd x y ho hL hx hy _ rfl rfl h
theorem step_kll {K : Act → World → Prop} {E : Prop} (HK : Hid (Kn b0 w0 w L R)) (i : Nat) (hgd : o.guard = none) (x : Operand) (ho : o.op = .load 27 x) {g : Nat} {v : Value} {ms mc ps pc base got age : Int} (hL : L[i]? = some (g, 27, lC v ms mc ps pc base got age)) (hx : a.eval x = .pointer (some ⟨g, 0, none⟩))
    (h : K (a.put o.dst (.agg (lC v ms mc ps pc base got age))) w) : if Region.wanted o (yielded ops a.tmps) = true then Oper.wp Try.prog o a w K Q else E := by
  rw [if_pos (by simp [Region.wanted, hgd])]
  unfold Oper.wp
  rw [kexec_ll HK i x ho hL hx, Oper.upon_value]
  exact h
theorem step_klp {K : Act → World → Prop} {E : Prop} (HK : Hid (Kn b0 w0 w L R)) (i : Nat) (hgd : o.guard = none) (x : Operand) (ho : o.op = .load 36 x) {g : Nat} {fs fc ts tc seq ack : Int} {body : ByteArray} (hL : L[i]? = some (g, 36, pC fs fc ts tc seq ack body)) (hx : a.eval x = .pointer (some ⟨g, 0, none⟩))
    (h : K (a.put o.dst (.agg (pC fs fc ts tc seq ack body))) w) : if Region.wanted o (yielded ops a.tmps) = true then Oper.wp Try.prog o a w K Q else E := by
  rw [if_pos (by simp [Region.wanted, hgd])]
  unfold Oper.wp
  rw [kexec_lp HK i x ho hL hx, Oper.upon_value]
  exact h
/-- An end's cells, read. -/
theorem Kn.end (h : Kn b0 w0 w L R) (i : Nat) {g : Nat} {v : Value} {ms mc ps pc base got age : Int} (hi : L[i]? = some (g, 27, lC v ms mc ps pc base got age)) :
    w.cell? ⟨g, 0, none⟩ = some (.int .i64 ms) ∧ w.cell? ⟨g, 1, none⟩ = some (.int .i64 mc) ∧ w.cell? ⟨g, 2, none⟩ = some (.int .i64 ps) ∧ w.cell? ⟨g, 3, none⟩ = some (.int .i64 pc) ∧ w.cell? ⟨g, 4, none⟩ = some v ∧ w.cell? ⟨g, 5, none⟩ = some (.int .i64 base) ∧ w.cell? ⟨g, 6, none⟩ = some (.int .i64 got) ∧ w.cell? ⟨g, 7, none⟩ = some (.int .i64 age) :=
  ⟨h.cell i hi 0 rfl, h.cell i hi 1 rfl, h.cell i hi 2 rfl, h.cell i hi 3 rfl, h.cell i hi 4 rfl, h.cell i hi 5 rfl, h.cell i hi 6 rfl, h.cell i hi 7 rfl⟩
theorem Kn.pkt (h : Kn b0 w0 w L R) (i : Nat) {g : Nat} {fs fc ts tc seq ack : Int} {body : ByteArray} (hi : L[i]? = some (g, 36, pC fs fc ts tc seq ack body)) :
    w.cell? ⟨g, 0, none⟩ = some (.int .i64 fs) ∧ w.cell? ⟨g, 1, none⟩ = some (.int .i64 fc) ∧ w.cell? ⟨g, 2, none⟩ = some (.int .i64 ts) ∧ w.cell? ⟨g, 3, none⟩ = some (.int .i64 tc) ∧ w.cell? ⟨g, 4, none⟩ = some (.int .i64 seq) ∧ w.cell? ⟨g, 5, none⟩ = some (.int .i64 ack) ∧ w.cell? ⟨g, 6, none⟩ = some (.string body) :=
  ⟨h.cell i hi 0 rfl, h.cell i hi 1 rfl, h.cell i hi 2 rfl, h.cell i hi 3 rfl, h.cell i hi 4 rfl, h.cell i hi 5 rfl, h.cell i hi 6 rfl⟩
end
/-- Ways out. -/
theorem load_end {w : World} {g : Nat} {v : Value} {ms mc ps pc base got age : Int} (hb : Blk w g 27 (lC v ms mc ps pc base got age)) : (loadVar 27 ⟨g, 0, none⟩).run Try.prog w = .ok (.agg (lC v ms mc ps pc base got age)) w :=
  run_loadVar_row w g _ _ _ (0, 0) _ hb Try.underlying27 rfl info_lC
theorem load_pkt {w : World} {g : Nat} {fs fc ts tc seq ack : Int} {body : ByteArray} (hb : Blk w g 36 (pC fs fc ts tc seq ack body)) : (loadVar 36 ⟨g, 0, none⟩).run Try.prog w = .ok (.agg (pC fs fc ts tc seq ack body)) w :=
  run_loadVar_row w g _ _ _ (0, 0) _ hb Try.underlying36 rfl info_pC
section
variable {f : Func} {R : Ending → World → Prop} {a : Act} {w : World} {B D : Nat} {v : Value} {ms mc ps pc base got age fs fc ts tc seq ack : Int} {body : ByteArray}
theorem ret_l {k : Tmp} (hf : f.results = #[.cell k 27]) (h2 : a.tmps[k]? = some (.pointer (some ⟨B, 0, none⟩))) (hd : a.defers = []) (hb : Blk w B 27 (lC v ms mc ps pc base got age))
    (hR : R (.returned (.agg (lC v ms mc ps pc base got age))) w) : bodyPost Try.prog f R Exit.ret a w :=
  bodyPost_ret (results_cell_row hf a.tmps w B _ _ (0, 0) _ (by simp [h2]) hb Try.underlying27 rfl info_lC) hd hR
theorem ret_k {k : Tmp} (hf : f.results = #[.cell k 36]) (h2 : a.tmps[k]? = some (.pointer (some ⟨B, 0, none⟩))) (hd : a.defers = []) (hb : Blk w B 36 (pC fs fc ts tc seq ack body))
    (hR : R (.returned (.agg (pC fs fc ts tc seq ack body))) w) : bodyPost Try.prog f R Exit.ret a w :=
  bodyPost_ret (results_cell_row hf a.tmps w B _ _ (0, 0) _ (by simp [h2]) hb Try.underlying36 rfl info_pC) hd hR
theorem ret_lk {k j q : Tmp} {u : Value} (hf : f.results = #[.cell k 27, .cell j 36, .tmp q]) (h2 : a.tmps[k]? = some (.pointer (some ⟨B, 0, none⟩))) (h3 : a.tmps[j]? = some (.pointer (some ⟨D, 0, none⟩))) (h4 : a.tmps[q]? = some u) (hd : a.defers = [])
    (hb : Blk w B 27 (lC v ms mc ps pc base got age)) (hm : Blk w D 36 (pC fs fc ts tc seq ack body)) (hR : R (.returned (.tuple #[.agg (lC v ms mc ps pc base got age), .agg (pC fs fc ts tc seq ack body), u])) w) : bodyPost Try.prog f R Exit.ret a w := by
  refine bodyPost_ret (v := .tuple #[.agg (lC v ms mc ps pc base got age), .agg (pC fs fc ts tc seq ack body), u]) ?_ hd hR
  have h := load_end hb
  have h' := load_pkt hm
  simp [results, hf, asAddr, Sem.run_bind, h2, h3, h4, h, h']
theorem ret_ls {k q : Tmp} {u : Value} (hf : f.results = #[.cell k 27, .tmp q]) (h2 : a.tmps[k]? = some (.pointer (some ⟨B, 0, none⟩))) (h4 : a.tmps[q]? = some u) (hd : a.defers = [])
    (hb : Blk w B 27 (lC v ms mc ps pc base got age)) (hR : R (.returned (.tuple #[.agg (lC v ms mc ps pc base got age), u])) w) : bodyPost Try.prog f R Exit.ret a w := by
  refine bodyPost_ret (v := .tuple #[.agg (lC v ms mc ps pc base got age), u]) ?_ hd hR
  have h := load_end hb
  simp [results, hf, asAddr, h2, h4, h]
theorem ret_take {k j q r s : Tmp} {u1 u2 u3 : Value} (hf : f.results = #[.cell k 27, .tmp q, .tmp r, .cell j 36, .tmp s]) (h2 : a.tmps[k]? = some (.pointer (some ⟨B, 0, none⟩))) (h3 : a.tmps[j]? = some (.pointer (some ⟨D, 0, none⟩)))
    (h4 : a.tmps[q]? = some u1) (h5 : a.tmps[r]? = some u2) (h6 : a.tmps[s]? = some u3) (hd : a.defers = [])
    (hb : Blk w B 27 (lC v ms mc ps pc base got age)) (hm : Blk w D 36 (pC fs fc ts tc seq ack body)) (hR : R (.returned (.tuple #[.agg (lC v ms mc ps pc base got age), u1, u2, .agg (pC fs fc ts tc seq ack body), u3])) w) : bodyPost Try.prog f R Exit.ret a w := by
  refine bodyPost_ret (v := .tuple #[.agg (lC v ms mc ps pc base got age), u1, u2, .agg (pC fs fc ts tc seq ack body), u3]) ?_ hd hR
  have h := load_end hb
  have h' := load_pkt hm
  simp [results, hf, asAddr, Sem.run_bind, h2, h3, h4, h5, h6, h, h']
end
end Go.Proofs.Ytamjcghdebjpjaa
