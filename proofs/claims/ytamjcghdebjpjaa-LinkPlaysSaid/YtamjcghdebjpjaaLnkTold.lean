/-
  What a call has told: its cells; loads and stores of it, and of an Op; the ways out of do and ref.
  No condition but those named.
-/
import Derived.Test.YtamjcghdebjpjaaLnkRef
import Derived.Test.YtamjcghdebjpjaaLOp
namespace Go.Proofs.Ytamjcghdebjpjaa
open Go.RowKit

/-- What a call has told: packets, a payload and whether there is one, an error. -/
def tC (v : Value) (body : ByteArray) (got : Bool) (e : Int) : Array Value := #[v, .string body, .bool got, .int .i64 e]
/-- An Op's cells. -/
def oC (k n : Int) (b : ByteArray) (fs fc ts tc seq ack : Int) (body : ByteArray) : Array Value := #[.int .i64 k, .int .i64 n, .string b, .int .i64 fs, .int .i64 fc, .int .i64 ts, .int .i64 tc, .int .i64 seq, .int .i64 ack, .string body]
theorem info_tC : (Try.prog.info? 32).map (·.size) = some 4 := by kernel_rfl
theorem info_bool1 : (Try.prog.info? 4).map (·.size) = some 1 := by kernel_rfl
theorem info_str1 : (Try.prog.info? 9).map (·.size) = some 1 := by kernel_rfl
theorem info_err1 : (Try.prog.info? 30).map (·.size) = some 1 := by kernel_rfl
theorem info_pkts1 : (Try.prog.info? 29).map (·.size) = some 1 := by kernel_rfl
theorem tC_one (A : Option Addr) (n c : Nat) (body : ByteArray) (got : Bool) (e : Int) : (tC (.slice A n c) body got e).all (·.oneCell') = true := by simp [tC, Value.oneCell']
section
variable {b0 : Nat} {w0 w : World} {L : List (Nat × TypeId × Array Value)} {R : List RowE} {ops : Array Oper} {rest : List Oper} {o : Oper} {a : Act} {Q : Exit → Act → World → Prop}
theorem wpList_kcs (HK : Hid (Kn b0 w0 w L R)) (i : Nat) (hw : Region.wanted o (yielded ops a.tmps) = true) (x : Operand) (ho : o.op = .load 9 x) {g off : Nat} {t : TypeId} {cs : Array Value} (hL : L[i]? = some (g, t, cs)) (hx : a.eval x = .pointer (some ⟨g, off, none⟩)) {s : ByteArray} (hv : cs[off]? = some (.string s))
    (h : wpList Try.prog ops Q rest (a.put o.dst (.string s)) w) : wpList Try.prog ops Q (o :: rest) a w := wpList_of_exec hw (kexec_cs HK i x ho hL hx hv) h
theorem wpList_klpx (HK : Hid (Kn b0 w0 w L R)) (i : Nat) (hgd : o.guard = none) (x : Operand) (ho : o.op = .load 36 x) {g : Nat} {fs fc ts tc seq ack : Int} {body : ByteArray} (hL : L[i]? = some (g, 36, pC fs fc ts tc seq ack body)) (hx : a.eval x = .pointer (some ⟨g, 0, none⟩))
    (h : wpList Try.prog ops Q rest (a.put o.dst (.agg #[.int .i64 fs, .int .i64 fc, .int .i64 ts, .int .i64 tc, .int .i64 seq, .int .i64 ack, .string body])) w) : wpList Try.prog ops Q (o :: rest) a w := wpList_klp HK i hgd x ho hL hx h
/-- The packet inside an Op. -/
theorem wpList_kop (HK : Hid (Kn b0 w0 w L R)) (i : Nat) (hgd : o.guard = none) (x : Operand) (ho : o.op = .load 36 x) {g : Nat} {k n : Int} {b : ByteArray} {fs fc ts tc seq ack : Int} {body : ByteArray} (hL : L[i]? = some (g, 38, oC k n b fs fc ts tc seq ack body)) (hx : a.eval x = .pointer (some ⟨g, 3, none⟩))
    (h : wpList Try.prog ops Q rest (a.put o.dst (.agg (pC fs fc ts tc seq ack body))) w) : wpList Try.prog ops Q (o :: rest) a w :=
  wpList_of_exec (by simp [Region.wanted, hgd]) (kexec_ls HK _ x ho i hL hx (pC fs fc ts tc seq ack body) (fun j hj => by
    match j, hj with
    | 0, _ => rfl
    | 1, _ => rfl
    | 2, _ => rfl
    | 3, _ => rfl
    | 4, _ => rfl
    | 5, _ => rfl
    | 6, _ => rfl) Try.underlying36 info_pC) h
theorem kexec_lt (HK : Hid (Kn b0 w0 w L R)) (i : Nat) (x : Operand) (ho : o.op = .load 32 x) {g : Nat} {v : Value} {body : ByteArray} {got : Bool} {e : Int} (hL : L[i]? = some (g, 32, tC v body got e)) (hx : a.eval x = .pointer (some ⟨g, 0, none⟩)) :
    (execOp a.eval o).run Try.prog w = .ok (.value (.agg (tC v body got e))) w :=
  kexec_ls HK _ x ho i hL hx _ (fun j _ => by rw [Nat.zero_add]) Try.underlying32 info_tC
theorem step_klt {K : Act → World → Prop} {E : Prop} (HK : Hid (Kn b0 w0 w L R)) (i : Nat) (hgd : o.guard = none) (x : Operand) (ho : o.op = .load 32 x) {g : Nat} {v : Value} {body : ByteArray} {got : Bool} {e : Int} (hL : L[i]? = some (g, 32, tC v body got e)) (hx : a.eval x = .pointer (some ⟨g, 0, none⟩))
    (h : K (a.put o.dst (.agg (tC v body got e))) w) : if Region.wanted o (yielded ops a.tmps) = true then Oper.wp Try.prog o a w K Q else E := by
  rw [if_pos (by simp [Region.wanted, hgd])]
  unfold Oper.wp
  rw [kexec_lt HK i x ho hL hx, Oper.upon_value]
  exact h
theorem step_kst {K : Act → World → Prop} {E : Prop} (HK : Hid (Kn b0 w0 w L R)) (i : Nat) (hgd : o.guard = none) (x y : Operand) (ho : o.op = .store 32 x y) {g : Nat} {cs : Array Value} (hL : L[i]? = some (g, 32, cs)) (hx : a.eval x = .pointer (some ⟨g, 0, none⟩))
    {A : Option Addr} {n c : Nat} {body : ByteArray} {got : Bool} {e : Int} (hy : a.eval y = .agg (tC (.slice A n c) body got e)) (hsz : cs.size = 4)
    (h : ∀ w', Hid (Kn b0 w0 w' (L.set i (g, 32, tC (.slice A n c) body got e)) R) → Hid (w'.heap.size = w.heap.size) → K (a.put o.dst undef) w') : if Region.wanted o (yielded ops a.tmps) = true then Oper.wp Try.prog o a w K Q else E := by
  rw [if_pos (by simp [Region.wanted, hgd])]
  refine kwp_ss HK _ x y ho i hL hx hy (by rw [hsz]; exact Nat.le_refl 4) info_tC (tC_one _ _ _ _ _ _) fun w' h1 h2 => h w' ?_ h2
  have : putCells cs 0 (tC (.slice A n c) body got e).toList = tC (.slice A n c) body got e := by
    rw [putCells_all (by rw [hsz]; rfl), Array.toArray_toList]
  rw [this] at h1
  exact h1
/-- What a call has told, cell by cell. -/
theorem wpList_t0 (HK : Hid (Kn b0 w0 w L R)) (i : Nat) (hgd : o.guard = none) (x y : Operand) (ho : o.op = .store 29 x y) {g : Nat} {v : Value} {body : ByteArray} {got : Bool} {e : Int} (hx : a.eval x = .pointer (some ⟨g, 0, none⟩)) (hL : L[i]? = some (g, 32, tC v body got e)) {A : Option Addr} {n c : Nat} (hy : a.eval y = .slice A n c)
    (h : ∀ w', Hid (Kn b0 w0 w' (L.set i (g, 32, tC (.slice A n c) body got e)) R) → Hid (w'.heap.size = w.heap.size) → wpList Try.prog ops Q rest (a.put o.dst undef) w') : wpList Try.prog ops Q (o :: rest) a w :=
  wpList_sc HK i hgd _ x y ho hL hx hy rfl rfl (Nat.le_of_ble_eq_true rfl) info_pkts1 h
theorem wpList_t1 (HK : Hid (Kn b0 w0 w L R)) (i : Nat) (hgd : o.guard = none) (x y : Operand) (ho : o.op = .store 9 x y) {g : Nat} {v : Value} {body : ByteArray} {got : Bool} {e : Int} (hx : a.eval x = .pointer (some ⟨g, 1, none⟩)) (hL : L[i]? = some (g, 32, tC v body got e)) {s : ByteArray} (hy : a.eval y = .string s)
    (h : ∀ w', Hid (Kn b0 w0 w' (L.set i (g, 32, tC v s got e)) R) → Hid (w'.heap.size = w.heap.size) → wpList Try.prog ops Q rest (a.put o.dst undef) w') : wpList Try.prog ops Q (o :: rest) a w :=
  wpList_sc HK i hgd _ x y ho hL hx hy rfl rfl (Nat.le_of_ble_eq_true rfl) info_str1 h
theorem wpList_t2 (HK : Hid (Kn b0 w0 w L R)) (i : Nat) (hgd : o.guard = none) (x y : Operand) (ho : o.op = .store 4 x y) {g : Nat} {v : Value} {body : ByteArray} {got : Bool} {e : Int} (hx : a.eval x = .pointer (some ⟨g, 2, none⟩)) (hL : L[i]? = some (g, 32, tC v body got e)) {s : Bool} (hy : a.eval y = .bool s)
    (h : ∀ w', Hid (Kn b0 w0 w' (L.set i (g, 32, tC v body s e)) R) → Hid (w'.heap.size = w.heap.size) → wpList Try.prog ops Q rest (a.put o.dst undef) w') : wpList Try.prog ops Q (o :: rest) a w :=
  wpList_sc HK i hgd _ x y ho hL hx hy rfl rfl (Nat.le_of_ble_eq_true rfl) info_bool1 h
theorem wpList_t3 (HK : Hid (Kn b0 w0 w L R)) (i : Nat) (hgd : o.guard = none) (x y : Operand) (ho : o.op = .store 30 x y) {g : Nat} {v : Value} {body : ByteArray} {got : Bool} {e : Int} (hx : a.eval x = .pointer (some ⟨g, 3, none⟩)) (hL : L[i]? = some (g, 32, tC v body got e)) {s : Int} (hy : a.eval y = .int .i64 s)
    (h : ∀ w', Hid (Kn b0 w0 w' (L.set i (g, 32, tC v body got s)) R) → Hid (w'.heap.size = w.heap.size) → wpList Try.prog ops Q rest (a.put o.dst undef) w') : wpList Try.prog ops Q (o :: rest) a w :=
  wpList_sc HK i hgd _ x y ho hL hx hy rfl rfl (Nat.le_of_ble_eq_true rfl) info_err1 h
end
theorem load_told {w : World} {g : Nat} {v : Value} {body : ByteArray} {got : Bool} {e : Int} (hb : Blk w g 32 (tC v body got e)) : (loadVar 32 ⟨g, 0, none⟩).run Try.prog w = .ok (.agg (tC v body got e)) w :=
  run_loadVar_row w g _ _ _ (0, 0) _ hb Try.underlying32 rfl info_tC
theorem ret_lt {f : Func} {R : Ending → World → Prop} {a : Act} {w : World} {B D : Nat} {v u : Value} {ms mc ps pc base got age : Int} {body : ByteArray} {gt : Bool} {e : Int} {k j : Tmp} (hf : f.results = #[.cell k 27, .cell j 32]) (h2 : a.tmps[k]? = some (.pointer (some ⟨B, 0, none⟩))) (h3 : a.tmps[j]? = some (.pointer (some ⟨D, 0, none⟩))) (hd : a.defers = [])
    (hb : Blk w B 27 (lC v ms mc ps pc base got age)) (hm : Blk w D 32 (tC u body gt e)) (hR : R (.returned (.tuple #[.agg (lC v ms mc ps pc base got age), .agg (tC u body gt e)])) w) : bodyPost Try.prog f R Exit.ret a w := by
  refine bodyPost_ret (v := .tuple #[.agg (lC v ms mc ps pc base got age), .agg (tC u body gt e)]) ?_ hd hR
  have h := load_end hb
  have h' := load_told hm
  simp [results, hf, asAddr, Sem.run_bind, h2, h3, h, h']
end Go.Proofs.Ytamjcghdebjpjaa
