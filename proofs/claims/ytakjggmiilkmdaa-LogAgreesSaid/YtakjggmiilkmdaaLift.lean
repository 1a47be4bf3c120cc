/-
  From what a walk gives to the row's step, for every law of the template 'it returns true and each argument reads as it did', whatever its parameters are.
  The walk's side: it returns true, and below the heap's old size the world is as it was.
-/
import Derived.SizedLaws
import Derived.Deep.CondSized
import Derived.Below
import Derived.Carry
import Derived.ChangeOld
import Derived.ProofKit
import Derived.WalkKit
import Derived.Deep.Draws
import Derived.OpenShut
import Derived.ShutString
namespace Go.Proofs.Ytakjggmiilkmdaa.Lift
open Go.ChangeShapes Go.WideShapes Go.ChangeAt Go.RowKit

section
variable {H : Type} {enc : TypeId × Value → H} {P : Program}

/-- The law's answer, whatever came in. -/
def Fits (s : ChangeSpec) (n : Nat) : Prop :=
  ∀ (H : Type) (ds : List (DataW H)), ds.length = n → s.fn H ds = { results := [.lit (.bool true)], args := ds }

theorem trodAll_below (hl : laidOutB P = true) {W W' : World} (hb : Below W.heap.size W W') :
    ∀ (ts : List TypeId), (ts.all fun t => P.readableRec t && decide (t < P.types.size)) = true → ∀ (vs : List Value) (ds : List (DataW H)) (ps : List MemPlace),
      DataW.TrodAll enc P W 0 (fun _ => true) true ts vs ds ps → DataW.TrodAll enc P W' 0 (fun b => decide (b < W.heap.size)) true ts vs ds ps
  | [], _, vs, ds, ps, h => by
    obtain ⟨rfl, rfl, rfl⟩ := trodAll_nil h
    exact rfl
  | t :: ts, ha, vs, ds, ps, h => by
    obtain ⟨v, vs', d, ds', p, q, rfl, rfl, rfl, h0, hr⟩ := trodAll_cons h
    simp only [List.all_cons, Bool.and_eq_true, decide_eq_true_eq] at ha
    have lt : ∀ x ∈ p, x.block < W.heap.size := by obtain ⟨m, hm⟩ := h0; exact DataW.trod_lt m _ _ _ hm
    exact trodAll_cons_mk (Below.trod hl ha.1.1 ha.1.2 h0 hb lt) (trodAll_below hl hb ts (by simpa using ha.2) _ _ _ hr)

theorem trodAll_length {W : World} : ∀ (ts : List TypeId) (vs : List Value) (ds : List (DataW H)) (ps : List MemPlace),
    DataW.TrodAll enc P W 0 (fun _ => true) true ts vs ds ps → ds.length = ts.length
  | [], vs, ds, ps, h => by obtain ⟨rfl, rfl, rfl⟩ := trodAll_nil h; rfl
  | t :: ts, vs, ds, ps, h => by
    obtain ⟨v, vs', d, ds', p, q, rfl, rfl, rfl, h0, hr⟩ := trodAll_cons h
    simp [trodAll_length ts _ _ _ hr]

theorem post_law {fn : Func} {s : ChangeSpec} (hl : laidOutB P = true) (hf : Fits s fn.params.size) (hv : s.vars = []) {tb : TypeId} (hres : fn.resultTypes = #[tb]) (hb : P.underlying tb = some .bool)
    (hread : (fn.params.toList.all fun t => P.readableRec t && decide (t < P.types.size)) = true)
    {W W' : World} {args : Array Value} {ds gs : List (DataW H)} {before : List MemPlace} (hW : DataW.Whole enc P fn.params.toList s.vars false W args.toList ds gs before) (bel : Below W.heap.size W W') :
    s.post enc P fn false true false false W args (.bool true) W' := by
  have hW' := hW
  obtain ⟨p, q, hA, hV, rfl, hfz, hnd⟩ := hW
  have hV' : DataW.TrodVars enc P W (fun _ => true) [] gs q := by rw [← hv]; exact hV
  obtain ⟨rfl, rfl⟩ := trodVars_none hV'
  have hn : ds.length = fn.params.size := by simpa using trodAll_length _ _ _ _ hA
  have hs : s.fn H (ds ++ []) = { results := [.lit (.bool true)], args := ds } := by rw [List.append_nil]; exact hf H ds hn
  refine ⟨ds, [], p ++ [], [], p, [], hW', ?_, ?_, ?_, bel.frame _, fun h => by cases h⟩
  · rw [hs, hres]
    exact trodAll_mk1 (shut_bool hb _)
  · rw [hs]
    exact trodAll_below hl bel _ hread _ _ _ hA
  · rw [hs, hv]
    exact rfl
end

/-- What the contract is handed of the arguments. -/
def Given {H : Type} (enc : TypeId × Value → H) (P : Program) (ts : List TypeId) (W : World) (base : Nat) (args : List Value) (ds : List (DataW H)) (before : List MemPlace) : Prop :=
  DataW.TrodAll enc P W 0 (fun _ => true) true ts args ds before ∧
  (∀ (j : Nat) t v, ts[j]? = some t → args[j]? = some v → Value.okWide P W .any base t v) ∧
  W.noneFrozen before ∧ (DataW.weightsEach P ts ds).all (· ≤ reachBytes) = true

/-- What the walk gives. -/
def Yes (P : Program) (f : FuncId) (args : Array Value) (W : World) : Prop :=
  Calls P f args W fun e W' => e = .returned (.bool true) ∧ Below W.heap.size W W'

theorem law {C : Checked} {os : Os} {f : FuncId} {fn : Func} {s : ChangeSpec} {conds : List PathCond} {H : Type} {enc : TypeId × Value → H}
    (own : ownKnob C.prog.godebug = none) (started : os.Started) (noInit : C.prog.inits.idxOf? f = none) (hfn : C.prog.funcs[f]? = some fn)
    (hl : laidOutB C.prog = true) (hf : Fits s fn.params.size) (hv : s.vars = []) {tb : TypeId} (hres : fn.resultTypes = #[tb]) (hb : C.prog.underlying tb = some .bool)
    (hread : (fn.params.toList.all fun t => C.prog.readableRec t && decide (t < C.prog.types.size)) = true)
    (witness : ∃ (w : World) (tape : Tape) (i : Input), w.os = os ∧ (w.forCall tape i).Shaped C.prog ∧ i.vars = [] ∧ Input.okWide C.prog (w.forCall tape i) .any w.heap.size f i ∧
      s.pre6 enc C.prog fn conds false (w.forCall tape i).memory i.args ∧ ({} : Assume).holds C.prog (lone (Frame.enter C.prog f i.args .normal) [] (w.forCall tape i)))
    (contract : ∀ (W : World) (base : Nat) (args : Array Value) (ds : List (DataW H)) (before : List MemPlace),
      Given enc C.prog fn.params.toList W base args.toList ds before → Yes C.prog f args W) :
    ReturnsInHanded {} C os f .any (s.pre6 enc C.prog fn conds false) (s.post enc C.prog fn false true false false) := by
  refine returnsInHanded_of_change_sized own started noInit hfn witness ?_
  intro W base args ds gs before hval hW _ hsz _
  have hW' := hW
  obtain ⟨p, q, hA, hV, rfl, hfz, hnd⟩ := hW
  have hV' : DataW.TrodVars enc C.prog W (fun _ => true) [] gs q := by rw [← hv]; exact hV
  obtain ⟨rfl, rfl⟩ := trodVars_none hV'
  have hpv : s.plain.varTypes C.prog = [] := by
    unfold ChangeSpec.plain
    rw [hv]
    rfl
  rw [hpv, List.append_nil, List.append_nil] at hsz
  rw [List.append_nil] at hfz
  refine (contract W base args ds p ⟨hA, fun j t v ht hv => hval j t v (by simpa using ht) (by simpa using hv), hfz, hsz⟩).mono fun e W' ⟨he, bel⟩ => ?_
  exact ⟨_, he, post_law hl hf hv hres hb hread hW' bel⟩

theorem lawUpto {C : Checked} {os : Os} {f : FuncId} {fn : Func} {s : ChangeSpec} {k : (H : Type) → List (DataW H) → Bool} {conds : List PathCond} {H : Type} {enc : TypeId × Value → H} (F : Stop.Interp)
    (own : ownKnob C.prog.godebug = none) (started : os.Started) (noInit : C.prog.inits.idxOf? f = none) (hfn : C.prog.funcs[f]? = some fn)
    (hl : laidOutB C.prog = true) (hf : Fits s fn.params.size) (hv : s.vars = []) {tb : TypeId} (hres : fn.resultTypes = #[tb]) (hb : C.prog.underlying tb = some .bool)
    (hread : (fn.params.toList.all fun t => C.prog.readableRec t && decide (t < C.prog.types.size)) = true)
    (witness : ∃ (w : World) (tape : Tape) (i : Input), w.os = os ∧ (w.forCall tape i).Shaped C.prog ∧ i.vars = [] ∧ Input.okWide C.prog (w.forCall tape i) .any w.heap.size f i ∧
      ({ OpenSpec.ofChange s with cond := some k } : OpenSpec).pre6 enc C.prog fn conds false (w.forCall tape i).memory i.args ∧ ({} : Assume).holds C.prog (lone (Frame.enter C.prog f i.args .normal) [] (w.forCall tape i)))
    (contract : ∀ (W : World) (base : Nat) (args : Array Value) (ds : List (DataW H)) (before : List MemPlace),
      Given enc C.prog fn.params.toList W base args.toList ds before → k H ds = true → Yes C.prog f args W) :
    ReturnsInHanded {} C os f .any (({ OpenSpec.ofChange s with cond := some k } : OpenSpec).pre6 enc C.prog fn conds false) (((({ OpenSpec.ofChange s with cond := some k } : OpenSpec).at F)).post enc C.prog fn false true false false) := by
  refine returnsInHanded_of_cond_sized (k := k) rfl own started noInit hfn witness ?_
  intro W base args ds gs before hval hW _ hk hsz _
  have hW' := hW
  obtain ⟨p, q, hA, hV, rfl, hfz, hnd⟩ := hW
  have hV' : DataW.TrodVars enc C.prog W (fun _ => true) [] gs q := by rw [← hv]; exact hV
  obtain ⟨rfl, rfl⟩ := trodVars_none hV'
  have hpv : ({ OpenSpec.ofChange s with cond := some k } : OpenSpec).bare.plain.varTypes C.prog = [] := by
    show DataSpec.varTypes _ _ = []
    unfold ChangeSpec.plain DataSpec.varTypes
    show List.filterMap _ s.vars = []
    rw [hv]
    rfl
  rw [hpv, List.append_nil, List.append_nil] at hsz
  rw [List.append_nil] at hfz hk
  refine (contract W base args ds p ⟨hA, fun j t v ht hv => hval j t v (by simpa using ht) (by simpa using hv), hfz, hsz⟩ hk).mono fun e W' ⟨he, bel⟩ => ?_
  exact ⟨_, he, post_law (s := s) hl hf hv hres hb hread hW' bel⟩

section
variable {H : Type} {enc : TypeId × Value → H} {P : Program} {W : World} {base : Nat}

/-- The first argument, and the rest. -/
theorem Given.cons {t : TypeId} {ts : List TypeId} {args : List Value} {ds : List (DataW H)} {before : List MemPlace} (h : Given enc P (t :: ts) W base args ds before) :
    ∃ v vs d ds' p q, args = v :: vs ∧ ds = d :: ds' ∧ before = p ++ q ∧ DataW.Trod enc P W 0 (fun _ => true) true t v d p ∧ Value.okWide P W .any base t v ∧ W.noneFrozen p ∧
      (d.weights P t).all (· ≤ reachBytes) = true ∧ Given enc P ts W base vs ds' q := by
  obtain ⟨h1, h2, h3, h4⟩ := h
  obtain ⟨v, vs, d, ds', p, q, rfl, rfl, rfl, h0, hr⟩ := trodAll_cons h1
  simp only [DataW.weightsEach, List.all_append, Bool.and_eq_true] at h4
  exact ⟨v, vs, d, ds', p, q, rfl, rfl, rfl, h0, h2 0 t v rfl rfl, fun b o hm => h3 b o (List.mem_append_left _ hm), h4.1,
    hr, fun j t' v' ht hv => h2 (j + 1) t' v' ht hv, fun b o hm => h3 b o (List.mem_append_right _ hm), h4.2⟩

theorem Given.nil {args : List Value} {ds : List (DataW H)} {before : List MemPlace} (h : Given enc P [] W base args ds before) : args = [] ∧ ds = [] := by
  obtain ⟨rfl, rfl, _⟩ := trodAll_nil h.1
  exact ⟨rfl, rfl⟩

theorem Given.str {t : TypeId} {ts : List TypeId} {args : List Value} {ds : List (DataW H)} {before : List MemPlace} (ht : P.underlying t = some .string) (h : Given enc P (t :: ts) W base args ds before) :
    ∃ (s : ByteArray) (vs : List Value) (ds' : List (DataW H)) (q : List MemPlace), args = .string s :: vs ∧ ds = .lit (.string s.data.toList) :: ds' ∧ s.size ≤ reachBytes ∧ Given enc P ts W base vs ds' q := by
  obtain ⟨v, vs, d, ds', p, q, rfl, rfl, rfl, h0, hok, _, hw, hg⟩ := h.cons
  obtain ⟨s, rfl, rfl, rfl, _⟩ := Go.ChangeMaps.open_string ht hok h0
  refine ⟨s, vs, ds', q, rfl, rfl, ?_, hg⟩
  have h2 := List.all_eq_true.1 hw s.data.toList.length (by simp [DataW.weights])
  have h3 := of_decide_eq_true h2
  rwa [Array.length_toList] at h3

theorem Given.int {t : TypeId} {ts : List TypeId} {k : IntKind} {args : List Value} {ds : List (DataW H)} {before : List MemPlace} (ht : P.underlying t = some (.int k)) (h : Given enc P (t :: ts) W base args ds before) :
    ∃ (n : Int) (vs : List Value) (ds' : List (DataW H)) (q : List MemPlace), args = .int k n :: vs ∧ ds = .lit (.int k n) :: ds' ∧ (Lit.int k n).wf = true ∧ Given enc P ts W base vs ds' q := by
  obtain ⟨v, vs, d, ds', p, q, rfl, rfl, rfl, h0, hok, _, _, hg⟩ := h.cons
  obtain ⟨n, rfl, rfl, rfl, hwf⟩ := open_int ht hok h0
  exact ⟨n, vs, ds', q, rfl, rfl, hwf, hg⟩

theorem Given.bool {t : TypeId} {ts : List TypeId} {args : List Value} {ds : List (DataW H)} {before : List MemPlace} (ht : P.underlying t = some .bool) (h : Given enc P (t :: ts) W base args ds before) :
    ∃ (b : Bool) (vs : List Value) (ds' : List (DataW H)) (q : List MemPlace), args = .bool b :: vs ∧ ds = .lit (.bool b) :: ds' ∧ Given enc P ts W base vs ds' q := by
  obtain ⟨v, vs, d, ds', p, q, rfl, rfl, rfl, h0, hok, _, _, hg⟩ := h.cons
  obtain ⟨b, rfl, rfl, rfl⟩ := open_bool ht hok h0
  exact ⟨b, vs, ds', q, rfl, rfl, hg⟩
end

theorem fits1 {s : ChangeSpec} (h : ∀ (H : Type) (a : DataW H), s.fn H [a] = { results := [.lit (.bool true)], args := [a] }) : Fits s 1
  | H, [a], _ => h H a
theorem fits2 {s : ChangeSpec} (h : ∀ (H : Type) (a b : DataW H), s.fn H [a, b] = { results := [.lit (.bool true)], args := [a, b] }) : Fits s 2
  | H, [a, b], _ => h H a b
theorem fits3 {s : ChangeSpec} (h : ∀ (H : Type) (a b c : DataW H), s.fn H [a, b, c] = { results := [.lit (.bool true)], args := [a, b, c] }) : Fits s 3
  | H, [a, b, c], _ => h H a b c
theorem fits4 {s : ChangeSpec} (h : ∀ (H : Type) (a b c d : DataW H), s.fn H [a, b, c, d] = { results := [.lit (.bool true)], args := [a, b, c, d] }) : Fits s 4
  | H, [a, b, c, d], _ => h H a b c d
theorem fits5 {s : ChangeSpec} (h : ∀ (H : Type) (a b c d e : DataW H), s.fn H [a, b, c, d, e] = { results := [.lit (.bool true)], args := [a, b, c, d, e] }) : Fits s 5
  | H, [a, b, c, d, e], _ => h H a b c d e
theorem args_of {args : Array Value} {l : List Value} (h : args.toList = l) : args = l.toArray := by cases args; simp_all

theorem drewN_then {w w1 : World} (h : Below w.heap.size w w1) (n : Nat) : Below w.heap.size w (w1.drewN n) := h.trans ⟨rfl, rfl, rfl, Nat.le_refl _, fun _ _ => rfl⟩
theorem then2 {w w1 w2 : World} (h : Below w.heap.size w w1) (k : Below w1.heap.size w1 w2) : Below w.heap.size w w2 := h.trans (k.mono h.size)
theorem then3 {w w1 w2 w3 : World} (h : Below w.heap.size w w1) (k : Below w1.heap.size w1 w2) (l : Below w2.heap.size w2 w3) : Below w.heap.size w w3 := then2 (then2 h k) l

end Go.Proofs.Ytakjggmiilkmdaa.Lift
