/-
  How a Mail lies: its cells, a slice of them, an argument that is one or a slice of them. (Written by program: wip/gen/lay.py.)
  No condition but the form's own.
-/
import Derived.Test.YtkajnmlglgjocaaLayOpen
import Derived.KernelRfl
namespace Go.Proofs.Ytkajnmlglgjocaa
open Go.ChangeShapes Go.WideShapes Go.Deep Go.RowKit

namespace Pst
structure Mail where
  f : Int
  t : Int
  d : ByteArray
  s : Bool
end Pst
theorem info_mail : (Try.prog.info? 27).map (fun i => (i.zero, i.size, i.bytes)) = some (some (Value.agg #[.int .i64 0, .int .i64 0, .string ⟨#[]⟩, .bool false]), 4, 40) := by kernel_rfl
def mailLay : Lay Try.prog Pst.Mail where
  t := 22
  e := 27
  k := 4
  bytes := 40
  z := .agg #[.int .i64 0, .int .i64 0, .string ⟨#[]⟩, .bool false]
  f := fun x => [.int .i64 x.f, .int .i64 x.t, .string x.d, .bool x.s]
  len := fun _ => rfl
  one := fun x u hu => by
    simp only [List.mem_cons, List.not_mem_nil, or_false] at hu
    rcases hu with rfl | rfl | rfl | rfl <;> rfl
  und := Try.underlying22
  info := info_mail
  zs := rfl
  pos := by decide
  small := by decide
/-- The cells of number i behind an address. -/
theorem at_mail {w : World} {b o i : Nat} {x : Pst.Mail} (h : mailLay.At w b o i x) : w.cell? ⟨b, o + i * 4, none⟩ = some (.int .i64 x.f) ∧ w.cell? ⟨b, o + i * 4 + 1, none⟩ = some (.int .i64 x.t) ∧ w.cell? ⟨b, o + i * 4 + 2, none⟩ = some (.string x.d) ∧ w.cell? ⟨b, o + i * 4 + 3, none⟩ = some (.bool x.s) :=
  ⟨h 0 _ rfl, h 1 _ rfl, h 2 _ rfl, h 3 _ rfl⟩
/-- It as a struct's value. -/
def mailV (x : Pst.Mail) : Value := .agg #[.int .i64 x.f, .int .i64 x.t, .string x.d, .bool x.s]
theorem flat_mail (x : Pst.Mail) : #[Value.int .i64 x.f, .int .i64 x.t, .string x.d, .bool x.s] = (mailLay.flat [x]).toArray := rfl

section
variable {H : Type} {enc : TypeId × Value → H} {W : World} {base : Nat}
theorem cells_mail : Try.prog.cellsOf 27 = 4 := by kernel_rfl
theorem bytes_mail : Try.prog.bytesOf 27 = 40 := by kernel_rfl
def GoodMail (x : Pst.Mail) (d : DataW H) : Prop := (Lit.int .i64 x.f).wf = true ∧ (Lit.int .i64 x.t).wf = true ∧ d = .agg [.lit (.int .i64 x.f), .lit (.int .i64 x.t), .lit (.string x.d.data.toList), .lit (.bool x.s)]
theorem opens_mail : Opens enc mailLay GoodMail := fun W n cs x ht => by
  obtain ⟨ys, m, _, hx, hlen, hyl, hf⟩ := DataW.trod_struct Try.underlying27 ht
  have hlen : cs.length = Try.prog.cellsOf 27 := hlen
  rw [cells_mail] at hlen
  match cs, hlen, ys, hyl with
  | [v0, v1, v2, v3], _, [y0, y1, y2, y3], _ =>
    have f0 := hf 0 _ rfl
    have f1 := hf 1 _ rfl
    have f2 := hf 2 _ rfl
    have f3 := hf 3 _ rfl
    simp only [List.getElem?_cons_zero, List.getElem?_cons_succ] at f0 f1 f2 f3
    obtain ⟨a0, e0, g0, w0⟩ := DataW.trod_int Try.underlying3 f0
    cases e0; subst g0
    obtain ⟨a1, e1, g1, w1⟩ := DataW.trod_int Try.underlying3 f1
    cases e1; subst g1
    obtain ⟨a2, e2, g2, _⟩ := DataW.trod_string Try.underlying9 f2
    cases e2; subst g2
    obtain ⟨a3, e3, g3⟩ := DataW.trod_bool Try.underlying4 f3
    cases e3; subst g3
    exact ⟨⟨a0, a1, a2, a3⟩, rfl, w0, w1, by rw [hx]; rfl⟩
theorem reach_mail0 (x : Pst.Mail) (h : ((.agg [.lit (.int .i64 x.f), .lit (.int .i64 x.t), .lit (.string x.d.data.toList), .lit (.bool x.s)] : DataW H).weights Try.prog 27).all (· ≤ reachBytes) = true) : x.d.size ≤ reachBytes := by
  have hs : x.d.data.toList.length ∈ (.agg [.lit (.int .i64 x.f), .lit (.int .i64 x.t), .lit (.string x.d.data.toList), .lit (.bool x.s)] : DataW H).weights Try.prog 27 := by
    simp [DataW.weights, DataW.weightsEach, Try.underlying27]
  have := of_decide_eq_true (List.all_eq_true.1 h _ hs)
  rwa [Array.length_toList] at this
theorem bulk_mail0 (x : Pst.Mail) : x.d.size ≤ Rows.uptoBulk (.agg [.lit (.int .i64 x.f), .lit (.int .i64 x.t), .lit (.string x.d.data.toList), .lit (.bool x.s)] : DataW H) := by
  simp only [Rows.uptoBulk, Rows.uptoBulkAll, Array.length_toList]
  show x.d.data.size ≤ _
  omega

theorem Lift.Given.mails {ts : List TypeId} {args : List Value} {ds : List (DataW H)} {before : List MemPlace} (h : Lift.Given enc Try.prog (22 :: ts) W base args ds before) :
    ∃ (A : Option Addr) (c : Nat) (l : List Pst.Mail) (vs : List Value) (d : DataW H) (ds' : List (DataW H)) (q : List MemPlace), args = .slice A l.length c :: vs ∧ ds = d :: ds' ∧ mailLay.Reads W W.heap.size A l ∧ (A = none → l = []) ∧
      (∀ x ∈ l, (Lit.int .i64 x.f).wf = true ∧ (Lit.int .i64 x.t).wf = true ∧ x.d.size ≤ reachBytes ∧ x.d.size ≤ Rows.uptoBulk d) ∧ l.length * 40 ≤ reachBytes ∧ l.length ≤ Rows.uptoBulk d ∧ l.length ≤ c ∧ Lift.Given enc Try.prog ts W base vs ds' q := by
  obtain ⟨A, c, l, vs, d, ds', q, h1, h2, h3, h4, h5, h6⟩ := h.things (L := mailLay) opens_mail cells_mail bytes_mail
  refine ⟨A, c, l, vs, d, ds', q, h1, h2, h3, h4, fun x hx => ?_, h6⟩
  obtain ⟨dx, ⟨g0, g1, gd⟩, gR, gB⟩ := h5 x hx
  rw [gd] at gR gB
  exact ⟨g0, g1, reach_mail0 x gR, Nat.le_trans (bulk_mail0 x) gB⟩
theorem Lift.Given.mail {ts : List TypeId} {args : List Value} {ds : List (DataW H)} {before : List MemPlace} (h : Lift.Given enc Try.prog (27 :: ts) W base args ds before) :
    ∃ (x : Pst.Mail) (vs : List Value) (d : DataW H) (ds' : List (DataW H)) (q : List MemPlace), args = mailV x :: vs ∧ ds = d :: ds' ∧ ((Lit.int .i64 x.f).wf = true ∧ (Lit.int .i64 x.t).wf = true ∧ x.d.size ≤ reachBytes ∧ x.d.size ≤ Rows.uptoBulk d) ∧ Lift.Given enc Try.prog ts W base vs ds' q := by
  obtain ⟨x, vs, d, ds', q, h1, h2, ⟨g0, g1, gd⟩, gR, h6⟩ := h.thing (L := mailLay) opens_mail Try.underlying27
  subst gd
  exact ⟨x, vs, _, ds', q, h1, h2, ⟨g0, g1, reach_mail0 x gR, bulk_mail0 x⟩, h6⟩
end
end Go.Proofs.Ytkajnmlglgjocaa
