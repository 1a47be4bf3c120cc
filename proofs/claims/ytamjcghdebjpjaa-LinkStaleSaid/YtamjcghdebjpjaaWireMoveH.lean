/-
  What move of the wire does.
  No condition but that numbers are small.
-/
import Derived.Test.YtamjcghdebjpjaaWireSend
import Derived.Test.YtamjcghdebjpjaaWireTick
import Derived.Test.YtamjcghdebjpjaaWireCome
set_option linter.unusedSimpArgs false
set_option linter.unusedVariables false
namespace Go.Proofs.Ytamjcghdebjpjaa
open Go.RowKit

theorem wpList_kbm {b0 : Nat} {w0 w : World} {L : List (Nat × TypeId × Array Value)} {R : List RowE} {ops : Array Oper} {rest : List Oper} {o : Oper} {a : Act} {Q : Exit → Act → World → Prop} (HK : Hid (Kn b0 w0 w L R)) (hgd : o.guard = none) (x : Operand) (ho : o.op = .box 48 x)
    {k j : Int} (hx : a.eval x = .agg #[.int .i64 k, .int .i64 j]) (h : ∀ w' g, Hid (Kn b0 w0 w' (L ++ [(g, 48, #[.int .i64 k, .int .i64 j])]) R) → wpList Try.prog ops Q rest (a.put o.dst (.pointer (some ⟨g, 0, none⟩))) w') : wpList Try.prog ops Q (o :: rest) a w :=
  wpList_plain hgd fun K hK => by
    have h4 := h _ w.heap.size (Lib.hid (HK.out.alloc _ _))
    unfold Oper.wp execOp
    simp only [ho, hx]
    go_simp
    exact hK _ _ h4
theorem come_any (b0 : Nat) (w0 : World) (g : Nat) (x : Lnk.Wr) (w : World) (n m i : Nat) (hi : i < x.way.length) (hW : WireAt b0 w0 g x w) (hf : Lnk.Wr.Fits n m x) (hn : n ≤ 900000) (hm : m ≤ 100000) :
    Calls Try.prog 18 #[.pointer (some ⟨g, 0, none⟩), .int .i64 i] w fun e w' => e = .returned (.tuple #[]) ∧ WireAt b0 w0 g (x.come i) w' := by
  obtain ⟨p, hp⟩ := Lay.get_of hi
  by_cases hts : p.ts = 0
  · exact comeA_any b0 w0 g x w n m i p hW hf hn hm hp hts
  · exact comeB_any b0 w0 g x w n m i p hW hf hn hm hp hts
theorem rd_if {c : Prop} [Decidable c] {w : World} {B b ix : Nat} {l : List Lnk.Pkt} (h : pktLay.Reads w B (some ⟨b, 0, none⟩) l) (hc : c → l.drop (ix + 1) = []) :
    pktLay.Reads w B (if c then some ⟨b, 0, none⟩ else some ⟨b, (ix + 1) * 7, none⟩) (l.drop (ix + 1)) ∧ ((if c then some ⟨b, 0, none⟩ else some ⟨b, (ix + 1) * 7, none⟩ : Option Addr) = none → l.drop (ix + 1) = []) := by
  split
  · rename_i hh
    rw [hc hh]
    exact ⟨Lay.Reads.nil _ _ _, fun _ => rfl⟩
  · have h1 := h.drop (ix + 1)
    rw [Nat.zero_add] at h1
    exact ⟨h1, fun h => by cases h⟩
theorem step_kmore {P : Program} {b0 : Nat} {w0 w : World} {L : List (Nat × TypeId × Array Value)} {R : List RowE} {ops : Array Oper} {o : Oper} {a : Act} {Q : Exit → Act → World → Prop} {K : Act → World → Prop} {E : Prop} (HK : Hid (Kn b0 w0 w L R)) {α : Type} (La : Lay P α) (j : Nat) (hgd : o.guard = none) (s x : Operand) (ho : o.op = .call { callee := .builtin .append, args := #[s, x], argTypes := #[La.t, La.t] })
    {v : Value} {l : List α} (hR : R[j]? = some (row La v l)) (hs : a.eval s = v) (m : List α) {A : Option Addr} {n c B : Nat} (hx : a.eval x = .slice A n c) (hn : n = m.length) (hI : Hid (La.Reads w B A m ∧ (A = none → m = [])))
    (hl : Hid (l.length + m.length ≤ 9223372036854775807 ∧ (l.length + m.length) * La.bytes ≤ 211106232532992))
    {N : Nat} (hN : Hid ((l ++ m).length = N)) (h : ∀ A' c' w', Hid (Kn b0 w0 w' L (R.set j (row La (.slice A' N c') (l ++ m)))) → K (a.put o.dst (.slice A' N c')) w') : if Region.wanted o (yielded ops a.tmps) = true then Oper.wp P o a w K Q else E := by
  rw [if_pos (by simp [Region.wanted, hgd])]
  exact kwp_more HK La j s x ho hR hs m hx hn hI hl hN h
end Go.Proofs.Ytamjcghdebjpjaa
