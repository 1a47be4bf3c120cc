/-
  What strconv.ParseUint hands back of sixteen letters to base 16: the number and nil, or nought and an error that isn't nil.
  The library's variable for a wrong form holds an error.
-/
import Derived.Test.YtdhfmapcggohmaaDoorHexParse
import Derived.Lib.UnsafeStr
import Derived.Lib.IfaceEq
import Derived.Lib.AtoiErrMem
import Derived.OwnWalk
import Derived.RegionTactic
import Derived.Deep.RegionWith
import Derived.Shelf.Strconv.Clone
namespace Go.Proofs.YtdhfmapcggohmaaDoor
open Go.RowKit

theorem info_u8 : (Tryd.prog.info? 5).map (fun i => (i.zero, i.size, i.bytes)) = some (some (Value.int .u8 0), 1, 1) := by kernel_rfl
theorem comp_err : (Tryd.prog.info? 109).map (·.comparable) = some true := by kernel_rfl
theorem under_err : Tryd.prog.underlying 81 = some (.interface (match Tryd.prog.underlying 81 with | some (.interface ms) => ms | _ => #[])) := by kernel_rfl

set_option maxHeartbeats 4000000 in
set_option maxRecDepth 100000 in
theorem clone_any (s : ByteArray) (h0 : s.size ≠ 0) (w : World) (hlim : s.size ≤ 281474976710656) :
    Calls Tryd.prog 94 #[.string s] w fun e w' => e = .returned (.string s) ∧ Below w.heap.size w w' := by
  obtain ⟨i0, hi, hz0, hz1, hz2⟩ := info_parts info_u8
  have hco : Tryd.prog.cellsOf 5 = 1 := by simp [Program.cellsOf, hi, hz1]
  have hinfo : (Tryd.prog.info? 5).map (·.size) = some 1 := by rw [hi]; simp [hz1]
  obtain ⟨M, hM⟩ : ∃ M, M = madeCells (Value.int .u8 0).cells (((s.size : Nat) : Int).toNat * i0.size) := ⟨_, rfl⟩
  have hMs : M.size = s.size := by rw [hM, size_madeCells, hz1]; simp
  have hmk : ∀ W : World, (Instr.makeSlice 66 (.int .i64 (s.size : Int)) (.int .i64 (s.size : Int))).run Tryd.prog W = .ok (.slice (some ⟨W.heap.size, 0, none⟩) s.size s.size) (W.alloc (.cells M 5)) := fun W => by
    have h := run_make (P := Tryd.prog) W 66 5 i0 (.int .u8 0) Tryd.underlying66 hi hz0 .i64 .i64 (s.size : Int) (s.size : Int) (by omega) (by omega) (by rw [hz2]; omega) (by omega)
    rw [← hM] at h
    simpa using h
  clear hM
  have hcp := Lib.run_copy_row_string (P := Tryd.prog) (w.alloc (.cells M 5)) 66 9 3 5 w.heap.size 0 s.size s.size s M 5 Tryd.underlying66 hinfo (heap_alloc_new w _) (Nat.le_refl _) (by omega)
  obtain ⟨Y, hY⟩ : ∃ Y, Y = (M.toList.take 0 ++ Lib.byteCells s.data.toList ++ M.toList.drop (0 + s.size)).toArray := ⟨_, rfl⟩
  rw [← hY] at hcp
  have hYl : Y.toList = Lib.byteCells s.data.toList := by
    rw [hY, List.toList_toArray, List.take_zero, List.nil_append, List.drop_of_length_le (by rw [Array.length_toList]; omega), List.append_nil]
  have hYs : Y.size = s.size := by rw [← Array.length_toList, hYl, Lib.byteCells_length, ← Lib.size_eq]
  have hgY : ((w.alloc (.cells M 5)).setRow w.heap.size Y).heap[w.heap.size]? = some (.cells Y 5 (0, 0)) := setRow_heap _ _ M _ 5 (0, 0) (heap_alloc_new w _)
  have hne : s.data.toList ≠ [] := fun e => h0 (by rw [Lib.size_eq, e]; rfl)
  have hUS := Lib.run_unsafeString_row (P := Tryd.prog) ((w.alloc (.cells M 5)).setRow w.heap.size Y) 99 3 9 5 Tryd.underlying99 hco w.heap.size Y.size (by unfold World.shape?; rw [hgY]) s.data.toList hne (by rw [← Lib.size_eq]; omega) (by rw [← Lib.size_eq]; omega)
    (fun j x hx => Lib.cells_of_row hgY Y.size j _ (by rw [List.take_of_length_le (by rw [Array.length_toList]; exact Nat.le_refl _), hYl]; simp [Lib.byteCells, hx]))
  rw [← Lib.size_eq] at hUS
  clear hY
  go_enter Tryd.func94, Tryd.ntmps94
  go_wp2
  go_ret
  have hb1 : Below w.heap.size w (w.alloc (.cells M 5)) := (Below.refl _ w).alloc (Nat.le_refl _) _
  have hb2 : Below w.heap.size (w.alloc (.cells M 5)) ((w.alloc (.cells M 5)).setRow w.heap.size Y) := ⟨rfl, rfl, rfl, by simp, fun k hk => setRow_other _ _ _ _ (by omega)⟩
  exact ⟨rfl, Lib.below_freeze (hb1.trans hb2) (p := ⟨w.heap.size, 0, none⟩) (Nat.le_refl _) _⟩

/-- The library's variable for a wrong form holds an error. -/
def ErrOk (w : World) : Prop := ∃ te pe, w.cell? ⟨2, 0, none⟩ = some (.iface te pe)
theorem ErrOk.lt {w : World} (h : ErrOk w) : 2 < w.heap.size := by
  obtain ⟨te, pe, h⟩ := h
  exact Lib.lt_of_cell h
theorem ErrOk.below {w w' : World} (h : ErrOk w) (hb : Below w.heap.size w w') : ErrOk w' := by
  have hl := h.lt
  obtain ⟨te, pe, h⟩ := h
  exact ⟨te, pe, by rw [hb.cell (p := ⟨_, 0, none⟩) hl]; exact h⟩

def IsPtr (w : World) (e : Ending) (w' : World) : Prop := ∃ N, e = .returned (.pointer (some ⟨N, 0, none⟩)) ∧ Below w.heap.size w w'
def IsErr (w : World) (e : Ending) (w' : World) : Prop := ∃ t v, e = .returned (.iface t v) ∧ Below w.heap.size w w'

set_option maxHeartbeats 6400000 in
set_option maxRecDepth 100000 in
theorem syntaxError_any (fn s : ByteArray) (h0 : s.size ≠ 0) (w : World) (hlim : s.size ≤ 281474976710656) (hv : ErrOk w) :
    Calls Tryd.prog 87 #[.string fn, .string s] w (IsPtr w) := by
  have hG := hv.lt
  obtain ⟨te, pe, hv⟩ := hv
  have hvd : w.drew.cell? ⟨2, 0, none⟩ = some _ := hv
  go_enter Tryd.func87, Tryd.ntmps87
  go_wp2
  go_region_with (
      go_at_call 94
      refine (clone_any s h0 _ hlim).mono ?_
      rintro e w2 ⟨rfl, hbel⟩
      have hv2 : w2.cell? ⟨2, 0, none⟩ = some _ := (hbel.cell (show (⟨2, 0, none⟩ : Addr).block < w.drew.heap.size from hG)).trans hvd)
  all_goals (
    go_wp2
    go_ret
    have hs2 : w.heap.size ≤ w2.heap.size := hbel.size
    exact ⟨_, rfl, ((Below.drew (Below.refl _ w)).trans hbel).alloc hs2 _⟩)

set_option maxHeartbeats 4000000 in
set_option maxRecDepth 100000 in
theorem toError_any (fn s : ByteArray) (h0 : s.size ≠ 0) (base bits : Int) (w : World) (hlim : s.size ≤ 281474976710656) (hv : ErrOk w) :
    Calls Tryd.prog 76 #[.string fn, .string s, .int .i64 base, .int .i64 bits, .iface 109 (.int .i64 2)] w (IsErr w) := by
  have heq : ∀ W, (binOp .eql 81 (.iface 109 (.int .i64 2)) (.iface 109 (.int .i64 2))).run Tryd.prog W = .ok (.bool true) W := fun W => Lib.run_eql_iface_int W 2 2 under_err comp_err Tryd.underlying109
  have H := Lib.hid (syntaxError_any fn s h0 w hlim hv)
  clear hv
  go_enter Tryd.func76, Tryd.ntmps76
  go_wp2_with fail
  refine (H.out).mono ?_
  rintro e w2 ⟨N, rfl, hb⟩
  go_wp2_with fail
  go_ret
  exact ⟨_, _, rfl, hb⟩

def SomeErr (e : Ending) : Prop := ∃ t v, e = .returned (.tuple #[.int .u64 0, .iface t v])

theorem bytes_below (w : World) (s : ByteArray) : Below w.heap.size w (Lib.bytesWorld w 5 s) := by
  unfold Lib.bytesWorld
  exact Lib.below_freeze (p := ⟨w.heap.size, _, none⟩) (((Below.refl _ w).drew).alloc (Nat.le_refl _) _) (Nat.le_refl _) _

set_option maxHeartbeats 400000 in
theorem parse_some (s : ByteArray) (h16 : s.size = 16) (n : Nat) (hp : Hex.ps 0 s.data.toList = some n) (w : World) :
    Calls Tryd.prog 64 #[.string s, .int .i64 16, .int .i64 64] w fun e w' => e = .returned (.tuple #[.int .u64 (n : Nat), .nilIface]) ∧ Below w.heap.size w w' := by
  have H := Lib.hid (iparse_any s h16 w)
  rw [hp, show parsed 109 (some n) = .tuple #[.int .u64 (n : Nat), .nilIface] from rfl] at H
  have HB := Lib.hid (bytes_below w s)
  clear hp h16
  generalize Lib.bytesWorld w 5 s = W1 at *
  go_enter Tryd.func64, Tryd.ntmps64
  go_wp2_with fail
  refine (H.out).mono ?_
  rintro e w2 ⟨rfl, rfl⟩
  go_wp2_with fail
  go_ret2
  exact ⟨rfl, HB.out⟩

set_option maxHeartbeats 400000 in
theorem parse_none (s : ByteArray) (h16 : s.size = 16) (hp : Hex.ps 0 s.data.toList = none) (w : World) (hv : ErrOk w) :
    Calls Tryd.prog 64 #[.string s, .int .i64 16, .int .i64 64] w fun e w' => SomeErr e ∧ Below w.heap.size w w' := by
  have H := Lib.hid (iparse_any s h16 w)
  rw [hp, show parsed 109 none = .tuple #[.int .u64 0, .iface 109 (.int .i64 2)] from rfl] at H
  have hb := bytes_below w s
  have hv2 := hv.below hb
  have HB := Lib.hid hb
  clear hp hb hv
  generalize Lib.bytesWorld w 5 s = W1 at *
  have HE := Lib.hid (fun fn => toError_any fn s (by omega) 16 64 W1 (by omega) hv2)
  clear hv2 h16
  go_enter Tryd.func64, Tryd.ntmps64
  go_wp2_with fail
  refine (H.out).mono ?_
  rintro e w2 ⟨rfl, rfl⟩
  go_wp2_with fail
  refine (HE.out _).mono ?_
  rintro e w3 ⟨t, v, rfl, hb3⟩
  go_wp2_with fail
  go_ret2
  exact ⟨⟨t, v, rfl⟩, HB.out.trans (hb3.mono HB.out.size)⟩

end Go.Proofs.YtdhfmapcggohmaaDoor
