/- What the document's Find returns: the first place of a name, or -1. No condition but those named. -/
import Derived.Test.YtpkodjllljnleaaGreatTk
import Derived.Test.YtpkodjllljnleaaGreatMO
import Derived.Test.YtpkodjllljnleaaGreatMY
import Derived.Test.YtpkodjllljnleaaGreatMP
set_option linter.unusedSimpArgs false
set_option linter.unusedVariables false
namespace Go.Proofs.YtpkodjllljnleaaGreat
open Go.RowKit
def IsAt (l : List Oh) (k : ByteArray) (z : Int) : Prop := (∃ (i : Nat) (x : Oh), z = (i : Int) ∧ l[i]? = some x ∧ x.v.name = k ∧ ∀ (j : Nat) (y : Oh), j < i → l[j]? = some y → ¬ y.v.name = k) ∨ (z = -1 ∧ ∀ (j : Nat) (y : Oh), l[j]? = some y → ¬ y.v.name = k)
set_option maxRecDepth 100000 in
set_option maxHeartbeats 6400000 in
theorem rfind_any (A : Option Addr) (c n : Nat) (l : List Oh) (nm : ByteArray) (w : World) (hs : Obs w A n c l) :
  Calls Tryz.prog 23 #[.slice A n c, .string nm] w (fun e w' => ∃ z, IsAt l nm z ∧ e = .returned (.int .i64 z) ∧ Below w.heap.size w w') := by
 have HS := zH hs
 have HNl : Hid (l.length = n) := zH hs.len
 have hbig : n * 144 ≤ 140737488355328 := hs.s.big
 have HK := zH (Kn.start w)
 clear hs
 go_enter Tryz.func23, Tryz.ntmps23
 go_wp2_with fail
 go_loopw [5] (fun vi wr => ∃ k : Nat, k ≤ n ∧ vi = .int .i64 k ∧ Hid (∀ (j : Nat) (y : Oh), j < k → l[j]? = some y → ¬ y.v.name = nm) ∧ Hid (Kn w.heap.size w wr [] [])) (fun vi _ => n - (intOf vi).toNat)
 case atStart => exact ⟨0, Nat.zero_le _, rfl, zH (fun j y hj => absurd hj (Nat.not_lt_zero _)), HK⟩
 case round =>
  clear HK
  obtain ⟨k, hk, rfl, HNo, HK⟩ := hrel
  have hk1 : (0 : Int) ≤ (k : Int) := by omega
  by_cases hlt : k < n
  case pos =>
   have hk2 : (k : Int) < (n : Int) := by omega
   have hk3 : k < 9223372036854775807 := by omega
   obtain ⟨x, hx, _⟩ := HS.out.s.get hlt
   obtain ⟨b, o, rfl, hat⟩ := HS.out.s.at (Nat.lt_of_le_of_lt (Nat.zero_le _) hlt)
   have HX : Hid (∀ j v, (obL x)[j]? = some v → wr.cell? ⟨b, o + k * 11 + j, none⟩ = some v) := zH (hat wr HK.out.b k x hx)
   have HXx := zH hx
   clear hx hat
   by_cases he : x.v.name = nm
   ·have hb : decide (x.v.name = nm) = true := decide_eq_true he
    have HHe := zH he
    clear he
    go_wp2_with (first | refine zX (exec_obn (off := o + k * 11) _ (by rfl) (by rfl) HX.out) ?_ | refine zX (exec_seq (x := x.v.name) (y := nm) _ _ (by rfl) (by rfl) (by rfl) hb) ?_)
    go_ret
    exact ⟨(k : Int), .inl ⟨k, x, rfl, HXx.out, HHe.out, HNo.out⟩, rfl, HK.out.b⟩
   ·have hb : decide (x.v.name = nm) = false := decide_eq_false he
    have HHe := zH he
    clear he
    go_wp2_with (first | refine zX (exec_obn (off := o + k * 11) _ (by rfl) (by rfl) HX.out) ?_ | refine zX (exec_seq (x := x.v.name) (y := nm) _ _ (by rfl) (by rfl) (by rfl) hb) ?_ | refine zX (exec_add1 (j := k) _ (by rfl) (by rfl) hk3) ?_)
    refine ⟨⟨k + 1, by omega, by go_num, zH (fun j y hj hy => ?_), HK⟩, by simp [intOf]; omega⟩
    by_cases h : j < k
    ·exact HNo.out j y h hy
    ·obtain rfl : j = k := by omega
     rw [HXx.out] at hy
     injection hy with hy
     subst hy
     exact HHe.out
  case neg =>
  have hk2 : ¬ (k : Int) < (n : Int) := by omega
  go_wp2_with fail
  go_ret
  exact ⟨-1, .inr ⟨rfl, fun j y hy => HNo.out j y (by have h := (List.getElem?_eq_some_iff.1 hy).1; rw [HNl.out] at h; omega) hy⟩, rfl, HK.out.b⟩
end Go.Proofs.YtpkodjllljnleaaGreat
namespace Go.Proofs.YtpkodjllljnleaaGreat
open Go.RowKit
theorem exec_ier {w : World} {o : Oper} {a : Act} {x k : Int} {b : Bool} (p : Operand) (ho : o.op = .binOp .eql 3 p (.const (.int .i64 k)) 3) (hp : a.eval p = .int .i64 x) (hb : decide (x = k) = b) :
  (execOp a.eval o).run Tryz.prog w = .ok (.value (.bool b)) w := by
 have he : a.eval (.const (.int .i64 k)) = .int .i64 k := rfl
 subst hb
 unfold execOp
 simp only [ho, hp, he]
 go_simp
 try rfl
theorem exec_bfail {w : World} {o : Oper} {a : Act} {z : Int} (p : Operand) (ho : o.op = .build 33 #[(0, p)]) (hp : a.eval p = .int .i64 z) :
  (execOp a.eval o).run Tryz.prog w = .ok (.value (.agg (rpA ⟨z, Sto.vn⟩))) w := by
 have h : (Instr.build 33 #[(0, .int .i64 z)]).run Tryz.prog w = .ok (.agg (rpA ⟨z, Sto.vn⟩)) w := by
  unfold rpA
  go_simp
  try exact ⟨rfl, rfl, rfl, rfl⟩
 unfold execOp
 simp only [ho, Sem.run_bind, Sem.run_pure, Result.andThen_ok, List.map_toArray, List.map_cons, List.map_nil, hp, h]
theorem ret_rp {fn : Func} {R : Ending → World → Prop} {a : Act} {w : World} {B : Nat} {p : Sto.Rp} {q : Tmp} (hf : fn.results = #[.cell q 33]) (h2 : a.tmps[q]? = some (.pointer (some ⟨B, 0, none⟩))) (hd : a.defers = []) (hb : Blk w B 33 (rpA p))
  (hR : R (.returned (.agg (rpA p))) w) : bodyPost Tryz.prog fn R Exit.ret a w :=
 bodyPost_ret (results_cell_row hf a.tmps w B _ _ (0, 0) _ (by simp [h2]) hb Tryz.underlying33 rfl info_rp) hd hR
set_option maxRecDepth 100000 in
set_option maxHeartbeats 6400000 in
theorem rfail_any (z : Int) (w : World) : Calls Tryz.prog 21 #[.int .i64 z] w (fun e w' => e = .returned (.agg (rpA ⟨z, Sto.vn⟩)) ∧ Below w.heap.size w w') := by
 have HK := zH (Kn.start w)
 go_enter Tryz.func21, Tryz.ntmps21
 go_wp2_with (first | (refine wpList_arp HK rfl rfl ?_; intro _ g1 HK'; simp only [lcA, lnA] at HK'; replace HK := HK'; clear HK') | refine zX (exec_bfail (z := z) _ (by rfl) (by rfl)) ?_ | (refine wpList_srp (q := ⟨z, Sto.vn⟩) HK 0 rfl _ _ rfl rfl rfl rfl ?_; intro _ HK'; simp only [List.set] at HK'; replace HK := HK'; clear HK'))
 exact ret_rp Tryz.results21 rfl rfl (HK.out.blk 0 rfl) ⟨rfl, HK.out.b⟩
set_option maxRecDepth 100000 in
set_option maxHeartbeats 12800000 in
theorem rfits_any (k z : Int) (h5 : 5 ≤ k) (h17 : k ≤ 17) (w : World) : Calls Tryz.prog 25 #[.int .i64 k, .int .i64 z] w (IsB (Sto.fits k z) w) := by
 unfold IsB
 have h : k = 5 ∨ k = 6 ∨ k = 7 ∨ k = 8 ∨ k = 9 ∨ k = 10 ∨ k = 11 ∨ k = 12 ∨ k = 13 ∨ k = 14 ∨ k = 15 ∨ k = 16 ∨ k = 17 := by omega
 clear h5 h17
 rcases h with rfl | rfl | rfl | rfl | rfl | rfl | rfl | rfl | rfl | rfl | rfl | rfl | rfl <;>
 ·go_enter Tryz.func25, Tryz.ntmps25
  go_wp2_with (first | refine zX (exec_ier (x := z) _ (by rfl) (by rfl) rfl) ?_)
  go_ret
  exact ⟨rfl, Below.refl _ _⟩
set_option maxRecDepth 100000 in
set_option maxHeartbeats 12800000 in
theorem rsize_any (x : Oh) (w : World) (hx : In w x) : Calls Tryz.prog 80 #[.agg (obA x)] w (fun e w' => e = .returned (.int .i64 (Sto.size x.v)) ∧ Below w.heap.size w w') := by
 have hp : (x.v.prs.length : Int) = (x.pn : Int) := by rw [hx.p.len]
 have hv : (x.v.vals.length : Int) = (x.vn : Int) := by rw [hx.v.len]
 have hr : (x.v.refs.length : Int) = (x.rn : Int) := by rw [hx.r.len]
 have HK := kn1 w 55 (obA x)
 clear hx
 unfold Sto.size
 rw [hp, hv, hr]
 clear hp hv hr
 by_cases h1 : x.v.kind = 1
 ·have K1 : Hid (decide (x.v.kind = 1) = true) := zH (decide_eq_true h1)
  rw [if_pos h1]
  clear h1
  go_enter Tryz.func80, Tryz.ntmps80
  go_wp2_with (first | refine zX (kob_k HK 0 _ (by rfl) (by rfl) (by rfl)) ?_ | refine zX (kob_p HK 0 _ (by rfl) (by rfl) (by rfl)) ?_ | refine zX (exec_ier (x := x.v.kind) (k := 1) _ (by rfl) (by rfl) K1.out) ?_)
  go_ret
  exact ⟨rfl, HK.out.b⟩
 have K1 : Hid (decide (x.v.kind = 1) = false) := zH (decide_eq_false h1)
 rw [if_neg h1]
 clear h1
 by_cases h2 : x.v.kind = 2
 ·have K2 : Hid (decide (x.v.kind = 2) = true) := zH (decide_eq_true h2)
  rw [if_pos h2]
  clear h2
  go_enter Tryz.func80, Tryz.ntmps80
  go_wp2_with (first | refine zX (kob_k HK 0 _ (by rfl) (by rfl) (by rfl)) ?_ | refine zX (kob_v HK 0 _ (by rfl) (by rfl) (by rfl)) ?_ | refine zX (exec_ier (x := x.v.kind) (k := 1) _ (by rfl) (by rfl) K1.out) ?_ | refine zX (exec_ier (x := x.v.kind) (k := 2) _ (by rfl) (by rfl) K2.out) ?_)
  go_ret
  exact ⟨rfl, HK.out.b⟩
 have K2 : Hid (decide (x.v.kind = 2) = false) := zH (decide_eq_false h2)
 rw [if_neg h2]
 clear h2
 by_cases h3 : x.v.kind = 5
 ·have K3 : Hid (decide (x.v.kind = 5) = true) := zH (decide_eq_true h3)
  rw [if_pos h3]
  clear h3
  go_enter Tryz.func80, Tryz.ntmps80
  go_wp2_with (first | refine zX (kob_k HK 0 _ (by rfl) (by rfl) (by rfl)) ?_ | refine zX (kob_mn HK 0 _ (by rfl) (by rfl) (by rfl)) ?_ | refine zX (exec_ier (x := x.v.kind) (k := 1) _ (by rfl) (by rfl) K1.out) ?_ | refine zX (exec_ier (x := x.v.kind) (k := 2) _ (by rfl) (by rfl) K2.out) ?_ | refine zX (exec_ier (x := x.v.kind) (k := 5) _ (by rfl) (by rfl) K3.out) ?_)
  go_ret
  exact ⟨rfl, HK.out.b⟩
 have K3 : Hid (decide (x.v.kind = 5) = false) := zH (decide_eq_false h3)
 rw [if_neg h3]
 clear h3
 go_enter Tryz.func80, Tryz.ntmps80
 go_wp2_with (first | refine zX (kob_k HK 0 _ (by rfl) (by rfl) (by rfl)) ?_ | refine zX (kob_r HK 0 _ (by rfl) (by rfl) (by rfl)) ?_ | refine zX (exec_ier (x := x.v.kind) (k := 1) _ (by rfl) (by rfl) K1.out) ?_ | refine zX (exec_ier (x := x.v.kind) (k := 2) _ (by rfl) (by rfl) K2.out) ?_ | refine zX (exec_ier (x := x.v.kind) (k := 5) _ (by rfl) (by rfl) K3.out) ?_)
 go_ret
 exact ⟨rfl, HK.out.b⟩
end Go.Proofs.YtpkodjllljnleaaGreat
namespace Go.Proofs.YtpkodjllljnleaaGreat
open Go.RowKit
def IsRO (l : List Oh) (w : World) (e : Ending) (w' : World) : Prop := ∃ (A : Option Addr) (n c : Nat), e = .returned (.slice A n c) ∧ obLay.Own w.heap.size w' (.slice A n c) l ∧ Below w.heap.size w w'
theorem exec_ixo0 {w : World} {o : Oper} {a : Act} {b n c i : Nat} (q r : Operand) (ho : o.op = .indexAddr 22 q r) (hx : a.eval q = .slice (some ⟨b, 0, none⟩) n c) (hq : a.eval r = .int .i64 (i : Int)) (h : i < n) :
  (execOp a.eval o).run Tryz.prog w = .ok (.value (.pointer (some ⟨b, i * 11, none⟩))) w := by
 have h1 := exec_ixo (w := w) (off := 0) q r ho hx hq h
 rwa [Nat.zero_add] at h1
set_option maxRecDepth 100000 in
set_option maxHeartbeats 6400000 in
theorem rwith_any (A : Option Addr) (c n : Nat) (l : List Oh) (i : Nat) (x : Oh) (w : World) (hs : Obs w A n c l) (hi : i < n) :
  Calls Tryz.prog 27 #[.slice A n c, .int .i64 i, .agg (obA x)] w (IsRO (l.set i x) w) := by
 unfold IsRO
 have HS := zH hs
 have HNl : Hid (l.length = n) := zH hs.len
 have hbig : n * 144 ≤ 140737488355328 := hs.s.big
 have hi2 : i < l.length := by rw [hs.len]; exact hi
 have hi0 : (0 : Int) ≤ (i : Int) := by omega
 have hi1 : (i : Int) < (n : Int) := by omega
 have HL : Hid (([] : List Oh).length + l.length ≤ 9223372036854775807 ∧ (([] : List Oh).length + l.length) * obLay.bytes ≤ 211106232532992) := zH (by
  rw [List.length_nil, Nat.zero_add, HNl.out]
  refine ⟨by omega, ?_⟩
  show n * 144 ≤ _
  omega)
 have HN2 : Hid ((([] : List Oh) ++ l).length = n) := zH HNl.out
 have HRd : Hid (∀ W, Below w.heap.size w W → obLay.Reads W W.heap.size A l ∧ (A = none → l = [])) := zH fun W hW => ⟨(hs.later hW).s.rd, (hs.later hW).s.nl⟩
 have HK := kn1 w 55 (obA x)
 clear hs
 go_enter Tryz.func27, Tryz.ntmps27
 go_wp2_with (first | (refine wpList_mk0 obLay HK rfl rfl ?_; intro _ g2 HK'; simp only [lnA] at HK'; replace HK := HK'; clear HK'; have HR := zH (HRd.out _ HK.out.b)) | (at_builtin; refine wpList_kmore HK obLay 0 rfl _ _ rfl rfl rfl l rfl HNl.out.symm HR HL (N := n) HN2 ?_; intro A8 c8 _ HK'; simp only [List.set, lnA] at HK'; replace HK := HK'; clear HK'; obtain ⟨g8, rfl⟩ := HK.out.headR (La := obLay) (j := 0) rfl (by omega)) | refine zX (kob HK 0 _ (by rfl) (by rfl) (by rfl)) ?_ | refine zX (exec_ixo0 (b := g8) (i := i) _ _ (by rfl) (by rfl) (by rfl) hi) ?_ | (refine wpList_put (La := obLay) HK 0 rfl _ _ rfl rfl i hi2 rfl x rfl rfl ?_; intro _ HK'; simp only [List.set] at HK'; replace HK := HK'; clear HK'))
 go_wp2_with fail
 go_ret
 exact ⟨_, _, _, rfl, HK.out.own (La := obLay) 0 rfl, HK.out.b⟩
end Go.Proofs.YtpkodjllljnleaaGreat
namespace Go.Proofs.YtpkodjllljnleaaGreat
open Go.RowKit
set_option maxRecDepth 100000 in
set_option maxHeartbeats 12800000 in
theorem rmade_any (A : Option Addr) (cp n : Nat) (l : List Oh) (c : Cmd.C) (w : World) (hs : Obs w A n cp l) (hn8 : n ≤ 8) :
  Calls Tryz.prog 24 #[.slice A n cp, .agg (cmA c)] w (IsRO (l.take (Sto.idx (vs l) c.name) ++ [frO c] ++ l.drop (Sto.idx (vs l) c.name)) w) := by
 unfold IsRO
 have HS := zH hs
 have HNl : Hid (l.length = n) := zH hs.len
 have HG : Hid (∀ k, k < n → ∃ x, l[k]? = some x) := zH fun k hk => Lay.get_of (l := l) (k := k) (by rw [hs.len]; exact hk)
 have hpn := Sto.idx_le (vs l) c.name
 rw [vs_len, hs.len] at hpn
 have HB : Hid (∀ k x, k < Sto.idx (vs l) c.name → l[k]? = some x → Dct.lt x.v.name c.name = true) := zH fun k x hk hx => Sto.idx_lt hk (vs_get hx)
 have HA : Hid (∀ x, l[Sto.idx (vs l) c.name]? = some x → Dct.lt x.v.name c.name = false) := zH fun x hx => Sto.idx_at (vs_get hx)
 have HK := kn1 w 29 (cmA c)
 replace HK := zH (HK.out.nilR obLay)
 simp only [lnA] at HK
 clear hs
 generalize Sto.idx (vs l) c.name = p at *
 go_enter Tryz.func24, Tryz.ntmps24
 go_wp2_with fail
 go_loopw [5, 6] (fun vo vi wr => ∃ (p0 : Nat) (A3 : Option Addr) (c3 : Nat), p0 ≤ p ∧ vo = .slice A3 p0 c3 ∧ vi = .int .i64 p0 ∧ Hid (Kn w.heap.size w wr [(w.heap.size, 29, cmA c)] [row obLay (.slice A3 p0 c3) (l.take p0)])) (fun _ vi _ => p + 1 - (intOf vi).toNat)
 case atStart => exact ⟨0, _, _, Nat.zero_le _, rfl, rfl, HK⟩
 case round =>
  clear HK
  obtain ⟨p0, A3, c3, hk, rfl, rfl, HK⟩ := hrel
  have hk1 : (0 : Int) ≤ (p0 : Int) := by omega
  have hk3 : p0 < 9223372036854775807 := by omega
  by_cases hlt : p0 < p
  ·have hkn : p0 < n := by omega
   have hk2 : (p0 : Int) < (n : Int) := by omega
   obtain ⟨x, hx⟩ := HG.out p0 hkn
   obtain ⟨b, o, rfl, hat⟩ := HS.out.s.at (Nat.lt_of_le_of_lt (Nat.zero_le _) hkn)
   have HX : Hid (∀ W, Below w.heap.size w W → ∀ j v, (obL x)[j]? = some v → W.cell? ⟨b, o + p0 * 11 + j, none⟩ = some v) := zH fun W hW => hat W hW p0 x hx
   have HL := zH (HB.out p0 x hlt hx)
   have HXx := zH hx
   have HGr : Hid ((l.take p0).length + 1 ≤ 9223372036854775807 ∧ ((l.take p0).length + 1) * obLay.bytes ≤ 211106232532992) := zH (by
    rw [List.length_take, HNl.out, Nat.min_eq_left (by omega)]
    refine ⟨by omega, ?_⟩
    show (p0 + 1) * 144 ≤ _
    omega)
   have HN3 : Hid ((l.take p0 ++ [x]).length = p0 + 1) := zH (by rw [List.length_append, List.length_take, HNl.out, Nat.min_eq_left (by omega)]; rfl)
   clear hat hx
   go_wp2_with fail
   replace HK := zH HK.out.drew
   refine wp_region_held_drew (S := (fun W => Hid (Kn w.heap.size w W [(w.heap.size, 29, cmA c)] [row obLay (.slice A3 p0 c3) (l.take p0)]))) (by kernel_rfl) ?_ (fun hHeld => ?_)
   ·(try dsimp only); exact HK
   refine stk 0 7 rfl ?_
   refine stk 1 8 rfl ?_
   refine stk 2 9 rfl ?_
   refine stk 3 10 rfl ?_
   refine stk 4 11 rfl ?_
   refine stk 5 12 rfl ?_
   refine stk 6 13 rfl ?_
   refine stk 7 14 rfl ?_ (fun w hSw => exec_ixo (i := p0) _ _ (by rfl) (by rfl) (by rfl) hkn)
   refine stk 8 15 rfl ?_
   refine stk 9 16 rfl ?_ (fun w hSw => exec_obn (off := o + p0 * 11) _ (by rfl) (by rfl) (HX.out _ hSw.out.b))
   refine stk 10 17 rfl ?_
   refine stk 11 18 rfl ?_ (fun w hSw => kcm_n hSw 0 _ (by rfl) (by rfl) (by rfl))
   refine stk 12 19 rfl ?_ (fun w hSw => exec_slt (x := x.v.name) (y := c.name) _ _ (by rfl) (by rfl) (by rfl) HL.out)
   refine stk 13 20 rfl ?_
   refine wpAnyH_done (by kernel_rfl) ?_ _
   replace HK := hHeld
   go_wp2_with (first | refine wpList_of_exec (v := .agg (obA x)) (by rfl) (exec_obx (off := o + p0 * 11) _ (by rfl) (by rfl) (HX.out _ HK.out.b)) ?_ | (refine wpList_mk1 obLay (p := x) HK (by decide) rfl _ rfl rfl rfl ?_; intro _ g11 HK'; have HR := zH (Kn.lastOwn HK'.out).rd; simp only [lcA, lnA] at HK'; replace HK := HK'; clear HK') | (at_builtin; refine wpList_kmore HK obLay 0 rfl _ _ rfl rfl rfl [x] rfl rfl HR HGr (N := p0 + 1) HN3 ?_; intro A8 c8 _ HK'; simp only [List.set] at HK'; replace HK := HK'; clear HK') | refine zX (exec_add1 (j := p0) _ (by rfl) (by rfl) hk3) ?_)
   refine ⟨⟨p0 + 1, A8, c8, by omega, rfl, by go_num, zH ?_⟩, by simp [intOf]; omega⟩
   rw [Lay.take_succ HXx.out]
   exact HK.out.takeR 1
  ·obtain rfl : p0 = p := by omega
   clear hlt hk
   by_cases hkn : p0 < n
   ·have hk2 : (p0 : Int) < (n : Int) := by omega
    obtain ⟨x, hx⟩ := HG.out p0 hkn
    obtain ⟨b, o, rfl, hat⟩ := HS.out.s.at (Nat.lt_of_le_of_lt (Nat.zero_le _) hkn)
    have HX : Hid (∀ W, Below w.heap.size w W → ∀ j v, (obL x)[j]? = some v → W.cell? ⟨b, o + p0 * 11 + j, none⟩ = some v) := zH fun W hW => hat W hW p0 x hx
    have HL := zH (HA.out x hx)
    clear hat hx
    go_wp2_with fail
    replace HK := zH HK.out.drew
    refine wp_region_held_drew (S := (fun W => Hid (Kn w.heap.size w W [(w.heap.size, 29, cmA c)] [row obLay (.slice A3 p0 c3) (l.take p0)]))) (by kernel_rfl) ?_ (fun hHeld => ?_)
    ·(try dsimp only); exact HK
    refine stk 0 7 rfl ?_
    refine stk 1 8 rfl ?_
    refine stk 2 9 rfl ?_
    refine stk 3 10 rfl ?_
    refine stk 4 11 rfl ?_
    refine stk 5 12 rfl ?_
    refine stk 6 13 rfl ?_
    refine stk 7 14 rfl ?_ (fun w hSw => exec_ixo (i := p0) _ _ (by rfl) (by rfl) (by rfl) hkn)
    refine stk 8 15 rfl ?_
    refine stk 9 16 rfl ?_ (fun w hSw => exec_obn (off := o + p0 * 11) _ (by rfl) (by rfl) (HX.out _ hSw.out.b))
    refine stk 10 17 rfl ?_
    refine stk 11 18 rfl ?_ (fun w hSw => kcm_n hSw 0 _ (by rfl) (by rfl) (by rfl))
    refine stk 12 19 rfl ?_ (fun w hSw => exec_slt (x := x.v.name) (y := c.name) _ _ (by rfl) (by rfl) (by rfl) HL.out)
    refine stk 13 20 rfl ?_
    refine wpAnyH_done (by kernel_rfl) ?_ _
    replace HK := hHeld
    clear HB HA
    have HGr : Hid ((l.take p0).length + 1 ≤ 9223372036854775807 ∧ ((l.take p0).length + 1) * obLay.bytes ≤ 211106232532992) := zH (by
     rw [List.length_take, HNl.out, Nat.min_eq_left hpn]
     refine ⟨by omega, ?_⟩
     show (p0 + 1) * 144 ≤ _
     omega)
    have HN3 : Hid ((l.take p0 ++ [frO c]).length = p0 + 1) := zH (by rw [List.length_append, List.length_take, HNl.out, Nat.min_eq_left hpn]; rfl)
    have HDl : Hid (n - p0 = (l.drop p0).length) := zH (by rw [List.length_drop, HNl.out])
    have HG2 : Hid ((l.take p0 ++ [frO c]).length + (l.drop p0).length ≤ 9223372036854775807 ∧ ((l.take p0 ++ [frO c]).length + (l.drop p0).length) * obLay.bytes ≤ 211106232532992) := zH (by
     rw [HN3.out, ← HDl.out]
     refine ⟨by omega, ?_⟩
     show (p0 + 1 + (n - p0)) * 144 ≤ _
     omega)
    have HN4 : Hid (((l.take p0 ++ [frO c]) ++ l.drop p0).length = n + 1) := zH (by rw [List.length_append, HN3.out, ← HDl.out]; omega)
    go_wp2_with (first | refine zX (kcm_n HK 0 _ (by rfl) (by rfl) (by rfl)) ?_ | refine zX (kcm_N HK 0 _ (by rfl) (by rfl) (by rfl)) ?_ | refine zX (kcm_M HK 0 _ (by rfl) (by rfl) (by rfl)) ?_ | refine zX (exec_bfr (c := c) _ _ _ (by rfl) (by rfl) (by rfl) (by rfl)) ?_ | (refine wpList_mk1 obLay (p := frO c) HK (by decide) rfl _ rfl rfl rfl ?_; intro _ g11 HK'; have HR := zH (Kn.lastOwn HK'.out).rd; simp only [lcA, lnA] at HK'; replace HK := HK'; clear HK') | (at_builtin; refine wpList_kmore HK obLay 0 rfl _ _ rfl rfl rfl [frO c] rfl rfl HR HGr (N := p0 + 1) HN3 ?_; intro A8 c8 _ HK'; simp only [List.set] at HK'; replace HK := HK'; clear HK') | (refine zX (exec_sls_l obLay (lo := p0) _ _ (by rfl) (by rfl) (by rfl) hpn) ?_; have HRd := zH (let h := ((HS.out.s.drop hpn).later HK.out.b); And.intro h.rd h.nl)) | (at_builtin; refine wpList_kmore HK obLay 0 rfl _ _ rfl rfl rfl (l.drop p0) rfl HDl.out HRd HG2 (N := n + 1) HN4 ?_; intro A9 c9 _ HK'; simp only [List.set] at HK'; replace HK := HK'; clear HK'))
    go_ret
    exact ⟨_, _, _, rfl, HK.out.own (La := obLay) 0 rfl, HK.out.b⟩
   ·have hk2 : ¬ (p0 : Int) < (n : Int) := by omega
    go_wp2_with fail
    replace HK := zH HK.out.drew
    refine wp_region_held_drew (S := (fun W => Hid (Kn w.heap.size w W [(w.heap.size, 29, cmA c)] [row obLay (.slice A3 p0 c3) (l.take p0)]))) (by kernel_rfl) ?_ (fun hHeld => ?_)
    ·(try dsimp only); exact HK
    refine stk 0 7 rfl ?_
    refine stk 1 8 rfl ?_
    refine stk 2 9 rfl ?_
    refine stk 3 10 rfl ?_
    refine stk 4 11 rfl ?_
    refine stu 5 12 rfl ?_
    refine stu 6 13 rfl ?_
    refine stu 7 14 rfl ?_
    refine stu 8 15 rfl ?_
    refine stu 9 16 rfl ?_
    refine stu 10 17 rfl ?_
    refine stu 11 18 rfl ?_
    refine stu 12 19 rfl ?_
    refine stk 13 20 rfl ?_
    refine wpAnyH_done (by kernel_rfl) ?_ _
    replace HK := hHeld
    clear HB HA
    have HGr : Hid ((l.take p0).length + 1 ≤ 9223372036854775807 ∧ ((l.take p0).length + 1) * obLay.bytes ≤ 211106232532992) := zH (by
     rw [List.length_take, HNl.out, Nat.min_eq_left hpn]
     refine ⟨by omega, ?_⟩
     show (p0 + 1) * 144 ≤ _
     omega)
    have HN3 : Hid ((l.take p0 ++ [frO c]).length = p0 + 1) := zH (by rw [List.length_append, List.length_take, HNl.out, Nat.min_eq_left hpn]; rfl)
    have HDl : Hid (n - p0 = (l.drop p0).length) := zH (by rw [List.length_drop, HNl.out])
    have HG2 : Hid ((l.take p0 ++ [frO c]).length + (l.drop p0).length ≤ 9223372036854775807 ∧ ((l.take p0 ++ [frO c]).length + (l.drop p0).length) * obLay.bytes ≤ 211106232532992) := zH (by
     rw [HN3.out, ← HDl.out]
     refine ⟨by omega, ?_⟩
     show (p0 + 1 + (n - p0)) * 144 ≤ _
     omega)
    have HN4 : Hid (((l.take p0 ++ [frO c]) ++ l.drop p0).length = n + 1) := zH (by rw [List.length_append, HN3.out, ← HDl.out]; omega)
    go_wp2_with (first | refine zX (kcm_n HK 0 _ (by rfl) (by rfl) (by rfl)) ?_ | refine zX (kcm_N HK 0 _ (by rfl) (by rfl) (by rfl)) ?_ | refine zX (kcm_M HK 0 _ (by rfl) (by rfl) (by rfl)) ?_ | refine zX (exec_bfr (c := c) _ _ _ (by rfl) (by rfl) (by rfl) (by rfl)) ?_ | (refine wpList_mk1 obLay (p := frO c) HK (by decide) rfl _ rfl rfl rfl ?_; intro _ g11 HK'; have HR := zH (Kn.lastOwn HK'.out).rd; simp only [lcA, lnA] at HK'; replace HK := HK'; clear HK') | (at_builtin; refine wpList_kmore HK obLay 0 rfl _ _ rfl rfl rfl [frO c] rfl rfl HR HGr (N := p0 + 1) HN3 ?_; intro A8 c8 _ HK'; simp only [List.set] at HK'; replace HK := HK'; clear HK') | (refine zX (exec_sls_l obLay (lo := p0) _ _ (by rfl) (by rfl) (by rfl) hpn) ?_; have HRd := zH (let h := ((HS.out.s.drop hpn).later HK.out.b); And.intro h.rd h.nl)) | (at_builtin; refine wpList_kmore HK obLay 0 rfl _ _ rfl rfl rfl (l.drop p0) rfl HDl.out HRd HG2 (N := n + 1) HN4 ?_; intro A9 c9 _ HK'; simp only [List.set] at HK'; replace HK := HK'; clear HK'))
    go_ret
    exact ⟨_, _, _, rfl, HK.out.own (La := obLay) 0 rfl, HK.out.b⟩
end Go.Proofs.YtpkodjllljnleaaGreat
