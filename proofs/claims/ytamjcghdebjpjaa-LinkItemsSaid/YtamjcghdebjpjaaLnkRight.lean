/-
  What isSlot, right, the document's Int and Text return.
  No condition but those named.
-/
import Derived.Test.YtamjcghdebjpjaaLnkItm
namespace Go.Proofs.Ytamjcghdebjpjaa
open Go.RowKit

def slotB (n : Int) : Bool := decide (0 ≤ n ∧ n < 7)
/-- May it be a packet? -/
def Right (p : Lnk.Pkt) : Prop := (0 ≤ p.fs ∧ p.fs < 7) ∧ (0 ≤ p.ts ∧ p.ts < 7) ∧ 1 ≤ p.fc ∧ 0 ≤ p.tc ∧ 0 ≤ p.seq ∧ 0 ≤ p.ack ∧ (0 < p.seq ∨ p.body.toList = [])
instance (p : Lnk.Pkt) : Decidable (Right p) := by unfold Right; infer_instance
theorem slot_is (n : Int) (r : Bool) (h : slotB n = r) : (r = true ∧ 0 ≤ n ∧ n < 7) ∨ (r = false ∧ (¬ 0 ≤ n ∨ (0 ≤ n ∧ ¬ n < 7))) := by
  subst h
  unfold slotB
  by_cases h1 : 0 ≤ n <;> by_cases h2 : n < 7 <;> simp [h1, h2] <;> omega
set_option maxHeartbeats 800000 in
theorem slot_any (n : Int) (w : World) : Calls Try.prog 45 #[.int .i64 n] w fun e w' => e = .returned (.bool (slotB n)) ∧ w' = w := by
  have h := slot_is n _ rfl
  generalize slotB n = r at *
  rcases h with ⟨rfl, h1, h2⟩ | ⟨rfl, h1 | ⟨h1, h2⟩⟩
  all_goals
    go_enter Try.func45, Try.ntmps45
    go_wp2_with fail
    go_ret
    exact ⟨rfl, rfl⟩
set_option maxHeartbeats 6400000 in
theorem right_any (p : Lnk.Pkt) (w : World) : Calls Try.prog 35 #[.agg (pA p)] w fun e w' => e = .returned (.bool (decide (Right p))) ∧ Below w.heap.size w w' := by
  have HE : Hid (∀ q : Bool, (q = true ↔ (slotB p.fs = true ∧ slotB p.ts = true ∧ 1 ≤ p.fc ∧ 0 ≤ p.tc ∧ 0 ≤ p.seq ∧ 0 ≤ p.ack ∧ (0 < p.seq ∨ p.body.toList = []))) → q = decide (Right p)) := Lib.hid fun q hq => by
    rw [Bool.eq_iff_iff, hq, decide_eq_true_eq]
    unfold Right slotB
    simp only [decide_eq_true_eq]
  generalize decide (Right p) = r at *
  obtain ⟨fs, fc, ts, tc, seq, ack, body⟩ := p
  unfold pA
  simp only at HE ⊢
  have HK := kn1 w 36 (pC fs fc ts tc seq ack body)
  have HS := Lib.hid slot_any
  have p0 : (pC fs fc ts tc seq ack body)[0]? = some (.int .i64 fs) := rfl
  have p1 : (pC fs fc ts tc seq ack body)[1]? = some (.int .i64 fc) := rfl
  have p2 : (pC fs fc ts tc seq ack body)[2]? = some (.int .i64 ts) := rfl
  have p3 : (pC fs fc ts tc seq ack body)[3]? = some (.int .i64 tc) := rfl
  have p4 : (pC fs fc ts tc seq ack body)[4]? = some (.int .i64 seq) := rfl
  have p5 : (pC fs fc ts tc seq ack body)[5]? = some (.int .i64 ack) := rfl
  have p6 : (pC fs fc ts tc seq ack body)[6]? = some (.string body) := rfl
  generalize pC fs fc ts tc seq ack body = pa at *
  generalize hs1 : slotB fs = s1 at *
  generalize hs2 : slotB ts = s2 at *
  have H1 : Hid (∀ W, Calls Try.prog 45 #[.int .i64 fs] W fun e w' => e = .returned (.bool s1) ∧ w' = W) := Lib.hid fun W => hs1 ▸ HS.out fs W
  have H2 : Hid (∀ W, Calls Try.prog 45 #[.int .i64 ts] W fun e w' => e = .returned (.bool s2) ∧ w' = W) := Lib.hid fun W => hs2 ▸ HS.out ts W
  clear HS hs1 hs2
  cases s1
  · go_enter Try.func35, Try.ntmps35
    go_wp2_with fail
    refine (H1.out _).mono ?_; rintro e w1 ⟨rfl, rfl⟩
    go_wp2_with fail
    go_ret
    exact ⟨congrArg (fun b => Ending.returned (.bool b)) (HE.out _ (by simp)), HK.out.b⟩
  cases s2
  · go_enter Try.func35, Try.ntmps35
    go_wp2_with fail
    refine (H1.out _).mono ?_; rintro e w1 ⟨rfl, rfl⟩
    go_wp2_with fail
    refine (H2.out _).mono ?_; rintro e w1 ⟨rfl, rfl⟩
    go_wp2_with fail
    go_ret
    exact ⟨congrArg (fun b => Ending.returned (.bool b)) (HE.out _ (by simp)), HK.out.b⟩
  · go_enter Try.func35, Try.ntmps35
    go_wp2_with fail
    refine (H1.out _).mono ?_; rintro e w1 ⟨rfl, rfl⟩
    go_wp2_with fail
    refine (H2.out _).mono ?_; rintro e w1 ⟨rfl, rfl⟩
    go_wp2_with fail
    all_goals
      go_ret
      refine ⟨congrArg (fun b => Ending.returned (.bool b)) (HE.out _ ?_), HK.out.b⟩
      clear HE HK p0 p1 p2 p3 p4 p5 p6 H1 H2
      simp_all <;> omega
theorem ret_two {f : Func} {R : Ending → World → Prop} {a : Act} {w : World} {u v : Value} {k q : Tmp} (hf : f.results = #[.tmp k, .tmp q]) (h2 : a.tmps[k]? = some u) (h4 : a.tmps[q]? = some v) (hd : a.defers = []) (hR : R (.returned (.tuple #[u, v])) w) : bodyPost Try.prog f R Exit.ret a w := by
  refine bodyPost_ret (v := .tuple #[u, v]) ?_ hd hR
  simp [results, hf, Sem.run_bind, h2, h4]
set_option maxHeartbeats 1600000 in
theorem rint_any (A : Option Addr) (c : Nat) (l : List Itm.It) (i : Nat) (x : Itm.It) (w : World) (hl : l.length ≤ 1000) (hx : l[i]? = some x) (hk : x.k = 0) (hi : itemLay.Reads w w.heap.size A l) :
    Calls Try.prog 37 #[.slice A l.length c, .int .i64 i] w fun e w' => e = .returned (.tuple #[.int .i64 x.n, .bool true]) ∧ w' = w := by
  have hlt : i < l.length := (List.getElem?_eq_some_iff.1 hx).1
  obtain ⟨b, o, rfl, _, hc⟩ := hi (by omega)
  obtain ⟨c0, c1, c2⟩ := at_item (hc i x hx)
  obtain ⟨xk, xn, xs⟩ := x
  simp only at hk c0 c1 c2 ⊢
  subst hk
  generalize l.length = n at *
  have h1 : (0 : Int) ≤ (i : Int) := by omega
  have h2 : (i : Int) < (n : Int) := by omega
  have d1 : decide ((i : Int) < 0) = false := by simp
  have d2 : decide ((n : Int) ≤ (i : Int)) = false := by simp; omega
  clear hc hx hl hi
  go_enter Try.func37, Try.ntmps37
  go_wp2_with fail
  exact ret_two Try.results37 rfl rfl rfl ⟨rfl, rfl⟩
set_option maxHeartbeats 1600000 in
theorem rtext_any (A : Option Addr) (c : Nat) (l : List Itm.It) (i : Nat) (x : Itm.It) (w : World) (hl : l.length ≤ 1000) (hx : l[i]? = some x) (hk : x.k = 1) (hi : itemLay.Reads w w.heap.size A l) :
    Calls Try.prog 38 #[.slice A l.length c, .int .i64 i] w fun e w' => e = .returned (.tuple #[.string x.s, .bool true]) ∧ w' = w := by
  have hlt : i < l.length := (List.getElem?_eq_some_iff.1 hx).1
  obtain ⟨b, o, rfl, _, hc⟩ := hi (by omega)
  obtain ⟨c0, c1, c2⟩ := at_item (hc i x hx)
  obtain ⟨xk, xn, xs⟩ := x
  simp only at hk c0 c1 c2 ⊢
  subst hk
  generalize l.length = n at *
  have h1 : (0 : Int) ≤ (i : Int) := by omega
  have h2 : (i : Int) < (n : Int) := by omega
  have d1 : decide ((i : Int) < 0) = false := by simp
  have d2 : decide ((n : Int) ≤ (i : Int)) = false := by simp; omega
  clear hc hx hl hi
  go_enter Try.func38, Try.ntmps38
  go_wp2_with fail
  exact ret_two Try.results38 rfl rfl rfl ⟨rfl, rfl⟩
end Go.Proofs.Ytamjcghdebjpjaa
