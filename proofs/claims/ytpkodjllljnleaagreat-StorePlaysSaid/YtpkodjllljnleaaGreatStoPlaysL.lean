/- What the law StorePlays returns: true. No condition but those named. -/
import Derived.Test.YtpkodjllljnleaaGreatTk
import Derived.Test.YtpkodjllljnleaaGreatStoEq
import Derived.Test.YtpkodjllljnleaaGreatMP
import Derived.Test.YtpkodjllljnleaaGreatStoRouts
import Derived.Test.YtpkodjllljnleaaGreatStoRDoB
import Derived.Test.YtpkodjllljnleaaGreatStoDrop
import Derived.Test.YtpkodjllljnleaaGreatStoRDrop
import Derived.Test.YtpkodjllljnleaaGreatStoRtM
import Derived.Test.YtpkodjllljnleaaGreatStoPOps
set_option linter.unusedSimpArgs false
set_option linter.unusedVariables false
namespace Go.Proofs.YtpkodjllljnleaaGreat
open Go.RowKit
set_option maxRecDepth 100000 in
set_option maxHeartbeats 25600000 in
theorem plays_yes (A : Option Addr) (cp n : Nat) (l : List POp) (w : World) (hs : Sls popLay pF w A n cp l) :
  Calls Tryz.prog 5 #[.slice A n cp] w (fun e w' => e = .returned (.bool true) ∧ Below w.heap.size w w') := by
 have HA := zH oawake_any
 have HS := zH same_yes
 have HO := zH outs_yes
 have HRt : Hid (∀ (A1 : Option Addr) (n1 c1 : Nat) (l1 : List Oh) (W : World), Sto.Right (vs l1) → Obs W A1 n1 c1 l1 → Calls Tryz.prog 14 #[.slice A1 n1 c1] W (IsB true W)) := zH fun A1 n1 c1 l1 W h hw => by
  have h2 := oright_any A1 c1 n1 l1 W hw
  rw [decide_eq_true h] at h2
  exact h2
 have HDr : Hid (∀ (A1 : Option Addr) (n1 c1 : Nat) (l1 : List Oh) (r : Rf) (W : World), Obs W A1 n1 c1 l1 → Calls Tryz.prog 12 #[.slice A1 n1 c1, .agg #[.int .i64 r.c, .int .i64 r.e, .int .i64 r.r]] W (IsDp (fun _ => True) (Sto.dropL (vs l1) r) (Sto.dropO (vs l1) r) W)) := zH fun A1 n1 c1 l1 r W hw => sdrop_any A1 c1 n1 l1 r W hw
 have HRr : Hid (∀ (Rk : List RowE) (A1 : Option Addr) (n1 c1 : Nat) (l1 : List Oh) (r : Rf) (W : World), (∀ (b : Nat) (W0 W : World) L R, Kn b W0 W L R → (∀ y ∈ Rk, y ∈ R) → Obs W A1 n1 c1 l1) → Obs W A1 n1 c1 l1 → Calls Tryz.prog 13 #[.slice A1 n1 c1, .agg #[.int .i64 r.c, .int .i64 r.e, .int .i64 r.r]] W (IsDp (InR Rk) (Sto.dropL (vs l1) r) (Sto.dropO (vs l1) r) W)) := zH fun Rk A1 n1 c1 l1 r W h hw => rdrop_any (InR Rk) A1 c1 n1 l1 r W (fun W' ⟨b, W0, L, R, K, hm⟩ => h b W0 W' L R K hm) hw
 have HD : Hid (∀ (A1 : Option Addr) (n1 c1 : Nat) (l1 : List Oh) (r : Rf) (c : Cmd.C) (W : World), Obs W A1 n1 c1 l1 → c.val.f < 18446744073709551616 → c.old.f < 18446744073709551616 → Calls Tryz.prog 7 #[.slice A1 n1 c1, .agg #[.int .i64 r.c, .int .i64 r.e, .int .i64 r.r], .agg (cmA c)] W (IsDo (Sto.doo (vs l1) r c) W)) := zH fun A1 n1 c1 l1 r c W hw hv ho => sdo_any A1 c1 n1 l1 r c W hw hv ho
 have HR : Hid (∀ (Rk : List RowE) (A1 : Option Addr) (n1 c1 : Nat) (l1 : List Oh) (r : Rf) (c : Cmd.C) (W : World), (∀ (b : Nat) (W0 W : World) L R, Kn b W0 W L R → (∀ y ∈ Rk, y ∈ R) → Obs W A1 n1 c1 l1) → Obs W A1 n1 c1 l1 → c.val.f < 18446744073709551616 → c.old.f < 18446744073709551616 → Calls Tryz.prog 8 #[.slice A1 n1 c1, .agg #[.int .i64 r.c, .int .i64 r.e, .int .i64 r.r], .agg (cmA c)] W (IsRD (InR Rk) (Sto.doo (vs l1) r c) W)) := zH fun Rk A1 n1 c1 l1 r c W h hw hv ho => rdo_any (InR Rk) A1 c1 n1 l1 r c W (fun W' ⟨b, W0, L, R, K, hm⟩ => h b W0 W' L R K hm) hw hv ho
 have HSl := zH hs
 have HNl : Hid (l.length = n) := zH hs.len
 have hbig : n * 168 ≤ 140737488355328 := hs.big
 have HK := zH (Kn.start w)
 unfold IsB at HA HS HO HRt
 unfold IsDp at HDr HRr
 unfold IsDo at HD
 unfold IsRD at HR
 clear hs
 go_enter Tryz.func5, Tryz.ntmps5
 go_wp2_with fail
 go_loopw [3, 4, 5] (fun vl vm vi wr => ∃ (k : Nat) (A3 : Option Addr) (n3 c3 : Nat) (l3 : List Oh) (A4 : Option Addr) (n4 c4 : Nat) (l4 : List Oh) (Rk : List RowE), k ≤ n ∧ k ≤ 80 ∧ vl = .slice A3 n3 c3 ∧ vm = .slice A4 n4 c4 ∧ vi = .int .i64 k ∧ Hid (vs l3 = vs l4) ∧ Hid (Sto.Right (vs l3)) ∧ Hid (∀ (b : Nat) (W0 W : World) L R, Kn b W0 W L R → (∀ y ∈ Rk, y ∈ R) → Obs W A3 n3 c3 l3 ∧ Obs W A4 n4 c4 l4) ∧ Hid (Kn w.heap.size w wr [] Rk)) (fun _ _ vi _ => 80 - (intOf vi).toNat)
 case atStart => exact ⟨0, none, 0, 0, [], none, 0, 0, [], [], Nat.zero_le _, Nat.zero_le _, rfl, rfl, rfl, zH rfl, zH Sto.right_nil, zH (fun _ _ W _ _ _ _ => ⟨Obs.none W, Obs.none W⟩), HK⟩
 case round =>
  clear HK
  obtain ⟨k, A3, n3, c3, l3, A4, n4, c4, l4, Rk, hk, hk8, rfl, rfl, rfl, HV, HRs, HOb, HK⟩ := hrel
  have hk1 : (0 : Int) ≤ (k : Int) := by omega
  have hk3 : k < 9223372036854775807 := by omega
  by_cases hkn : k < n
  case neg =>
   have hk2 : ¬ (k : Int) < (n : Int) := by omega
   go_wp2_with fail
   refine (HA.out _).mono ?_; rintro e w1 ⟨rfl, b1⟩
   replace HK := hkC HK b1; clear b1
   go_wp2_with fail
   go_ret
   exact ⟨rfl, HK.out.b⟩
  have hk2 : (k : Int) < (n : Int) := by omega
  by_cases hk80 : k < 80
  case neg =>
   have hk4 : ¬ (k : Int) < 80 := by omega
   go_wp2_with fail
   refine (HA.out _).mono ?_; rintro e w1 ⟨rfl, b1⟩
   replace HK := hkC HK b1; clear b1
   go_wp2_with fail
   go_ret
   exact ⟨rfl, HK.out.b⟩
  have hk4 : (k : Int) < 80 := by omega
  obtain ⟨x, hx, hpf⟩ := HSl.out.get hkn
  obtain ⟨b, o, rfl, hat⟩ := HSl.out.at (Nat.lt_of_le_of_lt (Nat.zero_le _) hkn)
  have HX : Hid (∀ j v, (popL x)[j]? = some v → wr.cell? ⟨b, o + k * 17 + j, none⟩ = some v) := zH (hat wr HK.out.b k x hx)
  have HPf := zH hpf
  clear hx hat hpf HA
  obtain ⟨r, c, d⟩ := x
  cases d
  case true =>
   go_wp2_with (first | refine zX (exec_ixp (i := k) _ _ (by rfl) (by rfl) (by rfl) hkn) ?_ | refine zX (exec_lop (x := ⟨r, c, true⟩) (off := o + k * 17) _ (by rfl) (by rfl) HX.out) ?_ | (refine wpList_apop HK rfl rfl ?_; intro _ g6 HK'; simp only [lnA] at HK'; replace HK := HK'; clear HK') | (refine wpList_spop (y := ⟨r, c, true⟩) HK 0 rfl _ _ rfl rfl rfl rfl ?_; intro _ HK'; simp only [List.set] at HK'; replace HK := HK'; clear HK') | refine zX (kpop_d HK 0 _ (by rfl) (by rfl) (by rfl)) ?_ | refine zX (kpop_r HK 0 _ (by rfl) (by rfl) (by rfl)) ?_ | refine zX (kpop_c HK 0 _ (by rfl) (by rfl) (by rfl)) ?_)
   refine (HDr.out A3 n3 c3 l3 r _ (HOb.out _ _ _ _ _ HK.out (fun y hy => hy)).1).mono ?_; rintro e w2 ⟨A5, n5, c5, l5, O5, k5, d5, R5, rfl, HV5, kn5, HI5⟩
   replace HK := zH (HK.out.join kn5)
   clear kn5
   go_wp2_with (first | refine zX (kpop_r HK 0 _ (by rfl) (by rfl) (by rfl)) ?_)
   refine (HRr.out Rk A4 n4 c4 l4 r _ (fun _ _ _ _ _ K hm => (HOb.out _ _ _ _ _ K hm).2) (HOb.out _ _ _ _ _ HK.out (fun y hy => List.mem_append_left _ hy)).2).mono ?_; rintro e w2 ⟨A6, n6, c6, l6, O6, k6, d6, R6, rfl, HV6, kn6, HI6⟩
   replace HK := zH (HK.out.join kn6)
   clear kn6
   rw [← HV.out] at HV6 HI6
   have HRn := zH (Sto.drop_right HRs.out r)
   rw [← HV5.out] at HRn
   generalize Sto.dropO (vs l3) r = os at *
   obtain rfl : k5 = k6 := (HI5.out _ _ _ _ _ HK.out (fun y hy => List.mem_append_left _ (List.mem_append_right _ hy)) trivial).2.len.symm.trans (HI6.out _ _ _ _ _ HK.out (fun y hy => List.mem_append_right _ hy) ⟨_, _, _, _, HK.out, (fun y hy => List.mem_append_left _ (List.mem_append_left _ hy))⟩).2.len
   have HE := zH (HV5.out.trans HV6.out.symm)
   go_wp2_with fail
   refine (HO.out _ _ _ _ _ _ _ (HI5.out _ _ _ _ _ HK.out (fun y hy => List.mem_append_left _ (List.mem_append_right _ hy)) trivial).2 (HI6.out _ _ _ _ _ HK.out (fun y hy => List.mem_append_right _ hy) ⟨_, _, _, _, HK.out, (fun y hy => List.mem_append_left _ (List.mem_append_left _ hy))⟩).2).mono ?_; rintro e w1 ⟨rfl, b1⟩
   replace HK := hkC HK b1; clear b1
   go_wp2_with fail
   refine (HS.out _ _ _ _ _ _ _ _ _ (HI5.out _ _ _ _ _ HK.out (fun y hy => List.mem_append_left _ (List.mem_append_right _ hy)) trivial).1 (HI6.out _ _ _ _ _ HK.out (fun y hy => List.mem_append_right _ hy) ⟨_, _, _, _, HK.out, (fun y hy => List.mem_append_left _ (List.mem_append_left _ hy))⟩).1 HE.out).mono ?_; rintro e w1 ⟨rfl, b1⟩
   replace HK := hkC HK b1; clear b1
   go_wp2_with fail
   refine (HRt.out _ _ _ _ _ HRn.out (HI5.out _ _ _ _ _ HK.out (fun y hy => List.mem_append_left _ (List.mem_append_right _ hy)) trivial).1).mono ?_; rintro e w1 ⟨rfl, b1⟩
   replace HK := hkC HK b1; clear b1
   go_wp2_with (first | refine zX (exec_add1 (j := k) _ (by rfl) (by rfl) hk3) ?_)
   exact ⟨⟨k + 1, A5, n5, c5, l5, A6, n6, c6, l6, _, by omega, by omega, rfl, rfl, by go_num, HE, HRn, zH (fun _ _ _ _ _ K hm => ⟨(HI5.out _ _ _ _ _ K (fun y hy => hm _ (List.mem_append_left _ (List.mem_append_right _ hy))) trivial).1, (HI6.out _ _ _ _ _ K (fun y hy => hm _ (List.mem_append_right _ hy)) ⟨_, _, _, _, K, fun y hy => hm _ (List.mem_append_left _ (List.mem_append_left _ hy))⟩).1⟩), zH (HK.out.takeL 0)⟩, by simp [intOf]; omega⟩
  case false =>
   go_wp2_with (first | refine zX (exec_ixp (i := k) _ _ (by rfl) (by rfl) (by rfl) hkn) ?_ | refine zX (exec_lop (x := ⟨r, c, false⟩) (off := o + k * 17) _ (by rfl) (by rfl) HX.out) ?_ | (refine wpList_apop HK rfl rfl ?_; intro _ g6 HK'; simp only [lnA] at HK'; replace HK := HK'; clear HK') | (refine wpList_spop (y := ⟨r, c, false⟩) HK 0 rfl _ _ rfl rfl rfl rfl ?_; intro _ HK'; simp only [List.set] at HK'; replace HK := HK'; clear HK') | refine zX (kpop_d HK 0 _ (by rfl) (by rfl) (by rfl)) ?_ | refine zX (kpop_r HK 0 _ (by rfl) (by rfl) (by rfl)) ?_ | refine zX (kpop_c HK 0 _ (by rfl) (by rfl) (by rfl)) ?_)
   refine (HD.out A3 n3 c3 l3 r c _ (HOb.out _ _ _ _ _ HK.out (fun y hy => hy)).1 HPf.out.1 HPf.out.2).mono ?_; rintro e w2 ⟨A5, n5, c5, l5, O5, k5, d5, R5, rfl, v5, kn5, i5⟩
   replace HK := zH (HK.out.join kn5)
   have HV5 := zH v5
   have HI5 := zH i5
   clear v5 kn5 i5
   have HV3 : Hid (Sto.doo (vs l4) r c = Sto.doo (vs l3) r c) := zH (by rw [HV.out])
   have HRn := zH (Sto.doo_right HRs.out r c)
   rw [← HV5.out] at HRn
   have HR4 := zH (fun W h hw => HR.out Rk A4 n4 c4 l4 r c W h hw HPf.out.1 HPf.out.2)
   rw [HV3.out] at HR4
   clear HV3
   generalize Sto.doo (vs l3) r c = Y at *
   obtain ⟨yl, yp, yt, ys⟩ := Y
   simp only at HR4 HV5 HI5
   go_wp2_with (first | (refine wpList_arp HK rfl rfl ?_; intro _ g9 HK'; simp only [lcA, lnA] at HK'; replace HK := HK'; clear HK') | (refine wpList_srp (q := yp) HK 1 rfl _ _ rfl rfl rfl rfl ?_; intro _ HK'; simp only [List.set] at HK'; replace HK := HK'; clear HK') | refine zX (kpop_r HK 0 _ (by rfl) (by rfl) (by rfl)) ?_ | refine zX (kpop_c HK 0 _ (by rfl) (by rfl) (by rfl)) ?_)
   refine (HR4.out _ (fun _ _ _ _ _ K hm => (HOb.out _ _ _ _ _ K hm).2) (HOb.out _ _ _ _ _ HK.out (fun y hy => List.mem_append_left _ hy)).2).mono ?_; rintro e w2 ⟨A6, n6, c6, l6, O6, k6, d6, R6, rfl, v6, kn6, i6⟩
   replace HK := zH (HK.out.join kn6)
   have HE := zH (HV5.out.trans v6.symm)
   have HI6 := zH i6
   clear v6 kn6 i6 HR4
   obtain rfl : k5 = k6 := (HI5.out _ _ _ _ _ HK.out (fun y hy => List.mem_append_left _ (List.mem_append_right _ hy))).2.len.symm.trans (HI6.out _ _ _ _ _ HK.out (fun y hy => List.mem_append_right _ hy) ⟨_, _, _, _, HK.out, (fun y hy => List.mem_append_left _ (List.mem_append_left _ hy))⟩).2.len
   go_wp2_with (first | (refine wpList_arp HK rfl rfl ?_; intro _ g13 HK'; simp only [lcA, lnA] at HK'; replace HK := HK'; clear HK') | (refine wpList_srp (q := yp) HK 2 rfl _ _ rfl rfl rfl rfl ?_; intro _ HK'; simp only [List.set] at HK'; replace HK := HK'; clear HK') | refine zX (krp HK 1 _ (by rfl) (by rfl) (by rfl)) ?_ | refine zX (krp HK 2 _ (by rfl) (by rfl) (by rfl)) ?_ | refine zX (exec_rpN (x := yp) _ _ (by rfl) (by rfl) (by rfl)) ?_ | refine zX (exec_bn (x := yt) _ _ (by rfl) (by rfl) (by rfl)) ?_)
   refine (HO.out _ _ _ _ _ _ _ (HI5.out _ _ _ _ _ HK.out (fun y hy => List.mem_append_left _ (List.mem_append_right _ hy))).2 (HI6.out _ _ _ _ _ HK.out (fun y hy => List.mem_append_right _ hy) ⟨_, _, _, _, HK.out, (fun y hy => List.mem_append_left _ (List.mem_append_left _ hy))⟩).2).mono ?_; rintro e w1 ⟨rfl, b1⟩
   replace HK := hkC HK b1; clear b1
   go_wp2_with fail
   refine (HS.out _ _ _ _ _ _ _ _ _ (HI5.out _ _ _ _ _ HK.out (fun y hy => List.mem_append_left _ (List.mem_append_right _ hy))).1 (HI6.out _ _ _ _ _ HK.out (fun y hy => List.mem_append_right _ hy) ⟨_, _, _, _, HK.out, (fun y hy => List.mem_append_left _ (List.mem_append_left _ hy))⟩).1 HE.out).mono ?_; rintro e w1 ⟨rfl, b1⟩
   replace HK := hkC HK b1; clear b1
   go_wp2_with fail
   refine (HRt.out _ _ _ _ _ HRn.out (HI5.out _ _ _ _ _ HK.out (fun y hy => List.mem_append_left _ (List.mem_append_right _ hy))).1).mono ?_; rintro e w1 ⟨rfl, b1⟩
   replace HK := hkC HK b1; clear b1
   go_wp2_with (first | refine zX (exec_add1 (j := k) _ (by rfl) (by rfl) hk3) ?_)
   exact ⟨⟨k + 1, A5, n5, c5, l5, A6, n6, c6, l6, _, by omega, by omega, rfl, rfl, by go_num, HE, HRn, zH (fun _ _ _ _ _ K hm => ⟨(HI5.out _ _ _ _ _ K (fun y hy => hm _ (List.mem_append_left _ (List.mem_append_right _ hy)))).1, (HI6.out _ _ _ _ _ K (fun y hy => hm _ (List.mem_append_right _ hy)) ⟨_, _, _, _, K, fun y hy => hm _ (List.mem_append_left _ (List.mem_append_left _ hy))⟩).1⟩), zH (HK.out.takeL 0)⟩, by simp [intOf]; omega⟩
end Go.Proofs.YtpkodjllljnleaaGreat
