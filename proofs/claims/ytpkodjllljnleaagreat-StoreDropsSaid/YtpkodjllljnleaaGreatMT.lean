/- What the document's none returns. No condition but those named. -/
import Derived.Test.YtpkodjllljnleaaGreatTk
import Derived.Test.YtpkodjllljnleaaGreatMM
import Derived.Test.YtpkodjllljnleaaGreatMS
import Derived.Test.YtpkodjllljnleaaGreatMK
set_option linter.unusedSimpArgs false
set_option linter.unusedVariables false
namespace Go.Proofs.YtpkodjllljnleaaGreat
open Go.RowKit
namespace Sto
def non (o : Ob) : Bool := ((!f0 o || h0 o.kind) && (!f1 o || h1 o.kind) && (!f2 o || h2 o.kind) && (!f3 o || h3 o.kind) && (!f4 o || h4 o.kind) && (!f5 o || h5 o.kind))
theorem clean_non (o : Ob) : clean o = (is o.kind && non o) := rfl
theorem one_non (o : Ob) : One o = (decide (named o.name) && non o && sound o) := by
 unfold One
 rw [clean_non]
 cases hs : sound o with
 | false => simp
 | true => rw [sound_is hs]; simp
end Sto
theorem len0 {n : Nat} : decide (0 < n) = !decide (n = 0) := by
 by_cases h : n = 0
 ·subst h; rfl
 ·rw [decide_eq_true (by omega : 0 < n), decide_eq_false h]; rfl
theorem non_of {o : Sto.Ob} {c p v r d m : Bool} (h0 : Sto.f0 o = !c) (h1 : Sto.f1 o = !p) (h2 : Sto.f2 o = !v) (h3 : Sto.f3 o = !r) (h4 : Sto.f4 o = !d) (h5 : Sto.f5 o = !m) :
  Sto.non o = ((c || Sto.h0 o.kind) && (p || Sto.h1 o.kind) && (v || Sto.h2 o.kind) && (r || Sto.h3 o.kind) && (d || Sto.h4 o.kind) && (m || Sto.h5 o.kind)) := by
 unfold Sto.non
 rw [h0, h1, h2, h3, h4, h5]
 simp only [Bool.not_not]
set_option maxRecDepth 100000 in
set_option maxHeartbeats 12800000 in
theorem rnone_any (x : Oh) (w : World) (hx : In w x) : Calls Tryz.prog 121 #[.agg (obA x)] w (IsB (Sto.non x.v) w) := by
 have hnon := non_of (o := x.v) (c := decide (x.v.cap = 0)) (p := decide (x.pn = 0)) (v := decide (x.vn = 0)) (r := decide (x.rn = 0)) (d := decide (x.v.round = 0)) (m := decide (x.v.mt = Mt.zero)) rfl (by unfold Sto.f1; rw [hx.p.len]; exact len0) (by unfold Sto.f2; rw [hx.v.len]; exact len0) (by unfold Sto.f3; rw [hx.r.len]; exact len0) rfl rfl
 clear hx
 obtain ⟨⟨name, kind, cap, prs, vals, refs, round, ⟨mn, ms, ml, mm⟩⟩, pA, pn, pc, vA, vn, vc, rA, rn, rc⟩ := x
 unfold IsB
 unfold obA
 simp only at hnon ⊢
 have HN := zH hnon
 clear hnon
 generalize Sto.non ⟨name, kind, cap, prs, vals, refs, round, ⟨mn, ms, ml, mm⟩⟩ = z at *
 have hkd : kind = 1 ∨ kind = 2 ∨ kind = 3 ∨ kind = 4 ∨ kind = 5 ∨ ¬ (1 ≤ kind ∧ kind ≤ 5) := by omega
 have HK := kn1 w 55 #[.string name, .int .i64 kind, .int .i64 cap, .slice pA pn pc, .slice vA vn vc, .slice rA rn rc, .int .i64 round, .int .i64 mn, .int .u64 (ms : Int), .int .u64 (ml : Int), .int .u64 (mm : Int)]
 rcases hkd with rfl | rfl | rfl | rfl | rfl | hk
 ·by_cases hv : vn = 0
  case neg =>
   have gv : ((vn : Int) == 0) = false := by simpa using (by omega : ¬ (vn : Int) = 0)
   obtain rfl : z = false := by rw [HN.out]; simp [Sto.h0, Sto.h1, Sto.h2, Sto.h3, Sto.h4, Sto.h5, Mt.zero, hv]
   clear HN
   go_enter Tryz.func121, Tryz.ntmps121
   go_upto_region 1 with fail
   simp only [List.append_eq, lcA, lnA]
   go_wp2_with fail
   go_ret
   exact ⟨rfl, HK.out.b⟩
  case pos =>
  subst hv
  by_cases hr : rn = 0
  case neg =>
   have gr : ((rn : Int) == 0) = false := by simpa using (by omega : ¬ (rn : Int) = 0)
   obtain rfl : z = false := by rw [HN.out]; simp [Sto.h0, Sto.h1, Sto.h2, Sto.h3, Sto.h4, Sto.h5, Mt.zero, hr]
   clear HN
   go_enter Tryz.func121, Tryz.ntmps121
   go_upto_region 1 with fail
   simp only [List.append_eq, lcA, lnA]
   go_wp2_with fail
   go_ret
   exact ⟨rfl, HK.out.b⟩
  case pos =>
  subst hr
  by_cases hd : round = 0
  case neg =>
   have gd : (round == 0) = false := by simpa using hd
   obtain rfl : z = false := by rw [HN.out]; simp [Sto.h0, Sto.h1, Sto.h2, Sto.h3, Sto.h4, Sto.h5, Mt.zero, hd]
   clear HN
   go_enter Tryz.func121, Tryz.ntmps121
   go_upto_region 1 with fail
   simp only [List.append_eq, lcA, lnA]
   go_wp2_with fail
   go_ret
   exact ⟨rfl, HK.out.b⟩
  case pos =>
  subst hd
  by_cases hmn : mn = 0
  case neg =>
   obtain rfl : z = false := by rw [HN.out]; simp [Sto.h0, Sto.h1, Sto.h2, Sto.h3, Sto.h4, Sto.h5, Mt.zero, hmn]
   clear HN
   go_enter Tryz.func121, Tryz.ntmps121
   go_upto_region 1 with fail
   simp only [List.append_eq, lcA, lnA]
   go_wp2_with fail
   go_ret
   exact ⟨rfl, HK.out.b⟩
  case pos =>
  subst hmn
  by_cases hms : ms = 0
  case neg =>
   have gms : ¬ (ms : Int) = 0 := by omega
   obtain rfl : z = false := by rw [HN.out]; simp [Sto.h0, Sto.h1, Sto.h2, Sto.h3, Sto.h4, Sto.h5, Mt.zero, hms]
   clear HN
   go_enter Tryz.func121, Tryz.ntmps121
   go_upto_region 1 with fail
   simp only [List.append_eq, lcA, lnA]
   go_wp2_with fail
   go_ret
   exact ⟨rfl, HK.out.b⟩
  case pos =>
  subst hms
  by_cases hml : ml = 0
  case neg =>
   have gml : ¬ (ml : Int) = 0 := by omega
   obtain rfl : z = false := by rw [HN.out]; simp [Sto.h0, Sto.h1, Sto.h2, Sto.h3, Sto.h4, Sto.h5, Mt.zero, hml]
   clear HN
   go_enter Tryz.func121, Tryz.ntmps121
   go_upto_region 1 with fail
   simp only [List.append_eq, lcA, lnA]
   go_wp2_with fail
   go_ret
   exact ⟨rfl, HK.out.b⟩
  case pos =>
  subst hml
  by_cases hmm : mm = 0
  case neg =>
   have gmm : ¬ (mm : Int) = 0 := by omega
   obtain rfl : z = false := by rw [HN.out]; simp [Sto.h0, Sto.h1, Sto.h2, Sto.h3, Sto.h4, Sto.h5, Mt.zero, hmm]
   clear HN
   go_enter Tryz.func121, Tryz.ntmps121
   go_upto_region 1 with fail
   simp only [List.append_eq, lcA, lnA]
   go_wp2_with fail
   go_ret
   exact ⟨rfl, HK.out.b⟩
  case pos =>
  subst hmm
  by_cases hc : cap = 0
  case neg =>
   have gc : (cap == 0) = false := by simpa using hc
   obtain rfl : z = false := by rw [HN.out]; simp [Sto.h0, Sto.h1, Sto.h2, Sto.h3, Sto.h4, Sto.h5, Mt.zero, hc]
   clear HN
   go_enter Tryz.func121, Tryz.ntmps121
   go_upto_region 1 with fail
   simp only [List.append_eq, lcA, lnA]
   go_wp2_with fail
   go_ret
   exact ⟨rfl, HK.out.b⟩
  case pos =>
  subst hc
  obtain rfl : z = true := by rw [HN.out]; simp [Sto.h0, Sto.h1, Sto.h2, Sto.h3, Sto.h4, Sto.h5, Mt.zero]
  clear HN
  go_enter Tryz.func121, Tryz.ntmps121
  go_upto_region 1 with fail
  simp only [List.append_eq, lcA, lnA]
  go_wp2_with fail
  go_ret
  exact ⟨rfl, HK.out.b⟩
 ·by_cases hp : pn = 0
  case neg =>
   have gp : ((pn : Int) == 0) = false := by simpa using (by omega : ¬ (pn : Int) = 0)
   obtain rfl : z = false := by rw [HN.out]; simp [Sto.h0, Sto.h1, Sto.h2, Sto.h3, Sto.h4, Sto.h5, Mt.zero, hp]
   clear HN
   go_enter Tryz.func121, Tryz.ntmps121
   go_upto_region 1 with fail
   simp only [List.append_eq, lcA, lnA]
   go_wp2_with fail
   go_ret
   exact ⟨rfl, HK.out.b⟩
  case pos =>
  subst hp
  by_cases hr : rn = 0
  case neg =>
   have gr : ((rn : Int) == 0) = false := by simpa using (by omega : ¬ (rn : Int) = 0)
   obtain rfl : z = false := by rw [HN.out]; simp [Sto.h0, Sto.h1, Sto.h2, Sto.h3, Sto.h4, Sto.h5, Mt.zero, hr]
   clear HN
   go_enter Tryz.func121, Tryz.ntmps121
   go_upto_region 1 with fail
   simp only [List.append_eq, lcA, lnA]
   go_wp2_with fail
   go_ret
   exact ⟨rfl, HK.out.b⟩
  case pos =>
  subst hr
  by_cases hd : round = 0
  case neg =>
   have gd : (round == 0) = false := by simpa using hd
   obtain rfl : z = false := by rw [HN.out]; simp [Sto.h0, Sto.h1, Sto.h2, Sto.h3, Sto.h4, Sto.h5, Mt.zero, hd]
   clear HN
   go_enter Tryz.func121, Tryz.ntmps121
   go_upto_region 1 with fail
   simp only [List.append_eq, lcA, lnA]
   go_wp2_with fail
   go_ret
   exact ⟨rfl, HK.out.b⟩
  case pos =>
  subst hd
  by_cases hmn : mn = 0
  case neg =>
   obtain rfl : z = false := by rw [HN.out]; simp [Sto.h0, Sto.h1, Sto.h2, Sto.h3, Sto.h4, Sto.h5, Mt.zero, hmn]
   clear HN
   go_enter Tryz.func121, Tryz.ntmps121
   go_upto_region 1 with fail
   simp only [List.append_eq, lcA, lnA]
   go_wp2_with fail
   go_ret
   exact ⟨rfl, HK.out.b⟩
  case pos =>
  subst hmn
  by_cases hms : ms = 0
  case neg =>
   have gms : ¬ (ms : Int) = 0 := by omega
   obtain rfl : z = false := by rw [HN.out]; simp [Sto.h0, Sto.h1, Sto.h2, Sto.h3, Sto.h4, Sto.h5, Mt.zero, hms]
   clear HN
   go_enter Tryz.func121, Tryz.ntmps121
   go_upto_region 1 with fail
   simp only [List.append_eq, lcA, lnA]
   go_wp2_with fail
   go_ret
   exact ⟨rfl, HK.out.b⟩
  case pos =>
  subst hms
  by_cases hml : ml = 0
  case neg =>
   have gml : ¬ (ml : Int) = 0 := by omega
   obtain rfl : z = false := by rw [HN.out]; simp [Sto.h0, Sto.h1, Sto.h2, Sto.h3, Sto.h4, Sto.h5, Mt.zero, hml]
   clear HN
   go_enter Tryz.func121, Tryz.ntmps121
   go_upto_region 1 with fail
   simp only [List.append_eq, lcA, lnA]
   go_wp2_with fail
   go_ret
   exact ⟨rfl, HK.out.b⟩
  case pos =>
  subst hml
  by_cases hmm : mm = 0
  case neg =>
   have gmm : ¬ (mm : Int) = 0 := by omega
   obtain rfl : z = false := by rw [HN.out]; simp [Sto.h0, Sto.h1, Sto.h2, Sto.h3, Sto.h4, Sto.h5, Mt.zero, hmm]
   clear HN
   go_enter Tryz.func121, Tryz.ntmps121
   go_upto_region 1 with fail
   simp only [List.append_eq, lcA, lnA]
   go_wp2_with fail
   go_ret
   exact ⟨rfl, HK.out.b⟩
  case pos =>
  subst hmm
  obtain rfl : z = true := by rw [HN.out]; simp [Sto.h0, Sto.h1, Sto.h2, Sto.h3, Sto.h4, Sto.h5, Mt.zero]
  clear HN
  go_enter Tryz.func121, Tryz.ntmps121
  go_upto_region 1 with fail
  simp only [List.append_eq, lcA, lnA]
  go_wp2_with fail
  go_ret
  exact ⟨rfl, HK.out.b⟩
 ·by_cases hp : pn = 0
  case neg =>
   have gp : ((pn : Int) == 0) = false := by simpa using (by omega : ¬ (pn : Int) = 0)
   obtain rfl : z = false := by rw [HN.out]; simp [Sto.h0, Sto.h1, Sto.h2, Sto.h3, Sto.h4, Sto.h5, Mt.zero, hp]
   clear HN
   go_enter Tryz.func121, Tryz.ntmps121
   go_upto_region 1 with fail
   simp only [List.append_eq, lcA, lnA]
   go_wp2_with fail
   go_ret
   exact ⟨rfl, HK.out.b⟩
  case pos =>
  subst hp
  by_cases hv : vn = 0
  case neg =>
   have gv : ((vn : Int) == 0) = false := by simpa using (by omega : ¬ (vn : Int) = 0)
   obtain rfl : z = false := by rw [HN.out]; simp [Sto.h0, Sto.h1, Sto.h2, Sto.h3, Sto.h4, Sto.h5, Mt.zero, hv]
   clear HN
   go_enter Tryz.func121, Tryz.ntmps121
   go_upto_region 1 with fail
   simp only [List.append_eq, lcA, lnA]
   go_wp2_with fail
   go_ret
   exact ⟨rfl, HK.out.b⟩
  case pos =>
  subst hv
  by_cases hd : round = 0
  case neg =>
   have gd : (round == 0) = false := by simpa using hd
   obtain rfl : z = false := by rw [HN.out]; simp [Sto.h0, Sto.h1, Sto.h2, Sto.h3, Sto.h4, Sto.h5, Mt.zero, hd]
   clear HN
   go_enter Tryz.func121, Tryz.ntmps121
   go_upto_region 1 with fail
   simp only [List.append_eq, lcA, lnA]
   go_wp2_with fail
   go_ret
   exact ⟨rfl, HK.out.b⟩
  case pos =>
  subst hd
  by_cases hmn : mn = 0
  case neg =>
   obtain rfl : z = false := by rw [HN.out]; simp [Sto.h0, Sto.h1, Sto.h2, Sto.h3, Sto.h4, Sto.h5, Mt.zero, hmn]
   clear HN
   go_enter Tryz.func121, Tryz.ntmps121
   go_upto_region 1 with fail
   simp only [List.append_eq, lcA, lnA]
   go_wp2_with fail
   go_ret
   exact ⟨rfl, HK.out.b⟩
  case pos =>
  subst hmn
  by_cases hms : ms = 0
  case neg =>
   have gms : ¬ (ms : Int) = 0 := by omega
   obtain rfl : z = false := by rw [HN.out]; simp [Sto.h0, Sto.h1, Sto.h2, Sto.h3, Sto.h4, Sto.h5, Mt.zero, hms]
   clear HN
   go_enter Tryz.func121, Tryz.ntmps121
   go_upto_region 1 with fail
   simp only [List.append_eq, lcA, lnA]
   go_wp2_with fail
   go_ret
   exact ⟨rfl, HK.out.b⟩
  case pos =>
  subst hms
  by_cases hml : ml = 0
  case neg =>
   have gml : ¬ (ml : Int) = 0 := by omega
   obtain rfl : z = false := by rw [HN.out]; simp [Sto.h0, Sto.h1, Sto.h2, Sto.h3, Sto.h4, Sto.h5, Mt.zero, hml]
   clear HN
   go_enter Tryz.func121, Tryz.ntmps121
   go_upto_region 1 with fail
   simp only [List.append_eq, lcA, lnA]
   go_wp2_with fail
   go_ret
   exact ⟨rfl, HK.out.b⟩
  case pos =>
  subst hml
  by_cases hmm : mm = 0
  case neg =>
   have gmm : ¬ (mm : Int) = 0 := by omega
   obtain rfl : z = false := by rw [HN.out]; simp [Sto.h0, Sto.h1, Sto.h2, Sto.h3, Sto.h4, Sto.h5, Mt.zero, hmm]
   clear HN
   go_enter Tryz.func121, Tryz.ntmps121
   go_upto_region 1 with fail
   simp only [List.append_eq, lcA, lnA]
   go_wp2_with fail
   go_ret
   exact ⟨rfl, HK.out.b⟩
  case pos =>
  subst hmm
  by_cases hc : cap = 0
  case neg =>
   have gc : (cap == 0) = false := by simpa using hc
   obtain rfl : z = false := by rw [HN.out]; simp [Sto.h0, Sto.h1, Sto.h2, Sto.h3, Sto.h4, Sto.h5, Mt.zero, hc]
   clear HN
   go_enter Tryz.func121, Tryz.ntmps121
   go_upto_region 1 with fail
   simp only [List.append_eq, lcA, lnA]
   go_wp2_with fail
   go_ret
   exact ⟨rfl, HK.out.b⟩
  case pos =>
  subst hc
  obtain rfl : z = true := by rw [HN.out]; simp [Sto.h0, Sto.h1, Sto.h2, Sto.h3, Sto.h4, Sto.h5, Mt.zero]
  clear HN
  go_enter Tryz.func121, Tryz.ntmps121
  go_upto_region 1 with fail
  simp only [List.append_eq, lcA, lnA]
  go_wp2_with fail
  go_ret
  exact ⟨rfl, HK.out.b⟩
 ·by_cases hp : pn = 0
  case neg =>
   have gp : ((pn : Int) == 0) = false := by simpa using (by omega : ¬ (pn : Int) = 0)
   obtain rfl : z = false := by rw [HN.out]; simp [Sto.h0, Sto.h1, Sto.h2, Sto.h3, Sto.h4, Sto.h5, Mt.zero, hp]
   clear HN
   go_enter Tryz.func121, Tryz.ntmps121
   go_upto_region 1 with fail
   simp only [List.append_eq, lcA, lnA]
   go_wp2_with fail
   go_ret
   exact ⟨rfl, HK.out.b⟩
  case pos =>
  subst hp
  by_cases hv : vn = 0
  case neg =>
   have gv : ((vn : Int) == 0) = false := by simpa using (by omega : ¬ (vn : Int) = 0)
   obtain rfl : z = false := by rw [HN.out]; simp [Sto.h0, Sto.h1, Sto.h2, Sto.h3, Sto.h4, Sto.h5, Mt.zero, hv]
   clear HN
   go_enter Tryz.func121, Tryz.ntmps121
   go_upto_region 1 with fail
   simp only [List.append_eq, lcA, lnA]
   go_wp2_with fail
   go_ret
   exact ⟨rfl, HK.out.b⟩
  case pos =>
  subst hv
  by_cases hmn : mn = 0
  case neg =>
   obtain rfl : z = false := by rw [HN.out]; simp [Sto.h0, Sto.h1, Sto.h2, Sto.h3, Sto.h4, Sto.h5, Mt.zero, hmn]
   clear HN
   go_enter Tryz.func121, Tryz.ntmps121
   go_upto_region 1 with fail
   simp only [List.append_eq, lcA, lnA]
   go_wp2_with fail
   go_ret
   exact ⟨rfl, HK.out.b⟩
  case pos =>
  subst hmn
  by_cases hms : ms = 0
  case neg =>
   have gms : ¬ (ms : Int) = 0 := by omega
   obtain rfl : z = false := by rw [HN.out]; simp [Sto.h0, Sto.h1, Sto.h2, Sto.h3, Sto.h4, Sto.h5, Mt.zero, hms]
   clear HN
   go_enter Tryz.func121, Tryz.ntmps121
   go_upto_region 1 with fail
   simp only [List.append_eq, lcA, lnA]
   go_wp2_with fail
   go_ret
   exact ⟨rfl, HK.out.b⟩
  case pos =>
  subst hms
  by_cases hml : ml = 0
  case neg =>
   have gml : ¬ (ml : Int) = 0 := by omega
   obtain rfl : z = false := by rw [HN.out]; simp [Sto.h0, Sto.h1, Sto.h2, Sto.h3, Sto.h4, Sto.h5, Mt.zero, hml]
   clear HN
   go_enter Tryz.func121, Tryz.ntmps121
   go_upto_region 1 with fail
   simp only [List.append_eq, lcA, lnA]
   go_wp2_with fail
   go_ret
   exact ⟨rfl, HK.out.b⟩
  case pos =>
  subst hml
  by_cases hmm : mm = 0
  case neg =>
   have gmm : ¬ (mm : Int) = 0 := by omega
   obtain rfl : z = false := by rw [HN.out]; simp [Sto.h0, Sto.h1, Sto.h2, Sto.h3, Sto.h4, Sto.h5, Mt.zero, hmm]
   clear HN
   go_enter Tryz.func121, Tryz.ntmps121
   go_upto_region 1 with fail
   simp only [List.append_eq, lcA, lnA]
   go_wp2_with fail
   go_ret
   exact ⟨rfl, HK.out.b⟩
  case pos =>
  subst hmm
  obtain rfl : z = true := by rw [HN.out]; simp [Sto.h0, Sto.h1, Sto.h2, Sto.h3, Sto.h4, Sto.h5, Mt.zero]
  clear HN
  go_enter Tryz.func121, Tryz.ntmps121
  go_upto_region 1 with fail
  simp only [List.append_eq, lcA, lnA]
  go_wp2_with fail
  go_ret
  exact ⟨rfl, HK.out.b⟩
 ·by_cases hp : pn = 0
  case neg =>
   have gp : ((pn : Int) == 0) = false := by simpa using (by omega : ¬ (pn : Int) = 0)
   obtain rfl : z = false := by rw [HN.out]; simp [Sto.h0, Sto.h1, Sto.h2, Sto.h3, Sto.h4, Sto.h5, Mt.zero, hp]
   clear HN
   go_enter Tryz.func121, Tryz.ntmps121
   go_upto_region 1 with fail
   simp only [List.append_eq, lcA, lnA]
   go_wp2_with fail
   go_ret
   exact ⟨rfl, HK.out.b⟩
  case pos =>
  subst hp
  by_cases hv : vn = 0
  case neg =>
   have gv : ((vn : Int) == 0) = false := by simpa using (by omega : ¬ (vn : Int) = 0)
   obtain rfl : z = false := by rw [HN.out]; simp [Sto.h0, Sto.h1, Sto.h2, Sto.h3, Sto.h4, Sto.h5, Mt.zero, hv]
   clear HN
   go_enter Tryz.func121, Tryz.ntmps121
   go_upto_region 1 with fail
   simp only [List.append_eq, lcA, lnA]
   go_wp2_with fail
   go_ret
   exact ⟨rfl, HK.out.b⟩
  case pos =>
  subst hv
  by_cases hr : rn = 0
  case neg =>
   have gr : ((rn : Int) == 0) = false := by simpa using (by omega : ¬ (rn : Int) = 0)
   obtain rfl : z = false := by rw [HN.out]; simp [Sto.h0, Sto.h1, Sto.h2, Sto.h3, Sto.h4, Sto.h5, Mt.zero, hr]
   clear HN
   go_enter Tryz.func121, Tryz.ntmps121
   go_upto_region 1 with fail
   simp only [List.append_eq, lcA, lnA]
   go_wp2_with fail
   go_ret
   exact ⟨rfl, HK.out.b⟩
  case pos =>
  subst hr
  by_cases hd : round = 0
  case neg =>
   have gd : (round == 0) = false := by simpa using hd
   obtain rfl : z = false := by rw [HN.out]; simp [Sto.h0, Sto.h1, Sto.h2, Sto.h3, Sto.h4, Sto.h5, Mt.zero, hd]
   clear HN
   go_enter Tryz.func121, Tryz.ntmps121
   go_upto_region 1 with fail
   simp only [List.append_eq, lcA, lnA]
   go_wp2_with fail
   go_ret
   exact ⟨rfl, HK.out.b⟩
  case pos =>
  subst hd
  by_cases hc : cap = 0
  case neg =>
   have gc : (cap == 0) = false := by simpa using hc
   obtain rfl : z = false := by rw [HN.out]; simp [Sto.h0, Sto.h1, Sto.h2, Sto.h3, Sto.h4, Sto.h5, Mt.zero, hc]
   clear HN
   go_enter Tryz.func121, Tryz.ntmps121
   go_upto_region 1 with fail
   simp only [List.append_eq, lcA, lnA]
   go_wp2_with fail
   go_ret
   exact ⟨rfl, HK.out.b⟩
  case pos =>
  subst hc
  obtain rfl : z = true := by rw [HN.out]; simp [Sto.h0, Sto.h1, Sto.h2, Sto.h3, Sto.h4, Sto.h5, Mt.zero]
  clear HN
  go_enter Tryz.func121, Tryz.ntmps121
  go_upto_region 1 with fail
  simp only [List.append_eq, lcA, lnA]
  go_wp2_with fail
  go_ret
  exact ⟨rfl, HK.out.b⟩
 ·have n1 : ¬ kind = 1 := by omega
  have n2 : ¬ kind = 2 := by omega
  have n3 : ¬ kind = 3 := by omega
  have n4 : ¬ kind = 4 := by omega
  have n5 : ¬ kind = 5 := by omega
  clear hk
  by_cases hp : pn = 0
  case neg =>
   have gp : ((pn : Int) == 0) = false := by simpa using (by omega : ¬ (pn : Int) = 0)
   obtain rfl : z = false := by rw [HN.out]; simp [Sto.h0, Sto.h1, Sto.h2, Sto.h3, Sto.h4, Sto.h5, Mt.zero, n1, n2, n3, n4, n5, hp]
   clear HN
   go_enter Tryz.func121, Tryz.ntmps121
   go_upto_region 1 with fail
   simp only [List.append_eq, lcA, lnA]
   go_wp2_with fail
   go_ret
   exact ⟨by first | rfl | simp [n1, n2, n3, n4, n5], HK.out.b⟩
  case pos =>
  subst hp
  by_cases hv : vn = 0
  case neg =>
   have gv : ((vn : Int) == 0) = false := by simpa using (by omega : ¬ (vn : Int) = 0)
   obtain rfl : z = false := by rw [HN.out]; simp [Sto.h0, Sto.h1, Sto.h2, Sto.h3, Sto.h4, Sto.h5, Mt.zero, n1, n2, n3, n4, n5, hv]
   clear HN
   go_enter Tryz.func121, Tryz.ntmps121
   go_upto_region 1 with fail
   simp only [List.append_eq, lcA, lnA]
   go_wp2_with fail
   go_ret
   exact ⟨by first | rfl | simp [n1, n2, n3, n4, n5], HK.out.b⟩
  case pos =>
  subst hv
  by_cases hr : rn = 0
  case neg =>
   have gr : ((rn : Int) == 0) = false := by simpa using (by omega : ¬ (rn : Int) = 0)
   obtain rfl : z = false := by rw [HN.out]; simp [Sto.h0, Sto.h1, Sto.h2, Sto.h3, Sto.h4, Sto.h5, Mt.zero, n1, n2, n3, n4, n5, hr]
   clear HN
   go_enter Tryz.func121, Tryz.ntmps121
   go_upto_region 1 with fail
   simp only [List.append_eq, lcA, lnA]
   go_wp2_with fail
   go_ret
   exact ⟨by first | rfl | simp [n1, n2, n3, n4, n5], HK.out.b⟩
  case pos =>
  subst hr
  by_cases hd : round = 0
  case neg =>
   have gd : (round == 0) = false := by simpa using hd
   obtain rfl : z = false := by rw [HN.out]; simp [Sto.h0, Sto.h1, Sto.h2, Sto.h3, Sto.h4, Sto.h5, Mt.zero, n1, n2, n3, n4, n5, hd]
   clear HN
   go_enter Tryz.func121, Tryz.ntmps121
   go_upto_region 1 with fail
   simp only [List.append_eq, lcA, lnA]
   go_wp2_with fail
   go_ret
   exact ⟨by first | rfl | simp [n1, n2, n3, n4, n5], HK.out.b⟩
  case pos =>
  subst hd
  by_cases hmn : mn = 0
  case neg =>
   obtain rfl : z = false := by rw [HN.out]; simp [Sto.h0, Sto.h1, Sto.h2, Sto.h3, Sto.h4, Sto.h5, Mt.zero, n1, n2, n3, n4, n5, hmn]
   clear HN
   go_enter Tryz.func121, Tryz.ntmps121
   go_upto_region 1 with fail
   simp only [List.append_eq, lcA, lnA]
   go_wp2_with fail
   go_ret
   exact ⟨by first | rfl | simp [n1, n2, n3, n4, n5], HK.out.b⟩
  case pos =>
  subst hmn
  by_cases hms : ms = 0
  case neg =>
   have gms : ¬ (ms : Int) = 0 := by omega
   obtain rfl : z = false := by rw [HN.out]; simp [Sto.h0, Sto.h1, Sto.h2, Sto.h3, Sto.h4, Sto.h5, Mt.zero, n1, n2, n3, n4, n5, hms]
   clear HN
   go_enter Tryz.func121, Tryz.ntmps121
   go_upto_region 1 with fail
   simp only [List.append_eq, lcA, lnA]
   go_wp2_with fail
   go_ret
   exact ⟨by first | rfl | simp [n1, n2, n3, n4, n5], HK.out.b⟩
  case pos =>
  subst hms
  by_cases hml : ml = 0
  case neg =>
   have gml : ¬ (ml : Int) = 0 := by omega
   obtain rfl : z = false := by rw [HN.out]; simp [Sto.h0, Sto.h1, Sto.h2, Sto.h3, Sto.h4, Sto.h5, Mt.zero, n1, n2, n3, n4, n5, hml]
   clear HN
   go_enter Tryz.func121, Tryz.ntmps121
   go_upto_region 1 with fail
   simp only [List.append_eq, lcA, lnA]
   go_wp2_with fail
   go_ret
   exact ⟨by first | rfl | simp [n1, n2, n3, n4, n5], HK.out.b⟩
  case pos =>
  subst hml
  by_cases hmm : mm = 0
  case neg =>
   have gmm : ¬ (mm : Int) = 0 := by omega
   obtain rfl : z = false := by rw [HN.out]; simp [Sto.h0, Sto.h1, Sto.h2, Sto.h3, Sto.h4, Sto.h5, Mt.zero, n1, n2, n3, n4, n5, hmm]
   clear HN
   go_enter Tryz.func121, Tryz.ntmps121
   go_upto_region 1 with fail
   simp only [List.append_eq, lcA, lnA]
   go_wp2_with fail
   go_ret
   exact ⟨by first | rfl | simp [n1, n2, n3, n4, n5], HK.out.b⟩
  case pos =>
  subst hmm
  by_cases hc : cap = 0
  case neg =>
   have gc : (cap == 0) = false := by simpa using hc
   obtain rfl : z = false := by rw [HN.out]; simp [Sto.h0, Sto.h1, Sto.h2, Sto.h3, Sto.h4, Sto.h5, Mt.zero, n1, n2, n3, n4, n5, hc]
   clear HN
   go_enter Tryz.func121, Tryz.ntmps121
   go_upto_region 1 with fail
   simp only [List.append_eq, lcA, lnA]
   go_wp2_with fail
   go_ret
   exact ⟨by first | rfl | simp [n1, n2, n3, n4, n5], HK.out.b⟩
  case pos =>
  subst hc
  obtain rfl : z = true := by rw [HN.out]; simp [Sto.h0, Sto.h1, Sto.h2, Sto.h3, Sto.h4, Sto.h5, Mt.zero, n1, n2, n3, n4, n5]
  clear HN
  go_enter Tryz.func121, Tryz.ntmps121
  go_upto_region 1 with fail
  simp only [List.append_eq, lcA, lnA]
  go_wp2_with fail
  go_ret
  exact ⟨by first | rfl | simp [n1, n2, n3, n4, n5], HK.out.b⟩
end Go.Proofs.YtpkodjllljnleaaGreat
namespace Go.Proofs.YtpkodjllljnleaaGreat
open Go.RowKit
theorem exec_se0 {w : World} {o : Oper} {a : Act} {x : ByteArray} {b : Bool} (p : Operand) (ho : o.op = .binOp .eql 9 p (.const (.string ⟨#[]⟩)) 9) (hp : a.eval p = .string x) (hb : decide (x.size = 0) = b) :
  (execOp a.eval o).run Tryz.prog w = .ok (.value (.bool b)) w := by
 refine exec_seq (y := ⟨#[]⟩) p (.const (.string ⟨#[]⟩)) ho hp rfl ?_
 rw [← hb]
 by_cases h : x.size = 0
 ·rw [decide_eq_true h, decide_eq_true (show x = ⟨#[]⟩ from Val.size_zero h)]
 ·rw [decide_eq_false h, decide_eq_false (fun e => h (by rw [e]; rfl))]
set_option maxRecDepth 100000 in
set_option maxHeartbeats 12800000 in
theorem rone_any (x : Oh) (w : World) (hx : In w x) : Calls Tryz.prog 64 #[.agg (obA x)] w (IsB (Sto.One x.v) w) := by
 rw [Sto.one_non]
 have HI := zH hx
 have HN := zH (fun W (hW : Below w.heap.size w W) => rnone_any x W (hx.later hW))
 have HK := kn1 w 55 (obA x)
 have HD := zH rright_any
 have HQ := zH rqright_any
 have HL := zH rlright_any
 have HG := zH rgright_any
 have HM := zH mrright_any
 clear hx
 unfold IsB at *
 by_cases hz : x.v.name.size = 0
 ·have E0 := zH (decide_eq_true hz)
  have E16 := zH (rfl : decide (16 < (x.v.name.size : Int)) = decide (16 < (x.v.name.size : Int)))
  have hd : decide (Sto.named x.v.name) = false := decide_eq_false fun g => g.1 hz
  rw [hd, Bool.false_and, Bool.false_and]
  clear hd hz
  go_enter Tryz.func64, Tryz.ntmps64
  go_wp2_with (first | refine wpList_exe (kob_n HK 0 _ (by rfl) (by rfl) (by rfl)) (by rfl) ?_ | refine wpList_exe (exec_se0 (x := x.v.name) _ (by rfl) (by rfl) E0.out) (by rfl) ?_ | refine wpList_exe (exec_gt (x := (x.v.name.size : Int)) (k := 16) _ (by rfl) (by rfl) E16.out) (by rfl) ?_)
  go_ret
  exact ⟨rfl, HK.out.b⟩
 have E0 := zH (decide_eq_false hz)
 by_cases h16 : x.v.name.size ≤ 16
 case neg =>
  have hd : decide (Sto.named x.v.name) = false := decide_eq_false fun g => h16 g.2
  have E16 := zH (decide_eq_true (by omega : 16 < (x.v.name.size : Int)))
  rw [hd, Bool.false_and, Bool.false_and]
  clear hd hz h16
  go_enter Tryz.func64, Tryz.ntmps64
  go_wp2_with (first | refine wpList_exe (kob_n HK 0 _ (by rfl) (by rfl) (by rfl)) (by rfl) ?_ | refine wpList_exe (exec_se0 (x := x.v.name) _ (by rfl) (by rfl) E0.out) (by rfl) ?_ | refine wpList_exe (exec_gt (x := (x.v.name.size : Int)) (k := 16) _ (by rfl) (by rfl) E16.out) (by rfl) ?_)
  go_ret
  exact ⟨rfl, HK.out.b⟩
 case pos =>
 have hd : decide (Sto.named x.v.name) = true := decide_eq_true ⟨hz, h16⟩
 have E16 := zH (decide_eq_false (by omega : ¬ 16 < (x.v.name.size : Int)))
 rw [hd, Bool.true_and]
 clear hd hz h16
 generalize Sto.non x.v = q at *
 cases q
 ·rw [Bool.false_and]
  go_enter Tryz.func64, Tryz.ntmps64
  go_wp2_with (first | refine wpList_exe (kob_n HK 0 _ (by rfl) (by rfl) (by rfl)) (by rfl) ?_ | refine wpList_exe (exec_se0 (x := x.v.name) _ (by rfl) (by rfl) E0.out) (by rfl) ?_ | refine wpList_exe (exec_gt (x := (x.v.name.size : Int)) (k := 16) _ (by rfl) (by rfl) E16.out) (by rfl) ?_ | refine wpList_exe (kob HK 0 _ (by rfl) (by rfl) (by rfl)) (by rfl) ?_)
  refine (HN.out _ HK.out.b).mono ?_; rintro e w1 ⟨rfl, b1⟩
  replace HK := hkC HK b1; clear b1
  go_wp2_with fail
  go_ret
  exact ⟨rfl, HK.out.b⟩
 rw [Bool.true_and]
 unfold Sto.sound
 by_cases h1 : x.v.kind = 1
 ·rw [if_pos h1]
  go_enter Tryz.func64, Tryz.ntmps64
  go_wp2_with (first | refine wpList_exe (kob_n HK 0 _ (by rfl) (by rfl) (by rfl)) (by rfl) ?_ | refine wpList_exe (exec_se0 (x := x.v.name) _ (by rfl) (by rfl) E0.out) (by rfl) ?_ | refine wpList_exe (exec_gt (x := (x.v.name.size : Int)) (k := 16) _ (by rfl) (by rfl) E16.out) (by rfl) ?_ | refine wpList_exe (kob HK 0 _ (by rfl) (by rfl) (by rfl)) (by rfl) ?_)
  refine (HN.out _ HK.out.b).mono ?_; rintro e w1 ⟨rfl, b1⟩
  replace HK := hkC HK b1; clear b1
  go_wp2_with (first | refine wpList_exe (kob_k HK 0 _ (by rfl) (by rfl) (by rfl)) (by rfl) ?_ | refine wpList_exe (kob_p HK 0 _ (by rfl) (by rfl) (by rfl)) (by rfl) ?_)
  refine (HD.out _ _ _ _ _ (HI.out.p.later HK.out.b)).mono ?_; rintro e w1 ⟨rfl, b1⟩
  replace HK := hkC HK b1; clear b1
  go_wp2_with fail
  go_ret
  exact ⟨rfl, HK.out.b⟩
 rw [if_neg h1]
 by_cases h2 : x.v.kind = 2
 ·rw [if_pos h2]
  go_enter Tryz.func64, Tryz.ntmps64
  go_wp2_with (first | refine wpList_exe (kob_n HK 0 _ (by rfl) (by rfl) (by rfl)) (by rfl) ?_ | refine wpList_exe (exec_se0 (x := x.v.name) _ (by rfl) (by rfl) E0.out) (by rfl) ?_ | refine wpList_exe (exec_gt (x := (x.v.name.size : Int)) (k := 16) _ (by rfl) (by rfl) E16.out) (by rfl) ?_ | refine wpList_exe (kob HK 0 _ (by rfl) (by rfl) (by rfl)) (by rfl) ?_)
  refine (HN.out _ HK.out.b).mono ?_; rintro e w1 ⟨rfl, b1⟩
  replace HK := hkC HK b1; clear b1
  go_wp2_with (first | refine wpList_exe (kob_k HK 0 _ (by rfl) (by rfl) (by rfl)) (by rfl) ?_ | refine wpList_exe (kob_c HK 0 _ (by rfl) (by rfl) (by rfl)) (by rfl) ?_ | refine wpList_exe (kob_v HK 0 _ (by rfl) (by rfl) (by rfl)) (by rfl) ?_)
  refine (HQ.out _ _ _ _ _ _ (HI.out.v.later HK.out.b)).mono ?_; rintro e w1 ⟨rfl, b1⟩
  replace HK := hkC HK b1; clear b1
  go_wp2_with fail
  go_ret
  exact ⟨rfl, HK.out.b⟩
 rw [if_neg h2]
 by_cases h3 : x.v.kind = 3
 ·rw [if_pos h3]
  go_enter Tryz.func64, Tryz.ntmps64
  go_wp2_with (first | refine wpList_exe (kob_n HK 0 _ (by rfl) (by rfl) (by rfl)) (by rfl) ?_ | refine wpList_exe (exec_se0 (x := x.v.name) _ (by rfl) (by rfl) E0.out) (by rfl) ?_ | refine wpList_exe (exec_gt (x := (x.v.name.size : Int)) (k := 16) _ (by rfl) (by rfl) E16.out) (by rfl) ?_ | refine wpList_exe (kob HK 0 _ (by rfl) (by rfl) (by rfl)) (by rfl) ?_)
  refine (HN.out _ HK.out.b).mono ?_; rintro e w1 ⟨rfl, b1⟩
  replace HK := hkC HK b1; clear b1
  go_wp2_with (first | refine wpList_exe (kob_k HK 0 _ (by rfl) (by rfl) (by rfl)) (by rfl) ?_ | refine wpList_exe (kob_r HK 0 _ (by rfl) (by rfl) (by rfl)) (by rfl) ?_)
  refine (HL.out _ _ _ _ _ (HI.out.r.later HK.out.b)).mono ?_; rintro e w1 ⟨rfl, b1⟩
  replace HK := hkC HK b1; clear b1
  go_wp2_with fail
  go_ret
  exact ⟨rfl, HK.out.b⟩
 rw [if_neg h3]
 by_cases h4 : x.v.kind = 4
 ·rw [if_pos h4]
  generalize hg : decide (Gt.Right x.v.cap x.v.refs) = gb
  have HGb := zH hg
  clear hg
  cases gb
  all_goals
   go_enter Tryz.func64, Tryz.ntmps64
   go_wp2_with (first | refine wpList_exe (kob_n HK 0 _ (by rfl) (by rfl) (by rfl)) (by rfl) ?_ | refine wpList_exe (exec_se0 (x := x.v.name) _ (by rfl) (by rfl) E0.out) (by rfl) ?_ | refine wpList_exe (exec_gt (x := (x.v.name.size : Int)) (k := 16) _ (by rfl) (by rfl) E16.out) (by rfl) ?_ | refine wpList_exe (kob HK 0 _ (by rfl) (by rfl) (by rfl)) (by rfl) ?_)
   refine (HN.out _ HK.out.b).mono ?_; rintro e w1 ⟨rfl, b1⟩
   replace HK := hkC HK b1; clear b1
   go_wp2_with (first | refine wpList_exe (kob_k HK 0 _ (by rfl) (by rfl) (by rfl)) (by rfl) ?_ | refine wpList_exe (kob_c HK 0 _ (by rfl) (by rfl) (by rfl)) (by rfl) ?_ | refine wpList_exe (kob_r HK 0 _ (by rfl) (by rfl) (by rfl)) (by rfl) ?_)
   refine (HG.out _ _ _ _ _ _ (HI.out.r.later HK.out.b)).mono ?_; rintro e w1 ⟨rfl, b1⟩
   rw [HGb.out]
   replace HK := hkC HK b1; clear b1
   go_wp2_with (first | refine wpList_exe (kob_d HK 0 _ (by rfl) (by rfl) (by rfl)) (by rfl) ?_)
   go_ret
   exact ⟨rfl, HK.out.b⟩
 rw [if_neg h4]
 by_cases h5 : x.v.kind = 5
 ·rw [if_pos h5]
  go_enter Tryz.func64, Tryz.ntmps64
  go_wp2_with (first | refine wpList_exe (kob_n HK 0 _ (by rfl) (by rfl) (by rfl)) (by rfl) ?_ | refine wpList_exe (exec_se0 (x := x.v.name) _ (by rfl) (by rfl) E0.out) (by rfl) ?_ | refine wpList_exe (exec_gt (x := (x.v.name.size : Int)) (k := 16) _ (by rfl) (by rfl) E16.out) (by rfl) ?_ | refine wpList_exe (kob HK 0 _ (by rfl) (by rfl) (by rfl)) (by rfl) ?_)
  refine (HN.out _ HK.out.b).mono ?_; rintro e w1 ⟨rfl, b1⟩
  replace HK := hkC HK b1; clear b1
  go_wp2_with (first | refine wpList_exe (kob_k HK 0 _ (by rfl) (by rfl) (by rfl)) (by rfl) ?_ | refine wpList_exe (kob_m HK 0 _ (by rfl) (by rfl) (by rfl)) (by rfl) ?_)
  refine (HM.out x.v.mt HI.out.m _).mono ?_; rintro e w1 ⟨rfl, b1⟩
  replace HK := hkC HK b1; clear b1
  go_wp2_with fail
  go_ret
  exact ⟨rfl, HK.out.b⟩
 ·rw [if_neg h5]
  go_enter Tryz.func64, Tryz.ntmps64
  go_wp2_with (first | refine wpList_exe (kob_n HK 0 _ (by rfl) (by rfl) (by rfl)) (by rfl) ?_ | refine wpList_exe (exec_se0 (x := x.v.name) _ (by rfl) (by rfl) E0.out) (by rfl) ?_ | refine wpList_exe (exec_gt (x := (x.v.name.size : Int)) (k := 16) _ (by rfl) (by rfl) E16.out) (by rfl) ?_ | refine wpList_exe (kob HK 0 _ (by rfl) (by rfl) (by rfl)) (by rfl) ?_)
  refine (HN.out _ HK.out.b).mono ?_; rintro e w1 ⟨rfl, b1⟩
  replace HK := hkC HK b1; clear b1
  go_wp2_with (first | refine wpList_exe (kob_k HK 0 _ (by rfl) (by rfl) (by rfl)) (by rfl) ?_)
  go_ret
  exact ⟨rfl, HK.out.b⟩
end Go.Proofs.YtpkodjllljnleaaGreat
namespace Go.Proofs.YtpkodjllljnleaaGreat
open Go.RowKit
set_option maxRecDepth 100000 in
set_option maxHeartbeats 12800000 in
theorem roright_any (A : Option Addr) (c n : Nat) (l : List Oh) (w : World) (hs : Obs w A n c l) :
  Calls Tryz.prog 19 #[.slice A n c] w (IsB (decide (Sto.Right (vs l))) w) := by
 unfold IsB
 by_cases hn : 8 < n
 ·have hd : decide (Sto.Right (vs l)) = false := decide_eq_false fun h => by have := h.len; rw [vs_len, hs.len] at this; omega
  rw [hd]
  have hn2 : 8 < (n : Int) := by omega
  clear hs hd
  go_enter Tryz.func19, Tryz.ntmps19
  go_wp2_with fail
  go_ret
  exact ⟨rfl, Below.refl _ w⟩
 have HS := zH hs
 obtain ⟨hno, hyes⟩ := Sto.right_told (l := vs l) (by rw [vs_len]; exact hs.len) (by omega : n ≤ 8)
 have HNo := zH hno
 have HYes := zH hyes
 clear hs hno hyes
 generalize decide (Sto.Right (vs l)) = r at *
 have hn2 : ¬ 8 < (n : Int) := by omega
 have h063 : 0 < 9223372036854775807 := by decide
 have HK := zH (Kn.start w)
 go_enter Tryz.func19, Tryz.ntmps19
 go_wp2_with fail
 go_loopw [3] (fun vi wr => ∃ k : Nat, k ≤ n ∧ vi = .int .i64 k ∧ Hid (∀ i, i < k → Sto.Good (vs l) i) ∧ Hid (Kn w.heap.size w wr [] [])) (fun vi _ => n - (intOf vi).toNat)
 case atStart => exact ⟨0, Nat.zero_le _, rfl, zH (fun i hi => by omega), HK⟩
 case round =>
  clear HK
  obtain ⟨k, hk, rfl, HGo, HK⟩ := hrel
  by_cases hlt : k < n
  ·obtain ⟨x, hx, hin⟩ := HS.out.get hlt
   obtain ⟨b, o, rfl, hat⟩ := HS.out.s.at (Nat.lt_of_le_of_lt (Nat.zero_le _) hlt)
   have HX : Hid (∀ W, Below w.heap.size w W → ∀ j v, (obL x)[j]? = some v → W.cell? ⟨b, o + k * 11 + j, none⟩ = some v) := zH (fun W hW => hat W hW k x hx)
   have HPrev : Hid (∀ j, k = j + 1 → ∃ y : Oh, (vs l)[j]? = some y.v ∧ ∀ W, Below w.heap.size w W → ∀ i v, (obL y)[i]? = some v → W.cell? ⟨b, o + j * 11 + i, none⟩ = some v) := zH fun j hj => by
    obtain ⟨y, hy, _⟩ := HS.out.get (k := j) (by omega)
    exact ⟨y, vs_get hy, fun W hW => hat W hW j y hy⟩
   have HOn := zH (fun W (hW : Below w.heap.size w W) => rone_any x W (hin.later hW))
   have hxv := vs_get hx
   have HIf : Hid (Sto.Good (vs l) k ↔ (Sto.One x.v = true ∧ ∀ j y, k = j + 1 → (vs l)[j]? = some y → Dct.lt y.name x.v.name = true)) := zH ⟨fun h => h _ hxv, fun h x' hx' => by rw [hxv] at hx'; injection hx' with hx'; subst hx'; exact h⟩
   unfold IsB at HOn
   clear hat hin hx hxv
   generalize Sto.One x.v = q0 at *
   have hk1 : (0 : Int) ≤ (k : Int) := by omega
   have hk2 : (k : Int) < (n : Int) := by omega
   go_wp2_with fail
   cases q0 with
   | false =>
    have HR : Hid (r = false) := zH (HNo.out k hlt fun h => by have := (HIf.out.1 h).1; simp at this)
    refine wp_region_held_drew (S := (fun W => Hid (Kn w.heap.size w W [] []))) (by kernel_rfl) ?_ (fun hHeld => ?_)
    ·(try dsimp only); exact zH HK.out.drew
    refine wpAnyH_take (i := 0) (oi := ⟨some 13, _, _, _, _, _⟩) (v := ?_) rfl (by kernel_rfl) (by kernel_rfl) (by kernel_rfl) (fun _ _ _ h => h) (Or.inl ⟨by rfl, ?_⟩) (by assumption) ?_
    rotate_left
    ·(intro w hSw; (try dsimp only at hSw); go_simp; try with_reducible rfl)
    try simp only [Act.put, List.setIfInBounds_toArray, List.set_cons_zero, List.set_cons_succ]
    refine wpAnyH_take (i := 1) (oi := ⟨some 14, _, _, _, _, _⟩) (v := ?_) rfl (by kernel_rfl) (by kernel_rfl) (by kernel_rfl) (fun _ _ _ h => h) (Or.inl ⟨by rfl, ?_⟩) (by assumption) ?_
    rotate_left
    ·(intro w hSw; (try dsimp only at hSw); go_simp; try with_reducible rfl)
    try simp only [Act.put, List.setIfInBounds_toArray, List.set_cons_zero, List.set_cons_succ]
    refine wpAnyH_take (i := 2) (oi := ⟨some 15, _, _, _, _, _⟩) (v := ?_) rfl (by kernel_rfl) (by kernel_rfl) (by kernel_rfl) (fun _ _ _ h => h) (Or.inl ⟨by rfl, ?_⟩) (by assumption) ?_
    rotate_left
    ·(intro w hSw; refine Eq.trans (exec_ixo (i := k) _ _ (by rfl) (by rfl) (by rfl) hlt) ?_; with_reducible rfl)
    try simp only [Act.put, List.setIfInBounds_toArray, List.set_cons_zero, List.set_cons_succ]
    refine wpAnyH_take (i := 3) (oi := ⟨some 16, _, _, _, _, _⟩) (v := ?_) rfl (by kernel_rfl) (by kernel_rfl) (by kernel_rfl) (fun _ _ _ h => h) (Or.inl ⟨by rfl, ?_⟩) (by assumption) ?_
    rotate_left
    ·(intro w hSw; refine Eq.trans (exec_obx (off := o + k * 11) _ (by rfl) (by rfl) (HX.out _ hSw.out.b)) ?_; with_reducible rfl)
    try simp only [Act.put, List.setIfInBounds_toArray, List.set_cons_zero, List.set_cons_succ]
    refine wpAnyH_ready (rs := [4]) (by kernel_rfl) (by simp) ?_
    refine AllReadyH.cons (o := ⟨some 17, _, _, _, _, _⟩) rfl (fun K hK => ?_) AllReadyH.nil
    go_simp
    go_at_call 64
    refine (HOn.out _ hHeld.out.b).mono ?_; rintro e w5 ⟨rfl, b5⟩; have hs := zH (hHeld.out.call b5); clear b5
    refine hK.out _ _ hs (fun hHeld => ?_)
    clear hK K
    try simp only [ap1, ap2, ap3, ap4, ap5]
    refine wpAnyH_take (i := 5) (oi := ⟨some 18, _, _, _, _, _⟩) (v := ?_) rfl (by kernel_rfl) (by kernel_rfl) (by kernel_rfl) (fun _ _ _ h => h) (Or.inl ⟨by rfl, ?_⟩) (by assumption) ?_
    rotate_left
    ·(intro w hSw; (try dsimp only at hSw); go_simp; try with_reducible rfl)
    try simp only [Act.put, List.setIfInBounds_toArray, List.set_cons_zero, List.set_cons_succ]
    refine wpAnyH_take (i := 6) (oi := ⟨some 19, _, _, _, _, _⟩) (v := ?_) rfl (by kernel_rfl) (by kernel_rfl) (by kernel_rfl) (fun _ _ _ h => h) (Or.inl ⟨by rfl, ?_⟩) (by assumption) ?_
    rotate_left
    ·(intro w hSw; (try dsimp only at hSw); go_simp; try with_reducible rfl)
    try simp only [Act.put, List.setIfInBounds_toArray, List.set_cons_zero, List.set_cons_succ]
    refine wpAnyH_take (i := 7) (oi := ⟨some 20, _, _, _, _, _⟩) (v := undef) rfl (by kernel_rfl) (by kernel_rfl) (by kernel_rfl) (fun _ _ _ h => h) (Or.inr ⟨by rfl, rfl⟩) (by assumption) ?_
    try simp only [Act.put, List.setIfInBounds_toArray, List.set_cons_zero, List.set_cons_succ]
    refine wpAnyH_take (i := 8) (oi := ⟨some 21, _, _, _, _, _⟩) (v := undef) rfl (by kernel_rfl) (by kernel_rfl) (by kernel_rfl) (fun _ _ _ h => h) (Or.inr ⟨by rfl, rfl⟩) (by assumption) ?_
    try simp only [Act.put, List.setIfInBounds_toArray, List.set_cons_zero, List.set_cons_succ]
    refine wpAnyH_take (i := 9) (oi := ⟨some 22, _, _, _, _, _⟩) (v := undef) rfl (by kernel_rfl) (by kernel_rfl) (by kernel_rfl) (fun _ _ _ h => h) (Or.inr ⟨by rfl, rfl⟩) (by assumption) ?_
    try simp only [Act.put, List.setIfInBounds_toArray, List.set_cons_zero, List.set_cons_succ]
    refine wpAnyH_take (i := 10) (oi := ⟨some 23, _, _, _, _, _⟩) (v := undef) rfl (by kernel_rfl) (by kernel_rfl) (by kernel_rfl) (fun _ _ _ h => h) (Or.inr ⟨by rfl, rfl⟩) (by assumption) ?_
    try simp only [Act.put, List.setIfInBounds_toArray, List.set_cons_zero, List.set_cons_succ]
    refine wpAnyH_take (i := 11) (oi := ⟨some 24, _, _, _, _, _⟩) (v := undef) rfl (by kernel_rfl) (by kernel_rfl) (by kernel_rfl) (fun _ _ _ h => h) (Or.inr ⟨by rfl, rfl⟩) (by assumption) ?_
    try simp only [Act.put, List.setIfInBounds_toArray, List.set_cons_zero, List.set_cons_succ]
    refine wpAnyH_take (i := 12) (oi := ⟨some 25, _, _, _, _, _⟩) (v := undef) rfl (by kernel_rfl) (by kernel_rfl) (by kernel_rfl) (fun _ _ _ h => h) (Or.inr ⟨by rfl, rfl⟩) (by assumption) ?_
    try simp only [Act.put, List.setIfInBounds_toArray, List.set_cons_zero, List.set_cons_succ]
    refine wpAnyH_take (i := 13) (oi := ⟨some 26, _, _, _, _, _⟩) (v := undef) rfl (by kernel_rfl) (by kernel_rfl) (by kernel_rfl) (fun _ _ _ h => h) (Or.inr ⟨by rfl, rfl⟩) (by assumption) ?_
    try simp only [Act.put, List.setIfInBounds_toArray, List.set_cons_zero, List.set_cons_succ]
    refine wpAnyH_take (i := 14) (oi := ⟨some 27, _, _, _, _, _⟩) (v := undef) rfl (by kernel_rfl) (by kernel_rfl) (by kernel_rfl) (fun _ _ _ h => h) (Or.inr ⟨by rfl, rfl⟩) (by assumption) ?_
    try simp only [Act.put, List.setIfInBounds_toArray, List.set_cons_zero, List.set_cons_succ]
    refine wpAnyH_take (i := 15) (oi := ⟨some 28, _, _, _, _, _⟩) (v := undef) rfl (by kernel_rfl) (by kernel_rfl) (by kernel_rfl) (fun _ _ _ h => h) (Or.inr ⟨by rfl, rfl⟩) (by assumption) ?_
    try simp only [Act.put, List.setIfInBounds_toArray, List.set_cons_zero, List.set_cons_succ]
    refine wpAnyH_take (i := 16) (oi := ⟨some 29, _, _, _, _, _⟩) (v := undef) rfl (by kernel_rfl) (by kernel_rfl) (by kernel_rfl) (fun _ _ _ h => h) (Or.inr ⟨by rfl, rfl⟩) (by assumption) ?_
    try simp only [Act.put, List.setIfInBounds_toArray, List.set_cons_zero, List.set_cons_succ]
    refine wpAnyH_take (i := 17) (oi := ⟨some 30, _, _, _, _, _⟩) (v := undef) rfl (by kernel_rfl) (by kernel_rfl) (by kernel_rfl) (fun _ _ _ h => h) (Or.inr ⟨by rfl, rfl⟩) (by assumption) ?_
    try simp only [Act.put, List.setIfInBounds_toArray, List.set_cons_zero, List.set_cons_succ]
    refine wpAnyH_take (i := 18) (oi := ⟨some 31, _, _, _, _, _⟩) (v := undef) rfl (by kernel_rfl) (by kernel_rfl) (by kernel_rfl) (fun _ _ _ h => h) (Or.inr ⟨by rfl, rfl⟩) (by assumption) ?_
    try simp only [Act.put, List.setIfInBounds_toArray, List.set_cons_zero, List.set_cons_succ]
    refine wpAnyH_take (i := 19) (oi := ⟨some 32, _, _, _, _, _⟩) (v := undef) rfl (by kernel_rfl) (by kernel_rfl) (by kernel_rfl) (fun _ _ _ h => h) (Or.inr ⟨by rfl, rfl⟩) (by assumption) ?_
    try simp only [Act.put, List.setIfInBounds_toArray, List.set_cons_zero, List.set_cons_succ]
    refine wpAnyH_take (i := 20) (oi := ⟨some 33, _, _, _, _, _⟩) (v := undef) rfl (by kernel_rfl) (by kernel_rfl) (by kernel_rfl) (fun _ _ _ h => h) (Or.inr ⟨by rfl, rfl⟩) (by assumption) ?_
    try simp only [Act.put, List.setIfInBounds_toArray, List.set_cons_zero, List.set_cons_succ]
    refine wpAnyH_take (i := 21) (oi := ⟨some 34, _, _, _, _, _⟩) (v := undef) rfl (by kernel_rfl) (by kernel_rfl) (by kernel_rfl) (fun _ _ _ h => h) (Or.inr ⟨by rfl, rfl⟩) (by assumption) ?_
    try simp only [Act.put, List.setIfInBounds_toArray, List.set_cons_zero, List.set_cons_succ]
    refine wpAnyH_take (i := 22) (oi := ⟨some 35, _, _, _, _, _⟩) (v := undef) rfl (by kernel_rfl) (by kernel_rfl) (by kernel_rfl) (fun _ _ _ h => h) (Or.inr ⟨by rfl, rfl⟩) (by assumption) ?_
    try simp only [Act.put, List.setIfInBounds_toArray, List.set_cons_zero, List.set_cons_succ]
    refine wpAnyH_take (i := 23) (oi := ⟨some 36, _, _, _, _, _⟩) (v := ?_) rfl (by kernel_rfl) (by kernel_rfl) (by kernel_rfl) (fun _ _ _ h => h) (Or.inl ⟨by rfl, ?_⟩) (by assumption) ?_
    rotate_left
    ·(intro w hSw; (try dsimp only at hSw); go_simp; try with_reducible rfl)
    try simp only [Act.put, List.setIfInBounds_toArray, List.set_cons_zero, List.set_cons_succ]
    refine wpAnyH_done (by kernel_rfl) ?_ _
    go_wp2_with fail
    go_ret
    exact ⟨by rw [HR.out] <;> rfl, hHeld.out.b⟩
   | true =>
   rcases Nat.eq_zero_or_pos k with rfl | hpos
   ·clear HPrev
    refine wp_region_held_drew (S := (fun W => Hid (Kn w.heap.size w W [] []))) (by kernel_rfl) ?_ (fun hHeld => ?_)
    ·(try dsimp only); exact zH HK.out.drew
    refine wpAnyH_take (i := 0) (oi := ⟨some 13, _, _, _, _, _⟩) (v := ?_) rfl (by kernel_rfl) (by kernel_rfl) (by kernel_rfl) (fun _ _ _ h => h) (Or.inl ⟨by rfl, ?_⟩) (by assumption) ?_
    rotate_left
    ·(intro w hSw; (try dsimp only at hSw); go_simp; try with_reducible rfl)
    try simp only [Act.put, List.setIfInBounds_toArray, List.set_cons_zero, List.set_cons_succ]
    refine wpAnyH_take (i := 1) (oi := ⟨some 14, _, _, _, _, _⟩) (v := ?_) rfl (by kernel_rfl) (by kernel_rfl) (by kernel_rfl) (fun _ _ _ h => h) (Or.inl ⟨by rfl, ?_⟩) (by assumption) ?_
    rotate_left
    ·(intro w hSw; (try dsimp only at hSw); go_simp; try with_reducible rfl)
    try simp only [Act.put, List.setIfInBounds_toArray, List.set_cons_zero, List.set_cons_succ]
    refine wpAnyH_take (i := 2) (oi := ⟨some 15, _, _, _, _, _⟩) (v := ?_) rfl (by kernel_rfl) (by kernel_rfl) (by kernel_rfl) (fun _ _ _ h => h) (Or.inl ⟨by rfl, ?_⟩) (by assumption) ?_
    rotate_left
    ·(intro w hSw; refine Eq.trans (exec_ixo (i := 0) _ _ (by rfl) (by rfl) (by rfl) hlt) ?_; with_reducible rfl)
    try simp only [Act.put, List.setIfInBounds_toArray, List.set_cons_zero, List.set_cons_succ]
    refine wpAnyH_take (i := 3) (oi := ⟨some 16, _, _, _, _, _⟩) (v := ?_) rfl (by kernel_rfl) (by kernel_rfl) (by kernel_rfl) (fun _ _ _ h => h) (Or.inl ⟨by rfl, ?_⟩) (by assumption) ?_
    rotate_left
    ·(intro w hSw; refine Eq.trans (exec_obx (off := o + 0 * 11) _ (by rfl) (by rfl) (HX.out _ hSw.out.b)) ?_; with_reducible rfl)
    try simp only [Act.put, List.setIfInBounds_toArray, List.set_cons_zero, List.set_cons_succ]
    refine wpAnyH_ready (rs := [4]) (by kernel_rfl) (by simp) ?_
    refine AllReadyH.cons (o := ⟨some 17, _, _, _, _, _⟩) rfl (fun K hK => ?_) AllReadyH.nil
    go_simp
    go_at_call 64
    refine (HOn.out _ hHeld.out.b).mono ?_; rintro e w5 ⟨rfl, b5⟩; have hs := zH (hHeld.out.call b5); clear b5
    refine hK.out _ _ hs (fun hHeld => ?_)
    clear hK K
    try simp only [ap1, ap2, ap3, ap4, ap5]
    refine wpAnyH_take (i := 5) (oi := ⟨some 18, _, _, _, _, _⟩) (v := ?_) rfl (by kernel_rfl) (by kernel_rfl) (by kernel_rfl) (fun _ _ _ h => h) (Or.inl ⟨by rfl, ?_⟩) (by assumption) ?_
    rotate_left
    ·(intro w hSw; (try dsimp only at hSw); go_simp; try with_reducible rfl)
    try simp only [Act.put, List.setIfInBounds_toArray, List.set_cons_zero, List.set_cons_succ]
    refine wpAnyH_take (i := 6) (oi := ⟨some 19, _, _, _, _, _⟩) (v := ?_) rfl (by kernel_rfl) (by kernel_rfl) (by kernel_rfl) (fun _ _ _ h => h) (Or.inl ⟨by rfl, ?_⟩) (by assumption) ?_
    rotate_left
    ·(intro w hSw; (try dsimp only at hSw); go_simp; try with_reducible rfl)
    try simp only [Act.put, List.setIfInBounds_toArray, List.set_cons_zero, List.set_cons_succ]
    refine wpAnyH_take (i := 7) (oi := ⟨some 20, _, _, _, _, _⟩) (v := ?_) rfl (by kernel_rfl) (by kernel_rfl) (by kernel_rfl) (fun _ _ _ h => h) (Or.inl ⟨by rfl, ?_⟩) (by assumption) ?_
    rotate_left
    ·(intro w hSw; (try dsimp only at hSw); go_simp; try with_reducible rfl)
    try simp only [Act.put, List.setIfInBounds_toArray, List.set_cons_zero, List.set_cons_succ]
    refine wpAnyH_take (i := 8) (oi := ⟨some 21, _, _, _, _, _⟩) (v := ?_) rfl (by kernel_rfl) (by kernel_rfl) (by kernel_rfl) (fun _ _ _ h => h) (Or.inl ⟨by rfl, ?_⟩) (by assumption) ?_
    rotate_left
    ·(intro w hSw; (try dsimp only at hSw); go_simp; try with_reducible rfl)
    try simp only [Act.put, List.setIfInBounds_toArray, List.set_cons_zero, List.set_cons_succ]
    refine wpAnyH_take (i := 9) (oi := ⟨some 22, _, _, _, _, _⟩) (v := ?_) rfl (by kernel_rfl) (by kernel_rfl) (by kernel_rfl) (fun _ _ _ h => h) (Or.inl ⟨by rfl, ?_⟩) (by assumption) ?_
    rotate_left
    ·(intro w hSw; (try dsimp only at hSw); go_simp; try with_reducible rfl)
    try simp only [Act.put, List.setIfInBounds_toArray, List.set_cons_zero, List.set_cons_succ]
    refine wpAnyH_take (i := 10) (oi := ⟨some 23, _, _, _, _, _⟩) (v := undef) rfl (by kernel_rfl) (by kernel_rfl) (by kernel_rfl) (fun _ _ _ h => h) (Or.inr ⟨by rfl, rfl⟩) (by assumption) ?_
    try simp only [Act.put, List.setIfInBounds_toArray, List.set_cons_zero, List.set_cons_succ]
    refine wpAnyH_take (i := 11) (oi := ⟨some 24, _, _, _, _, _⟩) (v := undef) rfl (by kernel_rfl) (by kernel_rfl) (by kernel_rfl) (fun _ _ _ h => h) (Or.inr ⟨by rfl, rfl⟩) (by assumption) ?_
    try simp only [Act.put, List.setIfInBounds_toArray, List.set_cons_zero, List.set_cons_succ]
    refine wpAnyH_take (i := 12) (oi := ⟨some 25, _, _, _, _, _⟩) (v := undef) rfl (by kernel_rfl) (by kernel_rfl) (by kernel_rfl) (fun _ _ _ h => h) (Or.inr ⟨by rfl, rfl⟩) (by assumption) ?_
    try simp only [Act.put, List.setIfInBounds_toArray, List.set_cons_zero, List.set_cons_succ]
    refine wpAnyH_take (i := 13) (oi := ⟨some 26, _, _, _, _, _⟩) (v := undef) rfl (by kernel_rfl) (by kernel_rfl) (by kernel_rfl) (fun _ _ _ h => h) (Or.inr ⟨by rfl, rfl⟩) (by assumption) ?_
    try simp only [Act.put, List.setIfInBounds_toArray, List.set_cons_zero, List.set_cons_succ]
    refine wpAnyH_take (i := 14) (oi := ⟨some 27, _, _, _, _, _⟩) (v := undef) rfl (by kernel_rfl) (by kernel_rfl) (by kernel_rfl) (fun _ _ _ h => h) (Or.inr ⟨by rfl, rfl⟩) (by assumption) ?_
    try simp only [Act.put, List.setIfInBounds_toArray, List.set_cons_zero, List.set_cons_succ]
    refine wpAnyH_take (i := 15) (oi := ⟨some 28, _, _, _, _, _⟩) (v := undef) rfl (by kernel_rfl) (by kernel_rfl) (by kernel_rfl) (fun _ _ _ h => h) (Or.inr ⟨by rfl, rfl⟩) (by assumption) ?_
    try simp only [Act.put, List.setIfInBounds_toArray, List.set_cons_zero, List.set_cons_succ]
    refine wpAnyH_take (i := 16) (oi := ⟨some 29, _, _, _, _, _⟩) (v := undef) rfl (by kernel_rfl) (by kernel_rfl) (by kernel_rfl) (fun _ _ _ h => h) (Or.inr ⟨by rfl, rfl⟩) (by assumption) ?_
    try simp only [Act.put, List.setIfInBounds_toArray, List.set_cons_zero, List.set_cons_succ]
    refine wpAnyH_take (i := 17) (oi := ⟨some 30, _, _, _, _, _⟩) (v := undef) rfl (by kernel_rfl) (by kernel_rfl) (by kernel_rfl) (fun _ _ _ h => h) (Or.inr ⟨by rfl, rfl⟩) (by assumption) ?_
    try simp only [Act.put, List.setIfInBounds_toArray, List.set_cons_zero, List.set_cons_succ]
    refine wpAnyH_take (i := 18) (oi := ⟨some 31, _, _, _, _, _⟩) (v := undef) rfl (by kernel_rfl) (by kernel_rfl) (by kernel_rfl) (fun _ _ _ h => h) (Or.inr ⟨by rfl, rfl⟩) (by assumption) ?_
    try simp only [Act.put, List.setIfInBounds_toArray, List.set_cons_zero, List.set_cons_succ]
    refine wpAnyH_take (i := 19) (oi := ⟨some 32, _, _, _, _, _⟩) (v := undef) rfl (by kernel_rfl) (by kernel_rfl) (by kernel_rfl) (fun _ _ _ h => h) (Or.inr ⟨by rfl, rfl⟩) (by assumption) ?_
    try simp only [Act.put, List.setIfInBounds_toArray, List.set_cons_zero, List.set_cons_succ]
    refine wpAnyH_take (i := 20) (oi := ⟨some 33, _, _, _, _, _⟩) (v := undef) rfl (by kernel_rfl) (by kernel_rfl) (by kernel_rfl) (fun _ _ _ h => h) (Or.inr ⟨by rfl, rfl⟩) (by assumption) ?_
    try simp only [Act.put, List.setIfInBounds_toArray, List.set_cons_zero, List.set_cons_succ]
    refine wpAnyH_take (i := 21) (oi := ⟨some 34, _, _, _, _, _⟩) (v := undef) rfl (by kernel_rfl) (by kernel_rfl) (by kernel_rfl) (fun _ _ _ h => h) (Or.inr ⟨by rfl, rfl⟩) (by assumption) ?_
    try simp only [Act.put, List.setIfInBounds_toArray, List.set_cons_zero, List.set_cons_succ]
    refine wpAnyH_take (i := 22) (oi := ⟨some 35, _, _, _, _, _⟩) (v := ?_) rfl (by kernel_rfl) (by kernel_rfl) (by kernel_rfl) (fun _ _ _ h => h) (Or.inl ⟨by rfl, ?_⟩) (by assumption) ?_
    rotate_left
    ·(intro w hSw; (try dsimp only at hSw); go_simp; try with_reducible rfl)
    try simp only [Act.put, List.setIfInBounds_toArray, List.set_cons_zero, List.set_cons_succ]
    refine wpAnyH_take (i := 23) (oi := ⟨some 36, _, _, _, _, _⟩) (v := ?_) rfl (by kernel_rfl) (by kernel_rfl) (by kernel_rfl) (fun _ _ _ h => h) (Or.inl ⟨by rfl, ?_⟩) (by assumption) ?_
    rotate_left
    ·(intro w hSw; (try dsimp only at hSw); go_simp; try with_reducible rfl)
    try simp only [Act.put, List.setIfInBounds_toArray, List.set_cons_zero, List.set_cons_succ]
    refine wpAnyH_done (by kernel_rfl) ?_ _
    go_wp2_with (first | refine wpList_exe (exec_add1 (j := 0) _ (by rfl) (by rfl) h063) (by rfl) ?_)
    exact ⟨⟨1, by omega, by go_num, zH (fun i hi => by
     obtain rfl : i = 0 := by omega
     exact HIf.out.2 ⟨rfl, fun j y h _ => by omega⟩), hHeld⟩, by simp [intOf]; omega⟩
   ·obtain ⟨j, rfl⟩ : ∃ j, k = j + 1 := ⟨k - 1, by omega⟩
    clear hpos
    obtain ⟨y, hy, hyc⟩ := HPrev.out j rfl
    have HY := zH hyc
    have HYl := zH hy
    clear hy hyc HPrev
    have hj : j < n := by omega
    have hj2 : j < 9223372036854775807 := by omega
    have hj4 : j + 1 < 9223372036854775807 := by omega
    have hj3 : ((j + 1 : Nat) : Int) > 0 := by omega
    cases hlt2 : Dct.lt y.v.name x.v.name with
    | true =>
     have hb : (!Dct.lt y.v.name x.v.name) = false := by rw [hlt2]; rfl
     refine wp_region_held_drew (S := (fun W => Hid (Kn w.heap.size w W [] []))) (by kernel_rfl) ?_ (fun hHeld => ?_)
     ·(try dsimp only); exact zH HK.out.drew
     refine wpAnyH_take (i := 0) (oi := ⟨some 13, _, _, _, _, _⟩) (v := ?_) rfl (by kernel_rfl) (by kernel_rfl) (by kernel_rfl) (fun _ _ _ h => h) (Or.inl ⟨by rfl, ?_⟩) (by assumption) ?_
     rotate_left
     ·(intro w hSw; (try dsimp only at hSw); go_simp; try with_reducible rfl)
     try simp only [Act.put, List.setIfInBounds_toArray, List.set_cons_zero, List.set_cons_succ]
     refine wpAnyH_take (i := 1) (oi := ⟨some 14, _, _, _, _, _⟩) (v := ?_) rfl (by kernel_rfl) (by kernel_rfl) (by kernel_rfl) (fun _ _ _ h => h) (Or.inl ⟨by rfl, ?_⟩) (by assumption) ?_
     rotate_left
     ·(intro w hSw; (try dsimp only at hSw); go_simp; try with_reducible rfl)
     try simp only [Act.put, List.setIfInBounds_toArray, List.set_cons_zero, List.set_cons_succ]
     refine wpAnyH_take (i := 2) (oi := ⟨some 15, _, _, _, _, _⟩) (v := ?_) rfl (by kernel_rfl) (by kernel_rfl) (by kernel_rfl) (fun _ _ _ h => h) (Or.inl ⟨by rfl, ?_⟩) (by assumption) ?_
     rotate_left
     ·(intro w hSw; refine Eq.trans (exec_ixo (i := j + 1) _ _ (by rfl) (by rfl) (by rfl) hlt) ?_; with_reducible rfl)
     try simp only [Act.put, List.setIfInBounds_toArray, List.set_cons_zero, List.set_cons_succ]
     refine wpAnyH_take (i := 3) (oi := ⟨some 16, _, _, _, _, _⟩) (v := ?_) rfl (by kernel_rfl) (by kernel_rfl) (by kernel_rfl) (fun _ _ _ h => h) (Or.inl ⟨by rfl, ?_⟩) (by assumption) ?_
     rotate_left
     ·(intro w hSw; refine Eq.trans (exec_obx (off := o + (j + 1) * 11) _ (by rfl) (by rfl) (HX.out _ hSw.out.b)) ?_; with_reducible rfl)
     try simp only [Act.put, List.setIfInBounds_toArray, List.set_cons_zero, List.set_cons_succ]
     refine wpAnyH_ready (rs := [4]) (by kernel_rfl) (by simp) ?_
     refine AllReadyH.cons (o := ⟨some 17, _, _, _, _, _⟩) rfl (fun K hK => ?_) AllReadyH.nil
     go_simp
     go_at_call 64
     refine (HOn.out _ hHeld.out.b).mono ?_; rintro e w5 ⟨rfl, b5⟩; have hs := zH (hHeld.out.call b5); clear b5
     refine hK.out _ _ hs (fun hHeld => ?_)
     clear hK K
     try simp only [ap1, ap2, ap3, ap4, ap5]
     refine wpAnyH_take (i := 5) (oi := ⟨some 18, _, _, _, _, _⟩) (v := ?_) rfl (by kernel_rfl) (by kernel_rfl) (by kernel_rfl) (fun _ _ _ h => h) (Or.inl ⟨by rfl, ?_⟩) (by assumption) ?_
     rotate_left
     ·(intro w hSw; (try dsimp only at hSw); go_simp; try with_reducible rfl)
     try simp only [Act.put, List.setIfInBounds_toArray, List.set_cons_zero, List.set_cons_succ]
     refine wpAnyH_take (i := 6) (oi := ⟨some 19, _, _, _, _, _⟩) (v := ?_) rfl (by kernel_rfl) (by kernel_rfl) (by kernel_rfl) (fun _ _ _ h => h) (Or.inl ⟨by rfl, ?_⟩) (by assumption) ?_
     rotate_left
     ·(intro w hSw; (try dsimp only at hSw); go_simp; try with_reducible rfl)
     try simp only [Act.put, List.setIfInBounds_toArray, List.set_cons_zero, List.set_cons_succ]
     refine wpAnyH_take (i := 7) (oi := ⟨some 20, _, _, _, _, _⟩) (v := ?_) rfl (by kernel_rfl) (by kernel_rfl) (by kernel_rfl) (fun _ _ _ h => h) (Or.inl ⟨by rfl, ?_⟩) (by assumption) ?_
     rotate_left
     ·(intro w hSw; (try dsimp only at hSw); go_simp; try with_reducible rfl)
     try simp only [Act.put, List.setIfInBounds_toArray, List.set_cons_zero, List.set_cons_succ]
     refine wpAnyH_take (i := 8) (oi := ⟨some 21, _, _, _, _, _⟩) (v := ?_) rfl (by kernel_rfl) (by kernel_rfl) (by kernel_rfl) (fun _ _ _ h => h) (Or.inl ⟨by rfl, ?_⟩) (by assumption) ?_
     rotate_left
     ·(intro w hSw; (try dsimp only at hSw); go_simp; try with_reducible rfl)
     try simp only [Act.put, List.setIfInBounds_toArray, List.set_cons_zero, List.set_cons_succ]
     refine wpAnyH_take (i := 9) (oi := ⟨some 22, _, _, _, _, _⟩) (v := ?_) rfl (by kernel_rfl) (by kernel_rfl) (by kernel_rfl) (fun _ _ _ h => h) (Or.inl ⟨by rfl, ?_⟩) (by assumption) ?_
     rotate_left
     ·(intro w hSw; (try dsimp only at hSw); go_simp; try with_reducible rfl)
     try simp only [Act.put, List.setIfInBounds_toArray, List.set_cons_zero, List.set_cons_succ]
     refine wpAnyH_take (i := 10) (oi := ⟨some 23, _, _, _, _, _⟩) (v := ?_) rfl (by kernel_rfl) (by kernel_rfl) (by kernel_rfl) (fun _ _ _ h => h) (Or.inl ⟨by rfl, ?_⟩) (by assumption) ?_
     rotate_left
     ·(intro w hSw; (try dsimp only at hSw); go_simp; try with_reducible rfl)
     try simp only [Act.put, List.setIfInBounds_toArray, List.set_cons_zero, List.set_cons_succ]
     refine wpAnyH_take (i := 11) (oi := ⟨some 24, _, _, _, _, _⟩) (v := ?_) rfl (by kernel_rfl) (by kernel_rfl) (by kernel_rfl) (fun _ _ _ h => h) (Or.inl ⟨by rfl, ?_⟩) (by assumption) ?_
     rotate_left
     ·(intro w hSw; (try dsimp only at hSw); go_simp; try with_reducible rfl)
     try simp only [Act.put, List.setIfInBounds_toArray, List.set_cons_zero, List.set_cons_succ]
     refine wpAnyH_take (i := 12) (oi := ⟨some 25, _, _, _, _, _⟩) (v := ?_) rfl (by kernel_rfl) (by kernel_rfl) (by kernel_rfl) (fun _ _ _ h => h) (Or.inl ⟨by rfl, ?_⟩) (by assumption) ?_
     rotate_left
     ·(intro w hSw; refine Eq.trans (exec_sub1 (j := j) _ (by rfl) (by rfl) hj2) ?_; with_reducible rfl)
     try simp only [Act.put, List.setIfInBounds_toArray, List.set_cons_zero, List.set_cons_succ]
     refine wpAnyH_take (i := 13) (oi := ⟨some 26, _, _, _, _, _⟩) (v := ?_) rfl (by kernel_rfl) (by kernel_rfl) (by kernel_rfl) (fun _ _ _ h => h) (Or.inl ⟨by rfl, ?_⟩) (by assumption) ?_
     rotate_left
     ·(intro w hSw; refine Eq.trans (exec_ixo (i := j) _ _ (by rfl) (by rfl) (by rfl) hj) ?_; with_reducible rfl)
     try simp only [Act.put, List.setIfInBounds_toArray, List.set_cons_zero, List.set_cons_succ]
     refine wpAnyH_take (i := 14) (oi := ⟨some 27, _, _, _, _, _⟩) (v := ?_) rfl (by kernel_rfl) (by kernel_rfl) (by kernel_rfl) (fun _ _ _ h => h) (Or.inl ⟨by rfl, ?_⟩) (by assumption) ?_
     rotate_left
     ·(intro w hSw; (try dsimp only at hSw); go_simp; try with_reducible rfl)
     try simp only [Act.put, List.setIfInBounds_toArray, List.set_cons_zero, List.set_cons_succ]
     refine wpAnyH_take (i := 15) (oi := ⟨some 28, _, _, _, _, _⟩) (v := ?_) rfl (by kernel_rfl) (by kernel_rfl) (by kernel_rfl) (fun _ _ _ h => h) (Or.inl ⟨by rfl, ?_⟩) (by assumption) ?_
     rotate_left
     ·(intro w hSw; refine Eq.trans (exec_obn (off := o + j * 11) _ (by rfl) (by rfl) (HY.out _ hSw.out.b)) ?_; with_reducible rfl)
     try simp only [Act.put, List.setIfInBounds_toArray, List.set_cons_zero, List.set_cons_succ]
     refine wpAnyH_take (i := 16) (oi := ⟨some 29, _, _, _, _, _⟩) (v := ?_) rfl (by kernel_rfl) (by kernel_rfl) (by kernel_rfl) (fun _ _ _ h => h) (Or.inl ⟨by rfl, ?_⟩) (by assumption) ?_
     rotate_left
     ·(intro w hSw; (try dsimp only at hSw); go_simp; try with_reducible rfl)
     try simp only [Act.put, List.setIfInBounds_toArray, List.set_cons_zero, List.set_cons_succ]
     refine wpAnyH_take (i := 17) (oi := ⟨some 30, _, _, _, _, _⟩) (v := ?_) rfl (by kernel_rfl) (by kernel_rfl) (by kernel_rfl) (fun _ _ _ h => h) (Or.inl ⟨by rfl, ?_⟩) (by assumption) ?_
     rotate_left
     ·(intro w hSw; (try dsimp only at hSw); go_simp; try with_reducible rfl)
     try simp only [Act.put, List.setIfInBounds_toArray, List.set_cons_zero, List.set_cons_succ]
     refine wpAnyH_take (i := 18) (oi := ⟨some 31, _, _, _, _, _⟩) (v := ?_) rfl (by kernel_rfl) (by kernel_rfl) (by kernel_rfl) (fun _ _ _ h => h) (Or.inl ⟨by rfl, ?_⟩) (by assumption) ?_
     rotate_left
     ·(intro w hSw; refine Eq.trans (exec_ixo (i := j + 1) _ _ (by rfl) (by rfl) (by rfl) hlt) ?_; with_reducible rfl)
     try simp only [Act.put, List.setIfInBounds_toArray, List.set_cons_zero, List.set_cons_succ]
     refine wpAnyH_take (i := 19) (oi := ⟨some 32, _, _, _, _, _⟩) (v := ?_) rfl (by kernel_rfl) (by kernel_rfl) (by kernel_rfl) (fun _ _ _ h => h) (Or.inl ⟨by rfl, ?_⟩) (by assumption) ?_
     rotate_left
     ·(intro w hSw; (try dsimp only at hSw); go_simp; try with_reducible rfl)
     try simp only [Act.put, List.setIfInBounds_toArray, List.set_cons_zero, List.set_cons_succ]
     refine wpAnyH_take (i := 20) (oi := ⟨some 33, _, _, _, _, _⟩) (v := ?_) rfl (by kernel_rfl) (by kernel_rfl) (by kernel_rfl) (fun _ _ _ h => h) (Or.inl ⟨by rfl, ?_⟩) (by assumption) ?_
     rotate_left
     ·(intro w hSw; refine Eq.trans (exec_obn (off := o + (j + 1) * 11) _ (by rfl) (by rfl) (HX.out _ hSw.out.b)) ?_; with_reducible rfl)
     try simp only [Act.put, List.setIfInBounds_toArray, List.set_cons_zero, List.set_cons_succ]
     refine wpAnyH_take (i := 21) (oi := ⟨some 34, _, _, _, _, _⟩) (v := ?_) rfl (by kernel_rfl) (by kernel_rfl) (by kernel_rfl) (fun _ _ _ h => h) (Or.inl ⟨by rfl, ?_⟩) (by assumption) ?_
     rotate_left
     ·(intro w hSw; refine Eq.trans (exec_sge _ _ (by rfl) (by rfl) (by rfl) hb) ?_; with_reducible rfl)
     try simp only [Act.put, List.setIfInBounds_toArray, List.set_cons_zero, List.set_cons_succ]
     refine wpAnyH_take (i := 22) (oi := ⟨some 35, _, _, _, _, _⟩) (v := ?_) rfl (by kernel_rfl) (by kernel_rfl) (by kernel_rfl) (fun _ _ _ h => h) (Or.inl ⟨by rfl, ?_⟩) (by assumption) ?_
     rotate_left
     ·(intro w hSw; (try dsimp only at hSw); go_simp; try with_reducible rfl)
     try simp only [Act.put, List.setIfInBounds_toArray, List.set_cons_zero, List.set_cons_succ]
     refine wpAnyH_take (i := 23) (oi := ⟨some 36, _, _, _, _, _⟩) (v := ?_) rfl (by kernel_rfl) (by kernel_rfl) (by kernel_rfl) (fun _ _ _ h => h) (Or.inl ⟨by rfl, ?_⟩) (by assumption) ?_
     rotate_left
     ·(intro w hSw; (try dsimp only at hSw); go_simp; try with_reducible rfl)
     try simp only [Act.put, List.setIfInBounds_toArray, List.set_cons_zero, List.set_cons_succ]
     refine wpAnyH_done (by kernel_rfl) ?_ _
     go_wp2_with (first | refine wpList_exe (exec_add1 (j := j + 1) _ (by rfl) (by rfl) hj4) (by rfl) ?_)
     exact ⟨⟨j + 2, by omega, by go_num, zH (fun i hi => by
      by_cases hij : i = j + 1
      ·subst hij
       refine HIf.out.2 ⟨rfl, fun j' y' h h' => ?_⟩
       obtain rfl : j = j' := by omega
       rw [HYl.out] at h'
       injection h' with h'
       subst h'
       exact hlt2
      ·exact HGo.out i (by omega)), hHeld⟩, by simp [intOf]; omega⟩
    | false =>
     have hb : (!Dct.lt y.v.name x.v.name) = true := by rw [hlt2]; rfl
     have HR : Hid (r = false) := zH (HNo.out _ hlt fun h => by
      have := (HIf.out.1 h).2 j y.v rfl HYl.out
      rw [hlt2] at this; cases this)
     refine wp_region_held_drew (S := (fun W => Hid (Kn w.heap.size w W [] []))) (by kernel_rfl) ?_ (fun hHeld => ?_)
     ·(try dsimp only); exact zH HK.out.drew
     refine wpAnyH_take (i := 0) (oi := ⟨some 13, _, _, _, _, _⟩) (v := ?_) rfl (by kernel_rfl) (by kernel_rfl) (by kernel_rfl) (fun _ _ _ h => h) (Or.inl ⟨by rfl, ?_⟩) (by assumption) ?_
     rotate_left
     ·(intro w hSw; (try dsimp only at hSw); go_simp; try with_reducible rfl)
     try simp only [Act.put, List.setIfInBounds_toArray, List.set_cons_zero, List.set_cons_succ]
     refine wpAnyH_take (i := 1) (oi := ⟨some 14, _, _, _, _, _⟩) (v := ?_) rfl (by kernel_rfl) (by kernel_rfl) (by kernel_rfl) (fun _ _ _ h => h) (Or.inl ⟨by rfl, ?_⟩) (by assumption) ?_
     rotate_left
     ·(intro w hSw; (try dsimp only at hSw); go_simp; try with_reducible rfl)
     try simp only [Act.put, List.setIfInBounds_toArray, List.set_cons_zero, List.set_cons_succ]
     refine wpAnyH_take (i := 2) (oi := ⟨some 15, _, _, _, _, _⟩) (v := ?_) rfl (by kernel_rfl) (by kernel_rfl) (by kernel_rfl) (fun _ _ _ h => h) (Or.inl ⟨by rfl, ?_⟩) (by assumption) ?_
     rotate_left
     ·(intro w hSw; refine Eq.trans (exec_ixo (i := j + 1) _ _ (by rfl) (by rfl) (by rfl) hlt) ?_; with_reducible rfl)
     try simp only [Act.put, List.setIfInBounds_toArray, List.set_cons_zero, List.set_cons_succ]
     refine wpAnyH_take (i := 3) (oi := ⟨some 16, _, _, _, _, _⟩) (v := ?_) rfl (by kernel_rfl) (by kernel_rfl) (by kernel_rfl) (fun _ _ _ h => h) (Or.inl ⟨by rfl, ?_⟩) (by assumption) ?_
     rotate_left
     ·(intro w hSw; refine Eq.trans (exec_obx (off := o + (j + 1) * 11) _ (by rfl) (by rfl) (HX.out _ hSw.out.b)) ?_; with_reducible rfl)
     try simp only [Act.put, List.setIfInBounds_toArray, List.set_cons_zero, List.set_cons_succ]
     refine wpAnyH_ready (rs := [4]) (by kernel_rfl) (by simp) ?_
     refine AllReadyH.cons (o := ⟨some 17, _, _, _, _, _⟩) rfl (fun K hK => ?_) AllReadyH.nil
     go_simp
     go_at_call 64
     refine (HOn.out _ hHeld.out.b).mono ?_; rintro e w5 ⟨rfl, b5⟩; have hs := zH (hHeld.out.call b5); clear b5
     refine hK.out _ _ hs (fun hHeld => ?_)
     clear hK K
     try simp only [ap1, ap2, ap3, ap4, ap5]
     refine wpAnyH_take (i := 5) (oi := ⟨some 18, _, _, _, _, _⟩) (v := ?_) rfl (by kernel_rfl) (by kernel_rfl) (by kernel_rfl) (fun _ _ _ h => h) (Or.inl ⟨by rfl, ?_⟩) (by assumption) ?_
     rotate_left
     ·(intro w hSw; (try dsimp only at hSw); go_simp; try with_reducible rfl)
     try simp only [Act.put, List.setIfInBounds_toArray, List.set_cons_zero, List.set_cons_succ]
     refine wpAnyH_take (i := 6) (oi := ⟨some 19, _, _, _, _, _⟩) (v := ?_) rfl (by kernel_rfl) (by kernel_rfl) (by kernel_rfl) (fun _ _ _ h => h) (Or.inl ⟨by rfl, ?_⟩) (by assumption) ?_
     rotate_left
     ·(intro w hSw; (try dsimp only at hSw); go_simp; try with_reducible rfl)
     try simp only [Act.put, List.setIfInBounds_toArray, List.set_cons_zero, List.set_cons_succ]
     refine wpAnyH_take (i := 7) (oi := ⟨some 20, _, _, _, _, _⟩) (v := ?_) rfl (by kernel_rfl) (by kernel_rfl) (by kernel_rfl) (fun _ _ _ h => h) (Or.inl ⟨by rfl, ?_⟩) (by assumption) ?_
     rotate_left
     ·(intro w hSw; (try dsimp only at hSw); go_simp; try with_reducible rfl)
     try simp only [Act.put, List.setIfInBounds_toArray, List.set_cons_zero, List.set_cons_succ]
     refine wpAnyH_take (i := 8) (oi := ⟨some 21, _, _, _, _, _⟩) (v := ?_) rfl (by kernel_rfl) (by kernel_rfl) (by kernel_rfl) (fun _ _ _ h => h) (Or.inl ⟨by rfl, ?_⟩) (by assumption) ?_
     rotate_left
     ·(intro w hSw; (try dsimp only at hSw); go_simp; try with_reducible rfl)
     try simp only [Act.put, List.setIfInBounds_toArray, List.set_cons_zero, List.set_cons_succ]
     refine wpAnyH_take (i := 9) (oi := ⟨some 22, _, _, _, _, _⟩) (v := ?_) rfl (by kernel_rfl) (by kernel_rfl) (by kernel_rfl) (fun _ _ _ h => h) (Or.inl ⟨by rfl, ?_⟩) (by assumption) ?_
     rotate_left
     ·(intro w hSw; (try dsimp only at hSw); go_simp; try with_reducible rfl)
     try simp only [Act.put, List.setIfInBounds_toArray, List.set_cons_zero, List.set_cons_succ]
     refine wpAnyH_take (i := 10) (oi := ⟨some 23, _, _, _, _, _⟩) (v := ?_) rfl (by kernel_rfl) (by kernel_rfl) (by kernel_rfl) (fun _ _ _ h => h) (Or.inl ⟨by rfl, ?_⟩) (by assumption) ?_
     rotate_left
     ·(intro w hSw; (try dsimp only at hSw); go_simp; try with_reducible rfl)
     try simp only [Act.put, List.setIfInBounds_toArray, List.set_cons_zero, List.set_cons_succ]
     refine wpAnyH_take (i := 11) (oi := ⟨some 24, _, _, _, _, _⟩) (v := ?_) rfl (by kernel_rfl) (by kernel_rfl) (by kernel_rfl) (fun _ _ _ h => h) (Or.inl ⟨by rfl, ?_⟩) (by assumption) ?_
     rotate_left
     ·(intro w hSw; (try dsimp only at hSw); go_simp; try with_reducible rfl)
     try simp only [Act.put, List.setIfInBounds_toArray, List.set_cons_zero, List.set_cons_succ]
     refine wpAnyH_take (i := 12) (oi := ⟨some 25, _, _, _, _, _⟩) (v := ?_) rfl (by kernel_rfl) (by kernel_rfl) (by kernel_rfl) (fun _ _ _ h => h) (Or.inl ⟨by rfl, ?_⟩) (by assumption) ?_
     rotate_left
     ·(intro w hSw; refine Eq.trans (exec_sub1 (j := j) _ (by rfl) (by rfl) hj2) ?_; with_reducible rfl)
     try simp only [Act.put, List.setIfInBounds_toArray, List.set_cons_zero, List.set_cons_succ]
     refine wpAnyH_take (i := 13) (oi := ⟨some 26, _, _, _, _, _⟩) (v := ?_) rfl (by kernel_rfl) (by kernel_rfl) (by kernel_rfl) (fun _ _ _ h => h) (Or.inl ⟨by rfl, ?_⟩) (by assumption) ?_
     rotate_left
     ·(intro w hSw; refine Eq.trans (exec_ixo (i := j) _ _ (by rfl) (by rfl) (by rfl) hj) ?_; with_reducible rfl)
     try simp only [Act.put, List.setIfInBounds_toArray, List.set_cons_zero, List.set_cons_succ]
     refine wpAnyH_take (i := 14) (oi := ⟨some 27, _, _, _, _, _⟩) (v := ?_) rfl (by kernel_rfl) (by kernel_rfl) (by kernel_rfl) (fun _ _ _ h => h) (Or.inl ⟨by rfl, ?_⟩) (by assumption) ?_
     rotate_left
     ·(intro w hSw; (try dsimp only at hSw); go_simp; try with_reducible rfl)
     try simp only [Act.put, List.setIfInBounds_toArray, List.set_cons_zero, List.set_cons_succ]
     refine wpAnyH_take (i := 15) (oi := ⟨some 28, _, _, _, _, _⟩) (v := ?_) rfl (by kernel_rfl) (by kernel_rfl) (by kernel_rfl) (fun _ _ _ h => h) (Or.inl ⟨by rfl, ?_⟩) (by assumption) ?_
     rotate_left
     ·(intro w hSw; refine Eq.trans (exec_obn (off := o + j * 11) _ (by rfl) (by rfl) (HY.out _ hSw.out.b)) ?_; with_reducible rfl)
     try simp only [Act.put, List.setIfInBounds_toArray, List.set_cons_zero, List.set_cons_succ]
     refine wpAnyH_take (i := 16) (oi := ⟨some 29, _, _, _, _, _⟩) (v := ?_) rfl (by kernel_rfl) (by kernel_rfl) (by kernel_rfl) (fun _ _ _ h => h) (Or.inl ⟨by rfl, ?_⟩) (by assumption) ?_
     rotate_left
     ·(intro w hSw; (try dsimp only at hSw); go_simp; try with_reducible rfl)
     try simp only [Act.put, List.setIfInBounds_toArray, List.set_cons_zero, List.set_cons_succ]
     refine wpAnyH_take (i := 17) (oi := ⟨some 30, _, _, _, _, _⟩) (v := ?_) rfl (by kernel_rfl) (by kernel_rfl) (by kernel_rfl) (fun _ _ _ h => h) (Or.inl ⟨by rfl, ?_⟩) (by assumption) ?_
     rotate_left
     ·(intro w hSw; (try dsimp only at hSw); go_simp; try with_reducible rfl)
     try simp only [Act.put, List.setIfInBounds_toArray, List.set_cons_zero, List.set_cons_succ]
     refine wpAnyH_take (i := 18) (oi := ⟨some 31, _, _, _, _, _⟩) (v := ?_) rfl (by kernel_rfl) (by kernel_rfl) (by kernel_rfl) (fun _ _ _ h => h) (Or.inl ⟨by rfl, ?_⟩) (by assumption) ?_
     rotate_left
     ·(intro w hSw; refine Eq.trans (exec_ixo (i := j + 1) _ _ (by rfl) (by rfl) (by rfl) hlt) ?_; with_reducible rfl)
     try simp only [Act.put, List.setIfInBounds_toArray, List.set_cons_zero, List.set_cons_succ]
     refine wpAnyH_take (i := 19) (oi := ⟨some 32, _, _, _, _, _⟩) (v := ?_) rfl (by kernel_rfl) (by kernel_rfl) (by kernel_rfl) (fun _ _ _ h => h) (Or.inl ⟨by rfl, ?_⟩) (by assumption) ?_
     rotate_left
     ·(intro w hSw; (try dsimp only at hSw); go_simp; try with_reducible rfl)
     try simp only [Act.put, List.setIfInBounds_toArray, List.set_cons_zero, List.set_cons_succ]
     refine wpAnyH_take (i := 20) (oi := ⟨some 33, _, _, _, _, _⟩) (v := ?_) rfl (by kernel_rfl) (by kernel_rfl) (by kernel_rfl) (fun _ _ _ h => h) (Or.inl ⟨by rfl, ?_⟩) (by assumption) ?_
     rotate_left
     ·(intro w hSw; refine Eq.trans (exec_obn (off := o + (j + 1) * 11) _ (by rfl) (by rfl) (HX.out _ hSw.out.b)) ?_; with_reducible rfl)
     try simp only [Act.put, List.setIfInBounds_toArray, List.set_cons_zero, List.set_cons_succ]
     refine wpAnyH_take (i := 21) (oi := ⟨some 34, _, _, _, _, _⟩) (v := ?_) rfl (by kernel_rfl) (by kernel_rfl) (by kernel_rfl) (fun _ _ _ h => h) (Or.inl ⟨by rfl, ?_⟩) (by assumption) ?_
     rotate_left
     ·(intro w hSw; refine Eq.trans (exec_sge _ _ (by rfl) (by rfl) (by rfl) hb) ?_; with_reducible rfl)
     try simp only [Act.put, List.setIfInBounds_toArray, List.set_cons_zero, List.set_cons_succ]
     refine wpAnyH_take (i := 22) (oi := ⟨some 35, _, _, _, _, _⟩) (v := ?_) rfl (by kernel_rfl) (by kernel_rfl) (by kernel_rfl) (fun _ _ _ h => h) (Or.inl ⟨by rfl, ?_⟩) (by assumption) ?_
     rotate_left
     ·(intro w hSw; (try dsimp only at hSw); go_simp; try with_reducible rfl)
     try simp only [Act.put, List.setIfInBounds_toArray, List.set_cons_zero, List.set_cons_succ]
     refine wpAnyH_take (i := 23) (oi := ⟨some 36, _, _, _, _, _⟩) (v := ?_) rfl (by kernel_rfl) (by kernel_rfl) (by kernel_rfl) (fun _ _ _ h => h) (Or.inl ⟨by rfl, ?_⟩) (by assumption) ?_
     rotate_left
     ·(intro w hSw; (try dsimp only at hSw); go_simp; try with_reducible rfl)
     try simp only [Act.put, List.setIfInBounds_toArray, List.set_cons_zero, List.set_cons_succ]
     refine wpAnyH_done (by kernel_rfl) ?_ _
     go_wp2_with fail
     go_ret
     exact ⟨by rw [HR.out] <;> rfl, hHeld.out.b⟩
  ·obtain rfl : k = n := by omega
   have HR : Hid (r = true) := zH (HYes.out HGo.out)
   go_wp2_with fail
   go_ret
   exact ⟨by rw [HR.out] <;> rfl, HK.out.b⟩
end Go.Proofs.YtpkodjllljnleaaGreat
