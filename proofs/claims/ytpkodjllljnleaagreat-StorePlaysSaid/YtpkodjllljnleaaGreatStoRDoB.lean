/- What the document's Do returns: all the ways together. No condition but those named. -/
import Derived.Test.YtpkodjllljnleaaGreatStoRDoT
import Derived.Test.YtpkodjllljnleaaGreatStoRDoH
import Derived.Test.YtpkodjllljnleaaGreatStoRDoF
import Derived.Test.YtpkodjllljnleaaGreatStoRDoP
set_option linter.unusedSimpArgs false
set_option linter.unusedVariables false
namespace Go.Proofs.YtpkodjllljnleaaGreat
open Go.RowKit
theorem rdo_any (G : World → Prop) (A : Option Addr) (cp n : Nat) (l : List Oh) (r : Rf) (c : Cmd.C) (w : World) (hG : ∀ W, G W → Obs W A n cp l) (hs : Obs w A n cp l) (hv : c.val.f < 18446744073709551616) (ho : c.old.f < 18446744073709551616) :
  Calls Tryz.prog 8 #[.slice A n cp, .agg #[.int .i64 r.c, .int .i64 r.e, .int .i64 r.r], .agg (cmA c)] w (IsRD G (Sto.doo (vs l) r c) w) := by
 by_cases hr : Sto.Right (vs l)
 case neg => rw [Sto.doo_arg (fun g => hr g.1)]; exact rdo_a1 G A cp n l r c w hG hs hv ho hr
 by_cases hk : Lck.ok r
 case neg => rw [Sto.doo_arg (fun g => hk g.2.1)]; exact rdo_a2 G A cp n l r c w hG hs hv ho hr hk
 by_cases h4 : c.k < 4
 case pos => rw [Sto.doo_arg (fun g => by have := g.2.2.1; omega)]; exact rdo_a3 G A cp n l r c w hG hs hv ho hr hk h4
 by_cases h17 : 17 < c.k
 case pos => rw [Sto.doo_arg (fun g => by have := g.2.2.2; omega)]; exact rdo_a4 G A cp n l r c w hG hs hv ho hr hk h4 h17
 have hall : Sto.All (vs l) r c := ⟨hr, hk, by omega, by omega⟩
 by_cases he : Cmd.chk c = 0
 case neg => rw [Sto.doo_chk hall he]; exact rdo_chk G A cp n l r c w hG hs hv ho hall he
 have hl : (vs l).length = n := by rw [vs_len, hs.len]
 by_cases h44 : c.k = 4
 ·cases hf : Sto.fnd (vs l) c.name with
  | some o => rw [Sto.doo_8 hall he h44 hf]; exact rdo_8 G A cp n l r c w hG hs hv ho hall he h44 o hf
  | none =>
   by_cases h8 : n = 8
   ·rw [Sto.doo_6 hall he h44 hf (by rw [hl]; exact h8)]; exact rdo_6 G A cp n l r c w hG hs hv ho hall he h44 hf h8
   ·rw [Sto.doo_made hall he h44 hf (by rw [hl]; exact h8)]; exact rdo_made G A cp n l r c w hG hs hv ho hall he h44 hf h8
 cases hf : Sto.fnd (vs l) c.name with
 | none => rw [Sto.doo_5 hall he h44 hf]; exact rdo_5 G A cp n l r c w hG hs hv ho hall he h44 hf
 | some o =>
  by_cases h5 : c.k = 5
  ·by_cases hrl : 0 < o.refs.length
   ·rw [Sto.doo_13 hall he h5 hf hrl]; exact rdo_13 G A cp n l r c w hG hs hv ho hall he h5 o hf hrl
   ·exact rdo_wo G A cp n l r c w hG hs hv ho hall he h5 o hf hrl
  cases hft : Sto.fits c.k o.kind with
  | false => rw [Sto.doo_7 hall he h44 hf hft]; exact rdo_7 G A cp n l r c w hG hs hv ho hall he h44 o hf hft
  | true =>
   by_cases h14 : c.k = 14
   ·exact rdo_thru G A cp n l r c w hG hs hv ho hall he h44 h5 o hf hft h14
   by_cases h12 : c.k = 12
   ·exact rdo_hold12 G A cp n l r c w hG hs hv ho hall he h44 h5 o hf hft h12
   by_cases h13 : c.k = 13
   ·exact rdo_hold13 G A cp n l r c w hG hs hv ho hall he h44 h5 o hf hft h13
   exact rdo_plain G A cp n l r c w hG hs hv ho hall he h44 h5 o hf hft h12 h13 h14
end Go.Proofs.YtpkodjllljnleaaGreat
