/- What the document's Do returns: all the ways together. No condition but those named. -/
import Derived.Test.YtieoeendnccafaaGreatNBKB
set_option linter.unusedSimpArgs false
set_option linter.unusedVariables false
set_option maxRecDepth 100000
set_option maxHeartbeats 25600000
open Go.RowKit
namespace Go.Proofs.YtieoeendnccafaaGreat
open _root_.Go.Proofs.Tryz
section
theorem Mf(G:World→Prop)(A:Option Addr)(cp n:Nat)(l:List Oh)(r:Rf)(c:aF.C)(w:World)(hG:∀W,G W→bY W A n cp l)(hs:bY w A n cp l)(hv:c.val.f<18446744073709551616)(ho:c.old.f<18446744073709551616):
  Calls prog 77 #[.slice A n cp,.agg #[.int .i64 r.c,.int .i64 r.e,.int .i64 r.r],.agg (dh c)] w (mQ G (av.iC (vs l) r c) w):=by
 by_cases hr:av.Right (vs l)
 case neg=>rw[av.zQ (fun g=>hr g.1)];exact abR G A cp n l r c w hG hs hv ho hr
 by_cases hk:aS.ok r
 case neg=>rw[av.zQ (fun g=>hk g.2.1)];exact abQ G A cp n l r c w hG hs hv ho hr hk
 by_cases h4:c.k<4
 case pos=>rw[av.zQ (fun g=>by have:=g.2.2.1;omega)];exact abP G A cp n l r c w hG hs hv ho hr hk h4
 by_cases Ib:17<c.k
 case pos=>rw[av.zQ (fun g=>by have:=g.2.2.2;omega)];exact abO G A cp n l r c w hG hs hv ho hr hk h4 Ib
 have hall:av.All (vs l) r c:=⟨hr,hk,by omega,by omega⟩;by_cases he:aF.bG c=0
 case neg=>rw[av.YE hall he];exact Xz G A cp n l r c w hG hs hv ho hall he
 have hl:(vs l).length=n:=by rw[fF,hs.len]
 by_cases Ch:c.k=4
 ·cases hf:av.jc (vs l) c.name with
  | some o=>rw[av.afQ hall he Ch hf];exact afa G A cp n l r c w hG hs hv ho hall he Ch o hf
  | none=>
   by_cases h8:n=8
   ·rw[av.afS hall he Ch hf (by rw[hl];exact h8)];exact afc G A cp n l r c w hG hs hv ho hall he Ch hf h8
   ·rw[av.Vr hall he Ch hf (by rw[hl];exact h8)];exact Ta G A cp n l r c w hG hs hv ho hall he Ch hf h8
 cases hf:av.jc (vs l) c.name with
 | none=>rw[av.afT hall he Ch hf];exact afd G A cp n l r c w hG hs hv ho hall he Ch hf
 | some o=>
  by_cases h5:c.k=5
  ·by_cases hrl:0<o.refs.length
   ·rw[av.adf hall he h5 hf hrl];exact abS G A cp n l r c w hG hs hv ho hall he h5 o hf hrl
   ·exact abN G A cp n l r c w hG hs hv ho hall he h5 o hf hrl
  cases hft:av.fits c.k o.kind with
  | false=>rw[av.afR hall he Ch hf hft];exact afb G A cp n l r c w hG hs hv ho hall he Ch o hf hft
  | true=>
   by_cases vJ:c.k=14
   ·exact SY G A cp n l r c w hG hs hv ho hall he Ch h5 o hf hft vJ
   by_cases h12:c.k=12
   ·exact Kv G A cp n l r c w hG hs hv ho hall he Ch h5 o hf hft h12
   by_cases Dv:c.k=13
   ·exact Ku G A cp n l r c w hG hs hv ho hall he Ch h5 o hf hft Dv
   exact OZ G A cp n l r c w hG hs hv ho hall he Ch h5 o hf hft h12 Dv vJ
end
end Go.Proofs.YtieoeendnccafaaGreat
