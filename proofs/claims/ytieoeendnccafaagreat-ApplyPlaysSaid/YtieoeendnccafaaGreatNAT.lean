/- What Drop returns: the objects without a session, and replies of others. No condition but those named. -/
import Derived.Test.YtieoeendnccafaaGreatNAS
set_option linter.unusedSimpArgs false
set_option linter.unusedVariables false
set_option maxRecDepth 100000
set_option maxHeartbeats 25600000
open Go.RowKit
namespace Go.Proofs.YtieoeendnccafaaGreat
open _root_.Go.Proofs.Tryz
section
theorem Kc(t:aH.T)(c:Int)(w:World)(hf:aH.Fit t):Calls prog 120 #[.agg (dR t),.int .i64 c] w (BR (aH.fJ t c) w):=by
 have HR:=zH (fun W=>vg t W hf);have HK:=iK w 31 (dR t);have HLo:=zH (fun h=>aH.aaL (t:=t) (c:=c) h);have HHi:=zH (fun h=>aH.aaN (t:=t) (c:=c) h);have gP:=zH (fun h=>aH.aaK (t:=t) (c:=c) h);have HDe:=zH (fun h=>aH.Nw (t:=t) (c:=c) h);have NP:=zH (fun h1 h2=>aH.aaM (c:=c) h1 h2);have yX:=zH (fun h1 h2 h3 h4=>aH.Nv (t:=t) (c:=c) h1 h2 h3 h4);have Eh:=zH (fun h1 h2 h3 h4=>aH.Nu (t:=t) (c:=c) h1 h2 h3 h4);have HD:=zH (fun W=>CP (t.get c) (av.err 14) W);unfold IsS at HD;unfold BR;unfold cZ at HR;clear hf;generalize aH.fJ t c=y at *
 generalize decide (aH.Right t)=b3 at *
 generalize h1:decide (c<0)=b1 at *
 have H1:=zH h1;generalize h2:decide (5≤c)=b2 at *
 have H2:=zH h2;clear h1 h2;cases b1
 case true=>
  have HX:=zH (HLo.out (by simp));go_enter func120,ntmps120;go_wp2_with (first|(refine bP HK ?_;clear HK;intro _ g1 HK;simp only[aO,aJ] at HK)|refine zX (bI (m:=c) (n:=0) H1.out) ?_|refine zX (jV HK 0) ?_|(refine bC (t2:=t) HK 1 ?_;clear HK;intro _ HK;simp only[lS] at HK));exact NR
 cases b2
 case true=>
  have HX:=zH (HHi.out (by simp));go_enter func120,ntmps120;go_wp2_with (first|(refine bP HK ?_;clear HK;intro _ g1 HK;simp only[aO,aJ] at HK)|refine zX (bI (m:=c) (n:=0) H1.out) ?_|refine zX (mh (m:=c) (n:=5) H2.out) ?_|refine zX (jV HK 0) ?_|(refine bC (t2:=t) HK 1 ?_;clear HK;intro _ HK;simp only[lS] at HK));exact NR
 have hc:=NP.out (by simp) (by simp);go_enter func120,ntmps120;go_wp2_with (first|(refine bP HK ?_;clear HK;intro _ g1 HK;simp only[aO,aJ] at HK)|refine zX (bI (m:=c) (n:=0) H1.out) ?_|refine zX (mh (m:=c) (n:=5) H2.out) ?_|refine zX (jV HK 0) ?_);refine cb (HR.out _) HK ?_;clear HK;intro _ HK;cases b3
 case false=>
  have HX:=zH (gP.out (by simp));go_wp2_with (first|refine zX (jV HK 0) ?_|(refine bC (t2:=t) HK 1 ?_;clear HK;intro _ HK;simp only[lS] at HK));exact NR
 cases hl:(t.get c).live
 case false=>
  have HX:=zH (HDe.out hl);have HV:=zH hl;clear hl;go_wp2_with (first|refine zX (dO hc) ?_|refine zX ((AV HK 0 hc).trans (by rw[HV.out])) ?_|refine zX (jV HK 0) ?_|(refine bC (t2:=t) HK 1 ?_;clear HK;intro _ HK;simp only[lS] at HK));exact NR
 cases hd:(t.get c).dn
 case false=>
  have HX:=zH (Eh.out hc (by simp) hl hd);have HV:=zH hl;have HW:=zH hd;clear hl hd;go_wp2_with (first|refine zX (dO hc) ?_|refine zX ((AV HK 0 hc).trans (by rw[HV.out])) ?_|refine zX ((aax HK 0 hc).trans (by rw[HW.out])) ?_|refine zX (Yj HK 0 hc) ?_|refine zX (mO (e:=14)) ?_);refine cb (HD.out _) HK ?_;clear HK;intro _ HK;go_wp2_with (first|refine zX (dO hc) ?_|(refine iO (s:={ t.get c with dn:=true,p:=av.err 14 }) HK 0 hc ?_;clear HK;intro _ HK;simp only[lS] at HK)|(refine zW (d:=false) HK 0 rfl hc rfl rfl rfl rfl ?_;clear HK;intro _ HK;simp only[lS] at HK)|refine zX (jV HK 0) ?_|(refine bC  HK 1 ?_;clear HK;intro _ HK;simp only[lS] at HK))
  (try simp only[aH.bU hc,aH.set_set hc] at HK)
  (try dsimp only at HK)
  exact NR
 case true=>
  have HX:=zH (yX.out hc (by simp) hl hd);have HV:=zH hl;have HW:=zH hd;clear hl hd;go_wp2_with (first|refine zX (dO hc) ?_|refine zX ((AV HK 0 hc).trans (by rw[HV.out])) ?_|refine zX ((aax HK 0 hc).trans (by rw[HW.out])) ?_|(refine zW (d:=false) HK 0 rfl hc rfl rfl rfl rfl ?_;clear HK;intro _ HK;simp only[lS] at HK)|refine zX (jV HK 0) ?_|(refine bC  HK 1 ?_;clear HK;intro _ HK;simp only[lS] at HK))
  (try simp only[aH.bU hc,aH.set_set hc] at HK)
  (try dsimp only at HK)
  exact NR
theorem Kw(t:aH.T)(c:Int)(w:World)(hf:aH.Fit t):Calls prog 72 #[.agg (dR t),.int .i64 c] w (BR (aH.fJ t c) w):=by
 have HR:=zH (fun W=>pq t W hf);have HK:=iK w 31 (dR t);have HLo:=zH (fun h=>aH.aaL (t:=t) (c:=c) h);have HHi:=zH (fun h=>aH.aaN (t:=t) (c:=c) h);have gP:=zH (fun h=>aH.aaK (t:=t) (c:=c) h);have HDe:=zH (fun h=>aH.Nw (t:=t) (c:=c) h);have NP:=zH (fun h1 h2=>aH.aaM (c:=c) h1 h2);have yX:=zH (fun h1 h2 h3 h4=>aH.Nv (t:=t) (c:=c) h1 h2 h3 h4);have Eh:=zH (fun h1 h2 h3 h4=>aH.Nu (t:=t) (c:=c) h1 h2 h3 h4);unfold BR;unfold cZ at HR;clear hf;generalize aH.fJ t c=y at *
 generalize decide (aH.Right t)=b3 at *
 generalize h1:decide (c<0)=b1 at *
 have H1:=zH h1;generalize h2:decide (5≤c)=b2 at *
 have H2:=zH h2;clear h1 h2;cases b1
 case true=>
  have HX:=zH (HLo.out (by simp));go_enter func72,ntmps72;go_wp2_with (first|(refine bP HK ?_;clear HK;intro _ g1 HK;simp only[aO,aJ] at HK)|refine zX (bI (m:=c) (n:=0) H1.out) ?_|refine zX (jV HK 0) ?_|(refine bC (t2:=t) HK 1 ?_;clear HK;intro _ HK;simp only[lS] at HK));exact NS
 cases b2
 case true=>
  have HX:=zH (HHi.out (by simp));go_enter func72,ntmps72;go_wp2_with (first|(refine bP HK ?_;clear HK;intro _ g1 HK;simp only[aO,aJ] at HK)|refine zX (bI (m:=c) (n:=0) H1.out) ?_|refine zX (mh (m:=c) (n:=5) H2.out) ?_|refine zX (jV HK 0) ?_|(refine bC (t2:=t) HK 1 ?_;clear HK;intro _ HK;simp only[lS] at HK));exact NS
 have hc:=NP.out (by simp) (by simp);go_enter func72,ntmps72;go_wp2_with (first|(refine bP HK ?_;clear HK;intro _ g1 HK;simp only[aO,aJ] at HK)|refine zX (bI (m:=c) (n:=0) H1.out) ?_|refine zX (mh (m:=c) (n:=5) H2.out) ?_|refine zX (jV HK 0) ?_);refine cb (HR.out _) HK ?_;clear HK;intro _ HK;cases b3
 case false=>
  have HX:=zH (gP.out (by simp));go_wp2_with (first|refine zX (jV HK 0) ?_|(refine bC (t2:=t) HK 1 ?_;clear HK;intro _ HK;simp only[lS] at HK));exact NS
 cases hl:(t.get c).live
 case false=>
  have HX:=zH (HDe.out hl);have HV:=zH hl;clear hl;go_wp2_with (first|refine zX (dO hc) ?_|refine zX ((AV HK 0 hc).trans (by rw[HV.out])) ?_|refine zX (jV HK 0) ?_|(refine bC (t2:=t) HK 1 ?_;clear HK;intro _ HK;simp only[lS] at HK));exact NS
 cases hd:(t.get c).dn
 case false=>
  obtain⟨ep,rq,p,hs⟩:=aH.UJ hl hd;have HX:=zH (Eh.out hc (by simp) hl hd);have HV:=zH hl;have HW:=zH hd;clear hl hd;have HS:=zH hs;clear hs;rw[HS.out] at HX;dsimp only at HX;go_wp2_with (first|refine zX (dO hc) ?_|refine zX ((AV HK 0 hc).trans (by rw[HV.out])) ?_|refine zX ((Yj HK 0 hc).trans (by rw[HS.out])) ?_|(refine bE HK ?_;clear HK;intro _ g2 HK;simp only[aO,aJ] at HK)|(refine bD (s:=aH.z) (u:=⟨true,ep,rq,false,p⟩) HK 2 ?_;clear HK;intro _ HK;simp only[lS] at HK)|(refine qF (d:=false) HK 2 ?_;clear HK;intro _ HK;simp only[lS] at HK)|refine zX (jO HK 2) ?_|(refine uV (d:=true) HK 2 ?_;clear HK;intro _ HK;simp only[lS] at HK)|(refine uU (p:=av.err 14) HK 2 ?_;clear HK;intro _ HK;simp only[lS] at HK)|refine zX (mO (e:=14)) ?_|refine zX (ER HK 2) ?_|(refine iO  HK 0 hc ?_;clear HK;intro _ HK;simp only[lS] at HK)|refine zX (jV HK 0) ?_|(refine bC  HK 1 ?_;clear HK;intro _ HK;simp only[lS] at HK))
  (try simp only[aH.bU hc,aH.set_set hc] at HK)
  (try dsimp only at HK)
  exact NS
 case true=>
  obtain⟨ep,rq,p,hs⟩:=aH.UJ hl hd;have HX:=zH (yX.out hc (by simp) hl hd);have HV:=zH hl;have HW:=zH hd;clear hl hd;have HS:=zH hs;clear hs;rw[HS.out] at HX;dsimp only at HX;go_wp2_with (first|refine zX (dO hc) ?_|refine zX ((AV HK 0 hc).trans (by rw[HV.out])) ?_|refine zX ((Yj HK 0 hc).trans (by rw[HS.out])) ?_|(refine bE HK ?_;clear HK;intro _ g2 HK;simp only[aO,aJ] at HK)|(refine bD (s:=aH.z) (u:=⟨true,ep,rq,true,p⟩) HK 2 ?_;clear HK;intro _ HK;simp only[lS] at HK)|(refine qF (d:=false) HK 2 ?_;clear HK;intro _ HK;simp only[lS] at HK)|refine zX (jO HK 2) ?_|refine zX (ER HK 2) ?_|(refine iO  HK 0 hc ?_;clear HK;intro _ HK;simp only[lS] at HK)|refine zX (jV HK 0) ?_|(refine bC  HK 1 ?_;clear HK;intro _ HK;simp only[lS] at HK))
  (try simp only[aH.bU hc,aH.set_set hc] at HK)
  (try dsimp only at HK)
  exact NS
end
section
def FJ(l:List Oh)(w:World)(e:Ending)(w':World):Prop:=∃(A:Option Addr) (n c:Nat),e=.returned (.slice A n c)∧aP.Own w.heap.size w' (.slice A n c) l∧Below w.heap.size w w'
theorem eX{w:World}{o:Oper}{a:Act}{b n c i:Nat}{q:Operand}{r:Operand}(h:i<n)(ho:o.op=.indexAddr 22 q r:=by rfl)(hx:a.eval q=.slice (some ⟨b,0,none⟩) n c:=by rfl)(hq:a.eval r=.int .i64 (i:Int):=by rfl):
  (execOp a.eval o).run prog w=.ok (.value (.pointer (some ⟨b,i*11,none⟩))) w:=by
 have h1:=bL (w:=w) (off:=0) (q:=q) (r:=r) (ho:=ho) (hx:=hx) (hq:=hq) h
 rwa [Nat.zero_add] at h1
theorem tV{A:Option Addr}(c n:Nat)(l:List Oh)(i:Nat)(x:Oh)(w:World)(hs:bY w A n c l)(hi:i<n):
  Calls prog 137 #[.slice A n c,.int .i64 i,.agg (bS x)] w (FJ (l.set i x) w):=by
 unfold FJ;have HS:=zH hs;have mI:Hid (l.length=n):=zH hs.len;have hbig:n*144≤140737488355328:=hs.s.big;have hi2:i<l.length:=by rw[hs.len];exact hi
 have hi0:(0:Int)≤(i:Int):=by omega
 have hi1:(i:Int)<(n:Int):=by omega
 have HL:Hid (([]:List Oh).length+l.length≤9223372036854775807∧(([]:List Oh).length+l.length)*aP.bytes≤211106232532992):=zH (by
  rw[List.length_nil,Nat.zero_add,mI.out];refine⟨by omega,?_⟩
  show n*144≤_
  omega)
 have fB:Hid ((([]:List Oh)++l).length=n):=zH mI.out;have HRd:Hid (∀W,Below w.heap.size w W→aP.Reads W W.heap.size A l∧(A=none→l=[])):=zH fun W hW=>⟨(hs.later hW).s.rd,(hs.later hW).s.nl⟩
 have HK:=iK w 63 (bS x);clear hs;go_enter func137,ntmps137;go_wp2_with (first|(refine fE aP HK ?_;clear HK;intro _ g2 HK;simp only[aJ] at HK;have HR:=zH (HRd.out _ HK.out.b))|(at_builtin;refine aX HK aP 0 l mI.out.symm HR HL (N:=n) fB ?_;clear HK;intro A8 c8 _ HK;simp only[List.set,aJ] at HK;obtain⟨g8,rfl⟩:=HK.out.MS (La:=aP) (j:=0) rfl (by omega))|refine zX (jv HK 0) ?_|refine zX (eX (b:=g8) (i:=i) hi) ?_|(refine JD (La:=aP) HK 0 rfl rfl rfl i hi2 rfl x rfl rfl ?_;clear HK;intro _ HK;simp only[lS] at HK));go_wp2_with fail;go_ret;exact⟨_,_,_,rfl,HK.out.own (La:=aP) 0 rfl,HK.out.b⟩
end
section
theorem aZ{w:World}{o:Oper}{a:Act}{x k:Int}{b:Bool}{p:Operand}(hb:decide (x=k)=b)(ho:o.op=.binOp .eql 3 p (.const (.int .i64 k)) 3:=by rfl)(hp:a.eval p=.int .i64 x:=by rfl):
  (execOp a.eval o).run prog w=.ok (.value (.bool b)) w:=by
 have he:a.eval (.const (.int .i64 k))=.int .i64 k:=rfl;subst hb;unfold execOp;simp only[ho,hp,he];go_simp
 try rfl
theorem Lb{w:World}{o:Oper}{a:Act}{z:Int}{p:Operand}(ho:o.op=.build 28 #[(0,p)])(hp:a.eval p=.int .i64 z):
  (execOp a.eval o).run prog w=.ok (.value (.agg (cB ⟨z,av.vn⟩))) w:=by
 have h:(Instr.build 28 #[(0,.int .i64 z)]).run prog w=.ok (.agg (cB ⟨z,av.vn⟩)) w:=by
  unfold cB;go_simp
  try exact⟨rfl,rfl,rfl,rfl⟩
 unfold execOp;simp only[ho,Sem.run_bind,Sem.run_pure,Result.andThen_ok,List.map_toArray,List.map_cons,List.map_nil,hp,h]
theorem abI{fn:Func}{R:Ending→World→Prop}{a:Act}{w:World}{B:Nat}{p:av.Rp}{q:Tmp}(hf:fn.results=#[.cell q 28])(h2:a.tmps[q]?=some (.pointer (some ⟨B,0,none⟩)))(hd:a.defers=[])(hb:gD w B 28 (cB p))
  (hR:R (.returned (.agg (cB p))) w):bodyPost prog fn R Exit.ret a w:=
 bodyPost_ret (results_cell_row hf a.tmps w B _ _ (0,0) _ (by simp[h2]) hb underlying28 rfl jm) hd hR
theorem dS(z:Int)(w:World):Calls prog 132 #[.int .i64 z] w (fun e w'=>e=.returned (.agg (cB ⟨z,av.vn⟩))∧Below w.heap.size w w'):=by
 have HK:=zH (Kn.start w);go_enter func132,ntmps132;go_wp2_with (first|(refine bQ HK ?_;clear HK;intro _ g1 HK;simp only[aO,aJ] at HK)|refine zX (Lb (z:=z) (by rfl) (by rfl)) ?_|(refine bf (q:=⟨z,av.vn⟩) HK 0 ?_;clear HK;intro _ HK;simp only[lS] at HK));exact abI results132 rfl rfl (HK.out.blk 0 rfl) ⟨rfl,HK.out.b⟩
theorem lq(k z:Int)(Ib:k≤17)(w:World)(h5:5≤k:=by have:=hall.2.2.1;omega):Calls prog 135 #[.int .i64 k,.int .i64 z] w (cZ (av.fits k z) w):=by
 unfold cZ;have h:k=5∨k=6∨k=7∨k=8∨k=9∨k=10∨k=11∨k=12∨k=13∨k=14∨k=15∨k=16∨k=17:=by omega
 clear h5 Ib
 rcases h with rfl|rfl|rfl|rfl|rfl|rfl|rfl|rfl|rfl|rfl|rfl|rfl|rfl <;>
 ·go_enter func135,ntmps135
  go_wp2_with refine zX (aZ (x:=z) rfl) ?_;go_ret;exact⟨rfl,Below.refl _ _⟩
theorem OH(x:Oh)(w:World)(hx:In w x):Calls prog 206 #[.agg (bS x)] w (fun e w'=>e=.returned (.int .i64 (av.size x.v))∧Below w.heap.size w w'):=by
 have hp:(x.v.dP.length:Int)=(x.pn:Int):=by rw[hx.p.len]
 have hv:(x.v.vals.length:Int)=(x.vn:Int):=by rw[hx.v.len]
 have hr:(x.v.refs.length:Int)=(x.rn:Int):=by rw[hx.r.len]
 have HK:=iK w 63 (bS x);clear hx;unfold av.size;rw[hp,hv,hr];clear hp hv hr;by_cases h1:x.v.kind=1
 ·have K1:Hid (decide (x.v.kind=1)=true):=zH (decide_eq_true h1)
  rw[if_pos h1];clear h1;go_enter func206,ntmps206;go_wp2_with (first|refine zX (iM HK 0) ?_|refine zX (mK HK 0) ?_|refine zX (aZ (x:=x.v.kind) (k:=1) K1.out) ?_);exact lQ
 have K1:Hid (decide (x.v.kind=1)=false):=zH (decide_eq_false h1);rw[if_neg h1];clear h1;by_cases h2:x.v.kind=2
 ·have K2:Hid (decide (x.v.kind=2)=true):=zH (decide_eq_true h2)
  rw[if_pos h2];clear h2;go_enter func206,ntmps206;go_wp2_with (first|refine zX (iM HK 0) ?_|refine zX (rM HK 0) ?_|refine zX (aZ (x:=x.v.kind) (k:=1) K1.out) ?_|refine zX (aZ (x:=x.v.kind) (k:=2) K2.out) ?_);exact lQ
 have K2:Hid (decide (x.v.kind=2)=false):=zH (decide_eq_false h2);rw[if_neg h2];clear h2;by_cases h3:x.v.kind=5
 ·have K3:Hid (decide (x.v.kind=5)=true):=zH (decide_eq_true h3)
  rw[if_pos h3];clear h3;go_enter func206,ntmps206;go_wp2_with (first|refine zX (iM HK 0) ?_|refine zX (Ug HK 0) ?_|refine zX (aZ (x:=x.v.kind) (k:=1) K1.out) ?_|refine zX (aZ (x:=x.v.kind) (k:=2) K2.out) ?_|refine zX (aZ (x:=x.v.kind) (k:=5) K3.out) ?_);exact lQ
 have K3:Hid (decide (x.v.kind=5)=false):=zH (decide_eq_false h3);rw[if_neg h3];clear h3;go_enter func206,ntmps206;go_wp2_with (first|refine zX (iM HK 0) ?_|refine zX (gK HK 0) ?_|refine zX (aZ (x:=x.v.kind) (k:=1) K1.out) ?_|refine zX (aZ (x:=x.v.kind) (k:=2) K2.out) ?_|refine zX (aZ (x:=x.v.kind) (k:=5) K3.out) ?_);exact lQ
end
section
theorem EW(x:Rf)(w:World):Calls prog 229 #[.agg #[.int .i64 x.c,.int .i64 x.e,.int .i64 x.r]] w (fun e w'=>e=.returned (.agg #[.int .i64 x.c,.int .i64 x.e,.int .i64 0])∧Below w.heap.size w w'):=by
 have HK:=zH (iK w 35 #[.int .i64 x.c,.int .i64 x.e,.int .i64 x.r]).out;go_enter func229,ntmps229;go_wp2_with (first|(refine aQ HK ?_;clear HK;intro _ g1 HK;simp only[aO,aJ] at HK)|refine zX (fH HK 0) ?_|refine zX (Dt HK 0) ?_|(refine aW HK 1 ?_;clear HK;intro _ HK;simp only[lS] at HK));exact aaq results229 rfl rfl (HK.out.blk 1 rfl) ⟨rfl,HK.out.b⟩
end
section
theorem Qe(m:Int)(A:Option Addr)(c n:Nat)(l:List Rf)(r:Rf)(w:World)(hs:bJ aG rF w A n c l):
  Calls prog 187 #[.int .i64 m,.slice A n c,.agg #[.int .i64 r.c,.int .i64 r.e,.int .i64 r.r]] w (uG aG (Gt.pF m l r) w):=by
 have HM:=zH (fun W (hW:Below w.heap.size w W)=>vK m A c n l W (hs.later hW));have HS:=zH hs;have HJ:=zH jA;have uT:=zH (fun x W=>EW x W);have HK:=iK w 35 #[.int .i64 r.c,.int .i64 r.e,.int .i64 r.r];unfold cZ uG at *
 by_cases hr:Gt.Right m l
 case neg=>
  rw[decide_eq_false hr] at HM;rw[Gt.DI hr];clear hr hs uT;go_enter func187,ntmps187;go_wp2_with fail;refine cb (HM.out _ HK.out.b) HK ?_;clear HK;intro _ HK;go_wp2_with (refine dG aG nD HK ?_;clear HK;intro w2 g7 HK _;simp only[aO,aJ] at HK);refine(HJ.out.one HK 1 rfl (HS.out.later HK.out.b)).mono ?_;rintro e w3 ⟨A4,n4,c4,rfl,o4,b4⟩;replace HK:=zH (HK.out.called b4 o4);simp only[aJ] at HK;exact Zr
 case pos=>
 rw[decide_eq_true hr] at HM;rw[Gt.Fe hr];have hbig:n*24≤140737488355328:=hs.big;have hn63:n<9223372036854775807:=by omega
 have jo:Hid (l.take n=l):=zH (by rw[← hs.len];exact List.take_length);have HTl:Hid (∀k,k≤n→(aS.wo (l.take k) r).length≤k):=zH fun k hk=>Nat.le_trans (aS.vU _ _) (by rw[List.length_take];omega)
 clear hs hr HJ;go_enter func187,ntmps187;go_wp2_with fail;refine cb (HM.out _ HK.out.b) HK ?_;clear HK;intro _ HK;clear HM;go_wp2_with (refine fE aG HK ?_;clear HK;intro _ g2 HK;simp only[aJ] at HK);go_loopw [7,20] (fun vs vi wr=>∃(k:Nat) (A1:Option Addr) (c1 N:Nat),k≤n∧vs=.slice A1 N c1∧vi=.int .i64 k∧Hid ((aS.wo (l.take k) r).length=N)∧Hid (Kn w.heap.size w wr [(w.heap.size,35,#[.int .i64 r.c,.int .i64 r.e,.int .i64 r.r])] [row aG (.slice A1 N c1) (aS.wo (l.take k) r)])) (fun _ vi _=>n-(intOf vi).toNat)
 case atStart=>exact⟨0,_,_,0,Nat.zero_le _,rfl,rfl,zH rfl,HK⟩
 case round=>
  clear HK;obtain⟨k,A1,c1,N,hk,rfl,rfl,hN,HK⟩:=hrel;have hk1:(0:Int)≤(k:Int):=by omega
  by_cases hlt:k<n
  ·have hk2:(k:Int)<(n:Int):=by omega
   have hk3:k<9223372036854775807:=by omega
   obtain⟨x,hx,_⟩:=HS.out.get hlt;obtain⟨b,o,rfl,hat⟩:=HS.out.at (Nat.lt_of_le_of_lt (Nat.zero_le _) hlt);have HX:=zH (fun W hW=>hat W hW k x hx);have hNk:N≤k:=by rw[← hN.out];exact HTl.out k hk
   have pI:=EN x r;by_cases hm:aS.mine x r
   ·have HE:=zH (aS.oD hx hm)
    rw[decide_eq_true hm] at pI;replace pI:=zH pI;clear hat hx hm;go_wp2_with (first|refine zX (bV (x:=x) (off:=o+k*3) (HX.out _ HK.out.b)) ?_|(refine aQ HK ?_;clear HK;intro _ g2 HK;simp only[aO,aJ] at HK)|(refine aW HK 1 ?_;clear HK;intro _ HK;simp only[lS] at HK));refine zR HK.out.drew fun ah=>?_
    refine ak 0 rfl ?_ fun _ s=>aB s 1
    refine ak 2 rfl ?_ fun _ s=>aB s 0
    refine aC 1 rfl fun K hK=>?_
    go_simp;go_at_call 229;refine(uT.out x _).mono ?_;rintro e w5 ⟨rfl,b5⟩;have hs:=zH (ah.out.call b5);clear b5;refine bk hK hs fun ah=>?_
    clear hK K;refine aC 3 rfl fun K hK=>?_
    go_simp;go_at_call 229;refine(uT.out r _).mono ?_;rintro e w5 ⟨rfl,b5⟩;have hs:=zH (ah.out.call b5);clear b5;refine bk hK hs fun ah=>?_
    clear hK K;refine ak 4 rfl ?_ fun _ s=>lY (v:=⟨x.c,x.e,0⟩) (u:=⟨r.c,r.e,0⟩) pI.out
    exact aeg
   ·have HE:=zH (aS.qJ hx hm)
    rw[decide_eq_false hm] at pI;replace pI:=zH pI;have fB:Hid ((aS.wo (l.take k) r++[x]).length=N+1):=zH (by rw[List.length_append,hN.out];rfl);have HL2:=fV (La:=aG) fB (hB:=(by show(N+1)*24≤_;omega));clear hat hx hm;go_wp2_with (first|refine zX (bV (x:=x) (off:=o+k*3) (HX.out _ HK.out.b)) ?_|(refine aQ HK ?_;clear HK;intro _ g2 HK;simp only[aO,aJ] at HK)|(refine aW HK 1 ?_;clear HK;intro _ HK;simp only[lS] at HK));refine zR HK.out.drew fun ah=>?_
    refine ak 0 rfl ?_ fun _ s=>aB s 1
    refine ak 2 rfl ?_ fun _ s=>aB s 0
    refine aC 1 rfl fun K hK=>?_
    go_simp;go_at_call 229;refine(uT.out x _).mono ?_;rintro e w5 ⟨rfl,b5⟩;have hs:=zH (ah.out.call b5);clear b5;refine bk hK hs fun ah=>?_
    clear hK K;refine aC 3 rfl fun K hK=>?_
    go_simp;go_at_call 229;refine(uT.out r _).mono ?_;rintro e w5 ⟨rfl,b5⟩;have hs:=zH (ah.out.call b5);clear b5;refine bk hK hs fun ah=>?_
    clear hK K;refine ak 4 rfl ?_ fun _ s=>lY (v:=⟨x.c,x.e,0⟩) (u:=⟨r.c,r.e,0⟩) pI.out
    exact aeG
  ·obtain rfl:k=n:=by omega
   rw[jo.out] at HK;exact QZ
end
section
theorem FZ(A:Option Addr)(c n:Nat)(l:List Rf)(r:Rf)(w:World)(hs:bJ aG rF w A n c l):
  Calls prog 227 #[.slice A n c,.agg #[.int .i64 r.c,.int .i64 r.e,.int .i64 r.r]] w (uG aG (aS.wo l r) w):=by
 have HS:=zH hs;have uT:=zH (fun x W=>yK x W);have HK:=iK w 35 #[.int .i64 r.c,.int .i64 r.e,.int .i64 r.r];have hbig:n*24≤140737488355328:=hs.big;have hn63:n<9223372036854775807:=by omega
 have jo:Hid (l.take n=l):=zH (by rw[← hs.len];exact List.take_length);have HTl:Hid (∀k,k≤n→(aS.wo (l.take k) r).length≤k):=zH fun k hk=>Nat.le_trans (aS.vU _ _) (by rw[List.length_take];omega)
 clear hs;go_enter func227,ntmps227;go_wp2_with (refine fE aG HK ?_;clear HK;intro _ g2 HK;simp only[aJ] at HK);go_loopw [5,11] (fun vs vi wr=>∃(k:Nat) (A1:Option Addr) (c1 N:Nat),k≤n∧vs=.slice A1 N c1∧vi=.int .i64 k∧Hid ((aS.wo (l.take k) r).length=N)∧Hid (Kn w.heap.size w wr [(w.heap.size,35,#[.int .i64 r.c,.int .i64 r.e,.int .i64 r.r])] [row aG (.slice A1 N c1) (aS.wo (l.take k) r)])) (fun _ vi _=>n-(intOf vi).toNat)
 case atStart=>exact⟨0,_,_,0,Nat.zero_le _,rfl,rfl,zH rfl,HK⟩
 case round=>
  clear HK;obtain⟨k,A1,c1,N,hk,rfl,rfl,hN,HK⟩:=hrel;have hk1:(0:Int)≤(k:Int):=by omega
  by_cases hlt:k<n
  ·have hk2:(k:Int)<(n:Int):=by omega
   have hk3:k<9223372036854775807:=by omega
   obtain⟨x,hx,_⟩:=HS.out.get hlt;obtain⟨b,o,rfl,hat⟩:=HS.out.at (Nat.lt_of_le_of_lt (Nat.zero_le _) hlt);have HX:=zH (fun W hW=>hat W hW k x hx);have hNk:N≤k:=by rw[← hN.out];exact HTl.out k hk
   have HM:=EN x r;by_cases hm:aS.mine x r
   ·have HE:=zH (aS.oD hx hm)
    rw[decide_eq_true hm] at HM;replace HM:=zH HM;clear hat hx hm;go_wp2_with (first|refine zX (bV (x:=x) (off:=o+k*3) (HX.out _ HK.out.b)) ?_|(refine aQ HK ?_;clear HK;intro _ g2 HK;simp only[aO,aJ] at HK)|(refine aW HK 1 ?_;clear HK;intro _ HK;simp only[lS] at HK));refine zR HK.out.drew fun ah=>?_
    refine ak 0 rfl ?_ fun _ s=>aB s 1
    refine ak 2 rfl ?_ fun _ s=>aB s 0
    refine aC 1 rfl fun K hK=>?_
    go_simp;go_at_call 255;refine(uT.out x _).mono ?_;rintro e w5 ⟨rfl,b5⟩;have hs:=zH (ah.out.call b5);clear b5;refine bk hK hs fun ah=>?_
    clear hK K;refine aC 3 rfl fun K hK=>?_
    go_simp;go_at_call 255;refine(uT.out r _).mono ?_;rintro e w5 ⟨rfl,b5⟩;have hs:=zH (ah.out.call b5);clear b5;refine bk hK hs fun ah=>?_
    clear hK K;refine ak 4 rfl ?_ fun _ s=>lY (v:=⟨x.c,x.e,0⟩) (u:=⟨r.c,r.e,0⟩) HM.out
    exact aeg
   ·have HE:=zH (aS.qJ hx hm)
    rw[decide_eq_false hm] at HM;replace HM:=zH HM;have fB:Hid ((aS.wo (l.take k) r++[x]).length=N+1):=zH (by rw[List.length_append,hN.out];rfl);have HL2:=fV (La:=aG) fB (hB:=(by show(N+1)*24≤_;omega));clear hat hx hm;go_wp2_with (first|refine zX (bV (x:=x) (off:=o+k*3) (HX.out _ HK.out.b)) ?_|(refine aQ HK ?_;clear HK;intro _ g2 HK;simp only[aO,aJ] at HK)|(refine aW HK 1 ?_;clear HK;intro _ HK;simp only[lS] at HK));refine zR HK.out.drew fun ah=>?_
    refine ak 0 rfl ?_ fun _ s=>aB s 1
    refine ak 2 rfl ?_ fun _ s=>aB s 0
    refine aC 1 rfl fun K hK=>?_
    go_simp;go_at_call 255;refine(uT.out x _).mono ?_;rintro e w5 ⟨rfl,b5⟩;have hs:=zH (ah.out.call b5);clear b5;refine bk hK hs fun ah=>?_
    clear hK K;refine aC 3 rfl fun K hK=>?_
    go_simp;go_at_call 255;refine(uT.out r _).mono ?_;rintro e w5 ⟨rfl,b5⟩;have hs:=zH (ah.out.call b5);clear b5;refine bk hK hs fun ah=>?_
    clear hK K;refine ak 4 rfl ?_ fun _ s=>lY (v:=⟨x.c,x.e,0⟩) (u:=⟨r.c,r.e,0⟩) HM.out
    exact aeG
  ·obtain rfl:k=n:=by omega
   rw[jo.out] at HK;exact QZ
end
section
def Za(r:List Rf)(y:Rf)(h:Bool)(w:World)(e:Ending)(w':World):Prop:=∃A n c,e=.returned (.tuple #[.slice A n c,.agg #[.int .i64 y.c,.int .i64 y.e,.int .i64 y.r],.bool h])∧aG.Own w.heap.size w' (.slice A n c) r∧Below w.heap.size w w'
theorem PV(A:Option Addr)(c n:Nat)(l:List Rf)(r:Rf)(w:World)(hs:bJ aG rF w A n c l):
  Calls prog 185 #[.slice A n c,.agg #[.int .i64 r.c,.int .i64 r.e,.int .i64 r.r]] w (Za (aS.pF l r) (aS.zO l r) (aS.uP l r) w):=by
 have HM:=zH (fun W (hW:Below w.heap.size w W)=>nM A c n l W (hs.later hW));have HWo:=zH (fun W (hW:Below w.heap.size w W)=>FZ A c n l r W (hs.later hW));have HHl:=zH (fun W (hW:Below w.heap.size w W)=>vI A c n l W (hs.later hW));have HS:=zH hs;have HJ:=zH jA;have hlen:=hs.len;have QM:Hid (Fits aG rF (aS.wo l r)):=zH (hs.fit.sub (fun x hx=>(List.mem_filter.1 hx).1) (aS.vU l r));have HK:=iK w 35 #[.int .i64 r.c,.int .i64 r.e,.int .i64 r.r];unfold cZ Za at *
 by_cases hr:aS.Right l
 case neg=>
  rw[decide_eq_false hr] at HM;obtain⟨e1,e2,e3⟩:=aS.Vq (r:=r) hr;rw[e1,e2,e3];clear e1 e2 e3 hr hs hlen HWo HHl QM;go_enter func185,ntmps185;go_wp2_with (refine aQ HK ?_;clear HK;intro _ g1 HK;simp only[aO,aJ] at HK);refine cb (HM.out _ HK.out.b) HK ?_;clear HK;intro _ HK;go_wp2_with (refine dG aG nD HK ?_;clear HK;intro w2 g7 HK _;simp only[aO,aJ] at HK);refine(HJ.out.one HK 2 rfl (HS.out.later HK.out.b)).mono ?_;rintro e w3 ⟨A4,n4,c4,rfl,o4,b4⟩;replace HK:=zH (HK.out.called b4 o4);simp only[aJ] at HK;clear o4 b4;go_wp2_with (refine aW HK 1 ?_;clear HK;intro _ HK;simp only[lS] at HK);exact qK results185 (HK.out.blk 1 rfl) ⟨A4,n4,c4,rfl,HK.out.own 0 rfl,HK.out.b⟩
 case pos=>
 rw[decide_eq_true hr] at HM;have HHw:=zH (fun W A c n (h:bJ aG rF W A n c (aS.wo l r))=>vI A c n (aS.wo l r) W h);have gP:Hid ((aS.wo l r).length=0→aS.pF l r=aS.wo l r∧aS.zO l r=aS.zero∧aS.uP l r=false):=zH (aS.zN hr)
 have uS:Hid (0<(aS.wo l r).length→(aS.wo l r).headD aS.zero=l.headD aS.zero→aS.pF l r=aS.wo l r∧aS.zO l r=aS.zero∧aS.uP l r=false):=zH fun h1 h2=>by
  obtain⟨x,hx⟩:=Lay.fI h1;obtain⟨y,hy⟩:=aS.Ad hx;rw[aS.kN hx,aS.kN hy] at h2;exact aS.Fg hr hx hy h2
 have QV:Hid (0<(aS.wo l r).length→¬(aS.wo l r).headD aS.zero=l.headD aS.zero→aS.pF l r=aS.wo l r∧aS.zO l r=(aS.wo l r).headD aS.zero∧aS.uP l r=true):=zH fun h1 h2=>by
  obtain⟨x,hx⟩:=Lay.fI h1;obtain⟨y,hy⟩:=aS.Ad hx;rw[aS.kN hx,aS.kN hy] at h2;rw[aS.kN hx];exact aS.Le hr hx hy h2
 clear hr hs hlen HJ HS;unfold uG at *
 generalize aS.pF l r=dl at *
 generalize aS.zO l r=dn at *
 generalize aS.uP l r=ds at *
 generalize (aS.wo l r).headD aS.zero=y at *
 generalize aS.wo l r=m at *
 generalize l.headD aS.zero=x at *
 have hcase:m.length=0∨(0<m.length∧y=x)∨(0<m.length∧¬y=x):=by
  by_cases h1:m.length=0
  ·exact .inl h1
  ·by_cases h2:y=x
   ·exact .inr (.inl ⟨by omega,h2⟩)
   ·exact .inr (.inr ⟨by omega,h2⟩)
 rcases hcase with h0|⟨h0,he⟩|⟨h0,he⟩
 ·obtain⟨rfl,rfl,rfl⟩:=gP.out h0
  have h0':¬0<dl.length:=by omega
  clear gP uS QV h0;go_enter func185,ntmps185;go_wp2_with (refine aQ HK ?_;clear HK;intro _ g1 HK;simp only[aO,aJ] at HK);refine cb (HM.out _ HK.out.b) HK ?_;clear HK;intro _ HK;go_wp2_with refine zX (aB HK 0) ?_;refine(HWo.out _ HK.out.b).mono ?_;rintro e w3 ⟨A4,n4,c4,rfl,o4,b4⟩;obtain rfl:=(Lay.Own.reads o4).1;replace HK:=zH (HK.out.called b4 o4);simp only[aJ] at HK;clear o4 b4;go_wp2_with fail;refine cb (HHl.out _ HK.out.b) HK ?_;clear HK;intro _ HK;go_wp2_with (first|(refine aQ HK ?_;clear HK;intro _ g8 HK;simp only[aO,aJ] at HK)|(refine aW HK 2 ?_;clear HK;intro _ HK;simp only[lS] at HK));refine cb (HHw.out _ _ _ _ (bJ.own (HK.out.own 0 rfl) QM.out)) HK ?_;clear HK;intro _ HK;rw[decide_eq_false h0'];go_wp2_with (first|(refine aQ HK ?_;clear HK;intro _ g9 HK;simp only[aO,aJ] at HK)|(refine aW HK 3 ?_;clear HK;intro _ HK;simp only[lS] at HK)|(refine aW HK 1 ?_;clear HK;intro _ HK;simp only[lS] at HK));exact ZK
 ·obtain⟨rfl,rfl,rfl⟩:=uS.out h0 he
  subst he;have HE:=zH (SS y);clear gP uS QV;go_enter func185,ntmps185;go_wp2_with (refine aQ HK ?_;clear HK;intro _ g1 HK;simp only[aO,aJ] at HK);refine cb (HM.out _ HK.out.b) HK ?_;clear HK;intro _ HK;go_wp2_with refine zX (aB HK 0) ?_;refine(HWo.out _ HK.out.b).mono ?_;rintro e w3 ⟨A4,n4,c4,rfl,o4,b4⟩;obtain rfl:=(Lay.Own.reads o4).1;replace HK:=zH (HK.out.called b4 o4);simp only[aJ] at HK;clear o4 b4;go_wp2_with fail;refine cb (HHl.out _ HK.out.b) HK ?_;clear HK;intro _ HK;go_wp2_with (first|(refine aQ HK ?_;clear HK;intro _ g8 HK;simp only[aO,aJ] at HK)|(refine aW HK 2 ?_;clear HK;intro _ HK;simp only[lS] at HK));refine cb (HHw.out _ _ _ _ (bJ.own (HK.out.own 0 rfl) QM.out)) HK ?_;clear HK;intro _ HK;rw[decide_eq_true h0];go_wp2_with (first|(refine aQ HK ?_;clear HK;intro _ g9 HK;simp only[aO,aJ] at HK)|(refine aW HK 3 ?_;clear HK;intro _ HK;simp only[lS] at HK)|refine zX (aB HK 3) ?_|refine zX (aB HK 2) ?_|refine zX (wQ (v:=y) (u:=y) HE.out) ?_|(refine aW HK 1 ?_;clear HK;intro _ HK;simp only[lS] at HK));exact ZK
 ·obtain⟨rfl,rfl,rfl⟩:=QV.out h0 he
  have HE:=zH (show decide (dn=x)=false from decide_eq_false he);clear gP uS QV he;go_enter func185,ntmps185;go_wp2_with (refine aQ HK ?_;clear HK;intro _ g1 HK;simp only[aO,aJ] at HK);refine cb (HM.out _ HK.out.b) HK ?_;clear HK;intro _ HK;go_wp2_with refine zX (aB HK 0) ?_;refine(HWo.out _ HK.out.b).mono ?_;rintro e w3 ⟨A4,n4,c4,rfl,o4,b4⟩;obtain rfl:=(Lay.Own.reads o4).1;replace HK:=zH (HK.out.called b4 o4);simp only[aJ] at HK;clear o4 b4;go_wp2_with fail;refine cb (HHl.out _ HK.out.b) HK ?_;clear HK;intro _ HK;go_wp2_with (first|(refine aQ HK ?_;clear HK;intro _ g8 HK;simp only[aO,aJ] at HK)|(refine aW HK 2 ?_;clear HK;intro _ HK;simp only[lS] at HK));refine cb (HHw.out _ _ _ _ (bJ.own (HK.out.own 0 rfl) QM.out)) HK ?_;clear HK;intro _ HK;rw[decide_eq_true h0];go_wp2_with (first|(refine aQ HK ?_;clear HK;intro _ g9 HK;simp only[aO,aJ] at HK)|(refine aW HK 3 ?_;clear HK;intro _ HK;simp only[lS] at HK)|refine zX (aB HK 3) ?_|refine zX (aB HK 2) ?_|refine zX (wQ (v:=dn) (u:=x) HE.out) ?_);have aj:=zH HK.out.drew;refine zR ((aj.out.aI 3).ay 0) fun ah=>?_
  refine ak 0 rfl ?_;refine ak 1 rfl ?_ fun _ s=>aB s 0
  refine ak 2 rfl ?_;refine aC 3 rfl fun K hK=>?_
  refine tQ aj 1 ?_;clear aj;intro wq aj;simp only[lS] at aj;have hs:=zH ((aj.out.aI 3).ay 0);refine bk hK hs fun ah=>?_
  clear hK K;refine ak 4 rfl ?_;refine bW ?_
  all_goals
   go_wp2_with fail;exact qK results185 (aj.out.blk 1 rfl) ⟨A4,_,c4,rfl,aj.out.own 0 rfl,aj.out.b⟩
end
section
theorem UH{l:List Oh}{k:Nat}{x:Oh}(y:Oh)(h:l[k]?=some x):(l.set k y)[k]?=some y:=by
 have hk:=(List.getElem?_eq_some_iff.1 h).1;rw[List.getElem?_set_self hk]
theorem LQ(l:List Oh)(i:Nat)(y:Oh):vs (l.set i y)=(vs l).set i y.v:=by
 unfold vs;rw[List.map_set]
theorem Kn.ins{b0:Nat}{w0 w:World}{L:List (Nat×TypeId×Array Value)}{R:List dA}{l:List Oh}(h:Kn b0 w0 w L R)(h2:∀y∈l.flatMap gU,y∈R)(hf:∀o∈vs l,Fo o):∀x∈l,In w x:=fun x hx=>by
 have hfo:=hf x.v (List.mem_map.2 ⟨x,hx,rfl⟩);exact aeE
theorem OD(A:Option Addr)(cp n:Nat)(l:List Oh)(r:Rf)(w:World)(hs:bY w A n cp l):
  Calls prog 119 #[.slice A n cp,.agg #[.int .i64 r.c,.int .i64 r.e,.int .i64 r.r]] w (Jk (fun _=>True) (av.aI (vs l) r) (av.jM (vs l) r) w):=by
 have HS:=zH hs;have HJ:=zH Dh;have HM:=zH (fun W (hW:Below w.heap.size w W)=>vE A cp n l W (hs.later hW));unfold cZ at HM;have HK:=iK w 35 #[.int .i64 r.c,.int .i64 r.e,.int .i64 r.r];have hlen:(vs l).length=n:=by rw[fF];exact hs.len
 have hbig:n*144≤140737488355328:=hs.s.big;unfold av.aI av.jM;generalize hv:vs l=V at *
 have HV:=zH hv;clear hv;by_cases hr:av.Right V
 case neg=>
  rw[decide_eq_false hr] at HM;rw[if_neg hr,if_neg hr];clear hs hr;go_enter func119,ntmps119;go_wp2_with (refine dG aP xZ HK ?_;clear HK;intro w2 g7 HK _;simp only[aO,aJ] at HK);refine(lI.one HJ.out HK 1 rfl (HS.out.later HK.out.b)).mono ?_;rintro e w3 ⟨A4,n4,c4,l4,rfl,v4,k4,o4⟩;replace HK:=zH (HK.out.join k4);have yV:=zH o4.fo;have HBg:=zH o4.s.big;have BS:=zH (v4.trans HV.out);clear v4 k4 o4;simp only[aJ] at HK;go_wp2_with fail
  (refine(HM.out _ HK.out.b).mono ?_;rintro e w1 ⟨rfl,b1⟩)
  replace HK:=iy HK b1;clear b1;go_wp2_with fail;exact kL results119 (by unfold Jk;exact⟨A4,n4,c4,l4,_,_,_,_,rfl,BS,HK.out.aA 0,fun _ _ _ _ _ K hm _=>⟨K.obs (hm _ (List.mem_cons_self ..)) (fun y hy=>hm _ (List.mem_cons_of_mem _ hy)) yV.out HBg.out,bJ.none _⟩⟩)
 rw[decide_eq_true hr] at HM;rw[if_pos hr,if_pos hr];have Yp:n≤8:=by have:=hr.len;rw[hlen] at this;exact this
 have HVl:Hid (V.length≤n):=zH (by rw[hlen];exact Nat.le_refl _);have HVn:=zH hlen;rw[← av.Np (r:=r) HVl.out,← av.zA (r:=r) HVl.out];clear hs hr hlen hbig;go_enter func119,ntmps119;go_wp2_with (refine dG aP xZ HK ?_;clear HK;intro w2 g7 HK _;simp only[aO,aJ] at HK);refine(lI.one HJ.out HK 1 rfl (HS.out.later HK.out.b)).mono ?_;rintro e w3 ⟨A4,n4,c4,l4,rfl,v4,k4,o4⟩;replace HK:=zH (HK.out.join k4);have yV:=zH o4.fo;have BS:=zH (v4.trans HV.out);have mI:=zH o4.len
 obtain rfl:n=n4:=by
  have h1:=congrArg List.length BS.out;rw[fF,mI.out,HVn.out] at h1;exact h1.symm
 clear v4 k4 o4;simp only[aJ] at HK;replace HK:=zH (HK.out.aA 1);go_wp2_with fail
 (refine(HM.out _ HK.out.b).mono ?_;rintro e w1 ⟨rfl,b1⟩)
 replace HK:=iy HK b1;clear b1;go_wp2_with (refine fE aR HK ?_;intro _ g2 dY;replace HK:=dY;clear dY);replace HK:=zH (Kn.rot HK.out);have agy:Hid (∀(b:Nat) (W0 W:World) L R,Kn b W0 W L R→(∀z∈l4.flatMap gU,z∈R)→∀x∈l4,In W x):=zH fun _ _ _ _ _ K hm=>K.ins hm yV.out
 go_loopw [7,23] (fun vo vi wr=>∃(k:Nat) (A7:Option Addr) (m7 c7:Nat) (lk:List Oh) (Rk:List dA),k≤n∧vo=.slice A7 m7 c7∧vi=.int .i64 k∧Hid (lk.length=n)∧Hid (vs lk=av.Ld V r k)∧Hid (∀j,k≤j→lk[j]?=l4[j]?)∧Hid ((av.zB V r k).length=m7)∧Hid (∀(b:Nat) (W0 W:World) L R,Kn b W0 W L R→(∀z∈Rk,z∈R)→∀x∈lk,In W x)∧Hid (Kn w.heap.size w wr [(w.heap.size,35,#[.int .i64 r.c,.int .i64 r.e,.int .i64 r.r])] (row aP (.slice A4 n c4) lk::row aR (.slice A7 m7 c7) (av.zB V r k)::Rk))) (fun _ vi _=>n-(intOf vi).toNat)
 case atStart=>exact⟨0,_,_,_,l4,_,Nat.zero_le _,rfl,rfl,mI,BS,zH (fun _ _=>rfl),zH rfl,agy,HK⟩
 case round=>
  clear HK agy;obtain⟨k,A7,m7,c7,lk,Rk,hk,rfl,rfl,og,WU,uS,tH,NP,HK⟩:=hrel;have hk1:(0:Int)≤(k:Int):=by omega
  have hk3:k<9223372036854775807:=by omega
  by_cases hkn:k<n
  case neg=>
   obtain rfl:k=n:=by omega
   have hk2:¬(k:Int)<(k:Int):=by omega
   have HO7:=av.wC V r k;go_wp2_with fail;exact kL results119 (by unfold Jk;exact⟨A4,k,c4,lk,A7,m7,c7,_,rfl,WU,HK.out.aA 0,fun _ _ _ _ _ K hm _=>⟨⟨bJ.own (K.mem (hm _ (List.mem_cons_self ..))) ⟨fun y hy=>trivial,by rw[og.out];show k*144≤_;omega⟩,NP.out _ _ _ _ _ K (fun z hz=>hm _ (List.mem_cons_of_mem _ (List.mem_cons_of_mem _ hz)))⟩,bJ.own (K.mem (hm _ (List.mem_cons_of_mem _ (List.mem_cons_self ..)))) ⟨fun _ _=>trivial,by show _*72≤140737488355328;omega⟩⟩⟩)
  case pos=>
  have hk2:(k:Int)<(n:Int):=by omega
  obtain⟨x,hx⟩:=Lay.fI (l:=l4) (k:=k) (by rw[mI.out];exact hkn);have hxk:lk[k]?=some x:=by rw[uS.out k (Nat.le_refl _)];exact hx
  have Hy:V[k]?=some x.v:=by rw[← BS.out];exact dL hx
  have hml:=List.mem_of_getElem? hxk;obtain⟨g4,rfl⟩:=HK.out.MS (La:=aP) (j:=0) rfl (by rw[og.out];omega);have FM:Hid (∀(b:Nat) (W0 W:World) L R,Kn b W0 W L R→(∀z∈Rk,z∈R)→In W x):=zH fun _ _ _ _ _ K hm=>NP.out _ _ _ _ _ K hm x hml
  have HFr:Hid (Fits aG rF x.v.refs):=zH (FM.out _ _ _ _ _ HK.out (fun z hz=>List.mem_cons_of_mem _ (List.mem_cons_of_mem _ hz))).r.fit;have HDk:=zH (av.Bt (r:=r) Hy);have iw:=zH (av.Aw (r:=r) Hy);have HSk:Hid (av.dr x.v r=x.v→av.Ld V r (k+1)=av.Ld V r k):=zH (av.IE Hy);have zS:=zH hxk;have rO:=av.wC V r k;have HOm:Hid (m7≤8):=zH (by have:=tH.out;omega);clear hx hml hxk Hy rO;by_cases h3:x.v.kind=3
  ·have K3:Hid (decide (x.v.kind=3)=true):=zH (decide_eq_true h3)
   have QW:Hid (av.dr x.v r = { x.v with refs:=aS.pF x.v.refs r }):=zH (by unfold av.dr;rw[if_pos h3]);have FL:Hid (av.uF x.v r=av.held (aS.zO x.v.refs r) (aS.uP x.v.refs r)):=zH (by unfold av.uF;rw[if_pos h3]);have WY:=zH (Ni (r:=r) HFr.out);have HD:Hid (∀W,In W x→Calls prog 185 #[.slice x.rA x.rn x.rc,.agg #[.int .i64 r.c,.int .i64 r.e,.int .i64 r.r]] W (Za (aS.pF x.v.refs r) (aS.zO x.v.refs r) (aS.uP x.v.refs r) W)):=zH fun W h=>PV x.rA x.rc x.rn x.v.refs r W h.r
   unfold Za at HD;clear h3;generalize aS.pF x.v.refs r=m at *
   generalize aS.zO x.v.refs r=y at *
   generalize aS.uP x.v.refs r=h at *
   have HHl:=av.qc y h;have HH:=zH (fun W=>CO y h W);unfold Lu at HH;go_wp2_with (first|refine zX (eX (b:=g4) (i:=k) hkn) ?_|refine au (v:=.agg (bS x)) (eB (off:=k*11) (HK.out.ze (La:=aP) (j:=0) rfl zS.out)) ?_|(refine gY HK ?_;clear HK;intro _ g9 HK;simp only[aO,aJ] at HK)|(refine fD (y:=x) HK 1 ?_;clear HK;intro _ HK;simp only[lS] at HK)|refine zX (iM HK 1) ?_|refine zX (aZ (x:=x.v.kind) (k:=3) K3.out) ?_|refine zX (gK HK 1) ?_|refine zX (jP HK 1) ?_|refine zX (aB HK 0) ?_|refine zX (aL (j:=k) hk3) ?_);refine(HD.out _ (FM.out _ _ _ _ _ HK.out (fun z hz=>List.mem_cons_of_mem _ (List.mem_cons_of_mem _ hz)))).mono ?_;rintro e w5 ⟨A5,n5,c5,rfl,o5,b5⟩;replace HK:=zH (HK.out.called b5 o5);simp only[aO,aJ] at HK;clear o5 b5;have HXs:=zH (UH (x.sr A5 n5 c5 m) zS.out);go_wp2_with (first|(refine aQ HK ?_;clear HK;intro _ g11 HK;simp only[aO,aJ] at HK)|(refine aW HK 2 ?_;clear HK;intro _ HK;simp only[lS] at HK)|refine zX (eX (b:=g4) (i:=k) hkn) ?_|(refine oC (La:=aP) HK 0 59 k x (x.sr A5 n5 c5 m) zS.out 5 qb ?_;clear HK;intro wq HK;simp only[List.set_cons_zero] at HK)|refine zX (aB HK 2) ?_);refine(HH.out _).mono ?_;rintro e w6 ⟨A6,n6,c6,rfl,k6,b6⟩;replace HK:=zH (k6 _ _ _ _ HK.out);have Zf:=zH (Kn.oJ HK.out);clear k6 b6;simp only[aO] at HK;obtain rfl:n6=(av.held y h).length:=Zf.out.reads.1;have HR:=zH Zf.out.rd
   have HL:Hid ((av.zB V r k).length+(av.held y h).length≤9223372036854775807∧((av.zB V r k).length+(av.held y h).length)*aR.bytes≤211106232532992):=zH (by
    rw[tH.out];have:=HOm.out;refine⟨by omega,?_⟩
    show(m7+_)*72≤_
    omega)
   have vQ:Hid ((av.zB V r k++av.held y h).length=m7+(av.held y h).length):=zH (by rw[List.length_append,tH.out]);clear HHl Zf;generalize hos:av.zB V r k=os at *
   have QK:=zH hos;clear hos;generalize hhs:av.held y h=q at *
   have HHs:=zH hhs;clear hhs;generalize hn7:m7+q.length=N7 at *
   have HN7:=zH hn7;clear hn7;go_wp2_with (first|(at_builtin;refine aX HK aR 1 q rfl HR HL (N:=N7) vQ ?_;clear HK;intro A9 c9 _ HK;simp only[lS] at HK)|refine zX (aL (j:=k) hk3) ?_);refine⟨⟨k+1,A9,N7,c9,lk.set k (x.sr A5 n5 c5 m),Rk++[row aG (.slice A5 n5 c5) m],by omega,rfl,by go_num,zH (by rw[List.length_set];exact og.out),zH (by rw[LQ,WU.out,HDk.out,QW.out];rfl),zH (fun j hj=>by rw[List.getElem?_set_ne (by omega)];exact uS.out j (by omega)),zH (by rw[iw.out,FL.out];exact vQ.out),zH (fun _ _ _ _ _ K hm z hz=>?_),?_⟩,by simp[intOf];omega⟩
   ·have h1:=NP.out _ _ _ _ _ K (fun z hz=>hm _ (List.mem_append_left _ hz))
    rcases List.mem_or_eq_of_mem_set hz with h2|rfl
    ·exact h1 z h2
    ·exact(h1 x (List.mem_of_getElem? zS.out)).sr (bJ.own (K.mem (hm _ (List.mem_append_right _ (List.mem_cons_self ..)))) WY.out)
   ·rw[iw.out,FL.out]
    exact zH (Kn.afV (HK.out.aA 1))
  have K3:Hid (decide (x.v.kind=3)=false):=zH (decide_eq_false h3);by_cases h4:x.v.kind=4
  ·have K4:Hid (decide (x.v.kind=4)=true):=zH (decide_eq_true h4)
   have QW:Hid (av.dr x.v r = { x.v with refs:=Gt.pF x.v.cap x.v.refs r }):=zH (by unfold av.dr;rw[if_neg (by omega),if_pos h4]);have FL:Hid (av.uF x.v r=[]):=zH (by unfold av.uF;rw[if_neg (by omega)]);have WY:=zH (Ii (m:=x.v.cap) (r:=r) HFr.out);have HD:Hid (∀W,In W x→Calls prog 187 #[.int .i64 x.v.cap,.slice x.rA x.rn x.rc,.agg #[.int .i64 r.c,.int .i64 r.e,.int .i64 r.r]] W (uG aG (Gt.pF x.v.cap x.v.refs r) W)):=zH fun W h=>Qe x.v.cap x.rA x.rc x.rn x.v.refs r W h.r
   unfold uG at HD;clear h3 h4;generalize Gt.pF x.v.cap x.v.refs r=m at *
   go_wp2_with (first|refine zX (eX (b:=g4) (i:=k) hkn) ?_|refine au (v:=.agg (bS x)) (eB (off:=k*11) (HK.out.ze (La:=aP) (j:=0) rfl zS.out)) ?_|(refine gY HK ?_;clear HK;intro _ g9 HK;simp only[aO,aJ] at HK)|(refine fD (y:=x) HK 1 ?_;clear HK;intro _ HK;simp only[lS] at HK)|refine zX (iM HK 1) ?_|refine zX (aZ (x:=x.v.kind) (k:=3) K3.out) ?_|refine zX (aZ (x:=x.v.kind) (k:=4) K4.out) ?_|refine zX (gK HK 1) ?_|refine zX (jP HK 1) ?_|refine zX (aB HK 0) ?_|refine zX (aL (j:=k) hk3) ?_);refine(HD.out _ (FM.out _ _ _ _ _ HK.out (fun z hz=>List.mem_cons_of_mem _ (List.mem_cons_of_mem _ hz)))).mono ?_;rintro e w5 ⟨A5,n5,c5,rfl,o5,b5⟩;replace HK:=zH (HK.out.called b5 o5);simp only[aO,aJ] at HK;clear o5 b5;go_wp2_with (first|refine zX (eX (b:=g4) (i:=k) hkn) ?_|(refine oC (La:=aP) HK 0 59 k x (x.sr A5 n5 c5 m) zS.out 5 qb ?_;clear HK;intro wq HK;simp only[List.set_cons_zero] at HK)|refine zX (aL (j:=k) hk3) ?_);refine⟨⟨k+1,A7,m7,c7,lk.set k (x.sr A5 n5 c5 m),Rk++[row aG (.slice A5 n5 c5) m],by omega,rfl,by go_num,zH (by rw[List.length_set];exact og.out),zH (by rw[LQ,WU.out,HDk.out,QW.out];rfl),zH (fun j hj=>by rw[List.getElem?_set_ne (by omega)];exact uS.out j (by omega)),zH (by rw[iw.out,FL.out,List.append_nil];exact tH.out),zH (fun _ _ _ _ _ K hm z hz=>?_),?_⟩,by simp[intOf];omega⟩
   ·have h1:=NP.out _ _ _ _ _ K (fun z hz=>hm _ (List.mem_append_left _ hz))
    rcases List.mem_or_eq_of_mem_set hz with h2|rfl
    ·exact h1 z h2
    ·exact(h1 x (List.mem_of_getElem? zS.out)).sr (bJ.own (K.mem (hm _ (List.mem_append_right _ (List.mem_cons_self ..)))) WY.out)
   ·rw[iw.out,FL.out,List.append_nil]
    exact zH (HK.out.aA 1)
  ·have K4:Hid (decide (x.v.kind=4)=false):=zH (decide_eq_false h4)
   have QW:Hid (av.dr x.v r=x.v):=zH (by unfold av.dr;rw[if_neg h3,if_neg h4]);have FL:Hid (av.uF x.v r=[]):=zH (by unfold av.uF;rw[if_neg h3]);clear h3 h4;go_wp2_with (first|refine zX (eX (b:=g4) (i:=k) hkn) ?_|refine au (v:=.agg (bS x)) (eB (off:=k*11) (HK.out.ze (La:=aP) (j:=0) rfl zS.out)) ?_|(refine gY HK ?_;clear HK;intro _ g9 HK;simp only[aO,aJ] at HK)|(refine fD (y:=x) HK 1 ?_;clear HK;intro _ HK;simp only[lS] at HK)|refine zX (iM HK 1) ?_|refine zX (aZ (x:=x.v.kind) (k:=3) K3.out) ?_|refine zX (aZ (x:=x.v.kind) (k:=4) K4.out) ?_|refine zX (gK HK 1) ?_|refine zX (jP HK 1) ?_|refine zX (aB HK 0) ?_|refine zX (aL (j:=k) hk3) ?_);refine⟨⟨k+1,A7,m7,c7,lk,Rk,by omega,rfl,by go_num,og,zH (by rw[HSk.out QW.out];exact WU.out),zH (fun j hj=>uS.out j (by omega)),zH (by rw[iw.out,FL.out,List.append_nil];exact tH.out),NP,?_⟩,by simp[intOf];omega⟩;rw[iw.out,FL.out,List.append_nil];exact zH (HK.out.aA 1)
end
end Go.Proofs.YtieoeendnccafaaGreat
