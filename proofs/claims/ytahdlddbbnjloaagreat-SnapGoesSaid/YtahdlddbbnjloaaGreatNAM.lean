/- What meter.Right returns. No condition but those named. -/
import Derived.Test.YtahdlddbbnjloaaGreatNAK
import Derived.Test.YtahdlddbbnjloaaGreatNAC
set_option linter.unusedSimpArgs false
set_option linter.unusedVariables false
set_option maxRecDepth 100000
set_option maxHeartbeats 25600000
open Go.RowKit
namespace Go.Proofs.YtahdlddbbnjloaaGreat
open _root_.Go.Proofs.Tryz
section
def otL(x:au.Ot):List Value:=[.int .i64 x.r.c,.int .i64 x.r.e,.int .i64 x.r.r,.int .i64 x.p.e,.int .i64 x.p.v.k,.int .i64 x.p.v.n,.int .u64 (x.p.v.f:Int),.string x.p.v.s]
def otA(x:au.Ot):Array Value:=#[.int .i64 x.r.c,.int .i64 x.r.e,.int .i64 x.r.r,.int .i64 x.p.e,.int .i64 x.p.v.k,.int .i64 x.p.v.n,.int .u64 (x.p.v.f:Int),.string x.p.v.s]
def otZ:au.Ot:=⟨⟨0,0,0⟩,au.rz⟩
theorem VT:(prog.info? 64).map (fun i=>(i.zero,i.size,i.bytes))=some (some (Value.agg (otA otZ)),8,72):=by kernel_rfl
def bL:Lay prog au.Ot where
 t:=40
 e:=64
 k:=8
 bytes:=72
 z:=.agg (otA otZ)
 f:=otL
 len:=fun _=>rfl
 one:=fun x u hu=>by
  unfold otL at hu;simp only[List.mem_cons,List.not_mem_nil,or_false] at hu
  rcases hu with rfl|rfl|rfl|rfl|rfl|rfl|rfl|rfl<;>rfl
 und:=underlying40
 info:=VT
 zs:=rfl
 pos:=by decide
 small:=by decide
def tF(_:au.Ot):Prop:=True
section
variable {w:World}{o:Oper}{a:Act}{p q:au.Rp}{r:Rf}
theorem sP{i:Operand}(ho:o.op=.build 64 #[(0,i)]:=by rfl)(hi:a.eval i=.agg #[.int .i64 r.c,.int .i64 r.e,.int .i64 r.r]:=by rfl):
  (execOp a.eval o).run prog w=.ok (.value (.agg (otA ⟨r,au.rz⟩))) w:=by
 have h:(Instr.build 64 #[(0,.agg #[.int .i64 r.c,.int .i64 r.e,.int .i64 r.r])]).run prog w=.ok (.agg (otA ⟨r,au.rz⟩)) w:=by
  unfold otA au.rz;go_simp
 unfold execOp;simp only[ho,Sem.run_bind,Sem.run_pure,Result.andThen_ok,List.map_toArray,List.map_cons,List.map_nil,hi,h]
theorem ng{i:Operand}{j:Operand}(ho:o.op=.build 64 #[(0,i),(1,j)]:=by rfl)(hi:a.eval i=.agg #[.int .i64 r.c,.int .i64 r.e,.int .i64 r.r]:=by rfl)(hj:a.eval j=.agg (dG p):=by rfl):
  (execOp a.eval o).run prog w=.ok (.value (.agg (otA ⟨r,p⟩))) w:=by
 have h:(Instr.build 64 #[(0,.agg #[.int .i64 r.c,.int .i64 r.e,.int .i64 r.r]),(1,.agg (dG p))]).run prog w=.ok (.agg (otA ⟨r,p⟩)) w:=by
  unfold otA dG;go_simp
 unfold execOp;simp only[ho,Sem.run_bind,Sem.run_pure,Result.andThen_ok,List.map_toArray,List.map_cons,List.map_nil,hi,hj,h]
end
section
variable {fn:Func}{R:Ending→World→Prop}{a:Act}{w:World}{B:Nat}{x:Oh}{p:au.Rp}{t:Bool}{A:Option Addr}{n c:Nat}{u z y:Value}{q q2 q3 q4:Tmp}
theorem xI(hf:fn.results=#[.tmp q2,.cell q 28,.tmp q3,.tmp q4])(hb:eT w B 28 (dG p))
  (h2:a.tmps[q]?=some (.pointer (some ⟨B,0,none⟩)):=by rfl)(h3:a.tmps[q2]?=some u:=by rfl)(h4:a.tmps[q3]?=some z:=by rfl)(h5:a.tmps[q4]?=some y:=by rfl)(hd:a.defers=[]:=by rfl)(hR:R (.returned (.tuple #[u,.agg (dG p),z,y])) w:=by unfold lX;exact⟨_,_,_,l,_,_,_,_,rfl,rfl,HK.out.aB 0,fun _ _ _ _ _ K hm hb=>⟨yA.out _ hb,bT.none _⟩⟩):bodyPost prog fn R Exit.ret a w:=by
 refine bodyPost_ret (v:=.tuple #[u,.agg (dG p),z,y]) ?_ hd hR;have h:(loadVar 28 ⟨B,0,none⟩).run prog w=.ok (.agg (dG p)) w:=run_loadVar_row (P:=prog) w B _ _ _ (0,0) _ hb underlying28 rfl kg;simp[results,hf,asAddr,Sem.run_bind,h2,h3,h4,h5,h]
end
end
section
def prF(p:aQ.Pr):Prop:=p.val.f<18446744073709551616
theorem Sl.sls{w:World}{A:Option Addr}{n c:Nat}{l:List aQ.Pr}(h:Sl w A n c l):bT bY prF w A n c l:=
 ⟨h.len,h.cap,h.rd,h.nl,⟨h.fs,by
  have:=h.big;rw[h.len]
  show n*56≤_
  omega⟩⟩
theorem bT.sl{w:World}{A:Option Addr}{n c:Nat}{l:List aQ.Pr}(h:bT bY prF w A n c l):Sl w A n c l:=
 ⟨h.len,h.cap,h.rd,h.nl,h.fit.fs,by
  have h2:n*56≤140737488355328:=h.big
  omega⟩
end
section
def rO(x:Oh):List bV:=[row bY (.slice x.pA x.pn x.pc) x.v.dV,row bG (.slice x.vA x.vn x.vc) x.v.vals,row aN (.slice x.rA x.rn x.rc) x.v.refs]
section
variable {b0:Nat}{w0 w:World}{L:List (Nat×TypeId×Array Value)}{R:List bV}
theorem Kn.init{y:bV}(h:Kn b0 w0 w L (R++[y])):Kn b0 w0 w L R:=by
 have h2:=h.ay R.length;rw[List.take_left' rfl] at h2;exact h2
theorem Kn.zI{P:Program}{α:Type}{La:Lay P α}{v:Value}{l:List α}(h:Kn b0 w0 w L (R++[row La v l])):La.Own b0 w v l:=h.own R.length (by simp)
theorem Kn.join{w':World}{Rn:List bV}(h:Kn b0 w0 w L R)(k:Kn w.heap.size w w' [] Rn):Kn b0 w0 w' L (R++Rn):=by
 have hc:=h.call k.b
 have key:∀(i:Nat) x,(R++Rn)[i]?=some x→(i<R.length∧R[i]?=some x)∨(R.length≤i∧Rn[i-R.length]?=some x):=fun i x hx=>by
  rcases Nat.lt_or_ge i R.length with hi|hi
  ·rw[List.getElem?_append_left hi] at hx;exact .inl ⟨hi,hx⟩
  ·rw[List.getElem?_append_right hi] at hx;exact .inr ⟨hi,hx⟩
 refine⟨hc.b,hc.m,hc.l,fun i y hy=>?_,hc.ll,fun i j x y hx hy=>?_,fun i j x y hx hy hij=>?_⟩
 ·rcases key i y hy with ⟨_,hy⟩|⟨_,hy⟩
  ·exact hc.r i y hy
  ·exact World.ownsRow.mono (k.r _ y hy) h.m
 ·rcases key j y hy with ⟨_,hy⟩|⟨_,hy⟩
  ·exact hc.lr i j x y hx hy
  ·intro e
   have h1:=(kW (k.r _ y hy) e).1;have h2:=(h.l i x hx).2.lt;omega
 ·rcases key i x hx with ⟨h1,hx⟩|⟨h1,hx⟩<;>rcases key j y hy with ⟨h2,hy⟩|⟨h2,hy⟩
  ·exact hc.rr i j x y hx hy hij
  ·intro g hg e
   have h3:=(kW (h.r i x hx) hg).2;have h4:=(kW (k.r _ y hy) e).1;omega
  ·intro g hg e
   have h3:=(kW (h.r j y hy) e).2;have h4:=(kW (k.r _ x hx) hg).1;omega
  ·exact k.rr _ _ x y hx hy (by omega)
theorem Kn.mem{P:Program}{α:Type}{La:Lay P α}{v:Value}{l:List α}(h:Kn b0 w0 w L R)(hm:row La v l∈R):La.Own b0 w v l:=by
 obtain⟨i,hi⟩:=List.mem_iff_getElem?.1 hm;exact h.own i hi
end
structure Fo(o:au.Ob):Prop where
 p:Fit o.dV
 v:Fits bG vF o.vals
 r:Fits aN rF o.refs
 m:Mt.Fit o.mt
 d:o.round≤9223372036854775807
theorem Kn.obs{b0:Nat}{w0 w:World}{L:List (Nat×TypeId×Array Value)}{R:List bV}{A:Option Addr}{n c:Nat}{l:List Oh}(h:Kn b0 w0 w L R)(h1:row bB (.slice A n c) l∈R)(h2:∀y∈l.flatMap rO,y∈R)(hf:∀o∈vs l,Fo o)(hn:n*144≤140737488355328):dS w A n c l:=by
 have ho:=h.mem h1;have hl:=ho.reads.1;refine⟨bT.own ho ⟨fun x hx=>trivial,?_⟩,fun x hx=>?_⟩
 ·show l.length*144≤_
  rw[← hl];exact hn
 ·have hfo:=hf x.v (List.mem_map.2 ⟨x,hx,rfl⟩)
  have hm:∀y∈rO x,y∈R:=fun y hy=>h2 y (List.mem_flatMap.2 ⟨x,hx,hy⟩)
  have m0:row bY (.slice x.pA x.pn x.pc) x.v.dV∈rO x:=List.mem_cons_self ..;have m1:row bG (.slice x.vA x.vn x.vc) x.v.vals∈rO x:=List.mem_cons_of_mem _ (List.mem_cons_self ..);have m2:row aN (.slice x.rA x.rn x.rc) x.v.refs∈rO x:=List.mem_cons_of_mem _ (List.mem_cons_of_mem _ (List.mem_cons_self ..));exact⟨Sl.own (h.mem (hm _ m0)) hfo.p,bT.own (h.mem (hm _ m1)) hfo.v,bT.own (h.mem (hm _ m2)) hfo.r,hfo.m,hfo.d⟩
end
section
theorem Xn:prog.cellsOf 30=9:=by kernel_rfl
theorem run_seq(s:aG.S)(w:World):(Op.equalIn 9999 30 (.agg (fK s)) (.agg (fK s))).run prog w=.ok true w:=by
 unfold fK;go_simp
theorem afj(t:aG.T)(w:World):(part 30 (dU t) (0*9)).run prog w=.ok (.agg (fK t.s0)) w:=by kernel_rfl
theorem afi(t:aG.T)(w:World):(part 30 (dU t) (1*9)).run prog w=.ok (.agg (fK t.s1)) w:=by kernel_rfl
theorem afh(t:aG.T)(w:World):(part 30 (dU t) (2*9)).run prog w=.ok (.agg (fK t.s2)) w:=by kernel_rfl
theorem afg(t:aG.T)(w:World):(part 30 (dU t) (3*9)).run prog w=.ok (.agg (fK t.s3)) w:=by kernel_rfl
theorem aff(t:aG.T)(w:World):(part 30 (dU t) (4*9)).run prog w=.ok (.agg (fK t.s4)) w:=by kernel_rfl
theorem Zi(t:aG.T)(w:World):(Op.equalIn 10000 31 (.agg (dU t)) (.agg (dU t))).run prog w=.ok true w:=by
 obtain⟨i,hi⟩:∃i,prog.info? 30=some i:=Option.isSome_iff_exists.1 (by kernel_rfl);rw[run_equalIn_array w 9999 _ _ underlying31 hi,Xn];simp only[List.range,List.range.loop,Op.eqItems,Sem.run_bind,afj,afi,afh,afg,aff,run_seq,Result.andThen_ok,Bool.not_true,Bool.false_eq_true,if_false,Sem.run_pure]
theorem WH{w:World}{o:Oper}{a:Act}{t:aG.T}{x:Operand}{y:Operand}(ho:o.op=.binOp .eql 31 x y 31)(hx:a.eval x=.agg (dU t))(hy:a.eval y=.agg (dU t)):
  (execOp a.eval o).run prog w=.ok (.value (.bool true)) w:=by
 have h:=Zi t;exact Ed
end
section
namespace Ap
open au aG
theorem NP(s:St)(c:Int):left (up s) c=up (left s c):=by
 unfold left
 show(if (s.t.get c).live=true then up (iR s c) else up s)=_
 split<;>rfl
theorem QB(s:St)(r:Rf):mP (up s) r=up (mP s r):=by
 unfold mP;rw[NP]
 rfl
theorem UW(s:St)(r:Rf):vU (up s) r=vU s r:=by
 unfold vU;rw[NP]
 rfl
theorem Ra(s:St)(r:Rf)(c:aI.C):gH (up s) r c=up (gH s r c):=by
 unfold gH
 show(if c.k=3 then up (touch s r) else if c.k=2 then up (iR (touch s r) r.c) else if (iq s.l r c).later=true then up ⟨s.n,(iq s.l r c).l,iT s.t r⟩ else up (kept s r c))=_
 by_cases h3:c.k=3
 ·rw[if_pos h3,if_pos h3]
 rw[if_neg h3,if_neg h3];by_cases h2:c.k=2
 ·rw[if_pos h2,if_pos h2]
 rw[if_neg h2,if_neg h2];by_cases hl:(iq s.l r c).later=true
 ·rw[if_pos hl,if_pos hl]
 rw[if_neg hl,if_neg hl]
theorem aaM(s:St)(e:aI.E):DC (up s) e=DC s e:=by
 unfold DC;rw[UW]
 rfl
theorem ajf(s:St)(e:aI.E):zL (up s) e=up (zL s e):=by
 unfold zL;rw[QB,Ra]
 show(if e.cmd.k=18 then (if (s.t.get e.c).live=true∧(s.t.get e.c).ep=e.e then up (iR s e.c) else up s) else if aG.look s.t (ref e)=1 then (if e.r=0 then up (mP s (ref e)) else up (gH s (ref e) e.cmd)) else up s)=_
 by_cases h1:e.cmd.k=18
 ·rw[if_pos h1,if_pos h1]
  split<;>rfl
 rw[if_neg h1,if_neg h1];by_cases h2:aG.look s.t (ref e)=1
 ·rw[if_pos h2,if_pos h2]
  split<;>rfl
 rw[if_neg h2,if_neg h2]
def own:List Ot→Rf→Option Rp
 | [],_=>none
 | y::m,r=>if y.r=r then some y.p else own m r
theorem Wo{s:St}{e:aI.E}(hk:e.cmd.k=18):zL s e=(if (s.t.get e.c).live=true∧(s.t.get e.c).ep=e.e then iR s e.c else s)∧DC s e=(if (s.t.get e.c).live=true∧(s.t.get e.c).ep=e.e then lN s e.c else []):=⟨if_pos hk,if_pos hk⟩
theorem afW{s:St}{e:aI.E}(hk:¬e.cmd.k=18)(hl:aG.look s.t (ref e)=1):zL s e=(if e.r=0 then mP s (ref e) else gH s (ref e) e.cmd)∧DC s e=(if e.r=0 then vU s (ref e) else kS s (ref e) e.cmd):=by
 unfold zL DC;rw[if_neg hk,if_neg hk,if_pos hl,if_pos hl];exact uw
theorem als{s:St}{e:aI.E}(hk:¬e.cmd.k=18)(hl:aG.look s.t (ref e)=2):zL s e=s∧DC s e=[⟨ref e,(s.t.get e.c).p⟩]:=by
 unfold zL DC;rw[if_neg hk,if_neg hk,hl];exact uw
theorem ajg{s:St}{e:aI.E}(hk:¬e.cmd.k=18)(hl:¬aG.look s.t (ref e)=1):zL s e=s∧(DC s e).length≤1:=by
 unfold zL DC;rw[if_neg hk,if_neg hk,if_neg hl,if_neg hl];refine⟨rfl,?_⟩
 repeat' split
 all_goals first|exact Nat.zero_le _|exact Nat.le_refl _
theorem FE{s:St}{e:aI.E}(h:¬Can s e):Cu s e=s∧Xx s e=[]:=⟨if_neg h,if_neg h⟩
theorem Xw{s:St}{e:aI.E}(h:Can s e):Cu s e=up (zL s e)∧Xx s e=DC s e:=⟨(if_pos h).trans (ajf s e),(if_pos h).trans (aaM s e)⟩
def small(k:Int):aI.C:=⟨k,⟨#[]⟩,⟨#[]⟩,⟨0,0,0,⟨#[]⟩⟩,⟨0,0,0,⟨#[]⟩⟩,0,0⟩
theorem wN:∀{Y:List (Rf×Rp)} {t:T},(∀y∈Y,y.2.v.f<18446744073709551616)→aG.Fit t→aG.Fit (Ap.ends t Y)
 | [],_,_,h=>h
 | y::m,t,hy,h=>wN (Y:=m) (fun z hz=>hy z (List.mem_cons_of_mem _ hz)) (aG.qo h y.1 (hy y (List.mem_cons_self ..)))
theorem xK{Y:List Ot}(h:∀y∈Y,y.p.v.f<18446744073709551616):∀z∈dV Y,z.2.v.f<18446744073709551616:=fun z hz=>by
 exact SK
theorem Bj(s:St)(c:Int)(h:(jR s.l (rf s.t c)).length≤8):(lN s c).length≤9:=by
 unfold lN;rw[List.length_append]
 split
 ·show 0+_≤9;omega
 ·show 1+_≤9;omega
end Ap
end
section
namespace Ap
open au aG
theorem Vq{s:S}{r:Rf}(hs:nH s r=2):r.e=s.ep∧r.r=s.rq∧s.dn=true:=by
 unfold nH at hs;by_cases h1:r.r=0∧s.ep<r.e
 ·rw[if_pos h1] at hs;cases hs
 rw[if_neg h1] at hs;by_cases h2:r.e≠s.ep∨r.r<s.rq
 ·rw[if_pos h2] at hs;cases hs
 rw[if_neg h2] at hs;by_cases h3:r.r=s.rq
 ·rw[if_pos h3] at hs
  by_cases h6:s.dn=true
  ·exact⟨by omega,h3,h6⟩
  ·rw[if_neg h6] at hs;cases hs
 rw[if_neg h3] at hs;by_cases h4:s.live=false
 ·rw[if_pos h4] at hs;cases hs
 rw[if_neg h4] at hs
 split at hs<;>cases hs
theorem Vp{s:S}{r:Rf}(hs:nH s r=4):r.e=s.ep∧s.rq<r.r∧s.live=false:=by
 unfold nH at hs;by_cases h1:r.r=0∧s.ep<r.e
 ·rw[if_pos h1] at hs;cases hs
 rw[if_neg h1] at hs;by_cases h2:r.e≠s.ep∨r.r<s.rq
 ·rw[if_pos h2] at hs;cases hs
 rw[if_neg h2] at hs;by_cases h3:r.r=s.rq
 ·rw[if_pos h3] at hs
  split at hs<;>cases hs
 rw[if_neg h3] at hs;by_cases h4:s.live=false
 ·exact⟨by omega,by omega,h4⟩
 rw[if_neg h4] at hs
 split at hs<;>cases hs
def Cur(t:T)(y:Ot):Prop:=(0≤y.r.c∧y.r.c<5)∧y.r.e=(t.get y.r.c).ep∧((y.r.r=(t.get y.r.c).rq∧(t.get y.r.c).dn=true∧y.p=(t.get y.r.c).p)∨((t.get y.r.c).rq<y.r.r∧(t.get y.r.c).live=false∧y.p=err 14))
def Old(t:T)(y:Ot):Prop:=(0≤y.r.c∧y.r.c<5)∧(y.r.e<(t.get y.r.c).ep∨(y.r.e=(t.get y.r.c).ep∧y.r.r<(t.get y.r.c).rq))
structure Good(t:T)(O:List Ot):Prop where
 told:∀y∈O,Old t y∨Cur t y
 one:∀y∈O,∀z∈O,y.r=z.r→y.p=z.p
section
variable {t:T}{O:List Ot}{r:Rf}{c:Int}
theorem Good.nil(t:T):Good t []:=⟨fun y hy=>(by cases hy),fun y hy=>(by cases hy)⟩
theorem Good.sub{O':List Ot}(g:Good t O)(h:∀y∈O',y∈O):Good t O':=⟨fun y hy=>g.told y (h y hy),fun y hy z hz=>g.one y (h y hy) z (h z hz)⟩
theorem Jb{y z:Ot}(hy:Old t y∨Cur t y)(hz:Cur t z)(e:y.r=z.r):y.p=z.p:=by
 obtain⟨_,z1,z2⟩:=hz
 rcases hy with ⟨_,hy⟩|⟨_,y1,y2⟩
 ·rw[e] at hy
  rcases hy with hy|hy
  ·omega
  ·rcases z2 with ⟨z2,_⟩|⟨z2,_⟩<;>omega
 ·rw[e] at y2
  rcases y2 with ⟨a,b,d⟩|⟨a,b,d⟩<;>rcases z2 with ⟨a',b',d'⟩|⟨a',b',d'⟩
  ·rw[d,d']
  ·omega
  ·omega
  ·rw[d,d']
theorem Good.add(g:Good t O){z:Ot}(h:Cur t z):Good t (O++[z]):=by
 refine⟨fun y hy=>?_,fun y hy x hx e=>?_⟩
 ·rcases List.mem_append.1 hy with hy|hy
  ·exact g.told y hy
  ·rw[List.mem_singleton.1 hy];exact .inr h
 ·rcases List.mem_append.1 hy with hy|hy<;>rcases List.mem_append.1 hx with hx|hx
  ·exact g.one y hy x hx e
  ·rw[List.mem_singleton.1 hx] at e ⊢
   exact Jb (g.told y hy) h e
  ·rw[List.mem_singleton.1 hy] at e ⊢
   exact(Jb (g.told x hx) h e.symm).symm
  ·rw[List.mem_singleton.1 hy,List.mem_singleton.1 hx]
theorem Good.set(g:Good t O)(hc:0≤c∧c<5){s:S}(h:∀y∈O,y.r.c=c→Old t y∨Cur t y→Old (t.set c s) y∨Cur (t.set c s) y):Good (t.set c s) O:=by
 refine⟨fun y hy=>?_,g.one⟩;by_cases e:y.r.c=c
 ·exact h y hy e (g.told y hy)
 ·rcases g.told y hy with k|k
  ·exact .inl ⟨k.1,by rw[jH hc k.1 e];exact k.2⟩
  ·exact .inr ⟨k.1,by rw[jH hc k.1 e];exact k.2⟩
theorem Good.beg(g:Good t O)(hl:aG.look t r=1)(h0:¬r.r=0):Good (iT t r) O:=by
 obtain⟨hk,hR,g1,g2,g3,g4⟩:=jO hl h0;have hc:=mR hk;have e:iT t r=t.set r.c { t.get r.c with rq:=r.r,dn:=false,p:=rz }:=if_pos ⟨hl,h0⟩;rw[e];refine g.set hc fun y hy e2 k=>.inl ?_
 rcases k with ⟨a,k⟩|⟨a,k1,k2⟩
 ·refine⟨a,?_⟩
  rw[e2] at k ⊢;rw[bQ hc]
  show y.r.e<(t.get r.c).ep∨(y.r.e=(t.get r.c).ep∧y.r.r<r.r)
  omega
 ·refine⟨a,.inr ?_⟩
  rw[e2] at k1 k2 ⊢;rw[bQ hc];refine⟨k1,?_⟩
  show y.r.r<r.r
  rcases k2 with ⟨k2,_⟩|⟨_,k3,_⟩
  ·omega
  ·rw[g3] at k3;cases k3
theorem Good.end_(g:Good t O){x:Rp}(hl:aG.look t r=3)(hx:rep x=true):Good (ji t r x) (O++[⟨r,x⟩]):=by
 obtain⟨hc,hd,g3,g4,ho⟩:=oh hl;have e:ji t r x=t.set r.c { t.get r.c with dn:=true,p:=x }:=if_pos ⟨hl,hx⟩
 have g2:Good (ji t r x) O:=by
  rw[e];refine g.set hc fun y hy e2 k=>?_
  rcases k with ⟨a,k⟩|⟨a,k1,k2⟩
  ·refine .inl ⟨a,?_⟩
   rw[e2] at k ⊢;rw[bQ hc];exact k
  ·rw[e2] at k1 k2
   rcases k2 with ⟨_,k2,_⟩|⟨_,k3,_⟩
   ·rw[g3] at k2;cases k2
   ·rw[hd.1] at k3;cases k3
 refine g2.add ⟨hc,?_,.inl ⟨?_,?_,?_⟩⟩<;>(show _=_;rw[e,bQ hc])
 ·exact hd.2.1.symm
 ·exact g4
theorem Good.close(g:Good t O)(hR:aG.Right t)(hc:0≤c∧c<5)(hl:(t.get c).live=true):Good (fF t c) (O++(if (t.get c).dn=true then [] else [⟨rf t c,err 14⟩])):=by
 have e:fF t c=t.set c (iA (t.get c)):=if_pos ⟨hc.1,hc.2,hR,hl⟩;obtain⟨q1,q2,q3,q4,q5,q6⟩:=yO (t.get c)
 have g2:Good (fF t c) O:=by
  rw[e];refine g.set hc fun y hy e2 k=>?_
  rcases k with ⟨a,k⟩|⟨a,k1,k2⟩
  ·refine .inl ⟨a,?_⟩
   rw[e2] at k ⊢;rw[bQ hc,q2,q3];exact k
  ·refine .inr ⟨a,?_⟩
   rw[e2] at k1 k2 ⊢;rw[bQ hc,q2,q3];refine⟨k1,?_⟩
   rcases k2 with ⟨k2,k3,k4⟩|⟨_,k3,_⟩
   ·exact .inl ⟨k2,q4,by rw[q5 k3];exact k4⟩
   ·rw[hl] at k3;cases k3
 by_cases hd:(t.get c).dn=true
 ·rw[if_pos hd,List.append_nil];exact g2
 ·rw[if_neg hd]
  refine g2.add ⟨hc,?_,.inl ⟨?_,?_,?_⟩⟩<;>(show _=_;rw[e];show _=_;rw[show(rf t c).c=c from rfl,bQ hc])
  ·exact q2.symm
  ·exact q3.symm
  ·exact q4
  ·exact(q6 (Bool.eq_false_iff.2 hd)).symm
theorem Good.open_(g:Good t O)(hl:aG.look t r=1)(h0:r.r=0):Good (jv t r) (O++[⟨r,rW t r⟩]):=by
 obtain⟨hk,hR,hs⟩:=jE hl;have hc:=mR hk;have e:jv t r=t.set r.c (lT t r):=if_pos ⟨hl,h0⟩;have eP:rW t r=(lT t r).p:=if_pos ⟨hl,h0⟩
 have q:(lT t r).ep=r.e∧(lT t r).rq=0∧(lT t r).dn=true:=by
  unfold lT
  split<;>exact⟨rfl,rfl,rfl⟩
 have hep:(t.get r.c).ep<r.e:=by
  rcases wF hs with k|⟨_,k,_,_⟩
  ·exact k.2
  ·exfalso
   have h1:=kN hR hc;by_cases he:(t.get r.c).ep=0
   ·have h2:=vV h1 he
    rw[h2] at k;have:r.r=0+1:=k;omega
   ·have:=(one_pos h1 he).2.2.1
    omega
 have g2:Good (jv t r) O:=by
  rw[e];refine g.set hc fun y hy e2 k=>.inl ?_
  rcases k with ⟨a,k⟩|⟨a,k1,k2⟩
  ·refine⟨a,.inl ?_⟩
   rw[e2] at k ⊢;rw[bQ hc,q.1];omega
  ·refine⟨a,.inl ?_⟩
   rw[e2] at k1 ⊢;rw[bQ hc,q.1];omega
 refine g2.add ⟨hc,?_,.inl ⟨?_,?_,?_⟩⟩<;>(show _=_;rw[e,bQ hc])
 ·exact q.1.symm
 ·rw[q.2.1];exact h0
 ·exact q.2.2
 ·exact eP
theorem Good.ends{W P H:List Rf}:∀{Y:List Ot} {t:T} {O:List Ot},J t W (Y.map (·.r)++P) H→Good t O→(∀y∈Y,rep y.p=true)→Good (Ap.ends t (dV Y)) (O++Y)
 | [],t,O,_,g,_=>by rw[List.append_nil];exact g
 | y::m,t,O,j,g,h=>by
  have hl:aG.look t y.r=3:=j.w y.r (List.mem_append.2 (.inr (List.mem_cons_self ..)));have hy:=h y (List.mem_cons_self ..);have:=Good.ends (Y:=m) (j.end_ hy) (g.end_ hl hy) fun z hz=>h z (List.mem_cons_of_mem _ hz)
  exact MW
theorem uS{s:St}(h:Ok s)(hc:0≤c∧c<5)(hl:(s.t.get c).live=true)(g:Good s.t O):Good (iR s c).t (O++lN s c):=by
 obtain⟨j,_⟩:=EY h hc hl;have:=Good.ends (P:=[]) (by rw[List.append_nil];exact j) (g.close h.t hc hl) (IX s.l);exact MW
theorem QA{s:St}(h:Ok s)(hl:aG.look s.t r=1)(h0:r.r=0)(g:Good s.t O):Good (mP s r).t (O++vU s r):=by
 have hc:=sF hl (by decide)
 have g2:Good (left s r.c).t (O++if (s.t.get r.c).live=true then lN s r.c else []):=by
  unfold left;by_cases hv:(s.t.get r.c).live=true
  ·rw[if_pos hv,if_pos hv];exact uS h hc hv g
  ·rw[if_neg hv,if_neg hv,List.append_nil];exact g
 refine(g2.open_ (QH h hl h0) h0).sub fun y hy=>?_
 unfold vU at hy;simp only[List.mem_append,List.mem_cons,List.not_mem_nil,or_false] at hy ⊢
 rcases hy with hy|hy|hy
 ·exact .inl (.inl hy)
 ·exact .inr hy
 ·exact .inl (.inr hy)
theorem Ma{s:St}(h:Ok s)(hl:aG.look s.t r=1)(h0:¬r.r=0)(k:aI.C)(g:Good s.t O):Good (gH s r k).t (O++kS s r k):=by
 have hc:=sF hl (by decide);have hlive:=(jO hl h0).2.2.2.2.1;have gt:Good (touch s r).t (O++[⟨r,rz⟩]):=(g.beg hl h0).end_ (Cb hl h0) vK;unfold gH kS;by_cases h3:k.k=3
 ·rw[if_pos h3,if_pos h3];exact gt
 rw[if_neg h3,if_neg h3];by_cases h2:k.k=2
 ·rw[if_pos h2,if_pos h2]
  have e:((touch s r).t.get r.c).live=true:=by
   show((ji (iT s.t r) r rz).get r.c).live=true
   rw[CO hl h0 vK];exact hlive
  have:=uS (Aj h hl h0) hc e gt;exact MW
 rw[if_neg h2,if_neg h2];by_cases hla:(iq s.l r k).later=true
 ·rw[if_pos hla,if_pos hla,List.append_nil]
  exact g.beg hl h0
 rw[if_neg hla,if_neg hla];obtain⟨d1,d2⟩:=OC s.l r k;have j:=h.j.begin hl h0;obtain⟨a,_⟩:=(DJ h.l r k).1 (Bool.eq_false_iff.2 hla)
 have j2:J (iT s.t r) (W (iq s.l r k).l) (r::(iq s.l r k).outs.map (·.r)) []:=by
  refine j.perm ?_ fun x hx=>by cases hx
  refine List.Perm.trans List.perm_middle ?_;exact acJ
 have:=Good.ends (P:=[]) (by rw[List.append_nil];exact j2.end_ d1) ((g.beg hl h0).end_ (Cb hl h0) d1) d2;exact MW
theorem aaN{s:St}(h:Ok s){e:aI.E}(he:aI.fits e)(g:Good s.t O):Good (zL s e).t (O++DC s e):=by
 have hk:=BF he;have hc:0≤e.c∧e.c<5:=mR hk;by_cases h18:e.cmd.k=18
 ·rw[(Wo h18).1,(Wo h18).2]
  by_cases q:(s.t.get e.c).live=true∧(s.t.get e.c).ep=e.e
  ·rw[if_pos q,if_pos q];exact uS h hc q.1 g
  ·rw[if_neg q,if_neg q,List.append_nil];exact g
 by_cases h1:aG.look s.t (ref e)=1
 ·rw[(afW h18 h1).1,(afW h18 h1).2]
  by_cases h0:e.r=0
  ·rw[if_pos h0,if_pos h0];exact QA h h1 h0 g
  ·rw[if_neg h0,if_neg h0];exact Ma h h1 h0 e.cmd g
 rw[(ajg h18 h1).1];unfold DC;rw[if_neg h18,if_neg h1];by_cases h2:aG.look s.t (ref e)=2
 ·rw[if_pos h2]
  obtain⟨_,_,hs⟩:=jE h2;have hd:e.e=(s.t.get e.c).ep∧e.r=(s.t.get e.c).rq∧(s.t.get e.c).dn=true:=Vq hs;exact g.add ⟨hc,hd.1,.inl ⟨hd.2.1,hd.2.2,rfl⟩⟩
 rw[if_neg h2];by_cases h4:aG.look s.t (ref e)=4
 ·rw[if_pos h4]
  obtain⟨_,_,hs⟩:=jE h4;have hd:e.e=(s.t.get e.c).ep∧(s.t.get e.c).rq<e.r∧(s.t.get e.c).live=false:=Vp hs;exact g.add ⟨hc,hd.1,.inr ⟨hd.2.1,hd.2.2,rfl⟩⟩
 ·rw[if_neg h4,List.append_nil];exact g
theorem abN{s:St}(h:Ok s)(e:aI.E)(g:Good s.t O):Good (Cu s e).t (O++Xx s e):=by
 by_cases hc:Can s e
 ·rw[(Xw hc).1,(Xw hc).2]
  exact aaN h hc.2.1 g
 ·rw[(FE hc).1,(FE hc).2,List.append_nil]
  exact g
end
def all(s:St):List aI.E→St×List Ot
 | []=>(s,[])
 | e::m=>((all (Cu s e) m).1,Xx s e++(all (Cu s e) m).2)
def s0:St:=⟨0,[],t0⟩
theorem aiL:Ok s0:=by decide
end Ap
end
section
def dh(k:Int)(name key:ByteArray)(vk vn:Int)(vf:Nat)(vs:ByteArray)(ok on:Int)(of:Nat)(os:ByteArray)(n m:Int):Array Value:=
 #[.int .i64 k,.string name,.string key,.int .i64 vk,.int .i64 vn,.int .u64 (vf:Int),.string vs,.int .i64 ok,.int .i64 on,.int .u64 (of:Int),.string os,.int .i64 n,.int .i64 m]
def dL(c:aI.C):Array Value:=dh c.k c.name c.key c.val.k c.val.n c.val.f c.val.s c.old.k c.old.n c.old.f c.old.s c.n c.m
def fl(b0 b1 b2 b3 b4 b5:Bool):Array Value:=#[.bool b0,.bool b1,.bool b2,.bool b3,.bool b4,.bool b5]
theorem wB:(prog.info? 140).map (·.size)=some 6:=by kernel_rfl
theorem aaE:(prog.info? 46).map (·.size)=some 13:=by kernel_rfl
section
variable {b0:Nat}{w0 w:World}{L:List (Nat×TypeId×Array Value)}{R:List bV}{ops:Array Oper}{rest:List Oper}{o:Oper}{a:Act}{Q:Exit→Act→World→Prop}
theorem lD(HK:Hid (Kn b0 w0 w L R))(i:Nat){x:Operand}{g off:Nat}{t:TypeId}{cs:Array Value}{n:Int}(ho:o.op=.load 3 x:=by rfl)(hL:L[i]?=some (g,t,cs):=by rfl)(hx:a.eval x=.pointer (some ⟨g,off,none⟩):=by rfl)(hv:cs[off]?=some (.int .i64 n):=by rfl):
  (execOp a.eval o).run prog w=.ok (.value (.int .i64 n)) w:=aT HK _ x ho i hL hx (hv:=hv) underlying3
end
def Ju(b0 b1 b2 b3 b4 b5:Bool)(w:World)(e:Ending)(w':World):Prop:=e=.returned (.agg (fl b0 b1 b2 b3 b4 b5))∧Below w.heap.size w w'
theorem Ur{f:Func}{R:Ending→World→Prop}{a:Act}{w:World}{B:Nat}{b0 b1 b2 b3 b4 b5:Bool}{q:Tmp}(hf:f.results=#[.cell q 140])(hb:eT w B 140 (fl b0 b1 b2 b3 b4 b5))
  (hR:R (.returned (.agg (fl b0 b1 b2 b3 b4 b5))) w) (h2:a.tmps[q]?=some (.pointer (some ⟨B,0,none⟩)):=by rfl)(hd:a.defers=[]:=by rfl):bodyPost prog f R Exit.ret a w:=
 bodyPost_ret (results_cell_row hf a.tmps w B _ _ (0,0) _ (by simp[h2]) hb underlying140 rfl wB) hd hR
theorem isF{k:Int}{b0 b1 b2 b3 b4 b5:Bool}{w:World}{e:Ending}{w':World}(h:Ju b0 b1 b2 b3 b4 b5 w e w')(e0:aI.f0 k=b0)(e1:aI.f1 k=b1)(e2:aI.f2 k=b2)(e3:aI.f3 k=b3)(e4:aI.f4 k=b4)(e5:aI.f5 k=b5):Ju (aI.f0 k) (aI.f1 k) (aI.f2 k) (aI.f3 k) (aI.f4 k) (aI.f5 k) w e w':=by
 rw[e0,e1,e2,e3,e4,e5];exact h
end
section
namespace aI
def cL(c:C):Int:=if 16<c.name.size∨64<c.key.size then 2 else 0
def nz:List Int→Int
 | []=>0
 | x::r=>if x≠0 then x else nz r
end aI
def IsN(b0 b1 b2 b3 b4 b5 ok:Bool)(w:World)(e:Ending)(w':World):Prop:=e=.returned (.tuple #[.agg (fl b0 b1 b2 b3 b4 b5),.bool ok])∧Below w.heap.size w w'
theorem Zq{f:Func}{R:Ending→World→Prop}{a:Act}{w:World}{B:Nat}{b0 b1 b2 b3 b4 b5:Bool}{u:Value}{k q:Tmp}(hf:f.results=#[.cell k 140,.tmp q])(h2:a.tmps[k]?=some (.pointer (some ⟨B,0,none⟩)))(h4:a.tmps[q]?=some u)(hd:a.defers=[])
  (hb:eT w B 140 (fl b0 b1 b2 b3 b4 b5)) (hR:R (.returned (.tuple #[.agg (fl b0 b1 b2 b3 b4 b5),u])) w):bodyPost prog f R Exit.ret a w:=by
 refine bodyPost_ret (v:=.tuple #[.agg (fl b0 b1 b2 b3 b4 b5),u]) ?_ hd hR;have h:=run_loadVar_row (P:=prog) w B _ _ _ (0,0) _ hb underlying140 rfl wB;simp[results,hf,asAddr,Sem.run_bind,h2,h4,h]
end
section
theorem rZ(v:Val.V):aI.nil v↔(v.k=0∧v.n=0∧v.f=0∧v.s.toList=[]):=by
 unfold aI.nil
 constructor
 ·rintro ⟨h1,h2,h3,h4⟩
  rw[aI.Ao h4];exact⟨h1,h2,h3,by rw[ByteArray.toList_eq];rfl⟩
 ·rintro ⟨h1,h2,h3,h4⟩
  refine⟨h1,h2,h3,?_⟩;rw[ByteArray.toList_eq] at h4;have:=congrArg List.length h4
  simpa using this
end
section
theorem adu{s:ByteArray}:s.size=0↔s.toList=[]:=by
 constructor
 ·intro h
  rw[aI.Ao h,ByteArray.toList_eq];rfl
 ·intro h
  rw[ByteArray.toList_eq] at h;have:=congrArg List.length h
  simpa using this
end
section
theorem Kr(s:ByteArray)(w:World):Calls prog 53 #[.string s] w (dw (decide (au.named s)) w):=by
 unfold dw;by_cases h:s.size=0
 ·have h1:s.toList=[]:=adu.1 h
  have hd:decide (au.named s)=false:=decide_eq_false fun g=>g.1 h
  rw[hd];clear hd h;go_enter func53,ntmps53;go_wp2_with fail;go_ret;exact⟨rfl,Below.refl _ _⟩
 ·have h1:¬s.toList=[]:=fun g=>h (adu.2 g)
  by_cases h2:s.size≤16
  ·have hd:decide (au.named s)=true:=decide_eq_true ⟨h,h2⟩
   exact ahk
  ·have hd:decide (au.named s)=false:=decide_eq_false fun g=>h2 g.2
   exact ahk
end
section
section
variable {b0:Nat}{w0 w:World}{L:List (Nat×TypeId×Array Value)}{R:List bV}{ops:Array Oper}{rest:List Oper}{o:Oper}{a:Act}{Q:Exit→Act→World→Prop}
theorem Ad(HK:Hid (Kn b0 w0 w L R))(hgd:o.guard=none)(ho:o.op=.alloc 140)
  (h:∀w' g,Hid (Kn b0 w0 w' (L++[(g,140,fl false false false false false false)]) R)→wpList prog ops Q rest (a.put o.dst (.pointer (some ⟨g,0,none⟩))) w'):wpList prog ops Q (o::rest) a w:=
 wpList_plain hgd fun K hK=>by
  have h4:=h _ w.heap.size (zH (HK.out.alloc _ _));unfold Oper.wp execOp;simp only[ho];unfold fl at h4;exact zV
theorem Ab(HK:Hid (Kn b0 w0 w L R))(i:Nat)(hgd:o.guard=none){p:Operand}{q:Operand}(ho:o.op=.store 140 p q){g:Nat}{x0 x1 x2 x3 x4 x5 y0 y1 y2 y3 y4 y5:Bool}(hL:L[i]?=some (g,140,fl x0 x1 x2 x3 x4 x5))(hx:a.eval p=.pointer (some ⟨g,0,none⟩))(hy:a.eval q=.agg (fl y0 y1 y2 y3 y4 y5))
  (h:∀w',Hid (Kn b0 w0 w' (L.set i (g,140,fl y0 y1 y2 y3 y4 y5)) R)→Hid (w'.heap.size=w.heap.size)→wpList prog ops Q rest (a.put o.dst undef) w'):wpList prog ops Q (o::rest) a w:=
 iL HK i hgd p q ho hL hx hy (by show 6≤6;decide) wB (h1:=(by simp[fl,Value.oneCell'])) fun w' h1 h2=>h w' (by
  have e:putCells (fl x0 x1 x2 x3 x4 x5) 0 (fl y0 y1 y2 y3 y4 y5).toList=fl y0 y1 y2 y3 y4 y5:=by
   exact acI
  rw[e] at h1
  exact h1) h2
end
def at6(b0 b1 b2 b3 b4 b5:Bool):Nat→Bool
 | 0=>b0
 | 1=>b1
 | 2=>b2
 | 3=>b3
 | 4=>b4
 | _=>b5
theorem Jp{b0 b1 b2 b3 b4 b5:Bool}{k:Nat}(h:k<6):(fl b0 b1 b2 b3 b4 b5)[k]?=some (.bool (at6 b0 b1 b2 b3 b4 b5 k)):=by
 match k,h with
 | 0,_|1,_|2,_|3,_|4,_|5,_=>rfl
end
section
theorem isH{k:Int}{b0 b1 b2 b3 b4 b5 ok:Bool}{w:World}{e:Ending}{w':World}(h:IsN b0 b1 b2 b3 b4 b5 ok w e w')(e0:au.h0 k=b0)(e1:au.h1 k=b1)(e2:au.h2 k=b2)(e3:au.h3 k=b3)(e4:au.h4 k=b4)(e5:au.h5 k=b5)(e6:au.is k=ok):
  IsN (au.h0 k) (au.h1 k) (au.h2 k) (au.h3 k) (au.h4 k) (au.h5 k) (au.is k) w e w':=by
 rw[e0,e1,e2,e3,e4,e5,e6];exact h
theorem LU(k:Int)(w:World):Calls prog 99 #[.int .i64 k] w (IsN (au.h0 k) (au.h1 k) (au.h2 k) (au.h3 k) (au.h4 k) (au.h5 k) (au.is k) w):=by
 have hk:k=1∨k=2∨k=3∨k=4∨k=5∨¬(1≤k∧k≤5):=by omega
 rcases hk with rfl|rfl|rfl|rfl|rfl|h
 case inr.inr.inr.inr.inr=>
  have n1:¬k=1:=by omega
  have n2:¬k=2:=by omega
  have n3:¬k=3:=by omega
  have n4:¬k=4:=by omega
  have n5:¬k=5:=by omega
  refine Calls.mono (R:=IsN false false false false false false false w) ?_ fun e w' hh=>isH hh (by unfold au.h0;simp[n2,n4]) (by unfold au.h1;simp[n1]) (by unfold au.h2;simp[n2]) (by unfold au.h3;simp[n3,n4]) (by unfold au.h4;simp[n4]) (by unfold au.h5;simp[n5]) (by unfold au.is;simp;omega)
  clear h;exact ahr
 all_goals
  exact ahr
theorem WO{w:World}{o:Oper}{a:Act}{x y:kC}{b:Bool}{p:Operand}{q:Operand}(ho:o.op=.binOp .neq 73 p q 73)(hx:a.eval p=.agg #[.int .i64 x.n,.int .u64 (x.s:Int),.int .u64 (x.l:Int),.int .u64 (x.m:Int)])(hy:a.eval q=.agg #[.int .i64 y.n,.int .u64 (y.s:Int),.int .u64 (y.l:Int),.int .u64 (y.m:Int)])(hb:(!decide (x=y))=b):
  (execOp a.eval o).run prog w=.ok (.value (.bool b)) w:=by
 rw[NI] at hb;subst hb;unfold execOp;simp only[ho,hx,hy];go_simp;by_cases h1:x.n=y.n<;>by_cases h2:(x.s:Int)=(y.s:Int)<;>by_cases h3:(x.l:Int)=(y.l:Int)<;>by_cases h4:(x.m:Int)=(y.m:Int)<;>simp[h1,h2,h3,h4]
theorem Gm(x:Oh)(w:World)(hx:In w x):Calls prog 100 #[.agg (cu x)] w (Ju (au.f0 x.v) (au.f1 x.v) (au.f2 x.v) (au.f3 x.v) (au.f4 x.v) (au.f5 x.v) w):=by
 have hp:=hx.p.len;have hv:=hx.v.len;have hr:=hx.r.len;unfold Ju au.f0 au.f1 au.f2 au.f3 au.f4 au.f5;rw[hp,hv,hr];clear hp hv hr hx;have HK:=uj w 75 (cu x) 140 (fl false false false false false false);go_enter func100,ntmps100;go_wp2_with fail;replace HK:=zH HK.out.drew;refine zR (HK.out.aB 1) fun ah=>?_
 refine ak 0 rfl ?_;refine ak 1 rfl ?_ fun _ s=>ow s 0
 refine ak 2 rfl ?_;refine ak 3 rfl ?_;refine ak 4 rfl ?_ fun _ s=>vX s 0
 refine ak 5 rfl ?_;refine ak 6 rfl ?_;refine ak 7 rfl ?_;refine ak 8 rfl ?_ fun _ s=>Bn s 0
 refine ak 9 rfl ?_;refine ak 10 rfl ?_;refine ak 11 rfl ?_;refine ak 12 rfl ?_ fun _ s=>kI s 0
 refine ak 13 rfl ?_;refine ak 14 rfl ?_;refine ak 15 rfl ?_;refine ak 16 rfl ?_ fun _ s=>Dw s 0
 refine ak 17 rfl ?_;refine ak 18 rfl ?_;refine ak 19 rfl ?_ fun _ s=>Dv s 0
 refine ak 20 rfl ?_;refine ak 21 rfl ?_ fun _ s=>WO (x:=x.v.mt) (y:=Mt.zero) (by rfl) (by rfl) (by rfl) (b:=!decide (x.v.mt=Mt.zero)) rfl
 refine ak 22 rfl ?_;refine aC 23 rfl fun K hK=>?_
 refine Ep HK 1 (by rfl) _ _ (by rfl) (by rfl) (by rfl) (by rfl) (by show 6≤6;decide) wB ?_;clear HK;intro _ HK _;simp only[lS] at HK;have hs:=zH (HK.out.aB 1);refine bk hK hs fun ah=>?_
 clear hK K;refine cB ?_;go_wp2_with fail;refine Ur (b0:=!decide (x.v.cap=0)) (b1:=decide (0<x.pn)) (b2:=decide (0<x.vn)) (b3:=decide (0<x.rn)) (b4:=!decide (x.v.round=0)) results100 ?_ ⟨rfl,HK.out.b⟩;have hb:=HK.out.blk 1 rfl;clear HK ah;simp[putCells,fl] at hb ⊢;exact hb
theorem Xk(o:au.Ob):au.clean o=true↔au.is o.kind=true∧∀j,j<6→¬(at6 (au.f0 o) (au.f1 o) (au.f2 o) (au.f3 o) (au.f4 o) (au.f5 o) j=true∧at6 (au.h0 o.kind) (au.h1 o.kind) (au.h2 o.kind) (au.h3 o.kind) (au.h4 o.kind) (au.h5 o.kind) j=false):=by
 unfold au.clean;generalize au.f0 o=b0;generalize au.f1 o=b1;generalize au.f2 o=b2;generalize au.f3 o=b3;generalize au.f4 o=b4;generalize au.f5 o=b5;generalize au.h0 o.kind=a0;generalize au.h1 o.kind=a1;generalize au.h2 o.kind=a2;generalize au.h3 o.kind=a3;generalize au.h4 o.kind=a4;generalize au.h5 o.kind=a5;have key:∀b a:Bool,(!b || a)=true↔¬(b=true∧a=false):=fun b a=>by cases b<;>cases a<;>simp
 simp only[Bool.and_eq_true,key]
 constructor
 ·rintro ⟨h,⟨⟨⟨⟨⟨g0,g1⟩,g2⟩,g3⟩,g4⟩,g5⟩⟩
  refine⟨h,fun j hj=>?_⟩
  match j,hj with
  | 0,_=>exact g0
  | 1,_=>exact g1
  | 2,_=>exact g2
  | 3,_=>exact g3
  | 4,_=>exact g4
  | 5,_=>exact g5
 ·rintro ⟨h,g⟩
  exact⟨h,⟨⟨⟨⟨⟨g 0 (by decide),g 1 (by decide)⟩,g 2 (by decide)⟩,g 3 (by decide)⟩,g 4 (by decide)⟩,g 5 (by decide)⟩⟩
theorem Ry(x:Oh)(w:World)(hx:In w x):Calls prog 54 #[.agg (cu x)] w (dw (au.clean x.v) w):=by
 have HN:=zH (fun W=>LU x.v.kind W);have HF:=zH (fun W (hW:Below w.heap.size w W)=>Gm x W (hx.later hW));have H0:=zH (Xk x.v);clear hx;unfold dw IsN Ju at *
 generalize au.clean x.v=z at *
 generalize au.h0 x.v.kind=a0 at *
 generalize au.h1 x.v.kind=a1 at *
 generalize au.h2 x.v.kind=a2 at *
 generalize au.h3 x.v.kind=a3 at *
 generalize au.h4 x.v.kind=a4 at *
 generalize au.h5 x.v.kind=a5 at *
 generalize au.is x.v.kind=ok at *
 generalize au.f0 x.v=b0 at *
 generalize au.f1 x.v=b1 at *
 generalize au.f2 x.v=b2 at *
 generalize au.f3 x.v=b3 at *
 generalize au.f4 x.v=b4 at *
 generalize au.f5 x.v=b5 at *
 have HK:=jw w 75 (cu x);go_enter func54,ntmps54;go_wp2_with refine zX (jM HK 0) ?_;refine cb (HN.out _) HK ?_;clear HK;intro _ HK;go_upto_region 2 with (first|(refine Ad HK rfl rfl ?_;clear HK;intro _ g3 HK;simp only[aS,aK] at HK)|(refine Ab HK 1 rfl rfl rfl rfl rfl ?_;clear HK;intro _ HK _;simp only[lS] at HK));go_wp2_with refine zX (lV HK 0) ?_;refine cb (HF.out _ HK.out.b) HK ?_;clear HK;intro _ HK;go_upto_region 3 with (first|(refine Ad HK rfl rfl ?_;clear HK;intro _ g4 HK;simp only[aS,aK] at HK)|(refine Ab HK 2 rfl rfl rfl rfl rfl ?_;clear HK;intro wz HK _;simp only[lS] at HK));have HG:Hid (∀j,j<6→wz.cell? ⟨g3,j,none⟩=some (.bool (at6 a0 a1 a2 a3 a4 a5 j))∧wz.cell? ⟨g4,j,none⟩=some (.bool (at6 b0 b1 b2 b3 b4 b5 j))):=zH fun j hj=>And.intro (HK.out.cell 1 rfl j (Jp hj)) (HK.out.cell 2 rfl j (Jp hj))
 have HKB:=zH HK.out.b;clear HK HN HF;generalize HA:at6 a0 a1 a2 a3 a4 a5=fa at *
 generalize HBf:at6 b0 b1 b2 b3 b4 b5=fb at *
 clear HA HBf;go_wp2_with fail;go_loopw [15] (fun vi wr=>∃k:Nat,k≤6∧vi=.int .i64 k∧wr=wz∧Hid (∀j,j<k→¬(fb j=true∧fa j=false))) (fun vi _=>6-(intOf vi).toNat)
 case atStart=>exact⟨0,Nat.zero_le _,rfl,rfl,zH fun j hj=>absurd hj (by omega)⟩
 case round=>
  obtain⟨q,hq,rfl,rfl,hh⟩:=hrel;by_cases hlt:q<6
  ·obtain⟨c1,c2⟩:=HG.out q hlt
   have hk1:(0:Int)≤(q:Int):=by omega
   have hk2:(q:Int)<6:=by omega
   have HS:Hid (¬(fb q=true∧fa q=false)→∀j,j<q+1→¬(fb j=true∧fa j=false)):=zH fun h j hj=>by
    by_cases e:j=q
    ·subst e;exact h
    ·exact hh.out j (by omega)
   have HX:Hid ((fb q=true∧fa q=false)→z=false):=zH fun h=>Bool.eq_false_iff.2 fun hz=>(H0.out.1 hz).2 q hlt h
   generalize fa q=xa at *
   generalize fb q=xb at *
   have hc:xb=false∨(xb=true∧xa=true)∨(xb=true∧xa=false):=by cases xa<;>cases xb<;>simp
   rcases hc with rfl|⟨rfl,rfl⟩|⟨rfl,rfl⟩
   ·go_wp2_with fail
    exact acw
   ·go_wp2_with fail
    exact acw
   ·go_wp2_with fail
    go_ret;have hz:=HX.out (by simp);subst hz;exact⟨rfl,HKB.out⟩
  ·obtain rfl:q=6:=by omega
   have hz:z=ok:=by
    cases ok
    ·exact Bool.eq_false_iff.2 fun hz=>by cases (H0.out.1 hz).1
    ·exact H0.out.2 ⟨rfl,hh.out⟩
   subst hz;go_wp2_with fail;go_ret;exact⟨rfl,HKB.out⟩
end
section
theorem UN(key:ByteArray)(v:Val.V)(w:World)(hf:v.f<18446744073709551616):
  Calls prog 141 #[.string key,vv v] w (iQ (aQ.jG key v) w):=by
 have HC:=zH (fun W=>tY v W hf);clear hf;unfold aQ.jG;obtain⟨k,n,f,s⟩:=v;unfold vv iQ at *
 simp only at HC ⊢;generalize Val.aX ⟨k,n,f,s⟩=z at *
 have HK:=jw w 26 (vC k n f s);unfold vC at HK;by_cases hk:k=0
 ·subst hk
  rw[if_pos rfl];go_enter func141,ntmps141;exact jq
 ·rw[if_neg hk]
  have hk2:(k==0)=false:=by simpa using hk
  by_cases hl:64<key.size
  ·rw[if_pos hl]
   have hl2:64<(key.size:Int):=by omega
   go_enter func141,ntmps141;exact jq
  ·rw[if_neg hl]
   have hl2:¬64<(key.size:Int):=by omega
   go_enter func141,ntmps141;go_wp2_with refine av (aZ HK 0) ?_;refine(HC.out _).mono ?_;rintro e w1 ⟨rfl,b1⟩;replace HK:=iH HK b1;exact jq
end
section
theorem gu{l:List aQ.Pr}{n:Nat}(hl:l.length=n)(hn:n≤8):(∀i,i<n→¬aQ.Good l i→decide (aQ.Right l)=false)∧((∀i,i<n→aQ.Good l i)→decide (aQ.Right l)=true):=by
 subst hl;exact⟨fun i hi hg=>decide_eq_false fun h=>hg (((aQ.kP l).1 h).2 i hi),fun h=>decide_eq_true ((aQ.kP l).2 ⟨hn,h⟩)⟩
theorem PZ(A:Option Addr)(c n:Nat)(l:List aQ.Pr)(w:World)(hs:Sl w A n c l):
  Calls prog 101 #[.slice A n c] w (dw (decide (aQ.Right l)) w):=by
 by_cases hn:8<n
 ·have hd:decide (aQ.Right l)=false:=decide_eq_false fun h=>by have:=h.len;rw[hs.len] at this;omega
  rw[hd];have hn2:8<(n:Int):=by omega
  clear hs hd;go_enter func101,ntmps101;exact Yy
 have HS:=zH hs;obtain⟨hno,hyes⟩:=gu hs.len (by omega:n≤8);have gX:=zH hno;have iK:=zH hyes
 have HG:Hid (∀k,k<n→∃x,l[k]?=some x∧x.val.f<18446744073709551616):=zH fun k hk=>by
  exact acR
 clear hs hno hyes;generalize decide (aQ.Right l)=r at *
 have hn2:¬8<(n:Int):=by omega
 have HK:=zH (Kn.start w);go_enter func101,ntmps101;go_wp2_with fail;go_loopw [10] (fun vi wr=>∃k:Nat,k≤n∧vi=.int .i64 k∧Hid (∀i,i<k→aQ.Good l i)∧Hid (Kn w.heap.size w wr [] [])) (fun vi _=>n-(intOf vi).toNat)
 case atStart=>exact⟨0,Nat.zero_le _,rfl,zH (fun i hi=>by omega),HK⟩
 case round=>
  clear HK;obtain⟨k,hk,rfl,kE,HK⟩:=hrel;by_cases hlt:k<n
  ·obtain⟨x,hx,hf⟩:=HG.out k hlt
   obtain⟨b,o,rfl,hat⟩:=HS.out.at (Nat.lt_of_le_of_lt (Nat.zero_le _) hlt);have HX:=zH (fun W hW=>hat W hW k x hx)
   have kK:Hid (∀j,k=j+1→∃y,l[j]?=some y∧∀W,Below w.heap.size w W→∀i v,(Yi y)[i]?=some v→W.cell? ⟨b,o+j*5+i,none⟩=some v):=zH fun j hj=>by
    exact acp
   have FQ:=zH (fun W=>UN x.key x.val W hf);have yx:Hid (aQ.Good l k↔(aQ.jG x.key x.val=0∧∀j y,k=j+1→l[j]?=some y→aQ.lt y.key x.key=true)):=zH ⟨fun h=>h x hx,fun h x' hx'=>by rw[hx] at hx';injection hx' with hx';subst hx';exact h⟩;clear hat hf hx;obtain⟨key,vk,vn,vf,vs⟩:=x;unfold vv iQ at FQ;simp only at FQ yx;generalize aQ.jG key ⟨vk,vn,vf,vs⟩=z at *
   have hk1:(0:Int)≤(k:Int):=by omega
   have hk2:(k:Int)<(n:Int):=by omega
   go_wp2_with (first|(refine av (v:=.agg (vS ⟨key,vk,vn,vf,vs⟩)) (mZ (off:=o+k*5) (HX.out _ HK.out.b)) ?_)|(refine Ac HK rfl rfl ?_;clear HK;intro _ g2 HK;simp only[aK] at HK)|(refine CF (p1:=⟨⟨#[]⟩,⟨0,0,0,⟨#[]⟩⟩⟩) HK 0 rfl rfl rfl rfl rfl ?_;clear HK;intro _ HK;simp only[lS] at HK));unfold vS at HK;simp only at HK;by_cases hz:z=0
   ·subst hz
    rcases Nat.eq_zero_or_pos k with rfl|hpos
    ·clear kK
     refine zR HK.out.drew fun ah=>?_
     refine ak 0 rfl ?_;refine ak 1 rfl ?_ fun _ s=>kR s 0
     refine ak 2 rfl ?_;refine ak 3 rfl ?_ fun _ s=>oz s 0
     refine aC 4 rfl fun K hK=>?_
     go_simp;go_at_call 141;refine(FQ.out _).mono ?_;rintro e w5 ⟨rfl,b5⟩;have hs:=zH (ah.out.call b5);clear b5;refine bk hK hs fun ah=>?_
     clear hK K;refine ak 5 rfl ?_;refine ak 6 rfl ?_;refine ak 7 rfl ?_;refine ak 8 rfl ?_;refine ak 9 rfl ?_;refine bq 10 rfl ?_;refine bq 11 rfl ?_;refine bq 12 rfl ?_;refine bq 13 rfl ?_;refine bq 14 rfl ?_;refine bq 15 rfl ?_;refine bq 16 rfl ?_;refine bq 17 rfl ?_;refine bq 18 rfl ?_;refine ak 19 rfl ?_;refine ak 20 rfl ?_;refine cB ?_;go_wp2_with fail
     exact⟨⟨1,by omega,by go_num,zH (fun i hi=>by
      obtain rfl:i=0:=by omega
      exact yx.out.2 ⟨rfl,fun j y h _=>by omega⟩),zH (ah.out.aB 0)⟩,by simp[intOf];omega⟩
    ·obtain⟨j,rfl⟩:∃j,k=j+1:=⟨k-1,by omega⟩
     clear hpos;obtain⟨y,hy,Od⟩:=kK.out j rfl;have HY:=zH Od;have HYl:=zH hy;clear hy Od kK;have hj:j<n:=by omega
     have hj2:j<9223372036854775807:=by omega
     have hj3:((j+1:Nat):Int) > 0:=by omega
     cases hlt2:aQ.lt y.key key with
     | true=>
      have hb:(!aQ.lt y.key key)=false:=by rw[hlt2];rfl
      refine zR HK.out.drew fun ah=>?_
      refine ak 0 rfl ?_;refine ak 1 rfl ?_ fun _ s=>kR s 0
      refine ak 2 rfl ?_;refine ak 3 rfl ?_ fun _ s=>oz s 0
      refine aC 4 rfl fun K hK=>?_
      go_simp;go_at_call 141;refine(FQ.out _).mono ?_;rintro e w5 ⟨rfl,b5⟩;have hs:=zH (ah.out.call b5);clear b5;refine bk hK hs fun ah=>?_
      clear hK K;refine ak 5 rfl ?_;refine ak 6 rfl ?_;refine ak 7 rfl ?_;refine ak 8 rfl ?_;refine ak 9 rfl ?_;refine ak 10 rfl ?_;refine ak 11 rfl ?_ fun _ s=>kR s 0
      refine ak 12 rfl ?_;refine ak 13 rfl ?_;refine ak 14 rfl ?_ fun _ s=>iO (j:=j) hj2
      refine ak 15 rfl ?_ fun _ s=>dK (i:=j) hj
      refine ak 16 rfl ?_;refine ak 17 rfl ?_ fun _ s=>eu (off:=o+j*5) (HY.out _ s.out.b)
      refine ak 18 rfl ?_ fun _ s=>wJ hb
      refine ak 19 rfl ?_;refine ak 20 rfl ?_;refine cB ?_;go_wp2_with fail
      exact⟨⟨j+2,by omega,by go_num,zH (fun i hi=>by
       by_cases hij:i=j+1
       ·subst hij
        exact aef
       ·exact kE.out i (by omega)),zH (ah.out.aB 0)⟩,by simp[intOf];omega⟩
     | false=>
      have hb:(!aQ.lt y.key key)=true:=by rw[hlt2];rfl
      have HR:Hid (r=false):=zH (gX.out _ hlt fun h=>by
       have:=(yx.out.1 h).2 j y rfl HYl.out
       rw[hlt2] at this;cases this)
      refine zR HK.out.drew fun ah=>?_
      refine ak 0 rfl ?_;refine ak 1 rfl ?_ fun _ s=>kR s 0
      refine ak 2 rfl ?_;refine ak 3 rfl ?_ fun _ s=>oz s 0
      refine aC 4 rfl fun K hK=>?_
      go_simp;go_at_call 141;refine(FQ.out _).mono ?_;rintro e w5 ⟨rfl,b5⟩;have hs:=zH (ah.out.call b5);clear b5;refine bk hK hs fun ah=>?_
      clear hK K;refine ak 5 rfl ?_;refine ak 6 rfl ?_;refine ak 7 rfl ?_;refine ak 8 rfl ?_;refine ak 9 rfl ?_;refine ak 10 rfl ?_;refine ak 11 rfl ?_ fun _ s=>kR s 0
      refine ak 12 rfl ?_;refine ak 13 rfl ?_;refine ak 14 rfl ?_ fun _ s=>iO (j:=j) hj2
      refine ak 15 rfl ?_ fun _ s=>dK (i:=j) hj
      refine ak 16 rfl ?_;refine ak 17 rfl ?_ fun _ s=>eu (off:=o+j*5) (HY.out _ s.out.b)
      refine ak 18 rfl ?_ fun _ s=>wJ hb
      refine ak 19 rfl ?_;refine ak 20 rfl ?_;exact FU
   ·have HR:Hid (r=false):=zH (gX.out k hlt fun h=>hz (yx.out.1 h).1)
    have hz2:(z != 0)=true:=by simpa using hz
    refine zR HK.out.drew fun ah=>?_
    refine ak 0 rfl ?_;refine ak 1 rfl ?_ fun _ s=>kR s 0
    refine ak 2 rfl ?_;refine ak 3 rfl ?_ fun _ s=>oz s 0
    refine aC 4 rfl fun K hK=>?_
    go_simp;go_at_call 141;refine(FQ.out _).mono ?_;rintro e w5 ⟨rfl,b5⟩;have hs:=zH (ah.out.call b5);clear b5;refine bk hK hs fun ah=>?_
    clear hK K;refine ak 5 rfl ?_;refine ak 6 rfl ?_;refine bq 7 rfl ?_;refine bq 8 rfl ?_;refine bq 9 rfl ?_;refine bq 10 rfl ?_;refine bq 11 rfl ?_;refine bq 12 rfl ?_;refine bq 13 rfl ?_;refine bq 14 rfl ?_;refine bq 15 rfl ?_;refine bq 16 rfl ?_;refine bq 17 rfl ?_;refine bq 18 rfl ?_;refine bq 19 rfl ?_;refine ak 20 rfl ?_;exact FU
  ·obtain rfl:k=n:=by omega
   have HR:Hid (r=true):=zH (iK.out kE.out);exact qZ
end
section
theorem Tc(v:Val.V)(w:World)(hf:vF v):
  Calls prog 142 #[vv v] w (iQ (fG.jT v) w):=by
 have HC:=zH (fun W=>tY v W hf);clear hf;unfold fG.jT;obtain⟨k,n,f,s⟩:=v;unfold vv iQ at *
 simp only at HC ⊢;generalize Val.aX ⟨k,n,f,s⟩=z at *
 have HK:=jw w 26 (vC k n f s);unfold vC at HK;by_cases hk:k=0
 ·subst hk
  rw[if_pos rfl];go_enter func142,ntmps142;exact jq
 ·rw[if_neg hk]
  have hk2:(k==0)=false:=by simpa using hk
  go_enter func142,ntmps142;go_wp2_with refine av (aZ HK 0) ?_;refine(HC.out _).mono ?_;rintro e w1 ⟨rfl,b1⟩;replace HK:=iH HK b1;exact jq
theorem KV(N:Int)(A:Option Addr)(c n:Nat)(l:List Val.V)(w:World)(hs:bT bG vF w A n c l):
  Calls prog 102 #[.int .i64 N,.slice A n c] w (dw (decide (fG.Right N l)) w):=by
 have HK:=zH (Kn.start w);by_cases h1:N<1
 ·have hd:decide (fG.Right N l)=false:=decide_eq_false fun h=>by have:=h.lo;omega
  rw[hd];clear hs hd;go_enter func102,ntmps102;exact jq
 by_cases h2:8<N
 ·have hd:decide (fG.Right N l)=false:=decide_eq_false fun h=>by have:=h.hi;omega
  rw[hd];clear hs hd;go_enter func102,ntmps102;exact jq
 by_cases h3:N<(n:Int)
 ·have hd:decide (fG.Right N l)=false:=decide_eq_false fun h=>by have:=h.len;rw[hs.len] at this;omega
  rw[hd];clear hs hd;go_enter func102,ntmps102;exact jq
 obtain⟨hno,hyes⟩:=fG.gu (n:=N) (l:=l) hs.len (by omega) (by omega) (by omega);have gX:=zH hno;have iK:=zH hyes;have HS:=zH hs;have hn9:n<9:=by omega
 clear hs hno hyes;generalize decide (fG.Right N l)=r at *
 go_enter func102,ntmps102;go_wp2_with fail;go_loopw [21] (fun vi wr=>∃k:Nat,k≤n∧vi=.int .i64 k∧Hid (∀(i:Nat) v,i<k→l[i]?=some v→fG.jT v=0)∧Hid (Kn w.heap.size w wr [] [])) (fun vi _=>n-(intOf vi).toNat)
 case atStart=>exact⟨0,Nat.zero_le _,rfl,zH (fun i v hi=>by omega),HK⟩
 case round=>
  clear HK;obtain⟨k,hk,rfl,kE,HK⟩:=hrel;have hk1:(0:Int)≤(k:Int):=by omega
  by_cases hlt:k<n
  ·have hk2:(k:Int)<(n:Int):=by omega
   have hk3:k<9223372036854775807:=by omega
   obtain⟨x,hx,hf⟩:=HS.out.get hlt;obtain⟨b,o,rfl,hat⟩:=HS.out.at (Nat.lt_of_le_of_lt (Nat.zero_le _) hlt);have HX:=zH (fun W hW=>hat W hW k x hx);have HV:=zH (fun W=>Tc x W hf);have HN:=zH (gX.out k x hx)
   have nU:Hid (fG.jT x=0→∀(i:Nat) v,i<k+1→l[i]?=some v→fG.jT v=0):=zH fun h i v hi hv=>by
    by_cases hik:i=k
    ·subst hik;rw[hx] at hv;injection hv with hv;subst hv;exact h
    ·exact kE.out i v (by omega) hv
   clear hat hx hf;obtain⟨vk,vn,vf,vs⟩:=x;unfold vv iQ at HV;simp only at HV;generalize fG.jT ⟨vk,vn,vf,vs⟩=z at *
   go_wp2_with (first|refine av (BL (off:=o+k*4) (HX.out _ HK.out.b)) ?_|(refine aL HK ?_;clear HK;intro _ g2 HK;simp only[aS,aK] at HK)|(refine aH (f2:=vf) HK 0 ?_;clear HK;intro _ HK;simp only[lS] at HK)|refine av (aZ HK 0) ?_);refine cb (HV.out _) HK ?_;clear HK;intro _ HK;by_cases hz:z=0
   ·subst hz
    replace nU:=zH (nU.out rfl);go_wp2_with refine av (aR (j:=k) hk3) ?_;exact adT
   ·have hz2:(z != 0)=true:=by simpa using hz
    have HR:=zH (HN.out hz);exact qZ
  ·obtain rfl:k=n:=by omega
   have HR:Hid (r=true):=zH (iK.out kE.out);exact qZ
end
section
theorem OH(x:Rf)(w:World):Calls prog 58 #[.agg #[.int .i64 x.c,.int .i64 x.e,.int .i64 x.r]] w (dw (decide (aY.ok x)) w):=by
 have HE:Hid (∀q:Bool,(q=true↔(0≤x.c∧x.c<5∧1≤x.e∧0≤x.r))→q=decide (aY.ok x)):=zH fun q hq=>by
  exact Yz
 generalize decide (aY.ok x)=r at *
 obtain⟨c,ep,rq⟩:=x;simp only at HE ⊢;have HK:=jw w 44 #[.int .i64 c,.int .i64 ep,.int .i64 rq];go_enter func58,ntmps58;go_wp2_with fail
 all_goals
  go_ret;refine⟨congrArg (fun b=>Ending.returned (.bool b)) (HE.out _ ?_),HK.out.b⟩;clear HE HK
  simp_all<;>omega
theorem fM(x:Rf)(w:World):Calls prog 41 #[.agg #[.int .i64 x.c,.int .i64 x.e,.int .i64 x.r]] w (dw (decide (aY.ok x)) w):=by
 have HE:Hid (∀q:Bool,(q=true↔(0≤x.c∧x.c<5∧1≤x.e∧0≤x.r))→q=decide (aY.ok x)):=zH fun q hq=>by
  exact Yz
 generalize decide (aY.ok x)=r at *
 obtain⟨c,ep,rq⟩:=x;simp only at HE ⊢;have HK:=jw w 44 #[.int .i64 c,.int .i64 ep,.int .i64 rq];go_enter func41,ntmps41;go_wp2_with fail
 all_goals
  go_ret;refine⟨congrArg (fun b=>Ending.returned (.bool b)) (HE.out _ ?_),HK.out.b⟩;clear HE HK
  simp_all<;>omega
end
section
theorem RH(A:Option Addr)(c n:Nat)(l:List Rf)(q:Int)(w:World)(hs:bT aN rF w A n c l):
  Calls prog 143 #[.slice A n c,.int .i64 q] w (dw (aY.asked l q) w):=by
 obtain⟨hyes,hno⟩:=aY.jJ hs.len q;have iK:=zH hyes;have gX:=zH hno;have HS:=zH hs;have HK:=zH (Kn.start w)
 have hn63:n<9223372036854775807:=by
  exact MX
 clear hs hyes hno;generalize aY.asked l q=r at *
 go_enter func143,ntmps143;go_wp2_with fail;go_loopw [9] (fun vi wr=>∃k:Nat,k≤n∧vi=.int .i64 k∧Hid (∀(i:Nat) x,i<k→l[i]?=some x→¬x.c=q)∧Hid (Kn w.heap.size w wr [] [])) (fun vi _=>n-(intOf vi).toNat)
 case atStart=>exact⟨0,Nat.zero_le _,rfl,zH (fun i v hi=>by omega),HK⟩
 case round=>
  clear HK;obtain⟨k,hk,rfl,kE,HK⟩:=hrel;have hk1:(0:Int)≤(k:Int):=by omega
  by_cases hlt:k<n
  ·have hk2:(k:Int)<(n:Int):=by omega
   have hk3:k<9223372036854775807:=by omega
   obtain⟨x,hx,_⟩:=HS.out.get hlt;obtain⟨b,o,rfl,hat⟩:=HS.out.at (Nat.lt_of_le_of_lt (Nat.zero_le _) hlt);have HX:=zH (fun W hW=>hat W hW k x hx);have HY:=zH (iK.out k x hx)
   have nU:Hid (¬x.c=q→∀(i:Nat) v,i<k+1→l[i]?=some v→¬v.c=q):=zH fun h i v hi hv=>by
    by_cases hik:i=k
    ·subst hik;rw[hx] at hv;injection hv with hv;subst hv;exact h
    ·exact kE.out i v (by omega) hv
   clear hat hx;by_cases he:x.c=q
   ·have HR:=zH (HY.out he)
    have he2:(x.c==q)=true:=by simpa using he
    clear he nU HY;go_wp2_with (first|refine zX (cZ (x:=x) (off:=o+k*3) (HX.out _ HK.out.b)) ?_|(refine bR HK ?_;clear HK;intro _ g2 HK;simp only[aS,aK] at HK)|(refine bW HK 0 ?_;clear HK;intro _ HK;simp only[lS] at HK)|refine zX (jN HK 0) ?_);go_ret;exact⟨by rw[HR.out]<;>rfl,HK.out.b⟩
   ·have he2:(x.c==q)=false:=by simpa using he
    replace nU:=zH (nU.out he);clear he HY;go_wp2_with (first|refine zX (cZ (x:=x) (off:=o+k*3) (HX.out _ HK.out.b)) ?_|(refine bR HK ?_;clear HK;intro _ g2 HK;simp only[aS,aK] at HK)|(refine bW HK 0 ?_;clear HK;intro _ HK;simp only[lS] at HK)|refine zX (jN HK 0) ?_|refine zX (aR (j:=k) hk3) ?_);exact adT
  ·obtain rfl:k=n:=by omega
   have HR:=zH (gX.out kE.out);exact qZ
end
section
theorem Bd(A:Option Addr)(c n:Nat)(l:List Rf)(w:World)(hs:bT aN rF w A n c l):
  Calls prog 103 #[.slice A n c] w (dw (decide (aY.Right l)) w):=by
 obtain⟨hno,hyes⟩:=aY.gu hs.len;have gX:=zH hno;have iK:=zH hyes;have HS:=zH hs;have HC:=zH (fun x W=>OH x W);have HAs:=zH (fun W A c n l q (h:bT aN rF W A n c l)=>RH A c n l q W h);have HK:=zH (Kn.start w)
 have hn63:n<9223372036854775807:=by
  exact MX
 have hnc:n≤c:=hs.cap;clear hs hyes hno;unfold dw at *
 generalize decide (aY.Right l)=r at *
 go_enter func103,ntmps103;go_wp2_with fail;go_loopw [7] (fun vi wr=>∃k:Nat,k≤n∧vi=.int .i64 k∧Hid (∀(i:Nat) x,i<k→l[i]?=some x→aY.ok x∧aY.asked (l.take i) x.c=false)∧Hid (Kn w.heap.size w wr [] [])) (fun vi _=>n-(intOf vi).toNat)
 case atStart=>exact⟨0,Nat.zero_le _,rfl,zH (fun i v hi=>by omega),HK⟩
 case round=>
  clear HK;obtain⟨k,hk,rfl,kE,HK⟩:=hrel;have hk1:(0:Int)≤(k:Int):=by omega
  by_cases hlt:k<n
  ·have hk2:(k:Int)<(n:Int):=by omega
   have hk3:k<9223372036854775807:=by omega
   have hkc:k≤c:=by omega
   obtain⟨x,hx,_⟩:=HS.out.get hlt;have HP:=zH (fun W (hW:Below w.heap.size w W)=>HAs.out W A c k (l.take k) x.c ((HS.out.later hW).take hk));obtain⟨b,o,rfl,hat⟩:=HS.out.at (Nat.lt_of_le_of_lt (Nat.zero_le _) hlt);have HX:=zH (fun W hW=>hat W hW k x hx);have HN:=zH (gX.out k x hlt hx)
   have nU:Hid (aY.ok x∧aY.asked (l.take k) x.c=false→∀(i:Nat) v,i<k+1→l[i]?=some v→aY.ok v∧aY.asked (l.take i) v.c=false):=zH fun h i v hi hv=>by
    by_cases hik:i=k
    ·subst hik;rw[hx] at hv;injection hv with hv;subst hv;exact h
    ·exact kE.out i v (by omega) hv
   clear hat hx gX HAs;have Yu:=zH (fun W=>HC.out x W);clear HC;by_cases hok:aY.ok x
   case neg=>
    have HR:=zH (HN.out (fun h=>hok h.1));rw[decide_eq_false hok] at Yu;clear hok HN nU HP;go_wp2_with (first|refine zX (cZ (x:=x) (off:=o+k*3) (HX.out _ HK.out.b)) ?_|(refine bR HK ?_;clear HK;intro _ g2 HK;simp only[aS,aK] at HK)|(refine bW HK 0 ?_;clear HK;intro _ HK;simp only[lS] at HK));refine zR HK.out.drew fun ah=>?_
    refine ak 0 rfl ?_ fun _ s=>aP s 0
    refine aC 1 rfl fun K hK=>?_
    go_simp;go_at_call 58;refine(Yu.out _).mono ?_;rintro e w5 ⟨rfl,b5⟩;have hs:=zH (ah.out.call b5);clear b5;refine bk hK hs fun ah=>?_
    clear hK K;refine ak 2 rfl ?_;refine ak 3 rfl ?_;refine bq 4 rfl ?_;refine bq 5 rfl ?_;refine bq 6 rfl ?_;refine bq 7 rfl ?_;refine bq 8 rfl ?_;refine bq 9 rfl ?_;refine ak 10 rfl ?_;exact FU
   case pos=>
   rw[decide_eq_true hok] at Yu;by_cases has:aY.asked (l.take k) x.c=true
   ·have HR:=zH (HN.out (fun h=>by rw[has] at h;cases h.2))
    rw[has] at HP;clear hok HN nU has;go_wp2_with (first|refine zX (cZ (x:=x) (off:=o+k*3) (HX.out _ HK.out.b)) ?_|(refine bR HK ?_;clear HK;intro _ g2 HK;simp only[aS,aK] at HK)|(refine bW HK 0 ?_;clear HK;intro _ HK;simp only[lS] at HK));refine zR HK.out.drew fun ah=>?_
    refine ak 0 rfl ?_ fun _ s=>aP s 0
    refine aC 1 rfl fun K hK=>?_
    go_simp;go_at_call 58;refine(Yu.out _).mono ?_;rintro e w5 ⟨rfl,b5⟩;have hs:=zH (ah.out.call b5);clear b5;refine bk hK hs fun ah=>?_
    clear hK K;refine ak 2 rfl ?_;refine ak 3 rfl ?_;refine ak 4 rfl ?_;refine ak 5 rfl ?_;refine ak 6 rfl ?_ fun _ s=>BI (hi:=k) hkc
    refine ak 7 rfl ?_;refine ak 8 rfl ?_ fun _ s=>jN s 0
    refine aC 9 rfl fun K hK=>?_
    go_simp;go_at_call 143;refine(HP.out _ ah.out.b).mono ?_;rintro e w5 ⟨rfl,b5⟩;have hs:=zH (ah.out.call b5);clear b5;refine bk hK hs fun ah=>?_
    clear hK K;refine ak 10 rfl ?_;exact FU
   ·have afT:aY.asked (l.take k) x.c=false:=Bool.eq_false_iff.2 has
    replace nU:=zH (nU.out ⟨hok,afT⟩);rw[afT] at HP;clear hok HN has afT;go_wp2_with (first|refine zX (cZ (x:=x) (off:=o+k*3) (HX.out _ HK.out.b)) ?_|(refine bR HK ?_;clear HK;intro _ g2 HK;simp only[aS,aK] at HK)|(refine bW HK 0 ?_;clear HK;intro _ HK;simp only[lS] at HK));refine zR HK.out.drew fun ah=>?_
    refine ak 0 rfl ?_ fun _ s=>aP s 0
    refine aC 1 rfl fun K hK=>?_
    go_simp;go_at_call 58;refine(Yu.out _).mono ?_;rintro e w5 ⟨rfl,b5⟩;have hs:=zH (ah.out.call b5);clear b5;refine bk hK hs fun ah=>?_
    clear hK K;refine ak 2 rfl ?_;refine ak 3 rfl ?_;refine ak 4 rfl ?_;refine ak 5 rfl ?_;refine ak 6 rfl ?_ fun _ s=>BI (hi:=k) hkc
    refine ak 7 rfl ?_;refine ak 8 rfl ?_ fun _ s=>jN s 0
    refine aC 9 rfl fun K hK=>?_
    go_simp;go_at_call 143;refine(HP.out _ ah.out.b).mono ?_;rintro e w5 ⟨rfl,b5⟩;have hs:=zH (ah.out.call b5);clear b5;refine bk hK hs fun ah=>?_
    clear hK K;refine ak 10 rfl ?_;refine cB ?_;replace HK:=ah;clear ah;go_wp2_with refine zX (aR (j:=k) hk3) ?_;exact adT
  ·obtain rfl:k=n:=by omega
   have HR:=zH (iK.out kE.out);exact qZ
theorem kY(A:Option Addr)(c n:Nat)(l:List Rf)(w:World)(hs:bT aN rF w A n c l):
  Calls prog 124 #[.slice A n c] w (dw (decide (aY.Right l)) w):=by
 obtain⟨hno,hyes⟩:=aY.gu hs.len;have gX:=zH hno;have iK:=zH hyes;have HS:=zH hs;have HC:=zH (fun x W=>fM x W);have HK:=zH (Kn.start w)
 have hn63:n<9223372036854775807:=by
  exact MX
 have HLen:=zH hs.len;clear hs hyes hno;unfold dw at *
 generalize decide (aY.Right l)=r at *
 go_enter func124,ntmps124;go_wp2_with fail;go_loopw [3] (fun vi wr=>∃k:Nat,k≤n∧vi=.int .i64 k∧Hid (∀(i:Nat) x,i<k→l[i]?=some x→aY.ok x∧aY.asked (l.take i) x.c=false)∧Hid (Kn w.heap.size w wr [] [])) (fun vi _=>n-(intOf vi).toNat)
 case atStart=>exact⟨0,Nat.zero_le _,rfl,zH (fun i v hi=>by omega),HK⟩
 case round=>
  clear HK;obtain⟨k,hk,rfl,kE,HK⟩:=hrel;have hk1:(0:Int)≤(k:Int):=by omega
  by_cases hlt:k<n
  ·have hk2:(k:Int)<(n:Int):=by omega
   have hk3:k<9223372036854775807:=by omega
   obtain⟨x,hx,_⟩:=HS.out.get hlt;obtain⟨b,o,rfl,hat⟩:=HS.out.at (Nat.lt_of_le_of_lt (Nat.zero_le _) hlt);have HX:=zH (fun W hW=>hat W hW k x hx);have HN:=zH (gX.out k x hlt hx)
   have nU:Hid (aY.ok x∧aY.asked (l.take k) x.c=false→∀(i:Nat) v,i<k+1→l[i]?=some v→aY.ok v∧aY.asked (l.take i) v.c=false):=zH fun h i v hi hv=>by
    by_cases hik:i=k
    ·subst hik;rw[hx] at hv;injection hv with hv;subst hv;exact h
    ·exact kE.out i v (by omega) hv
   have Yu:=zH (fun W=>HC.out x W)
   have HY:Hid (∀j,j<k→∃y,l[j]?=some y∧(∀W,Below w.heap.size w W→∀(i:Nat) v,(Zp y)[i]?=some v→W.cell? ⟨b,o+j*3+i,none⟩=some v)):=zH fun j hj=>by
    obtain⟨y,hy⟩:=Lay.dW (l:=l) (k:=j) (by rw[HLen.out];omega);exact⟨y,hy,fun W hW=>hat W hW j y hy⟩
   have HTd:=zH (aY.jJ (l:=l.take k) (n:=k) (by rw[List.length_take,HLen.out];omega) x.c);clear hat hx gX HC;by_cases hok:aY.ok x
   case neg=>
    have HR:=zH (HN.out (fun h=>hok h.1));rw[decide_eq_false hok] at Yu;clear hok HN nU HTd;go_wp2_with refine zX (cZ (x:=x) (off:=o+k*3) (HX.out _ HK.out.b)) ?_;refine cb (Yu.out _) HK ?_;clear HK;intro _ HK;exact qZ
   case pos=>
   rw[decide_eq_true hok] at Yu;have jr:=zH hok;clear hok;go_wp2_with refine zX (cZ (x:=x) (off:=o+k*3) (HX.out _ HK.out.b)) ?_;refine cb (Yu.out _) HK ?_;clear HK;intro _ HK;go_wp2_with fail;go_loopw [4] (fun vj wr=>∃j:Nat,j≤k∧vj=.int .i64 j∧Hid (∀(i:Nat) y,i<j→(l.take k)[i]?=some y→¬y.c=x.c)∧Hid (Kn w.heap.size w wr [] [])) (fun vj _=>k-(intOf vj).toNat)
   case atStart=>exact⟨0,Nat.zero_le _,rfl,zH (fun i v hi=>by omega),HK⟩
   case round=>
    clear HK;obtain⟨j,hj,rfl,HAl,HK⟩:=hrel;have hj1:(0:Int)≤(j:Int):=by omega
    by_cases hjk:j<k
    ·have hj2:(j:Int)<(k:Int):=by omega
     have hj3:j<9223372036854775807:=by omega
     have hjn:j<n:=by omega
     obtain⟨y,hy,Od⟩:=HY.out j hjk;have HYc:=zH Od;have hyt:(l.take k)[j]?=some y:=by rw[List.getElem?_take,if_pos hjk,hy]
     have HAk:Hid (¬y.c=x.c→∀(i:Nat) v,i<j+1→(l.take k)[i]?=some v→¬v.c=x.c):=zH fun h i v hi hv=>by
      by_cases hij:i=j
      ·subst hij;rw[hyt] at hv;injection hv with hv;subst hv;exact h
      ·exact HAl.out i v (by omega) hv
     have XW:=zH (HTd.out.1 j y hyt);clear hy Od hyt;go_wp2_with fail;by_cases he:y.c=x.c
     ·have hb:(y.c==x.c)=true:=by simpa using he
      have HR:=zH (HN.out (fun h=>by rw[XW.out he] at h;cases h.2));clear he HAk XW HTd HN;refine zR HK.out.drew fun ah=>?_
      refine ak 0 rfl ?_;refine ak 1 rfl ?_;refine ak 2 rfl ?_ fun _ s=>dA (i:=j) hjn
      refine ak 3 rfl ?_;refine ak 4 rfl ?_ fun _ s=>mY (x:=y) (off:=o+j*3) (HYc.out _ s.out.b)
      refine ak 5 rfl ?_;refine ak 6 rfl ?_;refine ak 7 rfl ?_ fun _ s=>dA (i:=k) hlt
      refine ak 8 rfl ?_;refine ak 9 rfl ?_ fun _ s=>mY (x:=x) (off:=o+k*3) (HX.out _ s.out.b)
      refine ak 10 rfl ?_;exact FU
     ·have hb:(y.c==x.c)=false:=by simpa using he
      replace HAk:=zH (HAk.out he);clear he XW HTd HN;refine zR HK.out.drew fun ah=>?_
      refine ak 0 rfl ?_;refine ak 1 rfl ?_;refine ak 2 rfl ?_ fun _ s=>dA (i:=j) hjn
      refine ak 3 rfl ?_;refine ak 4 rfl ?_ fun _ s=>mY (x:=y) (off:=o+j*3) (HYc.out _ s.out.b)
      refine ak 5 rfl ?_;refine ak 6 rfl ?_;refine ak 7 rfl ?_ fun _ s=>dA (i:=k) hlt
      refine ak 8 rfl ?_;refine ak 9 rfl ?_ fun _ s=>mY (x:=x) (off:=o+k*3) (HX.out _ s.out.b)
      refine ak 10 rfl ?_;refine cB ?_;go_wp2_with refine zX (aR (j:=j) hj3) ?_;exact⟨⟨j+1,hjk,rfl,HAk,ah⟩,by simp[intOf];omega⟩
    ·obtain rfl:j=k:=by omega
     replace nU:=zH (nU.out ⟨jr.out,HTd.out.2 HAl.out⟩);clear HTd HAl HN;go_wp2_with refine zX (aR (j:=j) hk3) ?_;exact⟨⟨j+1,hlt,rfl,nU,HK⟩,by simp[intOf];omega⟩
  ·obtain rfl:k=n:=by omega
   have HR:=zH (iK.out kE.out);exact qZ
end
section
theorem LZ(m:Int)(A:Option Addr)(c n:Nat)(l:List Rf)(w:World)(hs:bT aN rF w A n c l):
  Calls prog 104 #[.int .i64 m,.slice A n c] w (dw (decide (Gt.Right m l)) w):=by
 have HM:=zH (fun W (hW:Below w.heap.size w W)=>Bd A c n l W (hs.later hW));have HK:=zH (Kn.start w);have hlen:=hs.len;unfold dw at *
 by_cases h1:1≤m
 case neg=>
  rw[decide_eq_false (fun h=>h1 h.1)];clear hs hlen HM;go_enter func104,ntmps104;exact jq
 by_cases h2:m≤5
 case neg=>
  rw[decide_eq_false (fun h=>h2 h.2.1)];clear hs hlen HM;go_enter func104,ntmps104;exact jq
 by_cases h3:(n:Int)<m
 case neg=>
  rw[decide_eq_false (fun h=>h3 (by rw[← hlen];exact h.2.2.1))];clear hs hlen HM;go_enter func104,ntmps104;exact jq
 have he:decide (Gt.Right m l)=decide (aY.Right l):=decide_eq_decide.2 ⟨fun h=>h.2.2.2,fun h=>⟨h1,h2,by rw[hlen];exact h3,h⟩⟩;rw[he];clear hs hlen he;generalize decide (aY.Right l)=b at *
 go_enter func104,ntmps104;exact ahe
theorem rQ(m:Int)(A:Option Addr)(c n:Nat)(l:List Rf)(w:World)(hs:bT aN rF w A n c l):
  Calls prog 125 #[.int .i64 m,.slice A n c] w (dw (decide (Gt.Right m l)) w):=by
 have HM:=zH (fun W (hW:Below w.heap.size w W)=>kY A c n l W (hs.later hW));have HK:=zH (Kn.start w);have hlen:=hs.len;unfold dw at *
 by_cases h1:1≤m
 case neg=>
  rw[decide_eq_false (fun h=>h1 h.1)];clear hs hlen HM;go_enter func125,ntmps125;exact jq
 by_cases h2:m≤5
 case neg=>
  rw[decide_eq_false (fun h=>h2 h.2.1)];clear hs hlen HM;go_enter func125,ntmps125;exact jq
 by_cases h3:(n:Int)<m
 case neg=>
  rw[decide_eq_false (fun h=>h3 (by rw[← hlen];exact h.2.2.1))];clear hs hlen HM;go_enter func125,ntmps125;exact jq
 have he:decide (Gt.Right m l)=decide (aY.Right l):=decide_eq_decide.2 ⟨fun h=>h.2.2.2,fun h=>⟨h1,h2,by rw[hlen];exact h3,h⟩⟩;rw[he];clear hs hlen he;generalize decide (aY.Right l)=b at *
 go_enter func125,ntmps125;exact ahe
end
section
theorem Lx(x:kC)(hf:Mt.Fit x)(w:World):
  Calls prog 105 #[.agg #[.int .i64 x.n,.int .u64 (x.s:Int),.int .u64 (x.l:Int),.int .u64 (x.m:Int)]] w (dw (decide (Mt.Ok x)) w):=by
 obtain⟨n,s,l,m⟩:=x;obtain⟨_,f1,f2,f3⟩:=hf;dsimp only at f1 f2 f3;have H1:=zH (fun w=>mW s w f1);have H2:=zH (fun w=>mW l w f2);have H3:=zH (fun w=>mW m w f3);have H4:=zH (fun w=>abx l m w f2 f3);have HT:=zH (fun w=>YR n s l m w);have HK:=jw w 73 (mC n s l m);unfold dw;by_cases hn:0<n
 case neg=>
  have HE:Hid (decide ((⟨n,s,l,m⟩:kC)=⟨0,0,0,0⟩)=decide (Mt.Ok ⟨n,s,l,m⟩)):=zH (Mt.ok_none hn);generalize decide (Mt.Ok ⟨n,s,l,m⟩)=b at *
  go_enter func105,ntmps105;go_wp2_with (first|refine zX (cO HK 0) ?_|refine zX (II (x:=⟨n,s,l,m⟩) (y:=⟨0,0,0,0⟩) HE.out) ?_);exact nu
 case pos=>
 clear f1 f2 f3;by_cases hs:Num.M s=s
 case neg=>
  have hok:decide (Mt.Ok ⟨n,s,l,m⟩)=false:=decide_eq_false (Mt.ald hn hs);rw[hok];have hne:((Num.M s:Int) != (s:Int))=true:=by rw[bne_iff_ne];omega
  clear hok hs;generalize Num.M s=t at *
  go_enter func105,ntmps105;go_wp2_with refine zX (cO HK 0) ?_;refine cb (HT.out _) HK ?_;clear HK;intro _ HK;go_wp2_with (first|(refine pW HK ?_;clear HK;intro _ g3 HK;simp only[aS,aK] at HK)|(refine tH HK 1 ?_;clear HK;intro _ HK;simp only[lS] at HK));refine wp_loop_rounds 4 ?_;rw[rounds_succ];go_wp2_with (first|refine zX (vZ HK 1) ?_|(refine aL HK ?_;clear HK;intro _ g5 HK;simp only[aS,aK] at HK)|(refine aH (f2:=s) HK 2 ?_;clear HK;intro _ HK;simp only[lS] at HK));refine zR HK.out.drew fun ah=>?_
  refine ak 0 rfl ?_;refine ak 1 rfl ?_ fun _ s=>dX s 2
  refine ak 3 rfl ?_;refine ak 4 rfl ?_ fun _ s=>dX s 2
  refine aC 2 rfl fun K hK=>?_
  go_simp;go_at_call 145;refine(H1.out _).mono ?_;rintro e w5 ⟨rfl,rfl⟩;have hs:=ah;refine bk hK hs fun ah=>?_
  clear hK K;refine ak 5 rfl ?_;refine cB ?_;replace HK:=zH (ah.out.aB 2);clear ah;simp only[List.take] at HK;exact jq
 case pos=>
 rw[hs] at H1;by_cases hl:Num.M l=l
 case neg=>
  have hok:decide (Mt.Ok ⟨n,s,l,m⟩)=false:=decide_eq_false (Mt.alf hn hl);rw[hok];have hne:((Num.M l:Int) != (l:Int))=true:=by rw[bne_iff_ne];omega
  clear hok hl;generalize Num.M l=t at *
  go_enter func105,ntmps105;go_wp2_with refine zX (cO HK 0) ?_;refine cb (HT.out _) HK ?_;clear HK;intro _ HK;go_wp2_with (first|(refine pW HK ?_;clear HK;intro _ g3 HK;simp only[aS,aK] at HK)|(refine tH HK 1 ?_;clear HK;intro _ HK;simp only[lS] at HK));refine wp_loop_rounds 4 ?_;rw[rounds_succ];go_wp2_with (first|refine zX (vZ HK 1) ?_|(refine aL HK ?_;clear HK;intro _ g5 HK;simp only[aS,aK] at HK)|(refine aH (f2:=s) HK 2 ?_;clear HK;intro _ HK;simp only[lS] at HK));refine zR HK.out.drew fun ah=>?_
  refine ak 0 rfl ?_;refine ak 1 rfl ?_ fun _ s=>dX s 2
  refine ak 3 rfl ?_;refine ak 4 rfl ?_ fun _ s=>dX s 2
  refine aC 2 rfl fun K hK=>?_
  go_simp;go_at_call 145;refine(H1.out _).mono ?_;rintro e w5 ⟨rfl,rfl⟩;have hs:=ah;refine bk hK hs fun ah=>?_
  clear hK K;refine ak 5 rfl ?_;refine cB ?_;replace HK:=zH (ah.out.aB 2);clear ah;simp only[List.take] at HK;go_wp2_with fail;rw[rounds_succ];go_wp2_with (first|refine zX (Bp HK 1) ?_|(refine aL HK ?_;clear HK;intro _ g5 HK;simp only[aS,aK] at HK)|(refine aH (f2:=l) HK 2 ?_;clear HK;intro _ HK;simp only[lS] at HK));refine zR HK.out.drew fun ah=>?_
  refine ak 0 rfl ?_;refine ak 1 rfl ?_ fun _ s=>dX s 2
  refine ak 3 rfl ?_;refine ak 4 rfl ?_ fun _ s=>dX s 2
  refine aC 2 rfl fun K hK=>?_
  go_simp;go_at_call 145;refine(H2.out _).mono ?_;rintro e w5 ⟨rfl,rfl⟩;have hs:=ah;refine bk hK hs fun ah=>?_
  clear hK K;refine ak 5 rfl ?_;refine cB ?_;replace HK:=zH (ah.out.aB 2);clear ah;simp only[List.take] at HK;exact jq
 case pos=>
 rw[hl] at H2;by_cases hm:Num.M m=m
 case neg=>
  have hok:decide (Mt.Ok ⟨n,s,l,m⟩)=false:=decide_eq_false (Mt.ale hn hm);rw[hok];have hne:((Num.M m:Int) != (m:Int))=true:=by rw[bne_iff_ne];omega
  clear hok hm;generalize Num.M m=t at *
  go_enter func105,ntmps105;go_wp2_with refine zX (cO HK 0) ?_;refine cb (HT.out _) HK ?_;clear HK;intro _ HK;go_wp2_with (first|(refine pW HK ?_;clear HK;intro _ g3 HK;simp only[aS,aK] at HK)|(refine tH HK 1 ?_;clear HK;intro _ HK;simp only[lS] at HK));refine wp_loop_rounds 4 ?_;rw[rounds_succ];go_wp2_with (first|refine zX (vZ HK 1) ?_|(refine aL HK ?_;clear HK;intro _ g5 HK;simp only[aS,aK] at HK)|(refine aH (f2:=s) HK 2 ?_;clear HK;intro _ HK;simp only[lS] at HK));refine zR HK.out.drew fun ah=>?_
  refine ak 0 rfl ?_;refine ak 1 rfl ?_ fun _ s=>dX s 2
  refine ak 3 rfl ?_;refine ak 4 rfl ?_ fun _ s=>dX s 2
  refine aC 2 rfl fun K hK=>?_
  go_simp;go_at_call 145;refine(H1.out _).mono ?_;rintro e w5 ⟨rfl,rfl⟩;have hs:=ah;refine bk hK hs fun ah=>?_
  clear hK K;refine ak 5 rfl ?_;refine cB ?_;replace HK:=zH (ah.out.aB 2);clear ah;simp only[List.take] at HK;go_wp2_with fail;rw[rounds_succ];go_wp2_with (first|refine zX (Bp HK 1) ?_|(refine aL HK ?_;clear HK;intro _ g5 HK;simp only[aS,aK] at HK)|(refine aH (f2:=l) HK 2 ?_;clear HK;intro _ HK;simp only[lS] at HK));refine zR HK.out.drew fun ah=>?_
  refine ak 0 rfl ?_;refine ak 1 rfl ?_ fun _ s=>dX s 2
  refine ak 3 rfl ?_;refine ak 4 rfl ?_ fun _ s=>dX s 2
  refine aC 2 rfl fun K hK=>?_
  go_simp;go_at_call 145;refine(H2.out _).mono ?_;rintro e w5 ⟨rfl,rfl⟩;have hs:=ah;refine bk hK hs fun ah=>?_
  clear hK K;refine ak 5 rfl ?_;refine cB ?_;replace HK:=zH (ah.out.aB 2);clear ah;simp only[List.take] at HK;go_wp2_with fail;rw[rounds_succ];go_wp2_with (first|refine zX (Ih HK 1) ?_|(refine aL HK ?_;clear HK;intro _ g5 HK;simp only[aS,aK] at HK)|(refine aH (f2:=m) HK 2 ?_;clear HK;intro _ HK;simp only[lS] at HK));refine zR HK.out.drew fun ah=>?_
  refine ak 0 rfl ?_;refine ak 1 rfl ?_ fun _ s=>dX s 2
  refine ak 3 rfl ?_;refine ak 4 rfl ?_ fun _ s=>dX s 2
  refine aC 2 rfl fun K hK=>?_
  go_simp;go_at_call 145;refine(H3.out _).mono ?_;rintro e w5 ⟨rfl,rfl⟩;have hs:=ah;refine bk hK hs fun ah=>?_
  clear hK K;refine ak 5 rfl ?_;refine cB ?_;replace HK:=zH (ah.out.aB 2);clear ah;simp only[List.take] at HK;exact jq
 case pos=>
  rw[hm] at H3;have hok:decide (Mt.Ok ⟨n,s,l,m⟩)=decide (Num.cmp l m≤0):=decide_eq_decide.2 (Mt.Ve hn hs hl hm);rw[hok];clear hok;generalize Num.cmp l m=c at *
  clear hs hl hm;go_enter func105,ntmps105;go_wp2_with refine zX (cO HK 0) ?_;refine cb (HT.out _) HK ?_;clear HK;intro _ HK;go_wp2_with (first|(refine pW HK ?_;clear HK;intro _ g3 HK;simp only[aS,aK] at HK)|(refine tH HK 1 ?_;clear HK;intro _ HK;simp only[lS] at HK));refine wp_loop_rounds 4 ?_;rw[rounds_succ];go_wp2_with (first|refine zX (vZ HK 1) ?_|(refine aL HK ?_;clear HK;intro _ g5 HK;simp only[aS,aK] at HK)|(refine aH (f2:=s) HK 2 ?_;clear HK;intro _ HK;simp only[lS] at HK));refine zR HK.out.drew fun ah=>?_
  refine ak 0 rfl ?_;refine ak 1 rfl ?_ fun _ s=>dX s 2
  refine ak 3 rfl ?_;refine ak 4 rfl ?_ fun _ s=>dX s 2
  refine aC 2 rfl fun K hK=>?_
  go_simp;go_at_call 145;refine(H1.out _).mono ?_;rintro e w5 ⟨rfl,rfl⟩;have hs:=ah;refine bk hK hs fun ah=>?_
  clear hK K;refine ak 5 rfl ?_;refine cB ?_;replace HK:=zH (ah.out.aB 2);clear ah;simp only[List.take] at HK;go_wp2_with fail;rw[rounds_succ];go_wp2_with (first|refine zX (Bp HK 1) ?_|(refine aL HK ?_;clear HK;intro _ g5 HK;simp only[aS,aK] at HK)|(refine aH (f2:=l) HK 2 ?_;clear HK;intro _ HK;simp only[lS] at HK));refine zR HK.out.drew fun ah=>?_
  refine ak 0 rfl ?_;refine ak 1 rfl ?_ fun _ s=>dX s 2
  refine ak 3 rfl ?_;refine ak 4 rfl ?_ fun _ s=>dX s 2
  refine aC 2 rfl fun K hK=>?_
  go_simp;go_at_call 145;refine(H2.out _).mono ?_;rintro e w5 ⟨rfl,rfl⟩;have hs:=ah;refine bk hK hs fun ah=>?_
  clear hK K;refine ak 5 rfl ?_;refine cB ?_;replace HK:=zH (ah.out.aB 2);clear ah;simp only[List.take] at HK;go_wp2_with fail;rw[rounds_succ];go_wp2_with (first|refine zX (Ih HK 1) ?_|(refine aL HK ?_;clear HK;intro _ g5 HK;simp only[aS,aK] at HK)|(refine aH (f2:=m) HK 2 ?_;clear HK;intro _ HK;simp only[lS] at HK));refine zR HK.out.drew fun ah=>?_
  refine ak 0 rfl ?_;refine ak 1 rfl ?_ fun _ s=>dX s 2
  refine ak 3 rfl ?_;refine ak 4 rfl ?_ fun _ s=>dX s 2
  refine aC 2 rfl fun K hK=>?_
  go_simp;go_at_call 145;refine(H3.out _).mono ?_;rintro e w5 ⟨rfl,rfl⟩;have hs:=ah;refine bk hK hs fun ah=>?_
  clear hK K;refine ak 5 rfl ?_;refine cB ?_;replace HK:=zH (ah.out.aB 2);clear ah;simp only[List.take] at HK;go_wp2_with fail;rw[rounds_succ];go_wp2_with (first|refine zX (fH HK 0) ?_|refine zX (gK HK 0) ?_);refine(H4.out _).mono ?_;rintro e w1 ⟨rfl,rfl⟩;exact jq
end
end Go.Proofs.YtahdlddbbnjloaaGreat
