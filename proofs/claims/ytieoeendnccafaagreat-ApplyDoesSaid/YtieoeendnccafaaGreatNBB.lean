/- What the law's twin returns: the state, its objects in new memory. No condition but those named. -/
import Derived.Test.YtieoeendnccafaaGreatNAR
set_option linter.unusedSimpArgs false
set_option linter.unusedVariables false
set_option maxRecDepth 100000
set_option maxHeartbeats 25600000
open Go.RowKit
namespace Go.Proofs.YtieoeendnccafaaGreat
open _root_.Go.Proofs.Tryz
section
section
variable {P:Program}{b0:Nat}{w0 w:World}{L:List (Nat×TypeId×Array Value)}{R:List dA}{ops:Array Oper}{rest:List Oper}{o:Oper}{a:Act}{Q:Exit→Act→World→Prop}
theorem oW{α:Type}(La:Lay P α){v:Value}{l:List α}(HK:Hid (Kn b0 w0 w L (R++[row La v l]))){s:Operand}{x:Operand}
  (m:List α) {A:Option Addr} {n c B:Nat}  (hn:n=m.length) (hI:Hid (La.Reads w B A m∧(A=none→m=[])))
  (hl:Hid (l.length+m.length≤9223372036854775807∧(l.length+m.length)*La.bytes≤211106232532992))
  {N:Nat} (hN:Hid ((l++m).length=N)) (h:∀A' c' w',Hid (Kn b0 w0 w' L (R++[row La (.slice A' N c') (l++m)]))→wpList P ops Q rest (a.put o.dst (.slice A' N c')) w') (hgd:o.guard=none:=by rfl)(ho:o.op=.call { callee:=.builtin .append,args:=#[s,x],argTypes:=#[La.t,La.t] }:=by rfl)(hs:a.eval s=v:=by rfl)(hx:a.eval x=.slice A n c:=by rfl):wpList P ops Q (o::rest) a w:=
 aX HK La R.length (hgd:=hgd) (s:=s) (x:=x) (ho:=ho) (hR:=(by simp)) (hs:=hs) m (hx:=hx) hn hI hl hN fun A' c' w' h1=>h A' c' w' (by
  have e:(R++[row La v l]).set R.length (row La (.slice A' N c') (l++m))=R++[row La (.slice A' N c') (l++m)]:=by simp
  rw[e] at h1
  exact h1)
end
def ady(n:Int)(r:List av.Ob)(t:aH.T)(w:World)(e:Ending)(w':World):Prop:=∃(A:Option Addr) (k c:Nat) (l:List Oh) (Rn:List dA),e=.returned (.agg (stA n A k c t))∧Hid (vs l=r)∧Kn w.heap.size w w' [] Rn∧
 Hid (∀(b:Nat) (W0 W:World) L R,Kn b W0 W L R→(∀z∈Rn,z∈R)→bY W A k c l)
theorem Lj(N:Int)(A:Option Addr)(c n:Nat)(t:aH.T)(l:List Oh)(w:World)(hs:bY w A n c l):
  Calls prog 9 #[.agg (stA N A n c t)] w (ady N (vs l) t w):=by
 have HS:=zH hs;have mI:Hid (l.length=n):=zH hs.len;have hbig:n*144≤140737488355328:=hs.s.big;have yV:=zH hs.fo;have HK:=iK w 33 (stA N A n c t);clear hs;go_enter func9,ntmps9;go_wp2_with (first|(refine aU HK ?_;clear HK;intro _ g1 HK;simp only[aO,aJ] at HK)|refine zX (jl HK 0) ?_|(refine dF HK 0 ?_;clear HK;intro _ HK;simp only[lS] at HK));replace HK:=zH (HK.out.wE aP);simp only[aJ] at HK;go_loopw [4] (fun vi wr=>∃(k:Nat) (A1:Option Addr) (c1:Nat) (l1:List Oh),k≤n∧vi=.int .i64 k∧Hid (vs l1=vs (l.take k))∧Hid (l1.length=k)∧Hid (Kn w.heap.size w wr [(w.heap.size,33,stA N A1 k c1 t),(g1,33,stA 0 none 0 0 tz)] (row aP (.slice A1 k c1) l1::l1.flatMap gU))) (fun vi _=>n-(intOf vi).toNat)
 case atStart=>exact⟨0,_,_,[],Nat.zero_le _,rfl,zH rfl,zH rfl,HK⟩
 case round=>
  clear HK;obtain⟨k,A1,c1,l1,hk,rfl,HVs,HLen,HK⟩:=hrel;by_cases hlt:k<n
  ·obtain⟨x,hx,hin⟩:=HS.out.get hlt
   obtain⟨b,o,rfl,hat⟩:=HS.out.s.at (Nat.lt_of_le_of_lt (Nat.zero_le _) hlt);have HX:Hid (∀j v,(vR x)[j]?=some v→wr.cell? ⟨b,o+k*11+j,none⟩=some v):=zH (hat wr HK.out.b k x hx);have FM:=zH hin;have Ef:Hid (vs (l.take (k+1))=vs (l.take k)++[x.v]):=zH (by rw[Lay.take_succ hx];unfold vs;rw[List.map_append];rfl)
   have HL:Hid (l1.length+1≤9223372036854775807∧(l1.length+1)*aP.bytes≤211106232532992):=zH (by
    rw[HLen.out];refine⟨by omega,?_⟩
    show(k+1)*144≤_
    omega)
   have fB:Hid (∀y:Oh,(l1++[y]).length=k+1):=zH fun y=>by rw[List.length_append,HLen.out];rfl
   have hpb:x.v.dP.length*56≤140737488355328:=hin.p.sls.fit.big;have hvb:x.v.vals.length*40≤140737488355328:=hin.v.fit.big;have hrb:x.v.refs.length*24≤140737488355328:=hin.r.fit.big
   have HLp:Hid (([]:List aK.Pr).length+x.v.dP.length≤9223372036854775807∧(([]:List aK.Pr).length+x.v.dP.length)*bO.bytes≤211106232532992):=zH (by
    rw[List.length_nil,Nat.zero_add];refine⟨by omega,?_⟩
    show x.v.dP.length*56≤_
    omega)
   have zi:Hid (([]:List Val.V).length+x.v.vals.length≤9223372036854775807∧(([]:List Val.V).length+x.v.vals.length)*bg.bytes≤211106232532992):=zH (by
    rw[List.length_nil,Nat.zero_add];refine⟨by omega,?_⟩
    show x.v.vals.length*40≤_
    omega)
   have HLr:Hid (([]:List Rf).length+x.v.refs.length≤9223372036854775807∧(([]:List Rf).length+x.v.refs.length)*aG.bytes≤211106232532992):=zH (by
    rw[List.length_nil,Nat.zero_add];refine⟨by omega,?_⟩
    show x.v.refs.length*24≤_
    omega)
   have HPn:Hid (x.pn=x.v.dP.length):=zH hin.p.len.symm;have HVn:Hid (x.vn=x.v.vals.length):=zH hin.v.len.symm;have HRn:Hid (x.rn=x.v.refs.length):=zH hin.r.len.symm;have BU:Hid ((([]:List aK.Pr)++x.v.dP).length=x.pn):=zH hin.p.len;have HVl:Hid ((([]:List Val.V)++x.v.vals).length=x.vn):=zH hin.v.len;have HRl:Hid ((([]:List Rf)++x.v.refs).length=x.rn):=zH hin.r.len;clear hat hx hin hpb hvb hrb;have hk1:(0:Int)≤(k:Int):=by omega
   have hk2:(k:Int)<(n:Int):=by omega
   have hk3:k<9223372036854775807:=by omega
   go_wp2_with (first|(refine au (v:=.agg (bS x)) (eB (off:=o+k*11) HX.out) ?_)|(refine gY HK ?_;clear HK;intro _ g5 HK;simp only[aO,aJ] at HK)|refine zX (jl HK 0) ?_|(refine dF HK 0 ?_;clear HK;intro _ HK;simp only[lS] at HK)|(refine fD HK 2 ?_;clear HK;intro _ HK;simp only[lS] at HK)|(refine fE bO HK ?_;intro _ g6 dY;replace HK:=dY;clear dY)|(refine fE bg HK ?_;intro _ g7 dY;replace HK:=dY;clear dY)|(refine fE aG HK ?_;intro _ g8 dY;replace HK:=dY;clear dY)|refine zX (mK HK 2) ?_|refine zX (rM HK 2) ?_|refine zX (gK HK 2) ?_|(at_builtin;refine oW bO HK x.v.dP HPn.out (zH (let h:=FM.out.p.later HK.out.b;And.intro h.rd h.nl)) HLp (N:=x.pn) BU ?_;clear HK;intro A4 c4 _ HK;simp only[aJ] at HK)|(at_builtin;refine oW bg HK x.v.vals HVn.out (zH (let h:=FM.out.v.later HK.out.b;And.intro h.rd h.nl)) zi (N:=x.vn) HVl ?_;clear HK;intro A5 c5 _ HK;simp only[aJ] at HK)|(at_builtin;refine oW aG HK x.v.refs HRn.out (zH (let h:=FM.out.r.later HK.out.b;And.intro h.rd h.nl)) HLr (N:=x.rn) HRl ?_;clear HK;intro A6 c6 _ HK;simp only[aJ] at HK)|(refine gI HK 2 x.v.dP ?_;clear HK;intro _ HK;simp only[lS] at HK)|(refine iP HK 2 x.v.vals ?_;clear HK;intro _ HK;simp only[lS] at HK)|(refine cu HK 2 x.v.refs ?_;clear HK;intro _ HK;simp only[lS] at HK)|refine zX (jv HK 2) ?_|(refine dI aP (p:=((x.sp A4 x.pn c4 x.v.dP).sv A5 x.vn c5 x.v.vals).sr A6 x.rn c6 x.v.refs) HK ?_;intro _ g9 dY;have HR:=zH (Kn.oJ dY.out).rd;have vQ:Hid ((l1++[((x.sp A4 x.pn c4 x.v.dP).sv A5 x.vn c5 x.v.vals).sr A6 x.rn c6 x.v.refs]).length=k+1):=zH (fB.out _);simp only[aO] at dY;replace HK:=dY;clear dY)|(at_builtin;refine aX HK aP 0 [((x.sp A4 x.pn c4 x.v.dP).sv A5 x.vn c5 x.v.vals).sr A6 x.rn c6 x.v.refs] rfl HR HL (N:=k+1) vQ ?_;clear HK;intro A7 c7 _ HK;simp only[lS] at HK)|refine zX (aL (j:=k) hk3) ?_);refine⟨⟨k+1,A7,c7,l1++[((x.sp A4 x.pn c4 x.v.dP).sv A5 x.vn c5 x.v.vals).sr A6 x.rn c6 x.v.refs],by omega,by go_num,zH ?_,vQ,zH ?_⟩,by simp[intOf];omega⟩
   ·rw[Ef.out,← HVs.out]
    unfold vs;rw[List.map_append]
    rfl
   ·rw[vB]
    have h:=HK.out.aA 2;rw[← aO] at h;exact h.init
  ·obtain rfl:k=n:=by omega
   have HEq:Hid (vs l1=vs l):=zH (by rw[HVs.out,← mI.out,List.take_length])
   have aiq:Hid (∀y∈vs l1,Fo y):=zH fun y hy=>by
    rw[HEq.out] at hy;exact yV.out y hy
   go_wp2_with (first|refine zX (iB HK 0) ?_|(refine bA HK 1 ?_;clear HK;intro _ HK;simp only[lS] at HK));refine SQ results9 rfl rfl (HK.out.blk 1 rfl) ?_;exact⟨A1,k,c1,l1,_,rfl,HEq,HK.out.aA 0,zH fun b W0 W L R K hm=>K.obs (hm _ (List.mem_cons_self ..)) (fun y hy=>hm _ (List.mem_cons_of_mem _ hy)) aiq.out hbig⟩
end
end Go.Proofs.YtieoeendnccafaaGreat
