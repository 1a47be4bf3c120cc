/- What the document's Same returns: whether objects are the same. No condition but those named. -/
import Derived.Test.YtieoeendnccafaaGreatNAY
set_option linter.unusedSimpArgs false
set_option linter.unusedVariables false
set_option maxRecDepth 100000
set_option maxHeartbeats 25600000
open Go.RowKit
namespace Go.Proofs.YtieoeendnccafaaGreat
open _root_.Go.Proofs.Tryz
section
open Go.ChangeShapes Go.WideShapes Go.Deep Go.RowKit
def eF(e:aF.E):Prop:=e.cmd.val.f<18446744073709551616∧e.cmd.old.f<18446744073709551616∧e.r≤9223372036854775807
section
variable {H:Type}{enc:TypeId×Value→H}{P:Program}{W:World}{base:Nat}{α:Type}
theorem BZ{L:Lay P α}{Good:α→DataW H→Prop}(hop:Wq enc W L Good)(hcells:P.cellsOf L.e=L.k)(hbytes:P.bytesOf L.e=L.bytes)
  {fuel:Nat} {cs:List Value} {d:DataW H} {p:List MemPlace} (h0:DataW.trod enc P W 0 (fun _=>true) true fuel L.t cs=some (d,p)) (hw:(d.weights P L.t).all (·≤reachBytes)=true) :
  ∃(A:Option Addr) (c:Nat) (l:List α),cs=[.slice A l.length c]∧L.Reads W W.heap.size A l∧(A=none→l=[])∧(∀x∈l,∃dx,Good x dx∧(dx.weights P L.e).all (·≤reachBytes)=true)∧l.length*L.bytes≤reachBytes∧l.length≤c:=by
 rcases open_slice L.und h0 with ⟨hcs,hx⟩|⟨a,len,cap,m,n,D,Pl,hcs,_,hl,hm,hmm,hx,hi⟩
 ·exact⟨none,0,[],hcs,Lay.Reads.nil _ _ _,fun _=>rfl,(fun x hx=>by cases hx),by simp,Nat.le_refl _⟩
 ·simp only[if_true] at hmm
  subst hmm;cases hx
  have hall:∀i,i<m→∃it:α,(∀j u,(L.f it)[j]?=some u→W.cell? ((a.add (i*L.k)).add j)=some u)∧Good it (D i):=fun i him=>by
   obtain⟨cs,hc,ht⟩:=hi i him;obtain⟨it,rfl,hg⟩:=hop _ _ _ ht;exact abl
  by_cases h0:len=0
  ·subst h0
   exact ZL
  have:Inhabited α:=⟨(hall 0 (by omega)).choose⟩;obtain⟨f,hf⟩:=choose_lt hall;have hlen:((List.range len).map f).length=len:=by simp
  have hget:∀i x,((List.range len).map f)[i]?=some x→i<len∧x=f i:=fun i x hx=>by
   rw[List.getElem?_map] at hx;obtain⟨j,hj,rfl⟩:=Option.map_eq_some_iff.1 hx
   have hlt:i<len:=by
    rcases Nat.lt_or_ge i len with h|h
    ·exact h
    ·rw[List.getElem?_eq_none (by simpa using h)] at hj;cases hj
   rw[List.getElem?_range hlt] at hj;cases hj;exact⟨hlt,rfl⟩
  have hsome:∃u,W.cell? a=some u:=by
   exact abm
  obtain⟨u0,hu0⟩:=hsome
  have ha:a=⟨a.block,a.off,none⟩:=by
   obtain⟨b,o,sp⟩:=a
   cases sp with
   | none=>rfl
   | some z=>unfold World.cell? at hu0;split at hu0<;>simp at hu0
  have hW:(DataW.weights P L.t (.slice ((List.range len).map D) ((List.range (m-len)).map fun j=>D (len+j)):DataW H)).all (·≤reachBytes)=true:=hw;unfold DataW.weights at hW;rw[L.und] at hW;simp only[List.all_cons,List.all_append,Bool.and_eq_true,decide_eq_true_eq,List.length_map,List.length_range,hbytes] at hW;obtain⟨hW1,hW2,_⟩:=hW;refine⟨some a,m,(List.range len).map f,by rw[hlen];exact hcs,fun hp=>?_,(fun h=>by cases h),(fun x hx=>?_),?_,by rw[hlen];exact hl⟩
  ·refine⟨a.block,a.off,by rw[← ha],World.block_lt_of_cell? W a hu0,fun i x hx j u hu=>?_⟩
   exact RF
  ·obtain⟨i,hi',rfl⟩:=List.mem_map.1 hx
   have hD:D i∈(List.range len).map D:=List.mem_map.2 ⟨i,hi',rfl⟩;exact⟨D i,(hf i (by have:=List.mem_range.1 hi';omega)).2,List.all_eq_true.2 fun n hn=>List.all_eq_true.1 hW2 n (ny hn hD)⟩
  ·rw[hlen]
   exact Ro
end
section
variable {H:Type}{enc:TypeId×Value→H}{W:World}{base:Nat}
theorem VE:prog.cellsOf 33=47:=by kernel_rfl
theorem Lift.Given.state{ts:List TypeId}{args:List Value}{ds:List (DataW H)}{before:List MemPlace}(h:Lift.Given enc prog (33::ts) W base args ds before):
  ∃(n:Int) (A:Option Addr) (c:Nat) (l:List Oh) (t:aH.T) (vs:List Value) (d:DataW H) (ds':List (DataW H)) (q:List MemPlace),args=.agg (stA n A l.length c t)::vs∧ds=d::ds'∧(-9223372036854775808≤n∧n≤9223372036854775807)∧bY W A l.length c l∧aH.Fit t∧Lift.Given enc prog ts W base vs ds' q:=by
 obtain⟨v,vs,d,ds',p,q,rfl,rfl,rfl,h0,hok,_,hw,hg⟩:=h.cons;obtain⟨fuel,h0⟩:=h0;obtain⟨cs,rfl,hsz⟩:=okWide_struct underlying33 hok;have hcl:(Value.agg cs).cells.toList=cs.toList:=by simp[Value.cells]
 rw[hcl] at h0;obtain⟨ys,m,_,hx,hlen,hyl,hf⟩:=DataW.trod_struct underlying33 h0;have hlen:cs.toList.length=prog.cellsOf 33:=hlen;rw[VE] at hlen;obtain⟨cl⟩:=cs
 match cl,hlen,ys,hyl with
 | v0::v1::rest,hlen,[y0,(d1,p1),y2],_=>
  have hrl:rest.length=45:=by
   have h:rest.length+1+1=47:=hlen;omega
  have f0:=hf 0 _ rfl;have f1:=hf 1 _ rfl;have f2:=hf 2 _ rfl;simp only[List.getElem?_cons_zero,List.getElem?_cons_succ] at f0 f1 f2;obtain⟨n,e0,w0,w1⟩:=DataW.trod_int underlying3 f0;obtain⟨t,e2,w2⟩:=Pq (enc:=enc) W _ _ _ f2;have hd:d=.agg [y0.1,d1,y2.1]:=congrArg Prod.fst hx;rw[hd] at hw;unfold DataW.weights at hw;rw[underlying33] at hw;simp only[List.map_cons,List.map_nil,DataW.weightsEach,List.all_append,Bool.and_eq_true] at hw;obtain⟨_,hw1,_⟩:=hw;obtain⟨A,c,l,hc,rd,nl,gd,bd,kd⟩:=BZ (L:=aP) TI IX VL (cs:=[v1]) f1 hw1;injection hc with hc;subst hc;have hb:l.length*144≤reachBytes:=bd;rw[sI] at hb
  have e3:rest=(dR t).toList:=by
   refine Eq.trans ?_ e2
   show rest=rest.take (prog.cellsOf 31)
   rw[DK,List.take_of_length_le (by omega)]
  have hv:(⟨v0::.slice A l.length c::rest⟩:Array Value)=stA n A l.length c t:=by
   cases e0;rw[e3]
   rfl
  refine⟨n,A,c,l,t,vs,d,ds',q,by rw[hv],rfl,?_,⟨⟨rfl,kd,rd,nl,fun x hx=>trivial,by show l.length*144≤_;omega⟩,fun x hx=>?_⟩,w2,hg⟩
  ·have:=bounds_i64 w1
   exact⟨by omega,by omega⟩
  ·obtain⟨dx,g,hwx⟩:=gd x hx
   exact g hwx
theorem Dc:nY enc 39 evL eF:=fun W n cs x ht=>by
 obtain⟨ys,m,_,hx,hlen,hyl,hf⟩:=DataW.trod_struct underlying39 ht;have hlen:cs.length=prog.cellsOf 39:=hlen;rw[BD] at hlen
 match cs,hlen,ys,hyl with
 | [v0,v1,v2,v3,v4,v5,v6,v7,v8,v9,v10,v11,v12,v13,v14,v15],_,[y0,y1],_=>
  have f0:=hf 0 _ rfl;have f1:=hf 1 _ rfl;simp only[List.getElem?_cons_zero,List.getElem?_cons_succ] at f0 f1;obtain⟨⟨a0,a1,a2⟩,e0,w0⟩:=Pt (enc:=enc) W _ _ _ f0;obtain⟨a3,e1,w3⟩:=xX (enc:=enc) W _ _ _ f1;cases e0;cases e1;exact⟨⟨a0,a1,a2,a3⟩,rfl,w3.1,w3.2,w0⟩
theorem Px:Opens enc nW (fun e _=>eF e):=fun W n cs x ht=>Dc W n cs x ht
theorem Lift.Given.evb{ts:List TypeId}{args:List Value}{ds:List (DataW H)}{before:List MemPlace}(h:Lift.Given enc prog (39::ts) W base args ds before):
  ∃(x:aF.E) (vs:List Value) (d:DataW H) (ds':List (DataW H)) (q:List MemPlace),args=.agg (evL x).toArray::vs∧ds=d::ds'∧eF x∧Lift.Given enc prog ts W base vs ds' q:=h.one Dc underlying39
theorem Lift.Given.ahE{ts:List TypeId}{args:List Value}{ds:List (DataW H)}{before:List MemPlace}(h:Lift.Given enc prog (49::ts) W base args ds before):
  ∃(A:Option Addr) (c:Nat) (l:List aF.E) (vs:List Value) (d:DataW H) (ds':List (DataW H)) (q:List MemPlace),args=.slice A l.length c::vs∧ds=d::ds'∧bJ nW eF W A l.length c l∧Lift.Given enc prog ts W base vs ds' q:=by
 obtain⟨A,c,l,vs,d,ds',q,h1,h2,h3,h4,h5,h6,_,h8,h9⟩:=h.things (L:=nW) Px BD VN;have hb:l.length*160≤reachBytes:=h6;rw[sI] at hb;refine⟨A,c,l,vs,d,ds',q,h1,h2,⟨rfl,h8,h3,h4,fun x hx=>?_,?_⟩,h9⟩
 ·obtain⟨_,g⟩:=h5 x hx
  exact g.1
 ·show l.length*160≤_
  omega
end
end
section
section
variable {b0:Nat}{w0 w:World}{L:List (Nat×TypeId×Array Value)}{R:List dA}{ops:Array Oper}{rest:List Oper}{o:Oper}{a:Act}{Q:Exit→Act→World→Prop}{p1 p2 p3 p4 p5 p6 p7:aF.E}
theorem JH(HK:Hid (Kn b0 w0 w L R))(hgd:o.guard=none){x1:Operand}{x2:Operand}{x3:Operand}{x4:Operand}{x5:Operand}{x6:Operand}{x7:Operand}(ho:o.op=.buildSlice 49 7 #[(0,x1),(1,x2),(2,x3),(3,x4),(4,x5),(5,x6),(6,x7)])
  (h1:a.eval x1=.agg (iN p1)) (h2:a.eval x2=.agg (iN p2)) (h3:a.eval x3=.agg (iN p3)) (h4:a.eval x4=.agg (iN p4)) (h5:a.eval x5=.agg (iN p5)) (h6:a.eval x6=.agg (iN p6)) (h7:a.eval x7=.agg (iN p7))
  (h:∀w' g,Hid (Kn b0 w0 w' L (R++[row nW (.slice (some ⟨g,0,none⟩) 7 7) [p1,p2,p3,p4,p5,p6,p7]]))→wpList prog ops Q rest (a.put o.dst (.slice (some ⟨g,0,none⟩) 7 7)) w'):wpList prog ops Q (o::rest) a w:=
 wpList_plain hgd fun _ hK=>AU nW HK [p1,p2,p3,p4,p5,p6,p7] 7 _ ho [.agg (iN p1),.agg (iN p2),.agg (iN p3),.agg (iN p4),.agg (iN p5),.agg (iN p6),.agg (iN p7)] (by simp[h1,h2,h3,h4,h5,h6,h7]) rfl (hsm:=(by show 7*16≤_;decide)) fun w' g h1 _=>hK _ _ (h w' g h1)
end
theorem ada(c e r k:Int)(s:ByteArray)(n:Int)(w:World):Calls prog 33 #[.int .i64 c,.int .i64 e,.int .i64 r,.int .i64 k,.string s,.int .i64 n] w (fun en w'=>en=.returned (.agg (iN (Ap.Js c e r k s n)))∧Below w.heap.size w w'):=by
 have HK:=zH (Kn.start w);go_enter func33,ntmps33;go_wp2_with (first|(refine FY HK rfl rfl ?_;clear HK;intro _ g2 HK;simp only[aJ] at HK)|(refine JC (e2:=Ap.Js c e r k s n) HK 0 rfl rfl rfl rfl rfl ?_;clear HK;intro _ HK _;simp only[lS] at HK));refine bodyPost_ret (results_cell_row results33 _ _ g2 _ _ (0,0) _ (by rfl) (HK.out.blk 0 rfl) underlying39 rfl ET) rfl ⟨rfl,HK.out.b⟩
theorem YS(A:Option Addr)(c N:Nat)(l:List aF.E)(w:World)(hs:bJ nW eF w A N c l)(hN:N≤120):
  Calls prog 34 #[.slice A N c] w (dB (fun _=>True) (Ap.all Ap.s0 l).1 (Ap.all Ap.s0 l).2 w):=by
 have HS:=zH hs;have mI:Hid (l.length=N):=zH hs.len;have HFe:Hid (∀x∈l,eF x):=zH hs.fit.fs;have WL:Hid (∀(x:aF.E),eF x→∀(n:Int) A1 k1 c1 t1 lo W,bY W A1 k1 c1 lo→aH.Fit t1→n≤9223372036854775807→Calls prog 10 #[.agg (stA n A1 k1 c1 t1),.agg (iN x)] W (dB (fun _=>True) (Ap.mD ⟨n,vs lo,t1⟩ x) (Ap.rV ⟨n,vs lo,t1⟩ x) W)):=zH fun x hx n A1 k1 c1 t1 lo W ho hf hn=>tu n A1 k1 c1 t1 lo x W ho hf hx.1 hx.2.1 hx.2.2 hn
 have HK:=zH (Kn.start w);have HFin:Hid (Ap.all Ap.s0 (l.take N)=((Ap.all Ap.s0 l).1,(Ap.all Ap.s0 l).2)):=zH (by rw[← hs.len,List.take_length]);unfold dB at WL;clear hs;generalize (Ap.all Ap.s0 l).1=sF at *
 generalize (Ap.all Ap.s0 l).2=oF at *
 go_enter func34,ntmps34;go_upto_region 1 with (refine aU HK ?_;clear HK;intro _ g2 HK;simp only[aO,aJ] at HK);go_upto_region 2 with (refine aU HK ?_;clear HK;intro _ g4 HK;simp only[aO,aJ] at HK);replace HK:=zH (HK.out.wE aR);simp only[aJ] at HK;go_wp2_with fail;go_loopw [5,6] (fun v5 v6 wr=>∃(i:Nat) (n:Int) (A1:Option Addr) (k1 c1:Nat) (t1:aH.T) (lo:List Oh) (O:Option Addr) (m d:Nat) (os:List av.Ot) (R2:List dA),i≤N∧v5=.slice O m d∧v6=.int .i64 i∧Hid (Ap.all Ap.s0 (l.take i)=(⟨n,vs lo,t1⟩,os))∧Hid (aH.Fit t1)∧Hid (Kn w.heap.size w wr [(g2,33,stA 0 none 0 0 tz),(g4,33,stA n A1 k1 c1 t1)] (row aR (.slice O m d) os::R2))∧Hid (∀(b:Nat) (W0 W:World) L R,Kn b W0 W L R→(∀z∈R2,z∈R)→bY W A1 k1 c1 lo)) (fun _ v6 _=>N-(intOf v6).toNat)
 case atStart=>exact⟨0,0,none,0,0,tz,[],none,0,0,[],[],Nat.zero_le _,rfl,rfl,zH rfl,zH aH.aaI,HK,zH fun b W0 W L R K hm=>bY.none W⟩
 case round=>
  clear HK;obtain⟨i,n,A1,k1,c1,t1,lo,O,m,d,os,R2,hi,rfl,rfl,LG,iD,HK,rO⟩:=hrel;have hi1:(0:Int)≤(i:Int):=by omega
  by_cases hik:i<N
  case neg=>
   obtain rfl:i=N:=by omega
   have hi2:¬(i:Int)<(i:Int):=by omega
   have he:=HFin.out.symm.trans LG.out;injection he with h1 h2;subst h1 h2
   have hfw:oF.length≤1200:=by
    have h:=Ap.FE (l.take i) Ap.s0;rw[LG.out] at h;have h2:oF.length≤10*(l.take i).length:=h;rw[List.length_take] at h2;omega
   have QM:Hid (Fits aR tF oF):=zH ⟨fun x hx=>trivial,by show oF.length*72≤_;omega⟩;clear WL HFe HS LG HFin hfw;go_wp2_with (first|refine zX (iB HK 1) ?_|(refine bA HK 0 ?_;clear HK;intro _ HK;simp only[lS] at HK));refine dQ results34 (HK.out.blk 0 rfl) ?_;unfold dB;exact⟨A1,k1,c1,lo,O,m,d,_,rfl,zH rfl,HK.out.aA 0,zH fun b W0 W L R K hm hg=>⟨rO.out b W0 W L R K (fun z hz=>hm z (List.mem_cons_of_mem _ hz)),bJ.own (K.mem (hm _ (List.mem_cons_self ..))) QM.out⟩⟩
  case pos=>
  have hi2:(i:Int)<(N:Int):=by omega
  have hi3:i<9223372036854775807:=by omega
  obtain⟨x,hx,hxe⟩:=HS.out.get hik;obtain⟨b,o,rfl,hat⟩:=HS.out.at (Nat.lt_of_le_of_lt (Nat.zero_le _) hik);have HX:Hid (∀W,Below w.heap.size w W→∀q v,(evL x)[q]?=some v→W.cell? ⟨b,o+i*16+q,none⟩=some v):=zH (fun W hW=>hat W hW i x hx);have hal:=Ap.Wi (s:=Ap.s0) hx;rw[LG.out] at hal;dsimp only at hal;have UD:=rO.out _ _ _ _ _ HK.out (fun z hz=>List.mem_cons_of_mem _ hz);have HF3:Hid (aH.Fit (Ap.mD ⟨n,vs lo,t1⟩ x).t):=zH (Ap.VW (s:=⟨n,vs lo,t1⟩) (pW UD) iD.out x);have UE:=Ap.VX ⟨n,vs lo,t1⟩ x;have hnb:=(Ap.aaO (l.take i) Ap.s0).2;rw[LG.out] at hnb
  have hn9:n≤9223372036854775807:=by
   have h:n≤0+((l.take i).length:Int):=hnb;rw[List.length_take] at h;omega
  have hm9:m≤10*i:=by
   have h:=Ap.FE (l.take i) Ap.s0;rw[LG.out] at h;have h2:os.length≤10*(l.take i).length:=h;have h3:=(HK.out.own 0 rfl).reads.1;rw[List.length_take] at h2;omega
  have HAx:Hid (∀W,bY W A1 k1 c1 lo→_):=zH fun W ho=>WL.out x hxe n A1 k1 c1 t1 lo W ho iD.out hn9
  have aiy:=zH hal;have QM:=zH UE;clear hat hx hxe hal UD UE hnb hn9 LG iD;generalize Ap.mD ⟨n,vs lo,t1⟩ x=s3 at *
  generalize Ap.rV ⟨n,vs lo,t1⟩ x=os3 at *
  obtain⟨n3,l3,t3⟩:=s3;dsimp only at *
  go_wp2_with fail;have aj:=zH HK.out.drew;clear HK;refine wp_region_held_drew (S:=(fun W=>Hid (Kn w.heap.size w W [(g4,33,stA n A1 k1 c1 t1)] []))) (by kernel_rfl) ?_ fun ah=>?_
  ·(try dsimp only);exact zH (((aj.out.aI 1).aA 1).ay 0)
  refine ak 0 rfl ?_ fun _ s=>iB s 0
  refine ak 1 rfl ?_;refine ak 2 rfl ?_;refine ak 3 rfl ?_ fun _ s=>gM nW (i:=i) hik
  refine ak 4 rfl ?_ fun _ s=>je nW (off:=o+i*16) (x:=x) _ underlying39 (HX.out _ s.out.b)
  refine jr 5 9 rfl rfl (fun K hK=>?_) fun K hK=>?_
  go_simp;go_at_call 10;refine(HAx.out _ (rO.out _ _ _ _ _ aj.out (fun z hz=>List.mem_cons_of_mem _ hz))).mono ?_;rintro en w5 ⟨A3,k3,c3,lo3,O3,m3,d3,R3,rfl,Ee,q3,HI3⟩;replace aj:=zH (aj.out.join q3);clear q3;simp only[aO] at aj;have hs:=zH (((aj.out.aI 1).aA 1).ay 0);refine bk hK hs fun ah=>?_
  clear hK K;refine ak 6 rfl ?_;refine ak 7 rfl ?_;refine ak 8 rfl ?_;refine aC 9 rfl fun K hK=>?_
  refine kI aj ?_;clear aj;intro w7 g7 aj;simp only[aO,aJ] at aj;have hs:=zH (((aj.out.aI 1).aA 1).ay 0);refine bk hK hs fun ah=>?_
  clear hK K;refine aC 10 rfl fun K hK=>?_
  refine bZ aj 2 ?_;clear aj;intro w8 aj;simp only[lS] at aj;have hs:=zH (((aj.out.aI 1).aA 1).ay 0);refine bk hK hs fun ah=>?_
  clear hK K;refine ak 11 rfl ?_;refine bW ?_
  rotate_left
  refine kI aj ?_;clear aj;intro w7 g7 aj;simp only[aO,aJ] at aj;have hs:=zH (((aj.out.aI 1).aA 1).ay 0);refine bk hK hs fun ah=>?_
  clear hK K;refine aC 5 rfl fun K hK=>?_
  go_simp;go_at_call 10;refine(HAx.out _ (rO.out _ _ _ _ _ aj.out (fun z hz=>List.mem_cons_of_mem _ hz))).mono ?_;rintro en w5 ⟨A3,k3,c3,lo3,O3,m3,d3,R3,rfl,Ee,q3,HI3⟩;replace aj:=zH (aj.out.join q3);clear q3;simp only[aO] at aj;have hs:=zH (((aj.out.aI 1).aA 1).ay 0);refine bk hK hs fun ah=>?_
  clear hK K;refine ak 6 rfl ?_;refine ak 7 rfl ?_;refine ak 8 rfl ?_;refine aC 10 rfl fun K hK=>?_
  refine bZ aj 2 ?_;clear aj;intro w8 aj;simp only[lS] at aj;have hs:=zH (((aj.out.aI 1).aA 1).ay 0);refine bk hK hs fun ah=>?_
  clear hK K;refine ak 11 rfl ?_;refine bW ?_
  rotate_left
  all_goals
   have HK:=aj;clear aj ah;have hsl:=(HI3.out _ _ _ _ _ HK.out (fun z hz=>List.mem_cons_of_mem _ (List.mem_append_right _ hz)) trivial).2;have gT:Hid (os3.length=m3):=zH hsl.len;have QK:Hid (os.length=m):=zH (HK.out.own 0 rfl).reads.1.symm;have hm3:m3≤10:=by rw[← gT.out];exact QM.out
   have fB:Hid ((os++os3).length=m+m3):=zH (by rw[List.length_append,gT.out,QK.out]);have HL2:=fV (La:=aR) fB (hB:=(by show _*72≤_;omega));clear hsl;go_wp2_with (first|refine zX (iB HK 2) ?_|(refine bA HK 1 ?_;clear HK;intro _ HK;simp only[lS] at HK)|(at_builtin;have HR2:=zH (let h:=(HI3.out _ _ _ _ _ HK.out (fun z hz=>List.mem_cons_of_mem _ (List.mem_append_right _ hz)) trivial).2;And.intro h.rd h.nl);refine aX HK aR 0 os3 gT.out.symm HR2 HL2 (N:=m+m3) fB ?_;clear HK;intro A9 c9 _ HK;simp only[lS] at HK HR2)|refine zX (aL (j:=i) hi3) ?_);exact⟨⟨i+1,n3,A3,k3,c3,t3,lo3,A9,_,c9,os++os3,R2++R3,hik,rfl,rfl,zH (by rw[Ee.out];exact aiy.out),HF3,zH (HK.out.aA 2),zH fun b W0 W L R K hm=>(HI3.out b W0 W L R K (fun z hz=>hm z (List.mem_append_right _ hz)) trivial).1⟩,by simp[intOf];omega⟩
end
section
theorem yT(w:World):Calls prog 12 #[] w (cZ true w):=by
 have HK:=zH (Kn.start w);have HEv:=zH ada;have hok:=Ap.Wh Ap.NH Ap.acr;have hn:=Ap.ahK;have ho:=Ap.ahJ;have hft:=Ap.ahL;have h4:=Ap.ahN;have h5:=Ap.ahM;have LG:Hid (∀(A:Option Addr) (c:Nat) W,bJ nW eF W A 7 c Ap.NH→Calls prog 34 #[.slice A 7 c] W (dB (fun _=>True) (Ap.all Ap.s0 Ap.NH).1 (Ap.all Ap.s0 Ap.NH).2 W)):=zH fun A c W h=>YS A c 7 Ap.NH W h (by decide)
 have HFe:Hid (Fits nW eF Ap.NH):=zH ⟨by
  intro x hx;unfold Ap.NH at hx;simp only[List.mem_cons,List.not_mem_nil,or_false] at hx;unfold eF
  rcases hx with rfl|rfl|rfl|rfl|rfl|rfl|rfl<;>decide,by show 7*160≤_;decide⟩
 unfold dB at LG;unfold cZ;generalize (Ap.all Ap.s0 Ap.NH).1=s at *
 generalize (Ap.all Ap.s0 Ap.NH).2=os at *
 obtain⟨n,l,t⟩:=s;dsimp only at *
 subst hn;have iw:=zH hok;have H4:=zH h4;have H5:=zH h5;have HO:=zH ho;clear hok h4 h5 ho;go_enter func12,ntmps12;go_wp2_with fail;refine cb (HEv.out 0 1 0 1 ⟨#[]⟩ 0 _) HK ?_;clear HK;intro _ HK;go_wp2_with fail;refine cb (HEv.out 0 1 1 4 Ap.nl 3 _) HK ?_;clear HK;intro _ HK;go_wp2_with fail;refine cb (HEv.out 0 1 2 12 Ap.nl 0 _) HK ?_;clear HK;intro _ HK;go_wp2_with fail;refine cb (HEv.out 1 1 0 1 ⟨#[]⟩ 0 _) HK ?_;clear HK;intro _ HK;go_wp2_with fail;refine cb (HEv.out 1 1 1 12 Ap.nl 0 _) HK ?_;clear HK;intro _ HK;go_wp2_with fail;refine cb (HEv.out 0 1 0 18 ⟨#[]⟩ 0 _) HK ?_;clear HK;intro _ HK;go_wp2_with fail;refine cb (HEv.out 0 1 3 12 Ap.nl 0 _) HK ?_;clear HK;intro _ HK;go_wp2_with (refine JH (p1:=Ap.Js 0 1 0 1 ⟨#[]⟩ 0) (p2:=Ap.Js 0 1 1 4 Ap.nl 3) (p3:=Ap.Js 0 1 2 12 Ap.nl 0) (p4:=Ap.Js 1 1 0 1 ⟨#[]⟩ 0) (p5:=Ap.Js 1 1 1 12 Ap.nl 0) (p6:=Ap.Js 0 1 0 18 ⟨#[]⟩ 0) (p7:=Ap.Js 0 1 3 12 Ap.nl 0) HK rfl rfl rfl rfl rfl rfl rfl rfl rfl ?_;clear HK;intro _ g7 HK;simp only[aJ] at HK);refine(LG.out _ _ _ (bJ.own (HK.out.own 0 rfl) HFe.out)).mono ?_;rintro e w1 ⟨A2,k2,c2,lo,O2,m2,d2,R2,rfl,mE,q2,HI2⟩;replace HK:=zH (HK.out.join q2);clear q2 HEv LG HFe;go_upto_region 3 with (first|(refine aU HK ?_;clear HK;intro _ g9 HK;simp only[aO,aJ] at HK)|(refine bA HK 0 ?_;clear HK;intro _ HK;simp only[lS] at HK));have hsl:=(HI2.out _ _ _ _ _ HK.out (fun z hz=>List.mem_cons_of_mem _ hz) trivial).2;obtain rfl:m2=6:=hsl.len.symm.trans HO.out;obtain⟨b,o,rfl,_⟩:=hsl.at (by decide);have c4:World.cell? _ ⟨b,o+32,none⟩=some (.int .i64 1):=hsl.cells (i:=4) H4.out 0 _ rfl;have c6:World.cell? _ ⟨b,o+34,none⟩=some (.int .i64 1):=hsl.cells (i:=4) H4.out 2 _ rfl;have c5:World.cell? _ ⟨b,o+43,none⟩=some (.int .i64 14):=hsl.cells (i:=5) H5.out 3 _ rfl;have kF:=zH (fun W (h:bY W A2 k2 c2 lo)=>gW 7 A2 k2 c2 t lo W h hft);have HY:Hid (decide (Ap.Ok ⟨7,vs lo,t⟩)=true):=zH (by rw[mE.out];exact decide_eq_true iw.out);unfold cZ at kF;rw[HY.out] at kF;clear hsl hft;go_wp2_with (first|refine zX (jL HK 0) ?_|refine zX (iB HK 0) ?_);refine cb (kF.out _ (HI2.out _ _ _ _ _ HK.out (fun z hz=>List.mem_cons_of_mem _ hz) trivial).1) HK ?_;clear HK;intro _ HK;exact iU
end
section
theorem Sl.cells{w:World}{b o n c:Nat}{l:List aK.Pr}(h:Sl w (some ⟨b,o,Option.none⟩) n c l){i:Nat}{x:aK.Pr}(hx:l[i]?=some x):∀j v,(Tv x)[j]?=some v→w.cell? ⟨b,o+i*5+j,Option.none⟩=some v:=by
 exact aaf
theorem Im{w:World}{o:Oper}{a:Act}{x y:aK.Pr}{b:Bool}{p:Operand}{q:Operand}(hb:(!decide (x=y))=b)(ho:o.op=.binOp .neq 103 p q 103:=by rfl)(hx:a.eval p=.agg (yZ x):=by rfl)(hy:a.eval q=.agg (yZ y):=by rfl):
  (execOp a.eval o).run prog w=.ok (.value (.bool b)) w:=by
 have e:decide (x=y)=(decide (x.key.toList=y.key.toList)&&(decide (x.val.k=y.val.k)&&decide (x.val.n=y.val.n)&&decide ((x.val.f:Int)=(y.val.f:Int))&&decide (x.val.s.toList=y.val.s.toList))):=by
  rw[← zq];obtain⟨k,v⟩:=x;obtain⟨k',v'⟩:=y;by_cases h1:k=k'
  ·by_cases h2:v=v'<;>simp[h1,h2]
  ·have h3:¬k.toList=k'.toList:=fun h=>h1 (aK.toList_inj h)
   simp[h1,h3]
 rw[e] at hb;subst hb;unfold yZ prC at hx hy;unfold execOp;simp only[ho,hx,hy];go_simp;by_cases h0:x.key.toList=y.key.toList<;>by_cases h1:x.val.k=y.val.k<;>by_cases h2:x.val.n=y.val.n<;>by_cases h3:(x.val.f:Int)=(y.val.f:Int)<;>by_cases h4:x.val.s.toList=y.val.s.toList<;>simp[h0,h1,h2,h3,h4]
theorem Si{a b:List aK.Pr}{n:Nat}(ha:a.length=n)(hb:b.length=n):(∀i x y,i<n→a[i]?=some x→b[i]?=some y→¬x=y→decide (a=b)=false)∧((∀i,i<n→a[i]?=b[i]?)→decide (a=b)=true):=by
 refine⟨fun i x y hi hx hy hne=>decide_eq_false fun h=>?_,fun h=>decide_eq_true (List.ext_getElem? fun i=>?_)⟩
 ·subst h
  rw[hx] at hy;injection hy with hy;exact hne hy
 ·by_cases hi:i<n
  ·exact h i hi
  ·rw[List.getElem?_eq_none (by omega),List.getElem?_eq_none (by omega)]
theorem Sj(A B:Option Addr)(c n d m:Nat)(a b:List aK.Pr)(w:World)(hs:Sl w A n c a)(ht:Sl w B m d b):
  Calls prog 87 #[.slice A n c,.slice B m d] w (cZ (decide (a=b)) w):=by
 have HK:=zH (Kn.start w);by_cases hnm:n=m
 case neg=>
  have hd:decide (a=b)=false:=decide_eq_false fun h=>hnm (by rw[← hs.len,← ht.len,h])
  rw[hd];have Hz:((n:Int) != (m:Int))=true:=by simp;omega
  clear hs ht hd;go_enter func87,ntmps87;exact iU
 case pos=>
 subst hnm;obtain⟨hno,hyes⟩:=Si hs.len ht.len;have gP:=zH hno;have iL:=zH hyes;have HS:=zH hs;have HT:=zH ht;have HG:Hid (∀k,k<n→(∃x,a[k]?=some x)∧∃y,b[k]?=some y):=zH fun k hk=>⟨Lay.fI (l:=a) (k:=k) (by rw[hs.len];exact hk),Lay.fI (l:=b) (k:=k) (by rw[ht.len];exact hk)⟩
 have hn63:n<9223372036854775807:=Nat.lt_of_le_of_lt hs.big (by decide);clear hs ht hno hyes;generalize decide (a=b)=r at *
 have Hz:((n:Int) != (n:Int))=false:=by simp
 go_enter func87,ntmps87;go_wp2_with fail;go_loopw [5] (fun vi wr=>∃k:Nat,k≤n∧vi=.int .i64 k∧Hid (∀i,i<k→a[i]?=b[i]?)∧Hid (Kn w.heap.size w wr [] [])) (fun vi _=>n-(intOf vi).toNat)
 case atStart=>exact⟨0,Nat.zero_le _,rfl,zH (fun i hi=>by omega),HK⟩
 case round=>
  clear HK;obtain⟨k,hk,rfl,HE,HK⟩:=hrel;have hk1:(0:Int)≤(k:Int):=by omega
  by_cases hlt:k<n
  ·have hk2:(k:Int)<(n:Int):=by omega
   have hk3:k<9223372036854775807:=by omega
   obtain⟨⟨x,hx⟩,⟨y,hy⟩⟩:=HG.out k hlt;obtain⟨b1,o1,rfl,wM⟩:=HS.out.at (Nat.lt_of_le_of_lt (Nat.zero_le _) hlt);obtain⟨b2,o2,rfl,wL⟩:=HT.out.at (Nat.lt_of_le_of_lt (Nat.zero_le _) hlt);have HX:=zH (fun W hW=>wM W hW k x hx);have HY:=zH (fun W hW=>wL W hW k y hy);have xD:=zH (gP.out k x y hlt hx hy);have Cr:Hid (a[k]?=some x∧b[k]?=some y):=zH ⟨hx,hy⟩;clear wM wL hx hy gP HG;go_wp2_with fail;by_cases he:x=y
   ·have hb:(!decide (x=y))=false:=by rw[decide_eq_true he];rfl
    refine zR HK.out.drew fun ah=>?_
    refine ak 0 rfl ?_;refine ak 1 rfl ?_;refine ak 2 rfl ?_ fun _ s=>eO (i:=k) hlt
    refine ak 3 rfl ?_ fun _ s=>nV (x:=x) (off:=o1+k*5) (HX.out _ s.out.b)
    refine ak 4 rfl ?_;refine ak 5 rfl ?_;refine ak 6 rfl ?_ fun _ s=>eO (i:=k) hlt
    refine ak 7 rfl ?_ fun _ s=>nV (x:=y) (off:=o2+k*5) (HY.out _ s.out.b)
    refine ak 8 rfl ?_ fun _ s=>Im (x:=x) (y:=y) hb
    refine bW ?_;go_wp2_with refine au (aL (j:=k) hk3) ?_
    exact⟨⟨k+1,hlt,rfl,zH (fun i hi=>by
     by_cases hik:i=k
     ·subst hik;rw[Cr.out.1,Cr.out.2,he]
     ·exact HE.out i (by omega)),ah⟩,by simp[intOf];omega⟩
   ·have hb:(!decide (x=y))=true:=by rw[decide_eq_false he];rfl
    have HR:=zH (xD.out he);refine zR HK.out.drew fun ah=>?_
    refine ak 0 rfl ?_;refine ak 1 rfl ?_;refine ak 2 rfl ?_ fun _ s=>eO (i:=k) hlt
    refine ak 3 rfl ?_ fun _ s=>nV (x:=x) (off:=o1+k*5) (HX.out _ s.out.b)
    refine ak 4 rfl ?_;refine ak 5 rfl ?_;refine ak 6 rfl ?_ fun _ s=>eO (i:=k) hlt
    refine ak 7 rfl ?_ fun _ s=>nV (x:=y) (off:=o2+k*5) (HY.out _ s.out.b)
    refine ak 8 rfl ?_ fun _ s=>Im (x:=x) (y:=y) hb
    exact rQ
  ·obtain rfl:k=n:=by omega
   have HR:=zH (iL.out HE.out);exact rP
end
section
theorem Pf(A B:Option Addr)(c n d m:Nat)(a b:List Val.V)(w:World)(hs:bJ bg vF w A n c a)(ht:bJ bg vF w B m d b):
  Calls prog 88 #[.slice A n c,.slice B m d] w (cZ (decide (a=b)) w):=by
 have HK:=zH (Kn.start w);by_cases hnm:n=m
 case neg=>
  have hd:decide (a=b)=false:=decide_eq_false fun h=>hnm (by rw[← hs.len,← ht.len,h])
  rw[hd];have Hz:((n:Int) != (m:Int))=true:=by simp;omega
  clear hs ht hd;go_enter func88,ntmps88;exact iU
 case pos=>
 subst hnm;obtain⟨hno,hyes⟩:=Ev hs.len ht.len;have gP:=zH hno;have iL:=zH hyes;have HS:=zH hs;have HT:=zH ht;have HG:Hid (∀k,k<n→(∃x,a[k]?=some x)∧∃y,b[k]?=some y):=zH fun k hk=>⟨Lay.fI (l:=a) (k:=k) (by rw[hs.len];exact hk),Lay.fI (l:=b) (k:=k) (by rw[ht.len];exact hk)⟩
 have hn63:n<9223372036854775807:=by
  have h:n*40≤140737488355328:=hs.big;omega
 clear hs ht hno hyes;generalize decide (a=b)=r at *
 have Hz:((n:Int) != (n:Int))=false:=by simp
 go_enter func88,ntmps88;go_wp2_with fail;go_loopw [5] (fun vi wr=>∃k:Nat,k≤n∧vi=.int .i64 k∧Hid (∀i,i<k→a[i]?=b[i]?)∧Hid (Kn w.heap.size w wr [] [])) (fun vi _=>n-(intOf vi).toNat)
 case atStart=>exact⟨0,Nat.zero_le _,rfl,zH (fun i hi=>by omega),HK⟩
 case round=>
  clear HK;obtain⟨k,hk,rfl,HE,HK⟩:=hrel;have hk1:(0:Int)≤(k:Int):=by omega
  by_cases hlt:k<n
  ·have hk2:(k:Int)<(n:Int):=by omega
   have hk3:k<9223372036854775807:=by omega
   obtain⟨⟨x,hx⟩,⟨y,hy⟩⟩:=HG.out k hlt;obtain⟨b1,o1,rfl,wM⟩:=HS.out.at (Nat.lt_of_le_of_lt (Nat.zero_le _) hlt);obtain⟨b2,o2,rfl,wL⟩:=HT.out.at (Nat.lt_of_le_of_lt (Nat.zero_le _) hlt);have HX:=zH (fun W hW=>wM W hW k x hx);have HY:=zH (fun W hW=>wL W hW k y hy);have xD:=zH (gP.out k x y hlt hx hy);have Cr:Hid (a[k]?=some x∧b[k]?=some y):=zH ⟨hx,hy⟩;clear wM wL hx hy gP HG;go_wp2_with fail;by_cases he:x=y
   ·have hb:(!decide (x=y))=false:=by rw[decide_eq_true he];rfl
    refine zR HK.out.drew fun ah=>?_
    refine ak 0 rfl ?_;refine ak 1 rfl ?_;refine ak 2 rfl ?_ fun _ s=>gM bg (i:=k) hlt
    refine ak 3 rfl ?_ fun _ s=>je bg (x:=x) (off:=o1+k*4) _ underlying26 (HX.out _ s.out.b)
    refine ak 4 rfl ?_;refine ak 5 rfl ?_;refine ak 6 rfl ?_ fun _ s=>gM bg (i:=k) hlt
    refine ak 7 rfl ?_ fun _ s=>je bg (x:=y) (off:=o2+k*4) _ underlying26 (HY.out _ s.out.b)
    refine ak 8 rfl ?_ fun _ s=>jF (v:=x) (u:=y) hb
    refine bW ?_;go_wp2_with refine au (aL (j:=k) hk3) ?_
    exact⟨⟨k+1,hlt,rfl,zH (fun i hi=>by
     by_cases hik:i=k
     ·subst hik;rw[Cr.out.1,Cr.out.2,he]
     ·exact HE.out i (by omega)),ah⟩,by simp[intOf];omega⟩
   ·have hb:(!decide (x=y))=true:=by rw[decide_eq_false he];rfl
    have HR:=zH (xD.out he);refine zR HK.out.drew fun ah=>?_
    refine ak 0 rfl ?_;refine ak 1 rfl ?_;refine ak 2 rfl ?_ fun _ s=>gM bg (i:=k) hlt
    refine ak 3 rfl ?_ fun _ s=>je bg (x:=x) (off:=o1+k*4) _ underlying26 (HX.out _ s.out.b)
    refine ak 4 rfl ?_;refine ak 5 rfl ?_;refine ak 6 rfl ?_ fun _ s=>gM bg (i:=k) hlt
    refine ak 7 rfl ?_ fun _ s=>je bg (x:=y) (off:=o2+k*4) _ underlying26 (HY.out _ s.out.b)
    refine ak 8 rfl ?_ fun _ s=>jF (v:=x) (u:=y) hb
    exact rQ
  ·obtain rfl:k=n:=by omega
   have HR:=zH (iL.out HE.out);exact rP
end
section
theorem PN(A B:Option Addr)(c n d m:Nat)(a b:List Rf)(w:World)(hs:bJ aG rF w A n c a)(ht:bJ aG rF w B m d b):
  Calls prog 89 #[.slice A n c,.slice B m d] w (cZ (decide (a=b)) w):=by
 have HK:=zH (Kn.start w);by_cases hnm:n=m
 case neg=>
  have hd:decide (a=b)=false:=decide_eq_false fun h=>hnm (by rw[← hs.len,← ht.len,h])
  rw[hd];have Hz:((n:Int) != (m:Int))=true:=by simp;omega
  clear hs ht hd;go_enter func89,ntmps89;exact iU
 case pos=>
 subst hnm;obtain⟨hno,hyes⟩:=Ev hs.len ht.len;have gP:=zH hno;have iL:=zH hyes;have HS:=zH hs;have HT:=zH ht;have HG:Hid (∀k,k<n→(∃x,a[k]?=some x)∧∃y,b[k]?=some y):=zH fun k hk=>⟨Lay.fI (l:=a) (k:=k) (by rw[hs.len];exact hk),Lay.fI (l:=b) (k:=k) (by rw[ht.len];exact hk)⟩
 have hn63:n<9223372036854775807:=by
  exact FV
 clear hs ht hno hyes;generalize decide (a=b)=r at *
 have Hz:((n:Int) != (n:Int))=false:=by simp
 go_enter func89,ntmps89;go_wp2_with fail;go_loopw [5] (fun vi wr=>∃k:Nat,k≤n∧vi=.int .i64 k∧Hid (∀i,i<k→a[i]?=b[i]?)∧Hid (Kn w.heap.size w wr [] [])) (fun vi _=>n-(intOf vi).toNat)
 case atStart=>exact⟨0,Nat.zero_le _,rfl,zH (fun i hi=>by omega),HK⟩
 case round=>
  clear HK;obtain⟨k,hk,rfl,HE,HK⟩:=hrel;have hk1:(0:Int)≤(k:Int):=by omega
  by_cases hlt:k<n
  ·have hk2:(k:Int)<(n:Int):=by omega
   have hk3:k<9223372036854775807:=by omega
   obtain⟨⟨x,hx⟩,⟨y,hy⟩⟩:=HG.out k hlt;obtain⟨b1,o1,rfl,wM⟩:=HS.out.at (Nat.lt_of_le_of_lt (Nat.zero_le _) hlt);obtain⟨b2,o2,rfl,wL⟩:=HT.out.at (Nat.lt_of_le_of_lt (Nat.zero_le _) hlt);have HX:=zH (fun W hW=>wM W hW k x hx);have HY:=zH (fun W hW=>wL W hW k y hy);have xD:=zH (gP.out k x y hlt hx hy);have Cr:Hid (a[k]?=some x∧b[k]?=some y):=zH ⟨hx,hy⟩;clear wM wL hx hy gP HG;go_wp2_with fail;by_cases he:x=y
   ·have hb:(!decide (x=y))=false:=by rw[decide_eq_true he];rfl
    refine zR HK.out.drew fun ah=>?_
    refine ak 0 rfl ?_;refine ak 1 rfl ?_;refine ak 2 rfl ?_ fun _ s=>dM (i:=k) hlt
    refine ak 3 rfl ?_ fun _ s=>bV (x:=x) (off:=o1+k*3) (HX.out _ s.out.b)
    refine ak 4 rfl ?_;refine ak 5 rfl ?_;refine ak 6 rfl ?_ fun _ s=>dM (i:=k) hlt
    refine ak 7 rfl ?_ fun _ s=>bV (x:=y) (off:=o2+k*3) (HY.out _ s.out.b)
    refine ak 8 rfl ?_ fun _ s=>lY (v:=x) (u:=y) hb
    refine bW ?_;go_wp2_with refine au (aL (j:=k) hk3) ?_
    exact⟨⟨k+1,hlt,rfl,zH (fun i hi=>by
     by_cases hik:i=k
     ·subst hik;rw[Cr.out.1,Cr.out.2,he]
     ·exact HE.out i (by omega)),ah⟩,by simp[intOf];omega⟩
   ·have hb:(!decide (x=y))=true:=by rw[decide_eq_false he];rfl
    have HR:=zH (xD.out he);refine zR HK.out.drew fun ah=>?_
    refine ak 0 rfl ?_;refine ak 1 rfl ?_;refine ak 2 rfl ?_ fun _ s=>dM (i:=k) hlt
    refine ak 3 rfl ?_ fun _ s=>bV (x:=x) (off:=o1+k*3) (HX.out _ s.out.b)
    refine ak 4 rfl ?_;refine ak 5 rfl ?_;refine ak 6 rfl ?_ fun _ s=>dM (i:=k) hlt
    refine ak 7 rfl ?_ fun _ s=>bV (x:=y) (off:=o2+k*3) (HY.out _ s.out.b)
    refine ak 8 rfl ?_ fun _ s=>lY (v:=x) (u:=y) hb
    exact rQ
  ·obtain rfl:k=n:=by omega
   have HR:=zH (iL.out HE.out);exact rP
end
section
theorem Kn.ahc{b0:Nat}{w0 w:World}{R:List dA}{a b:Nat×TypeId×Array Value}(h:Kn b0 w0 w [a,b] R):Kn b0 w0 w [b,a] R:=by
 refine h.pick (fun i=>1-i) id (fun i j hi hj h=>?_) (fun i j _ _ h=>h) (fun i x hx=>?_) (fun i x hx=>hx)
 ·simp at hi hj;omega
 ·match i,hx with
  | 0,hx=>exact hx
  | 1,hx=>exact hx
theorem rZ{b0:Nat}{w0 w:World}{L:List (Nat×TypeId×Array Value)}{R:List dA}{ops:Array Oper}{o:Oper}{a:Act}{Q:Exit→Act→World→Prop}{K:Act→World→Prop}{E:Prop}(HK:Hid (Kn b0 w0 w L R))
  (h:∀w' g,Hid (Kn b0 w0 w' (L++[(g,63,bS rU)]) R)→Hid (Below w.heap.size w w')→K (a.put o.dst (.pointer (some ⟨g,0,none⟩))) w') (hgd:o.guard=none:=by rfl)(ho:o.op=.alloc 63:=by rfl):if Region.wanted o (yielded ops a.tmps)=true then Oper.wp prog o a w K Q else E:=by
 rw[if_pos (by simp[Region.wanted,hgd])];have h4:=h _ w.heap.size (zH (HK.out.alloc 63 (bS rU))) (zH ((Below.refl _ w).alloc (Nat.le_refl _) _));have hr:(Instr.alloc 63 true (.tuple #[])).run prog w=.ok (.pointer (some ⟨w.heap.size,0,none⟩)) (w.alloc (.cells (bS rU) 63)):=aP.xO w;exact Zw
theorem bN{b0:Nat}{w0 w:World}{L:List (Nat×TypeId×Array Value)}{R:List dA}{ops:Array Oper}{o:Oper}{a:Act}{Q:Exit→Act→World→Prop}{K:Act→World→Prop}{E:Prop}{g:Nat}{x y:Oh}(HK:Hid (Kn b0 w0 w L R))(i:Nat){p:Operand}{q:Operand}
  (h:∀w',Hid (Kn b0 w0 w' (L.set i (g,63,bS y)) R)→K (a.put o.dst undef) w') (hgd:o.guard=none:=by rfl)(ho:o.op=.store 63 p q:=by rfl)(hL:L[i]?=some (g,63,bS x):=by rfl)(hx:a.eval p=.pointer (some ⟨g,0,none⟩):=by rfl)(hy:a.eval q=.agg (bS y):=by rfl):if Region.wanted o (yielded ops a.tmps)=true then Oper.wp prog o a w K Q else E:=
 LW aP (p2:=y) HK i hgd p q ho hL rfl hx hy h
theorem Pp(A B:Option Addr)(c n d m:Nat)(a b:List Oh)(w:World)(hs:bY w A n c a)(ht:bY w B m d b):
  Calls prog 44 #[.slice A n c,.slice B m d] w (cZ (decide (vs a=vs b)) w):=by
 have HK:=zH (Kn.start w);unfold cZ;by_cases hnm:n=m
 case neg=>
  have hd:decide (vs a=vs b)=false:=decide_eq_false fun h=>hnm (by rw[← hs.len,← ht.len,← fF a,← fF b,h])
  rw[hd];have Hz:((n:Int) != (m:Int))=true:=by simp;omega
  clear hs ht hd;go_enter func44,ntmps44;exact iU
 case pos=>
 subst hnm;obtain⟨hno,hyes⟩:=Ev (a:=vs a) (b:=vs b) (n:=n) (by rw[fF];exact hs.len) (by rw[fF];exact ht.len);have gP:=zH hno;have iL:=zH hyes;have HS:=zH hs;have HT:=zH ht;have hbig:n*144≤140737488355328:=hs.s.big;have hn63:n<9223372036854775807:=by omega
 have HP:=zH Sj;have HV:=zH Pf;have HR:=zH PN;unfold cZ at HP HV HR;clear hs ht hno hyes hbig;generalize decide (vs a=vs b)=r at *
 have Hz:((n:Int) != (n:Int))=false:=by simp
 go_enter func44,ntmps44;go_wp2_with fail;go_loopw [5] (fun vi wr=>∃k:Nat,k≤n∧vi=.int .i64 k∧Hid (∀i,i<k→(vs a)[i]?=(vs b)[i]?)∧Hid (Kn w.heap.size w wr [] [])) (fun vi _=>n-(intOf vi).toNat)
 case atStart=>exact⟨0,Nat.zero_le _,rfl,zH (fun i hi=>by omega),HK⟩
 case round=>
  clear HK;obtain⟨k,hk,rfl,HE,HK⟩:=hrel;have hk1:(0:Int)≤(k:Int):=by omega
  by_cases hlt:k<n
  case neg=>
   obtain rfl:k=n:=by omega
   have Ju:Hid (r=true):=zH (iL.out HE.out);exact Ej
  case pos=>
  have hk2:(k:Int)<(n:Int):=by omega
  have hk3:k<9223372036854775807:=by omega
  obtain⟨x,hx,hix⟩:=HS.out.get hlt;obtain⟨y,hy,hiy⟩:=HT.out.get hlt;obtain⟨b1,o1,rfl,wM⟩:=HS.out.s.at (Nat.lt_of_le_of_lt (Nat.zero_le _) hlt);obtain⟨b2,o2,rfl,wL⟩:=HT.out.s.at (Nat.lt_of_le_of_lt (Nat.zero_le _) hlt);have HX:Hid (∀W,Below w.heap.size w W→∀j v,(vR x)[j]?=some v→W.cell? ⟨b1,o1+k*11+j,none⟩=some v):=zH (fun W hW=>wM W hW k x hx);have HY:Hid (∀W,Below w.heap.size w W→∀j v,(vR y)[j]?=some v→W.cell? ⟨b2,o2+k*11+j,none⟩=some v):=zH (fun W hW=>wL W hW k y hy);have xD:=zH (gP.out k x.v y.v hlt (dL hx) (dL hy));have Cr:Hid (x.v=y.v→(vs a)[k]?=(vs b)[k]?):=zH fun h=>by rw[dL hx,dL hy,h]
  have FM:=zH hix;have oQ:=zH hiy;clear wM wL hx hy gP iL hix hiy HS HT;go_wp2_with fail;go_cut [6,7] (fun s6 s7 wx=>∃(gx gy:Nat),s6=.pointer (some ⟨gx,0,none⟩)∧s7=.pointer (some ⟨gy,0,none⟩)∧Hid (Kn w.heap.size w wx [(gx,63,bS x),(gy,63,bS y)] []))
  case first=>
   replace HK:=zH HK.out.drew;have HH:=HK;refine wp_region_held_drew (S:=(fun W=>Hid (Kn w.heap.size w W [] []))) (by kernel_rfl) ?_ fun ah=>?_
   ·(try dsimp only);exact HH
   refine ak 0 rfl ?_;refine ak 1 rfl ?_;refine ak 2 rfl ?_ fun _ s=>bL (i:=k) hlt
   refine ak 3 rfl ?_ fun _ s=>eB (off:=o1+k*11) (HX.out _ s.out.b)
   refine ak 4 rfl ?_;refine ak 5 rfl ?_;refine ak 6 rfl ?_ fun _ s=>bL (i:=k) hlt
   refine ak 7 rfl ?_ fun _ s=>eB (off:=o2+k*11) (HY.out _ s.out.b)
   refine jr 8 9 rfl rfl (fun K hK=>?_) fun K hK=>?_
   refine rZ HK ?_;clear HK;intro wA gx HK _;simp only[aO,aJ] at HK;have hs:=zH (HK.out.aA 0);refine bk hK hs fun ah=>?_
   clear hK K;refine aC 9 rfl fun K hK=>?_
   refine rZ HK ?_;clear HK;intro wA gy HK _;simp only[aO,aJ] at HK;have hs:=zH (HK.out.aA 0);refine bk hK hs fun ah=>?_
   clear hK K;refine aC 10 rfl fun K hK=>?_
   first|(refine bN HK 0 ?_;clear HK;intro _ HK;simp only[lS] at HK;have hs:=zH (HK.out.aA 0))|(refine bN HK 1 ?_;clear HK;intro _ HK;simp only[lS] at HK;have hs:=zH (HK.out.aA 0))
   refine bk hK hs fun ah=>?_
   clear hK K;refine aC 11 rfl fun K hK=>?_
   first|(refine bN HK 0 ?_;clear HK;intro _ HK;simp only[lS] at HK;have hs:=zH (HK.out.aA 0))|(refine bN HK 1 ?_;clear HK;intro _ HK;simp only[lS] at HK;have hs:=zH (HK.out.aA 0))
   refine bk hK hs fun ah=>?_
   clear hK K;refine bW ?_
   rotate_left
   refine rZ HK ?_;clear HK;intro wA gy HK _;simp only[aO,aJ] at HK;have hs:=zH (HK.out.aA 0);refine bk hK hs fun ah=>?_
   clear hK K;refine aC 8 rfl fun K hK=>?_
   refine rZ HK ?_;clear HK;intro wA gx HK _;simp only[aO,aJ] at HK;have hs:=zH (HK.out.aA 0);refine bk hK hs fun ah=>?_
   clear hK K;refine aC 10 rfl fun K hK=>?_
   first|(refine bN HK 0 ?_;clear HK;intro _ HK;simp only[lS] at HK;have hs:=zH (HK.out.aA 0))|(refine bN HK 1 ?_;clear HK;intro _ HK;simp only[lS] at HK;have hs:=zH (HK.out.aA 0))
   refine bk hK hs fun ah=>?_
   clear hK K;refine aC 11 rfl fun K hK=>?_
   first|(refine bN HK 0 ?_;clear HK;intro _ HK;simp only[lS] at HK;have hs:=zH (HK.out.aA 0))|(refine bN HK 1 ?_;clear HK;intro _ HK;simp only[lS] at HK;have hs:=zH (HK.out.aA 0))
   refine bk hK hs fun ah=>?_
   clear hK K;refine bW ?_
   rotate_left
   all_goals
    go_wp2_with fail;go_meet
    first
     | exact⟨gx,gy,rfl,rfl,HK⟩
     | exact⟨gx,gy,rfl,rfl,zH (Kn.ahc HK.out)⟩
  case rest=>
  clear HK HX HY;obtain⟨gx,gy,rfl,rfl,HK⟩:=hcut;obtain⟨⟨name,kind,cap,dP,vals,refs,round,⟨mn,ms,ml,mm⟩⟩,pA,pn,pc,vA,vn,vc,rA,rn,rc⟩:=x;obtain⟨⟨name',kind',cap',ahl,vals',refs',round',⟨mn',ms',ml',mm'⟩⟩,pA',pn',pc',vA',vn',vc',rA',rn',rc'⟩:=y;unfold bS at HK;simp only at HK xD Cr;by_cases hname:name=name'
  case neg=>
   have Ju:Hid (r=false):=zH (xD.out fun h=>hname (congrArg av.Ob.name h));have g:¬name.toList=name'.toList:=fun h=>hname (aK.toList_inj h)
   have c0:=HK.out.cell 0 rfl 0 (v:=.string name) rfl;have d0:=HK.out.cell 1 rfl 0 (v:=.string name') rfl;clear HP HV HR HE Cr xD hname;exact Ej
  case pos=>
  subst hname;by_cases hkind:kind=kind'
  case neg=>
   have Ju:Hid (r=false):=zH (xD.out fun h=>hkind (congrArg av.Ob.kind h));have g:(kind != kind')=true:=by simpa using hkind
   have c0:=HK.out.cell 0 rfl 0 (v:=.string name) rfl;have d0:=HK.out.cell 1 rfl 0 (v:=.string name) rfl;have c1:=HK.out.cell 0 rfl 1 (v:=.int .i64 kind) rfl;have d1:=HK.out.cell 1 rfl 1 (v:=.int .i64 kind') rfl;clear HP HV HR HE Cr xD hkind;exact Ej
  case pos=>
  subst hkind;by_cases hcap:cap=cap'
  case neg=>
   have Ju:Hid (r=false):=zH (xD.out fun h=>hcap (congrArg av.Ob.cap h));have g:(cap != cap')=true:=by simpa using hcap
   have c0:=HK.out.cell 0 rfl 0 (v:=.string name) rfl;have d0:=HK.out.cell 1 rfl 0 (v:=.string name) rfl;have c1:=HK.out.cell 0 rfl 1 (v:=.int .i64 kind) rfl;have d1:=HK.out.cell 1 rfl 1 (v:=.int .i64 kind) rfl;have c2:=HK.out.cell 0 rfl 2 (v:=.int .i64 cap) rfl;have d2:=HK.out.cell 1 rfl 2 (v:=.int .i64 cap') rfl;clear HP HV HR HE Cr xD hcap;exact Ej
  case pos=>
  subst hcap;by_cases EU:round=round'
  case neg=>
   have Ju:Hid (r=false):=zH (xD.out fun h=>EU (congrArg av.Ob.round h));have g:(round != round')=true:=by simpa using EU
   have c0:=HK.out.cell 0 rfl 0 (v:=.string name) rfl;have d0:=HK.out.cell 1 rfl 0 (v:=.string name) rfl;have c1:=HK.out.cell 0 rfl 1 (v:=.int .i64 kind) rfl;have d1:=HK.out.cell 1 rfl 1 (v:=.int .i64 kind) rfl;have c2:=HK.out.cell 0 rfl 2 (v:=.int .i64 cap) rfl;have d2:=HK.out.cell 1 rfl 2 (v:=.int .i64 cap) rfl;have c6:=HK.out.cell 0 rfl 6 (v:=.int .i64 round) rfl;have d6:=HK.out.cell 1 rfl 6 (v:=.int .i64 round') rfl;clear HP HV HR HE Cr xD EU;exact Ej
  case pos=>
  subst EU;by_cases hmn:mn=mn'
  case neg=>
   have Ju:Hid (r=false):=zH (xD.out fun h=>hmn (congrArg (fun o:av.Ob=>o.mt.n) h));have c0:=HK.out.cell 0 rfl 0 (v:=.string name) rfl;have d0:=HK.out.cell 1 rfl 0 (v:=.string name) rfl;have c1:=HK.out.cell 0 rfl 1 (v:=.int .i64 kind) rfl;have d1:=HK.out.cell 1 rfl 1 (v:=.int .i64 kind) rfl;have c2:=HK.out.cell 0 rfl 2 (v:=.int .i64 cap) rfl;have d2:=HK.out.cell 1 rfl 2 (v:=.int .i64 cap) rfl;have c6:=HK.out.cell 0 rfl 6 (v:=.int .i64 round) rfl;have d6:=HK.out.cell 1 rfl 6 (v:=.int .i64 round) rfl;have c7:=HK.out.cell 0 rfl 7 (v:=.int .i64 mn) rfl;have d7:=HK.out.cell 1 rfl 7 (v:=.int .i64 mn') rfl;have c8:=HK.out.cell 0 rfl 8 (v:=.int .u64 (ms:Int)) rfl;have d8:=HK.out.cell 1 rfl 8 (v:=.int .u64 (ms':Int)) rfl;exact abr
  case pos=>
  subst hmn;by_cases hms:ms=ms'
  case neg=>
   have Ju:Hid (r=false):=zH (xD.out fun h=>hms (congrArg (fun o:av.Ob=>o.mt.s) h));have g:¬(ms:Int)=(ms':Int):=by omega
   have c0:=HK.out.cell 0 rfl 0 (v:=.string name) rfl;have d0:=HK.out.cell 1 rfl 0 (v:=.string name) rfl;have c1:=HK.out.cell 0 rfl 1 (v:=.int .i64 kind) rfl;have d1:=HK.out.cell 1 rfl 1 (v:=.int .i64 kind) rfl;have c2:=HK.out.cell 0 rfl 2 (v:=.int .i64 cap) rfl;have d2:=HK.out.cell 1 rfl 2 (v:=.int .i64 cap) rfl;have c6:=HK.out.cell 0 rfl 6 (v:=.int .i64 round) rfl;have d6:=HK.out.cell 1 rfl 6 (v:=.int .i64 round) rfl;have c7:=HK.out.cell 0 rfl 7 (v:=.int .i64 mn) rfl;have d7:=HK.out.cell 1 rfl 7 (v:=.int .i64 mn) rfl;have c8:=HK.out.cell 0 rfl 8 (v:=.int .u64 (ms:Int)) rfl;have d8:=HK.out.cell 1 rfl 8 (v:=.int .u64 (ms':Int)) rfl;exact abr
  case pos=>
  subst hms;by_cases hml:ml=ml'
  case neg=>
   have Ju:Hid (r=false):=zH (xD.out fun h=>hml (congrArg (fun o:av.Ob=>o.mt.l) h));have g:¬(ml:Int)=(ml':Int):=by omega
   have c0:=HK.out.cell 0 rfl 0 (v:=.string name) rfl;have d0:=HK.out.cell 1 rfl 0 (v:=.string name) rfl;have c1:=HK.out.cell 0 rfl 1 (v:=.int .i64 kind) rfl;have d1:=HK.out.cell 1 rfl 1 (v:=.int .i64 kind) rfl;have c2:=HK.out.cell 0 rfl 2 (v:=.int .i64 cap) rfl;have d2:=HK.out.cell 1 rfl 2 (v:=.int .i64 cap) rfl;have c6:=HK.out.cell 0 rfl 6 (v:=.int .i64 round) rfl;have d6:=HK.out.cell 1 rfl 6 (v:=.int .i64 round) rfl;have c7:=HK.out.cell 0 rfl 7 (v:=.int .i64 mn) rfl;have d7:=HK.out.cell 1 rfl 7 (v:=.int .i64 mn) rfl;have c8:=HK.out.cell 0 rfl 8 (v:=.int .u64 (ms:Int)) rfl;have d8:=HK.out.cell 1 rfl 8 (v:=.int .u64 (ms:Int)) rfl;exact abr
  case pos=>
  subst hml;by_cases hmm:mm=mm'
  case neg=>
   have Ju:Hid (r=false):=zH (xD.out fun h=>hmm (congrArg (fun o:av.Ob=>o.mt.m) h));have g:¬(mm:Int)=(mm':Int):=by omega
   have c0:=HK.out.cell 0 rfl 0 (v:=.string name) rfl;have d0:=HK.out.cell 1 rfl 0 (v:=.string name) rfl;have c1:=HK.out.cell 0 rfl 1 (v:=.int .i64 kind) rfl;have d1:=HK.out.cell 1 rfl 1 (v:=.int .i64 kind) rfl;have c2:=HK.out.cell 0 rfl 2 (v:=.int .i64 cap) rfl;have d2:=HK.out.cell 1 rfl 2 (v:=.int .i64 cap) rfl;have c6:=HK.out.cell 0 rfl 6 (v:=.int .i64 round) rfl;have d6:=HK.out.cell 1 rfl 6 (v:=.int .i64 round) rfl;have c7:=HK.out.cell 0 rfl 7 (v:=.int .i64 mn) rfl;have d7:=HK.out.cell 1 rfl 7 (v:=.int .i64 mn) rfl;have c8:=HK.out.cell 0 rfl 8 (v:=.int .u64 (ms:Int)) rfl;have d8:=HK.out.cell 1 rfl 8 (v:=.int .u64 (ms:Int)) rfl;have c9:=HK.out.cell 0 rfl 9 (v:=.int .u64 (ml:Int)) rfl;have d9:=HK.out.cell 1 rfl 9 (v:=.int .u64 (ml:Int)) rfl;have c10:=HK.out.cell 0 rfl 10 (v:=.int .u64 (mm:Int)) rfl;have d10:=HK.out.cell 1 rfl 10 (v:=.int .u64 (mm':Int)) rfl;clear HP HV HR HE Cr xD;exact Ej
  case pos=>
  subst hmm;have c0:=HK.out.cell 0 rfl 0 (v:=.string name) rfl;have d0:=HK.out.cell 1 rfl 0 (v:=.string name) rfl;have c1:=HK.out.cell 0 rfl 1 (v:=.int .i64 kind) rfl;have d1:=HK.out.cell 1 rfl 1 (v:=.int .i64 kind) rfl;have c2:=HK.out.cell 0 rfl 2 (v:=.int .i64 cap) rfl;have d2:=HK.out.cell 1 rfl 2 (v:=.int .i64 cap) rfl;have c6:=HK.out.cell 0 rfl 6 (v:=.int .i64 round) rfl;have d6:=HK.out.cell 1 rfl 6 (v:=.int .i64 round) rfl;have c7:=HK.out.cell 0 rfl 7 (v:=.int .i64 mn) rfl;have d7:=HK.out.cell 1 rfl 7 (v:=.int .i64 mn) rfl;have c8:=HK.out.cell 0 rfl 8 (v:=.int .u64 (ms:Int)) rfl;have d8:=HK.out.cell 1 rfl 8 (v:=.int .u64 (ms:Int)) rfl;have c9:=HK.out.cell 0 rfl 9 (v:=.int .u64 (ml:Int)) rfl;have d9:=HK.out.cell 1 rfl 9 (v:=.int .u64 (ml:Int)) rfl;have c10:=HK.out.cell 0 rfl 10 (v:=.int .u64 (mm:Int)) rfl;have d10:=HK.out.cell 1 rfl 10 (v:=.int .u64 (mm:Int)) rfl;have c3:=HK.out.cell 0 rfl 3 (v:=.slice pA pn pc) rfl;have d3:=HK.out.cell 1 rfl 3 (v:=.slice pA' pn' pc') rfl;go_wp2_with fail;refine(HP.out _ _ _ _ _ _ _ _ _ (FM.out.p.later HK.out.b) (oQ.out.p.later HK.out.b)).mono ?_;rintro e w1 ⟨rfl,b1⟩;clear c0 d0 c1 d1 c2 d2 c6 d6 c7 d7 c8 d8 c9 d9 c10 d10 c3 d3;replace HK:=iy HK b1;clear b1;by_cases Yo:dP=ahl
  case neg=>
   have Ju:Hid (r=false):=zH (xD.out fun h=>Yo (congrArg av.Ob.dP h));rw[decide_eq_false Yo];exact Ej
  case pos=>
  rw[decide_eq_true Yo];have c4:=HK.out.cell 0 rfl 4 (v:=.slice vA vn vc) rfl;have d4:=HK.out.cell 1 rfl 4 (v:=.slice vA' vn' vc') rfl;go_wp2_with fail;refine(HV.out _ _ _ _ _ _ _ _ _ (FM.out.v.later HK.out.b) (oQ.out.v.later HK.out.b)).mono ?_;rintro e w1 ⟨rfl,b1⟩;clear c4 d4;replace HK:=iy HK b1;clear b1;by_cases MR:vals=vals'
  case neg=>
   have Ju:Hid (r=false):=zH (xD.out fun h=>MR (congrArg av.Ob.vals h));rw[decide_eq_false MR];exact Ej
  case pos=>
  rw[decide_eq_true MR];have c5:=HK.out.cell 0 rfl 5 (v:=.slice rA rn rc) rfl;have d5:=HK.out.cell 1 rfl 5 (v:=.slice rA' rn' rc') rfl;go_wp2_with fail;refine(HR.out _ _ _ _ _ _ _ _ _ (FM.out.r.later HK.out.b) (oQ.out.r.later HK.out.b)).mono ?_;rintro e w1 ⟨rfl,b1⟩;clear c5 d5;replace HK:=iy HK b1;clear b1;by_cases hrefs:refs=refs'
  case neg=>
   have Ju:Hid (r=false):=zH (xD.out fun h=>hrefs (congrArg av.Ob.refs h));rw[decide_eq_false hrefs];exact Ej
  case pos=>
  rw[decide_eq_true hrefs];have HEk:=zH (Cr.out (by rw[Yo,MR,hrefs]));go_wp2_with refine zX (aL (j:=k) hk3) ?_
  exact⟨⟨k+1,by omega,by go_num,zH (fun i hi=>by
   by_cases hik:i=k
   ·rw[hik];exact HEk.out
   ·exact HE.out i (by omega)),zH (HK.out.aA 0)⟩,by simp[intOf];omega⟩
end
end Go.Proofs.YtieoeendnccafaaGreat
