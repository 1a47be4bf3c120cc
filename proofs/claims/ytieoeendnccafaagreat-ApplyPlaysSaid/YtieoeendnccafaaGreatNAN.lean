/- What slices.Grow of the nil slice, slices.Concat of pairs return. No condition but those named. -/
import Derived.Test.YtieoeendnccafaaGreatNAM
set_option linter.unusedSimpArgs false
set_option linter.unusedVariables false
set_option maxRecDepth 100000
set_option maxHeartbeats 25600000
open Go.RowKit
namespace Go.Proofs.YtieoeendnccafaaGreat
open _root_.Go.Proofs.Tryz
section
section
variable {b0:Nat}{w0 w:World}{L:List (Nat×TypeId×Array Value)}{R:List dA}{o:Oper}{a:Act}{g:Nat}{c:aF.C}
theorem zD(HK:Hid (Kn b0 w0 w L R))(i:Nat){p:Operand}(ho:o.op=.load 37 p:=by rfl)(hL:L[i]?=some (g,37,dh c):=by rfl)(hx:a.eval p=.pointer (some ⟨g,0,none⟩):=by rfl):
  (execOp a.eval o).run prog w=.ok (.value (.agg (dh c))) w:=dU HK p ho i hL hx (dh c) (fun j _=>by rw[Nat.zero_add]) underlying37 MO
theorem bK(HK:Hid (Kn b0 w0 w L R))(i:Nat){p:Operand}(ho:o.op=.load 3 p:=by rfl)(hL:L[i]?=some (g,37,dh c):=by rfl)(hx:a.eval p=.pointer (some ⟨g,0,none⟩):=by rfl):
  (execOp a.eval o).run prog w=.ok (.value (.int .i64 c.k)) w:=aV HK _ p ho i hL hx underlying3
theorem ko(HK:Hid (Kn b0 w0 w L R))(i:Nat){p:Operand}(ho:o.op=.load 9 p:=by rfl)(hL:L[i]?=some (g,37,dh c):=by rfl)(hx:a.eval p=.pointer (some ⟨g,1,none⟩):=by rfl):
  (execOp a.eval o).run prog w=.ok (.value (.string c.name)) w:=aV HK _ p ho i hL hx underlying9
theorem yP(HK:Hid (Kn b0 w0 w L R))(i:Nat){p:Operand}(ho:o.op=.load 9 p:=by rfl)(hL:L[i]?=some (g,37,dh c):=by rfl)(hx:a.eval p=.pointer (some ⟨g,2,none⟩):=by rfl):
  (execOp a.eval o).run prog w=.ok (.value (.string c.key)) w:=aV HK _ p ho i hL hx underlying9
theorem aaD(HK:Hid (Kn b0 w0 w L R))(i:Nat){p:Operand}(ho:o.op=.load 24 p:=by rfl)(hL:L[i]?=some (g,37,dh c):=by rfl)(hx:a.eval p=.pointer (some ⟨g,5,none⟩):=by rfl):
  (execOp a.eval o).run prog w=.ok (.value (.int .u64 (c.val.f:Int))) w:=aV HK _ p ho i hL hx underlying24
theorem MK(HK:Hid (Kn b0 w0 w L R))(i:Nat){p:Operand}(ho:o.op=.load 3 p:=by rfl)(hL:L[i]?=some (g,37,dh c):=by rfl)(hx:a.eval p=.pointer (some ⟨g,11,none⟩):=by rfl):
  (execOp a.eval o).run prog w=.ok (.value (.int .i64 c.n)) w:=aV HK _ p ho i hL hx underlying3
theorem aaE(HK:Hid (Kn b0 w0 w L R))(i:Nat){p:Operand}(ho:o.op=.load 3 p:=by rfl)(hL:L[i]?=some (g,37,dh c):=by rfl)(hx:a.eval p=.pointer (some ⟨g,12,none⟩):=by rfl):
  (execOp a.eval o).run prog w=.ok (.value (.int .i64 c.m)) w:=aV HK _ p ho i hL hx underlying3
theorem Du(HK:Hid (Kn b0 w0 w L R))(i:Nat){p:Operand}(ho:o.op=.load 26 p:=by rfl)(hL:L[i]?=some (g,37,dh c):=by rfl)(hx:a.eval p=.pointer (some ⟨g,3,none⟩):=by rfl):
  (execOp a.eval o).run prog w=.ok (.value (.agg #[.int .i64 c.val.k,.int .i64 c.val.n,.int .u64 (c.val.f:Int),.string c.val.s])) w:=
 dU HK p ho i hL hx #[.int .i64 c.val.k,.int .i64 c.val.n,.int .u64 (c.val.f:Int),.string c.val.s] (fun j hj=>by
  match j,hj with
  | 0,_|1,_|2,_|3,_=>rfl) underlying26 iT
theorem aaC(HK:Hid (Kn b0 w0 w L R))(i:Nat){p:Operand}(ho:o.op=.load 26 p:=by rfl)(hL:L[i]?=some (g,37,dh c):=by rfl)(hx:a.eval p=.pointer (some ⟨g,7,none⟩):=by rfl):
  (execOp a.eval o).run prog w=.ok (.value (.agg #[.int .i64 c.old.k,.int .i64 c.old.n,.int .u64 (c.old.f:Int),.string c.old.s])) w:=
 dU HK p ho i hL hx #[.int .i64 c.old.k,.int .i64 c.old.n,.int .u64 (c.old.f:Int),.string c.old.s] (fun j hj=>by
  match j,hj with
  | 0,_|1,_|2,_|3,_=>rfl) underlying26 iT
end
theorem dH{w:World}{o:Oper}{a:Act}{x k:Int}{b:Bool}{p:Operand}(hb:decide (x<k)=b)(ho:o.op=.binOp .lss 3 p (.const (.int .i64 k)) 3:=by rfl)(hp:a.eval p=.int .i64 x:=by rfl):
  (execOp a.eval o).run prog w=.ok (.value (.bool b)) w:=by
 exact Rz
def QG(x:Int)(w:World)(e:Ending)(w':World):Prop:=e=.returned (.int .i64 x)∧Below w.heap.size w w'
theorem Fx(A:Option Addr)(c n:Nat)(l:List Oh)(k:Int)(w:World)(hs:bY w A n c l):
  Calls prog 231 #[.slice A n c,.int .i64 k] w (QG (av.Fw (l[0]?.map (·.v)) k) w):=by
 unfold QG;have HK:=zH (Kn.start w);have HF:=zH OC;unfold cZ at HF
 rcases Nat.eq_zero_or_pos n with h0|hpos
 ·subst h0
  obtain rfl:l=[]:=List.length_eq_zero_iff.1 hs.len
  show Calls _ _ _ _ fun e w'=>e=.returned (.int .i64 5)∧Below w.heap.size w w'
  clear hs;go_enter func231,ntmps231;exact iU
 obtain⟨x,hx,hin⟩:=hs.get hpos;obtain⟨b,o,rfl,hat⟩:=hs.s.at hpos
 have HX:Hid (∀W,Below w.heap.size w W→∀j v,(vR x)[j]?=some v→W.cell? ⟨b,o+j,none⟩=some v):=zH fun W hW j v hv=>by
  have h:=hat W hW 0 x hx j v hv
  rwa [Nat.zero_mul,Nat.add_zero] at h
 have hr:x.v.refs.length=x.rn:=hin.r.len;rw[hx,Option.map_some];unfold av.Fw;simp only;rw[hr];have h1:((n:Int)==0)=false:=by simpa using (by omega:¬(n:Int)=0)
 have h2:(0:Int)<(n:Int):=by omega
 clear hs hx hin hat hr;generalize hq:av.fits k x.v.kind=q;have HQ:=zH hq;clear hq;cases q
 ·rw[if_pos rfl]
  go_enter func231,ntmps231;go_wp2_with refine zX (eD (x:=x) (off:=o) (HX.out _ HK.out.b)) ?_;refine(HF.out _ _ _).mono ?_;rintro e w1 ⟨rfl,b1⟩;rw[HQ.out];replace HK:=iy HK b1;clear b1;exact iU
 rw[if_neg (by simp)];by_cases h5:k=5
 ·subst h5
  by_cases h6:0<x.rn
  ·rw[if_pos ⟨rfl,h6⟩]
   go_enter func231,ntmps231;go_wp2_with refine zX (eD (x:=x) (off:=o) (HX.out _ HK.out.b)) ?_;refine(HF.out _ _ _).mono ?_;rintro e w1 ⟨rfl,b1⟩;rw[HQ.out];replace HK:=iy HK b1;clear b1;go_wp2_with refine zX (lZ (x:=x) (off:=o) (HX.out _ HK.out.b)) ?_;exact lQ
  ·rw[if_neg (fun g=>h6 g.2)]
   go_enter func231,ntmps231;go_wp2_with refine zX (eD (x:=x) (off:=o) (HX.out _ HK.out.b)) ?_;refine(HF.out _ _ _).mono ?_;rintro e w1 ⟨rfl,b1⟩;rw[HQ.out];replace HK:=iy HK b1;clear b1;go_wp2_with refine zX (lZ (x:=x) (off:=o) (HX.out _ HK.out.b)) ?_;exact lQ
 ·rw[if_neg (fun g=>h5 g.1)]
  go_enter func231,ntmps231;go_wp2_with refine zX (eD (x:=x) (off:=o) (HX.out _ HK.out.b)) ?_;refine(HF.out _ _ _).mono ?_;rintro e w1 ⟨rfl,b1⟩;rw[HQ.out];replace HK:=iy HK b1;clear b1;go_wp2_with refine zX (lZ (x:=x) (off:=o) (HX.out _ HK.out.b)) ?_;exact lQ
theorem RI(l:List Oh)(p q:Nat):(((l.drop p).take q)[0]?).map (·.v)=(((vs l).drop p).take q)[0]?:=by
 unfold vs;rw[← List.map_drop,← List.map_take,List.getElem?_map]
theorem Ke(A:Option Addr)(cp n:Nat)(l:List Oh)(r:Rf)(c:aF.C)(w:World)(hs:bY w A n cp l)(hv:c.val.f<18446744073709551616)(ho:c.old.f<18446744073709551616):
  Calls prog 190 #[.slice A n cp,.agg #[.int .i64 r.c,.int .i64 r.e,.int .i64 r.r],.agg (dh c)] w (QG (av.bG (vs l) r c) w):=by
 unfold QG;have HM:=zH (fun W (hW:Below w.heap.size w W)=>vE A cp n l W (hs.later hW));have HC:=zH (fun W=>wX r W);have HE:=zH (fun W=>Nz c W hv ho);have HP:=zH (fun W (hW:Below w.heap.size w W)=>Az A cp n l c.name w W hs hW);have HN:=zH wZ;have HO:=zH Fx;have hlen:(vs l).length=n:=by rw[fF];exact hs.len
 have HK:=kX w 35 #[.int .i64 r.c,.int .i64 r.e,.int .i64 r.r] 37 (dh c);have HSub:=zH (RI l);clear hs hv ho;unfold cZ at HM HC;unfold gX at HE;unfold QG at HO;unfold xB at HP;by_cases hr:av.Right (vs l)
 case neg=>
  rw[decide_eq_false hr] at HM;rw[av.uz (fun g=>hr g.1)];clear hr HC HE HP HN HO HSub;go_enter func190,ntmps190;go_wp2_with fail
  (refine(HM.out _ HK.out.b).mono ?_;rintro e w1 ⟨rfl,b1⟩)
  replace HK:=iy HK b1;clear b1;exact iU
 case pos=>
 rw[decide_eq_true hr] at HM;by_cases hk:aS.ok r
 case neg=>
  rw[decide_eq_false hk] at HC;rw[av.uz (fun g=>hk g.2.1)];clear hr hk HE HP HN HO HSub;go_enter func190,ntmps190;go_wp2_with fail
  (refine(HM.out _ HK.out.b).mono ?_;rintro e w1 ⟨rfl,b1⟩)
  replace HK:=iy HK b1;clear b1;go_wp2_with refine zX (aB HK 0) ?_;refine cb (HC.out _) HK ?_;clear HK;intro _ HK;exact iU
 case pos=>
 rw[decide_eq_true hk] at HC;by_cases h4:c.k<4
 ·rw[av.uz (fun g=>by omega)]
  have D4:=zH (decide_eq_true h4);have tK:Hid (decide (17<c.k)=decide (17<c.k)):=zH rfl;clear hr hk HE HP HN HO HSub h4;go_enter func190,ntmps190;go_wp2_with fail
  (refine(HM.out _ HK.out.b).mono ?_;rintro e w1 ⟨rfl,b1⟩)
  replace HK:=iy HK b1;clear b1;go_wp2_with refine zX (aB HK 0) ?_;refine cb (HC.out _) HK ?_;clear HK;intro _ HK;go_wp2_with (first|refine zX (bK HK 1) ?_|refine zX (dH (x:=c.k) (k:=4) D4.out) ?_|refine zX (dz (x:=c.k) (k:=17) tK.out) ?_);exact lQ
 by_cases Ib:17<c.k
 ·rw[av.uz (fun g=>by omega)]
  have D4:=zH (decide_eq_false h4);have tK:=zH (decide_eq_true Ib);clear hr hk HE HP HN HO HSub h4 Ib;go_enter func190,ntmps190;go_wp2_with fail
  (refine(HM.out _ HK.out.b).mono ?_;rintro e w1 ⟨rfl,b1⟩)
  replace HK:=iy HK b1;clear b1;go_wp2_with refine zX (aB HK 0) ?_;refine cb (HC.out _) HK ?_;clear HK;intro _ HK;go_wp2_with (first|refine zX (bK HK 1) ?_|refine zX (dH (x:=c.k) (k:=4) D4.out) ?_|refine zX (dz (x:=c.k) (k:=17) tK.out) ?_);exact lQ
 have hall:av.Right (vs l)∧aS.ok r∧4≤c.k∧c.k≤17:=⟨hr,hk,by omega,by omega⟩;have D4:=zH (decide_eq_false h4);have tK:=zH (decide_eq_false Ib);clear h4 Ib;by_cases he:aF.bG c=0
 case neg=>
  rw[av.Fv hall he];have he2:(aF.bG c != 0)=true:=by simpa using he
  clear hr hk hall HP HN HO HSub he;generalize aF.bG c=z at *
  go_enter func190,ntmps190;go_wp2_with fail
  (refine(HM.out _ HK.out.b).mono ?_;rintro e w1 ⟨rfl,b1⟩)
  replace HK:=iy HK b1;clear b1;go_wp2_with refine zX (aB HK 0) ?_;refine cb (HC.out _) HK ?_;clear HK;intro _ HK;go_wp2_with (first|refine zX (bK HK 1) ?_|refine zX (dH (x:=c.k) (k:=4) D4.out) ?_|refine zX (dz (x:=c.k) (k:=17) tK.out) ?_|refine zX (zD HK 1) ?_);refine cb (HE.out _) HK ?_;clear HK;intro _ HK;exact iU
 case pos=>
 rw[he] at HE;have hown:=av.TD hr.up c.name;have hsome:=av.GD hr.up c.name;by_cases Ch:c.k=4
 ·rw[av.wY hall he Ch]
  unfold av.IU;rw[hsome,hlen];have hk4:(c.k==4)=true:=by simpa using Ch
  clear hr hk hall HO HSub he hown hsome hlen Ch;have WW:=zH (av.kQ (vs l) c.name);generalize av.fin (vs l) c.name=q at *
  generalize av.idx (vs l) c.name=p at *
  have Jv:=zH (fun(B:Option Addr) (m d:Nat) (W:World) (h:decide (0<q-p)=decide (0<m))=>wZ A B n cp m d _ W h);clear HN;generalize (if decide (0<q-p)=true then (8:Int) else if n=8 then 6 else 0)=z at *
  go_enter func190,ntmps190;go_wp2_with fail
  (refine(HM.out _ HK.out.b).mono ?_;rintro e w1 ⟨rfl,b1⟩)
  replace HK:=iy HK b1;clear b1;go_wp2_with refine zX (aB HK 0) ?_;refine cb (HC.out _) HK ?_;clear HK;intro _ HK;go_wp2_with (first|refine zX (bK HK 1) ?_|refine zX (dH (x:=c.k) (k:=4) D4.out) ?_|refine zX (dz (x:=c.k) (k:=17) tK.out) ?_|refine zX (zD HK 1) ?_);refine cb (HE.out _) HK ?_;clear HK;intro _ HK;go_wp2_with refine zX (ko HK 1) ?_;refine(HP.out _ HK.out.b).mono ?_;rintro e w1 ⟨A1,n1,c1,A2,n2,c2,A3,n3,c3,rfl,s1,s2,s3,b1⟩;replace HK:=iy HK b1;clear b1
  have fB:Hid (decide (0<q-p)=decide (0<n2)):=zH (by
   have h1:=s2.len;rw[List.length_take,List.length_drop,← fF] at h1;rw[← h1];have:=WW.out
   congr 1
   rw[eq_iff_iff]
   omega)
  clear s1 s2 s3 HP;go_wp2_with refine zX (bK HK 1) ?_;refine cb (Jv.out A2 n2 c2 _ fB.out) HK ?_;clear HK;intro _ HK;exact iU
 ·rw[av.uy hall he Ch]
  rw[← hown,← HSub.out];have hk4:(c.k==4)=false:=by simpa using Ch
  clear hr hk hall HN HSub he hown hsome hlen Ch;generalize av.fin (vs l) c.name=q at *
  generalize av.idx (vs l) c.name=p at *
  go_enter func190,ntmps190;go_wp2_with fail
  (refine(HM.out _ HK.out.b).mono ?_;rintro e w1 ⟨rfl,b1⟩)
  replace HK:=iy HK b1;clear b1;go_wp2_with refine zX (aB HK 0) ?_;refine cb (HC.out _) HK ?_;clear HK;intro _ HK;go_wp2_with (first|refine zX (bK HK 1) ?_|refine zX (dH (x:=c.k) (k:=4) D4.out) ?_|refine zX (dz (x:=c.k) (k:=17) tK.out) ?_|refine zX (zD HK 1) ?_);refine cb (HE.out _) HK ?_;clear HK;intro _ HK;go_wp2_with refine zX (ko HK 1) ?_;refine(HP.out _ HK.out.b).mono ?_;rintro e w1 ⟨A1,n1,c1,A2,n2,c2,A3,n3,c3,rfl,s1,s2,s3,b1⟩;replace HK:=iy HK b1;clear b1;have HS2:=zH s2;clear s1 s2 s3 HP;go_wp2_with refine zX (bK HK 1) ?_;refine cb (HO.out _ _ _ _ _ _ (HS2.out.later HK.out.b)) HK ?_;clear HK;intro _ HK;exact iU
end
section
theorem Fit.pt{l:List aK.Pr}(h:Fit l){k:ByteArray}{v:Val.V}(hv:v.f<18446744073709551616):Fit (aK.uL l k v):=by
 unfold aK.uL
 split
 next h0=>
  unfold aK.rT at h0
  split at h0
  next hr=>
   split at h0
   next hp=>
    split at h0
    next hn=>exact h.ins hr.up k hv hn
    next=>cases h0
   next hp=>exact absurd h0 hp
  next=>cases h0
 next=>exact h
theorem Fit.ct{l:List aK.Pr}(h:Fit l)(k:ByteArray):Fit (aK.Qo l k):=by
 unfold aK.Qo
 split
 ·exact h.wo k
 ·exact h
theorem Fit.sw{l:List aK.Pr}(h:Fit l){k:ByteArray}{o v:Val.V}(hv:v.f<18446744073709551616):Fit (aK.FP l k o v):=by
 by_cases hr:aK.Right l
 ·by_cases ho:aK.pK l k=o
  ·by_cases KS:v=aK.emp
   ·subst KS;rw[(aK.JX hr ho).2.1];exact h.wo k
   ·rw[(aK.JW hr ho KS).2.1];exact h.pt hv
  ·rw[(aK.xK hr v ho).2.1];exact h
 ·rw[(aK.JY hr k o v).2.1];exact h
theorem Nc{l:List Rf}{r:Rf}(h:Fits aG rF l):Fits aG rF (aS.CF l r):=by
 unfold aS.CF
 split
 next h0=>
  unfold aS.yY at h0
  split at h0
  next hr=>
   have h1:=aS.fG hr.1;refine⟨fun x hx=>trivial,?_⟩;rw[List.length_append]
   show(l.length+1)*24≤_
   omega
  next=>cases h0
 next=>exact h
theorem Nh{l:List Rf}{r:Rf}(h:Fits aG rF l):Fits aG rF (aS.Ci l r):=by
 unfold aS.Ci
 split
 ·exact h.sub (fun x hx=>List.mem_of_mem_drop hx) (by rw[List.length_drop];omega)
 ·exact h
theorem Ni{l:List Rf}{r:Rf}(h:Fits aG rF l):Fits aG rF (aS.pF l r):=by
 unfold aS.pF
 split
 ·exact h.sub (fun x hx=>(List.mem_filter.1 hx).1) (aS.vU l r)
 ·exact h
theorem qd{l:List Rf}(h:l.length≤6):Fits aG rF l:=⟨fun x hx=>trivial,by show l.length*24≤_;omega⟩
theorem Nb{m:Int}{l:List Rf}{r:Rf}(h:Fits aG rF l):Fits aG rF (Gt.Em m l r)∧Fits aG rF (Gt.zk m l r):=by
 by_cases he:Gt.qB m l r=0
 ·obtain⟨h1,h2,h3⟩:=Gt.Cv he
  have h5:=aS.fG h1.2.2.2;have h6:(l++[r]).length≤6:=by rw[List.length_append];show l.length+1≤6;omega
  by_cases hf:(l.length:Int)+1=m
  ·obtain⟨_,e2,e3⟩:=Gt.oz h1 h2 h3 hf
   rw[e2,e3];exact⟨qd (Nat.zero_le _),qd h6⟩
  ·obtain⟨_,e2,e3⟩:=Gt.ow h1 h2 h3 hf
   rw[e2,e3];exact⟨qd h6,qd (Nat.zero_le _)⟩
 ·obtain⟨_,e2,e3⟩:=Gt.vT (z:=Gt.qB m l r) rfl he
  rw[e2,e3];exact⟨h,qd (Nat.zero_le _)⟩
theorem Ii{m:Int}{l:List Rf}{r:Rf}(h:Fits aG rF l):Fits aG rF (Gt.pF m l r):=by
 unfold Gt.pF
 split
 ·exact h.sub (fun x hx=>(List.mem_filter.1 hx).1) (aS.vU l r)
 ·exact h
theorem Nf{N:Int}{l:List Val.V}{v:Val.V}(h:Fits bg vF l)(hv:vF v):Fits bg vF (dK.xV N l v):=by
 unfold dK.xV
 split
 next h0=>
  unfold dK.uM at h0
  split at h0
  next hr=>
   have h1:=hr.len;have h2:=hr.hi;refine⟨fun x hx=>?_,?_⟩
   ·rcases List.mem_append.1 hx with hx|hx
    ·exact h.fs x hx
    ·rw[List.mem_singleton] at hx;subst hx;exact hv
   ·rw[List.length_append]
    show(l.length+1)*40≤_
    omega
  next=>cases h0
 next=>exact h
theorem Ng{N:Int}{l:List Val.V}(h:Fits bg vF l):Fits bg vF (dK.Jq N l):=by
 unfold dK.Jq
 split
 ·exact h.sub (fun x hx=>List.mem_of_mem_drop hx) (by rw[List.length_drop];omega)
 ·exact h
end
section
theorem Uo:(prog.info? 59).map (fun i=>(i.zero,i.size))=some (some (Value.slice none 0 0),1):=by kernel_rfl
def nD:Cn aG where
 tt:=154
 und:=underlying154
 info:=Uo
end
section
theorem yK(x:Rf)(w:World):Calls prog 255 #[.agg #[.int .i64 x.c,.int .i64 x.e,.int .i64 x.r]] w (fun e w'=>e=.returned (.agg #[.int .i64 x.c,.int .i64 x.e,.int .i64 0])∧Below w.heap.size w w'):=by
 have HK:=zH (iK w 35 #[.int .i64 x.c,.int .i64 x.e,.int .i64 x.r]).out;go_enter func255,ntmps255;go_wp2_with (first|(refine aQ HK ?_;clear HK;intro _ g1 HK;simp only[aO,aJ] at HK)|refine zX (fH HK 0) ?_|refine zX (Dt HK 0) ?_|(refine aW HK 1 ?_;clear HK;intro _ HK;simp only[lS] at HK));exact aaq results255 rfl rfl (HK.out.blk 1 rfl) ⟨rfl,HK.out.b⟩
theorem vI(A:Option Addr)(c n:Nat)(l:List Rf)(w:World)(hs:bJ aG rF w A n c l):
  Calls prog 228 #[.slice A n c] w (fun e w'=>e=.returned (.tuple #[.agg #[.int .i64 (l.headD aS.zero).c,.int .i64 (l.headD aS.zero).e,.int .i64 (l.headD aS.zero).r],.bool (decide (0<n))])∧Below w.heap.size w w'):=by
 have HK:=zH (Kn.start w);by_cases h0:n=0
 ·subst h0
  obtain rfl:=List.length_eq_zero_iff.1 hs.len;clear hs;go_enter func228,ntmps228;go_wp2_with (first|(refine aQ HK ?_;clear HK;intro _ g1 HK;simp only[aO,aJ] at HK)|(refine aW HK 0 ?_;clear HK;intro _ HK;simp only[lS] at HK));exact Zz
 ·have hpos:0<n:=by omega
  obtain⟨x,hx,_⟩:=hs.get hpos;obtain⟨b,o,rfl,hat⟩:=hs.at hpos;have HX:=zH (fun W hW=>hat W hW 0 x hx);rw[aS.kN hx,decide_eq_true hpos];have hz:((n:Int)==0)=false:=by simp;omega
  have hn1:(0:Int)<(n:Int):=by omega
  clear hs hat hx h0 hpos;go_enter func228,ntmps228;go_wp2_with (first|(refine aQ HK ?_;clear HK;intro _ g1 HK;simp only[aO,aJ] at HK)|refine zX (bV (x:=x) (off:=o+0*3) (HX.out _ HK.out.b)) ?_|(refine aW HK 0 ?_;clear HK;intro _ HK;simp only[lS] at HK));exact Zz
end
section
theorem OW(n:Nat)(w:World)(h24:n*24≤140737488355328):Calls prog 112 #[.slice none 0 0,.int .i64 n] w fun e w'=>∃A c,e=.returned (.slice A 0 c)∧aG.Own w.heap.size w' (.slice A 0 c) []∧Below w.heap.size w w':=by
 by_cases h0:n=0
 ·subst h0
  have HK:=zH (Kn.start w);clear h24;go_enter func112,ntmps112;exact QX
 obtain⟨i0,hi,hz0,hz1,hz2⟩:=info_parts aG.info;have hc1:=grownCap_ge w n 0 35;have hr:=Lib.run_append_nil_zeros (P:=prog) w 59 3 59 35 i0 aG.z .i64 .i64 aG.und underlying3 hi hz0 n (by omega) (by rw[hz1];decide) (by omega) (by rw[hz2];show n*24≤_;omega);have HR:=zH hr;have hc2:=grownCap_le_maxLen w n 0 35 (by unfold maxLen;omega);generalize grownCap w n 0 35=G at *
 have HO:Hid (aG.Own w.heap.size (w.drew.alloc (.cells (Builtin.zeroCells aG.z.cells n++Builtin.zeroCells aG.z.cells (G-n)) 35)) (.slice (some ⟨w.heap.size,0,none⟩) 0 G) []):=by
  have:=World.ownsRow_made (base:=w.heap.size) (e:=35) (size:=3) w.drew (Builtin.zeroCells aG.z.cells n++Builtin.zeroCells aG.z.cells (G-n)) G (Nat.le_refl _) hc2 (by
   rw[Array.size_append,size_zeroCells,size_zeroCells];have:aG.z.cells.size=3:=rfl
   rw[this];omega)
  exact zH this
 have HB:Hid (Below w.heap.size w (w.drew.alloc (.cells (Builtin.zeroCells aG.z.cells n++Builtin.zeroCells aG.z.cells (G-n)) 35))):=zH ((Below.refl _ w).drew.alloc (Nat.le_refl _) _);generalize w.drew.alloc (.cells (Builtin.zeroCells aG.z.cells n++Builtin.zeroCells aG.z.cells (G-n)) 35)=wz at *
 clear hr hi hz0 hz1 hz2 hc1 hc2;have h1:¬((n:Int)<0):=by omega
 have h2:(0:Int)<(n:Int):=by omega
 have h3:wrap64 (n:Int)=(n:Int):=by unfold wrap64;omega
 go_enter func112,ntmps112;exact Rh
theorem jA:Joins prog 59 aG rF:=by
 intro g m ps w hm hb hg hc hs ht;replace ht:(dN ps).length*24≤140737488355328:=ht
 have iA:Hid (∀k,k<m→∃p,ps[k]?=some p∧bJ aG rF w p.A p.n p.c p.l∧∀W,Below w.heap.size w W→W.cell? ⟨g,k,none⟩=some (.slice p.A p.n p.c)):=zH fun k hk=>by
  exact Jy
 have HLen:Hid (∀k,(dN (ps.take k)).length*24≤140737488355328):=zH fun k=>Nat.le_trans (Nat.mul_le_mul_right _ (uD ps k)) ht
 have jo:Hid (ps.take m=ps):=zH (by rw[← hm];exact List.take_length);have HG:=zH (fun W=>OW (dN ps).length W ht);clear hc hs ht hm hg;go_enter func59,ntmps59;go_wp2_with fail;go_loopw [3,11] (fun vs vi wr=>∃k:Nat,k≤m∧vs=.int .i64 ((dN (ps.take k)).length:Nat)∧vi=.int .i64 k∧w=wr) (fun _ vi _=>m-(intOf vi).toNat)
 case atStart=>exact⟨0,Nat.zero_le _,rfl,rfl,rfl⟩
 case round=>
  obtain⟨k,hk,rfl,rfl,rfl⟩:=hrel;by_cases hlt:k<m
  ·obtain⟨p,hp,hsl,hcl⟩:=iA.out k hlt
   exact zq4
  ·obtain rfl:k=m:=by omega
   rw[jo.out];go_wp2_with fail;refine(HG.out _).mono ?_;rintro e w1 ⟨A0,c0,rfl,o1,b1⟩;have HK:=zH ((Kn.start _).called b1 o1);simp only[aJ] at HK;clear b1 o1;go_wp2_with fail;go_loopw [6,27] (fun vs vi wr=>∃(q:Nat) (A:Option Addr) (c N:Nat),q≤k∧Hid ((dN (ps.take q)).length=N)∧vs=.slice A N c∧vi=.int .i64 q∧Hid (Kn w.heap.size w wr [] [row aG (.slice A N c) (dN (ps.take q))])) (fun _ vi _=>k-(intOf vi).toNat)
   case atStart=>exact⟨0,A0,c0,0,Nat.zero_le _,zH rfl,rfl,rfl,HK⟩
   case round=>
    clear HK;obtain⟨q,A,c,N,hq,hN,rfl,rfl,HK⟩:=hrel;by_cases hlt:q<k
    ·obtain⟨p,hp,hsl,hcl⟩:=iA.out q hlt
     have hcell:=hcl _ HK.out.b;have HR:=zH (let h:=hsl.later HK.out.b;And.intro h.rd h.nl);have hlen:=HLen.out (q+1);have he:=lH hp;rw[he,List.length_append,hN.out] at hlen;have HE:=zH he;have BU:Hid (p.n=p.l.length):=zH hsl.len.symm;have HL:Hid ((dN (ps.take q)).length+p.l.length≤9223372036854775807∧((dN (ps.take q)).length+p.l.length)*aG.bytes≤211106232532992):=zH ⟨by rw[hN.out];omega,by show _*24≤_;rw[hN.out];omega⟩;have fB:Hid ((dN (ps.take q)++p.l).length=N+p.l.length):=zH (by rw[List.length_append,hN.out]);clear he hp hlen hsl hcl;obtain⟨Ap,np,cp,lp⟩:=p;simp only at hcell HR BU HL fB HE;go_wp2_with (at_builtin;refine aX HK aG 0 lp BU.out HR HL (N:=N+lp.length) fB ?_;clear HK;intro A4 c4 _ HK;simp only[lS] at HK);exact Rb
    ·obtain rfl:q=k:=by omega
     exact Ra
end
section
def adv(r:List Rf)(h:Bool)(x:Int)(w:World)(e:Ending)(w':World):Prop:=∃A n c,e=.returned (.tuple #[.slice A n c,.bool h,.int .i64 x])∧aG.Own w.heap.size w' (.slice A n c) r∧Below w.heap.size w w'
def adz(r:List Rf)(y:Rf)(h:Bool)(x:Int)(w:World)(e:Ending)(w':World):Prop:=∃A n c,e=.returned (.tuple #[.slice A n c,.agg #[.int .i64 y.c,.int .i64 y.e,.int .i64 y.r],.bool h,.int .i64 x])∧aG.Own w.heap.size w' (.slice A n c) r∧Below w.heap.size w w'
theorem PL(A:Option Addr)(c n:Nat)(l:List Rf)(r:Rf)(w:World)(hs:bJ aG rF w A n c l):
  Calls prog 257 #[.slice A n c,.agg #[.int .i64 r.c,.int .i64 r.e,.int .i64 r.r]] w (adv (aS.CF l r) (aS.JU l r) (aS.yY l r) w):=by
 have HM:=zH (fun W (hW:Below w.heap.size w W)=>nM A c n l W (hs.later hW));have HC:=zH (fun W=>wX r W);have Ct:=zH (fun W (hW:Below w.heap.size w W)=>DW A c n l r.c W (hs.later hW));have HS:=zH hs;have HJ:=zH jA;have hlen:=hs.len;have HK:=iK w 35 #[.int .i64 r.c,.int .i64 r.e,.int .i64 r.r];unfold cZ adv at *
 by_cases hr:aS.Right l
 case neg=>
  rw[decide_eq_false hr] at HM;obtain⟨e1,e2,e3⟩:=aS.Ag (r:=r) (fun h=>hr h.1);rw[e1,e2,e3];clear e1 e2 e3 hr hs hlen HC Ct;go_enter func257,ntmps257;go_wp2_with fail;refine cb (HM.out _ HK.out.b) HK ?_;exact abw
 case pos=>
 rw[decide_eq_true hr] at HM;by_cases hok:aS.ok r
 case neg=>
  rw[decide_eq_false hok] at HC;obtain⟨e1,e2,e3⟩:=aS.Ag (l:=l) (r:=r) (fun h=>hok h.2);rw[e1,e2,e3];clear e1 e2 e3 hr hok hs hlen Ct;go_enter func257,ntmps257;go_wp2_with fail;refine cb (HM.out _ HK.out.b) HK ?_;clear HK;intro _ HK;go_wp2_with refine zX (aB HK 0) ?_;refine cb (HC.out _) HK ?_;exact abw
 case pos=>
 rw[decide_eq_true hok] at HC;by_cases ha:aS.asked l r.c=true
 ·rw[ha] at Ct
  obtain⟨e1,e2,e3⟩:=aS.Er hr hok ha;rw[e1,e2,e3];clear e1 e2 e3 hr hok hs hlen ha;go_enter func257,ntmps257;go_wp2_with fail;refine cb (HM.out _ HK.out.b) HK ?_;clear HK;intro _ HK;go_wp2_with refine zX (aB HK 0) ?_;refine cb (HC.out _) HK ?_;clear HK;intro _ HK;go_wp2_with refine zX (fH HK 0) ?_;refine cb (Ct.out _ HK.out.b) HK ?_;exact abw
 ·have ha2:aS.asked l r.c=false:=Bool.eq_false_iff.2 ha
  rw[ha2] at Ct;obtain⟨e1,e2,e3⟩:=aS.RQ hr hok ha2;have h5:=aS.fG hr;rw[hlen] at h5 e3;rw[e1,e2,e3];have HF:=zH (Ih r);have hcase:n=0∨¬n=0:=by omega
  clear e1 e2 e3 hr hok hs hlen ha ha2
  rcases hcase with h0|h0
  ·have hz:((n:Int)==0)=true:=by simpa using h0
   rw[decide_eq_true h0];exact aeT
  ·have hz:((n:Int)==0)=false:=by simpa using h0
   rw[decide_eq_false h0];exact aeT
theorem PO(A:Option Addr)(c n:Nat)(l:List Rf)(r:Rf)(w:World)(hs:bJ aG rF w A n c l):
  Calls prog 258 #[.slice A n c,.agg #[.int .i64 r.c,.int .i64 r.e,.int .i64 r.r]] w (adz (aS.Ci l r) (aS.EZ l r) (aS.Dy l r) (aS.zJ l r) w):=by
 have HM:=zH (fun W (hW:Below w.heap.size w W)=>nM A c n l W (hs.later hW));have uT:=zH (fun x W=>yK x W);have HS:=zH hs;have HJ:=zH jA;have hlen:=hs.len;have HK:=iK w 35 #[.int .i64 r.c,.int .i64 r.e,.int .i64 r.r];unfold cZ adz at *
 by_cases hr:aS.Right l
 case neg=>
  rw[decide_eq_false hr] at HM;obtain⟨e1,e2,e3,e4⟩:=aS.UN (r:=r) hr;rw[e1,e2,e3,e4];clear e1 e2 e3 e4 hr hs hlen uT;go_enter func258,ntmps258;go_wp2_with (refine aQ HK ?_;clear HK;intro _ g1 HK;simp only[aO,aJ] at HK);refine cb (HM.out _ HK.out.b) HK ?_;clear HK;intro _ HK;exact aby
 case pos=>
 rw[decide_eq_true hr] at HM;by_cases h0:n=0
 ·subst h0
  obtain⟨e1,e2,e3,e4⟩:=aS.EY (r:=r) hr hlen;rw[e1,e2,e3,e4];clear e1 e2 e3 e4 hr hs hlen uT;go_enter func258,ntmps258;go_wp2_with (refine aQ HK ?_;clear HK;intro _ g1 HK;simp only[aO,aJ] at HK);refine cb (HM.out _ HK.out.b) HK ?_;clear HK;intro _ HK;go_wp2_with fail;refine zR HK.out.drew fun ah=>?_
  refine ak 0 rfl ?_;refine ak 1 rfl ?_;refine ak 2 rfl ?_;refine ak 3 rfl ?_;refine bF 4 rfl ?_;refine bF 5 rfl ?_;refine bF 6 rfl ?_;refine bF 7 rfl ?_;refine bF 8 rfl ?_;refine bF 9 rfl ?_;refine bF 10 rfl ?_;refine ak 11 rfl ?_;refine ak 12 rfl ?_;refine bW ?_;replace HK:=ah;clear ah;exact aby
 ·have hpos:0<n:=by omega
  have hz:((n:Int)==0)=false:=by simpa using h0
  obtain⟨x,hx,_⟩:=hs.get hpos;have HD:=zH (hs.drop (lo:=1) hpos);have hlx:=List.length_drop (i:=1) (l:=l);obtain⟨b,o,rfl,hat⟩:=hs.at hpos;have HX:=zH (fun W hW=>hat W hW 0 x hx);have pI:=EN x r;by_cases hm:aS.mine x r
  case neg=>
   obtain⟨e1,e2,e3,e4⟩:=aS.Bg hr hx hm;rw[e1,e2,e3,e4];rw[decide_eq_false hm] at pI;replace pI:=zH pI;clear e1 e2 e3 e4 hr hs hlen h0 hat hx hm hlx HD;go_enter func258,ntmps258;go_wp2_with (refine aQ HK ?_;clear HK;intro _ g1 HK;simp only[aO,aJ] at HK);refine cb (HM.out _ HK.out.b) HK ?_;clear HK;intro _ HK;go_wp2_with fail;refine zR HK.out.drew fun ah=>?_
   refine ak 0 rfl ?_;refine ak 1 rfl ?_;refine ak 2 rfl ?_;refine ak 3 rfl ?_;refine ak 4 rfl ?_;refine ak 5 rfl ?_ fun _ s=>dM (i:=0) hpos
   refine ak 6 rfl ?_ fun _ s=>bV (x:=x) (off:=o+0*3) (HX.out _ s.out.b)
   refine ak 8 rfl ?_ fun _ s=>aB s 0
   refine aC 7 rfl fun K hK=>?_
   go_simp;go_at_call 255;refine(uT.out x _).mono ?_;rintro e w5 ⟨rfl,b5⟩;have hs:=zH (ah.out.call b5);clear b5;refine bk hK hs fun ah=>?_
   clear hK K;refine aC 9 rfl fun K hK=>?_
   go_simp;go_at_call 255;refine(uT.out r _).mono ?_;rintro e w5 ⟨rfl,b5⟩;have hs:=zH (ah.out.call b5);clear b5;refine bk hK hs fun ah=>?_
   clear hK K;refine ak 10 rfl ?_ fun _ s=>lY (v:=⟨x.c,x.e,0⟩) (u:=⟨r.c,r.e,0⟩) pI.out
   refine ak 11 rfl ?_;refine ak 12 rfl ?_;refine bW ?_;replace HK:=ah;clear ah;exact aby
  case pos=>
  obtain⟨e1,e2,e3,e4⟩:=aS.Yv hr hx hm;rw[e1,e2,e3,e4];rw[decide_eq_true hm] at pI;replace pI:=zH pI;have WY:=zH HD.out.fit;have HH:=zH (fun W A c n (h:bJ aG rF W A n c (l.drop 1))=>vI A c n (l.drop 1) W h);clear e1 e2 e3 e4 hr hs hlen h0 hat hx hm hlx;generalize (l.drop 1).headD aS.zero=y at *
  generalize l.drop 1=m at *
  go_enter func258,ntmps258;go_wp2_with (refine aQ HK ?_;clear HK;intro _ g1 HK;simp only[aO,aJ] at HK);refine cb (HM.out _ HK.out.b) HK ?_;clear HK;intro _ HK;go_wp2_with fail;refine zR HK.out.drew fun ah=>?_
  refine ak 0 rfl ?_;refine ak 1 rfl ?_;refine ak 2 rfl ?_;refine ak 3 rfl ?_;refine ak 4 rfl ?_;refine ak 5 rfl ?_ fun _ s=>dM (i:=0) hpos
  refine ak 6 rfl ?_ fun _ s=>bV (x:=x) (off:=o+0*3) (HX.out _ s.out.b)
  refine ak 8 rfl ?_ fun _ s=>aB s 0
  refine aC 7 rfl fun K hK=>?_
  go_simp;go_at_call 255;refine(uT.out x _).mono ?_;rintro e w5 ⟨rfl,b5⟩;have hs:=zH (ah.out.call b5);clear b5;refine bk hK hs fun ah=>?_
  clear hK K;refine aC 9 rfl fun K hK=>?_
  go_simp;go_at_call 255;refine(uT.out r _).mono ?_;rintro e w5 ⟨rfl,b5⟩;have hs:=zH (ah.out.call b5);clear b5;refine bk hK hs fun ah=>?_
  clear hK K;refine ak 10 rfl ?_ fun _ s=>lY (v:=⟨x.c,x.e,0⟩) (u:=⟨r.c,r.e,0⟩) pI.out
  refine ak 11 rfl ?_;refine ak 12 rfl ?_;refine bW ?_;replace HK:=ah;clear ah;go_wp2_with (first|refine zX (Bl (lo:=1) hpos) ?_|(refine dG aG nD HK ?_;clear HK;intro w2 g7 HK _;simp only[aO,aJ] at HK));refine(HJ.out.one HK 2 rfl (HD.out.later HK.out.b)).mono ?_;rintro e w3 ⟨A4,n4,c4,rfl,o4,b4⟩;obtain rfl:=(Lay.Own.reads o4).1;replace HK:=zH (HK.out.called b4 o4);simp only[aJ] at HK;clear o4 b4;go_wp2_with fail;refine cb (HH.out _ _ _ _ (bJ.own (HK.out.own 0 rfl) WY.out)) HK ?_;clear HK;intro _ HK;go_wp2_with (first|(refine aQ HK ?_;clear HK;intro _ g9 HK;simp only[aO,aJ] at HK)|(refine aW HK 3 ?_;clear HK;intro _ HK;simp only[lS] at HK));have aj:=zH HK.out.drew;refine zR ((aj.out.aI 3).ay 0) fun ah=>?_
  refine ak 0 rfl ?_;refine ak 1 rfl ?_ fun _ s=>aB s 0
  refine ak 2 rfl ?_;refine ak 3 rfl ?_;refine aC 4 rfl fun K hK=>?_
  refine tQ aj 1 ?_;clear aj;intro wq aj;simp only[lS] at aj;have hs:=zH ((aj.out.aI 3).ay 0);refine bk hK hs fun ah=>?_
  clear hK K;refine ak 5 rfl ?_;refine ak 6 rfl ?_;refine bW ?_
  all_goals
   go_wp2_with fail;exact nG results258 (aj.out.blk 1 rfl) ⟨A4,_,c4,rfl,aj.out.own 0 rfl,aj.out.b⟩
end
section
theorem PD(n:Nat)(w:World)(hB0:n*144≤140737488355328):Calls prog 254 #[.slice none 0 0,.int .i64 n] w fun e w'=>∃A c,e=.returned (.slice A 0 c)∧aP.Own w.heap.size w' (.slice A 0 c) []∧Below w.heap.size w w':=by
 by_cases h0:n=0
 ·subst h0
  have HK:=zH (Kn.start w);clear hB0;go_enter func254,ntmps254;exact QX
 obtain⟨i0,hi,hz0,hz1,hz2⟩:=info_parts aP.info;have hc1:=grownCap_ge w n 0 63;have hr:=Lib.run_append_nil_zeros (P:=prog) w 22 3 22 63 i0 aP.z .i64 .i64 aP.und underlying3 hi hz0 n (by omega) (by rw[hz1];decide) (by omega) (by rw[hz2];show n*144≤_;omega);have HR:=zH hr;have hc2:=grownCap_le_maxLen w n 0 63 (by unfold maxLen;omega);generalize grownCap w n 0 63=G at *
 have HO:Hid (aP.Own w.heap.size (w.drew.alloc (.cells (Builtin.zeroCells aP.z.cells n++Builtin.zeroCells aP.z.cells (G-n)) 63)) (.slice (some ⟨w.heap.size,0,none⟩) 0 G) []):=by
  have:=World.ownsRow_made (base:=w.heap.size) (e:=63) (size:=11) w.drew (Builtin.zeroCells aP.z.cells n++Builtin.zeroCells aP.z.cells (G-n)) G (Nat.le_refl _) hc2 (by
   rw[Array.size_append,size_zeroCells,size_zeroCells];have:aP.z.cells.size=11:=rfl
   rw[this];omega)
  exact zH this
 have HB:Hid (Below w.heap.size w (w.drew.alloc (.cells (Builtin.zeroCells aP.z.cells n++Builtin.zeroCells aP.z.cells (G-n)) 63))):=zH ((Below.refl _ w).drew.alloc (Nat.le_refl _) _);generalize w.drew.alloc (.cells (Builtin.zeroCells aP.z.cells n++Builtin.zeroCells aP.z.cells (G-n)) 63)=wz at *
 clear hr hi hz0 hz1 hz2 hc1 hc2;have h1:¬((n:Int)<0):=by omega
 have h2:(0:Int)<(n:Int):=by omega
 have h3:wrap64 (n:Int)=(n:Int):=by unfold wrap64;omega
 go_enter func254,ntmps254;exact Rh
theorem yM:Joins prog 226 aP oF:=by
 intro g m ps w hm hb hg hc hs ht;replace ht:(dN ps).length*144≤140737488355328:=ht
 have iA:Hid (∀k,k<m→∃p,ps[k]?=some p∧bJ aP oF w p.A p.n p.c p.l∧∀W,Below w.heap.size w W→W.cell? ⟨g,k,none⟩=some (.slice p.A p.n p.c)):=zH fun k hk=>by
  exact Jy
 have HLen:Hid (∀k,(dN (ps.take k)).length*144≤140737488355328):=zH fun k=>Nat.le_trans (Nat.mul_le_mul_right _ (uD ps k)) ht
 have jo:Hid (ps.take m=ps):=zH (by rw[← hm];exact List.take_length);have HG:=zH (fun W=>PD (dN ps).length W ht);clear hc hs ht hm hg;go_enter func226,ntmps226;go_wp2_with fail;go_loopw [3,11] (fun vs vi wr=>∃k:Nat,k≤m∧vs=.int .i64 ((dN (ps.take k)).length:Nat)∧vi=.int .i64 k∧w=wr) (fun _ vi _=>m-(intOf vi).toNat)
 case atStart=>exact⟨0,Nat.zero_le _,rfl,rfl,rfl⟩
 case round=>
  obtain⟨k,hk,rfl,rfl,rfl⟩:=hrel;by_cases hlt:k<m
  ·obtain⟨p,hp,hsl,hcl⟩:=iA.out k hlt
   exact zq4
  ·obtain rfl:k=m:=by omega
   rw[jo.out];go_wp2_with fail;refine(HG.out _).mono ?_;rintro e w1 ⟨A0,c0,rfl,o1,b1⟩;have HK:=zH ((Kn.start _).called b1 o1);simp only[aJ] at HK;clear b1 o1;go_wp2_with fail;go_loopw [6,27] (fun vs vi wr=>∃(q:Nat) (A:Option Addr) (c N:Nat),q≤k∧Hid ((dN (ps.take q)).length=N)∧vs=.slice A N c∧vi=.int .i64 q∧Hid (Kn w.heap.size w wr [] [row aP (.slice A N c) (dN (ps.take q))])) (fun _ vi _=>k-(intOf vi).toNat)
   case atStart=>exact⟨0,A0,c0,0,Nat.zero_le _,zH rfl,rfl,rfl,HK⟩
   case round=>
    clear HK;obtain⟨q,A,c,N,hq,hN,rfl,rfl,HK⟩:=hrel;by_cases hlt:q<k
    ·obtain⟨p,hp,hsl,hcl⟩:=iA.out q hlt
     have hcell:=hcl _ HK.out.b;have HR:=zH (let h:=hsl.later HK.out.b;And.intro h.rd h.nl);have hlen:=HLen.out (q+1);have he:=lH hp;rw[he,List.length_append,hN.out] at hlen;have HE:=zH he;have BU:Hid (p.n=p.l.length):=zH hsl.len.symm;have HL:Hid ((dN (ps.take q)).length+p.l.length≤9223372036854775807∧((dN (ps.take q)).length+p.l.length)*aP.bytes≤211106232532992):=zH ⟨by rw[hN.out];omega,by show _*144≤_;rw[hN.out];omega⟩;have fB:Hid ((dN (ps.take q)++p.l).length=N+p.l.length):=zH (by rw[List.length_append,hN.out]);clear he hp hlen hsl hcl;obtain⟨Ap,np,cp,lp⟩:=p;simp only at hcell HR BU HL fB HE;go_wp2_with (at_builtin;refine aX HK aP 0 lp BU.out HR HL (N:=N+lp.length) fB ?_;clear HK;intro A4 c4 _ HK;simp only[lS] at HK);exact Rb
    ·obtain rfl:q=k:=by omega
     exact Ra
end
section
def prF(p:aK.Pr):Prop:=p.val.f<18446744073709551616
theorem Sl.sls{w:World}{A:Option Addr}{n c:Nat}{l:List aK.Pr}(h:Sl w A n c l):bJ bO prF w A n c l:=
 ⟨h.len,h.cap,h.rd,h.nl,⟨h.fs,by
  have:=h.big;rw[h.len]
  show n*56≤_
  omega⟩⟩
theorem bJ.sl{w:World}{A:Option Addr}{n c:Nat}{l:List aK.Pr}(h:bJ bO prF w A n c l):Sl w A n c l:=
 ⟨h.len,h.cap,h.rd,h.nl,h.fit.fs,by
  have h2:n*56≤140737488355328:=h.big
  omega⟩
theorem Us:(prog.info? 57).map (fun i=>(i.zero,i.size))=some (some (Value.slice none 0 0),1):=by kernel_rfl
def Tt:Cn bO where
 tt:=150
 und:=underlying150
 info:=Us
end
section
theorem Pn(n:Nat)(w:World)(hB0:n*56≤140737488355328):Calls prog 110 #[.slice none 0 0,.int .i64 n] w fun e w'=>∃A c,e=.returned (.slice A 0 c)∧bO.Own w.heap.size w' (.slice A 0 c) []∧Below w.heap.size w w':=by
 by_cases h0:n=0
 ·subst h0
  have HK:=zH (Kn.start w);clear hB0;go_enter func110,ntmps110;exact QX
 obtain⟨i0,hi,hz0,hz1,hz2⟩:=info_parts bO.info;have hc1:=grownCap_ge w n 0 103;have hr:=Lib.run_append_nil_zeros (P:=prog) w 57 3 57 103 i0 bO.z .i64 .i64 bO.und underlying3 hi hz0 n (by omega) (by rw[hz1];decide) (by omega) (by rw[hz2];show n*56≤_;omega);have HR:=zH hr;have hc2:=grownCap_le_maxLen w n 0 103 (by unfold maxLen;omega);generalize grownCap w n 0 103=G at *
 have HO:Hid (bO.Own w.heap.size (w.drew.alloc (.cells (Builtin.zeroCells bO.z.cells n++Builtin.zeroCells bO.z.cells (G-n)) 103)) (.slice (some ⟨w.heap.size,0,none⟩) 0 G) []):=by
  have:=World.ownsRow_made (base:=w.heap.size) (e:=103) (size:=5) w.drew (Builtin.zeroCells bO.z.cells n++Builtin.zeroCells bO.z.cells (G-n)) G (Nat.le_refl _) hc2 (by
   rw[Array.size_append,size_zeroCells,size_zeroCells];have:bO.z.cells.size=5:=rfl
   rw[this];omega)
  exact zH this
 have HB:Hid (Below w.heap.size w (w.drew.alloc (.cells (Builtin.zeroCells bO.z.cells n++Builtin.zeroCells bO.z.cells (G-n)) 103))):=zH ((Below.refl _ w).drew.alloc (Nat.le_refl _) _);generalize w.drew.alloc (.cells (Builtin.zeroCells bO.z.cells n++Builtin.zeroCells bO.z.cells (G-n)) 103)=wz at *
 clear hr hi hz0 hz1 hz2 hc1 hc2;have h1:¬((n:Int)<0):=by omega
 have h2:(0:Int)<(n:Int):=by omega
 have h3:wrap64 (n:Int)=(n:Int):=by unfold wrap64;omega
 go_enter func110,ntmps110;exact Rh
theorem yL:Joins prog 57 bO prF:=by
 intro g m ps w hm hb hg hc hs ht;replace ht:(dN ps).length*56≤140737488355328:=ht
 have iA:Hid (∀k,k<m→∃p,ps[k]?=some p∧bJ bO prF w p.A p.n p.c p.l∧∀W,Below w.heap.size w W→W.cell? ⟨g,k,none⟩=some (.slice p.A p.n p.c)):=zH fun k hk=>by
  exact Jy
 have HLen:Hid (∀k,(dN (ps.take k)).length*56≤140737488355328):=zH fun k=>Nat.le_trans (Nat.mul_le_mul_right _ (uD ps k)) ht
 have jo:Hid (ps.take m=ps):=zH (by rw[← hm];exact List.take_length);have HG:=zH (fun W=>Pn (dN ps).length W ht);clear hc hs ht hm hg;go_enter func57,ntmps57;go_wp2_with fail;go_loopw [3,11] (fun vs vi wr=>∃k:Nat,k≤m∧vs=.int .i64 ((dN (ps.take k)).length:Nat)∧vi=.int .i64 k∧w=wr) (fun _ vi _=>m-(intOf vi).toNat)
 case atStart=>exact⟨0,Nat.zero_le _,rfl,rfl,rfl⟩
 case round=>
  obtain⟨k,hk,rfl,rfl,rfl⟩:=hrel;by_cases hlt:k<m
  ·obtain⟨p,hp,hsl,hcl⟩:=iA.out k hlt
   exact zq4
  ·obtain rfl:k=m:=by omega
   rw[jo.out];go_wp2_with fail;refine(HG.out _).mono ?_;rintro e w1 ⟨A0,c0,rfl,o1,b1⟩;have HK:=zH ((Kn.start _).called b1 o1);simp only[aJ] at HK;clear b1 o1;go_wp2_with fail;go_loopw [6,27] (fun vs vi wr=>∃(q:Nat) (A:Option Addr) (c N:Nat),q≤k∧Hid ((dN (ps.take q)).length=N)∧vs=.slice A N c∧vi=.int .i64 q∧Hid (Kn w.heap.size w wr [] [row bO (.slice A N c) (dN (ps.take q))])) (fun _ vi _=>k-(intOf vi).toNat)
   case atStart=>exact⟨0,A0,c0,0,Nat.zero_le _,zH rfl,rfl,rfl,HK⟩
   case round=>
    clear HK;obtain⟨q,A,c,N,hq,hN,rfl,rfl,HK⟩:=hrel;by_cases hlt:q<k
    ·obtain⟨p,hp,hsl,hcl⟩:=iA.out q hlt
     have hcell:=hcl _ HK.out.b;have HR:=zH (let h:=hsl.later HK.out.b;And.intro h.rd h.nl);have hlen:=HLen.out (q+1);have he:=lH hp;rw[he,List.length_append,hN.out] at hlen;have HE:=zH he;have BU:Hid (p.n=p.l.length):=zH hsl.len.symm;have HL:Hid ((dN (ps.take q)).length+p.l.length≤9223372036854775807∧((dN (ps.take q)).length+p.l.length)*bO.bytes≤211106232532992):=zH ⟨by rw[hN.out];omega,by show _*56≤_;rw[hN.out];omega⟩;have fB:Hid ((dN (ps.take q)++p.l).length=N+p.l.length):=zH (by rw[List.length_append,hN.out]);clear he hp hlen hsl hcl;obtain⟨Ap,np,cp,lp⟩:=p;simp only at hcell HR BU HL fB HE;go_wp2_with (at_builtin;refine aX HK bO 0 lp BU.out HR HL (N:=N+lp.length) fB ?_;clear HK;intro A4 c4 _ HK;simp only[lS] at HK);exact Rb
    ·obtain rfl:q=k:=by omega
     exact Ra
end
end Go.Proofs.YtieoeendnccafaaGreat
