/- What the document's Do returns: all the ways together. No condition but those named. -/
import Derived.Test.YtieoeendnccafaaGreatNBK
set_option linter.unusedSimpArgs false
set_option linter.unusedVariables false
set_option maxRecDepth 100000
set_option maxHeartbeats 25600000
open Go.RowKit
namespace Go.Proofs.YtieoeendnccafaaGreat
open _root_.Go.Proofs.Tryz
section
theorem OZ(G:World→Prop)(A:Option Addr)(cp n:Nat)(l:List Oh)(r:Rf)(c:aF.C)(w:World)(hG:∀W,G W→bY W A n cp l)(hs:bY w A n cp l)(hv:c.val.f<18446744073709551616)(ho:c.old.f<18446744073709551616)(fT:av.All (vs l) r c)(he:aF.bG c=0)(h4:¬c.k=4)(h5:¬c.k=5)(o:av.Ob)(hf:av.jc (vs l) c.name=some o)(hft:av.fits c.k o.kind=true)(h12:¬c.k=12)(Dv:¬c.k=13)(vJ:¬c.k=14):
  Calls prog 77 #[.slice A n cp,.agg #[.int .i64 r.c,.int .i64 r.e,.int .i64 r.r],.agg (dh c)] w (mQ G (av.iC (vs l) r c) w):=by
 have yF:=zH hG;have mJ:=zH dS;have HK:=AY w 35 #[.int .i64 r.c,.int .i64 r.e,.int .i64 r.r] 37 (dh c) 28 (cB av.rz);have HM:=zH (fun W (hW:Below w.heap.size w W)=>cK A cp n l W (hs.later hW));unfold cZ at HM;have HC:=zH (fun W=>gu r W);unfold cZ at HC;have HE:=zH (fun W=>iG c W hv ho);unfold gX at HE;have hall:=fT;rw[decide_eq_true hall.1] at HM;rw[decide_eq_true hall.2.1] at HC;have D4:Hid (decide (c.k<4)=false):=zH (decide_eq_false (by have:=hall.2.2.1;omega));have tK:Hid (decide (17<c.k)=false):=zH (decide_eq_false (by have:=hall.2.2.2;omega));rw[he] at HE;have uH:=zH (fun W (hW:Below w.heap.size w W)=>iF A cp n l c.name W (hs.later hW));have BL:Hid (¬∀(j:Nat) (y:Oh),l[j]?=some y→¬y.v.name=c.name):=zH (fun h=>by have:=(av.sM (l:=vs l) (k:=c.name) (fun j y hj=>by obtain⟨z,hz,rfl⟩:=yH hj;exact h j z hz)).2;rw[hf] at this;cases this);have BM:Hid (∀(i:Nat) (x:Oh),l[i]?=some x→x.v.name=c.name→x.v=o):=zH (fun i x h1 h2=>by have:=(av.jW hall.1.up (dL h1) h2).2.2;rw[hf] at this;injection this with this;exact this.symm)
 have hpos:0<n:=by
  rcases Nat.eq_zero_or_pos n with h0|h0
  ·subst h0
   rw[List.length_eq_zero_iff.1 hs.len] at hf;cases hf
  ·exact h0
 have hl:=hs.len;obtain⟨b,sK,rfl,nS⟩:=hs.s.at hpos;have BP:=zH nS;have HI:=zH hs.i;clear nS;have yX:Hid (∀(i:Nat) (x:Oh),l[i]?=some x→x.v.name=c.name→x.v=o→av.iC (vs l) r c=⟨(vs l).set i (av.act o r c).o,(av.act o r c).p,(av.act o r c).later,(av.act o r c).outs⟩):=zH (fun i x h1 h2 h3=>by have h:=av.zP hall he h4 h5 (dL h1) h2 (by rw[h3];exact hft);rw[h3] at h;exact h);have HW:=zH (fun(W:World) (hW:Below w.heap.size w W) (i:Nat) (y:Oh) (hi:i<n)=>tV cp n l i y W (hs.later hW) hi);have WK:Hid (n*144≤140737488355328):=zH hs.s.big;have hst:=QC (o:=o) (r:=r) h12 Dv vJ
 have hkn:o.kind=3→c.k=17:=fun g3=>by
  have h:=hft;rw[g3] at h
  rcases av.qz hall.2.2 h4 h5 with q|q|q|q|q|q|q|q|q|q|q|q
  ·rw[q] at h;exact absurd h (by decide)
  ·rw[q] at h;exact absurd h (by decide)
  ·rw[q] at h;exact absurd h (by decide)
  ·rw[q] at h;exact absurd h (by decide)
  ·rw[q] at h;exact absurd h (by decide)
  ·rw[q] at h;exact absurd h (by decide)
  ·exact absurd q h12
  ·exact absurd q Dv
  ·exact absurd q vJ
  ·rw[q] at h;exact absurd h (by decide)
  ·rw[q] at h;exact absurd h (by decide)
  ·exact q
 have E14:Hid (decide (c.k=14)=false):=zH (decide_eq_false vJ);have iD:=zH (fun W=>lq c.k o.kind hall.2.2.2 W);unfold cZ at iD;rw[hft] at iD;have E4:Hid (decide (c.k=4)=false):=zH (decide_eq_false h4);have E5:Hid (decide (c.k=5)=false):=zH (decide_eq_false h5);have FK:Hid (∀(x:Oh),x.v=o→x∈l→∀W,Below w.heap.size w W→Calls prog 139 #[.agg (bS x),.agg (dh c)] W (pG G (av.act o r c) W)):=zH (fun x h1 h2 W hW=>by have h:=Ki G x r c W (fun W h=>(yF.out W h).i x h2) ((hs.i x h2).later hW) hv hall.2.2 h4 h5 h12 Dv vJ;rw[h1] at h;exact h);unfold FJ at HW;unfold pG at FK;clear hs hv ho hall fT hG he h4 h5 hf hft;generalize hds:av.iC (vs l) r c=ds at *
 clear hds;generalize av.act o r c=Y at *
 obtain⟨yo,yp,yt,ys⟩:=Y;simp only at FK yX hst;obtain⟨rfl,rfl⟩:=hst;obtain⟨b4,K4⟩:∃b4:Bool,Hid (decide (o.kind=4)=b4):=⟨_,zH rfl⟩;obtain⟨b3,q,K3,N17,hcs⟩:∃b3 q:Bool,Hid (decide (o.kind=3)=b3)∧Hid ((!decide (c.k=17))=q)∧Hid (b3=true→q=false):=⟨_,_,zH rfl,zH rfl,zH fun h=>by rw[hkn (of_decide_eq_true h)];rfl⟩;clear hkn h12 Dv vJ;go_enter func77,ntmps77;go_wp2_with fail
 (refine(HM.out _ HK.out.b).mono ?_;rintro e w1 ⟨rfl,b1⟩)
 replace HK:=iy HK b1;clear b1;go_wp2_with refine zX (aB HK 0) ?_;refine cb (HC.out _) HK ?_;clear HK;intro _ HK;go_wp2_with (first|refine zX (bK HK 1) ?_|refine zX (dH (x:=c.k) (k:=4) D4.out) ?_|refine zX (dz (x:=c.k) (k:=17) tK.out) ?_|refine zX (zD HK 1) ?_);refine cb (HE.out _) HK ?_;clear HK;intro _ HK;go_wp2_with refine zX (ko HK 1) ?_;refine(uH.out _ HK.out.b).mono ?_;rintro e w1 ⟨z,hat,rfl,b1⟩;replace HK:=iy HK b1;clear b1
 rcases hat with ⟨i,x,rfl,hx,hn,_⟩|⟨rfl,hno⟩
 case inr=>exact absurd hno BL.out
 obtain rfl:=BM.out i x hx hn;have HX:Hid (∀W,Below w.heap.size w W→∀j v,(vR x)[j]?=some v→W.cell? ⟨b,sK+i*11+j,none⟩=some v):=zH fun W hW=>BP.out W hW i x hx
 have hin:i<n:=by have:=(List.getElem?_eq_some_iff.1 hx).1;omega
 have hi0:(0:Int)≤(i:Int):=by omega
 have hi1:(i:Int)<(n:Int):=by omega
 have G0:Hid (decide ((0:Int)≤(i:Int))=true):=zH (decide_eq_true hi0);have L0:Hid (decide ((i:Int)<0)=false):=zH (decide_eq_false (by omega));have BN:=zH (FK.out x rfl (List.mem_of_getElem? hx));have HDx:=zH (yX.out i x hx hn rfl);have mI:Hid (l.length=n):=zH hl;have hil:i<l.length:=by rw[hl];exact hin
 clear BP hx hn BM BL FK yX hl HI;go_upto_block 0 with fail;go_cut [11] (fun v wx=>v=.int .i64 i∧Hid (Kn w.heap.size w wx [(w.heap.size,35,#[.int .i64 r.c,.int .i64 r.e,.int .i64 r.r]),(w.heap.size+1,37,dh c),(w.heap.size+2,28,cB av.rz)] []))
 case first=>
  go_wp2_with (first|refine zX (bK HK 1) ?_|refine zX (aZ (x:=c.k) (k:=4) E4.out) ?_|refine zX (dH (x:=(i:Int)) (k:=0) L0.out) ?_);have aj:=zH HK.out.drew;refine zR aj.out fun ah=>?_
  refine ak 0 rfl ?_;refine ak 1 rfl ?_ fun _ s=>bK s 1
  refine ak 2 rfl ?_;refine ak 3 rfl ?_;refine ak 4 rfl ?_ fun _ s=>bL (i:=i) hin
  refine ak 5 rfl ?_;refine ak 6 rfl ?_ fun _ s=>eD (x:=x) (off:=sK+i*11) (HX.out _ s.out.b)
  refine aC 7 rfl fun K hK=>?_
  go_simp;go_at_call 135;refine(iD.out _).mono ?_;rintro e w5 ⟨rfl,b5⟩;have hs:=zH (ah.out.call b5);clear b5;refine bk hK hs fun ah=>?_
  clear hK K;refine ak 8 rfl ?_;refine ak 9 rfl ?_;refine bW ?_;replace HK:=ah;clear ah aj;go_wp2_with (first|refine zX (bK HK 1) ?_|refine zX (aZ (x:=c.k) (k:=5) E5.out) ?_|refine zX (bL (i:=i) hin) ?_|refine zX (lZ (x:=x) (off:=sK+i*11) (HX.out _ HK.out.b)) ?_);go_meet;exact⟨rfl,HK⟩
 case rest=>
 clear HK;obtain⟨rfl,HK⟩:=hcut;go_upto_region 21 with fail;go_cut [139,11] (fun t v wx=>t=.bool false∧v=.int .i64 i∧Hid (Kn w.heap.size w wx [(w.heap.size,35,#[.int .i64 r.c,.int .i64 r.e,.int .i64 r.r]),(w.heap.size+1,37,dh c),(w.heap.size+2,28,cB av.rz)] []))
 case first=>
  cases b4
  all_goals
   go_wp2_with (first|refine zX (bK HK 1) ?_|refine zX (bL (i:=i) hin) ?_|refine zX (eD (x:=x) (off:=sK+i*11) (HX.out _ HK.out.b)) ?_|refine zX (aZ (x:=x.v.kind) (k:=4) K4.out) ?_|refine zX (aZ (x:=c.k) (k:=14) E14.out) ?_);go_meet;exact⟨rfl,rfl,HK⟩
 case rest=>
 clear HK;obtain⟨rfl,rfl,HK⟩:=hcut;go_upto_region 24 with fail;go_cut [168,11] (fun t v wx=>t=.bool false∧v=.int .i64 i∧Hid (Kn w.heap.size w wx [(w.heap.size,35,#[.int .i64 r.c,.int .i64 r.e,.int .i64 r.r]),(w.heap.size+1,37,dh c),(w.heap.size+2,28,cB av.rz)] []))
 case first=>
  cases b3
  case false=>
   go_wp2_with (first|refine zX (bK HK 1) ?_|refine zX (bL (i:=i) hin) ?_|refine zX (eD (x:=x) (off:=sK+i*11) (HX.out _ HK.out.b)) ?_|refine zX (aZ (x:=x.v.kind) (k:=3) K3.out) ?_);go_meet;exact⟨rfl,rfl,HK⟩
  case true=>
   obtain rfl:=hcs.out rfl;go_wp2_with (first|refine zX (bK HK 1) ?_|refine zX (bL (i:=i) hin) ?_|refine zX (eD (x:=x) (off:=sK+i*11) (HX.out _ HK.out.b)) ?_|refine zX (aZ (x:=x.v.kind) (k:=3) K3.out) ?_|refine zX (Bp (x:=c.k) (k:=17) N17.out) ?_);go_meet;exact⟨rfl,rfl,HK⟩
 case rest=>
 clear HK;obtain⟨rfl,rfl,HK⟩:=hcut;go_wp2_with fail;go_cut [20,21] (fun s20 s21 wx=>∃(y:Oh) (Rn:List dA) (g12 g13:Nat),s20=.pointer (some ⟨g12,0,none⟩)∧s21=.pointer (some ⟨g13,0,none⟩)∧Hid (y.v=yo)∧Hid (Kn w.heap.size w wx [(w.heap.size,35,#[.int .i64 r.c,.int .i64 r.e,.int .i64 r.r]),(w.heap.size+1,37,dh c),(w.heap.size+2,28,cB av.rz),(g12,63,bS y),(g13,28,cB yp)] Rn)∧Hid (∀(b:Nat) (W0 W:World) L R,Kn b W0 W L R→(∀z∈Rn,z∈R)→G W→In W y))
 case first=>
  have aj:=zH HK.out.drew;refine wp_region_held_drew (S:=(fun W=>Hid (Kn w.heap.size w W [(w.heap.size,35,#[.int .i64 r.c,.int .i64 r.e,.int .i64 r.r]),(w.heap.size+1,37,dh c)] []))) (by kernel_rfl) ?_ fun ah=>?_
  ·(try dsimp only);exact fC aj
  refine ak 0 rfl ?_;refine ak 1 rfl ?_;refine ak 2 rfl ?_ fun _ s=>bL (i:=i) hin
  refine ak 3 rfl ?_ fun _ s=>eB (x:=x) (off:=sK+i*11) (HX.out _ s.out.b)
  refine ak 4 rfl ?_ fun _ s=>zD s 1
  refine Xu 5 9 10 rfl rfl rfl (fun K hK=>?_) (fun K hK=>?_) fun K hK=>?_
  go_simp;go_at_call 139;refine(BN.out _ aj.out.b).mono ?_;rintro e w5 ⟨y,Rn,rfl,rW,k5,oQ⟩;replace aj:=zH (aj.out.join k5);clear k5;have hs:=fC aj;refine bk hK hs fun ah=>?_
  clear hK K;refine ak 6 rfl ?_;refine ak 7 rfl ?_;refine ak 8 rfl ?_;refine jr 9 10 rfl rfl (fun K hK=>?_) fun K hK=>?_
  refine pQ aj ?_;clear aj;intro wq g12 aj;have hs:=fC aj;refine bk hK hs fun ah=>?_
  clear hK K;refine aC 10 rfl fun K hK=>?_
  refine pO aj ?_;clear aj;intro wq g13 aj;have hs:=fC aj;refine bk hK hs fun ah=>?_
  clear hK K;refine aC 11 rfl fun K hK=>?_
  (first|refine gH y aj 3 ?_|refine gH y aj 4 ?_);clear aj;intro wq aj;simp only[aO,aJ,List.set] at aj;have hs:=fC aj
  refine bk hK hs fun ah=>?_
  clear hK K;refine aC 12 rfl fun K hK=>?_
  (first|refine fU yp aj 3 ?_|refine fU yp aj 4 ?_);clear aj;intro wq aj;simp only[aO,aJ,List.set] at aj;have hs:=fC aj
  refine bk hK hs fun ah=>?_
  clear hK K;refine bW ?_
  rotate_left
  refine pO aj ?_;clear aj;intro wq g13 aj;have hs:=fC aj;refine bk hK hs fun ah=>?_
  clear hK K;refine aC 9 rfl fun K hK=>?_
  refine pQ aj ?_;clear aj;intro wq g12 aj;have hs:=fC aj;refine bk hK hs fun ah=>?_
  clear hK K;refine aC 11 rfl fun K hK=>?_
  (first|refine gH y aj 3 ?_|refine gH y aj 4 ?_);clear aj;intro wq aj;simp only[aO,aJ,List.set] at aj;have hs:=fC aj
  refine bk hK hs fun ah=>?_
  clear hK K;refine aC 12 rfl fun K hK=>?_
  (first|refine fU yp aj 3 ?_|refine fU yp aj 4 ?_);clear aj;intro wq aj;simp only[aO,aJ,List.set] at aj;have hs:=fC aj
  refine bk hK hs fun ah=>?_
  clear hK K;refine bW ?_
  rotate_left
  refine pQ aj ?_;clear aj;intro wq g12 aj;have hs:=fC aj;refine bk hK hs fun ah=>?_
  clear hK K;refine jr 5 10 rfl rfl (fun K hK=>?_) fun K hK=>?_
  go_simp;go_at_call 139;refine(BN.out _ aj.out.b).mono ?_;rintro e w5 ⟨y,Rn,rfl,rW,k5,oQ⟩;replace aj:=zH (aj.out.join k5);clear k5;have hs:=fC aj;refine bk hK hs fun ah=>?_
  clear hK K;refine ak 6 rfl ?_;refine ak 7 rfl ?_;refine ak 8 rfl ?_;refine aC 10 rfl fun K hK=>?_
  refine pO aj ?_;clear aj;intro wq g13 aj;have hs:=fC aj;refine bk hK hs fun ah=>?_
  clear hK K;refine aC 11 rfl fun K hK=>?_
  (first|refine gH y aj 3 ?_|refine gH y aj 4 ?_);clear aj;intro wq aj;simp only[aO,aJ,List.set] at aj;have hs:=fC aj
  refine bk hK hs fun ah=>?_
  clear hK K;refine aC 12 rfl fun K hK=>?_
  (first|refine fU yp aj 3 ?_|refine fU yp aj 4 ?_);clear aj;intro wq aj;simp only[aO,aJ,List.set] at aj;have hs:=fC aj
  refine bk hK hs fun ah=>?_
  clear hK K;refine bW ?_
  rotate_left
  refine pO aj ?_;clear aj;intro wq g13 aj;have hs:=fC aj;refine bk hK hs fun ah=>?_
  clear hK K;refine aC 5 rfl fun K hK=>?_
  go_simp;go_at_call 139;refine(BN.out _ aj.out.b).mono ?_;rintro e w5 ⟨y,Rn,rfl,rW,k5,oQ⟩;replace aj:=zH (aj.out.join k5);clear k5;have hs:=fC aj;refine bk hK hs fun ah=>?_
  clear hK K;refine ak 6 rfl ?_;refine ak 7 rfl ?_;refine ak 8 rfl ?_;refine aC 11 rfl fun K hK=>?_
  (first|refine gH y aj 3 ?_|refine gH y aj 4 ?_);clear aj;intro wq aj;simp only[aO,aJ,List.set] at aj;have hs:=fC aj
  refine bk hK hs fun ah=>?_
  clear hK K;refine aC 12 rfl fun K hK=>?_
  (first|refine fU yp aj 3 ?_|refine fU yp aj 4 ?_);clear aj;intro wq aj;simp only[aO,aJ,List.set] at aj;have hs:=fC aj
  refine bk hK hs fun ah=>?_
  clear hK K;refine bW ?_
  rotate_left
  refine pO aj ?_;clear aj;intro wq g13 aj;have hs:=fC aj;refine bk hK hs fun ah=>?_
  clear hK K;refine jr 5 9 rfl rfl (fun K hK=>?_) fun K hK=>?_
  go_simp;go_at_call 139;refine(BN.out _ aj.out.b).mono ?_;rintro e w5 ⟨y,Rn,rfl,rW,k5,oQ⟩;replace aj:=zH (aj.out.join k5);clear k5;have hs:=fC aj;refine bk hK hs fun ah=>?_
  clear hK K;refine ak 6 rfl ?_;refine ak 7 rfl ?_;refine ak 8 rfl ?_;refine aC 9 rfl fun K hK=>?_
  refine pQ aj ?_;clear aj;intro wq g12 aj;have hs:=fC aj;refine bk hK hs fun ah=>?_
  clear hK K;refine aC 11 rfl fun K hK=>?_
  (first|refine gH y aj 3 ?_|refine gH y aj 4 ?_);clear aj;intro wq aj;simp only[aO,aJ,List.set] at aj;have hs:=fC aj
  refine bk hK hs fun ah=>?_
  clear hK K;refine aC 12 rfl fun K hK=>?_
  (first|refine fU yp aj 3 ?_|refine fU yp aj 4 ?_);clear aj;intro wq aj;simp only[aO,aJ,List.set] at aj;have hs:=fC aj
  refine bk hK hs fun ah=>?_
  clear hK K;refine bW ?_
  rotate_left
  refine pQ aj ?_;clear aj;intro wq g12 aj;have hs:=fC aj;refine bk hK hs fun ah=>?_
  clear hK K;refine aC 5 rfl fun K hK=>?_
  go_simp;go_at_call 139;refine(BN.out _ aj.out.b).mono ?_;rintro e w5 ⟨y,Rn,rfl,rW,k5,oQ⟩;replace aj:=zH (aj.out.join k5);clear k5;have hs:=fC aj;refine bk hK hs fun ah=>?_
  clear hK K;refine ak 6 rfl ?_;refine ak 7 rfl ?_;refine ak 8 rfl ?_;refine aC 11 rfl fun K hK=>?_
  (first|refine gH y aj 3 ?_|refine gH y aj 4 ?_);clear aj;intro wq aj;simp only[aO,aJ,List.set] at aj;have hs:=fC aj
  refine bk hK hs fun ah=>?_
  clear hK K;refine aC 12 rfl fun K hK=>?_
  (first|refine fU yp aj 3 ?_|refine fU yp aj 4 ?_);clear aj;intro wq aj;simp only[aO,aJ,List.set] at aj;have hs:=fC aj
  refine bk hK hs fun ah=>?_
  clear hK K;refine bW ?_
  rotate_left
  all_goals
   go_wp2_with fail;go_meet
   first|exact⟨y,Rn,g12,g13,rfl,rfl,rW,aj,oQ⟩|exact⟨y,Rn,g12,g13,rfl,rfl,rW,zH aj.out.Xr,oQ⟩
 case rest=>
 clear HK;obtain⟨y,Rn,g12,g13,rfl,rfl,rW,HK,oQ⟩:=hcut;go_wp2_with fail;have aj:=zH HK.out.drew;refine wp_region_held_drew (S:=(fun W=>Hid (Kn w.heap.size w W [(g12,63,bS y),(g13,28,cB yp)] []))) (by kernel_rfl) ?_ fun ah=>?_
 ·(try dsimp only);exact QT aj
 refine ak 0 rfl ?_;refine ak 1 rfl ?_;refine ak 2 rfl ?_ fun _ s=>jv s 0
 refine ak 4 rfl ?_ fun _ s=>xC s 1
 refine aC 3 rfl fun K hK=>?_
 go_simp;go_at_call 137;refine(HW.out _ aj.out.b i y hin).mono ?_;rintro e w6 ⟨A6,n6,c6,rfl,o6,b6⟩;replace aj:=zH (aj.out.called b6 o6);clear o6 b6;have hs:=QT aj;refine bk hK hs fun ah=>?_
 clear hK K;refine ak 5 rfl ?_;refine aC 6 rfl fun K hK=>?_
 refine fU yp aj 2 ?_;clear aj;intro wq aj;simp only[lS] at aj;have hs:=QT aj;refine bk hK hs fun ah=>?_
 clear hK K;refine ak 7 rfl ?_;refine ak 8 rfl ?_;refine bW ?_
 all_goals
  simp only[Exit.then];refine ‹∀(a:Act) (w1:World),Code.wp prog Code.ret _ a w1→_› _ _ ?_;refine wp_ret ?_;rw[HDx.out];exact qL results77 (aj.out.blk 2 rfl) (hR:=(by unfold mQ;exact⟨A6,n6,c6,l.set i y,_,_,_,_,rfl,by rw[RJ,rW.out],aj.out.aA 0,fun _ _ _ _ _ K hm hb=>⟨⟨bJ.own (K.mem (hm _ (List.mem_append_right _ (List.mem_cons_self ..)))) ⟨fun z hz=>trivial,by rw[List.length_set,mI.out];exact WK.out⟩,fun z hz=>UC (yF.out _ hb).i (oQ.out _ _ _ _ _ K (fun z hz=>hm _ (List.mem_append_left _ hz)) hb) hz⟩,bJ.none _⟩⟩))
end
end Go.Proofs.YtieoeendnccafaaGreat
