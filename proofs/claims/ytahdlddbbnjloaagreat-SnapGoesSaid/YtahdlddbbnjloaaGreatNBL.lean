/- Floats fit behind an event too; replies are few; rows of events. No condition but those named. -/
import Derived.Test.YtahdlddbbnjloaaGreatNBK
set_option linter.unusedSimpArgs false
set_option linter.unusedVariables false
set_option maxRecDepth 100000
set_option maxHeartbeats 25600000
open Go.RowKit
namespace Go.Proofs.YtahdlddbbnjloaaGreat
open _root_.Go.Proofs.Tryz
section
theorem Qg(G:World→Prop)(A:Option Addr)(cp n:Nat)(l:List Oh)(r:Rf)(c:aI.C)(w:World)(hG:∀W,G W→dS W A n cp l)(hs:dS w A n cp l)(hv:c.val.f<18446744073709551616)(ho:c.old.f<18446744073709551616)(fA:au.All (vs l) r c)(he:aI.aX c=0)(h4:¬c.k=4)(h5:¬c.k=5)(o:au.Ob)(hf:au.iV (vs l) c.name=some o)(hft:au.fits c.k o.kind=true)(h12:¬c.k=12)(Bu:¬c.k=13)(uY:¬c.k=14):
  Calls prog 49 #[.slice A n cp,.agg #[.int .i64 r.c,.int .i64 r.e,.int .i64 r.r],.agg (dL c)] w (lX G (au.iq (vs l) r c) w):=by
 have yA:=zH hG;have lK:=zH dD;have HK:=FX w 44 #[.int .i64 r.c,.int .i64 r.e,.int .i64 r.r] 46 (dL c) 28 (dG au.rz);have HM:=zH (fun W (hW:Below w.heap.size w W)=>bU A cp n l W (hs.later hW));unfold dw at HM;have HC:=zH (fun W=>fM r W);unfold dw at HC;have HE:=zH (fun W=>gV c W hv ho);unfold iQ at HE;have hall:=fA;rw[decide_eq_true hall.1] at HM;rw[decide_eq_true hall.2.1] at HC;have D4:Hid (decide (c.k<4)=false):=zH (decide_eq_false (by have:=hall.2.2.1;omega));have yB:Hid (decide (17<c.k)=false):=zH (decide_eq_false (by have:=hall.2.2.2;omega));rw[he] at HE;have Cy:=zH (fun W (hW:Below w.heap.size w W)=>gU A cp n l c.name W (hs.later hW));have Cc:Hid (¬∀(j:Nat) (y:Oh),l[j]?=some y→¬y.v.name=c.name):=zH (fun h=>by have:=(au.rY (l:=vs l) (k:=c.name) (fun j y hj=>by obtain⟨z,hz,rfl⟩:=yH hj;exact h j z hz)).2;rw[hf] at this;cases this);have Ce:Hid (∀(i:Nat) (x:Oh),l[i]?=some x→x.v.name=c.name→x.v=o):=zH (fun i x h1 h2=>by have:=(au.jI hall.1.up (dB h1) h2).2.2;rw[hf] at this;injection this with this;exact this.symm)
 have hpos:0<n:=by
  rcases Nat.eq_zero_or_pos n with h0|h0
  ·subst h0
   rw[List.length_eq_zero_iff.1 hs.len] at hf;cases hf
  ·exact h0
 have hl:=hs.len;obtain⟨b,rX,rfl,mX⟩:=hs.s.at hpos;have Ch:=zH mX;have HI:=zH hs.i;clear mX;have Eb:Hid (∀(i:Nat) (x:Oh),l[i]?=some x→x.v.name=c.name→x.v=o→au.iq (vs l) r c=⟨(vs l).set i (au.act o r c).o,(au.act o r c).p,(au.act o r c).later,(au.act o r c).outs⟩):=zH (fun i x h1 h2 h3=>by have h:=au.zO hall he h4 h5 (dB h1) h2 (by rw[h3];exact hft);rw[h3] at h;exact h);have HW:=zH (fun(W:World) (hW:Below w.heap.size w W) (i:Nat) (y:Oh) (hi:i<n)=>tL cp n l i y W (hs.later hW) hi);have XZ:Hid (n*144≤140737488355328):=zH hs.s.big;have hst:=RJ (o:=o) (r:=r) h12 Bu uY
 have hkn:o.kind=3→c.k=17:=fun g3=>by
  have h:=hft;rw[g3] at h
  rcases au.uh hall.2.2 h4 h5 with q|q|q|q|q|q|q|q|q|q|q|q
  ·rw[q] at h;exact absurd h (by decide)
  ·rw[q] at h;exact absurd h (by decide)
  ·rw[q] at h;exact absurd h (by decide)
  ·rw[q] at h;exact absurd h (by decide)
  ·rw[q] at h;exact absurd h (by decide)
  ·rw[q] at h;exact absurd h (by decide)
  ·exact absurd q h12
  ·exact absurd q Bu
  ·exact absurd q uY
  ·rw[q] at h;exact absurd h (by decide)
  ·rw[q] at h;exact absurd h (by decide)
  ·exact q
 have E14:Hid (decide (c.k=14)=false):=zH (decide_eq_false uY);have lJ:=zH (fun W=>kQ c.k o.kind hall.2.2.2 W);unfold dw at lJ;rw[hft] at lJ;have E4:Hid (decide (c.k=4)=false):=zH (decide_eq_false h4);have E5:Hid (decide (c.k=5)=false):=zH (decide_eq_false h5);have FL:Hid (∀(x:Oh),x.v=o→x∈l→∀W,Below w.heap.size w W→Calls prog 98 #[.agg (cu x),.agg (dL c)] W (nT G (au.act o r c) W)):=zH (fun x h1 h2 W hW=>by have h:=Ky G x r c W (fun W h=>(yA.out W h).i x h2) ((hs.i x h2).later hW) hv hall.2.2 h4 h5 h12 Bu uY;rw[h1] at h;exact h);unfold FK at HW;unfold nT at FL;clear hs hv ho hall fA hG he h4 h5 hf hft;generalize hds:au.iq (vs l) r c=ds at *
 clear hds;generalize au.act o r c=Y at *
 obtain⟨yo,yp,yt,ys⟩:=Y;simp only at FL Eb hst;obtain⟨rfl,rfl⟩:=hst;obtain⟨b4,K4⟩:∃b4:Bool,Hid (decide (o.kind=4)=b4):=⟨_,zH rfl⟩;obtain⟨b3,q,K3,N17,hcs⟩:∃b3 q:Bool,Hid (decide (o.kind=3)=b3)∧Hid ((!decide (c.k=17))=q)∧Hid (b3=true→q=false):=⟨_,_,zH rfl,zH rfl,zH fun h=>by rw[hkn (of_decide_eq_true h)];rfl⟩;clear hkn h12 Bu uY;go_enter func49,ntmps49;go_wp2_with fail
 (refine(HM.out _ HK.out.b).mono ?_;rintro e w1 ⟨rfl,b1⟩)
 replace HK:=iH HK b1;clear b1;go_wp2_with refine zX (aP HK 0) ?_;refine cb (HC.out _) HK ?_;clear HK;intro _ HK;go_wp2_with (first|refine zX (bZ HK 1) ?_|refine zX (dJ (x:=c.k) (k:=4) D4.out) ?_|refine zX (dF (x:=c.k) (k:=17) yB.out) ?_|refine zX (Jz HK 1) ?_);refine cb (HE.out _) HK ?_;clear HK;intro _ HK;go_wp2_with refine zX (nJ HK 1) ?_;refine(Cy.out _ HK.out.b).mono ?_;rintro e w1 ⟨z,hat,rfl,b1⟩;replace HK:=iH HK b1;clear b1
 rcases hat with ⟨i,x,rfl,hx,hn,_⟩|⟨rfl,hno⟩
 case inr=>exact absurd hno Cc.out
 obtain rfl:=Ce.out i x hx hn;have HX:Hid (∀W,Below w.heap.size w W→∀j v,(yY x)[j]?=some v→W.cell? ⟨b,rX+i*11+j,none⟩=some v):=zH fun W hW=>Ch.out W hW i x hx
 have hin:i<n:=by have:=(List.getElem?_eq_some_iff.1 hx).1;omega
 have hi0:(0:Int)≤(i:Int):=by omega
 have hi1:(i:Int)<(n:Int):=by omega
 have G0:Hid (decide ((0:Int)≤(i:Int))=true):=zH (decide_eq_true hi0);have L0:Hid (decide ((i:Int)<0)=false):=zH (decide_eq_false (by omega));have wZ:=zH (FL.out x rfl (List.mem_of_getElem? hx));have HDx:=zH (Eb.out i x hx hn rfl);have uJ:Hid (l.length=n):=zH hl;have hil:i<l.length:=by rw[hl];exact hin
 clear Ch hx hn Ce Cc FL Eb hl HI;go_upto_block 0 with fail;go_cut [11] (fun v wx=>v=.int .i64 i∧Hid (Kn w.heap.size w wx [(w.heap.size,44,#[.int .i64 r.c,.int .i64 r.e,.int .i64 r.r]),(w.heap.size+1,46,dL c),(w.heap.size+2,28,dG au.rz)] []))
 case first=>
  go_wp2_with (first|refine zX (bZ HK 1) ?_|refine zX (aW (x:=c.k) (k:=4) E4.out) ?_|refine zX (dJ (x:=(i:Int)) (k:=0) L0.out) ?_);have aj:=zH HK.out.drew;refine zR aj.out fun ah=>?_
  refine ak 0 rfl ?_;refine ak 1 rfl ?_ fun _ s=>bZ s 1
  refine ak 2 rfl ?_;refine ak 3 rfl ?_;refine ak 4 rfl ?_ fun _ s=>bH (i:=i) hin
  refine ak 5 rfl ?_;refine ak 6 rfl ?_ fun _ s=>fB (x:=x) (off:=rX+i*11) (HX.out _ s.out.b)
  refine aC 7 rfl fun K hK=>?_
  go_simp;go_at_call 94;refine(lJ.out _).mono ?_;rintro e w5 ⟨rfl,b5⟩;have hs:=zH (ah.out.call b5);clear b5;refine bk hK hs fun ah=>?_
  clear hK K;refine ak 8 rfl ?_;refine ak 9 rfl ?_;refine cB ?_;replace HK:=ah;clear ah aj;go_wp2_with (first|refine zX (bZ HK 1) ?_|refine zX (aW (x:=c.k) (k:=5) E5.out) ?_|refine zX (bH (i:=i) hin) ?_|refine zX (sM (x:=x) (off:=rX+i*11) (HX.out _ HK.out.b)) ?_);go_meet;exact⟨rfl,HK⟩
 case rest=>
 clear HK;obtain⟨rfl,HK⟩:=hcut;go_upto_region 21 with fail;go_cut [139,11] (fun t v wx=>t=.bool false∧v=.int .i64 i∧Hid (Kn w.heap.size w wx [(w.heap.size,44,#[.int .i64 r.c,.int .i64 r.e,.int .i64 r.r]),(w.heap.size+1,46,dL c),(w.heap.size+2,28,dG au.rz)] []))
 case first=>
  cases b4
  all_goals
   go_wp2_with (first|refine zX (bZ HK 1) ?_|refine zX (bH (i:=i) hin) ?_|refine zX (fB (x:=x) (off:=rX+i*11) (HX.out _ HK.out.b)) ?_|refine zX (aW (x:=x.v.kind) (k:=4) K4.out) ?_|refine zX (aW (x:=c.k) (k:=14) E14.out) ?_);go_meet;exact⟨rfl,rfl,HK⟩
 case rest=>
 clear HK;obtain⟨rfl,rfl,HK⟩:=hcut;go_upto_region 24 with fail;go_cut [168,11] (fun t v wx=>t=.bool false∧v=.int .i64 i∧Hid (Kn w.heap.size w wx [(w.heap.size,44,#[.int .i64 r.c,.int .i64 r.e,.int .i64 r.r]),(w.heap.size+1,46,dL c),(w.heap.size+2,28,dG au.rz)] []))
 case first=>
  cases b3
  case false=>
   go_wp2_with (first|refine zX (bZ HK 1) ?_|refine zX (bH (i:=i) hin) ?_|refine zX (fB (x:=x) (off:=rX+i*11) (HX.out _ HK.out.b)) ?_|refine zX (aW (x:=x.v.kind) (k:=3) K3.out) ?_);go_meet;exact⟨rfl,rfl,HK⟩
  case true=>
   obtain rfl:=hcs.out rfl;go_wp2_with (first|refine zX (bZ HK 1) ?_|refine zX (bH (i:=i) hin) ?_|refine zX (fB (x:=x) (off:=rX+i*11) (HX.out _ HK.out.b)) ?_|refine zX (aW (x:=x.v.kind) (k:=3) K3.out) ?_|refine zX (BK (x:=c.k) (k:=17) N17.out) ?_);go_meet;exact⟨rfl,rfl,HK⟩
 case rest=>
 clear HK;obtain⟨rfl,rfl,HK⟩:=hcut;go_wp2_with fail;go_cut [20,21] (fun s20 s21 wx=>∃(y:Oh) (Rn:List bV) (g12 g13:Nat),s20=.pointer (some ⟨g12,0,none⟩)∧s21=.pointer (some ⟨g13,0,none⟩)∧Hid (y.v=yo)∧Hid (Kn w.heap.size w wx [(w.heap.size,44,#[.int .i64 r.c,.int .i64 r.e,.int .i64 r.r]),(w.heap.size+1,46,dL c),(w.heap.size+2,28,dG au.rz),(g12,75,cu y),(g13,28,dG yp)] Rn)∧Hid (∀(b:Nat) (W0 W:World) L R,Kn b W0 W L R→(∀z∈Rn,z∈R)→G W→In W y))
 case first=>
  have aj:=zH HK.out.drew;refine wp_region_held_drew (S:=(fun W=>Hid (Kn w.heap.size w W [(w.heap.size,44,#[.int .i64 r.c,.int .i64 r.e,.int .i64 r.r]),(w.heap.size+1,46,dL c)] []))) (by kernel_rfl) ?_ fun ah=>?_
  ·(try dsimp only);exact eD aj
  refine ak 0 rfl ?_;refine ak 1 rfl ?_;refine ak 2 rfl ?_ fun _ s=>bH (i:=i) hin
  refine ak 3 rfl ?_ fun _ s=>gL (x:=x) (off:=rX+i*11) (HX.out _ s.out.b)
  refine ak 4 rfl ?_ fun _ s=>Jz s 1
  refine Ze 5 9 10 rfl rfl rfl (fun K hK=>?_) (fun K hK=>?_) fun K hK=>?_
  go_simp;go_at_call 98;refine(wZ.out _ aj.out.b).mono ?_;rintro e w5 ⟨y,Rn,rfl,uo,k5,qP⟩;replace aj:=zH (aj.out.join k5);clear k5;have hs:=eD aj;refine bk hK hs fun ah=>?_
  clear hK K;refine ak 6 rfl ?_;refine ak 7 rfl ?_;refine ak 8 rfl ?_;refine iW 9 10 rfl rfl (fun K hK=>?_) fun K hK=>?_
  refine nX aj ?_;clear aj;intro wq g12 aj;have hs:=eD aj;refine bk hK hs fun ah=>?_
  clear hK K;refine aC 10 rfl fun K hK=>?_
  refine nW aj ?_;clear aj;intro wq g13 aj;have hs:=eD aj;refine bk hK hs fun ah=>?_
  clear hK K;refine aC 11 rfl fun K hK=>?_
  (first|refine fT y aj 3 ?_|refine fT y aj 4 ?_);clear aj;intro wq aj;simp only[aS,aK,List.set] at aj;have hs:=eD aj
  refine bk hK hs fun ah=>?_
  clear hK K;refine aC 12 rfl fun K hK=>?_
  (first|refine fC yp aj 3 ?_|refine fC yp aj 4 ?_);clear aj;intro wq aj;simp only[aS,aK,List.set] at aj;have hs:=eD aj
  refine bk hK hs fun ah=>?_
  clear hK K;refine cB ?_
  rotate_left
  refine nW aj ?_;clear aj;intro wq g13 aj;have hs:=eD aj;refine bk hK hs fun ah=>?_
  clear hK K;refine aC 9 rfl fun K hK=>?_
  refine nX aj ?_;clear aj;intro wq g12 aj;have hs:=eD aj;refine bk hK hs fun ah=>?_
  clear hK K;refine aC 11 rfl fun K hK=>?_
  (first|refine fT y aj 3 ?_|refine fT y aj 4 ?_);clear aj;intro wq aj;simp only[aS,aK,List.set] at aj;have hs:=eD aj
  refine bk hK hs fun ah=>?_
  clear hK K;refine aC 12 rfl fun K hK=>?_
  (first|refine fC yp aj 3 ?_|refine fC yp aj 4 ?_);clear aj;intro wq aj;simp only[aS,aK,List.set] at aj;have hs:=eD aj
  refine bk hK hs fun ah=>?_
  clear hK K;refine cB ?_
  rotate_left
  refine nX aj ?_;clear aj;intro wq g12 aj;have hs:=eD aj;refine bk hK hs fun ah=>?_
  clear hK K;refine iW 5 10 rfl rfl (fun K hK=>?_) fun K hK=>?_
  go_simp;go_at_call 98;refine(wZ.out _ aj.out.b).mono ?_;rintro e w5 ⟨y,Rn,rfl,uo,k5,qP⟩;replace aj:=zH (aj.out.join k5);clear k5;have hs:=eD aj;refine bk hK hs fun ah=>?_
  clear hK K;refine ak 6 rfl ?_;refine ak 7 rfl ?_;refine ak 8 rfl ?_;refine aC 10 rfl fun K hK=>?_
  refine nW aj ?_;clear aj;intro wq g13 aj;have hs:=eD aj;refine bk hK hs fun ah=>?_
  clear hK K;refine aC 11 rfl fun K hK=>?_
  (first|refine fT y aj 3 ?_|refine fT y aj 4 ?_);clear aj;intro wq aj;simp only[aS,aK,List.set] at aj;have hs:=eD aj
  refine bk hK hs fun ah=>?_
  clear hK K;refine aC 12 rfl fun K hK=>?_
  (first|refine fC yp aj 3 ?_|refine fC yp aj 4 ?_);clear aj;intro wq aj;simp only[aS,aK,List.set] at aj;have hs:=eD aj
  refine bk hK hs fun ah=>?_
  clear hK K;refine cB ?_
  rotate_left
  refine nW aj ?_;clear aj;intro wq g13 aj;have hs:=eD aj;refine bk hK hs fun ah=>?_
  clear hK K;refine aC 5 rfl fun K hK=>?_
  go_simp;go_at_call 98;refine(wZ.out _ aj.out.b).mono ?_;rintro e w5 ⟨y,Rn,rfl,uo,k5,qP⟩;replace aj:=zH (aj.out.join k5);clear k5;have hs:=eD aj;refine bk hK hs fun ah=>?_
  clear hK K;refine ak 6 rfl ?_;refine ak 7 rfl ?_;refine ak 8 rfl ?_;refine aC 11 rfl fun K hK=>?_
  (first|refine fT y aj 3 ?_|refine fT y aj 4 ?_);clear aj;intro wq aj;simp only[aS,aK,List.set] at aj;have hs:=eD aj
  refine bk hK hs fun ah=>?_
  clear hK K;refine aC 12 rfl fun K hK=>?_
  (first|refine fC yp aj 3 ?_|refine fC yp aj 4 ?_);clear aj;intro wq aj;simp only[aS,aK,List.set] at aj;have hs:=eD aj
  refine bk hK hs fun ah=>?_
  clear hK K;refine cB ?_
  rotate_left
  refine nW aj ?_;clear aj;intro wq g13 aj;have hs:=eD aj;refine bk hK hs fun ah=>?_
  clear hK K;refine iW 5 9 rfl rfl (fun K hK=>?_) fun K hK=>?_
  go_simp;go_at_call 98;refine(wZ.out _ aj.out.b).mono ?_;rintro e w5 ⟨y,Rn,rfl,uo,k5,qP⟩;replace aj:=zH (aj.out.join k5);clear k5;have hs:=eD aj;refine bk hK hs fun ah=>?_
  clear hK K;refine ak 6 rfl ?_;refine ak 7 rfl ?_;refine ak 8 rfl ?_;refine aC 9 rfl fun K hK=>?_
  refine nX aj ?_;clear aj;intro wq g12 aj;have hs:=eD aj;refine bk hK hs fun ah=>?_
  clear hK K;refine aC 11 rfl fun K hK=>?_
  (first|refine fT y aj 3 ?_|refine fT y aj 4 ?_);clear aj;intro wq aj;simp only[aS,aK,List.set] at aj;have hs:=eD aj
  refine bk hK hs fun ah=>?_
  clear hK K;refine aC 12 rfl fun K hK=>?_
  (first|refine fC yp aj 3 ?_|refine fC yp aj 4 ?_);clear aj;intro wq aj;simp only[aS,aK,List.set] at aj;have hs:=eD aj
  refine bk hK hs fun ah=>?_
  clear hK K;refine cB ?_
  rotate_left
  refine nX aj ?_;clear aj;intro wq g12 aj;have hs:=eD aj;refine bk hK hs fun ah=>?_
  clear hK K;refine aC 5 rfl fun K hK=>?_
  go_simp;go_at_call 98;refine(wZ.out _ aj.out.b).mono ?_;rintro e w5 ⟨y,Rn,rfl,uo,k5,qP⟩;replace aj:=zH (aj.out.join k5);clear k5;have hs:=eD aj;refine bk hK hs fun ah=>?_
  clear hK K;refine ak 6 rfl ?_;refine ak 7 rfl ?_;refine ak 8 rfl ?_;refine aC 11 rfl fun K hK=>?_
  (first|refine fT y aj 3 ?_|refine fT y aj 4 ?_);clear aj;intro wq aj;simp only[aS,aK,List.set] at aj;have hs:=eD aj
  refine bk hK hs fun ah=>?_
  clear hK K;refine aC 12 rfl fun K hK=>?_
  (first|refine fC yp aj 3 ?_|refine fC yp aj 4 ?_);clear aj;intro wq aj;simp only[aS,aK,List.set] at aj;have hs:=eD aj
  refine bk hK hs fun ah=>?_
  clear hK K;refine cB ?_
  rotate_left
  all_goals
   go_wp2_with fail;go_meet
   first|exact⟨y,Rn,g12,g13,rfl,rfl,uo,aj,qP⟩|exact⟨y,Rn,g12,g13,rfl,rfl,uo,zH aj.out.YW,qP⟩
 case rest=>
 clear HK;obtain⟨y,Rn,g12,g13,rfl,rfl,uo,HK,qP⟩:=hcut;go_wp2_with fail;have aj:=zH HK.out.drew;refine wp_region_held_drew (S:=(fun W=>Hid (Kn w.heap.size w W [(g12,75,cu y),(g13,28,dG yp)] []))) (by kernel_rfl) ?_ fun ah=>?_
 ·(try dsimp only);exact Si aj
 refine ak 0 rfl ?_;refine ak 1 rfl ?_;refine ak 2 rfl ?_ fun _ s=>lV s 0
 refine ak 4 rfl ?_ fun _ s=>Sg s 1
 refine aC 3 rfl fun K hK=>?_
 go_simp;go_at_call 96;refine(HW.out _ aj.out.b i y hin).mono ?_;rintro e w6 ⟨A6,n6,c6,rfl,o6,b6⟩;replace aj:=zH (aj.out.called b6 o6);clear o6 b6;have hs:=Si aj;refine bk hK hs fun ah=>?_
 clear hK K;refine ak 5 rfl ?_;refine aC 6 rfl fun K hK=>?_
 refine fC yp aj 2 ?_;clear aj;intro wq aj;simp only[lS] at aj;have hs:=Si aj;refine bk hK hs fun ah=>?_
 clear hK K;refine ak 7 rfl ?_;refine ak 8 rfl ?_;refine cB ?_
 all_goals
  simp only[Exit.then];refine ‹∀(a:Act) (w1:World),Code.wp prog Code.ret _ a w1→_› _ _ ?_;refine wp_ret ?_;rw[HDx.out];exact xI results49 (aj.out.blk 2 rfl) (hR:=(by unfold lX;exact⟨A6,n6,c6,l.set i y,_,_,_,_,rfl,by rw[Ta,uo.out],aj.out.aB 0,fun _ _ _ _ _ K hm hb=>⟨⟨bT.own (K.mem (hm _ (List.mem_append_right _ (List.mem_cons_self ..)))) ⟨fun z hz=>trivial,by rw[List.length_set,uJ.out];exact XZ.out⟩,fun z hz=>VZ (yA.out _ hb).i (qP.out _ _ _ _ _ K (fun z hz=>hm _ (List.mem_append_left _ hz)) hb) hz⟩,bT.none _⟩⟩))
end
section
theorem Nt(G:World→Prop)(A:Option Addr)(cp n:Nat)(l:List Oh)(r:Rf)(c:aI.C)(w:World)(hG:∀W,G W→dS W A n cp l)(hs:dS w A n cp l)(hv:c.val.f<18446744073709551616)(ho:c.old.f<18446744073709551616):
  Calls prog 49 #[.slice A n cp,.agg #[.int .i64 r.c,.int .i64 r.e,.int .i64 r.r],.agg (dL c)] w (lX G (au.iq (vs l) r c) w):=by
 by_cases hr:au.Right (vs l)
 case neg=>rw[au.zP (fun g=>hr g.1)];exact aeR G A cp n l r c w hG hs hv ho hr
 by_cases hk:aY.ok r
 case neg=>rw[au.zP (fun g=>hk g.2.1)];exact aeQ G A cp n l r c w hG hs hv ho hr hk
 by_cases h4:c.k<4
 case pos=>rw[au.zP (fun g=>by have:=g.2.2.1;omega)];exact aeP G A cp n l r c w hG hs hv ho hr hk h4
 by_cases LV:17<c.k
 case pos=>rw[au.zP (fun g=>by have:=g.2.2.2;omega)];exact aeO G A cp n l r c w hG hs hv ho hr hk h4 LV
 have hall:au.All (vs l) r c:=⟨hr,hk,by omega,by omega⟩;by_cases he:aI.aX c=0
 case neg=>rw[au.abr hall he];exact Zr G A cp n l r c w hG hs hv ho hall he
 have hl:(vs l).length=n:=by rw[gq,hs.len]
 by_cases Og:c.k=4
 ·cases hf:au.iV (vs l) c.name with
  | some o=>rw[au.ajl hall he Og hf];exact aik G A cp n l r c w hG hs hv ho hall he Og o hf
  | none=>
   by_cases h8:n=8
   ·rw[au.ajn hall he Og hf (by rw[hl];exact h8)];exact ain G A cp n l r c w hG hs hv ho hall he Og hf h8
   ·rw[au.Xc hall he Og hf (by rw[hl];exact h8)];exact Uw G A cp n l r c w hG hs hv ho hall he Og hf h8
 cases hf:au.iV (vs l) c.name with
 | none=>rw[au.ajo hall he Og hf];exact aio G A cp n l r c w hG hs hv ho hall he Og hf
 | some o=>
  by_cases h5:c.k=5
  ·by_cases hrl:0<o.refs.length
   ·rw[au.agf hall he h5 hf hrl];exact aeS G A cp n l r c w hG hs hv ho hall he h5 o hf hrl
   ·exact aeN G A cp n l r c w hG hs hv ho hall he h5 o hf hrl
  cases hft:au.fits c.k o.kind with
  | false=>rw[au.ajm hall he Og hf hft];exact ail G A cp n l r c w hG hs hv ho hall he Og o hf hft
  | true=>
   by_cases uY:c.k=14
   ·exact Uv G A cp n l r c w hG hs hv ho hall he Og h5 o hf hft uY
   by_cases h12:c.k=12
   ·exact KN G A cp n l r c w hG hs hv ho hall he Og h5 o hf hft h12
   by_cases Bu:c.k=13
   ·exact KM G A cp n l r c w hG hs hv ho hall he Og h5 o hf hft Bu
   exact Qg G A cp n l r c w hG hs hv ho hall he Og h5 o hf hft h12 Bu uY
end
section
theorem AA(G:World→Prop)(n:Int)(A:Option Addr)(k cp:Nat)(t:aG.T)(lo:List Oh)(e:aI.E)(w:World)(hG:∀W,G W→dS W A k cp lo)(hs:dS w A k cp lo)(hf:aG.Fit t)(hv:e.cmd.val.f<18446744073709551616)(ho:e.cmd.old.f<18446744073709551616)(hr:e.r≤9223372036854775807)(hc:0≤e.c∧e.c<5)(h3:e.cmd.k=3):
  Calls prog 19 #[.agg (stA n A k cp t),.agg (yZ e)] w (kD G (Ap.gH ⟨n,vs lo,t⟩ (Ap.ref e) e.cmd) (Ap.kS ⟨n,vs lo,t⟩ (Ap.ref e) e.cmd) w):=by
 have HB:=zH (fun W=>vO t (Ap.ref e) W hf hr);have kE:=zH hG;have HE:=zH (fun W=>vN (aG.iT t (Ap.ref e)) (Ap.ref e) au.rz W (aG.lW hf _) (by decide));unfold RQ at HB HE;have H3:Hid (decide (e.cmd.k=3)=true):=zH (decide_eq_true h3);unfold Ap.gH Ap.kS;rw[if_pos h3,if_pos h3];unfold Ap.touch;dsimp only;have HK:=uj w 33 (stA n A k cp t) 48 (yZ e);clear hs hG hf hv ho hr hc h3;generalize aG.iT t (Ap.ref e)=t1 at *
 generalize aG.ji t1 (Ap.ref e) au.rz=t2 at *
 go_enter func19,ntmps19;go_wp2_with (first|(refine bF HK ?_;clear HK;intro _ g1 HK;simp only[aS,aK] at HK)|refine zX (gD HK 0) ?_|refine zX (bS HK 1) ?_);refine cb (HB.out _) HK ?_;clear HK;intro _ HK;go_wp2_with (first|(refine eZ (u:=t1) HK 0 ?_;clear HK;intro _ HK;simp only[lS] at HK)|refine zX (oD (e:=e) HK 1) ?_|refine zX (aJ (m:=e.cmd.k) (n:=3) H3.out) ?_|refine zX (gD HK 0) ?_|refine zX (bS HK 1) ?_|refine zX (gF) ?_);refine cb (HE.out _) HK ?_;clear HK;intro _ HK;go_wp2_with (first|(refine eZ (u:=t2) HK 0 ?_;clear HK;intro _ HK;simp only[lS] at HK)|refine zX (bS HK 1) ?_|refine zX (sP (r:=Ap.ref e)) ?_|(refine dM bL (p:=⟨Ap.ref e,au.rz⟩) HK ?_;clear HK;intro _ g7 HK;simp only[aS,aK] at HK)|refine zX (oD (e:=e) HK 1) ?_|refine zX (aJ (m:=e.cmd.k) (n:=3) H3.out) ?_|refine zX (lq HK 0) ?_|(refine bg HK 2 ?_;clear HK;intro _ HK;simp only[lS] at HK));refine jD results19 (HK.out.blk 2 rfl) ?_;unfold kD;exact⟨A,k,cp,lo,_,_,_,_,rfl,zH rfl,HK.out.aB 0,zH fun b W0 W L R K hm hg=>⟨kE.out W hg,bT.own (K.mem (hm _ (List.mem_cons_self ..))) (oI (h:=(by show 1≤1000;decide)))⟩⟩
theorem AJ(G:World→Prop)(n:Int)(A:Option Addr)(k cp:Nat)(t:aG.T)(lo:List Oh)(e:aI.E)(w:World)(hG:∀W,G W→dS W A k cp lo)(hs:dS w A k cp lo)(hf:aG.Fit t)(hv:e.cmd.val.f<18446744073709551616)(ho:e.cmd.old.f<18446744073709551616)(hr:e.r≤9223372036854775807)(hc:0≤e.c∧e.c<5)(h2:e.cmd.k=2):
  Calls prog 19 #[.agg (stA n A k cp t),.agg (yZ e)] w (kD G (Ap.gH ⟨n,vs lo,t⟩ (Ap.ref e) e.cmd) (Ap.kS ⟨n,vs lo,t⟩ (Ap.ref e) e.cmd) w):=by
 have HB:=zH (fun W=>vO t (Ap.ref e) W hf hr);have kE:=zH hG;have hft:=aG.qo (aG.lW hf (Ap.ref e)) (Ap.ref e) (x:=au.rz) (by decide);have HE:=zH (fun W=>vN (aG.iT t (Ap.ref e)) (Ap.ref e) au.rz W (aG.lW hf _) (by decide));have Yt:=zH (fun W (hW:Below w.heap.size w W)=>uQ (fun W=>G W∨Below w.heap.size w W) n A k cp _ lo e.c W (fun W h=>h.elim (hG W) fun g=>hs.later g) (hs.later hW) hft hc);have JD:=zH (Ap.Bj ⟨n,vs lo,aG.ji (aG.iT t (Ap.ref e)) (Ap.ref e) au.rz⟩ e.c (yg _ _));unfold RQ at HB HE;unfold kD at Yt;have H3:Hid (decide (e.cmd.k=3)=false):=zH (decide_eq_false (by omega));have H2:Hid (decide (e.cmd.k=2)=true):=zH (decide_eq_true h2);unfold Ap.gH Ap.kS;have h3n:¬e.cmd.k=3:=by omega
 rw[if_neg h3n,if_neg h3n,if_pos h2,if_pos h2];clear h3n;have e9:Ap.touch ⟨n,vs lo,t⟩ (Ap.ref e)=⟨n,vs lo,aG.ji (aG.iT t (Ap.ref e)) (Ap.ref e) au.rz⟩:=rfl;rw[e9,show(Ap.ref e).c=e.c from rfl];clear e9;have HK:=uj w 33 (stA n A k cp t) 48 (yZ e);clear hs hG hf hv ho hr hc h2 hft;generalize aG.iT t (Ap.ref e)=t1 at *
 generalize aG.ji t1 (Ap.ref e) au.rz=t2 at *
 generalize Ap.lN ⟨n,vs lo,t2⟩ e.c=os at *
 generalize Ap.iR ⟨n,vs lo,t2⟩ e.c=s2 at *
 obtain⟨n2,l2,t3⟩:=s2;dsimp only at *
 go_enter func19,ntmps19;go_wp2_with (first|(refine bF HK ?_;clear HK;intro _ g1 HK;simp only[aS,aK] at HK)|refine zX (gD HK 0) ?_|refine zX (bS HK 1) ?_);refine cb (HB.out _) HK ?_;clear HK;intro _ HK;go_wp2_with (first|(refine eZ (u:=t1) HK 0 ?_;clear HK;intro _ HK;simp only[lS] at HK)|refine zX (oD (e:=e) HK 1) ?_|refine zX (aJ (m:=e.cmd.k) (n:=3) H3.out) ?_|refine zX (aJ (m:=e.cmd.k) (n:=2) H2.out) ?_|refine zX (gD HK 0) ?_|refine zX (bS HK 1) ?_|refine zX (gF) ?_);refine cb (HE.out _) HK ?_;clear HK;intro _ HK;go_wp2_with (first|(refine eZ (u:=t2) HK 0 ?_;clear HK;intro _ HK;simp only[lS] at HK)|refine zX (bS HK 1) ?_|refine zX (sP (r:=Ap.ref e)) ?_|(refine dM bL (p:=⟨Ap.ref e,au.rz⟩) HK ?_;clear HK;intro _ g7 HK;simp only[aS,aK] at HK)|refine zX (oD (e:=e) HK 1) ?_|refine zX (aJ (m:=e.cmd.k) (n:=3) H3.out) ?_|refine zX (lq HK 0) ?_|refine zX (wh (e:=e) HK 1) ?_);refine(Yt.out _ HK.out.b).mono ?_;rintro en w1 ⟨A2,k2,c2,lo2,O2,m2,d2,R2,rfl,HV2,q2,HI2⟩;replace HK:=zH (HK.out.join q2);clear q2;simp only[aS,aK] at HK;have kF:Hid (os.length=m2):=zH (HI2.out _ _ _ _ _ HK.out (fun z hz=>List.mem_cons_of_mem _ hz) (.inr HK.out.b)).2.len;have fP:Hid (([⟨Ap.ref e,au.rz⟩]++os:List au.Ot).length=1+m2):=zH (by rw[List.length_append,kF.out];rfl);have FY:Hid (m2≤9):=zH (by rw[← kF.out];exact JD.out);have HL2:=dN (La:=bL) fP (hN:=(by have:=FY.out;omega));go_upto_region 8 with (first|(refine bF HK ?_;clear HK;intro _ g8 HK;simp only[aS,aK] at HK)|(refine bg HK 3 ?_;clear HK;intro _ HK;simp only[lS] at HK));have aj:=zH HK.out.drew;clear HK Yt HE HB;refine zR ((aj.out.aO 3).ay 0) fun ah=>?_
 refine ak 0 rfl ?_ fun _ s=>lq s 0
 refine ak 1 rfl ?_;refine ak 2 rfl ?_;refine aC 3 rfl fun K hK=>?_
 have HR2:=zH (And.intro (HI2.out _ _ _ _ _ aj.out (fun z hz=>List.mem_cons_of_mem _ hz) (.inr aj.out.b)).2.rd (HI2.out _ _ _ _ _ aj.out (fun z hz=>List.mem_cons_of_mem _ hz) (.inr aj.out.b)).2.nl);refine aM bL aj 0 os kF.out.symm HR2 HL2 (N:=1+m2) fP ?_;clear aj;intro A9 c9 _ aj;simp only[lS] at aj HR2;have hs:=zH ((aj.out.aO 3).ay 0);refine bk hK hs fun ah=>?_
 clear hK K;refine aC 4 rfl fun K hK=>?_
 refine gJ aj 2 ?_;clear aj;intro w7 aj;simp only[lS] at aj;have hs:=zH ((aj.out.aO 3).ay 0);refine bk hK hs fun ah=>?_
 clear hK K;refine ak 5 rfl ?_;refine cB ?_
 all_goals
  have HK:=aj;clear aj ah;go_wp2_with fail;refine jD results19 (HK.out.blk 2 rfl) ?_;exact aei
theorem AB(G:World→Prop)(n:Int)(A:Option Addr)(k cp:Nat)(t:aG.T)(lo:List Oh)(e:aI.E)(w:World)(hG:∀W,G W→dS W A k cp lo)(hs:dS w A k cp lo)(hf:aG.Fit t)(hv:e.cmd.val.f<18446744073709551616)(ho:e.cmd.old.f<18446744073709551616)(hr:e.r≤9223372036854775807)(hc:0≤e.c∧e.c<5)(h3:¬e.cmd.k=3)(h2:¬e.cmd.k=2)(hla:(au.iq (vs lo) (Ap.ref e) e.cmd).later=true):
  Calls prog 19 #[.agg (stA n A k cp t),.agg (yZ e)] w (kD G (Ap.gH ⟨n,vs lo,t⟩ (Ap.ref e) e.cmd) (Ap.kS ⟨n,vs lo,t⟩ (Ap.ref e) e.cmd) w):=by
 have HB:=zH (fun W=>vO t (Ap.ref e) W hf hr);have kE:=zH hG;have hfl:=Ap.yh (xO hs) (Ap.ref e) e.cmd;have HD:=zH (fun W (hW:Below w.heap.size w W)=>Nt (fun W=>G W∨Below w.heap.size w W) A cp k lo (Ap.ref e) e.cmd W (fun W h=>h.elim (hG W) fun g=>hs.later g) (hs.later hW) hv ho);unfold RQ at HB;unfold lX at HD;have H3:Hid (decide (e.cmd.k=3)=false):=zH (decide_eq_false h3);have H2:Hid (decide (e.cmd.k=2)=false):=zH (decide_eq_false h2);unfold Ap.gH Ap.kS;rw[if_neg h3,if_neg h3,if_neg h2,if_neg h2];rw[show(au.iq (⟨n,vs lo,t⟩:Ap.St).l (Ap.ref e) e.cmd)=au.iq (vs lo) (Ap.ref e) e.cmd from rfl];rw[if_pos hla,if_pos hla];dsimp only;have HK:=uj w 33 (stA n A k cp t) 48 (yZ e);clear hs hG hf hv ho hr hc h3 h2 hfl;generalize aG.iT t (Ap.ref e)=t1 at *
 generalize au.iq (vs lo) (Ap.ref e) e.cmd=D at *
 obtain⟨l9,p9,la9,os⟩:=D;dsimp only at *
 subst hla;go_enter func19,ntmps19;go_wp2_with (first|(refine bF HK ?_;clear HK;intro _ g1 HK;simp only[aS,aK] at HK)|refine zX (gD HK 0) ?_|refine zX (bS HK 1) ?_);refine cb (HB.out _) HK ?_;clear HK;intro _ HK;go_wp2_with (first|(refine eZ (u:=t1) HK 0 ?_;clear HK;intro _ HK;simp only[lS] at HK)|refine zX (oD (e:=e) HK 1) ?_|refine zX (aJ (m:=e.cmd.k) (n:=3) H3.out) ?_|refine zX (aJ (m:=e.cmd.k) (n:=2) H2.out) ?_|refine zX (qN HK 0) ?_|refine zX (bS HK 1) ?_|refine zX (xS HK 1) ?_);refine(HD.out _ HK.out.b).mono ?_;rintro en w1 ⟨A2,k2,c2,lo2,O2,m2,d2,R2,rfl,v2,q2,i2⟩;have HV2:=zH v2;have HI2:=zH i2;replace HK:=zH (HK.out.join q2);clear q2 v2 i2;simp only[aK] at HK;go_wp2_with (first|(refine iw HK ?_;clear HK;intro _ g9 HK;simp only[aS,aK] at HK)|(refine bX (q:=p9) HK 3 ?_;clear HK;intro _ HK;simp only[lS] at HK)|(refine nA HK 0 ?_;clear HK;intro _ HK;simp only[lS] at HK)|refine zX (lq HK 0) ?_|(refine bg HK 2 ?_;clear HK;intro _ HK;simp only[lS] at HK));refine jD results19 (HK.out.blk 2 rfl) ?_;unfold kD;exact⟨A2,k2,c2,lo2,none,0,0,_,rfl,HV2,HK.out.aB 0,zH fun b W0 W L R K hm hg=>⟨(HI2.out b W0 W L R K hm (.inl hg)).1,bT.none W⟩⟩
theorem Cn(G:World→Prop)(n:Int)(A:Option Addr)(k cp:Nat)(t:aG.T)(lo:List Oh)(e:aI.E)(w:World)(hG:∀W,G W→dS W A k cp lo)(hs:dS w A k cp lo)(hf:aG.Fit t)(hv:e.cmd.val.f<18446744073709551616)(ho:e.cmd.old.f<18446744073709551616)(hr:e.r≤9223372036854775807)(hc:0≤e.c∧e.c<5)(h3:¬e.cmd.k=3)(h2:¬e.cmd.k=2)(hla:(au.iq (vs lo) (Ap.ref e) e.cmd).later=false):
  Calls prog 19 #[.agg (stA n A k cp t),.agg (yZ e)] w (kD G (Ap.gH ⟨n,vs lo,t⟩ (Ap.ref e) e.cmd) (Ap.kS ⟨n,vs lo,t⟩ (Ap.ref e) e.cmd) w):=by
 have HB:=zH (fun W=>vO t (Ap.ref e) W hf hr);have kE:=zH hG;have hfl:=Ap.yh (xO hs) (Ap.ref e) e.cmd;have HD:=zH (fun W (hW:Below w.heap.size w W)=>Nt (fun W=>G W∨Below w.heap.size w W) A cp k lo (Ap.ref e) e.cmd W (fun W h=>h.elim (hG W) fun g=>hs.later g) (hs.later hW) hv ho);have HE:=zH (fun W=>vN (aG.iT t (Ap.ref e)) (Ap.ref e) (au.iq (vs lo) (Ap.ref e) e.cmd).p W (aG.lW hf _) hfl.1);have zi:=zH (fun(A2:Option Addr) (n2 c2:Nat) (O:Option Addr) (m d:Nat) W (h:bT bL tF W O m d (au.iq (vs lo) (Ap.ref e) e.cmd).outs)=>Db n A2 n2 c2 _ O m d W (aG.qo (aG.lW hf (Ap.ref e)) (Ap.ref e) hfl.1) h hfl.2);have JD:=zH (Ap.abq (vs lo) (Ap.ref e) e.cmd);unfold RQ at HE;unfold RQ at HB;unfold lX at HD;have H3:Hid (decide (e.cmd.k=3)=false):=zH (decide_eq_false h3);have H2:Hid (decide (e.cmd.k=2)=false):=zH (decide_eq_false h2);unfold Ap.gH Ap.kS;rw[if_neg h3,if_neg h3,if_neg h2,if_neg h2];rw[show(au.iq (⟨n,vs lo,t⟩:Ap.St).l (Ap.ref e) e.cmd)=au.iq (vs lo) (Ap.ref e) e.cmd from rfl];rw[if_neg (by rw[hla];decide),if_neg (by rw[hla];decide)];unfold Ap.kept;dsimp only;have HK:=uj w 33 (stA n A k cp t) 48 (yZ e);clear hs hG hf hv ho hr hc h3 h2 hfl;generalize aG.iT t (Ap.ref e)=t1 at *
 generalize au.iq (vs lo) (Ap.ref e) e.cmd=D at *
 obtain⟨l9,p9,la9,os⟩:=D;dsimp only at *
 subst hla;generalize aG.ji t1 (Ap.ref e) p9=t2 at *
 go_enter func19,ntmps19;go_wp2_with (first|(refine bF HK ?_;clear HK;intro _ g1 HK;simp only[aS,aK] at HK)|refine zX (gD HK 0) ?_|refine zX (bS HK 1) ?_);refine cb (HB.out _) HK ?_;clear HK;intro _ HK;go_wp2_with (first|(refine eZ (u:=t1) HK 0 ?_;clear HK;intro _ HK;simp only[lS] at HK)|refine zX (oD (e:=e) HK 1) ?_|refine zX (aJ (m:=e.cmd.k) (n:=3) H3.out) ?_|refine zX (aJ (m:=e.cmd.k) (n:=2) H2.out) ?_|refine zX (qN HK 0) ?_|refine zX (bS HK 1) ?_|refine zX (xS HK 1) ?_);refine(HD.out _ HK.out.b).mono ?_;rintro en w1 ⟨A2,k2,c2,lo2,O2,m2,d2,R2,rfl,v2,q2,i2⟩;have HV2:=zH v2;have HI2:=zH i2;replace HK:=zH (HK.out.join q2);clear q2 v2 i2;simp only[aK] at HK;go_wp2_with (first|(refine iw HK ?_;clear HK;intro _ g9 HK;simp only[aS,aK] at HK)|(refine bX (q:=p9) HK 3 ?_;clear HK;intro _ HK;simp only[lS] at HK)|(refine nA HK 0 ?_;clear HK;intro _ HK;simp only[lS] at HK)|refine zX (gD HK 0) ?_|refine zX (bS HK 1) ?_|refine zX (Sg HK 3) ?_);refine cb (HE.out _) HK ?_;clear HK;intro _ HK;go_upto_region 14 with (refine eZ (u:=t2) HK 0 ?_;clear HK;intro _ HK;simp only[lS] at HK);have kF:Hid (os.length=m2):=zH (HI2.out _ _ _ _ _ HK.out (fun z hz=>hz) (.inr HK.out.b)).2.len;have fP:Hid (([⟨Ap.ref e,p9⟩]++os:List au.Ot).length=1+m2):=zH (by rw[List.length_append,kF.out];rfl);have FY:Hid (m2≤8):=zH (by rw[← kF.out];exact JD.out);have HL2:=dN (La:=bL) fP (hN:=(by have:=FY.out;omega));have aj:=zH HK.out.drew;clear HK HD HE HB;refine wp_region_held_drew (S:=(fun W=>Hid (Kn w.heap.size w W [(w.heap.size,33,stA n A2 k2 c2 t2),(w.heap.size+1,48,yZ e)] [])∧Hid (Kn w.heap.size w W [(g9,28,dG p9)] []))) (by kernel_rfl) ?_ fun ah=>?_
 ·(try dsimp only);exact(⟨zH ((aj.out.aB 2).ay 0),zH ((aj.out.aO 3).ay 0)⟩:_∧_)
 refine ak 0 rfl ?_ fun _ s=>lq s.1 0
 refine ak 1 rfl ?_;refine ak 3 rfl ?_;refine ak 4 rfl ?_ fun _ s=>bS s.1 1
 refine ak 5 rfl ?_ fun _ s=>Sg s.2 0
 refine ak 6 rfl ?_ fun _ s=>ng (r:=Ap.ref e) (p:=p9)
 refine ak 8 rfl ?_;refine iW 2 7 rfl rfl (fun K hK=>?_) fun K hK=>?_
 go_simp;go_at_call 45;refine(zi.out A2 k2 c2 O2 m2 d2 _ (HI2.out _ _ _ _ _ aj.out (fun z hz=>by first|exact hz|exact List.mem_cons_of_mem _ hz) (.inr aj.out.b)).2).mono ?_;rintro en w5 ⟨rfl,b5⟩;replace aj:=zH (aj.out.call b5);clear b5;have hs:=(⟨zH ((aj.out.aB 2).ay 0),zH ((aj.out.aO 3).ay 0)⟩:_∧_);refine bk hK hs fun ah=>?_
 clear hK K;refine aC 7 rfl fun K hK=>?_
 refine bP bL (p:=⟨Ap.ref e,p9⟩) aj ?_;intro _ g5 dz _;replace aj:=zH dz.out.gG;clear dz;have hs:=(⟨zH ((aj.out.aB 2).ay 0),zH ((aj.out.aO 3).ay 0)⟩:_∧_);refine bk hK hs fun ah=>?_
 clear hK K;refine aC 9 rfl fun K hK=>?_
 have HR2:=zH (And.intro (HI2.out _ _ _ _ _ aj.out (fun z hz=>by first|exact hz|exact List.mem_cons_of_mem _ hz) (.inr aj.out.b)).2.rd (HI2.out _ _ _ _ _ aj.out (fun z hz=>by first|exact hz|exact List.mem_cons_of_mem _ hz) (.inr aj.out.b)).2.nl);refine aM bL aj 0 os kF.out.symm HR2 HL2 (N:=1+m2) fP ?_;clear aj;intro A9 c9 _ aj;simp only[lS] at aj HR2;have hs:=(⟨zH ((aj.out.aB 2).ay 0),zH ((aj.out.aO 3).ay 0)⟩:_∧_);refine bk hK hs fun ah=>?_
 clear hK K;refine aC 10 rfl fun K hK=>?_
 refine gJ aj 2 ?_;clear aj;intro w7 aj;simp only[lS] at aj;have hs:=(⟨zH ((aj.out.aB 2).ay 0),zH ((aj.out.aO 3).ay 0)⟩:_∧_);refine bk hK hs fun ah=>?_
 clear hK K;refine ak 11 rfl ?_;refine cB ?_
 rotate_left
 refine bP bL (p:=⟨Ap.ref e,p9⟩) aj ?_;intro _ g5 dz _;replace aj:=zH dz.out.gG;clear dz;have hs:=(⟨zH ((aj.out.aB 2).ay 0),zH ((aj.out.aO 3).ay 0)⟩:_∧_);refine bk hK hs fun ah=>?_
 clear hK K;refine aC 2 rfl fun K hK=>?_
 go_simp;go_at_call 45;refine(zi.out A2 k2 c2 O2 m2 d2 _ (HI2.out _ _ _ _ _ aj.out (fun z hz=>by first|exact hz|exact List.mem_cons_of_mem _ hz) (.inr aj.out.b)).2).mono ?_;rintro en w5 ⟨rfl,b5⟩;replace aj:=zH (aj.out.call b5);clear b5;have hs:=(⟨zH ((aj.out.aB 2).ay 0),zH ((aj.out.aO 3).ay 0)⟩:_∧_);refine bk hK hs fun ah=>?_
 clear hK K;refine aC 9 rfl fun K hK=>?_
 have HR2:=zH (And.intro (HI2.out _ _ _ _ _ aj.out (fun z hz=>by first|exact hz|exact List.mem_cons_of_mem _ hz) (.inr aj.out.b)).2.rd (HI2.out _ _ _ _ _ aj.out (fun z hz=>by first|exact hz|exact List.mem_cons_of_mem _ hz) (.inr aj.out.b)).2.nl);refine aM bL aj 0 os kF.out.symm HR2 HL2 (N:=1+m2) fP ?_;clear aj;intro A9 c9 _ aj;simp only[lS] at aj HR2;have hs:=(⟨zH ((aj.out.aB 2).ay 0),zH ((aj.out.aO 3).ay 0)⟩:_∧_);refine bk hK hs fun ah=>?_
 clear hK K;refine aC 10 rfl fun K hK=>?_
 refine gJ aj 2 ?_;clear aj;intro w7 aj;simp only[lS] at aj;have hs:=(⟨zH ((aj.out.aB 2).ay 0),zH ((aj.out.aO 3).ay 0)⟩:_∧_);refine bk hK hs fun ah=>?_
 clear hK K;refine ak 11 rfl ?_;refine cB ?_
 rotate_left
 all_goals
  have HK:=aj;clear aj ah;go_wp2_with fail;refine jD results19 (HK.out.blk 2 rfl) ?_;exact aei
theorem EG(G:World→Prop)(n:Int)(A:Option Addr)(k cp:Nat)(t:aG.T)(lo:List Oh)(e:aI.E)(w:World)(hG:∀W,G W→dS W A k cp lo)(hs:dS w A k cp lo)(hf:aG.Fit t)(hv:e.cmd.val.f<18446744073709551616)(ho:e.cmd.old.f<18446744073709551616)(hr:e.r≤9223372036854775807)(hc:0≤e.c∧e.c<5):
  Calls prog 19 #[.agg (stA n A k cp t),.agg (yZ e)] w (kD G (Ap.gH ⟨n,vs lo,t⟩ (Ap.ref e) e.cmd) (Ap.kS ⟨n,vs lo,t⟩ (Ap.ref e) e.cmd) w):=by
 by_cases h3:e.cmd.k=3
 ·exact AA G n A k cp t lo e w hG hs hf hv ho hr hc h3
 by_cases h2:e.cmd.k=2
 ·exact AJ G n A k cp t lo e w hG hs hf hv ho hr hc h2
 cases hla:(au.iq (vs lo) (Ap.ref e) e.cmd).later with
 | true=>exact AB G n A k cp t lo e w hG hs hf hv ho hr hc h3 h2 hla
 | false=>exact Cn G n A k cp t lo e w hG hs hf hv ho hr hc h3 h2 hla
end
section
theorem Me(e:aI.E)(q:Bool)(h:q=true↔(decide (aI.right e)=true∧aI.aX e.cmd=0∧(e.r=0↔(e.cmd.k=1∨e.cmd.k=18)))):q=decide (aI.fits e):=by
 rw[Bool.eq_iff_iff,h,decide_eq_true_eq,decide_eq_true_eq];exact Iff.rfl
theorem BN(e:aI.E)(w:World)(hv:e.cmd.val.f<18446744073709551616)(ho:e.cmd.old.f<18446744073709551616):Calls prog 15 #[.agg (yZ e)] w fun en w'=>en=.returned (.bool (decide (aI.fits e)))∧Below w.heap.size w w':=by
 have HE:=zH (Me e);have HR:=zH (fun W=>Jc e W);have HC:=zH (fun W=>gV e.cmd W hv ho);clear hv ho;generalize decide (aI.fits e)=d at *
 generalize decide (aI.right e)=dr at *
 generalize aI.aX e.cmd=z at *
 obtain⟨c,ep,r,k,name,key,⟨vk,vn,vf,vs⟩,⟨ok,on,of,os⟩,n,m⟩:=e;unfold yZ dL iQ at *
 simp only at HE HR HC ⊢;have HK:=jw w 48 (evC c ep r k name key vk vn vf vs ok on of os n m)
 have hz:(z=0)∨(z != 0)=true:=by
  by_cases h:z=0
  ·exact .inl h
  ·exact .inr (by simpa using h)
 cases dr
 all_goals
  go_enter func15,ntmps15;go_wp2_with refine av (bS HK 0) ?_;refine cb (HR.out _) HK ?_;clear HK;intro _ HK
 ·go_wp2_with fail
  go_ret;exact⟨congrArg (fun b=>Ending.returned (.bool b)) (HE.out _ (by simp)),HK.out.b⟩
 ·go_wp2_with refine av (xS HK 0) ?_
  refine cb (HC.out _) HK ?_;clear HK;intro _ HK;obtain⟨pG,pF,pE,pz,-⟩:=Kn.ev HK.out 0 rfl
  rcases hz with rfl|hz
  ·have hk:k=1∨k=18∨(¬k=1∧¬k=18):=by omega
   have hr:(r=0)∨(¬r=0):=by omega
   rcases hk with rfl|rfl|⟨hk1,hk2⟩<;>rcases hr with rfl|hr
   all_goals
    go_wp2_with fail;go_ret;refine⟨congrArg (fun b=>Ending.returned (.bool b)) (HE.out _ ?_),HK.out.b⟩;clear HK HC HR HE
    simp_all<;>(rw[beq_false_of_ne hr,beq_false_of_ne hk1,beq_false_of_ne hk2];rfl)
  ·go_wp2_with fail
   go_ret;refine⟨congrArg (fun b=>Ending.returned (.bool b)) (HE.out _ ?_),HK.out.b⟩;clear HK HC HR HE
   simp_all
end
section
section
variable {b0:Nat}{w0 w:World}{L:List (Nat×TypeId×Array Value)}{R:List bV}{o:Oper}{a:Act}{g:Nat}{e:aI.E}
theorem aiR(HK:Hid (Kn b0 w0 w L R))(i:Nat){x:Operand}(ho:o.op=.load 3 x)(hL:L[i]?=some (g,48,yZ e))(hx:a.eval x=.pointer (some ⟨g,1,none⟩)):
  (execOp a.eval o).run prog w=.ok (.value (.int .i64 e.e)) w:=aT HK _ x ho i hL hx underlying3
theorem ado(HK:Hid (Kn b0 w0 w L R))(i:Nat){x:Operand}(ho:o.op=.load 3 x:=by rfl)(hL:L[i]?=some (g,48,yZ e):=by rfl)(hx:a.eval x=.pointer (some ⟨g,2,none⟩):=by rfl):
  (execOp a.eval o).run prog w=.ok (.value (.int .i64 e.r)) w:=aT HK _ x ho i hL hx underlying3
end
theorem EI(G:World→Prop)(n:Int)(A:Option Addr)(k cp:Nat)(t:aG.T)(lo:List Oh)(e:aI.E)(w:World)(hG:∀W,G W→dS W A k cp lo)(hs:dS w A k cp lo)(hf:aG.Fit t)(hv:e.cmd.val.f<18446744073709551616)(ho:e.cmd.old.f<18446744073709551616)(hbad:¬Ap.Can ⟨n,vs lo,t⟩ e):
  Calls prog 7 #[.agg (stA n A k cp t),.agg (yZ e)] w (kD G (Ap.Cu ⟨n,vs lo,t⟩ e) (Ap.Xx ⟨n,vs lo,t⟩ e) w):=by
 rw[(Ap.FE hbad).1,(Ap.FE hbad).2];have HK:=uj w 33 (stA n A k cp t) 48 (yZ e);have nN:=zH (fun W (hW:Below w.heap.size w W)=>vP n A k cp t lo W (hs.later hW) hf);have lJ:=zH (fun W=>BN e W hv ho);have kE:=zH hG;unfold dw at nN;go_enter func7,ntmps7;by_cases h1:Ap.Ok ⟨n,vs lo,t⟩
 case neg=>
  rw[decide_eq_false h1] at nN;clear hs hf hv ho hbad h1 lJ hG;go_wp2_with (first|go_big_skip|(refine bF HK ?_;clear HK;intro _ g1 HK;simp only[aS,aK] at HK)|refine zX (lq HK 0) ?_);refine cb (nN.out _ HK.out.b) HK ?_;clear HK;intro _ HK;go_wp2_with (first|go_big_skip|refine zX (lq HK 0) ?_|(refine bg HK 2 ?_;clear HK;intro _ HK;simp only[lS] at HK));exact Pb
 case pos=>
 rw[decide_eq_true h1] at nN;by_cases h2:aI.fits e
 case neg=>
  rw[decide_eq_false h2] at lJ;clear hs hf hv ho hbad h1 h2 hG;go_wp2_with (first|go_big_skip|(refine bF HK ?_;clear HK;intro _ g1 HK;simp only[aS,aK] at HK)|refine zX (lq HK 0) ?_);refine cb (nN.out _ HK.out.b) HK ?_;clear HK;intro _ HK;go_wp2_with (first|go_big_skip|refine zX (vY HK 1) ?_);refine cb (lJ.out _) HK ?_;clear HK;intro _ HK;go_wp2_with (first|go_big_skip|refine zX (lq HK 0) ?_|(refine bg HK 2 ?_;clear HK;intro _ HK;simp only[lS] at HK));exact Pb
 case pos=>
 have h3:n=9223372036854775807:=Decidable.byContradiction fun g=>hbad ⟨h1,h2,g⟩
 rw[decide_eq_true h2] at lJ;have H3:Hid (decide (n=9223372036854775807)=true):=zH (decide_eq_true h3);clear hs hf hv ho hbad h1 h2 hG h3;go_wp2_with (first|go_big_skip|(refine bF HK ?_;clear HK;intro _ g1 HK;simp only[aS,aK] at HK)|refine zX (lq HK 0) ?_);refine cb (nN.out _ HK.out.b) HK ?_;clear HK;intro _ HK;go_wp2_with (first|go_big_skip|refine zX (vY HK 1) ?_);refine cb (lJ.out _) HK ?_;clear HK;intro _ HK;go_wp2_with (first|go_big_skip|refine zX (lg HK 0) ?_|refine zX (aJ (m:=n) (n:=9223372036854775807) H3.out) ?_|refine zX (lq HK 0) ?_|(refine bg HK 2 ?_;clear HK;intro _ HK;simp only[lS] at HK));exact Pb
theorem EH(G:World→Prop)(n:Int)(A:Option Addr)(k cp:Nat)(t:aG.T)(lo:List Oh)(e:aI.E)(w:World)(hG:∀W,G W→dS W A k cp lo)(hs:dS w A k cp lo)(hf:aG.Fit t)(hv:e.cmd.val.f<18446744073709551616)(ho:e.cmd.old.f<18446744073709551616)(hr:e.r≤9223372036854775807)(hn:n≤9223372036854775807)(hcan:Ap.Can ⟨n,vs lo,t⟩ e):
  Calls prog 7 #[.agg (stA n A k cp t),.agg (yZ e)] w (kD G (Ap.Cu ⟨n,vs lo,t⟩ e) (Ap.Xx ⟨n,vs lo,t⟩ e) w):=by
 obtain⟨s9,QV⟩:∃s,Ap.zL ⟨n+1,vs lo,t⟩ e=s:=⟨_,rfl⟩;obtain⟨o9,QX⟩:∃o,Ap.DC ⟨n+1,vs lo,t⟩ e=o:=⟨_,rfl⟩;rw[show Ap.Cu ⟨n,vs lo,t⟩ e=Ap.zL ⟨n+1,vs lo,t⟩ e from if_pos hcan,show Ap.Xx ⟨n,vs lo,t⟩ e=Ap.DC ⟨n+1,vs lo,t⟩ e from if_pos hcan,QV,QX];have HK:=uj w 33 (stA n A k cp t) 48 (yZ e);have nN:=zH (fun W (hW:Below w.heap.size w W)=>vP n A k cp t lo W (hs.later hW) hf);have lJ:=zH (fun W=>BN e W hv ho);have kE:=zH hG;obtain⟨hok,hfi,h3⟩:=hcan;replace h3:¬n=9223372036854775807:=h3;have hc:0≤e.c∧e.c<5:=aG.mR (Ap.BF hfi);have H3:Hid (decide (n=9223372036854775807)=false):=zH (decide_eq_false h3);have HW:Hid (IntKind.i64.wrap (n+1)=n+1):=zH (by have:=hok.n;have:0≤n:=this;rw[IntKind.wrap_i64];omega);unfold dw at nN;rw[decide_eq_true hok] at nN;rw[decide_eq_true hfi] at lJ;have hs2:∀W,Below w.heap.size w W→dS W A k cp lo:=fun W hW=>hs.later hW
 go_enter func7,ntmps7;go_wp2_with (first|go_big_skip|(refine bF HK ?_;clear HK;intro _ g1 HK;simp only[aS,aK] at HK)|refine zX (lq HK 0) ?_);refine cb (nN.out _ HK.out.b) HK ?_;clear HK;intro _ HK;go_wp2_with (first|go_big_skip|refine zX (vY HK 1) ?_);refine cb (lJ.out _) HK ?_;clear HK;intro _ HK;clear nN lJ;by_cases h18:e.cmd.k=18
 case pos=>
  have E18:Hid (decide (e.cmd.k=18)=true):=zH (decide_eq_true h18);have g18:=Ap.Wo (s:=⟨n+1,vs lo,t⟩) h18;rw[QV,QX] at g18;by_cases hh:(t.get e.c).live=true∧(t.get e.c).ep=e.e
  case pos=>
   obtain⟨e1,e2⟩:=g18;rw[if_pos hh] at e1 e2
   have Ec:Hid (∀W,Below w.heap.size w W→Calls prog 16 #[.agg (stA (n+1) A k cp t),.int .i64 e.c] W (kD (fun W=>G W∨Below w.heap.size w W) s9 o9 W)):=zH fun W hW=>by
    rw[e1,e2];exact uQ (fun W=>G W∨Below w.heap.size w W) (n+1) A k cp t lo e.c W (fun W h=>h.elim (hG W) (hs2 W)) (hs2 W hW) hf hc
   have HV1:=zH hh;clear QV QX e1 e2 hs hf hG hs2 hr hn hok hfi h3 h18 hv ho hh;obtain⟨n3,l3,t3⟩:=s9;unfold kD at Ec;dsimp only at Ec;go_upto_region 6 with (first|go_big_skip|refine zX (lg HK 0) ?_|refine zX (aJ (m:=n) (n:=9223372036854775807) H3.out) ?_|refine zX (fZ (m:=n) (n:=n+1) HW.out) ?_|(refine iX (m:=n+1) HK 0 ?_;clear HK;intro _ HK;simp only[lS] at HK)|refine zX (wh (e:=e) HK 1) ?_|refine zX (fJ hc) ?_|refine zX (uF HK 0 hc) ?_|(refine bE HK ?_;clear HK;intro _ g6 HK;simp only[aS,aK] at HK)|(refine bD (u:=t.get e.c) HK 3 ?_;clear HK;intro _ HK;simp only[lS] at HK)|refine zX (oD (e:=e) HK 1) ?_|refine zX (aJ (m:=e.cmd.k) (n:=18) E18.out) ?_);have fl:=HK.out.cell 3 rfl 0 (v:=.bool true) (by rw[← HV1.out.1];rfl);have fe:=HK.out.cell 3 rfl 1 (v:=.int .i64 e.e) (by rw[← HV1.out.2];rfl);have fr:=HK.out.cell 1 rfl 1 (v:=.int .i64 e.e) rfl;go_upto_region 7 with go_big_skip;clear fl fe fr;go_wp2_with (first|refine zX (lq HK 0) ?_|refine zX (wh (e:=e) HK 1) ?_);exact aeo
  case neg=>
   obtain⟨e1,e2⟩:=g18;rw[if_neg hh] at e1 e2;subst e1 e2;obtain⟨q1,hq1⟩:∃q,(t.get e.c).live=q:=⟨_,rfl⟩;obtain⟨q2,hq2⟩:∃q,decide ((t.get e.c).ep=e.e)=q:=⟨_,rfl⟩;have Q1:=zH hq1;have Q2:=zH hq2
   have HF:Hid ((q1&&q2)=false):=zH (by
    cases q1 with
    | false=>rfl
    | true=>rw[← hq2];exact decide_eq_false fun g=>hh ⟨hq1,g⟩)
   clear QV QX hs hf hG hs2 hr hn hok hfi h3 h18 hv ho hh hq1 hq2;go_upto_region 6 with (first|go_big_skip|refine zX (lg HK 0) ?_|refine zX (aJ (m:=n) (n:=9223372036854775807) H3.out) ?_|refine zX (fZ (m:=n) (n:=n+1) HW.out) ?_|(refine iX (m:=n+1) HK 0 ?_;clear HK;intro _ HK;simp only[lS] at HK)|refine zX (wh (e:=e) HK 1) ?_|refine zX (fJ hc) ?_|refine zX (uF HK 0 hc) ?_|(refine bE HK ?_;clear HK;intro _ g6 HK;simp only[aS,aK] at HK)|(refine bD (u:=t.get e.c) HK 3 ?_;clear HK;intro _ HK;simp only[lS] at HK)|refine zX (oD (e:=e) HK 1) ?_|refine zX (aJ (m:=e.cmd.k) (n:=18) E18.out) ?_)
   cases q1 with
   | false=>
    go_wp2_with (first|go_big_skip|refine zX ((lU HK 3).trans (by rw[Q1.out])) ?_|refine zX (lq HK 0) ?_|(refine bg HK 2 ?_;clear HK;intro _ HK;simp only[lS] at HK));exact Pb
   | true=>
    obtain rfl:q2=false:=HF.out;go_wp2_with (first|go_big_skip|refine zX ((lU HK 3).trans (by rw[Q1.out])) ?_|refine zX (nI HK 3) ?_|refine zX (aiR (e:=e) HK 1 (by rfl) (by rfl) (by rfl)) ?_|refine zX (aJ (m:=(t.get e.c).ep) (n:=e.e) Q2.out) ?_|refine zX (lq HK 0) ?_|(refine bg HK 2 ?_;clear HK;intro _ HK;simp only[lS] at HK));exact Pb
 case neg=>
 have E18:Hid (decide (e.cmd.k=18)=false):=zH (decide_eq_false h18);have zU:=zH (fun W=>xG t (Ap.ref e) W hf hr);unfold jo at zU;by_cases hl:aG.look t (Ap.ref e)=1
 case pos=>
  have g1:=Ap.afW (s:=⟨n+1,vs lo,t⟩) h18 hl;rw[QV,QX] at g1;rw[hl] at zU;have Z1:Hid (decide ((1:Int)=1)=true):=zH rfl;by_cases h0:e.r=0
  case pos=>
   obtain⟨e1,e2⟩:=g1;rw[if_pos h0] at e1 e2;have E0:Hid (decide (e.r=0)=true):=zH (decide_eq_true h0)
   have Ec:Hid (∀W,Below w.heap.size w W→Calls prog 18 #[.agg (stA (n+1) A k cp t),.agg #[.int .i64 e.c,.int .i64 e.e,.int .i64 e.r]] W (kD (fun W=>G W∨Below w.heap.size w W) s9 o9 W)):=zH fun W hW=>by
    rw[e1,e2];exact GL (fun W=>G W∨Below w.heap.size w W) (n+1) A k cp t lo (Ap.ref e) W (fun W h=>h.elim (hG W) (hs2 W)) (hs2 W hW) hf hc hr
   clear QV QX e1 e2 hs hf hG hs2 hr hn hok hfi h3 h18 hv ho h0 hl;obtain⟨n3,l3,t3⟩:=s9;unfold kD at Ec;dsimp only at Ec;go_wp2_with (first|go_big_skip|refine zX (lg HK 0) ?_|refine zX (aJ (m:=n) (n:=9223372036854775807) H3.out) ?_|refine zX (fZ (m:=n) (n:=n+1) HW.out) ?_|(refine iX (m:=n+1) HK 0 ?_;clear HK;intro _ HK;simp only[lS] at HK)|refine zX (wh (e:=e) HK 1) ?_|refine zX (fJ hc) ?_|refine zX (uF HK 0 hc) ?_|(refine bE HK ?_;clear HK;intro _ g6 HK;simp only[aS,aK] at HK)|(refine bD (u:=t.get e.c) HK 3 ?_;clear HK;intro _ HK;simp only[lS] at HK)|refine zX (oD (e:=e) HK 1) ?_|refine zX (aJ (m:=e.cmd.k) (n:=18) E18.out) ?_|refine zX (gD HK 0) ?_|refine zX (bS HK 1) ?_);refine cb (zU.out _) HK ?_;clear HK;intro _ HK;go_wp2_with (first|refine zX (aJ (m:=1) (n:=1) Z1.out) ?_|refine zX (ado (e:=e) HK 1) ?_|refine zX (aJ (m:=e.r) (n:=0) E0.out) ?_|refine zX (lq HK 0) ?_|refine zX (bS HK 1) ?_);exact aeo
  case neg=>
   obtain⟨e1,e2⟩:=g1;rw[if_neg h0] at e1 e2;have E0:Hid (decide (e.r=0)=false):=zH (decide_eq_false h0)
   have Ec:Hid (∀W,Below w.heap.size w W→Calls prog 19 #[.agg (stA (n+1) A k cp t),.agg (yZ e)] W (kD (fun W=>G W∨Below w.heap.size w W) s9 o9 W)):=zH fun W hW=>by
    rw[e1,e2];exact EG (fun W=>G W∨Below w.heap.size w W) (n+1) A k cp t lo e W (fun W h=>h.elim (hG W) (hs2 W)) (hs2 W hW) hf hv ho hr hc
   clear QV QX e1 e2 hs hf hG hs2 hr hn hok hfi h3 h18 hv ho h0 hl;obtain⟨n3,l3,t3⟩:=s9;unfold kD at Ec;dsimp only at Ec;go_wp2_with (first|go_big_skip|refine zX (lg HK 0) ?_|refine zX (aJ (m:=n) (n:=9223372036854775807) H3.out) ?_|refine zX (fZ (m:=n) (n:=n+1) HW.out) ?_|(refine iX (m:=n+1) HK 0 ?_;clear HK;intro _ HK;simp only[lS] at HK)|refine zX (wh (e:=e) HK 1) ?_|refine zX (fJ hc) ?_|refine zX (uF HK 0 hc) ?_|(refine bE HK ?_;clear HK;intro _ g6 HK;simp only[aS,aK] at HK)|(refine bD (u:=t.get e.c) HK 3 ?_;clear HK;intro _ HK;simp only[lS] at HK)|refine zX (oD (e:=e) HK 1) ?_|refine zX (aJ (m:=e.cmd.k) (n:=18) E18.out) ?_|refine zX (gD HK 0) ?_|refine zX (bS HK 1) ?_);refine cb (zU.out _) HK ?_;clear HK;intro _ HK;go_wp2_with (first|refine zX (aJ (m:=1) (n:=1) Z1.out) ?_|refine zX (ado (e:=e) HK 1) ?_|refine zX (aJ (m:=e.r) (n:=0) E0.out) ?_|refine zX (lq HK 0) ?_|refine zX (vY HK 1) ?_);exact aeo
 case neg=>
 by_cases h2:aG.look t (Ap.ref e)=2
 case pos=>
  have g2:=Ap.als (s:=⟨n+1,vs lo,t⟩) h18 h2;rw[QV,QX] at g2;obtain⟨e1,e2⟩:=g2;subst e1 e2;rw[h2] at zU;have Z1:Hid (decide ((2:Int)=1)=false):=zH rfl;have Z2:Hid (decide ((2:Int)=2)=true):=zH rfl;clear QV QX hs hf hG hs2 hr hn hok hfi h3 h18 hv ho hl h2;go_wp2_with (first|go_big_skip|refine zX (lg HK 0) ?_|refine zX (aJ (m:=n) (n:=9223372036854775807) H3.out) ?_|refine zX (fZ (m:=n) (n:=n+1) HW.out) ?_|(refine iX (m:=n+1) HK 0 ?_;clear HK;intro _ HK;simp only[lS] at HK)|refine zX (wh (e:=e) HK 1) ?_|refine zX (fJ hc) ?_|refine zX (uF HK 0 hc) ?_|(refine bE HK ?_;clear HK;intro _ g6 HK;simp only[aS,aK] at HK)|(refine bD (u:=t.get e.c) HK 3 ?_;clear HK;intro _ HK;simp only[lS] at HK)|refine zX (oD (e:=e) HK 1) ?_|refine zX (aJ (m:=e.cmd.k) (n:=18) E18.out) ?_|refine zX (gD HK 0) ?_|refine zX (bS HK 1) ?_);refine cb (zU.out _) HK ?_;clear HK;intro _ HK;go_upto_region 15 with (first|refine zX (aJ (m:=2) (n:=1) Z1.out) ?_|refine zX (aJ (m:=2) (n:=2) Z2.out) ?_);have aj:=zH HK.out.drew;clear HK zU;refine wp_region_held_drew (S:=(fun W=>Hid (Kn w.heap.size w W [(w.heap.size,33,stA (n+1) A k cp t),(w.heap.size+1,48,yZ e)] [])∧Hid (Kn w.heap.size w W [(g6,30,fK (t.get e.c))] []))) (by kernel_rfl) ?_ fun ah=>?_
  ·(try dsimp only);exact And.intro (zH ((aj.out.aB 2).ay 0)) (zH (((aj.out.aO 3).aB 1).ay 0))
  refine ak 0 rfl ?_ fun _ s=>lq s.1 0
  refine ak 1 rfl ?_;refine ak 2 rfl ?_ fun _ s=>bS s.1 1
  refine ak 3 rfl ?_;refine ak 4 rfl ?_ fun _ s=>kH s.2 0
  refine ak 5 rfl ?_ fun _ s=>ng (r:=Ap.ref e) (p:=(t.get e.c).p)
  refine iW 6 7 rfl rfl (fun K hK=>?_) fun K hK=>?_
  refine bP bL (p:=⟨Ap.ref e,(t.get e.c).p⟩) aj ?_;clear aj;intro _ g5 aj _;simp only[aK] at aj;have hs:=And.intro (zH ((aj.out.aB 2).ay 0)) (zH (((aj.out.aO 3).aB 1).ay 0));refine bk hK hs fun ah=>?_
  clear hK K;refine aC 7 rfl fun K hK=>?_
  refine gJ aj 2 ?_;clear aj;intro w7 aj;simp only[lS] at aj;have hs:=And.intro (zH ((aj.out.aB 2).ay 0)) (zH (((aj.out.aO 3).aB 1).ay 0));refine bk hK hs fun ah=>?_
  clear hK K;refine ak 8 rfl ?_;refine cB ?_
  rotate_left
  refine gJ aj 2 ?_;clear aj;intro w7 aj;simp only[lS] at aj;have hs:=And.intro (zH ((aj.out.aB 2).ay 0)) (zH (((aj.out.aO 3).aB 1).ay 0));refine bk hK hs fun ah=>?_
  clear hK K;refine aC 6 rfl fun K hK=>?_
  refine bP bL (p:=⟨Ap.ref e,(t.get e.c).p⟩) aj ?_;clear aj;intro _ g5 aj _;simp only[aK] at aj;have hs:=And.intro (zH ((aj.out.aB 2).ay 0)) (zH (((aj.out.aO 3).aB 1).ay 0));refine bk hK hs fun ah=>?_
  clear hK K;refine ak 8 rfl ?_;refine cB ?_
  rotate_left
  all_goals
   exact ahz
 case neg=>
 by_cases h4:aG.look t (Ap.ref e)=4
 case pos=>
  have g4:Ap.zL ⟨n+1,vs lo,t⟩ e=⟨n+1,vs lo,t⟩∧Ap.DC ⟨n+1,vs lo,t⟩ e=[⟨Ap.ref e,au.err 14⟩]:=by
   unfold Ap.zL Ap.DC;dsimp only;rw[if_neg h18,if_neg h18,h4];exact uw
  rw[QV,QX] at g4;obtain⟨e1,e2⟩:=g4;subst e1 e2;rw[h4] at zU;have Z1:Hid (decide ((4:Int)=1)=false):=zH rfl;have Z2:Hid (decide ((4:Int)=2)=false):=zH rfl;have Z4:Hid (decide ((4:Int)=4)=true):=zH rfl;clear QV QX hs hf hG hs2 hr hn hok hfi h3 h18 hv ho hl h2 h4;go_wp2_with (first|go_big_skip|refine zX (lg HK 0) ?_|refine zX (aJ (m:=n) (n:=9223372036854775807) H3.out) ?_|refine zX (fZ (m:=n) (n:=n+1) HW.out) ?_|(refine iX (m:=n+1) HK 0 ?_;clear HK;intro _ HK;simp only[lS] at HK)|refine zX (wh (e:=e) HK 1) ?_|refine zX (fJ hc) ?_|refine zX (uF HK 0 hc) ?_|(refine bE HK ?_;clear HK;intro _ g6 HK;simp only[aS,aK] at HK)|(refine bD (u:=t.get e.c) HK 3 ?_;clear HK;intro _ HK;simp only[lS] at HK)|refine zX (oD (e:=e) HK 1) ?_|refine zX (aJ (m:=e.cmd.k) (n:=18) E18.out) ?_|refine zX (gD HK 0) ?_|refine zX (bS HK 1) ?_);refine cb (zU.out _) HK ?_;clear HK;intro _ HK;go_upto_region 17 with (first|refine zX (aJ (m:=4) (n:=1) Z1.out) ?_|refine zX (aJ (m:=4) (n:=2) Z2.out) ?_|refine zX (aJ (m:=4) (n:=4) Z4.out) ?_);have aj:=zH HK.out.drew;clear HK zU;refine wp_region_held_drew (S:=(fun W=>Hid (Kn w.heap.size w W [(w.heap.size,33,stA (n+1) A k cp t),(w.heap.size+1,48,yZ e)] [])∧Hid (Kn w.heap.size w W [(g6,30,fK (t.get e.c))] []))) (by kernel_rfl) ?_ fun ah=>?_
  ·(try dsimp only);exact And.intro (zH ((aj.out.aB 2).ay 0)) (zH (((aj.out.aO 3).aB 1).ay 0))
  refine ak 0 rfl ?_ fun _ s=>lq s.1 0
  refine ak 1 rfl ?_;refine ak 2 rfl ?_ fun _ s=>bS s.1 1
  refine ak 3 rfl ?_ fun _ s=>wL (e:=14)
  refine ak 4 rfl ?_ fun _ s=>ng (r:=Ap.ref e) (p:=au.err 14)
  refine iW 5 6 rfl rfl (fun K hK=>?_) fun K hK=>?_
  refine bP bL (p:=⟨Ap.ref e,au.err 14⟩) aj ?_;clear aj;intro _ g5 aj _;simp only[aK] at aj;have hs:=And.intro (zH ((aj.out.aB 2).ay 0)) (zH (((aj.out.aO 3).aB 1).ay 0));refine bk hK hs fun ah=>?_
  clear hK K;refine aC 6 rfl fun K hK=>?_
  refine gJ aj 2 ?_;clear aj;intro w7 aj;simp only[lS] at aj;have hs:=And.intro (zH ((aj.out.aB 2).ay 0)) (zH (((aj.out.aO 3).aB 1).ay 0));refine bk hK hs fun ah=>?_
  clear hK K;refine ak 7 rfl ?_;refine cB ?_
  rotate_left
  refine gJ aj 2 ?_;clear aj;intro w7 aj;simp only[lS] at aj;have hs:=And.intro (zH ((aj.out.aB 2).ay 0)) (zH (((aj.out.aO 3).aB 1).ay 0));refine bk hK hs fun ah=>?_
  clear hK K;refine aC 5 rfl fun K hK=>?_
  refine bP bL (p:=⟨Ap.ref e,au.err 14⟩) aj ?_;clear aj;intro _ g5 aj _;simp only[aK] at aj;have hs:=And.intro (zH ((aj.out.aB 2).ay 0)) (zH (((aj.out.aO 3).aB 1).ay 0));refine bk hK hs fun ah=>?_
  clear hK K;refine ak 7 rfl ?_;refine cB ?_
  rotate_left
  all_goals
   exact ahz
 case neg=>
  have g5:Ap.zL ⟨n+1,vs lo,t⟩ e=⟨n+1,vs lo,t⟩∧Ap.DC ⟨n+1,vs lo,t⟩ e=[]:=by
   unfold Ap.zL Ap.DC;dsimp only;rw[if_neg h18,if_neg h18,if_neg hl,if_neg hl,if_neg h2,if_neg h4];exact uw
  rw[QV,QX] at g5;obtain⟨e1,e2⟩:=g5;subst e1 e2;have Z1:=zH (decide_eq_false hl);have Z2:=zH (decide_eq_false h2);have Z4:=zH (decide_eq_false h4);clear QV QX hs hf hG hs2 hr hn hok hfi h3 h18 hv ho hl h2 h4;generalize aG.look t (Ap.ref e)=z at *
  go_wp2_with (first|go_big_skip|refine zX (lg HK 0) ?_|refine zX (aJ (m:=n) (n:=9223372036854775807) H3.out) ?_|refine zX (fZ (m:=n) (n:=n+1) HW.out) ?_|(refine iX (m:=n+1) HK 0 ?_;clear HK;intro _ HK;simp only[lS] at HK)|refine zX (wh (e:=e) HK 1) ?_|refine zX (fJ hc) ?_|refine zX (uF HK 0 hc) ?_|(refine bE HK ?_;clear HK;intro _ g6 HK;simp only[aS,aK] at HK)|(refine bD (u:=t.get e.c) HK 3 ?_;clear HK;intro _ HK;simp only[lS] at HK)|refine zX (oD (e:=e) HK 1) ?_|refine zX (aJ (m:=e.cmd.k) (n:=18) E18.out) ?_|refine zX (gD HK 0) ?_|refine zX (bS HK 1) ?_);refine cb (zU.out _) HK ?_;clear HK;intro _ HK;go_wp2_with (first|refine zX (aJ (m:=z) (n:=1) Z1.out) ?_|refine zX (aJ (m:=z) (n:=2) Z2.out) ?_|refine zX (aJ (m:=z) (n:=4) Z4.out) ?_|refine zX (lq HK 0) ?_|(refine bg HK 2 ?_;clear HK;intro _ HK;simp only[lS] at HK));exact Pb
theorem EJ{G:World→Prop}(n:Int)(A:Option Addr)(k cp:Nat)(t:aG.T)(lo:List Oh)(e:aI.E)(w:World)(hG:∀W,G W→dS W A k cp lo)(hs:dS w A k cp lo)(hf:aG.Fit t)(hv:e.cmd.val.f<18446744073709551616)(ho:e.cmd.old.f<18446744073709551616)(hr:e.r≤9223372036854775807)(hn:n≤9223372036854775807):
  Calls prog 7 #[.agg (stA n A k cp t),.agg (yZ e)] w (kD G (Ap.Cu ⟨n,vs lo,t⟩ e) (Ap.Xx ⟨n,vs lo,t⟩ e) w):=by
 by_cases hcan:Ap.Can ⟨n,vs lo,t⟩ e
 ·exact EH G n A k cp t lo e w hG hs hf hv ho hr hn hcan
 ·exact EI G n A k cp t lo e w hG hs hf hv ho hcan
end
section
namespace Ap
def nl:ByteArray:=⟨#[108]⟩
end Ap
end
section
namespace Ap
open au aG
theorem xP{s:St}(hf:aG.Fit s.t){c:Int}:aG.Fit (iR s c).t:=wN (fun y hy=>xK (sQ) y hy) (aG.xZ hf c)
theorem go_fit{s:St}(hs:∀o∈s.l,Yc o)(hf:aG.Fit s.t)(e:aI.E):aG.Fit (zL s e).t:=by
 have hd:=yh hs (ref e) e.cmd;unfold zL
 split
 ·split
  ·exact xP hf
  ·exact hf
 split
 ·split
  ·refine aG.WC ?_ _
   unfold left
   split
   ·exact xP hf
   ·exact hf
  ·unfold gH
   split
   ·exact aG.qo (aG.lW hf _) _ zf
   split
   ·exact xP (s:=touch s (ref e)) (aG.qo (aG.lW hf _) _ zf)
   split
   ·exact aG.lW hf _
   ·exact wN (fun y hy=>xK hd.2 y hy) (aG.qo (aG.lW hf _) _ hd.1)
 ·exact hf
theorem agk{s:St}(hs:∀o∈s.l,Yc o)(hf:aG.Fit s.t)(e:aI.E):aG.Fit (Cu s e).t:=by
 unfold Cu
 split
 ·exact go_fit (s:=up s) hs hf e
 ·exact hf
theorem all_good:∀(l:List aI.E) {s:St} {O:List Ot},Ok s→Good s.t O→Good (all s l).1.t (O++(all s l).2)
 | [],s,O,_,g=>by show Good s.t (O++[]);rw[List.append_nil];exact g
 | e::m,s,O,h,g=>by
  have h2:=all_good m (s:=Cu s e) (adx h e) (abN h e g)
  show Good (all (Cu s e) m).1.t (O++(Xx s e++(all (Cu s e) m).2))
  rw[← List.append_assoc];exact h2
theorem FH(l:List aI.E){x y:Ot}(hx:x∈(all s0 l).2)(hy:y∈(all s0 l).2)(h:x.r=y.r):x.p=y.p:=by
 have g:=all_good l (s:=s0) (O:=[]) aiL (Good.nil _);rw[aK] at g;exact g.one x hx y hy h
end Ap
end
end Go.Proofs.YtahdlddbbnjloaaGreat
