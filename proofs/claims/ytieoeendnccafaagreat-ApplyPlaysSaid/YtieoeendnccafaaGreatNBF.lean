/- What the document's made returns: the objects and a new one. No condition but those named. -/
import Derived.Test.YtieoeendnccafaaGreatNBE
set_option linter.unusedSimpArgs false
set_option linter.unusedVariables false
set_option maxRecDepth 100000
set_option maxHeartbeats 25600000
open Go.RowKit
namespace Go.Proofs.YtieoeendnccafaaGreat
open _root_.Go.Proofs.Tryz
section
theorem bU{l:List Oh}{k:Nat}{x:Oh}(y:Oh)(h:l[k]?=some x):(l.set k y)[k]?=some y:=by
 have hk:=(List.getElem?_eq_some_iff.1 h).1;rw[List.getElem?_set_self hk]
theorem Eo(l:List Oh)(i:Nat)(y:Oh):vs (l.set i y)=(vs l).set i y.v:=by
 unfold vs;rw[List.map_set]
theorem OY(G:World→Prop)(A:Option Addr)(cp n:Nat)(l:List Oh)(r:Rf)(w:World)(hG:∀W,G W→bY W A n cp l)(hs:bY w A n cp l):
  Calls prog 71 #[.slice A n cp,.agg #[.int .i64 r.c,.int .i64 r.e,.int .i64 r.r]] w (Jk G (av.aI (vs l) r) (av.jM (vs l) r) w):=by
 have yF:=zH hG;have HM:=zH (fun W (hW:Below w.heap.size w W)=>cK A cp n l W (hs.later hW));unfold cZ at HM;have HK:=iK w 35 #[.int .i64 r.c,.int .i64 r.e,.int .i64 r.r];unfold av.aI av.jM;by_cases hr:av.Right (vs l)
 case neg=>
  rw[decide_eq_false hr] at HM;rw[if_neg hr,if_neg hr];clear hs hr hG;go_enter func71,ntmps71;go_wp2_with fail
  (refine(HM.out _ HK.out.b).mono ?_;rintro e w1 ⟨rfl,b1⟩)
  replace HK:=iy HK b1;clear b1;go_wp2_with fail;exact kL results71 (by unfold Jk;exact⟨_,_,_,l,_,_,_,_,rfl,rfl,HK.out.aA 0,fun _ _ _ _ _ K hm hb=>⟨yF.out _ hb,bJ.none _⟩⟩)
 rw[decide_eq_true hr] at HM;rw[if_pos hr,if_pos hr];have hlen:l.length=n:=hs.len;have Yp:n≤8:=by have:=hr.len;rw[fF,hlen] at this;exact this
 have HVl:Hid ((vs l).length≤n):=zH (by rw[fF,hlen];exact Nat.le_refl _);rw[← av.Np (r:=r) HVl.out,← av.zA (r:=r) HVl.out];have HS:=zH hs;have mI:=zH hlen;have HRd:Hid (∀W,Below w.heap.size w W→aP.Reads W W.heap.size A l∧(A=none→l=[])):=zH fun W hW=>⟨(hs.later hW).s.rd,(hs.later hW).s.nl⟩
 have HL0:Hid (([]:List Oh).length+l.length≤9223372036854775807∧(([]:List Oh).length+l.length)*aP.bytes≤211106232532992):=zH (by
  rw[List.length_nil,Nat.zero_add,hlen];refine⟨by omega,?_⟩
  show n*144≤_
  omega)
 have HN0:Hid ((([]:List Oh)++l).length=n):=zH hlen;have HDr:=zH (fun(x:Oh) (hx:x∈l) W (hW:Below w.heap.size w W)=>Kr x.v.cap x.rA x.rc x.rn x.v.refs r W ((hs.i x hx).r.later hW));have HDl:=zH (fun(x:Oh) (hx:x∈l) W (hW:Below w.heap.size w W)=>Km x.rA x.rc x.rn x.v.refs r W ((hs.i x hx).r.later hW));unfold Wx at HDr;unfold WA at HDl;clear hs hr hG hlen;go_enter func71,ntmps71;go_wp2_with fail
 (refine(HM.out _ HK.out.b).mono ?_;rintro e w1 ⟨rfl,b1⟩)
 replace HK:=iy HK b1;clear b1;go_wp2_with (first|(refine fE aP HK ?_;clear HK;intro _ g2 HK;simp only[aJ] at HK;have HR:=zH (HRd.out _ HK.out.b))|(at_builtin;refine aX HK aP 0 l mI.out.symm HR HL0 (N:=n) HN0 ?_;clear HK;intro A8 c8 _ HK;simp only[List.set,aJ] at HK));replace HK:=zH (HK.out.wE aR);simp only[aO,aJ] at HK;go_loopw [6,7] (fun vo vi wr=>∃(k:Nat) (A7:Option Addr) (m7 c7:Nat) (lk:List Oh) (Rk:List dA),k≤n∧vo=.slice A7 m7 c7∧vi=.int .i64 k∧Hid (lk.length=n)∧Hid (vs lk=av.Ld (vs l) r k)∧Hid (∀j,k≤j→lk[j]?=l[j]?)∧Hid ((av.zB (vs l) r k).length=m7)∧Hid (∀(b:Nat) (W0 W:World) L R,Kn b W0 W L R→(∀z∈Rk,z∈R)→G W→∀x∈lk,In W x)∧Hid (Kn w.heap.size w wr [(w.heap.size,35,#[.int .i64 r.c,.int .i64 r.e,.int .i64 r.r])] (row aP (.slice A8 n c8) lk::row aR (.slice A7 m7 c7) (av.zB (vs l) r k)::Rk))) (fun _ vi _=>n-(intOf vi).toNat)
 case atStart=>exact⟨0,_,_,_,l,[],Nat.zero_le _,rfl,rfl,mI,zH rfl,zH (fun _ _=>rfl),zH rfl,zH (fun _ _ _ _ _ _ _ hb=>(yF.out _ hb).i),HK⟩
 case round=>
  clear HK;obtain⟨k,A7,m7,c7,lk,Rk,hk,rfl,rfl,og,WU,uS,tH,NP,HK⟩:=hrel;have hk1:(0:Int)≤(k:Int):=by omega
  have hk3:k<9223372036854775807:=by omega
  by_cases hkn:k<n
  case neg=>
   obtain rfl:k=n:=by omega
   have hk2:¬(k:Int)<(k:Int):=by omega
   have HO7:=av.wC (vs l) r k;go_wp2_with fail;exact kL results71 (by unfold Jk;exact⟨A8,k,c8,lk,A7,m7,c7,_,rfl,WU,HK.out.aA 0,fun _ _ _ _ _ K hm hb=>⟨⟨bJ.own (K.mem (hm _ (List.mem_cons_self ..))) ⟨fun y hy=>trivial,by rw[og.out];show k*144≤_;omega⟩,NP.out _ _ _ _ _ K (fun z hz=>hm _ (List.mem_cons_of_mem _ (List.mem_cons_of_mem _ hz))) hb⟩,bJ.own (K.mem (hm _ (List.mem_cons_of_mem _ (List.mem_cons_self ..)))) ⟨fun _ _=>trivial,by show _*72≤140737488355328;omega⟩⟩⟩)
  case pos=>
  have hk2:(k:Int)<(n:Int):=by omega
  obtain⟨x,hx⟩:=Lay.fI (l:=l) (k:=k) (by rw[mI.out];exact hkn);have hxk:lk[k]?=some x:=by rw[uS.out k (Nat.le_refl _)];exact hx
  have hml:=List.mem_of_getElem? hx;obtain⟨g8,rfl⟩:=HK.out.MS (La:=aP) (j:=0) rfl (by rw[og.out];omega);have ais:=zH (HDr.out x hml);have agB:=zH (HDl.out x hml);have HFr:Hid (Fits aG rF x.v.refs):=zH (HS.out.i x hml).r.fit;have HDk:=zH (av.Bt (r:=r) (dL hx));have iw:=zH (av.Aw (r:=r) (dL hx));have HSk:Hid (av.dr x.v r=x.v→av.Ld (vs l) r (k+1)=av.Ld (vs l) r k):=zH (av.IE (dL hx));have zS:=zH hxk;clear hx hml hxk;by_cases h4:x.v.kind=4
  ·have K4:Hid (decide (x.v.kind=4)=true):=zH (decide_eq_true h4)
   have K3:Hid (decide (x.v.kind=3)=false):=zH (decide_eq_false (by omega));have QW:Hid (av.dr x.v r = { x.v with refs:=Gt.pF x.v.cap x.v.refs r }):=zH (by unfold av.dr;rw[if_neg (by omega),if_pos h4]);have FL:Hid (av.uF x.v r=[]):=zH (by unfold av.uF;rw[if_neg (by omega)]);have WY:=zH (Ii (m:=x.v.cap) (r:=r) HFr.out);clear h4;generalize Gt.pF x.v.cap x.v.refs r=m at *
   go_wp2_with (first|refine zX (eX (b:=g8) (i:=k) hkn) ?_|refine zX (eD (x:=x) (off:=k*11) (HK.out.ze (La:=aP) (j:=0) rfl zS.out)) ?_|refine zX (aZ (x:=x.v.kind) (k:=4) K4.out) ?_);have aj:=zH HK.out.drew;refine wp_region_held_drew (S:=(fun W=>Hid (Kn w.heap.size w W [(w.heap.size,35,#[.int .i64 r.c,.int .i64 r.e,.int .i64 r.r])] [])∧Hid (W.cell? ⟨g8,k*11+2,none⟩=some (.int .i64 x.v.cap)))) (by kernel_rfl) ?_ fun ah=>?_
   ·(try dsimp only);exact And.intro (zH (aj.out.ay 0)) (zH (aj.out.ze (La:=aP) (j:=0) rfl zS.out 2 _ rfl))
   refine ak 0 rfl ?_;refine ak 1 rfl ?_;refine ak 2 rfl ?_;refine ak 3 rfl ?_;refine ak 4 rfl ?_ fun _ s=>eX (b:=g8) (i:=k) hkn
   refine ak 5 rfl ?_;refine ak 6 rfl ?_ fun _ s=>jh (ad:=⟨g8,k*11+2,none⟩) _ (by rfl) (by rfl) s.2.out underlying3
   refine ak 7 rfl ?_;refine ak 8 rfl ?_;refine ak 9 rfl ?_ fun _ s=>eX (b:=g8) (i:=k) hkn
   refine ak 10 rfl ?_;refine ak 12 rfl ?_ fun _ s=>aB s.1 0
   refine aC 11 rfl fun K hK=>?_
   refine fK (lZ (x:=x) (off:=k*11) (aj.out.ze (La:=aP) (j:=0) rfl zS.out)) ?_;have hs:=ah;refine bk hK hs fun ah=>?_
   clear hK K;refine aC 13 rfl fun K hK=>?_
   go_simp;go_at_call 129;refine(ais.out _ aj.out.b).mono ?_;rintro e w5 ⟨A4,n4,c4,rfl,o4,b4⟩;obtain⟨Rn,k4,HIr⟩:=o4.kn b4 WY.out;replace aj:=zH (aj.out.join k4);clear o4 b4 k4;have hs:=And.intro (zH ((aj.out.aA 1).ay 0)) (zH (aj.out.ze (La:=aP) (j:=0) rfl zS.out 2 _ rfl));refine bk hK hs fun ah=>?_
   clear hK K;refine ak 14 rfl ?_ fun _ s=>eX (b:=g8) (i:=k) hkn
   refine ak 15 rfl ?_;refine aC 16 rfl fun K hK=>?_
   refine Oo (La:=aP) aj 0 (by rfl) 59 (by rfl) (by rfl) k x (x.sr A4 n4 c4 m) zS.out 5 (by decide) (by rfl) (by rfl) (by rfl) (by rfl) qb (by rfl) ?_;clear aj;intro wq aj;simp only[aO,List.set_cons_zero] at aj;have hs:=And.intro (zH ((aj.out.aA 1).ay 0)) (zH (aj.out.ze (La:=aP) (j:=0) rfl (bU (x.sr A4 n4 c4 m) zS.out) 2 _ rfl));refine bk hK hs fun ah=>?_
   clear hK K;refine bW ?_;replace HK:=aj;clear aj ah;have HXs:=zH (bU (x.sr A4 n4 c4 m) zS.out);go_wp2_with (first|refine zX (eX (b:=g8) (i:=k) hkn) ?_|refine zX (eD (x:=x.sr A4 n4 c4 m) (off:=k*11) (HK.out.ze (La:=aP) (j:=0) rfl HXs.out)) ?_|refine zX (aZ (x:=x.v.kind) (k:=3) K3.out) ?_|refine zX (aL (j:=k) hk3) ?_);refine⟨⟨k+1,A7,m7,c7,lk.set k (x.sr A4 n4 c4 m),Rk++Rn,by omega,rfl,by go_num,zH (by rw[List.length_set];exact og.out),zH (by rw[Eo,WU.out,HDk.out,QW.out];rfl),zH (fun j hj=>by rw[List.getElem?_set_ne (by omega)];exact uS.out j (by omega)),zH (by rw[iw.out,FL.out,List.append_nil];exact tH.out),zH (fun _ _ _ _ _ K hm hb z hz=>?_),?_⟩,by simp[intOf];omega⟩
   ·have h1:=NP.out _ _ _ _ _ K (fun z hz=>hm _ (List.mem_append_left _ hz)) hb
    rcases List.mem_or_eq_of_mem_set hz with h2|rfl
    ·exact h1 z h2
    ·have h3:=h1 x (List.mem_of_getElem? zS.out)
     exact h3.sr (HIr.out _ _ _ _ _ K (fun z hz=>hm _ (List.mem_append_right _ hz)) h3.r)
   ·rw[iw.out,FL.out,List.append_nil]
    exact HK
  have K4:Hid (decide (x.v.kind=4)=false):=zH (decide_eq_false h4);by_cases h3:x.v.kind=3
  ·have K3:Hid (decide (x.v.kind=3)=true):=zH (decide_eq_true h3)
   have QW:Hid (av.dr x.v r = { x.v with refs:=aS.pF x.v.refs r }):=zH (by unfold av.dr;rw[if_pos h3]);have FL:Hid (av.uF x.v r=av.held (aS.zO x.v.refs r) (aS.uP x.v.refs r)):=zH (by unfold av.uF;rw[if_pos h3]);have WY:=zH (Ni (r:=r) HFr.out);have rO:=av.wC (vs l) r k;have HOm:Hid (m7≤8):=zH (by have:=tH.out;omega);clear h3 h4 rO;generalize aS.pF x.v.refs r=m at *
   generalize aS.zO x.v.refs r=y at *
   generalize aS.uP x.v.refs r=h at *
   go_wp2_with (first|refine zX (eX (b:=g8) (i:=k) hkn) ?_|refine zX (eD (x:=x) (off:=k*11) (HK.out.ze (La:=aP) (j:=0) rfl zS.out)) ?_|refine zX (aZ (x:=x.v.kind) (k:=4) K4.out) ?_|refine zX (aZ (x:=x.v.kind) (k:=3) K3.out) ?_);have aj:=zH HK.out.drew;refine zR (aj.out.ay 1) fun ah=>?_
   refine ak 0 rfl ?_;refine ak 1 rfl ?_;refine ak 2 rfl ?_ fun _ s=>eX (b:=g8) (i:=k) hkn
   refine ak 3 rfl ?_;refine ak 4 rfl ?_ fun _ s=>lZ (x:=x) (off:=k*11) (s.out.ze (La:=aP) (j:=0) rfl zS.out)
   refine ak 5 rfl ?_ fun _ s=>aB s 0
   refine jr 6 11 rfl rfl (fun K hK=>?_) fun K hK=>?_
   go_simp;go_at_call 130;refine(agB.out _ aj.out.b).mono ?_;rintro e w5 ⟨A4,n4,c4,rfl,o4,b4⟩;obtain⟨Rn,k4,HIr⟩:=o4.kn b4 WY.out;replace aj:=zH (aj.out.join k4);clear o4 b4 k4;have hs:=zH ((aj.out.aA 1).ay 1);refine bk hK hs fun ah=>?_
   clear hK K;refine ak 7 rfl ?_;refine ak 8 rfl ?_;refine ak 9 rfl ?_;refine ak 10 rfl ?_;refine aC 11 rfl fun K hK=>?_
   refine CJ aj ?_;clear aj;intro wq g9 aj;simp only[aO,aJ] at aj;have hs:=zH ((aj.out.aA 1).ay 1);refine bk hK hs fun ah=>?_
   clear hK K;refine ak 12 rfl ?_;refine aC 13 rfl fun K hK=>?_
   refine tQ aj 1 ?_;clear aj;intro wq aj;simp only[lS] at aj;have hs:=zH ((aj.out.aA 1).ay 1);refine bk hK hs fun ah=>?_
   clear hK K;refine ak 14 rfl ?_;refine bW ?_
   rotate_left
   refine CJ aj ?_;clear aj;intro wq g9 aj;simp only[aO,aJ] at aj;have hs:=zH ((aj.out.aA 1).ay 1);refine bk hK hs fun ah=>?_
   clear hK K;refine aC 6 rfl fun K hK=>?_
   go_simp;go_at_call 130;refine(agB.out _ aj.out.b).mono ?_;rintro e w5 ⟨A4,n4,c4,rfl,o4,b4⟩;obtain⟨Rn,k4,HIr⟩:=o4.kn b4 WY.out;replace aj:=zH (aj.out.join k4);clear o4 b4 k4;have hs:=zH ((aj.out.aA 1).ay 1);refine bk hK hs fun ah=>?_
   clear hK K;refine ak 7 rfl ?_;refine ak 8 rfl ?_;refine ak 9 rfl ?_;refine ak 10 rfl ?_;refine ak 12 rfl ?_;refine aC 13 rfl fun K hK=>?_
   refine tQ aj 1 ?_;clear aj;intro wq aj;simp only[lS] at aj;have hs:=zH ((aj.out.aA 1).ay 1);refine bk hK hs fun ah=>?_
   clear hK K;refine ak 14 rfl ?_;refine bW ?_
   rotate_left
   all_goals
    replace HK:Hid (Kn w.heap.size w _ [(w.heap.size,35,#[.int .i64 r.c,.int .i64 r.e,.int .i64 r.r]),(g9,35,#[.int .i64 y.c,.int .i64 y.e,.int .i64 y.r])] (row aP (.slice (some ⟨g8,0,none⟩) n c8) lk::row aR (.slice A7 m7 c7) (av.zB (vs l) r k)::(Rk++Rn))):=aj;clear aj ah;have HXs:=zH (bU (x.sr A4 n4 c4 m) zS.out)
    have agx:Hid (∀(b:Nat) (W0 W:World) L R,Kn b W0 W L R→(∀z∈Rk++Rn,z∈R)→G W→∀z∈lk.set k (x.sr A4 n4 c4 m),In W z):=zH (fun _ _ _ _ _ K hm hb z hz=>by
     have h1:=NP.out _ _ _ _ _ K (fun z hz=>hm _ (List.mem_append_left _ hz)) hb
     rcases List.mem_or_eq_of_mem_set hz with h2|rfl
     ·exact h1 z h2
     ·have h3:=h1 x (List.mem_of_getElem? zS.out)
      exact h3.sr (HIr.out _ _ _ _ _ K (fun z hz=>hm _ (List.mem_append_right _ hz)) h3.r))
    cases h
    case false=>
     go_wp2_with (first|refine zX (eX (b:=g8) (i:=k) hkn) ?_|(refine oC (La:=aP) HK 0 59 k x (x.sr A4 n4 c4 m) zS.out 5 qb ?_;clear HK;intro wq HK;simp only[List.set_cons_zero] at HK)|refine zX (aL (j:=k) hk3) ?_);refine⟨⟨k+1,A7,m7,c7,lk.set k (x.sr A4 n4 c4 m),Rk++Rn,by omega,rfl,by go_num,zH (by rw[List.length_set];exact og.out),zH (by rw[Eo,WU.out,HDk.out,QW.out];rfl),zH (fun j hj=>by rw[List.getElem?_set_ne (by omega)];exact uS.out j (by omega)),zH (by rw[iw.out,FL.out];exact(congrArg List.length (List.append_nil _)).trans tH.out),agx,?_⟩,by simp[intOf];omega⟩;rw[iw.out,FL.out];refine zH ?_;have h1:=HK.out.aA 1;rw[show av.zB (vs l) r k++av.held y false=av.zB (vs l) r k from List.append_nil _];exact h1
    case true=>
     have HL:Hid ((av.zB (vs l) r k).length+1≤9223372036854775807∧((av.zB (vs l) r k).length+1)*aR.bytes≤211106232532992):=zH (by
      rw[tH.out];have:=HOm.out;refine⟨by omega,?_⟩
      show(m7+1)*72≤_
      omega)
     have vQ:Hid ((av.zB (vs l) r k++[(⟨y,av.rz⟩:av.Ot)]).length=m7+1):=zH (by rw[List.length_append,tH.out];rfl);generalize hos:av.zB (vs l) r k=os at *
     have QK:=zH hos;clear hos;go_wp2_with (first|refine zX (eX (b:=g8) (i:=k) hkn) ?_|(refine oC (La:=aP) HK 0 59 k x (x.sr A4 n4 c4 m) zS.out 5 qb ?_;clear HK;intro wq HK;simp only[List.set_cons_zero] at HK)|refine zX (aB HK 1) ?_|refine zX (qw (r:=y)) ?_|(refine dI aR (p:=⟨y,av.rz⟩) HK ?_;intro _ g11 dY;have HR:=zH (Kn.oJ dY.out).rd;simp only[aO,aJ] at dY;replace HK:=dY;clear dY)|(at_builtin;refine aX HK aR 1 [⟨y,av.rz⟩] rfl HR HL (N:=m7+1) vQ ?_;clear HK;intro A9 c9 _ HK;simp only[lS] at HK)|refine zX (aL (j:=k) hk3) ?_);refine⟨⟨k+1,A9,m7+1,c9,lk.set k (x.sr A4 n4 c4 m),Rk++Rn,by omega,rfl,by go_num,zH (by rw[List.length_set];exact og.out),zH (by rw[Eo,WU.out,HDk.out,QW.out];rfl),zH (fun j hj=>by rw[List.getElem?_set_ne (by omega)];exact uS.out j (by omega)),zH (by rw[iw.out,FL.out];exact vQ.out),agx,?_⟩,by simp[intOf];omega⟩;rw[iw.out,FL.out];exact zH (Kn.afV (HK.out.aA 1))
  ·have K3:Hid (decide (x.v.kind=3)=false):=zH (decide_eq_false h3)
   have QW:Hid (av.dr x.v r=x.v):=zH (by unfold av.dr;rw[if_neg h3,if_neg h4]);have FL:Hid (av.uF x.v r=[]):=zH (by unfold av.uF;rw[if_neg h3]);clear h3 h4;go_wp2_with (first|refine zX (eX (b:=g8) (i:=k) hkn) ?_|refine zX (eD (x:=x) (off:=k*11) (HK.out.ze (La:=aP) (j:=0) rfl zS.out)) ?_|refine zX (aZ (x:=x.v.kind) (k:=4) K4.out) ?_|refine zX (aZ (x:=x.v.kind) (k:=3) K3.out) ?_|refine zX (aL (j:=k) hk3) ?_);refine⟨⟨k+1,A7,m7,c7,lk,Rk,by omega,rfl,by go_num,og,zH (by rw[HSk.out QW.out];exact WU.out),zH (fun j hj=>uS.out j (by omega)),zH (by rw[iw.out,FL.out,List.append_nil];exact tH.out),NP,?_⟩,by simp[intOf];omega⟩;rw[iw.out,FL.out,List.append_nil];exact HK
end
section
theorem CW(n:Int)(A:Option Addr)(k cp:Nat)(t:aH.T)(O:Option Addr)(m d:Nat){os:List av.Ot}(w:World)(hf:aH.Fit t)(hs:bJ aR tF w O m d os)(ho:∀y∈os,y.p.v.f<18446744073709551616):
  Calls prog 73 #[.agg (stA n A k cp t),.slice O m d] w (fun e w'=>e=.returned (.agg (stA n A k cp (Ap.ends t (Ap.dP os))))∧Below w.heap.size w w'):=by
 have HS:=zH hs;have yV:=zH ho;have iD:=zH hf;have HK:=iK w 33 (stA n A k cp t);have uE:Hid (Ap.ends t (Ap.dP (os.drop 0))=Ap.ends t (Ap.dP os)):=zH rfl
 have hn63:m<9223372036854775807:=by
  have h:m*72≤140737488355328:=hs.big;omega
 generalize Ap.ends t (Ap.dP os)=y at *
 clear hs ho hf;go_enter func73,ntmps73;go_wp2_with (refine aU HK ?_;clear HK;intro _ g1 HK;simp only[aO,aJ] at HK);go_loopw [5] (fun v5 wr=>∃(j:Nat) (u:aH.T),j≤m∧v5=.int .i64 j∧Hid (aH.Fit u)∧Hid (Ap.ends u (Ap.dP (os.drop j))=y)∧Hid (Kn w.heap.size w wr [(w.heap.size,33,stA n A k cp u),(g1,33,stA 0 none 0 0 tz)] [])) (fun v5 _=>m-(intOf v5).toNat)
 case atStart=>exact⟨0,t,Nat.zero_le _,rfl,iD,uE,HK⟩
 case round=>
  clear HK uE iD;obtain⟨j,u,hj,rfl,iD,uE,HK⟩:=hrel;have hj1:(0:Int)≤(j:Int):=by omega
  by_cases hlt:j<m
  case pos=>
   have hj2:(j:Int)<(m:Int):=by omega
   have hj3:j<9223372036854775807:=by omega
   obtain⟨x,hx,_⟩:=HS.out.get hlt;obtain⟨b,o,rfl,hat⟩:=HS.out.at (Nat.lt_of_le_of_lt (Nat.zero_le _) hlt);have HX:=zH (fun W hW=>hat W hW j x hx);have hxf:=yV.out x (List.mem_of_getElem? hx);have HE:=zH (fun W=>vZ u x.r x.p W iD.out hxf);have Zh:=zH (aH.mM iD.out x.r hxf)
   have adL:Hid (Ap.ends (aH.fP u x.r x.p) (Ap.dP (os.drop (j+1)))=y):=zH (by
    have h:=uE.out;rw[List.drop_eq_getElem_cons (List.getElem?_eq_some_iff.1 hx).1,(List.getElem?_eq_some_iff.1 hx).2] at h
    exact h)
   unfold BR at HE;clear hat hx hxf uE;generalize aH.fP u x.r x.p=u2 at *
   go_wp2_with fail;have aj:=zH HK.out.drew;clear HK;refine zR (aj.out.aI 1) fun ah=>?_
   refine ak 0 rfl ?_;refine ak 2 rfl ?_;refine ak 3 rfl ?_;refine ak 4 rfl ?_ fun _ s=>gM aR (i:=j) hlt
   refine ak 5 rfl ?_;refine ak 6 rfl ?_ fun _ s=>Ve (y:=x) (off:=o+j*8) (by rfl) (by rfl) (HX.out _ s.out.b)
   refine ak 7 rfl ?_;refine ak 8 rfl ?_;refine ak 9 rfl ?_ fun _ s=>gM aR (i:=j) hlt
   refine ak 10 rfl ?_;refine ak 11 rfl ?_ fun _ s=>Vf (y:=x) (off:=o+j*8) (by rfl) (by rfl) (HX.out _ s.out.b)
   refine aC 1 rfl fun K hK=>?_
   refine fK (eU aj 0) ?_;have hs:=ah;refine bk hK hs fun ah=>?_
   clear hK K;refine aC 12 rfl fun K hK=>?_
   go_simp;go_at_call 76;refine(HE.out _).mono ?_;rintro e w5 ⟨rfl,b5⟩;have hs:=zH (ah.out.call b5);replace aj:=zH (aj.out.call b5);clear b5;refine bk hK hs fun ah=>?_
   clear hK K;refine ak 13 rfl ?_;refine aC 14 rfl fun K hK=>?_
   refine Om (u:=u2) aj 0 (by rfl) (by rfl) (by rfl) (by rfl) (by rfl) ?_;clear aj;intro w6 aj;simp only[lS] at aj;have hs:=zH (aj.out.aI 1);refine bk hK hs fun ah=>?_
   clear hK K;refine bW ?_;have HK:=aj;clear aj ah;go_wp2_with refine zX (aL (j:=j) hj3) ?_;exact⟨⟨j+1,u2,hlt,rfl,Zh,adL,HK⟩,by simp[intOf];omega⟩
  case neg=>
   obtain rfl:j=m:=by omega
   have hj2:¬(j:Int)<(j:Int):=by omega
   have hu:u=y:=by
    exact ZA
   subst hu;go_wp2_with (first|refine zX (iB HK 0) ?_|(refine bA HK 1 ?_;clear HK;intro _ HK;simp only[lS] at HK));exact SQ results73 rfl rfl (HK.out.blk 1 rfl) ⟨rfl,HK.out.b⟩
theorem vD(G:World→Prop)(n:Int)(A:Option Addr)(k cp:Nat)(t:aH.T)(lo:List Oh)(c1:Int)(w:World)(hG:∀W,G W→bY W A k cp lo)(hs:bY w A k cp lo)(hf:aH.Fit t)(hc:0≤c1∧c1<5):
  Calls prog 29 #[.agg (stA n A k cp t),.int .i64 c1] w (dB G (Ap.dX ⟨n,vs lo,t⟩ c1) (Ap.eZ ⟨n,vs lo,t⟩ c1) w):=by
 have HD:=zH (fun W (hW:Below w.heap.size w W)=>OY (fun W=>G W∨Below w.heap.size w W) A cp k lo (Ap.rf t c1) W (fun W h=>h.elim (hG W) fun g=>hs.later g) (hs.later hW));have zT:=zH (fun W=>Kw t c1 W hf);have uE:=zH (fun(A2:Option Addr) (n2 c2:Nat) (O:Option Addr) (m d:Nat) W (h:bJ aR tF W O m d (av.jM (vs lo) (Ap.rf t c1)))=>CW n A2 n2 c2 (aH.fJ t c1) O m d W (aH.qg hf c1) h (mo));have HK:=iK w 33 (stA n A k cp t);have tH:=zH (lF (vs lo) (Ap.rf t c1));unfold Jk at HD;unfold BR at zT;clear hf hs hG;unfold Ap.dX Ap.eZ;dsimp only;have HRf:Hid (Ap.rf t c1=⟨c1,(t.get c1).ep,(t.get c1).rq⟩):=zH rfl;generalize Ap.rf t c1=r at *
 generalize av.aI (vs lo) r=l9 at *
 generalize av.jM (vs lo) r=os at *
 generalize aH.fJ t c1=t2 at *
 generalize Ap.ends t2 (Ap.dP os)=t3 at *
 cases hd:(t.get c1).dn
 case false=>
  have HV:=zH hd;clear hd;go_enter func29,ntmps29;go_upto_region 4 with (first|(refine aU HK ?_;clear HK;intro _ g1 HK;simp only[aO,aJ] at HK)|refine zX (dV hc) ?_|refine zX (oK HK 0 hc) ?_|(refine bE HK ?_;clear HK;intro _ g2 HK;simp only[aO,aJ] at HK)|(refine bD (u:=t.get c1) HK 2 ?_;clear HK;intro _ HK;simp only[lS] at HK)|refine zX (oM HK 2) ?_|refine zX (pY HK 2) ?_|refine zX ((Br (r:=⟨c1,(t.get c1).ep,(t.get c1).rq⟩)).trans (by rw[← HRf.out])) ?_|(refine aQ HK ?_;clear HK;intro _ g3 HK;simp only[aO,aJ] at HK)|(refine aW (c2:=r.c) (e2:=r.e) (r2:=r.r) HK 3 ?_;clear HK;intro _ HK;simp only[lS] at HK));replace HK:=zH (HK.out.wE aR);simp only[aJ] at HK;have lJ:Hid ((([]:List av.Ot)++[(⟨r,av.err 14⟩:av.Ot)]).length=1):=zH rfl;have WX:=fV (La:=aR) lJ (hB:=(by show 1*72≤_;decide)) (hN:=(by decide));go_wp2_with (first|refine zX ((jO HK 2).trans (by rw[HV.out])) ?_|refine zX (jl HK 0) ?_|refine zX (aB HK 3) ?_|refine zX (mO (e:=14)) ?_|refine zX (kU (r:=r) (p:=av.err 14)) ?_|(refine dI aR (p:=⟨r,av.err 14⟩) HK ?_;intro _ g7 dY;simp only[aO,aJ] at dY;have HR:=zH (dY.out.own 1 rfl).rd;replace HK:=dY;clear dY)|(at_builtin;refine aX HK aR 0 [⟨r,av.err 14⟩] rfl HR WX (N:=1) lJ ?_;intro A8 c8 _ dY;simp only[List.set,aJ] at dY;replace HK:=zH (dY.out.ay 1);clear dY HR));refine(HD.out _ HK.out.b).mono ?_;rintro e w1 ⟨A2,n2,c2,l2,O2,m2,d2,R2,rfl,mE,k2,HI2⟩;replace HK:=zH (HK.out.join k2);clear k2;simp only[List.take,aO,aJ] at HK;have WG:Hid (∀z∈R2,z∈(row aR (.slice A8 1 c8) [⟨r,av.err 14⟩]::R2)):=zH fun z hz=>List.mem_cons_of_mem _ hz
  go_wp2_with (first|(refine dF HK 0 ?_;clear HK;intro _ HK;simp only[lS] at HK)|refine zX (eU HK 0) ?_);refine cb (zT.out _) HK ?_;clear HK;intro _ HK;go_wp2_with (first|(refine dD (u:=t2) HK 0 ?_;clear HK;intro _ HK;simp only[lS] at HK)|refine zX (iB HK 0) ?_);refine cb (uE.out A2 n2 c2 O2 m2 d2 _ (HI2.out _ _ _ _ _ HK.out WG.out (.inr HK.out.b)).2) HK ?_;clear HK;intro _ HK;have gT:Hid (os.length=m2):=zH (HI2.out _ _ _ _ _ HK.out WG.out (.inr HK.out.b)).2.len;have HR2:=zH (And.intro (HI2.out _ _ _ _ _ HK.out WG.out (.inr HK.out.b)).2.rd (HI2.out _ _ _ _ _ HK.out WG.out (.inr HK.out.b)).2.nl);have fB:Hid ((([⟨r,av.err 14⟩]:List av.Ot)++os).length=1+m2):=zH (by rw[List.length_append,gT.out];rfl);have tJ:Hid (m2≤8):=zH (by rw[← gT.out];exact tH.out);have HL2:=fV (La:=aR) fB (hN:=(by have:=tJ.out;omega));go_wp2_with (first|(at_builtin;refine aX HK aR 0 os gT.out.symm HR2 HL2 (N:=1+m2) fB ?_;clear HK;intro A9 c9 _ HK;simp only[lS] at HK)|(refine bA HK 1 ?_;clear HK;intro _ HK;simp only[lS] at HK));refine dQ results29 (HK.out.blk 1 rfl) ?_;unfold dB;exact⟨A2,n2,c2,l2,A9,_,c9,_,rfl,mE,HK.out.aA 0,zH fun b W0 W L R K hm hg=>⟨(HI2.out b W0 W L R K (fun z hz=>hm z (List.mem_cons_of_mem _ hz)) (.inl hg)).1,bJ.own (K.mem (hm _ (List.mem_cons_self ..))) (eu (h:=(by show os.length+1≤1000;rw[gT.out];have:=tJ.out;omega)))⟩⟩
 case true=>
  have HV:=zH hd;clear hd;go_enter func29,ntmps29;go_upto_region 4 with (first|(refine aU HK ?_;clear HK;intro _ g1 HK;simp only[aO,aJ] at HK)|refine zX (dV hc) ?_|refine zX (oK HK 0 hc) ?_|(refine bE HK ?_;clear HK;intro _ g2 HK;simp only[aO,aJ] at HK)|(refine bD (u:=t.get c1) HK 2 ?_;clear HK;intro _ HK;simp only[lS] at HK)|refine zX (oM HK 2) ?_|refine zX (pY HK 2) ?_|refine zX ((Br (r:=⟨c1,(t.get c1).ep,(t.get c1).rq⟩)).trans (by rw[← HRf.out])) ?_|(refine aQ HK ?_;clear HK;intro _ g3 HK;simp only[aO,aJ] at HK)|(refine aW (c2:=r.c) (e2:=r.e) (r2:=r.r) HK 3 ?_;clear HK;intro _ HK;simp only[lS] at HK));replace HK:=zH (HK.out.wE aR);simp only[aJ] at HK;go_wp2_with (first|refine zX ((jO HK 2).trans (by rw[HV.out])) ?_|refine zX (jl HK 0) ?_|refine zX (aB HK 3) ?_);refine(HD.out _ HK.out.b).mono ?_;rintro e w1 ⟨A2,n2,c2,l2,O2,m2,d2,R2,rfl,mE,k2,HI2⟩;replace HK:=zH (HK.out.join k2);clear k2;simp only[aO,aJ] at HK;have WG:Hid (∀z∈R2,z∈(row aR (.slice none 0 0) []::R2)):=zH fun z hz=>List.mem_cons_of_mem _ hz
  go_wp2_with (first|(refine dF HK 0 ?_;clear HK;intro _ HK;simp only[lS] at HK)|refine zX (eU HK 0) ?_);refine cb (zT.out _) HK ?_;clear HK;intro _ HK;go_wp2_with (first|(refine dD (u:=t2) HK 0 ?_;clear HK;intro _ HK;simp only[lS] at HK)|refine zX (iB HK 0) ?_);refine cb (uE.out A2 n2 c2 O2 m2 d2 _ (HI2.out _ _ _ _ _ HK.out WG.out (.inr HK.out.b)).2) HK ?_;clear HK;intro _ HK;have gT:Hid (os.length=m2):=zH (HI2.out _ _ _ _ _ HK.out WG.out (.inr HK.out.b)).2.len;have HR2:=zH (And.intro (HI2.out _ _ _ _ _ HK.out WG.out (.inr HK.out.b)).2.rd (HI2.out _ _ _ _ _ HK.out WG.out (.inr HK.out.b)).2.nl);have fB:Hid ((([]:List av.Ot)++os).length=m2):=zH (by rw[aJ,gT.out]);have tJ:Hid (m2≤8):=zH (by rw[← gT.out];exact tH.out);have HL2:=fV (La:=aR) fB (hN:=(by have:=tJ.out;omega));go_wp2_with (first|(at_builtin;refine aX HK aR 0 os gT.out.symm HR2 HL2 (N:=m2) fB ?_;clear HK;intro A9 c9 _ HK;simp only[List.set,aJ] at HK)|(refine bA HK 1 ?_;clear HK;intro _ HK;simp only[lS] at HK));refine dQ results29 (HK.out.blk 1 rfl) ?_;unfold dB;exact⟨A2,n2,c2,l2,A9,_,c9,_,rfl,mE,HK.out.aA 0,zH fun b W0 W L R K hm hg=>⟨(HI2.out b W0 W L R K (fun z hz=>hm z (List.mem_cons_of_mem _ hz)) (.inl hg)).1,bJ.own (K.mem (hm _ (List.mem_cons_self ..))) (eu (h:=(by rw[gT.out];have:=tJ.out;omega)))⟩⟩
end
section
theorem Gu(G:World→Prop)(n:Int)(A:Option Addr)(k cp:Nat)(t:aH.T)(lo:List Oh)(r:Rf)(w:World)(hG:∀W,G W→bY W A k cp lo)(hs:bY w A k cp lo)(hf:aH.Fit t)(hc:0≤r.c∧r.c<5)(hr:r.r≤9223372036854775807):
  Calls prog 31 #[.agg (stA n A k cp t),.agg #[.int .i64 r.c,.int .i64 r.e,.int .i64 r.r]] w (dB G (Ap.jN ⟨n,vs lo,t⟩ r) (Ap.nK ⟨n,vs lo,t⟩ r) w):=by
 have zi:=zH (fun W (hW:Below w.heap.size w W)=>vD (fun W=>G W∨Below w.heap.size w W) n A k cp t lo r.c W (fun W h=>h.elim (hG W) fun g=>hs.later g) (hs.later hW) hf hc);have iA:=zH hG;have Jt:=zH (fun W (hW:Below w.heap.size w W)=>hs.later hW);have HK:=kX w 33 (stA n A k cp t) 35 #[.int .i64 r.c,.int .i64 r.e,.int .i64 r.r];have mJ:Hid (aH.Fit (Ap.dX ⟨n,vs lo,t⟩ r.c).t):=zH (Ap.sW (fun y hy=>Ap.tY (mo) y hy) (aH.qg hf r.c));have tH:=zH (Ap.nO ⟨n,vs lo,t⟩ r.c (lF _ _));have HF:=zH hf;unfold dB at zi;unfold Ap.jN Ap.nK Ap.left;dsimp only;clear hs hG hf;cases hl:(t.get r.c).live
 case false=>
  have HV:=zH hl;rw[if_neg (by decide),if_neg (by decide)];dsimp only;clear hl zi mJ tH;have Eh:=zH (fun W=>CQ t r W HF.out hr);clear hr;unfold Ls at Eh;generalize aH.jB t r=t9 at *
  generalize aH.oH t r=p9 at *
  go_enter func31,ntmps31;go_wp2_with (first|(refine aU HK ?_;clear HK;intro _ g1 HK;simp only[aO,aJ] at HK)|refine zX (iY (x:=r) HK 1) ?_|refine zX (dV hc) ?_|refine zX ((Ue HK 0 hc).trans (by rw[HV.out])) ?_|refine zX (eU HK 0) ?_|refine zX (aB HK 1) ?_);refine cb (Eh.out _) HK ?_;clear HK;intro _ HK;go_upto_region 6 with (first|(refine bP HK ?_;clear HK;intro _ g7 HK;simp only[aO,aJ] at HK)|(refine bQ HK ?_;clear HK;intro _ g8 HK;simp only[aO,aJ] at HK)|(refine bC (t2:=t9) HK 3 ?_;clear HK;intro _ HK;simp only[lS] at HK)|(refine bf (q:=p9) HK 4 ?_;clear HK;intro _ HK;simp only[lS] at HK)|refine zX (jV HK 3) ?_|(refine dD (u:=t9) HK 0 ?_;clear HK;intro _ HK;simp only[lS] at HK));have fB:Hid (([⟨r,p9⟩]++([]:List av.Ot):List av.Ot).length=1+0):=zH (by rfl);have HL2:=fV (La:=aR) fB (hB:=(by show 1*72≤_;decide)) (hN:=(by decide));have aj:=zH HK.out.drew;clear HK Eh;refine wp_region_held_drew (S:=(fun W=>Hid (Kn w.heap.size w W [(w.heap.size,33,stA n A k cp t9),(w.heap.size+1,35,#[.int .i64 r.c,.int .i64 r.e,.int .i64 r.r])] [])∧Hid (Kn w.heap.size w W [(g7,31,dR t9),(g8,28,cB p9)] []))) (by kernel_rfl) ?_ fun ah=>?_
  ·(try dsimp only);exact(⟨zH ((aj.out.aA 2).ay 0),zH ((aj.out.aI 3).ay 0)⟩:_∧_)
  refine ak 0 rfl ?_ fun _ s=>iB s.1 0
  refine ak 1 rfl ?_ fun _ s=>aB s.1 1
  refine ak 2 rfl ?_ fun _ s=>xC s.2 1
  refine ak 3 rfl ?_ fun _ s=>kU (r:=r) (p:=p9)
  refine ak 5 rfl ?_;refine aC 4 rfl fun K hK=>?_
  refine dw aR (p:=⟨r,p9⟩) aj ?_;intro _ g5 dY _;replace aj:=zH dY.out.lC;clear dY;have hs:=(⟨zH ((aj.out.aA 2).ay 0),zH ((aj.out.aI 3).ay 0)⟩:_∧_);refine bk hK hs fun ah=>?_
  clear hK K;refine aC 6 rfl fun K hK=>?_
  refine aT aR aj 0 ([]:List av.Ot) (zH (And.intro (bJ.none (La:=aR) (F:=tF) _).rd (fun _=>rfl))) HL2 (N:=1+0) fB ?_;clear aj;intro A9 c9 _ aj;simp only[lS] at aj;have hs:=(⟨zH ((aj.out.aA 2).ay 0),zH ((aj.out.aI 3).ay 0)⟩:_∧_);refine bk hK hs fun ah=>?_
  clear hK K;refine aC 7 rfl fun K hK=>?_
  refine bZ aj 2 ?_;clear aj;intro w7 aj;simp only[lS] at aj;have hs:=(⟨zH ((aj.out.aA 2).ay 0),zH ((aj.out.aI 3).ay 0)⟩:_∧_);refine bk hK hs fun ah=>?_
  clear hK K;refine ak 8 rfl ?_;refine bW ?_
  all_goals
   have HK:=aj;clear aj ah;go_wp2_with fail;refine dQ results31 (HK.out.blk 2 rfl) ?_;unfold dB;exact⟨A,k,cp,lo,A9,_,c9,_,rfl,zH rfl,HK.out.aA 0,zH fun b W0 W L R K hm hg=>⟨iA.out W hg,bJ.own (K.mem (hm _ (List.mem_cons_self ..))) (eu)⟩⟩
 case true=>
  have HV:=zH hl;rw[if_pos rfl,if_pos rfl];clear hl;generalize Ap.eZ ⟨n,vs lo,t⟩ r.c=os at *
  generalize Ap.dX ⟨n,vs lo,t⟩ r.c=s2 at *
  obtain⟨n2,l2,t2⟩:=s2;dsimp only at *
  have Eh:=zH (fun W=>CQ t2 r W mJ.out hr);clear hr;unfold Ls at Eh;generalize aH.jB t2 r=t9 at *
  generalize aH.oH t2 r=p9 at *
  go_enter func31,ntmps31;go_wp2_with (first|(refine aU HK ?_;clear HK;intro _ g1 HK;simp only[aO,aJ] at HK)|refine zX (iY (x:=r) HK 1) ?_|refine zX (dV hc) ?_|refine zX ((Ue HK 0 hc).trans (by rw[HV.out])) ?_|refine zX (iB HK 0) ?_);refine(zi.out _ HK.out.b).mono ?_;rintro e w1 ⟨A2,k2,c2,lo2,O2,m2,d2,R2,rfl,mE,q2,HI2⟩;replace HK:=zH (HK.out.join q2);clear q2;simp only[aJ] at HK;have gT:Hid (os.length=m2):=zH (HI2.out _ _ _ _ _ HK.out (fun z hz=>hz) (.inr HK.out.b)).2.len;go_wp2_with (first|(refine bA HK 0 ?_;clear HK;intro _ HK;simp only[lS] at HK)|refine zX (eU HK 0) ?_|refine zX (aB HK 1) ?_);refine cb (Eh.out _) HK ?_;clear HK;intro _ HK;go_upto_region 6 with (first|(refine bP HK ?_;clear HK;intro _ g7 HK;simp only[aO,aJ] at HK)|(refine bQ HK ?_;clear HK;intro _ g8 HK;simp only[aO,aJ] at HK)|(refine bC (t2:=t9) HK 3 ?_;clear HK;intro _ HK;simp only[lS] at HK)|(refine bf (q:=p9) HK 4 ?_;clear HK;intro _ HK;simp only[lS] at HK)|refine zX (jV HK 3) ?_|(refine dD (u:=t9) HK 0 ?_;clear HK;intro _ HK;simp only[lS] at HK));have fB:Hid (([⟨r,p9⟩]++os:List av.Ot).length=1+m2):=zH (by rw[List.length_append,gT.out];rfl);have tJ:Hid (m2≤9):=zH (by rw[← gT.out];exact tH.out);have HL2:=fV (La:=aR) fB (hN:=(by have:=tJ.out;omega));have aj:=zH HK.out.drew;clear HK Eh zi;refine wp_region_held_drew (S:=(fun W=>Hid (Kn w.heap.size w W [(w.heap.size,33,stA n2 A2 k2 c2 t9),(w.heap.size+1,35,#[.int .i64 r.c,.int .i64 r.e,.int .i64 r.r])] [])∧Hid (Kn w.heap.size w W [(g7,31,dR t9),(g8,28,cB p9)] []))) (by kernel_rfl) ?_ fun ah=>?_
  ·(try dsimp only);exact(⟨zH ((aj.out.aA 2).ay 0),zH ((aj.out.aI 3).ay 0)⟩:_∧_)
  refine ak 0 rfl ?_ fun _ s=>iB s.1 0
  refine ak 1 rfl ?_ fun _ s=>aB s.1 1
  refine ak 2 rfl ?_ fun _ s=>xC s.2 1
  refine ak 3 rfl ?_ fun _ s=>kU (r:=r) (p:=p9)
  refine ak 5 rfl ?_;refine aC 4 rfl fun K hK=>?_
  refine dw aR (p:=⟨r,p9⟩) aj ?_;intro _ g5 dY _;replace aj:=zH dY.out.lC;clear dY;have hs:=(⟨zH ((aj.out.aA 2).ay 0),zH ((aj.out.aI 3).ay 0)⟩:_∧_);refine bk hK hs fun ah=>?_
  clear hK K;refine aC 6 rfl fun K hK=>?_
  refine aT aR aj 0 os (hn:=gT.out.symm) (zH (And.intro (HI2.out _ _ _ _ _ aj.out (fun z hz=>List.mem_cons_of_mem _ hz) (.inr aj.out.b)).2.rd (HI2.out _ _ _ _ _ aj.out (fun z hz=>List.mem_cons_of_mem _ hz) (.inr aj.out.b)).2.nl)) HL2 (N:=1+m2) fB ?_;clear aj;intro A9 c9 _ aj;simp only[lS] at aj;have hs:=(⟨zH ((aj.out.aA 2).ay 0),zH ((aj.out.aI 3).ay 0)⟩:_∧_);refine bk hK hs fun ah=>?_
  clear hK K;refine aC 7 rfl fun K hK=>?_
  refine bZ aj 2 ?_;clear aj;intro w7 aj;simp only[lS] at aj;have hs:=(⟨zH ((aj.out.aA 2).ay 0),zH ((aj.out.aI 3).ay 0)⟩:_∧_);refine bk hK hs fun ah=>?_
  clear hK K;refine ak 8 rfl ?_;refine bW ?_
  all_goals
   have HK:=aj;clear aj ah;go_wp2_with fail;refine dQ results31 (HK.out.blk 2 rfl) ?_;exact abp
end
section
def ahR(l:List Oh)(k:ByteArray)(z:Int):Prop:=(∃(i:Nat) (x:Oh),z=(i:Int)∧l[i]?=some x∧x.v.name=k∧∀(j:Nat) (y:Oh),j<i→l[j]?=some y→¬y.v.name=k)∨(z = -1∧∀(j:Nat) (y:Oh),l[j]?=some y→¬y.v.name=k)
theorem iF(A:Option Addr)(c n:Nat)(l:List Oh)(nm:ByteArray)(w:World)(hs:bY w A n c l):
  Calls prog 133 #[.slice A n c,.string nm] w (fun e w'=>∃z,ahR l nm z∧e=.returned (.int .i64 z)∧Below w.heap.size w w'):=by
 have HS:=zH hs;have mI:Hid (l.length=n):=zH hs.len;have hbig:n*144≤140737488355328:=hs.s.big;have HK:=zH (Kn.start w);clear hs;go_enter func133,ntmps133;go_wp2_with fail;go_loopw [5] (fun vi wr=>∃k:Nat,k≤n∧vi=.int .i64 k∧Hid (∀(j:Nat) (y:Oh),j<k→l[j]?=some y→¬y.v.name=nm)∧Hid (Kn w.heap.size w wr [] [])) (fun vi _=>n-(intOf vi).toNat)
 case atStart=>exact⟨0,Nat.zero_le _,rfl,zH (fun j y hj=>absurd hj (Nat.not_lt_zero _)),HK⟩
 case round=>
  clear HK;obtain⟨k,hk,rfl,gP,HK⟩:=hrel;have hk1:(0:Int)≤(k:Int):=by omega
  by_cases hlt:k<n
  case pos=>
   have hk2:(k:Int)<(n:Int):=by omega
   have hk3:k<9223372036854775807:=by omega
   obtain⟨x,hx,_⟩:=HS.out.s.get hlt;obtain⟨b,o,rfl,hat⟩:=HS.out.s.at (Nat.lt_of_le_of_lt (Nat.zero_le _) hlt);have HX:Hid (∀j v,(vR x)[j]?=some v→wr.cell? ⟨b,o+k*11+j,none⟩=some v):=zH (hat wr HK.out.b k x hx);have HXx:=zH hx;clear hx hat;by_cases he:x.v.name=nm
   ·have hb:decide (x.v.name=nm)=true:=decide_eq_true he
    have HHe:=zH he;clear he;go_wp2_with (first|refine zX (iJ (off:=o+k*11) HX.out) ?_|refine zX (kR (x:=x.v.name) (y:=nm) hb) ?_);go_ret;exact⟨(k:Int),.inl ⟨k,x,rfl,HXx.out,HHe.out,gP.out⟩,rfl,HK.out.b⟩
   ·have hb:decide (x.v.name=nm)=false:=decide_eq_false he
    have HHe:=zH he;clear he;go_wp2_with (first|refine zX (iJ (off:=o+k*11) HX.out) ?_|refine zX (kR (x:=x.v.name) (y:=nm) hb) ?_|refine zX (aL (j:=k) hk3) ?_);refine⟨⟨k+1,by omega,by go_num,zH (fun j y hj hy=>?_),HK⟩,by simp[intOf];omega⟩;by_cases h:j<k
    ·exact gP.out j y h hy
    ·obtain rfl:j=k:=by omega
     rw[HXx.out] at hy;injection hy with hy;subst hy;exact HHe.out
  case neg=>
  have hk2:¬(k:Int)<(n:Int):=by omega
  go_wp2_with fail;go_ret;exact⟨-1,.inr ⟨rfl,fun j y hy=>gP.out j y (by have h:=(List.getElem?_eq_some_iff.1 hy).1;rw[mI.out] at h;omega) hy⟩,rfl,HK.out.b⟩
end
section
theorem OV(A:Option Addr)(cp n:Nat)(l:List Oh)(c:aF.C)(w:World)(hs:bY w A n cp l)(Yp:n≤8):
  Calls prog 134 #[.slice A n cp,.agg (dh c)] w (FJ (l.take (av.idx (vs l) c.name)++[FT c]++l.drop (av.idx (vs l) c.name)) w):=by
 unfold FJ;have HS:=zH hs;have mI:Hid (l.length=n):=zH hs.len;have HG:Hid (∀k,k<n→∃x,l[k]?=some x):=zH fun k hk=>Lay.fI (l:=l) (k:=k) (by rw[hs.len];exact hk)
 have hpn:=av.nR (vs l) c.name;rw[fF,hs.len] at hpn;have HB:Hid (∀k x,k<av.idx (vs l) c.name→l[k]?=some x→aK.lt x.v.name c.name=true):=zH fun k x hk hx=>av.sQ hk (dL hx)
 have HA:Hid (∀x,l[av.idx (vs l) c.name]?=some x→aK.lt x.v.name c.name=false):=zH fun x hx=>av.sS (dL hx)
 have HK:=iK w 37 (dh c);replace HK:=zH (HK.out.wE aP);simp only[aJ] at HK;clear hs;generalize av.idx (vs l) c.name=p at *
 go_enter func134,ntmps134;go_wp2_with fail;go_loopw [5,6] (fun vo vi wr=>∃(p0:Nat) (A3:Option Addr) (c3:Nat),p0≤p∧vo=.slice A3 p0 c3∧vi=.int .i64 p0∧Hid (Kn w.heap.size w wr [(w.heap.size,37,dh c)] [row aP (.slice A3 p0 c3) (l.take p0)])) (fun _ vi _=>p+1-(intOf vi).toNat)
 case atStart=>exact⟨0,_,_,Nat.zero_le _,rfl,rfl,HK⟩
 case round=>
  clear HK;obtain⟨p0,A3,c3,hk,rfl,rfl,HK⟩:=hrel;have hk1:(0:Int)≤(p0:Int):=by omega
  have hk3:p0<9223372036854775807:=by omega
  by_cases hlt:p0<p
  ·have hkn:p0<n:=by omega
   have hk2:(p0:Int)<(n:Int):=by omega
   obtain⟨x,hx⟩:=HG.out p0 hkn;obtain⟨b,o,rfl,hat⟩:=HS.out.s.at (Nat.lt_of_le_of_lt (Nat.zero_le _) hkn);have HX:Hid (∀W,Below w.heap.size w W→∀j v,(vR x)[j]?=some v→W.cell? ⟨b,o+p0*11+j,none⟩=some v):=zH fun W hW=>hat W hW p0 x hx
   have HL:=zH (HB.out p0 x hlt hx);have HXx:=zH hx
   have HGr:Hid ((l.take p0).length+1≤9223372036854775807∧((l.take p0).length+1)*aP.bytes≤211106232532992):=zH (by
    rw[List.length_take,mI.out,Nat.min_eq_left (by omega)];refine⟨by omega,?_⟩
    show(p0+1)*144≤_
    omega)
   have vQ:Hid ((l.take p0++[x]).length=p0+1):=zH (by rw[List.length_append,List.length_take,mI.out,Nat.min_eq_left (by omega)];rfl);clear hat hx;go_wp2_with fail;replace HK:=zH HK.out.drew;refine zR HK.out fun ah=>?_
   refine ak 0 rfl ?_;refine ak 1 rfl ?_;refine ak 2 rfl ?_;refine ak 3 rfl ?_;refine ak 4 rfl ?_;refine ak 5 rfl ?_;refine ak 6 rfl ?_;refine ak 7 rfl ?_ fun _ s=>bL (i:=p0) hkn
   refine ak 8 rfl ?_;refine ak 9 rfl ?_ fun _ s=>iJ (off:=o+p0*11) (HX.out _ s.out.b)
   refine ak 10 rfl ?_;refine ak 11 rfl ?_ fun _ s=>ko s 0
   refine ak 12 rfl ?_ fun _ s=>jQ (x:=x.v.name) (y:=c.name) HL.out
   refine ak 13 rfl ?_;refine bW ?_;replace HK:=ah;go_wp2_with (first|refine au (v:=.agg (bS x)) (eB (off:=o+p0*11) (HX.out _ HK.out.b)) ?_|(refine dI aP (p:=x) HK ?_;intro _ g11 dY;have HR:=zH (Kn.oJ dY.out).rd;simp only[aO,aJ] at dY;replace HK:=dY;clear dY)|(at_builtin;refine aX HK aP 0 [x] rfl HR HGr (N:=p0+1) vQ ?_;clear HK;intro A8 c8 _ HK;simp only[lS] at HK)|refine zX (aL (j:=p0) hk3) ?_);refine⟨⟨p0+1,A8,c8,by omega,rfl,by go_num,zH ?_⟩,by simp[intOf];omega⟩;rw[Lay.take_succ HXx.out];exact HK.out.ay 1
  ·obtain rfl:p0=p:=by omega
   clear hlt hk;by_cases hkn:p0<n
   ·have hk2:(p0:Int)<(n:Int):=by omega
    obtain⟨x,hx⟩:=HG.out p0 hkn;obtain⟨b,o,rfl,hat⟩:=HS.out.s.at (Nat.lt_of_le_of_lt (Nat.zero_le _) hkn);have HX:Hid (∀W,Below w.heap.size w W→∀j v,(vR x)[j]?=some v→W.cell? ⟨b,o+p0*11+j,none⟩=some v):=zH fun W hW=>hat W hW p0 x hx
    have HL:=zH (HA.out x hx);clear hat hx;go_wp2_with fail;replace HK:=zH HK.out.drew;refine zR HK.out fun ah=>?_
    refine ak 0 rfl ?_;refine ak 1 rfl ?_;refine ak 2 rfl ?_;refine ak 3 rfl ?_;refine ak 4 rfl ?_;refine ak 5 rfl ?_;refine ak 6 rfl ?_;refine ak 7 rfl ?_ fun _ s=>bL (i:=p0) hkn
    refine ak 8 rfl ?_;refine ak 9 rfl ?_ fun _ s=>iJ (off:=o+p0*11) (HX.out _ s.out.b)
    refine ak 10 rfl ?_;refine ak 11 rfl ?_ fun _ s=>ko s 0
    refine ak 12 rfl ?_ fun _ s=>jQ (x:=x.v.name) (y:=c.name) HL.out
    refine ak 13 rfl ?_;refine bW ?_;replace HK:=ah;clear HB HA
    have HGr:Hid ((l.take p0).length+1≤9223372036854775807∧((l.take p0).length+1)*aP.bytes≤211106232532992):=zH (by
     rw[List.length_take,mI.out,Nat.min_eq_left hpn];refine⟨by omega,?_⟩
     show(p0+1)*144≤_
     omega)
    have vQ:Hid ((l.take p0++[FT c]).length=p0+1):=zH (by rw[List.length_append,List.length_take,mI.out,Nat.min_eq_left hpn];rfl);have HDl:Hid (n-p0=(l.drop p0).length):=zH (by rw[List.length_drop,mI.out])
    have HG2:Hid ((l.take p0++[FT c]).length+(l.drop p0).length≤9223372036854775807∧((l.take p0++[FT c]).length+(l.drop p0).length)*aP.bytes≤211106232532992):=zH (by
     rw[vQ.out,← HDl.out];refine⟨by omega,?_⟩
     show(p0+1+(n-p0))*144≤_
     omega)
    exact aeO
   ·have hk2:¬(p0:Int)<(n:Int):=by omega
    go_wp2_with fail;replace HK:=zH HK.out.drew;refine zR HK.out fun ah=>?_
    refine ak 0 rfl ?_;refine ak 1 rfl ?_;refine ak 2 rfl ?_;refine ak 3 rfl ?_;refine ak 4 rfl ?_;refine bF 5 rfl ?_;refine bF 6 rfl ?_;refine bF 7 rfl ?_;refine bF 8 rfl ?_;refine bF 9 rfl ?_;refine bF 10 rfl ?_;refine bF 11 rfl ?_;refine bF 12 rfl ?_;refine ak 13 rfl ?_;refine bW ?_;replace HK:=ah;clear HB HA
    have HGr:Hid ((l.take p0).length+1≤9223372036854775807∧((l.take p0).length+1)*aP.bytes≤211106232532992):=zH (by
     rw[List.length_take,mI.out,Nat.min_eq_left hpn];refine⟨by omega,?_⟩
     show(p0+1)*144≤_
     omega)
    have vQ:Hid ((l.take p0++[FT c]).length=p0+1):=zH (by rw[List.length_append,List.length_take,mI.out,Nat.min_eq_left hpn];rfl);have HDl:Hid (n-p0=(l.drop p0).length):=zH (by rw[List.length_drop,mI.out])
    have HG2:Hid ((l.take p0++[FT c]).length+(l.drop p0).length≤9223372036854775807∧((l.take p0++[FT c]).length+(l.drop p0).length)*aP.bytes≤211106232532992):=zH (by
     rw[vQ.out,← HDl.out];refine⟨by omega,?_⟩
     show(p0+1+(n-p0))*144≤_
     omega)
    exact aeO
end
end Go.Proofs.YtieoeendnccafaaGreat
