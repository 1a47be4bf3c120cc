/- Steps of a region that draws its order, in short: an operation is taken first, what is passed over, what may come up next. No condition but those named. -/
import Derived.Lib.Bytealg
import Derived.Lib.Hide
import Derived.Test.YtieoeendnccafaaGreatRows
import Derived.WalkSpells
import Derived.WalkLawsBesides
import Derived.Handy
import Derived.BigQuiet
import Derived.Deep.AppendSrc
import Derived.Deep.AppendLies
import Derived.Deep.Onto
import Derived.Deep.CondSized
import Derived.Lib.SmallJoins
import Derived.Deep.RegionHeld3
import Derived.Great.BuildSlice
import Derived.Deep.CutBlock
import Derived.Deep.DeepCutAuto
import Derived.Lib.AppendZeros
set_option linter.unusedSimpArgs false
set_option linter.unusedVariables false
set_option maxRecDepth 100000
set_option maxHeartbeats 25600000
open Go.RowKit
namespace Go.Proofs.YtieoeendnccafaaGreat
section
theorem zH{p:Prop}(h:p):RowKit.Hid p:=Lib.hid h
theorem aJ{α:Type}(l:List α):[]++l=l:=rfl
theorem aO{α:Type}(a:α)(l m:List α):a::l++m=a::(l++m):=rfl
section
variable {P:Program}{ops:Array Oper}{Q:Exit→Act→World→Prop}{md:Region.Mode}{S:World→Prop}{fuel:Nat}{listed:Array Bool}{a a':Act}{w:World}
theorem Eb(a:Act)(d:Tmp)(v:Value):a.put (some d) v = { a with tmps:=a.tmps.setIfInBounds d v }:=rfl
theorem Ea(a:Act)(v:Value):a.put none v=a:=rfl
theorem DZ(l:List Value)(i:Nat)(v:Value):l.toArray.setIfInBounds i v=(l.set i v).toArray:=by simp
theorem DY(x:Value)(l:List Value)(v:Value):(x::l).set 0 v=v::l:=rfl
theorem DX(x:Value)(l:List Value)(n:Nat)(v:Value):(x::l).set (n+1) v=x::l.set n v:=rfl
section
variable {op:Op}{ty:TypeId}{ps:String}{af:Array Edge}{gd:Option (Nat×Bool)}{v:Value}
theorem lS{α:Type}:(∀(x:α) l v,(x::l).set 0 v=v::l)∧∀(x:α) l n v,(x::l).set (n+1) v=x::l.set n v:=⟨fun _ _ _=>rfl,fun _ _ _ _=>rfl⟩
theorem bk{K':Act→World→Prop}{l:Array Bool}(hK:Shut (∀a w,S w→(S w→wpAnyH P md ops Q S fuel l a w)→K' a w))(hs:S w)(h:S w→wpAnyH P md ops Q S fuel l a' w)(ha:a=a':=by((try simp only[Eb,Ea,DZ,DY,DX]);exact rfl)):K' a w:=by
 subst ha;exact hK.out _ _ hs h
theorem bW(h:Q .normal a w)(hr:Region.ready md ops listed=[]:=by kernel_rfl):wpAnyH P md ops Q S fuel listed a w:=wpAnyH_done hr h _
theorem ak(i:Nat){d:Nat}(hi:ops[i]?=some ⟨some d,op,ty,ps,af,gd⟩)
  (h:wpAnyH P md ops Q S fuel (listed.setIfInBounds i true) a' w)
  (hv:∀w,S w→(execOp a.eval ⟨some d,op,ty,ps,af,gd⟩).run P w=.ok (.value v) w:=by(intro w Jr;(try dsimp only at Jr);go_simp;try with_reducible rfl))
  (ha:a.put (some d) v=a':=by((try simp only[Act.put,List.setIfInBounds_toArray,List.set_cons_zero,List.set_cons_succ]);exact rfl))
  (hs:Region.noSelect ops=true:=by kernel_rfl) (hf:Region.free md ops listed i=true:=by kernel_rfl) (hr:(Region.ready md ops listed).contains i=true:=by kernel_rfl)
  (hw:Region.wanted ⟨some d,op,ty,ps,af,gd⟩ (yielded ops a.tmps)=true:=by rfl) (hS:S w:=by assumption)
  (hQ:∀c a w,Q (.panic c) (a.put (some d) v) w→Q (.panic c) a w:=by exact fun _ _ _ h=>h):wpAnyH P md ops Q S (fuel+1) listed a w:=
 wpAnyH_take hi hs hf hr hQ (Or.inl ⟨hw,hv⟩) hS (ha.symm▸h)
theorem bF(i:Nat){d:Nat}(hi:ops[i]?=some ⟨some d,op,ty,ps,af,gd⟩)
  (h:wpAnyH P md ops Q S fuel (listed.setIfInBounds i true) a' w)
  (ha:a.put (some d) undef=a':=by((try simp only[Act.put,List.setIfInBounds_toArray,List.set_cons_zero,List.set_cons_succ]);exact rfl))
  (hs:Region.noSelect ops=true:=by kernel_rfl) (hf:Region.free md ops listed i=true:=by kernel_rfl) (hr:(Region.ready md ops listed).contains i=true:=by kernel_rfl)
  (hw:Region.wanted ⟨some d,op,ty,ps,af,gd⟩ (yielded ops a.tmps)=false:=by rfl) (hS:S w:=by assumption)
  (hQ:∀c a w,Q (.panic c) (a.put (some d) undef) w→Q (.panic c) a w:=by exact fun _ _ _ h=>h):wpAnyH P md ops Q S (fuel+1) listed a w:=
 wpAnyH_take hi hs hf hr hQ (Or.inr ⟨hw,rfl⟩) hS (ha.symm▸h)
end
variable {op:Op}{ty:TypeId}{ps:String}{af:Array Edge}{gd:Option (Nat×Bool)}{op2:Op}{ty2:TypeId}{ps2:String}{af2:Array Edge}{gd2:Option (Nat×Bool)}{op3:Op}{ty3:TypeId}{ps3:String}{af3:Array Edge}{gd3:Option (Nat×Bool)}
theorem aC(i:Nat){d:Option Nat}(hi:ops[i]?=some ⟨d,op,ty,ps,af,gd⟩)
  (h:∀K':Act→World→Prop,Shut (∀a w,S w→(S w→wpAnyH P md ops Q S fuel (listed.setIfInBounds i true) a w)→K' a w)→if Region.wanted ⟨d,op,ty,ps,af,gd⟩ (yielded ops a.tmps)=true then Oper.wp P ⟨d,op,ty,ps,af,gd⟩ a w K' Q else K' (a.put d undef) w)
  (hr:Region.ready md ops listed=[i]:=by kernel_rfl):wpAnyH P md ops Q S (fuel+1) listed a w:=
 wpAnyH_ready hr (by simp) (AllReadyH.cons hi h AllReadyH.nil)
theorem jr(i:Nat){d:Option Nat}(j:Nat){e:Option Nat}(hi:ops[i]?=some ⟨d,op,ty,ps,af,gd⟩)(hj:ops[j]?=some ⟨e,op2,ty2,ps2,af2,gd2⟩)
  (h:∀K':Act→World→Prop,Shut (∀a w,S w→(S w→wpAnyH P md ops Q S fuel (listed.setIfInBounds i true) a w)→K' a w)→if Region.wanted ⟨d,op,ty,ps,af,gd⟩ (yielded ops a.tmps)=true then Oper.wp P ⟨d,op,ty,ps,af,gd⟩ a w K' Q else K' (a.put d undef) w)
  (h2:∀K':Act→World→Prop,Shut (∀a w,S w→(S w→wpAnyH P md ops Q S fuel (listed.setIfInBounds j true) a w)→K' a w)→if Region.wanted ⟨e,op2,ty2,ps2,af2,gd2⟩ (yielded ops a.tmps)=true then Oper.wp P ⟨e,op2,ty2,ps2,af2,gd2⟩ a w K' Q else K' (a.put e undef) w)
  (hr:Region.ready md ops listed=[i,j]:=by kernel_rfl):wpAnyH P md ops Q S (fuel+1) listed a w:=
 wpAnyH_ready hr (by simp) (AllReadyH.cons hi h (AllReadyH.cons hj h2 AllReadyH.nil))
theorem Xu(i:Nat){d:Option Nat}(j:Nat){e:Option Nat}(k:Nat){f:Option Nat}(hi:ops[i]?=some ⟨d,op,ty,ps,af,gd⟩)(hj:ops[j]?=some ⟨e,op2,ty2,ps2,af2,gd2⟩)(hk:ops[k]?=some ⟨f,op3,ty3,ps3,af3,gd3⟩)
  (h:∀K':Act→World→Prop,Shut (∀a w,S w→(S w→wpAnyH P md ops Q S fuel (listed.setIfInBounds i true) a w)→K' a w)→if Region.wanted ⟨d,op,ty,ps,af,gd⟩ (yielded ops a.tmps)=true then Oper.wp P ⟨d,op,ty,ps,af,gd⟩ a w K' Q else K' (a.put d undef) w)
  (h2:∀K':Act→World→Prop,Shut (∀a w,S w→(S w→wpAnyH P md ops Q S fuel (listed.setIfInBounds j true) a w)→K' a w)→if Region.wanted ⟨e,op2,ty2,ps2,af2,gd2⟩ (yielded ops a.tmps)=true then Oper.wp P ⟨e,op2,ty2,ps2,af2,gd2⟩ a w K' Q else K' (a.put e undef) w)
  (h3:∀K':Act→World→Prop,Shut (∀a w,S w→(S w→wpAnyH P md ops Q S fuel (listed.setIfInBounds k true) a w)→K' a w)→if Region.wanted ⟨f,op3,ty3,ps3,af3,gd3⟩ (yielded ops a.tmps)=true then Oper.wp P ⟨f,op3,ty3,ps3,af3,gd3⟩ a w K' Q else K' (a.put f undef) w)
  (hr:Region.ready md ops listed=[i,j,k]:=by kernel_rfl):wpAnyH P md ops Q S (fuel+1) listed a w:=
 wpAnyH_ready hr (by simp) (AllReadyH.cons hi h (AllReadyH.cons hj h2 (AllReadyH.cons hk h3 AllReadyH.nil)))
end
end
theorem qC{p:Prop}(h:p:=by
 clear HN;go_enter func148,ntmps148;go_upto_region 1 with fail;simp only[List.append_eq,aO,aJ];go_wp2_with fail;go_ret;exact⟨rfl,HK.out.b⟩):p:=h
theorem iU{p:Prop}(h:p:=by
 go_wp2_with fail;go_ret;exact⟨rfl,HK.out.b⟩):p:=h
theorem QO{p:Prop}(h:p:=by
 go_wp2_with (first|refine zX (aD (m:=rr) (n:=0) H1.out) ?_|refine zX (bT (m:=re) (n:=ep) H2.out) ?_|refine zX (bH (m:=re) (n:=ep) H3.out) ?_|refine zX (bI (m:=rr) (n:=rq) H4.out) ?_|refine zX (aD (m:=rr) (n:=rq) H5.out) ?_|refine zX (aD (m:=rv) (n:=rq) H6.out) ?_|refine zX (Vj (m:=rr) (n:=rv) HW.out) ?_);go_ret;exact⟨by rw[HX.out]<;>rfl,HK.out.b⟩):p:=h
theorem lQ{p:Prop}(h:p:=by
 go_ret;exact⟨rfl,HK.out.b⟩):p:=h
theorem zq4{p:Prop}(h:p:=by
 have hcell:=hcl _ (Below.refl _ _);have ht:=HLen.out (k+1);have he:=lH hp;have hpn:=hsl.len;rw[he,List.length_append] at ht;have HE:Hid ((dN (ps.take (k+1))).length=(dN (ps.take k)).length+p.n):=zH (by rw[he,List.length_append,hpn]);rw[hpn] at ht;clear he hp hsl hcl hpn;obtain⟨A,n,c,l⟩:=p;simp only at hcell ht HE;generalize (dN (ps.take k)).length=q at *
 have h1:wrap64 ((q:Int)+(n:Int))=((q+n:Nat):Int):=by unfold wrap64;omega
 have h2:¬(((q+n:Nat):Int)<0):=by omega
 have h3:¬((q:Int)+(n:Int)<0):=by omega
 go_wp2_with fail;exact⟨⟨k+1,by omega,by rw[HE.out];go_num,by go_num,by simp⟩,by simp[intOf];omega⟩):p:=h
theorem WQ{p:Prop}(h:p:=by
 clear HN;go_enter func148,ntmps148;go_upto_region 1 with fail;simp only[List.append_eq,aO,aJ];go_wp2_with fail;go_ret;exact⟨by first|rfl|simp[n1,n2,n3,n4,n5],HK.out.b⟩):p:=h
theorem zq6{p:Prop}(h:p:=by
 go_enter func70,ntmps70;go_wp2_with refine au (jD HK 0) ?_;refine cb (HN.out _) HK ?_;clear HK;intro _ HK;go_upto_region 2 with (first|(refine jy HK ?_;clear HK;intro _ g3 HK;simp only[aO,aJ] at HK)|(refine jw HK 1 ?_;clear HK;intro _ HK _;simp only[lS] at HK));obtain⟨ou,oq,oo,oh,rH,rG,rE,rD,rC,ru,iX,iW,iV⟩:=Kn.cmd HK.out 0 rfl;obtain⟨qE,qD,qZ,qY,qX,qW⟩:=Kn.flags HK.out 1 rfl;go_wp2_with fail;refine cb (HO.out _) HK ?_;clear HK;intro _ HK;clear ou oq oo oh rH rG rE rD rC ru iX iW iV qE qD qZ qY qX qW;obtain⟨ou,oq,oo,oh,rH,rG,rE,rD,rC,ru,iX,iW,iV⟩:=Kn.cmd HK.out 0 rfl;obtain⟨qE,qD,qZ,qY,qX,qW⟩:=Kn.flags HK.out 1 rfl;go_wp2_with fail;refine cb (oU.out _) HK ?_;clear HK;intro _ HK;clear ou oq oo oh rH rG rE rD rC ru iX iW iV qE qD qZ qY qX qW;obtain⟨ou,oq,oo,oh,rH,rG,rE,rD,rC,ru,iX,iW,iV⟩:=Kn.cmd HK.out 0 rfl;obtain⟨qE,qD,qZ,qY,qX,qW⟩:=Kn.flags HK.out 1 rfl;go_wp2_with fail;refine cb (LC.out _) HK ?_;clear HK;intro _ HK;clear ou oq oo oh rH rG rE rD rC ru iX iW iV qE qD qZ qY qX qW;obtain⟨ou,oq,oo,oh,rH,rG,rE,rD,rC,ru,iX,iW,iV⟩:=Kn.cmd HK.out 0 rfl;obtain⟨qE,qD,qZ,qY,qX,qW⟩:=Kn.flags HK.out 1 rfl;go_wp2_with fail;refine cb (HM.out _) HK ?_;clear HK;intro _ HK;clear ou oq oo oh rH rG rE rD rC ru iX iW iV qE qD qZ qY qX qW;obtain⟨ou,oq,oo,oh,rH,rG,rE,rD,rC,ru,iX,iW,iV⟩:=Kn.cmd HK.out 0 rfl;obtain⟨qE,qD,qZ,qY,qX,qW⟩:=Kn.flags HK.out 1 rfl;go_wp2_with fail;go_ret;exact HE.out _ rfl _ _ ⟨rfl,HK.out.b⟩):p:=h
theorem zq7{p:Prop}(h:p:=by
 have HK:=Cg w 63 (bS x) 35 #[.int .i64 r.c,.int .i64 r.e,.int .i64 r.r] 37 (dh c) 222 (mX rU av.rz false none 0 0);clear hx hx0 hw hv;unfold jY at *
 go_enter func192,ntmps192;go_wp2_with (first|refine zX (bK HK 2) ?_|refine zX (jv HK 0) ?_|refine zX (aB HK 1) ?_);refine(HT.out _ HK.out.b).mono ?_;rintro e w1 ⟨y,A4,n4,c4,Rn,rfl,v4,k4,i4⟩;replace HK:=zH (HK.out.join k4);have oQ:=zH i4;clear k4 i4;simp only[aJ] at HK;go_wp2_with (refine eT HK 3 ?_;clear HK;intro _ HK;simp only[lS] at HK);exact nH results192 (HK.out.blk 3 rfl) ⟨y,A4,n4,c4,Rn,rfl,v4,HK.out.aA 0,oQ.out⟩):p:=h
theorem yG{p:Prop}(h:p:=by
 go_ret;exact⟨by rw[HX.out]<;>rfl,HK.out.b⟩):p:=h
theorem QN{p:Prop}(h:p:=by
 go_enter func127,ntmps127;go_wp2_with fail;go_ret;exact HX.out _ _):p:=h
theorem rQ{p:Prop}(h:p:=by
 refine bW ?_;go_wp2_with fail;go_ret;exact⟨by rw[HR.out]<;>rfl,ah.out.b⟩):p:=h
theorem Xm{p:Prop}(h:p:=by
 go_enter func205,ntmps205;go_wp2_with refine zX (bB HK 0) ?_;refine cb (HM.out _) HK ?_;clear HK;intro _ HK;go_wp2_with (first|refine zX (bX HK 0) ?_|refine zX (bB HK 0) ?_|(refine aM (f2:=0) HK 1 ?_;clear HK;intro _ HK;simp only[lS] at HK));exact EB results205 (HK.out.blk 1 rfl) ⟨rfl,HK.out.b⟩):p:=h
theorem abA{p:Prop}(h:p:=by
 refine(zT.out _ HK.out.b).mono ?_;rintro en w5 ⟨A3,k3,c3,lo3,O3,m3,d3,R3,rfl,Ee,q3,HI3⟩;replace HI3:Hid (∀(b:Nat) (W0 W:World) L R,Kn b W0 W L R→(∀z∈R3,z∈R)→G W→bY W A3 k3 c3 lo3∧bJ aR tF W O3 m3 d3 o9):=zH fun b W0 W L R K hm g=>HI3.out b W0 W L R K hm (.inl g);replace HK:=zH (HK.out.join q3);clear q3;simp only[aJ] at HK
 go_wp2_with (refine bA HK 2 ?_;clear HK;intro _ HK;simp only[lS] at HK);refine dQ results11 (HK.out.blk 2 rfl) ?_;unfold dB;exact⟨A3,k3,c3,lo3,O3,m3,d3,_,rfl,Ee,HK.out.aA 0,HI3⟩):p:=h
theorem Xl{p:Prop}(h:p:=by
 go_enter func242,ntmps242;go_wp2_with refine zX (bB HK 0) ?_;refine cb (HM.out _) HK ?_;clear HK;intro _ HK;go_wp2_with (first|refine zX (bX HK 0) ?_|refine zX (bB HK 0) ?_|(refine aM (f2:=0) HK 1 ?_;clear HK;intro _ HK;simp only[lS] at HK));exact EB results242 (HK.out.blk 1 rfl) ⟨rfl,HK.out.b⟩):p:=h
theorem abz{p:Prop}(h:p:=by
 go_wp2_with fail;rw[HDx.out];exact qL results77 (aj.out.blk 2 rfl) (hR:=(by unfold mQ;exact⟨A6,n6,c6,l.set i y,_,_,_,_,rfl,by rw[RJ,rW.out],aj.out.aA 0,fun _ _ _ _ _ K hm hb=>⟨⟨bJ.own (K.mem (hm _ (List.mem_append_right _ (List.mem_cons_self ..)))) ⟨fun z hz=>trivial,by rw[List.length_set,mI.out];exact WK.out⟩,fun z hz=>UC (yF.out _ hb).i ((oQ.out _ _ _ _ _ K (fun z hz=>hm _ (List.mem_append_left _ hz)) hb).1) hz⟩,(oQ.out _ _ _ _ _ K (fun z hz=>hm _ (List.mem_append_left _ hz)) hb).2⟩⟩))):p:=h
theorem aeU{p:Prop}(h:p:=by
 go_wp2_with fail;refine zR HK.out.drew fun ah=>?_
 refine ak 0 rfl ?_;refine ak 1 rfl ?_;refine ak 2 rfl ?_ fun _ s=>dM (i:=k) hlt
 refine ak 3 rfl ?_ fun _ s=>bV (x:=x) (off:=o+k*3) (HX.out _ s.out.b)
 refine ak 4 rfl ?_ fun _ s=>aB s 0
 refine aC 5 rfl fun K hK=>?_
 go_simp;go_at_call 194;refine(pI.out _).mono ?_;rintro e w5 ⟨rfl,b5⟩;have hs:=zH (ah.out.call b5);clear b5;refine bk hK hs fun ah=>?_
 clear hK K;refine ak 6 rfl ?_;refine bW ?_;replace HK:=ah;clear ah;go_wp2_with (first|refine zX (bV (x:=x) (off:=o+k*3) (HX.out _ HK.out.b)) ?_|(refine dI aG (p:=x) HK ?_;intro _ g5 dY;simp only[aO,aJ] at dY;have HR:=zH (dY.out.own 1 rfl).rd;replace HK:=dY;clear dY)|(at_builtin;refine aX HK aG 0 [x] rfl HR HL2 (N:=N+1) fB ?_;clear HK;intro A4 c4 _ HK;simp only[lS] at HK)|refine zX (aL (j:=k) hk3) ?_);refine⟨⟨k+1,A4,c4,N+1,hlt,rfl,rfl,zH (by rw[HE.out,fB.out]),?_⟩,by simp[intOf];omega⟩;rw[HE.out];exact zH (HK.out.ay 1)):p:=h
theorem Jy{p:Prop}(h:p:=by
 obtain⟨p,hp⟩:=Lay.fI (l:=ps) (k:=k) (by rw[hm];exact hk);exact⟨p,hp,hs p (List.mem_of_getElem? hp),fun W hW=>(hW.cell (p:=⟨g,k,none⟩) hg).trans (hc k p hp)⟩):p:=h
theorem NU{p:Prop}(h:p:=by
 refine dQ results11 (HK.out.blk 2 rfl) ?_;unfold dB;exact⟨A,k,cp,lo,none,0,0,_,rfl,zH rfl,HK.out.aA 0,zH fun b W0 W L R K hm hg=>⟨iA.out W hg,bJ.none W⟩⟩):p:=h
theorem aeT{p:Prop}(h:p:=by
 clear h0;go_enter func257,ntmps257;go_wp2_with fail;refine cb (HM.out _ HK.out.b) HK ?_;clear HK;intro _ HK;go_wp2_with refine zX (aB HK 0) ?_;refine cb (HC.out _) HK ?_;clear HK;intro _ HK;go_wp2_with refine zX (fH HK 0) ?_;refine cb (Ct.out _ HK.out.b) HK ?_;clear HK;intro _ HK;go_wp2_with (first|refine zX (aB HK 0) ?_|(refine dI aG (p:=r) HK ?_;intro _ g5 dY;simp only[aO,aJ] at dY;have HR:=zH (dY.out.own 0 rfl).rd;replace HK:=dY;clear dY)|(refine lT aG nD HK ?_;clear HK;intro w2 g7 HK _;simp only[aO,aJ] at HK));refine(HJ.out.two HK 1 rfl (HS.out.later HK.out.b) (bJ.own (HK.out.own 0 rfl) HF.out) (by show(n+1)*24≤_;omega)).mono ?_;rintro e w3 ⟨A4,n4,c4,rfl,o4,b4⟩;replace HK:=zH (HK.out.called b4 o4);clear o4 b4;go_wp2_with fail;exact iQ results257 (hR:=⟨A4,n4,c4,rfl,HK.out.own 1 rfl,HK.out.b⟩)):p:=h
theorem aeS{p:Prop}(h:p:=by
 clear HK;intro _ HK;clear ou oq oo oh rH rG rE rD rC ru iX iW iV qE qD qZ qY qX qW;obtain⟨ou,oq,oo,oh,rH,rG,rE,rD,rC,ru,iX,iW,iV⟩:=Kn.cmd HK.out 0 rfl;obtain⟨qE,qD,qZ,qY,qX,qW⟩:=Kn.flags HK.out 1 rfl;go_wp2_with fail;go_ret;exact HE.out _ rfl _ _ ⟨rfl,HK.out.b⟩):p:=h
theorem rP{p:Prop}(h:p:=by
 go_wp2_with fail;go_ret;exact⟨by rw[HR.out]<;>rfl,HK.out.b⟩):p:=h
theorem aeR{p:Prop}(h:p:=by
 refine ak 0 rfl ?_ fun _ s=>jv s.1 0
 refine ak 1 rfl ?_;refine ak 2 rfl ?_ fun _ s=>bq s.2 0
 refine ak 3 rfl ?_ fun _ s=>jf (z:=z) (v:=v)
 refine aC 4 rfl fun K hK=>?_
 refine bN (y:=x.sp A4 n4 c4 m) aj 2 ?_;clear aj;intro wq aj;simp only[lS] at aj;have hs:=And.intro (zH ((aj.out.aA 2).ay 0)) (zH ((aj.out.aI 4).ay 0));refine bk hK hs fun ah=>?_
 clear hK K;refine aC 5 rfl fun K hK=>?_
 refine bM (q:=⟨z,v⟩) aj 3 ?_;clear aj;intro wq aj;simp only[lS] at aj;have hs:=And.intro (zH ((aj.out.aA 2).ay 0)) (zH ((aj.out.aI 4).ay 0));refine bk hK hs fun ah=>?_
 clear hK K;refine bW ?_;go_wp2_with fail;exact sH results139 (aj.out.blk 2 rfl) (aj.out.blk 3 rfl) ⟨x.sp A4 n4 c4 m,_,rfl,rfl,aj.out.aA 0,fun _ _ _ _ _ K hm hb=>(HI.out _ hb).sp (Sl.own (K.mem (hm _ (List.mem_cons_self ..))) HF.out)⟩):p:=h
theorem aby{p:Prop}(h:p:=by
 go_wp2_with (refine dG aG nD HK ?_;clear HK;intro w2 g7 HK _;simp only[aO,aJ] at HK);refine(HJ.out.one HK 2 rfl (HS.out.later HK.out.b)).mono ?_;rintro e w3 ⟨A4,n4,c4,rfl,o4,b4⟩;replace HK:=zH (HK.out.called b4 o4);simp only[aJ] at HK;clear o4 b4;go_wp2_with (refine aW HK 1 ?_;clear HK;intro _ HK;simp only[lS] at HK);exact nG results258 (HK.out.blk 1 rfl) ⟨A4,n4,c4,rfl,HK.out.own 0 rfl,HK.out.b⟩):p:=h
theorem aeQ{p:Prop}(h:p:=by
 refine ak 0 rfl ?_ fun _ s=>jv s.1 0
 refine ak 1 rfl ?_;refine ak 2 rfl ?_ fun _ s=>bq s.2 0
 refine ak 3 rfl ?_ fun _ s=>jf (z:=z) (v:=v)
 refine aC 4 rfl fun K hK=>?_
 refine bN (y:=x.sp x.pA x.pn x.pc x.v.dP) aj 2 ?_;clear aj;intro wq aj;simp only[lS] at aj;have hs:=And.intro (zH ((aj.out.aA 2).ay 0)) (zH ((aj.out.aI 4).ay 0));refine bk hK hs fun ah=>?_
 clear hK K;refine aC 5 rfl fun K hK=>?_
 refine bM (q:=⟨z,v⟩) aj 3 ?_;clear aj;intro wq aj;simp only[lS] at aj;have hs:=And.intro (zH ((aj.out.aA 2).ay 0)) (zH ((aj.out.aI 4).ay 0));refine bk hK hs fun ah=>?_
 clear hK K;refine bW ?_;go_wp2_with fail;exact sH results139 (aj.out.blk 2 rfl) (aj.out.blk 3 rfl) ⟨x.sp x.pA x.pn x.pc x.v.dP,_,rfl,rfl,aj.out.aA 0,fun _ _ _ _ _ K hm hb=>(HI.out _ hb).sp (HI.out _ hb).p⟩):p:=h
theorem aeP{p:Prop}(h:p:=by
 go_enter func70,ntmps70;go_wp2_with refine au (jD HK 0) ?_;refine cb (HN.out _) HK ?_;clear HK;intro _ HK;go_upto_region 2 with (first|(refine jy HK ?_;clear HK;intro _ g3 HK;simp only[aO,aJ] at HK)|(refine jw HK 1 ?_;clear HK;intro _ HK _;simp only[lS] at HK));obtain⟨ou,oq,oo,oh,rH,rG,rE,rD,rC,ru,iX,iW,iV⟩:=Kn.cmd HK.out 0 rfl;obtain⟨qE,qD,qZ,qY,qX,qW⟩:=Kn.flags HK.out 1 rfl;go_wp2_with fail;refine cb (HO.out _) HK ?_;clear HK;intro _ HK;clear ou oq oo oh rH rG rE rD rC ru iX iW iV qE qD qZ qY qX qW;obtain⟨ou,oq,oo,oh,rH,rG,rE,rD,rC,ru,iX,iW,iV⟩:=Kn.cmd HK.out 0 rfl;obtain⟨qE,qD,qZ,qY,qX,qW⟩:=Kn.flags HK.out 1 rfl;go_wp2_with fail;go_ret;exact HE.out 1 rfl _ _ ⟨rfl,HK.out.b⟩):p:=h
theorem abx{p:Prop}(h:p:=by
 clear HK;intro _ HK;go_wp2_with (refine dG aG nD HK ?_;clear HK;intro w2 g7 HK _;simp only[aO,aJ] at HK);refine(HJ.out.one HK 1 rfl (HS.out.later HK.out.b)).mono ?_;rintro e w3 ⟨A4,n4,c4,rfl,o4,b4⟩;replace HK:=zH (HK.out.called b4 o4);simp only[aJ] at HK;clear o4 b4;go_wp2_with fail;exact iQ results259 (hR:=⟨A4,n4,c4,none,0,0,rfl,Gc (HK.out.own 0 rfl) HK.out.b,HK.out.b⟩)):p:=h
theorem aeO{p:Prop}(h:p:=by
 have HN4:Hid (((l.take p0++[FT c])++l.drop p0).length=n+1):=zH (by rw[List.length_append,vQ.out,← HDl.out];omega);go_wp2_with (first|refine zX (ko HK 0) ?_|refine zX (MK HK 0) ?_|refine zX (aaE HK 0) ?_|refine zX (Iy (c:=c)) ?_|(refine dI aP (p:=FT c) HK ?_;intro _ g11 dY;have HR:=zH (Kn.oJ dY.out).rd;simp only[aO,aJ] at dY;replace HK:=dY;clear dY)|(at_builtin;refine aX HK aP 0 [FT c] rfl HR HGr (N:=p0+1) vQ ?_;clear HK;intro A8 c8 _ HK;simp only[lS] at HK)|(refine zX (lD aP (lo:=p0) hpn) ?_;have HRd:=zH (let h:=((HS.out.s.drop hpn).later HK.out.b);And.intro h.rd h.nl))|(at_builtin;refine aX HK aP 0 (l.drop p0) HDl.out HRd HG2 (N:=n+1) HN4 ?_;clear HK;intro A9 c9 _ HK;simp only[lS] at HK));go_ret;exact⟨_,_,_,rfl,HK.out.own (La:=aP) 0 rfl,HK.out.b⟩):p:=h
theorem aeN{p:Prop}(h:p:=by
 unfold dB;exact⟨A,k,cp,lo,none,0,0,_,rfl,zH rfl,HK.out.aA 0,zH fun b W0 W L R K hm hg=>⟨iA.out W hg,bJ.none W⟩⟩):p:=h
theorem abw{p:Prop}(h:p:=by
 clear HK;intro _ HK;go_wp2_with (refine dG aG nD HK ?_;clear HK;intro w2 g7 HK _;simp only[aO,aJ] at HK);refine(HJ.out.one HK 1 rfl (HS.out.later HK.out.b)).mono ?_;rintro e w3 ⟨A4,n4,c4,rfl,o4,b4⟩;replace HK:=zH (HK.out.called b4 o4);simp only[aJ] at HK;clear o4 b4;go_wp2_with fail;exact iQ results257 (hR:=⟨A4,n4,c4,rfl,HK.out.own 0 rfl,HK.out.b⟩)):p:=h
theorem Xk{p:Prop}(h:p:=by
 go_enter func116,ntmps116;go_wp2_with fail;refine(HN.out _).mono ?_;rintro e w1 ⟨rfl,b1⟩;obtain⟨c0,c1,c2,c3,hlt⟩:=afX;have HB:=zH (BF);clear b1;go_wp2_with fail;go_ret;exact⟨rfl,HB.out.alloc (by omega) _⟩):p:=h
theorem aeM{p:Prop}(h:p:=by
 refine ak 8 rfl ?_;refine aC 9 rfl fun K hK=>?_
 refine bN (y:=x.sr A4 n4 c4 m) aj 3 ?_;clear aj;intro wq aj;simp only[lS] at aj;have hs:=zH ((aj.out.aA 3).ay 0);refine bk hK hs fun ah=>?_
 clear hK K;refine aC 10 rfl fun K hK=>?_
 refine bM (q:=⟨z,av.vn⟩) aj 4 ?_;clear aj;intro wq aj;simp only[lS] at aj;have hs:=zH ((aj.out.aA 3).ay 0);refine bk hK hs fun ah=>?_
 clear hK K;refine ak 11 rfl ?_;refine ak 12 rfl ?_;refine bW ?_;go_wp2_with fail;exact nE results138 (aj.out.blk 3 rfl) (aj.out.blk 4 rfl) ⟨x.sr A4 n4 c4 m,_,_,_,_,by rw[hz]<;>rfl,rfl,aj.out.aA 0,fun _ _ _ _ _ K hm hb=>⟨(HI.out _ hb).sr (bJ.own (K.mem (hm _ (List.mem_cons_self ..))) HF.out),bJ.none _⟩⟩):p:=h
theorem aeL{p:Prop}(h:p:=by
 refine ak 8 rfl ?_;refine aC 9 rfl fun K hK=>?_
 refine bN (y:=x.sr x.rA x.rn x.rc x.v.refs) aj 3 ?_;clear aj;intro wq aj;simp only[lS] at aj;have hs:=zH ((aj.out.aA 3).ay 0);refine bk hK hs fun ah=>?_
 clear hK K;refine aC 10 rfl fun K hK=>?_
 refine bM (q:=⟨z,av.vn⟩) aj 4 ?_;clear aj;intro wq aj;simp only[lS] at aj;have hs:=zH ((aj.out.aA 3).ay 0);refine bk hK hs fun ah=>?_
 clear hK K;refine ak 11 rfl ?_;refine ak 12 rfl ?_;refine bW ?_;go_wp2_with fail;exact nE results138 (aj.out.blk 3 rfl) (aj.out.blk 4 rfl) ⟨x.sr x.rA x.rn x.rc x.v.refs,_,_,_,_,by rw[hz]<;>rfl,rfl,aj.out.aA 0,fun _ _ _ _ _ K hm hb=>⟨(HI.out _ hb).sr (HI.out _ hb).r,bJ.none _⟩⟩):p:=h
theorem aeK{p:Prop}(h:p:=by
 refine(HT.out _ HK.out.b).mono ?_;rintro e w1 ⟨A4,n4,c4,rfl,o4,b4⟩;replace HK:=zH (HK.out.called b4 o4);simp only[aJ] at HK;clear o4 b4;go_wp2_with (first|(refine gI HK 0 m ?_;clear HK;intro _ HK;simp only[lS] at HK)|(refine nk (z:=v) HK 4 ?_;clear HK;intro _ HK;simp only[lS] at HK)|(refine jU HK 4 ?_;clear HK;intro _ HK;simp only[lS] at HK)|refine zX (jv HK 0) ?_|refine zX (xC HK 4) ?_|refine zX (mP (p:=⟨z,v⟩)) ?_|(refine eT HK 3 ?_;clear HK;intro _ HK;simp only[lS] at HK));exact nH results192 (HK.out.blk 3 rfl) ⟨_,_,_,_,_,rfl,rfl,HK.out.aA 0,fun _ _ _ _ _ K hm=>⟨fun hb=>(HI.out.later hb).sp (Sl.own (K.mem (hm _ (List.mem_cons_self ..))) HF.out),bJ.none _⟩⟩):p:=h
theorem abv{p:Prop}(h:p:=by
 go_ret;exact⟨by rw[HR.out]<;>rfl,HK.out.b⟩):p:=h
theorem abu{p:Prop}(h:p:=by
 clear aj;intro wq aj;simp only[lS] at aj;have hs:=And.intro (zH ((aj.out.aA 2).ay 0)) (zH ((aj.out.aI 4).ay 0));refine bk hK hs fun ah=>?_
 clear hK K;refine bW ?_;go_wp2_with fail;exact sH results139 (aj.out.blk 2 rfl) (aj.out.blk 3 rfl) ⟨x,_,rfl,rfl,aj.out.aA 0,fun _ _ _ _ _ K hm hb=>HI.out _ hb⟩):p:=h
theorem aeJ{p:Prop}(h:p:=by
 go_wp2_with fail;refine zR HK.out.drew fun ah=>?_
 refine ak 0 rfl ?_;refine ak 1 rfl ?_;refine ak 2 rfl ?_ fun _ s=>dM (i:=k) hlt
 refine ak 3 rfl ?_ fun _ s=>bV (x:=x) (off:=o+k*3) (HX.out _ s.out.b)
 refine ak 4 rfl ?_ fun _ s=>aB s 0
 refine aC 5 rfl fun K hK=>?_
 go_simp;go_at_call 194;refine(pI.out _).mono ?_;rintro e w5 ⟨rfl,b5⟩;have hs:=zH (ah.out.call b5);clear b5;refine bk hK hs fun ah=>?_
 clear hK K;refine ak 6 rfl ?_;refine bW ?_;replace HK:=ah;clear ah;go_wp2_with refine zX (aL (j:=k) hk3) ?_;refine⟨⟨k+1,A1,c1,N,hlt,rfl,rfl,zH (by rw[HE.out,hN.out]),?_⟩,by simp[intOf];omega⟩;rw[HE.out];exact HK):p:=h
theorem abt{p:Prop}(h:p:=by
 go_enter func116,ntmps116;go_wp2_with fail;refine(HN.out _).mono ?_;rintro e w1 ⟨rfl,b1⟩;obtain⟨c0,c1,c2,c3,hlt⟩:=afX;have HB:=zH (BF);clear b1;go_wp2_with fail;go_quiet (exact Calls.quiet_of_same (HM.out _));go_wp2_with fail;go_ret;exact⟨rfl,(HB.out.alloc (by omega) _).trans (BG)⟩):p:=h
theorem Rj{p:Prop}(h:p:=by
 exact EB results205 (HK.out.blk 1 rfl) ⟨rfl,HK.out.b⟩):p:=h
theorem abr{p:Prop}(h:p:=by
 have c9:=HK.out.cell 0 rfl 9 (v:=.int .u64 (ml:Int)) rfl;have d9:=HK.out.cell 1 rfl 9 (v:=.int .u64 (ml':Int)) rfl;have c10:=HK.out.cell 0 rfl 10 (v:=.int .u64 (mm:Int)) rfl;have d10:=HK.out.cell 1 rfl 10 (v:=.int .u64 (mm':Int)) rfl;clear HP HV HR HE Cr xD;go_wp2_with fail;go_ret;exact⟨by rw[Ju.out]<;>rfl,HK.out.b⟩):p:=h
theorem Xj{p:Prop}(h:p:=by
 refine cb (mJ.out 1 _) HK ?_;clear HK;intro _ HK;go_wp2_with (refine bf (q:=⟨1,av.vn⟩) HK 2 ?_;clear HK;intro _ HK;simp only[lS] at HK);exact qL results77 (HK.out.blk 2 rfl)):p:=h
theorem abq{p:Prop}(h:p:=by
 go_wp2_with (first|refine zX (iB HK 0) ?_|(refine bA HK 2 ?_;clear HK;intro _ HK;simp only[lS] at HK));refine dQ results10 (HK.out.blk 2 rfl) ?_;unfold dB;exact⟨A2,k2,c2,l2,none,0,0,_,rfl,mE,HK.out.aA 0,zH fun b W0 W L R K hm hg=>⟨rO.out b W0 W L R K hm,bJ.none W⟩⟩):p:=h
theorem aeH{p:Prop}(h:p:=by
 obtain⟨ou,oq,oo,oh,rH,rG,rE,rD,rC,ru,iX,iW,iV⟩:=Kn.cmd HK.out 0 rfl;obtain⟨qE,qD,qZ,qY,qX,qW⟩:=Kn.flags HK.out 1 rfl;go_wp2_with fail;go_ret;exact HE.out 1 rfl _ _ ⟨rfl,HK.out.b⟩):p:=h
theorem Ej{p:Prop}(h:p:=by
 go_wp2_with fail;go_ret;exact⟨by rw[Ju.out]<;>rfl,HK.out.b⟩):p:=h
theorem abp{p:Prop}(h:p:=by
 unfold dB;exact⟨A2,k2,c2,lo2,A9,_,c9,_,rfl,mE,HK.out.aA 0,zH fun b W0 W L R K hm hg=>⟨(HI2.out b W0 W L R K (fun z hz=>hm z (List.mem_cons_of_mem _ hz)) (.inl hg)).1,bJ.own (K.mem (hm _ (List.mem_cons_self ..))) (eu (h:=(by show os.length+1≤1000;rw[gT.out];have:=tJ.out;omega)))⟩⟩):p:=h
theorem Ri{p:Prop}(h:p:=by
 exact EB results242 (HK.out.blk 1 rfl) ⟨rfl,HK.out.b⟩):p:=h
theorem Xi{p:Prop}(h:p:=by
 go_wp2_with fail;refine(H.out _).mono ?_;rintro e w' ⟨rfl,rfl⟩;go_wp2_with fail;refine(H2.out _).mono ?_;rintro e w' ⟨rfl,rfl⟩;go_wp2_with fail;go_ret;exact⟨by rw[hl.out];rfl,rfl⟩):p:=h
theorem Xh{p:Prop}(h:p:=by
 go_wp2_with fail;refine(H.out _).mono ?_;rintro e w' ⟨rfl,rfl⟩;go_wp2_with fail;refine(H1.out _).mono ?_;rintro e w' ⟨rfl,rfl⟩;go_wp2_with fail;go_ret;exact⟨by rw[hl.out];rfl,rfl⟩):p:=h
theorem abo{p:Prop}(h:p:=by
 rintro e w3 ⟨A4,n4,c4,rfl,o4,b4⟩;replace HK:=zH (HK.out.called b4 o4);clear o4 b4;go_wp2_with (refine aM (f2:=0) HK 2 ?_;clear HK;intro _ HK;simp only[lS] at HK);exact iR results238 (HK.out.blk 2 rfl) ⟨A4,n4,c4,rfl,HK.out.own 0 rfl,HK.out.b⟩):p:=h
theorem Xg{p:Prop}(h:p:=by
 go_enter func127,ntmps127;go_wp2_with fail;go_quiet (exact Calls.quiet_of_same (HM.out _));go_wp2_with fail;go_ret;exact HX.out _ _ _):p:=h
theorem aeG{p:Prop}(h:p:=by
 refine bW ?_;replace HK:=ah;clear ah;go_wp2_with (first|refine zX (aB HK 1) ?_|(refine dI aG (p:=x) HK ?_;intro _ g5 dY;simp only[aO,aJ] at dY;have HR:=zH (dY.out.own 1 rfl).rd;replace HK:=dY;clear dY)|(at_builtin;refine aX HK aG 0 [x] rfl HR HL2 (N:=N+1) fB ?_;clear HK;intro A4 c4 _ HK;simp only[lS] at HK)|refine zX (aL (j:=k) hk3) ?_);refine⟨⟨k+1,A4,c4,N+1,hlt,rfl,rfl,zH (by rw[HE.out,fB.out]),?_⟩,by simp[intOf];omega⟩;rw[HE.out];exact zH ((HK.out.aA 1).ay 1)):p:=h
theorem NT{p:Prop}(h:p:=by
 exact qL results77 (HK.out.blk 2 rfl)):p:=h
theorem aeF{p:Prop}(h:p:=by
 have hkc:q≤c:=by omega
 refine zR HK.out.drew fun ah=>?_
 refine ak 0 rfl ?_;refine ak 1 rfl ?_;refine ak 2 rfl ?_ fun _ s=>nT aP (hi:=q) hkc
 refine ak 3 rfl ?_;refine ak 4 rfl ?_;refine ak 5 rfl ?_;refine ak 6 rfl ?_ fun _ s=>yR aP (lo:=q) (hi:=q) hpq hkc
 refine ak 7 rfl ?_;refine ak 8 rfl ?_;refine ak 9 rfl ?_ fun _ s=>lD aP (lo:=q) hq
 refine ak 10 rfl ?_;refine ak 11 rfl ?_;refine ak 12 rfl ?_;refine bW ?_;go_wp2_with fail;exact iQ results191):p:=h
theorem aeE{p:Prop}(h:p:=by
 have hm:∀y∈gU x,y∈R:=fun y hy=>h2 y (List.mem_flatMap.2 ⟨x,hx,hy⟩)
 have m0:row bO (.slice x.pA x.pn x.pc) x.v.dP∈gU x:=List.mem_cons_self ..;have m1:row bg (.slice x.vA x.vn x.vc) x.v.vals∈gU x:=List.mem_cons_of_mem _ (List.mem_cons_self ..);have m2:row aG (.slice x.rA x.rn x.rc) x.v.refs∈gU x:=List.mem_cons_of_mem _ (List.mem_cons_of_mem _ (List.mem_cons_self ..));exact⟨Sl.own (h.mem (hm _ m0)) hfo.p,bJ.own (h.mem (hm _ m1)) hfo.v,bJ.own (h.mem (hm _ m2)) hfo.r,hfo.m,hfo.d⟩):p:=h
theorem Rh{p:Prop}(h:p:=by
 go_wp2_with (at_builtin;refine Lib.wpList_append_run _ rfl _ _ _ _ rfl _ _ rfl rfl _ _ HR.out ?_);go_ret;exact⟨_,_,rfl,HO.out,HB.out⟩):p:=h
theorem NS{p:Prop}(h:p:=by
 rw[← HX.out] at HK;exact xR results72 (HK.out.blk 1 rfl) ⟨rfl,HK.out.b⟩):p:=h
theorem Rb{p:Prop}(h:p:=by
 refine⟨⟨q+1,A4,c4,N+lp.length,by omega,zH (by rw[HE.out,fB.out]),rfl,by go_num,?_⟩,by simp[intOf];omega⟩;rw[HE.out];exact HK):p:=h
theorem aeD{p:Prop}(h:p:=by
 have hkc:q≤c:=by omega
 refine zR HK.out.drew fun ah=>?_
 refine ak 0 rfl ?_;refine ak 1 rfl ?_;refine ak 2 rfl ?_ fun _ s=>Dz (hi:=q) hkc
 refine ak 3 rfl ?_;refine ak 4 rfl ?_;refine ak 5 rfl ?_;refine ak 6 rfl ?_ fun _ s=>Bo (lo:=q) (hi:=q) hpq hkc
 refine ak 7 rfl ?_;refine ak 8 rfl ?_;refine ak 9 rfl ?_ fun _ s=>uo (lo:=q) hq
 refine ak 10 rfl ?_;refine ak 11 rfl ?_;refine ak 12 rfl ?_;refine bW ?_;go_wp2_with fail;exact iQ results261):p:=h
theorem NR{p:Prop}(h:p:=by
 rw[← HX.out] at HK;exact xR results120 (HK.out.blk 1 rfl) ⟨rfl,HK.out.b⟩):p:=h
theorem abn{p:Prop}(h:p:=by
 simp only[aJ] at HK;go_wp2_with (refine bA HK 2 ?_;clear HK;intro _ HK;simp only[lS] at HK);refine dQ results26 (HK.out.blk 2 rfl) ?_;unfold dB;exact⟨A2,k2,c2,lo2,O2,m2,d2,_,rfl,mE,HK.out.aA 0,HI2⟩):p:=h
theorem aeC{p:Prop}(h:p:=by
 replace nZ:=zH (nZ.out he);clear he HH;refine zR HK.out.drew fun ah=>?_
 refine ak 0 rfl ?_;refine ak 1 rfl ?_;refine ak 2 rfl ?_ fun _ s=>dM (i:=k) hlt
 refine ak 3 rfl ?_;refine ak 4 rfl ?_ fun _ s=>nU (x:=x) (off:=o+k*3) (HX.out _ s.out.b)
 refine ak 5 rfl ?_;refine ak 6 rfl ?_ fun _ s=>fH s 0
 refine ak 7 rfl ?_;refine bW ?_;go_wp2_with refine zX (aL (j:=k) hk3) ?_;exact⟨⟨k+1,hlt,rfl,nZ,ah⟩,by simp[intOf];omega⟩):p:=h
theorem aeB{p:Prop}(h:p:=by
 clear aj;intro wq aj;simp only[lS] at aj;have hs:=And.intro (zH ((aj.out.aA 2).ay 0)) (zH ((aj.out.aI 4).ay 0));refine bk hK hs fun ah=>?_
 clear hK K;refine bW ?_;go_wp2_with fail;exact sH results139 (aj.out.blk 2 rfl) (aj.out.blk 3 rfl) ⟨x.sv A4 n4 c4 m,_,rfl,rfl,aj.out.aA 0,fun _ _ _ _ _ K hm hb=>(HI.out _ hb).sv (bJ.own (K.mem (hm _ (List.mem_cons_self ..))) HF.out)⟩):p:=h
theorem Ra{p:Prop}(h:p:=by
 rw[jo.out] at HK hN;obtain rfl:=hN.out;go_wp2_with fail;go_ret;exact⟨A,_,c,rfl,HK.out.own 0 rfl,HK.out.b⟩):p:=h
theorem aeA{p:Prop}(h:p:=by
 clear aj;intro wq aj;simp only[lS] at aj;have hs:=And.intro (zH ((aj.out.aA 2).ay 0)) (zH ((aj.out.aI 4).ay 0));refine bk hK hs fun ah=>?_
 clear hK K;refine bW ?_;go_wp2_with fail;exact sH results139 (aj.out.blk 2 rfl) (aj.out.blk 3 rfl) ⟨x.sv x.vA x.vn x.vc x.v.vals,_,rfl,rfl,aj.out.aA 0,fun _ _ _ _ _ K hm hb=>(HI.out _ hb).sv (HI.out _ hb).v⟩):p:=h
theorem aez{p:Prop}(h:p:=by
 replace nZ:=zH (nZ.out he);clear he HY;go_wp2_with (first|refine zX (bV (x:=x) (off:=o+k*3) (HX.out _ HK.out.b)) ?_|(refine aQ HK ?_;clear HK;intro _ g2 HK;simp only[aO,aJ] at HK)|(refine aW HK 0 ?_;clear HK;intro _ HK;simp only[lS] at HK)|refine zX (fH HK 0) ?_|refine zX (aL (j:=k) hk3) ?_);exact⟨⟨k+1,hlt,rfl,nZ,zH (HK.out.aA 0)⟩,by simp[intOf];omega⟩):p:=h
theorem aey{p:Prop}(h:p:=by
 go_enter func204,ntmps204;go_wp2_with refine zX (bB HK 0) ?_;refine cb (HM.out _) HK ?_;clear HK;intro _ HK;go_wp2_with (first|refine zX (bB HK 0) ?_|(refine jZ HK 1 ?_;clear HK;intro _ HK;simp only[lS] at HK)|refine zX (bX HK 0) ?_);exact EC results204 (HK.out.blk 1 rfl) ⟨rfl,HK.out.b⟩):p:=h
theorem Jw{p:Prop}(h:p:=by
 have:¬name.toList=[]:=fun e=>h3 ⟨rfl,jR.2 e⟩
 simpa using this):p:=h
theorem abm{p:Prop}(h:p:=by
 have h1:=L.len (f 0);have h2:=L.pos;obtain⟨u,hu⟩:=Lay.fI (l:=L.f (f 0)) (k:=0) (by omega);have h3:=(hf 0 (by omega)).1 0 u hu;simp only[Nat.zero_mul,Addr.add,if_true] at h3;exact⟨u,h3⟩):p:=h
theorem aex{p:Prop}(h:p:=by
 go_wp2_with (refine bA HK 2 ?_;clear HK;intro _ HK;simp only[lS] at HK);refine dQ results10 (HK.out.blk 2 rfl) ?_;unfold dB;exact⟨A3,k3,c3,lo3,O3,m3,d3,_,rfl,Ee,HK.out.aA 0,zH fun b W0 W L R K hm hg=>HI3.out b W0 W L R K (fun z hz=>hm z (List.mem_append.2 (.inr hz))) (rO.out b W0 W L R K (fun z hz=>hm z (List.mem_append.2 (.inl hz))))⟩):p:=h
theorem aew{p:Prop}(h:p:=by
 go_enter func241,ntmps241;go_wp2_with refine zX (bB HK 0) ?_;refine cb (HM.out _) HK ?_;clear HK;intro _ HK;go_wp2_with (first|refine zX (bB HK 0) ?_|(refine jZ HK 1 ?_;clear HK;intro _ HK;simp only[lS] at HK)|refine zX (bX HK 0) ?_);exact EC results241 (HK.out.blk 1 rfl) ⟨rfl,HK.out.b⟩):p:=h
theorem Xf{p:Prop}(h:p:=by
 unfold execOp;simp only[ho,hx,Instr.loadAt,Instr.sureAddr,Sem.run_bind,Sem.run_pure,Result.andThen_ok,h,Array.toArray_toList]):p:=h
theorem aev{p:Prop}(h:p:=by
 go_wp2_with (refine dG bg xI HK ?_;clear HK;intro w2 g2 HK _;simp only[aO,aJ] at HK);refine(HJ.out.one HK 1 rfl (HS.out.later HK.out.b)).mono ?_;rintro e w3 ⟨A4,n4,c4,rfl,o4,b4⟩;replace HK:=zH (HK.out.called b4 o4);clear o4 b4;go_wp2_with fail;exact kL results239 ⟨A4,n4,c4,rfl,HK.out.own 0 rfl,HK.out.b⟩):p:=h
theorem aeu{p:Prop}(h:p:=by
 refine bodyPost_ret (v:=.tuple #[.agg #[.int .i64 k,.int .i64 n,.int .u64 (f:Int),.string s],u]) ?_ hd hR;have h:(loadVar 26 ⟨B,0,none⟩).run prog w=.ok (.agg (vC k n f s)) w:=run_loadVar_row (P:=prog) w B _ _ _ (0,0) _ hb underlying26 rfl iT;unfold vC at h;simp[results,hf,asAddr,Sem.run_bind,h2,h3,h]):p:=h
theorem aes{p:Prop}(h:p:=by
 have HK:=aj;clear aj ah;go_wp2_with fail;refine dQ results10 (HK.out.blk 2 rfl) ?_;unfold dB;exact⟨A2,k2,c2,l2,A5,1,c5,_,rfl,mE,HK.out.aA 0,zH fun b W0 W L R K hm hg=>⟨rO.out b W0 W L R K (fun z hz=>hm z (List.mem_cons_of_mem _ hz)),bJ.own (K.mem (hm _ (List.mem_cons_self ..))) (eu)⟩⟩):p:=h
theorem aer{p:Prop}(h:p:=by
 go_wp2_with (refine uX HK ?_;clear HK;intro w2 g2 HK _;simp only[aO,aJ] at HK);refine(ug HK 1 (HS.out.later HK.out.b)).mono ?_;rintro e w3 ⟨A4,n4,c4,rfl,o4,b4⟩;replace HK:=zH (HK.out.called b4 o4);clear o4 b4;go_wp2_with fail;exact kL results236 ⟨A4,n4,c4,rfl,HK.out.own 0 rfl,HK.out.b⟩):p:=h
theorem abl{p:Prop}(h:p:=by
 rw[hcells] at hc;obtain⟨_,hcl,hat⟩:=World.cells?_some hc;refine⟨it,fun j u hu=>?_,hg⟩;have hj:=(List.getElem?_eq_some_iff.1 hu).1;rw[L.len] at hj;rw[hat j hj,hu]):p:=h
theorem abk{p:Prop}(h:p:=by
 exact nH results192 (HK.out.blk 3 rfl) ⟨_,_,_,_,_,rfl,rfl,HK.out.aA 0,fun _ _ _ _ _ K hm=>⟨fun hb=>HI.out.later hb,bJ.none _⟩⟩):p:=h
theorem Xe{p:Prop}(h:p:=by
 exact SN results74 (HK.out.blk 2 rfl) (HK.out.blk 3 rfl) ⟨rfl,HK.out.b⟩):p:=h
theorem Xd{p:Prop}(h:p:=by
 go_wp2_with fail;refine HR.out.mono ?_;rintro e w1 ⟨rfl,b1⟩;go_wp2_with fail;go_ret;exact⟨rfl,b1⟩):p:=h
theorem aep{p:Prop}(h:p:=by
 refine⟨h.len,fun i hi x hx=>⟨h.ok x (List.mem_of_getElem? hx),fun j y hj hy=>?_⟩⟩;subst hj;obtain⟨h1,e1⟩:=List.getElem?_eq_some_iff.1 hx;obtain⟨h2,e2⟩:=List.getElem?_eq_some_iff.1 hy;have:=(List.pairwise_iff_getElem.1 h.up) j (j+1) h2 h1 (by omega);rw[e1,e2] at this;exact this):p:=h
theorem aeo{p:Prop}(h:p:=by
 have HK:=aj;clear aj ah;go_wp2_with fail;refine dQ results11 (HK.out.blk 2 rfl) ?_;unfold dB;exact⟨A,k,cp,lo,_,1,_,_,rfl,zH rfl,HK.out.aA 0,zH fun b W0 W L R K hm hg=>⟨iA.out W hg,bJ.own (K.mem (hm _ (List.mem_cons_self ..))) (eu)⟩⟩):p:=h
theorem oV{p:Prop}(h:p:=by
 unfold av.act;simp[hk]):p:=h
theorem Xc{p:Prop}(h:p:=by
 exact SN results122 (HK.out.blk 2 rfl) (HK.out.blk 3 rfl) ⟨rfl,HK.out.b⟩):p:=h
theorem Ei{p:Prop}(h:p:=by
 unfold execOp;simp only[ho,hx,hy];go_simp):p:=h
theorem QZ{p:Prop}(h:p:=by
 go_wp2_with fail;go_ret;exact⟨A1,_,c1,rfl,HK.out.own 0 rfl,HK.out.b⟩):p:=h
theorem aen{p:Prop}(h:p:=by
 go_enter func182,ntmps182;go_wp2_with fail;refine(HW.out _ _ _ _).mono ?_;rintro e w1 ⟨rfl,rfl⟩;go_wp2_with fail;go_ret;refine⟨congrArg (fun b=>Ending.returned (.bool b)) (HE.out _ ?_),rfl⟩;unfold aF.sized;simp):p:=h
theorem aem{p:Prop}(h:p:=by
 exact qL results124 (HK.out.blk 2 rfl) (hR:=⟨A4,n4,c4,l4,_,_,_,_,rfl,BS.out,HK.out.aA 0,fun _ _ _ _ _ K hm=>⟨K.obs (hm _ (List.mem_cons_self ..)) (fun y hy=>hm _ (List.mem_cons_of_mem _ hy)) yV.out HBg.out,bJ.none _⟩⟩)):p:=h
theorem Xb{p:Prop}(h:p:=by
 exact⟨⟨q+1,by omega,by go_num,by simp,zH (HS.out (by simp))⟩,by simp[intOf];omega⟩):p:=h
theorem abj{p:Prop}(h:p:=by
 refine yE.out.2 ⟨rfl,fun j' y' h h'=>?_⟩;obtain rfl:j=j':=by omega
 rw[Zb.out] at h';injection h' with h';subst h';exact hlt2):p:=h
theorem QY{p:Prop}(h:p:=by
 exact kL results199 (TA HK.out.b)):p:=h
theorem QX{p:Prop}(h:p:=by
 go_wp2_with fail;go_ret;exact⟨_,_,rfl,Lay.Own.none _ _,HK.out.b⟩):p:=h
theorem abh{p:Prop}(h:p:=by
 go_enter func230,ntmps230;go_wp2_with fail;go_ret;exact⟨rfl,Below.refl _ _⟩):p:=h
theorem ael{p:Prop}(h:p:=by
 exact EC results204 (HK.out.blk 1 rfl) ⟨rfl,HK.out.b⟩):p:=h
theorem aek{p:Prop}(h:p:=by
 clear hb;go_enter func193,ntmps193;go_wp2_with (go_at_call 245;refine(HH.out _).mono ?_;rintro e w' ⟨rfl,rfl⟩);go_ret;exact⟨by rw[hm.out];rfl,rfl⟩):p:=h
theorem abg{p:Prop}(h:p:=by
 go_wp2_with fail;go_ret;exact⟨rfl,Below.refl _ _⟩):p:=h
theorem aej{p:Prop}(h:p:=by
 exact nH results234 (HK.out.blk 2 rfl) ⟨_,_,_,_,_,rfl,rfl,HK.out.aA 0,fun _ _ _ _ _ K hm=>⟨fun hb=>(HI.out.later hb).sr (bJ.own (K.mem (hm _ (List.mem_cons_self ..))) iD.out.1),bJ.none _⟩⟩):p:=h
theorem abf{p:Prop}(h:p:=by
 unfold execOp;simp only[ho,Sem.run_bind,Sem.run_pure,Result.andThen_ok,List.map_toArray,List.map_cons,List.map_nil,h]):p:=h
theorem aei{p:Prop}(h:p:=by
 exact nH results192 (HK.out.blk 3 rfl) ⟨_,_,_,_,_,rfl,rfl,HK.out.aA 0,fun _ _ _ _ _ K hm=>⟨fun hb=>(HI.out.later hb).sv (bJ.own (K.mem (hm _ (List.mem_cons_self ..))) HF.out),bJ.none _⟩⟩):p:=h
theorem aeh{p:Prop}(h:p:=by
 exact EC results241 (HK.out.blk 1 rfl) ⟨rfl,HK.out.b⟩):p:=h
theorem aeg{p:Prop}(h:p:=by
 refine bW ?_;replace HK:=ah;clear ah;go_wp2_with refine zX (aL (j:=k) hk3) ?_;refine⟨⟨k+1,A1,c1,N,hlt,rfl,rfl,zH (by rw[HE.out,hN.out]),?_⟩,by simp[intOf];omega⟩;rw[HE.out];exact zH (HK.out.aA 1)):p:=h
theorem Xa{p:Prop}(h:p:=by
 unfold execOp;simp only[ho,hx,hy,Sem.run_bind,Sem.run_pure,Result.andThen_ok,h]):p:=h
theorem aal{p:Prop}(h:p:=by
 go_enter func125,ntmps125;go_wp2_with fail;exact Kt results125 (gD.new w _ _) ⟨rfl,(Below.refl _ w).alloc (Nat.le_refl _) _⟩):p:=h
theorem RF{p:Prop}(h:p:=by
 obtain⟨hlt,rfl⟩:=hget i x hx;have h1:=(hf i (by omega)).1 j u hu;rw[ha,Lay.vO,Lay.vO] at h1;exact h1):p:=h
theorem RD{p:Prop}(h:p:=by
 rw[← HX.out] at HK;exact xR results75 (HK.out.blk 2 rfl) ⟨rfl,HK.out.b⟩):p:=h
theorem aak{p:Prop}(h:p:=by
 exact nH results232 (HK.out.blk 2 rfl) ⟨_,_,_,_,_,rfl,rfl,HK.out.aA 0,fun _ _ _ _ _ K hm=>⟨fun hb=>(HI.out.later hb).sr (bJ.own (K.mem (hm _ (by simp))) iD.out),bJ.none _⟩⟩):p:=h
theorem aaj{p:Prop}(h:p:=by
 clear o4 b4;go_wp2_with (refine aM (f2:=0) HK 2 ?_;clear HK;intro _ HK;simp only[lS] at HK);exact iR results201 (HK.out.blk 2 rfl) (Gy (HK.out.own 0 rfl) HK.out.b)):p:=h
theorem RB{p:Prop}(h:p:=by
 rw[← HX.out] at HK;exact xR results76 (HK.out.blk 3 rfl) ⟨rfl,HK.out.b⟩):p:=h
theorem aai{p:Prop}(h:p:=by
 go_wp2_with fail;exact nE results136 (aj.out.blk 2 rfl) (aj.out.blk 3 rfl) ⟨x,_,_,_,_,rfl,rfl,aj.out.aA 0,fun _ _ _ _ _ K hm hb=>⟨HI.out _ hb,bJ.none _⟩⟩):p:=h
theorem RA{p:Prop}(h:p:=by
 rw[← HX.out] at HK;exact xR results65 (HK.out.blk 2 rfl) ⟨rfl,HK.out.b⟩):p:=h
theorem Rz{p:Prop}(h:p:=by
 have he:a.eval (.const (.int .i64 k))=.int .i64 k:=rfl;subst hb;unfold execOp;simp only[ho,hp,he];go_simp):p:=h
theorem aah{p:Prop}(h:p:=by
 go_enter func140,ntmps140;go_wp2_with fail;exact Mc results140 (gD.new w _ _) ⟨rfl,(Below.refl _ w).alloc (Nat.le_refl _) _⟩):p:=h
theorem Ry{p:Prop}(h:p:=by
 unfold execOp;simp only[ho,hx,Instr.loadAt,Instr.sureAddr,Sem.run_bind,Sem.run_pure,Result.andThen_ok,h]):p:=h
theorem Rx{p:Prop}(h:p:=by
 rw[← HX.out] at HK;exact xR results123 (HK.out.blk 3 rfl) ⟨rfl,HK.out.b⟩):p:=h
theorem LM{p:Prop}(h:p:=by
 exact kL results202 (Ti HK.out.b)):p:=h
theorem aag{p:Prop}(h:p:=by
 go_enter func178,ntmps178;go_wp2_with fail;exact Mc results178 (gD.new w _ _) ⟨rfl,(Below.refl _ w).alloc (Nat.le_refl _) _⟩):p:=h
theorem FW{p:Prop}(h:p:=by
 rw[Bool.eq_iff_iff,hq,decide_eq_true_eq];exact Iff.rfl):p:=h
theorem aaf{p:Prop}(h:p:=by
 have hi:=(List.getElem?_eq_some_iff.1 hx).1;obtain⟨b',o',e,hat⟩:=h.at (by rw[← h.len];omega);injection e with e;injection e with e1 e2;subst e1 e2;exact hat w (Below.refl _ w) i x hx):p:=h
theorem Rw{p:Prop}(h:p:=by
 have he:a.eval (.const (.int .i64 1))=.int .i64 1:=rfl;unfold execOp;simp only[ho,hp,he];go_simp):p:=h
theorem aae{p:Prop}(h:p:=by
 unfold execOp;simp only[ho,Sem.run_bind,Sem.run_pure,Result.andThen_ok,List.map_toArray,List.map_cons,List.map_nil,hx,show a.eval (.const (.bool true))=.bool true from rfl,h]):p:=h
theorem aad{p:Prop}(h:p:=by
 go_wp2_with (refine aM (f2:=0) HK 0 ?_;clear HK;intro _ HK;simp only[lS] at HK);exact EA results198 (HK.out.blk 0 rfl) ⟨rfl,HK.out.b⟩):p:=h
theorem Rv{p:Prop}(h:p:=by
 exact iR results201 (HK.out.blk 2 rfl) (xU HK.out.b)):p:=h
theorem Ru{p:Prop}(h:p:=by
 rw[Lay.take_succ h,List.flatMap_append,List.flatMap_cons,List.flatMap_nil,List.append_nil]):p:=h
theorem Rt{p:Prop}(h:p:=by
 go_wp2_with fail;exact⟨⟨1,hjm,rfl,iA,zH (HK.out.aA 2)⟩,by simp[intOf];omega⟩):p:=h
theorem aac{p:Prop}(h:p:=by
 go_wp2_with (refine aM (f2:=0) HK 0 ?_;clear HK;intro _ HK;simp only[lS] at HK);exact EA results235 (HK.out.blk 0 rfl) ⟨rfl,HK.out.b⟩):p:=h
theorem ZY{p:Prop}(h:p:=by
 clear HK;intro _ HK;go_wp2_with fail;exact iQ results195 (hR:=⟨A,n,c,none,0,0,rfl,.stay (.inr ⟨rfl,rfl,rfl,rfl⟩),HK.out.b⟩)):p:=h
theorem ZX{p:Prop}(h:p:=by
 refine⟨(if_pos ⟨of_decide_eq_true h1,of_decide_eq_true h2⟩).trans (by rw[e]),(if_pos ⟨of_decide_eq_true h1,of_decide_eq_true h2⟩).trans (by rw[e])⟩):p:=h
theorem ZW{p:Prop}(h:p:=by
 rw[hd];clear hd;go_enter func78,ntmps78;go_wp2_with fail;go_ret;exact⟨by simp[h1];omega,Below.refl _ _⟩):p:=h
theorem Rq{p:Prop}(h:p:=by
 exact⟨⟨k+1,hlt,by rw[HS.out];simp[aH.Cj],rfl,HK⟩,by simp[intOf];omega⟩):p:=h
theorem FV{p:Prop}(h:p:=by
 have h:n*24≤140737488355328:=hs.big;omega):p:=h
theorem ZV{p:Prop}(h:p:=by
 clear h;have n1:¬x<y:=by have:=hh.out;omega
 have n2:¬y<x:=by have:=hh.out;omega
 go_wp2_with fail;go_ret;exact⟨by rw[C3.out hh.out];rfl,rfl⟩):p:=h
theorem ZU{p:Prop}(h:p:=by
 clear HK;intro _ HK;go_wp2_with fail;exact iQ results196 (hR:=⟨A,n,c,rfl,.inr ⟨rfl,rfl,rfl,rfl⟩,HK.out.b⟩)):p:=h
theorem LK{p:Prop}(h:p:=by
 go_wp2_with fail;go_ret;exact⟨rfl,Below.refl _ w⟩):p:=h
theorem ni{p:Prop}(h:p:=by
 exact⟨rfl,rfl⟩):p:=h
theorem ZT{p:Prop}(h:p:=by
 refine⟨⟨k+1,A4,c4,N+lp.length,by omega,rfl,by go_num,zH (by rw[HE.out,fB.out]),?_⟩,by simp[intOf];omega⟩;rw[HE.out];exact HK):p:=h
theorem ZR{p:Prop}(h:p:=by
 go_wp2_with fail;refine cb (HM.out _ HK.out.b) HK ?_;clear HK;intro _ HK;go_wp2_with fail;go_ret;exact⟨by cases b<;>rfl,HK.out.b⟩):p:=h
theorem ZQ{p:Prop}(h:p:=by
 unfold execOp;simp only[ho,Sem.run_bind,Sem.run_pure,Result.andThen_ok,List.map_toArray,List.map_cons,List.map_nil,hq,hr,hs,h]):p:=h
theorem ZP{p:Prop}(h:p:=by
 have h4:=h _ w.heap.size (zH (HK.out.alloc _ _));unfold Oper.wp execOp;simp only[ho];unfold fl at h4;go_simp;exact hK _ _ h4):p:=h
theorem LJ{p:Prop}(h:p:=by
 exact decide_eq_true (hm (of_decide_eq_true c))):p:=h
theorem Cu{p:Prop}(h:p:=by
 rw[uw (by rw[e];decide),e]):p:=h
theorem ZO{p:Prop}(h:p:=by
 obtain⟨x,hx⟩:=Lay.fI (l:=l) (k:=k) (by rw[hs.len];exact hk);exact⟨x,hx,hs.fs x (List.mem_of_getElem? hx)⟩):p:=h
theorem ZN{p:Prop}(h:p:=by
 rw[Array.getElem?_toList] at hj;exact HK.out.cell i hL (off+j) ((hv j (Array.getElem?_eq_some_iff.1 hj).1).trans hj)):p:=h
theorem ZM{p:Prop}(h:p:=by
 refine(HM.out r hr _).mono ?_;rintro e w' ⟨rfl,rfl⟩;go_wp2_with fail;go_ret;exact⟨by rw[hE.out];rfl,n,rfl⟩):p:=h
theorem ZL{p:Prop}(h:p:=by
 exact⟨some a,m,[],hcs,Lay.Reads.nil _ _ _,(fun h=>by cases h),(fun x hx=>by cases hx),by simp,Nat.zero_le _⟩):p:=h
theorem Ro{p:Prop}(h:p:=by
 exact Nat.le_trans (Nat.mul_le_mul_right _ (by omega)) hW1):p:=h
theorem ZK{p:Prop}(h:p:=by
 exact qK results185 (HK.out.blk 1 rfl) ⟨A4,_,c4,rfl,HK.out.own 0 rfl,HK.out.b⟩):p:=h
theorem ZJ{p:Prop}(h:p:=by
 have he:a.eval (.const (.int .i64 0))=.int .i64 0:=rfl;subst hb;unfold execOp;simp only[ho,hq,he];go_simp):p:=h
theorem ZI{p:Prop}(h:p:=by
 unfold jc;rw[if_neg (h x (List.mem_cons_self ..))];exact ih fun y hy=>h y (List.mem_cons_of_mem _ hy)):p:=h
theorem LH{p:Prop}(h:p:=by
 rw[List.append_assoc] at this;exact this):p:=h
theorem ZH{p:Prop}(h:p:=by
 refine List.Perm.trans (List.Perm.cons r a) ?_;exact(List.perm_append_comm (l₁:=[r]) (l₂:=W s.l))):p:=h
theorem ZG{p:Prop}(h:p:=by
 rw[dJ (vs:=(fl y0 y1 y2 y3 y4 y5).toList) (cs:=fl x0 x1 x2 x3 x4 x5),Array.toArray_toList]):p:=h
theorem ZF{p:Prop}(h:p:=by
 obtain⟨y,hy,_⟩:=HS.out.get (k:=j) (by omega);exact⟨y,dL hy,fun W hW=>hat W hW j y hy⟩):p:=h
theorem ZE{p:Prop}(h:p:=by
 exact⟨⟨k+1,hlt,by rw[HS.out];simp[aH.Cj],rfl,zH (HK.out.aA 1)⟩,by simp[intOf];omega⟩):p:=h
theorem ZC{p:Prop}(h:p:=by
 have he:a.eval (.const (.int .i64 1))=.int .i64 1:=rfl;unfold execOp;simp only[ho,hx,he];go_simp):p:=h
theorem ZB{p:Prop}(h:p:=by
 rw[ByteArray.toList_eq,ByteArray.toList_eq] at h;apply ByteArray.ext;exact Array.toList_inj.1 h):p:=h
theorem ZA{p:Prop}(h:p:=by
 have h:=uE.out;rw[List.drop_eq_nil_of_le (by rw[HS.out.len];exact Nat.le_refl _)] at h;exact h):p:=h
theorem Zz{p:Prop}(h:p:=by
 exact abJ results228 rfl rfl rfl (HK.out.blk 0 rfl) ⟨rfl,HK.out.b⟩):p:=h
theorem Zy{p:Prop}(h:p:=by
 unfold Num.kJ at *
 refine⟨Ma ?_,rfl⟩;rw[ho.out (by omega),hr.out,if_pos (by omega)]):p:=h
theorem Zx{p:Prop}(h:p:=by
 rw[List.take_of_length_le (by rw[List.length_drop,h.len];exact Nat.le_refl _)] at h3;exact h3):p:=h
theorem Rm{p:Prop}(h:p:=by
 exact List.Perm.append_left _ List.perm_append_comm):p:=h
theorem Zw{p:Prop}(h:p:=by
 unfold Oper.wp execOp;simp only[ho,Sem.run_bind,Sem.run_pure,hr,Result.andThen_ok];exact h4):p:=h
theorem Zv{p:Prop}(h:p:=by
 unfold Oper.wp execOp;simp only[ho,Sem.run_bind,Sem.run_pure,Result.andThen_ok,hr];exact h4):p:=h
theorem Zu{p:Prop}(h:p:=by
 unfold Num.kJ at *
 refine⟨Ma ?_,rfl⟩;rw[max_u64,hx.out,hr.out,if_neg (by omega)]):p:=h
theorem Rl{p:Prop}(h:p:=by
 exact⟨List.Perm.refl _,fun x hx=>by cases hx⟩):p:=h
theorem Zt{p:Prop}(h:p:=by
 exact kL results199 (XG (HK.out.own 1 rfl) HK.out.b)):p:=h
theorem Zr{p:Prop}(h:p:=by
 clear o4 b4;go_wp2_with fail;go_ret;exact⟨A4,n4,c4,rfl,HK.out.own 0 rfl,HK.out.b⟩):p:=h
theorem Zq{p:Prop}(h:p:=by
 subst hb;unfold execOp;simp only[ho,hx,hy];go_simp;exact Bool.eq_iff_iff.2 (by simp)):p:=h
theorem Zp{p:Prop}(h:p:=by
 rw[dJ (vs:=(vC k2 n2 f2 s2).toList) (cs:=vC k n f s),Array.toArray_toList]):p:=h
theorem vS{p:Prop}(h:p:=by
 rw[e] at h;exact h):p:=h
theorem Zo{p:Prop}(h:p:=by
 obtain⟨y,hy,_⟩:=HG.out j (by omega);exact⟨y,hy,fun W hW=>hat W hW j y hy⟩):p:=h
theorem Zn{p:Prop}(h:p:=by
 rw[HEq.out] at hy;obtain⟨x,hx,rfl⟩:=List.mem_map.1 hy;exact(HI.out x hx).fo):p:=h
theorem Zm{p:Prop}(h:p:=by
 rw[rX hne,yw hne,e1,e2];exact⟨rfl,rfl,by simp,Nat.le_succ 0⟩):p:=h
end Go.Proofs.YtieoeendnccafaaGreat
