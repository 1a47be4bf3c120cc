/- Steps of a region that draws its order, in short: an operation is taken first, what is passed over, what may come up next. No condition but those named. -/
import Derived.Lib.Bytealg
import Derived.Lib.Hide
import Derived.Test.YtahdlddbbnjloaaGreatRows
import Derived.WalkSpells
import Derived.WalkLawsBesides
import Derived.Handy
import Derived.BigQuiet
import Derived.Deep.AppendSrc
import Derived.Deep.AppendLies
import Derived.Deep.Onto
import Derived.Deep.CondSized
import Derived.Lib.SmallJoins
import Derived.Deep.CutBlock
import Derived.Deep.DeepCutAuto
import Derived.Deep.RegionHeld3
import Derived.Great.BuildSlice
import Derived.Lib.AppendZeros
import Derived.Lib.Slices
import Derived.Lib.Small
import Derived.Lib.Walk
import Derived.Lib.ItoaNum
import Derived.Lib.BufferWrite
import Derived.Deep.OwnRows
import Derived.Deep.RegionLaw
set_option linter.unusedSimpArgs false
set_option linter.unusedVariables false
set_option maxRecDepth 100000
set_option maxHeartbeats 25600000
open Go.RowKit
namespace Go.Proofs.YtahdlddbbnjloaaGreat
section
theorem zH{p:Prop}(h:p):RowKit.Hid p:=Lib.hid h
theorem aK{α:Type}(l:List α):[]++l=l:=rfl
theorem aS{α:Type}(a:α)(l m:List α):a::l++m=a::(l++m):=rfl
section
variable {P:Program}{ops:Array Oper}{Q:Exit→Act→World→Prop}{md:Region.Mode}{S:World→Prop}{fuel:Nat}{listed:Array Bool}{a a':Act}{w:World}
theorem qY(a:Act)(d:Tmp)(v:Value):a.put (some d) v = { a with tmps:=a.tmps.setIfInBounds d v }:=rfl
theorem qX(a:Act)(v:Value):a.put none v=a:=rfl
theorem qW(l:List Value)(i:Nat)(v:Value):l.toArray.setIfInBounds i v=(l.set i v).toArray:=by simp
theorem qV(x:Value)(l:List Value)(v:Value):(x::l).set 0 v=v::l:=rfl
theorem qU(x:Value)(l:List Value)(n:Nat)(v:Value):(x::l).set (n+1) v=x::l.set n v:=rfl
section
variable {op:Op}{ty:TypeId}{ps:String}{af:Array Edge}{gd:Option (Nat×Bool)}{v:Value}
theorem lS{α:Type}:(∀(x:α) l v,(x::l).set 0 v=v::l)∧∀(x:α) l n v,(x::l).set (n+1) v=x::l.set n v:=⟨fun _ _ _=>rfl,fun _ _ _ _=>rfl⟩
theorem bk{K':Act→World→Prop}{l:Array Bool}(hK:Shut (∀a w,S w→(S w→wpAnyH P md ops Q S fuel l a w)→K' a w))(hs:S w)(h:S w→wpAnyH P md ops Q S fuel l a' w)(ha:a=a':=by((try simp only[qY,qX,qW,qV,qU]);exact rfl)):K' a w:=by
 subst ha;exact hK.out _ _ hs h
theorem cB(h:Q .normal a w)(hr:Region.ready md ops listed=[]:=by kernel_rfl):wpAnyH P md ops Q S fuel listed a w:=wpAnyH_done hr h _
theorem ak(i:Nat){d:Nat}(hi:ops[i]?=some ⟨some d,op,ty,ps,af,gd⟩)
  (h:wpAnyH P md ops Q S fuel (listed.setIfInBounds i true) a' w)
  (hv:∀w,S w→(execOp a.eval ⟨some d,op,ty,ps,af,gd⟩).run P w=.ok (.value v) w:=by(intro w Ym;(try dsimp only at Ym);go_simp;try with_reducible rfl))
  (ha:a.put (some d) v=a':=by((try simp only[Act.put,List.setIfInBounds_toArray,List.set_cons_zero,List.set_cons_succ]);exact rfl))
  (hs:Region.noSelect ops=true:=by kernel_rfl) (hf:Region.free md ops listed i=true:=by kernel_rfl) (hr:(Region.ready md ops listed).contains i=true:=by kernel_rfl)
  (hw:Region.wanted ⟨some d,op,ty,ps,af,gd⟩ (yielded ops a.tmps)=true:=by rfl) (hS:S w:=by assumption)
  (hQ:∀c a w,Q (.panic c) (a.put (some d) v) w→Q (.panic c) a w:=by exact fun _ _ _ h=>h):wpAnyH P md ops Q S (fuel+1) listed a w:=
 wpAnyH_take hi hs hf hr hQ (Or.inl ⟨hw,hv⟩) hS (ha.symm▸h)
theorem bq(i:Nat){d:Nat}(hi:ops[i]?=some ⟨some d,op,ty,ps,af,gd⟩)
  (h:wpAnyH P md ops Q S fuel (listed.setIfInBounds i true) a' w)
  (ha:a.put (some d) undef=a':=by((try simp only[Act.put,List.setIfInBounds_toArray,List.set_cons_zero,List.set_cons_succ]);exact rfl))
  (hs:Region.noSelect ops=true:=by kernel_rfl) (hf:Region.free md ops listed i=true:=by kernel_rfl) (hr:(Region.ready md ops listed).contains i=true:=by kernel_rfl)
  (hw:Region.wanted ⟨some d,op,ty,ps,af,gd⟩ (yielded ops a.tmps)=false:=by rfl) (hS:S w:=by assumption)
  (hQ:∀c a w,Q (.panic c) (a.put (some d) undef) w→Q (.panic c) a w:=by exact fun _ _ _ h=>h):wpAnyH P md ops Q S (fuel+1) listed a w:=
 wpAnyH_take hi hs hf hr hQ (Or.inr ⟨hw,rfl⟩) hS (ha.symm▸h)
end
variable {op:Op}{ty:TypeId}{ps:String}{af:Array Edge}{gd:Option (Nat×Bool)}{op2:Op}{ty2:TypeId}{ps2:String}{af2:Array Edge}{gd2:Option (Nat×Bool)}{op3:Op}{ty3:TypeId}{ps3:String}{af3:Array Edge}{gd3:Option (Nat×Bool)}
theorem aC(i:Nat){d:Option Nat}(hi:ops[i]?=some ⟨d,op,ty,ps,af,gd⟩)
  (h:∀K':Act→World→Prop,Shut (∀a w,S w→(S w→wpAnyH P md ops Q S fuel (listed.setIfInBounds i true) a w)→K' a w)→if Region.wanted ⟨d,op,ty,ps,af,gd⟩ (yielded ops a.tmps)=true then Oper.wp P ⟨d,op,ty,ps,af,gd⟩ a w K' Q else K' (a.put d undef) w)
  (hr:Region.ready md ops listed=[i]:=by kernel_rfl):wpAnyH P md ops Q S (fuel+1) listed a w:=
 wpAnyH_ready hr (by simp) (AllReadyH.cons hi h AllReadyH.nil)
theorem iW(i:Nat){d:Option Nat}(j:Nat){e:Option Nat}(hi:ops[i]?=some ⟨d,op,ty,ps,af,gd⟩)(hj:ops[j]?=some ⟨e,op2,ty2,ps2,af2,gd2⟩)
  (h:∀K':Act→World→Prop,Shut (∀a w,S w→(S w→wpAnyH P md ops Q S fuel (listed.setIfInBounds i true) a w)→K' a w)→if Region.wanted ⟨d,op,ty,ps,af,gd⟩ (yielded ops a.tmps)=true then Oper.wp P ⟨d,op,ty,ps,af,gd⟩ a w K' Q else K' (a.put d undef) w)
  (h2:∀K':Act→World→Prop,Shut (∀a w,S w→(S w→wpAnyH P md ops Q S fuel (listed.setIfInBounds j true) a w)→K' a w)→if Region.wanted ⟨e,op2,ty2,ps2,af2,gd2⟩ (yielded ops a.tmps)=true then Oper.wp P ⟨e,op2,ty2,ps2,af2,gd2⟩ a w K' Q else K' (a.put e undef) w)
  (hr:Region.ready md ops listed=[i,j]:=by kernel_rfl):wpAnyH P md ops Q S (fuel+1) listed a w:=
 wpAnyH_ready hr (by simp) (AllReadyH.cons hi h (AllReadyH.cons hj h2 AllReadyH.nil))
theorem Ze(i:Nat){d:Option Nat}(j:Nat){e:Option Nat}(k:Nat){f:Option Nat}(hi:ops[i]?=some ⟨d,op,ty,ps,af,gd⟩)(hj:ops[j]?=some ⟨e,op2,ty2,ps2,af2,gd2⟩)(hk:ops[k]?=some ⟨f,op3,ty3,ps3,af3,gd3⟩)
  (h:∀K':Act→World→Prop,Shut (∀a w,S w→(S w→wpAnyH P md ops Q S fuel (listed.setIfInBounds i true) a w)→K' a w)→if Region.wanted ⟨d,op,ty,ps,af,gd⟩ (yielded ops a.tmps)=true then Oper.wp P ⟨d,op,ty,ps,af,gd⟩ a w K' Q else K' (a.put d undef) w)
  (h2:∀K':Act→World→Prop,Shut (∀a w,S w→(S w→wpAnyH P md ops Q S fuel (listed.setIfInBounds j true) a w)→K' a w)→if Region.wanted ⟨e,op2,ty2,ps2,af2,gd2⟩ (yielded ops a.tmps)=true then Oper.wp P ⟨e,op2,ty2,ps2,af2,gd2⟩ a w K' Q else K' (a.put e undef) w)
  (h3:∀K':Act→World→Prop,Shut (∀a w,S w→(S w→wpAnyH P md ops Q S fuel (listed.setIfInBounds k true) a w)→K' a w)→if Region.wanted ⟨f,op3,ty3,ps3,af3,gd3⟩ (yielded ops a.tmps)=true then Oper.wp P ⟨f,op3,ty3,ps3,af3,gd3⟩ a w K' Q else K' (a.put f undef) w)
  (hr:Region.ready md ops listed=[i,j,k]:=by kernel_rfl):wpAnyH P md ops Q S (fuel+1) listed a w:=
 wpAnyH_ready hr (by simp) (AllReadyH.cons hi h (AllReadyH.cons hj h2 (AllReadyH.cons hk h3 AllReadyH.nil)))
end
end
theorem pq{p:Prop}(h:p:=by
 clear HN;go_enter func121,ntmps121;go_upto_region 1 with fail;simp only[List.append_eq,aS,aK];go_wp2_with fail;go_ret;exact⟨rfl,HK.out.b⟩):p:=h
theorem Sc{p:Prop}(h:p:=by
 go_wp2_with (first|refine zX (aJ (m:=rr) (n:=0) H1.out) ?_|refine zX (bN (m:=re) (n:=ep) H2.out) ?_|refine zX (bJ (m:=re) (n:=ep) H3.out) ?_|refine zX (bM (m:=rr) (n:=rq) H4.out) ?_|refine zX (aJ (m:=rr) (n:=rq) H5.out) ?_|refine zX (aJ (m:=rv) (n:=rq) H6.out) ?_|refine zX (WS (m:=rr) (n:=rv) HW.out) ?_);go_ret;exact⟨by rw[HX.out]<;>rfl,HK.out.b⟩):p:=h
theorem jq{p:Prop}(h:p:=by
 go_wp2_with fail;go_ret;exact⟨rfl,HK.out.b⟩):p:=h
theorem nu{p:Prop}(h:p:=by
 go_ret;exact⟨rfl,HK.out.b⟩):p:=h
theorem Yf{p:Prop}(h:p:=by
 clear HN;go_enter func121,ntmps121;go_upto_region 1 with fail;simp only[List.append_eq,aS,aK];go_wp2_with fail;go_ret;exact⟨by first|rfl|simp[n1,n2,n3,n4,n5],HK.out.b⟩):p:=h
theorem zq5{p:Prop}(h:p:=by
 go_enter func42,ntmps42;go_wp2_with refine av (lD HK 0) ?_;refine cb (HN.out _) HK ?_;clear HK;intro _ HK;go_upto_region 2 with (first|(refine jc HK ?_;clear HK;intro _ g3 HK;simp only[aS,aK] at HK)|(refine iY HK 1 ?_;clear HK;intro _ HK _;simp only[lS] at HK));obtain⟨pG,pF,pE,pz,qK,qJ,qI,qH,qG,qF,iD,iC,iB⟩:=Kn.cmd HK.out 0 rfl;obtain⟨qE,qD,qC,qB,qA,qz⟩:=Kn.flags HK.out 1 rfl;go_wp2_with fail;refine cb (HO.out _) HK ?_;clear HK;intro _ HK;clear pG pF pE pz qK qJ qI qH qG qF iD iC iB qE qD qC qB qA qz;obtain⟨pG,pF,pE,pz,qK,qJ,qI,qH,qG,qF,iD,iC,iB⟩:=Kn.cmd HK.out 0 rfl;obtain⟨qE,qD,qC,qB,qA,qz⟩:=Kn.flags HK.out 1 rfl;go_wp2_with fail;refine cb (OW.out _) HK ?_;clear HK;intro _ HK;clear pG pF pE pz qK qJ qI qH qG qF iD iC iB qE qD qC qB qA qz;obtain⟨pG,pF,pE,pz,qK,qJ,qI,qH,qG,qF,iD,iC,iB⟩:=Kn.cmd HK.out 0 rfl;obtain⟨qE,qD,qC,qB,qA,qz⟩:=Kn.flags HK.out 1 rfl;go_wp2_with fail;refine cb (RY.out _) HK ?_;clear HK;intro _ HK;clear pG pF pE pz qK qJ qI qH qG qF iD iC iB qE qD qC qB qA qz;obtain⟨pG,pF,pE,pz,qK,qJ,qI,qH,qG,qF,iD,iC,iB⟩:=Kn.cmd HK.out 0 rfl;obtain⟨qE,qD,qC,qB,qA,qz⟩:=Kn.flags HK.out 1 rfl;go_wp2_with fail;refine cb (HM.out _) HK ?_;clear HK;intro _ HK;clear pG pF pE pz qK qJ qI qH qG qF iD iC iB qE qD qC qB qA qz;obtain⟨pG,pF,pE,pz,qK,qJ,qI,qH,qG,qF,iD,iC,iB⟩:=Kn.cmd HK.out 0 rfl;obtain⟨qE,qD,qC,qB,qA,qz⟩:=Kn.flags HK.out 1 rfl;go_wp2_with fail;go_ret;exact HE.out _ rfl _ _ ⟨rfl,HK.out.b⟩):p:=h
theorem zq6{p:Prop}(h:p:=by
 refine(HPx.out _ HK.out.b).mono ?_;rintro e w2 ⟨A5,n5,c5,rfl,o5,b5⟩;have MV:=zH (Lay.Own.reads o5).1;replace HK:=zH (HK.out.called b5 o5);simp only[aS,aK] at HK;clear o5 b5;have HR:=zH (HK.out.own 1 rfl).rd;go_wp2_with (at_builtin;refine bA HK aD 0 (f x) MV.out HR HL2 (N:=N1+(f x).length) fP ?_;clear HK;intro A7 c7 _ HK;simp only[lS] at HK);refine⟨⟨k+1,A7,_,c7,by omega,rfl,by go_num,HB2,zH (by rw[HM1.out];exact fP.out),zH ?_⟩,by simp[intOf];omega⟩;rw[HM1.out];exact(HK.out.aB 0).ay 1):p:=h
theorem yD{p:Prop}(h:p:=by
 go_ret;exact⟨by rw[HX.out]<;>rfl,HK.out.b⟩):p:=h
theorem Sb{p:Prop}(h:p:=by
 go_enter func86,ntmps86;go_wp2_with fail;go_ret;exact HX.out _ _):p:=h
theorem FU{p:Prop}(h:p:=by
 refine cB ?_;go_wp2_with fail;go_ret;exact⟨by rw[HR.out]<;>rfl,ah.out.b⟩):p:=h
theorem YJ{p:Prop}(h:p:=by
 go_enter func139,ntmps139;go_wp2_with refine zX (cO HK 0) ?_;refine cb (HM.out _) HK ?_;clear HK;intro _ HK;go_wp2_with (first|refine zX (dO HK 0) ?_|refine zX (cO HK 0) ?_|(refine aH (f2:=0) HK 1 ?_;clear HK;intro _ HK;simp only[lS] at HK));exact Un results139 (HK.out.blk 1 rfl) ⟨rfl,HK.out.b⟩):p:=h
theorem aeo{p:Prop}(h:p:=by
 refine(Ec.out _ HK.out.b).mono ?_;rintro en w5 ⟨A3,k3,c3,lo3,O3,m3,d3,R3,rfl,HV3,q3,HI3⟩;replace HI3:Hid (∀(b:Nat) (W0 W:World) L R,Kn b W0 W L R→(∀z∈R3,z∈R)→G W→dS W A3 k3 c3 lo3∧bT bL tF W O3 m3 d3 o9):=zH fun b W0 W L R K hm g=>HI3.out b W0 W L R K hm (.inl g);replace HK:=zH (HK.out.join q3);clear q3;simp only[aK] at HK
 go_wp2_with (refine bg HK 2 ?_;clear HK;intro _ HK;simp only[lS] at HK);refine jD results7 (HK.out.blk 2 rfl) ?_;unfold kD;exact⟨A3,k3,c3,lo3,O3,m3,d3,_,rfl,HV3,HK.out.aB 0,HI3⟩):p:=h
theorem aen{p:Prop}(h:p:=by
 go_wp2_with fail;rw[HDx.out];exact xI results49 (aj.out.blk 2 rfl) (hR:=(by unfold lX;exact⟨A6,n6,c6,l.set i y,_,_,_,_,rfl,by rw[Ta,uo.out],aj.out.aB 0,fun _ _ _ _ _ K hm hb=>⟨⟨bT.own (K.mem (hm _ (List.mem_append_right _ (List.mem_cons_self ..)))) ⟨fun z hz=>trivial,by rw[List.length_set,uJ.out];exact XZ.out⟩,fun z hz=>VZ (yA.out _ hb).i ((qP.out _ _ _ _ _ K (fun z hz=>hm _ (List.mem_append_left _ hz)) hb).1) hz⟩,(qP.out _ _ _ _ _ K (fun z hz=>hm _ (List.mem_append_left _ hz)) hb).2⟩⟩))):p:=h
theorem ahQ{p:Prop}(h:p:=by
 go_wp2_with fail;refine zR HK.out.drew fun ah=>?_
 refine ak 0 rfl ?_;refine ak 1 rfl ?_;refine ak 2 rfl ?_ fun _ s=>dA (i:=k) hlt
 refine ak 3 rfl ?_ fun _ s=>cZ (x:=x) (off:=o+k*3) (HX.out _ s.out.b)
 refine ak 4 rfl ?_ fun _ s=>aP s 0
 refine aC 5 rfl fun K hK=>?_
 go_simp;go_at_call 128;refine(zh.out _).mono ?_;rintro e w5 ⟨rfl,b5⟩;have hs:=zH (ah.out.call b5);clear b5;refine bk hK hs fun ah=>?_
 clear hK K;refine ak 6 rfl ?_;refine cB ?_;replace HK:=ah;clear ah;go_wp2_with (first|refine zX (cZ (x:=x) (off:=o+k*3) (HX.out _ HK.out.b)) ?_|(refine dM aN (p:=x) HK ?_;intro _ g5 dz;simp only[aS,aK] at dz;have HR:=zH (dz.out.own 1 rfl).rd;replace HK:=dz;clear dz)|(at_builtin;refine bA HK aN 0 [x] rfl HR HL2 (N:=N+1) fP ?_;clear HK;intro A4 c4 _ HK;simp only[lS] at HK)|refine zX (aR (j:=k) hk3) ?_);refine⟨⟨k+1,A4,c4,N+1,hlt,rfl,rfl,zH (by rw[HE.out,fP.out]),?_⟩,by simp[intOf];omega⟩;rw[HE.out];exact zH (HK.out.ay 1)):p:=h
theorem Pb{p:Prop}(h:p:=by
 refine jD results7 (HK.out.blk 2 rfl) ?_;unfold kD;exact⟨A,k,cp,lo,none,0,0,_,rfl,zH rfl,HK.out.aB 0,zH fun b W0 W L R K hm hg=>⟨kE.out W hg,bT.none W⟩⟩):p:=h
theorem ahP{p:Prop}(h:p:=by
 clear HK;intro _ HK;clear pG pF pE pz qK qJ qI qH qG qF iD iC iB qE qD qC qB qA qz;obtain⟨pG,pF,pE,pz,qK,qJ,qI,qH,qG,qF,iD,iC,iB⟩:=Kn.cmd HK.out 0 rfl;obtain⟨qE,qD,qC,qB,qA,qz⟩:=Kn.flags HK.out 1 rfl;go_wp2_with fail;go_ret;exact HE.out _ rfl _ _ ⟨rfl,HK.out.b⟩):p:=h
theorem ahO{p:Prop}(h:p:=by
 refine ak 0 rfl ?_ fun _ s=>lV s.1 0
 refine ak 1 rfl ?_;refine ak 2 rfl ?_ fun _ s=>aZ s.2 0
 refine ak 3 rfl ?_ fun _ s=>iJ (z:=z) (v:=v)
 refine aC 4 rfl fun K hK=>?_
 refine bI (y:=x.sp A4 n4 c4 m) aj 2 ?_;clear aj;intro wq aj;simp only[lS] at aj;have hs:=And.intro (zH ((aj.out.aB 2).ay 0)) (zH ((aj.out.aO 4).ay 0));refine bk hK hs fun ah=>?_
 clear hK K;refine aC 5 rfl fun K hK=>?_
 refine bO (q:=⟨z,v⟩) aj 3 ?_;clear aj;intro wq aj;simp only[lS] at aj;have hs:=And.intro (zH ((aj.out.aB 2).ay 0)) (zH ((aj.out.aO 4).ay 0));refine bk hK hs fun ah=>?_
 clear hK K;refine cB ?_;go_wp2_with fail;exact rU results98 (aj.out.blk 2 rfl) (aj.out.blk 3 rfl) ⟨x.sp A4 n4 c4 m,_,rfl,rfl,aj.out.aB 0,fun _ _ _ _ _ K hm hb=>(HI.out _ hb).sp (Sl.own (K.mem (hm _ (List.mem_cons_self ..))) HF.out)⟩):p:=h
theorem ahN{p:Prop}(h:p:=by
 refine ak 0 rfl ?_ fun _ s=>lV s.1 0
 refine ak 1 rfl ?_;refine ak 2 rfl ?_ fun _ s=>aZ s.2 0
 refine ak 3 rfl ?_ fun _ s=>iJ (z:=z) (v:=v)
 refine aC 4 rfl fun K hK=>?_
 refine bI (y:=x.sp x.pA x.pn x.pc x.v.dV) aj 2 ?_;clear aj;intro wq aj;simp only[lS] at aj;have hs:=And.intro (zH ((aj.out.aB 2).ay 0)) (zH ((aj.out.aO 4).ay 0));refine bk hK hs fun ah=>?_
 clear hK K;refine aC 5 rfl fun K hK=>?_
 refine bO (q:=⟨z,v⟩) aj 3 ?_;clear aj;intro wq aj;simp only[lS] at aj;have hs:=And.intro (zH ((aj.out.aB 2).ay 0)) (zH ((aj.out.aO 4).ay 0));refine bk hK hs fun ah=>?_
 clear hK K;refine cB ?_;go_wp2_with fail;exact rU results98 (aj.out.blk 2 rfl) (aj.out.blk 3 rfl) ⟨x.sp x.pA x.pn x.pc x.v.dV,_,rfl,rfl,aj.out.aB 0,fun _ _ _ _ _ K hm hb=>(HI.out _ hb).sp (HI.out _ hb).p⟩):p:=h
theorem qZ{p:Prop}(h:p:=by
 go_wp2_with fail;go_ret;exact⟨by rw[HR.out]<;>rfl,HK.out.b⟩):p:=h
theorem ahM{p:Prop}(h:p:=by
 go_enter func42,ntmps42;go_wp2_with refine av (lD HK 0) ?_;refine cb (HN.out _) HK ?_;clear HK;intro _ HK;go_upto_region 2 with (first|(refine jc HK ?_;clear HK;intro _ g3 HK;simp only[aS,aK] at HK)|(refine iY HK 1 ?_;clear HK;intro _ HK _;simp only[lS] at HK));obtain⟨pG,pF,pE,pz,qK,qJ,qI,qH,qG,qF,iD,iC,iB⟩:=Kn.cmd HK.out 0 rfl;obtain⟨qE,qD,qC,qB,qA,qz⟩:=Kn.flags HK.out 1 rfl;go_wp2_with fail;refine cb (HO.out _) HK ?_;clear HK;intro _ HK;clear pG pF pE pz qK qJ qI qH qG qF iD iC iB qE qD qC qB qA qz;obtain⟨pG,pF,pE,pz,qK,qJ,qI,qH,qG,qF,iD,iC,iB⟩:=Kn.cmd HK.out 0 rfl;obtain⟨qE,qD,qC,qB,qA,qz⟩:=Kn.flags HK.out 1 rfl;go_wp2_with fail;go_ret;exact HE.out 1 rfl _ _ ⟨rfl,HK.out.b⟩):p:=h
theorem ahL{p:Prop}(h:p:=by
 have HN4:Hid (((l.take p0++[JA c])++l.drop p0).length=n+1):=zH (by rw[List.length_append,JE.out,← HDl.out];omega);go_wp2_with (first|refine zX (nJ HK 0) ?_|refine zX (adp HK 0) ?_|refine zX (aiU HK 0) ?_|refine zX (WT (c:=c)) ?_|(refine dM bB (p:=JA c) HK ?_;intro _ g11 dz;have HR:=zH (Kn.zI dz.out).rd;simp only[aS,aK] at dz;replace HK:=dz;clear dz)|(at_builtin;refine bA HK bB 0 [JA c] rfl HR HGr (N:=p0+1) JE ?_;clear HK;intro A8 c8 _ HK;simp only[lS] at HK)|(refine zX (kT bB (lo:=p0) _ _ hpn) ?_;have HRd:=zH (let h:=((HS.out.s.drop hpn).later HK.out.b);And.intro h.rd h.nl))|(at_builtin;refine bA HK bB 0 (l.drop p0) HDl.out HRd HG2 (N:=n+1) HN4 ?_;clear HK;intro A9 c9 _ HK;simp only[lS] at HK));go_ret;exact⟨_,_,_,rfl,HK.out.own (La:=bB) 0 rfl,HK.out.b⟩):p:=h
theorem YI{p:Prop}(h:p:=by
 go_enter func147,ntmps147;go_wp2_with fail;refine(HN.out _).mono ?_;rintro e w1 ⟨rfl,b1⟩;obtain⟨c0,c1,c2,c3,hlt⟩:=ajv;have HB:=zH (BU);clear b1;go_wp2_with fail;go_ret;exact⟨rfl,HB.out.alloc (by omega) _⟩):p:=h
theorem ahK{p:Prop}(h:p:=by
 refine ak 8 rfl ?_;refine aC 9 rfl fun K hK=>?_
 refine bI (y:=x.sr A4 n4 c4 m) aj 3 ?_;clear aj;intro wq aj;simp only[lS] at aj;have hs:=zH ((aj.out.aB 3).ay 0);refine bk hK hs fun ah=>?_
 clear hK K;refine aC 10 rfl fun K hK=>?_
 refine bO (q:=⟨z,au.vn⟩) aj 4 ?_;clear aj;intro wq aj;simp only[lS] at aj;have hs:=zH ((aj.out.aB 3).ay 0);refine bk hK hs fun ah=>?_
 clear hK K;refine ak 11 rfl ?_;refine ak 12 rfl ?_;refine cB ?_;go_wp2_with fail;exact mJ results97 (aj.out.blk 3 rfl) (aj.out.blk 4 rfl) ⟨x.sr A4 n4 c4 m,_,_,_,_,by rw[hz]<;>rfl,rfl,aj.out.aB 0,fun _ _ _ _ _ K hm hb=>⟨(HI.out _ hb).sr (bT.own (K.mem (hm _ (List.mem_cons_self ..))) HF.out),bT.none _⟩⟩):p:=h
theorem ahJ{p:Prop}(h:p:=by
 refine ak 8 rfl ?_;refine aC 9 rfl fun K hK=>?_
 refine bI (y:=x.sr x.rA x.rn x.rc x.v.refs) aj 3 ?_;clear aj;intro wq aj;simp only[lS] at aj;have hs:=zH ((aj.out.aB 3).ay 0);refine bk hK hs fun ah=>?_
 clear hK K;refine aC 10 rfl fun K hK=>?_
 refine bO (q:=⟨z,au.vn⟩) aj 4 ?_;clear aj;intro wq aj;simp only[lS] at aj;have hs:=zH ((aj.out.aB 3).ay 0);refine bk hK hs fun ah=>?_
 clear hK K;refine ak 11 rfl ?_;refine ak 12 rfl ?_;refine cB ?_;go_wp2_with fail;exact mJ results97 (aj.out.blk 3 rfl) (aj.out.blk 4 rfl) ⟨x.sr x.rA x.rn x.rc x.v.refs,_,_,_,_,by rw[hz]<;>rfl,rfl,aj.out.aB 0,fun _ _ _ _ _ K hm hb=>⟨(HI.out _ hb).sr (HI.out _ hb).r,bT.none _⟩⟩):p:=h
theorem aem{p:Prop}(h:p:=by
 clear aj;intro wq aj;simp only[lS] at aj;have hs:=And.intro (zH ((aj.out.aB 2).ay 0)) (zH ((aj.out.aO 4).ay 0));refine bk hK hs fun ah=>?_
 clear hK K;refine cB ?_;go_wp2_with fail;exact rU results98 (aj.out.blk 2 rfl) (aj.out.blk 3 rfl) ⟨x,_,rfl,rfl,aj.out.aB 0,fun _ _ _ _ _ K hm hb=>HI.out _ hb⟩):p:=h
theorem ahI{p:Prop}(h:p:=by
 go_wp2_with fail;refine zR HK.out.drew fun ah=>?_
 refine ak 0 rfl ?_;refine ak 1 rfl ?_;refine ak 2 rfl ?_ fun _ s=>dA (i:=k) hlt
 refine ak 3 rfl ?_ fun _ s=>cZ (x:=x) (off:=o+k*3) (HX.out _ s.out.b)
 refine ak 4 rfl ?_ fun _ s=>aP s 0
 refine aC 5 rfl fun K hK=>?_
 go_simp;go_at_call 128;refine(zh.out _).mono ?_;rintro e w5 ⟨rfl,b5⟩;have hs:=zH (ah.out.call b5);clear b5;refine bk hK hs fun ah=>?_
 clear hK K;refine ak 6 rfl ?_;refine cB ?_;replace HK:=ah;clear ah;go_wp2_with refine zX (aR (j:=k) hk3) ?_;refine⟨⟨k+1,A1,c1,N,hlt,rfl,rfl,zH (by rw[HE.out,hN.out]),?_⟩,by simp[intOf];omega⟩;rw[HE.out];exact HK):p:=h
theorem ael{p:Prop}(h:p:=by
 go_enter func147,ntmps147;go_wp2_with fail;refine(HN.out _).mono ?_;rintro e w1 ⟨rfl,b1⟩;obtain⟨c0,c1,c2,c3,hlt⟩:=ajv;have HB:=zH (BU);clear b1;go_wp2_with fail;go_quiet (exact Calls.quiet_of_same (HM.out _));go_wp2_with fail;go_ret;exact⟨rfl,(HB.out.alloc (by omega) _).trans (Ca)⟩):p:=h
theorem SC{p:Prop}(h:p:=by
 exact Un results139 (HK.out.blk 1 rfl) ⟨rfl,HK.out.b⟩):p:=h
theorem aek{p:Prop}(h:p:=by
 have c9:=HK.out.cell 0 rfl 9 (v:=.int .u64 (ml:Int)) rfl;have d9:=HK.out.cell 1 rfl 9 (v:=.int .u64 (ml':Int)) rfl;have c10:=HK.out.cell 0 rfl 10 (v:=.int .u64 (mm:Int)) rfl;have d10:=HK.out.cell 1 rfl 10 (v:=.int .u64 (mm':Int)) rfl;clear HP HV HR HE Jw xq;go_wp2_with fail;go_ret;exact⟨by rw[RS.out]<;>rfl,HK.out.b⟩):p:=h
theorem YH{p:Prop}(h:p:=by
 refine cb (lK.out 1 _) HK ?_;clear HK;intro _ HK;go_wp2_with (refine bX (q:=⟨1,au.vn⟩) HK 2 ?_;clear HK;intro _ HK;simp only[lS] at HK);exact xI results49 (HK.out.blk 2 rfl)):p:=h
theorem ahH{p:Prop}(h:p:=by
 obtain⟨pG,pF,pE,pz,qK,qJ,qI,qH,qG,qF,iD,iC,iB⟩:=Kn.cmd HK.out 0 rfl;obtain⟨qE,qD,qC,qB,qA,qz⟩:=Kn.flags HK.out 1 rfl;go_wp2_with fail;go_ret;exact HE.out 1 rfl _ _ ⟨rfl,HK.out.b⟩):p:=h
theorem Ee{p:Prop}(h:p:=by
 go_wp2_with fail;go_ret;exact⟨by rw[RS.out]<;>rfl,HK.out.b⟩):p:=h
theorem YG{p:Prop}(h:p:=by
 go_enter func86,ntmps86;go_wp2_with fail;go_quiet (exact Calls.quiet_of_same (HM.out _));go_wp2_with fail;go_ret;exact HX.out _ _ _):p:=h
theorem OZ{p:Prop}(h:p:=by
 exact xI results49 (HK.out.blk 2 rfl)):p:=h
theorem OY{p:Prop}(h:p:=by
 rw[← HX.out] at HK;exact KI results44 (HK.out.blk 1 rfl) ⟨rfl,HK.out.b⟩):p:=h
theorem aej{p:Prop}(h:p:=by
 have hjb2:j+1≤16384:=by have:=HRc.out;have:=HE.out;omega
 exact⟨⟨j+1,A7,c7,xs++[x],r1,_,by omega,hjb2,rfl,by go_num,zH (fP.out x),zH (by have:=HRc.out;have:=HE.out;omega),zH (by rw[← HM.out];exact HP.out),HW,HK⟩,by simp[intOf];omega⟩):p:=h
theorem aei{p:Prop}(h:p:=by
 unfold kD;exact⟨A2,k2,c2,lo2,A9,_,c9,_,rfl,HV2,HK.out.aB 0,zH fun b W0 W L R K hm hg=>⟨(HI2.out b W0 W L R K (fun z hz=>hm z (List.mem_cons_of_mem _ hz)) (.inl hg)).1,bT.own (K.mem (hm _ (List.mem_cons_self ..))) (oI)⟩⟩):p:=h
theorem ahG{p:Prop}(h:p:=by
 replace nU:=zH (nU.out he);clear he HH;refine zR HK.out.drew fun ah=>?_
 refine ak 0 rfl ?_;refine ak 1 rfl ?_;refine ak 2 rfl ?_ fun _ s=>dA (i:=k) hlt
 refine ak 3 rfl ?_;refine ak 4 rfl ?_ fun _ s=>mY (x:=x) (off:=o+k*3) (HX.out _ s.out.b)
 refine ak 5 rfl ?_;refine ak 6 rfl ?_ fun _ s=>jN s 0
 refine ak 7 rfl ?_;refine cB ?_;go_wp2_with refine zX (aR (j:=k) hk3) ?_;exact⟨⟨k+1,hlt,rfl,nU,ah⟩,by simp[intOf];omega⟩):p:=h
theorem ahF{p:Prop}(h:p:=by
 clear aj;intro wq aj;simp only[lS] at aj;have hs:=And.intro (zH ((aj.out.aB 2).ay 0)) (zH ((aj.out.aO 4).ay 0));refine bk hK hs fun ah=>?_
 clear hK K;refine cB ?_;go_wp2_with fail;exact rU results98 (aj.out.blk 2 rfl) (aj.out.blk 3 rfl) ⟨x.sv A4 n4 c4 m,_,rfl,rfl,aj.out.aB 0,fun _ _ _ _ _ K hm hb=>(HI.out _ hb).sv (bT.own (K.mem (hm _ (List.mem_cons_self ..))) HF.out)⟩):p:=h
theorem ahE{p:Prop}(h:p:=by
 clear aj;intro wq aj;simp only[lS] at aj;have hs:=And.intro (zH ((aj.out.aB 2).ay 0)) (zH ((aj.out.aO 4).ay 0));refine bk hK hs fun ah=>?_
 clear hK K;refine cB ?_;go_wp2_with fail;exact rU results98 (aj.out.blk 2 rfl) (aj.out.blk 3 rfl) ⟨x.sv x.vA x.vn x.vc x.v.vals,_,rfl,rfl,aj.out.aB 0,fun _ _ _ _ _ K hm hb=>(HI.out _ hb).sv (HI.out _ hb).v⟩):p:=h
theorem ahD{p:Prop}(h:p:=by
 go_enter func138,ntmps138;go_wp2_with refine zX (cO HK 0) ?_;refine cb (HM.out _) HK ?_;clear HK;intro _ HK;go_wp2_with (first|refine zX (cO HK 0) ?_|(refine nZ HK 1 ?_;clear HK;intro _ HK;simp only[lS] at HK)|refine zX (dO HK 0) ?_);exact Uq results138 (HK.out.blk 1 rfl) ⟨rfl,HK.out.b⟩):p:=h
theorem ahC{p:Prop}(h:p:=by
 intro v' w' hown hgr hal;have hrow:row La v' (l++m)=(La.e,La.k,v',l.length+m.length,La.flat l++La.flat m):=by unfold row;rw[List.length_append,Lay.yN]
 have hs:La.Own b0 w' v' (l++m):=by unfold Lay.Own;rw[List.length_append,Lay.yN];exact hown
 obtain⟨A',c',rfl⟩:=hs.shape;rw[hN.out] at hrow hown hal ⊢;refine h A' c' w' (zH ?_);rw[hrow];exact hk.aeG (i:=j) hR hown hgr hal):p:=h
theorem JF{p:Prop}(h:p:=by
 have:¬name.toList=[]:=fun e=>h3 ⟨rfl,jC.2 e⟩
 simpa using this):p:=h
theorem aeh{p:Prop}(h:p:=by
 have h1:=L.len (f 0);have h2:=L.pos;obtain⟨u,hu⟩:=Lay.dW (l:=L.f (f 0)) (k:=0) (by omega);have h3:=(hf 0 (by omega)).1 0 u hu;simp only[Nat.zero_mul,Addr.add,if_true] at h3;exact⟨u,h3⟩):p:=h
theorem YF{p:Prop}(h:p:=by
 unfold execOp;simp only[ho,hx,Instr.loadAt,Instr.sureAddr,Sem.run_bind,Sem.run_pure,Result.andThen_ok,h,Array.toArray_toList]):p:=h
theorem ahB{p:Prop}(h:p:=by
 refine bodyPost_ret (v:=.tuple #[.agg #[.int .i64 k,.int .i64 n,.int .u64 (f:Int),.string s],u]) ?_ hd hR;have h:(loadVar 26 ⟨B,0,none⟩).run prog w=.ok (.agg (vC k n f s)) w:=run_loadVar_row (P:=prog) w B _ _ _ (0,0) _ hb underlying26 rfl iy;unfold vC at h;simp[results,hf,asAddr,Sem.run_bind,h2,h3,h]):p:=h
theorem YE{p:Prop}(h:p:=by
 unfold execOp;simp only[ho,Sem.run_bind,Sem.run_pure,Result.andThen_ok,List.map_toArray,List.map_cons,List.map_nil,h]):p:=h
theorem aeg{p:Prop}(h:p:=by
 rw[hcells] at hc;obtain⟨_,hcl,hat⟩:=World.cells?_some hc;refine⟨it,fun j u hu=>?_,hg⟩;have hj:=(List.getElem?_eq_some_iff.1 hu).1;rw[L.len] at hj;rw[hat j hj,hu]):p:=h
theorem ahA{p:Prop}(h:p:=by
 have h1:=u64_xor_nat 18446744073709551615 b (by decide) h;have h3:=congrArg BitVec.toNat (BitVec.allOnes_xor (x:=BitVec.ofNat 64 b));rw[BitVec.toNat_xor,BitVec.toNat_not,BitVec.toNat_ofNat,Nat.mod_eq_of_lt (by omega),BitVec.toNat_allOnes] at h3;have h4:18446744073709551615 ^^^ b=18446744073709551615-b:=h3;rw[h4] at h1;exact h1):p:=h
theorem ahz{p:Prop}(h:p:=by
 have HK:=aj;clear aj ah;go_wp2_with fail;refine jD results7 (HK.out.blk 2 rfl) ?_;unfold kD;exact⟨A,k,cp,lo,_,1,_,_,rfl,zH rfl,HK.out.aB 0,zH fun b W0 W L R K hm hg=>⟨kE.out W hg,bT.own (K.mem (hm _ (List.mem_cons_self ..))) (oI (h:=(by show 1≤1000;decide)))⟩⟩):p:=h
theorem YD{p:Prop}(h:p:=by
 exact aeH results46 (HK.out.blk 2 rfl) (HK.out.blk 3 rfl) ⟨rfl,HK.out.b⟩):p:=h
theorem ahy{p:Prop}(h:p:=by
 refine⟨h.len,fun i hi x hx=>⟨h.ok x (List.mem_of_getElem? hx),fun j y hj hy=>?_⟩⟩;subst hj;obtain⟨h1,e1⟩:=List.getElem?_eq_some_iff.1 hx;obtain⟨h2,e2⟩:=List.getElem?_eq_some_iff.1 hy;have:=(List.pairwise_iff_getElem.1 h.up) j (j+1) h2 h1 (by omega);rw[e1,e2] at this;exact this):p:=h
theorem SA{p:Prop}(h:p:=by
 exact acZ results157 (HK.out.blk 0 rfl) ⟨rfl,HK.out.b⟩):p:=h
theorem ahx{p:Prop}(h:p:=by
 have h2':tmps[2]?.getD undef=.pointer (some ⟨w.heap.size,0,none⟩):=by simpa using h2
 have h3':tmps[3]?.getD undef=.pointer (some ⟨w.heap.size+1,0,none⟩):=by simpa using h3
 simp[Leaves,settle,results,results12,go_sem,h2',h3',k1,k2];exact FIN.out):p:=h
theorem Ed{p:Prop}(h:p:=by
 unfold execOp;simp only[ho,hx,hy];go_simp):p:=h
theorem Sz{p:Prop}(h:p:=by
 go_wp2_with fail;go_ret;exact⟨_,_,_,rfl,aj.out.own 0 rfl,aj.out.b⟩):p:=h
theorem Sy{p:Prop}(h:p:=by
 go_wp2_with fail;go_ret;exact⟨_,_,_,rfl,HK.out.own 0 rfl,HK.out.b⟩):p:=h
theorem aef{p:Prop}(h:p:=by
 refine yx.out.2 ⟨rfl,fun j' y' h h'=>?_⟩;obtain rfl:j=j':=by omega
 rw[HYl.out] at h';injection h' with h';subst h';exact hlt2):p:=h
theorem Sw{p:Prop}(h:p:=by
 exact rR results133 (UL HK.out.b)):p:=h
theorem ahw{p:Prop}(h:p:=by
 have h:(loadVar 26 ⟨B,0,none⟩).run prog w=.ok (.agg (vC k n f s)) w:=run_loadVar_row (P:=prog) w B _ _ _ (0,0) _ hb underlying26 rfl iy;unfold vC at h;simp[results,hf,asAddr,Sem.run_bind,h2,h3,h4,h]):p:=h
theorem ahv{p:Prop}(h:p:=by
 exact Uq results138 (HK.out.blk 1 rfl) ⟨rfl,HK.out.b⟩):p:=h
theorem Sv{p:Prop}(h:p:=by
 go_wp2_with fail;go_ret;exact Rp.yes HP.out (yR.mk HW.out HK.out)):p:=h
theorem ahu{p:Prop}(h:p:=by
 clear hb;go_enter func127,ntmps127;go_wp2_with (go_at_call 151;refine(HH.out _).mono ?_;rintro e w' ⟨rfl,rfl⟩);go_ret;exact⟨by rw[hm.out];rfl,rfl⟩):p:=h
theorem YC{p:Prop}(h:p:=by
 rintro e w' ⟨rfl,rfl⟩;go_wp2_with fail;go_ret;exact⟨by rw[hl.out];rfl,rfl⟩):p:=h
theorem aht{p:Prop}(h:p:=by
 refine hK _ _ ?_;clear hK K;refine wpAny_ready (rs:=[2]) (by kernel_rfl) (by simp) ?_;refine AllReady.cons rfl (fun K hK=>?_) AllReady.nil;go_simp;refine(HN.out).mono ?_;rintro e w1 ⟨rfl,hg⟩;exact HP.out _ w1 hg rfl rfl rfl):p:=h
theorem YB{p:Prop}(h:p:=by
 unfold execOp;simp only[ho,hx,hy,Sem.run_bind,Sem.run_pure,Result.andThen_ok,h]):p:=h
theorem ahs{p:Prop}(h:p:=by
 go_enter func84,ntmps84;go_wp2_with fail;exact Ur results84 (eT.new w _ _) ⟨rfl,(Below.refl _ w).alloc (Nat.le_refl _) _⟩):p:=h
theorem aee{p:Prop}(h:p:=by
 obtain⟨hlt,rfl⟩:=hget i x hx;have h1:=(hf i (by omega)).1 j u hu;rw[ha,Lay.nS,Lay.nS] at h1;exact h1):p:=h
theorem ahr{p:Prop}(h:p:=by
 go_enter func99,ntmps99;go_wp2_with fail;exact Zq results99 rfl rfl rfl (eT.new w _ _) ⟨rfl,(Below.refl _ w).alloc (Nat.le_refl _) _⟩):p:=h
theorem aed{p:Prop}(h:p:=by
 rw[← HX.out] at HK;exact KI results47 (HK.out.blk 2 rfl) ⟨rfl,HK.out.b⟩):p:=h
theorem ahq{p:Prop}(h:p:=by
 clear o4 b4;go_wp2_with (refine aH (f2:=0) HK 2 ?_;clear HK;intro _ HK;simp only[lS] at HK);exact nE results135 (HK.out.blk 2 rfl) (GR (HK.out.own 0 rfl) HK.out.b)):p:=h
theorem aec{p:Prop}(h:p:=by
 rw[← HX.out] at HK;exact KI results48 (HK.out.blk 3 rfl) ⟨rfl,HK.out.b⟩):p:=h
theorem ahp{p:Prop}(h:p:=by
 go_wp2_with fail;exact mJ results95 (aj.out.blk 2 rfl) (aj.out.blk 3 rfl) ⟨x,_,_,_,_,rfl,rfl,aj.out.aB 0,fun _ _ _ _ _ K hm hb=>⟨HI.out _ hb,bT.none _⟩⟩):p:=h
theorem aeb{p:Prop}(h:p:=by
 have he:a.eval (.const (.int .i64 k))=.int .i64 k:=rfl;subst hb;unfold execOp;simp only[ho,hp,he];go_simp):p:=h
theorem aea{p:Prop}(h:p:=by
 unfold execOp;simp only[ho,hx,Instr.loadAt,Instr.sureAddr,Sem.run_bind,Sem.run_pure,Result.andThen_ok,h]):p:=h
theorem YA{p:Prop}(h:p:=by
 exact rR results136 (UC HK.out.b)):p:=h
theorem aho{p:Prop}(h:p:=by
 have hi:=(List.getElem?_eq_some_iff.1 hx).1;obtain⟨b',o',e,hat⟩:=h.at (by rw[← h.len];omega);injection e with e;injection e with e1 e2;subst e1 e2;exact hat w (Below.refl _ w) i x hx):p:=h
theorem adZ{p:Prop}(h:p:=by
 have he:a.eval (.const (.int .i64 1))=.int .i64 1:=rfl;unfold execOp;simp only[ho,hp,he];go_simp):p:=h
theorem ahn{p:Prop}(h:p:=by
 go_wp2_with (refine aH (f2:=0) HK 0 ?_;clear HK;intro _ HK;simp only[lS] at HK);exact Um results132 (HK.out.blk 0 rfl) ⟨rfl,HK.out.b⟩):p:=h
theorem adY{p:Prop}(h:p:=by
 exact nE results135 (HK.out.blk 2 rfl) (xJ HK.out.b)):p:=h
theorem adX{p:Prop}(h:p:=by
 go_wp2_with fail;exact⟨⟨1,hjm,rfl,kE,zH (HK.out.aB 2)⟩,by simp[intOf];omega⟩):p:=h
theorem ahm{p:Prop}(h:p:=by
 refine⟨(if_pos ⟨of_decide_eq_true h1,of_decide_eq_true h2⟩).trans (by rw[e]),(if_pos ⟨of_decide_eq_true h1,of_decide_eq_true h2⟩).trans (by rw[e])⟩):p:=h
theorem ahl{p:Prop}(h:p:=by
 clear HK;intro _ HK;go_wp2_with fail;exact nP results129 ⟨A,n,c,none,0,0,rfl,.stay (.inr ⟨rfl,rfl,rfl,rfl⟩),HK.out.b⟩):p:=h
theorem ahk{p:Prop}(h:p:=by
 rw[hd];clear hd;go_enter func53,ntmps53;go_wp2_with fail;go_ret;exact⟨by simp[h1];omega,Below.refl _ _⟩):p:=h
theorem ahj{p:Prop}(h:p:=by
 refine(HL.out _ HR1.out).mono ?_;rintro e w2 ⟨rfl,hg2⟩;have HG2:=zH (jg oW.out hg2);clear hg2;go_wp2_with fail;exact⟨rfl,rfl,HG2.out⟩):p:=h
theorem adW{p:Prop}(h:p:=by
 exact⟨⟨k+1,hlt,by rw[HS.out];simp[aG.Ct],rfl,HK⟩,by simp[intOf];omega⟩):p:=h
theorem zV{p:Prop}(h:p:=by
 go_simp;exact hK _ _ h4):p:=h
theorem ahi{p:Prop}(h:p:=by
 unfold Oper.wp execOp;simp only[ho,Sem.run_bind,Sem.run_pure,Result.andThen_ok,List.map_toArray,List.map_cons,List.map_nil,hx,hr];exact hK _ _ h4):p:=h
theorem ahh{p:Prop}(h:p:=by
 clear h;have n1:¬x<y:=by have:=hh.out;omega
 have n2:¬y<x:=by have:=hh.out;omega
 go_wp2_with fail;go_ret;exact⟨by rw[C3.out hh.out];rfl,rfl⟩):p:=h
theorem Yz{p:Prop}(h:p:=by
 rw[Bool.eq_iff_iff,hq,decide_eq_true_eq];exact Iff.rfl):p:=h
theorem adV{p:Prop}(h:p:=by
 clear HP;go_wp2_with fail;go_ret;exact DW.yes HN.out (yR.mk HW.out HK.out)):p:=h
theorem adU{p:Prop}(h:p:=by
 clear HP;go_wp2_with fail;exact⟨rfl,DW.no HN.out (HW.out.grown HK.out)⟩):p:=h
theorem Yy{p:Prop}(h:p:=by
 go_wp2_with fail;go_ret;exact⟨rfl,Below.refl _ w⟩):p:=h
theorem ahg{p:Prop}(h:p:=by
 clear HK;intro _ HK;go_wp2_with fail;exact nP results130 ⟨A,n,c,rfl,.inr ⟨rfl,rfl,rfl,rfl⟩,HK.out.b⟩):p:=h
theorem ahf{p:Prop}(h:p:=by
 refine World.cell?_setCell_same (u:=.int .i64 0) _ _ _ ?_;exact(World.cell?_setCell_other _ _ _ _ (fun e=>by injection e;omega)).trans c2):p:=h
theorem adT{p:Prop}(h:p:=by
 exact⟨⟨k+1,hlt,rfl,nU,zH (HK.out.aB 0)⟩,by simp[intOf];omega⟩):p:=h
theorem Yx{p:Prop}(h:p:=by
 go_ret;exact⟨_,_,rfl,HK.out.own 0 rfl,HK.out.b⟩):p:=h
theorem ahe{p:Prop}(h:p:=by
 go_wp2_with fail;refine cb (HM.out _ HK.out.b) HK ?_;clear HK;intro _ HK;go_wp2_with fail;go_ret;exact⟨by cases b<;>rfl,HK.out.b⟩):p:=h
theorem Yw{p:Prop}(h:p:=by
 exact⟨rfl,Rp.no HN.out (HW.out.grown HK.out)⟩):p:=h
theorem Yv{p:Prop}(h:p:=by
 exact decide_eq_true (hm (of_decide_eq_true c))):p:=h
theorem vg{p:Prop}(h:p:=by
 unfold au.act;simp[hk]):p:=h
theorem CB{p:Prop}(h:p:=by
 rw[tX (by rw[e];decide),e]):p:=h
theorem acR{p:Prop}(h:p:=by
 obtain⟨x,hx⟩:=Lay.dW (l:=l) (k:=k) (by rw[hs.len];exact hk);exact⟨x,hx,hs.fs x (List.mem_of_getElem? hx)⟩):p:=h
theorem SL{p:Prop}(h:p:=by
 exact KJ results6 (HK.out.blk 0 rfl)):p:=h
theorem acQ{p:Prop}(h:p:=by
 rw[Array.getElem?_toList] at hj;exact HK.out.cell i hL (off+j) ((hv j (Array.getElem?_eq_some_iff.1 hj).1).trans hj)):p:=h
theorem acP{p:Prop}(h:p:=by
 exact⟨some a,m,[],hcs,Lay.Reads.nil _ _ _,(fun h=>by cases h),(fun x hx=>by cases hx),by simp,Nat.zero_le _⟩):p:=h
theorem SK{p:Prop}(h:p:=by
 obtain⟨y,hy,e⟩:=List.mem_map.1 hz;rw[← e];exact h y hy):p:=h
theorem MX{p:Prop}(h:p:=by
 have h:n*24≤140737488355328:=hs.big;omega):p:=h
theorem SI{p:Prop}(h:p:=by
 simp[storeVar,sizeOf,typeInfo,hq,hc,hs1,hs,World.setCells]):p:=h
theorem acO{p:Prop}(h:p:=by
 rw[World.cell?_setCell_other _ _ _ _ (fun e=>by injection e;omega)];exact World.cell?_setCell_same _ _ _ c1):p:=h
theorem SH{p:Prop}(h:p:=by
 exact Nat.le_trans (Nat.mul_le_mul_right _ (by omega)) hW1):p:=h
theorem acN{p:Prop}(h:p:=by
 obtain⟨b,o,hA,hb,hc⟩:=h hn;exact⟨b,o,hA,hb,fun i x hx=>(hc i x hx).keep fun p hp=>hk p (by omega)⟩):p:=h
theorem acM{p:Prop}(h:p:=by
 have he:a.eval (.const (.int .i64 0))=.int .i64 0:=rfl;subst hb;unfold execOp;simp only[ho,hq,he];go_simp):p:=h
theorem acL{p:Prop}(h:p:=by
 rw[e];refine⟨fun k=>⟨by simpa using k,?_,hl⟩,fun k _=>by simp[k]⟩;rw[drop_at h];exact if_pos hk):p:=h
theorem acK{p:Prop}(h:p:=by
 unfold iV;rw[if_neg (h x (List.mem_cons_self ..))];exact ih fun y hy=>h y (List.mem_cons_of_mem _ hy)):p:=h
theorem MW{p:Prop}(h:p:=by
 rw[List.append_assoc] at this;exact this):p:=h
theorem acJ{p:Prop}(h:p:=by
 refine List.Perm.trans (List.Perm.cons r a) ?_;exact(List.perm_append_comm (l₁:=[r]) (l₂:=W s.l))):p:=h
theorem acI{p:Prop}(h:p:=by
 rw[cK (vs:=(fl y0 y1 y2 y3 y4 y5).toList) (cs:=fl x0 x1 x2 x3 x4 x5),Array.toArray_toList]):p:=h
theorem acH{p:Prop}(h:p:=by
 obtain⟨y,hy,_⟩:=HS.out.get (k:=j) (by omega);exact⟨y,dB hy,fun W hW=>hat W hW j y hy⟩):p:=h
theorem acG{p:Prop}(h:p:=by
 exact⟨⟨k+1,hlt,by rw[HS.out];simp[aG.Ct],rfl,zH (HK.out.aB 1)⟩,by simp[intOf];omega⟩):p:=h
theorem acF{p:Prop}(h:p:=by
 have he:a.eval (.const (.int .i64 1))=.int .i64 1:=rfl;unfold execOp;simp only[ho,hx,he];go_simp):p:=h
theorem acE{p:Prop}(h:p:=by
 exact⟨⟨⟨a0,a1,a2,[],[],[],a6,a7⟩,A3,n3,c3,A4,n4,c4,A5,n5,c5⟩,rfl,fun h=>absurd h hw⟩):p:=h
theorem acD{p:Prop}(h:p:=by
 rw[ByteArray.toList_eq,ByteArray.toList_eq] at h;apply ByteArray.ext;exact Array.toList_inj.1 h):p:=h
theorem acC{p:Prop}(h:p:=by
 unfold Num.jW at *
 refine⟨Nn ?_,rfl⟩;rw[ho.out (by omega),hr.out,if_pos (by omega)]):p:=h
theorem SG{p:Prop}(h:p:=by
 exact List.Perm.append_left _ List.perm_append_comm):p:=h
theorem acB{p:Prop}(h:p:=by
 unfold Oper.wp execOp;simp only[ho,Sem.run_bind,Sem.run_pure,hr,Result.andThen_ok];exact h4):p:=h
theorem acA{p:Prop}(h:p:=by
 unfold Oper.wp execOp;simp only[ho,Sem.run_bind,Sem.run_pure,Result.andThen_ok,hr];exact h4):p:=h
theorem acz{p:Prop}(h:p:=by
 unfold Num.jW at *
 refine⟨Nn ?_,rfl⟩;rw[max_u64,hx.out,hr.out,if_neg (by omega)]):p:=h
theorem acy{p:Prop}(h:p:=by
 rw[Lay.take_succ h,List.flatMap_append,List.flatMap_cons,List.flatMap_nil,List.append_nil]):p:=h
theorem acw{p:Prop}(h:p:=by
 exact⟨⟨q+1,by omega,by go_num,by simp,zH (HS.out (by simp))⟩,by simp[intOf];omega⟩):p:=h
theorem uw{p:Prop}(h:p:=by
 exact⟨rfl,rfl⟩):p:=h
theorem SF{p:Prop}(h:p:=by
 exact⟨List.Perm.refl _,fun x hx=>by cases hx⟩):p:=h
theorem acv{p:Prop}(h:p:=by
 rw[e];refine⟨fun k=>by simp at k,fun k n=>absurd ?_ n⟩;rw[drop_at h];exact if_neg hk):p:=h
theorem acu{p:Prop}(h:p:=by
 exact rR results133 (ZF (HK.out.own 1 rfl) HK.out.b)):p:=h
theorem acs{p:Prop}(h:p:=by
 subst hb;unfold execOp;simp only[ho,hx,hy];go_simp;exact Bool.eq_iff_iff.2 (by simp)):p:=h
theorem acr{p:Prop}(h:p:=by
 rw[cK (vs:=(vC k2 n2 f2 s2).toList) (cs:=vC k n f s),Array.toArray_toList]):p:=h
theorem acp{p:Prop}(h:p:=by
 obtain⟨y,hy,_⟩:=HG.out j (by omega);exact⟨y,hy,fun W hW=>hat W hW j y hy⟩):p:=h
theorem SE{p:Prop}(h:p:=by
 simp[World.setCell,Array.getElem?_modify,h]):p:=h
theorem aco{p:Prop}(h:p:=by
 rw[ru hne,xY hne,e1,e2];exact⟨rfl,rfl,by simp,Nat.le_succ 0⟩):p:=h
theorem acn{p:Prop}(h:p:=by
 rw[e];refine⟨fun k=>by simp at k,fun k n=>absurd ?_ n⟩;rw[abl h];rfl):p:=h
end Go.Proofs.YtahdlddbbnjloaaGreat
