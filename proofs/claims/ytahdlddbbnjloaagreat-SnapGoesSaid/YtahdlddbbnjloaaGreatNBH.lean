/- What the document's Check returns. No condition but those named. -/
import Derived.Test.YtahdlddbbnjloaaGreatNBG
set_option linter.unusedSimpArgs false
set_option linter.unusedVariables false
set_option maxRecDepth 100000
set_option maxHeartbeats 25600000
open Go.RowKit
namespace Go.Proofs.YtahdlddbbnjloaaGreat
open _root_.Go.Proofs.Tryz
section
theorem jC{s:ByteArray}:s.size=0↔s.toList=[]:=by
 constructor
 ·intro h
  rw[aI.Ao h,ByteArray.toList_eq];rfl
 ·intro h
  rw[ByteArray.toList_eq] at h;have:=congrArg List.length h
  simpa using this
theorem fQ(c:aI.C)(w:World):Calls prog 85 #[.agg (dL c),.agg (fl (aI.f0 c.k) (aI.f1 c.k) (aI.f2 c.k) (aI.f3 c.k) (aI.f4 c.k) (aI.f5 c.k))] w fun en w'=>en=.returned (.bool (decide (aI.others c)))∧Below w.heap.size w w':=by
 obtain⟨k,name,key,⟨vk,vn,vf,vs⟩,⟨ok,on,of,os⟩,n,m⟩:=c
 have key1:∀{X:Prop} {en:Ending} {w':World},((∃b,en=.returned (.bool b)∧(b=true↔X))∧Below w.heap.size w w')→(X↔aI.others ⟨k,name,key,⟨vk,vn,vf,vs⟩,⟨ok,on,of,os⟩,n,m⟩)→en=.returned (.bool (decide (aI.others ⟨k,name,key,⟨vk,vn,vf,vs⟩,⟨ok,on,of,os⟩,n,m⟩)))∧Below w.heap.size w w':=by
  rintro X en w' ⟨⟨b,rfl,hb⟩,hw⟩ hX
  have:b=decide (aI.others ⟨k,name,key,⟨vk,vn,vf,vs⟩,⟨ok,on,of,os⟩,n,m⟩):=by
   rw[Bool.eq_iff_iff,decide_eq_true_eq,hb,hX]
  rw[this];exact⟨rfl,hw⟩
 unfold dL
 rcases aI.kinds k with rfl|(rfl|rfl|rfl|rfl|rfl|rfl)|(rfl|rfl)|rfl|rfl|(rfl|rfl)|rfl|h
 case inl=>exact Calls.mono (Ug name key vk vn vf vs ok on of os n m w) fun en w' h=>key1 h (by unfold aI.others;simp only[rZ,jC];simp[aI.f0,aI.f1,aI.f2,aI.f3,aI.f4,aI.f5])
 case inr.inl.inl|inr.inl.inr.inl|inr.inl.inr.inr.inl|inr.inl.inr.inr.inr.inl|inr.inl.inr.inr.inr.inr.inl|inr.inl.inr.inr.inr.inr.inr=>
  exact Calls.mono (Uf name key vk vn vf vs ok on of os n m w) fun en w' h=>key1 h (by unfold aI.others;simp only[rZ,jC];simp[aI.f0,aI.f1,aI.f2,aI.f3,aI.f4,aI.f5])
 case inr.inr.inl.inl|inr.inr.inl.inr=>
  exact Calls.mono (Ue name key vk vn vf vs ok on of os n m w) fun en w' h=>key1 h (by unfold aI.others;simp only[rZ,jC];simp[aI.f0,aI.f1,aI.f2,aI.f3,aI.f4,aI.f5])
 case inr.inr.inr.inl=>
  exact Calls.mono (Ud name key vk vn vf vs ok on of os n m w) fun en w' h=>key1 h (by unfold aI.others;simp only[rZ,jC];simp[aI.f0,aI.f1,aI.f2,aI.f3,aI.f4,aI.f5])
 case inr.inr.inr.inr.inl=>
  exact Calls.mono (Uc name key vk vn vf vs ok on of os n m w) fun en w' h=>key1 h (by unfold aI.others;simp only[rZ,jC];simp[aI.f0,aI.f1,aI.f2,aI.f3,aI.f4,aI.f5])
 case inr.inr.inr.inr.inr.inl.inl|inr.inr.inr.inr.inr.inl.inr=>
  exact Calls.mono (Ub name key vk vn vf vs ok on of os n m w) fun en w' h=>key1 h (by unfold aI.others;simp only[rZ,jC];simp[aI.f0,aI.f1,aI.f2,aI.f3,aI.f4,aI.f5])
 case inr.inr.inr.inr.inr.inr.inl=>
  exact Calls.mono (Ua name key vk vn vf vs ok on of os n m w) fun en w' h=>key1 h (by unfold aI.others;simp only[rZ,jC];simp[aI.f0,aI.f1,aI.f2,aI.f3,aI.f4,aI.f5])
 case inr.inr.inr.inr.inr.inr.inr=>
  obtain⟨e0,e1,e2,e3,e4,e5⟩:=aI.BD h;simp only[e0,e1,e2,e3,e4,e5];exact Calls.mono (TY name key vk vn vf vs ok on of os n m w) fun en w' h=>key1 h (by unfold aI.others;simp only[rZ,jC,e0,e1,e2,e3,e4,e5];simp)
section
variable {b0:Nat}{w0 w:World}{L:List (Nat×TypeId×Array Value)}{R:List bV}{ops:Array Oper}{rest:List Oper}{o:Oper}{a:Act}{Q:Exit→Act→World→Prop}
theorem jc(HK:Hid (Kn b0 w0 w L R))
  (h:∀w' g,Hid (Kn b0 w0 w' (L++[(g,140,fl false false false false false false)]) R)→wpList prog ops Q rest (a.put o.dst (.pointer (some ⟨g,0,none⟩))) w') (hgd:o.guard=none:=by rfl)(ho:o.op=.alloc 140:=by rfl):wpList prog ops Q (o::rest) a w:=
 wpList_plain hgd fun K hK=>by
  have h4:=h _ w.heap.size (zH (HK.out.alloc _ _));unfold Oper.wp execOp;simp only[ho];unfold fl at h4;exact zV
theorem iY(HK:Hid (Kn b0 w0 w L R))(i:Nat){p:Operand}{q:Operand}{g:Nat}{x0 x1 x2 x3 x4 x5 y0 y1 y2 y3 y4 y5:Bool}
  (h:∀w',Hid (Kn b0 w0 w' (L.set i (g,140,fl y0 y1 y2 y3 y4 y5)) R)→Hid (w'.heap.size=w.heap.size)→wpList prog ops Q rest (a.put o.dst undef) w') (hgd:o.guard=none:=by rfl)(ho:o.op=.store 140 p q:=by rfl)(hL:L[i]?=some (g,140,fl x0 x1 x2 x3 x4 x5):=by rfl)(hx:a.eval p=.pointer (some ⟨g,0,none⟩):=by rfl)(hy:a.eval q=.agg (fl y0 y1 y2 y3 y4 y5):=by rfl):wpList prog ops Q (o::rest) a w:=
 iL HK i hgd p q ho hL hx hy (by show 6≤6;decide) wB (h1:=(by simp[fl,Value.oneCell'])) fun w' h1 h2=>h w' (by
  have e:putCells (fl x0 x1 x2 x3 x4 x5) 0 (fl y0 y1 y2 y3 y4 y5).toList=fl y0 y1 y2 y3 y4 y5:=by
   exact acI
  rw[e] at h1
  exact h1) h2
end
theorem Kn.cmd{b0:Nat}{w0 w:World}{L:List (Nat×TypeId×Array Value)}{R:List bV}(h:Kn b0 w0 w L R)(i:Nat){g:Nat}{t:TypeId}{k:Int}{name key:ByteArray}{vk vn:Int}{vf:Nat}{vs:ByteArray}{ok on:Int}{of:Nat}{os:ByteArray}{n m:Int}(hi:L[i]?=some (g,t,dh k name key vk vn vf vs ok on of os n m)):
  w.cell? ⟨g,0,none⟩=some (.int .i64 k)∧w.cell? ⟨g,1,none⟩=some (.string name)∧w.cell? ⟨g,2,none⟩=some (.string key)∧w.cell? ⟨g,3,none⟩=some (.int .i64 vk)∧w.cell? ⟨g,4,none⟩=some (.int .i64 vn)∧w.cell? ⟨g,5,none⟩=some (.int .u64 (vf:Int))∧w.cell? ⟨g,6,none⟩=some (.string vs)∧
  w.cell? ⟨g,7,none⟩=some (.int .i64 ok)∧w.cell? ⟨g,8,none⟩=some (.int .i64 on)∧w.cell? ⟨g,9,none⟩=some (.int .u64 (of:Int))∧w.cell? ⟨g,10,none⟩=some (.string os)∧w.cell? ⟨g,11,none⟩=some (.int .i64 n)∧w.cell? ⟨g,12,none⟩=some (.int .i64 m):=
 ⟨h.cell i hi 0 rfl,h.cell i hi 1 rfl,h.cell i hi 2 rfl,h.cell i hi 3 rfl,h.cell i hi 4 rfl,h.cell i hi 5 rfl,h.cell i hi 6 rfl,h.cell i hi 7 rfl,h.cell i hi 8 rfl,h.cell i hi 9 rfl,h.cell i hi 10 rfl,h.cell i hi 11 rfl,h.cell i hi 12 rfl⟩
theorem Kn.flags{b0:Nat}{w0 w:World}{L:List (Nat×TypeId×Array Value)}{R:List bV}(h:Kn b0 w0 w L R)(i:Nat){g:Nat}{t:TypeId}{y0 y1 y2 y3 y4 y5:Bool}(hi:L[i]?=some (g,t,fl y0 y1 y2 y3 y4 y5)):
  w.cell? ⟨g,0,none⟩=some (.bool y0)∧w.cell? ⟨g,1,none⟩=some (.bool y1)∧w.cell? ⟨g,2,none⟩=some (.bool y2)∧w.cell? ⟨g,3,none⟩=some (.bool y3)∧w.cell? ⟨g,4,none⟩=some (.bool y4)∧w.cell? ⟨g,5,none⟩=some (.bool y5):=
 ⟨h.cell i hi 0 rfl,h.cell i hi 1 rfl,h.cell i hi 2 rfl,h.cell i hi 3 rfl,h.cell i hi 4 rfl,h.cell i hi 5 rfl⟩
theorem aiv(c:aI.C)(w:World)(hv:c.val.f<18446744073709551616)(ho:c.old.f<18446744073709551616)(hdef:(c.k<1∨18<c.k)∧aI.aX c=1):Calls prog 42 #[.agg (dL c)] w (iQ (aI.aX c) w):=by
 have HN:=zH (fun W=>gP c.k W);have HO:=zH (fun W=>fQ c W);have HM:=zH (fun W=>eX c W);have OW:=zH (fun W=>bK c.old W ho);have RY:=zH (fun W=>bK c.val W hv);have HE:Hid (∀x:Int,aI.aX c=x→∀en w',(en=.returned (.int .i64 x)∧Below w.heap.size w w')→iQ (aI.aX c) w en w'):=zH fun x hx en w' h=>by rw[hx];exact h
 clear hv ho;generalize aI.aX c=E at *
 generalize decide (aI.others c)=bo at *
 generalize decide (aI.nums c)=bn at *
 generalize Val.aX c.old=eo at *
 generalize Val.aX c.val=ev at *
 generalize aI.f0 c.k=b0 at *
 generalize aI.f1 c.k=b1 at *
 generalize aI.f2 c.k=b2 at *
 generalize aI.f3 c.k=b3 at *
 generalize aI.f4 c.k=b4 at *
 generalize aI.f5 c.k=b5 at *
 obtain⟨k,name,key,⟨vk,vn,vf,vs⟩,⟨ok,on,of,os⟩,n,m⟩:=c;unfold dL Ju iQ at *
 simp only at *
 have HK:=jw w 46 (dh k name key vk vn vf vs ok on of os n m);obtain⟨h1,rfl⟩:=hdef
 have d1:(decide (k<1)=true)∨(decide (k<1)=false∧decide (18<k)=true):=by
  rcases h1 with h1|h1
  ·exact .inl (by simpa using h1)
  ·by_cases h0:k<1
   ·exact .inl (by simpa using h0)
   ·exact .inr ⟨by simpa using h0,by simpa using h1⟩
 clear h1
 rcases d1 with d1|⟨d1,d2⟩
 all_goals
  go_enter func42,ntmps42;go_wp2_with refine av (lD HK 0) ?_;refine cb (HN.out _) HK ?_;clear HK;intro _ HK;go_upto_region 2 with (first|(refine jc HK ?_;clear HK;intro _ g3 HK;simp only[aS,aK] at HK)|(refine iY HK 1 ?_;clear HK;intro _ HK _;simp only[lS] at HK));exact ahH
theorem aiu(c:aI.C)(w:World)(hv:c.val.f<18446744073709551616)(ho:c.old.f<18446744073709551616)(hdef:¬(c.k<1∨18<c.k)∧decide (aI.others c)=false∧True∧aI.aX c=1):Calls prog 42 #[.agg (dL c)] w (iQ (aI.aX c) w):=by
 have HN:=zH (fun W=>gP c.k W);have HO:=zH (fun W=>fQ c W);have HM:=zH (fun W=>eX c W);have OW:=zH (fun W=>bK c.old W ho);have RY:=zH (fun W=>bK c.val W hv);have HE:Hid (∀x:Int,aI.aX c=x→∀en w',(en=.returned (.int .i64 x)∧Below w.heap.size w w')→iQ (aI.aX c) w en w'):=zH fun x hx en w' h=>by rw[hx];exact h
 clear hv ho;generalize aI.aX c=E at *
 generalize decide (aI.others c)=bo at *
 generalize decide (aI.nums c)=bn at *
 generalize Val.aX c.old=eo at *
 generalize Val.aX c.val=ev at *
 generalize aI.f0 c.k=b0 at *
 generalize aI.f1 c.k=b1 at *
 generalize aI.f2 c.k=b2 at *
 generalize aI.f3 c.k=b3 at *
 generalize aI.f4 c.k=b4 at *
 generalize aI.f5 c.k=b5 at *
 obtain⟨k,name,key,⟨vk,vn,vf,vs⟩,⟨ok,on,of,os⟩,n,m⟩:=c;unfold dL Ju iQ at *
 simp only at *
 have HK:=jw w 46 (dh k name key vk vn vf vs ok on of os n m);obtain⟨h1,rfl,_,rfl⟩:=hdef;have d1:decide (k<1)=false:=by simp;omega
 have d2:decide (18<k)=false:=by simp;omega
 clear h1;exact ahM
theorem ait(c:aI.C)(w:World)(hv:c.val.f<18446744073709551616)(ho:c.old.f<18446744073709551616)(hdef:¬(c.k<1∨18<c.k)∧decide (aI.others c)=true∧aI.f0 c.k=true∧c.name.size=0∧True∧aI.aX c=1):Calls prog 42 #[.agg (dL c)] w (iQ (aI.aX c) w):=by
 have HN:=zH (fun W=>gP c.k W);have HO:=zH (fun W=>fQ c W);have HM:=zH (fun W=>eX c W);have OW:=zH (fun W=>bK c.old W ho);have RY:=zH (fun W=>bK c.val W hv);have HE:Hid (∀x:Int,aI.aX c=x→∀en w',(en=.returned (.int .i64 x)∧Below w.heap.size w w')→iQ (aI.aX c) w en w'):=zH fun x hx en w' h=>by rw[hx];exact h
 clear hv ho;generalize aI.aX c=E at *
 generalize decide (aI.others c)=bo at *
 generalize decide (aI.nums c)=bn at *
 generalize Val.aX c.old=eo at *
 generalize Val.aX c.val=ev at *
 generalize aI.f0 c.k=b0 at *
 generalize aI.f1 c.k=b1 at *
 generalize aI.f2 c.k=b2 at *
 generalize aI.f3 c.k=b3 at *
 generalize aI.f4 c.k=b4 at *
 generalize aI.f5 c.k=b5 at *
 obtain⟨k,name,key,⟨vk,vn,vf,vs⟩,⟨ok,on,of,os⟩,n,m⟩:=c;unfold dL Ju iQ at *
 simp only at *
 have HK:=jw w 46 (dh k name key vk vn vf vs ok on of os n m);obtain⟨h1,rfl,rfl,h4,_,rfl⟩:=hdef;have d1:decide (k<1)=false:=by simp;omega
 have d2:decide (18<k)=false:=by simp;omega
 clear h1;have hn:(name.toList==[])=true:=by simpa using jC.1 h4
 clear h4;exact ahM
theorem ais(c:aI.C)(w:World)(hv:c.val.f<18446744073709551616)(ho:c.old.f<18446744073709551616)(hdef:¬(c.k<1∨18<c.k)∧decide (aI.others c)=true∧¬(aI.f0 c.k=true∧c.name.size=0)∧(16<c.name.size∨64<c.key.size)∧True∧aI.aX c=2):Calls prog 42 #[.agg (dL c)] w (iQ (aI.aX c) w):=by
 have HN:=zH (fun W=>gP c.k W);have HO:=zH (fun W=>fQ c W);have HM:=zH (fun W=>eX c W);have OW:=zH (fun W=>bK c.old W ho);have RY:=zH (fun W=>bK c.val W hv);have HE:Hid (∀x:Int,aI.aX c=x→∀en w',(en=.returned (.int .i64 x)∧Below w.heap.size w w')→iQ (aI.aX c) w en w'):=zH fun x hx en w' h=>by rw[hx];exact h
 clear hv ho;generalize aI.aX c=E at *
 generalize decide (aI.others c)=bo at *
 generalize decide (aI.nums c)=bn at *
 generalize Val.aX c.old=eo at *
 generalize Val.aX c.val=ev at *
 generalize aI.f0 c.k=b0 at *
 generalize aI.f1 c.k=b1 at *
 generalize aI.f2 c.k=b2 at *
 generalize aI.f3 c.k=b3 at *
 generalize aI.f4 c.k=b4 at *
 generalize aI.f5 c.k=b5 at *
 obtain⟨k,name,key,⟨vk,vn,vf,vs⟩,⟨ok,on,of,os⟩,n,m⟩:=c;unfold dL Ju iQ at *
 simp only at *
 have HK:=jw w 46 (dh k name key vk vn vf vs ok on of os n m);obtain⟨h1,rfl,h3,h4,_,rfl⟩:=hdef;have d1:decide (k<1)=false:=by simp;omega
 have d2:decide (18<k)=false:=by simp;omega
 clear h1
 have hb:b0=false∨(b0=true∧(name.toList==[])=false):=by
  rcases b0 with _|_
  ·exact .inl rfl
  ·refine .inr ⟨rfl,?_⟩
   exact JF
 clear h3
 have d3:decide (16<(name.size:Int))=true∨(decide (16<(name.size:Int))=false∧decide (64<(key.size:Int))=true):=by
  by_cases h0:16<name.size
  ·exact .inl (by simp;omega)
  ·exact .inr ⟨by simp;omega,by simp;omega⟩
 clear h4
 rcases hb with rfl|⟨rfl,hn⟩<;>rcases d3 with d3|⟨d3,d4⟩
 all_goals
  go_enter func42,ntmps42;go_wp2_with refine av (lD HK 0) ?_;refine cb (HN.out _) HK ?_;clear HK;intro _ HK;go_upto_region 2 with (first|(refine jc HK ?_;clear HK;intro _ g3 HK;simp only[aS,aK] at HK)|(refine iY HK 1 ?_;clear HK;intro _ HK _;simp only[lS] at HK));obtain⟨pG,pF,pE,pz,qK,qJ,qI,qH,qG,qF,iD,iC,iB⟩:=Kn.cmd HK.out 0 rfl;obtain⟨qE,qD,qC,qB,qA,qz⟩:=Kn.flags HK.out 1 rfl;go_wp2_with fail;refine cb (HO.out _) HK ?_;clear HK;intro _ HK;clear pG pF pE pz qK qJ qI qH qG qF iD iC iB qE qD qC qB qA qz;obtain⟨pG,pF,pE,pz,qK,qJ,qI,qH,qG,qF,iD,iC,iB⟩:=Kn.cmd HK.out 0 rfl;obtain⟨qE,qD,qC,qB,qA,qz⟩:=Kn.flags HK.out 1 rfl;go_wp2_with fail;go_ret;exact HE.out 2 rfl _ _ ⟨rfl,HK.out.b⟩
theorem air(c:aI.C)(w:World)(hv:c.val.f<18446744073709551616)(ho:c.old.f<18446744073709551616)(hdef:¬(c.k<1∨18<c.k)∧decide (aI.others c)=true∧¬(aI.f0 c.k=true∧c.name.size=0)∧¬(16<c.name.size∨64<c.key.size)∧Val.aX c.old≠0∧True∧aI.aX c=Val.aX c.old):Calls prog 42 #[.agg (dL c)] w (iQ (aI.aX c) w):=by
 have HN:=zH (fun W=>gP c.k W);have HO:=zH (fun W=>fQ c W);have HM:=zH (fun W=>eX c W);have OW:=zH (fun W=>bK c.old W ho);have RY:=zH (fun W=>bK c.val W hv);have HE:Hid (∀x:Int,aI.aX c=x→∀en w',(en=.returned (.int .i64 x)∧Below w.heap.size w w')→iQ (aI.aX c) w en w'):=zH fun x hx en w' h=>by rw[hx];exact h
 clear hv ho;generalize aI.aX c=E at *
 generalize decide (aI.others c)=bo at *
 generalize decide (aI.nums c)=bn at *
 generalize Val.aX c.old=eo at *
 generalize Val.aX c.val=ev at *
 generalize aI.f0 c.k=b0 at *
 generalize aI.f1 c.k=b1 at *
 generalize aI.f2 c.k=b2 at *
 generalize aI.f3 c.k=b3 at *
 generalize aI.f4 c.k=b4 at *
 generalize aI.f5 c.k=b5 at *
 obtain⟨k,name,key,⟨vk,vn,vf,vs⟩,⟨ok,on,of,os⟩,n,m⟩:=c;unfold dL Ju iQ at *
 simp only at *
 have HK:=jw w 46 (dh k name key vk vn vf vs ok on of os n m);obtain⟨h1,rfl,h3,h4,h5,_,rfl⟩:=hdef;have d1:decide (k<1)=false:=by simp;omega
 have d2:decide (18<k)=false:=by simp;omega
 clear h1
 have hb:b0=false∨(b0=true∧(name.toList==[])=false):=by
  rcases b0 with _|_
  ·exact .inl rfl
  ·refine .inr ⟨rfl,?_⟩
   exact JF
 clear h3;have d3:decide (16<(name.size:Int))=false:=by simp;omega
 have d4:decide (64<(key.size:Int))=false:=by simp;omega
 clear h4;have f1:(E==0)=false:=by simpa using h5
 have f2:(E != 0)=true:=by simpa using h5
 clear h5
 rcases hb with rfl|⟨rfl,hn⟩
 all_goals
  go_enter func42,ntmps42;go_wp2_with refine av (lD HK 0) ?_;refine cb (HN.out _) HK ?_;clear HK;intro _ HK;go_upto_region 2 with (first|(refine jc HK ?_;clear HK;intro _ g3 HK;simp only[aS,aK] at HK)|(refine iY HK 1 ?_;clear HK;intro _ HK _;simp only[lS] at HK));obtain⟨pG,pF,pE,pz,qK,qJ,qI,qH,qG,qF,iD,iC,iB⟩:=Kn.cmd HK.out 0 rfl;obtain⟨qE,qD,qC,qB,qA,qz⟩:=Kn.flags HK.out 1 rfl;go_wp2_with fail;refine cb (HO.out _) HK ?_;clear HK;intro _ HK;clear pG pF pE pz qK qJ qI qH qG qF iD iC iB qE qD qC qB qA qz;obtain⟨pG,pF,pE,pz,qK,qJ,qI,qH,qG,qF,iD,iC,iB⟩:=Kn.cmd HK.out 0 rfl;obtain⟨qE,qD,qC,qB,qA,qz⟩:=Kn.flags HK.out 1 rfl;go_wp2_with fail;refine cb (OW.out _) HK ?_;exact ahP
theorem aiq(c:aI.C)(w:World)(hv:c.val.f<18446744073709551616)(ho:c.old.f<18446744073709551616)(hdef:¬(c.k<1∨18<c.k)∧decide (aI.others c)=true∧¬(aI.f0 c.k=true∧c.name.size=0)∧¬(16<c.name.size∨64<c.key.size)∧Val.aX c.old=0∧Val.aX c.val≠0∧True∧aI.aX c=Val.aX c.val):Calls prog 42 #[.agg (dL c)] w (iQ (aI.aX c) w):=by
 have HN:=zH (fun W=>gP c.k W);have HO:=zH (fun W=>fQ c W);have HM:=zH (fun W=>eX c W);have OW:=zH (fun W=>bK c.old W ho);have RY:=zH (fun W=>bK c.val W hv);have HE:Hid (∀x:Int,aI.aX c=x→∀en w',(en=.returned (.int .i64 x)∧Below w.heap.size w w')→iQ (aI.aX c) w en w'):=zH fun x hx en w' h=>by rw[hx];exact h
 clear hv ho;generalize aI.aX c=E at *
 generalize decide (aI.others c)=bo at *
 generalize decide (aI.nums c)=bn at *
 generalize Val.aX c.old=eo at *
 generalize Val.aX c.val=ev at *
 generalize aI.f0 c.k=b0 at *
 generalize aI.f1 c.k=b1 at *
 generalize aI.f2 c.k=b2 at *
 generalize aI.f3 c.k=b3 at *
 generalize aI.f4 c.k=b4 at *
 generalize aI.f5 c.k=b5 at *
 obtain⟨k,name,key,⟨vk,vn,vf,vs⟩,⟨ok,on,of,os⟩,n,m⟩:=c;unfold dL Ju iQ at *
 simp only at *
 have HK:=jw w 46 (dh k name key vk vn vf vs ok on of os n m);obtain⟨h1,rfl,h3,h4,rfl,h6,_,rfl⟩:=hdef;have d1:decide (k<1)=false:=by simp;omega
 have d2:decide (18<k)=false:=by simp;omega
 clear h1
 have hb:b0=false∨(b0=true∧(name.toList==[])=false):=by
  rcases b0 with _|_
  ·exact .inl rfl
  ·refine .inr ⟨rfl,?_⟩
   exact JF
 clear h3;have d3:decide (16<(name.size:Int))=false:=by simp;omega
 have d4:decide (64<(key.size:Int))=false:=by simp;omega
 clear h4;have f2:(E != 0)=true:=by simpa using h6
 clear h6
 rcases hb with rfl|⟨rfl,hn⟩
 all_goals
  go_enter func42,ntmps42;go_wp2_with refine av (lD HK 0) ?_;refine cb (HN.out _) HK ?_;clear HK;intro _ HK;go_upto_region 2 with (first|(refine jc HK ?_;clear HK;intro _ g3 HK;simp only[aS,aK] at HK)|(refine iY HK 1 ?_;clear HK;intro _ HK _;simp only[lS] at HK));obtain⟨pG,pF,pE,pz,qK,qJ,qI,qH,qG,qF,iD,iC,iB⟩:=Kn.cmd HK.out 0 rfl;obtain⟨qE,qD,qC,qB,qA,qz⟩:=Kn.flags HK.out 1 rfl;go_wp2_with fail;refine cb (HO.out _) HK ?_;clear HK;intro _ HK;clear pG pF pE pz qK qJ qI qH qG qF iD iC iB qE qD qC qB qA qz;obtain⟨pG,pF,pE,pz,qK,qJ,qI,qH,qG,qF,iD,iC,iB⟩:=Kn.cmd HK.out 0 rfl;obtain⟨qE,qD,qC,qB,qA,qz⟩:=Kn.flags HK.out 1 rfl;go_wp2_with fail;refine cb (OW.out _) HK ?_;clear HK;intro _ HK;clear pG pF pE pz qK qJ qI qH qG qF iD iC iB qE qD qC qB qA qz;obtain⟨pG,pF,pE,pz,qK,qJ,qI,qH,qG,qF,iD,iC,iB⟩:=Kn.cmd HK.out 0 rfl;obtain⟨qE,qD,qC,qB,qA,qz⟩:=Kn.flags HK.out 1 rfl;go_wp2_with fail;refine cb (RY.out _) HK ?_;exact ahP
theorem aeZ(c:aI.C)(w:World)(hv:c.val.f<18446744073709551616)(ho:c.old.f<18446744073709551616)(hdef:¬(c.k<1∨18<c.k)∧decide (aI.others c)=true∧¬(aI.f0 c.k=true∧c.name.size=0)∧¬(16<c.name.size∨64<c.key.size)∧Val.aX c.old=0∧Val.aX c.val=0∧(c.k=7∨c.k=10)∧c.val.k=0∧aI.aX c=1):Calls prog 42 #[.agg (dL c)] w (iQ (aI.aX c) w):=by
 have HN:=zH (fun W=>gP c.k W);have HO:=zH (fun W=>fQ c W);have HM:=zH (fun W=>eX c W);have OW:=zH (fun W=>bK c.old W ho);have RY:=zH (fun W=>bK c.val W hv);have HE:Hid (∀x:Int,aI.aX c=x→∀en w',(en=.returned (.int .i64 x)∧Below w.heap.size w w')→iQ (aI.aX c) w en w'):=zH fun x hx en w' h=>by rw[hx];exact h
 clear hv ho;generalize aI.aX c=E at *
 generalize decide (aI.others c)=bo at *
 generalize decide (aI.nums c)=bn at *
 generalize Val.aX c.old=eo at *
 generalize Val.aX c.val=ev at *
 generalize aI.f0 c.k=b0 at *
 generalize aI.f1 c.k=b1 at *
 generalize aI.f2 c.k=b2 at *
 generalize aI.f3 c.k=b3 at *
 generalize aI.f4 c.k=b4 at *
 generalize aI.f5 c.k=b5 at *
 obtain⟨k,name,key,⟨vk,vn,vf,vs⟩,⟨ok,on,of,os⟩,n,m⟩:=c;unfold dL Ju iQ at *
 simp only at *
 have HK:=jw w 46 (dh k name key vk vn vf vs ok on of os n m);obtain⟨h1,rfl,h3,h4,rfl,rfl,hk,rfl,rfl⟩:=hdef
 have hb:b0=false∨(b0=true∧(name.toList==[])=false):=by
  rcases b0 with _|_
  ·exact .inl rfl
  ·refine .inr ⟨rfl,?_⟩
   exact JF
 clear h3;have d3:decide (16<(name.size:Int))=false:=by simp;omega
 have d4:decide (64<(key.size:Int))=false:=by simp;omega
 clear h4;clear h1
 rcases hk with rfl|rfl<;>rcases hb with rfl|⟨rfl,hn⟩
 all_goals
  go_enter func42,ntmps42;go_wp2_with refine av (lD HK 0) ?_;refine cb (HN.out _) HK ?_;clear HK;intro _ HK;go_upto_region 2 with (first|(refine jc HK ?_;clear HK;intro _ g3 HK;simp only[aS,aK] at HK)|(refine iY HK 1 ?_;clear HK;intro _ HK _;simp only[lS] at HK));obtain⟨pG,pF,pE,pz,qK,qJ,qI,qH,qG,qF,iD,iC,iB⟩:=Kn.cmd HK.out 0 rfl;obtain⟨qE,qD,qC,qB,qA,qz⟩:=Kn.flags HK.out 1 rfl;go_wp2_with fail;refine cb (HO.out _) HK ?_;clear HK;intro _ HK;clear pG pF pE pz qK qJ qI qH qG qF iD iC iB qE qD qC qB qA qz;obtain⟨pG,pF,pE,pz,qK,qJ,qI,qH,qG,qF,iD,iC,iB⟩:=Kn.cmd HK.out 0 rfl;obtain⟨qE,qD,qC,qB,qA,qz⟩:=Kn.flags HK.out 1 rfl;go_wp2_with fail;refine cb (OW.out _) HK ?_;clear HK;intro _ HK;clear pG pF pE pz qK qJ qI qH qG qF iD iC iB qE qD qC qB qA qz;obtain⟨pG,pF,pE,pz,qK,qJ,qI,qH,qG,qF,iD,iC,iB⟩:=Kn.cmd HK.out 0 rfl;obtain⟨qE,qD,qC,qB,qA,qz⟩:=Kn.flags HK.out 1 rfl;go_wp2_with fail;refine cb (RY.out _) HK ?_;clear HK;intro _ HK;clear pG pF pE pz qK qJ qI qH qG qF iD iC iB qE qD qC qB qA qz;exact ahH
theorem aeY(c:aI.C)(w:World)(hv:c.val.f<18446744073709551616)(ho:c.old.f<18446744073709551616)(hdef:¬(c.k<1∨18<c.k)∧decide (aI.others c)=true∧¬(aI.f0 c.k=true∧c.name.size=0)∧¬(16<c.name.size∨64<c.key.size)∧Val.aX c.old=0∧Val.aX c.val=0∧¬((c.k=7∨c.k=10)∧c.val.k=0)∧c.k=15∧c.val.k≠2∧aI.aX c=7):Calls prog 42 #[.agg (dL c)] w (iQ (aI.aX c) w):=by
 have HN:=zH (fun W=>gP c.k W);have HO:=zH (fun W=>fQ c W);have HM:=zH (fun W=>eX c W);have OW:=zH (fun W=>bK c.old W ho);have RY:=zH (fun W=>bK c.val W hv);have HE:Hid (∀x:Int,aI.aX c=x→∀en w',(en=.returned (.int .i64 x)∧Below w.heap.size w w')→iQ (aI.aX c) w en w'):=zH fun x hx en w' h=>by rw[hx];exact h
 clear hv ho;generalize aI.aX c=E at *
 generalize decide (aI.others c)=bo at *
 generalize decide (aI.nums c)=bn at *
 generalize Val.aX c.old=eo at *
 generalize Val.aX c.val=ev at *
 generalize aI.f0 c.k=b0 at *
 generalize aI.f1 c.k=b1 at *
 generalize aI.f2 c.k=b2 at *
 generalize aI.f3 c.k=b3 at *
 generalize aI.f4 c.k=b4 at *
 generalize aI.f5 c.k=b5 at *
 obtain⟨k,name,key,⟨vk,vn,vf,vs⟩,⟨ok,on,of,os⟩,n,m⟩:=c;unfold dL Ju iQ at *
 simp only at *
 have HK:=jw w 46 (dh k name key vk vn vf vs ok on of os n m);obtain⟨h1,rfl,h3,h4,rfl,rfl,h7,rfl,h8,rfl⟩:=hdef
 have hb:b0=false∨(b0=true∧(name.toList==[])=false):=by
  rcases b0 with _|_
  ·exact .inl rfl
  ·refine .inr ⟨rfl,?_⟩
   exact JF
 clear h3;have d3:decide (16<(name.size:Int))=false:=by simp;omega
 have d4:decide (64<(key.size:Int))=false:=by simp;omega
 clear h4;have f3:(vk != 2)=true:=by simpa using h8
 clear h1 h7 h8
 rcases hb with rfl|⟨rfl,hn⟩
 all_goals
  go_enter func42,ntmps42;go_wp2_with refine av (lD HK 0) ?_;refine cb (HN.out _) HK ?_;clear HK;intro _ HK;go_upto_region 2 with (first|(refine jc HK ?_;clear HK;intro _ g3 HK;simp only[aS,aK] at HK)|(refine iY HK 1 ?_;clear HK;intro _ HK _;simp only[lS] at HK));obtain⟨pG,pF,pE,pz,qK,qJ,qI,qH,qG,qF,iD,iC,iB⟩:=Kn.cmd HK.out 0 rfl;obtain⟨qE,qD,qC,qB,qA,qz⟩:=Kn.flags HK.out 1 rfl;go_wp2_with fail;refine cb (HO.out _) HK ?_;clear HK;intro _ HK;clear pG pF pE pz qK qJ qI qH qG qF iD iC iB qE qD qC qB qA qz;obtain⟨pG,pF,pE,pz,qK,qJ,qI,qH,qG,qF,iD,iC,iB⟩:=Kn.cmd HK.out 0 rfl;obtain⟨qE,qD,qC,qB,qA,qz⟩:=Kn.flags HK.out 1 rfl;go_wp2_with fail;refine cb (OW.out _) HK ?_;clear HK;intro _ HK;clear pG pF pE pz qK qJ qI qH qG qF iD iC iB qE qD qC qB qA qz;obtain⟨pG,pF,pE,pz,qK,qJ,qI,qH,qG,qF,iD,iC,iB⟩:=Kn.cmd HK.out 0 rfl;obtain⟨qE,qD,qC,qB,qA,qz⟩:=Kn.flags HK.out 1 rfl;go_wp2_with fail;refine cb (RY.out _) HK ?_;clear HK;intro _ HK;clear pG pF pE pz qK qJ qI qH qG qF iD iC iB qE qD qC qB qA qz;obtain⟨pG,pF,pE,pz,qK,qJ,qI,qH,qG,qF,iD,iC,iB⟩:=Kn.cmd HK.out 0 rfl;obtain⟨qE,qD,qC,qB,qA,qz⟩:=Kn.flags HK.out 1 rfl;go_wp2_with fail;go_ret;exact HE.out 7 rfl _ _ ⟨rfl,HK.out.b⟩
theorem aeX(c:aI.C)(w:World)(hv:c.val.f<18446744073709551616)(ho:c.old.f<18446744073709551616)(hdef:¬(c.k<1∨18<c.k)∧decide (aI.others c)=true∧¬(aI.f0 c.k=true∧c.name.size=0)∧¬(16<c.name.size∨64<c.key.size)∧Val.aX c.old=0∧Val.aX c.val=0∧¬((c.k=7∨c.k=10)∧c.val.k=0)∧¬(c.k=15∧c.val.k≠2)∧decide (aI.nums c)=false∧aI.aX c=1):Calls prog 42 #[.agg (dL c)] w (iQ (aI.aX c) w):=by
 have HN:=zH (fun W=>gP c.k W);have HO:=zH (fun W=>fQ c W);have HM:=zH (fun W=>eX c W);have OW:=zH (fun W=>bK c.old W ho);have RY:=zH (fun W=>bK c.val W hv);have HE:Hid (∀x:Int,aI.aX c=x→∀en w',(en=.returned (.int .i64 x)∧Below w.heap.size w w')→iQ (aI.aX c) w en w'):=zH fun x hx en w' h=>by rw[hx];exact h
 clear hv ho;generalize aI.aX c=E at *
 generalize decide (aI.others c)=bo at *
 generalize decide (aI.nums c)=bn at *
 generalize Val.aX c.old=eo at *
 generalize Val.aX c.val=ev at *
 generalize aI.f0 c.k=b0 at *
 generalize aI.f1 c.k=b1 at *
 generalize aI.f2 c.k=b2 at *
 generalize aI.f3 c.k=b3 at *
 generalize aI.f4 c.k=b4 at *
 generalize aI.f5 c.k=b5 at *
 obtain⟨k,name,key,⟨vk,vn,vf,vs⟩,⟨ok,on,of,os⟩,n,m⟩:=c;unfold dL Ju iQ at *
 simp only at *
 have HK:=jw w 46 (dh k name key vk vn vf vs ok on of os n m);obtain⟨h1,rfl,h3,h4,rfl,rfl,h7,h8,rfl,rfl⟩:=hdef
 have hb:b0=false∨(b0=true∧(name.toList==[])=false):=by
  rcases b0 with _|_
  ·exact .inl rfl
  ·refine .inr ⟨rfl,?_⟩
   exact JF
 clear h3;have d3:decide (16<(name.size:Int))=false:=by simp;omega
 have d4:decide (64<(key.size:Int))=false:=by simp;omega
 clear h4
 have hk:(k=7∧(vk==0)=false)∨(k=10∧(vk==0)=false)∨(k=15∧vk=2)∨((k==7)=false∧(k==10)=false∧(k==15)=false):=by
  by_cases k7:k=7
  ·exact .inl ⟨k7,by simpa using fun e=>h7 ⟨.inl k7,e⟩⟩
  by_cases k10:k=10
  ·exact .inr (.inl ⟨k10,by simpa using fun e=>h7 ⟨.inr k10,e⟩⟩)
  by_cases k15:k=15
  ·exact .inr (.inr (.inl ⟨k15,Decidable.byContradiction fun e=>h8 ⟨k15,e⟩⟩))
  ·exact .inr (.inr (.inr ⟨by simpa using k7,by simpa using k10,by simpa using k15⟩))
 clear h7 h8;have d1:decide (k<1)=false:=by simp;omega
 have d2:decide (18<k)=false:=by simp;omega
 clear h1
 rcases hb with rfl|⟨rfl,hn⟩<;>rcases hk with ⟨rfl,f3⟩|⟨rfl,f3⟩|⟨rfl,rfl⟩|⟨f3,f4,f5⟩
 all_goals
  exact zq5
theorem aeW(c:aI.C)(w:World)(hv:c.val.f<18446744073709551616)(ho:c.old.f<18446744073709551616)(hdef:¬(c.k<1∨18<c.k)∧decide (aI.others c)=true∧¬(aI.f0 c.k=true∧c.name.size=0)∧¬(16<c.name.size∨64<c.key.size)∧Val.aX c.old=0∧Val.aX c.val=0∧¬((c.k=7∨c.k=10)∧c.val.k=0)∧¬(c.k=15∧c.val.k≠2)∧decide (aI.nums c)=true∧aI.aX c=0):Calls prog 42 #[.agg (dL c)] w (iQ (aI.aX c) w):=by
 have HN:=zH (fun W=>gP c.k W);have HO:=zH (fun W=>fQ c W);have HM:=zH (fun W=>eX c W);have OW:=zH (fun W=>bK c.old W ho);have RY:=zH (fun W=>bK c.val W hv);have HE:Hid (∀x:Int,aI.aX c=x→∀en w',(en=.returned (.int .i64 x)∧Below w.heap.size w w')→iQ (aI.aX c) w en w'):=zH fun x hx en w' h=>by rw[hx];exact h
 clear hv ho;generalize aI.aX c=E at *
 generalize decide (aI.others c)=bo at *
 generalize decide (aI.nums c)=bn at *
 generalize Val.aX c.old=eo at *
 generalize Val.aX c.val=ev at *
 generalize aI.f0 c.k=b0 at *
 generalize aI.f1 c.k=b1 at *
 generalize aI.f2 c.k=b2 at *
 generalize aI.f3 c.k=b3 at *
 generalize aI.f4 c.k=b4 at *
 generalize aI.f5 c.k=b5 at *
 obtain⟨k,name,key,⟨vk,vn,vf,vs⟩,⟨ok,on,of,os⟩,n,m⟩:=c;unfold dL Ju iQ at *
 simp only at *
 have HK:=jw w 46 (dh k name key vk vn vf vs ok on of os n m);obtain⟨h1,rfl,h3,h4,rfl,rfl,h7,h8,rfl,rfl⟩:=hdef
 have hb:b0=false∨(b0=true∧(name.toList==[])=false):=by
  rcases b0 with _|_
  ·exact .inl rfl
  ·refine .inr ⟨rfl,?_⟩
   exact JF
 clear h3;have d3:decide (16<(name.size:Int))=false:=by simp;omega
 have d4:decide (64<(key.size:Int))=false:=by simp;omega
 clear h4
 have hk:(k=7∧(vk==0)=false)∨(k=10∧(vk==0)=false)∨(k=15∧vk=2)∨((k==7)=false∧(k==10)=false∧(k==15)=false):=by
  by_cases k7:k=7
  ·exact .inl ⟨k7,by simpa using fun e=>h7 ⟨.inl k7,e⟩⟩
  by_cases k10:k=10
  ·exact .inr (.inl ⟨k10,by simpa using fun e=>h7 ⟨.inr k10,e⟩⟩)
  by_cases k15:k=15
  ·exact .inr (.inr (.inl ⟨k15,Decidable.byContradiction fun e=>h8 ⟨k15,e⟩⟩))
  ·exact .inr (.inr (.inr ⟨by simpa using k7,by simpa using k10,by simpa using k15⟩))
 clear h7 h8;have d1:decide (k<1)=false:=by simp;omega
 have d2:decide (18<k)=false:=by simp;omega
 clear h1
 rcases hb with rfl|⟨rfl,hn⟩<;>rcases hk with ⟨rfl,f3⟩|⟨rfl,f3⟩|⟨rfl,rfl⟩|⟨f3,f4,f5⟩
 all_goals
  exact zq5
theorem gV(c:aI.C)(w:World)(hv:c.val.f<18446744073709551616)(ho:c.old.f<18446744073709551616):Calls prog 42 #[.agg (dL c)] w (iQ (aI.aX c) w):=by
 rcases aI.RD c with h|h|h|h|h|h|⟨h1,h2,h3,h4,h5,h6,h|h|h|h⟩
 ·exact aiv c w hv ho h
 ·exact aiu c w hv ho h
 ·exact ait c w hv ho h
 ·exact ais c w hv ho h
 ·exact air c w hv ho h
 ·exact aiq c w hv ho h
 ·exact aeZ c w hv ho ⟨h1,h2,h3,h4,h5,h6,h⟩
 ·exact aeY c w hv ho ⟨h1,h2,h3,h4,h5,h6,h⟩
 ·exact aeX c w hv ho ⟨h1,h2,h3,h4,h5,h6,h⟩
 ·exact aeW c w hv ho ⟨h1,h2,h3,h4,h5,h6,h⟩
end
end Go.Proofs.YtahdlddbbnjloaaGreat
