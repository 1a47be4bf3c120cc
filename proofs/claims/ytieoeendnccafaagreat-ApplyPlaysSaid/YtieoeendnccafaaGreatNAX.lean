/- What the program's expire, Apply return. No condition but those named. -/
import Derived.Test.YtieoeendnccafaaGreatNAW
set_option linter.unusedSimpArgs false
set_option linter.unusedVariables false
set_option maxRecDepth 100000
set_option maxHeartbeats 25600000
open Go.RowKit
namespace Go.Proofs.YtieoeendnccafaaGreat
open _root_.Go.Proofs.Tryz
section
theorem jR{s:ByteArray}:s.size=0↔s.toList=[]:=by
 constructor
 ·intro h
  rw[aF.Aj h,ByteArray.toList_eq];rfl
 ·intro h
  rw[ByteArray.toList_eq] at h;have:=congrArg List.length h
  simpa using this
theorem gF(c:aF.C)(w:World):Calls prog 126 #[.agg (dh c),.agg (fl (aF.f0 c.k) (aF.f1 c.k) (aF.f2 c.k) (aF.f3 c.k) (aF.f4 c.k) (aF.f5 c.k))] w fun en w'=>en=.returned (.bool (decide (aF.others c)))∧Below w.heap.size w w':=by
 obtain⟨k,name,key,⟨vk,vn,vf,vs⟩,⟨ok,on,of,os⟩,n,m⟩:=c
 have key1:∀{X:Prop} {en:Ending} {w':World},((∃b,en=.returned (.bool b)∧(b=true↔X))∧Below w.heap.size w w')→(X↔aF.others ⟨k,name,key,⟨vk,vn,vf,vs⟩,⟨ok,on,of,os⟩,n,m⟩)→en=.returned (.bool (decide (aF.others ⟨k,name,key,⟨vk,vn,vf,vs⟩,⟨ok,on,of,os⟩,n,m⟩)))∧Below w.heap.size w w':=by
  rintro X en w' ⟨⟨b,rfl,hb⟩,hw⟩ hX
  have:b=decide (aF.others ⟨k,name,key,⟨vk,vn,vf,vs⟩,⟨ok,on,of,os⟩,n,m⟩):=by
   rw[Bool.eq_iff_iff,decide_eq_true_eq,hb,hX]
  rw[this];exact⟨rfl,hw⟩
 unfold dh
 rcases aF.kinds k with rfl|(rfl|rfl|rfl|rfl|rfl|rfl)|(rfl|rfl)|rfl|rfl|(rfl|rfl)|rfl|h
 case inl=>exact Calls.mono (SG name key vk vn vf vs ok on of os n m w) fun en w' h=>key1 h (by unfold aF.others;simp only[qN,jR];simp[aF.f0,aF.f1,aF.f2,aF.f3,aF.f4,aF.f5])
 case inr.inl.inl|inr.inl.inr.inl|inr.inl.inr.inr.inl|inr.inl.inr.inr.inr.inl|inr.inl.inr.inr.inr.inr.inl|inr.inl.inr.inr.inr.inr.inr=>
  exact Calls.mono (SF name key vk vn vf vs ok on of os n m w) fun en w' h=>key1 h (by unfold aF.others;simp only[qN,jR];simp[aF.f0,aF.f1,aF.f2,aF.f3,aF.f4,aF.f5])
 case inr.inr.inl.inl|inr.inr.inl.inr=>
  exact Calls.mono (SE name key vk vn vf vs ok on of os n m w) fun en w' h=>key1 h (by unfold aF.others;simp only[qN,jR];simp[aF.f0,aF.f1,aF.f2,aF.f3,aF.f4,aF.f5])
 case inr.inr.inr.inl=>
  exact Calls.mono (SC name key vk vn vf vs ok on of os n m w) fun en w' h=>key1 h (by unfold aF.others;simp only[qN,jR];simp[aF.f0,aF.f1,aF.f2,aF.f3,aF.f4,aF.f5])
 case inr.inr.inr.inr.inl=>
  exact Calls.mono (SB name key vk vn vf vs ok on of os n m w) fun en w' h=>key1 h (by unfold aF.others;simp only[qN,jR];simp[aF.f0,aF.f1,aF.f2,aF.f3,aF.f4,aF.f5])
 case inr.inr.inr.inr.inr.inl.inl|inr.inr.inr.inr.inr.inl.inr=>
  exact Calls.mono (SA name key vk vn vf vs ok on of os n m w) fun en w' h=>key1 h (by unfold aF.others;simp only[qN,jR];simp[aF.f0,aF.f1,aF.f2,aF.f3,aF.f4,aF.f5])
 case inr.inr.inr.inr.inr.inr.inl=>
  exact Calls.mono (Sz name key vk vn vf vs ok on of os n m w) fun en w' h=>key1 h (by unfold aF.others;simp only[qN,jR];simp[aF.f0,aF.f1,aF.f2,aF.f3,aF.f4,aF.f5])
 case inr.inr.inr.inr.inr.inr.inr=>
  obtain⟨e0,e1,e2,e3,e4,e5⟩:=aF.vL h;simp only[e0,e1,e2,e3,e4,e5];exact Calls.mono (Sy name key vk vn vf vs ok on of os n m w) fun en w' h=>key1 h (by unfold aF.others;simp only[qN,jR,e0,e1,e2,e3,e4,e5];simp)
section
variable {b0:Nat}{w0 w:World}{L:List (Nat×TypeId×Array Value)}{R:List dA}{ops:Array Oper}{rest:List Oper}{o:Oper}{a:Act}{Q:Exit→Act→World→Prop}
theorem jy(HK:Hid (Kn b0 w0 w L R))
  (h:∀w' g,Hid (Kn b0 w0 w' (L++[(g,159,fl false false false false false false)]) R)→wpList prog ops Q rest (a.put o.dst (.pointer (some ⟨g,0,none⟩))) w') (hgd:o.guard=none:=by rfl)(ho:o.op=.alloc 159:=by rfl):wpList prog ops Q (o::rest) a w:=
 wpList_plain hgd fun K hK=>by
  exact ZP
theorem jw(HK:Hid (Kn b0 w0 w L R))(i:Nat){p:Operand}{q:Operand}{g:Nat}{x0 x1 x2 x3 x4 x5 y0 y1 y2 y3 y4 y5:Bool}
  (h:∀w',Hid (Kn b0 w0 w' (L.set i (g,159,fl y0 y1 y2 y3 y4 y5)) R)→Hid (w'.heap.size=w.heap.size)→wpList prog ops Q rest (a.put o.dst undef) w') (hgd:o.guard=none:=by rfl)(ho:o.op=.store 159 p q:=by rfl)(hL:L[i]?=some (g,159,fl x0 x1 x2 x3 x4 x5):=by rfl)(hx:a.eval p=.pointer (some ⟨g,0,none⟩):=by rfl)(hy:a.eval q=.agg (fl y0 y1 y2 y3 y4 y5):=by rfl):wpList prog ops Q (o::rest) a w:=
 jJ HK i hgd p q ho hL hx hy (by show 6≤6;decide) um (h1:=(by simp[fl,Value.oneCell'])) fun w' h1 h2=>h w' (by
  have e:putCells (fl x0 x1 x2 x3 x4 x5) 0 (fl y0 y1 y2 y3 y4 y5).toList=fl y0 y1 y2 y3 y4 y5:=by
   exact ZG
  rw[e] at h1
  exact h1) h2
end
theorem Kn.cmd{b0:Nat}{w0 w:World}{L:List (Nat×TypeId×Array Value)}{R:List dA}(h:Kn b0 w0 w L R)(i:Nat){g:Nat}{t:TypeId}{k:Int}{name key:ByteArray}{vk vn:Int}{vf:Nat}{vs:ByteArray}{ok on:Int}{of:Nat}{os:ByteArray}{n m:Int}(hi:L[i]?=some (g,t,cO k name key vk vn vf vs ok on of os n m)):
  w.cell? ⟨g,0,none⟩=some (.int .i64 k)∧w.cell? ⟨g,1,none⟩=some (.string name)∧w.cell? ⟨g,2,none⟩=some (.string key)∧w.cell? ⟨g,3,none⟩=some (.int .i64 vk)∧w.cell? ⟨g,4,none⟩=some (.int .i64 vn)∧w.cell? ⟨g,5,none⟩=some (.int .u64 (vf:Int))∧w.cell? ⟨g,6,none⟩=some (.string vs)∧
  w.cell? ⟨g,7,none⟩=some (.int .i64 ok)∧w.cell? ⟨g,8,none⟩=some (.int .i64 on)∧w.cell? ⟨g,9,none⟩=some (.int .u64 (of:Int))∧w.cell? ⟨g,10,none⟩=some (.string os)∧w.cell? ⟨g,11,none⟩=some (.int .i64 n)∧w.cell? ⟨g,12,none⟩=some (.int .i64 m):=
 ⟨h.cell i hi 0 rfl,h.cell i hi 1 rfl,h.cell i hi 2 rfl,h.cell i hi 3 rfl,h.cell i hi 4 rfl,h.cell i hi 5 rfl,h.cell i hi 6 rfl,h.cell i hi 7 rfl,h.cell i hi 8 rfl,h.cell i hi 9 rfl,h.cell i hi 10 rfl,h.cell i hi 11 rfl,h.cell i hi 12 rfl⟩
theorem Kn.flags{b0:Nat}{w0 w:World}{L:List (Nat×TypeId×Array Value)}{R:List dA}(h:Kn b0 w0 w L R)(i:Nat){g:Nat}{t:TypeId}{y0 y1 y2 y3 y4 y5:Bool}(hi:L[i]?=some (g,t,fl y0 y1 y2 y3 y4 y5)):
  w.cell? ⟨g,0,none⟩=some (.bool y0)∧w.cell? ⟨g,1,none⟩=some (.bool y1)∧w.cell? ⟨g,2,none⟩=some (.bool y2)∧w.cell? ⟨g,3,none⟩=some (.bool y3)∧w.cell? ⟨g,4,none⟩=some (.bool y4)∧w.cell? ⟨g,5,none⟩=some (.bool y5):=
 ⟨h.cell i hi 0 rfl,h.cell i hi 1 rfl,h.cell i hi 2 rfl,h.cell i hi 3 rfl,h.cell i hi 4 rfl,h.cell i hi 5 rfl⟩
theorem afn(c:aF.C)(w:World)(hv:c.val.f<18446744073709551616)(ho:c.old.f<18446744073709551616)(hdef:(c.k<1∨18<c.k)∧aF.bG c=1):Calls prog 70 #[.agg (dh c)] w (gX (aF.bG c) w):=by
 have HN:=zH (fun W=>gZ c.k W);have HO:=zH (fun W=>gF c W);have HM:=zH (fun W=>fM c W);have oU:=zH (fun W=>bR c.old W ho);have LC:=zH (fun W=>bR c.val W hv);have HE:Hid (∀x:Int,aF.bG c=x→∀en w',(en=.returned (.int .i64 x)∧Below w.heap.size w w')→gX (aF.bG c) w en w'):=zH fun x hx en w' h=>by rw[hx];exact h
 clear hv ho;generalize aF.bG c=E at *
 generalize decide (aF.others c)=bo at *
 generalize decide (aF.nums c)=bn at *
 generalize Val.bG c.old=eo at *
 generalize Val.bG c.val=ev at *
 generalize aF.f0 c.k=b0 at *
 generalize aF.f1 c.k=b1 at *
 generalize aF.f2 c.k=b2 at *
 generalize aF.f3 c.k=b3 at *
 generalize aF.f4 c.k=b4 at *
 generalize aF.f5 c.k=b5 at *
 obtain⟨k,name,key,⟨vk,vn,vf,vs⟩,⟨ok,on,of,os⟩,n,m⟩:=c;unfold dh Jj gX at *
 simp only at *
 have HK:=iK w 37 (cO k name key vk vn vf vs ok on of os n m);obtain⟨h1,rfl⟩:=hdef
 have d1:(decide (k<1)=true)∨(decide (k<1)=false∧decide (18<k)=true):=by
  rcases h1 with h1|h1
  ·exact .inl (by simpa using h1)
  ·by_cases h0:k<1
   ·exact .inl (by simpa using h0)
   ·exact .inr ⟨by simpa using h0,by simpa using h1⟩
 clear h1
 rcases d1 with d1|⟨d1,d2⟩
 all_goals
  go_enter func70,ntmps70;go_wp2_with refine au (jD HK 0) ?_;refine cb (HN.out _) HK ?_;clear HK;intro _ HK;go_upto_region 2 with (first|(refine jy HK ?_;clear HK;intro _ g3 HK;simp only[aO,aJ] at HK)|(refine jw HK 1 ?_;clear HK;intro _ HK _;simp only[lS] at HK));exact aeH
theorem afm(c:aF.C)(w:World)(hv:c.val.f<18446744073709551616)(ho:c.old.f<18446744073709551616)(hdef:¬(c.k<1∨18<c.k)∧decide (aF.others c)=false∧True∧aF.bG c=1):Calls prog 70 #[.agg (dh c)] w (gX (aF.bG c) w):=by
 have HN:=zH (fun W=>gZ c.k W);have HO:=zH (fun W=>gF c W);have HM:=zH (fun W=>fM c W);have oU:=zH (fun W=>bR c.old W ho);have LC:=zH (fun W=>bR c.val W hv);have HE:Hid (∀x:Int,aF.bG c=x→∀en w',(en=.returned (.int .i64 x)∧Below w.heap.size w w')→gX (aF.bG c) w en w'):=zH fun x hx en w' h=>by rw[hx];exact h
 clear hv ho;generalize aF.bG c=E at *
 generalize decide (aF.others c)=bo at *
 generalize decide (aF.nums c)=bn at *
 generalize Val.bG c.old=eo at *
 generalize Val.bG c.val=ev at *
 generalize aF.f0 c.k=b0 at *
 generalize aF.f1 c.k=b1 at *
 generalize aF.f2 c.k=b2 at *
 generalize aF.f3 c.k=b3 at *
 generalize aF.f4 c.k=b4 at *
 generalize aF.f5 c.k=b5 at *
 obtain⟨k,name,key,⟨vk,vn,vf,vs⟩,⟨ok,on,of,os⟩,n,m⟩:=c;unfold dh Jj gX at *
 simp only at *
 have HK:=iK w 37 (cO k name key vk vn vf vs ok on of os n m);obtain⟨h1,rfl,_,rfl⟩:=hdef;have d1:decide (k<1)=false:=by simp;omega
 have d2:decide (18<k)=false:=by simp;omega
 clear h1;exact aeP
theorem afl(c:aF.C)(w:World)(hv:c.val.f<18446744073709551616)(ho:c.old.f<18446744073709551616)(hdef:¬(c.k<1∨18<c.k)∧decide (aF.others c)=true∧aF.f0 c.k=true∧c.name.size=0∧True∧aF.bG c=1):Calls prog 70 #[.agg (dh c)] w (gX (aF.bG c) w):=by
 have HN:=zH (fun W=>gZ c.k W);have HO:=zH (fun W=>gF c W);have HM:=zH (fun W=>fM c W);have oU:=zH (fun W=>bR c.old W ho);have LC:=zH (fun W=>bR c.val W hv);have HE:Hid (∀x:Int,aF.bG c=x→∀en w',(en=.returned (.int .i64 x)∧Below w.heap.size w w')→gX (aF.bG c) w en w'):=zH fun x hx en w' h=>by rw[hx];exact h
 clear hv ho;generalize aF.bG c=E at *
 generalize decide (aF.others c)=bo at *
 generalize decide (aF.nums c)=bn at *
 generalize Val.bG c.old=eo at *
 generalize Val.bG c.val=ev at *
 generalize aF.f0 c.k=b0 at *
 generalize aF.f1 c.k=b1 at *
 generalize aF.f2 c.k=b2 at *
 generalize aF.f3 c.k=b3 at *
 generalize aF.f4 c.k=b4 at *
 generalize aF.f5 c.k=b5 at *
 obtain⟨k,name,key,⟨vk,vn,vf,vs⟩,⟨ok,on,of,os⟩,n,m⟩:=c;unfold dh Jj gX at *
 simp only at *
 have HK:=iK w 37 (cO k name key vk vn vf vs ok on of os n m);obtain⟨h1,rfl,rfl,h4,_,rfl⟩:=hdef;have d1:decide (k<1)=false:=by simp;omega
 have d2:decide (18<k)=false:=by simp;omega
 clear h1;have hn:(name.toList==[])=true:=by simpa using jR.1 h4
 clear h4;exact aeP
theorem afk(c:aF.C)(w:World)(hv:c.val.f<18446744073709551616)(ho:c.old.f<18446744073709551616)(hdef:¬(c.k<1∨18<c.k)∧decide (aF.others c)=true∧¬(aF.f0 c.k=true∧c.name.size=0)∧(16<c.name.size∨64<c.key.size)∧True∧aF.bG c=2):Calls prog 70 #[.agg (dh c)] w (gX (aF.bG c) w):=by
 have HN:=zH (fun W=>gZ c.k W);have HO:=zH (fun W=>gF c W);have HM:=zH (fun W=>fM c W);have oU:=zH (fun W=>bR c.old W ho);have LC:=zH (fun W=>bR c.val W hv);have HE:Hid (∀x:Int,aF.bG c=x→∀en w',(en=.returned (.int .i64 x)∧Below w.heap.size w w')→gX (aF.bG c) w en w'):=zH fun x hx en w' h=>by rw[hx];exact h
 clear hv ho;generalize aF.bG c=E at *
 generalize decide (aF.others c)=bo at *
 generalize decide (aF.nums c)=bn at *
 generalize Val.bG c.old=eo at *
 generalize Val.bG c.val=ev at *
 generalize aF.f0 c.k=b0 at *
 generalize aF.f1 c.k=b1 at *
 generalize aF.f2 c.k=b2 at *
 generalize aF.f3 c.k=b3 at *
 generalize aF.f4 c.k=b4 at *
 generalize aF.f5 c.k=b5 at *
 obtain⟨k,name,key,⟨vk,vn,vf,vs⟩,⟨ok,on,of,os⟩,n,m⟩:=c;unfold dh Jj gX at *
 simp only at *
 have HK:=iK w 37 (cO k name key vk vn vf vs ok on of os n m);obtain⟨h1,rfl,h3,h4,_,rfl⟩:=hdef;have d1:decide (k<1)=false:=by simp;omega
 have d2:decide (18<k)=false:=by simp;omega
 clear h1
 have hb:b0=false∨(b0=true∧(name.toList==[])=false):=by
  rcases b0 with _|_
  ·exact .inl rfl
  ·refine .inr ⟨rfl,?_⟩
   exact Jw
 clear h3
 have d3:decide (16<(name.size:Int))=true∨(decide (16<(name.size:Int))=false∧decide (64<(key.size:Int))=true):=by
  by_cases h0:16<name.size
  ·exact .inl (by simp;omega)
  ·exact .inr ⟨by simp;omega,by simp;omega⟩
 clear h4
 rcases hb with rfl|⟨rfl,hn⟩<;>rcases d3 with d3|⟨d3,d4⟩
 all_goals
  go_enter func70,ntmps70;go_wp2_with refine au (jD HK 0) ?_;refine cb (HN.out _) HK ?_;clear HK;intro _ HK;go_upto_region 2 with (first|(refine jy HK ?_;clear HK;intro _ g3 HK;simp only[aO,aJ] at HK)|(refine jw HK 1 ?_;clear HK;intro _ HK _;simp only[lS] at HK));obtain⟨ou,oq,oo,oh,rH,rG,rE,rD,rC,ru,iX,iW,iV⟩:=Kn.cmd HK.out 0 rfl;obtain⟨qE,qD,qZ,qY,qX,qW⟩:=Kn.flags HK.out 1 rfl;go_wp2_with fail;refine cb (HO.out _) HK ?_;clear HK;intro _ HK;clear ou oq oo oh rH rG rE rD rC ru iX iW iV qE qD qZ qY qX qW;obtain⟨ou,oq,oo,oh,rH,rG,rE,rD,rC,ru,iX,iW,iV⟩:=Kn.cmd HK.out 0 rfl;obtain⟨qE,qD,qZ,qY,qX,qW⟩:=Kn.flags HK.out 1 rfl;go_wp2_with fail;go_ret;exact HE.out 2 rfl _ _ ⟨rfl,HK.out.b⟩
theorem afj(c:aF.C)(w:World)(hv:c.val.f<18446744073709551616)(ho:c.old.f<18446744073709551616)(hdef:¬(c.k<1∨18<c.k)∧decide (aF.others c)=true∧¬(aF.f0 c.k=true∧c.name.size=0)∧¬(16<c.name.size∨64<c.key.size)∧Val.bG c.old≠0∧True∧aF.bG c=Val.bG c.old):Calls prog 70 #[.agg (dh c)] w (gX (aF.bG c) w):=by
 have HN:=zH (fun W=>gZ c.k W);have HO:=zH (fun W=>gF c W);have HM:=zH (fun W=>fM c W);have oU:=zH (fun W=>bR c.old W ho);have LC:=zH (fun W=>bR c.val W hv);have HE:Hid (∀x:Int,aF.bG c=x→∀en w',(en=.returned (.int .i64 x)∧Below w.heap.size w w')→gX (aF.bG c) w en w'):=zH fun x hx en w' h=>by rw[hx];exact h
 clear hv ho;generalize aF.bG c=E at *
 generalize decide (aF.others c)=bo at *
 generalize decide (aF.nums c)=bn at *
 generalize Val.bG c.old=eo at *
 generalize Val.bG c.val=ev at *
 generalize aF.f0 c.k=b0 at *
 generalize aF.f1 c.k=b1 at *
 generalize aF.f2 c.k=b2 at *
 generalize aF.f3 c.k=b3 at *
 generalize aF.f4 c.k=b4 at *
 generalize aF.f5 c.k=b5 at *
 obtain⟨k,name,key,⟨vk,vn,vf,vs⟩,⟨ok,on,of,os⟩,n,m⟩:=c;unfold dh Jj gX at *
 simp only at *
 have HK:=iK w 37 (cO k name key vk vn vf vs ok on of os n m);obtain⟨h1,rfl,h3,h4,h5,_,rfl⟩:=hdef;have d1:decide (k<1)=false:=by simp;omega
 have d2:decide (18<k)=false:=by simp;omega
 clear h1
 have hb:b0=false∨(b0=true∧(name.toList==[])=false):=by
  rcases b0 with _|_
  ·exact .inl rfl
  ·refine .inr ⟨rfl,?_⟩
   exact Jw
 clear h3;have d3:decide (16<(name.size:Int))=false:=by simp;omega
 have d4:decide (64<(key.size:Int))=false:=by simp;omega
 clear h4;have f1:(E==0)=false:=by simpa using h5
 have f2:(E != 0)=true:=by simpa using h5
 clear h5
 rcases hb with rfl|⟨rfl,hn⟩
 all_goals
  go_enter func70,ntmps70;go_wp2_with refine au (jD HK 0) ?_;refine cb (HN.out _) HK ?_;clear HK;intro _ HK;go_upto_region 2 with (first|(refine jy HK ?_;clear HK;intro _ g3 HK;simp only[aO,aJ] at HK)|(refine jw HK 1 ?_;clear HK;intro _ HK _;simp only[lS] at HK));obtain⟨ou,oq,oo,oh,rH,rG,rE,rD,rC,ru,iX,iW,iV⟩:=Kn.cmd HK.out 0 rfl;obtain⟨qE,qD,qZ,qY,qX,qW⟩:=Kn.flags HK.out 1 rfl;go_wp2_with fail;refine cb (HO.out _) HK ?_;clear HK;intro _ HK;clear ou oq oo oh rH rG rE rD rC ru iX iW iV qE qD qZ qY qX qW;obtain⟨ou,oq,oo,oh,rH,rG,rE,rD,rC,ru,iX,iW,iV⟩:=Kn.cmd HK.out 0 rfl;obtain⟨qE,qD,qZ,qY,qX,qW⟩:=Kn.flags HK.out 1 rfl;go_wp2_with fail;refine cb (oU.out _) HK ?_;exact aeS
theorem afi(c:aF.C)(w:World)(hv:c.val.f<18446744073709551616)(ho:c.old.f<18446744073709551616)(hdef:¬(c.k<1∨18<c.k)∧decide (aF.others c)=true∧¬(aF.f0 c.k=true∧c.name.size=0)∧¬(16<c.name.size∨64<c.key.size)∧Val.bG c.old=0∧Val.bG c.val≠0∧True∧aF.bG c=Val.bG c.val):Calls prog 70 #[.agg (dh c)] w (gX (aF.bG c) w):=by
 have HN:=zH (fun W=>gZ c.k W);have HO:=zH (fun W=>gF c W);have HM:=zH (fun W=>fM c W);have oU:=zH (fun W=>bR c.old W ho);have LC:=zH (fun W=>bR c.val W hv);have HE:Hid (∀x:Int,aF.bG c=x→∀en w',(en=.returned (.int .i64 x)∧Below w.heap.size w w')→gX (aF.bG c) w en w'):=zH fun x hx en w' h=>by rw[hx];exact h
 clear hv ho;generalize aF.bG c=E at *
 generalize decide (aF.others c)=bo at *
 generalize decide (aF.nums c)=bn at *
 generalize Val.bG c.old=eo at *
 generalize Val.bG c.val=ev at *
 generalize aF.f0 c.k=b0 at *
 generalize aF.f1 c.k=b1 at *
 generalize aF.f2 c.k=b2 at *
 generalize aF.f3 c.k=b3 at *
 generalize aF.f4 c.k=b4 at *
 generalize aF.f5 c.k=b5 at *
 obtain⟨k,name,key,⟨vk,vn,vf,vs⟩,⟨ok,on,of,os⟩,n,m⟩:=c;unfold dh Jj gX at *
 simp only at *
 have HK:=iK w 37 (cO k name key vk vn vf vs ok on of os n m);obtain⟨h1,rfl,h3,h4,rfl,h6,_,rfl⟩:=hdef;have d1:decide (k<1)=false:=by simp;omega
 have d2:decide (18<k)=false:=by simp;omega
 clear h1
 have hb:b0=false∨(b0=true∧(name.toList==[])=false):=by
  rcases b0 with _|_
  ·exact .inl rfl
  ·refine .inr ⟨rfl,?_⟩
   exact Jw
 clear h3;have d3:decide (16<(name.size:Int))=false:=by simp;omega
 have d4:decide (64<(key.size:Int))=false:=by simp;omega
 clear h4;have f2:(E != 0)=true:=by simpa using h6
 clear h6
 rcases hb with rfl|⟨rfl,hn⟩
 all_goals
  go_enter func70,ntmps70;go_wp2_with refine au (jD HK 0) ?_;refine cb (HN.out _) HK ?_;clear HK;intro _ HK;go_upto_region 2 with (first|(refine jy HK ?_;clear HK;intro _ g3 HK;simp only[aO,aJ] at HK)|(refine jw HK 1 ?_;clear HK;intro _ HK _;simp only[lS] at HK));obtain⟨ou,oq,oo,oh,rH,rG,rE,rD,rC,ru,iX,iW,iV⟩:=Kn.cmd HK.out 0 rfl;obtain⟨qE,qD,qZ,qY,qX,qW⟩:=Kn.flags HK.out 1 rfl;go_wp2_with fail;refine cb (HO.out _) HK ?_;clear HK;intro _ HK;clear ou oq oo oh rH rG rE rD rC ru iX iW iV qE qD qZ qY qX qW;obtain⟨ou,oq,oo,oh,rH,rG,rE,rD,rC,ru,iX,iW,iV⟩:=Kn.cmd HK.out 0 rfl;obtain⟨qE,qD,qZ,qY,qX,qW⟩:=Kn.flags HK.out 1 rfl;go_wp2_with fail;refine cb (oU.out _) HK ?_;clear HK;intro _ HK;clear ou oq oo oh rH rG rE rD rC ru iX iW iV qE qD qZ qY qX qW;obtain⟨ou,oq,oo,oh,rH,rG,rE,rD,rC,ru,iX,iW,iV⟩:=Kn.cmd HK.out 0 rfl;obtain⟨qE,qD,qZ,qY,qX,qW⟩:=Kn.flags HK.out 1 rfl;go_wp2_with fail;refine cb (LC.out _) HK ?_;exact aeS
theorem abZ(c:aF.C)(w:World)(hv:c.val.f<18446744073709551616)(ho:c.old.f<18446744073709551616)(hdef:¬(c.k<1∨18<c.k)∧decide (aF.others c)=true∧¬(aF.f0 c.k=true∧c.name.size=0)∧¬(16<c.name.size∨64<c.key.size)∧Val.bG c.old=0∧Val.bG c.val=0∧(c.k=7∨c.k=10)∧c.val.k=0∧aF.bG c=1):Calls prog 70 #[.agg (dh c)] w (gX (aF.bG c) w):=by
 have HN:=zH (fun W=>gZ c.k W);have HO:=zH (fun W=>gF c W);have HM:=zH (fun W=>fM c W);have oU:=zH (fun W=>bR c.old W ho);have LC:=zH (fun W=>bR c.val W hv);have HE:Hid (∀x:Int,aF.bG c=x→∀en w',(en=.returned (.int .i64 x)∧Below w.heap.size w w')→gX (aF.bG c) w en w'):=zH fun x hx en w' h=>by rw[hx];exact h
 clear hv ho;generalize aF.bG c=E at *
 generalize decide (aF.others c)=bo at *
 generalize decide (aF.nums c)=bn at *
 generalize Val.bG c.old=eo at *
 generalize Val.bG c.val=ev at *
 generalize aF.f0 c.k=b0 at *
 generalize aF.f1 c.k=b1 at *
 generalize aF.f2 c.k=b2 at *
 generalize aF.f3 c.k=b3 at *
 generalize aF.f4 c.k=b4 at *
 generalize aF.f5 c.k=b5 at *
 obtain⟨k,name,key,⟨vk,vn,vf,vs⟩,⟨ok,on,of,os⟩,n,m⟩:=c;unfold dh Jj gX at *
 simp only at *
 have HK:=iK w 37 (cO k name key vk vn vf vs ok on of os n m);obtain⟨h1,rfl,h3,h4,rfl,rfl,hk,rfl,rfl⟩:=hdef
 have hb:b0=false∨(b0=true∧(name.toList==[])=false):=by
  rcases b0 with _|_
  ·exact .inl rfl
  ·refine .inr ⟨rfl,?_⟩
   exact Jw
 clear h3;have d3:decide (16<(name.size:Int))=false:=by simp;omega
 have d4:decide (64<(key.size:Int))=false:=by simp;omega
 clear h4;clear h1
 rcases hk with rfl|rfl<;>rcases hb with rfl|⟨rfl,hn⟩
 all_goals
  go_enter func70,ntmps70;go_wp2_with refine au (jD HK 0) ?_;refine cb (HN.out _) HK ?_;clear HK;intro _ HK;go_upto_region 2 with (first|(refine jy HK ?_;clear HK;intro _ g3 HK;simp only[aO,aJ] at HK)|(refine jw HK 1 ?_;clear HK;intro _ HK _;simp only[lS] at HK));obtain⟨ou,oq,oo,oh,rH,rG,rE,rD,rC,ru,iX,iW,iV⟩:=Kn.cmd HK.out 0 rfl;obtain⟨qE,qD,qZ,qY,qX,qW⟩:=Kn.flags HK.out 1 rfl;go_wp2_with fail;refine cb (HO.out _) HK ?_;clear HK;intro _ HK;clear ou oq oo oh rH rG rE rD rC ru iX iW iV qE qD qZ qY qX qW;obtain⟨ou,oq,oo,oh,rH,rG,rE,rD,rC,ru,iX,iW,iV⟩:=Kn.cmd HK.out 0 rfl;obtain⟨qE,qD,qZ,qY,qX,qW⟩:=Kn.flags HK.out 1 rfl;go_wp2_with fail;refine cb (oU.out _) HK ?_;clear HK;intro _ HK;clear ou oq oo oh rH rG rE rD rC ru iX iW iV qE qD qZ qY qX qW;obtain⟨ou,oq,oo,oh,rH,rG,rE,rD,rC,ru,iX,iW,iV⟩:=Kn.cmd HK.out 0 rfl;obtain⟨qE,qD,qZ,qY,qX,qW⟩:=Kn.flags HK.out 1 rfl;go_wp2_with fail;refine cb (LC.out _) HK ?_;clear HK;intro _ HK;clear ou oq oo oh rH rG rE rD rC ru iX iW iV qE qD qZ qY qX qW;exact aeH
theorem abY(c:aF.C)(w:World)(hv:c.val.f<18446744073709551616)(ho:c.old.f<18446744073709551616)(hdef:¬(c.k<1∨18<c.k)∧decide (aF.others c)=true∧¬(aF.f0 c.k=true∧c.name.size=0)∧¬(16<c.name.size∨64<c.key.size)∧Val.bG c.old=0∧Val.bG c.val=0∧¬((c.k=7∨c.k=10)∧c.val.k=0)∧c.k=15∧c.val.k≠2∧aF.bG c=7):Calls prog 70 #[.agg (dh c)] w (gX (aF.bG c) w):=by
 have HN:=zH (fun W=>gZ c.k W);have HO:=zH (fun W=>gF c W);have HM:=zH (fun W=>fM c W);have oU:=zH (fun W=>bR c.old W ho);have LC:=zH (fun W=>bR c.val W hv);have HE:Hid (∀x:Int,aF.bG c=x→∀en w',(en=.returned (.int .i64 x)∧Below w.heap.size w w')→gX (aF.bG c) w en w'):=zH fun x hx en w' h=>by rw[hx];exact h
 clear hv ho;generalize aF.bG c=E at *
 generalize decide (aF.others c)=bo at *
 generalize decide (aF.nums c)=bn at *
 generalize Val.bG c.old=eo at *
 generalize Val.bG c.val=ev at *
 generalize aF.f0 c.k=b0 at *
 generalize aF.f1 c.k=b1 at *
 generalize aF.f2 c.k=b2 at *
 generalize aF.f3 c.k=b3 at *
 generalize aF.f4 c.k=b4 at *
 generalize aF.f5 c.k=b5 at *
 obtain⟨k,name,key,⟨vk,vn,vf,vs⟩,⟨ok,on,of,os⟩,n,m⟩:=c;unfold dh Jj gX at *
 simp only at *
 have HK:=iK w 37 (cO k name key vk vn vf vs ok on of os n m);obtain⟨h1,rfl,h3,h4,rfl,rfl,h7,rfl,h8,rfl⟩:=hdef
 have hb:b0=false∨(b0=true∧(name.toList==[])=false):=by
  rcases b0 with _|_
  ·exact .inl rfl
  ·refine .inr ⟨rfl,?_⟩
   exact Jw
 clear h3;have d3:decide (16<(name.size:Int))=false:=by simp;omega
 have d4:decide (64<(key.size:Int))=false:=by simp;omega
 clear h4;have f3:(vk != 2)=true:=by simpa using h8
 clear h1 h7 h8
 rcases hb with rfl|⟨rfl,hn⟩
 all_goals
  go_enter func70,ntmps70;go_wp2_with refine au (jD HK 0) ?_;refine cb (HN.out _) HK ?_;clear HK;intro _ HK;go_upto_region 2 with (first|(refine jy HK ?_;clear HK;intro _ g3 HK;simp only[aO,aJ] at HK)|(refine jw HK 1 ?_;clear HK;intro _ HK _;simp only[lS] at HK));obtain⟨ou,oq,oo,oh,rH,rG,rE,rD,rC,ru,iX,iW,iV⟩:=Kn.cmd HK.out 0 rfl;obtain⟨qE,qD,qZ,qY,qX,qW⟩:=Kn.flags HK.out 1 rfl;go_wp2_with fail;refine cb (HO.out _) HK ?_;clear HK;intro _ HK;clear ou oq oo oh rH rG rE rD rC ru iX iW iV qE qD qZ qY qX qW;obtain⟨ou,oq,oo,oh,rH,rG,rE,rD,rC,ru,iX,iW,iV⟩:=Kn.cmd HK.out 0 rfl;obtain⟨qE,qD,qZ,qY,qX,qW⟩:=Kn.flags HK.out 1 rfl;go_wp2_with fail;refine cb (oU.out _) HK ?_;clear HK;intro _ HK;clear ou oq oo oh rH rG rE rD rC ru iX iW iV qE qD qZ qY qX qW;obtain⟨ou,oq,oo,oh,rH,rG,rE,rD,rC,ru,iX,iW,iV⟩:=Kn.cmd HK.out 0 rfl;obtain⟨qE,qD,qZ,qY,qX,qW⟩:=Kn.flags HK.out 1 rfl;go_wp2_with fail;refine cb (LC.out _) HK ?_;clear HK;intro _ HK;clear ou oq oo oh rH rG rE rD rC ru iX iW iV qE qD qZ qY qX qW;obtain⟨ou,oq,oo,oh,rH,rG,rE,rD,rC,ru,iX,iW,iV⟩:=Kn.cmd HK.out 0 rfl;obtain⟨qE,qD,qZ,qY,qX,qW⟩:=Kn.flags HK.out 1 rfl;go_wp2_with fail;go_ret;exact HE.out 7 rfl _ _ ⟨rfl,HK.out.b⟩
theorem abX(c:aF.C)(w:World)(hv:c.val.f<18446744073709551616)(ho:c.old.f<18446744073709551616)(hdef:¬(c.k<1∨18<c.k)∧decide (aF.others c)=true∧¬(aF.f0 c.k=true∧c.name.size=0)∧¬(16<c.name.size∨64<c.key.size)∧Val.bG c.old=0∧Val.bG c.val=0∧¬((c.k=7∨c.k=10)∧c.val.k=0)∧¬(c.k=15∧c.val.k≠2)∧decide (aF.nums c)=false∧aF.bG c=1):Calls prog 70 #[.agg (dh c)] w (gX (aF.bG c) w):=by
 have HN:=zH (fun W=>gZ c.k W);have HO:=zH (fun W=>gF c W);have HM:=zH (fun W=>fM c W);have oU:=zH (fun W=>bR c.old W ho);have LC:=zH (fun W=>bR c.val W hv);have HE:Hid (∀x:Int,aF.bG c=x→∀en w',(en=.returned (.int .i64 x)∧Below w.heap.size w w')→gX (aF.bG c) w en w'):=zH fun x hx en w' h=>by rw[hx];exact h
 clear hv ho;generalize aF.bG c=E at *
 generalize decide (aF.others c)=bo at *
 generalize decide (aF.nums c)=bn at *
 generalize Val.bG c.old=eo at *
 generalize Val.bG c.val=ev at *
 generalize aF.f0 c.k=b0 at *
 generalize aF.f1 c.k=b1 at *
 generalize aF.f2 c.k=b2 at *
 generalize aF.f3 c.k=b3 at *
 generalize aF.f4 c.k=b4 at *
 generalize aF.f5 c.k=b5 at *
 obtain⟨k,name,key,⟨vk,vn,vf,vs⟩,⟨ok,on,of,os⟩,n,m⟩:=c;unfold dh Jj gX at *
 simp only at *
 have HK:=iK w 37 (cO k name key vk vn vf vs ok on of os n m);obtain⟨h1,rfl,h3,h4,rfl,rfl,h7,h8,rfl,rfl⟩:=hdef
 have hb:b0=false∨(b0=true∧(name.toList==[])=false):=by
  rcases b0 with _|_
  ·exact .inl rfl
  ·refine .inr ⟨rfl,?_⟩
   exact Jw
 clear h3;have d3:decide (16<(name.size:Int))=false:=by simp;omega
 have d4:decide (64<(key.size:Int))=false:=by simp;omega
 clear h4
 have hk:(k=7∧(vk==0)=false)∨(k=10∧(vk==0)=false)∨(k=15∧vk=2)∨((k==7)=false∧(k==10)=false∧(k==15)=false):=by
  by_cases k7:k=7
  ·exact .inl ⟨k7,by simpa using fun e=>h7 ⟨.inl k7,e⟩⟩
  by_cases k10:k=10
  ·exact .inr (.inl ⟨k10,by simpa using fun e=>h7 ⟨.inr k10,e⟩⟩)
  by_cases k15:k=15
  ·exact .inr (.inr (.inl ⟨k15,Decidable.byContradiction fun e=>h8 ⟨k15,e⟩⟩))
  ·exact .inr (.inr (.inr ⟨by simpa using k7,by simpa using k10,by simpa using k15⟩))
 clear h7 h8;have d1:decide (k<1)=false:=by simp;omega
 have d2:decide (18<k)=false:=by simp;omega
 clear h1
 rcases hb with rfl|⟨rfl,hn⟩<;>rcases hk with ⟨rfl,f3⟩|⟨rfl,f3⟩|⟨rfl,rfl⟩|⟨f3,f4,f5⟩
 all_goals
  exact zq6
theorem abW(c:aF.C)(w:World)(hv:c.val.f<18446744073709551616)(ho:c.old.f<18446744073709551616)(hdef:¬(c.k<1∨18<c.k)∧decide (aF.others c)=true∧¬(aF.f0 c.k=true∧c.name.size=0)∧¬(16<c.name.size∨64<c.key.size)∧Val.bG c.old=0∧Val.bG c.val=0∧¬((c.k=7∨c.k=10)∧c.val.k=0)∧¬(c.k=15∧c.val.k≠2)∧decide (aF.nums c)=true∧aF.bG c=0):Calls prog 70 #[.agg (dh c)] w (gX (aF.bG c) w):=by
 have HN:=zH (fun W=>gZ c.k W);have HO:=zH (fun W=>gF c W);have HM:=zH (fun W=>fM c W);have oU:=zH (fun W=>bR c.old W ho);have LC:=zH (fun W=>bR c.val W hv);have HE:Hid (∀x:Int,aF.bG c=x→∀en w',(en=.returned (.int .i64 x)∧Below w.heap.size w w')→gX (aF.bG c) w en w'):=zH fun x hx en w' h=>by rw[hx];exact h
 clear hv ho;generalize aF.bG c=E at *
 generalize decide (aF.others c)=bo at *
 generalize decide (aF.nums c)=bn at *
 generalize Val.bG c.old=eo at *
 generalize Val.bG c.val=ev at *
 generalize aF.f0 c.k=b0 at *
 generalize aF.f1 c.k=b1 at *
 generalize aF.f2 c.k=b2 at *
 generalize aF.f3 c.k=b3 at *
 generalize aF.f4 c.k=b4 at *
 generalize aF.f5 c.k=b5 at *
 obtain⟨k,name,key,⟨vk,vn,vf,vs⟩,⟨ok,on,of,os⟩,n,m⟩:=c;unfold dh Jj gX at *
 simp only at *
 have HK:=iK w 37 (cO k name key vk vn vf vs ok on of os n m);obtain⟨h1,rfl,h3,h4,rfl,rfl,h7,h8,rfl,rfl⟩:=hdef
 have hb:b0=false∨(b0=true∧(name.toList==[])=false):=by
  rcases b0 with _|_
  ·exact .inl rfl
  ·refine .inr ⟨rfl,?_⟩
   exact Jw
 clear h3;have d3:decide (16<(name.size:Int))=false:=by simp;omega
 have d4:decide (64<(key.size:Int))=false:=by simp;omega
 clear h4
 have hk:(k=7∧(vk==0)=false)∨(k=10∧(vk==0)=false)∨(k=15∧vk=2)∨((k==7)=false∧(k==10)=false∧(k==15)=false):=by
  by_cases k7:k=7
  ·exact .inl ⟨k7,by simpa using fun e=>h7 ⟨.inl k7,e⟩⟩
  by_cases k10:k=10
  ·exact .inr (.inl ⟨k10,by simpa using fun e=>h7 ⟨.inr k10,e⟩⟩)
  by_cases k15:k=15
  ·exact .inr (.inr (.inl ⟨k15,Decidable.byContradiction fun e=>h8 ⟨k15,e⟩⟩))
  ·exact .inr (.inr (.inr ⟨by simpa using k7,by simpa using k10,by simpa using k15⟩))
 clear h7 h8;have d1:decide (k<1)=false:=by simp;omega
 have d2:decide (18<k)=false:=by simp;omega
 clear h1
 rcases hb with rfl|⟨rfl,hn⟩<;>rcases hk with ⟨rfl,f3⟩|⟨rfl,f3⟩|⟨rfl,rfl⟩|⟨f3,f4,f5⟩
 all_goals
  exact zq6
theorem iG(c:aF.C)(w:World)(hv:c.val.f<18446744073709551616)(ho:c.old.f<18446744073709551616):Calls prog 70 #[.agg (dh c)] w (gX (aF.bG c) w):=by
 rcases aF.Qv c with h|h|h|h|h|h|⟨h1,h2,h3,h4,h5,h6,h|h|h|h⟩
 ·exact afn c w hv ho h
 ·exact afm c w hv ho h
 ·exact afl c w hv ho h
 ·exact afk c w hv ho h
 ·exact afj c w hv ho h
 ·exact afi c w hv ho h
 ·exact abZ c w hv ho ⟨h1,h2,h3,h4,h5,h6,h⟩
 ·exact abY c w hv ho ⟨h1,h2,h3,h4,h5,h6,h⟩
 ·exact abX c w hv ho ⟨h1,h2,h3,h4,h5,h6,h⟩
 ·exact abW c w hv ho ⟨h1,h2,h3,h4,h5,h6,h⟩
end
section
theorem Lf(e:aF.E)(w:World):Calls prog 60 #[.agg #[.int .i64 e.c,.int .i64 e.e,.int .i64 e.r]] w fun en w'=>en=.returned (.bool (decide (aF.right e)))∧Below w.heap.size w w':=by
 have HE:Hid (∀q:Bool,(q=true↔(0≤e.c∧e.c<5∧1≤e.e∧0≤e.r))→q=decide (aF.right e)):=zH fun q hq=>by
  exact FW
 generalize decide (aF.right e)=r at *
 obtain⟨c,ep,rq,cmd⟩:=e;simp only at HE ⊢;have HK:=iK w 35 #[.int .i64 c,.int .i64 ep,.int .i64 rq];go_enter func60,ntmps60;go_wp2_with fail
 all_goals
  go_ret;refine⟨congrArg (fun b=>Ending.returned (.bool b)) (HE.out _ ?_),HK.out.b⟩;clear HE HK
  simp_all<;>omega
theorem Bj(e:aF.E)(q:Bool)(h:q=true↔(decide (aF.right e)=true∧aF.bG e.cmd=0∧(e.r=0↔(e.cmd.k=1∨e.cmd.k=18)))):q=decide (aF.fits e):=by
 rw[Bool.eq_iff_iff,h,decide_eq_true_eq,decide_eq_true_eq];exact Iff.rfl
theorem ng(e:aF.E)(w:World)(hv:e.cmd.val.f<18446744073709551616)(ho:e.cmd.old.f<18446744073709551616):Calls prog 23 #[.agg (iN e)] w fun en w'=>en=.returned (.bool (decide (aF.fits e)))∧Below w.heap.size w w':=by
 have HE:=zH (Bj e);have HR:=zH (fun W=>Lf e W);have HC:=zH (fun W=>Nz e.cmd W hv ho);clear hv ho;generalize decide (aF.fits e)=d at *
 generalize decide (aF.right e)=dr at *
 generalize aF.bG e.cmd=z at *
 obtain⟨c,ep,r,k,name,key,⟨vk,vn,vf,vs⟩,⟨ok,on,of,os⟩,n,m⟩:=e;unfold iN dh gX at *
 simp only at HE HR HC ⊢;have HK:=iK w 39 (Vk c ep r k name key vk vn vf vs ok on of os n m);have hk:k=1∨k=18∨(¬k=1∧¬k=18):=by omega
 have hz:(z=0)∨(z==0)=false:=by
  by_cases h:z=0
  ·exact .inl h
  ·exact .inr (by simpa using h)
 have hr:(r=0)∨(¬r=0):=by omega
 obtain⟨ou,oq,oo,oh,-⟩:=Kn.ev HK.out 0 rfl
 rcases hk with rfl|rfl|⟨hk1,hk2⟩<;>cases dr
 all_goals
  go_enter func23,ntmps23;go_wp2_with refine au (aY HK 0) ?_;refine(HR.out _).mono ?_;rintro e w1 ⟨rfl,b1⟩;replace HK:=iy HK b1;clear b1 ou oq oo oh;obtain⟨ou,oq,oo,oh,-⟩:=Kn.ev HK.out 0 rfl
 all_goals first
  | (
   go_wp2_with fail;go_ret;refine⟨congrArg (fun b=>Ending.returned (.bool b)) (HE.out _ ?_),HK.out.b⟩
   simp;done)
  | (
   go_wp2_with refine au (mZ HK 0) ?_;refine(HC.out _).mono ?_;rintro e w2 ⟨rfl,b2⟩;replace HK:=iy HK b2;clear b2 ou oq oo oh;obtain⟨ou,oq,oo,oh,-⟩:=Kn.ev HK.out 0 rfl
   rcases hz with rfl|hz<;>rcases hr with rfl|hr
   all_goals
    go_wp2_with fail;go_ret;refine⟨congrArg (fun b=>Ending.returned (.bool b)) (HE.out _ ?_),HK.out.b⟩;clear HK HC HR HE
    simp_all<;>(rw[beq_false_of_ne hr,beq_false_of_ne hk1,beq_false_of_ne hk2];rfl))
theorem Bu(e:aF.E)(w:World)(hv:e.cmd.val.f<18446744073709551616)(ho:e.cmd.old.f<18446744073709551616):Calls prog 28 #[.agg (iN e)] w fun en w'=>en=.returned (.bool (decide (aF.fits e)))∧Below w.heap.size w w':=by
 have HE:=zH (Bj e);have HR:=zH (fun W=>II e W);have HC:=zH (fun W=>iG e.cmd W hv ho);clear hv ho;generalize decide (aF.fits e)=d at *
 generalize decide (aF.right e)=dr at *
 generalize aF.bG e.cmd=z at *
 obtain⟨c,ep,r,k,name,key,⟨vk,vn,vf,vs⟩,⟨ok,on,of,os⟩,n,m⟩:=e;unfold iN dh gX at *
 simp only at HE HR HC ⊢;have HK:=iK w 39 (Vk c ep r k name key vk vn vf vs ok on of os n m)
 have hz:(z=0)∨(z != 0)=true:=by
  by_cases h:z=0
  ·exact .inl h
  ·exact .inr (by simpa using h)
 cases dr
 all_goals
  go_enter func28,ntmps28;go_wp2_with refine au (aY HK 0) ?_;refine cb (HR.out _) HK ?_;clear HK;intro _ HK
 ·go_wp2_with fail
  go_ret;exact⟨congrArg (fun b=>Ending.returned (.bool b)) (HE.out _ (by simp)),HK.out.b⟩
 ·go_wp2_with refine au (mZ HK 0) ?_
  refine cb (HC.out _) HK ?_;clear HK;intro _ HK;obtain⟨ou,oq,oo,oh,-⟩:=Kn.ev HK.out 0 rfl
  rcases hz with rfl|hz
  ·have hk:k=1∨k=18∨(¬k=1∧¬k=18):=by omega
   have hr:(r=0)∨(¬r=0):=by omega
   rcases hk with rfl|rfl|⟨hk1,hk2⟩<;>rcases hr with rfl|hr
   all_goals
    go_wp2_with fail;go_ret;refine⟨congrArg (fun b=>Ending.returned (.bool b)) (HE.out _ ?_),HK.out.b⟩;clear HK HC HR HE
    simp_all<;>(rw[beq_false_of_ne hr,beq_false_of_ne hk1,beq_false_of_ne hk2];rfl)
  ·go_wp2_with fail
   go_ret;refine⟨congrArg (fun b=>Ending.returned (.bool b)) (HE.out _ ?_),HK.out.b⟩;clear HK HC HR HE
   simp_all
end
section
namespace Ap
theorem Tg{s:St}(h:Ok s){c:Int}(hc:0≤c∧c<5)(hl:(s.t.get c).live=true)(hd:(s.t.get c).dn=false):((dX s c).t.get c).p=av.err 14:=by
 rw[Dm h hc hl];exact(sZ _).2.2.2.2.2 hd
def exS(s:St)(r:Rf):St:=if (s.t.get r.c).live=true∧(s.t.get r.c).ep=r.e then dX s r.c else s
def exO(s:St)(r:Rf):List av.Ot:=if (s.t.get r.c).live=true∧(s.t.get r.c).ep=r.e then eZ s r.c else []
theorem afU{e:aF.E}(he:aF.fits e)(hk:¬e.cmd.k=18)(s:St):doS s e=(if e.r=0 then jN s (ref e) else gB s (ref e) e.cmd)∧doO s e=(if e.r=0 then nK s (ref e) else jE s (ref e) e.cmd):=by
 have h:=he.2.2;unfold doS doO;by_cases h1:e.cmd.k=1
 ·rw[if_pos h1,if_pos h1,if_pos (h.2 (.inl h1)),if_pos (h.2 (.inl h1))]
  exact ni
 ·have h0:¬e.r=0:=fun g=>(h.1 g).elim h1 hk
  rw[if_neg h1,if_neg h1,if_neg h0,if_neg h0];exact ni
end Ap
theorem Fz(G:World→Prop)(n:Int)(A:Option Addr)(k cp:Nat)(t:aH.T)(lo:List Oh)(r:Rf)(w:World)(hG:∀W,G W→bY W A k cp lo)(hs:bY w A k cp lo)(hf:aH.Fit t)(hc:0≤r.c∧r.c<5)
  (hP:(t.get r.c).live=true→(t.get r.c).dn=false→((Ap.dX ⟨n,vs lo,t⟩ r.c).t.get r.c).p=av.err 14) :
  Calls prog 24 #[.agg (stA n A k cp t),.agg #[.int .i64 r.c,.int .i64 r.e,.int .i64 r.r]] w (dB G (Ap.exS ⟨n,vs lo,t⟩ r) (Ap.exO ⟨n,vs lo,t⟩ r) w):=by
 have HK:=kX w 33 (stA n A k cp t) 35 #[.int .i64 r.c,.int .i64 r.e,.int .i64 r.r];have hs2:∀W,Below w.heap.size w W→bY W A k cp lo:=fun W hW=>hs.later hW
 unfold Ap.exS Ap.exO;dsimp only;by_cases hh:(t.get r.c).live=true∧(t.get r.c).ep=r.e
 case pos=>
  rw[if_pos hh,if_pos hh];obtain⟨h1,h2⟩:=hh;have zi:=zH (fun W (hW:Below w.heap.size w W)=>(yg n A k cp t lo r.c W (hs2 W hW) hf hc (hP h1)).mono (fun en w' h=>dB.mono h (fun W (_:G W)=>trivial)));unfold dB at zi;have QI:=zH h1;have mE:=zH h2;clear hs hG hf hP hs2 h1 h2;generalize Ap.dX ⟨n,vs lo,t⟩ r.c=s2 at *
  generalize Ap.eZ ⟨n,vs lo,t⟩ r.c=os at *
  obtain⟨n2,l2,t2⟩:=s2;dsimp only at *
  go_enter func24,ntmps24;go_upto_region 2 with (first|(refine aU HK ?_;clear HK;intro _ g1 HK;simp only[aO,aJ] at HK)|refine zX (iY (x:=r) HK 1) ?_|refine zX (dV hc) ?_|refine zX (oK HK 0 hc) ?_|(refine bE HK ?_;clear HK;intro _ g2 HK;simp only[aO,aJ] at HK)|(refine bD (u:=t.get r.c) HK 3 ?_;clear HK;intro _ HK;simp only[lS] at HK));have fl:=HK.out.cell 3 rfl 0 (v:=.bool true) (by rw[← QI.out];rfl);have fe:=HK.out.cell 3 rfl 1 (v:=.int .i64 r.e) (by rw[← mE.out];rfl);have fr:=HK.out.cell 1 rfl 1 (v:=.int .i64 r.e) rfl;have hb:(r.e != r.e)=false:=by simp
  go_upto_region 4 with fail;clear fl fe fr hb;go_wp2_with (first|refine zX (iB HK 0) ?_|refine zX (iY (x:=r) HK 1) ?_);refine(zi.out _ HK.out.b).mono ?_;rintro en w1 ⟨A2,k2,c2,lo2,O2,m2,d2,R2,rfl,HW2,q2,HI2⟩;replace HK:=zH (HK.out.join q2);clear q2 zi;simp only[aJ] at HK;go_wp2_with (refine bA HK 2 ?_;clear HK;intro _ HK;simp only[lS] at HK);refine dQ results24 (HK.out.blk 2 rfl) ?_;unfold dB;exact⟨A2,k2,c2,lo2,O2,m2,d2,_,rfl,HW2,HK.out.aA 0,HI2⟩
 case neg=>
 rw[if_neg hh,if_neg hh];have iA:=zH hG;by_cases h1:(t.get r.c).live=true
 ·have h2:¬(t.get r.c).ep=r.e:=fun g=>hh ⟨h1,g⟩
  have QI:=zH h1;clear hs hG hf hP hs2 h1 hh;go_enter func24,ntmps24;go_upto_region 2 with (first|(refine aU HK ?_;clear HK;intro _ g1 HK;simp only[aO,aJ] at HK)|refine zX (iY (x:=r) HK 1) ?_|refine zX (dV hc) ?_|refine zX (oK HK 0 hc) ?_|(refine bE HK ?_;clear HK;intro _ g2 HK;simp only[aO,aJ] at HK)|(refine bD (u:=t.get r.c) HK 3 ?_;clear HK;intro _ HK;simp only[lS] at HK));have fl:=HK.out.cell 3 rfl 0 (v:=.bool true) (by rw[← QI.out];rfl);have fe:=HK.out.cell 3 rfl 1 (v:=.int .i64 (t.get r.c).ep) rfl;have fr:=HK.out.cell 1 rfl 1 (v:=.int .i64 r.e) rfl;generalize (t.get r.c).ep=ep at *
  have hb:(ep != r.e)=true:=by simpa using h2
  clear h2;go_upto_region 3 with fail;clear fl fe fr hb;go_wp2_with (first|refine zX (iB HK 0) ?_|(refine bA HK 2 ?_;clear HK;intro _ HK;simp only[lS] at HK));refine dQ results24 (HK.out.blk 2 rfl) ?_;exact aeN
 ·have QI:=zH (Bool.eq_false_iff.2 h1)
  clear hs hG hf hP hs2 h1 hh;go_enter func24,ntmps24;go_upto_region 2 with (first|(refine aU HK ?_;clear HK;intro _ g1 HK;simp only[aO,aJ] at HK)|refine zX (iY (x:=r) HK 1) ?_|refine zX (dV hc) ?_|refine zX (oK HK 0 hc) ?_|(refine bE HK ?_;clear HK;intro _ g2 HK;simp only[aO,aJ] at HK)|(refine bD (u:=t.get r.c) HK 3 ?_;clear HK;intro _ HK;simp only[lS] at HK));have fl:=HK.out.cell 3 rfl 0 (v:=.bool false) (by rw[← QI.out];rfl);go_upto_region 3 with fail;clear fl;go_wp2_with (first|refine zX (iB HK 0) ?_|(refine bA HK 2 ?_;clear HK;intro _ HK;simp only[lS] at HK));refine dQ results24 (HK.out.blk 2 rfl) ?_;exact aeN
end
end Go.Proofs.YtieoeendnccafaaGreat
