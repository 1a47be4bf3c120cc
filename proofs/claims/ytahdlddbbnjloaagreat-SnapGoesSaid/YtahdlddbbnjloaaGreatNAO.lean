/- What snap's items returns: a state's items. No condition but those named. -/
import Derived.Test.YtahdlddbbnjloaaGreatNAL
import Derived.Test.YtahdlddbbnjloaaGreatNAN
set_option linter.unusedSimpArgs false
set_option linter.unusedVariables false
set_option maxRecDepth 100000
set_option maxHeartbeats 25600000
open Go.RowKit
namespace Go.Proofs.YtahdlddbbnjloaaGreat
open _root_.Go.Proofs.Tryz
section
theorem Il:(prog.info? 81).map (·.size)=some 3:=by kernel_rfl
def Ii(x:ny.It):Array Value:=#[.int .i64 x.k,.int .i64 x.n,.string x.s]
theorem ED{f:Func}{R:Ending→World→Prop}{a:Act}{w:World}{B:Nat}{x:ny.It}{q:Tmp}(hf:f.results=#[.cell q 81])(hb:eT w B 81 (Ii x))
  (hR:R (.returned (.agg (Ii x))) w) (h2:a.tmps[q]?=some (.pointer (some ⟨B,0,none⟩)):=by rfl)(hd:a.defers=[]:=by rfl):bodyPost prog f R Exit.ret a w:=
 bodyPost_ret (results_cell_row hf a.tmps w B _ _ (0,0) _ (by simp[h2]) hb underlying81 rfl Il) hd hR
def OU(x:ny.It)(w:World)(e:Ending)(w':World):Prop:=e=.returned (.agg (Ii x))∧Below w.heap.size w w'
theorem jA(n:Int)(w:World):Calls prog 29 #[.int .i64 n] w (OU (aA.n1 n) w):=by
 have HB:=zH ((Below.refl w.heap.size w).alloc (Nat.le_refl _) (.cells #[.int .i64 0,.int .i64 n,.string ⟨#[]⟩] 81));go_enter func29,ntmps29;go_wp2_with fail;exact ED (x:=aA.n1 n) results29 (eT.new w _ _) ⟨rfl,HB.out⟩
theorem Hg(s:ByteArray)(w:World):Calls prog 63 #[.string s] w (OU (aA.t1 s) w):=by
 have HB:=zH ((Below.refl w.heap.size w).alloc (Nat.le_refl _) (.cells #[.int .i64 1,.int .i64 0,.string s] 81));go_enter func63,ntmps63;go_wp2_with fail;exact ED (x:=aA.t1 s) results63 (eT.new w _ _) ⟨rfl,HB.out⟩
section
variable {b0:Nat}{w0 w:World}{L:List (Nat×TypeId×Array Value)}{R:List bV}{ops:Array Oper}{rest:List Oper}{o:Oper}{a:Act}{Q:Exit→Act→World→Prop}
theorem pX(HK:Hid (Kn b0 w0 w L R))
  (h:∀w' g,Hid (Kn b0 w0 w' (L++[(g,81,Ii ⟨0,0,⟨#[]⟩⟩)]) R)→wpList prog ops Q rest (a.put o.dst (.pointer (some ⟨g,0,none⟩))) w') (hgd:o.guard=none:=by rfl)(ho:o.op=.alloc 81:=by rfl):wpList prog ops Q (o::rest) a w:=
 wpList_plain hgd fun K hK=>by
  have h4:=h _ w.heap.size (zH (HK.out.alloc _ _));unfold Oper.wp execOp;simp only[ho];unfold Ii at h4;exact zV
theorem uN{g:Nat}{x y:ny.It}(HK:Hid (Kn b0 w0 w L R))(i:Nat){p:Operand}{q:Operand}
  (h:∀w',Hid (Kn b0 w0 w' (L.set i (g,81,Ii y)) R)→wpList prog ops Q rest (a.put o.dst undef) w') (hgd:o.guard=none:=by rfl)(ho:o.op=.store 81 p q:=by rfl)(hL:L[i]?=some (g,81,Ii x):=by rfl)(hx:a.eval p=.pointer (some ⟨g,0,none⟩):=by rfl)(hy:a.eval q=.agg (Ii y):=by rfl):wpList prog ops Q (o::rest) a w:=
 iL HK i hgd p q ho hL hx hy (by show 3≤3;decide) Il (h1:=(by simp[Ii,Value.oneCell'])) fun w' h1 h2=>h w' (by
  have e:putCells (Ii x) 0 (Ii y).toList=Ii y:=by
   rw[cK (vs:=(Ii y).toList) (cs:=Ii x),Array.toArray_toList]
  rw[e] at h1
  exact h1)
end
theorem Vj(b:Bool)(w:World):Calls prog 71 #[.bool b] w (OU (aA.fl b) w):=by
 have nk:=zH jA;have HK:=zH (Kn.start w);unfold OU at nk;cases b
 all_goals
  go_enter func71,ntmps71;go_wp2_with (refine pX HK ?_;clear HK;intro _ g1 HK;simp only[aK] at HK);refine cb (nk.out _ _) HK ?_;clear HK;intro _ HK;go_wp2_with (refine uN HK 0 ?_;clear HK;intro _ HK;simp only[lS] at HK);exact ED results71 (HK.out.blk 0 rfl) ⟨rfl,HK.out.b⟩
section
variable {P:Program}{α:Type}(La:Lay P α){b0:Nat}{w0 w:World}{L:List (Nat×TypeId×Array Value)}{R:List bV}{ops:Array Oper}{rest:List Oper}{o:Oper}{a:Act}{Q:Exit→Act→World→Prop}{K:Act→World→Prop}{E:Prop}
theorem TF{p1 p2 p3:α}(HK:Hid (Kn b0 w0 w L R))(hk:3*La.k≤65536)(hgd:o.guard=none){x:Operand}{y:Operand}{z:Operand}(ho:o.op=.buildSlice La.t 3 #[(0,x),(1,y),(2,z)]){v1 v2 v3:Value}(h1:a.eval x=v1)(h2:a.eval y=v2)(h3:a.eval z=v3)(c1:v1.cells.toList=La.f p1)(c2:v2.cells.toList=La.f p2)(c3:v3.cells.toList=La.f p3)
  (h:∀w' g,Hid (Kn b0 w0 w' L (R++[row La (.slice (some ⟨g,0,none⟩) 3 3) [p1,p2,p3]]))→Hid (Below w.heap.size w w')→K (a.put o.dst (.slice (some ⟨g,0,none⟩) 3 3)) w'):if Region.wanted o (yielded ops a.tmps)=true then Oper.wp P o a w K Q else E:=by
 rw[if_pos (by simp[Region.wanted,hgd])];exact uT La HK [p1,p2,p3] 3 _ ho [v1,v2,v3] (by simp[h1,h2,h3]) (by simp[c1,c2,c3]) (hsm:=hk) h
theorem oq{p1 p2 p3 p4:α}(HK:Hid (Kn b0 w0 w L R)){x:Operand}{y:Operand}{z:Operand}{u:Operand}{v1 v2 v3 v4:Value}
  (h:∀w' g,Hid (Kn b0 w0 w' L (R++[row La (.slice (some ⟨g,0,none⟩) 4 4) [p1,p2,p3,p4]]))→Hid (Below w.heap.size w w')→K (a.put o.dst (.slice (some ⟨g,0,none⟩) 4 4)) w') (hk:4*La.k≤65536:=by decide)(hgd:o.guard=none:=by rfl)(ho:o.op=.buildSlice La.t 4 #[(0,x),(1,y),(2,z),(3,u)]:=by rfl)(h1:a.eval x=v1:=by rfl)(h2:a.eval y=v2:=by rfl)(h3:a.eval z=v3:=by rfl)(h4:a.eval u=v4:=by rfl)(c1:v1.cells.toList=La.f p1:=by rfl)(c2:v2.cells.toList=La.f p2:=by rfl)(c3:v3.cells.toList=La.f p3:=by rfl)(c4:v4.cells.toList=La.f p4:=by rfl):if Region.wanted o (yielded ops a.tmps)=true then Oper.wp P o a w K Q else E:=by
 rw[if_pos (by simp[Region.wanted,hgd])];exact uT La HK [p1,p2,p3,p4] 4 _ ho [v1,v2,v3,v4] (by simp[h1,h2,h3,h4]) (by simp[c1,c2,c3,c4]) (hsm:=hk) h
theorem Gi{p1 p2 p3 p4 p5:α}(HK:Hid (Kn b0 w0 w L R)){x:Operand}{y:Operand}{z:Operand}{u:Operand}{t:Operand}{v1 v2 v3 v4 v5:Value}
  (h:∀w' g,Hid (Kn b0 w0 w' L (R++[row La (.slice (some ⟨g,0,none⟩) 5 5) [p1,p2,p3,p4,p5]]))→Hid (Below w.heap.size w w')→K (a.put o.dst (.slice (some ⟨g,0,none⟩) 5 5)) w') (hk:5*La.k≤65536:=by decide)(hgd:o.guard=none:=by rfl)(ho:o.op=.buildSlice La.t 5 #[(0,x),(1,y),(2,z),(3,u),(4,t)]:=by rfl)(h1:a.eval x=v1:=by rfl)(h2:a.eval y=v2:=by rfl)(h3:a.eval z=v3:=by rfl)(h4:a.eval u=v4:=by rfl)(h5:a.eval t=v5:=by rfl)(c1:v1.cells.toList=La.f p1:=by rfl)(c2:v2.cells.toList=La.f p2:=by rfl)(c3:v3.cells.toList=La.f p3:=by rfl)(c4:v4.cells.toList=La.f p4:=by rfl)(c5:v5.cells.toList=La.f p5:=by rfl):if Region.wanted o (yielded ops a.tmps)=true then Oper.wp P o a w K Q else E:=by
 rw[if_pos (by simp[Region.wanted,hgd])];exact uT La HK [p1,p2,p3,p4,p5] 5 _ ho [v1,v2,v3,v4,v5] (by simp[h1,h2,h3,h4,h5]) (by simp[c1,c2,c3,c4,c5]) (hsm:=hk) h
theorem oo(N:RP La){A1 A2 A3 A4 A5:Option Addr}{n1 c1 n2 c2 n3 c3 n4 c4 n5 c5:Nat}(HK:Hid (Kn b0 w0 w L R)){x:Operand}{y:Operand}{z:Operand}{u:Operand}{t:Operand}
  (h:∀w' g,Hid (Kn b0 w0 w' (L++[(g,La.t,#[.slice A1 n1 c1,.slice A2 n2 c2,.slice A3 n3 c3,.slice A4 n4 c4,.slice A5 n5 c5])]) R)→Hid (Below w.heap.size w w')→K (a.put o.dst (.slice (some ⟨g,0,none⟩) 5 5)) w') (hgd:o.guard=none:=by rfl)(ho:o.op=.buildSlice N.tt 5 #[(0,x),(1,y),(2,z),(3,u),(4,t)]:=by rfl)(h1:a.eval x=.slice A1 n1 c1:=by rfl)(h2:a.eval y=.slice A2 n2 c2:=by rfl)(h3:a.eval z=.slice A3 n3 c3:=by rfl)(h4:a.eval u=.slice A4 n4 c4:=by rfl)(h5:a.eval t=.slice A5 n5 c5:=by rfl):if Region.wanted o (yielded ops a.tmps)=true then Oper.wp P o a w K Q else E:=by
 rw[if_pos (by simp[Region.wanted,hgd])];exact NU La N HK 5 ho [.slice A1 n1 c1,.slice A2 n2 c2,.slice A3 n3 c3,.slice A4 n4 c4,.slice A5 n5 c5] (by simp[h1,h2,h3,h4,h5]) rfl h
end
theorem nG(v:Val.V):1≤(Val.items v).length∧(Val.items v).length≤2:=by
 rw[sI];(repeat' split)<;>simp
section
variable {b0:Nat}{w0 w:World}{L:List (Nat×TypeId×Array Value)}{R:List bV}{o:Oper}{a:Act}{g:Nat}{s:aG.S}
theorem afy(HK:Hid (Kn b0 w0 w L R))(i:Nat){x:Operand}(ho:o.op=.load 23 x)(hL:L[i]?=some (g,30,fK s))(hx:a.eval x=.pointer (some ⟨g,4,none⟩)):
  (execOp a.eval o).run prog w=.ok (.value (.int .i64 s.p.e)) w:=aT HK 23 x ho i hL hx underlying23
theorem afx(HK:Hid (Kn b0 w0 w L R))(i:Nat){x:Operand}(ho:o.op=.load 26 x)(hL:L[i]?=some (g,30,fK s))(hx:a.eval x=.pointer (some ⟨g,5,none⟩)):
  (execOp a.eval o).run prog w=.ok (.value (.agg #[.int .i64 s.p.v.k,.int .i64 s.p.v.n,.int .u64 (s.p.v.f:Int),.string s.p.v.s])) w:=
 dY HK x ho i hL hx #[.int .i64 s.p.v.k,.int .i64 s.p.v.n,.int .u64 (s.p.v.f:Int),.string s.p.v.s] (fun j hj=>by
  match j,hj with
  | 0,_|1,_|2,_|3,_=>rfl) underlying26 iy
end
theorem aaz{l:List ny.It}{w:World}{e:Ending}{w':World}(h:MP l w e w'):gY aD l w e w':=by
 obtain⟨A,c,h1,h2,h3⟩:=h;exact⟨A,_,c,h1,h2,h3⟩
theorem AY(v:Val.V)(w:World)(hf:v.f<18446744073709551616):Calls prog 67 #[vv v] w (gY aD (Val.items v) w):=(Ag v w hf).mono fun e w' h=>aaz h
theorem ZY(r:Rf)(w:World):Calls prog 69 #[rv r] w (gY aD (aA.yV r) w):=by
 have nk:=zH jA;have HK:=jw w 44 #[.int .i64 r.c,.int .i64 r.e,.int .i64 r.r];unfold OU at nk;unfold rv gY aA.yV;go_enter func69,ntmps69;go_wp2_with fail;have aj:=zH HK.out.drew;refine zR HK.out.drew fun ah=>?_
 refine ak 0 rfl ?_;refine ak 1 rfl ?_ fun _ s=>jN s 0
 refine ak 3 rfl ?_;refine ak 4 rfl ?_ fun _ s=>QL s 0 (by rfl) (by rfl) (by rfl)
 refine ak 6 rfl ?_;refine ak 7 rfl ?_ fun _ s=>Ig s 0
 refine aC 2 rfl fun K hK=>?_
 go_simp;go_at_call 29;refine(nk.out _ _).mono ?_;rintro e w5 ⟨rfl,b5⟩;replace aj:=zH (aj.out.call b5);have hs:=aj;clear b5;refine bk hK hs fun ah=>?_
 clear hK K;refine aC 5 rfl fun K hK=>?_
 go_simp;go_at_call 29;refine(nk.out _ _).mono ?_;rintro e w5 ⟨rfl,b5⟩;replace aj:=zH (aj.out.call b5);have hs:=aj;clear b5;refine bk hK hs fun ah=>?_
 clear hK K;refine aC 8 rfl fun K hK=>?_
 go_simp;go_at_call 29;refine(nk.out _ _).mono ?_;rintro e w5 ⟨rfl,b5⟩;replace aj:=zH (aj.out.call b5);have hs:=aj;clear b5;refine bk hK hs fun ah=>?_
 clear hK K;refine aC 9 rfl fun K hK=>?_
 refine TF aD (p1:=aA.n1 r.c) (p2:=aA.n1 r.e) (p3:=aA.n1 r.r) aj (by decide) (by rfl) (by rfl) (by rfl) (by rfl) (by rfl) (by rfl) (by rfl) (by rfl) ?_;clear aj;intro _ g5 aj _;simp only[aK] at aj;have hs:=zH (aj.out.ay 0);refine bk hK hs fun ah=>?_
 clear hK K;refine ak 10 rfl ?_;refine cB ?_;exact Sz
theorem aae(m:kC)(w:World)(hm:aA.mG m):Calls prog 70 #[.agg #[.int .i64 m.n,.int .u64 (m.s:Int),.int .u64 (m.l:Int),.int .u64 (m.m:Int)]] w (gY aD (aA.FW m) w):=by
 have nk:=zH jA;obtain⟨n,s,l,m⟩:=m;unfold aA.mG at hm;simp only at hm ⊢;have hs1:=zk hm.1;have hs2:=zk hm.2.1;have hs3:=zk hm.2.2;have HK:=jw w 73 (mC n s l m);unfold OU at nk;unfold gY aA.FW;simp only;clear hm;generalize Val.sg s=z1 at *
 generalize Val.sg l=z2 at *
 generalize Val.sg m=z3 at *
 go_enter func70,ntmps70;go_wp2_with fail;have aj:=zH HK.out.drew;refine zR HK.out.drew fun ah=>?_
 refine ak 0 rfl ?_;refine ak 1 rfl ?_ fun _ s=>dO s 0
 refine ak 3 rfl ?_;refine ak 4 rfl ?_ fun _ s=>fu s 0
 refine ak 5 rfl ?_;refine ak 7 rfl ?_;refine ak 8 rfl ?_ fun _ s=>fH s 0
 refine ak 9 rfl ?_;refine ak 11 rfl ?_;refine ak 12 rfl ?_ fun _ s=>gK s 0
 refine ak 13 rfl ?_;refine aC 2 rfl fun K hK=>?_
 go_simp;go_at_call 29;refine(nk.out _ _).mono ?_;rintro e w5 ⟨rfl,b5⟩;replace aj:=zH (aj.out.call b5);have hs:=aj;clear b5;refine bk hK hs fun ah=>?_
 clear hK K;refine aC 6 rfl fun K hK=>?_
 go_simp;go_at_call 29;refine(nk.out _ _).mono ?_;rintro e w5 ⟨rfl,b5⟩;replace aj:=zH (aj.out.call b5);have hs:=aj;clear b5;refine bk hK hs fun ah=>?_
 clear hK K;refine aC 10 rfl fun K hK=>?_
 go_simp;go_at_call 29;refine(nk.out _ _).mono ?_;rintro e w5 ⟨rfl,b5⟩;replace aj:=zH (aj.out.call b5);have hs:=aj;clear b5;refine bk hK hs fun ah=>?_
 clear hK K;refine aC 14 rfl fun K hK=>?_
 go_simp;go_at_call 29;refine(nk.out _ _).mono ?_;rintro e w5 ⟨rfl,b5⟩;replace aj:=zH (aj.out.call b5);have hs:=aj;clear b5;refine bk hK hs fun ah=>?_
 clear hK K;refine aC 15 rfl fun K hK=>?_
 refine oq aD (p1:=aA.n1 n) (p2:=aA.n1 z1) (p3:=aA.n1 z2) (p4:=aA.n1 z3) aj ?_;clear aj;intro _ g5 aj _;simp only[aK] at aj;have hs:=zH (aj.out.ay 0);refine bk hK hs fun ah=>?_
 clear hK K;refine ak 16 rfl ?_;refine cB ?_;exact Sz
theorem aac(p:aQ.Pr)(w:World)(hf:p.val.f<18446744073709551616):Calls prog 65 #[.agg (vS p)] w (gY aD (aA.xL p) w):=by
 have wZ:=zH Hg;have HIv:=zH (fun W=>AY p.val W hf);have hil:=nG p.val;obtain⟨key,k,n,f,s⟩:=p;have HK:=jw w 124 (Yj key k n f s);unfold OU at wZ;unfold gY vv at HIv;unfold gY aA.xL vS;simp only at HIv hil ⊢;generalize Val.items ⟨k,n,f,s⟩=lv at *
 have fP:Hid (([aA.t1 key]++lv).length=1+lv.length):=zH (by simp;omega);have HL2:=dN (La:=aD) fP (hB:=(by show(1+lv.length)*32≤_;omega));clear hil hf;go_enter func65,ntmps65;go_wp2_with fail;have aj:=zH HK.out.drew;refine zR HK.out.drew fun ah=>?_
 refine ak 0 rfl ?_;refine ak 1 rfl ?_ fun _ s=>kR s 0
 refine ak 4 rfl ?_;refine ak 5 rfl ?_ fun _ s=>oz s 0
 refine aC 2 rfl fun K hK=>?_
 go_simp;go_at_call 63;refine(wZ.out _ _).mono ?_;rintro e w5 ⟨rfl,b5⟩;replace aj:=zH (aj.out.call b5);have hs:=zH (aj.out.ay 0);clear b5;refine bk hK hs fun ah=>?_
 clear hK K;refine iW 3 6 rfl rfl (fun K hK=>?_) fun K hK=>?_
 refine bP aD (p:=aA.t1 key) aj ?_;intro _ g5 dz _;replace aj:=zH dz.out.gG;clear dz;have hs:=zH (aj.out.ay 0);refine bk hK hs fun ah=>?_
 clear hK K;refine aC 6 rfl fun K hK=>?_
 go_simp;go_at_call 67;refine(HIv.out _).mono ?_;rintro e w5 ⟨A5,n5,c5,rfl,o5,b5⟩;replace aj:=zH (aj.out.called b5 o5);have MV:=zH (Lay.Own.reads o5).1;simp only[aK,aS] at aj;have hs:=zH (aj.out.ay 0);clear b5 o5;refine bk hK hs fun ah=>?_
 clear hK K;refine aC 7 rfl fun K hK=>?_
 have HR2:=zH (Kn.own aj.out 1 rfl).rd;refine aM aD aj 0 lv MV.out HR2 HL2 (N:=1+lv.length) fP ?_;clear aj;intro A9 c9 _ aj;simp only[lS] at aj HR2;have hs:=zH (aj.out.ay 0);refine bk hK hs fun ah=>?_
 clear hK K;refine ak 8 rfl ?_;refine cB ?_
 rotate_left
 go_simp;go_at_call 67;refine(HIv.out _).mono ?_;rintro e w5 ⟨A5,n5,c5,rfl,o5,b5⟩;replace aj:=zH (aj.out.called b5 o5);have MV:=zH (Lay.Own.reads o5).1;simp only[aK,aS] at aj;have hs:=zH (aj.out.ay 0);clear b5 o5;refine bk hK hs fun ah=>?_
 clear hK K;refine aC 3 rfl fun K hK=>?_
 refine bP aD (p:=aA.t1 key) aj ?_;intro _ g5 dz _;replace aj:=zH dz.out.gG;clear dz;have hs:=zH (aj.out.ay 0);refine bk hK hs fun ah=>?_
 clear hK K;refine aC 7 rfl fun K hK=>?_
 have HR2:=zH (Kn.own aj.out 1 rfl).rd;refine aM aD aj 0 lv MV.out HR2 HL2 (N:=1+lv.length) fP ?_;clear aj;intro A9 c9 _ aj;simp only[lS] at aj HR2;have hs:=zH (aj.out.ay 0);refine bk hK hs fun ah=>?_
 clear hK K;refine ak 8 rfl ?_;refine cB ?_
 rotate_left
 all_goals
  exact Sz
theorem VW:(prog.info? 53).map (fun i=>(i.zero,i.size))=some (some (Value.slice none 0 0),1):=by kernel_rfl
def uU:RP aD where
 tt:=168
 und:=underlying168
 info:=VW
theorem ZX(x:aG.S)(w:World)(hf:x.p.v.f<18446744073709551616):Calls prog 32 #[.agg (fK x)] w (gY aD (aA.nD x) w):=by
 have HIv:=zH (fun W=>AY x.p.v W hf);have hil:=nG x.p.v;have nk:=zH jA;have lK:=zH Vj;have HJ:=zH yK;have HF:Hid (∀l:List ny.It,l.length≤1000→Fits aD iF l):=zH fun l h=>⟨fun _ _=>trivial,by show l.length*32≤_;omega⟩
 have HK:=jw w 30 (fK x);unfold OU at nk lK;unfold gY vv at HIv;unfold gY aA.nD;generalize Val.items x.p.v=lv at *
 have HBg:Hid ((5+lv.length)*aD.bytes≤140737488355328):=zH (by show(5+lv.length)*32≤_;omega);have HL:Hid (lv.length≤1000):=zH (by omega);clear hil hf;go_enter func32,ntmps32;go_wp2_with fail;have aj:=zH HK.out.drew;refine zR HK.out.drew fun ah=>?_
 refine ak 0 rfl ?_;refine ak 1 rfl ?_ fun _ s=>lU s 0
 refine ak 3 rfl ?_;refine ak 4 rfl ?_ fun _ s=>nI s 0
 refine ak 6 rfl ?_;refine ak 7 rfl ?_ fun _ s=>ou s 0
 refine ak 9 rfl ?_;refine ak 10 rfl ?_ fun _ s=>jL s 0
 refine ak 12 rfl ?_;refine ak 13 rfl ?_;refine ak 14 rfl ?_ fun _ s=>afy s 0 (by rfl) (by rfl) (by rfl)
 refine ak 17 rfl ?_;refine ak 18 rfl ?_;refine ak 19 rfl ?_ fun _ s=>afx s 0 (by rfl) (by rfl) (by rfl)
 refine aC 2 rfl fun K hK=>?_
 go_simp;go_at_call 71;refine(lK.out _ _).mono ?_;rintro e w5 ⟨rfl,b5⟩;replace aj:=zH (aj.out.call b5);have hs:=aj;clear b5;refine bk hK hs fun ah=>?_
 clear hK K;refine aC 5 rfl fun K hK=>?_
 go_simp;go_at_call 29;refine(nk.out _ _).mono ?_;rintro e w5 ⟨rfl,b5⟩;replace aj:=zH (aj.out.call b5);have hs:=aj;clear b5;refine bk hK hs fun ah=>?_
 clear hK K;refine aC 8 rfl fun K hK=>?_
 go_simp;go_at_call 29;refine(nk.out _ _).mono ?_;rintro e w5 ⟨rfl,b5⟩;replace aj:=zH (aj.out.call b5);have hs:=aj;clear b5;refine bk hK hs fun ah=>?_
 clear hK K;refine aC 11 rfl fun K hK=>?_
 go_simp;go_at_call 71;refine(lK.out _ _).mono ?_;rintro e w5 ⟨rfl,b5⟩;replace aj:=zH (aj.out.call b5);have hs:=aj;clear b5;refine bk hK hs fun ah=>?_
 clear hK K;refine aC 15 rfl fun K hK=>?_
 go_simp;go_at_call 29;refine(nk.out _ _).mono ?_;rintro e w5 ⟨rfl,b5⟩;replace aj:=zH (aj.out.call b5);have hs:=aj;clear b5;refine bk hK hs fun ah=>?_
 clear hK K;refine iW 16 20 rfl rfl (fun K hK=>?_) fun K hK=>?_
 refine Gi aD (p1:=aA.fl x.live) (p2:=aA.n1 x.ep) (p3:=aA.n1 x.rq) (p4:=aA.fl x.dn) (p5:=aA.n1 x.p.e) aj ?_;intro _ g5 dz _;replace aj:=zH dz.out.gG;clear dz;have hs:=zH (aj.out.ay 0);refine bk hK hs fun ah=>?_
 clear hK K;refine aC 20 rfl fun K hK=>?_
 go_simp;go_at_call 67;refine(HIv.out _).mono ?_;rintro e w5 ⟨A5,n5,c5,rfl,o5,b5⟩;replace aj:=zH (aj.out.called b5 o5);have MV:=zH (Lay.Own.reads o5).1;simp only[aK,aS] at aj;have hs:=zH (aj.out.ay 0);clear b5 o5;refine bk hK hs fun ah=>?_
 clear hK K;refine aC 21 rfl fun K hK=>?_
 refine CU aD uU aj ?_;clear aj;intro _ g6 aj _;simp only[aS,aK] at aj;have hs:=zH ((aj.out.aB 1).ay 0);refine bk hK hs fun ah=>?_
 clear hK K;refine aC 22 rfl fun K hK=>?_
 go_simp;go_at_call 62;obtain rfl:=MV.out;refine(HJ.out.two aj 1 rfl (bT.own (aj.out.own 0 rfl) (HF.out _ (by show 5≤1000;decide))) (bT.own (aj.out.own 1 rfl) (HF.out _ HL.out)) HBg.out).mono ?_;rintro e w7 ⟨A9,n9,c9,rfl,o9,b9⟩;replace aj:=zH (aj.out.called b9 o9).gG;clear o9 b9;have hs:=zH ((aj.out.aB 1).ay 0);refine bk hK hs fun ah=>?_
 clear hK K;refine ak 23 rfl ?_;refine cB ?_
 rotate_left
 go_simp;go_at_call 67;refine(HIv.out _).mono ?_;rintro e w5 ⟨A5,n5,c5,rfl,o5,b5⟩;replace aj:=zH (aj.out.called b5 o5);have MV:=zH (Lay.Own.reads o5).1;simp only[aK,aS] at aj;have hs:=zH (aj.out.ay 0);clear b5 o5;refine bk hK hs fun ah=>?_
 clear hK K;refine aC 16 rfl fun K hK=>?_
 refine Gi aD (p1:=aA.fl x.live) (p2:=aA.n1 x.ep) (p3:=aA.n1 x.rq) (p4:=aA.fl x.dn) (p5:=aA.n1 x.p.e) aj ?_;intro _ g5 dz _;replace aj:=zH dz.out.gG;clear dz;have hs:=zH (aj.out.ay 0);refine bk hK hs fun ah=>?_
 clear hK K;refine aC 21 rfl fun K hK=>?_
 refine CU aD uU aj ?_;clear aj;intro _ g6 aj _;simp only[aS,aK] at aj;have hs:=zH ((aj.out.aB 1).ay 0);refine bk hK hs fun ah=>?_
 clear hK K;refine aC 22 rfl fun K hK=>?_
 go_simp;go_at_call 62;obtain rfl:=MV.out;refine(HJ.out.two aj 1 rfl (bT.own (aj.out.own 0 rfl) (HF.out _ (by show 5≤1000;decide))) (bT.own (aj.out.own 1 rfl) (HF.out _ HL.out)) HBg.out).mono ?_;rintro e w7 ⟨A9,n9,c9,rfl,o9,b9⟩;replace aj:=zH (aj.out.called b9 o9).gG;clear o9 b9;have hs:=zH ((aj.out.aB 1).ay 0);refine bk hK hs fun ah=>?_
 clear hK K;refine ak 23 rfl ?_;refine cB ?_
 rotate_left
 all_goals
  exact Sz
end
section
def aA.mk{α:Type}(n:Nat)(f:α→aA.Its)(l:List α)(k:Nat):aA.Its:=aA.n1 n::(l.take k).flatMap f
theorem aA.zy{α:Type}(n:Nat)(f:α→aA.Its){l:List α}{k:Nat}{x:α}(h:l[k]?=some x):aA.mk n f l (k+1)=aA.mk n f l k++f x:=by
 unfold aA.mk;rw[Lay.take_succ h,List.flatMap_append];simp
theorem aA.EU{α:Type}(n:Nat)(f:α→aA.Its){l:List α}(h:l.length=n):aA.mk n f l n=aA.many f l:=by
 unfold aA.mk aA.many;rw[← h,List.take_length]
theorem Ht(f:aQ.Pr→aA.Its){A:Option Addr}{n:Nat}{c:Nat}{l:List aQ.Pr}(w:World)(hs:bT bY prF w A n c l)(hn:n≤8)
  (hp:∀x∈l,∀W,Below w.heap.size w W→Calls prog 65 #[.agg (bY.f x).toArray] W (gY aD (f x) W)) (hl:∀x∈l,(f x).length≤70) :
  Calls prog 64 #[.slice A n c,.func (.func 65) #[] #[]] w (gY aD (aA.many f l) w):=by
 have HS:=zH hs;have HLen:=zH hs.len;have nk:=zH jA;have HP:=zH hp;have Yq:=zH hl;have uq:=zH (aA.EU n f hs.len);have uK:=zH (fun(k:Nat) (x:aQ.Pr) (h:l[k]?=some x)=>aA.zy n f h);have HZ:Hid (aA.mk n f l 0=[aA.n1 n]):=zH rfl;have HK:=zH (Kn.start w);unfold OU at nk;unfold gY at HP ⊢;rw[← uq.out];clear hs hp hl uq;generalize aA.mk n f l=M at *
 go_enter func64,ntmps64;go_wp2_with fail;refine cb (nk.out _ _) HK ?_;clear HK;intro _ HK;go_wp2_with (refine dM aD (p:=aA.n1 n) HK ?_;clear HK;intro _ g2 HK;simp only[aK] at HK);go_loopw [5,14] (fun vl vi wr=>∃(k:Nat) (A1:Option Addr) (N1 c1:Nat),k≤n∧vl=.slice A1 N1 c1∧vi=.int .i64 k∧Hid (N1≤1+k*70)∧Hid ((M k).length=N1)∧Hid (Kn w.heap.size w wr [] [row aD (.slice A1 N1 c1) (M k)])) (fun _ vi _=>n-(intOf vi).toNat)
 case atStart=>exact⟨0,_,1,1,Nat.zero_le _,rfl,rfl,zH (by omega),zH (by rw[HZ.out];rfl),by rw[HZ.out];exact HK⟩
 case round=>
  clear HK;obtain⟨k,A1,N1,c1,hk,rfl,rfl,HB1,HM,HK⟩:=hrel;by_cases hlt:k<n
  ·obtain⟨x,hx⟩:=Lay.dW (l:=l) (k:=k) (by rw[HLen.out];exact hlt)
   have hsl:bT bY prF wr A n c l:=HS.out.later HK.out.b;obtain⟨b,o,rfl,hat⟩:=hsl.at (Nat.lt_of_le_of_lt (Nat.zero_le _) hlt);have HX:Hid (∀j v,(bY.f x)[j]?=some v→wr.cell? ⟨b,o+k*5+j,none⟩=some v):=zH (hat wr (Below.refl _ _) k x hx);have HPx:=zH (HP.out x (List.mem_of_getElem? hx));have hPl:=Yq.out x (List.mem_of_getElem? hx);have HM1:=zH (uK.out k x hx);have fP:Hid ((M k++f x).length=N1+(f x).length):=zH (by rw[List.length_append,HM.out]);have hB1:=HB1.out;have HL2:=dN (La:=aD) fP (hB:=(by show(N1+(f x).length)*32≤_;omega));have HB2:Hid (N1+(f x).length≤1+(k+1)*70):=zH (by omega);clear hsl hat hx hPl hB1;have hk1:(0:Int)≤(k:Int):=by omega
   have hk2:(k:Int)<(n:Int):=by omega
   go_wp2_with (first|refine zX (dZ bY (off:=o) (i:=k) hlt) ?_|refine zX (fI bY (off:=o+k*5) (x:=x) underlying124 HX.out) ?_|(refine lZ bY HK rfl rfl ?_;clear HK;intro _ g5 HK;simp only[aK] at HK)|(refine lY bY (p2:=x) HK 0 rfl _ _ rfl rfl rfl rfl ?_;clear HK;intro _ HK;simp only[lS] at HK)|refine zX (oC bY (p:=x) underlying124 HK 0) ?_);exact zq6
  ·obtain rfl:k=n:=by omega
   exact Sy
theorem Hq(f:Val.V→aA.Its){A:Option Addr}{n:Nat}{c:Nat}{l:List Val.V}(w:World)(hs:bT bG vF w A n c l)(hn:n≤8)
  (hp:∀x∈l,∀W,Below w.heap.size w W→Calls prog 67 #[.agg (bG.f x).toArray] W (gY aD (f x) W)) (hl:∀x∈l,(f x).length≤70) :
  Calls prog 66 #[.slice A n c,.func (.func 67) #[] #[]] w (gY aD (aA.many f l) w):=by
 have HS:=zH hs;have HLen:=zH hs.len;have nk:=zH jA;have HP:=zH hp;have Yq:=zH hl;have uq:=zH (aA.EU n f hs.len);have uK:=zH (fun(k:Nat) (x:Val.V) (h:l[k]?=some x)=>aA.zy n f h);have HZ:Hid (aA.mk n f l 0=[aA.n1 n]):=zH rfl;have HK:=zH (Kn.start w);unfold OU at nk;unfold gY at HP ⊢;rw[← uq.out];clear hs hp hl uq;generalize aA.mk n f l=M at *
 go_enter func66,ntmps66;go_wp2_with fail;refine cb (nk.out _ _) HK ?_;clear HK;intro _ HK;go_wp2_with (refine dM aD (p:=aA.n1 n) HK ?_;clear HK;intro _ g2 HK;simp only[aK] at HK);go_loopw [5,14] (fun vl vi wr=>∃(k:Nat) (A1:Option Addr) (N1 c1:Nat),k≤n∧vl=.slice A1 N1 c1∧vi=.int .i64 k∧Hid (N1≤1+k*70)∧Hid ((M k).length=N1)∧Hid (Kn w.heap.size w wr [] [row aD (.slice A1 N1 c1) (M k)])) (fun _ vi _=>n-(intOf vi).toNat)
 case atStart=>exact⟨0,_,1,1,Nat.zero_le _,rfl,rfl,zH (by omega),zH (by rw[HZ.out];rfl),by rw[HZ.out];exact HK⟩
 case round=>
  clear HK;obtain⟨k,A1,N1,c1,hk,rfl,rfl,HB1,HM,HK⟩:=hrel;by_cases hlt:k<n
  ·obtain⟨x,hx⟩:=Lay.dW (l:=l) (k:=k) (by rw[HLen.out];exact hlt)
   have hsl:bT bG vF wr A n c l:=HS.out.later HK.out.b;obtain⟨b,o,rfl,hat⟩:=hsl.at (Nat.lt_of_le_of_lt (Nat.zero_le _) hlt);have HX:Hid (∀j v,(bG.f x)[j]?=some v→wr.cell? ⟨b,o+k*4+j,none⟩=some v):=zH (hat wr (Below.refl _ _) k x hx);have HPx:=zH (HP.out x (List.mem_of_getElem? hx));have hPl:=Yq.out x (List.mem_of_getElem? hx);have HM1:=zH (uK.out k x hx);have fP:Hid ((M k++f x).length=N1+(f x).length):=zH (by rw[List.length_append,HM.out]);have hB1:=HB1.out;have HL2:=dN (La:=aD) fP (hB:=(by show(N1+(f x).length)*32≤_;omega));have HB2:Hid (N1+(f x).length≤1+(k+1)*70):=zH (by omega);clear hsl hat hx hPl hB1;have hk1:(0:Int)≤(k:Int):=by omega
   have hk2:(k:Int)<(n:Int):=by omega
   go_wp2_with (first|refine zX (dZ bG (off:=o) (i:=k) hlt) ?_|refine zX (fI bG (off:=o+k*4) (x:=x) underlying26 HX.out) ?_|(refine lZ bG HK rfl rfl ?_;clear HK;intro _ g5 HK;simp only[aK] at HK)|(refine lY bG (p2:=x) HK 0 rfl _ _ rfl rfl rfl rfl ?_;clear HK;intro _ HK;simp only[lS] at HK)|refine zX (oC bG (p:=x) underlying26 HK 0) ?_);exact zq6
  ·obtain rfl:k=n:=by omega
   exact Sy
theorem Hr(f:Rf→aA.Its){A:Option Addr}{n:Nat}{c:Nat}{l:List Rf}(w:World)(hs:bT aN rF w A n c l)(hn:n≤8)
  (hp:∀x∈l,∀W,Below w.heap.size w W→Calls prog 69 #[.agg (aN.f x).toArray] W (gY aD (f x) W)) (hl:∀x∈l,(f x).length≤70) :
  Calls prog 68 #[.slice A n c,.func (.func 69) #[] #[]] w (gY aD (aA.many f l) w):=by
 have HS:=zH hs;have HLen:=zH hs.len;have nk:=zH jA;have HP:=zH hp;have Yq:=zH hl;have uq:=zH (aA.EU n f hs.len);have uK:=zH (fun(k:Nat) (x:Rf) (h:l[k]?=some x)=>aA.zy n f h);have HZ:Hid (aA.mk n f l 0=[aA.n1 n]):=zH rfl;have HK:=zH (Kn.start w);unfold OU at nk;unfold gY at HP ⊢;rw[← uq.out];clear hs hp hl uq;generalize aA.mk n f l=M at *
 go_enter func68,ntmps68;go_wp2_with fail;refine cb (nk.out _ _) HK ?_;clear HK;intro _ HK;go_wp2_with (refine dM aD (p:=aA.n1 n) HK ?_;clear HK;intro _ g2 HK;simp only[aK] at HK);go_loopw [5,14] (fun vl vi wr=>∃(k:Nat) (A1:Option Addr) (N1 c1:Nat),k≤n∧vl=.slice A1 N1 c1∧vi=.int .i64 k∧Hid (N1≤1+k*70)∧Hid ((M k).length=N1)∧Hid (Kn w.heap.size w wr [] [row aD (.slice A1 N1 c1) (M k)])) (fun _ vi _=>n-(intOf vi).toNat)
 case atStart=>exact⟨0,_,1,1,Nat.zero_le _,rfl,rfl,zH (by omega),zH (by rw[HZ.out];rfl),by rw[HZ.out];exact HK⟩
 case round=>
  clear HK;obtain⟨k,A1,N1,c1,hk,rfl,rfl,HB1,HM,HK⟩:=hrel;by_cases hlt:k<n
  ·obtain⟨x,hx⟩:=Lay.dW (l:=l) (k:=k) (by rw[HLen.out];exact hlt)
   have hsl:bT aN rF wr A n c l:=HS.out.later HK.out.b;obtain⟨b,o,rfl,hat⟩:=hsl.at (Nat.lt_of_le_of_lt (Nat.zero_le _) hlt);have HX:Hid (∀j v,(aN.f x)[j]?=some v→wr.cell? ⟨b,o+k*3+j,none⟩=some v):=zH (hat wr (Below.refl _ _) k x hx);have HPx:=zH (HP.out x (List.mem_of_getElem? hx));have hPl:=Yq.out x (List.mem_of_getElem? hx);have HM1:=zH (uK.out k x hx);have fP:Hid ((M k++f x).length=N1+(f x).length):=zH (by rw[List.length_append,HM.out]);have hB1:=HB1.out;have HL2:=dN (La:=aD) fP (hB:=(by show(N1+(f x).length)*32≤_;omega));have HB2:Hid (N1+(f x).length≤1+(k+1)*70):=zH (by omega);clear hsl hat hx hPl hB1;have hk1:(0:Int)≤(k:Int):=by omega
   have hk2:(k:Int)<(n:Int):=by omega
   go_wp2_with (first|refine zX (dZ aN (off:=o) (i:=k) hlt) ?_|refine zX (fI aN (off:=o+k*3) (x:=x) underlying44 HX.out) ?_|(refine lZ aN HK rfl rfl ?_;clear HK;intro _ g5 HK;simp only[aK] at HK)|(refine lY aN (p2:=x) HK 0 rfl _ _ rfl rfl rfl rfl ?_;clear HK;intro _ HK;simp only[lS] at HK)|refine zX (oC aN (p:=x) underlying44 HK 0) ?_);exact zq6
  ·obtain rfl:k=n:=by omega
   exact Sy
theorem Hu(f:Oh→aA.Its){A:Option Addr}{n:Nat}{c:Nat}{l:List Oh}(w:World)(hs:bT bB oF w A n c l)(hn:n≤8)
  (hp:∀x∈l,∀W,Below w.heap.size w W→Calls prog 31 #[.agg (bB.f x).toArray] W (gY aD (f x) W)) (hl:∀x∈l,(f x).length≤70) :
  Calls prog 30 #[.slice A n c,.func (.func 31) #[] #[]] w (gY aD (aA.many f l) w):=by
 have HS:=zH hs;have HLen:=zH hs.len;have nk:=zH jA;have HP:=zH hp;have Yq:=zH hl;have uq:=zH (aA.EU n f hs.len);have uK:=zH (fun(k:Nat) (x:Oh) (h:l[k]?=some x)=>aA.zy n f h);have HZ:Hid (aA.mk n f l 0=[aA.n1 n]):=zH rfl;have HK:=zH (Kn.start w);unfold OU at nk;unfold gY at HP ⊢;rw[← uq.out];clear hs hp hl uq;generalize aA.mk n f l=M at *
 go_enter func30,ntmps30;go_wp2_with fail;refine cb (nk.out _ _) HK ?_;clear HK;intro _ HK;go_wp2_with (refine dM aD (p:=aA.n1 n) HK ?_;clear HK;intro _ g2 HK;simp only[aK] at HK);go_loopw [5,14] (fun vl vi wr=>∃(k:Nat) (A1:Option Addr) (N1 c1:Nat),k≤n∧vl=.slice A1 N1 c1∧vi=.int .i64 k∧Hid (N1≤1+k*70)∧Hid ((M k).length=N1)∧Hid (Kn w.heap.size w wr [] [row aD (.slice A1 N1 c1) (M k)])) (fun _ vi _=>n-(intOf vi).toNat)
 case atStart=>exact⟨0,_,1,1,Nat.zero_le _,rfl,rfl,zH (by omega),zH (by rw[HZ.out];rfl),by rw[HZ.out];exact HK⟩
 case round=>
  clear HK;obtain⟨k,A1,N1,c1,hk,rfl,rfl,HB1,HM,HK⟩:=hrel;by_cases hlt:k<n
  ·obtain⟨x,hx⟩:=Lay.dW (l:=l) (k:=k) (by rw[HLen.out];exact hlt)
   have hsl:bT bB oF wr A n c l:=HS.out.later HK.out.b;obtain⟨b,o,rfl,hat⟩:=hsl.at (Nat.lt_of_le_of_lt (Nat.zero_le _) hlt);have HX:Hid (∀j v,(bB.f x)[j]?=some v→wr.cell? ⟨b,o+k*11+j,none⟩=some v):=zH (hat wr (Below.refl _ _) k x hx);have HPx:=zH (HP.out x (List.mem_of_getElem? hx));have hPl:=Yq.out x (List.mem_of_getElem? hx);have HM1:=zH (uK.out k x hx);have fP:Hid ((M k++f x).length=N1+(f x).length):=zH (by rw[List.length_append,HM.out]);have hB1:=HB1.out;have HL2:=dN (La:=aD) fP (hB:=(by show(N1+(f x).length)*32≤_;omega));have HB2:Hid (N1+(f x).length≤1+(k+1)*70):=zH (by omega);clear hsl hat hx hPl hB1;have hk1:(0:Int)≤(k:Int):=by omega
   have hk2:(k:Int)<(n:Int):=by omega
   go_wp2_with (first|refine zX (dZ bB (off:=o) (i:=k) hlt) ?_|refine zX (fI bB (off:=o+k*11) (x:=x) underlying75 HX.out) ?_|(refine lZ bB HK rfl rfl ?_;clear HK;intro _ g5 HK;simp only[aK] at HK)|(refine lY bB (p2:=x) HK 0 rfl _ _ rfl rfl rfl rfl ?_;clear HK;intro _ HK;simp only[lS] at HK)|refine zX (oC bB (p:=x) underlying75 HK 0) ?_);exact zq6
  ·obtain rfl:k=n:=by omega
   exact Sy
end
section
section
variable {P:Program}{α:Type}{La:Lay P α}{F:α→Prop}{b0:Nat}{w0 w w':World}{L:List (Nat×TypeId×Array Value)}{R:List bV}{f:FuncId}{g:Nat}{A1 A2 A3 A4 A5:Option Addr}{n1 c1 n2 c2 n3 c3 n4 c4 n5 c5:Nat}{l1 l2 l3 l4 l5:List α}
theorem Joins.five(J:Joins P f La F)(HK:Hid (Kn b0 w0 w L R))(i:Nat)(hL:L[i]?=some (g,La.t,#[.slice A1 n1 c1,.slice A2 n2 c2,.slice A3 n3 c3,.slice A4 n4 c4,.slice A5 n5 c5]))(h1:bT La F w A1 n1 c1 l1)(h2:bT La F w A2 n2 c2 l2)(h3:bT La F w A3 n3 c3 l3)(h4:bT La F w A4 n4 c4 l4)(h5:bT La F w A5 n5 c5 l5)
  (ht:(l1.length+l2.length+l3.length+l4.length+l5.length)*La.bytes≤140737488355328) :
  Calls P f #[.slice (some ⟨g,0,none⟩) 5 5] w (gY La (l1++(l2++(l3++(l4++l5)))) w):=by
 have e:lI [(⟨A1,n1,c1,l1⟩:Pce α),⟨A2,n2,c2,l2⟩,⟨A3,n3,c3,l3⟩,⟨A4,n4,c4,l4⟩,⟨A5,n5,c5,l5⟩]=l1++(l2++(l3++(l4++l5))):=by show l1++(l2++(l3++(l4++(l5++[]))))=_;rw[List.append_nil]
 have h:=J g 5 [⟨A1,n1,c1,l1⟩,⟨A2,n2,c2,l2⟩,⟨A3,n3,c3,l3⟩,⟨A4,n4,c4,l4⟩,⟨A5,n5,c5,l5⟩] w rfl (by decide) (HK.out.blk i hL).lt (fun j p hp=>by
  match j,hp with
  | 0,hp=>simp at hp;subst hp;exact HK.out.cell i hL 0 rfl
  | 1,hp=>simp at hp;subst hp;exact HK.out.cell i hL 1 rfl
  | 2,hp=>simp at hp;subst hp;exact HK.out.cell i hL 2 rfl
  | 3,hp=>simp at hp;subst hp;exact HK.out.cell i hL 3 rfl
  | 4,hp=>simp at hp;subst hp;exact HK.out.cell i hL 4 rfl) (fun p hp=>by
   simp only[List.mem_cons,List.not_mem_nil,or_false] at hp
   rcases hp with rfl|rfl|rfl|rfl|rfl
   ·exact h1
   ·exact h2
   ·exact h3
   ·exact h4
   ·exact h5) (by
   rw[e];simp only[List.length_append]
   rw[← Nat.add_assoc,← Nat.add_assoc,← Nat.add_assoc];exact ht)
 rw[e] at h;exact h
end
theorem aA.Ov{α:Type}(f:α→aA.Its)(m:Nat):∀(l:List α),(∀x∈l,(f x).length≤m)→(l.flatMap f).length≤l.length*m
 | [],_=>Nat.zero_le _
 | x::l,h=>by
  have h1:=h x (List.mem_cons_self ..);have h2:=Ov f m l fun y hy=>h y (List.mem_cons_of_mem x hy)
  rw[List.flatMap_cons,List.length_append,List.length_cons,Nat.succ_mul];omega
theorem aA.qb{α:Type}(f:α→aA.Its)(m:Nat){l:List α}(h:∀x∈l,(f x).length≤m):(aA.many f l).length≤1+l.length*m:=by
 have:=Ov f m l h;unfold aA.many;rw[List.length_cons];omega
theorem aA.EK(p:aQ.Pr):(aA.xL p).length≤3:=by
 have:=nG p.val;unfold aA.xL;rw[List.length_cons];omega
def Short(x:Oh):Prop:=x.pn≤8∧x.vn≤8∧x.rn≤5
theorem aA.NG{w:World}{x:Oh}(hx:In w x)(hs:Short x):(aA.mV x.v).length≤70:=by
 have h1:=aA.qb aA.xL 3 (l:=x.v.dV) fun p _=>aA.EK p
 have h2:=aA.qb Val.items 2 (l:=x.v.vals) fun v _=>(nG v).2
 have h3:=aA.qb aA.yV 3 (l:=x.v.refs) fun r _=>Nat.le_refl _
 have e1:=hx.p.sls.len;have e2:=hx.v.len;have e3:=hx.r.len;obtain⟨s1,s2,s3⟩:=hs;unfold aA.mV aA.FW;simp only[List.length_append,List.length_cons,List.length_nil];omega
theorem aad(x:Oh)(w:World)(hx:In w x)(hs:Short x):Calls prog 31 #[.agg (cu x)] w (gY aD (aA.mV x.v) w):=by
 have h1:=aA.qb aA.xL 3 (l:=x.v.dV) fun p _=>aA.EK p
 have h2:=aA.qb Val.items 2 (l:=x.v.vals) fun v _=>(nG v).2
 have h3:=aA.qb aA.yV 3 (l:=x.v.refs) fun r _=>Nat.le_refl _
 have HMp:Hid (∀W,Below w.heap.size w W→Calls prog 64 #[.slice x.pA x.pn x.pc,.func (.func 65) #[] #[]] W (gY aD (aA.many aA.xL x.v.dV) W)):=zH fun W hW=>
  Ht aA.xL W (hx.p.sls.later hW) hs.1 (fun p hp V _=>aac p V (hx.p.sls.fit.fs p hp)) fun p _=>Nat.le_trans (aA.EK p) (by decide)
 have HMv:Hid (∀W,Below w.heap.size w W→Calls prog 66 #[.slice x.vA x.vn x.vc,.func (.func 67) #[] #[]] W (gY aD (aA.many Val.items x.v.vals) W)):=zH fun W hW=>
  Hq Val.items W (hx.v.later hW) hs.2.1 (fun v hv V _=>AY v V (hx.v.fit.fs v hv)) fun v _=>Nat.le_trans (nG v).2 (by decide)
 have HMr:Hid (∀W,Below w.heap.size w W→Calls prog 68 #[.slice x.rA x.rn x.rc,.func (.func 69) #[] #[]] W (gY aD (aA.many aA.yV x.v.refs) W)):=zH fun W hW=>
  Hr aA.yV W (hx.r.later hW) (Nat.le_trans hs.2.2 (by decide)) (fun r _ V _=>ZY r V) fun r _=>by show 3≤70;decide
 have HMm:=zH (fun W=>aae x.v.mt W ⟨hx.m.2.1,hx.m.2.2.1,hx.m.2.2.2⟩);have e1:=hx.p.sls.len;have e2:=hx.v.len;have e3:=hx.r.len;obtain⟨s1,s2,s3⟩:=hs
 have HBg:Hid (([aA.t1 x.v.name,aA.n1 x.v.kind,aA.n1 x.v.cap,aA.n1 x.v.round].length+(aA.many aA.xL x.v.dV).length+(aA.many Val.items x.v.vals).length+(aA.many aA.yV x.v.refs).length+(aA.FW x.v.mt).length)*aD.bytes≤140737488355328):=zH (by
  show(4+(aA.many aA.xL x.v.dV).length+(aA.many Val.items x.v.vals).length+(aA.many aA.yV x.v.refs).length+4)*32≤_
  omega)
 have HF:Hid (∀l:List ny.It,l.length≤1000→Fits aD iF l):=zH fun l h=>⟨fun _ _=>trivial,by show l.length*32≤_;omega⟩
 have RX:=zH (HF.out (aA.many aA.xL x.v.dV) (by omega));have HF3:=zH (HF.out (aA.many Val.items x.v.vals) (by omega));have HF4:=zH (HF.out (aA.many aA.yV x.v.refs) (by omega));have HF5:=zH (HF.out (aA.FW x.v.mt) (by show 4≤1000;decide));have nk:=zH jA;have wZ:=zH Hg;have HJ:=zH yK;have HK:=jw w 75 (cu x);unfold OU at nk wZ;unfold gY at HMp HMv HMr HMm;unfold gY aA.mV;clear h1 h2 h3 e1 e2 e3 s1 s2 s3 hx;generalize aA.many aA.xL x.v.dV=lp at *
 generalize aA.many Val.items x.v.vals=lv at *
 generalize aA.many aA.yV x.v.refs=lr at *
 generalize aA.FW x.v.mt=lm at *
 go_enter func31,ntmps31;go_wp2_with fail;have aj:=zH HK.out.drew;refine zR HK.out.drew fun ah=>?_
 refine ak 0 rfl ?_;refine ak 1 rfl ?_ fun _ s=>kJ s 0
 refine ak 3 rfl ?_;refine ak 4 rfl ?_ fun _ s=>jM s 0
 refine ak 6 rfl ?_;refine ak 7 rfl ?_ fun _ s=>ow s 0
 refine ak 9 rfl ?_;refine ak 10 rfl ?_ fun _ s=>Dw s 0
 refine ak 13 rfl ?_;refine ak 14 rfl ?_ fun _ s=>vX s 0
 refine ak 16 rfl ?_;refine ak 17 rfl ?_ fun _ s=>Bn s 0
 refine ak 19 rfl ?_;refine ak 20 rfl ?_ fun _ s=>kI s 0
 refine ak 22 rfl ?_;refine ak 23 rfl ?_ fun _ s=>Dv s 0
 refine aC 2 rfl fun K hK=>?_
 go_simp;go_at_call 63;refine(wZ.out _ _).mono ?_;rintro e w5 ⟨rfl,b5⟩;replace aj:=zH (aj.out.call b5);have hs:=aj;clear b5;refine bk hK hs fun ah=>?_
 clear hK K;refine aC 5 rfl fun K hK=>?_
 go_simp;go_at_call 29;refine(nk.out _ _).mono ?_;rintro e w5 ⟨rfl,b5⟩;replace aj:=zH (aj.out.call b5);have hs:=aj;clear b5;refine bk hK hs fun ah=>?_
 clear hK K;refine aC 8 rfl fun K hK=>?_
 go_simp;go_at_call 29;refine(nk.out _ _).mono ?_;rintro e w5 ⟨rfl,b5⟩;replace aj:=zH (aj.out.call b5);have hs:=aj;clear b5;refine bk hK hs fun ah=>?_
 clear hK K;refine aC 11 rfl fun K hK=>?_
 go_simp;go_at_call 29;refine(nk.out _ _).mono ?_;rintro e w5 ⟨rfl,b5⟩;replace aj:=zH (aj.out.call b5);have hs:=aj;clear b5;refine bk hK hs fun ah=>?_
 clear hK K;refine iW 12 15 rfl rfl (fun K hK=>?_) fun K hK=>?_
 refine oq aD (p1:=aA.t1 x.v.name) (p2:=aA.n1 x.v.kind) (p3:=aA.n1 x.v.cap) (p4:=aA.n1 x.v.round) aj ?_;intro _ g5 dz _;replace aj:=zH dz.out.gG;clear dz;have hs:=zH (aj.out.ay 0);refine bk hK hs fun ah=>?_
 clear hK K;refine aC 15 rfl fun K hK=>?_
 go_simp;go_at_call 64;refine(HMp.out _ aj.out.b).mono ?_;rintro e w5 ⟨A5,n5,c5,rfl,o5,b5⟩;replace aj:=zH (aj.out.called b5 o5);simp only[aK,aS] at aj;have hs:=zH (aj.out.ay 0);clear b5 o5;refine bk hK hs fun ah=>?_
 clear hK K;refine aC 18 rfl fun K hK=>?_
 go_simp;go_at_call 66;refine(HMv.out _ aj.out.b).mono ?_;rintro e w5 ⟨A5,n5,c5,rfl,o5,b5⟩;replace aj:=zH (aj.out.called b5 o5);simp only[aK,aS] at aj;have hs:=zH (aj.out.ay 0);clear b5 o5;refine bk hK hs fun ah=>?_
 clear hK K;refine aC 21 rfl fun K hK=>?_
 go_simp;go_at_call 68;refine(HMr.out _ aj.out.b).mono ?_;rintro e w5 ⟨A5,n5,c5,rfl,o5,b5⟩;replace aj:=zH (aj.out.called b5 o5);simp only[aK,aS] at aj;have hs:=zH (aj.out.ay 0);clear b5 o5;refine bk hK hs fun ah=>?_
 clear hK K;refine aC 24 rfl fun K hK=>?_
 go_simp;go_at_call 70;refine(HMm.out _).mono ?_;rintro e w5 ⟨A5,n5,c5,rfl,o5,b5⟩;replace aj:=zH (aj.out.called b5 o5);simp only[aK,aS] at aj;have hs:=zH (aj.out.ay 0);clear b5 o5;refine bk hK hs fun ah=>?_
 clear hK K;refine aC 25 rfl fun K hK=>?_
 refine oo aD uU aj ?_;clear aj;intro _ g6 aj _;simp only[aS,aK] at aj;have hs:=zH ((aj.out.aB 1).ay 0);refine bk hK hs fun ah=>?_
 clear hK K;refine aC 26 rfl fun K hK=>?_
 go_simp;go_at_call 62;refine(HJ.out.five aj 1 rfl (bT.own (aj.out.own 0 rfl) (HF.out _ (by show 4≤1000;decide))) (bT.own (aj.out.own 1 rfl) RX.out) (bT.own (aj.out.own 2 rfl) HF3.out) (bT.own (aj.out.own 3 rfl) HF4.out) (bT.own (aj.out.own 4 rfl) HF5.out) HBg.out).mono ?_;rintro e w7 ⟨A9,n9,c9,rfl,o9,b9⟩;replace aj:=zH (aj.out.called b9 o9).gG;clear o9 b9;have hs:=zH ((aj.out.aB 1).ay 0);refine bk hK hs fun ah=>?_
 clear hK K;refine ak 27 rfl ?_;refine cB ?_
 rotate_left
 go_simp;go_at_call 64;refine(HMp.out _ aj.out.b).mono ?_;rintro e w5 ⟨A5,n5,c5,rfl,o5,b5⟩;replace aj:=zH (aj.out.called b5 o5);simp only[aK,aS] at aj;have hs:=zH (aj.out.ay 0);clear b5 o5;refine bk hK hs fun ah=>?_
 clear hK K;refine iW 12 18 rfl rfl (fun K hK=>?_) fun K hK=>?_
 refine oq aD (p1:=aA.t1 x.v.name) (p2:=aA.n1 x.v.kind) (p3:=aA.n1 x.v.cap) (p4:=aA.n1 x.v.round) aj ?_;intro _ g5 dz _;replace aj:=zH dz.out.gG;clear dz;have hs:=zH (aj.out.ay 0);refine bk hK hs fun ah=>?_
 clear hK K;refine aC 18 rfl fun K hK=>?_
 go_simp;go_at_call 66;refine(HMv.out _ aj.out.b).mono ?_;rintro e w5 ⟨A5,n5,c5,rfl,o5,b5⟩;replace aj:=zH (aj.out.called b5 o5);simp only[aK,aS] at aj;have hs:=zH (aj.out.ay 0);clear b5 o5;refine bk hK hs fun ah=>?_
 clear hK K;refine aC 21 rfl fun K hK=>?_
 go_simp;go_at_call 68;refine(HMr.out _ aj.out.b).mono ?_;rintro e w5 ⟨A5,n5,c5,rfl,o5,b5⟩;replace aj:=zH (aj.out.called b5 o5);simp only[aK,aS] at aj;have hs:=zH (aj.out.ay 0);clear b5 o5;refine bk hK hs fun ah=>?_
 clear hK K;refine aC 24 rfl fun K hK=>?_
 go_simp;go_at_call 70;refine(HMm.out _).mono ?_;rintro e w5 ⟨A5,n5,c5,rfl,o5,b5⟩;replace aj:=zH (aj.out.called b5 o5);simp only[aK,aS] at aj;have hs:=zH (aj.out.ay 0);clear b5 o5;refine bk hK hs fun ah=>?_
 clear hK K;refine aC 25 rfl fun K hK=>?_
 refine oo aD uU aj ?_;clear aj;intro _ g6 aj _;simp only[aS,aK] at aj;have hs:=zH ((aj.out.aB 1).ay 0);refine bk hK hs fun ah=>?_
 clear hK K;refine aC 26 rfl fun K hK=>?_
 go_simp;go_at_call 62;refine(HJ.out.five aj 1 rfl (bT.own (aj.out.own 0 rfl) (HF.out _ (by show 4≤1000;decide))) (bT.own (aj.out.own 1 rfl) RX.out) (bT.own (aj.out.own 2 rfl) HF3.out) (bT.own (aj.out.own 3 rfl) HF4.out) (bT.own (aj.out.own 4 rfl) HF5.out) HBg.out).mono ?_;rintro e w7 ⟨A9,n9,c9,rfl,o9,b9⟩;replace aj:=zH (aj.out.called b9 o9).gG;clear o9 b9;have hs:=zH ((aj.out.aB 1).ay 0);refine bk hK hs fun ah=>?_
 clear hK K;refine ak 27 rfl ?_;refine cB ?_
 rotate_left
 go_simp;go_at_call 66;refine(HMv.out _ aj.out.b).mono ?_;rintro e w5 ⟨A5,n5,c5,rfl,o5,b5⟩;replace aj:=zH (aj.out.called b5 o5);simp only[aK,aS] at aj;have hs:=zH (aj.out.ay 0);clear b5 o5;refine bk hK hs fun ah=>?_
 clear hK K;refine iW 12 21 rfl rfl (fun K hK=>?_) fun K hK=>?_
 refine oq aD (p1:=aA.t1 x.v.name) (p2:=aA.n1 x.v.kind) (p3:=aA.n1 x.v.cap) (p4:=aA.n1 x.v.round) aj ?_;intro _ g5 dz _;replace aj:=zH dz.out.gG;clear dz;have hs:=zH (aj.out.ay 0);refine bk hK hs fun ah=>?_
 clear hK K;refine aC 21 rfl fun K hK=>?_
 go_simp;go_at_call 68;refine(HMr.out _ aj.out.b).mono ?_;rintro e w5 ⟨A5,n5,c5,rfl,o5,b5⟩;replace aj:=zH (aj.out.called b5 o5);simp only[aK,aS] at aj;have hs:=zH (aj.out.ay 0);clear b5 o5;refine bk hK hs fun ah=>?_
 clear hK K;refine aC 24 rfl fun K hK=>?_
 go_simp;go_at_call 70;refine(HMm.out _).mono ?_;rintro e w5 ⟨A5,n5,c5,rfl,o5,b5⟩;replace aj:=zH (aj.out.called b5 o5);simp only[aK,aS] at aj;have hs:=zH (aj.out.ay 0);clear b5 o5;refine bk hK hs fun ah=>?_
 clear hK K;refine aC 25 rfl fun K hK=>?_
 refine oo aD uU aj ?_;clear aj;intro _ g6 aj _;simp only[aS,aK] at aj;have hs:=zH ((aj.out.aB 1).ay 0);refine bk hK hs fun ah=>?_
 clear hK K;refine aC 26 rfl fun K hK=>?_
 go_simp;go_at_call 62;refine(HJ.out.five aj 1 rfl (bT.own (aj.out.own 0 rfl) (HF.out _ (by show 4≤1000;decide))) (bT.own (aj.out.own 1 rfl) RX.out) (bT.own (aj.out.own 2 rfl) HF3.out) (bT.own (aj.out.own 3 rfl) HF4.out) (bT.own (aj.out.own 4 rfl) HF5.out) HBg.out).mono ?_;rintro e w7 ⟨A9,n9,c9,rfl,o9,b9⟩;replace aj:=zH (aj.out.called b9 o9).gG;clear o9 b9;have hs:=zH ((aj.out.aB 1).ay 0);refine bk hK hs fun ah=>?_
 clear hK K;refine ak 27 rfl ?_;refine cB ?_
 rotate_left
 go_simp;go_at_call 68;refine(HMr.out _ aj.out.b).mono ?_;rintro e w5 ⟨A5,n5,c5,rfl,o5,b5⟩;replace aj:=zH (aj.out.called b5 o5);simp only[aK,aS] at aj;have hs:=zH (aj.out.ay 0);clear b5 o5;refine bk hK hs fun ah=>?_
 clear hK K;refine iW 12 24 rfl rfl (fun K hK=>?_) fun K hK=>?_
 refine oq aD (p1:=aA.t1 x.v.name) (p2:=aA.n1 x.v.kind) (p3:=aA.n1 x.v.cap) (p4:=aA.n1 x.v.round) aj ?_;intro _ g5 dz _;replace aj:=zH dz.out.gG;clear dz;have hs:=zH (aj.out.ay 0);refine bk hK hs fun ah=>?_
 clear hK K;refine aC 24 rfl fun K hK=>?_
 go_simp;go_at_call 70;refine(HMm.out _).mono ?_;rintro e w5 ⟨A5,n5,c5,rfl,o5,b5⟩;replace aj:=zH (aj.out.called b5 o5);simp only[aK,aS] at aj;have hs:=zH (aj.out.ay 0);clear b5 o5;refine bk hK hs fun ah=>?_
 clear hK K;refine aC 25 rfl fun K hK=>?_
 refine oo aD uU aj ?_;clear aj;intro _ g6 aj _;simp only[aS,aK] at aj;have hs:=zH ((aj.out.aB 1).ay 0);refine bk hK hs fun ah=>?_
 clear hK K;refine aC 26 rfl fun K hK=>?_
 go_simp;go_at_call 62;refine(HJ.out.five aj 1 rfl (bT.own (aj.out.own 0 rfl) (HF.out _ (by show 4≤1000;decide))) (bT.own (aj.out.own 1 rfl) RX.out) (bT.own (aj.out.own 2 rfl) HF3.out) (bT.own (aj.out.own 3 rfl) HF4.out) (bT.own (aj.out.own 4 rfl) HF5.out) HBg.out).mono ?_;rintro e w7 ⟨A9,n9,c9,rfl,o9,b9⟩;replace aj:=zH (aj.out.called b9 o9).gG;clear o9 b9;have hs:=zH ((aj.out.aB 1).ay 0);refine bk hK hs fun ah=>?_
 clear hK K;refine ak 27 rfl ?_;refine cB ?_
 rotate_left
 go_simp;go_at_call 70;refine(HMm.out _).mono ?_;rintro e w5 ⟨A5,n5,c5,rfl,o5,b5⟩;replace aj:=zH (aj.out.called b5 o5);simp only[aK,aS] at aj;have hs:=zH (aj.out.ay 0);clear b5 o5;refine bk hK hs fun ah=>?_
 clear hK K;refine aC 12 rfl fun K hK=>?_
 refine oq aD (p1:=aA.t1 x.v.name) (p2:=aA.n1 x.v.kind) (p3:=aA.n1 x.v.cap) (p4:=aA.n1 x.v.round) aj ?_;intro _ g5 dz _;replace aj:=zH dz.out.gG;clear dz;have hs:=zH (aj.out.ay 0);refine bk hK hs fun ah=>?_
 clear hK K;refine aC 25 rfl fun K hK=>?_
 refine oo aD uU aj ?_;clear aj;intro _ g6 aj _;simp only[aS,aK] at aj;have hs:=zH ((aj.out.aB 1).ay 0);refine bk hK hs fun ah=>?_
 clear hK K;refine aC 26 rfl fun K hK=>?_
 go_simp;go_at_call 62;refine(HJ.out.five aj 1 rfl (bT.own (aj.out.own 0 rfl) (HF.out _ (by show 4≤1000;decide))) (bT.own (aj.out.own 1 rfl) RX.out) (bT.own (aj.out.own 2 rfl) HF3.out) (bT.own (aj.out.own 3 rfl) HF4.out) (bT.own (aj.out.own 4 rfl) HF5.out) HBg.out).mono ?_;rintro e w7 ⟨A9,n9,c9,rfl,o9,b9⟩;replace aj:=zH (aj.out.called b9 o9).gG;clear o9 b9;have hs:=zH ((aj.out.aB 1).ay 0);refine bk hK hs fun ah=>?_
 clear hK K;refine ak 27 rfl ?_;refine cB ?_
 rotate_left
 all_goals
  exact Sz
end
section
def aA.ss(z:aA.Its)(t:aG.T):Nat→aA.Its
 | 0=>z
 | k+1=>aA.ss z t k++aA.nD (t.get k)
theorem aA.aeE(z:aA.Its)(t:aG.T):aA.ss z t 5=z++aA.Jy t:=by
 show((((z++aA.nD (t.get (0:Nat)))++aA.nD (t.get (1:Nat)))++aA.nD (t.get (2:Nat)))++aA.nD (t.get (3:Nat)))++aA.nD (t.get (4:Nat))=_
 unfold aA.Jy;simp only[List.append_assoc]
 rfl
theorem aA.tK(s:aG.S):(aA.nD s).length≤7:=by
 have:=nG s.p.v;unfold aA.nD;rw[List.length_append]
 show 5+_≤_
 omega
theorem aA.NC{w:World}{A:Option Addr}{k c:Nat}{lo:List Oh}(hs:dS w A k c lo)(hk:k≤8)(hsh:∀x∈lo,Short x):(aA.many (fun x:Oh=>aA.mV x.v) lo).length≤561:=by
 have h1:=aA.qb (fun x:Oh=>aA.mV x.v) 70 (l:=lo) fun x hx=>aA.NG (hs.i x hx) (hsh x hx)
 have:=hs.len;omega
theorem aA.EW(lo:List Oh):aA.many (fun x:Oh=>aA.mV x.v) lo=aA.many aA.mV (vs lo):=by
 unfold aA.many vs;rw[List.length_map,List.flatMap_map]
theorem Lj(n:Int)(A:Option Addr)(k c:Nat)(t:aG.T)(lo:List Oh)(w:World)(hs:dS w A k c lo)(hf:aG.Fit t)(hk:k≤8)(hsh:∀x∈lo,Short x):
  Calls prog 11 #[.agg (stA n A k c t)] w (gY aD (aA.mH ⟨n,vs lo,t⟩) w):=by
 have HMo:Hid (∀W,Below w.heap.size w W→Calls prog 30 #[.slice A k c,.func (.func 31) #[] #[]] W (gY aD (aA.many aA.mV (vs lo)) W)):=zH fun W hW=>by
  rw[← aA.EW];exact Hu (fun x:Oh=>aA.mV x.v) W (hs.s.later hW) hk (fun x hx V hV=>aad x V ((hs.i x hx).later (hW.trans (hV.mono hW.size))) (hsh x hx)) fun x hx=>aA.NG (hs.i x hx) (hsh x hx)
 have hlo:=aA.NC hs hk hsh;rw[aA.EW] at hlo;have FN:Hid (∀(i:Nat) (W:World),i<5→Calls prog 32 #[.agg (fK (t.get i))] W (gY aD (aA.nD (t.get i)) W)):=zH fun i W hi=>ZX (t.get i) W (hf i ⟨by omega,by omega⟩)
 have uq:Hid (aA.mH ⟨n,vs lo,t⟩=aA.ss (aA.n1 n::aA.many aA.mV (vs lo)) t 5):=zH (by rw[aA.aeE];rfl);have HZ:Hid (aA.ss ([aA.n1 n]++aA.many aA.mV (vs lo)) t 0=[aA.n1 n]++aA.many aA.mV (vs lo)):=zH rfl;have uK:Hid (∀k,aA.ss ([aA.n1 n]++aA.many aA.mV (vs lo)) t (k+1)=aA.ss ([aA.n1 n]++aA.many aA.mV (vs lo)) t k++aA.nD (t.get k)):=zH fun k=>rfl
 have nk:=zH jA;have kU:Hid (([aA.n1 n]++aA.many aA.mV (vs lo)).length=1+(aA.many aA.mV (vs lo)).length):=zH (by rw[List.length_append];rfl);have HL1:=dN (La:=aD) kU (hB:=(by show(1+(aA.many aA.mV (vs lo)).length)*32≤_;omega));have HM0:Hid (1+(aA.many aA.mV (vs lo)).length≤562+0*7):=zH (by omega);have HK:=jw w 33 (stA n A k c t);unfold OU at nk;unfold gY at HMo FN ⊢;rw[uq.out];clear uq hlo hs hf hsh;change Calls _ _ _ _ (fun e w'=>∃A n_1 c,e=.returned (.slice A n_1 c)∧aD.Own w.heap.size w' (.slice A n_1 c) (aA.ss ([aA.n1 n]++aA.many aA.mV (vs lo)) t 5)∧Below w.heap.size w w');generalize aA.many aA.mV (vs lo)=lb at *
 generalize aA.ss ([aA.n1 n]++lb) t=M at *
 go_enter func11,ntmps11;go_wp2_with fail;have aj:=zH HK.out.drew;refine zR HK.out.drew fun ah=>?_
 refine ak 0 rfl ?_;refine ak 1 rfl ?_ fun _ s=>lg s 0
 refine ak 4 rfl ?_;refine ak 5 rfl ?_ fun _ s=>qN s 0
 refine aC 2 rfl fun K hK=>?_
 go_simp;go_at_call 29;refine(nk.out _ _).mono ?_;rintro e w5 ⟨rfl,b5⟩;replace aj:=zH (aj.out.call b5);have hs:=zH (aj.out.ay 0);clear b5;refine bk hK hs fun ah=>?_
 clear hK K;refine iW 3 6 rfl rfl (fun K hK=>?_) fun K hK=>?_
 refine bP aD (p:=aA.n1 n) aj ?_;intro _ g5 dz _;replace aj:=zH dz.out.gG;clear dz;have hs:=zH (aj.out.ay 0);refine bk hK hs fun ah=>?_
 clear hK K;refine aC 6 rfl fun K hK=>?_
 go_simp;go_at_call 30;refine(HMo.out _ aj.out.b).mono ?_;rintro e w5 ⟨A5,n5,c5,rfl,o5,b5⟩;replace aj:=zH (aj.out.called b5 o5);have MV:=zH (Lay.Own.reads o5).1;simp only[aK,aS] at aj;have hs:=zH (aj.out.ay 0);clear b5 o5;refine bk hK hs fun ah=>?_
 clear hK K;refine aC 7 rfl fun K hK=>?_
 have HR2:=zH (Kn.own aj.out 1 rfl).rd;refine aM aD aj 0 lb MV.out HR2 HL1 (N:=1+lb.length) kU ?_;clear aj;intro A9 c9 _ aj;simp only[lS] at aj HR2;have hs:=zH (aj.out.ay 0);refine bk hK hs fun ah=>?_
 clear hK K;refine ak 8 rfl ?_;refine cB ?_
 rotate_left
 go_simp;go_at_call 30;refine(HMo.out _ aj.out.b).mono ?_;rintro e w5 ⟨A5,n5,c5,rfl,o5,b5⟩;replace aj:=zH (aj.out.called b5 o5);have MV:=zH (Lay.Own.reads o5).1;simp only[aK,aS] at aj;have hs:=zH (aj.out.ay 0);clear b5 o5;refine bk hK hs fun ah=>?_
 clear hK K;refine aC 3 rfl fun K hK=>?_
 refine bP aD (p:=aA.n1 n) aj ?_;intro _ g5 dz _;replace aj:=zH dz.out.gG;clear dz;have hs:=zH (aj.out.ay 0);refine bk hK hs fun ah=>?_
 clear hK K;refine aC 7 rfl fun K hK=>?_
 have HR2:=zH (Kn.own aj.out 1 rfl).rd;refine aM aD aj 0 lb MV.out HR2 HL1 (N:=1+lb.length) kU ?_;clear aj;intro A9 c9 _ aj;simp only[lS] at aj HR2;have hs:=zH (aj.out.ay 0);refine bk hK hs fun ah=>?_
 clear hK K;refine ak 8 rfl ?_;refine cB ?_
 rotate_left
 all_goals
  rw[← HZ.out] at aj;have HN0:Hid ((M 0).length=1+lb.length):=zH (by rw[HZ.out];exact kU.out);replace aj:=zH (aj.out.ay 1);simp only[List.take] at aj;clear ah HK HZ kU HL1 HMo;go_wp2_with refine zX (gD aj 0) ?_;go_loopw [3,16] (fun vl vi wr=>∃(i:Nat) (A1:Option Addr) (N1 c1:Nat),i≤5∧vl=.slice A1 N1 c1∧vi=.int .i64 i∧Hid (N1≤562+i*7)∧Hid ((M i).length=N1)∧Hid (Kn w.heap.size w wr [(w.heap.size,33,stA n A k c t)] [row aD (.slice A1 N1 c1) (M i)])) (fun _ vi _=>5-(intOf vi).toNat)
  case atStart=>exact⟨0,_,_,_,Nat.zero_le _,rfl,rfl,HM0,HN0,aj⟩
  case round=>
   clear aj HM0 HN0;obtain⟨i,A1,N1,c1,hi,rfl,rfl,HB1,HM,HK⟩:=hrel;by_cases hlt:i<5
   ·have HSi:=zH (fun W=>FN.out i W hlt)
    have hsl:=aA.tK (t.get i);have fP:Hid ((M i++aA.nD (t.get i)).length=N1+(aA.nD (t.get i)).length):=zH (by rw[List.length_append,HM.out]);have hB1:=HB1.out;have HL2:=dN (La:=aD) fP (hB:=(by show(N1+(aA.nD (t.get i)).length)*32≤_;omega));have HB2:Hid (N1+(aA.nD (t.get i)).length≤562+(i+1)*7):=zH (by omega);clear hsl hB1;have hk1:(0:Int)≤(i:Int):=by omega
    have hk2:(i:Int)<5:=by omega
    go_wp2_with (first|refine zX (ku (c:=(i:Int)) (t:=t) ⟨hk1,hk2⟩) ?_|(refine bE HK ?_;clear HK;intro _ g5 HK;simp only[aS,aK] at HK)|(refine bD (u:=t.get i) HK 1 ?_;clear HK;intro _ HK;simp only[lS] at HK)|refine zX (Ie HK 1) ?_);refine(HSi.out _).mono ?_;rintro e w2 ⟨A5,n5,c5,rfl,o5,b5⟩;have MV:=zH (Lay.Own.reads o5).1;replace HK:=zH (HK.out.called b5 o5);simp only[aS,aK] at HK;clear o5 b5;have HR:=zH (HK.out.own 1 rfl).rd;go_wp2_with (at_builtin;refine bA HK aD 0 (aA.nD (t.get i)) MV.out HR HL2 (N:=N1+(aA.nD (t.get i)).length) fP ?_;clear HK;intro A7 c7 _ HK;simp only[lS] at HK);refine⟨⟨i+1,A7,_,c7,by omega,rfl,by go_num,HB2,zH (by rw[uK.out];exact fP.out),zH ?_⟩,by simp[intOf];omega⟩;rw[uK.out];exact(HK.out.aB 1).ay 1
   ·obtain rfl:i=5:=by omega
    exact Sy
end
end Go.Proofs.YtahdlddbbnjloaaGreat
