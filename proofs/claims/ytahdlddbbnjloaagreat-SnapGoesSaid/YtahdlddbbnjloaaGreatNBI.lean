/- What the document's Cut, Swap and Same return. No condition but those named. -/
import Derived.Test.YtahdlddbbnjloaaGreatNBH
set_option linter.unusedSimpArgs false
set_option linter.unusedVariables false
set_option maxRecDepth 100000
set_option maxHeartbeats 25600000
open Go.RowKit
namespace Go.Proofs.YtahdlddbbnjloaaGreat
open _root_.Go.Proofs.Tryz
section
def lX(G:World→Prop)(y:au.Rs)(w:World)(e:Ending)(w':World):Prop:=∃(A:Option Addr) (n c:Nat) (l:List Oh) (O:Option Addr) (k d:Nat) (Rn:List bV),e=.returned (.tuple #[.slice A n c,.agg (dG y.p),.bool y.later,.slice O k d])∧vs l=y.l∧Kn w.heap.size w w' [] Rn∧
 ∀(b:Nat) (W0 W:World) L R,Kn b W0 W L R→(∀z∈Rn,z∈R)→G W→dS W A n c l∧bT bL tF W O k d y.outs
section
variable {b0:Nat}{w0 w:World}{L:List (Nat×TypeId×Array Value)}{R:List bV}{ops:Array Oper}{rest:List Oper}{o:Oper}{a:Act}{Q:Exit→Act→World→Prop}{K:Act→World→Prop}{E:Prop}
theorem TG(HK:Hid (Kn b0 w0 w L R))(hgd:o.guard=none)(ho:o.op=.alloc 28)
  (h:∀w' g,Hid (Kn b0 w0 w' (L++[(g,28,dG au.rz)]) R)→K (a.put o.dst (.pointer (some ⟨g,0,none⟩))) w'):if Region.wanted o (yielded ops a.tmps)=true then Oper.wp prog o a w K Q else E:=by
 rw[if_pos (by simp[Region.wanted,hgd])];have h4:=h _ w.heap.size (zH (HK.out.alloc _ _));unfold Oper.wp execOp;simp only[ho];unfold dG au.rz at h4;go_simp;exact h4
theorem eD{x y:Nat×TypeId×Array Value}{L:List (Nat×TypeId×Array Value)}(h:Hid (Kn b0 w0 w (x::y::L) R)):Hid (Kn b0 w0 w [x,y] []):=zH ((h.out.aB 2).ay 0)
theorem Si{x y z:Nat×TypeId×Array Value}{L:List (Nat×TypeId×Array Value)}(h:Hid (Kn b0 w0 w (x::y::z::L) R)):Hid (Kn b0 w0 w L []):=zH ((h.out.aO 3).ay 0)
theorem nX(HK:Hid (Kn b0 w0 w L R))(h:∀w' g,Hid (Kn b0 w0 w' (L++[(g,75,cu Co)]) R)→K (a.put o.dst (.pointer (some ⟨g,0,none⟩))) w')(hgd:o.guard=none:=by rfl)(ho:o.op=.alloc 75:=by rfl):if Region.wanted o (yielded ops a.tmps)=true then Oper.wp prog o a w K Q else E:=
 rG HK (hgd:=hgd) (ho:=ho) fun w' g h1 _=>h w' g h1
theorem nW(HK:Hid (Kn b0 w0 w L R))(h:∀w' g,Hid (Kn b0 w0 w' (L++[(g,28,dG au.rz)]) R)→K (a.put o.dst (.pointer (some ⟨g,0,none⟩))) w')(hgd:o.guard=none:=by rfl)(ho:o.op=.alloc 28:=by rfl):if Region.wanted o (yielded ops a.tmps)=true then Oper.wp prog o a w K Q else E:=
 TG HK hgd ho h
theorem fT{g:Nat}{x:Oh}(y:Oh)(HK:Hid (Kn b0 w0 w L R))(i:Nat){p q:Operand}(h:∀w',Hid (Kn b0 w0 w' (L.set i (g,75,cu y)) R)→K (a.put o.dst undef) w')
  (hgd:o.guard=none:=by rfl) (ho:o.op=.store 75 p q:=by rfl) (hL:L[i]?=some (g,75,cu x):=by rfl) (hx:a.eval p=.pointer (some ⟨g,0,none⟩):=by rfl) (hy:a.eval q=.agg (cu y):=by rfl):if Region.wanted o (yielded ops a.tmps)=true then Oper.wp prog o a w K Q else E:=
 bI HK i (hgd:=hgd) (p:=p) (q:=q) (ho:=ho) (hL:=hL) (hx:=hx) (hy:=hy) h
theorem fC{g:Nat}{x:au.Rp}(y:au.Rp)(HK:Hid (Kn b0 w0 w L R))(i:Nat){p q:Operand}(h:∀w',Hid (Kn b0 w0 w' (L.set i (g,28,dG y)) R)→K (a.put o.dst undef) w')
  (hgd:o.guard=none:=by rfl) (ho:o.op=.store 28 p q:=by rfl) (hL:L[i]?=some (g,28,dG x):=by rfl) (hx:a.eval p=.pointer (some ⟨g,0,none⟩):=by rfl) (hy:a.eval q=.agg (dG y):=by rfl):if Region.wanted o (yielded ops a.tmps)=true then Oper.wp prog o a w K Q else E:=
 bO HK i (hgd:=hgd) (r:=p) (s:=q) (ho:=ho) (hL:=hL) (hx:=hx) (hy:=hy) h
theorem WR{x k:Int}{b:Bool}{p:Operand}(ho:o.op=.binOp .geq 3 p (.const (.int .i64 k)) 3)(hp:a.eval p=.int .i64 x)(hb:decide (k≤x)=b):
  (execOp a.eval o).run prog w=.ok (.value (.bool b)) w:=by
 exact aeb
theorem BK{x k:Int}{b:Bool}{p:Operand}(hb:(!decide (x=k))=b)(ho:o.op=.binOp .neq 3 p (.const (.int .i64 k)) 3:=by rfl)(hp:a.eval p=.int .i64 x:=by rfl):
  (execOp a.eval o).run prog w=.ok (.value (.bool b)) w:=by
 have he:a.eval (.const (.int .i64 k))=.int .i64 k:=rfl;subst hb;unfold execOp;simp only[ho,hp,he];go_simp;by_cases h:x=k<;>simp[h]
end
theorem aaG{W:World}{l:List Oh}(c:aI.C){p q:Nat}(h:∀x∈l,In W x){y:Oh}(hy:y∈l.take p++[JA c]++l.drop q):In W y:=by
 rcases List.mem_append.1 hy with hy|hy
 ·rcases List.mem_append.1 hy with hy|hy
  ·exact h y (List.mem_of_mem_take hy)
  ·rw[List.mem_singleton.1 hy]
   exact In.fr _ c
 ·exact h y (List.mem_of_mem_drop hy)
theorem aiV{W:World}{l:List Oh}{p q:Nat}(h:∀x∈l,In W x){y:Oh}(hy:y∈l.take p++l.drop q):In W y:=by
 rcases List.mem_append.1 hy with hy|hy
 ·exact h y (List.mem_of_mem_take hy)
 ·exact h y (List.mem_of_mem_drop hy)
theorem yH{l:List Oh}{j:Nat}{y:au.Ob}(h:(vs l)[j]?=some y):∃z,l[j]?=some z∧z.v=y:=by
 unfold vs at h;rw[List.getElem?_map] at h;obtain⟨z,hz,hy⟩:=Option.map_eq_some_iff.1 h;exact⟨z,hz,hy⟩
theorem aeR(G:World→Prop)(A:Option Addr)(cp n:Nat)(l:List Oh)(r:Rf)(c:aI.C)(w:World)(hG:∀W,G W→dS W A n cp l)(hs:dS w A n cp l)(hv:c.val.f<18446744073709551616)(ho:c.old.f<18446744073709551616)(hr:¬au.Right (vs l)):
  Calls prog 49 #[.slice A n cp,.agg #[.int .i64 r.c,.int .i64 r.e,.int .i64 r.r],.agg (dL c)] w (lX G ⟨vs l,au.err 1,false,[]⟩ w):=by
 have yA:=zH hG;have lK:=zH dD;have HK:=FX w 44 #[.int .i64 r.c,.int .i64 r.e,.int .i64 r.r] 46 (dL c) 28 (dG au.rz);have HM:=zH (fun W (hW:Below w.heap.size w W)=>bU A cp n l W (hs.later hW));unfold dw at HM;rw[decide_eq_false hr] at HM;clear hs hv ho hr hG;go_enter func49,ntmps49;go_wp2_with fail
 (refine(HM.out _ HK.out.b).mono ?_;rintro e w1 ⟨rfl,b1⟩)
 replace HK:=iH HK b1;clear b1;go_wp2_with fail;exact YH
theorem aeQ(G:World→Prop)(A:Option Addr)(cp n:Nat)(l:List Oh)(r:Rf)(c:aI.C)(w:World)(hG:∀W,G W→dS W A n cp l)(hs:dS w A n cp l)(hv:c.val.f<18446744073709551616)(ho:c.old.f<18446744073709551616)(hr:au.Right (vs l))(hk:¬aY.ok r):
  Calls prog 49 #[.slice A n cp,.agg #[.int .i64 r.c,.int .i64 r.e,.int .i64 r.r],.agg (dL c)] w (lX G ⟨vs l,au.err 1,false,[]⟩ w):=by
 have yA:=zH hG;have lK:=zH dD;have HK:=FX w 44 #[.int .i64 r.c,.int .i64 r.e,.int .i64 r.r] 46 (dL c) 28 (dG au.rz);have HM:=zH (fun W (hW:Below w.heap.size w W)=>bU A cp n l W (hs.later hW));unfold dw at HM;have HC:=zH (fun W=>fM r W);unfold dw at HC;rw[decide_eq_true hr] at HM;rw[decide_eq_false hk] at HC;clear hs hv ho hr hk hG;go_enter func49,ntmps49;go_wp2_with fail
 (refine(HM.out _ HK.out.b).mono ?_;rintro e w1 ⟨rfl,b1⟩)
 replace HK:=iH HK b1;clear b1;go_wp2_with refine zX (aP HK 0) ?_;refine cb (HC.out _) HK ?_;clear HK;intro _ HK;go_wp2_with fail;exact YH
theorem aeP(G:World→Prop)(A:Option Addr)(cp n:Nat)(l:List Oh)(r:Rf)(c:aI.C)(w:World)(hG:∀W,G W→dS W A n cp l)(hs:dS w A n cp l)(hv:c.val.f<18446744073709551616)(ho:c.old.f<18446744073709551616)(hr:au.Right (vs l))(hk:aY.ok r)(h4:c.k<4):
  Calls prog 49 #[.slice A n cp,.agg #[.int .i64 r.c,.int .i64 r.e,.int .i64 r.r],.agg (dL c)] w (lX G ⟨vs l,au.err 1,false,[]⟩ w):=by
 have yA:=zH hG;have lK:=zH dD;have HK:=FX w 44 #[.int .i64 r.c,.int .i64 r.e,.int .i64 r.r] 46 (dL c) 28 (dG au.rz);have HM:=zH (fun W (hW:Below w.heap.size w W)=>bU A cp n l W (hs.later hW));unfold dw at HM;have HC:=zH (fun W=>fM r W);unfold dw at HC;rw[decide_eq_true hr] at HM;rw[decide_eq_true hk] at HC;have D4:Hid (decide (c.k<4)=true):=zH (decide_eq_true h4);have yB:Hid (decide (17<c.k)=decide (17<c.k)):=zH rfl;clear hs hv ho hr hk hG h4;go_enter func49,ntmps49;go_wp2_with fail
 (refine(HM.out _ HK.out.b).mono ?_;rintro e w1 ⟨rfl,b1⟩)
 replace HK:=iH HK b1;clear b1;go_wp2_with refine zX (aP HK 0) ?_;refine cb (HC.out _) HK ?_;clear HK;intro _ HK;go_wp2_with (first|refine zX (bZ HK 1) ?_|refine zX (dJ (x:=c.k) (k:=4) D4.out) ?_|refine zX (dF (x:=c.k) (k:=17) yB.out) ?_);exact YH
theorem aeO(G:World→Prop)(A:Option Addr)(cp n:Nat)(l:List Oh)(r:Rf)(c:aI.C)(w:World)(hG:∀W,G W→dS W A n cp l)(hs:dS w A n cp l)(hv:c.val.f<18446744073709551616)(ho:c.old.f<18446744073709551616)(hr:au.Right (vs l))(hk:aY.ok r)(h4:¬c.k<4)(LV:17<c.k):
  Calls prog 49 #[.slice A n cp,.agg #[.int .i64 r.c,.int .i64 r.e,.int .i64 r.r],.agg (dL c)] w (lX G ⟨vs l,au.err 1,false,[]⟩ w):=by
 have yA:=zH hG;have lK:=zH dD;have HK:=FX w 44 #[.int .i64 r.c,.int .i64 r.e,.int .i64 r.r] 46 (dL c) 28 (dG au.rz);have HM:=zH (fun W (hW:Below w.heap.size w W)=>bU A cp n l W (hs.later hW));unfold dw at HM;have HC:=zH (fun W=>fM r W);unfold dw at HC;rw[decide_eq_true hr] at HM;rw[decide_eq_true hk] at HC;have D4:Hid (decide (c.k<4)=false):=zH (decide_eq_false h4);have yB:Hid (decide (17<c.k)=true):=zH (decide_eq_true LV);clear hs hv ho hr hk hG h4 LV;go_enter func49,ntmps49;go_wp2_with fail
 (refine(HM.out _ HK.out.b).mono ?_;rintro e w1 ⟨rfl,b1⟩)
 replace HK:=iH HK b1;clear b1;go_wp2_with refine zX (aP HK 0) ?_;refine cb (HC.out _) HK ?_;clear HK;intro _ HK;go_wp2_with (first|refine zX (bZ HK 1) ?_|refine zX (dJ (x:=c.k) (k:=4) D4.out) ?_|refine zX (dF (x:=c.k) (k:=17) yB.out) ?_);exact YH
theorem Zr(G:World→Prop)(A:Option Addr)(cp n:Nat)(l:List Oh)(r:Rf)(c:aI.C)(w:World)(hG:∀W,G W→dS W A n cp l)(hs:dS w A n cp l)(hv:c.val.f<18446744073709551616)(ho:c.old.f<18446744073709551616)(fA:au.All (vs l) r c)(he:aI.aX c≠0):
  Calls prog 49 #[.slice A n cp,.agg #[.int .i64 r.c,.int .i64 r.e,.int .i64 r.r],.agg (dL c)] w (lX G ⟨vs l,au.err (aI.aX c),false,[]⟩ w):=by
 have yA:=zH hG;have lK:=zH dD;have HK:=FX w 44 #[.int .i64 r.c,.int .i64 r.e,.int .i64 r.r] 46 (dL c) 28 (dG au.rz);have HM:=zH (fun W (hW:Below w.heap.size w W)=>bU A cp n l W (hs.later hW));unfold dw at HM;have HC:=zH (fun W=>fM r W);unfold dw at HC;have HE:=zH (fun W=>gV c W hv ho);unfold iQ at HE;have hall:=fA;rw[decide_eq_true hall.1] at HM;rw[decide_eq_true hall.2.1] at HC;have D4:Hid (decide (c.k<4)=false):=zH (decide_eq_false (by have:=hall.2.2.1;omega));have yB:Hid (decide (17<c.k)=false):=zH (decide_eq_false (by have:=hall.2.2.2;omega));have he2:(aI.aX c != 0)=true:=by simpa using he
 clear hs hv ho hall fA hG he;generalize aI.aX c=z at *
 go_enter func49,ntmps49;go_wp2_with fail
 (refine(HM.out _ HK.out.b).mono ?_;rintro e w1 ⟨rfl,b1⟩)
 replace HK:=iH HK b1;clear b1;go_wp2_with refine zX (aP HK 0) ?_;refine cb (HC.out _) HK ?_;clear HK;intro _ HK;go_wp2_with (first|refine zX (bZ HK 1) ?_|refine zX (dJ (x:=c.k) (k:=4) D4.out) ?_|refine zX (dF (x:=c.k) (k:=17) yB.out) ?_|refine zX (Jz HK 1) ?_);refine cb (HE.out _) HK ?_;clear HK;intro _ HK;go_wp2_with fail;refine cb (lK.out z _) HK ?_;clear HK;intro _ HK;go_wp2_with (refine bX (q:=⟨z,au.vn⟩) HK 2 ?_;clear HK;intro _ HK;simp only[lS] at HK);exact OZ
theorem aik(G:World→Prop)(A:Option Addr)(cp n:Nat)(l:List Oh)(r:Rf)(c:aI.C)(w:World)(hG:∀W,G W→dS W A n cp l)(hs:dS w A n cp l)(hv:c.val.f<18446744073709551616)(ho:c.old.f<18446744073709551616)(fA:au.All (vs l) r c)(he:aI.aX c=0)(h4:c.k=4)(o:au.Ob)(hf:au.iV (vs l) c.name=some o):
  Calls prog 49 #[.slice A n cp,.agg #[.int .i64 r.c,.int .i64 r.e,.int .i64 r.r],.agg (dL c)] w (lX G ⟨vs l,au.err 8,false,[]⟩ w):=by
 have yA:=zH hG;have lK:=zH dD;have HK:=FX w 44 #[.int .i64 r.c,.int .i64 r.e,.int .i64 r.r] 46 (dL c) 28 (dG au.rz);have HM:=zH (fun W (hW:Below w.heap.size w W)=>bU A cp n l W (hs.later hW));unfold dw at HM;have HC:=zH (fun W=>fM r W);unfold dw at HC;have HE:=zH (fun W=>gV c W hv ho);unfold iQ at HE;have hall:=fA;rw[decide_eq_true hall.1] at HM;rw[decide_eq_true hall.2.1] at HC;have D4:Hid (decide (c.k<4)=false):=zH (decide_eq_false (by have:=hall.2.2.1;omega));have yB:Hid (decide (17<c.k)=false):=zH (decide_eq_false (by have:=hall.2.2.2;omega));rw[he] at HE;have Cy:=zH (fun W (hW:Below w.heap.size w W)=>gU A cp n l c.name W (hs.later hW));have Cc:Hid (¬∀(j:Nat) (y:Oh),l[j]?=some y→¬y.v.name=c.name):=zH (fun h=>by have:=(au.rY (l:=vs l) (k:=c.name) (fun j y hj=>by obtain⟨z,hz,rfl⟩:=yH hj;exact h j z hz)).2;rw[hf] at this;cases this);have Ce:Hid (∀(i:Nat) (x:Oh),l[i]?=some x→x.v.name=c.name→x.v=o):=zH (fun i x h1 h2=>by have:=(au.jI hall.1.up (dB h1) h2).2.2;rw[hf] at this;injection this with this;exact this.symm)
 have hpos:0<n:=by
  rcases Nat.eq_zero_or_pos n with h0|h0
  ·subst h0
   rw[List.length_eq_zero_iff.1 hs.len] at hf;cases hf
  ·exact h0
 have hl:=hs.len;obtain⟨b,rX,rfl,mX⟩:=hs.s.at hpos;have Ch:=zH mX;have HI:=zH hs.i;clear mX;have E4:Hid (decide (c.k=4)=true):=zH (decide_eq_true h4);clear hs hv ho hall fA hG he h4 hf;go_enter func49,ntmps49;go_wp2_with fail
 (refine(HM.out _ HK.out.b).mono ?_;rintro e w1 ⟨rfl,b1⟩)
 replace HK:=iH HK b1;clear b1;go_wp2_with refine zX (aP HK 0) ?_;refine cb (HC.out _) HK ?_;clear HK;intro _ HK;go_wp2_with (first|refine zX (bZ HK 1) ?_|refine zX (dJ (x:=c.k) (k:=4) D4.out) ?_|refine zX (dF (x:=c.k) (k:=17) yB.out) ?_|refine zX (Jz HK 1) ?_);refine cb (HE.out _) HK ?_;clear HK;intro _ HK;go_wp2_with refine zX (nJ HK 1) ?_;refine(Cy.out _ HK.out.b).mono ?_;rintro e w1 ⟨z,hat,rfl,b1⟩;replace HK:=iH HK b1;clear b1
 rcases hat with ⟨i,x,rfl,hx,hn,_⟩|⟨rfl,hno⟩
 case inr=>exact absurd hno Cc.out
 obtain rfl:=Ce.out i x hx hn;have HX:Hid (∀W,Below w.heap.size w W→∀j v,(yY x)[j]?=some v→W.cell? ⟨b,rX+i*11+j,none⟩=some v):=zH fun W hW=>Ch.out W hW i x hx
 have hin:i<n:=by have:=(List.getElem?_eq_some_iff.1 hx).1;omega
 have hi0:(0:Int)≤(i:Int):=by omega
 have hi1:(i:Int)<(n:Int):=by omega
 have G0:Hid (decide ((0:Int)≤(i:Int))=true):=zH (decide_eq_true hi0);have L0:Hid (decide ((i:Int)<0)=false):=zH (decide_eq_false (by omega));clear Ch hl hx hn Ce Cc HX;go_wp2_with (first|refine zX (bZ HK 1) ?_|refine zX (aW (x:=c.k) (k:=4) E4.out) ?_|refine zX (WR (x:=(i:Int)) (k:=0) (by rfl) (by rfl) G0.out) ?_);refine cb (lK.out 8 _) HK ?_;clear HK;intro _ HK;go_wp2_with (refine bX (q:=⟨8,au.vn⟩) HK 2 ?_;clear HK;intro _ HK;simp only[lS] at HK);exact OZ
theorem ain(G:World→Prop)(A:Option Addr)(cp n:Nat)(l:List Oh)(r:Rf)(c:aI.C)(w:World)(hG:∀W,G W→dS W A n cp l)(hs:dS w A n cp l)(hv:c.val.f<18446744073709551616)(ho:c.old.f<18446744073709551616)(fA:au.All (vs l) r c)(he:aI.aX c=0)(h4:c.k=4)(hf:au.iV (vs l) c.name=none)(h8:n=8):
  Calls prog 49 #[.slice A n cp,.agg #[.int .i64 r.c,.int .i64 r.e,.int .i64 r.r],.agg (dL c)] w (lX G ⟨vs l,au.err 6,false,[]⟩ w):=by
 have yA:=zH hG;have lK:=zH dD;have HK:=FX w 44 #[.int .i64 r.c,.int .i64 r.e,.int .i64 r.r] 46 (dL c) 28 (dG au.rz);have HM:=zH (fun W (hW:Below w.heap.size w W)=>bU A cp n l W (hs.later hW));unfold dw at HM;have HC:=zH (fun W=>fM r W);unfold dw at HC;have HE:=zH (fun W=>gV c W hv ho);unfold iQ at HE;have hall:=fA;rw[decide_eq_true hall.1] at HM;rw[decide_eq_true hall.2.1] at HC;have D4:Hid (decide (c.k<4)=false):=zH (decide_eq_false (by have:=hall.2.2.1;omega));have yB:Hid (decide (17<c.k)=false):=zH (decide_eq_false (by have:=hall.2.2.2;omega));rw[he] at HE;have Cy:=zH (fun W (hW:Below w.heap.size w W)=>gU A cp n l c.name W (hs.later hW));have gX:Hid (¬∃(i:Nat) (x:Oh),l[i]?=some x∧x.v.name=c.name):=zH (by rintro ⟨i,x,h1,h2⟩;have:=(au.jI hall.1.up (dB h1) h2).2.2;rw[hf] at this;cases this);have E4:Hid (decide (c.k=4)=true):=zH (decide_eq_true h4);have E8:Hid (decide ((n:Int)=8)=true):=zH (decide_eq_true (by omega));clear hs hv ho hall fA hG he h4 hf h8;go_enter func49,ntmps49;go_wp2_with fail
 (refine(HM.out _ HK.out.b).mono ?_;rintro e w1 ⟨rfl,b1⟩)
 replace HK:=iH HK b1;clear b1;go_wp2_with refine zX (aP HK 0) ?_;refine cb (HC.out _) HK ?_;clear HK;intro _ HK;go_wp2_with (first|refine zX (bZ HK 1) ?_|refine zX (dJ (x:=c.k) (k:=4) D4.out) ?_|refine zX (dF (x:=c.k) (k:=17) yB.out) ?_|refine zX (Jz HK 1) ?_);refine cb (HE.out _) HK ?_;clear HK;intro _ HK;go_wp2_with refine zX (nJ HK 1) ?_;refine(Cy.out _ HK.out.b).mono ?_;rintro e w1 ⟨z,hat,rfl,b1⟩;replace HK:=iH HK b1;clear b1
 rcases hat with ⟨i,x,rfl,hx,hn,_⟩|⟨rfl,hno⟩
 ·exact absurd ⟨i,x,hx,hn⟩ gX.out
 clear hno;go_wp2_with (first|refine zX (bZ HK 1) ?_|refine zX (aW (x:=c.k) (k:=4) E4.out) ?_|refine zX (aW (x:=(n:Int)) (k:=8) E8.out) ?_);refine cb (lK.out 6 _) HK ?_;clear HK;intro _ HK;go_wp2_with (refine bX (q:=⟨6,au.vn⟩) HK 2 ?_;clear HK;intro _ HK;simp only[lS] at HK);exact OZ
theorem Uw(G:World→Prop)(A:Option Addr)(cp n:Nat)(l:List Oh)(r:Rf)(c:aI.C)(w:World)(hG:∀W,G W→dS W A n cp l)(hs:dS w A n cp l)(hv:c.val.f<18446744073709551616)(ho:c.old.f<18446744073709551616)(fA:au.All (vs l) r c)(he:aI.aX c=0)(h4:c.k=4)(hf:au.iV (vs l) c.name=none)(h8:¬n=8):
  Calls prog 49 #[.slice A n cp,.agg #[.int .i64 r.c,.int .i64 r.e,.int .i64 r.r],.agg (dL c)] w (lX G ⟨(vs l).take (au.idx (vs l) c.name)++[au.fresh c]++(vs l).drop (au.idx (vs l) c.name),au.rz,false,[]⟩ w):=by
 have yA:=zH hG;have lK:=zH dD;have HK:=FX w 44 #[.int .i64 r.c,.int .i64 r.e,.int .i64 r.r] 46 (dL c) 28 (dG au.rz);have HM:=zH (fun W (hW:Below w.heap.size w W)=>bU A cp n l W (hs.later hW));unfold dw at HM;have HC:=zH (fun W=>fM r W);unfold dw at HC;have HE:=zH (fun W=>gV c W hv ho);unfold iQ at HE;have hall:=fA;rw[decide_eq_true hall.1] at HM;rw[decide_eq_true hall.2.1] at HC;have D4:Hid (decide (c.k<4)=false):=zH (decide_eq_false (by have:=hall.2.2.1;omega));have yB:Hid (decide (17<c.k)=false):=zH (decide_eq_false (by have:=hall.2.2.2;omega));rw[he] at HE;have Cy:=zH (fun W (hW:Below w.heap.size w W)=>gU A cp n l c.name W (hs.later hW));have gX:Hid (¬∃(i:Nat) (x:Oh),l[i]?=some x∧x.v.name=c.name):=zH (by rintro ⟨i,x,h1,h2⟩;have:=(au.jI hall.1.up (dB h1) h2).2.2;rw[hf] at this;cases this);have E4:Hid (decide (c.k=4)=true):=zH (decide_eq_true h4);have E8:Hid (decide ((n:Int)=8)=false):=zH (decide_eq_false (by omega));have hn8:n≤8:=by have:=hall.1.len;rw[gq,hs.len] at this;exact this
 have HN8:=zH hn8;have kF:=zH hs.len;have HMa:=zH (fun W (hW:Below w.heap.size w W)=>PY A cp n l c W (hs.later hW) hn8);unfold FK at HMa;clear hs hv ho hall fA hG he h4 hf h8 hn8;go_enter func49,ntmps49;go_wp2_with fail
 (refine(HM.out _ HK.out.b).mono ?_;rintro e w1 ⟨rfl,b1⟩)
 replace HK:=iH HK b1;clear b1;go_wp2_with refine zX (aP HK 0) ?_;refine cb (HC.out _) HK ?_;clear HK;intro _ HK;go_wp2_with (first|refine zX (bZ HK 1) ?_|refine zX (dJ (x:=c.k) (k:=4) D4.out) ?_|refine zX (dF (x:=c.k) (k:=17) yB.out) ?_|refine zX (Jz HK 1) ?_);refine cb (HE.out _) HK ?_;clear HK;intro _ HK;go_wp2_with refine zX (nJ HK 1) ?_;refine(Cy.out _ HK.out.b).mono ?_;rintro e w1 ⟨z,hat,rfl,b1⟩;replace HK:=iH HK b1;clear b1
 rcases hat with ⟨i,x,rfl,hx,hn,_⟩|⟨rfl,hno⟩
 ·exact absurd ⟨i,x,hx,hn⟩ gX.out
 clear hno;go_wp2_with (first|refine zX (bZ HK 1) ?_|refine zX (aW (x:=c.k) (k:=4) E4.out) ?_|refine zX (aW (x:=(n:Int)) (k:=8) E8.out) ?_|refine zX (Jz HK 1) ?_);refine(HMa.out _ HK.out.b).mono ?_;rintro e w1 ⟨A4,n4,c4,rfl,o4,b4⟩;replace HK:=zH (HK.out.called b4 o4);simp only[aK] at HK;clear o4 b4;go_wp2_with (refine bX (q:=au.rz) HK 2 ?_;clear HK;intro _ HK;simp only[lS] at HK);exact xI results49 (HK.out.blk 2 rfl) (hR:=(by unfold lX;exact⟨_,_,_,_,_,_,_,_,rfl,aes l (JA c),HK.out.aB 0,fun _ _ _ _ _ K hm hb=>⟨⟨bT.own (K.mem (hm _ (List.mem_cons_self ..))) ⟨fun y hy=>trivial,by rw[List.length_append,List.length_append,List.length_take,List.length_drop,kF.out];show(min _ n+1+(n-_))*144≤_;have:=HN8.out;omega⟩,fun y hy=>aaG c (yA.out _ hb).i hy⟩,bT.none _⟩⟩))
theorem aio(G:World→Prop)(A:Option Addr)(cp n:Nat)(l:List Oh)(r:Rf)(c:aI.C)(w:World)(hG:∀W,G W→dS W A n cp l)(hs:dS w A n cp l)(hv:c.val.f<18446744073709551616)(ho:c.old.f<18446744073709551616)(fA:au.All (vs l) r c)(he:aI.aX c=0)(h4:¬c.k=4)(hf:au.iV (vs l) c.name=none):
  Calls prog 49 #[.slice A n cp,.agg #[.int .i64 r.c,.int .i64 r.e,.int .i64 r.r],.agg (dL c)] w (lX G ⟨vs l,au.err 5,false,[]⟩ w):=by
 have yA:=zH hG;have lK:=zH dD;have HK:=FX w 44 #[.int .i64 r.c,.int .i64 r.e,.int .i64 r.r] 46 (dL c) 28 (dG au.rz);have HM:=zH (fun W (hW:Below w.heap.size w W)=>bU A cp n l W (hs.later hW));unfold dw at HM;have HC:=zH (fun W=>fM r W);unfold dw at HC;have HE:=zH (fun W=>gV c W hv ho);unfold iQ at HE;have hall:=fA;rw[decide_eq_true hall.1] at HM;rw[decide_eq_true hall.2.1] at HC;have D4:Hid (decide (c.k<4)=false):=zH (decide_eq_false (by have:=hall.2.2.1;omega));have yB:Hid (decide (17<c.k)=false):=zH (decide_eq_false (by have:=hall.2.2.2;omega));rw[he] at HE;have Cy:=zH (fun W (hW:Below w.heap.size w W)=>gU A cp n l c.name W (hs.later hW));have gX:Hid (¬∃(i:Nat) (x:Oh),l[i]?=some x∧x.v.name=c.name):=zH (by rintro ⟨i,x,h1,h2⟩;have:=(au.jI hall.1.up (dB h1) h2).2.2;rw[hf] at this;cases this);have E4:Hid (decide (c.k=4)=false):=zH (decide_eq_false h4);clear hs hv ho hall fA hG he h4 hf;go_enter func49,ntmps49;go_wp2_with fail
 (refine(HM.out _ HK.out.b).mono ?_;rintro e w1 ⟨rfl,b1⟩)
 replace HK:=iH HK b1;clear b1;go_wp2_with refine zX (aP HK 0) ?_;refine cb (HC.out _) HK ?_;clear HK;intro _ HK;go_wp2_with (first|refine zX (bZ HK 1) ?_|refine zX (dJ (x:=c.k) (k:=4) D4.out) ?_|refine zX (dF (x:=c.k) (k:=17) yB.out) ?_|refine zX (Jz HK 1) ?_);refine cb (HE.out _) HK ?_;clear HK;intro _ HK;go_wp2_with refine zX (nJ HK 1) ?_;refine(Cy.out _ HK.out.b).mono ?_;rintro e w1 ⟨z,hat,rfl,b1⟩;replace HK:=iH HK b1;clear b1
 rcases hat with ⟨i,x,rfl,hx,hn,_⟩|⟨rfl,hno⟩
 ·exact absurd ⟨i,x,hx,hn⟩ gX.out
 clear hno;go_wp2_with (first|refine zX (bZ HK 1) ?_|refine zX (aW (x:=c.k) (k:=4) E4.out) ?_);refine cb (lK.out 5 _) HK ?_;clear HK;intro _ HK;go_wp2_with (refine bX (q:=⟨5,au.vn⟩) HK 2 ?_;clear HK;intro _ HK;simp only[lS] at HK);exact OZ
theorem ail(G:World→Prop)(A:Option Addr)(cp n:Nat)(l:List Oh)(r:Rf)(c:aI.C)(w:World)(hG:∀W,G W→dS W A n cp l)(hs:dS w A n cp l)(hv:c.val.f<18446744073709551616)(ho:c.old.f<18446744073709551616)(fA:au.All (vs l) r c)(he:aI.aX c=0)(h4:¬c.k=4)(o:au.Ob)(hf:au.iV (vs l) c.name=some o)(hft:au.fits c.k o.kind=false):
  Calls prog 49 #[.slice A n cp,.agg #[.int .i64 r.c,.int .i64 r.e,.int .i64 r.r],.agg (dL c)] w (lX G ⟨vs l,au.err 7,false,[]⟩ w):=by
 have yA:=zH hG;have lK:=zH dD;have HK:=FX w 44 #[.int .i64 r.c,.int .i64 r.e,.int .i64 r.r] 46 (dL c) 28 (dG au.rz);have HM:=zH (fun W (hW:Below w.heap.size w W)=>bU A cp n l W (hs.later hW));unfold dw at HM;have HC:=zH (fun W=>fM r W);unfold dw at HC;have HE:=zH (fun W=>gV c W hv ho);unfold iQ at HE;have hall:=fA;rw[decide_eq_true hall.1] at HM;rw[decide_eq_true hall.2.1] at HC;have D4:Hid (decide (c.k<4)=false):=zH (decide_eq_false (by have:=hall.2.2.1;omega));have yB:Hid (decide (17<c.k)=false):=zH (decide_eq_false (by have:=hall.2.2.2;omega));rw[he] at HE;have Cy:=zH (fun W (hW:Below w.heap.size w W)=>gU A cp n l c.name W (hs.later hW));have Cc:Hid (¬∀(j:Nat) (y:Oh),l[j]?=some y→¬y.v.name=c.name):=zH (fun h=>by have:=(au.rY (l:=vs l) (k:=c.name) (fun j y hj=>by obtain⟨z,hz,rfl⟩:=yH hj;exact h j z hz)).2;rw[hf] at this;cases this);have Ce:Hid (∀(i:Nat) (x:Oh),l[i]?=some x→x.v.name=c.name→x.v=o):=zH (fun i x h1 h2=>by have:=(au.jI hall.1.up (dB h1) h2).2.2;rw[hf] at this;injection this with this;exact this.symm)
 have hpos:0<n:=by
  rcases Nat.eq_zero_or_pos n with h0|h0
  ·subst h0
   rw[List.length_eq_zero_iff.1 hs.len] at hf;cases hf
  ·exact h0
 have hl:=hs.len;obtain⟨b,rX,rfl,mX⟩:=hs.s.at hpos;have Ch:=zH mX;have HI:=zH hs.i;clear mX;have lJ:=zH (fun W=>kQ c.k o.kind hall.2.2.2 W);unfold dw at lJ;rw[hft] at lJ;have E4:Hid (decide (c.k=4)=false):=zH (decide_eq_false h4);clear hs hv ho hall fA hG he h4 hf hft;go_enter func49,ntmps49;go_wp2_with fail
 (refine(HM.out _ HK.out.b).mono ?_;rintro e w1 ⟨rfl,b1⟩)
 replace HK:=iH HK b1;clear b1;go_wp2_with refine zX (aP HK 0) ?_;refine cb (HC.out _) HK ?_;clear HK;intro _ HK;go_wp2_with (first|refine zX (bZ HK 1) ?_|refine zX (dJ (x:=c.k) (k:=4) D4.out) ?_|refine zX (dF (x:=c.k) (k:=17) yB.out) ?_|refine zX (Jz HK 1) ?_);refine cb (HE.out _) HK ?_;clear HK;intro _ HK;go_wp2_with refine zX (nJ HK 1) ?_;refine(Cy.out _ HK.out.b).mono ?_;rintro e w1 ⟨z,hat,rfl,b1⟩;replace HK:=iH HK b1;clear b1
 rcases hat with ⟨i,x,rfl,hx,hn,_⟩|⟨rfl,hno⟩
 case inr=>exact absurd hno Cc.out
 obtain rfl:=Ce.out i x hx hn;have HX:Hid (∀W,Below w.heap.size w W→∀j v,(yY x)[j]?=some v→W.cell? ⟨b,rX+i*11+j,none⟩=some v):=zH fun W hW=>Ch.out W hW i x hx
 have hin:i<n:=by have:=(List.getElem?_eq_some_iff.1 hx).1;omega
 have hi0:(0:Int)≤(i:Int):=by omega
 have hi1:(i:Int)<(n:Int):=by omega
 have G0:Hid (decide ((0:Int)≤(i:Int))=true):=zH (decide_eq_true hi0);have L0:Hid (decide ((i:Int)<0)=false):=zH (decide_eq_false (by omega));clear Ch hl hx hn Ce Cc;go_wp2_with (first|refine zX (bZ HK 1) ?_|refine zX (aW (x:=c.k) (k:=4) E4.out) ?_|refine zX (dJ (x:=(i:Int)) (k:=0) L0.out) ?_);have aj:=zH HK.out.drew;refine zR aj.out fun ah=>?_
 refine ak 0 rfl ?_;refine ak 1 rfl ?_ fun _ s=>bZ s 1
 refine ak 2 rfl ?_;refine ak 3 rfl ?_;refine ak 4 rfl ?_ fun _ s=>bH (i:=i) hin
 refine ak 5 rfl ?_;refine ak 6 rfl ?_ fun _ s=>fB (x:=x) (off:=rX+i*11) (HX.out _ s.out.b)
 refine aC 7 rfl fun K hK=>?_
 go_simp;go_at_call 94;refine(lJ.out _).mono ?_;rintro e w5 ⟨rfl,b5⟩;have hs:=zH (ah.out.call b5);clear b5;refine bk hK hs fun ah=>?_
 clear hK K;refine ak 8 rfl ?_;refine ak 9 rfl ?_;refine cB ?_;replace HK:=ah;clear ah aj;go_wp2_with fail;refine cb (lK.out 7 _) HK ?_;clear HK;intro _ HK;go_wp2_with (refine bX (q:=⟨7,au.vn⟩) HK 2 ?_;clear HK;intro _ HK;simp only[lS] at HK);exact OZ
theorem aeS(G:World→Prop)(A:Option Addr)(cp n:Nat)(l:List Oh)(r:Rf)(c:aI.C)(w:World)(hG:∀W,G W→dS W A n cp l)(hs:dS w A n cp l)(hv:c.val.f<18446744073709551616)(ho:c.old.f<18446744073709551616)(fA:au.All (vs l) r c)(he:aI.aX c=0)(h5:c.k=5)(o:au.Ob)(hf:au.iV (vs l) c.name=some o)(hrl:0<o.refs.length):
  Calls prog 49 #[.slice A n cp,.agg #[.int .i64 r.c,.int .i64 r.e,.int .i64 r.r],.agg (dL c)] w (lX G ⟨vs l,au.err 13,false,[]⟩ w):=by
 have yA:=zH hG;have lK:=zH dD;have HK:=FX w 44 #[.int .i64 r.c,.int .i64 r.e,.int .i64 r.r] 46 (dL c) 28 (dG au.rz);have HM:=zH (fun W (hW:Below w.heap.size w W)=>bU A cp n l W (hs.later hW));unfold dw at HM;have HC:=zH (fun W=>fM r W);unfold dw at HC;have HE:=zH (fun W=>gV c W hv ho);unfold iQ at HE;have hall:=fA;rw[decide_eq_true hall.1] at HM;rw[decide_eq_true hall.2.1] at HC;have D4:Hid (decide (c.k<4)=false):=zH (decide_eq_false (by have:=hall.2.2.1;omega));have yB:Hid (decide (17<c.k)=false):=zH (decide_eq_false (by have:=hall.2.2.2;omega));rw[he] at HE;have Cy:=zH (fun W (hW:Below w.heap.size w W)=>gU A cp n l c.name W (hs.later hW));have Cc:Hid (¬∀(j:Nat) (y:Oh),l[j]?=some y→¬y.v.name=c.name):=zH (fun h=>by have:=(au.rY (l:=vs l) (k:=c.name) (fun j y hj=>by obtain⟨z,hz,rfl⟩:=yH hj;exact h j z hz)).2;rw[hf] at this;cases this);have Ce:Hid (∀(i:Nat) (x:Oh),l[i]?=some x→x.v.name=c.name→x.v=o):=zH (fun i x h1 h2=>by have:=(au.jI hall.1.up (dB h1) h2).2.2;rw[hf] at this;injection this with this;exact this.symm)
 have hpos:0<n:=by
  rcases Nat.eq_zero_or_pos n with h0|h0
  ·subst h0
   rw[List.length_eq_zero_iff.1 hs.len] at hf;cases hf
  ·exact h0
 have hl:=hs.len;obtain⟨b,rX,rfl,mX⟩:=hs.s.at hpos;have Ch:=zH mX;have HI:=zH hs.i;clear mX;have hft:au.fits c.k o.kind=true:=by rw[h5];rfl
 have HRl:=zH hrl;have lJ:=zH (fun W=>kQ c.k o.kind hall.2.2.2 W);unfold dw at lJ;rw[hft] at lJ;have E4:Hid (decide (c.k=4)=false):=zH (decide_eq_false (by omega));have E5:Hid (decide (c.k=5)=true):=zH (decide_eq_true h5);clear hs hv ho hall fA hG he h5 hf hft hrl;go_enter func49,ntmps49;go_wp2_with fail
 (refine(HM.out _ HK.out.b).mono ?_;rintro e w1 ⟨rfl,b1⟩)
 replace HK:=iH HK b1;clear b1;go_wp2_with refine zX (aP HK 0) ?_;refine cb (HC.out _) HK ?_;clear HK;intro _ HK;go_wp2_with (first|refine zX (bZ HK 1) ?_|refine zX (dJ (x:=c.k) (k:=4) D4.out) ?_|refine zX (dF (x:=c.k) (k:=17) yB.out) ?_|refine zX (Jz HK 1) ?_);refine cb (HE.out _) HK ?_;clear HK;intro _ HK;go_wp2_with refine zX (nJ HK 1) ?_;refine(Cy.out _ HK.out.b).mono ?_;rintro e w1 ⟨z,hat,rfl,b1⟩;replace HK:=iH HK b1;clear b1
 rcases hat with ⟨i,x,rfl,hx,hn,_⟩|⟨rfl,hno⟩
 case inr=>exact absurd hno Cc.out
 obtain rfl:=Ce.out i x hx hn;have HX:Hid (∀W,Below w.heap.size w W→∀j v,(yY x)[j]?=some v→W.cell? ⟨b,rX+i*11+j,none⟩=some v):=zH fun W hW=>Ch.out W hW i x hx
 have hin:i<n:=by have:=(List.getElem?_eq_some_iff.1 hx).1;omega
 have hi0:(0:Int)≤(i:Int):=by omega
 have hi1:(i:Int)<(n:Int):=by omega
 have G0:Hid (decide ((0:Int)≤(i:Int))=true):=zH (decide_eq_true hi0);have L0:Hid (decide ((i:Int)<0)=false):=zH (decide_eq_false (by omega));have R0:Hid (decide ((0:Int)<(x.rn:Int))=true):=zH (decide_eq_true (by have h1:=(HI.out x (List.mem_of_getElem? hx)).r.len;have h2:=HRl.out;omega));clear Ch hl hx hn Ce Cc HRl;go_wp2_with (first|refine zX (bZ HK 1) ?_|refine zX (aW (x:=c.k) (k:=4) E4.out) ?_|refine zX (dJ (x:=(i:Int)) (k:=0) L0.out) ?_);have aj:=zH HK.out.drew;refine zR aj.out fun ah=>?_
 refine ak 0 rfl ?_;refine ak 1 rfl ?_ fun _ s=>bZ s 1
 refine ak 2 rfl ?_;refine ak 3 rfl ?_;refine ak 4 rfl ?_ fun _ s=>bH (i:=i) hin
 refine ak 5 rfl ?_;refine ak 6 rfl ?_ fun _ s=>fB (x:=x) (off:=rX+i*11) (HX.out _ s.out.b)
 refine aC 7 rfl fun K hK=>?_
 go_simp;go_at_call 94;refine(lJ.out _).mono ?_;rintro e w5 ⟨rfl,b5⟩;have hs:=zH (ah.out.call b5);clear b5;refine bk hK hs fun ah=>?_
 clear hK K;refine ak 8 rfl ?_;refine ak 9 rfl ?_;refine cB ?_;replace HK:=ah;clear ah aj;go_wp2_with (first|refine zX (bZ HK 1) ?_|refine zX (aW (x:=c.k) (k:=5) E5.out) ?_|refine zX (bH (i:=i) hin) ?_|refine zX (sM (x:=x) (off:=rX+i*11) (HX.out _ HK.out.b)) ?_|refine zX (dF (x:=(x.rn:Int)) (k:=0) R0.out) ?_);refine cb (lK.out 13 _) HK ?_;clear HK;intro _ HK;go_wp2_with (refine bX (q:=⟨13,au.vn⟩) HK 2 ?_;clear HK;intro _ HK;simp only[lS] at HK);exact OZ
theorem aeN(G:World→Prop)(A:Option Addr)(cp n:Nat)(l:List Oh)(r:Rf)(c:aI.C)(w:World)(hG:∀W,G W→dS W A n cp l)(hs:dS w A n cp l)(hv:c.val.f<18446744073709551616)(ho:c.old.f<18446744073709551616)(fA:au.All (vs l) r c)(he:aI.aX c=0)(h5:c.k=5)(o:au.Ob)(hf:au.iV (vs l) c.name=some o)(hrl:¬0<o.refs.length):
  Calls prog 49 #[.slice A n cp,.agg #[.int .i64 r.c,.int .i64 r.e,.int .i64 r.r],.agg (dL c)] w (lX G (au.iq (vs l) r c) w):=by
 have yA:=zH hG;have lK:=zH dD;have HK:=FX w 44 #[.int .i64 r.c,.int .i64 r.e,.int .i64 r.r] 46 (dL c) 28 (dG au.rz);have HM:=zH (fun W (hW:Below w.heap.size w W)=>bU A cp n l W (hs.later hW));unfold dw at HM;have HC:=zH (fun W=>fM r W);unfold dw at HC;have HE:=zH (fun W=>gV c W hv ho);unfold iQ at HE;have hall:=fA;rw[decide_eq_true hall.1] at HM;rw[decide_eq_true hall.2.1] at HC;have D4:Hid (decide (c.k<4)=false):=zH (decide_eq_false (by have:=hall.2.2.1;omega));have yB:Hid (decide (17<c.k)=false):=zH (decide_eq_false (by have:=hall.2.2.2;omega));rw[he] at HE;have Cy:=zH (fun W (hW:Below w.heap.size w W)=>gU A cp n l c.name W (hs.later hW));have Cc:Hid (¬∀(j:Nat) (y:Oh),l[j]?=some y→¬y.v.name=c.name):=zH (fun h=>by have:=(au.rY (l:=vs l) (k:=c.name) (fun j y hj=>by obtain⟨z,hz,rfl⟩:=yH hj;exact h j z hz)).2;rw[hf] at this;cases this);have Ce:Hid (∀(i:Nat) (x:Oh),l[i]?=some x→x.v.name=c.name→x.v=o):=zH (fun i x h1 h2=>by have:=(au.jI hall.1.up (dB h1) h2).2.2;rw[hf] at this;injection this with this;exact this.symm)
 have hpos:0<n:=by
  rcases Nat.eq_zero_or_pos n with h0|h0
  ·subst h0
   rw[List.length_eq_zero_iff.1 hs.len] at hf;cases hf
  ·exact h0
 have hl:=hs.len;obtain⟨b,rX,rfl,mX⟩:=hs.s.at hpos;have Ch:=zH mX;have HI:=zH hs.i;clear mX;have hft:au.fits c.k o.kind=true:=by rw[h5];rfl
 have HRl:=zH hrl;have Eb:Hid (∀(i:Nat) (x:Oh),l[i]?=some x→x.v.name=c.name→x.v=o→au.iq (vs l) r c=⟨(vs l).take i++(vs l).drop (i+1),au.rz,false,[]⟩):=zH (fun i x h1 h2 h3=>au.agd hall he h5 (dB h1) h2 (by rw[h3];exact hrl));have HS:=zH hs;have hn8:n≤8:=by have:=hall.1.len;rw[gq,hs.len] at this;exact this
 have lJ:=zH (fun W=>kQ c.k o.kind hall.2.2.2 W);unfold dw at lJ;rw[hft] at lJ;have E4:Hid (decide (c.k=4)=false):=zH (decide_eq_false (by omega));have E5:Hid (decide (c.k=5)=true):=zH (decide_eq_true h5);clear hs hv ho hall fA hG he h5 hf hft hrl;generalize hds:au.iq (vs l) r c=ds at *
 clear hds;go_enter func49,ntmps49;go_wp2_with fail
 (refine(HM.out _ HK.out.b).mono ?_;rintro e w1 ⟨rfl,b1⟩)
 replace HK:=iH HK b1;clear b1;go_wp2_with refine zX (aP HK 0) ?_;refine cb (HC.out _) HK ?_;clear HK;intro _ HK;go_wp2_with (first|refine zX (bZ HK 1) ?_|refine zX (dJ (x:=c.k) (k:=4) D4.out) ?_|refine zX (dF (x:=c.k) (k:=17) yB.out) ?_|refine zX (Jz HK 1) ?_);refine cb (HE.out _) HK ?_;clear HK;intro _ HK;go_wp2_with refine zX (nJ HK 1) ?_;refine(Cy.out _ HK.out.b).mono ?_;rintro e w1 ⟨z,hat,rfl,b1⟩;replace HK:=iH HK b1;clear b1
 rcases hat with ⟨i,x,rfl,hx,hn,_⟩|⟨rfl,hno⟩
 case inr=>exact absurd hno Cc.out
 obtain rfl:=Ce.out i x hx hn;have HX:Hid (∀W,Below w.heap.size w W→∀j v,(yY x)[j]?=some v→W.cell? ⟨b,rX+i*11+j,none⟩=some v):=zH fun W hW=>Ch.out W hW i x hx
 have hin:i<n:=by have:=(List.getElem?_eq_some_iff.1 hx).1;omega
 have hi0:(0:Int)≤(i:Int):=by omega
 have hi1:(i:Int)<(n:Int):=by omega
 have G0:Hid (decide ((0:Int)≤(i:Int))=true):=zH (decide_eq_true hi0);have L0:Hid (decide ((i:Int)<0)=false):=zH (decide_eq_false (by omega));have R0:Hid (decide ((0:Int)<(x.rn:Int))=false):=zH (decide_eq_false (by have h1:=(HI.out x (List.mem_of_getElem? hx)).r.len;have h2:=HRl.out;omega));obtain rfl:=Eb.out i x hx hn rfl;have uJ:=zH hl;clear Ch hx hn Ce Cc HRl Eb hl;have hin1:i+1≤n:=hin;have hinc:i≤cp:=Nat.le_trans (Nat.le_of_lt hin) HS.out.s.cap;have hi3:i<9223372036854775807:=by omega
 have MS:Hid (i=(l.take i).length):=zH (by rw[List.length_take,uJ.out];omega);have HDr:Hid (n-(i+1)=(l.drop (i+1)).length):=zH (by rw[List.length_drop,uJ.out])
 have oW:Hid (([]:List Oh).length+(l.take i).length≤9223372036854775807∧(([]:List Oh).length+(l.take i).length)*bB.bytes≤211106232532992):=zH (by
  rw[← MS.out,List.length_nil,Nat.zero_add];refine⟨by omega,?_⟩
  show i*144≤_
  omega)
 have kU:Hid ((([]:List Oh)++l.take i).length=i):=zH MS.out.symm
 have HG2:Hid ((l.take i).length+(l.drop (i+1)).length≤9223372036854775807∧((l.take i).length+(l.drop (i+1)).length)*bB.bytes≤211106232532992):=zH (by
  rw[← MS.out,← HDr.out];refine⟨by omega,?_⟩
  show(i+(n-(i+1)))*144≤_
  omega)
 have fP:Hid ((l.take i++l.drop (i+1)).length=n-1):=zH (by rw[List.length_append,← MS.out,← HDr.out];omega);go_wp2_with (first|refine zX (bZ HK 1) ?_|refine zX (aW (x:=c.k) (k:=4) E4.out) ?_|refine zX (dJ (x:=(i:Int)) (k:=0) L0.out) ?_);have aj:=zH HK.out.drew;refine zR aj.out fun ah=>?_
 refine ak 0 rfl ?_;refine ak 1 rfl ?_ fun _ s=>bZ s 1
 refine ak 2 rfl ?_;refine ak 3 rfl ?_;refine ak 4 rfl ?_ fun _ s=>bH (i:=i) hin
 refine ak 5 rfl ?_;refine ak 6 rfl ?_ fun _ s=>fB (x:=x) (off:=rX+i*11) (HX.out _ s.out.b)
 refine aC 7 rfl fun K hK=>?_
 go_simp;go_at_call 94;refine(lJ.out _).mono ?_;rintro e w5 ⟨rfl,b5⟩;have hs:=zH (ah.out.call b5);clear b5;refine bk hK hs fun ah=>?_
 clear hK K;refine ak 8 rfl ?_;refine ak 9 rfl ?_;refine cB ?_;replace HK:=ah;clear ah aj;go_wp2_with (first|refine zX (bZ HK 1) ?_|refine zX (aW (x:=c.k) (k:=5) E5.out) ?_|refine zX (bH (i:=i) hin) ?_|refine zX (sM (x:=x) (off:=rX+i*11) (HX.out _ HK.out.b)) ?_|refine zX (dF (x:=(x.rn:Int)) (k:=0) R0.out) ?_);have aj:=zH HK.out.drew;refine zR ((aj.out.aB 0).ay 0) fun ah=>?_
 refine ak 1 rfl ?_;refine ak 2 rfl ?_;refine ak 3 rfl ?_ fun _ s=>BJ bB (hi:=i) _ _ (by rfl) (by rfl) (by rfl) hinc
 refine ak 5 rfl ?_;refine ak 6 rfl ?_;refine ak 7 rfl ?_ fun _ s=>aR (j:=i) hi3
 refine ak 8 rfl ?_ fun _ s=>kT bB (lo:=i+1) _ _ hin1
 refine ak 10 rfl ?_;refine aC 0 rfl fun K hK=>?_
 refine jV bB aj ?_;clear aj;intro w6 g6 aj _;simp only[aK] at aj;have hs:=zH ((aj.out.aB 0).ay 0);refine bk hK hs fun ah=>?_
 clear hK K;refine aC 4 rfl fun K hK=>?_
 refine aM bB aj 0 (l.take i) MS.out (zH (let h:=(HS.out.s.take (Nat.le_of_lt hin)).later aj.out.b;And.intro h.rd h.nl)) oW (N:=i) kU ?_;clear aj;intro A8 c8 w8 aj;simp only[List.set,aK] at aj;have hs:=zH ((aj.out.aB 0).ay 0);refine bk hK hs fun ah=>?_
 clear hK K;refine aC 9 rfl fun K hK=>?_
 refine aM bB aj 0 (l.drop (i+1)) HDr.out (zH (let h:=(HS.out.s.drop hin1).later aj.out.b;And.intro h.rd h.nl)) HG2 (N:=n-1) fP ?_;clear aj;intro A9 c9 w9 aj;simp only[lS] at aj;have hs:=zH ((aj.out.aB 0).ay 0);refine bk hK hs fun ah=>?_
 clear hK K;refine ak 11 rfl ?_;refine aC 12 rfl fun K hK=>?_
 refine bO (q:=au.rz) aj 2 ?_;clear aj;intro wq aj;simp only[lS] at aj;have hs:=zH ((aj.out.aB 0).ay 0);refine bk hK hs fun ah=>?_
 clear hK K;refine ak 13 rfl ?_;refine ak 14 rfl ?_;refine cB ?_
 all_goals
  go_wp2_with fail;exact xI results49 (aj.out.blk 2 rfl) (hR:=(by unfold lX;exact⟨_,_,_,_,_,_,_,_,rfl,ahR l i (i+1),aj.out.aB 0,fun _ _ _ _ _ K hm hb=>⟨⟨bT.own (K.mem (hm _ (List.mem_cons_self ..))) ⟨fun y hy=>trivial,by rw[fP.out];show(n-1)*144≤_;omega⟩,fun y hy=>aiV (yA.out _ hb).i hy⟩,bT.none _⟩⟩))
end
section
theorem EL{w:World}{b:Nat}{A:Option Addr}{n c:Nat}{l:List aQ.Pr}(h:bY.Own b w (.slice A n c) l):bY.Reads w w.heap.size A l∧(A=none→l=[]):=by
 have hr:=h.reads;refine⟨hr.2,fun hA=>?_⟩;subst hA
 rcases h.2 with ⟨_,h0⟩|⟨g,cap,cur,e,_⟩
 ·exact List.length_eq_zero_iff.1 h0
 ·cases e
theorem Av(A:Option Addr)(c n:Nat)(l:List aQ.Pr)(key:ByteArray)(w:World)(hs:Sl w A n c l):
  Calls prog 132 #[.slice A n c,.string key] w (Cw (aQ.sJ l key) (aQ.uZ l key) w):=by
 have HM:=zH (fun W (hW:Below w.heap.size w W)=>uP A c n l W (hs.later hW));have HS:=zH hs;unfold Cw dw at *
 have HK:=zH (Kn.start w);by_cases hr:aQ.Right l
 ·rw[decide_eq_true hr] at HM
  have HG:Hid (∀k,k<n→∃x,l[k]?=some x):=zH fun k hk=>Lay.dW (l:=l) (k:=k) (by rw[hs.len];exact hk)
  have amh:Hid (l.drop n=[]):=zH (List.drop_of_length_le (by rw[hs.len];exact Nat.le_refl _));have XR:Hid (∀v,aQ.iV l key=some v→aQ.sJ l key=v∧aQ.uZ l key=0):=zH fun v hv=>aQ.aaJ hr hv
  have XT:Hid (aQ.iV l key=none→aQ.sJ l key=aQ.emp∧aQ.uZ l key=5):=zH fun hv=>aQ.aaK hr hv
  have hn63:n<9223372036854775807:=Nat.lt_of_le_of_lt hs.big (by decide);clear hr hs;generalize aQ.sJ l key=V at *
  generalize aQ.uZ l key=X at *
  go_enter func132,ntmps132;go_wp2_with (refine aL HK ?_;clear HK;intro _ g1 HK;simp only[aS,aK] at HK);refine(HM.out _ HK.out.b).mono ?_;rintro e w1 ⟨rfl,b1⟩;replace HK:=iH HK b1;clear b1 HM;go_wp2_with fail;go_loop [6] (fun vi=>∃k:Nat,k≤n∧vi=.int .i64 k∧Hid (aQ.iV l key=aQ.iV (l.drop k) key)) (fun vi=>n-(intOf vi).toNat)
  case atStart=>exact⟨0,Nat.zero_le _,rfl,zH rfl⟩
  case round=>
   obtain⟨k,hk,rfl,HF⟩:=hrel;have hk1:(0:Int)≤(k:Int):=by omega
   by_cases hlt:k<n
   ·have hk2:(k:Int)<(n:Int):=by omega
    have hk3:k<9223372036854775807:=by omega
    obtain⟨x,hx⟩:=HG.out k hlt;obtain⟨b,o,rfl,hat⟩:=HS.out.at (Nat.lt_of_le_of_lt (Nat.zero_le _) hlt);have HX:=zH (fun W hW=>hat W hW k x hx);have HFx:=zH (HF.out.trans (aQ.Wx hx key));clear hat hx HF;by_cases he:x.key=key
    ·have hv:=HFx.out
     rw[if_pos he] at hv;obtain⟨rfl,rfl⟩:=XR.out _ hv;have HE:=zH (show decide (x.key=key)=true from decide_eq_true he);clear he hv HFx XT XR;obtain⟨xk,k',m,f,s⟩:=x;simp only at HE;go_wp2_with (first|refine av (eu (off:=o+k*5) (HX.out _ HK.out.b)) ?_|refine av (sK HE.out) ?_|refine av (sN (off:=o+k*5) (HX.out _ HK.out.b)) ?_|(refine aH (f2:=f) HK 0 ?_;clear HK;intro _ HK;simp only[lS] at HK));exact Um results132 (HK.out.blk 0 rfl) ⟨rfl,HK.out.b⟩
    ·have hv:=HFx.out
     rw[if_neg he] at hv;have HFn:=zH hv;have HE:=zH (show decide (x.key=key)=false from decide_eq_false he);clear he hv HFx;go_wp2_with (first|refine av (eu (off:=o+k*5) (HX.out _ HK.out.b)) ?_|refine av (sK HE.out) ?_|refine av (aR (j:=k) hk3) ?_);exact⟨⟨k+1,hlt,rfl,HFn⟩,by simp[intOf];omega⟩
   ·obtain rfl:k=n:=by omega
    have hv:=HF.out;rw[amh.out] at hv;obtain⟨rfl,rfl⟩:=XT.out hv;clear hv XR XT HF;exact ahn
 ·rw[decide_eq_false hr] at HM
  obtain⟨e1,e2⟩:=aQ.LW hr key;rw[e1,e2];clear e1 e2 hr;unfold aQ.emp vv;simp only;go_enter func132,ntmps132;go_wp2_with (refine aL HK ?_;clear HK;intro _ g1 HK;simp only[aS,aK] at HK);refine cb (HM.out _ HK.out.b) HK ?_;clear HK;intro _ HK;exact ahn
theorem Eu(A:Option Addr)(c n:Nat)(l:List aQ.Pr)(key:ByteArray)(w:World)(hs:Sl w A n c l):
  Calls prog 152 #[.slice A n c,.string key] w (IsL (aQ.wo l key) w):=by
 have HS:=zH hs;have HG:Hid (∀k,k<n→∃x,l[k]?=some x):=zH fun k hk=>Lay.dW (l:=l) (k:=k) (by rw[hs.len];exact hk)
 have yS:Hid (l.take n=l):=zH (List.take_of_length_le (by rw[hs.len];exact Nat.le_refl _))
 have HLen:Hid (∀k,(aQ.wo (l.take k) key).length≤2513169434916):=zH fun k=>by
  have h1:(aQ.wo (l.take k) key).length≤(l.take k).length:=List.length_filter_le _ _;have h2:(l.take k).length≤l.length:=by rw[List.length_take];omega
  have h3:=hs.big;have h4:=hs.len;omega
 have hn63:n<9223372036854775807:=Nat.lt_of_le_of_lt hs.big (by decide);clear hs;have HK:=zH ((Kn.start w).Cq bY);simp only[aK] at HK;go_enter func152,ntmps152;go_wp2_with fail;go_loopw [5,6] (fun vs vi wr=>∃(k:Nat) (A1:Option Addr) (c1 N:Nat),k≤n∧vs=.slice A1 N c1∧vi=.int .i64 k∧Hid ((aQ.wo (l.take k) key).length=N)∧Hid (Kn w.heap.size w wr [] [row bY (.slice A1 N c1) (aQ.wo (l.take k) key)])) (fun _ vi _=>n-(intOf vi).toNat)
 case atStart=>exact⟨0,_,_,0,Nat.zero_le _,rfl,rfl,zH rfl,HK⟩
 case round=>
  clear HK;obtain⟨k,A1,c1,N,hk,rfl,rfl,hN,HK⟩:=hrel;have hk1:(0:Int)≤(k:Int):=by omega
  by_cases hlt:k<n
  ·have hk2:(k:Int)<(n:Int):=by omega
   have hk3:k<9223372036854775807:=by omega
   obtain⟨x,hx⟩:=HG.out k hlt;obtain⟨b,o,rfl,hat⟩:=HS.out.at (Nat.lt_of_le_of_lt (Nat.zero_le _) hlt);have HX:=zH (fun W hW=>hat W hW k x hx);have HW:=zH (aQ.Eh hx key);have hlen:=HLen.out k;rw[hN.out] at hlen;clear hat hx;by_cases he:x.key=key
   ·have hw:=HW.out
    rw[if_pos he] at hw;have HE:=zH (show(!decide (x.key=key))=false by rw[decide_eq_true he];rfl);have HW2:=zH hw;clear he hw HW;go_wp2_with (first|refine av (eu (off:=o+k*5) (HX.out _ HK.out.b)) ?_|refine av (IB HE.out) ?_|refine av (aR (j:=k) hk3) ?_);exact⟨⟨k+1,A1,c1,N,hlt,rfl,rfl,zH (by rw[HW2.out];exact hN.out),by rw[HW2.out];exact HK⟩,by simp[intOf];omega⟩
   ·have hw:=HW.out
    rw[if_neg he] at hw;have HE:=zH (show(!decide (x.key=key))=true by rw[decide_eq_false he];rfl);have HW2:=zH hw
    have HL:Hid ((aQ.wo (l.take k) key).length+[x].length≤9223372036854775807∧((aQ.wo (l.take k) key).length+[x].length)*bY.bytes≤211106232532992):=zH (by
     rw[hN.out]
     show N+1≤_∧(N+1)*56≤_
     omega)
    have fP:Hid ((aQ.wo (l.take k) key++[x]).length=N+1):=zH (by rw[List.length_append,hN.out];rfl);clear he hw HW;go_wp2_with (first|refine av (eu (off:=o+k*5) (HX.out _ HK.out.b)) ?_|refine av (IB HE.out) ?_|refine av (aR (j:=k) hk3) ?_|refine av (v:=.agg (vS x)) (mZ (off:=o+k*5) (HX.out _ HK.out.b)) ?_|(refine pQ (p:=x) HK ?_;intro w2 g2 dz;simp only[aS,aK] at dz;have HR:=zH (EL (dz.out.own 1 rfl));replace HK:=dz;clear dz)|(at_builtin;refine bA HK bY 0 [x] rfl HR HL (N:=N+1) fP ?_;clear HK;intro A4 c4 _ HK;simp only[lS] at HK));exact⟨⟨k+1,A4,c4,N+1,hlt,rfl,rfl,zH (by rw[HW2.out];exact fP.out),by rw[HW2.out];exact zH (HK.out.ay 1)⟩,by simp[intOf];omega⟩
  ·obtain rfl:k=n:=by omega
   rw[yS.out] at HK hN;obtain rfl:=hN.out;go_wp2_with fail;go_ret;exact⟨A1,_,c1,rfl,HK.out.own 0 rfl,HK.out.b⟩
end
section
def Jt(A:Option Addr)(n c:Nat)(l r:List aQ.Pr)(x:Int)(w:World)(e:Ending)(w':World):Prop:=∃A' n' c',e=.returned (.tuple #[.slice A' n' c',.int .i64 x])∧(bY.Own w.heap.size w' (.slice A' n' c') r∨(A'=A∧n'=n∧c'=c∧r=l))∧Below w.heap.size w w'
theorem UL{A:Option Addr}{n c:Nat}{l:List aQ.Pr}{x:Int}{w w':World}(hb:Below w.heap.size w w'):Jt A n c l l x w (.returned (.tuple #[.slice A n c,.int .i64 x])) w':=⟨A,n,c,rfl,.inr ⟨rfl,rfl,rfl,rfl⟩,hb⟩
theorem ZF{A A':Option Addr}{n c n' c':Nat}{l r r':List aQ.Pr}{x:Int}{w w':World}(ho:bY.Own w.heap.size w' (.slice A' n' c') r')(hb:Below w.heap.size w w')(he:r'=r:=by rw[HLd.out]<;>simp):Jt A n c l r x w (.returned (.tuple #[.slice A' n' c',.int .i64 x])) w':=⟨A',n',c',rfl,.inl (he▸ho),hb⟩
theorem Gp(A:Option Addr)(c n:Nat)(l:List aQ.Pr)(key:ByteArray)(v:Val.V)(w:World)(hs:Sl w A n c l)(hv:v.f<18446744073709551616):
  Calls prog 133 #[.slice A n c,.string key,vv v] w (Jt A n c l (aQ.yI l key v) (aQ.vR l key v) w):=by
 have HM:=zH (fun W (hW:Below w.heap.size w W)=>uP A c n l W (hs.later hW));have HC:=zH (fun W=>bK v W hv);have HW:=zH (fun W (hW:Below w.heap.size w W)=>Eu A c n l key W (hs.later hW));by_cases hr:aQ.Right l
 case neg=>
  obtain⟨e1,e2⟩:=aQ.afa hr key v;rw[decide_eq_false hr] at HM;rw[e1,e2];clear e1 e2 hr hs hv HC HW;obtain⟨k,m,f,s⟩:=v;unfold vv dw at *
  simp only;have HK:=jw w 26 (vC k m f s);unfold vC at HK;go_enter func133,ntmps133;go_wp2_with fail;refine cb (HM.out _ HK.out.b) HK ?_;clear HK;intro _ HK;go_wp2_with fail;exact Sw
 case pos=>
 rw[decide_eq_true hr] at HM
 have Cg:Hid (∀x,aQ.jG key v=x→¬x=0→aQ.vR l key v=x∧aQ.yI l key v=l):=zH fun x hx h=>by
  subst hx;exact aQ.UF hr h
 have jr:Hid (aQ.jG key v=0→((aQ.wo l key).length=8→aQ.vR l key v=6∧aQ.yI l key v=l)∧(¬(aQ.wo l key).length=8→aQ.vR l key v=0∧aQ.yI l key v=(aQ.wo l key).take (aQ.idx (aQ.wo l key) key)++[⟨key,v⟩]++(aQ.wo l key).drop (aQ.idx (aQ.wo l key) key))):=zH fun h=>by
  have h8:=(aQ.og hr key).len;refine⟨fun h2=>aQ.Zz hr h (by omega),fun h2=>?_⟩;rw[aQ.afI hr.up];exact aQ.aiw hr h (by omega)
 have HFL:Hid (Fit (aQ.wo l key)):=zH (hs.fit.wo key);have MU:Hid (aQ.jG key v=if v.k=0 then 1 else if 64<key.size then 2 else Val.aX v):=zH rfl;have hl8:=(aQ.og hr key).len;have aiX:=aQ.qj (aQ.wo l key) key;have HB:Hid (∀k x,k<aQ.idx (aQ.wo l key) key→(aQ.wo l key)[k]?=some x→aQ.lt x.key key=true):=zH fun k x hk hx=>aQ.xU hk hx
 have HA:Hid (∀x,(aQ.wo l key)[aQ.idx (aQ.wo l key) key]?=some x→aQ.lt x.key key=false):=zH fun x hx=>aQ.xV hx
 clear hr hs hv;generalize aQ.vR l key v=X at *
 generalize aQ.yI l key v=r at *
 generalize aQ.wo l key=left at *
 generalize aQ.idx left key=p at *
 generalize aQ.jG key v=z at *
 generalize Val.aX v=zc at *
 obtain⟨k,m,f,s⟩:=v;unfold vv iQ dw IsL at *
 simp only at HC MU ⊢;have HK:=jw w 26 (vC k m f s);unfold vC at HK;go_enter func133,ntmps133;go_wp2_with fail;refine cb (HM.out _ HK.out.b) HK ?_;clear HK;intro _ HK;by_cases hk:k=0
 ·have hz:=MU.out
  rw[if_pos hk] at hz;obtain⟨rfl,rfl⟩:=Cg.out 1 hz (by decide);clear Cg jr MU hz;subst hk;go_wp2_with refine av (aT HK 3 _ (by rfl) 0 (by rfl) (by rfl) (v:=.int .i64 0) underlying3) ?_;exact Sw
 have hz:=MU.out;rw[if_neg hk] at hz;clear MU;have hk2:(k==0)=false:=by simpa using hk
 by_cases h64:64<key.size
 ·rw[if_pos h64] at hz
  obtain⟨rfl,rfl⟩:=Cg.out 2 hz (by decide);have afV:64<(key.size:Int):=by omega
  clear Cg jr hz;go_wp2_with refine av (aT HK 3 _ (by rfl) 0 (by rfl) (by rfl) (v:=.int .i64 k) underlying3) ?_;exact Sw
 have afV:¬64<(key.size:Int):=by omega
 rw[if_neg h64] at hz;go_wp2_with (first|refine av (aT HK 3 _ (by rfl) 0 (by rfl) (by rfl) (v:=.int .i64 k) underlying3) ?_|refine av (aZ HK 0) ?_);refine(HC.out _).mono ?_;rintro e w1 ⟨rfl,b1⟩;replace HK:=iH HK b1;clear b1 HC;by_cases hzc:zc=0
 case neg=>
  obtain⟨rfl,rfl⟩:=Cg.out _ hz hzc;have hz2:(X != 0)=true:=by simpa using hzc
  clear Cg jr hz;go_wp2_with fail;exact Sw
 case pos=>
 obtain⟨hfull,hok⟩:=jr.out (hz.trans hzc);subst hzc;clear Cg jr hz HM;go_wp2_with fail;refine(HW.out _ HK.out.b).mono ?_;rintro e w1 ⟨AL,nL,cL,rfl,oL,b1⟩;replace HK:=zH (HK.out.called b1 oL);have hnL:=(Lay.Own.reads oL).1;simp only[aK] at HK;clear b1 oL HW;rw[← hnL] at hfull hok aiX hl8;have HNL:=zH hnL;clear hnL;by_cases h8:nL=8
 ·obtain⟨rfl,rfl⟩:=hfull h8
  subst h8;clear hok hfull;go_wp2_with fail;exact Sw
 obtain⟨rfl,rfl⟩:=hok h8;have h82:((nL:Int)==8)=false:=by simp;omega
 clear hok hfull;have MS:Hid (∀k,k≤p→(left.take k).length=k):=zH fun k hk=>by rw[List.length_take,← HNL.out];omega
 have HG:Hid (∀k,k<nL→∃x,left[k]?=some x):=zH fun k hk=>Lay.dW (l:=left) (k:=k) (by rw[← HNL.out];exact hk)
 replace HK:=zH (HK.out.Cq bY);simp only[aS,aK] at HK;go_wp2_with fail;go_loopw [10,11] (fun vs vi wr=>∃(q:Nat) (A1:Option Addr) (c1:Nat),q≤p∧vs=.slice A1 q c1∧vi=.int .i64 q∧Hid (Kn w.heap.size w wr [(w.heap.size,26,#[.int .i64 k,.int .i64 m,.int .u64 (f:Int),.string s])] [row bY (.slice AL nL cL) left,row bY (.slice A1 q c1) (left.take q)])) (fun _ vi _=>p+1-(intOf vi).toNat)
 case atStart=>exact⟨0,_,_,Nat.zero_le _,rfl,rfl,HK⟩
 case round=>
  clear HK;obtain⟨q,A1,c1,hq,rfl,rfl,HK⟩:=hrel;have hq1:(0:Int)≤(q:Int):=by omega
  have HSl:=zH (Sl.own (HK.out.own 0 rfl) HFL.out);by_cases hlt:q<p
  ·have hqn:q<nL:=by omega
   have hq2:(q:Int)<(nL:Int):=by omega
   have hq3:q<9223372036854775807:=by omega
   obtain⟨x,hx⟩:=HG.out q hqn;obtain⟨b,o,rfl,hat⟩:=HSl.out.at (Nat.lt_of_le_of_lt (Nat.zero_le _) hqn);have HX:=zH (hat wr (Below.refl _ wr) q x hx);have HLt:=zH (HB.out q x hlt hx);have HE:=zH (Lay.take_succ hx);have hln:=MS.out q hq
   have HL:Hid ((left.take q).length+[x].length≤9223372036854775807∧((left.take q).length+[x].length)*bY.bytes≤211106232532992):=zH (by
    rw[hln]
    show q+1≤_∧(q+1)*56≤_
    omega)
   have fP:Hid ((left.take q++[x]).length=q+1):=zH (by rw[List.length_append,hln];rfl);clear hat hx hln HSl HA;go_wp2_with (first|refine av (eu (off:=o+q*5) HX.out) ?_|refine av (wI HLt.out) ?_|refine av (aR (j:=q) hq3) ?_|refine av (v:=.agg (vS x)) (mZ (off:=o+q*5) HX.out) ?_|(refine pQ (p:=x) HK ?_;intro w2 g2 dz;simp only[aS,aK] at dz;have HR:=zH (EL (dz.out.own 2 rfl));replace HK:=dz;clear dz)|(at_builtin;refine bA HK bY 1 [x] rfl HR HL (N:=q+1) fP ?_;clear HK;intro A4 c4 _ HK;simp only[lS] at HK));exact⟨⟨q+1,A4,c4,hlt,rfl,rfl,by rw[HE.out];exact zH (HK.out.ay 2)⟩,by simp[intOf];omega⟩
  ·obtain rfl:q=p:=by omega
   have hpn:q≤nL:=aiX;have hln:=MS.out q hq;have hld:(left.drop q).take (nL-q)=left.drop q:=List.take_of_length_le (by rw[List.length_drop,← HNL.out];exact Nat.le_refl _);have afN:(left.drop q).length=nL-q:=by rw[List.length_drop,← HNL.out]
   have HL1:Hid ((left.take q).length+[(⟨key,⟨k,m,f,s⟩⟩:aQ.Pr)].length≤9223372036854775807∧((left.take q).length+[(⟨key,⟨k,m,f,s⟩⟩:aQ.Pr)].length)*bY.bytes≤211106232532992):=zH (by
    rw[hln]
    show q+1≤_∧(q+1)*56≤_
    omega)
   have kU:Hid ((left.take q++[(⟨key,⟨k,m,f,s⟩⟩:aQ.Pr)]).length=q+1):=zH (by rw[List.length_append,hln];rfl)
   have HL2:Hid ((left.take q++[(⟨key,⟨k,m,f,s⟩⟩:aQ.Pr)]).length+((left.drop q).take (nL-q)).length≤9223372036854775807∧((left.take q++[(⟨key,⟨k,m,f,s⟩⟩:aQ.Pr)]).length+((left.drop q).take (nL-q)).length)*bY.bytes≤211106232532992):=zH (by
    rw[kU.out,hld,afN]
    show q+1+(nL-q)≤_∧(q+1+(nL-q))*56≤_
    omega)
   have JE:Hid ((left.take q++[(⟨key,⟨k,m,f,s⟩⟩:aQ.Pr)]++(left.drop q).take (nL-q)).length=q+1+(nL-q)):=zH (by rw[List.length_append,kU.out,hld,afN]);have HLd:=zH hld;clear hln hld afN;by_cases hqn:q<nL
   ·have hq2:(q:Int)<(nL:Int):=by omega
    obtain⟨x,hx⟩:=HG.out q hqn;obtain⟨b,o,rfl,hat⟩:=HSl.out.at (Nat.lt_of_le_of_lt (Nat.zero_le _) hqn);have HX:=zH (hat wr (Below.refl _ wr) q x hx);have HLt:=zH (HA.out x hx);clear hat hx HSl HB;go_wp2_with (first|refine av (eu (off:=o+q*5) HX.out) ?_|refine av (wI HLt.out) ?_|refine av (aZ HK 0) ?_|(refine pQ (p:=⟨key,⟨k,m,f,s⟩⟩) HK ?_;intro w2 g2 dz;simp only[aS,aK] at dz;have HR:=zH (EL (dz.out.own 2 rfl));replace HK:=dz;clear dz)|(at_builtin;refine bA HK bY 1 [⟨key,⟨k,m,f,s⟩⟩] rfl HR HL1 (N:=q+1) kU ?_;intro A4 c4 w4 dz;simp only[lS] at dz;have HS2:=zH ((Sl.own (dz.out.own 0 rfl) HFL.out).sub hpn (Nat.le_refl _));have HR2:=zH (And.intro HS2.out.rd HS2.out.nl);replace HK:=dz;clear dz HR)|refine av (DF (lo:=q) hpn) ?_|(at_builtin;refine bA HK bY 1 ((left.drop q).take (nL-q)) HS2.out.len.symm HR2 HL2 (N:=q+1+(nL-q)) JE ?_;clear HK;intro A5 c5 w5 HK;simp only[lS] at HK));exact acu
   ·have hq2:¬(q:Int)<(nL:Int):=by omega
    clear HSl HB;go_wp2_with (first|refine av (aZ HK 0) ?_|(refine pQ (p:=⟨key,⟨k,m,f,s⟩⟩) HK ?_;intro w2 g2 dz;simp only[aS,aK] at dz;have HR:=zH (EL (dz.out.own 2 rfl));replace HK:=dz;clear dz)|(at_builtin;refine bA HK bY 1 [⟨key,⟨k,m,f,s⟩⟩] rfl HR HL1 (N:=q+1) kU ?_;intro A4 c4 w4 dz;simp only[lS] at dz;have HS2:=zH ((Sl.own (dz.out.own 0 rfl) HFL.out).sub hpn (Nat.le_refl _));have HR2:=zH (And.intro HS2.out.rd HS2.out.nl);replace HK:=dz;clear dz HR)|refine av (DF (lo:=q) hpn) ?_|(at_builtin;refine bA HK bY 1 ((left.drop q).take (nL-q)) HS2.out.len.symm HR2 HL2 (N:=q+1+(nL-q)) JE ?_;clear HK;intro A5 c5 w5 HK;simp only[lS] at HK));exact acu
end
section
def yw(A:Option Addr)(n c:Nat)(l r:List aQ.Pr)(v:Val.V)(x:Int)(w:World)(e:Ending)(w':World):Prop:=∃A' n' c',e=.returned (.tuple #[.slice A' n' c',vv v,.int .i64 x])∧(bY.Own w.heap.size w' (.slice A' n' c') r∨(A'=A∧n'=n∧c'=c∧r=l))∧Below w.heap.size w w'
theorem xJ{A:Option Addr}{n c:Nat}{l:List aQ.Pr}{k m:Int}{f:Nat}{s:ByteArray}{x:Int}{w w':World}(hb:Below w.heap.size w w'):yw A n c l l ⟨k,m,f,s⟩ x w (.returned (.tuple #[.slice A n c,.agg #[.int .i64 k,.int .i64 m,.int .u64 (f:Int),.string s],.int .i64 x])) w':=⟨A,n,c,rfl,.inr ⟨rfl,rfl,rfl,rfl⟩,hb⟩
theorem GR{A A':Option Addr}{n c n' c':Nat}{l r:List aQ.Pr}{k m:Int}{f:Nat}{s:ByteArray}{x:Int}{w w':World}(ho:bY.Own w.heap.size w' (.slice A' n' c') r)(hb:Below w.heap.size w w'):yw A n c l r ⟨k,m,f,s⟩ x w (.returned (.tuple #[.slice A' n' c',.agg #[.int .i64 k,.int .i64 m,.int .u64 (f:Int),.string s],.int .i64 x])) w':=⟨A',n',c',rfl,.inl ho,hb⟩
theorem Uz(A:Option Addr)(c n:Nat)(l:List aQ.Pr)(key:ByteArray)(w:World)(hs:Sl w A n c l):
  Calls prog 134 #[.slice A n c,.string key] w (yw A n c l (aQ.Xg l key) (aQ.sJ l key) (aQ.uZ l key) w):=by
 have HG:=zH (fun W (hW:Below w.heap.size w W)=>Av A c n l key W (hs.later hW));have HW:=zH (fun W (hW:Below w.heap.size w W)=>Eu A c n l key W (hs.later hW));unfold aQ.Xg;by_cases hz:aQ.uZ l key=0
 ·rw[if_pos hz]
  rw[hz] at HG ⊢;clear hz hs;generalize aQ.sJ l key=v at *
  generalize aQ.wo l key=r at *
  obtain⟨k,m,f,s⟩:=v;unfold Cw vv at *
  simp only at HG;have HK:=zH (Kn.start w);go_enter func134,ntmps134;go_wp2_with (refine aL HK ?_;clear HK;intro _ g1 HK;simp only[aS,aK] at HK);refine cb (HG.out _ HK.out.b) HK ?_;clear HK;intro _ HK;go_wp2_with (first|(refine aL HK ?_;clear HK;intro _ g2 HK;simp only[aS,aK] at HK)|(refine aH (f2:=f) HK 1 ?_;clear HK;intro _ HK;simp only[lS] at HK));have aj:=zH HK.out.drew;clear HG;refine zR (HK.out.drew.aO 1) fun ah=>?_
  refine ak 0 rfl ?_;refine ak 1 rfl ?_;refine ak 3 rfl ?_ fun _ s=>aZ s 0
  refine aC 2 rfl fun K hK=>?_
  go_simp;go_at_call 152;refine(HW.out _ ah.out.b).mono ?_;rintro e w5 ⟨A4,n4,c4,rfl,o4,b5⟩;have hs:=zH (ah.out.call b5);replace aj:=zH (aj.out.called b5 o4);clear b5 o4;refine bk hK hs fun ah=>?_
  clear hK K;refine ak 4 rfl ?_;refine aC 5 rfl fun K hK=>?_
  refine Eo (f2:=f) aj 0 ?_;clear aj;intro wq aj;simp only[lS] at aj;have hs:=zH ((aj.out.aO 1).ay 0);refine bk hK hs fun ah=>?_
  clear hK K;refine ak 6 rfl ?_;refine cB ?_
  all_goals
   go_wp2_with fail;exact nE results134 (aj.out.blk 0 rfl) (GR (aj.out.own 0 rfl) aj.out.b)
 ·rw[if_neg hz]
  have hv:=aQ.ajd hz;rw[hv] at HG ⊢;generalize aQ.uZ l key=X at *
  have hz2:(X != 0)=true:=by simpa using hz
  clear hv hs HW;unfold Cw vv aQ.emp at *
  simp only at HG;have HK:=zH (Kn.start w);go_enter func134,ntmps134;go_wp2_with (refine aL HK ?_;clear HK;intro _ g1 HK;simp only[aS,aK] at HK);refine cb (HG.out _ HK.out.b) HK ?_;clear HK;intro _ HK;go_wp2_with (first|(refine aL HK ?_;clear HK;intro _ g2 HK;simp only[aS,aK] at HK)|(refine aH (f2:=0) HK 1 ?_;clear HK;intro _ HK;simp only[lS] at HK)|(refine aH (f2:=0) HK 0 ?_;clear HK;intro _ HK;simp only[lS] at HK));exact nE results134 (HK.out.blk 0 rfl) (xJ HK.out.b)
theorem PI(A:Option Addr)(c n:Nat)(l:List aQ.Pr)(key:ByteArray)(o v:Val.V)(w:World)(hs:Sl w A n c l)(hv:v.f<18446744073709551616):
  Calls prog 135 #[.slice A n c,.string key,vv o,vv v] w (yw A n c l (aQ.Gg l key o v) (aQ.Kl l key o) (aQ.CS l key o v) w):=by
 have HG:=zH (fun W (hW:Below w.heap.size w W)=>Av A c n l key W (hs.later hW));by_cases hr:aQ.Right l
 case neg=>
  obtain⟨e1,e2,e3⟩:=aQ.Tz hr key o v;obtain⟨g1,g2⟩:=aQ.LW hr key;rw[g1,g2] at HG;rw[e1,e2,e3];clear e1 e2 e3 g1 g2 hr hs;obtain⟨ok,om,of,os⟩:=o;obtain⟨vk,vm,vf,vs⟩:=v;unfold Cw vv aQ.emp at *
  simp only at HG;have HK:=uj w 26 (vC ok om of os) 26 (vC vk vm vf vs);unfold vC at HK;go_enter func135,ntmps135;go_wp2_with (refine aL HK ?_;clear HK;intro _ ga HK;simp only[aS,aK] at HK);refine cb (HG.out _ HK.out.b) HK ?_;clear HK;intro _ HK;go_wp2_with (first|(refine aL HK ?_;clear HK;intro _ gb HK;simp only[aS,aK] at HK)|(refine aH (f2:=0) HK 3 ?_;clear HK;intro _ HK;simp only[lS] at HK)|(refine aH (f2:=0) HK 2 ?_;clear HK;intro _ HK;simp only[lS] at HK));exact adY
 case pos=>
 have hnb:=aQ.aje hr key;by_cases ho:aQ.sJ l key=o
 case neg=>
  obtain⟨e1,e2,e3⟩:=aQ.CQ hr v ho;rw[e1,e2,e3];clear e1 e2 e3 hr hs;generalize aQ.sJ l key=t at *
  generalize aQ.uZ l key=X at *
  have hne:=zH (show(!decide (t=o))=true by rw[decide_eq_false ho];rfl);clear ho;have hx2:(X==1)=false:=by simpa using hnb
  obtain⟨ok,om,of,os⟩:=o;obtain⟨vk,vm,vf,vs⟩:=v;obtain⟨tk,tm,tf,ts⟩:=t;unfold Cw vv at *
  simp only at HG;have HK:=uj w 26 (vC ok om of os) 26 (vC vk vm vf vs);unfold vC at HK;go_enter func135,ntmps135;go_wp2_with (refine aL HK ?_;clear HK;intro _ ga HK;simp only[aS,aK] at HK);refine cb (HG.out _ HK.out.b) HK ?_;clear HK;intro _ HK;go_wp2_with (first|(refine aL HK ?_;clear HK;intro _ gb HK;simp only[aS,aK] at HK)|(refine aH (f2:=tf) HK 3 ?_;clear HK;intro _ HK;simp only[lS] at HK)|refine av (aZ HK 3) ?_|refine av (aZ HK 0) ?_|refine av (lF (v:=⟨tk,tm,tf,ts⟩) (u:=⟨ok,om,of,os⟩) hne.out) ?_);have aj:=zH HK.out.drew;refine zR (HK.out.drew.aO 3) fun ah=>?_
  refine ak 0 rfl ?_;refine ak 1 rfl ?_ fun _ s=>aZ s 0
  refine ak 2 rfl ?_;refine aC 3 rfl fun K hK=>?_
  refine Eo (f2:=tf) aj 2 ?_;clear aj;intro wq aj;simp only[lS] at aj;have hs:=zH ((aj.out.aO 3).ay 0);refine bk hK hs fun ah=>?_
  clear hK K;refine ak 4 rfl ?_;refine cB ?_
  all_goals
   go_wp2_with fail;exact nE results135 (aj.out.blk 2 rfl) (xJ aj.out.b)
 case pos=>
 by_cases hve:v=aQ.emp
 case pos=>
  obtain⟨e1,e2,e3⟩:=aQ.Tx hr ho;have HW:=zH (fun W (hW:Below w.heap.size w W)=>Eu A c n l key W (hs.later hW));rw[hve,e1,e2,e3];rw[ho] at HG;clear e1 e2 e3 hr hs ho;generalize aQ.uZ l key=X at *
  generalize aQ.wo l key=r at *
  have hne:=zH (show(!decide (o=o))=false by simp);have afK:=zH (show(!decide ((⟨0,0,0,⟨#[]⟩⟩:Val.V)=⟨0,0,0,⟨#[]⟩⟩))=false by simp);clear hve;have hx2:(X==1)=false:=by simpa using hnb
  obtain⟨ok,om,of,os⟩:=o;unfold Cw IsL vv aQ.emp at *
  simp only at HG;have HK:=uj w 26 (vC ok om of os) 26 (vC 0 0 0 ⟨#[]⟩);unfold vC at HK;go_enter func135,ntmps135;go_wp2_with (refine aL HK ?_;clear HK;intro _ ga HK;simp only[aS,aK] at HK);refine cb (HG.out _ HK.out.b) HK ?_;clear HK;intro _ HK;go_wp2_with (first|(refine aL HK ?_;clear HK;intro _ gb HK;simp only[aS,aK] at HK)|(refine aH (f2:=of) HK 3 ?_;clear HK;intro _ HK;simp only[lS] at HK)|refine av (aZ HK 3) ?_|refine av (aZ HK 0) ?_|refine av (aZ HK 1) ?_|refine av (aT HK 3 _ (by rfl) 1 (by rfl) (by rfl) (v:=.int .i64 0) underlying3) ?_|refine av (lF (v:=⟨ok,om,of,os⟩) (u:=⟨ok,om,of,os⟩) hne.out) ?_|refine av (lF (v:=⟨0,0,0,⟨#[]⟩⟩) (u:=⟨0,0,0,⟨#[]⟩⟩) afK.out) ?_);refine(HW.out _ HK.out.b).mono ?_;rintro e w3 ⟨A4,n4,c4,rfl,o4,b4⟩;replace HK:=zH (HK.out.called b4 o4);exact ahq
 case neg=>
  obtain⟨e1,e2,e3⟩:=aQ.Tw hr ho hve;by_cases hk0:v.k=0
  case pos=>
   have hpc:aQ.jG key v=1:=if_pos hk0;obtain⟨p1,p2⟩:=aQ.UF hr (k:=key) (v:=v) (by rw[hpc];decide);rw[e1,e2,e3,p1,p2,hpc];rw[ho] at HG;clear e1 e2 e3 hr hs ho hv p1 p2 hpc;generalize aQ.uZ l key=X at *
   have hne:=zH (show(!decide (o=o))=false by simp);have afK:=zH (show(!decide (v=⟨0,0,0,⟨#[]⟩⟩))=true by rw[show decide (v=⟨0,0,0,⟨#[]⟩⟩)=false from decide_eq_false hve];rfl);clear hve;have hx2:(X==1)=false:=by simpa using hnb
   obtain⟨ok,om,of,os⟩:=o;obtain⟨vk,vm,vf,vs⟩:=v;unfold Cw vv aQ.emp at *
   simp only at HG hk0;subst hk0;have HK:=uj w 26 (vC ok om of os) 26 (vC 0 vm vf vs);unfold vC at HK;go_enter func135,ntmps135;go_wp2_with (refine aL HK ?_;clear HK;intro _ ga HK;simp only[aS,aK] at HK);refine cb (HG.out _ HK.out.b) HK ?_;clear HK;intro _ HK;go_wp2_with (first|(refine aL HK ?_;clear HK;intro _ gb HK;simp only[aS,aK] at HK)|(refine aH (f2:=of) HK 3 ?_;clear HK;intro _ HK;simp only[lS] at HK)|refine av (aZ HK 3) ?_|refine av (aZ HK 0) ?_|refine av (aZ HK 1) ?_|refine av (aT HK 3 _ (by rfl) 1 (by rfl) (by rfl) (v:=.int .i64 0) underlying3) ?_|(refine aH (f2:=0) HK 2 ?_;clear HK;intro _ HK;simp only[lS] at HK)|refine av (lF (v:=⟨ok,om,of,os⟩) (u:=⟨ok,om,of,os⟩) hne.out) ?_|refine av (lF (v:=⟨0,vm,vf,vs⟩) (u:=⟨0,0,0,⟨#[]⟩⟩) afK.out) ?_);exact adY
  case neg=>
   have HP:=zH (fun W (hW:Below w.heap.size w W)=>Gp A c n l key v W (hs.later hW) hv);rw[e1,e2,e3];rw[ho] at HG;clear e1 e2 e3 hr hs ho hv;generalize aQ.uZ l key=X at *
   generalize aQ.vR l key v=y at *
   generalize aQ.yI l key v=r at *
   have hne:=zH (show(!decide (o=o))=false by simp);clear hve;have hx2:(X==1)=false:=by simpa using hnb
   obtain⟨ok,om,of,os⟩:=o;obtain⟨vk,vm,vf,vs⟩:=v;unfold Cw Jt vv aQ.emp at *
   simp only at HG HP hk0;have alp:(vk==0)=false:=by simpa using hk0
   have HK:=uj w 26 (vC ok om of os) 26 (vC vk vm vf vs);unfold vC at HK;go_enter func135,ntmps135;go_wp2_with (refine aL HK ?_;clear HK;intro _ ga HK;simp only[aS,aK] at HK);refine cb (HG.out _ HK.out.b) HK ?_;clear HK;intro _ HK;go_wp2_with (first|(refine aL HK ?_;clear HK;intro _ gb HK;simp only[aS,aK] at HK)|(refine aH (f2:=of) HK 3 ?_;clear HK;intro _ HK;simp only[lS] at HK)|refine av (aZ HK 3) ?_|refine av (aZ HK 0) ?_|refine av (aZ HK 1) ?_|refine av (aT HK 3 _ (by rfl) 1 (by rfl) (by rfl) (v:=.int .i64 vk) underlying3) ?_|refine av (lF (v:=⟨ok,om,of,os⟩) (u:=⟨ok,om,of,os⟩) hne.out) ?_);refine(HP.out _ HK.out.b).mono ?_;rintro e w3 ⟨A4,n4,c4,rfl,o4,b4⟩
   rcases o4 with o4|⟨rfl,rfl,rfl,rfl⟩
   ·replace HK:=zH (HK.out.called b4 o4)
    exact ahq
   ·replace HK:=iH HK b4
    clear b4;go_wp2_with (refine aH (f2:=0) HK 2 ?_;clear HK;intro _ HK;simp only[lS] at HK);exact adY
end
end Go.Proofs.YtahdlddbbnjloaaGreat
