/- What the document's Get and without return. No condition but those named. -/
import Derived.Test.YtieoeendnccafaaGreatNBF
import Derived.Test.YtieoeendnccafaaGreatNAZ
set_option linter.unusedSimpArgs false
set_option linter.unusedVariables false
set_option maxRecDepth 100000
set_option maxHeartbeats 25600000
open Go.RowKit
namespace Go.Proofs.YtieoeendnccafaaGreat
open _root_.Go.Proofs.Tryz
section
def mQ(G:World→Prop)(y:av.Rs)(w:World)(e:Ending)(w':World):Prop:=∃(A:Option Addr) (n c:Nat) (l:List Oh) (O:Option Addr) (k d:Nat) (Rn:List dA),e=.returned (.tuple #[.slice A n c,.agg (cB y.p),.bool y.later,.slice O k d])∧vs l=y.l∧Kn w.heap.size w w' [] Rn∧
 ∀(b:Nat) (W0 W:World) L R,Kn b W0 W L R→(∀z∈Rn,z∈R)→G W→bY W A n c l∧bJ aR tF W O k d y.outs
section
variable {b0:Nat}{w0 w:World}{L:List (Nat×TypeId×Array Value)}{R:List dA}{ops:Array Oper}{rest:List Oper}{o:Oper}{a:Act}{Q:Exit→Act→World→Prop}{K:Act→World→Prop}{E:Prop}
theorem Sb(HK:Hid (Kn b0 w0 w L R))(hgd:o.guard=none)(ho:o.op=.alloc 28)
  (h:∀w' g,Hid (Kn b0 w0 w' (L++[(g,28,cB av.rz)]) R)→K (a.put o.dst (.pointer (some ⟨g,0,none⟩))) w'):if Region.wanted o (yielded ops a.tmps)=true then Oper.wp prog o a w K Q else E:=by
 rw[if_pos (by simp[Region.wanted,hgd])];have h4:=h _ w.heap.size (zH (HK.out.alloc _ _));unfold Oper.wp execOp;simp only[ho];unfold cB av.rz at h4;go_simp;exact h4
theorem fC{x y:Nat×TypeId×Array Value}{L:List (Nat×TypeId×Array Value)}(h:Hid (Kn b0 w0 w (x::y::L) R)):Hid (Kn b0 w0 w [x,y] []):=zH ((h.out.aA 2).ay 0)
theorem QT{x y z:Nat×TypeId×Array Value}{L:List (Nat×TypeId×Array Value)}(h:Hid (Kn b0 w0 w (x::y::z::L) R)):Hid (Kn b0 w0 w L []):=zH ((h.out.aI 3).ay 0)
theorem pQ(HK:Hid (Kn b0 w0 w L R))(h:∀w' g,Hid (Kn b0 w0 w' (L++[(g,63,bS rU)]) R)→K (a.put o.dst (.pointer (some ⟨g,0,none⟩))) w')(hgd:o.guard=none:=by rfl)(ho:o.op=.alloc 63:=by rfl):if Region.wanted o (yielded ops a.tmps)=true then Oper.wp prog o a w K Q else E:=
 rZ HK (hgd:=hgd) (ho:=ho) fun w' g h1 _=>h w' g h1
theorem pO(HK:Hid (Kn b0 w0 w L R))(h:∀w' g,Hid (Kn b0 w0 w' (L++[(g,28,cB av.rz)]) R)→K (a.put o.dst (.pointer (some ⟨g,0,none⟩))) w')(hgd:o.guard=none:=by rfl)(ho:o.op=.alloc 28:=by rfl):if Region.wanted o (yielded ops a.tmps)=true then Oper.wp prog o a w K Q else E:=
 Sb HK hgd ho h
theorem gH{g:Nat}{x:Oh}(y:Oh)(HK:Hid (Kn b0 w0 w L R))(i:Nat){p q:Operand}(h:∀w',Hid (Kn b0 w0 w' (L.set i (g,63,bS y)) R)→K (a.put o.dst undef) w')
  (hgd:o.guard=none:=by rfl) (ho:o.op=.store 63 p q:=by rfl) (hL:L[i]?=some (g,63,bS x):=by rfl) (hx:a.eval p=.pointer (some ⟨g,0,none⟩):=by rfl) (hy:a.eval q=.agg (bS y):=by rfl):if Region.wanted o (yielded ops a.tmps)=true then Oper.wp prog o a w K Q else E:=
 bN HK i (hgd:=hgd) (p:=p) (q:=q) (ho:=ho) (hL:=hL) (hx:=hx) (hy:=hy) h
theorem fU{g:Nat}{x:av.Rp}(y:av.Rp)(HK:Hid (Kn b0 w0 w L R))(i:Nat){p q:Operand}(h:∀w',Hid (Kn b0 w0 w' (L.set i (g,28,cB y)) R)→K (a.put o.dst undef) w')
  (hgd:o.guard=none:=by rfl) (ho:o.op=.store 28 p q:=by rfl) (hL:L[i]?=some (g,28,cB x):=by rfl) (hx:a.eval p=.pointer (some ⟨g,0,none⟩):=by rfl) (hy:a.eval q=.agg (cB y):=by rfl):if Region.wanted o (yielded ops a.tmps)=true then Oper.wp prog o a w K Q else E:=
 bM HK i (hgd:=hgd) (r:=p) (s:=q) (ho:=ho) (hL:=hL) (hx:=hx) (hy:=hy) h
theorem Vi{x k:Int}{b:Bool}{p:Operand}(ho:o.op=.binOp .geq 3 p (.const (.int .i64 k)) 3)(hp:a.eval p=.int .i64 x)(hb:decide (k≤x)=b):
  (execOp a.eval o).run prog w=.ok (.value (.bool b)) w:=by
 exact Rz
theorem Bp{x k:Int}{b:Bool}{p:Operand}(hb:(!decide (x=k))=b)(ho:o.op=.binOp .neq 3 p (.const (.int .i64 k)) 3:=by rfl)(hp:a.eval p=.int .i64 x:=by rfl):
  (execOp a.eval o).run prog w=.ok (.value (.bool b)) w:=by
 have he:a.eval (.const (.int .i64 k))=.int .i64 k:=rfl;subst hb;unfold execOp;simp only[ho,hp,he];go_simp;by_cases h:x=k<;>simp[h]
end
theorem Yn{W:World}{l:List Oh}(c:aF.C){p q:Nat}(h:∀x∈l,In W x){y:Oh}(hy:y∈l.take p++[FT c]++l.drop q):In W y:=by
 rcases List.mem_append.1 hy with hy|hy
 ·rcases List.mem_append.1 hy with hy|hy
  ·exact h y (List.mem_of_mem_take hy)
  ·rw[List.mem_singleton.1 hy]
   exact In.fr _ c
 ·exact h y (List.mem_of_mem_drop hy)
theorem afD{W:World}{l:List Oh}{p q:Nat}(h:∀x∈l,In W x){y:Oh}(hy:y∈l.take p++l.drop q):In W y:=by
 rcases List.mem_append.1 hy with hy|hy
 ·exact h y (List.mem_of_mem_take hy)
 ·exact h y (List.mem_of_mem_drop hy)
theorem yH{l:List Oh}{j:Nat}{y:av.Ob}(h:(vs l)[j]?=some y):∃z,l[j]?=some z∧z.v=y:=by
 unfold vs at h;rw[List.getElem?_map] at h;obtain⟨z,hz,hy⟩:=Option.map_eq_some_iff.1 h;exact⟨z,hz,hy⟩
theorem abR(G:World→Prop)(A:Option Addr)(cp n:Nat)(l:List Oh)(r:Rf)(c:aF.C)(w:World)(hG:∀W,G W→bY W A n cp l)(hs:bY w A n cp l)(hv:c.val.f<18446744073709551616)(ho:c.old.f<18446744073709551616)(hr:¬av.Right (vs l)):
  Calls prog 77 #[.slice A n cp,.agg #[.int .i64 r.c,.int .i64 r.e,.int .i64 r.r],.agg (dh c)] w (mQ G ⟨vs l,av.err 1,false,[]⟩ w):=by
 have yF:=zH hG;have mJ:=zH dS;have HK:=AY w 35 #[.int .i64 r.c,.int .i64 r.e,.int .i64 r.r] 37 (dh c) 28 (cB av.rz);have HM:=zH (fun W (hW:Below w.heap.size w W)=>cK A cp n l W (hs.later hW));unfold cZ at HM;rw[decide_eq_false hr] at HM;clear hs hv ho hr hG;go_enter func77,ntmps77;go_wp2_with fail
 (refine(HM.out _ HK.out.b).mono ?_;rintro e w1 ⟨rfl,b1⟩)
 replace HK:=iy HK b1;clear b1;go_wp2_with fail;exact Xj
theorem abQ(G:World→Prop)(A:Option Addr)(cp n:Nat)(l:List Oh)(r:Rf)(c:aF.C)(w:World)(hG:∀W,G W→bY W A n cp l)(hs:bY w A n cp l)(hv:c.val.f<18446744073709551616)(ho:c.old.f<18446744073709551616)(hr:av.Right (vs l))(hk:¬aS.ok r):
  Calls prog 77 #[.slice A n cp,.agg #[.int .i64 r.c,.int .i64 r.e,.int .i64 r.r],.agg (dh c)] w (mQ G ⟨vs l,av.err 1,false,[]⟩ w):=by
 have yF:=zH hG;have mJ:=zH dS;have HK:=AY w 35 #[.int .i64 r.c,.int .i64 r.e,.int .i64 r.r] 37 (dh c) 28 (cB av.rz);have HM:=zH (fun W (hW:Below w.heap.size w W)=>cK A cp n l W (hs.later hW));unfold cZ at HM;have HC:=zH (fun W=>gu r W);unfold cZ at HC;rw[decide_eq_true hr] at HM;rw[decide_eq_false hk] at HC;clear hs hv ho hr hk hG;go_enter func77,ntmps77;go_wp2_with fail
 (refine(HM.out _ HK.out.b).mono ?_;rintro e w1 ⟨rfl,b1⟩)
 replace HK:=iy HK b1;clear b1;go_wp2_with refine zX (aB HK 0) ?_;refine cb (HC.out _) HK ?_;clear HK;intro _ HK;go_wp2_with fail;exact Xj
theorem abP(G:World→Prop)(A:Option Addr)(cp n:Nat)(l:List Oh)(r:Rf)(c:aF.C)(w:World)(hG:∀W,G W→bY W A n cp l)(hs:bY w A n cp l)(hv:c.val.f<18446744073709551616)(ho:c.old.f<18446744073709551616)(hr:av.Right (vs l))(hk:aS.ok r)(h4:c.k<4):
  Calls prog 77 #[.slice A n cp,.agg #[.int .i64 r.c,.int .i64 r.e,.int .i64 r.r],.agg (dh c)] w (mQ G ⟨vs l,av.err 1,false,[]⟩ w):=by
 have yF:=zH hG;have mJ:=zH dS;have HK:=AY w 35 #[.int .i64 r.c,.int .i64 r.e,.int .i64 r.r] 37 (dh c) 28 (cB av.rz);have HM:=zH (fun W (hW:Below w.heap.size w W)=>cK A cp n l W (hs.later hW));unfold cZ at HM;have HC:=zH (fun W=>gu r W);unfold cZ at HC;rw[decide_eq_true hr] at HM;rw[decide_eq_true hk] at HC;have D4:Hid (decide (c.k<4)=true):=zH (decide_eq_true h4);have tK:Hid (decide (17<c.k)=decide (17<c.k)):=zH rfl;clear hs hv ho hr hk hG h4;go_enter func77,ntmps77;go_wp2_with fail
 (refine(HM.out _ HK.out.b).mono ?_;rintro e w1 ⟨rfl,b1⟩)
 replace HK:=iy HK b1;clear b1;go_wp2_with refine zX (aB HK 0) ?_;refine cb (HC.out _) HK ?_;clear HK;intro _ HK;go_wp2_with (first|refine zX (bK HK 1) ?_|refine zX (dH (x:=c.k) (k:=4) D4.out) ?_|refine zX (dz (x:=c.k) (k:=17) tK.out) ?_);exact Xj
theorem abO(G:World→Prop)(A:Option Addr)(cp n:Nat)(l:List Oh)(r:Rf)(c:aF.C)(w:World)(hG:∀W,G W→bY W A n cp l)(hs:bY w A n cp l)(hv:c.val.f<18446744073709551616)(ho:c.old.f<18446744073709551616)(hr:av.Right (vs l))(hk:aS.ok r)(h4:¬c.k<4)(Ib:17<c.k):
  Calls prog 77 #[.slice A n cp,.agg #[.int .i64 r.c,.int .i64 r.e,.int .i64 r.r],.agg (dh c)] w (mQ G ⟨vs l,av.err 1,false,[]⟩ w):=by
 have yF:=zH hG;have mJ:=zH dS;have HK:=AY w 35 #[.int .i64 r.c,.int .i64 r.e,.int .i64 r.r] 37 (dh c) 28 (cB av.rz);have HM:=zH (fun W (hW:Below w.heap.size w W)=>cK A cp n l W (hs.later hW));unfold cZ at HM;have HC:=zH (fun W=>gu r W);unfold cZ at HC;rw[decide_eq_true hr] at HM;rw[decide_eq_true hk] at HC;have D4:Hid (decide (c.k<4)=false):=zH (decide_eq_false h4);have tK:Hid (decide (17<c.k)=true):=zH (decide_eq_true Ib);clear hs hv ho hr hk hG h4 Ib;go_enter func77,ntmps77;go_wp2_with fail
 (refine(HM.out _ HK.out.b).mono ?_;rintro e w1 ⟨rfl,b1⟩)
 replace HK:=iy HK b1;clear b1;go_wp2_with refine zX (aB HK 0) ?_;refine cb (HC.out _) HK ?_;clear HK;intro _ HK;go_wp2_with (first|refine zX (bK HK 1) ?_|refine zX (dH (x:=c.k) (k:=4) D4.out) ?_|refine zX (dz (x:=c.k) (k:=17) tK.out) ?_);exact Xj
theorem Xz(G:World→Prop)(A:Option Addr)(cp n:Nat)(l:List Oh)(r:Rf)(c:aF.C)(w:World)(hG:∀W,G W→bY W A n cp l)(hs:bY w A n cp l)(hv:c.val.f<18446744073709551616)(ho:c.old.f<18446744073709551616)(fT:av.All (vs l) r c)(he:aF.bG c≠0):
  Calls prog 77 #[.slice A n cp,.agg #[.int .i64 r.c,.int .i64 r.e,.int .i64 r.r],.agg (dh c)] w (mQ G ⟨vs l,av.err (aF.bG c),false,[]⟩ w):=by
 have yF:=zH hG;have mJ:=zH dS;have HK:=AY w 35 #[.int .i64 r.c,.int .i64 r.e,.int .i64 r.r] 37 (dh c) 28 (cB av.rz);have HM:=zH (fun W (hW:Below w.heap.size w W)=>cK A cp n l W (hs.later hW));unfold cZ at HM;have HC:=zH (fun W=>gu r W);unfold cZ at HC;have HE:=zH (fun W=>iG c W hv ho);unfold gX at HE;have hall:=fT;rw[decide_eq_true hall.1] at HM;rw[decide_eq_true hall.2.1] at HC;have D4:Hid (decide (c.k<4)=false):=zH (decide_eq_false (by have:=hall.2.2.1;omega));have tK:Hid (decide (17<c.k)=false):=zH (decide_eq_false (by have:=hall.2.2.2;omega));have he2:(aF.bG c != 0)=true:=by simpa using he
 clear hs hv ho hall fT hG he;generalize aF.bG c=z at *
 go_enter func77,ntmps77;go_wp2_with fail
 (refine(HM.out _ HK.out.b).mono ?_;rintro e w1 ⟨rfl,b1⟩)
 replace HK:=iy HK b1;clear b1;go_wp2_with refine zX (aB HK 0) ?_;refine cb (HC.out _) HK ?_;clear HK;intro _ HK;go_wp2_with (first|refine zX (bK HK 1) ?_|refine zX (dH (x:=c.k) (k:=4) D4.out) ?_|refine zX (dz (x:=c.k) (k:=17) tK.out) ?_|refine zX (zD HK 1) ?_);refine cb (HE.out _) HK ?_;clear HK;intro _ HK;go_wp2_with fail;refine cb (mJ.out z _) HK ?_;clear HK;intro _ HK;go_wp2_with (refine bf (q:=⟨z,av.vn⟩) HK 2 ?_;clear HK;intro _ HK;simp only[lS] at HK);exact NT
theorem afa(G:World→Prop)(A:Option Addr)(cp n:Nat)(l:List Oh)(r:Rf)(c:aF.C)(w:World)(hG:∀W,G W→bY W A n cp l)(hs:bY w A n cp l)(hv:c.val.f<18446744073709551616)(ho:c.old.f<18446744073709551616)(fT:av.All (vs l) r c)(he:aF.bG c=0)(h4:c.k=4)(o:av.Ob)(hf:av.jc (vs l) c.name=some o):
  Calls prog 77 #[.slice A n cp,.agg #[.int .i64 r.c,.int .i64 r.e,.int .i64 r.r],.agg (dh c)] w (mQ G ⟨vs l,av.err 8,false,[]⟩ w):=by
 have yF:=zH hG;have mJ:=zH dS;have HK:=AY w 35 #[.int .i64 r.c,.int .i64 r.e,.int .i64 r.r] 37 (dh c) 28 (cB av.rz);have HM:=zH (fun W (hW:Below w.heap.size w W)=>cK A cp n l W (hs.later hW));unfold cZ at HM;have HC:=zH (fun W=>gu r W);unfold cZ at HC;have HE:=zH (fun W=>iG c W hv ho);unfold gX at HE;have hall:=fT;rw[decide_eq_true hall.1] at HM;rw[decide_eq_true hall.2.1] at HC;have D4:Hid (decide (c.k<4)=false):=zH (decide_eq_false (by have:=hall.2.2.1;omega));have tK:Hid (decide (17<c.k)=false):=zH (decide_eq_false (by have:=hall.2.2.2;omega));rw[he] at HE;have uH:=zH (fun W (hW:Below w.heap.size w W)=>iF A cp n l c.name W (hs.later hW));have BL:Hid (¬∀(j:Nat) (y:Oh),l[j]?=some y→¬y.v.name=c.name):=zH (fun h=>by have:=(av.sM (l:=vs l) (k:=c.name) (fun j y hj=>by obtain⟨z,hz,rfl⟩:=yH hj;exact h j z hz)).2;rw[hf] at this;cases this);have BM:Hid (∀(i:Nat) (x:Oh),l[i]?=some x→x.v.name=c.name→x.v=o):=zH (fun i x h1 h2=>by have:=(av.jW hall.1.up (dL h1) h2).2.2;rw[hf] at this;injection this with this;exact this.symm)
 have hpos:0<n:=by
  rcases Nat.eq_zero_or_pos n with h0|h0
  ·subst h0
   rw[List.length_eq_zero_iff.1 hs.len] at hf;cases hf
  ·exact h0
 have hl:=hs.len;obtain⟨b,sK,rfl,nS⟩:=hs.s.at hpos;have BP:=zH nS;have HI:=zH hs.i;clear nS;have E4:Hid (decide (c.k=4)=true):=zH (decide_eq_true h4);clear hs hv ho hall fT hG he h4 hf;go_enter func77,ntmps77;go_wp2_with fail
 (refine(HM.out _ HK.out.b).mono ?_;rintro e w1 ⟨rfl,b1⟩)
 replace HK:=iy HK b1;clear b1;go_wp2_with refine zX (aB HK 0) ?_;refine cb (HC.out _) HK ?_;clear HK;intro _ HK;go_wp2_with (first|refine zX (bK HK 1) ?_|refine zX (dH (x:=c.k) (k:=4) D4.out) ?_|refine zX (dz (x:=c.k) (k:=17) tK.out) ?_|refine zX (zD HK 1) ?_);refine cb (HE.out _) HK ?_;clear HK;intro _ HK;go_wp2_with refine zX (ko HK 1) ?_;refine(uH.out _ HK.out.b).mono ?_;rintro e w1 ⟨z,hat,rfl,b1⟩;replace HK:=iy HK b1;clear b1
 rcases hat with ⟨i,x,rfl,hx,hn,_⟩|⟨rfl,hno⟩
 case inr=>exact absurd hno BL.out
 obtain rfl:=BM.out i x hx hn;have HX:Hid (∀W,Below w.heap.size w W→∀j v,(vR x)[j]?=some v→W.cell? ⟨b,sK+i*11+j,none⟩=some v):=zH fun W hW=>BP.out W hW i x hx
 have hin:i<n:=by have:=(List.getElem?_eq_some_iff.1 hx).1;omega
 have hi0:(0:Int)≤(i:Int):=by omega
 have hi1:(i:Int)<(n:Int):=by omega
 have G0:Hid (decide ((0:Int)≤(i:Int))=true):=zH (decide_eq_true hi0);have L0:Hid (decide ((i:Int)<0)=false):=zH (decide_eq_false (by omega));clear BP hl hx hn BM BL HX;go_wp2_with (first|refine zX (bK HK 1) ?_|refine zX (aZ (x:=c.k) (k:=4) E4.out) ?_|refine zX (Vi (x:=(i:Int)) (k:=0) (by rfl) (by rfl) G0.out) ?_);refine cb (mJ.out 8 _) HK ?_;clear HK;intro _ HK;go_wp2_with (refine bf (q:=⟨8,av.vn⟩) HK 2 ?_;clear HK;intro _ HK;simp only[lS] at HK);exact NT
theorem afc(G:World→Prop)(A:Option Addr)(cp n:Nat)(l:List Oh)(r:Rf)(c:aF.C)(w:World)(hG:∀W,G W→bY W A n cp l)(hs:bY w A n cp l)(hv:c.val.f<18446744073709551616)(ho:c.old.f<18446744073709551616)(fT:av.All (vs l) r c)(he:aF.bG c=0)(h4:c.k=4)(hf:av.jc (vs l) c.name=none)(h8:n=8):
  Calls prog 77 #[.slice A n cp,.agg #[.int .i64 r.c,.int .i64 r.e,.int .i64 r.r],.agg (dh c)] w (mQ G ⟨vs l,av.err 6,false,[]⟩ w):=by
 have yF:=zH hG;have mJ:=zH dS;have HK:=AY w 35 #[.int .i64 r.c,.int .i64 r.e,.int .i64 r.r] 37 (dh c) 28 (cB av.rz);have HM:=zH (fun W (hW:Below w.heap.size w W)=>cK A cp n l W (hs.later hW));unfold cZ at HM;have HC:=zH (fun W=>gu r W);unfold cZ at HC;have HE:=zH (fun W=>iG c W hv ho);unfold gX at HE;have hall:=fT;rw[decide_eq_true hall.1] at HM;rw[decide_eq_true hall.2.1] at HC;have D4:Hid (decide (c.k<4)=false):=zH (decide_eq_false (by have:=hall.2.2.1;omega));have tK:Hid (decide (17<c.k)=false):=zH (decide_eq_false (by have:=hall.2.2.2;omega));rw[he] at HE;have uH:=zH (fun W (hW:Below w.heap.size w W)=>iF A cp n l c.name W (hs.later hW));have gP:Hid (¬∃(i:Nat) (x:Oh),l[i]?=some x∧x.v.name=c.name):=zH (by rintro ⟨i,x,h1,h2⟩;have:=(av.jW hall.1.up (dL h1) h2).2.2;rw[hf] at this;cases this);have E4:Hid (decide (c.k=4)=true):=zH (decide_eq_true h4);have E8:Hid (decide ((n:Int)=8)=true):=zH (decide_eq_true (by omega));clear hs hv ho hall fT hG he h4 hf h8;go_enter func77,ntmps77;go_wp2_with fail
 (refine(HM.out _ HK.out.b).mono ?_;rintro e w1 ⟨rfl,b1⟩)
 replace HK:=iy HK b1;clear b1;go_wp2_with refine zX (aB HK 0) ?_;refine cb (HC.out _) HK ?_;clear HK;intro _ HK;go_wp2_with (first|refine zX (bK HK 1) ?_|refine zX (dH (x:=c.k) (k:=4) D4.out) ?_|refine zX (dz (x:=c.k) (k:=17) tK.out) ?_|refine zX (zD HK 1) ?_);refine cb (HE.out _) HK ?_;clear HK;intro _ HK;go_wp2_with refine zX (ko HK 1) ?_;refine(uH.out _ HK.out.b).mono ?_;rintro e w1 ⟨z,hat,rfl,b1⟩;replace HK:=iy HK b1;clear b1
 rcases hat with ⟨i,x,rfl,hx,hn,_⟩|⟨rfl,hno⟩
 ·exact absurd ⟨i,x,hx,hn⟩ gP.out
 clear hno;go_wp2_with (first|refine zX (bK HK 1) ?_|refine zX (aZ (x:=c.k) (k:=4) E4.out) ?_|refine zX (aZ (x:=(n:Int)) (k:=8) E8.out) ?_);refine cb (mJ.out 6 _) HK ?_;clear HK;intro _ HK;go_wp2_with (refine bf (q:=⟨6,av.vn⟩) HK 2 ?_;clear HK;intro _ HK;simp only[lS] at HK);exact NT
theorem Ta(G:World→Prop)(A:Option Addr)(cp n:Nat)(l:List Oh)(r:Rf)(c:aF.C)(w:World)(hG:∀W,G W→bY W A n cp l)(hs:bY w A n cp l)(hv:c.val.f<18446744073709551616)(ho:c.old.f<18446744073709551616)(fT:av.All (vs l) r c)(he:aF.bG c=0)(h4:c.k=4)(hf:av.jc (vs l) c.name=none)(h8:¬n=8):
  Calls prog 77 #[.slice A n cp,.agg #[.int .i64 r.c,.int .i64 r.e,.int .i64 r.r],.agg (dh c)] w (mQ G ⟨(vs l).take (av.idx (vs l) c.name)++[av.fresh c]++(vs l).drop (av.idx (vs l) c.name),av.rz,false,[]⟩ w):=by
 have yF:=zH hG;have mJ:=zH dS;have HK:=AY w 35 #[.int .i64 r.c,.int .i64 r.e,.int .i64 r.r] 37 (dh c) 28 (cB av.rz);have HM:=zH (fun W (hW:Below w.heap.size w W)=>cK A cp n l W (hs.later hW));unfold cZ at HM;have HC:=zH (fun W=>gu r W);unfold cZ at HC;have HE:=zH (fun W=>iG c W hv ho);unfold gX at HE;have hall:=fT;rw[decide_eq_true hall.1] at HM;rw[decide_eq_true hall.2.1] at HC;have D4:Hid (decide (c.k<4)=false):=zH (decide_eq_false (by have:=hall.2.2.1;omega));have tK:Hid (decide (17<c.k)=false):=zH (decide_eq_false (by have:=hall.2.2.2;omega));rw[he] at HE;have uH:=zH (fun W (hW:Below w.heap.size w W)=>iF A cp n l c.name W (hs.later hW));have gP:Hid (¬∃(i:Nat) (x:Oh),l[i]?=some x∧x.v.name=c.name):=zH (by rintro ⟨i,x,h1,h2⟩;have:=(av.jW hall.1.up (dL h1) h2).2.2;rw[hf] at this;cases this);have E4:Hid (decide (c.k=4)=true):=zH (decide_eq_true h4);have E8:Hid (decide ((n:Int)=8)=false):=zH (decide_eq_false (by omega));have Yp:n≤8:=by have:=hall.1.len;rw[fF,hs.len] at this;exact this
 have HN8:=zH Yp;have gT:=zH hs.len;have HMa:=zH (fun W (hW:Below w.heap.size w W)=>OV A cp n l c W (hs.later hW) Yp);unfold FJ at HMa;clear hs hv ho hall fT hG he h4 hf h8 Yp;go_enter func77,ntmps77;go_wp2_with fail
 (refine(HM.out _ HK.out.b).mono ?_;rintro e w1 ⟨rfl,b1⟩)
 replace HK:=iy HK b1;clear b1;go_wp2_with refine zX (aB HK 0) ?_;refine cb (HC.out _) HK ?_;clear HK;intro _ HK;go_wp2_with (first|refine zX (bK HK 1) ?_|refine zX (dH (x:=c.k) (k:=4) D4.out) ?_|refine zX (dz (x:=c.k) (k:=17) tK.out) ?_|refine zX (zD HK 1) ?_);refine cb (HE.out _) HK ?_;clear HK;intro _ HK;go_wp2_with refine zX (ko HK 1) ?_;refine(uH.out _ HK.out.b).mono ?_;rintro e w1 ⟨z,hat,rfl,b1⟩;replace HK:=iy HK b1;clear b1
 rcases hat with ⟨i,x,rfl,hx,hn,_⟩|⟨rfl,hno⟩
 ·exact absurd ⟨i,x,hx,hn⟩ gP.out
 clear hno;go_wp2_with (first|refine zX (bK HK 1) ?_|refine zX (aZ (x:=c.k) (k:=4) E4.out) ?_|refine zX (aZ (x:=(n:Int)) (k:=8) E8.out) ?_|refine zX (zD HK 1) ?_);refine(HMa.out _ HK.out.b).mono ?_;rintro e w1 ⟨A4,n4,c4,rfl,o4,b4⟩;replace HK:=zH (HK.out.called b4 o4);simp only[aJ] at HK;clear o4 b4;go_wp2_with (refine bf (q:=av.rz) HK 2 ?_;clear HK;intro _ HK;simp only[lS] at HK);exact qL results77 (HK.out.blk 2 rfl) (hR:=(by unfold mQ;exact⟨_,_,_,_,_,_,_,_,rfl,JM l _ _ (FT c),HK.out.aA 0,fun _ _ _ _ _ K hm hb=>⟨⟨bJ.own (K.mem (hm _ (List.mem_cons_self ..))) ⟨fun y hy=>trivial,by rw[List.length_append,List.length_append,List.length_take,List.length_drop,gT.out];show(min _ n+1+(n-_))*144≤_;have:=HN8.out;omega⟩,fun y hy=>Yn c (yF.out _ hb).i hy⟩,bJ.none _⟩⟩))
theorem afd(G:World→Prop)(A:Option Addr)(cp n:Nat)(l:List Oh)(r:Rf)(c:aF.C)(w:World)(hG:∀W,G W→bY W A n cp l)(hs:bY w A n cp l)(hv:c.val.f<18446744073709551616)(ho:c.old.f<18446744073709551616)(fT:av.All (vs l) r c)(he:aF.bG c=0)(h4:¬c.k=4)(hf:av.jc (vs l) c.name=none):
  Calls prog 77 #[.slice A n cp,.agg #[.int .i64 r.c,.int .i64 r.e,.int .i64 r.r],.agg (dh c)] w (mQ G ⟨vs l,av.err 5,false,[]⟩ w):=by
 have yF:=zH hG;have mJ:=zH dS;have HK:=AY w 35 #[.int .i64 r.c,.int .i64 r.e,.int .i64 r.r] 37 (dh c) 28 (cB av.rz);have HM:=zH (fun W (hW:Below w.heap.size w W)=>cK A cp n l W (hs.later hW));unfold cZ at HM;have HC:=zH (fun W=>gu r W);unfold cZ at HC;have HE:=zH (fun W=>iG c W hv ho);unfold gX at HE;have hall:=fT;rw[decide_eq_true hall.1] at HM;rw[decide_eq_true hall.2.1] at HC;have D4:Hid (decide (c.k<4)=false):=zH (decide_eq_false (by have:=hall.2.2.1;omega));have tK:Hid (decide (17<c.k)=false):=zH (decide_eq_false (by have:=hall.2.2.2;omega));rw[he] at HE;have uH:=zH (fun W (hW:Below w.heap.size w W)=>iF A cp n l c.name W (hs.later hW));have gP:Hid (¬∃(i:Nat) (x:Oh),l[i]?=some x∧x.v.name=c.name):=zH (by rintro ⟨i,x,h1,h2⟩;have:=(av.jW hall.1.up (dL h1) h2).2.2;rw[hf] at this;cases this);have E4:Hid (decide (c.k=4)=false):=zH (decide_eq_false h4);clear hs hv ho hall fT hG he h4 hf;go_enter func77,ntmps77;go_wp2_with fail
 (refine(HM.out _ HK.out.b).mono ?_;rintro e w1 ⟨rfl,b1⟩)
 replace HK:=iy HK b1;clear b1;go_wp2_with refine zX (aB HK 0) ?_;refine cb (HC.out _) HK ?_;clear HK;intro _ HK;go_wp2_with (first|refine zX (bK HK 1) ?_|refine zX (dH (x:=c.k) (k:=4) D4.out) ?_|refine zX (dz (x:=c.k) (k:=17) tK.out) ?_|refine zX (zD HK 1) ?_);refine cb (HE.out _) HK ?_;clear HK;intro _ HK;go_wp2_with refine zX (ko HK 1) ?_;refine(uH.out _ HK.out.b).mono ?_;rintro e w1 ⟨z,hat,rfl,b1⟩;replace HK:=iy HK b1;clear b1
 rcases hat with ⟨i,x,rfl,hx,hn,_⟩|⟨rfl,hno⟩
 ·exact absurd ⟨i,x,hx,hn⟩ gP.out
 clear hno;go_wp2_with (first|refine zX (bK HK 1) ?_|refine zX (aZ (x:=c.k) (k:=4) E4.out) ?_);refine cb (mJ.out 5 _) HK ?_;clear HK;intro _ HK;go_wp2_with (refine bf (q:=⟨5,av.vn⟩) HK 2 ?_;clear HK;intro _ HK;simp only[lS] at HK);exact NT
theorem afb(G:World→Prop)(A:Option Addr)(cp n:Nat)(l:List Oh)(r:Rf)(c:aF.C)(w:World)(hG:∀W,G W→bY W A n cp l)(hs:bY w A n cp l)(hv:c.val.f<18446744073709551616)(ho:c.old.f<18446744073709551616)(fT:av.All (vs l) r c)(he:aF.bG c=0)(h4:¬c.k=4)(o:av.Ob)(hf:av.jc (vs l) c.name=some o)(hft:av.fits c.k o.kind=false):
  Calls prog 77 #[.slice A n cp,.agg #[.int .i64 r.c,.int .i64 r.e,.int .i64 r.r],.agg (dh c)] w (mQ G ⟨vs l,av.err 7,false,[]⟩ w):=by
 have yF:=zH hG;have mJ:=zH dS;have HK:=AY w 35 #[.int .i64 r.c,.int .i64 r.e,.int .i64 r.r] 37 (dh c) 28 (cB av.rz);have HM:=zH (fun W (hW:Below w.heap.size w W)=>cK A cp n l W (hs.later hW));unfold cZ at HM;have HC:=zH (fun W=>gu r W);unfold cZ at HC;have HE:=zH (fun W=>iG c W hv ho);unfold gX at HE;have hall:=fT;rw[decide_eq_true hall.1] at HM;rw[decide_eq_true hall.2.1] at HC;have D4:Hid (decide (c.k<4)=false):=zH (decide_eq_false (by have:=hall.2.2.1;omega));have tK:Hid (decide (17<c.k)=false):=zH (decide_eq_false (by have:=hall.2.2.2;omega));rw[he] at HE;have uH:=zH (fun W (hW:Below w.heap.size w W)=>iF A cp n l c.name W (hs.later hW));have BL:Hid (¬∀(j:Nat) (y:Oh),l[j]?=some y→¬y.v.name=c.name):=zH (fun h=>by have:=(av.sM (l:=vs l) (k:=c.name) (fun j y hj=>by obtain⟨z,hz,rfl⟩:=yH hj;exact h j z hz)).2;rw[hf] at this;cases this);have BM:Hid (∀(i:Nat) (x:Oh),l[i]?=some x→x.v.name=c.name→x.v=o):=zH (fun i x h1 h2=>by have:=(av.jW hall.1.up (dL h1) h2).2.2;rw[hf] at this;injection this with this;exact this.symm)
 have hpos:0<n:=by
  rcases Nat.eq_zero_or_pos n with h0|h0
  ·subst h0
   rw[List.length_eq_zero_iff.1 hs.len] at hf;cases hf
  ·exact h0
 have hl:=hs.len;obtain⟨b,sK,rfl,nS⟩:=hs.s.at hpos;have BP:=zH nS;have HI:=zH hs.i;clear nS;have iD:=zH (fun W=>lq c.k o.kind hall.2.2.2 W);unfold cZ at iD;rw[hft] at iD;have E4:Hid (decide (c.k=4)=false):=zH (decide_eq_false h4);clear hs hv ho hall fT hG he h4 hf hft;go_enter func77,ntmps77;go_wp2_with fail
 (refine(HM.out _ HK.out.b).mono ?_;rintro e w1 ⟨rfl,b1⟩)
 replace HK:=iy HK b1;clear b1;go_wp2_with refine zX (aB HK 0) ?_;refine cb (HC.out _) HK ?_;clear HK;intro _ HK;go_wp2_with (first|refine zX (bK HK 1) ?_|refine zX (dH (x:=c.k) (k:=4) D4.out) ?_|refine zX (dz (x:=c.k) (k:=17) tK.out) ?_|refine zX (zD HK 1) ?_);refine cb (HE.out _) HK ?_;clear HK;intro _ HK;go_wp2_with refine zX (ko HK 1) ?_;refine(uH.out _ HK.out.b).mono ?_;rintro e w1 ⟨z,hat,rfl,b1⟩;replace HK:=iy HK b1;clear b1
 rcases hat with ⟨i,x,rfl,hx,hn,_⟩|⟨rfl,hno⟩
 case inr=>exact absurd hno BL.out
 obtain rfl:=BM.out i x hx hn;have HX:Hid (∀W,Below w.heap.size w W→∀j v,(vR x)[j]?=some v→W.cell? ⟨b,sK+i*11+j,none⟩=some v):=zH fun W hW=>BP.out W hW i x hx
 have hin:i<n:=by have:=(List.getElem?_eq_some_iff.1 hx).1;omega
 have hi0:(0:Int)≤(i:Int):=by omega
 have hi1:(i:Int)<(n:Int):=by omega
 have G0:Hid (decide ((0:Int)≤(i:Int))=true):=zH (decide_eq_true hi0);have L0:Hid (decide ((i:Int)<0)=false):=zH (decide_eq_false (by omega));clear BP hl hx hn BM BL;go_wp2_with (first|refine zX (bK HK 1) ?_|refine zX (aZ (x:=c.k) (k:=4) E4.out) ?_|refine zX (dH (x:=(i:Int)) (k:=0) L0.out) ?_);have aj:=zH HK.out.drew;refine zR aj.out fun ah=>?_
 refine ak 0 rfl ?_;refine ak 1 rfl ?_ fun _ s=>bK s 1
 refine ak 2 rfl ?_;refine ak 3 rfl ?_;refine ak 4 rfl ?_ fun _ s=>bL (i:=i) hin
 refine ak 5 rfl ?_;refine ak 6 rfl ?_ fun _ s=>eD (x:=x) (off:=sK+i*11) (HX.out _ s.out.b)
 refine aC 7 rfl fun K hK=>?_
 go_simp;go_at_call 135;refine(iD.out _).mono ?_;rintro e w5 ⟨rfl,b5⟩;have hs:=zH (ah.out.call b5);clear b5;refine bk hK hs fun ah=>?_
 clear hK K;refine ak 8 rfl ?_;refine ak 9 rfl ?_;refine bW ?_;replace HK:=ah;clear ah aj;go_wp2_with fail;refine cb (mJ.out 7 _) HK ?_;clear HK;intro _ HK;go_wp2_with (refine bf (q:=⟨7,av.vn⟩) HK 2 ?_;clear HK;intro _ HK;simp only[lS] at HK);exact NT
theorem abS(G:World→Prop)(A:Option Addr)(cp n:Nat)(l:List Oh)(r:Rf)(c:aF.C)(w:World)(hG:∀W,G W→bY W A n cp l)(hs:bY w A n cp l)(hv:c.val.f<18446744073709551616)(ho:c.old.f<18446744073709551616)(fT:av.All (vs l) r c)(he:aF.bG c=0)(h5:c.k=5)(o:av.Ob)(hf:av.jc (vs l) c.name=some o)(hrl:0<o.refs.length):
  Calls prog 77 #[.slice A n cp,.agg #[.int .i64 r.c,.int .i64 r.e,.int .i64 r.r],.agg (dh c)] w (mQ G ⟨vs l,av.err 13,false,[]⟩ w):=by
 have yF:=zH hG;have mJ:=zH dS;have HK:=AY w 35 #[.int .i64 r.c,.int .i64 r.e,.int .i64 r.r] 37 (dh c) 28 (cB av.rz);have HM:=zH (fun W (hW:Below w.heap.size w W)=>cK A cp n l W (hs.later hW));unfold cZ at HM;have HC:=zH (fun W=>gu r W);unfold cZ at HC;have HE:=zH (fun W=>iG c W hv ho);unfold gX at HE;have hall:=fT;rw[decide_eq_true hall.1] at HM;rw[decide_eq_true hall.2.1] at HC;have D4:Hid (decide (c.k<4)=false):=zH (decide_eq_false (by have:=hall.2.2.1;omega));have tK:Hid (decide (17<c.k)=false):=zH (decide_eq_false (by have:=hall.2.2.2;omega));rw[he] at HE;have uH:=zH (fun W (hW:Below w.heap.size w W)=>iF A cp n l c.name W (hs.later hW));have BL:Hid (¬∀(j:Nat) (y:Oh),l[j]?=some y→¬y.v.name=c.name):=zH (fun h=>by have:=(av.sM (l:=vs l) (k:=c.name) (fun j y hj=>by obtain⟨z,hz,rfl⟩:=yH hj;exact h j z hz)).2;rw[hf] at this;cases this);have BM:Hid (∀(i:Nat) (x:Oh),l[i]?=some x→x.v.name=c.name→x.v=o):=zH (fun i x h1 h2=>by have:=(av.jW hall.1.up (dL h1) h2).2.2;rw[hf] at this;injection this with this;exact this.symm)
 have hpos:0<n:=by
  rcases Nat.eq_zero_or_pos n with h0|h0
  ·subst h0
   rw[List.length_eq_zero_iff.1 hs.len] at hf;cases hf
  ·exact h0
 have hl:=hs.len;obtain⟨b,sK,rfl,nS⟩:=hs.s.at hpos;have BP:=zH nS;have HI:=zH hs.i;clear nS;have hft:av.fits c.k o.kind=true:=by rw[h5];rfl
 have HRl:=zH hrl;have iD:=zH (fun W=>lq c.k o.kind hall.2.2.2 W);unfold cZ at iD;rw[hft] at iD;have E4:Hid (decide (c.k=4)=false):=zH (decide_eq_false (by omega));have E5:Hid (decide (c.k=5)=true):=zH (decide_eq_true h5);clear hs hv ho hall fT hG he h5 hf hft hrl;go_enter func77,ntmps77;go_wp2_with fail
 (refine(HM.out _ HK.out.b).mono ?_;rintro e w1 ⟨rfl,b1⟩)
 replace HK:=iy HK b1;clear b1;go_wp2_with refine zX (aB HK 0) ?_;refine cb (HC.out _) HK ?_;clear HK;intro _ HK;go_wp2_with (first|refine zX (bK HK 1) ?_|refine zX (dH (x:=c.k) (k:=4) D4.out) ?_|refine zX (dz (x:=c.k) (k:=17) tK.out) ?_|refine zX (zD HK 1) ?_);refine cb (HE.out _) HK ?_;clear HK;intro _ HK;go_wp2_with refine zX (ko HK 1) ?_;refine(uH.out _ HK.out.b).mono ?_;rintro e w1 ⟨z,hat,rfl,b1⟩;replace HK:=iy HK b1;clear b1
 rcases hat with ⟨i,x,rfl,hx,hn,_⟩|⟨rfl,hno⟩
 case inr=>exact absurd hno BL.out
 obtain rfl:=BM.out i x hx hn;have HX:Hid (∀W,Below w.heap.size w W→∀j v,(vR x)[j]?=some v→W.cell? ⟨b,sK+i*11+j,none⟩=some v):=zH fun W hW=>BP.out W hW i x hx
 have hin:i<n:=by have:=(List.getElem?_eq_some_iff.1 hx).1;omega
 have hi0:(0:Int)≤(i:Int):=by omega
 have hi1:(i:Int)<(n:Int):=by omega
 have G0:Hid (decide ((0:Int)≤(i:Int))=true):=zH (decide_eq_true hi0);have L0:Hid (decide ((i:Int)<0)=false):=zH (decide_eq_false (by omega));have R0:Hid (decide ((0:Int)<(x.rn:Int))=true):=zH (decide_eq_true (by have h1:=(HI.out x (List.mem_of_getElem? hx)).r.len;have h2:=HRl.out;omega));clear BP hl hx hn BM BL HRl;go_wp2_with (first|refine zX (bK HK 1) ?_|refine zX (aZ (x:=c.k) (k:=4) E4.out) ?_|refine zX (dH (x:=(i:Int)) (k:=0) L0.out) ?_);have aj:=zH HK.out.drew;refine zR aj.out fun ah=>?_
 refine ak 0 rfl ?_;refine ak 1 rfl ?_ fun _ s=>bK s 1
 refine ak 2 rfl ?_;refine ak 3 rfl ?_;refine ak 4 rfl ?_ fun _ s=>bL (i:=i) hin
 refine ak 5 rfl ?_;refine ak 6 rfl ?_ fun _ s=>eD (x:=x) (off:=sK+i*11) (HX.out _ s.out.b)
 refine aC 7 rfl fun K hK=>?_
 go_simp;go_at_call 135;refine(iD.out _).mono ?_;rintro e w5 ⟨rfl,b5⟩;have hs:=zH (ah.out.call b5);clear b5;refine bk hK hs fun ah=>?_
 clear hK K;refine ak 8 rfl ?_;refine ak 9 rfl ?_;refine bW ?_;replace HK:=ah;clear ah aj;go_wp2_with (first|refine zX (bK HK 1) ?_|refine zX (aZ (x:=c.k) (k:=5) E5.out) ?_|refine zX (bL (i:=i) hin) ?_|refine zX (lZ (x:=x) (off:=sK+i*11) (HX.out _ HK.out.b)) ?_|refine zX (dz (x:=(x.rn:Int)) (k:=0) R0.out) ?_);refine cb (mJ.out 13 _) HK ?_;clear HK;intro _ HK;go_wp2_with (refine bf (q:=⟨13,av.vn⟩) HK 2 ?_;clear HK;intro _ HK;simp only[lS] at HK);exact NT
theorem abN(G:World→Prop)(A:Option Addr)(cp n:Nat)(l:List Oh)(r:Rf)(c:aF.C)(w:World)(hG:∀W,G W→bY W A n cp l)(hs:bY w A n cp l)(hv:c.val.f<18446744073709551616)(ho:c.old.f<18446744073709551616)(fT:av.All (vs l) r c)(he:aF.bG c=0)(h5:c.k=5)(o:av.Ob)(hf:av.jc (vs l) c.name=some o)(hrl:¬0<o.refs.length):
  Calls prog 77 #[.slice A n cp,.agg #[.int .i64 r.c,.int .i64 r.e,.int .i64 r.r],.agg (dh c)] w (mQ G (av.iC (vs l) r c) w):=by
 have yF:=zH hG;have mJ:=zH dS;have HK:=AY w 35 #[.int .i64 r.c,.int .i64 r.e,.int .i64 r.r] 37 (dh c) 28 (cB av.rz);have HM:=zH (fun W (hW:Below w.heap.size w W)=>cK A cp n l W (hs.later hW));unfold cZ at HM;have HC:=zH (fun W=>gu r W);unfold cZ at HC;have HE:=zH (fun W=>iG c W hv ho);unfold gX at HE;have hall:=fT;rw[decide_eq_true hall.1] at HM;rw[decide_eq_true hall.2.1] at HC;have D4:Hid (decide (c.k<4)=false):=zH (decide_eq_false (by have:=hall.2.2.1;omega));have tK:Hid (decide (17<c.k)=false):=zH (decide_eq_false (by have:=hall.2.2.2;omega));rw[he] at HE;have uH:=zH (fun W (hW:Below w.heap.size w W)=>iF A cp n l c.name W (hs.later hW));have BL:Hid (¬∀(j:Nat) (y:Oh),l[j]?=some y→¬y.v.name=c.name):=zH (fun h=>by have:=(av.sM (l:=vs l) (k:=c.name) (fun j y hj=>by obtain⟨z,hz,rfl⟩:=yH hj;exact h j z hz)).2;rw[hf] at this;cases this);have BM:Hid (∀(i:Nat) (x:Oh),l[i]?=some x→x.v.name=c.name→x.v=o):=zH (fun i x h1 h2=>by have:=(av.jW hall.1.up (dL h1) h2).2.2;rw[hf] at this;injection this with this;exact this.symm)
 have hpos:0<n:=by
  rcases Nat.eq_zero_or_pos n with h0|h0
  ·subst h0
   rw[List.length_eq_zero_iff.1 hs.len] at hf;cases hf
  ·exact h0
 have hl:=hs.len;obtain⟨b,sK,rfl,nS⟩:=hs.s.at hpos;have BP:=zH nS;have HI:=zH hs.i;clear nS;have hft:av.fits c.k o.kind=true:=by rw[h5];rfl
 have HRl:=zH hrl;have yX:Hid (∀(i:Nat) (x:Oh),l[i]?=some x→x.v.name=c.name→x.v=o→av.iC (vs l) r c=⟨(vs l).take i++(vs l).drop (i+1),av.rz,false,[]⟩):=zH (fun i x h1 h2 h3=>av.ade hall he h5 (dL h1) h2 (by rw[h3];exact hrl));have HS:=zH hs;have Yp:n≤8:=by have:=hall.1.len;rw[fF,hs.len] at this;exact this
 have iD:=zH (fun W=>lq c.k o.kind hall.2.2.2 W);unfold cZ at iD;rw[hft] at iD;have E4:Hid (decide (c.k=4)=false):=zH (decide_eq_false (by omega));have E5:Hid (decide (c.k=5)=true):=zH (decide_eq_true h5);clear hs hv ho hall fT hG he h5 hf hft hrl;generalize hds:av.iC (vs l) r c=ds at *
 clear hds;go_enter func77,ntmps77;go_wp2_with fail
 (refine(HM.out _ HK.out.b).mono ?_;rintro e w1 ⟨rfl,b1⟩)
 replace HK:=iy HK b1;clear b1;go_wp2_with refine zX (aB HK 0) ?_;refine cb (HC.out _) HK ?_;clear HK;intro _ HK;go_wp2_with (first|refine zX (bK HK 1) ?_|refine zX (dH (x:=c.k) (k:=4) D4.out) ?_|refine zX (dz (x:=c.k) (k:=17) tK.out) ?_|refine zX (zD HK 1) ?_);refine cb (HE.out _) HK ?_;clear HK;intro _ HK;go_wp2_with refine zX (ko HK 1) ?_;refine(uH.out _ HK.out.b).mono ?_;rintro e w1 ⟨z,hat,rfl,b1⟩;replace HK:=iy HK b1;clear b1
 rcases hat with ⟨i,x,rfl,hx,hn,_⟩|⟨rfl,hno⟩
 case inr=>exact absurd hno BL.out
 obtain rfl:=BM.out i x hx hn;have HX:Hid (∀W,Below w.heap.size w W→∀j v,(vR x)[j]?=some v→W.cell? ⟨b,sK+i*11+j,none⟩=some v):=zH fun W hW=>BP.out W hW i x hx
 have hin:i<n:=by have:=(List.getElem?_eq_some_iff.1 hx).1;omega
 have hi0:(0:Int)≤(i:Int):=by omega
 have hi1:(i:Int)<(n:Int):=by omega
 have G0:Hid (decide ((0:Int)≤(i:Int))=true):=zH (decide_eq_true hi0);have L0:Hid (decide ((i:Int)<0)=false):=zH (decide_eq_false (by omega));have R0:Hid (decide ((0:Int)<(x.rn:Int))=false):=zH (decide_eq_false (by have h1:=(HI.out x (List.mem_of_getElem? hx)).r.len;have h2:=HRl.out;omega));obtain rfl:=yX.out i x hx hn rfl;have mI:=zH hl;clear BP hx hn BM BL HRl yX hl;have hin1:i+1≤n:=hin;have hinc:i≤cp:=Nat.le_trans (Nat.le_of_lt hin) HS.out.s.cap;have hi3:i<9223372036854775807:=by omega
 have Ef:Hid (i=(l.take i).length):=zH (by rw[List.length_take,mI.out];omega);have HDr:Hid (n-(i+1)=(l.drop (i+1)).length):=zH (by rw[List.length_drop,mI.out])
 have xE:Hid (([]:List Oh).length+(l.take i).length≤9223372036854775807∧(([]:List Oh).length+(l.take i).length)*aP.bytes≤211106232532992):=zH (by
  rw[← Ef.out,List.length_nil,Nat.zero_add];refine⟨by omega,?_⟩
  show i*144≤_
  omega)
 have lJ:Hid ((([]:List Oh)++l.take i).length=i):=zH Ef.out.symm
 have HG2:Hid ((l.take i).length+(l.drop (i+1)).length≤9223372036854775807∧((l.take i).length+(l.drop (i+1)).length)*aP.bytes≤211106232532992):=zH (by
  rw[← Ef.out,← HDr.out];refine⟨by omega,?_⟩
  show(i+(n-(i+1)))*144≤_
  omega)
 have fB:Hid ((l.take i++l.drop (i+1)).length=n-1):=zH (by rw[List.length_append,← Ef.out,← HDr.out];omega);go_wp2_with (first|refine zX (bK HK 1) ?_|refine zX (aZ (x:=c.k) (k:=4) E4.out) ?_|refine zX (dH (x:=(i:Int)) (k:=0) L0.out) ?_);have aj:=zH HK.out.drew;refine zR aj.out fun ah=>?_
 refine ak 0 rfl ?_;refine ak 1 rfl ?_ fun _ s=>bK s 1
 refine ak 2 rfl ?_;refine ak 3 rfl ?_;refine ak 4 rfl ?_ fun _ s=>bL (i:=i) hin
 refine ak 5 rfl ?_;refine ak 6 rfl ?_ fun _ s=>eD (x:=x) (off:=sK+i*11) (HX.out _ s.out.b)
 refine aC 7 rfl fun K hK=>?_
 go_simp;go_at_call 135;refine(iD.out _).mono ?_;rintro e w5 ⟨rfl,b5⟩;have hs:=zH (ah.out.call b5);clear b5;refine bk hK hs fun ah=>?_
 clear hK K;refine ak 8 rfl ?_;refine ak 9 rfl ?_;refine bW ?_;replace HK:=ah;clear ah aj;go_wp2_with (first|refine zX (bK HK 1) ?_|refine zX (aZ (x:=c.k) (k:=5) E5.out) ?_|refine zX (bL (i:=i) hin) ?_|refine zX (lZ (x:=x) (off:=sK+i*11) (HX.out _ HK.out.b)) ?_|refine zX (dz (x:=(x.rn:Int)) (k:=0) R0.out) ?_);have aj:=zH HK.out.drew;refine zR ((aj.out.aA 0).ay 0) fun ah=>?_
 refine ak 1 rfl ?_;refine ak 2 rfl ?_;refine ak 3 rfl ?_ fun _ s=>nT aP (hi:=i) hinc
 refine ak 5 rfl ?_;refine ak 6 rfl ?_;refine ak 7 rfl ?_ fun _ s=>aL (j:=i) hi3
 refine ak 8 rfl ?_ fun _ s=>lD aP (lo:=i+1) hin1
 refine ak 10 rfl ?_;refine aC 0 rfl fun K hK=>?_
 refine kH aP aj ?_;clear aj;intro w6 g6 aj _;simp only[aJ] at aj;have hs:=zH ((aj.out.aA 0).ay 0);refine bk hK hs fun ah=>?_
 clear hK K;refine aC 4 rfl fun K hK=>?_
 refine aT aP aj 0 (l.take i) (hn:=Ef.out) (zH (let h:=(HS.out.s.take (Nat.le_of_lt hin)).later aj.out.b;And.intro h.rd h.nl)) xE (N:=i) lJ ?_;clear aj;intro A8 c8 w8 aj;simp only[List.set,aJ] at aj;have hs:=zH ((aj.out.aA 0).ay 0);refine bk hK hs fun ah=>?_
 clear hK K;refine aC 9 rfl fun K hK=>?_
 refine aT aP aj 0 (l.drop (i+1)) (hn:=HDr.out) (zH (let h:=(HS.out.s.drop hin1).later aj.out.b;And.intro h.rd h.nl)) HG2 (N:=n-1) fB ?_;clear aj;intro A9 c9 w9 aj;simp only[lS] at aj;have hs:=zH ((aj.out.aA 0).ay 0);refine bk hK hs fun ah=>?_
 clear hK K;refine ak 11 rfl ?_;refine aC 12 rfl fun K hK=>?_
 refine bM (q:=av.rz) aj 2 ?_;clear aj;intro wq aj;simp only[lS] at aj;have hs:=zH ((aj.out.aA 0).ay 0);refine bk hK hs fun ah=>?_
 clear hK K;refine ak 13 rfl ?_;refine ak 14 rfl ?_;refine bW ?_
 all_goals
  go_wp2_with fail;exact qL results77 (aj.out.blk 2 rfl) (hR:=(by unfold mQ;exact⟨_,_,_,_,_,_,_,_,rfl,aan l i (i+1),aj.out.aA 0,fun _ _ _ _ _ K hm hb=>⟨⟨bJ.own (K.mem (hm _ (List.mem_cons_self ..))) ⟨fun y hy=>trivial,by rw[fB.out];show(n-1)*144≤_;omega⟩,fun y hy=>afD (yF.out _ hb).i hy⟩,bJ.none _⟩⟩))
end
section
theorem EI{w:World}{b:Nat}{A:Option Addr}{n c:Nat}{l:List aK.Pr}(h:bO.Own b w (.slice A n c) l):bO.Reads w w.heap.size A l∧(A=none→l=[]):=by
 have hr:=h.reads;refine⟨hr.2,fun hA=>?_⟩;subst hA
 rcases h.2 with ⟨_,h0⟩|⟨g,cap,cur,e,_⟩
 ·exact List.length_eq_zero_iff.1 h0
 ·cases e
theorem Am(A:Option Addr)(c n:Nat)(l:List aK.Pr)(key:ByteArray)(w:World)(hs:Sl w A n c l):
  Calls prog 198 #[.slice A n c,.string key] w (qU (aK.pK l key) (aK.pE l key) w):=by
 have HM:=zH (fun W (hW:Below w.heap.size w W)=>vw A c n l W (hs.later hW));have HS:=zH hs;unfold qU cZ at *
 have HK:=zH (Kn.start w);by_cases hr:aK.Right l
 ·rw[decide_eq_true hr] at HM
  have HG:Hid (∀k,k<n→∃x,l[k]?=some x):=zH fun k hk=>Lay.fI (l:=l) (k:=k) (by rw[hs.len];exact hk)
  have Jm:Hid (l.drop n=[]):=zH (List.drop_of_length_le (by rw[hs.len];exact Nat.le_refl _));have WB:Hid (∀v,aK.jc l key=some v→aK.pK l key=v∧aK.pE l key=0):=zH fun v hv=>aK.MU hr hv
  have WE:Hid (aK.jc l key=none→aK.pK l key=aK.emp∧aK.pE l key=5):=zH fun hv=>aK.MV hr hv
  have hn63:n<9223372036854775807:=Nat.lt_of_le_of_lt hs.big (by decide);clear hr hs;generalize aK.pK l key=V at *
  generalize aK.pE l key=X at *
  go_enter func198,ntmps198;go_wp2_with (refine aN HK ?_;clear HK;intro _ g1 HK;simp only[aO,aJ] at HK);refine(HM.out _ HK.out.b).mono ?_;rintro e w1 ⟨rfl,b1⟩;replace HK:=iy HK b1;clear b1 HM;go_wp2_with fail;go_loop [6] (fun vi=>∃k:Nat,k≤n∧vi=.int .i64 k∧Hid (aK.jc l key=aK.jc (l.drop k) key)) (fun vi=>n-(intOf vi).toNat)
  case atStart=>exact⟨0,Nat.zero_le _,rfl,zH rfl⟩
  case round=>
   obtain⟨k,hk,rfl,HF⟩:=hrel;have hk1:(0:Int)≤(k:Int):=by omega
   by_cases hlt:k<n
   ·have hk2:(k:Int)<(n:Int):=by omega
    have hk3:k<9223372036854775807:=by omega
    obtain⟨x,hx⟩:=HG.out k hlt;obtain⟨b,o,rfl,hat⟩:=HS.out.at (Nat.lt_of_le_of_lt (Nat.zero_le _) hlt);have HX:=zH (fun W hW=>hat W hW k x hx);have HFx:=zH (HF.out.trans (aK.UO hx key));clear hat hx HF;by_cases he:x.key=key
    ·have hv:=HFx.out
     rw[if_pos he] at hv;obtain⟨rfl,rfl⟩:=WB.out _ hv;have HE:=zH (show decide (x.key=key)=true from decide_eq_true he);clear he hv HFx WE WB;obtain⟨xk,k',m,f,s⟩:=x;simp only at HE;go_wp2_with (first|refine au (eG (off:=o+k*5) (HX.out _ HK.out.b)) ?_|refine au (kR HE.out) ?_|refine au (ql (off:=o+k*5) (HX.out _ HK.out.b)) ?_|(refine aM (f2:=f) HK 0 ?_;clear HK;intro _ HK;simp only[lS] at HK));exact EA results198 (HK.out.blk 0 rfl) ⟨rfl,HK.out.b⟩
    ·have hv:=HFx.out
     rw[if_neg he] at hv;have HFn:=zH hv;have HE:=zH (show decide (x.key=key)=false from decide_eq_false he);clear he hv HFx;go_wp2_with (first|refine au (eG (off:=o+k*5) (HX.out _ HK.out.b)) ?_|refine au (kR HE.out) ?_|refine au (aL (j:=k) hk3) ?_);exact⟨⟨k+1,hlt,rfl,HFn⟩,by simp[intOf];omega⟩
   ·obtain rfl:k=n:=by omega
    have hv:=HF.out;rw[Jm.out] at hv;obtain⟨rfl,rfl⟩:=WE.out hv;clear hv WB WE HF;exact aad
 ·rw[decide_eq_false hr] at HM
  obtain⟨e1,e2⟩:=aK.Bd hr key;rw[e1,e2];clear e1 e2 hr;unfold aK.emp vv;simp only;go_enter func198,ntmps198;go_wp2_with (refine aN HK ?_;clear HK;intro _ g1 HK;simp only[aO,aJ] at HK);refine cb (HM.out _ HK.out.b) HK ?_;clear HK;intro _ HK;exact aad
theorem Ew(A:Option Addr)(c n:Nat)(l:List aK.Pr)(key:ByteArray)(w:World)(hs:Sl w A n c l):
  Calls prog 246 #[.slice A n c,.string key] w (IsL (aK.wo l key) w):=by
 have HS:=zH hs;have HG:Hid (∀k,k<n→∃x,l[k]?=some x):=zH fun k hk=>Lay.fI (l:=l) (k:=k) (by rw[hs.len];exact hk)
 have jo:Hid (l.take n=l):=zH (List.take_of_length_le (by rw[hs.len];exact Nat.le_refl _))
 have HLen:Hid (∀k,(aK.wo (l.take k) key).length≤2513169434916):=zH fun k=>by
  have h1:(aK.wo (l.take k) key).length≤(l.take k).length:=List.length_filter_le _ _;have h2:(l.take k).length≤l.length:=by rw[List.length_take];omega
  have h3:=hs.big;have h4:=hs.len;omega
 have hn63:n<9223372036854775807:=Nat.lt_of_le_of_lt hs.big (by decide);clear hs;have HK:=zH ((Kn.start w).wE bO);simp only[aJ] at HK;go_enter func246,ntmps246;go_wp2_with fail;go_loopw [5,6] (fun vs vi wr=>∃(k:Nat) (A1:Option Addr) (c1 N:Nat),k≤n∧vs=.slice A1 N c1∧vi=.int .i64 k∧Hid ((aK.wo (l.take k) key).length=N)∧Hid (Kn w.heap.size w wr [] [row bO (.slice A1 N c1) (aK.wo (l.take k) key)])) (fun _ vi _=>n-(intOf vi).toNat)
 case atStart=>exact⟨0,_,_,0,Nat.zero_le _,rfl,rfl,zH rfl,HK⟩
 case round=>
  clear HK;obtain⟨k,A1,c1,N,hk,rfl,rfl,hN,HK⟩:=hrel;have hk1:(0:Int)≤(k:Int):=by omega
  by_cases hlt:k<n
  ·have hk2:(k:Int)<(n:Int):=by omega
   have hk3:k<9223372036854775807:=by omega
   obtain⟨x,hx⟩:=HG.out k hlt;obtain⟨b,o,rfl,hat⟩:=HS.out.at (Nat.lt_of_le_of_lt (Nat.zero_le _) hlt);have HX:=zH (fun W hW=>hat W hW k x hx);have HW:=zH (aK.En hx key);have hlen:=HLen.out k;rw[hN.out] at hlen;clear hat hx;by_cases he:x.key=key
   ·have hw:=HW.out
    rw[if_pos he] at hw;have HE:=zH (show(!decide (x.key=key))=false by rw[decide_eq_true he];rfl);have HW2:=zH hw;clear he hw HW;go_wp2_with (first|refine au (eG (off:=o+k*5) (HX.out _ HK.out.b)) ?_|refine au (Il HE.out) ?_|refine au (aL (j:=k) hk3) ?_);exact⟨⟨k+1,A1,c1,N,hlt,rfl,rfl,zH (by rw[HW2.out];exact hN.out),by rw[HW2.out];exact HK⟩,by simp[intOf];omega⟩
   ·have hw:=HW.out
    rw[if_neg he] at hw;have HE:=zH (show(!decide (x.key=key))=true by rw[decide_eq_false he];rfl);have HW2:=zH hw
    have HL:Hid ((aK.wo (l.take k) key).length+[x].length≤9223372036854775807∧((aK.wo (l.take k) key).length+[x].length)*bO.bytes≤211106232532992):=zH (by
     rw[hN.out]
     show N+1≤_∧(N+1)*56≤_
     omega)
    have fB:Hid ((aK.wo (l.take k) key++[x]).length=N+1):=zH (by rw[List.length_append,hN.out];rfl);clear he hw HW;go_wp2_with (first|refine au (eG (off:=o+k*5) (HX.out _ HK.out.b)) ?_|refine au (Il HE.out) ?_|refine au (aL (j:=k) hk3) ?_|refine au (v:=.agg (yZ x)) (nV (off:=o+k*5) (HX.out _ HK.out.b)) ?_|(refine nu (p:=x) HK ?_;intro w2 g2 dY;simp only[aO,aJ] at dY;have HR:=zH (EI (dY.out.own 1 rfl));replace HK:=dY;clear dY)|(at_builtin;refine aX HK bO 0 [x] rfl HR HL (N:=N+1) fB ?_;clear HK;intro A4 c4 _ HK;simp only[lS] at HK));exact⟨⟨k+1,A4,c4,N+1,hlt,rfl,rfl,zH (by rw[HW2.out];exact fB.out),by rw[HW2.out];exact zH (HK.out.ay 1)⟩,by simp[intOf];omega⟩
  ·obtain rfl:k=n:=by omega
   rw[jo.out] at HK hN;obtain rfl:=hN.out;exact QZ
end
end Go.Proofs.YtieoeendnccafaaGreat
