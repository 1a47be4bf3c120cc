/- What the document's hold returns: a request for a lock, or one that gives it up. No condition but those named. -/
import Derived.Test.YtahdlddbbnjloaaGreatNBI
set_option linter.unusedSimpArgs false
set_option linter.unusedVariables false
set_option maxRecDepth 100000
set_option maxHeartbeats 25600000
open Go.RowKit
namespace Go.Proofs.YtahdlddbbnjloaaGreat
open _root_.Go.Proofs.Tryz
section
def XL(A:Option Addr)(n c:Nat)(l r:List Val.V)(x:Int)(w:World)(e:Ending)(w':World):Prop:=∃A' n' c',e=.returned (.tuple #[.slice A' n' c',.int .i64 x])∧uI bG w.heap.size w' A n c l A' n' c' r∧Below w.heap.size w w'
def Js(A:Option Addr)(n c:Nat)(l r:List Val.V)(v:Val.V)(x:Int)(w:World)(e:Ending)(w':World):Prop:=∃A' n' c',e=.returned (.tuple #[.slice A' n' c',vv v,.int .i64 x])∧uI bG w.heap.size w' A n c l A' n' c' r∧Below w.heap.size w w'
theorem UC{A:Option Addr}{n c:Nat}{l:List Val.V}{x:Int}{w w':World}(hb:Below w.heap.size w w'):XL A n c l l x w (.returned (.tuple #[.slice A n c,.int .i64 x])) w':=⟨A,n,c,rfl,.inr ⟨rfl,rfl,rfl,rfl⟩,hb⟩
theorem PL(N:Int)(A:Option Addr)(c n:Nat)(l:List Val.V)(v:Val.V)(w:World)(hs:bT bG vF w A n c l)(hv:vF v):
  Calls prog 136 #[.int .i64 N,.slice A n c,vv v] w (XL A n c l (fG.Cj N l v) (fG.yX N l v) w):=by
 have HM:=zH (fun W (hW:Below w.heap.size w W)=>rM N A c n l W (hs.later hW));have HC:=zH (fun W=>bK v W hv);have HS:=zH hs;have hlen:=hs.len;by_cases hr:fG.Right N l
 case neg=>
  rw[decide_eq_false hr] at HM;obtain⟨e1,e2⟩:=fG.afb hr v;rw[e1,e2];clear e1 e2 hr hs hv HC hlen;obtain⟨k,m,f,s⟩:=v;unfold vv dw at *
  simp only;have HK:=jw w 26 (vC k m f s);unfold vC at HK;go_enter func136,ntmps136;go_wp2_with fail;refine cb (HM.out _ HK.out.b) HK ?_;clear HK;intro _ HK;go_wp2_with fail;exact YA
 case pos=>
 rw[decide_eq_true hr] at HM;have h9:n<9:=by have h1:=hr.len;have h2:=hr.hi;omega
 by_cases hkind:v.k=0
 ·have hz:¬fG.jT v=0:=by rw[fG.xA hkind];decide
  obtain⟨e1,e2⟩:=fG.UH hr hz;rw[e1,e2,fG.xA hkind];clear e1 e2 hr hs hv HC hlen hz;obtain⟨k,m,f,s⟩:=v;obtain rfl:k=0:=hkind;unfold vv dw at *
  simp only;have HK:=jw w 26 (vC 0 m f s);unfold vC at HK;go_enter func136,ntmps136;go_wp2_with fail;refine cb (HM.out _ HK.out.b) HK ?_;clear HK;intro _ HK;go_wp2_with refine av (aT HK 3 _ (by rfl) 0 (by rfl) (by rfl) (v:=.int .i64 0) underlying3) ?_;exact YA
 have hvc:=fG.CK hkind
 have Cg:Hid (¬Val.aX v=0→fG.yX N l v=Val.aX v∧fG.Cj N l v=l):=zH fun h=>by
  rw[← hvc] at h ⊢;exact fG.UH hr h
 have Ea:Hid (Val.aX v=0→(n:Int)=N→fG.yX N l v=6∧fG.Cj N l v=l):=zH fun h h8=>fG.ZA hr (hvc.trans h) (by rw[hlen];exact h8)
 have jr:Hid (Val.aX v=0→¬(n:Int)=N→fG.yX N l v=0∧fG.Cj N l v=l++[v]):=zH fun h h8=>fG.aiy hr (hvc.trans h) (by rw[hlen];exact h8)
 have kF:=zH hlen.symm;have kU:Hid ((([]:List Val.V)++l).length=n):=zH (by rw[aK];exact hlen);have fP:Hid ((l++[v]).length=n+1):=zH (by rw[List.length_append,hlen];rfl);have oW:=dN (La:=bG) kU (hB:=(by show n*40≤_;omega));have HG2:=dN (La:=bG) fP (hB:=(by show(n+1)*40≤_;omega));clear hs hv hlen hvc hr;generalize fG.yX N l v=X at *
 generalize fG.Cj N l v=r at *
 generalize Val.aX v=z at *
 obtain⟨k,m,f,s⟩:=v;have afO:(k==0)=false:=by simpa using hkind
 unfold vv iQ dw at *
 simp only at HC ⊢;clear hkind;have HK:=jw w 26 (vC k m f s);unfold vC at HK;go_enter func136,ntmps136;go_wp2_with fail;refine cb (HM.out _ HK.out.b) HK ?_;clear HK;intro _ HK;go_wp2_with (first|refine av (aT HK 3 _ (by rfl) 0 (by rfl) (by rfl) (v:=.int .i64 k) underlying3) ?_|refine av (aZ HK 0) ?_);refine cb (HC.out _) HK ?_;clear HK;intro _ HK;by_cases hz:z=0
 case neg=>
  obtain⟨rfl,rfl⟩:=Cg.out hz;have hz2:(X != 0)=true:=by simpa using hz
  clear Cg Ea jr;go_wp2_with fail;exact YA
 case pos=>
 subst hz;replace Ea:=zH (Ea.out rfl);replace jr:=zH (jr.out rfl);clear Cg;by_cases h8:(n:Int)=N
 ·have h82:((n:Int)==N)=true:=by simpa using h8
  obtain⟨rfl,rfl⟩:=Ea.out h8;clear h8 Ea jr;go_wp2_with fail;exact YA
 ·have h82:((n:Int)==N)=false:=by simpa using h8
  obtain⟨rfl,rfl⟩:=jr.out h8;clear h8 Ea jr HM HC;go_wp2_with fail;have aj:=zH HK.out.drew;refine zR HK.out.drew fun ah=>?_
  refine ak 1 rfl ?_;refine ak 3 rfl ?_ fun _ s=>aZ s 0
  refine iW 0 4 rfl rfl (fun K hK=>?_) fun K hK=>?_
  refine jV bG aj ?_;clear aj;intro w2 g2 aj _;simp only[aS,aK] at aj;have hs:=zH (aj.out.ay 0);refine bk hK hs fun ah=>?_
  clear hK K;refine iW 2 4 rfl rfl (fun K hK=>?_) fun K hK=>?_
  (first|refine aM bG aj 0 l kF.out (zH (let h:=HS.out.later aj.out.b;And.intro h.rd h.nl)) oW (N:=n) kU ?_|refine aM bG aj 1 l kF.out (zH (let h:=HS.out.later aj.out.b;And.intro h.rd h.nl)) oW (N:=n) kU ?_);clear aj;intro A4 c4 w4 aj;simp only[List.set,aK] at aj;have hs:=zH (aj.out.ay 0)
  refine bk hK hs fun ah=>?_
  clear hK K;refine aC 4 rfl fun K hK=>?_
  refine bP bG (p:=⟨k,m,f,s⟩) aj ?_;clear aj;intro w5 g5 aj _;simp only[aS,aK] at aj;have hs:=zH (aj.out.ay 0);refine bk hK hs fun ah=>?_
  clear hK K;refine aC 5 rfl fun K hK=>?_
  (first|refine aM bG aj 0 [⟨k,m,f,s⟩] (by rfl) (zH (aj.out.own 1 rfl).rd) HG2 (N:=n+1) fP ?_|refine aM bG aj 1 [⟨k,m,f,s⟩] (by rfl) (zH (aj.out.own 0 rfl).rd) HG2 (N:=n+1) fP ?_);clear aj;intro A6 c6 w6 aj;simp only[lS] at aj;have hs:=zH (aj.out.ay 0)
  refine bk hK hs fun ah=>?_
  clear hK K;refine ak 6 rfl ?_;refine ak 7 rfl ?_;refine cB ?_
  rotate_left
  refine bP bG (p:=⟨k,m,f,s⟩) aj ?_;clear aj;intro w5 g5 aj _;simp only[aS,aK] at aj;have hs:=zH (aj.out.ay 0);refine bk hK hs fun ah=>?_
  clear hK K;refine aC 2 rfl fun K hK=>?_
  (first|refine aM bG aj 0 l kF.out (zH (let h:=HS.out.later aj.out.b;And.intro h.rd h.nl)) oW (N:=n) kU ?_|refine aM bG aj 1 l kF.out (zH (let h:=HS.out.later aj.out.b;And.intro h.rd h.nl)) oW (N:=n) kU ?_);clear aj;intro A4 c4 w4 aj;simp only[List.set,aK] at aj;have hs:=zH (aj.out.ay 0)
  refine bk hK hs fun ah=>?_
  clear hK K;refine aC 5 rfl fun K hK=>?_
  (first|refine aM bG aj 0 [⟨k,m,f,s⟩] (by rfl) (zH (aj.out.own 1 rfl).rd) HG2 (N:=n+1) fP ?_|refine aM bG aj 1 [⟨k,m,f,s⟩] (by rfl) (zH (aj.out.own 0 rfl).rd) HG2 (N:=n+1) fP ?_);clear aj;intro A6 c6 w6 aj;simp only[lS] at aj;have hs:=zH (aj.out.ay 0)
  refine bk hK hs fun ah=>?_
  clear hK K;refine ak 6 rfl ?_;refine ak 7 rfl ?_;refine cB ?_
  rotate_left
  refine bP bG (p:=⟨k,m,f,s⟩) aj ?_;clear aj;intro w5 g5 aj _;simp only[aS,aK] at aj;have hs:=zH (aj.out.ay 0);refine bk hK hs fun ah=>?_
  clear hK K;refine aC 0 rfl fun K hK=>?_
  refine jV bG aj ?_;clear aj;intro w2 g2 aj _;simp only[aS,aK] at aj;have hs:=zH (aj.out.ay 0);refine bk hK hs fun ah=>?_
  clear hK K;refine aC 2 rfl fun K hK=>?_
  (first|refine aM bG aj 0 l kF.out (zH (let h:=HS.out.later aj.out.b;And.intro h.rd h.nl)) oW (N:=n) kU ?_|refine aM bG aj 1 l kF.out (zH (let h:=HS.out.later aj.out.b;And.intro h.rd h.nl)) oW (N:=n) kU ?_);clear aj;intro A4 c4 w4 aj;simp only[List.set,aK] at aj;have hs:=zH (aj.out.ay 0)
  refine bk hK hs fun ah=>?_
  clear hK K;refine aC 5 rfl fun K hK=>?_
  (first|refine aM bG aj 0 [⟨k,m,f,s⟩] (by rfl) (zH (aj.out.own 1 rfl).rd) HG2 (N:=n+1) fP ?_|refine aM bG aj 1 [⟨k,m,f,s⟩] (by rfl) (zH (aj.out.own 0 rfl).rd) HG2 (N:=n+1) fP ?_);clear aj;intro A6 c6 w6 aj;simp only[lS] at aj;have hs:=zH (aj.out.ay 0)
  refine bk hK hs fun ah=>?_
  clear hK K;refine ak 6 rfl ?_;refine ak 7 rfl ?_;refine cB ?_
  rotate_left
  all_goals
   go_wp2_with fail
   first
    | exact rR results136 ⟨A6,_,c6,rfl,.inl (aj.out.own 0 rfl),aj.out.b⟩
    | exact rR results136 ⟨A6,_,c6,rfl,.inl (aj.out.own 1 rfl),aj.out.b⟩
theorem TQ(N:Int)(A:Option Addr)(c n:Nat)(l:List Val.V)(w:World)(hs:bT bG vF w A n c l):
  Calls prog 137 #[.int .i64 N,.slice A n c] w (Js A n c l (fG.KX N l) (fG.KW N l) (fG.Sd N l) w):=by
 have HM:=zH (fun W (hW:Below w.heap.size w W)=>rM N A c n l W (hs.later hW));have hlen:=hs.len;have HK:=zH (Kn.start w);by_cases hr:fG.Right N l
 case neg=>
  rw[decide_eq_false hr] at HM;obtain⟨e1,e2,e3⟩:=fG.afc hr;rw[e1,e2,e3];clear e1 e2 e3 hr hs hlen;unfold fG.emp Js dw vv at *
  simp only;go_enter func137,ntmps137;go_wp2_with (refine aL HK ?_;clear HK;intro _ g1 HK;simp only[aS,aK] at HK);refine cb (HM.out _ HK.out.b) HK ?_;clear HK;intro _ HK;go_wp2_with (refine aH (f2:=0) HK 0 ?_;clear HK;intro _ HK;simp only[lS] at HK);exact nE results137 (HK.out.blk 0 rfl) ⟨A,n,c,rfl,.inr ⟨rfl,rfl,rfl,rfl⟩,HK.out.b⟩
 case pos=>
 rw[decide_eq_true hr] at HM;have h9:n<9:=by have h1:=hr.len;have h2:=hr.hi;omega
 by_cases h0:n=0
 ·subst h0
  obtain⟨e1,e2,e3⟩:=fG.ZE hr hlen;have hl0:l=[]:=List.length_eq_zero_iff.1 hlen;rw[e1,e2,e3];subst hl0;clear e1 e2 e3 hr hs hlen h9;unfold fG.emp Js dw vv at *
  simp only;go_enter func137,ntmps137;go_wp2_with (refine aL HK ?_;clear HK;intro _ g1 HK;simp only[aS,aK] at HK);refine cb (HM.out _ HK.out.b) HK ?_;clear HK;intro _ HK;go_wp2_with (refine aH (f2:=0) HK 0 ?_;clear HK;intro _ HK;simp only[lS] at HK);exact nE results137 (HK.out.blk 0 rfl) ⟨A,0,c,rfl,.inr ⟨rfl,rfl,rfl,rfl⟩,HK.out.b⟩
 ·have hpos:0<n:=by omega
  obtain⟨x,hx,hf⟩:=hs.get hpos;obtain⟨b,o,rfl,hat⟩:=hs.at hpos;obtain⟨e1,e2,e3⟩:=fG.aiA hr hx;rw[e1,e2,e3];have HX:=zH (fun W hW=>hat W hW 0 x hx);have HD:=zH (hs.drop (lo:=1) hpos);have kF:=zH HD.out.len.symm;have kU:Hid ((([]:List Val.V)++l.drop 1).length=n-1):=zH (by rw[aK];exact HD.out.len);have oW:=dN (La:=bG) kU (hB:=(by show(n-1)*40≤_;omega));have hz:((n:Int)==0)=false:=by simp;omega
  clear e1 e2 e3 hr hs hlen h9 h0 hat hx hf;obtain⟨k,m,f,s⟩:=x;unfold Js dw vv at *
  simp only;go_enter func137,ntmps137;go_wp2_with (refine aL HK ?_;clear HK;intro _ g1 HK;simp only[aS,aK] at HK);refine cb (HM.out _ HK.out.b) HK ?_;clear HK;intro _ HK;go_wp2_with fail;have aj:=zH HK.out.drew;clear HM;refine wp_region_held_drew (S:=(fun W=>Hid (Below w.heap.size w W))) (by kernel_rfl) ?_ fun ah=>?_
  ·(try dsimp only);exact zH aj.out.b
  refine ak 1 rfl ?_;refine ak 2 rfl ?_ fun _ s=>WI (lo:=1) (by rfl) (by rfl) (by rfl) hpos
  refine ak 4 rfl ?_;refine ak 5 rfl ?_ fun _ s=>WQ (i:=0) (by rfl) (by rfl) (by rfl) hpos
  refine ak 6 rfl ?_ fun _ s=>BL (off:=o+0*4) (HX.out _ s.out)
  refine aC 0 rfl fun K hK=>?_
  refine jV bG aj ?_;clear aj;intro w2 g2 aj _;simp only[aS,aK] at aj;have hs:=zH aj.out.b;refine bk hK hs fun ah=>?_
  clear hK K;refine aC 3 rfl fun K hK=>?_
  refine aM bG aj 0 (l.drop 1) kF.out (zH (let h:=HD.out.later aj.out.b;And.intro h.rd h.nl)) oW (N:=n-1) kU ?_;clear aj;intro A4 c4 w4 aj;simp only[List.set,aK] at aj;have hs:=zH aj.out.b;refine bk hK hs fun ah=>?_
  clear hK K;refine ak 7 rfl ?_;refine aC 8 rfl fun K hK=>?_
  refine Eo (f2:=f) aj 0 ?_;clear aj;intro wq aj;simp only[lS] at aj;have hs:=zH aj.out.b;refine bk hK hs fun ah=>?_
  clear hK K;refine ak 9 rfl ?_;refine cB ?_
  all_goals
   go_wp2_with fail;exact nE results137 (aj.out.blk 0 rfl) ⟨A4,_,c4,rfl,.inl (aj.out.own 0 rfl),aj.out.b⟩
end
section
theorem KD(a b:Nat)(w:World)(ha:a<18446744073709551616)(hb:b<18446744073709551616):
  Calls prog 154 #[.int .u64 a,.int .u64 b] w fun e w'=>e=.returned (.int .u64 (least a b:Nat))∧w=w':=by
 have H:=zH (fun w=>Az a b w ha hb);have H1:=zH (fun w=>gT a w ha);have H2:=zH (fun w=>gT b w hb);by_cases h:Num.rank b<Num.rank a
 ·have hl:Hid (least a b=Num.M b):=zH (if_pos h)
  rw[Mw h] at H;clear h;generalize least a b=l at *
  go_enter func154,ntmps154;go_wp2_with fail;refine(H.out _).mono ?_;rintro e w' ⟨rfl,rfl⟩;go_wp2_with fail;refine(H2.out _).mono ?_;exact YC
 ·have hl:Hid (least a b=Num.M a):=zH (if_neg h)
  have hc:Num.cmp a b≤0:=(Num.Mv (a:=a) (b:=b)).2 (by omega);generalize Num.cmp a b=c at *
  clear h;generalize least a b=l at *
  go_enter func154,ntmps154;go_wp2_with fail;refine(H.out _).mono ?_;rintro e w' ⟨rfl,rfl⟩;go_wp2_with fail;refine(H1.out _).mono ?_;exact YC
theorem PX(a b:Nat)(w:World)(ha:a<18446744073709551616)(hb:b<18446744073709551616):
  Calls prog 155 #[.int .u64 a,.int .u64 b] w fun e w'=>e=.returned (.int .u64 (most a b:Nat))∧w=w':=by
 have H:=zH (fun w=>Az a b w ha hb);have H1:=zH (fun w=>gT a w ha);have H2:=zH (fun w=>gT b w hb);by_cases h:Num.rank a<Num.rank b
 ·have hl:Hid (most a b=Num.M b):=zH (if_pos h)
  rw[Ms h] at H;clear h;generalize most a b=l at *
  go_enter func155,ntmps155;go_wp2_with fail;refine(H.out _).mono ?_;rintro e w' ⟨rfl,rfl⟩;go_wp2_with fail;refine(H2.out _).mono ?_;exact YC
 ·have hl:Hid (most a b=Num.M a):=zH (if_neg h)
  have hc:0≤Num.cmp a b:=by have h2:=Num.Xj a b;have h3:=(Num.Mv (a:=b) (b:=a)).2 (by omega);omega
  generalize Num.cmp a b=c at *
  clear h;generalize most a b=l at *
  go_enter func155,ntmps155;go_wp2_with fail;refine(H.out _).mono ?_;rintro e w' ⟨rfl,rfl⟩;go_wp2_with fail;refine(H1.out _).mono ?_;exact YC
theorem UA(a b:Nat)(w:World):
  Calls prog 153 #[.int .u64 a,.int .u64 b] w fun e w'=>e=.returned (.int .u64 (Num.S a b:Nat))∧∃n,w'=w.drewN n:=by
 have HM:=zH (fun(c:Nat) (hc:c<18446744073709551616) w=>gT c w hc);obtain⟨r,n,hr,hs,hrun⟩:=Zj a b w;have he:=hs.eq;have hE:=zH he;clear hs he;have hf:=Wq;have hb2:=aev;go_enter func153,ntmps153;go_wp2_with fail;refine(HM.out r hr _).mono ?_;rintro e w' ⟨rfl,rfl⟩;go_wp2_with fail;go_ret;exact⟨by rw[hE.out];rfl,n,rfl⟩
end
section
open Go.ChangeShapes Go.WideShapes Go.Deep Go.RowKit
theorem afC(s l m:Nat)(w:World):(Instr.index 216 (.agg #[.int .u64 (s:Int),.int .u64 (l:Int),.int .u64 (m:Int)]) (.int .i64 0)).run prog w=.ok (.int .u64 (s:Int)) w:=by kernel_rfl
theorem afB(s l m:Nat)(w:World):(Instr.index 216 (.agg #[.int .u64 (s:Int),.int .u64 (l:Int),.int .u64 (m:Int)]) (.int .i64 1)).run prog w=.ok (.int .u64 (l:Int)) w:=by kernel_rfl
theorem afA(s l m:Nat)(w:World):(Instr.index 216 (.agg #[.int .u64 (s:Int),.int .u64 (l:Int),.int .u64 (m:Int)]) (.int .i64 2)).run prog w=.ok (.int .u64 (m:Int)) w:=by kernel_rfl
theorem KT(a b:Nat)(w:World):
  Calls prog 153 #[.int .u64 a,.int .u64 b] w fun e w'=>e=.returned (.int .u64 (Num.S a b:Nat))∧Below w.heap.size w w':=
 (UA a b w).mono fun e w' ⟨h1,n,h2⟩=>⟨h1,by subst h2;exact⟨rfl,rfl,rfl,Nat.le_refl _,fun _ _=>rfl⟩⟩
end
section
theorem KU(x:kC)(hf:Mt.Fit x)(b:Nat)(hb:b<18446744073709551616)(w:World):
  Calls prog 138 #[.agg #[.int .i64 x.n,.int .u64 (x.s:Int),.int .u64 (x.l:Int),.int .u64 (x.m:Int)],.int .u64 (b:Int)] w (agt (Mt.ad x b) (Mt.Sn x) w):=by
 obtain⟨n,s,l,m⟩:=x;have HM:=zH (fun W=>sD ⟨n,s,l,m⟩ hf W);have hfn:n≤9223372036854775807:=hf.1;have Sr:=zH (fun W=>gT b W hb);have HK:=uj w 73 (mC n s l m) 73 (mC 0 0 0 0);unfold dw agt at *
 by_cases hok:Mt.Ok ⟨n,s,l,m⟩
 case neg=>
  rw[Mt.agl hok,Mt.abQ hok];rw[decide_eq_false hok] at HM;clear hok hf hfn Sr;exact ahD
 case pos=>
 rw[decide_eq_true hok] at HM;by_cases hmx:n=9223372036854775807
 ·rw[Mt.OQ hok hmx,Mt.XD hok hmx]
  clear hok hf hfn Sr;subst hmx;exact ahD
 have hne:(n==9223372036854775807)=false:=by rw[beq_eq_false_iff_ne];exact hmx
 rw[Mt.abP hok hmx];by_cases h0:n=0
 ·rw[Mt.FI hok h0]
  clear hok hf hfn hmx;subst h0;generalize Num.M b=t at *
  go_enter func138,ntmps138;go_wp2_with refine zX (cO HK 0) ?_;refine cb (HM.out _) HK ?_;clear HK;intro _ HK;go_wp2_with (first|refine zX (cO HK 0) ?_|(refine nZ HK 1 ?_;clear HK;intro _ HK;simp only[lS] at HK)|refine zX (dO HK 0) ?_);refine(Sr.out _).mono ?_;rintro e w1 ⟨rfl,rfl⟩;go_wp2_with (first|refine zX (dO HK 0) ?_|(refine nZ HK 1 ?_;clear HK;intro _ HK;simp only[lS] at HK));exact ahv
 ·have hz:(n==0)=false:=by rw[beq_eq_false_iff_ne];exact h0
  rw[Mt.zT hok hmx h0]
  have HW:Hid (IntKind.i64.wrap (n+1)=n+1):=zH (by
   have hp:0≤n:=Mt.afp hok
   rw[IntKind.wrap_i64];omega)
  have hs:=hf.2.1;have hl:=hf.2.2.1;have hm:=hf.2.2.2;have hb2:=Num.qx hb;have HA:=zH (fun W=>KT s (Num.M b) W);have HL:=zH (fun W=>KD l (Num.M b) W hl hb2);have HG:=zH (fun W=>PX m (Num.M b) W hm hb2);clear hok hf hfn hmx h0 hs hl hm hb2;generalize Num.M b=t at *
  generalize Num.S s t=s2 at *
  generalize least l t=l2 at *
  generalize most m t=m2 at *
  go_enter func138,ntmps138;go_wp2_with refine zX (cO HK 0) ?_;refine cb (HM.out _) HK ?_;clear HK;intro _ HK;go_wp2_with (first|refine zX (cO HK 0) ?_|(refine nZ HK 1 ?_;clear HK;intro _ HK;simp only[lS] at HK)|refine zX (dO HK 0) ?_);refine(Sr.out _).mono ?_;rintro e w1 ⟨rfl,rfl⟩;go_wp2_with refine zX (dO HK 0) ?_;have aj:=zH HK.out.drew;clear HK;refine zR (aj.out.aB 1) fun ah=>?_
  refine ak 0 rfl ?_;refine ak 1 rfl ?_ fun _ s=>dO s 0
  refine ak 2 rfl ?_ fun _ s=>IL _ (by rfl) (by rfl) HW.out
  refine ak 3 rfl ?_;refine ak 4 rfl ?_ fun _ s=>fu s 0
  refine ak 5 rfl ?_;refine ak 7 rfl ?_;refine ak 8 rfl ?_ fun _ s=>fH s 0
  refine ak 9 rfl ?_;refine ak 11 rfl ?_;refine ak 12 rfl ?_ fun _ s=>gK s 0
  refine ak 13 rfl ?_;refine aC 6 rfl fun K hK=>?_
  go_simp;go_at_call 153;refine(HA.out _).mono ?_;rintro e w5 ⟨rfl,b5⟩;have hs:=zH (ah.out.call b5);replace aj:=zH (aj.out.call b5);clear b5;refine bk hK hs fun ah=>?_
  clear hK K;refine aC 10 rfl fun K hK=>?_
  go_simp;go_at_call 154;refine(HL.out _).mono ?_;rintro e w5 ⟨rfl,rfl⟩;have hs:=ah;refine bk hK hs fun ah=>?_
  clear hK K;refine aC 14 rfl fun K hK=>?_
  go_simp;go_at_call 155;refine(HG.out _).mono ?_;rintro e w5 ⟨rfl,rfl⟩;have hs:=ah;refine bk hK hs fun ah=>?_
  clear hK K;refine ak 15 rfl ?_;refine aC 16 rfl fun K hK=>?_
  refine YZ aj 1 (by rfl) (by rfl) (by rfl) (by rfl) (by rfl) ?_;clear aj;intro w6 aj;simp only[lS] at aj;have hs:=zH (aj.out.aB 1);refine bk hK hs fun ah=>?_
  clear hK K;refine ak 17 rfl ?_;refine cB ?_
  all_goals
   have HK:=aj;clear aj ah;go_wp2_with fail;exact ahv
end
section
theorem xEm(x:kC)(hf:Mt.Fit x)(q:Int)(w:World):
  Calls prog 139 #[.agg #[.int .i64 x.n,.int .u64 (x.s:Int),.int .u64 (x.l:Int),.int .u64 (x.m:Int)],.int .i64 q] w (agr (Mt.rd x q) w):=by
 obtain⟨n,s,l,m⟩:=x;have HM:=zH (fun W=>sD ⟨n,s,l,m⟩ hf W);have HK:=uj w 73 (mC n s l m) 26 (vC 0 0 0 ⟨#[]⟩);clear hf;unfold dw agr at *
 by_cases hok:Mt.Ok ⟨n,s,l,m⟩
 case neg=>
  rw[Mt.KO (.inl hok)];rw[decide_eq_false hok] at HM;clear hok;exact YJ
 case pos=>
 rw[decide_eq_true hok] at HM;by_cases hlo:q<0
 ·rw[Mt.KO (.inr (.inl hlo))]
  clear hok;exact YJ
 by_cases hhi:3<q
 ·rw[Mt.KO (.inr (.inr hhi))]
  have hhi2:4≤q:=by omega
  clear hok;exact YJ
 by_cases hq0:q=0
 ·subst hq0
  rw[Mt.akW hok];clear hok hlo hhi;dsimp only;by_cases h0:(n==0)=true
  ·go_enter func139,ntmps139
   go_wp2_with refine zX (cO HK 0) ?_;refine cb (HM.out _) HK ?_;clear HK;intro _ HK;go_wp2_with (first|refine zX (dO HK 0) ?_|refine zX (cO HK 0) ?_|(refine aH (f2:=0) HK 1 ?_;clear HK;intro _ HK;simp only[lS] at HK)|refine zX (fu HK 0) ?_|refine zX (fH HK 0) ?_|refine zX (gK HK 0) ?_);exact SC
  ·have h0:(n==0)=false:=Bool.eq_false_iff.2 h0
   go_enter func139,ntmps139;go_wp2_with refine zX (cO HK 0) ?_;refine cb (HM.out _) HK ?_;clear HK;intro _ HK;go_wp2_with (first|refine zX (dO HK 0) ?_|refine zX (cO HK 0) ?_|(refine aH (f2:=0) HK 1 ?_;clear HK;intro _ HK;simp only[lS] at HK)|refine zX (fu HK 0) ?_|refine zX (fH HK 0) ?_|refine zX (gK HK 0) ?_);exact SC
 have hq1:(q==0)=false:=by rw[beq_eq_false_iff_ne];exact hq0
 have hq2:¬4≤q:=by omega
 by_cases hn:n=0
 ·rw[Mt.aip hok (by omega) (by omega) hq0 hn]
  subst hn;clear hok hq0;exact YJ
 have h0:(n==0)=false:=by rw[beq_eq_false_iff_ne];exact hn
 have hcase:q=1∨q=2∨q=3:=by omega
 clear hlo hhi hq0 hq1 hq2
 rcases hcase with rfl|rfl|rfl
 ·rw[Mt.akV hok hn]
  have hix:=afC s l m;clear hok hn;dsimp only;go_enter func139,ntmps139;go_wp2_with refine zX (cO HK 0) ?_;refine cb (HM.out _) HK ?_;clear HK;intro _ HK;go_wp2_with (first|refine zX (dO HK 0) ?_|refine zX (cO HK 0) ?_|(refine aH (f2:=s) HK 1 ?_;clear HK;intro _ HK;simp only[lS] at HK)|refine zX (fu HK 0) ?_|refine zX (fH HK 0) ?_|refine zX (gK HK 0) ?_);exact SC
 ·rw[Mt.akU hok hn]
  have hix:=afB s l m;clear hok hn;dsimp only;go_enter func139,ntmps139;go_wp2_with refine zX (cO HK 0) ?_;refine cb (HM.out _) HK ?_;clear HK;intro _ HK;go_wp2_with (first|refine zX (dO HK 0) ?_|refine zX (cO HK 0) ?_|(refine aH (f2:=l) HK 1 ?_;clear HK;intro _ HK;simp only[lS] at HK)|refine zX (fu HK 0) ?_|refine zX (fH HK 0) ?_|refine zX (gK HK 0) ?_);exact SC
 ·rw[Mt.akT hok hn]
  have hix:=afA s l m;clear hok hn;dsimp only;go_enter func139,ntmps139;go_wp2_with refine zX (cO HK 0) ?_;refine cb (HM.out _) HK ?_;clear HK;intro _ HK;go_wp2_with (first|refine zX (dO HK 0) ?_|refine zX (cO HK 0) ?_|(refine aH (f2:=m) HK 1 ?_;clear HK;intro _ HK;simp only[lS] at HK)|refine zX (fu HK 0) ?_|refine zX (fH HK 0) ?_|refine zX (gK HK 0) ?_);exact SC
end
section
def nT(G:World→Prop)(oc:au.Oc)(w:World)(e:Ending)(w':World):Prop:=∃(y:Oh) (Rn:List bV),e=.returned (.tuple #[.agg (cu y),.agg (dG oc.p)])∧Hid (y.v=oc.o)∧Kn w.heap.size w w' [] Rn∧Hid (∀(b:Nat) (W0 W:World) L R,Kn b W0 W L R→(∀z∈Rn,z∈R)→G W→In W y)
theorem rU{fn:Func}{R:Ending→World→Prop}{a:Act}{w:World}{B D:Nat}{x:Oh}{p:au.Rp}{q q2:Tmp}(hf:fn.results=#[.cell q 75,.cell q2 28])(hb:eT w B 75 (cu x))(hc:eT w D 28 (dG p))
  (hR:R (.returned (.tuple #[.agg (cu x),.agg (dG p)])) w) (h2:a.tmps[q]?=some (.pointer (some ⟨B,0,none⟩)):=by rfl)(h3:a.tmps[q2]?=some (.pointer (some ⟨D,0,none⟩)):=by rfl)(hd:a.defers=[]:=by rfl):bodyPost prog fn R Exit.ret a w:=by
 refine bodyPost_ret (v:=.tuple #[.agg (cu x),.agg (dG p)]) ?_ hd hR;have h:(loadVar 75 ⟨B,0,none⟩).run prog w=.ok (.agg (cu x)) w:=run_loadVar_row (P:=prog) w B _ _ _ (0,0) _ hb underlying75 rfl zK;have h':(loadVar 28 ⟨D,0,none⟩).run prog w=.ok (.agg (dG p)) w:=run_loadVar_row (P:=prog) w D _ _ _ (0,0) _ hc underlying28 rfl kg;simp[results,hf,asAddr,Sem.run_bind,h2,h3,h,h']
theorem iJ{w:World}{o:Oper}{a:Act}{z:Int}{v:Val.V}{p:Operand}{q:Operand}(ho:o.op=.build 28 #[(0,p),(1,q)]:=by rfl)(hp:a.eval p=.int .i64 z:=by rfl)(hq:a.eval q=.agg #[.int .i64 v.k,.int .i64 v.n,.int .u64 (v.f:Int),.string v.s]:=by rfl):
  (execOp a.eval o).run prog w=.ok (.value (.agg (dG ⟨z,v⟩))) w:=by
 have h:(Instr.build 28 #[(0,.int .i64 z),(1,.agg #[.int .i64 v.k,.int .i64 v.n,.int .u64 (v.f:Int),.string v.s])]).run prog w=.ok (.agg (dG ⟨z,v⟩)) w:=by
  unfold dG;go_simp
 unfold execOp;simp only[ho,Sem.run_bind,Sem.run_pure,Result.andThen_ok,List.map_toArray,List.map_cons,List.map_nil,hp,hq,h]
theorem TU(G:World→Prop)(x:Oh)(r:Rf)(c:aI.C)(w:World)(hG:∀W,G W→In W x)(hx:In w x)(hv:c.val.f<18446744073709551616)(hk:c.k=6):Calls prog 98 #[.agg (cu x),.agg (dL c)] w (nT G (au.act x.v r c) w):=by
 have he:au.act x.v r c=⟨x.v,⟨aQ.uZ x.v.dV c.key,aQ.sJ x.v.dV c.key⟩,false,[]⟩:=by
  exact vg
 rw[he];clear he;have HI:=zH hG;have HT:=zH (fun W (hW:Below w.heap.size w W)=>Av x.pA x.pc x.pn x.v.dV c.key W (hx.p.later hW));have HK:=Vz w 75 (cu x) 46 (dL c) 75 (cu Co) 28 (dG au.rz);clear hx hv hG;unfold nT;unfold Cw vv at HT;simp only;generalize aQ.sJ x.v.dV c.key=v at *
 generalize aQ.uZ x.v.dV c.key=z at *
 go_enter func98,ntmps98;go_wp2_with (first|(refine aL HK ?_;clear HK;intro _ g7 HK;simp only[aS,aK] at HK)|refine zX (bZ HK 1) ?_|refine zX (vX HK 0) ?_|refine zX (NW HK 1) ?_);refine cb (HT.out _ HK.out.b) HK ?_;clear HK;intro _ HK;go_wp2_with (refine aH (f2:=v.f) HK 4 ?_;clear HK;intro _ HK;simp only[lS] at HK);have aj:=zH HK.out.drew;refine wp_region_held_drew (S:=(fun W=>Hid (Kn w.heap.size w W [(w.heap.size,75,cu (x)),(w.heap.size+1,46,dL c)] [])∧Hid (Kn w.heap.size w W [(g7,26,vC v.k v.n v.f v.s)] []))) (by kernel_rfl) ?_ fun ah=>?_
 ·(try dsimp only);exact And.intro (zH ((aj.out.aB 2).ay 0)) (zH ((aj.out.aO 4).ay 0))
 refine ak 0 rfl ?_ fun _ s=>lV s.1 0
 refine ak 1 rfl ?_;refine ak 2 rfl ?_ fun _ s=>aZ s.2 0
 refine ak 3 rfl ?_ fun _ s=>iJ (z:=z) (v:=v)
 refine aC 4 rfl fun K hK=>?_
 refine bI (y:=x) aj 2 ?_;clear aj;intro wq aj;simp only[lS] at aj;have hs:=And.intro (zH ((aj.out.aB 2).ay 0)) (zH ((aj.out.aO 4).ay 0));refine bk hK hs fun ah=>?_
 clear hK K;refine aC 5 rfl fun K hK=>?_
 refine bO (q:=⟨z,v⟩) aj 3 ?_;exact aem
theorem TT(G:World→Prop)(x:Oh)(r:Rf)(c:aI.C)(w:World)(hG:∀W,G W→In W x)(hx:In w x)(hv:c.val.f<18446744073709551616)(hk:c.k=7):Calls prog 98 #[.agg (cu x),.agg (dL c)] w (nT G (au.act x.v r c) w):=by
 have he:au.act x.v r c=⟨{ x.v with dV:=aQ.yI x.v.dV c.key c.val },au.err (aQ.vR x.v.dV c.key c.val),false,[]⟩:=by
  exact vg
 rw[he];clear he;have HI:=zH hG;have HT:=zH (fun W (hW:Below w.heap.size w W)=>Gp x.pA x.pc x.pn x.v.dV c.key c.val W (hx.p.later hW) hv);have HF:=zH (hx.p.fit.pt (k:=c.key) hv);have HK:=Vz w 75 (cu x) 46 (dL c) 75 (cu Co) 28 (dG au.rz);clear hx hv hG;unfold nT;unfold Jt vv at HT;simp only;generalize aQ.yI x.v.dV c.key c.val=m at *
 generalize aQ.vR x.v.dV c.key c.val=z at *
 go_enter func98,ntmps98;go_wp2_with (first|(refine aL HK ?_;clear HK;intro _ g7 HK;simp only[aS,aK] at HK)|refine zX (bZ HK 1) ?_|refine zX (vX HK 0) ?_|refine zX (NW HK 1) ?_|refine zX (VE HK 1) ?_);refine(HT.out _ HK.out.b).mono ?_;rintro e w1 ⟨A4,n4,c4,rfl,o4,b4⟩
 rcases o4 with o4|⟨rfl,rfl,rfl,hm⟩
 ·replace HK:=zH (HK.out.called b4 o4)
  simp only[aK] at HK;clear o4 b4;go_wp2_with (refine kL HK 0 m ?_;clear HK;intro _ HK;simp only[lS] at HK);have aj:=zH HK.out.drew;refine wp_region_held_drew (S:=(fun W=>Hid (Kn w.heap.size w W [(w.heap.size,75,cu (x.sp A4 n4 c4 m)),(w.heap.size+1,46,dL c)] [])∧Hid (Kn w.heap.size w W [(g7,26,vC 0 0 0 ⟨#[]⟩)] []))) (by kernel_rfl) ?_ fun ah=>?_
  ·(try dsimp only);exact And.intro (zH ((aj.out.aB 2).ay 0)) (zH ((aj.out.aO 4).ay 0))
  refine ak 0 rfl ?_ fun _ s=>lV s.1 0
  refine ak 1 rfl ?_;refine ak 2 rfl ?_ fun _ s=>aZ s.2 0
  refine ak 3 rfl ?_ fun _ s=>iJ (z:=z) (v:=au.vn)
  refine aC 4 rfl fun K hK=>?_
  refine bI (y:=x.sp A4 n4 c4 m) aj 2 ?_;clear aj;intro wq aj;simp only[lS] at aj;have hs:=And.intro (zH ((aj.out.aB 2).ay 0)) (zH ((aj.out.aO 4).ay 0));refine bk hK hs fun ah=>?_
  clear hK K;refine aC 5 rfl fun K hK=>?_
  refine bO (q:=au.err z) aj 3 ?_;clear aj;intro wq aj;simp only[lS] at aj;have hs:=And.intro (zH ((aj.out.aB 2).ay 0)) (zH ((aj.out.aO 4).ay 0));refine bk hK hs fun ah=>?_
  clear hK K;refine cB ?_;go_wp2_with fail;exact rU results98 (aj.out.blk 2 rfl) (aj.out.blk 3 rfl) ⟨x.sp A4 n4 c4 m,_,rfl,rfl,aj.out.aB 0,fun _ _ _ _ _ K hm hb=>(HI.out _ hb).sp (Sl.own (K.mem (hm _ (List.mem_cons_self ..))) HF.out)⟩
 ·subst hm
  replace HK:=iH HK b4;clear b4;go_wp2_with (refine kL HK 0 x.v.dV ?_;clear HK;intro _ HK;simp only[lS] at HK);have aj:=zH HK.out.drew;refine wp_region_held_drew (S:=(fun W=>Hid (Kn w.heap.size w W [(w.heap.size,75,cu (x.sp x.pA x.pn x.pc x.v.dV)),(w.heap.size+1,46,dL c)] [])∧Hid (Kn w.heap.size w W [(g7,26,vC 0 0 0 ⟨#[]⟩)] []))) (by kernel_rfl) ?_ fun ah=>?_
  ·(try dsimp only);exact And.intro (zH ((aj.out.aB 2).ay 0)) (zH ((aj.out.aO 4).ay 0))
  refine ak 0 rfl ?_ fun _ s=>lV s.1 0
  refine ak 1 rfl ?_;refine ak 2 rfl ?_ fun _ s=>aZ s.2 0
  refine ak 3 rfl ?_ fun _ s=>iJ (z:=z) (v:=au.vn)
  refine aC 4 rfl fun K hK=>?_
  refine bI (y:=x.sp x.pA x.pn x.pc x.v.dV) aj 2 ?_;clear aj;intro wq aj;simp only[lS] at aj;have hs:=And.intro (zH ((aj.out.aB 2).ay 0)) (zH ((aj.out.aO 4).ay 0));refine bk hK hs fun ah=>?_
  clear hK K;refine aC 5 rfl fun K hK=>?_
  refine bO (q:=au.err z) aj 3 ?_;clear aj;intro wq aj;simp only[lS] at aj;have hs:=And.intro (zH ((aj.out.aB 2).ay 0)) (zH ((aj.out.aO 4).ay 0));refine bk hK hs fun ah=>?_
  clear hK K;refine cB ?_;go_wp2_with fail;exact rU results98 (aj.out.blk 2 rfl) (aj.out.blk 3 rfl) ⟨x.sp x.pA x.pn x.pc x.v.dV,_,rfl,rfl,aj.out.aB 0,fun _ _ _ _ _ K hm hb=>(HI.out _ hb).sp (HI.out _ hb).p⟩
theorem TS(G:World→Prop)(x:Oh)(r:Rf)(c:aI.C)(w:World)(hG:∀W,G W→In W x)(hx:In w x)(hv:c.val.f<18446744073709551616)(hk:c.k=8):Calls prog 98 #[.agg (cu x),.agg (dL c)] w (nT G (au.act x.v r c) w):=by
 have he:au.act x.v r c=⟨{ x.v with dV:=aQ.Xg x.v.dV c.key },⟨aQ.uZ x.v.dV c.key,aQ.sJ x.v.dV c.key⟩,false,[]⟩:=by
  exact vg
 rw[he];clear he;have HI:=zH hG;have HT:=zH (fun W (hW:Below w.heap.size w W)=>Uz x.pA x.pc x.pn x.v.dV c.key W (hx.p.later hW));have HF:=zH (hx.p.fit.ct c.key);have HK:=Vz w 75 (cu x) 46 (dL c) 75 (cu Co) 28 (dG au.rz);clear hx hv hG;unfold nT;unfold yw vv at HT;simp only;generalize aQ.Xg x.v.dV c.key=m at *
 generalize aQ.sJ x.v.dV c.key=v at *
 generalize aQ.uZ x.v.dV c.key=z at *
 go_enter func98,ntmps98;go_wp2_with (first|(refine aL HK ?_;clear HK;intro _ g7 HK;simp only[aS,aK] at HK)|refine zX (bZ HK 1) ?_|refine zX (vX HK 0) ?_|refine zX (NW HK 1) ?_);refine(HT.out _ HK.out.b).mono ?_;rintro e w1 ⟨A4,n4,c4,rfl,o4,b4⟩
 rcases o4 with o4|⟨rfl,rfl,rfl,hm⟩
 ·replace HK:=zH (HK.out.called b4 o4)
  simp only[aK] at HK;clear o4 b4;go_wp2_with (first|(refine kL HK 0 m ?_;clear HK;intro _ HK;simp only[lS] at HK)|(refine aH (f2:=v.f) HK 4 ?_;clear HK;intro _ HK;simp only[lS] at HK));have aj:=zH HK.out.drew;refine wp_region_held_drew (S:=(fun W=>Hid (Kn w.heap.size w W [(w.heap.size,75,cu (x.sp A4 n4 c4 m)),(w.heap.size+1,46,dL c)] [])∧Hid (Kn w.heap.size w W [(g7,26,vC v.k v.n v.f v.s)] []))) (by kernel_rfl) ?_ fun ah=>?_
  ·(try dsimp only);exact And.intro (zH ((aj.out.aB 2).ay 0)) (zH ((aj.out.aO 4).ay 0))
  exact ahO
 ·subst hm
  replace HK:=iH HK b4;clear b4;go_wp2_with (first|(refine kL HK 0 x.v.dV ?_;clear HK;intro _ HK;simp only[lS] at HK)|(refine aH (f2:=v.f) HK 4 ?_;clear HK;intro _ HK;simp only[lS] at HK));have aj:=zH HK.out.drew;refine wp_region_held_drew (S:=(fun W=>Hid (Kn w.heap.size w W [(w.heap.size,75,cu (x.sp x.pA x.pn x.pc x.v.dV)),(w.heap.size+1,46,dL c)] [])∧Hid (Kn w.heap.size w W [(g7,26,vC v.k v.n v.f v.s)] []))) (by kernel_rfl) ?_ fun ah=>?_
  ·(try dsimp only);exact And.intro (zH ((aj.out.aB 2).ay 0)) (zH ((aj.out.aO 4).ay 0))
  exact ahN
theorem TR(G:World→Prop)(x:Oh)(r:Rf)(c:aI.C)(w:World)(hG:∀W,G W→In W x)(hx:In w x)(hv:c.val.f<18446744073709551616)(hk:c.k=9):Calls prog 98 #[.agg (cu x),.agg (dL c)] w (nT G (au.act x.v r c) w):=by
 have he:au.act x.v r c=⟨{ x.v with dV:=aQ.Gg x.v.dV c.key c.old c.val },⟨aQ.CS x.v.dV c.key c.old c.val,aQ.Kl x.v.dV c.key c.old⟩,false,[]⟩:=by
  exact vg
 rw[he];clear he;have HI:=zH hG;have HT:=zH (fun W (hW:Below w.heap.size w W)=>PI x.pA x.pc x.pn x.v.dV c.key c.old c.val W (hx.p.later hW) hv);have HF:=zH (hx.p.fit.sw (k:=c.key) (o:=c.old) hv);have HK:=Vz w 75 (cu x) 46 (dL c) 75 (cu Co) 28 (dG au.rz);clear hx hv hG;unfold nT;unfold yw vv at HT;simp only;generalize aQ.Gg x.v.dV c.key c.old c.val=m at *
 generalize aQ.Kl x.v.dV c.key c.old=v at *
 generalize aQ.CS x.v.dV c.key c.old c.val=z at *
 go_enter func98,ntmps98;go_wp2_with (first|(refine aL HK ?_;clear HK;intro _ g7 HK;simp only[aS,aK] at HK)|refine zX (bZ HK 1) ?_|refine zX (vX HK 0) ?_|refine zX (NW HK 1) ?_|refine zX (VE HK 1) ?_|refine zX (aiS HK 1 (by rfl) (by rfl) (by rfl)) ?_);refine(HT.out _ HK.out.b).mono ?_;rintro e w1 ⟨A4,n4,c4,rfl,o4,b4⟩
 rcases o4 with o4|⟨rfl,rfl,rfl,hm⟩
 ·replace HK:=zH (HK.out.called b4 o4)
  simp only[aK] at HK;clear o4 b4;go_wp2_with (first|(refine kL HK 0 m ?_;clear HK;intro _ HK;simp only[lS] at HK)|(refine aH (f2:=v.f) HK 4 ?_;clear HK;intro _ HK;simp only[lS] at HK));have aj:=zH HK.out.drew;refine wp_region_held_drew (S:=(fun W=>Hid (Kn w.heap.size w W [(w.heap.size,75,cu (x.sp A4 n4 c4 m)),(w.heap.size+1,46,dL c)] [])∧Hid (Kn w.heap.size w W [(g7,26,vC v.k v.n v.f v.s)] []))) (by kernel_rfl) ?_ fun ah=>?_
  ·(try dsimp only);exact And.intro (zH ((aj.out.aB 2).ay 0)) (zH ((aj.out.aO 4).ay 0))
  exact ahO
 ·subst hm
  replace HK:=iH HK b4;clear b4;go_wp2_with (first|(refine kL HK 0 x.v.dV ?_;clear HK;intro _ HK;simp only[lS] at HK)|(refine aH (f2:=v.f) HK 4 ?_;clear HK;intro _ HK;simp only[lS] at HK));have aj:=zH HK.out.drew;refine wp_region_held_drew (S:=(fun W=>Hid (Kn w.heap.size w W [(w.heap.size,75,cu (x.sp x.pA x.pn x.pc x.v.dV)),(w.heap.size+1,46,dL c)] [])∧Hid (Kn w.heap.size w W [(g7,26,vC v.k v.n v.f v.s)] []))) (by kernel_rfl) ?_ fun ah=>?_
  ·(try dsimp only);exact And.intro (zH ((aj.out.aB 2).ay 0)) (zH ((aj.out.aO 4).ay 0))
  exact ahN
theorem PV(G:World→Prop)(x:Oh)(r:Rf)(c:aI.C)(w:World)(hG:∀W,G W→In W x)(hx:In w x)(hv:c.val.f<18446744073709551616)(hk:c.k=10):Calls prog 98 #[.agg (cu x),.agg (dL c)] w (nT G (au.act x.v r c) w):=by
 have he:au.act x.v r c=⟨{ x.v with vals:=fG.Cj x.v.cap x.v.vals c.val },au.err (fG.yX x.v.cap x.v.vals c.val),false,[]⟩:=by
  exact vg
 rw[he];clear he;have HI:=zH hG;have HT:=zH (fun W (hW:Below w.heap.size w W)=>PL x.v.cap x.vA x.vc x.vn x.v.vals c.val W (hx.v.later hW) hv);have HF:=zH (aaT (N:=x.v.cap) hx.v.fit hv);have HK:=Vz w 75 (cu x) 46 (dL c) 75 (cu Co) 28 (dG au.rz);clear hx hv hG;unfold nT;unfold XL vv at HT;simp only;generalize fG.Cj x.v.cap x.v.vals c.val=m at *
 generalize fG.yX x.v.cap x.v.vals c.val=z at *
 go_enter func98,ntmps98;go_wp2_with (first|(refine aL HK ?_;clear HK;intro _ g7 HK;simp only[aS,aK] at HK)|refine zX (bZ HK 1) ?_|refine zX (ow HK 0) ?_|refine zX (Bn HK 0) ?_|refine zX (VE HK 1) ?_);refine(HT.out _ HK.out.b).mono ?_;rintro e w1 ⟨A4,n4,c4,rfl,o4,b4⟩
 rcases o4 with o4|⟨rfl,rfl,rfl,hm⟩
 ·replace HK:=zH (HK.out.called b4 o4)
  simp only[aK] at HK;clear o4 b4;go_wp2_with (refine pO HK 0 m ?_;clear HK;intro _ HK;simp only[lS] at HK);have aj:=zH HK.out.drew;refine wp_region_held_drew (S:=(fun W=>Hid (Kn w.heap.size w W [(w.heap.size,75,cu (x.sv A4 n4 c4 m)),(w.heap.size+1,46,dL c)] [])∧Hid (Kn w.heap.size w W [(g7,26,vC 0 0 0 ⟨#[]⟩)] []))) (by kernel_rfl) ?_ fun ah=>?_
  ·(try dsimp only);exact And.intro (zH ((aj.out.aB 2).ay 0)) (zH ((aj.out.aO 4).ay 0))
  refine ak 0 rfl ?_ fun _ s=>lV s.1 0
  refine ak 1 rfl ?_;refine ak 2 rfl ?_ fun _ s=>aZ s.2 0
  refine ak 3 rfl ?_ fun _ s=>iJ (z:=z) (v:=au.vn)
  refine aC 4 rfl fun K hK=>?_
  refine bI (y:=x.sv A4 n4 c4 m) aj 2 ?_;clear aj;intro wq aj;simp only[lS] at aj;have hs:=And.intro (zH ((aj.out.aB 2).ay 0)) (zH ((aj.out.aO 4).ay 0));refine bk hK hs fun ah=>?_
  clear hK K;refine aC 5 rfl fun K hK=>?_
  refine bO (q:=au.err z) aj 3 ?_;exact ahF
 ·subst hm
  replace HK:=iH HK b4;clear b4;go_wp2_with (refine pO HK 0 x.v.vals ?_;clear HK;intro _ HK;simp only[lS] at HK);have aj:=zH HK.out.drew;refine wp_region_held_drew (S:=(fun W=>Hid (Kn w.heap.size w W [(w.heap.size,75,cu (x.sv x.vA x.vn x.vc x.v.vals)),(w.heap.size+1,46,dL c)] [])∧Hid (Kn w.heap.size w W [(g7,26,vC 0 0 0 ⟨#[]⟩)] []))) (by kernel_rfl) ?_ fun ah=>?_
  ·(try dsimp only);exact And.intro (zH ((aj.out.aB 2).ay 0)) (zH ((aj.out.aO 4).ay 0))
  refine ak 0 rfl ?_ fun _ s=>lV s.1 0
  refine ak 1 rfl ?_;refine ak 2 rfl ?_ fun _ s=>aZ s.2 0
  refine ak 3 rfl ?_ fun _ s=>iJ (z:=z) (v:=au.vn)
  refine aC 4 rfl fun K hK=>?_
  refine bI (y:=x.sv x.vA x.vn x.vc x.v.vals) aj 2 ?_;clear aj;intro wq aj;simp only[lS] at aj;have hs:=And.intro (zH ((aj.out.aB 2).ay 0)) (zH ((aj.out.aO 4).ay 0));refine bk hK hs fun ah=>?_
  clear hK K;refine aC 5 rfl fun K hK=>?_
  refine bO (q:=au.err z) aj 3 ?_;exact ahE
theorem PU(G:World→Prop)(x:Oh)(r:Rf)(c:aI.C)(w:World)(hG:∀W,G W→In W x)(hx:In w x)(hv:c.val.f<18446744073709551616)(hk:c.k=11):Calls prog 98 #[.agg (cu x),.agg (dL c)] w (nT G (au.act x.v r c) w):=by
 have he:au.act x.v r c=⟨{ x.v with vals:=fG.KX x.v.cap x.v.vals },⟨fG.Sd x.v.cap x.v.vals,fG.KW x.v.cap x.v.vals⟩,false,[]⟩:=by
  exact vg
 rw[he];clear he;have HI:=zH hG;have HT:=zH (fun W (hW:Below w.heap.size w W)=>TQ x.v.cap x.vA x.vc x.vn x.v.vals W (hx.v.later hW));have HF:=zH (aaU (N:=x.v.cap) hx.v.fit);have HK:=Vz w 75 (cu x) 46 (dL c) 75 (cu Co) 28 (dG au.rz);clear hx hv hG;unfold nT;unfold Js vv at HT;simp only;generalize fG.KX x.v.cap x.v.vals=m at *
 generalize fG.KW x.v.cap x.v.vals=v at *
 generalize fG.Sd x.v.cap x.v.vals=z at *
 go_enter func98,ntmps98;go_wp2_with (first|(refine aL HK ?_;clear HK;intro _ g7 HK;simp only[aS,aK] at HK)|refine zX (bZ HK 1) ?_|refine zX (ow HK 0) ?_|refine zX (Bn HK 0) ?_);refine(HT.out _ HK.out.b).mono ?_;rintro e w1 ⟨A4,n4,c4,rfl,o4,b4⟩
 rcases o4 with o4|⟨rfl,rfl,rfl,hm⟩
 ·replace HK:=zH (HK.out.called b4 o4)
  simp only[aK] at HK;clear o4 b4;go_wp2_with (first|(refine pO HK 0 m ?_;clear HK;intro _ HK;simp only[lS] at HK)|(refine aH (f2:=v.f) HK 4 ?_;clear HK;intro _ HK;simp only[lS] at HK));have aj:=zH HK.out.drew;refine wp_region_held_drew (S:=(fun W=>Hid (Kn w.heap.size w W [(w.heap.size,75,cu (x.sv A4 n4 c4 m)),(w.heap.size+1,46,dL c)] [])∧Hid (Kn w.heap.size w W [(g7,26,vC v.k v.n v.f v.s)] []))) (by kernel_rfl) ?_ fun ah=>?_
  ·(try dsimp only);exact And.intro (zH ((aj.out.aB 2).ay 0)) (zH ((aj.out.aO 4).ay 0))
  refine ak 0 rfl ?_ fun _ s=>lV s.1 0
  refine ak 1 rfl ?_;refine ak 2 rfl ?_ fun _ s=>aZ s.2 0
  refine ak 3 rfl ?_ fun _ s=>iJ (z:=z) (v:=v)
  refine aC 4 rfl fun K hK=>?_
  refine bI (y:=x.sv A4 n4 c4 m) aj 2 ?_;clear aj;intro wq aj;simp only[lS] at aj;have hs:=And.intro (zH ((aj.out.aB 2).ay 0)) (zH ((aj.out.aO 4).ay 0));refine bk hK hs fun ah=>?_
  clear hK K;refine aC 5 rfl fun K hK=>?_
  refine bO (q:=⟨z,v⟩) aj 3 ?_;exact ahF
 ·subst hm
  replace HK:=iH HK b4;clear b4;go_wp2_with (first|(refine pO HK 0 x.v.vals ?_;clear HK;intro _ HK;simp only[lS] at HK)|(refine aH (f2:=v.f) HK 4 ?_;clear HK;intro _ HK;simp only[lS] at HK));have aj:=zH HK.out.drew;refine wp_region_held_drew (S:=(fun W=>Hid (Kn w.heap.size w W [(w.heap.size,75,cu (x.sv x.vA x.vn x.vc x.v.vals)),(w.heap.size+1,46,dL c)] [])∧Hid (Kn w.heap.size w W [(g7,26,vC v.k v.n v.f v.s)] []))) (by kernel_rfl) ?_ fun ah=>?_
  ·(try dsimp only);exact And.intro (zH ((aj.out.aB 2).ay 0)) (zH ((aj.out.aO 4).ay 0))
  refine ak 0 rfl ?_ fun _ s=>lV s.1 0
  refine ak 1 rfl ?_;refine ak 2 rfl ?_ fun _ s=>aZ s.2 0
  refine ak 3 rfl ?_ fun _ s=>iJ (z:=z) (v:=v)
  refine aC 4 rfl fun K hK=>?_
  refine bI (y:=x.sv x.vA x.vn x.vc x.v.vals) aj 2 ?_;clear aj;intro wq aj;simp only[lS] at aj;have hs:=And.intro (zH ((aj.out.aB 2).ay 0)) (zH ((aj.out.aO 4).ay 0));refine bk hK hs fun ah=>?_
  clear hK K;refine aC 5 rfl fun K hK=>?_
  refine bO (q:=⟨z,v⟩) aj 3 ?_;exact ahE
theorem PS(G:World→Prop)(x:Oh)(r:Rf)(c:aI.C)(w:World)(hG:∀W,G W→In W x)(hx:In w x)(hv:c.val.f<18446744073709551616)(hk:c.k=15):Calls prog 98 #[.agg (cu x),.agg (dL c)] w (nT G (au.act x.v r c) w):=by
 have he:au.act x.v r c=⟨{ x.v with mt:=Mt.ad x.v.mt c.val.f },au.err (Mt.Sn x.v.mt),false,[]⟩:=by
  exact vg
 rw[he];clear he;have HI:=zH hG;have HT:=zH (fun W (hW:Below w.heap.size w W)=>KU x.v.mt hx.m c.val.f hv W);have HF:=zH (Mt.aga hx.m hv);have HK:=Vz w 75 (cu x) 46 (dL c) 75 (cu Co) 28 (dG au.rz);clear hx hv hG;unfold nT;unfold agt at HT;simp only;generalize Mt.ad x.v.mt c.val.f=m at *
 generalize Mt.Sn x.v.mt=z at *
 go_enter func98,ntmps98;go_wp2_with (first|(refine aL HK ?_;clear HK;intro _ g7 HK;simp only[aS,aK] at HK)|refine zX (bZ HK 1) ?_|refine zX (Dv HK 0) ?_|refine zX (aiT HK 1 (by rfl) (by rfl) (by rfl)) ?_);refine cb (HT.out _ HK.out.b) HK ?_;clear HK;intro _ HK;go_wp2_with (refine JN (m:=m) HK 0 rfl rfl rfl rfl rfl ?_;clear HK;intro _ HK;simp only[lS] at HK);have aj:=zH HK.out.drew;refine wp_region_held_drew (S:=(fun W=>Hid (Kn w.heap.size w W [(w.heap.size,75,cu (x.sm m)),(w.heap.size+1,46,dL c)] [])∧Hid (Kn w.heap.size w W [(g7,26,vC 0 0 0 ⟨#[]⟩)] []))) (by kernel_rfl) ?_ fun ah=>?_
 ·(try dsimp only);exact And.intro (zH ((aj.out.aB 2).ay 0)) (zH ((aj.out.aO 4).ay 0))
 refine ak 0 rfl ?_ fun _ s=>lV s.1 0
 refine ak 1 rfl ?_;refine ak 2 rfl ?_ fun _ s=>aZ s.2 0
 refine ak 3 rfl ?_ fun _ s=>iJ (z:=z) (v:=au.vn)
 refine aC 4 rfl fun K hK=>?_
 refine bI (y:=x.sm m) aj 2 ?_;clear aj;intro wq aj;simp only[lS] at aj;have hs:=And.intro (zH ((aj.out.aB 2).ay 0)) (zH ((aj.out.aO 4).ay 0));refine bk hK hs fun ah=>?_
 clear hK K;refine aC 5 rfl fun K hK=>?_
 refine bO (q:=au.err z) aj 3 ?_;clear aj;intro wq aj;simp only[lS] at aj;have hs:=And.intro (zH ((aj.out.aB 2).ay 0)) (zH ((aj.out.aO 4).ay 0));refine bk hK hs fun ah=>?_
 clear hK K;refine cB ?_;go_wp2_with fail;exact rU results98 (aj.out.blk 2 rfl) (aj.out.blk 3 rfl) ⟨x.sm m,_,rfl,rfl,aj.out.aB 0,fun _ _ _ _ _ K hm hb=>(HI.out _ hb).sm HF.out⟩
theorem PO(G:World→Prop)(x:Oh)(r:Rf)(c:aI.C)(w:World)(hG:∀W,G W→In W x)(hx:In w x)(hv:c.val.f<18446744073709551616)(hk:c.k=16):Calls prog 98 #[.agg (cu x),.agg (dL c)] w (nT G (au.act x.v r c) w):=by
 have he:au.act x.v r c=⟨x.v,⟨(Mt.rd x.v.mt c.n).e,⟨(Mt.rd x.v.mt c.n).k,(Mt.rd x.v.mt c.n).n,(Mt.rd x.v.mt c.n).f,⟨#[]⟩⟩⟩,false,[]⟩:=by
  exact vg
 rw[he];clear he;have HI:=zH hG;have HT:=zH (fun W (hW:Below w.heap.size w W)=>xEm x.v.mt hx.m c.n W);have HK:=Vz w 75 (cu x) 46 (dL c) 75 (cu Co) 28 (dG au.rz);clear hx hv hG;unfold nT;unfold agr at HT;simp only;generalize Mt.rd x.v.mt c.n=d at *
 go_enter func98,ntmps98;go_wp2_with (first|(refine aL HK ?_;clear HK;intro _ g7 HK;simp only[aS,aK] at HK)|refine zX (bZ HK 1) ?_|refine zX (Dv HK 0) ?_|refine zX (adp HK 1) ?_);refine cb (HT.out _ HK.out.b) HK ?_;clear HK;intro _ HK;go_wp2_with (refine aH (f2:=d.f) HK 4 ?_;clear HK;intro _ HK;simp only[lS] at HK);have aj:=zH HK.out.drew;refine wp_region_held_drew (S:=(fun W=>Hid (Kn w.heap.size w W [(w.heap.size,75,cu (x)),(w.heap.size+1,46,dL c)] [])∧Hid (Kn w.heap.size w W [(g7,26,vC d.k d.n d.f ⟨#[]⟩)] []))) (by kernel_rfl) ?_ fun ah=>?_
 ·(try dsimp only);exact And.intro (zH ((aj.out.aB 2).ay 0)) (zH ((aj.out.aO 4).ay 0))
 refine ak 0 rfl ?_ fun _ s=>lV s.1 0
 refine ak 1 rfl ?_;refine ak 2 rfl ?_ fun _ s=>aZ s.2 0
 refine ak 3 rfl ?_ fun _ s=>iJ (z:=d.e) (v:=⟨d.k,d.n,d.f,⟨#[]⟩⟩)
 refine aC 4 rfl fun K hK=>?_
 refine bI (y:=x) aj 2 ?_;clear aj;intro wq aj;simp only[lS] at aj;have hs:=And.intro (zH ((aj.out.aB 2).ay 0)) (zH ((aj.out.aO 4).ay 0));refine bk hK hs fun ah=>?_
 clear hK K;refine aC 5 rfl fun K hK=>?_
 refine bO (q:=⟨d.e,⟨d.k,d.n,d.f,⟨#[]⟩⟩⟩) aj 3 ?_;exact aem
theorem PN(G:World→Prop)(x:Oh)(r:Rf)(c:aI.C)(w:World)(hG:∀W,G W→In W x)(hx:In w x)(hv:c.val.f<18446744073709551616)(hk:c.k=17):Calls prog 98 #[.agg (cu x),.agg (dL c)] w (nT G (au.act x.v r c) w):=by
 have he:au.act x.v r c=⟨x.v,⟨0,au.num (au.size x.v)⟩,false,[]⟩:=by
  exact vg
 rw[he];clear he;have HI:=zH hG;have HT:=zH (fun W (hW:Below w.heap.size w W)=>PK x W (hx.later hW));have HK:=Vz w 75 (cu x) 46 (dL c) 75 (cu Co) 28 (dG au.rz);clear hx hv hG;unfold nT;simp only;generalize au.size x.v=z at *
 go_enter func98,ntmps98;go_wp2_with (first|(refine aL HK ?_;clear HK;intro _ g7 HK;simp only[aS,aK] at HK)|refine zX (bZ HK 1) ?_|refine zX (lV HK 0) ?_);refine cb (HT.out _ HK.out.b) HK ?_;clear HK;intro _ HK;go_wp2_with (refine aH (f2:=0) HK 4 ?_;clear HK;intro _ HK;simp only[lS] at HK);have aj:=zH HK.out.drew;refine wp_region_held_drew (S:=(fun W=>Hid (Kn w.heap.size w W [(w.heap.size,75,cu (x)),(w.heap.size+1,46,dL c)] [])∧Hid (Kn w.heap.size w W [(g7,26,vC 1 z 0 ⟨#[]⟩)] []))) (by kernel_rfl) ?_ fun ah=>?_
 ·(try dsimp only);exact And.intro (zH ((aj.out.aB 2).ay 0)) (zH ((aj.out.aO 4).ay 0))
 refine ak 0 rfl ?_ fun _ s=>lV s.1 0
 refine ak 1 rfl ?_;refine ak 2 rfl ?_ fun _ s=>aZ s.2 0
 refine ak 3 rfl ?_ fun _ s=>iJ (z:=0) (v:=au.num z)
 refine aC 4 rfl fun K hK=>?_
 refine bI (y:=x) aj 2 ?_;clear aj;intro wq aj;simp only[lS] at aj;have hs:=And.intro (zH ((aj.out.aB 2).ay 0)) (zH ((aj.out.aO 4).ay 0));refine bk hK hs fun ah=>?_
 clear hK K;refine aC 5 rfl fun K hK=>?_
 refine bO (q:=⟨0,au.num z⟩) aj 3 ?_;exact aem
end
section
def ze(G:World→Prop)(oc:au.Oc)(w:World)(e:Ending)(w':World):Prop:=∃(y:Oh) (O:Option Addr) (k d:Nat) (Rn:List bV),e=.returned (.tuple #[.agg (cu y),.agg (dG oc.p),.bool oc.later,.slice O k d])∧Hid (y.v=oc.o)∧Kn w.heap.size w w' [] Rn∧Hid (∀(b:Nat) (W0 W:World) L R,Kn b W0 W L R→(∀z∈Rn,z∈R)→G W→In W y∧bT bL tF W O k d oc.outs)
theorem mJ{fn:Func}{R:Ending→World→Prop}{a:Act}{w:World}{B D:Nat}{x:Oh}{p:au.Rp}{u z:Value}{q q2 q3 q4:Tmp}(hf:fn.results=#[.cell q 75,.cell q2 28,.tmp q3,.tmp q4])(hb:eT w B 75 (cu x))(hc:eT w D 28 (dG p))
  (hR:R (.returned (.tuple #[.agg (cu x),.agg (dG p),u,z])) w) (h2:a.tmps[q]?=some (.pointer (some ⟨B,0,none⟩)):=by rfl)(h3:a.tmps[q2]?=some (.pointer (some ⟨D,0,none⟩)):=by rfl)(h4:a.tmps[q3]?=some u:=by rfl)(h5:a.tmps[q4]?=some z:=by rfl)(hd:a.defers=[]:=by rfl):bodyPost prog fn R Exit.ret a w:=by
 refine bodyPost_ret (v:=.tuple #[.agg (cu x),.agg (dG p),u,z]) ?_ hd hR;have h:(loadVar 75 ⟨B,0,none⟩).run prog w=.ok (.agg (cu x)) w:=run_loadVar_row (P:=prog) w B _ _ _ (0,0) _ hb underlying75 rfl zK;have h':(loadVar 28 ⟨D,0,none⟩).run prog w=.ok (.agg (dG p)) w:=run_loadVar_row (P:=prog) w D _ _ _ (0,0) _ hc underlying28 rfl kg;simp[results,hf,asAddr,Sem.run_bind,h2,h3,h4,h5,h,h']
theorem wM{w:World}{o:Oper}{a:Act}{x:Int}{b:Bool}{p:Operand}(hb:decide (x=0)=b)(ho:o.op=.binOp .eql 23 p (.const (.int .i64 0)) 23:=by rfl)(hp:a.eval p=.int .i64 x:=by rfl):
  (execOp a.eval o).run prog w=.ok (.value (.bool b)) w:=by
 have he:a.eval (.const (.int .i64 0))=.int .i64 0:=rfl;subst hb;unfold execOp;simp only[ho,hp,he];go_simp
 try rfl
theorem kn5(w:World)(t1:TypeId)(c1:Array Value)(t2:TypeId)(c2:Array Value)(t3:TypeId)(c3:Array Value)(t4:TypeId)(c4:Array Value)(t5:TypeId)(c5:Array Value):
  Hid (Kn w.heap.size w (((((w.alloc (.cells c1 t1)).alloc (.cells c2 t2)).alloc (.cells c3 t3)).alloc (.cells c4 t4)).alloc (.cells c5 t5)) [(w.heap.size,t1,c1),(w.heap.size+1,t2,c2),(w.heap.size+1+1,t3,c3),(w.heap.size+1+1+1,t4,c4),(w.heap.size+1+1+1+1,t5,c5)] []):=by
 have h:=(Vz w t1 c1 t2 c2 t3 c3 t4 c4).out.alloc t5 c5;simp only[aS,aK,World.size_alloc] at h;exact zH h
theorem Ul(G:World→Prop)(x:Oh)(r:Rf)(c:aI.C)(w:World)(hG:∀W,G W→In W x)(hx:In w x)(hk:c.k=12):Calls prog 97 #[.agg (cu x),.agg #[.int .i64 r.c,.int .i64 r.e,.int .i64 r.r],.agg (dL c)] w (ze G (au.take x.v r) w):=by
 have HI:=zH hG;have HT:=zH (fun W (hW:Below w.heap.size w W)=>KA x.rA x.rc x.rn x.v.refs r W (hx.r.later hW));have lK:=zH dD;have HF:=zH (aaS (r:=r) hx.r.fit);have HK:=kn5 w 75 (cu x) 44 #[.int .i64 r.c,.int .i64 r.e,.int .i64 r.r] 46 (dL c) 75 (cu Co) 28 (dG au.rz);clear hx hG;unfold ze au.take au.err;unfold XJ at HT;simp only;generalize aY.CP x.v.refs r=m at *
 generalize aY.Ak x.v.refs r=z at *
 generalize aY.Pj x.v.refs r=h at *
 go_enter func97,ntmps97;go_wp2_with (first|refine zX (bZ HK 2) ?_|refine zX (kI HK 0) ?_|refine zX (aP HK 1) ?_);refine(HT.out _ HK.out.b).mono ?_;rintro e w1 ⟨A4,n4,c4,rfl,o4,b4⟩
 rcases o4 with o4|⟨rfl,rfl,rfl,hm⟩
 ·replace HK:=zH (HK.out.called b4 o4)
  simp only[aK] at HK;clear o4 b4;by_cases hz0:z=0
  ·have hz:decide (z=0)=true:=decide_eq_true hz0
   clear hz0;go_wp2_with (refine fE HK 0 m ?_;clear HK;intro _ HK;simp only[lS] at HK);have aj:=zH HK.out.drew;refine zR ((aj.out.aB 3).ay 0) fun ah=>?_
   refine ak 0 rfl ?_ fun _ s=>lV s 0
   refine ak 1 rfl ?_;refine ak 3 rfl ?_;refine ak 4 rfl ?_ fun _ s=>wM (x:=z) hz
   refine aC 2 rfl fun K hK=>?_
   go_simp;go_at_call 91;refine(lK.out z _).mono ?_;rintro e w5 ⟨rfl,b5⟩;have hs:=zH (ah.out.call b5);replace aj:=zH (aj.out.call b5);clear b5;refine bk hK hs fun ah=>?_
   clear hK K;refine ak 5 rfl ?_;refine ak 6 rfl ?_;refine ak 7 rfl ?_;exact ahK
  ·have hz:decide (z=0)=false:=decide_eq_false hz0
   clear hz0;go_wp2_with (refine fE HK 0 m ?_;clear HK;intro _ HK;simp only[lS] at HK);have aj:=zH HK.out.drew;refine zR ((aj.out.aB 3).ay 0) fun ah=>?_
   refine ak 0 rfl ?_ fun _ s=>lV s 0
   refine ak 1 rfl ?_;refine ak 3 rfl ?_;refine ak 4 rfl ?_ fun _ s=>wM (x:=z) hz
   refine aC 2 rfl fun K hK=>?_
   go_simp;go_at_call 91;refine(lK.out z _).mono ?_;rintro e w5 ⟨rfl,b5⟩;have hs:=zH (ah.out.call b5);replace aj:=zH (aj.out.call b5);clear b5;refine bk hK hs fun ah=>?_
   clear hK K;refine ak 5 rfl ?_;refine bq 6 rfl ?_;refine bq 7 rfl ?_;exact ahK
 ·subst hm
  replace HK:=iH HK b4;clear b4;by_cases hz0:z=0
  ·have hz:decide (z=0)=true:=decide_eq_true hz0
   clear hz0;go_wp2_with (refine fE HK 0 x.v.refs ?_;clear HK;intro _ HK;simp only[lS] at HK);have aj:=zH HK.out.drew;refine zR ((aj.out.aB 3).ay 0) fun ah=>?_
   refine ak 0 rfl ?_ fun _ s=>lV s 0
   refine ak 1 rfl ?_;refine ak 3 rfl ?_;refine ak 4 rfl ?_ fun _ s=>wM (x:=z) hz
   refine aC 2 rfl fun K hK=>?_
   go_simp;go_at_call 91;refine(lK.out z _).mono ?_;rintro e w5 ⟨rfl,b5⟩;have hs:=zH (ah.out.call b5);replace aj:=zH (aj.out.call b5);clear b5;refine bk hK hs fun ah=>?_
   clear hK K;refine ak 5 rfl ?_;refine ak 6 rfl ?_;refine ak 7 rfl ?_;exact ahJ
  ·have hz:decide (z=0)=false:=decide_eq_false hz0
   clear hz0;go_wp2_with (refine fE HK 0 x.v.refs ?_;clear HK;intro _ HK;simp only[lS] at HK);have aj:=zH HK.out.drew;refine zR ((aj.out.aB 3).ay 0) fun ah=>?_
   refine ak 0 rfl ?_ fun _ s=>lV s 0
   refine ak 1 rfl ?_;refine ak 3 rfl ?_;refine ak 4 rfl ?_ fun _ s=>wM (x:=z) hz
   refine aC 2 rfl fun K hK=>?_
   go_simp;go_at_call 91;refine(lK.out z _).mono ?_;rintro e w5 ⟨rfl,b5⟩;have hs:=zH (ah.out.call b5);replace aj:=zH (aj.out.call b5);clear b5;refine bk hK hs fun ah=>?_
   clear hK K;refine ak 5 rfl ?_;refine bq 6 rfl ?_;refine bq 7 rfl ?_;exact ahJ
end
end Go.Proofs.YtahdlddbbnjloaaGreat
