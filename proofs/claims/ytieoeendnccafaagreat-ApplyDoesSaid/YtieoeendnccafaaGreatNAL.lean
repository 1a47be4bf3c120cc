/- What Right returns, the program's and the document's. No condition but those named. -/
import Derived.Test.YtieoeendnccafaaGreatNAK
set_option linter.unusedSimpArgs false
set_option linter.unusedVariables false
set_option maxRecDepth 100000
set_option maxHeartbeats 25600000
open Go.RowKit
namespace Go.Proofs.YtieoeendnccafaaGreat
open _root_.Go.Proofs.Tryz
section
section
variable {b0:Nat}{w0 w:World}{L:List (Nat×TypeId×Array Value)}{R:List dA}{ops:Array Oper}{rest:List Oper}{o:Oper}{a:Act}{Q:Exit→Act→World→Prop}
theorem qI(HK:Hid (Kn b0 w0 w L R))
  (h:∀w' g,Hid (Kn b0 w0 w' (L++[(g,159,fl false false false false false false)]) R)→wpList prog ops Q rest (a.put o.dst (.pointer (some ⟨g,0,none⟩))) w') (hgd:o.guard=none:=by rfl)(ho:o.op=.alloc 159:=by rfl):wpList prog ops Q (o::rest) a w:=
 wpList_plain hgd fun K hK=>by
  exact ZP
theorem qG(HK:Hid (Kn b0 w0 w L R))(i:Nat){p:Operand}{q:Operand}{g:Nat}{x0 x1 x2 x3 x4 x5 y0 y1 y2 y3 y4 y5:Bool}
  (h:∀w',Hid (Kn b0 w0 w' (L.set i (g,159,fl y0 y1 y2 y3 y4 y5)) R)→Hid (w'.heap.size=w.heap.size)→wpList prog ops Q rest (a.put o.dst undef) w') (hgd:o.guard=none:=by rfl)(ho:o.op=.store 159 p q:=by rfl)(hL:L[i]?=some (g,159,fl x0 x1 x2 x3 x4 x5):=by rfl)(hx:a.eval p=.pointer (some ⟨g,0,none⟩):=by rfl)(hy:a.eval q=.agg (fl y0 y1 y2 y3 y4 y5):=by rfl):wpList prog ops Q (o::rest) a w:=
 jJ HK i hgd p q ho hL hx hy (by show 6≤6;decide) um (h1:=(by simp[fl,Value.oneCell'])) fun w' h1 h2=>h w' (by
  have e:putCells (fl x0 x1 x2 x3 x4 x5) 0 (fl y0 y1 y2 y3 y4 y5).toList=fl y0 y1 y2 y3 y4 y5:=by
   exact ZG
  rw[e] at h1
  exact h1) h2
end
def DV(b0 b1 b2 b3 b4 b5:Bool):Nat→Bool
 | 0=>b0
 | 1=>b1
 | 2=>b2
 | 3=>b3
 | 4=>b4
 | _=>b5
theorem xq{b0 b1 b2 b3 b4 b5:Bool}{k:Nat}(h:k<6):(fl b0 b1 b2 b3 b4 b5)[k]?=some (.bool (DV b0 b1 b2 b3 b4 b5 k)):=by
 match k,h with
 | 0,_|1,_|2,_|3,_|4,_|5,_=>rfl
theorem Po(c:aF.C){b0 b1 b2 b3 b4 b5:Bool}(h:(b0=false↔c.name.size=0)∧(b1=false↔c.key.size=0)∧(b2=false↔aF.nil c.val)∧(b3=false↔aF.nil c.old)∧(b4=false↔c.n=0)∧(b5=false↔c.m=0)):
  aF.others c↔∀j,j<6→¬(DV b0 b1 b2 b3 b4 b5 j=true∧DV (aF.f0 c.k) (aF.f1 c.k) (aF.f3 c.k) (aF.f2 c.k) (aF.f4 c.k) (aF.f5 c.k) j=false):=by
 obtain⟨h0,h1,h2,h3,h4,h5⟩:=h;unfold aF.others;rw[← h0,← h1,← h2,← h3,← h4,← h5]
 constructor
 ·rintro ⟨g0,g1,g2,g3,g4,g5⟩ j hj ⟨k1,k2⟩
  match j,hj with
  | 0,_=>simp_all [DV]
  | 1,_=>simp_all [DV]
  | 2,_=>simp_all [DV]
  | 3,_=>simp_all [DV]
  | 4,_=>simp_all [DV]
  | 5,_=>simp_all [DV]
 ·intro h
  have k0:=h 0 (by decide);have k1:=h 1 (by decide);have k2:=h 2 (by decide);have k3:=h 3 (by decide);have k4:=h 4 (by decide);have k5:=h 5 (by decide);simp only[DV,not_and,Bool.not_eq_false] at k0 k1 k2 k3 k4 k5;refine⟨?_,?_,?_,?_,?_,?_⟩
  ·cases hb:b0<;>simp_all
  ·cases hb:b1<;>simp_all
  ·cases hb:b3<;>simp_all
  ·cases hb:b2<;>simp_all
  ·cases hb:b4<;>simp_all
  ·cases hb:b5<;>simp_all
theorem Lh(c:aF.C)(w:World):Calls prog 114 #[.agg (dh c)] w fun en w'=>en=.returned (.int .i64 (aF.cN c))∧Below w.heap.size w w':=by
 have HN:=zH (fun W=>Li c.k W);have HF:=zH (fun W=>IV c W);have agn:=zH (fun b0 b1 b2 b3 b4 b5 h=>Po c (b0:=b0) (b1:=b1) (b2:=b2) (b3:=b3) (b4:=b4) (b5:=b5) h);have HE:Hid (∀x:Int,aF.cN c=x→∀(en:Ending) (w':World),(en=.returned (.int .i64 x)∧Below w.heap.size w w')→(en=.returned (.int .i64 (aF.cN c))∧Below w.heap.size w w')):=zH fun x hx en w' h=>by rw[hx];exact h
 have h1:¬(1≤c.k∧c.k≤18)→aF.cN c=1:=fun h=>if_pos (by omega)
 have h2:aF.f0 c.k=true→c.name.size=0→aF.cN c=1:=fun h h'=>if_pos (.inr (.inr (.inr ⟨h,h'⟩)))
 have h3:¬aF.others c→aF.cN c=1:=fun h=>if_pos (.inr (.inr (.inl h)))
 have h4:(1≤c.k∧c.k≤18)→(aF.f0 c.k=true→¬c.name.size=0)→aF.others c→aF.cN c=0:=fun h h' h''=>if_neg (by rintro (g|g|g|g);omega;omega;exact g h'';exact h' g.1 g.2)
 have H1:=zH h1;have H2:=zH h2;have H3:=zH h3;have H4:=zH h4;clear h1 h2 h3 h4;generalize aF.cN c=z at *
 generalize aF.f0 c.k=a0 at *
 generalize aF.f1 c.k=a1 at *
 generalize aF.f2 c.k=a2 at *
 generalize aF.f3 c.k=a3 at *
 generalize aF.f4 c.k=a4 at *
 generalize aF.f5 c.k=a5 at *
 generalize hok:decide (1≤c.k∧c.k≤18)=ok at *
 have HOK:=zH hok;clear hok;obtain⟨k,name,key,⟨vk,vn,vf,vs⟩,⟨o1,on,of,os⟩,n,m⟩:=c;unfold dh WT adA at *
 simp only at *
 have HK:=iK w 37 (cO k name key vk vn vf vs o1 on of os n m);go_enter func114,ntmps114;go_wp2_with refine au (jD HK 0) ?_;refine cb (HN.out _) HK ?_;clear HK;intro _ HK;go_upto_region 2 with (first|(refine qI HK ?_;clear HK;intro _ g3 HK;simp only[aO,aJ] at HK)|(refine qG HK 1 ?_;clear HK;intro _ HK _;simp only[lS] at HK));go_wp2_with refine au (sP HK 0) ?_;refine(HF.out _).mono ?_;rintro e w2 ⟨b0,b1,b2,b3,b4,b5,rfl,hb,x2⟩;replace HK:=iy HK x2;have HB:=zH hb;have tJ:=zH (agn.out _ _ _ _ _ _ hb);clear x2 hb agn;go_upto_region 3 with (first|(refine qI HK ?_;clear HK;intro _ g4 HK;simp only[aO,aJ] at HK)|(refine qG HK 2 ?_;clear HK;intro wz HK _;simp only[lS] at HK));have qE:=HK.out.cell 1 rfl 0 (v:=.bool a0) rfl;have qD:=HK.out.cell 2 rfl 0 (v:=.bool b0) rfl;cases ok
 ·go_wp2_with fail
  go_ret;exact HE.out 1 (H1.out (of_decide_eq_false HOK.out)) _ _ ⟨rfl,HK.out.b⟩
 have hq:(a0=true∧b0=false)∨(a0=false)∨(a0=true∧b0=true):=by cases a0<;>cases b0<;>simp
 rcases hq with ⟨rfl,rfl⟩|hq
 ·go_wp2_with fail
  go_ret;exact HE.out 1 (H2.out (by simp) (HB.out.1.1 (by simp))) _ _ ⟨rfl,HK.out.b⟩
 have HNM:Hid (a0=true→¬name.size=0):=zH fun h h'=>by
  have:=HB.out.1.2 h'
  rcases hq with hq|hq<;>simp_all
 have HG:Hid (∀j,j<6→wz.cell? ⟨g3,j,none⟩=some (.bool (DV a0 a1 a3 a2 a4 a5 j))∧wz.cell? ⟨g4,j,none⟩=some (.bool (DV b0 b1 b2 b3 b4 b5 j))):=zH fun j hj=>And.intro (HK.out.cell 1 rfl j (xq hj)) (HK.out.cell 2 rfl j (xq hj))
 have HKB:=zH HK.out.b;clear HK HB;generalize HA:DV a0 a1 a3 a2 a4 a5=fa at *
 generalize HBf:DV b0 b1 b2 b3 b4 b5=fb at *
 clear HA HBf;have hk1:of_decide_eq_true HOK.out=of_decide_eq_true HOK.out:=rfl;clear hk1;have aib:=zH (of_decide_eq_true HOK.out);clear HOK HN HF
 rcases hq with rfl|⟨rfl,rfl⟩
 all_goals
  go_wp2_with fail;go_loopw [26] (fun vi wr=>∃k:Nat,k≤6∧vi=.int .i64 k∧wr=wz∧Hid (∀j,j<k→¬(fb j=true∧fa j=false))) (fun vi _=>6-(intOf vi).toNat)
  case atStart=>exact⟨0,Nat.zero_le _,rfl,rfl,zH fun j hj=>absurd hj (by omega)⟩
  case round=>
   obtain⟨q,hq,rfl,rfl,hh⟩:=hrel;by_cases hlt:q<6
   ·obtain⟨c1,c2⟩:=HG.out q hlt
    have hk1:(0:Int)≤(q:Int):=by omega
    have hk2:(q:Int)<6:=by omega
    have HS:Hid (¬(fb q=true∧fa q=false)→∀j,j<q+1→¬(fb j=true∧fa j=false)):=zH fun h j hj=>by
     by_cases e:j=q
     ·subst e;exact h
     ·exact hh.out j (by omega)
    have HX:Hid ((fb q=true∧fa q=false)→z=1):=zH fun h=>H3.out fun ho=>tJ.out.1 ho q hlt h
    generalize fa q=xa at *
    generalize fb q=xb at *
    have hc:xb=false∨(xb=true∧xa=true)∨(xb=true∧xa=false):=by cases xa<;>cases xb<;>simp
    rcases hc with rfl|⟨rfl,rfl⟩|⟨rfl,rfl⟩
    ·go_wp2_with fail
     exact Xb
    ·go_wp2_with fail
     exact Xb
    ·go_wp2_with fail
     go_ret;exact HE.out 1 (HX.out (by simp)) _ _ ⟨rfl,HKB.out⟩
   ·obtain rfl:q=6:=by omega
    go_wp2_with fail;go_ret;exact HE.out 0 (H4.out aib.out HNM.out (tJ.out.2 hh.out)) _ _ ⟨rfl,HKB.out⟩
end
section
theorem isH{k:Int}{b0 b1 b2 b3 b4 b5 ok:Bool}{w:World}{e:Ending}{w':World}(h:WT b0 b1 b2 b3 b4 b5 ok w e w')(e0:av.h0 k=b0)(e1:av.h1 k=b1)(e2:av.h2 k=b2)(e3:av.h3 k=b3)(e4:av.h4 k=b4)(e5:av.h5 k=b5)(e6:av.is k=ok):
  WT (av.h0 k) (av.h1 k) (av.h2 k) (av.h3 k) (av.h4 k) (av.h5 k) (av.is k) w e w':=by
 rw[e0,e1,e2,e3,e4,e5,e6];exact h
theorem KU(k:Int)(w:World):Calls prog 140 #[.int .i64 k] w (WT (av.h0 k) (av.h1 k) (av.h2 k) (av.h3 k) (av.h4 k) (av.h5 k) (av.is k) w):=by
 have hk:k=1∨k=2∨k=3∨k=4∨k=5∨¬(1≤k∧k≤5):=by omega
 rcases hk with rfl|rfl|rfl|rfl|rfl|h
 case inr.inr.inr.inr.inr=>
  have n1:¬k=1:=by omega
  have n2:¬k=2:=by omega
  have n3:¬k=3:=by omega
  have n4:¬k=4:=by omega
  have n5:¬k=5:=by omega
  refine Calls.mono (R:=WT false false false false false false false w) ?_ fun e w' hh=>isH hh (by unfold av.h0;simp[n2,n4]) (by unfold av.h1;simp[n1]) (by unfold av.h2;simp[n2]) (by unfold av.h3;simp[n3,n4]) (by unfold av.h4;simp[n4]) (by unfold av.h5;simp[n5]) (by unfold av.is;simp;omega)
  clear h;exact aah
 all_goals
  exact aah
theorem Vh{w:World}{o:Oper}{a:Act}{x y:mG}{b:Bool}{p:Operand}{q:Operand}(ho:o.op=.binOp .neq 61 p q 61)(hx:a.eval p=.agg #[.int .i64 x.n,.int .u64 (x.s:Int),.int .u64 (x.l:Int),.int .u64 (x.m:Int)])(hy:a.eval q=.agg #[.int .i64 y.n,.int .u64 (y.s:Int),.int .u64 (y.l:Int),.int .u64 (y.m:Int)])(hb:(!decide (x=y))=b):
  (execOp a.eval o).run prog w=.ok (.value (.bool b)) w:=by
 rw[Mw] at hb;subst hb;unfold execOp;simp only[ho,hx,hy];go_simp;by_cases h1:x.n=y.n<;>by_cases h2:(x.s:Int)=(y.s:Int)<;>by_cases h3:(x.l:Int)=(y.l:Int)<;>by_cases h4:(x.m:Int)=(y.m:Int)<;>simp[h1,h2,h3,h4]
theorem Gi(x:Oh)(w:World)(hx:In w x):Calls prog 141 #[.agg (bS x)] w (Jj (av.f0 x.v) (av.f1 x.v) (av.f2 x.v) (av.f3 x.v) (av.f4 x.v) (av.f5 x.v) w):=by
 have hp:=hx.p.len;have hv:=hx.v.len;have hr:=hx.r.len;unfold Jj av.f0 av.f1 av.f2 av.f3 av.f4 av.f5;rw[hp,hv,hr];clear hp hv hr hx;have HK:=kX w 63 (bS x) 159 (fl false false false false false false);go_enter func141,ntmps141;go_wp2_with fail;replace HK:=zH HK.out.drew;refine zR (HK.out.aA 1) fun ah=>?_
 refine ak 0 rfl ?_;refine ak 1 rfl ?_ fun _ s=>jP s 0
 refine ak 2 rfl ?_;refine ak 3 rfl ?_;refine ak 4 rfl ?_ fun _ s=>mK s 0
 refine ak 5 rfl ?_;refine ak 6 rfl ?_;refine ak 7 rfl ?_;refine ak 8 rfl ?_ fun _ s=>rM s 0
 refine ak 9 rfl ?_;refine ak 10 rfl ?_;refine ak 11 rfl ?_;refine ak 12 rfl ?_ fun _ s=>gK s 0
 refine ak 13 rfl ?_;refine ak 14 rfl ?_;refine ak 15 rfl ?_;refine ak 16 rfl ?_ fun _ s=>yO s 0
 refine ak 17 rfl ?_;refine ak 18 rfl ?_;refine ak 19 rfl ?_ fun _ s=>AX s 0
 refine ak 20 rfl ?_;refine ak 21 rfl ?_ fun _ s=>Vh (x:=x.v.mt) (y:=Mt.zero) (by rfl) (by rfl) (by rfl) (b:=!decide (x.v.mt=Mt.zero)) rfl
 refine ak 22 rfl ?_;refine aC 23 rfl fun K hK=>?_
 refine zu HK 1 (by rfl) _ _ (by rfl) (by rfl) (by rfl) (by rfl) um ?_;clear HK;intro _ HK _;simp only[lS] at HK;have hs:=zH (HK.out.aA 1);refine bk hK hs fun ah=>?_
 clear hK K;refine bW ?_;go_wp2_with fail;refine Kt (b0:=!decide (x.v.cap=0)) (b1:=decide (0<x.pn)) (b2:=decide (0<x.vn)) (b3:=decide (0<x.rn)) (b4:=!decide (x.v.round=0)) results141 ?_ ⟨rfl,HK.out.b⟩;have hb:=HK.out.blk 1 rfl;clear HK ah;simp[putCells,fl] at hb ⊢;exact hb
theorem Vz(o:av.Ob):av.clean o=true↔av.is o.kind=true∧∀j,j<6→¬(DV (av.f0 o) (av.f1 o) (av.f2 o) (av.f3 o) (av.f4 o) (av.f5 o) j=true∧DV (av.h0 o.kind) (av.h1 o.kind) (av.h2 o.kind) (av.h3 o.kind) (av.h4 o.kind) (av.h5 o.kind) j=false):=by
 unfold av.clean;generalize av.f0 o=b0;generalize av.f1 o=b1;generalize av.f2 o=b2;generalize av.f3 o=b3;generalize av.f4 o=b4;generalize av.f5 o=b5;generalize av.h0 o.kind=a0;generalize av.h1 o.kind=a1;generalize av.h2 o.kind=a2;generalize av.h3 o.kind=a3;generalize av.h4 o.kind=a4;generalize av.h5 o.kind=a5;have key:∀b a:Bool,(!b || a)=true↔¬(b=true∧a=false):=fun b a=>by cases b<;>cases a<;>simp
 simp only[Bool.and_eq_true,key]
 constructor
 ·rintro ⟨h,⟨⟨⟨⟨⟨g0,g1⟩,g2⟩,g3⟩,g4⟩,g5⟩⟩
  refine⟨h,fun j hj=>?_⟩
  match j,hj with
  | 0,_=>exact g0
  | 1,_=>exact g1
  | 2,_=>exact g2
  | 3,_=>exact g3
  | 4,_=>exact g4
  | 5,_=>exact g5
 ·rintro ⟨h,g⟩
  exact⟨h,⟨⟨⟨⟨⟨g 0 (by decide),g 1 (by decide)⟩,g 2 (by decide)⟩,g 3 (by decide)⟩,g 4 (by decide)⟩,g 5 (by decide)⟩⟩
theorem Qs(x:Oh)(w:World)(hx:In w x):Calls prog 79 #[.agg (bS x)] w (cZ (av.clean x.v) w):=by
 have HN:=zH (fun W=>KU x.v.kind W);have HF:=zH (fun W (hW:Below w.heap.size w W)=>Gi x W (hx.later hW));have H0:=zH (Vz x.v);clear hx;unfold cZ WT Jj at *
 generalize av.clean x.v=z at *
 generalize av.h0 x.v.kind=a0 at *
 generalize av.h1 x.v.kind=a1 at *
 generalize av.h2 x.v.kind=a2 at *
 generalize av.h3 x.v.kind=a3 at *
 generalize av.h4 x.v.kind=a4 at *
 generalize av.h5 x.v.kind=a5 at *
 generalize av.is x.v.kind=ok at *
 generalize av.f0 x.v=b0 at *
 generalize av.f1 x.v=b1 at *
 generalize av.f2 x.v=b2 at *
 generalize av.f3 x.v=b3 at *
 generalize av.f4 x.v=b4 at *
 generalize av.f5 x.v=b5 at *
 have HK:=iK w 63 (bS x);go_enter func79,ntmps79;go_wp2_with refine zX (iM HK 0) ?_;refine cb (HN.out _) HK ?_;clear HK;intro _ HK;go_upto_region 2 with (first|(refine qI HK ?_;clear HK;intro _ g3 HK;simp only[aO,aJ] at HK)|(refine qG HK 1 ?_;clear HK;intro _ HK _;simp only[lS] at HK));go_wp2_with refine zX (jv HK 0) ?_;refine cb (HF.out _ HK.out.b) HK ?_;clear HK;intro _ HK;go_upto_region 3 with (first|(refine qI HK ?_;clear HK;intro _ g4 HK;simp only[aO,aJ] at HK)|(refine qG HK 2 ?_;clear HK;intro wz HK _;simp only[lS] at HK));have HG:Hid (∀j,j<6→wz.cell? ⟨g3,j,none⟩=some (.bool (DV a0 a1 a2 a3 a4 a5 j))∧wz.cell? ⟨g4,j,none⟩=some (.bool (DV b0 b1 b2 b3 b4 b5 j))):=zH fun j hj=>And.intro (HK.out.cell 1 rfl j (xq hj)) (HK.out.cell 2 rfl j (xq hj))
 have HKB:=zH HK.out.b;clear HK HN HF;generalize HA:DV a0 a1 a2 a3 a4 a5=fa at *
 generalize HBf:DV b0 b1 b2 b3 b4 b5=fb at *
 clear HA HBf;go_wp2_with fail;go_loopw [15] (fun vi wr=>∃k:Nat,k≤6∧vi=.int .i64 k∧wr=wz∧Hid (∀j,j<k→¬(fb j=true∧fa j=false))) (fun vi _=>6-(intOf vi).toNat)
 case atStart=>exact⟨0,Nat.zero_le _,rfl,rfl,zH fun j hj=>absurd hj (by omega)⟩
 case round=>
  obtain⟨q,hq,rfl,rfl,hh⟩:=hrel;by_cases hlt:q<6
  ·obtain⟨c1,c2⟩:=HG.out q hlt
   have hk1:(0:Int)≤(q:Int):=by omega
   have hk2:(q:Int)<6:=by omega
   have HS:Hid (¬(fb q=true∧fa q=false)→∀j,j<q+1→¬(fb j=true∧fa j=false)):=zH fun h j hj=>by
    by_cases e:j=q
    ·subst e;exact h
    ·exact hh.out j (by omega)
   have HX:Hid ((fb q=true∧fa q=false)→z=false):=zH fun h=>Bool.eq_false_iff.2 fun hz=>(H0.out.1 hz).2 q hlt h
   generalize fa q=xa at *
   generalize fb q=xb at *
   have hc:xb=false∨(xb=true∧xa=true)∨(xb=true∧xa=false):=by cases xa<;>cases xb<;>simp
   rcases hc with rfl|⟨rfl,rfl⟩|⟨rfl,rfl⟩
   ·go_wp2_with fail
    exact Xb
   ·go_wp2_with fail
    exact Xb
   ·go_wp2_with fail
    go_ret;have hz:=HX.out (by simp);subst hz;exact⟨rfl,HKB.out⟩
  ·obtain rfl:q=6:=by omega
   have hz:z=ok:=by
    cases ok
    ·exact Bool.eq_false_iff.2 fun hz=>by cases (H0.out.1 hz).1
    ·exact H0.out.2 ⟨rfl,hh.out⟩
   subst hz;go_wp2_with fail;go_ret;exact⟨rfl,HKB.out⟩
end
section
def KL(a b:Int):Int:=if a=0 then b else a
theorem XK{g:Nat}(a b:Int){w:World}(h0:w.cell? ⟨g,0,none⟩=some (.int .i64 a))(h1:w.cell? ⟨g,1,none⟩=some (.int .i64 b)):
  Calls prog 113 #[.slice (some ⟨g,0,none⟩) 2 2] w fun e w'=>e=.returned (.int .i64 (KL a b))∧w'=w:=by
 unfold KL;by_cases ha:a=0
 ·subst ha
  rw[if_pos rfl];by_cases hb:b=0
  ·subst hb
   go_enter func113,ntmps113;go_wp2;go_rounds 3
   all_goals
    go_ret;exact ni
  ·have hb2:(b != 0)=true:=by simpa using hb
   go_enter func113,ntmps113;go_wp2;go_rounds 3
   all_goals
    go_ret;exact ni
 ·rw[if_neg ha]
  have ha2:(a != 0)=true:=by simpa using ha
  go_enter func113,ntmps113;go_wp2;go_rounds 3
  all_goals
   go_ret;exact ni
theorem GI(a b:Int)(W:World)(t:TypeId)(g:Nat)(hg:g=W.heap.size):Calls prog 113 #[.slice (some ⟨g,0,none⟩) 2 2] (W.alloc (.cells #[.int .i64 a,.int .i64 b] t)) fun en w'=>en=.returned (.int .i64 (KL a b))∧w'=W.alloc (.cells #[.int .i64 a,.int .i64 b] t):=by
 subst hg;exact XK a b (by rw[World.cell?_alloc_new];rfl) (by rw[World.cell?_alloc_new];rfl)
end
section
theorem GA(key:ByteArray)(v:Val.V)(w:World)(hf:v.f<18446744073709551616):
  Calls prog 207 #[.string key,vv v] w (gX (aK.ji key v) w):=by
 have HC:=zH (fun W=>qy v W hf);clear hf;unfold aK.ji;obtain⟨k,n,f,s⟩:=v;unfold vv gX at *
 simp only at HC ⊢;generalize Val.bG ⟨k,n,f,s⟩=z at *
 have HK:=iK w 26 (vC k n f s);unfold vC at HK;by_cases hk:k=0
 ·subst hk
  rw[if_pos rfl];go_enter func207,ntmps207;exact iU
 ·rw[if_neg hk]
  have hk2:(k==0)=false:=by simpa using hk
  by_cases hl:64<key.size
  ·rw[if_pos hl]
   have hl2:64<(key.size:Int):=by omega
   go_enter func207,ntmps207;exact iU
  ·rw[if_neg hl]
   have hl2:¬64<(key.size:Int):=by omega
   go_enter func207,ntmps207;go_wp2_with refine au (bq HK 0) ?_;refine(HC.out _).mono ?_;rintro e w1 ⟨rfl,b1⟩;replace HK:=iy HK b1;exact iU
end
section
theorem gJ{l:List aK.Pr}{n:Nat}(hl:l.length=n)(hn:n≤8):(∀i,i<n→¬aK.Good l i→decide (aK.Right l)=false)∧((∀i,i<n→aK.Good l i)→decide (aK.Right l)=true):=by
 subst hl;exact⟨fun i hi hg=>decide_eq_false fun h=>hg (((aK.lg l).1 h).2 i hi),fun h=>decide_eq_true ((aK.lg l).2 ⟨hn,h⟩)⟩
theorem CU(A:Option Addr)(c n:Nat)(l:List aK.Pr)(w:World)(hs:Sl w A n c l):
  Calls prog 142 #[.slice A n c] w (cZ (decide (aK.Right l)) w):=by
 by_cases hn:8<n
 ·have hd:decide (aK.Right l)=false:=decide_eq_false fun h=>by have:=h.len;rw[hs.len] at this;omega
  rw[hd];have hn2:8<(n:Int):=by omega
  clear hs hd;go_enter func142,ntmps142;exact LK
 have HS:=zH hs;obtain⟨hno,hyes⟩:=gJ hs.len (by omega:n≤8);have gP:=zH hno;have iL:=zH hyes
 have HG:Hid (∀k,k<n→∃x,l[k]?=some x∧x.val.f<18446744073709551616):=zH fun k hk=>by
  exact ZO
 clear hs hno hyes;generalize decide (aK.Right l)=r at *
 have hn2:¬8<(n:Int):=by omega
 have HK:=zH (Kn.start w);go_enter func142,ntmps142;go_wp2_with fail;go_loopw [10] (fun vi wr=>∃k:Nat,k≤n∧vi=.int .i64 k∧Hid (∀i,i<k→aK.Good l i)∧Hid (Kn w.heap.size w wr [] [])) (fun vi _=>n-(intOf vi).toNat)
 case atStart=>exact⟨0,Nat.zero_le _,rfl,zH (fun i hi=>by omega),HK⟩
 case round=>
  clear HK;obtain⟨k,hk,rfl,iA,HK⟩:=hrel;by_cases hlt:k<n
  ·obtain⟨x,hx,hf⟩:=HG.out k hlt
   obtain⟨b,o,rfl,hat⟩:=HS.out.at (Nat.lt_of_le_of_lt (Nat.zero_le _) hlt);have HX:=zH (fun W hW=>hat W hW k x hx)
   have kY:Hid (∀j,k=j+1→∃y,l[j]?=some y∧∀W,Below w.heap.size w W→∀i v,(Tv y)[i]?=some v→W.cell? ⟨b,o+j*5+i,none⟩=some v):=zH fun j hj=>by
    exact Zo
   have LD:=zH (fun W=>GA x.key x.val W hf);have yE:Hid (aK.Good l k↔(aK.ji x.key x.val=0∧∀j y,k=j+1→l[j]?=some y→aK.lt y.key x.key=true)):=zH ⟨fun h=>h x hx,fun h x' hx'=>by rw[hx] at hx';injection hx' with hx';subst hx';exact h⟩;clear hat hf hx;obtain⟨key,vk,vn,vf,vs⟩:=x;unfold vv gX at LD;simp only at LD yE;generalize aK.ji key ⟨vk,vn,vf,vs⟩=z at *
   have hk1:(0:Int)≤(k:Int):=by omega
   have hk2:(k:Int)<(n:Int):=by omega
   go_wp2_with (first|(refine au (v:=.agg (yZ ⟨key,vk,vn,vf,vs⟩)) (nV (off:=o+k*5) (HX.out _ HK.out.b)) ?_)|(refine JJ HK rfl rfl ?_;clear HK;intro _ g2 HK;simp only[aJ] at HK)|(refine NY (p1:=⟨⟨#[]⟩,⟨0,0,0,⟨#[]⟩⟩⟩) HK 0 rfl rfl rfl rfl rfl ?_;clear HK;intro _ HK;simp only[lS] at HK));unfold yZ at HK;simp only at HK;by_cases hz:z=0
   ·subst hz
    rcases Nat.eq_zero_or_pos k with rfl|hpos
    ·clear kY
     refine zR HK.out.drew fun ah=>?_
     refine ak 0 rfl ?_;refine ak 1 rfl ?_ fun _ s=>mY s 0
     refine ak 2 rfl ?_;refine ak 3 rfl ?_ fun _ s=>uf s 0
     refine aC 4 rfl fun K hK=>?_
     go_simp;go_at_call 207;refine(LD.out _).mono ?_;rintro e w5 ⟨rfl,b5⟩;have hs:=zH (ah.out.call b5);clear b5;refine bk hK hs fun ah=>?_
     clear hK K;refine ak 5 rfl ?_;refine ak 6 rfl ?_;refine ak 7 rfl ?_;refine ak 8 rfl ?_;refine ak 9 rfl ?_;refine bF 10 rfl ?_;refine bF 11 rfl ?_;refine bF 12 rfl ?_;refine bF 13 rfl ?_;refine bF 14 rfl ?_;refine bF 15 rfl ?_;refine bF 16 rfl ?_;refine bF 17 rfl ?_;refine bF 18 rfl ?_;refine ak 19 rfl ?_;refine ak 20 rfl ?_;refine bW ?_;go_wp2_with fail
     exact⟨⟨1,by omega,by go_num,zH (fun i hi=>by
      obtain rfl:i=0:=by omega
      exact yE.out.2 ⟨rfl,fun j y h _=>by omega⟩),zH (ah.out.aA 0)⟩,by simp[intOf];omega⟩
    ·obtain⟨j,rfl⟩:∃j,k=j+1:=⟨k-1,by omega⟩
     clear hpos;obtain⟨y,hy,MQ⟩:=kY.out j rfl;have HY:=zH MQ;have Zb:=zH hy;clear hy MQ kY;have hj:j<n:=by omega
     have hj2:j<9223372036854775807:=by omega
     have hj3:((j+1:Nat):Int) > 0:=by omega
     cases hlt2:aK.lt y.key key with
     | true=>
      have hb:(!aK.lt y.key key)=false:=by rw[hlt2];rfl
      refine zR HK.out.drew fun ah=>?_
      refine ak 0 rfl ?_;refine ak 1 rfl ?_ fun _ s=>mY s 0
      refine ak 2 rfl ?_;refine ak 3 rfl ?_ fun _ s=>uf s 0
      refine aC 4 rfl fun K hK=>?_
      go_simp;go_at_call 207;refine(LD.out _).mono ?_;rintro e w5 ⟨rfl,b5⟩;have hs:=zH (ah.out.call b5);clear b5;refine bk hK hs fun ah=>?_
      clear hK K;refine ak 5 rfl ?_;refine ak 6 rfl ?_;refine ak 7 rfl ?_;refine ak 8 rfl ?_;refine ak 9 rfl ?_;refine ak 10 rfl ?_;refine ak 11 rfl ?_ fun _ s=>mY s 0
      refine ak 12 rfl ?_;refine ak 13 rfl ?_;refine ak 14 rfl ?_ fun _ s=>iI (j:=j) hj2
      refine ak 15 rfl ?_ fun _ s=>eO (i:=j) hj
      refine ak 16 rfl ?_;refine ak 17 rfl ?_ fun _ s=>eG (off:=o+j*5) (HY.out _ s.out.b)
      refine ak 18 rfl ?_ fun _ s=>wO hb
      refine ak 19 rfl ?_;refine ak 20 rfl ?_;refine bW ?_;go_wp2_with fail
      exact⟨⟨j+2,by omega,by go_num,zH (fun i hi=>by
       by_cases hij:i=j+1
       ·subst hij
        exact abj
       ·exact iA.out i (by omega)),zH (ah.out.aA 0)⟩,by simp[intOf];omega⟩
     | false=>
      have hb:(!aK.lt y.key key)=true:=by rw[hlt2];rfl
      have HR:Hid (r=false):=zH (gP.out _ hlt fun h=>by
       have:=(yE.out.1 h).2 j y rfl Zb.out
       rw[hlt2] at this;cases this)
      refine zR HK.out.drew fun ah=>?_
      refine ak 0 rfl ?_;refine ak 1 rfl ?_ fun _ s=>mY s 0
      refine ak 2 rfl ?_;refine ak 3 rfl ?_ fun _ s=>uf s 0
      refine aC 4 rfl fun K hK=>?_
      go_simp;go_at_call 207;refine(LD.out _).mono ?_;rintro e w5 ⟨rfl,b5⟩;have hs:=zH (ah.out.call b5);clear b5;refine bk hK hs fun ah=>?_
      clear hK K;refine ak 5 rfl ?_;refine ak 6 rfl ?_;refine ak 7 rfl ?_;refine ak 8 rfl ?_;refine ak 9 rfl ?_;refine ak 10 rfl ?_;refine ak 11 rfl ?_ fun _ s=>mY s 0
      refine ak 12 rfl ?_;refine ak 13 rfl ?_;refine ak 14 rfl ?_ fun _ s=>iI (j:=j) hj2
      refine ak 15 rfl ?_ fun _ s=>eO (i:=j) hj
      refine ak 16 rfl ?_;refine ak 17 rfl ?_ fun _ s=>eG (off:=o+j*5) (HY.out _ s.out.b)
      refine ak 18 rfl ?_ fun _ s=>wO hb
      refine ak 19 rfl ?_;refine ak 20 rfl ?_;exact rQ
   ·have HR:Hid (r=false):=zH (gP.out k hlt fun h=>hz (yE.out.1 h).1)
    have hz2:(z != 0)=true:=by simpa using hz
    refine zR HK.out.drew fun ah=>?_
    refine ak 0 rfl ?_;refine ak 1 rfl ?_ fun _ s=>mY s 0
    refine ak 2 rfl ?_;refine ak 3 rfl ?_ fun _ s=>uf s 0
    refine aC 4 rfl fun K hK=>?_
    go_simp;go_at_call 207;refine(LD.out _).mono ?_;rintro e w5 ⟨rfl,b5⟩;have hs:=zH (ah.out.call b5);clear b5;refine bk hK hs fun ah=>?_
    clear hK K;refine ak 5 rfl ?_;refine ak 6 rfl ?_;refine bF 7 rfl ?_;refine bF 8 rfl ?_;refine bF 9 rfl ?_;refine bF 10 rfl ?_;refine bF 11 rfl ?_;refine bF 12 rfl ?_;refine bF 13 rfl ?_;refine bF 14 rfl ?_;refine bF 15 rfl ?_;refine bF 16 rfl ?_;refine bF 17 rfl ?_;refine bF 18 rfl ?_;refine bF 19 rfl ?_;refine ak 20 rfl ?_;exact rQ
  ·obtain rfl:k=n:=by omega
   have HR:Hid (r=true):=zH (iL.out iA.out);exact rP
theorem GQ(A:Option Addr)(c n:Nat)(l:List aK.Pr)(w:World)(hs:Sl w A n c l):
  Calls prog 260 #[.slice A n c] w (gX (aK.Ce l) w):=by
 have HR:=zH (CU A c n l w hs);clear hs;unfold gX cZ at *
 by_cases h:aK.Right l
 ·rw[decide_eq_true h] at HR
  rw[aK.zC h];clear h;go_enter func260,ntmps260;exact Xd
 ·rw[decide_eq_false h] at HR
  rw[aK.wF h];clear h;go_enter func260,ntmps260;exact Xd
end
section
theorem Gb(v:Val.V)(w:World)(hf:vF v):
  Calls prog 208 #[vv v] w (gX (dK.jq v) w):=by
 have HC:=zH (fun W=>qy v W hf);clear hf;unfold dK.jq;obtain⟨k,n,f,s⟩:=v;unfold vv gX at *
 simp only at HC ⊢;generalize Val.bG ⟨k,n,f,s⟩=z at *
 have HK:=iK w 26 (vC k n f s);unfold vC at HK;by_cases hk:k=0
 ·subst hk
  rw[if_pos rfl];go_enter func208,ntmps208;exact iU
 ·rw[if_neg hk]
  have hk2:(k==0)=false:=by simpa using hk
  go_enter func208,ntmps208;go_wp2_with refine au (bq HK 0) ?_;refine(HC.out _).mono ?_;rintro e w1 ⟨rfl,b1⟩;replace HK:=iy HK b1;exact iU
theorem Av(N:Int)(A:Option Addr)(c n:Nat)(l:List Val.V)(w:World)(hs:bJ bg vF w A n c l):
  Calls prog 143 #[.int .i64 N,.slice A n c] w (cZ (decide (dK.Right N l)) w):=by
 have HK:=zH (Kn.start w);by_cases h1:N<1
 ·have hd:decide (dK.Right N l)=false:=decide_eq_false fun h=>by have:=h.lo;omega
  rw[hd];clear hs hd;go_enter func143,ntmps143;exact iU
 by_cases h2:8<N
 ·have hd:decide (dK.Right N l)=false:=decide_eq_false fun h=>by have:=h.hi;omega
  rw[hd];clear hs hd;go_enter func143,ntmps143;exact iU
 by_cases h3:N<(n:Int)
 ·have hd:decide (dK.Right N l)=false:=decide_eq_false fun h=>by have:=h.len;rw[hs.len] at this;omega
  rw[hd];clear hs hd;go_enter func143,ntmps143;exact iU
 obtain⟨hno,hyes⟩:=dK.gJ (n:=N) (l:=l) hs.len (by omega) (by omega) (by omega);have gP:=zH hno;have iL:=zH hyes;have HS:=zH hs;have hn9:n<9:=by omega
 clear hs hno hyes;generalize decide (dK.Right N l)=r at *
 go_enter func143,ntmps143;go_wp2_with fail;go_loopw [21] (fun vi wr=>∃k:Nat,k≤n∧vi=.int .i64 k∧Hid (∀(i:Nat) v,i<k→l[i]?=some v→dK.jq v=0)∧Hid (Kn w.heap.size w wr [] [])) (fun vi _=>n-(intOf vi).toNat)
 case atStart=>exact⟨0,Nat.zero_le _,rfl,zH (fun i v hi=>by omega),HK⟩
 case round=>
  clear HK;obtain⟨k,hk,rfl,iA,HK⟩:=hrel;have hk1:(0:Int)≤(k:Int):=by omega
  by_cases hlt:k<n
  ·have hk2:(k:Int)<(n:Int):=by omega
   have hk3:k<9223372036854775807:=by omega
   obtain⟨x,hx,hf⟩:=HS.out.get hlt;obtain⟨b,o,rfl,hat⟩:=HS.out.at (Nat.lt_of_le_of_lt (Nat.zero_le _) hlt);have HX:=zH (fun W hW=>hat W hW k x hx);have HV:=zH (fun W=>Gb x W hf);have HN:=zH (gP.out k x hx)
   have nZ:Hid (dK.jq x=0→∀(i:Nat) v,i<k+1→l[i]?=some v→dK.jq v=0):=zH fun h i v hi hv=>by
    by_cases hik:i=k
    ·subst hik;rw[hx] at hv;injection hv with hv;subst hv;exact h
    ·exact iA.out i v (by omega) hv
   clear hat hx hf;obtain⟨vk,vn,vf,vs⟩:=x;unfold vv gX at HV;simp only at HV;generalize dK.jq ⟨vk,vn,vf,vs⟩=z at *
   go_wp2_with (first|refine au (wR (off:=o+k*4) (HX.out _ HK.out.b)) ?_|(refine aN HK ?_;clear HK;intro _ g2 HK;simp only[aO,aJ] at HK)|(refine aM (f2:=vf) HK 0 ?_;clear HK;intro _ HK;simp only[lS] at HK)|refine au (bq HK 0) ?_);refine cb (HV.out _) HK ?_;clear HK;intro _ HK;by_cases hz:z=0
   ·subst hz
    replace nZ:=zH (nZ.out rfl);go_wp2_with refine au (aL (j:=k) hk3) ?_;exact⟨⟨k+1,hlt,rfl,nZ,zH (HK.out.aA 0)⟩,by simp[intOf];omega⟩
   ·have hz2:(z != 0)=true:=by simpa using hz
    have HR:=zH (HN.out hz);exact rP
  ·obtain rfl:k=n:=by omega
   have HR:Hid (r=true):=zH (iL.out iA.out);exact rP
theorem Gx(N:Int)(A:Option Addr)(c n:Nat)(l:List Val.V)(w:World)(hs:bJ bg vF w A n c l):
  Calls prog 264 #[.int .i64 N,.slice A n c] w (gX (dK.Cc N l) w):=by
 have HR:=zH (Av N A c n l w hs);clear hs;unfold gX cZ at *
 by_cases h:dK.Right N l
 ·rw[decide_eq_true h] at HR
  rw[dK.zy h];clear h;go_enter func264,ntmps264;exact Xd
 ·rw[decide_eq_false h] at HR
  rw[dK.wu h];clear h;go_enter func264,ntmps264;exact Xd
end
section
theorem wX(x:Rf)(w:World):Calls prog 60 #[.agg #[.int .i64 x.c,.int .i64 x.e,.int .i64 x.r]] w (cZ (decide (aS.ok x)) w):=by
 have HE:Hid (∀q:Bool,(q=true↔(0≤x.c∧x.c<5∧1≤x.e∧0≤x.r))→q=decide (aS.ok x)):=zH fun q hq=>by
  exact FW
 generalize decide (aS.ok x)=r at *
 obtain⟨c,ep,rq⟩:=x;simp only at HE ⊢;have HK:=iK w 35 #[.int .i64 c,.int .i64 ep,.int .i64 rq];go_enter func60,ntmps60;go_wp2_with fail
 all_goals
  go_ret;refine⟨congrArg (fun b=>Ending.returned (.bool b)) (HE.out _ ?_),HK.out.b⟩;clear HE HK
  simp_all<;>omega
theorem gu(x:Rf)(w:World):Calls prog 69 #[.agg #[.int .i64 x.c,.int .i64 x.e,.int .i64 x.r]] w (cZ (decide (aS.ok x)) w):=by
 have HE:Hid (∀q:Bool,(q=true↔(0≤x.c∧x.c<5∧1≤x.e∧0≤x.r))→q=decide (aS.ok x)):=zH fun q hq=>by
  exact FW
 generalize decide (aS.ok x)=r at *
 obtain⟨c,ep,rq⟩:=x;simp only at HE ⊢;have HK:=iK w 35 #[.int .i64 c,.int .i64 ep,.int .i64 rq];go_enter func69,ntmps69;go_wp2_with fail
 all_goals
  go_ret;refine⟨congrArg (fun b=>Ending.returned (.bool b)) (HE.out _ ?_),HK.out.b⟩;clear HE HK
  simp_all<;>omega
end
section
theorem DW(A:Option Addr)(c n:Nat)(l:List Rf)(q:Int)(w:World)(hs:bJ aG rF w A n c l):
  Calls prog 209 #[.slice A n c,.int .i64 q] w (cZ (aS.asked l q) w):=by
 obtain⟨hyes,hno⟩:=aS.jI hs.len q;have iL:=zH hyes;have gP:=zH hno;have HS:=zH hs;have HK:=zH (Kn.start w)
 have hn63:n<9223372036854775807:=by
  exact FV
 clear hs hyes hno;generalize aS.asked l q=r at *
 go_enter func209,ntmps209;go_wp2_with fail;go_loopw [9] (fun vi wr=>∃k:Nat,k≤n∧vi=.int .i64 k∧Hid (∀(i:Nat) x,i<k→l[i]?=some x→¬x.c=q)∧Hid (Kn w.heap.size w wr [] [])) (fun vi _=>n-(intOf vi).toNat)
 case atStart=>exact⟨0,Nat.zero_le _,rfl,zH (fun i v hi=>by omega),HK⟩
 case round=>
  clear HK;obtain⟨k,hk,rfl,iA,HK⟩:=hrel;have hk1:(0:Int)≤(k:Int):=by omega
  by_cases hlt:k<n
  ·have hk2:(k:Int)<(n:Int):=by omega
   have hk3:k<9223372036854775807:=by omega
   obtain⟨x,hx,_⟩:=HS.out.get hlt;obtain⟨b,o,rfl,hat⟩:=HS.out.at (Nat.lt_of_le_of_lt (Nat.zero_le _) hlt);have HX:=zH (fun W hW=>hat W hW k x hx);have HY:=zH (iL.out k x hx)
   have nZ:Hid (¬x.c=q→∀(i:Nat) v,i<k+1→l[i]?=some v→¬v.c=q):=zH fun h i v hi hv=>by
    by_cases hik:i=k
    ·subst hik;rw[hx] at hv;injection hv with hv;subst hv;exact h
    ·exact iA.out i v (by omega) hv
   clear hat hx;by_cases he:x.c=q
   ·have HR:=zH (HY.out he)
    have he2:(x.c==q)=true:=by simpa using he
    clear he nZ HY;go_wp2_with (first|refine zX (bV (x:=x) (off:=o+k*3) (HX.out _ HK.out.b)) ?_|(refine aQ HK ?_;clear HK;intro _ g2 HK;simp only[aO,aJ] at HK)|(refine aW HK 0 ?_;clear HK;intro _ HK;simp only[lS] at HK)|refine zX (fH HK 0) ?_);exact abv
   ·have he2:(x.c==q)=false:=by simpa using he
    exact aez
  ·obtain rfl:k=n:=by omega
   have HR:=zH (gP.out iA.out);exact rP
theorem EN(x r:Rf):(!decide ((⟨x.c,x.e,0⟩:Rf)=⟨r.c,r.e,0⟩))=!decide (aS.mine x r):=by
 by_cases h:aS.mine x r
 ·rw[decide_eq_true h,decide_eq_true (by rw[h.1,h.2])]
 ·rw[decide_eq_false h,decide_eq_false (fun e=>h (by injection e with e1 e2;exact⟨e1,e2⟩))]
theorem Ih(r:Rf):Fits aG rF [r]:=⟨fun x hx=>trivial,by show 1*24≤_;decide⟩
end
section
theorem nM(A:Option Addr)(c n:Nat)(l:List Rf)(w:World)(hs:bJ aG rF w A n c l):
  Calls prog 144 #[.slice A n c] w (cZ (decide (aS.Right l)) w):=by
 obtain⟨hno,hyes⟩:=aS.gJ hs.len;have gP:=zH hno;have iL:=zH hyes;have HS:=zH hs;have HC:=zH (fun x W=>wX x W);have Ct:=zH (fun W A c n l q (h:bJ aG rF W A n c l)=>DW A c n l q W h);have HK:=zH (Kn.start w)
 have hn63:n<9223372036854775807:=by
  exact FV
 have hnc:n≤c:=hs.cap;clear hs hyes hno;unfold cZ at *
 generalize decide (aS.Right l)=r at *
 go_enter func144,ntmps144;go_wp2_with fail;go_loopw [7] (fun vi wr=>∃k:Nat,k≤n∧vi=.int .i64 k∧Hid (∀(i:Nat) x,i<k→l[i]?=some x→aS.ok x∧aS.asked (l.take i) x.c=false)∧Hid (Kn w.heap.size w wr [] [])) (fun vi _=>n-(intOf vi).toNat)
 case atStart=>exact⟨0,Nat.zero_le _,rfl,zH (fun i v hi=>by omega),HK⟩
 case round=>
  clear HK;obtain⟨k,hk,rfl,iA,HK⟩:=hrel;have hk1:(0:Int)≤(k:Int):=by omega
  by_cases hlt:k<n
  ·have hk2:(k:Int)<(n:Int):=by omega
   have hk3:k<9223372036854775807:=by omega
   have hkc:k≤c:=by omega
   obtain⟨x,hx,_⟩:=HS.out.get hlt;have HP:=zH (fun W (hW:Below w.heap.size w W)=>Ct.out W A c k (l.take k) x.c ((HS.out.later hW).take hk));obtain⟨b,o,rfl,hat⟩:=HS.out.at (Nat.lt_of_le_of_lt (Nat.zero_le _) hlt);have HX:=zH (fun W hW=>hat W hW k x hx);have HN:=zH (gP.out k x hlt hx)
   have nZ:Hid (aS.ok x∧aS.asked (l.take k) x.c=false→∀(i:Nat) v,i<k+1→l[i]?=some v→aS.ok v∧aS.asked (l.take i) v.c=false):=zH fun h i v hi hv=>by
    by_cases hik:i=k
    ·subst hik;rw[hx] at hv;injection hv with hv;subst hv;exact h
    ·exact iA.out i v (by omega) hv
   clear hat hx gP Ct;have WZ:=zH (fun W=>HC.out x W);clear HC;by_cases hok:aS.ok x
   case neg=>
    have HR:=zH (HN.out (fun h=>hok h.1));rw[decide_eq_false hok] at WZ;clear hok HN nZ HP;go_wp2_with (first|refine zX (bV (x:=x) (off:=o+k*3) (HX.out _ HK.out.b)) ?_|(refine aQ HK ?_;clear HK;intro _ g2 HK;simp only[aO,aJ] at HK)|(refine aW HK 0 ?_;clear HK;intro _ HK;simp only[lS] at HK));refine zR HK.out.drew fun ah=>?_
    refine ak 0 rfl ?_ fun _ s=>aB s 0
    refine aC 1 rfl fun K hK=>?_
    go_simp;go_at_call 60;refine(WZ.out _).mono ?_;rintro e w5 ⟨rfl,b5⟩;have hs:=zH (ah.out.call b5);clear b5;refine bk hK hs fun ah=>?_
    clear hK K;refine ak 2 rfl ?_;refine ak 3 rfl ?_;refine bF 4 rfl ?_;refine bF 5 rfl ?_;refine bF 6 rfl ?_;refine bF 7 rfl ?_;refine bF 8 rfl ?_;refine bF 9 rfl ?_;refine ak 10 rfl ?_;exact rQ
   case pos=>
   rw[decide_eq_true hok] at WZ;by_cases has:aS.asked (l.take k) x.c=true
   ·have HR:=zH (HN.out (fun h=>by rw[has] at h;cases h.2))
    rw[has] at HP;clear hok HN nZ has;go_wp2_with (first|refine zX (bV (x:=x) (off:=o+k*3) (HX.out _ HK.out.b)) ?_|(refine aQ HK ?_;clear HK;intro _ g2 HK;simp only[aO,aJ] at HK)|(refine aW HK 0 ?_;clear HK;intro _ HK;simp only[lS] at HK));refine zR HK.out.drew fun ah=>?_
    refine ak 0 rfl ?_ fun _ s=>aB s 0
    refine aC 1 rfl fun K hK=>?_
    go_simp;go_at_call 60;refine(WZ.out _).mono ?_;rintro e w5 ⟨rfl,b5⟩;have hs:=zH (ah.out.call b5);clear b5;refine bk hK hs fun ah=>?_
    clear hK K;refine ak 2 rfl ?_;refine ak 3 rfl ?_;refine ak 4 rfl ?_;refine ak 5 rfl ?_;refine ak 6 rfl ?_ fun _ s=>Bn (hi:=k) hkc
    refine ak 7 rfl ?_;refine ak 8 rfl ?_ fun _ s=>fH s 0
    refine aC 9 rfl fun K hK=>?_
    go_simp;go_at_call 209;refine(HP.out _ ah.out.b).mono ?_;rintro e w5 ⟨rfl,b5⟩;have hs:=zH (ah.out.call b5);clear b5;refine bk hK hs fun ah=>?_
    clear hK K;refine ak 10 rfl ?_;exact rQ
   ·have acX:aS.asked (l.take k) x.c=false:=Bool.eq_false_iff.2 has
    replace nZ:=zH (nZ.out ⟨hok,acX⟩);rw[acX] at HP;clear hok HN has acX;go_wp2_with (first|refine zX (bV (x:=x) (off:=o+k*3) (HX.out _ HK.out.b)) ?_|(refine aQ HK ?_;clear HK;intro _ g2 HK;simp only[aO,aJ] at HK)|(refine aW HK 0 ?_;clear HK;intro _ HK;simp only[lS] at HK));refine zR HK.out.drew fun ah=>?_
    refine ak 0 rfl ?_ fun _ s=>aB s 0
    refine aC 1 rfl fun K hK=>?_
    go_simp;go_at_call 60;refine(WZ.out _).mono ?_;rintro e w5 ⟨rfl,b5⟩;have hs:=zH (ah.out.call b5);clear b5;refine bk hK hs fun ah=>?_
    clear hK K;refine ak 2 rfl ?_;refine ak 3 rfl ?_;refine ak 4 rfl ?_;refine ak 5 rfl ?_;refine ak 6 rfl ?_ fun _ s=>Bn (hi:=k) hkc
    refine ak 7 rfl ?_;refine ak 8 rfl ?_ fun _ s=>fH s 0
    refine aC 9 rfl fun K hK=>?_
    go_simp;go_at_call 209;refine(HP.out _ ah.out.b).mono ?_;rintro e w5 ⟨rfl,b5⟩;have hs:=zH (ah.out.call b5);clear b5;refine bk hK hs fun ah=>?_
    clear hK K;refine ak 10 rfl ?_;refine bW ?_;replace HK:=ah;clear ah;go_wp2_with refine zX (aL (j:=k) hk3) ?_;exact⟨⟨k+1,hlt,rfl,nZ,zH (HK.out.aA 0)⟩,by simp[intOf];omega⟩
  ·obtain rfl:k=n:=by omega
   have HR:=zH (iL.out iA.out);exact rP
theorem lU(A:Option Addr)(c n:Nat)(l:List Rf)(w:World)(hs:bJ aG rF w A n c l):
  Calls prog 151 #[.slice A n c] w (cZ (decide (aS.Right l)) w):=by
 obtain⟨hno,hyes⟩:=aS.gJ hs.len;have gP:=zH hno;have iL:=zH hyes;have HS:=zH hs;have HC:=zH (fun x W=>gu x W);have HK:=zH (Kn.start w)
 have hn63:n<9223372036854775807:=by
  exact FV
 have HLen:=zH hs.len;clear hs hyes hno;unfold cZ at *
 generalize decide (aS.Right l)=r at *
 go_enter func151,ntmps151;go_wp2_with fail;go_loopw [3] (fun vi wr=>∃k:Nat,k≤n∧vi=.int .i64 k∧Hid (∀(i:Nat) x,i<k→l[i]?=some x→aS.ok x∧aS.asked (l.take i) x.c=false)∧Hid (Kn w.heap.size w wr [] [])) (fun vi _=>n-(intOf vi).toNat)
 case atStart=>exact⟨0,Nat.zero_le _,rfl,zH (fun i v hi=>by omega),HK⟩
 case round=>
  clear HK;obtain⟨k,hk,rfl,iA,HK⟩:=hrel;have hk1:(0:Int)≤(k:Int):=by omega
  by_cases hlt:k<n
  ·have hk2:(k:Int)<(n:Int):=by omega
   have hk3:k<9223372036854775807:=by omega
   obtain⟨x,hx,_⟩:=HS.out.get hlt;obtain⟨b,o,rfl,hat⟩:=HS.out.at (Nat.lt_of_le_of_lt (Nat.zero_le _) hlt);have HX:=zH (fun W hW=>hat W hW k x hx);have HN:=zH (gP.out k x hlt hx)
   have nZ:Hid (aS.ok x∧aS.asked (l.take k) x.c=false→∀(i:Nat) v,i<k+1→l[i]?=some v→aS.ok v∧aS.asked (l.take i) v.c=false):=zH fun h i v hi hv=>by
    by_cases hik:i=k
    ·subst hik;rw[hx] at hv;injection hv with hv;subst hv;exact h
    ·exact iA.out i v (by omega) hv
   have WZ:=zH (fun W=>HC.out x W)
   have HY:Hid (∀j,j<k→∃y,l[j]?=some y∧(∀W,Below w.heap.size w W→∀(i:Nat) v,(WR y)[i]?=some v→W.cell? ⟨b,o+j*3+i,none⟩=some v)):=zH fun j hj=>by
    obtain⟨y,hy⟩:=Lay.fI (l:=l) (k:=j) (by rw[HLen.out];omega);exact⟨y,hy,fun W hW=>hat W hW j y hy⟩
   have HTd:=zH (aS.jI (l:=l.take k) (n:=k) (by rw[List.length_take,HLen.out];omega) x.c);clear hat hx gP HC;by_cases hok:aS.ok x
   case neg=>
    have HR:=zH (HN.out (fun h=>hok h.1));rw[decide_eq_false hok] at WZ;clear hok HN nZ HTd;go_wp2_with refine zX (bV (x:=x) (off:=o+k*3) (HX.out _ HK.out.b)) ?_;refine cb (WZ.out _) HK ?_;clear HK;intro _ HK;exact rP
   case pos=>
   rw[decide_eq_true hok] at WZ;have iw:=zH hok;clear hok;go_wp2_with refine zX (bV (x:=x) (off:=o+k*3) (HX.out _ HK.out.b)) ?_;refine cb (WZ.out _) HK ?_;clear HK;intro _ HK;go_wp2_with fail;go_loopw [4] (fun vj wr=>∃j:Nat,j≤k∧vj=.int .i64 j∧Hid (∀(i:Nat) y,i<j→(l.take k)[i]?=some y→¬y.c=x.c)∧Hid (Kn w.heap.size w wr [] [])) (fun vj _=>k-(intOf vj).toNat)
   case atStart=>exact⟨0,Nat.zero_le _,rfl,zH (fun i v hi=>by omega),HK⟩
   case round=>
    clear HK;obtain⟨j,hj,rfl,LG,HK⟩:=hrel;have hj1:(0:Int)≤(j:Int):=by omega
    by_cases hjk:j<k
    ·have hj2:(j:Int)<(k:Int):=by omega
     have hj3:j<9223372036854775807:=by omega
     have hjn:j<n:=by omega
     obtain⟨y,hy,MQ⟩:=HY.out j hjk;have HYc:=zH MQ;have hyt:(l.take k)[j]?=some y:=by rw[List.getElem?_take,if_pos hjk,hy]
     have HAk:Hid (¬y.c=x.c→∀(i:Nat) v,i<j+1→(l.take k)[i]?=some v→¬v.c=x.c):=zH fun h i v hi hv=>by
      by_cases hij:i=j
      ·subst hij;rw[hyt] at hv;injection hv with hv;subst hv;exact h
      ·exact LG.out i v (by omega) hv
     have WH:=zH (HTd.out.1 j y hyt);clear hy MQ hyt;go_wp2_with fail;by_cases he:y.c=x.c
     ·have hb:(y.c==x.c)=true:=by simpa using he
      have HR:=zH (HN.out (fun h=>by rw[WH.out he] at h;cases h.2));clear he HAk WH HTd HN;refine zR HK.out.drew fun ah=>?_
      refine ak 0 rfl ?_;refine ak 1 rfl ?_;refine ak 2 rfl ?_ fun _ s=>dM (i:=j) hjn
      refine ak 3 rfl ?_;refine ak 4 rfl ?_ fun _ s=>nU (x:=y) (off:=o+j*3) (HYc.out _ s.out.b)
      refine ak 5 rfl ?_;refine ak 6 rfl ?_;refine ak 7 rfl ?_ fun _ s=>dM (i:=k) hlt
      refine ak 8 rfl ?_;refine ak 9 rfl ?_ fun _ s=>nU (x:=x) (off:=o+k*3) (HX.out _ s.out.b)
      refine ak 10 rfl ?_;exact rQ
     ·have hb:(y.c==x.c)=false:=by simpa using he
      replace HAk:=zH (HAk.out he);clear he WH HTd HN;refine zR HK.out.drew fun ah=>?_
      refine ak 0 rfl ?_;refine ak 1 rfl ?_;refine ak 2 rfl ?_ fun _ s=>dM (i:=j) hjn
      refine ak 3 rfl ?_;refine ak 4 rfl ?_ fun _ s=>nU (x:=y) (off:=o+j*3) (HYc.out _ s.out.b)
      refine ak 5 rfl ?_;refine ak 6 rfl ?_;refine ak 7 rfl ?_ fun _ s=>dM (i:=k) hlt
      refine ak 8 rfl ?_;refine ak 9 rfl ?_ fun _ s=>nU (x:=x) (off:=o+k*3) (HX.out _ s.out.b)
      refine ak 10 rfl ?_;refine bW ?_;go_wp2_with refine zX (aL (j:=j) hj3) ?_;exact⟨⟨j+1,hjk,rfl,HAk,ah⟩,by simp[intOf];omega⟩
    ·obtain rfl:j=k:=by omega
     replace nZ:=zH (nZ.out ⟨iw.out,HTd.out.2 LG.out⟩);clear HTd LG HN;go_wp2_with refine zX (aL (j:=j) hk3) ?_;exact⟨⟨j+1,hlt,rfl,nZ,HK⟩,by simp[intOf];omega⟩
  ·obtain rfl:k=n:=by omega
   have HR:=zH (iL.out iA.out);exact rP
end
end Go.Proofs.YtieoeendnccafaaGreat
