/- What the document's hold returns: a request for a lock, or one that gives it up. No condition but those named. -/
import Derived.Test.YtieoeendnccafaaGreatNBH
set_option linter.unusedSimpArgs false
set_option linter.unusedVariables false
set_option maxRecDepth 100000
set_option maxHeartbeats 25600000
open Go.RowKit
namespace Go.Proofs.YtieoeendnccafaaGreat
open _root_.Go.Proofs.Tryz
section
def pG(G:World→Prop)(oc:av.Oc)(w:World)(e:Ending)(w':World):Prop:=∃(y:Oh) (Rn:List dA),e=.returned (.tuple #[.agg (bS y),.agg (cB oc.p)])∧Hid (y.v=oc.o)∧Kn w.heap.size w w' [] Rn∧Hid (∀(b:Nat) (W0 W:World) L R,Kn b W0 W L R→(∀z∈Rn,z∈R)→G W→In W y)
theorem sH{fn:Func}{R:Ending→World→Prop}{a:Act}{w:World}{B D:Nat}{x:Oh}{p:av.Rp}{q q2:Tmp}(hf:fn.results=#[.cell q 63,.cell q2 28])(hb:gD w B 63 (bS x))(hc:gD w D 28 (cB p))
  (hR:R (.returned (.tuple #[.agg (bS x),.agg (cB p)])) w) (h2:a.tmps[q]?=some (.pointer (some ⟨B,0,none⟩)):=by rfl)(h3:a.tmps[q2]?=some (.pointer (some ⟨D,0,none⟩)):=by rfl)(hd:a.defers=[]:=by rfl):bodyPost prog fn R Exit.ret a w:=by
 refine bodyPost_ret (v:=.tuple #[.agg (bS x),.agg (cB p)]) ?_ hd hR;have h:(loadVar 63 ⟨B,0,none⟩).run prog w=.ok (.agg (bS x)) w:=run_loadVar_row (P:=prog) w B _ _ _ (0,0) _ hb underlying63 rfl zI;have h':(loadVar 28 ⟨D,0,none⟩).run prog w=.ok (.agg (cB p)) w:=run_loadVar_row (P:=prog) w D _ _ _ (0,0) _ hc underlying28 rfl jm;simp[results,hf,asAddr,Sem.run_bind,h2,h3,h,h']
theorem jf{w:World}{o:Oper}{a:Act}{z:Int}{v:Val.V}{p:Operand}{q:Operand}(ho:o.op=.build 28 #[(0,p),(1,q)]:=by rfl)(hp:a.eval p=.int .i64 z:=by rfl)(hq:a.eval q=.agg #[.int .i64 v.k,.int .i64 v.n,.int .u64 (v.f:Int),.string v.s]:=by rfl):
  (execOp a.eval o).run prog w=.ok (.value (.agg (cB ⟨z,v⟩))) w:=by
 have h:(Instr.build 28 #[(0,.int .i64 z),(1,.agg #[.int .i64 v.k,.int .i64 v.n,.int .u64 (v.f:Int),.string v.s])]).run prog w=.ok (.agg (cB ⟨z,v⟩)) w:=by
  unfold cB;go_simp
 unfold execOp;simp only[ho,Sem.run_bind,Sem.run_pure,Result.andThen_ok,List.map_toArray,List.map_cons,List.map_nil,hp,hq,h]
theorem Sw(G:World→Prop)(x:Oh)(r:Rf)(c:aF.C)(w:World)(hG:∀W,G W→In W x)(hx:In w x)(hv:c.val.f<18446744073709551616)(hk:c.k=6):Calls prog 139 #[.agg (bS x),.agg (dh c)] w (pG G (av.act x.v r c) w):=by
 have he:av.act x.v r c=⟨x.v,⟨aK.pE x.v.dP c.key,aK.pK x.v.dP c.key⟩,false,[]⟩:=by
  exact oV
 rw[he];clear he;have HI:=zH hG;have HT:=zH (fun W (hW:Below w.heap.size w W)=>Am x.pA x.pc x.pn x.v.dP c.key W (hx.p.later hW));have HK:=Cg w 63 (bS x) 37 (dh c) 63 (bS rU) 28 (cB av.rz);clear hx hv hG;unfold pG;unfold qU vv at HT;simp only;generalize aK.pK x.v.dP c.key=v at *
 generalize aK.pE x.v.dP c.key=z at *
 go_enter func139,ntmps139;go_wp2_with (first|(refine aN HK ?_;clear HK;intro _ g7 HK;simp only[aO,aJ] at HK)|refine zX (bK HK 1) ?_|refine zX (mK HK 0) ?_|refine zX (yP HK 1) ?_);refine cb (HT.out _ HK.out.b) HK ?_;clear HK;intro _ HK;go_wp2_with (refine aM (f2:=v.f) HK 4 ?_;clear HK;intro _ HK;simp only[lS] at HK);have aj:=zH HK.out.drew;refine wp_region_held_drew (S:=(fun W=>Hid (Kn w.heap.size w W [(w.heap.size,63,bS (x)),(w.heap.size+1,37,dh c)] [])∧Hid (Kn w.heap.size w W [(g7,26,vC v.k v.n v.f v.s)] []))) (by kernel_rfl) ?_ fun ah=>?_
 ·(try dsimp only);exact And.intro (zH ((aj.out.aA 2).ay 0)) (zH ((aj.out.aI 4).ay 0))
 refine ak 0 rfl ?_ fun _ s=>jv s.1 0
 refine ak 1 rfl ?_;refine ak 2 rfl ?_ fun _ s=>bq s.2 0
 refine ak 3 rfl ?_ fun _ s=>jf (z:=z) (v:=v)
 refine aC 4 rfl fun K hK=>?_
 refine bN (y:=x) aj 2 ?_;clear aj;intro wq aj;simp only[lS] at aj;have hs:=And.intro (zH ((aj.out.aA 2).ay 0)) (zH ((aj.out.aI 4).ay 0));refine bk hK hs fun ah=>?_
 clear hK K;refine aC 5 rfl fun K hK=>?_
 refine bM (q:=⟨z,v⟩) aj 3 ?_;exact abu
theorem Sv(G:World→Prop)(x:Oh)(r:Rf)(c:aF.C)(w:World)(hG:∀W,G W→In W x)(hx:In w x)(hv:c.val.f<18446744073709551616)(hk:c.k=7):Calls prog 139 #[.agg (bS x),.agg (dh c)] w (pG G (av.act x.v r c) w):=by
 have he:av.act x.v r c=⟨{ x.v with dP:=aK.uL x.v.dP c.key c.val },av.err (aK.rT x.v.dP c.key c.val),false,[]⟩:=by
  exact oV
 rw[he];clear he;have HI:=zH hG;have HT:=zH (fun W (hW:Below w.heap.size w W)=>Gj x.pA x.pc x.pn x.v.dP c.key c.val W (hx.p.later hW) hv);have HF:=zH (hx.p.fit.pt (k:=c.key) hv);have HK:=Cg w 63 (bS x) 37 (dh c) 63 (bS rU) 28 (cB av.rz);clear hx hv hG;unfold pG;unfold Ji vv at HT;simp only;generalize aK.uL x.v.dP c.key c.val=m at *
 generalize aK.rT x.v.dP c.key c.val=z at *
 go_enter func139,ntmps139;go_wp2_with (first|(refine aN HK ?_;clear HK;intro _ g7 HK;simp only[aO,aJ] at HK)|refine zX (bK HK 1) ?_|refine zX (mK HK 0) ?_|refine zX (yP HK 1) ?_|refine zX (Du HK 1) ?_);refine(HT.out _ HK.out.b).mono ?_;rintro e w1 ⟨A4,n4,c4,rfl,o4,b4⟩
 rcases o4 with o4|⟨rfl,rfl,rfl,hm⟩
 ·replace HK:=zH (HK.out.called b4 o4)
  simp only[aJ] at HK;clear o4 b4;go_wp2_with (refine gI HK 0 m ?_;clear HK;intro _ HK;simp only[lS] at HK);have aj:=zH HK.out.drew;refine wp_region_held_drew (S:=(fun W=>Hid (Kn w.heap.size w W [(w.heap.size,63,bS (x.sp A4 n4 c4 m)),(w.heap.size+1,37,dh c)] [])∧Hid (Kn w.heap.size w W [(g7,26,vC 0 0 0 ⟨#[]⟩)] []))) (by kernel_rfl) ?_ fun ah=>?_
  ·(try dsimp only);exact And.intro (zH ((aj.out.aA 2).ay 0)) (zH ((aj.out.aI 4).ay 0))
  refine ak 0 rfl ?_ fun _ s=>jv s.1 0
  refine ak 1 rfl ?_;refine ak 2 rfl ?_ fun _ s=>bq s.2 0
  refine ak 3 rfl ?_ fun _ s=>jf (z:=z) (v:=av.vn)
  refine aC 4 rfl fun K hK=>?_
  refine bN (y:=x.sp A4 n4 c4 m) aj 2 ?_;clear aj;intro wq aj;simp only[lS] at aj;have hs:=And.intro (zH ((aj.out.aA 2).ay 0)) (zH ((aj.out.aI 4).ay 0));refine bk hK hs fun ah=>?_
  clear hK K;refine aC 5 rfl fun K hK=>?_
  refine bM (q:=av.err z) aj 3 ?_;clear aj;intro wq aj;simp only[lS] at aj;have hs:=And.intro (zH ((aj.out.aA 2).ay 0)) (zH ((aj.out.aI 4).ay 0));refine bk hK hs fun ah=>?_
  clear hK K;refine bW ?_;go_wp2_with fail;exact sH results139 (aj.out.blk 2 rfl) (aj.out.blk 3 rfl) ⟨x.sp A4 n4 c4 m,_,rfl,rfl,aj.out.aA 0,fun _ _ _ _ _ K hm hb=>(HI.out _ hb).sp (Sl.own (K.mem (hm _ (List.mem_cons_self ..))) HF.out)⟩
 ·subst hm
  replace HK:=iy HK b4;clear b4;go_wp2_with (refine gI HK 0 x.v.dP ?_;clear HK;intro _ HK;simp only[lS] at HK);have aj:=zH HK.out.drew;refine wp_region_held_drew (S:=(fun W=>Hid (Kn w.heap.size w W [(w.heap.size,63,bS (x.sp x.pA x.pn x.pc x.v.dP)),(w.heap.size+1,37,dh c)] [])∧Hid (Kn w.heap.size w W [(g7,26,vC 0 0 0 ⟨#[]⟩)] []))) (by kernel_rfl) ?_ fun ah=>?_
  ·(try dsimp only);exact And.intro (zH ((aj.out.aA 2).ay 0)) (zH ((aj.out.aI 4).ay 0))
  refine ak 0 rfl ?_ fun _ s=>jv s.1 0
  refine ak 1 rfl ?_;refine ak 2 rfl ?_ fun _ s=>bq s.2 0
  refine ak 3 rfl ?_ fun _ s=>jf (z:=z) (v:=av.vn)
  refine aC 4 rfl fun K hK=>?_
  refine bN (y:=x.sp x.pA x.pn x.pc x.v.dP) aj 2 ?_;clear aj;intro wq aj;simp only[lS] at aj;have hs:=And.intro (zH ((aj.out.aA 2).ay 0)) (zH ((aj.out.aI 4).ay 0));refine bk hK hs fun ah=>?_
  clear hK K;refine aC 5 rfl fun K hK=>?_
  refine bM (q:=av.err z) aj 3 ?_;clear aj;intro wq aj;simp only[lS] at aj;have hs:=And.intro (zH ((aj.out.aA 2).ay 0)) (zH ((aj.out.aI 4).ay 0));refine bk hK hs fun ah=>?_
  clear hK K;refine bW ?_;go_wp2_with fail;exact sH results139 (aj.out.blk 2 rfl) (aj.out.blk 3 rfl) ⟨x.sp x.pA x.pn x.pc x.v.dP,_,rfl,rfl,aj.out.aA 0,fun _ _ _ _ _ K hm hb=>(HI.out _ hb).sp (HI.out _ hb).p⟩
theorem Sr(G:World→Prop)(x:Oh)(r:Rf)(c:aF.C)(w:World)(hG:∀W,G W→In W x)(hx:In w x)(hv:c.val.f<18446744073709551616)(hk:c.k=8):Calls prog 139 #[.agg (bS x),.agg (dh c)] w (pG G (av.act x.v r c) w):=by
 have he:av.act x.v r c=⟨{ x.v with dP:=aK.Qo x.v.dP c.key },⟨aK.pE x.v.dP c.key,aK.pK x.v.dP c.key⟩,false,[]⟩:=by
  exact oV
 rw[he];clear he;have HI:=zH hG;have HT:=zH (fun W (hW:Below w.heap.size w W)=>Te x.pA x.pc x.pn x.v.dP c.key W (hx.p.later hW));have HF:=zH (hx.p.fit.ct c.key);have HK:=Cg w 63 (bS x) 37 (dh c) 63 (bS rU) 28 (cB av.rz);clear hx hv hG;unfold pG;unfold yD vv at HT;simp only;generalize aK.Qo x.v.dP c.key=m at *
 generalize aK.pK x.v.dP c.key=v at *
 generalize aK.pE x.v.dP c.key=z at *
 go_enter func139,ntmps139;go_wp2_with (first|(refine aN HK ?_;clear HK;intro _ g7 HK;simp only[aO,aJ] at HK)|refine zX (bK HK 1) ?_|refine zX (mK HK 0) ?_|refine zX (yP HK 1) ?_);refine(HT.out _ HK.out.b).mono ?_;rintro e w1 ⟨A4,n4,c4,rfl,o4,b4⟩
 rcases o4 with o4|⟨rfl,rfl,rfl,hm⟩
 ·replace HK:=zH (HK.out.called b4 o4)
  simp only[aJ] at HK;clear o4 b4;go_wp2_with (first|(refine gI HK 0 m ?_;clear HK;intro _ HK;simp only[lS] at HK)|(refine aM (f2:=v.f) HK 4 ?_;clear HK;intro _ HK;simp only[lS] at HK));have aj:=zH HK.out.drew;refine wp_region_held_drew (S:=(fun W=>Hid (Kn w.heap.size w W [(w.heap.size,63,bS (x.sp A4 n4 c4 m)),(w.heap.size+1,37,dh c)] [])∧Hid (Kn w.heap.size w W [(g7,26,vC v.k v.n v.f v.s)] []))) (by kernel_rfl) ?_ fun ah=>?_
  ·(try dsimp only);exact And.intro (zH ((aj.out.aA 2).ay 0)) (zH ((aj.out.aI 4).ay 0))
  exact aeR
 ·subst hm
  replace HK:=iy HK b4;clear b4;go_wp2_with (first|(refine gI HK 0 x.v.dP ?_;clear HK;intro _ HK;simp only[lS] at HK)|(refine aM (f2:=v.f) HK 4 ?_;clear HK;intro _ HK;simp only[lS] at HK));have aj:=zH HK.out.drew;refine wp_region_held_drew (S:=(fun W=>Hid (Kn w.heap.size w W [(w.heap.size,63,bS (x.sp x.pA x.pn x.pc x.v.dP)),(w.heap.size+1,37,dh c)] [])∧Hid (Kn w.heap.size w W [(g7,26,vC v.k v.n v.f v.s)] []))) (by kernel_rfl) ?_ fun ah=>?_
  ·(try dsimp only);exact And.intro (zH ((aj.out.aA 2).ay 0)) (zH ((aj.out.aI 4).ay 0))
  exact aeQ
theorem Sq(G:World→Prop)(x:Oh)(r:Rf)(c:aF.C)(w:World)(hG:∀W,G W→In W x)(hx:In w x)(hv:c.val.f<18446744073709551616)(hk:c.k=9):Calls prog 139 #[.agg (bS x),.agg (dh c)] w (pG G (av.act x.v r c) w):=by
 have he:av.act x.v r c=⟨{ x.v with dP:=aK.FP x.v.dP c.key c.old c.val },⟨aK.Ah x.v.dP c.key c.old c.val,aK.Jo x.v.dP c.key c.old⟩,false,[]⟩:=by
  exact oV
 rw[he];clear he;have HI:=zH hG;have HT:=zH (fun W (hW:Below w.heap.size w W)=>OG x.pA x.pc x.pn x.v.dP c.key c.old c.val W (hx.p.later hW) hv);have HF:=zH (hx.p.fit.sw (k:=c.key) (o:=c.old) hv);have HK:=Cg w 63 (bS x) 37 (dh c) 63 (bS rU) 28 (cB av.rz);clear hx hv hG;unfold pG;unfold yD vv at HT;simp only;generalize aK.FP x.v.dP c.key c.old c.val=m at *
 generalize aK.Jo x.v.dP c.key c.old=v at *
 generalize aK.Ah x.v.dP c.key c.old c.val=z at *
 go_enter func139,ntmps139;go_wp2_with (first|(refine aN HK ?_;clear HK;intro _ g7 HK;simp only[aO,aJ] at HK)|refine zX (bK HK 1) ?_|refine zX (mK HK 0) ?_|refine zX (yP HK 1) ?_|refine zX (Du HK 1) ?_|refine zX (aaC HK 1) ?_);refine(HT.out _ HK.out.b).mono ?_;rintro e w1 ⟨A4,n4,c4,rfl,o4,b4⟩
 rcases o4 with o4|⟨rfl,rfl,rfl,hm⟩
 ·replace HK:=zH (HK.out.called b4 o4)
  simp only[aJ] at HK;clear o4 b4;go_wp2_with (first|(refine gI HK 0 m ?_;clear HK;intro _ HK;simp only[lS] at HK)|(refine aM (f2:=v.f) HK 4 ?_;clear HK;intro _ HK;simp only[lS] at HK));have aj:=zH HK.out.drew;refine wp_region_held_drew (S:=(fun W=>Hid (Kn w.heap.size w W [(w.heap.size,63,bS (x.sp A4 n4 c4 m)),(w.heap.size+1,37,dh c)] [])∧Hid (Kn w.heap.size w W [(g7,26,vC v.k v.n v.f v.s)] []))) (by kernel_rfl) ?_ fun ah=>?_
  ·(try dsimp only);exact And.intro (zH ((aj.out.aA 2).ay 0)) (zH ((aj.out.aI 4).ay 0))
  exact aeR
 ·subst hm
  replace HK:=iy HK b4;clear b4;go_wp2_with (first|(refine gI HK 0 x.v.dP ?_;clear HK;intro _ HK;simp only[lS] at HK)|(refine aM (f2:=v.f) HK 4 ?_;clear HK;intro _ HK;simp only[lS] at HK));have aj:=zH HK.out.drew;refine wp_region_held_drew (S:=(fun W=>Hid (Kn w.heap.size w W [(w.heap.size,63,bS (x.sp x.pA x.pn x.pc x.v.dP)),(w.heap.size+1,37,dh c)] [])∧Hid (Kn w.heap.size w W [(g7,26,vC v.k v.n v.f v.s)] []))) (by kernel_rfl) ?_ fun ah=>?_
  ·(try dsimp only);exact And.intro (zH ((aj.out.aA 2).ay 0)) (zH ((aj.out.aI 4).ay 0))
  exact aeQ
theorem OQ(G:World→Prop)(x:Oh)(r:Rf)(c:aF.C)(w:World)(hG:∀W,G W→In W x)(hx:In w x)(hv:c.val.f<18446744073709551616)(hk:c.k=10):Calls prog 139 #[.agg (bS x),.agg (dh c)] w (pG G (av.act x.v r c) w):=by
 have he:av.act x.v r c=⟨{ x.v with vals:=dK.xV x.v.cap x.v.vals c.val },av.err (dK.uM x.v.cap x.v.vals c.val),false,[]⟩:=by
  exact oV
 rw[he];clear he;have HI:=zH hG;have HT:=zH (fun W (hW:Below w.heap.size w W)=>OJ x.v.cap x.vA x.vc x.vn x.v.vals c.val W (hx.v.later hW) hv);have HF:=zH (Nf (N:=x.v.cap) hx.v.fit hv);have HK:=Cg w 63 (bS x) 37 (dh c) 63 (bS rU) 28 (cB av.rz);clear hx hv hG;unfold pG;unfold Wv vv at HT;simp only;generalize dK.xV x.v.cap x.v.vals c.val=m at *
 generalize dK.uM x.v.cap x.v.vals c.val=z at *
 go_enter func139,ntmps139;go_wp2_with (first|(refine aN HK ?_;clear HK;intro _ g7 HK;simp only[aO,aJ] at HK)|refine zX (bK HK 1) ?_|refine zX (jP HK 0) ?_|refine zX (rM HK 0) ?_|refine zX (Du HK 1) ?_);refine(HT.out _ HK.out.b).mono ?_;rintro e w1 ⟨A4,n4,c4,rfl,o4,b4⟩
 rcases o4 with o4|⟨rfl,rfl,rfl,hm⟩
 ·replace HK:=zH (HK.out.called b4 o4)
  simp only[aJ] at HK;clear o4 b4;go_wp2_with (refine iP HK 0 m ?_;clear HK;intro _ HK;simp only[lS] at HK);have aj:=zH HK.out.drew;refine wp_region_held_drew (S:=(fun W=>Hid (Kn w.heap.size w W [(w.heap.size,63,bS (x.sv A4 n4 c4 m)),(w.heap.size+1,37,dh c)] [])∧Hid (Kn w.heap.size w W [(g7,26,vC 0 0 0 ⟨#[]⟩)] []))) (by kernel_rfl) ?_ fun ah=>?_
  ·(try dsimp only);exact And.intro (zH ((aj.out.aA 2).ay 0)) (zH ((aj.out.aI 4).ay 0))
  refine ak 0 rfl ?_ fun _ s=>jv s.1 0
  refine ak 1 rfl ?_;refine ak 2 rfl ?_ fun _ s=>bq s.2 0
  refine ak 3 rfl ?_ fun _ s=>jf (z:=z) (v:=av.vn)
  refine aC 4 rfl fun K hK=>?_
  refine bN (y:=x.sv A4 n4 c4 m) aj 2 ?_;clear aj;intro wq aj;simp only[lS] at aj;have hs:=And.intro (zH ((aj.out.aA 2).ay 0)) (zH ((aj.out.aI 4).ay 0));refine bk hK hs fun ah=>?_
  clear hK K;refine aC 5 rfl fun K hK=>?_
  refine bM (q:=av.err z) aj 3 ?_;exact aeB
 ·subst hm
  replace HK:=iy HK b4;clear b4;go_wp2_with (refine iP HK 0 x.v.vals ?_;clear HK;intro _ HK;simp only[lS] at HK);have aj:=zH HK.out.drew;refine wp_region_held_drew (S:=(fun W=>Hid (Kn w.heap.size w W [(w.heap.size,63,bS (x.sv x.vA x.vn x.vc x.v.vals)),(w.heap.size+1,37,dh c)] [])∧Hid (Kn w.heap.size w W [(g7,26,vC 0 0 0 ⟨#[]⟩)] []))) (by kernel_rfl) ?_ fun ah=>?_
  ·(try dsimp only);exact And.intro (zH ((aj.out.aA 2).ay 0)) (zH ((aj.out.aI 4).ay 0))
  refine ak 0 rfl ?_ fun _ s=>jv s.1 0
  refine ak 1 rfl ?_;refine ak 2 rfl ?_ fun _ s=>bq s.2 0
  refine ak 3 rfl ?_ fun _ s=>jf (z:=z) (v:=av.vn)
  refine aC 4 rfl fun K hK=>?_
  refine bN (y:=x.sv x.vA x.vn x.vc x.v.vals) aj 2 ?_;clear aj;intro wq aj;simp only[lS] at aj;have hs:=And.intro (zH ((aj.out.aA 2).ay 0)) (zH ((aj.out.aI 4).ay 0));refine bk hK hs fun ah=>?_
  clear hK K;refine aC 5 rfl fun K hK=>?_
  refine bM (q:=av.err z) aj 3 ?_;exact aeA
theorem OP(G:World→Prop)(x:Oh)(r:Rf)(c:aF.C)(w:World)(hG:∀W,G W→In W x)(hx:In w x)(hv:c.val.f<18446744073709551616)(hk:c.k=11):Calls prog 139 #[.agg (bS x),.agg (dh c)] w (pG G (av.act x.v r c) w):=by
 have he:av.act x.v r c=⟨{ x.v with vals:=dK.Jq x.v.cap x.v.vals },⟨dK.KF x.v.cap x.v.vals,dK.Jp x.v.cap x.v.vals⟩,false,[]⟩:=by
  exact oV
 rw[he];clear he;have HI:=zH hG;have HT:=zH (fun W (hW:Below w.heap.size w W)=>Sn x.v.cap x.vA x.vc x.vn x.v.vals W (hx.v.later hW));have HF:=zH (Ng (N:=x.v.cap) hx.v.fit);have HK:=Cg w 63 (bS x) 37 (dh c) 63 (bS rU) 28 (cB av.rz);clear hx hv hG;unfold pG;unfold Jh vv at HT;simp only;generalize dK.Jq x.v.cap x.v.vals=m at *
 generalize dK.Jp x.v.cap x.v.vals=v at *
 generalize dK.KF x.v.cap x.v.vals=z at *
 go_enter func139,ntmps139;go_wp2_with (first|(refine aN HK ?_;clear HK;intro _ g7 HK;simp only[aO,aJ] at HK)|refine zX (bK HK 1) ?_|refine zX (jP HK 0) ?_|refine zX (rM HK 0) ?_);refine(HT.out _ HK.out.b).mono ?_;rintro e w1 ⟨A4,n4,c4,rfl,o4,b4⟩
 rcases o4 with o4|⟨rfl,rfl,rfl,hm⟩
 ·replace HK:=zH (HK.out.called b4 o4)
  simp only[aJ] at HK;clear o4 b4;go_wp2_with (first|(refine iP HK 0 m ?_;clear HK;intro _ HK;simp only[lS] at HK)|(refine aM (f2:=v.f) HK 4 ?_;clear HK;intro _ HK;simp only[lS] at HK));have aj:=zH HK.out.drew;refine wp_region_held_drew (S:=(fun W=>Hid (Kn w.heap.size w W [(w.heap.size,63,bS (x.sv A4 n4 c4 m)),(w.heap.size+1,37,dh c)] [])∧Hid (Kn w.heap.size w W [(g7,26,vC v.k v.n v.f v.s)] []))) (by kernel_rfl) ?_ fun ah=>?_
  ·(try dsimp only);exact And.intro (zH ((aj.out.aA 2).ay 0)) (zH ((aj.out.aI 4).ay 0))
  refine ak 0 rfl ?_ fun _ s=>jv s.1 0
  refine ak 1 rfl ?_;refine ak 2 rfl ?_ fun _ s=>bq s.2 0
  refine ak 3 rfl ?_ fun _ s=>jf (z:=z) (v:=v)
  refine aC 4 rfl fun K hK=>?_
  refine bN (y:=x.sv A4 n4 c4 m) aj 2 ?_;clear aj;intro wq aj;simp only[lS] at aj;have hs:=And.intro (zH ((aj.out.aA 2).ay 0)) (zH ((aj.out.aI 4).ay 0));refine bk hK hs fun ah=>?_
  clear hK K;refine aC 5 rfl fun K hK=>?_
  refine bM (q:=⟨z,v⟩) aj 3 ?_;exact aeB
 ·subst hm
  replace HK:=iy HK b4;clear b4;go_wp2_with (first|(refine iP HK 0 x.v.vals ?_;clear HK;intro _ HK;simp only[lS] at HK)|(refine aM (f2:=v.f) HK 4 ?_;clear HK;intro _ HK;simp only[lS] at HK));have aj:=zH HK.out.drew;refine wp_region_held_drew (S:=(fun W=>Hid (Kn w.heap.size w W [(w.heap.size,63,bS (x.sv x.vA x.vn x.vc x.v.vals)),(w.heap.size+1,37,dh c)] [])∧Hid (Kn w.heap.size w W [(g7,26,vC v.k v.n v.f v.s)] []))) (by kernel_rfl) ?_ fun ah=>?_
  ·(try dsimp only);exact And.intro (zH ((aj.out.aA 2).ay 0)) (zH ((aj.out.aI 4).ay 0))
  refine ak 0 rfl ?_ fun _ s=>jv s.1 0
  refine ak 1 rfl ?_;refine ak 2 rfl ?_ fun _ s=>bq s.2 0
  refine ak 3 rfl ?_ fun _ s=>jf (z:=z) (v:=v)
  refine aC 4 rfl fun K hK=>?_
  refine bN (y:=x.sv x.vA x.vn x.vc x.v.vals) aj 2 ?_;clear aj;intro wq aj;simp only[lS] at aj;have hs:=And.intro (zH ((aj.out.aA 2).ay 0)) (zH ((aj.out.aI 4).ay 0));refine bk hK hs fun ah=>?_
  clear hK K;refine aC 5 rfl fun K hK=>?_
  refine bM (q:=⟨z,v⟩) aj 3 ?_;exact aeA
theorem OO(G:World→Prop)(x:Oh)(r:Rf)(c:aF.C)(w:World)(hG:∀W,G W→In W x)(hx:In w x)(hv:c.val.f<18446744073709551616)(hk:c.k=15):Calls prog 139 #[.agg (bS x),.agg (dh c)] w (pG G (av.act x.v r c) w):=by
 have he:av.act x.v r c=⟨{ x.v with mt:=Mt.ad x.v.mt c.val.f },av.err (Mt.Lr x.v.mt),false,[]⟩:=by
  exact oV
 rw[he];clear he;have HI:=zH hG;have HT:=zH (fun W (hW:Below w.heap.size w W)=>KC x.v.mt hx.m c.val.f hv W);have HF:=zH (Mt.UY hx.m hv);have HK:=Cg w 63 (bS x) 37 (dh c) 63 (bS rU) 28 (cB av.rz);clear hx hv hG;unfold pG;unfold QH at HT;simp only;generalize Mt.ad x.v.mt c.val.f=m at *
 generalize Mt.Lr x.v.mt=z at *
 go_enter func139,ntmps139;go_wp2_with (first|(refine aN HK ?_;clear HK;intro _ g7 HK;simp only[aO,aJ] at HK)|refine zX (bK HK 1) ?_|refine zX (AX HK 0) ?_|refine zX (aaD HK 1) ?_);refine cb (HT.out _ HK.out.b) HK ?_;clear HK;intro _ HK;go_wp2_with (refine Ab (m:=m) HK 0 rfl rfl rfl rfl rfl ?_;clear HK;intro _ HK;simp only[lS] at HK);have aj:=zH HK.out.drew;refine wp_region_held_drew (S:=(fun W=>Hid (Kn w.heap.size w W [(w.heap.size,63,bS (x.sm m)),(w.heap.size+1,37,dh c)] [])∧Hid (Kn w.heap.size w W [(g7,26,vC 0 0 0 ⟨#[]⟩)] []))) (by kernel_rfl) ?_ fun ah=>?_
 ·(try dsimp only);exact And.intro (zH ((aj.out.aA 2).ay 0)) (zH ((aj.out.aI 4).ay 0))
 refine ak 0 rfl ?_ fun _ s=>jv s.1 0
 refine ak 1 rfl ?_;refine ak 2 rfl ?_ fun _ s=>bq s.2 0
 refine ak 3 rfl ?_ fun _ s=>jf (z:=z) (v:=av.vn)
 refine aC 4 rfl fun K hK=>?_
 refine bN (y:=x.sm m) aj 2 ?_;clear aj;intro wq aj;simp only[lS] at aj;have hs:=And.intro (zH ((aj.out.aA 2).ay 0)) (zH ((aj.out.aI 4).ay 0));refine bk hK hs fun ah=>?_
 clear hK K;refine aC 5 rfl fun K hK=>?_
 refine bM (q:=av.err z) aj 3 ?_;clear aj;intro wq aj;simp only[lS] at aj;have hs:=And.intro (zH ((aj.out.aA 2).ay 0)) (zH ((aj.out.aI 4).ay 0));refine bk hK hs fun ah=>?_
 clear hK K;refine bW ?_;go_wp2_with fail;exact sH results139 (aj.out.blk 2 rfl) (aj.out.blk 3 rfl) ⟨x.sm m,_,rfl,rfl,aj.out.aA 0,fun _ _ _ _ _ K hm hb=>(HI.out _ hb).sm HF.out⟩
theorem OM(G:World→Prop)(x:Oh)(r:Rf)(c:aF.C)(w:World)(hG:∀W,G W→In W x)(hx:In w x)(hv:c.val.f<18446744073709551616)(hk:c.k=16):Calls prog 139 #[.agg (bS x),.agg (dh c)] w (pG G (av.act x.v r c) w):=by
 have he:av.act x.v r c=⟨x.v,⟨(Mt.rd x.v.mt c.n).e,⟨(Mt.rd x.v.mt c.n).k,(Mt.rd x.v.mt c.n).n,(Mt.rd x.v.mt c.n).f,⟨#[]⟩⟩⟩,false,[]⟩:=by
  exact oV
 rw[he];clear he;have HI:=zH hG;have HT:=zH (fun W (hW:Below w.heap.size w W)=>OI x.v.mt hx.m c.n W);have HK:=Cg w 63 (bS x) 37 (dh c) 63 (bS rU) 28 (cB av.rz);clear hx hv hG;unfold pG;unfold QF at HT;simp only;generalize Mt.rd x.v.mt c.n=d at *
 go_enter func139,ntmps139;go_wp2_with (first|(refine aN HK ?_;clear HK;intro _ g7 HK;simp only[aO,aJ] at HK)|refine zX (bK HK 1) ?_|refine zX (AX HK 0) ?_|refine zX (MK HK 1) ?_);refine cb (HT.out _ HK.out.b) HK ?_;clear HK;intro _ HK;go_wp2_with (refine aM (f2:=d.f) HK 4 ?_;clear HK;intro _ HK;simp only[lS] at HK);have aj:=zH HK.out.drew;refine wp_region_held_drew (S:=(fun W=>Hid (Kn w.heap.size w W [(w.heap.size,63,bS (x)),(w.heap.size+1,37,dh c)] [])∧Hid (Kn w.heap.size w W [(g7,26,vC d.k d.n d.f ⟨#[]⟩)] []))) (by kernel_rfl) ?_ fun ah=>?_
 ·(try dsimp only);exact And.intro (zH ((aj.out.aA 2).ay 0)) (zH ((aj.out.aI 4).ay 0))
 refine ak 0 rfl ?_ fun _ s=>jv s.1 0
 refine ak 1 rfl ?_;refine ak 2 rfl ?_ fun _ s=>bq s.2 0
 refine ak 3 rfl ?_ fun _ s=>jf (z:=d.e) (v:=⟨d.k,d.n,d.f,⟨#[]⟩⟩)
 refine aC 4 rfl fun K hK=>?_
 refine bN (y:=x) aj 2 ?_;clear aj;intro wq aj;simp only[lS] at aj;have hs:=And.intro (zH ((aj.out.aA 2).ay 0)) (zH ((aj.out.aI 4).ay 0));refine bk hK hs fun ah=>?_
 clear hK K;refine aC 5 rfl fun K hK=>?_
 refine bM (q:=⟨d.e,⟨d.k,d.n,d.f,⟨#[]⟩⟩⟩) aj 3 ?_;exact abu
theorem OL(G:World→Prop)(x:Oh)(r:Rf)(c:aF.C)(w:World)(hG:∀W,G W→In W x)(hx:In w x)(hv:c.val.f<18446744073709551616)(hk:c.k=17):Calls prog 139 #[.agg (bS x),.agg (dh c)] w (pG G (av.act x.v r c) w):=by
 have he:av.act x.v r c=⟨x.v,⟨0,av.num (av.size x.v)⟩,false,[]⟩:=by
  exact oV
 rw[he];clear he;have HI:=zH hG;have HT:=zH (fun W (hW:Below w.heap.size w W)=>OH x W (hx.later hW));have HK:=Cg w 63 (bS x) 37 (dh c) 63 (bS rU) 28 (cB av.rz);clear hx hv hG;unfold pG;simp only;generalize av.size x.v=z at *
 go_enter func139,ntmps139;go_wp2_with (first|(refine aN HK ?_;clear HK;intro _ g7 HK;simp only[aO,aJ] at HK)|refine zX (bK HK 1) ?_|refine zX (jv HK 0) ?_);refine cb (HT.out _ HK.out.b) HK ?_;clear HK;intro _ HK;go_wp2_with (refine aM (f2:=0) HK 4 ?_;clear HK;intro _ HK;simp only[lS] at HK);have aj:=zH HK.out.drew;refine wp_region_held_drew (S:=(fun W=>Hid (Kn w.heap.size w W [(w.heap.size,63,bS (x)),(w.heap.size+1,37,dh c)] [])∧Hid (Kn w.heap.size w W [(g7,26,vC 1 z 0 ⟨#[]⟩)] []))) (by kernel_rfl) ?_ fun ah=>?_
 ·(try dsimp only);exact And.intro (zH ((aj.out.aA 2).ay 0)) (zH ((aj.out.aI 4).ay 0))
 refine ak 0 rfl ?_ fun _ s=>jv s.1 0
 refine ak 1 rfl ?_;refine ak 2 rfl ?_ fun _ s=>bq s.2 0
 refine ak 3 rfl ?_ fun _ s=>jf (z:=0) (v:=av.num z)
 refine aC 4 rfl fun K hK=>?_
 refine bN (y:=x) aj 2 ?_;clear aj;intro wq aj;simp only[lS] at aj;have hs:=And.intro (zH ((aj.out.aA 2).ay 0)) (zH ((aj.out.aI 4).ay 0));refine bk hK hs fun ah=>?_
 clear hK K;refine aC 5 rfl fun K hK=>?_
 refine bM (q:=⟨0,av.num z⟩) aj 3 ?_;exact abu
end
section
def zh(G:World→Prop)(oc:av.Oc)(w:World)(e:Ending)(w':World):Prop:=∃(y:Oh) (O:Option Addr) (k d:Nat) (Rn:List dA),e=.returned (.tuple #[.agg (bS y),.agg (cB oc.p),.bool oc.later,.slice O k d])∧Hid (y.v=oc.o)∧Kn w.heap.size w w' [] Rn∧Hid (∀(b:Nat) (W0 W:World) L R,Kn b W0 W L R→(∀z∈Rn,z∈R)→G W→In W y∧bJ aR tF W O k d oc.outs)
theorem nE{fn:Func}{R:Ending→World→Prop}{a:Act}{w:World}{B D:Nat}{x:Oh}{p:av.Rp}{u z:Value}{q q2 q3 q4:Tmp}(hf:fn.results=#[.cell q 63,.cell q2 28,.tmp q3,.tmp q4])(hb:gD w B 63 (bS x))(hc:gD w D 28 (cB p))
  (hR:R (.returned (.tuple #[.agg (bS x),.agg (cB p),u,z])) w) (h2:a.tmps[q]?=some (.pointer (some ⟨B,0,none⟩)):=by rfl)(h3:a.tmps[q2]?=some (.pointer (some ⟨D,0,none⟩)):=by rfl)(h4:a.tmps[q3]?=some u:=by rfl)(h5:a.tmps[q4]?=some z:=by rfl)(hd:a.defers=[]:=by rfl):bodyPost prog fn R Exit.ret a w:=by
 refine bodyPost_ret (v:=.tuple #[.agg (bS x),.agg (cB p),u,z]) ?_ hd hR;have h:(loadVar 63 ⟨B,0,none⟩).run prog w=.ok (.agg (bS x)) w:=run_loadVar_row (P:=prog) w B _ _ _ (0,0) _ hb underlying63 rfl zI;have h':(loadVar 28 ⟨D,0,none⟩).run prog w=.ok (.agg (cB p)) w:=run_loadVar_row (P:=prog) w D _ _ _ (0,0) _ hc underlying28 rfl jm;simp[results,hf,asAddr,Sem.run_bind,h2,h3,h4,h5,h,h']
theorem wS{w:World}{o:Oper}{a:Act}{x:Int}{b:Bool}{p:Operand}(hb:decide (x=0)=b)(ho:o.op=.binOp .eql 23 p (.const (.int .i64 0)) 23:=by rfl)(hp:a.eval p=.int .i64 x:=by rfl):
  (execOp a.eval o).run prog w=.ok (.value (.bool b)) w:=by
 have he:a.eval (.const (.int .i64 0))=.int .i64 0:=rfl;subst hb;unfold execOp;simp only[ho,hp,he];go_simp
 try rfl
theorem kn5(w:World)(t1:TypeId)(c1:Array Value)(t2:TypeId)(c2:Array Value)(t3:TypeId)(c3:Array Value)(t4:TypeId)(c4:Array Value)(t5:TypeId)(c5:Array Value):
  Hid (Kn w.heap.size w (((((w.alloc (.cells c1 t1)).alloc (.cells c2 t2)).alloc (.cells c3 t3)).alloc (.cells c4 t4)).alloc (.cells c5 t5)) [(w.heap.size,t1,c1),(w.heap.size+1,t2,c2),(w.heap.size+1+1,t3,c3),(w.heap.size+1+1+1,t4,c4),(w.heap.size+1+1+1+1,t5,c5)] []):=by
 have h:=(Cg w t1 c1 t2 c2 t3 c3 t4 c4).out.alloc t5 c5;simp only[aO,aJ,World.size_alloc] at h;exact zH h
theorem SL(G:World→Prop)(x:Oh)(r:Rf)(c:aF.C)(w:World)(hG:∀W,G W→In W x)(hx:In w x)(hk:c.k=12):Calls prog 138 #[.agg (bS x),.agg #[.int .i64 r.c,.int .i64 r.e,.int .i64 r.r],.agg (dh c)] w (zh G (av.take x.v r) w):=by
 have HI:=zH hG;have HT:=zH (fun W (hW:Below w.heap.size w W)=>Kj x.rA x.rc x.rn x.v.refs r W (hx.r.later hW));have mJ:=zH dS;have HF:=zH (Nc (r:=r) hx.r.fit);have HK:=kn5 w 63 (bS x) 35 #[.int .i64 r.c,.int .i64 r.e,.int .i64 r.r] 37 (dh c) 63 (bS rU) 28 (cB av.rz);clear hx hG;unfold zh av.take av.err;unfold Wt at HT;simp only;generalize aS.CF x.v.refs r=m at *
 generalize aS.yY x.v.refs r=z at *
 generalize aS.JU x.v.refs r=h at *
 go_enter func138,ntmps138;go_wp2_with (first|refine zX (bK HK 2) ?_|refine zX (gK HK 0) ?_|refine zX (aB HK 1) ?_);refine(HT.out _ HK.out.b).mono ?_;rintro e w1 ⟨A4,n4,c4,rfl,o4,b4⟩
 rcases o4 with o4|⟨rfl,rfl,rfl,hm⟩
 ·replace HK:=zH (HK.out.called b4 o4)
  simp only[aJ] at HK;clear o4 b4;by_cases hz0:z=0
  ·have hz:decide (z=0)=true:=decide_eq_true hz0
   clear hz0;go_wp2_with (refine cu HK 0 m ?_;clear HK;intro _ HK;simp only[lS] at HK);have aj:=zH HK.out.drew;refine zR ((aj.out.aA 3).ay 0) fun ah=>?_
   refine ak 0 rfl ?_ fun _ s=>jv s 0
   refine ak 1 rfl ?_;refine ak 3 rfl ?_;refine ak 4 rfl ?_ fun _ s=>wS (x:=z) hz
   refine aC 2 rfl fun K hK=>?_
   go_simp;go_at_call 132;refine(mJ.out z _).mono ?_;rintro e w5 ⟨rfl,b5⟩;have hs:=zH (ah.out.call b5);replace aj:=zH (aj.out.call b5);clear b5;refine bk hK hs fun ah=>?_
   clear hK K;refine ak 5 rfl ?_;refine ak 6 rfl ?_;refine ak 7 rfl ?_;exact aeM
  ·have hz:decide (z=0)=false:=decide_eq_false hz0
   clear hz0;go_wp2_with (refine cu HK 0 m ?_;clear HK;intro _ HK;simp only[lS] at HK);have aj:=zH HK.out.drew;refine zR ((aj.out.aA 3).ay 0) fun ah=>?_
   refine ak 0 rfl ?_ fun _ s=>jv s 0
   refine ak 1 rfl ?_;refine ak 3 rfl ?_;refine ak 4 rfl ?_ fun _ s=>wS (x:=z) hz
   refine aC 2 rfl fun K hK=>?_
   go_simp;go_at_call 132;refine(mJ.out z _).mono ?_;rintro e w5 ⟨rfl,b5⟩;have hs:=zH (ah.out.call b5);replace aj:=zH (aj.out.call b5);clear b5;refine bk hK hs fun ah=>?_
   clear hK K;refine ak 5 rfl ?_;refine bF 6 rfl ?_;refine bF 7 rfl ?_;exact aeM
 ·subst hm
  replace HK:=iy HK b4;clear b4;by_cases hz0:z=0
  ·have hz:decide (z=0)=true:=decide_eq_true hz0
   clear hz0;go_wp2_with (refine cu HK 0 x.v.refs ?_;clear HK;intro _ HK;simp only[lS] at HK);have aj:=zH HK.out.drew;refine zR ((aj.out.aA 3).ay 0) fun ah=>?_
   refine ak 0 rfl ?_ fun _ s=>jv s 0
   refine ak 1 rfl ?_;refine ak 3 rfl ?_;refine ak 4 rfl ?_ fun _ s=>wS (x:=z) hz
   refine aC 2 rfl fun K hK=>?_
   go_simp;go_at_call 132;refine(mJ.out z _).mono ?_;rintro e w5 ⟨rfl,b5⟩;have hs:=zH (ah.out.call b5);replace aj:=zH (aj.out.call b5);clear b5;refine bk hK hs fun ah=>?_
   clear hK K;refine ak 5 rfl ?_;refine ak 6 rfl ?_;refine ak 7 rfl ?_;exact aeL
  ·have hz:decide (z=0)=false:=decide_eq_false hz0
   clear hz0;go_wp2_with (refine cu HK 0 x.v.refs ?_;clear HK;intro _ HK;simp only[lS] at HK);have aj:=zH HK.out.drew;refine zR ((aj.out.aA 3).ay 0) fun ah=>?_
   refine ak 0 rfl ?_ fun _ s=>jv s 0
   refine ak 1 rfl ?_;refine ak 3 rfl ?_;refine ak 4 rfl ?_ fun _ s=>wS (x:=z) hz
   refine aC 2 rfl fun K hK=>?_
   go_simp;go_at_call 132;refine(mJ.out z _).mono ?_;rintro e w5 ⟨rfl,b5⟩;have hs:=zH (ah.out.call b5);replace aj:=zH (aj.out.call b5);clear b5;refine bk hK hs fun ah=>?_
   clear hK K;refine ak 5 rfl ?_;refine bF 6 rfl ?_;refine bF 7 rfl ?_;exact aeL
end
end Go.Proofs.YtieoeendnccafaaGreat
