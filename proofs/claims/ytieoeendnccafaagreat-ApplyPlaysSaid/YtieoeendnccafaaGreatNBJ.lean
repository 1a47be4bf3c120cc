/- What the document's Do returns: what an object does. No condition but those named. -/
import Derived.Test.YtieoeendnccafaaGreatNBI
set_option linter.unusedSimpArgs false
set_option linter.unusedVariables false
set_option maxRecDepth 100000
set_option maxHeartbeats 25600000
open Go.RowKit
namespace Go.Proofs.YtieoeendnccafaaGreat
open _root_.Go.Proofs.Tryz
section
theorem SK(G:World→Prop)(x:Oh)(r:Rf)(c:aF.C)(w:World)(hG:∀W,G W→In W x)(hx:In w x)(hk:c.k=13):Calls prog 138 #[.agg (bS x),.agg #[.int .i64 r.c,.int .i64 r.e,.int .i64 r.r],.agg (dh c)] w (zh G (av.free x.v r) w):=by
 have HI:=zH hG;have HT:=zH (fun W (hW:Below w.heap.size w W)=>Kk x.rA x.rc x.rn x.v.refs r W (hx.r.later hW));have mJ:=zH dS;have HF:=zH (Nh (r:=r) hx.r.fit);have HK:=kn5 w 63 (bS x) 35 #[.int .i64 r.c,.int .i64 r.e,.int .i64 r.r] 37 (dh c) 63 (bS rU) 28 (cB av.rz);clear hx hG;unfold zh av.free av.err;unfold Wz at HT;simp only;generalize aS.Ci x.v.refs r=m at *
 generalize aS.zJ x.v.refs r=z at *
 generalize aS.EZ x.v.refs r=q at *
 generalize aS.Dy x.v.refs r=h at *
 go_enter func138,ntmps138;go_wp2_with (first|refine zX (bK HK 2) ?_|refine zX (gK HK 0) ?_|refine zX (aB HK 1) ?_);refine(HT.out _ HK.out.b).mono ?_;rintro e w1 ⟨A4,n4,c4,rfl,o4,b4⟩
 rcases o4 with o4|⟨rfl,rfl,rfl,hm⟩
 ·replace HK:=zH (HK.out.called b4 o4)
  simp only[aJ] at HK;clear o4 b4;cases h
  case false=>
   go_wp2_with (first|(refine aQ HK ?_;clear HK;intro _ g14 HK;simp only[aO,aJ] at HK)|(refine aW HK 5 ?_;clear HK;intro _ HK;simp only[lS] at HK)|(refine cu HK 0 m ?_;clear HK;intro _ HK;simp only[lS] at HK));have aj:=zH HK.out.drew;refine wp_region_held_drew (S:=(fun W=>Hid (Kn w.heap.size w W [(w.heap.size,63,bS (x.sr A4 n4 c4 m)),(w.heap.size+1,35,#[.int .i64 r.c,.int .i64 r.e,.int .i64 r.r]),(w.heap.size+1+1,37,dh c)] [])∧Hid (Kn w.heap.size w W [(g14,35,#[.int .i64 q.c,.int .i64 q.e,.int .i64 q.r])] []))) (by kernel_rfl) ?_ fun ah=>?_
   ·(try dsimp only);exact And.intro (zH ((aj.out.aA 3).ay 0)) (zH ((aj.out.aI 5).ay 0))
   refine ak 0 rfl ?_ fun _ s=>jv s.1 0
   refine ak 1 rfl ?_;refine aC 2 rfl fun K hK=>?_
   go_simp;go_at_call 132;refine(mJ.out z _).mono ?_;rintro e w5 ⟨rfl,b5⟩;have hs:=And.intro (zH (ah.1.out.call b5)) (zH (ah.2.out.call b5));replace aj:=zH (aj.out.call b5);clear b5;refine bk hK hs fun ah=>?_
   clear hK K;refine aC 3 rfl fun K hK=>?_
   refine bN (y:=x.sr A4 n4 c4 m) aj 3 ?_;clear aj;intro wq aj;simp only[lS] at aj;have hs:=And.intro (zH ((aj.out.aA 3).ay 0)) (zH ((aj.out.aI 5).ay 0));refine bk hK hs fun ah=>?_
   clear hK K;refine aC 4 rfl fun K hK=>?_
   refine bM (q:=⟨z,av.vn⟩) aj 4 ?_;clear aj;intro wq aj;simp only[lS] at aj;have hs:=And.intro (zH ((aj.out.aA 3).ay 0)) (zH ((aj.out.aI 5).ay 0));refine bk hK hs fun ah=>?_
   clear hK K;refine ak 5 rfl ?_;refine ak 6 rfl ?_;refine bW ?_
   all_goals
    go_wp2_with fail;exact nE results138 (aj.out.blk 3 rfl) (aj.out.blk 4 rfl) ⟨x.sr A4 n4 c4 m,_,_,_,_,rfl,rfl,aj.out.aA 0,fun _ _ _ _ _ K hm hb=>⟨(HI.out _ hb).sr (bJ.own (K.mem (hm _ (List.mem_cons_self ..))) HF.out),bJ.none _⟩⟩
  case true=>
   go_wp2_with (first|(refine aQ HK ?_;clear HK;intro _ g14 HK;simp only[aO,aJ] at HK)|(refine aW HK 5 ?_;clear HK;intro _ HK;simp only[lS] at HK)|(refine cu HK 0 m ?_;clear HK;intro _ HK;simp only[lS] at HK));have aj:=zH HK.out.drew;refine wp_region_held_drew (S:=(fun W=>Hid (Kn w.heap.size w W [(w.heap.size,63,bS (x.sr A4 n4 c4 m)),(w.heap.size+1,35,#[.int .i64 r.c,.int .i64 r.e,.int .i64 r.r]),(w.heap.size+1+1,37,dh c)] [])∧Hid (Kn w.heap.size w W [(g14,35,#[.int .i64 q.c,.int .i64 q.e,.int .i64 q.r])] []))) (by kernel_rfl) ?_ fun ah=>?_
   ·(try dsimp only);exact And.intro (zH ((aj.out.aA 3).ay 0)) (zH ((aj.out.aI 5).ay 0))
   refine ak 0 rfl ?_ fun _ s=>jv s.1 0
   refine ak 1 rfl ?_;refine ak 3 rfl ?_ fun _ s=>aB s.2 0
   refine ak 4 rfl ?_ fun _ s=>qw (r:=q)
   refine jr 2 5 rfl rfl (fun K hK=>?_) fun K hK=>?_
   go_simp;go_at_call 132;refine(mJ.out z _).mono ?_;rintro e w5 ⟨rfl,b5⟩;have hs:=And.intro (zH (ah.1.out.call b5)) (zH (ah.2.out.call b5));replace aj:=zH (aj.out.call b5);clear b5;refine bk hK hs fun ah=>?_
   clear hK K;refine jr 5 6 rfl rfl (fun K hK=>?_) fun K hK=>?_
   refine dw aR (p:=⟨q,av.rz⟩) aj ?_;clear aj;intro w6 g6 aj _;simp only[aO,aJ] at aj;have hs:=And.intro (zH ((aj.out.aA 3).ay 0)) (zH ((aj.out.aI 5).ay 0));refine bk hK hs fun ah=>?_
   clear hK K;refine aC 6 rfl fun K hK=>?_
   refine bN (y:=x.sr A4 n4 c4 m) aj 3 ?_;clear aj;intro wq aj;simp only[lS] at aj;have hs:=And.intro (zH ((aj.out.aA 3).ay 0)) (zH ((aj.out.aI 5).ay 0));refine bk hK hs fun ah=>?_
   clear hK K;refine aC 7 rfl fun K hK=>?_
   refine bM (q:=⟨z,av.vn⟩) aj 4 ?_;clear aj;intro wq aj;simp only[lS] at aj;have hs:=And.intro (zH ((aj.out.aA 3).ay 0)) (zH ((aj.out.aI 5).ay 0));refine bk hK hs fun ah=>?_
   clear hK K;refine ak 8 rfl ?_;refine ak 9 rfl ?_;refine bW ?_
   rotate_left
   refine bN (y:=x.sr A4 n4 c4 m) aj 3 ?_;clear aj;intro wq aj;simp only[lS] at aj;have hs:=And.intro (zH ((aj.out.aA 3).ay 0)) (zH ((aj.out.aI 5).ay 0));refine bk hK hs fun ah=>?_
   clear hK K;refine jr 5 7 rfl rfl (fun K hK=>?_) fun K hK=>?_
   refine dw aR (p:=⟨q,av.rz⟩) aj ?_;clear aj;intro w6 g6 aj _;simp only[aO,aJ] at aj;have hs:=And.intro (zH ((aj.out.aA 3).ay 0)) (zH ((aj.out.aI 5).ay 0));refine bk hK hs fun ah=>?_
   clear hK K;refine aC 7 rfl fun K hK=>?_
   refine bM (q:=⟨z,av.vn⟩) aj 4 ?_;clear aj;intro wq aj;simp only[lS] at aj;have hs:=And.intro (zH ((aj.out.aA 3).ay 0)) (zH ((aj.out.aI 5).ay 0));refine bk hK hs fun ah=>?_
   clear hK K;refine ak 8 rfl ?_;refine ak 9 rfl ?_;refine bW ?_
   rotate_left
   refine bM (q:=⟨z,av.vn⟩) aj 4 ?_;clear aj;intro wq aj;simp only[lS] at aj;have hs:=And.intro (zH ((aj.out.aA 3).ay 0)) (zH ((aj.out.aI 5).ay 0));refine bk hK hs fun ah=>?_
   clear hK K;refine ak 8 rfl ?_;refine aC 5 rfl fun K hK=>?_
   refine dw aR (p:=⟨q,av.rz⟩) aj ?_;clear aj;intro w6 g6 aj _;simp only[aO,aJ] at aj;have hs:=And.intro (zH ((aj.out.aA 3).ay 0)) (zH ((aj.out.aI 5).ay 0));refine bk hK hs fun ah=>?_
   clear hK K;refine ak 9 rfl ?_;refine bW ?_
   rotate_left
   refine dw aR (p:=⟨q,av.rz⟩) aj ?_;clear aj;intro w6 g6 aj _;simp only[aO,aJ] at aj;have hs:=And.intro (zH ((aj.out.aA 3).ay 0)) (zH ((aj.out.aI 5).ay 0));refine bk hK hs fun ah=>?_
   clear hK K;refine aC 2 rfl fun K hK=>?_
   go_simp;go_at_call 132;refine(mJ.out z _).mono ?_;rintro e w5 ⟨rfl,b5⟩;have hs:=And.intro (zH (ah.1.out.call b5)) (zH (ah.2.out.call b5));replace aj:=zH (aj.out.call b5);clear b5;refine bk hK hs fun ah=>?_
   clear hK K;refine aC 6 rfl fun K hK=>?_
   refine bN (y:=x.sr A4 n4 c4 m) aj 3 ?_;clear aj;intro wq aj;simp only[lS] at aj;have hs:=And.intro (zH ((aj.out.aA 3).ay 0)) (zH ((aj.out.aI 5).ay 0));refine bk hK hs fun ah=>?_
   clear hK K;refine aC 7 rfl fun K hK=>?_
   refine bM (q:=⟨z,av.vn⟩) aj 4 ?_;clear aj;intro wq aj;simp only[lS] at aj;have hs:=And.intro (zH ((aj.out.aA 3).ay 0)) (zH ((aj.out.aI 5).ay 0));refine bk hK hs fun ah=>?_
   clear hK K;refine ak 8 rfl ?_;refine ak 9 rfl ?_;refine bW ?_
   rotate_left
   all_goals
    go_wp2_with fail;exact nE results138 (aj.out.blk 3 rfl) (aj.out.blk 4 rfl) ⟨x.sr A4 n4 c4 m,_,_,_,_,rfl,rfl,aj.out.aA 0,fun _ _ _ _ _ K hm hb=>⟨(HI.out _ hb).sr (bJ.own (K.mem (hm _ (List.mem_cons_self ..))) HF.out),bJ.own (K.mem (hm _ (List.mem_cons_of_mem _ (List.mem_cons_self ..)))) ⟨fun _ _=>trivial,by show 1*72≤140737488355328;decide⟩⟩⟩
 ·subst hm
  replace HK:=iy HK b4;clear b4;cases h
  case false=>
   go_wp2_with (first|(refine aQ HK ?_;clear HK;intro _ g14 HK;simp only[aO,aJ] at HK)|(refine aW HK 5 ?_;clear HK;intro _ HK;simp only[lS] at HK)|(refine cu HK 0 x.v.refs ?_;clear HK;intro _ HK;simp only[lS] at HK));have aj:=zH HK.out.drew;refine wp_region_held_drew (S:=(fun W=>Hid (Kn w.heap.size w W [(w.heap.size,63,bS (x.sr x.rA x.rn x.rc x.v.refs)),(w.heap.size+1,35,#[.int .i64 r.c,.int .i64 r.e,.int .i64 r.r]),(w.heap.size+1+1,37,dh c)] [])∧Hid (Kn w.heap.size w W [(g14,35,#[.int .i64 q.c,.int .i64 q.e,.int .i64 q.r])] []))) (by kernel_rfl) ?_ fun ah=>?_
   ·(try dsimp only);exact And.intro (zH ((aj.out.aA 3).ay 0)) (zH ((aj.out.aI 5).ay 0))
   refine ak 0 rfl ?_ fun _ s=>jv s.1 0
   refine ak 1 rfl ?_;refine aC 2 rfl fun K hK=>?_
   go_simp;go_at_call 132;refine(mJ.out z _).mono ?_;rintro e w5 ⟨rfl,b5⟩;have hs:=And.intro (zH (ah.1.out.call b5)) (zH (ah.2.out.call b5));replace aj:=zH (aj.out.call b5);clear b5;refine bk hK hs fun ah=>?_
   clear hK K;refine aC 3 rfl fun K hK=>?_
   refine bN (y:=x.sr x.rA x.rn x.rc x.v.refs) aj 3 ?_;clear aj;intro wq aj;simp only[lS] at aj;have hs:=And.intro (zH ((aj.out.aA 3).ay 0)) (zH ((aj.out.aI 5).ay 0));refine bk hK hs fun ah=>?_
   clear hK K;refine aC 4 rfl fun K hK=>?_
   refine bM (q:=⟨z,av.vn⟩) aj 4 ?_;clear aj;intro wq aj;simp only[lS] at aj;have hs:=And.intro (zH ((aj.out.aA 3).ay 0)) (zH ((aj.out.aI 5).ay 0));refine bk hK hs fun ah=>?_
   clear hK K;refine ak 5 rfl ?_;refine ak 6 rfl ?_;refine bW ?_
   all_goals
    go_wp2_with fail;exact nE results138 (aj.out.blk 3 rfl) (aj.out.blk 4 rfl) ⟨x.sr x.rA x.rn x.rc x.v.refs,_,_,_,_,rfl,rfl,aj.out.aA 0,fun _ _ _ _ _ K hm hb=>⟨(HI.out _ hb).sr (HI.out _ hb).r,bJ.none _⟩⟩
  case true=>
   go_wp2_with (first|(refine aQ HK ?_;clear HK;intro _ g14 HK;simp only[aO,aJ] at HK)|(refine aW HK 5 ?_;clear HK;intro _ HK;simp only[lS] at HK)|(refine cu HK 0 x.v.refs ?_;clear HK;intro _ HK;simp only[lS] at HK));have aj:=zH HK.out.drew;refine wp_region_held_drew (S:=(fun W=>Hid (Kn w.heap.size w W [(w.heap.size,63,bS (x.sr x.rA x.rn x.rc x.v.refs)),(w.heap.size+1,35,#[.int .i64 r.c,.int .i64 r.e,.int .i64 r.r]),(w.heap.size+1+1,37,dh c)] [])∧Hid (Kn w.heap.size w W [(g14,35,#[.int .i64 q.c,.int .i64 q.e,.int .i64 q.r])] []))) (by kernel_rfl) ?_ fun ah=>?_
   ·(try dsimp only);exact And.intro (zH ((aj.out.aA 3).ay 0)) (zH ((aj.out.aI 5).ay 0))
   refine ak 0 rfl ?_ fun _ s=>jv s.1 0
   refine ak 1 rfl ?_;refine ak 3 rfl ?_ fun _ s=>aB s.2 0
   refine ak 4 rfl ?_ fun _ s=>qw (r:=q)
   refine jr 2 5 rfl rfl (fun K hK=>?_) fun K hK=>?_
   go_simp;go_at_call 132;refine(mJ.out z _).mono ?_;rintro e w5 ⟨rfl,b5⟩;have hs:=And.intro (zH (ah.1.out.call b5)) (zH (ah.2.out.call b5));replace aj:=zH (aj.out.call b5);clear b5;refine bk hK hs fun ah=>?_
   clear hK K;refine jr 5 6 rfl rfl (fun K hK=>?_) fun K hK=>?_
   refine dw aR (p:=⟨q,av.rz⟩) aj ?_;clear aj;intro w6 g6 aj _;simp only[aO,aJ] at aj;have hs:=And.intro (zH ((aj.out.aA 3).ay 0)) (zH ((aj.out.aI 5).ay 0));refine bk hK hs fun ah=>?_
   clear hK K;refine aC 6 rfl fun K hK=>?_
   refine bN (y:=x.sr x.rA x.rn x.rc x.v.refs) aj 3 ?_;clear aj;intro wq aj;simp only[lS] at aj;have hs:=And.intro (zH ((aj.out.aA 3).ay 0)) (zH ((aj.out.aI 5).ay 0));refine bk hK hs fun ah=>?_
   clear hK K;refine aC 7 rfl fun K hK=>?_
   refine bM (q:=⟨z,av.vn⟩) aj 4 ?_;clear aj;intro wq aj;simp only[lS] at aj;have hs:=And.intro (zH ((aj.out.aA 3).ay 0)) (zH ((aj.out.aI 5).ay 0));refine bk hK hs fun ah=>?_
   clear hK K;refine ak 8 rfl ?_;refine ak 9 rfl ?_;refine bW ?_
   rotate_left
   refine bN (y:=x.sr x.rA x.rn x.rc x.v.refs) aj 3 ?_;clear aj;intro wq aj;simp only[lS] at aj;have hs:=And.intro (zH ((aj.out.aA 3).ay 0)) (zH ((aj.out.aI 5).ay 0));refine bk hK hs fun ah=>?_
   clear hK K;refine jr 5 7 rfl rfl (fun K hK=>?_) fun K hK=>?_
   refine dw aR (p:=⟨q,av.rz⟩) aj ?_;clear aj;intro w6 g6 aj _;simp only[aO,aJ] at aj;have hs:=And.intro (zH ((aj.out.aA 3).ay 0)) (zH ((aj.out.aI 5).ay 0));refine bk hK hs fun ah=>?_
   clear hK K;refine aC 7 rfl fun K hK=>?_
   refine bM (q:=⟨z,av.vn⟩) aj 4 ?_;clear aj;intro wq aj;simp only[lS] at aj;have hs:=And.intro (zH ((aj.out.aA 3).ay 0)) (zH ((aj.out.aI 5).ay 0));refine bk hK hs fun ah=>?_
   clear hK K;refine ak 8 rfl ?_;refine ak 9 rfl ?_;refine bW ?_
   rotate_left
   refine bM (q:=⟨z,av.vn⟩) aj 4 ?_;clear aj;intro wq aj;simp only[lS] at aj;have hs:=And.intro (zH ((aj.out.aA 3).ay 0)) (zH ((aj.out.aI 5).ay 0));refine bk hK hs fun ah=>?_
   clear hK K;refine ak 8 rfl ?_;refine aC 5 rfl fun K hK=>?_
   refine dw aR (p:=⟨q,av.rz⟩) aj ?_;clear aj;intro w6 g6 aj _;simp only[aO,aJ] at aj;have hs:=And.intro (zH ((aj.out.aA 3).ay 0)) (zH ((aj.out.aI 5).ay 0));refine bk hK hs fun ah=>?_
   clear hK K;refine ak 9 rfl ?_;refine bW ?_
   rotate_left
   refine dw aR (p:=⟨q,av.rz⟩) aj ?_;clear aj;intro w6 g6 aj _;simp only[aO,aJ] at aj;have hs:=And.intro (zH ((aj.out.aA 3).ay 0)) (zH ((aj.out.aI 5).ay 0));refine bk hK hs fun ah=>?_
   clear hK K;refine aC 2 rfl fun K hK=>?_
   go_simp;go_at_call 132;refine(mJ.out z _).mono ?_;rintro e w5 ⟨rfl,b5⟩;have hs:=And.intro (zH (ah.1.out.call b5)) (zH (ah.2.out.call b5));replace aj:=zH (aj.out.call b5);clear b5;refine bk hK hs fun ah=>?_
   clear hK K;refine aC 6 rfl fun K hK=>?_
   refine bN (y:=x.sr x.rA x.rn x.rc x.v.refs) aj 3 ?_;clear aj;intro wq aj;simp only[lS] at aj;have hs:=And.intro (zH ((aj.out.aA 3).ay 0)) (zH ((aj.out.aI 5).ay 0));refine bk hK hs fun ah=>?_
   clear hK K;refine aC 7 rfl fun K hK=>?_
   refine bM (q:=⟨z,av.vn⟩) aj 4 ?_;clear aj;intro wq aj;simp only[lS] at aj;have hs:=And.intro (zH ((aj.out.aA 3).ay 0)) (zH ((aj.out.aI 5).ay 0));refine bk hK hs fun ah=>?_
   clear hK K;refine ak 8 rfl ?_;refine ak 9 rfl ?_;refine bW ?_
   rotate_left
   all_goals
    go_wp2_with fail;exact nE results138 (aj.out.blk 3 rfl) (aj.out.blk 4 rfl) ⟨x.sr x.rA x.rn x.rc x.v.refs,_,_,_,_,rfl,rfl,aj.out.aA 0,fun _ _ _ _ _ K hm hb=>⟨(HI.out _ hb).sr (HI.out _ hb).r,bJ.own (K.mem (hm _ (List.mem_cons_self ..))) ⟨fun _ _=>trivial,by show 1*72≤140737488355328;decide⟩⟩⟩
end
section
theorem Yx{w:World}{o:Oper}{a:Act}{x:Int}{b:Bool}{p:Operand}(ho:o.op=.binOp .neq 23 p (.const (.int .i64 0)) 23)(hp:a.eval p=.int .i64 x)(hb:(!decide (x=0))=b):
  (execOp a.eval o).run prog w=.ok (.value (.bool b)) w:=by
 have he:a.eval (.const (.int .i64 0))=.int .i64 0:=rfl;subst hb;unfold execOp;simp only[ho,hp,he];go_simp;by_cases h:x=0<;>simp[h]
theorem OE(G:World→Prop)(x:Oh)(r:Rf)(w:World)(hG:∀W,G W→In W x)(hx:In w x)(hd:0≤x.v.round):Calls prog 136 #[.agg (bS x),.agg #[.int .i64 r.c,.int .i64 r.e,.int .i64 r.r]] w (zh G (av.wait x.v r) w):=by
 have HI:=zH hG;have HT:=zH (fun W (hW:Below w.heap.size w W)=>Kq x.v.cap x.rA x.rc x.rn x.v.refs r W (hx.r.later hW));have iD:=zH (Nb (m:=x.v.cap) (r:=r) hx.r.fit)
 have gT:Hid (∀r':Rf,(Gt.zk x.v.cap x.v.refs r).length≤6):=zH fun _=>by
  by_cases he:Gt.qB x.v.cap x.v.refs r=0
  ·obtain⟨h1,h2,h3⟩:=Gt.Cv he
   have h5:=aS.fG h1.2.2.2;by_cases hf:(x.v.refs.length:Int)+1=x.v.cap
   ·rw[(Gt.oz h1 h2 h3 hf).2.2,List.length_append];show _+1≤6;omega
   ·rw[(Gt.ow h1 h2 h3 hf).2.2];exact Nat.zero_le _
  ·rw[(Gt.vT (z:=Gt.qB x.v.cap x.v.refs r) rfl he).2.2];exact Nat.zero_le _
 have gP:Hid (¬Gt.qB x.v.cap x.v.refs r=0→Gt.Em x.v.cap x.v.refs r=x.v.refs∧Gt.zk x.v.cap x.v.refs r=[]):=zH fun he=>(Gt.vT (z:=Gt.qB x.v.cap x.v.refs r) rfl he).2
 have mJ:=zH dS;have HK:=Cg w 63 (bS x) 35 #[.int .i64 r.c,.int .i64 r.e,.int .i64 r.r] 63 (bS rU) 28 (cB av.rz);have hmax:=hx.d;unfold zh av.wait;unfold Ws at HT;clear hx hG;generalize Gt.Em x.v.cap x.v.refs r=m at *
 generalize Gt.zk x.v.cap x.v.refs r=s at *
 generalize Gt.qB x.v.cap x.v.refs r=z at *
 by_cases hz0:z=0
 case neg=>
  obtain⟨hm,hs⟩:=gP.out hz0;subst hm hs;have hz:decide (z=0)=false:=decide_eq_false hz0;have hz2:(!decide (z=0))=true:=by rw[hz];rfl
  rw[if_pos List.length_nil];simp only[hz];clear gP gT hz0 hmax hd iD;go_enter func136,ntmps136;go_wp2_with (first|refine zX (jP HK 0) ?_|refine zX (gK HK 0) ?_|refine zX (aB HK 1) ?_);refine(HT.out _ HK.out.b).mono ?_;rintro e w1 ⟨A4,n4,c4,A5,n5,c5,rfl,k4,b4⟩;replace HK:=iy HK b4;clear k4 b4;go_wp2_with (first|refine zX (wS (x:=z) hz) ?_|refine zX (Yx (x:=z) (by rfl) (by rfl) hz2) ?_);have aj:=zH HK.out.drew;refine zR ((aj.out.aA 1).ay 0) fun ah=>?_
  refine ak 0 rfl ?_ fun _ s=>jv s 0
  refine ak 1 rfl ?_;refine aC 2 rfl fun K hK=>?_
  go_simp;go_at_call 132;refine(mJ.out z _).mono ?_;rintro e w5 ⟨rfl,b5⟩;have hs:=zH (ah.out.call b5);replace aj:=zH (aj.out.call b5);clear b5;refine bk hK hs fun ah=>?_
  clear hK K;refine aC 3 rfl fun K hK=>?_
  refine bN (y:=x) aj 2 ?_;clear aj;intro wq aj;simp only[lS] at aj;have hs:=zH ((aj.out.aA 1).ay 0);refine bk hK hs fun ah=>?_
  clear hK K;refine aC 4 rfl fun K hK=>?_
  refine bM (q:=⟨z,av.vn⟩) aj 3 ?_;clear aj;intro wq aj;simp only[lS] at aj;have hs:=zH ((aj.out.aA 1).ay 0);refine bk hK hs fun ah=>?_
  clear hK K;refine ak 5 rfl ?_;refine ak 6 rfl ?_;refine bW ?_
  all_goals
   exact aai
 subst hz0;clear gP;by_cases hs:s.length=0
 case pos=>
  rw[if_pos hs];obtain rfl:s=[]:=List.length_eq_zero_iff.1 hs;clear hs hd hmax gT mJ;go_enter func136,ntmps136;go_wp2_with (first|refine zX (jP HK 0) ?_|refine zX (gK HK 0) ?_|refine zX (aB HK 1) ?_);refine(HT.out _ HK.out.b).mono ?_;rintro e w1 ⟨A4,n4,c4,A5,n5,c5,rfl,k4,b4⟩;unfold Jg at k4
  rcases k4 with ⟨⟨rfl,rfl,rfl,-⟩,o4|⟨rfl,rfl,rfl,hm⟩⟩|⟨⟨rfl,rfl,rfl,hm⟩,o4⟩
  ·replace HK:=zH (HK.out.called b4 o4)
   simp only[aJ] at HK;clear o4 b4;go_wp2_with (first|(refine cu HK 0 m ?_;clear HK;intro _ HK;simp only[lS] at HK)|refine zX (jv HK 0) ?_|(refine fD (y:=x.sr A4 n4 c4 m) HK 2 ?_;clear HK;intro _ HK;simp only[lS] at HK)|(refine bf (q:=⟨0,av.vn⟩) HK 3 ?_;clear HK;intro _ HK;simp only[lS] at HK));exact nE results136 (HK.out.blk 2 rfl) (HK.out.blk 3 rfl) ⟨x.sr A4 n4 c4 m,_,_,_,_,rfl,rfl,HK.out.aA 0,fun _ _ _ _ _ K hm hb=>⟨(HI.out _ hb).sr (bJ.own (K.mem (hm _ (List.mem_cons_self ..))) iD.out.1),bJ.none _⟩⟩
  ·subst hm
   replace HK:=iy HK b4;clear b4;go_wp2_with (first|(refine cu HK 0 x.v.refs ?_;clear HK;intro _ HK;simp only[lS] at HK)|refine zX (jv HK 0) ?_|(refine fD (y:=x.sr x.rA x.rn x.rc x.v.refs) HK 2 ?_;clear HK;intro _ HK;simp only[lS] at HK)|(refine bf (q:=⟨0,av.vn⟩) HK 3 ?_;clear HK;intro _ HK;simp only[lS] at HK));exact nE results136 (HK.out.blk 2 rfl) (HK.out.blk 3 rfl) ⟨x.sr x.rA x.rn x.rc x.v.refs,_,_,_,_,rfl,rfl,HK.out.aA 0,fun _ _ _ _ _ K hm hb=>⟨(HI.out _ hb).sr (HI.out _ hb).r,bJ.none _⟩⟩
  ·subst hm
   obtain rfl:n5=0:=o4.reads.1;replace HK:=iy HK b4;clear o4 b4;go_wp2_with (first|(refine cu HK 0 ([]:List Rf) ?_;clear HK;intro _ HK;simp only[lS] at HK)|refine zX (jv HK 0) ?_|(refine fD (y:=x.sr none 0 0 []) HK 2 ?_;clear HK;intro _ HK;simp only[lS] at HK)|(refine bf (q:=⟨0,av.vn⟩) HK 3 ?_;clear HK;intro _ HK;simp only[lS] at HK));exact nE results136 (HK.out.blk 2 rfl) (HK.out.blk 3 rfl) ⟨x.sr none 0 0 [],_,_,_,_,rfl,rfl,HK.out.aA 0,fun _ _ _ _ _ K hm hb=>⟨(HI.out _ hb).sr (bJ.none _),bJ.none _⟩⟩
 rw[if_neg hs];have hlen:=gT.out r;obtain⟨M,hN⟩:∃M,s.length=M+1:=⟨s.length-1,by omega⟩;have hM3:M≤6:=by omega
 rw[hN];have mI:=zH hN;have WV:Hid (¬s=[]):=zH fun h=>hs (by rw[h];rfl)
 have hM2:M<9223372036854775807:=by omega
 have hgt:decide ((0:Int)<(M:Int)+1)=true:=decide_eq_true (by omega);clear hN hs hlen gT;by_cases hm:x.v.round=9223372036854775807
 case pos=>
  rw[if_pos hm];have hmb:(x.v.round==9223372036854775807)=true:=by simpa using hm
  clear hm hd hmax;go_enter func136,ntmps136;go_wp2_with (first|refine zX (jP HK 0) ?_|refine zX (gK HK 0) ?_|refine zX (aB HK 1) ?_);refine(HT.out _ HK.out.b).mono ?_;rintro e w1 ⟨A4,n4,c4,A5,n5,c5,rfl,k4,b4⟩;unfold Jg at k4
  rcases k4 with ⟨⟨_,_,_,h0⟩,_⟩|⟨_,o4⟩
  ·exact absurd h0 WV.out
  obtain rfl:n5=M+1:=o4.reads.1.trans mI.out;replace HK:=iy HK b4;clear o4 b4;go_wp2_with (first|refine zX (yO HK 0) ?_|refine zX (dz (x:=(M:Int)+1) (k:=0) hgt) ?_);have aj:=zH HK.out.drew;refine zR ((aj.out.aA 1).ay 0) fun ah=>?_
  refine ak 0 rfl ?_ fun _ s=>jv s 0
  refine ak 1 rfl ?_;refine aC 2 rfl fun K hK=>?_
  go_simp;go_at_call 132;refine(mJ.out 6 _).mono ?_;rintro e w5 ⟨rfl,b5⟩;have hs:=zH (ah.out.call b5);replace aj:=zH (aj.out.call b5);clear b5;refine bk hK hs fun ah=>?_
  clear hK K;refine aC 3 rfl fun K hK=>?_
  refine bN (y:=x) aj 2 ?_;clear aj;intro wq aj;simp only[lS] at aj;have hs:=zH ((aj.out.aA 1).ay 0);refine bk hK hs fun ah=>?_
  clear hK K;refine aC 4 rfl fun K hK=>?_
  refine bM (q:=⟨6,av.vn⟩) aj 3 ?_;clear aj;intro wq aj;simp only[lS] at aj;have hs:=zH ((aj.out.aA 1).ay 0);refine bk hK hs fun ah=>?_
  clear hK K;refine ak 5 rfl ?_;refine ak 6 rfl ?_;refine bW ?_
  all_goals
   exact aai
 rw[if_neg hm];have hmb:(x.v.round==9223372036854775807)=false:=by simpa using hm
 have adJ:Hid (IntKind.i64.wrap (x.v.round+1)=x.v.round+1):=zH (by rw[IntKind.wrap_i64];omega);have HMx:Hid (x.v.round+1≤9223372036854775807):=zH (by omega);clear hm hd hmax;have HFa:=zH iD.out.2;rw[Nat.add_sub_cancel];go_enter func136,ntmps136;go_wp2_with (first|refine zX (jP HK 0) ?_|refine zX (gK HK 0) ?_|refine zX (aB HK 1) ?_);refine(HT.out _ HK.out.b).mono ?_;rintro e w1 ⟨A4,n4,c4,A5,n5,c5,rfl,k4,b4⟩;unfold Jg at k4
 rcases k4 with ⟨⟨_,_,_,h0⟩,_⟩|⟨⟨rfl,rfl,rfl,rfl⟩,o4⟩
 ·exact absurd h0 WV.out
 obtain rfl:n5=M+1:=o4.reads.1.trans mI.out;replace HK:=zH (HK.out.called b4 o4);simp only[aJ] at HK;clear o4 b4;obtain⟨g5,rfl⟩:=HK.out.MS (La:=aG) (j:=0) rfl (by rw[mI.out];omega);go_wp2_with (first|refine zX (yO HK 0) ?_|refine zX (dz (x:=(M:Int)+1) (k:=0) hgt) ?_|(refine cu HK 0 ([]:List Rf) ?_;clear HK;intro _ HK;simp only[lS] at HK)|(refine bQ HK ?_;clear HK;intro _ g8 HK;simp only[aO,aJ] at HK)|(refine bf (q:=⟨0,av.num x.v.round⟩) HK 4 ?_;clear HK;intro _ HK;simp only[lS] at HK)|refine zX (DC (x:=x.v.round) (y:=x.v.round+1) adJ.out) ?_|(refine Ac HK 0 rfl rfl rfl rfl (d:=x.v.round+1) rfl ?_;clear HK;intro _ HK;simp only[lS] at HK));replace HK:=zH (HK.out.wE aR);simp only[aO,aJ] at HK;go_loopw [12,13] (fun vo vi wr=>∃(k:Nat) (A7:Option Addr) (c7:Nat),k≤M∧vo=.slice A7 k c7∧vi=.int .i64 k∧Hid ((av.rR (s.take k) ⟨0,av.num x.v.round⟩).length=k)∧Hid (Kn w.heap.size w wr [(w.heap.size,63,bS ((x.sr none 0 0 []).sd (x.v.round+1))),(w.heap.size+1,35,#[.int .i64 r.c,.int .i64 r.e,.int .i64 r.r]),(w.heap.size+1+1,63,bS rU),(w.heap.size+1+1+1,28,cB av.rz),(g8,28,cB ⟨0,av.num x.v.round⟩)] [row aG (.slice (some ⟨g5,0,none⟩) (M+1) c5) s,row aR (.slice A7 k c7) (av.rR (s.take k) ⟨0,av.num x.v.round⟩)])) (fun _ vi _=>M+1-(intOf vi).toNat)
 case atStart=>exact⟨0,_,_,Nat.zero_le _,rfl,rfl,zH rfl,HK⟩
 case round=>
  clear HK;obtain⟨k,A7,c7,hk,rfl,rfl,hL7,HK⟩:=hrel;have hk1:(0:Int)≤(k:Int):=by omega
  have hk3:k<9223372036854775807:=by omega
  by_cases hlt:k<M
  ·obtain⟨y,hy⟩:=Lay.fI (l:=s) (k:=k) (by rw[mI.out];omega)
   have HY:=zH hy;have Ef:=zH (CG ⟨0,av.num x.v.round⟩ hy);clear hy;have hk2:(k:Int)<(M:Int):=by omega
   have hkM:k<M+1:=by omega
   generalize av.rR (s.take k) ⟨0,av.num x.v.round⟩=os at *
   have HL:Hid (os.length+1≤9223372036854775807∧(os.length+1)*aR.bytes≤211106232532992):=zH (by
    rw[hL7.out];refine⟨by omega,?_⟩
    show(k+1)*72≤_
    omega)
   have vQ:Hid ((os++[(⟨y,⟨0,av.num x.v.round⟩⟩:av.Ot)]).length=k+1):=zH (by rw[List.length_append,hL7.out];rfl);go_wp2_with refine zX (iI (j:=M) hM2) ?_;have aj:=zH HK.out.drew;refine zR ((aj.out.aI 4).ay 1) fun ah=>?_
   refine ak 0 rfl ?_;refine ak 1 rfl ?_;refine ak 2 rfl ?_;refine ak 3 rfl ?_ fun _ s=>dM (i:=k) hkM
   refine ak 4 rfl ?_ fun _ s=>bV (x:=y) (off:=0+k*3) (s.out.atR (La:=aG) (j:=0) rfl HY.out)
   refine ak 5 rfl ?_ fun _ s=>xC s 0
   refine ak 6 rfl ?_ fun _ s=>kU (r:=y) (p:=⟨0,av.num x.v.round⟩)
   refine aC 7 rfl fun K hK=>?_
   refine dw aR (p:=⟨y,⟨0,av.num x.v.round⟩⟩) aj ?_;clear aj;intro w6 g6 aj _;simp only[aO,aJ] at aj;have hs:=zH ((aj.out.aI 4).ay 1);refine bk hK hs fun ah=>?_
   clear hK K;refine aC 8 rfl fun K hK=>?_
   refine aT aR aj 1 [⟨y,⟨0,av.num x.v.round⟩⟩] (zH (aj.out.own 2 rfl).rd) HL (N:=k+1) vQ ?_;clear aj;intro A8 c8 w8 aj;simp only[lS] at aj;have hs:=zH ((aj.out.aI 4).ay 1);refine bk hK hs fun ah=>?_
   clear hK K;refine ak 9 rfl ?_;refine bW ?_;go_wp2_with refine zX (aL (j:=k) hk3) ?_;refine⟨⟨k+1,A8,c8,by omega,rfl,by go_num,zH (by rw[Ef.out];exact vQ.out),zH ?_⟩,by simp[intOf];omega⟩;rw[Ef.out];exact aj.out.ay 2
  ·obtain rfl:k=M:=by omega
   have yV:Hid (Fits aR tF (av.rR (s.take k) ⟨0,av.num x.v.round⟩)):=zH (Fa);have hk2:¬(k:Int)<(k:Int):=by omega
   generalize hos:av.rR (s.take k) ⟨0,av.num x.v.round⟩=os at *
   have QK:=zH hos;clear hos;go_wp2_with refine zX (iI (j:=k) hM2) ?_;have aj:=zH HK.out.drew;refine wp_region_held_drew (S:=(fun W=>Hid (Kn w.heap.size w W [(w.heap.size,63,bS ((x.sr none 0 0 []).sd (x.v.round+1)))] [])∧Hid (Kn w.heap.size w W [(g8,28,cB ⟨0,av.num x.v.round⟩)] []))) (by kernel_rfl) ?_ fun ah=>?_
   ·(try dsimp only);exact And.intro (zH ((aj.out.aA 1).ay 0)) (zH ((aj.out.aI 4).ay 0))
   refine ak 0 rfl ?_ fun _ s=>jv s.1 0
   refine ak 1 rfl ?_ fun _ s=>xC s.2 0
   refine ak 2 rfl ?_;refine aC 3 rfl fun K hK=>?_
   refine bN (y:=(x.sr none 0 0 []).sd (x.v.round+1)) aj 2 ?_;clear aj;intro wq aj;simp only[lS] at aj;have hs:=And.intro (zH ((aj.out.aA 1).ay 0)) (zH ((aj.out.aI 4).ay 0));refine bk hK hs fun ah=>?_
   clear hK K;refine aC 4 rfl fun K hK=>?_
   refine bM (q:=⟨0,av.num x.v.round⟩) aj 3 ?_;clear aj;intro wq aj;simp only[lS] at aj;have hs:=And.intro (zH ((aj.out.aA 1).ay 0)) (zH ((aj.out.aI 4).ay 0));refine bk hK hs fun ah=>?_
   clear hK K;refine ak 5 rfl ?_;refine ak 6 rfl ?_;refine bW ?_
   all_goals
    go_wp2_with fail;exact nE results136 (aj.out.blk 2 rfl) (aj.out.blk 3 rfl) ⟨(x.sr none 0 0 []).sd (x.v.round+1),_,_,_,_,rfl,rfl,aj.out.aA 0,fun _ _ _ _ _ K hm hb=>⟨((HI.out _ hb).sr (bJ.none _)).sd HMx.out,by rw[QK.out];exact bJ.own (K.mem (hm _ (List.mem_cons_of_mem _ (List.mem_cons_self ..)))) yV.out⟩⟩
end
section
theorem QC{o:av.Ob}{r:Rf}{c:aF.C}(h12:¬c.k=12)(Dv:¬c.k=13)(vJ:¬c.k=14):(av.act o r c).later=false∧(av.act o r c).outs=[]:=by
 unfold av.act;rw[if_neg h12,if_neg Dv,if_neg vJ]
 repeat' split
 all_goals exact⟨rfl,rfl⟩
theorem RJ(l:List Oh)(i:Nat)(y:Oh):vs (l.set i y)=(vs l).set i y.v:=by
 unfold vs;rw[List.map_set]
theorem UC{W:World}{l:List Oh}{i:Nat}{z:Oh}(h:∀x∈l,In W x)(hz:In W z){y:Oh}(hy:y∈l.set i z):In W y:=by
 rcases List.mem_or_eq_of_mem_set hy with h1|rfl
 ·exact h y h1
 ·exact hz
theorem Kn.Xr{b0:Nat}{w0 w:World}{R:List dA}{a b c d e:Nat×TypeId×Array Value}(h:Kn b0 w0 w [a,b,c,d,e] R):Kn b0 w0 w [a,b,c,e,d] R:=by
 refine h.pick (fun i=>if i=3 then 4 else if i=4 then 3 else i) (fun i=>i) (fun i j hi hj hij=>?_) (fun i j hi hj hij=>hij) (fun i x hx=>?_) (fun i x hx=>hx)
 ·simp only[List.length_cons,List.length_nil] at hi hj
  show(if i=3 then 4 else if i=4 then 3 else i)≠(if j=3 then 4 else if j=4 then 3 else j)
  split<;>split<;>(try split)<;>(try split)<;>omega
 ·match i,hx with
  | 0,hx|1,hx|2,hx|3,hx|4,hx=>exact hx
  | n+5,hx=>simp at hx
theorem Ki(G:World→Prop)(x:Oh)(r:Rf)(c:aF.C)(w:World)(hG:∀W,G W→In W x)(hx:In w x)(hv:c.val.f<18446744073709551616)(hk:4≤c.k∧c.k≤17)(h4:¬c.k=4)(h5:¬c.k=5)(h12:¬c.k=12)(Dv:¬c.k=13)(vJ:¬c.k=14):
  Calls prog 139 #[.agg (bS x),.agg (dh c)] w (pG G (av.act x.v r c) w):=by
 rcases av.qz hk h4 h5 with h|h|h|h|h|h|h|h|h|h|h|h
 ·exact Sw G x r c w hG hx hv h
 ·exact Sv G x r c w hG hx hv h
 ·exact Sr G x r c w hG hx hv h
 ·exact Sq G x r c w hG hx hv h
 ·exact OQ G x r c w hG hx hv h
 ·exact OP G x r c w hG hx hv h
 ·exact absurd h h12
 ·exact absurd h Dv
 ·exact absurd h vJ
 ·exact OO G x r c w hG hx hv h
 ·exact OM G x r c w hG hx hv h
 ·exact OL G x r c w hG hx hv h
end
section
theorem SY(G:World→Prop)(A:Option Addr)(cp n:Nat)(l:List Oh)(r:Rf)(c:aF.C)(w:World)(hG:∀W,G W→bY W A n cp l)(hs:bY w A n cp l)(hv:c.val.f<18446744073709551616)(ho:c.old.f<18446744073709551616)(fT:av.All (vs l) r c)(he:aF.bG c=0)(h4:¬c.k=4)(h5:¬c.k=5)(o:av.Ob)(hf:av.jc (vs l) c.name=some o)(hft:av.fits c.k o.kind=true)(vJ:c.k=14):
  Calls prog 77 #[.slice A n cp,.agg #[.int .i64 r.c,.int .i64 r.e,.int .i64 r.r],.agg (dh c)] w (mQ G (av.iC (vs l) r c) w):=by
 have yF:=zH hG;have mJ:=zH dS;have HK:=AY w 35 #[.int .i64 r.c,.int .i64 r.e,.int .i64 r.r] 37 (dh c) 28 (cB av.rz);have HM:=zH (fun W (hW:Below w.heap.size w W)=>cK A cp n l W (hs.later hW));unfold cZ at HM;have HC:=zH (fun W=>gu r W);unfold cZ at HC;have HE:=zH (fun W=>iG c W hv ho);unfold gX at HE;have hall:=fT;rw[decide_eq_true hall.1] at HM;rw[decide_eq_true hall.2.1] at HC;have D4:Hid (decide (c.k<4)=false):=zH (decide_eq_false (by have:=hall.2.2.1;omega));have tK:Hid (decide (17<c.k)=false):=zH (decide_eq_false (by have:=hall.2.2.2;omega));rw[he] at HE;have uH:=zH (fun W (hW:Below w.heap.size w W)=>iF A cp n l c.name W (hs.later hW));have BL:Hid (¬∀(j:Nat) (y:Oh),l[j]?=some y→¬y.v.name=c.name):=zH (fun h=>by have:=(av.sM (l:=vs l) (k:=c.name) (fun j y hj=>by obtain⟨z,hz,rfl⟩:=yH hj;exact h j z hz)).2;rw[hf] at this;cases this);have BM:Hid (∀(i:Nat) (x:Oh),l[i]?=some x→x.v.name=c.name→x.v=o):=zH (fun i x h1 h2=>by have:=(av.jW hall.1.up (dL h1) h2).2.2;rw[hf] at this;injection this with this;exact this.symm)
 have hpos:0<n:=by
  rcases Nat.eq_zero_or_pos n with h0|h0
  ·subst h0
   rw[List.length_eq_zero_iff.1 hs.len] at hf;cases hf
  ·exact h0
 have hl:=hs.len;obtain⟨b,sK,rfl,nS⟩:=hs.s.at hpos;have BP:=zH nS;have HI:=zH hs.i;clear nS;have yX:Hid (∀(i:Nat) (x:Oh),l[i]?=some x→x.v.name=c.name→x.v=o→av.iC (vs l) r c=⟨(vs l).set i (av.act o r c).o,(av.act o r c).p,(av.act o r c).later,(av.act o r c).outs⟩):=zH (fun i x h1 h2 h3=>by have h:=av.zP hall he h4 h5 (dL h1) h2 (by rw[h3];exact hft);rw[h3] at h;exact h);have HW:=zH (fun(W:World) (hW:Below w.heap.size w W) (i:Nat) (y:Oh) (hi:i<n)=>tV cp n l i y W (hs.later hW) hi);have WK:Hid (n*144≤140737488355328):=zH hs.s.big;have hk4:o.kind=4:=by rw[vJ] at hft;unfold av.fits at hft;simpa using hft
 have hac:av.act o r c=av.wait o r:=by unfold av.act;rw[if_neg (by omega),if_neg (by omega),if_pos vJ]
 have K4:Hid (decide (o.kind=4)=true):=zH (decide_eq_true hk4);have E14:Hid (decide (c.k=14)=true):=zH (decide_eq_true vJ);have iD:=zH (fun W=>lq c.k o.kind hall.2.2.2 W);unfold cZ at iD;rw[hft] at iD;have E4:Hid (decide (c.k=4)=false):=zH (decide_eq_false h4);have E5:Hid (decide (c.k=5)=false):=zH (decide_eq_false h5);have FK:Hid (∀(x:Oh),x.v=o→x∈l→∀W,Below w.heap.size w W→Calls prog 136 #[.agg (bS x),.agg #[.int .i64 r.c,.int .i64 r.e,.int .i64 r.r]] W (zh G (av.act o r c) W)):=zH (fun x h1 h2 W hW=>by have h:=OE G x r W (fun W h=>(yF.out W h).i x h2) ((hs.i x h2).later hW) (av.Gl (hall.1.ok x.v (by unfold vs;exact List.mem_map_of_mem h2)) (by rw[← vJ,h1];exact hft));rw[h1,← hac] at h;exact h);unfold FJ at HW;unfold zh at FK;clear hs hv ho hall fT hG he h4 h5 hf hft hac hk4 vJ;generalize hds:av.iC (vs l) r c=ds at *
 clear hds;generalize av.act o r c=Y at *
 obtain⟨yo,yp,yt,ys⟩:=Y;simp only at FK yX;go_enter func77,ntmps77;go_wp2_with fail
 (refine(HM.out _ HK.out.b).mono ?_;rintro e w1 ⟨rfl,b1⟩)
 replace HK:=iy HK b1;clear b1;go_wp2_with refine zX (aB HK 0) ?_;refine cb (HC.out _) HK ?_;clear HK;intro _ HK;go_wp2_with (first|refine zX (bK HK 1) ?_|refine zX (dH (x:=c.k) (k:=4) D4.out) ?_|refine zX (dz (x:=c.k) (k:=17) tK.out) ?_|refine zX (zD HK 1) ?_);refine cb (HE.out _) HK ?_;clear HK;intro _ HK;go_wp2_with refine zX (ko HK 1) ?_;refine(uH.out _ HK.out.b).mono ?_;rintro e w1 ⟨z,hat,rfl,b1⟩;replace HK:=iy HK b1;clear b1
 rcases hat with ⟨i,x,rfl,hx,hn,_⟩|⟨rfl,hno⟩
 case inr=>exact absurd hno BL.out
 obtain rfl:=BM.out i x hx hn;have HX:Hid (∀W,Below w.heap.size w W→∀j v,(vR x)[j]?=some v→W.cell? ⟨b,sK+i*11+j,none⟩=some v):=zH fun W hW=>BP.out W hW i x hx
 have hin:i<n:=by have:=(List.getElem?_eq_some_iff.1 hx).1;omega
 have hi0:(0:Int)≤(i:Int):=by omega
 have hi1:(i:Int)<(n:Int):=by omega
 have G0:Hid (decide ((0:Int)≤(i:Int))=true):=zH (decide_eq_true hi0);have L0:Hid (decide ((i:Int)<0)=false):=zH (decide_eq_false (by omega));have BN:=zH (FK.out x rfl (List.mem_of_getElem? hx));have HDx:=zH (yX.out i x hx hn rfl);have mI:Hid (l.length=n):=zH hl;have hil:i<l.length:=by rw[hl];exact hin
 clear BP hx hn BM BL FK yX hl HI;go_wp2_with (first|refine zX (bK HK 1) ?_|refine zX (aZ (x:=c.k) (k:=4) E4.out) ?_|refine zX (dH (x:=(i:Int)) (k:=0) L0.out) ?_);have aj:=zH HK.out.drew;refine zR aj.out fun ah=>?_
 refine ak 0 rfl ?_;refine ak 1 rfl ?_ fun _ s=>bK s 1
 refine ak 2 rfl ?_;refine ak 3 rfl ?_;refine ak 4 rfl ?_ fun _ s=>bL (i:=i) hin
 refine ak 5 rfl ?_;refine ak 6 rfl ?_ fun _ s=>eD (x:=x) (off:=sK+i*11) (HX.out _ s.out.b)
 refine aC 7 rfl fun K hK=>?_
 go_simp;go_at_call 135;refine(iD.out _).mono ?_;rintro e w5 ⟨rfl,b5⟩;have hs:=zH (ah.out.call b5);clear b5;refine bk hK hs fun ah=>?_
 clear hK K;refine ak 8 rfl ?_;refine ak 9 rfl ?_;refine bW ?_;replace HK:=ah;clear ah aj;go_wp2_with (first|refine zX (bK HK 1) ?_|refine zX (aZ (x:=c.k) (k:=5) E5.out) ?_|refine zX (bL (i:=i) hin) ?_|refine zX (eD (x:=x) (off:=sK+i*11) (HX.out _ HK.out.b)) ?_|refine zX (aZ (x:=x.v.kind) (k:=4) K4.out) ?_|refine zX (aZ (x:=c.k) (k:=14) E14.out) ?_);go_cut [12,13,14,15] (fun s12 s13 s14 s15 wx=>∃(y:Oh) (A5:Option Addr) (n5 d5:Nat) (Rn:List dA) (g12 g13:Nat),s12=.pointer (some ⟨g12,0,none⟩)∧s13=.pointer (some ⟨g13,0,none⟩)∧s14=.bool yt∧s15=.slice A5 n5 d5∧Hid (y.v=yo)∧Hid (Kn w.heap.size w wx [(w.heap.size,35,#[.int .i64 r.c,.int .i64 r.e,.int .i64 r.r]),(w.heap.size+1,37,dh c),(w.heap.size+2,28,cB av.rz),(g12,63,bS y),(g13,28,cB yp)] Rn)∧Hid (∀(b:Nat) (W0 W:World) L R,Kn b W0 W L R→(∀z∈Rn,z∈R)→G W→In W y∧bJ aR tF W A5 n5 d5 ys))
 case first=>
  have aj:=zH HK.out.drew;refine wp_region_held_drew (S:=(fun W=>Hid (Kn w.heap.size w W [(w.heap.size,35,#[.int .i64 r.c,.int .i64 r.e,.int .i64 r.r]),(w.heap.size+1,37,dh c)] []))) (by kernel_rfl) ?_ fun ah=>?_
  ·(try dsimp only);exact fC aj
  refine ak 0 rfl ?_;refine ak 1 rfl ?_;refine ak 2 rfl ?_ fun _ s=>bL (i:=i) hin
  refine ak 3 rfl ?_ fun _ s=>eB (x:=x) (off:=sK+i*11) (HX.out _ s.out.b)
  refine ak 4 rfl ?_ fun _ s=>aB s 0
  refine Xu 5 11 12 rfl rfl rfl (fun K hK=>?_) (fun K hK=>?_) fun K hK=>?_
  go_simp;go_at_call 136;refine(BN.out _ aj.out.b).mono ?_;rintro e w5 ⟨y,A5,n5,d5,Rn,rfl,rW,k5,oQ⟩;replace aj:=zH (aj.out.join k5);clear k5;have hs:=fC aj;refine bk hK hs fun ah=>?_
  clear hK K;refine ak 6 rfl ?_;refine ak 7 rfl ?_;refine ak 8 rfl ?_;refine ak 9 rfl ?_;refine ak 10 rfl ?_;refine jr 11 12 rfl rfl (fun K hK=>?_) fun K hK=>?_
  refine pQ aj ?_;clear aj;intro wq g12 aj;have hs:=fC aj;refine bk hK hs fun ah=>?_
  clear hK K;refine aC 12 rfl fun K hK=>?_
  refine pO aj ?_;clear aj;intro wq g13 aj;have hs:=fC aj;refine bk hK hs fun ah=>?_
  clear hK K;refine aC 13 rfl fun K hK=>?_
  (first|refine gH y aj 3 ?_|refine gH y aj 4 ?_);clear aj;intro wq aj;simp only[aO,aJ,List.set] at aj;have hs:=fC aj
  refine bk hK hs fun ah=>?_
  clear hK K;refine aC 14 rfl fun K hK=>?_
  (first|refine fU yp aj 3 ?_|refine fU yp aj 4 ?_);clear aj;intro wq aj;simp only[aO,aJ,List.set] at aj;have hs:=fC aj
  refine bk hK hs fun ah=>?_
  clear hK K;refine ak 15 rfl ?_;refine ak 16 rfl ?_;refine bW ?_
  rotate_left
  refine pO aj ?_;clear aj;intro wq g13 aj;have hs:=fC aj;refine bk hK hs fun ah=>?_
  clear hK K;refine aC 11 rfl fun K hK=>?_
  refine pQ aj ?_;clear aj;intro wq g12 aj;have hs:=fC aj;refine bk hK hs fun ah=>?_
  clear hK K;refine aC 13 rfl fun K hK=>?_
  (first|refine gH y aj 3 ?_|refine gH y aj 4 ?_);clear aj;intro wq aj;simp only[aO,aJ,List.set] at aj;have hs:=fC aj
  refine bk hK hs fun ah=>?_
  clear hK K;refine aC 14 rfl fun K hK=>?_
  (first|refine fU yp aj 3 ?_|refine fU yp aj 4 ?_);clear aj;intro wq aj;simp only[aO,aJ,List.set] at aj;have hs:=fC aj
  refine bk hK hs fun ah=>?_
  clear hK K;refine ak 15 rfl ?_;refine ak 16 rfl ?_;refine bW ?_
  rotate_left
  refine pQ aj ?_;clear aj;intro wq g12 aj;have hs:=fC aj;refine bk hK hs fun ah=>?_
  clear hK K;refine jr 5 12 rfl rfl (fun K hK=>?_) fun K hK=>?_
  go_simp;go_at_call 136;refine(BN.out _ aj.out.b).mono ?_;rintro e w5 ⟨y,A5,n5,d5,Rn,rfl,rW,k5,oQ⟩;replace aj:=zH (aj.out.join k5);clear k5;have hs:=fC aj;refine bk hK hs fun ah=>?_
  clear hK K;refine ak 6 rfl ?_;refine ak 7 rfl ?_;refine ak 8 rfl ?_;refine ak 9 rfl ?_;refine ak 10 rfl ?_;refine aC 12 rfl fun K hK=>?_
  refine pO aj ?_;clear aj;intro wq g13 aj;have hs:=fC aj;refine bk hK hs fun ah=>?_
  clear hK K;refine aC 13 rfl fun K hK=>?_
  (first|refine gH y aj 3 ?_|refine gH y aj 4 ?_);clear aj;intro wq aj;simp only[aO,aJ,List.set] at aj;have hs:=fC aj
  refine bk hK hs fun ah=>?_
  clear hK K;refine aC 14 rfl fun K hK=>?_
  (first|refine fU yp aj 3 ?_|refine fU yp aj 4 ?_);clear aj;intro wq aj;simp only[aO,aJ,List.set] at aj;have hs:=fC aj
  refine bk hK hs fun ah=>?_
  clear hK K;refine ak 15 rfl ?_;refine ak 16 rfl ?_;refine bW ?_
  rotate_left
  refine pO aj ?_;clear aj;intro wq g13 aj;have hs:=fC aj;refine bk hK hs fun ah=>?_
  clear hK K;refine aC 5 rfl fun K hK=>?_
  go_simp;go_at_call 136;refine(BN.out _ aj.out.b).mono ?_;rintro e w5 ⟨y,A5,n5,d5,Rn,rfl,rW,k5,oQ⟩;replace aj:=zH (aj.out.join k5);clear k5;have hs:=fC aj;refine bk hK hs fun ah=>?_
  clear hK K;refine ak 6 rfl ?_;refine ak 7 rfl ?_;refine ak 8 rfl ?_;refine ak 9 rfl ?_;refine ak 10 rfl ?_;refine aC 13 rfl fun K hK=>?_
  (first|refine gH y aj 3 ?_|refine gH y aj 4 ?_);clear aj;intro wq aj;simp only[aO,aJ,List.set] at aj;have hs:=fC aj
  refine bk hK hs fun ah=>?_
  clear hK K;refine aC 14 rfl fun K hK=>?_
  (first|refine fU yp aj 3 ?_|refine fU yp aj 4 ?_);clear aj;intro wq aj;simp only[aO,aJ,List.set] at aj;have hs:=fC aj
  refine bk hK hs fun ah=>?_
  clear hK K;refine ak 15 rfl ?_;refine ak 16 rfl ?_;refine bW ?_
  rotate_left
  refine pO aj ?_;clear aj;intro wq g13 aj;have hs:=fC aj;refine bk hK hs fun ah=>?_
  clear hK K;refine jr 5 11 rfl rfl (fun K hK=>?_) fun K hK=>?_
  go_simp;go_at_call 136;refine(BN.out _ aj.out.b).mono ?_;rintro e w5 ⟨y,A5,n5,d5,Rn,rfl,rW,k5,oQ⟩;replace aj:=zH (aj.out.join k5);clear k5;have hs:=fC aj;refine bk hK hs fun ah=>?_
  clear hK K;refine ak 6 rfl ?_;refine ak 7 rfl ?_;refine ak 8 rfl ?_;refine ak 9 rfl ?_;refine ak 10 rfl ?_;refine aC 11 rfl fun K hK=>?_
  refine pQ aj ?_;clear aj;intro wq g12 aj;have hs:=fC aj;refine bk hK hs fun ah=>?_
  clear hK K;refine aC 13 rfl fun K hK=>?_
  (first|refine gH y aj 3 ?_|refine gH y aj 4 ?_);clear aj;intro wq aj;simp only[aO,aJ,List.set] at aj;have hs:=fC aj
  refine bk hK hs fun ah=>?_
  clear hK K;refine aC 14 rfl fun K hK=>?_
  (first|refine fU yp aj 3 ?_|refine fU yp aj 4 ?_);clear aj;intro wq aj;simp only[aO,aJ,List.set] at aj;have hs:=fC aj
  refine bk hK hs fun ah=>?_
  clear hK K;refine ak 15 rfl ?_;refine ak 16 rfl ?_;refine bW ?_
  rotate_left
  refine pQ aj ?_;clear aj;intro wq g12 aj;have hs:=fC aj;refine bk hK hs fun ah=>?_
  clear hK K;refine aC 5 rfl fun K hK=>?_
  go_simp;go_at_call 136;refine(BN.out _ aj.out.b).mono ?_;rintro e w5 ⟨y,A5,n5,d5,Rn,rfl,rW,k5,oQ⟩;replace aj:=zH (aj.out.join k5);clear k5;have hs:=fC aj;refine bk hK hs fun ah=>?_
  clear hK K;refine ak 6 rfl ?_;refine ak 7 rfl ?_;refine ak 8 rfl ?_;refine ak 9 rfl ?_;refine ak 10 rfl ?_;refine aC 13 rfl fun K hK=>?_
  (first|refine gH y aj 3 ?_|refine gH y aj 4 ?_);clear aj;intro wq aj;simp only[aO,aJ,List.set] at aj;have hs:=fC aj
  refine bk hK hs fun ah=>?_
  clear hK K;refine aC 14 rfl fun K hK=>?_
  (first|refine fU yp aj 3 ?_|refine fU yp aj 4 ?_);clear aj;intro wq aj;simp only[aO,aJ,List.set] at aj;have hs:=fC aj
  refine bk hK hs fun ah=>?_
  clear hK K;refine ak 15 rfl ?_;refine ak 16 rfl ?_;refine bW ?_
  rotate_left
  all_goals
   go_wp2_with fail;go_meet
   first|exact⟨y,A5,n5,d5,Rn,g12,g13,rfl,rfl,rfl,rfl,rW,aj,oQ⟩|exact⟨y,A5,n5,d5,Rn,g12,g13,rfl,rfl,rfl,rfl,rW,zH aj.out.Xr,oQ⟩
 case rest=>
 obtain⟨y,A5,n5,d5,Rn,g12,g13,rfl,rfl,rfl,rfl,rW,HK,oQ⟩:=hcut;go_wp2_with fail;have aj:=zH HK.out.drew;refine wp_region_held_drew (S:=(fun W=>Hid (Kn w.heap.size w W [(g12,63,bS y),(g13,28,cB yp)] []))) (by kernel_rfl) ?_ fun ah=>?_
 ·(try dsimp only);exact QT aj
 refine ak 0 rfl ?_;refine ak 1 rfl ?_;refine ak 2 rfl ?_ fun _ s=>jv s 0
 refine ak 4 rfl ?_ fun _ s=>xC s 1
 refine ak 5 rfl ?_;refine ak 6 rfl ?_;refine aC 3 rfl fun K hK=>?_
 go_simp;go_at_call 137;refine(HW.out _ aj.out.b i y hin).mono ?_;rintro e w6 ⟨A6,n6,c6,rfl,o6,b6⟩;replace aj:=zH (aj.out.called b6 o6);clear o6 b6;have hs:=QT aj;refine bk hK hs fun ah=>?_
 clear hK K;refine ak 7 rfl ?_;refine aC 8 rfl fun K hK=>?_
 refine fU yp aj 2 ?_;clear aj;intro wq aj;simp only[lS] at aj;have hs:=QT aj;refine bk hK hs fun ah=>?_
 clear hK K;refine ak 9 rfl ?_;refine ak 10 rfl ?_;refine bW ?_
 all_goals
  exact abz
end
end Go.Proofs.YtieoeendnccafaaGreat
