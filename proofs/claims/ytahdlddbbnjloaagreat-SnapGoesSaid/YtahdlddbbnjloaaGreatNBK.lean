/- What the document's Do returns: what an object does. No condition but those named. -/
import Derived.Test.YtahdlddbbnjloaaGreatNBJ
set_option linter.unusedSimpArgs false
set_option linter.unusedVariables false
set_option maxRecDepth 100000
set_option maxHeartbeats 25600000
open Go.RowKit
namespace Go.Proofs.YtahdlddbbnjloaaGreat
open _root_.Go.Proofs.Tryz
section
theorem Uk(G:World→Prop)(x:Oh)(r:Rf)(c:aI.C)(w:World)(hG:∀W,G W→In W x)(hx:In w x)(hk:c.k=13):Calls prog 97 #[.agg (cu x),.agg #[.int .i64 r.c,.int .i64 r.e,.int .i64 r.r],.agg (dL c)] w (ze G (au.free x.v r) w):=by
 have HI:=zH hG;have HT:=zH (fun W (hW:Below w.heap.size w W)=>KC x.rA x.rc x.rn x.v.refs r W (hx.r.later hW));have lK:=zH dD;have HF:=zH (aaW (r:=r) hx.r.fit);have HK:=kn5 w 75 (cu x) 44 #[.int .i64 r.c,.int .i64 r.e,.int .i64 r.r] 46 (dL c) 75 (cu Co) 28 (dG au.rz);clear hx hG;unfold ze au.free au.err;unfold XO at HT;simp only;generalize aY.Fj x.v.refs r=m at *
 generalize aY.Cr x.v.refs r=z at *
 generalize aY.Sk x.v.refs r=q at *
 generalize aY.Rb x.v.refs r=h at *
 go_enter func97,ntmps97;go_wp2_with (first|refine zX (bZ HK 2) ?_|refine zX (kI HK 0) ?_|refine zX (aP HK 1) ?_);refine(HT.out _ HK.out.b).mono ?_;rintro e w1 ⟨A4,n4,c4,rfl,o4,b4⟩
 rcases o4 with o4|⟨rfl,rfl,rfl,hm⟩
 ·replace HK:=zH (HK.out.called b4 o4)
  simp only[aK] at HK;clear o4 b4;cases h
  case false=>
   go_wp2_with (first|(refine bR HK ?_;clear HK;intro _ g14 HK;simp only[aS,aK] at HK)|(refine bW HK 5 ?_;clear HK;intro _ HK;simp only[lS] at HK)|(refine fE HK 0 m ?_;clear HK;intro _ HK;simp only[lS] at HK));have aj:=zH HK.out.drew;refine wp_region_held_drew (S:=(fun W=>Hid (Kn w.heap.size w W [(w.heap.size,75,cu (x.sr A4 n4 c4 m)),(w.heap.size+1,44,#[.int .i64 r.c,.int .i64 r.e,.int .i64 r.r]),(w.heap.size+1+1,46,dL c)] [])∧Hid (Kn w.heap.size w W [(g14,44,#[.int .i64 q.c,.int .i64 q.e,.int .i64 q.r])] []))) (by kernel_rfl) ?_ fun ah=>?_
   ·(try dsimp only);exact And.intro (zH ((aj.out.aB 3).ay 0)) (zH ((aj.out.aO 5).ay 0))
   refine ak 0 rfl ?_ fun _ s=>lV s.1 0
   refine ak 1 rfl ?_;refine aC 2 rfl fun K hK=>?_
   go_simp;go_at_call 91;refine(lK.out z _).mono ?_;rintro e w5 ⟨rfl,b5⟩;have hs:=And.intro (zH (ah.1.out.call b5)) (zH (ah.2.out.call b5));replace aj:=zH (aj.out.call b5);clear b5;refine bk hK hs fun ah=>?_
   clear hK K;refine aC 3 rfl fun K hK=>?_
   refine bI (y:=x.sr A4 n4 c4 m) aj 3 ?_;clear aj;intro wq aj;simp only[lS] at aj;have hs:=And.intro (zH ((aj.out.aB 3).ay 0)) (zH ((aj.out.aO 5).ay 0));refine bk hK hs fun ah=>?_
   clear hK K;refine aC 4 rfl fun K hK=>?_
   refine bO (q:=⟨z,au.vn⟩) aj 4 ?_;clear aj;intro wq aj;simp only[lS] at aj;have hs:=And.intro (zH ((aj.out.aB 3).ay 0)) (zH ((aj.out.aO 5).ay 0));refine bk hK hs fun ah=>?_
   clear hK K;refine ak 5 rfl ?_;refine ak 6 rfl ?_;refine cB ?_
   all_goals
    go_wp2_with fail;exact mJ results97 (aj.out.blk 3 rfl) (aj.out.blk 4 rfl) ⟨x.sr A4 n4 c4 m,_,_,_,_,rfl,rfl,aj.out.aB 0,fun _ _ _ _ _ K hm hb=>⟨(HI.out _ hb).sr (bT.own (K.mem (hm _ (List.mem_cons_self ..))) HF.out),bT.none _⟩⟩
  case true=>
   go_wp2_with (first|(refine bR HK ?_;clear HK;intro _ g14 HK;simp only[aS,aK] at HK)|(refine bW HK 5 ?_;clear HK;intro _ HK;simp only[lS] at HK)|(refine fE HK 0 m ?_;clear HK;intro _ HK;simp only[lS] at HK));have aj:=zH HK.out.drew;refine wp_region_held_drew (S:=(fun W=>Hid (Kn w.heap.size w W [(w.heap.size,75,cu (x.sr A4 n4 c4 m)),(w.heap.size+1,44,#[.int .i64 r.c,.int .i64 r.e,.int .i64 r.r]),(w.heap.size+1+1,46,dL c)] [])∧Hid (Kn w.heap.size w W [(g14,44,#[.int .i64 q.c,.int .i64 q.e,.int .i64 q.r])] []))) (by kernel_rfl) ?_ fun ah=>?_
   ·(try dsimp only);exact And.intro (zH ((aj.out.aB 3).ay 0)) (zH ((aj.out.aO 5).ay 0))
   refine ak 0 rfl ?_ fun _ s=>lV s.1 0
   refine ak 1 rfl ?_;refine ak 3 rfl ?_ fun _ s=>aP s.2 0
   refine ak 4 rfl ?_ fun _ s=>sP (r:=q)
   refine iW 2 5 rfl rfl (fun K hK=>?_) fun K hK=>?_
   go_simp;go_at_call 91;refine(lK.out z _).mono ?_;rintro e w5 ⟨rfl,b5⟩;have hs:=And.intro (zH (ah.1.out.call b5)) (zH (ah.2.out.call b5));replace aj:=zH (aj.out.call b5);clear b5;refine bk hK hs fun ah=>?_
   clear hK K;refine iW 5 6 rfl rfl (fun K hK=>?_) fun K hK=>?_
   refine bP bL (p:=⟨q,au.rz⟩) aj ?_;clear aj;intro w6 g6 aj _;simp only[aS,aK] at aj;have hs:=And.intro (zH ((aj.out.aB 3).ay 0)) (zH ((aj.out.aO 5).ay 0));refine bk hK hs fun ah=>?_
   clear hK K;refine aC 6 rfl fun K hK=>?_
   refine bI (y:=x.sr A4 n4 c4 m) aj 3 ?_;clear aj;intro wq aj;simp only[lS] at aj;have hs:=And.intro (zH ((aj.out.aB 3).ay 0)) (zH ((aj.out.aO 5).ay 0));refine bk hK hs fun ah=>?_
   clear hK K;refine aC 7 rfl fun K hK=>?_
   refine bO (q:=⟨z,au.vn⟩) aj 4 ?_;clear aj;intro wq aj;simp only[lS] at aj;have hs:=And.intro (zH ((aj.out.aB 3).ay 0)) (zH ((aj.out.aO 5).ay 0));refine bk hK hs fun ah=>?_
   clear hK K;refine ak 8 rfl ?_;refine ak 9 rfl ?_;refine cB ?_
   rotate_left
   refine bI (y:=x.sr A4 n4 c4 m) aj 3 ?_;clear aj;intro wq aj;simp only[lS] at aj;have hs:=And.intro (zH ((aj.out.aB 3).ay 0)) (zH ((aj.out.aO 5).ay 0));refine bk hK hs fun ah=>?_
   clear hK K;refine iW 5 7 rfl rfl (fun K hK=>?_) fun K hK=>?_
   refine bP bL (p:=⟨q,au.rz⟩) aj ?_;clear aj;intro w6 g6 aj _;simp only[aS,aK] at aj;have hs:=And.intro (zH ((aj.out.aB 3).ay 0)) (zH ((aj.out.aO 5).ay 0));refine bk hK hs fun ah=>?_
   clear hK K;refine aC 7 rfl fun K hK=>?_
   refine bO (q:=⟨z,au.vn⟩) aj 4 ?_;clear aj;intro wq aj;simp only[lS] at aj;have hs:=And.intro (zH ((aj.out.aB 3).ay 0)) (zH ((aj.out.aO 5).ay 0));refine bk hK hs fun ah=>?_
   clear hK K;refine ak 8 rfl ?_;refine ak 9 rfl ?_;refine cB ?_
   rotate_left
   refine bO (q:=⟨z,au.vn⟩) aj 4 ?_;clear aj;intro wq aj;simp only[lS] at aj;have hs:=And.intro (zH ((aj.out.aB 3).ay 0)) (zH ((aj.out.aO 5).ay 0));refine bk hK hs fun ah=>?_
   clear hK K;refine ak 8 rfl ?_;refine aC 5 rfl fun K hK=>?_
   refine bP bL (p:=⟨q,au.rz⟩) aj ?_;clear aj;intro w6 g6 aj _;simp only[aS,aK] at aj;have hs:=And.intro (zH ((aj.out.aB 3).ay 0)) (zH ((aj.out.aO 5).ay 0));refine bk hK hs fun ah=>?_
   clear hK K;refine ak 9 rfl ?_;refine cB ?_
   rotate_left
   refine bP bL (p:=⟨q,au.rz⟩) aj ?_;clear aj;intro w6 g6 aj _;simp only[aS,aK] at aj;have hs:=And.intro (zH ((aj.out.aB 3).ay 0)) (zH ((aj.out.aO 5).ay 0));refine bk hK hs fun ah=>?_
   clear hK K;refine aC 2 rfl fun K hK=>?_
   go_simp;go_at_call 91;refine(lK.out z _).mono ?_;rintro e w5 ⟨rfl,b5⟩;have hs:=And.intro (zH (ah.1.out.call b5)) (zH (ah.2.out.call b5));replace aj:=zH (aj.out.call b5);clear b5;refine bk hK hs fun ah=>?_
   clear hK K;refine aC 6 rfl fun K hK=>?_
   refine bI (y:=x.sr A4 n4 c4 m) aj 3 ?_;clear aj;intro wq aj;simp only[lS] at aj;have hs:=And.intro (zH ((aj.out.aB 3).ay 0)) (zH ((aj.out.aO 5).ay 0));refine bk hK hs fun ah=>?_
   clear hK K;refine aC 7 rfl fun K hK=>?_
   refine bO (q:=⟨z,au.vn⟩) aj 4 ?_;clear aj;intro wq aj;simp only[lS] at aj;have hs:=And.intro (zH ((aj.out.aB 3).ay 0)) (zH ((aj.out.aO 5).ay 0));refine bk hK hs fun ah=>?_
   clear hK K;refine ak 8 rfl ?_;refine ak 9 rfl ?_;refine cB ?_
   rotate_left
   all_goals
    go_wp2_with fail;exact mJ results97 (aj.out.blk 3 rfl) (aj.out.blk 4 rfl) ⟨x.sr A4 n4 c4 m,_,_,_,_,rfl,rfl,aj.out.aB 0,fun _ _ _ _ _ K hm hb=>⟨(HI.out _ hb).sr (bT.own (K.mem (hm _ (List.mem_cons_self ..))) HF.out),bT.own (K.mem (hm _ (List.mem_cons_of_mem _ (List.mem_cons_self ..)))) ⟨fun _ _=>trivial,by show 1*72≤140737488355328;decide⟩⟩⟩
 ·subst hm
  replace HK:=iH HK b4;clear b4;cases h
  case false=>
   go_wp2_with (first|(refine bR HK ?_;clear HK;intro _ g14 HK;simp only[aS,aK] at HK)|(refine bW HK 5 ?_;clear HK;intro _ HK;simp only[lS] at HK)|(refine fE HK 0 x.v.refs ?_;clear HK;intro _ HK;simp only[lS] at HK));have aj:=zH HK.out.drew;refine wp_region_held_drew (S:=(fun W=>Hid (Kn w.heap.size w W [(w.heap.size,75,cu (x.sr x.rA x.rn x.rc x.v.refs)),(w.heap.size+1,44,#[.int .i64 r.c,.int .i64 r.e,.int .i64 r.r]),(w.heap.size+1+1,46,dL c)] [])∧Hid (Kn w.heap.size w W [(g14,44,#[.int .i64 q.c,.int .i64 q.e,.int .i64 q.r])] []))) (by kernel_rfl) ?_ fun ah=>?_
   ·(try dsimp only);exact And.intro (zH ((aj.out.aB 3).ay 0)) (zH ((aj.out.aO 5).ay 0))
   refine ak 0 rfl ?_ fun _ s=>lV s.1 0
   refine ak 1 rfl ?_;refine aC 2 rfl fun K hK=>?_
   go_simp;go_at_call 91;refine(lK.out z _).mono ?_;rintro e w5 ⟨rfl,b5⟩;have hs:=And.intro (zH (ah.1.out.call b5)) (zH (ah.2.out.call b5));replace aj:=zH (aj.out.call b5);clear b5;refine bk hK hs fun ah=>?_
   clear hK K;refine aC 3 rfl fun K hK=>?_
   refine bI (y:=x.sr x.rA x.rn x.rc x.v.refs) aj 3 ?_;clear aj;intro wq aj;simp only[lS] at aj;have hs:=And.intro (zH ((aj.out.aB 3).ay 0)) (zH ((aj.out.aO 5).ay 0));refine bk hK hs fun ah=>?_
   clear hK K;refine aC 4 rfl fun K hK=>?_
   refine bO (q:=⟨z,au.vn⟩) aj 4 ?_;clear aj;intro wq aj;simp only[lS] at aj;have hs:=And.intro (zH ((aj.out.aB 3).ay 0)) (zH ((aj.out.aO 5).ay 0));refine bk hK hs fun ah=>?_
   clear hK K;refine ak 5 rfl ?_;refine ak 6 rfl ?_;refine cB ?_
   all_goals
    go_wp2_with fail;exact mJ results97 (aj.out.blk 3 rfl) (aj.out.blk 4 rfl) ⟨x.sr x.rA x.rn x.rc x.v.refs,_,_,_,_,rfl,rfl,aj.out.aB 0,fun _ _ _ _ _ K hm hb=>⟨(HI.out _ hb).sr (HI.out _ hb).r,bT.none _⟩⟩
  case true=>
   go_wp2_with (first|(refine bR HK ?_;clear HK;intro _ g14 HK;simp only[aS,aK] at HK)|(refine bW HK 5 ?_;clear HK;intro _ HK;simp only[lS] at HK)|(refine fE HK 0 x.v.refs ?_;clear HK;intro _ HK;simp only[lS] at HK));have aj:=zH HK.out.drew;refine wp_region_held_drew (S:=(fun W=>Hid (Kn w.heap.size w W [(w.heap.size,75,cu (x.sr x.rA x.rn x.rc x.v.refs)),(w.heap.size+1,44,#[.int .i64 r.c,.int .i64 r.e,.int .i64 r.r]),(w.heap.size+1+1,46,dL c)] [])∧Hid (Kn w.heap.size w W [(g14,44,#[.int .i64 q.c,.int .i64 q.e,.int .i64 q.r])] []))) (by kernel_rfl) ?_ fun ah=>?_
   ·(try dsimp only);exact And.intro (zH ((aj.out.aB 3).ay 0)) (zH ((aj.out.aO 5).ay 0))
   refine ak 0 rfl ?_ fun _ s=>lV s.1 0
   refine ak 1 rfl ?_;refine ak 3 rfl ?_ fun _ s=>aP s.2 0
   refine ak 4 rfl ?_ fun _ s=>sP (r:=q)
   refine iW 2 5 rfl rfl (fun K hK=>?_) fun K hK=>?_
   go_simp;go_at_call 91;refine(lK.out z _).mono ?_;rintro e w5 ⟨rfl,b5⟩;have hs:=And.intro (zH (ah.1.out.call b5)) (zH (ah.2.out.call b5));replace aj:=zH (aj.out.call b5);clear b5;refine bk hK hs fun ah=>?_
   clear hK K;refine iW 5 6 rfl rfl (fun K hK=>?_) fun K hK=>?_
   refine bP bL (p:=⟨q,au.rz⟩) aj ?_;clear aj;intro w6 g6 aj _;simp only[aS,aK] at aj;have hs:=And.intro (zH ((aj.out.aB 3).ay 0)) (zH ((aj.out.aO 5).ay 0));refine bk hK hs fun ah=>?_
   clear hK K;refine aC 6 rfl fun K hK=>?_
   refine bI (y:=x.sr x.rA x.rn x.rc x.v.refs) aj 3 ?_;clear aj;intro wq aj;simp only[lS] at aj;have hs:=And.intro (zH ((aj.out.aB 3).ay 0)) (zH ((aj.out.aO 5).ay 0));refine bk hK hs fun ah=>?_
   clear hK K;refine aC 7 rfl fun K hK=>?_
   refine bO (q:=⟨z,au.vn⟩) aj 4 ?_;clear aj;intro wq aj;simp only[lS] at aj;have hs:=And.intro (zH ((aj.out.aB 3).ay 0)) (zH ((aj.out.aO 5).ay 0));refine bk hK hs fun ah=>?_
   clear hK K;refine ak 8 rfl ?_;refine ak 9 rfl ?_;refine cB ?_
   rotate_left
   refine bI (y:=x.sr x.rA x.rn x.rc x.v.refs) aj 3 ?_;clear aj;intro wq aj;simp only[lS] at aj;have hs:=And.intro (zH ((aj.out.aB 3).ay 0)) (zH ((aj.out.aO 5).ay 0));refine bk hK hs fun ah=>?_
   clear hK K;refine iW 5 7 rfl rfl (fun K hK=>?_) fun K hK=>?_
   refine bP bL (p:=⟨q,au.rz⟩) aj ?_;clear aj;intro w6 g6 aj _;simp only[aS,aK] at aj;have hs:=And.intro (zH ((aj.out.aB 3).ay 0)) (zH ((aj.out.aO 5).ay 0));refine bk hK hs fun ah=>?_
   clear hK K;refine aC 7 rfl fun K hK=>?_
   refine bO (q:=⟨z,au.vn⟩) aj 4 ?_;clear aj;intro wq aj;simp only[lS] at aj;have hs:=And.intro (zH ((aj.out.aB 3).ay 0)) (zH ((aj.out.aO 5).ay 0));refine bk hK hs fun ah=>?_
   clear hK K;refine ak 8 rfl ?_;refine ak 9 rfl ?_;refine cB ?_
   rotate_left
   refine bO (q:=⟨z,au.vn⟩) aj 4 ?_;clear aj;intro wq aj;simp only[lS] at aj;have hs:=And.intro (zH ((aj.out.aB 3).ay 0)) (zH ((aj.out.aO 5).ay 0));refine bk hK hs fun ah=>?_
   clear hK K;refine ak 8 rfl ?_;refine aC 5 rfl fun K hK=>?_
   refine bP bL (p:=⟨q,au.rz⟩) aj ?_;clear aj;intro w6 g6 aj _;simp only[aS,aK] at aj;have hs:=And.intro (zH ((aj.out.aB 3).ay 0)) (zH ((aj.out.aO 5).ay 0));refine bk hK hs fun ah=>?_
   clear hK K;refine ak 9 rfl ?_;refine cB ?_
   rotate_left
   refine bP bL (p:=⟨q,au.rz⟩) aj ?_;clear aj;intro w6 g6 aj _;simp only[aS,aK] at aj;have hs:=And.intro (zH ((aj.out.aB 3).ay 0)) (zH ((aj.out.aO 5).ay 0));refine bk hK hs fun ah=>?_
   clear hK K;refine aC 2 rfl fun K hK=>?_
   go_simp;go_at_call 91;refine(lK.out z _).mono ?_;rintro e w5 ⟨rfl,b5⟩;have hs:=And.intro (zH (ah.1.out.call b5)) (zH (ah.2.out.call b5));replace aj:=zH (aj.out.call b5);clear b5;refine bk hK hs fun ah=>?_
   clear hK K;refine aC 6 rfl fun K hK=>?_
   refine bI (y:=x.sr x.rA x.rn x.rc x.v.refs) aj 3 ?_;clear aj;intro wq aj;simp only[lS] at aj;have hs:=And.intro (zH ((aj.out.aB 3).ay 0)) (zH ((aj.out.aO 5).ay 0));refine bk hK hs fun ah=>?_
   clear hK K;refine aC 7 rfl fun K hK=>?_
   refine bO (q:=⟨z,au.vn⟩) aj 4 ?_;clear aj;intro wq aj;simp only[lS] at aj;have hs:=And.intro (zH ((aj.out.aB 3).ay 0)) (zH ((aj.out.aO 5).ay 0));refine bk hK hs fun ah=>?_
   clear hK K;refine ak 8 rfl ?_;refine ak 9 rfl ?_;refine cB ?_
   rotate_left
   all_goals
    go_wp2_with fail;exact mJ results97 (aj.out.blk 3 rfl) (aj.out.blk 4 rfl) ⟨x.sr x.rA x.rn x.rc x.v.refs,_,_,_,_,rfl,rfl,aj.out.aB 0,fun _ _ _ _ _ K hm hb=>⟨(HI.out _ hb).sr (HI.out _ hb).r,bT.own (K.mem (hm _ (List.mem_cons_self ..))) ⟨fun _ _=>trivial,by show 1*72≤140737488355328;decide⟩⟩⟩
end
section
theorem abb{w:World}{o:Oper}{a:Act}{x:Int}{b:Bool}{p:Operand}(ho:o.op=.binOp .neq 23 p (.const (.int .i64 0)) 23)(hp:a.eval p=.int .i64 x)(hb:(!decide (x=0))=b):
  (execOp a.eval o).run prog w=.ok (.value (.bool b)) w:=by
 have he:a.eval (.const (.int .i64 0))=.int .i64 0:=rfl;subst hb;unfold execOp;simp only[ho,hp,he];go_simp;by_cases h:x=0<;>simp[h]
theorem PG(G:World→Prop)(x:Oh)(r:Rf)(w:World)(hG:∀W,G W→In W x)(hx:In w x)(hd:0≤x.v.round):Calls prog 95 #[.agg (cu x),.agg #[.int .i64 r.c,.int .i64 r.e,.int .i64 r.r]] w (ze G (au.wait x.v r) w):=by
 have HI:=zH hG;have HT:=zH (fun W (hW:Below w.heap.size w W)=>KG x.v.cap x.rA x.rc x.rn x.v.refs r W (hx.r.later hW));have lJ:=zH (aaR (m:=x.v.cap) (r:=r) hx.r.fit)
 have kF:Hid (∀r':Rf,(Gt.Ck x.v.cap x.v.refs r).length≤6):=zH fun _=>by
  by_cases he:Gt.qQ x.v.cap x.v.refs r=0
  ·obtain⟨h1,h2,h3⟩:=Gt.Ga he
   have h5:=aY.fV h1.2.2.2;by_cases hf:(x.v.refs.length:Int)+1=x.v.cap
   ·rw[(Gt.tC h1 h2 h3 hf).2.2,List.length_append];show _+1≤6;omega
   ·rw[(Gt.tu h1 h2 h3 hf).2.2];exact Nat.zero_le _
  ·rw[(Gt.yE (z:=Gt.qQ x.v.cap x.v.refs r) rfl he).2.2];exact Nat.zero_le _
 have gX:Hid (¬Gt.qQ x.v.cap x.v.refs r=0→Gt.Ef x.v.cap x.v.refs r=x.v.refs∧Gt.Ck x.v.cap x.v.refs r=[]):=zH fun he=>(Gt.yE (z:=Gt.qQ x.v.cap x.v.refs r) rfl he).2
 have lK:=zH dD;have HK:=Vz w 75 (cu x) 44 #[.int .i64 r.c,.int .i64 r.e,.int .i64 r.r] 75 (cu Co) 28 (dG au.rz);have hmax:=hx.d;unfold ze au.wait;unfold XI at HT;clear hx hG;generalize Gt.Ef x.v.cap x.v.refs r=m at *
 generalize Gt.Ck x.v.cap x.v.refs r=s at *
 generalize Gt.qQ x.v.cap x.v.refs r=z at *
 by_cases hz0:z=0
 case neg=>
  obtain⟨hm,hs⟩:=gX.out hz0;subst hm hs;have hz:decide (z=0)=false:=decide_eq_false hz0;have hz2:(!decide (z=0))=true:=by rw[hz];rfl
  rw[if_pos List.length_nil];simp only[hz];clear gX kF hz0 hmax hd lJ;go_enter func95,ntmps95;go_wp2_with (first|refine zX (ow HK 0) ?_|refine zX (kI HK 0) ?_|refine zX (aP HK 1) ?_);refine(HT.out _ HK.out.b).mono ?_;rintro e w1 ⟨A4,n4,c4,A5,n5,c5,rfl,k4,b4⟩;replace HK:=iH HK b4;clear k4 b4;go_wp2_with (first|refine zX (wM (x:=z) hz) ?_|refine zX (abb (x:=z) (by rfl) (by rfl) hz2) ?_);have aj:=zH HK.out.drew;refine zR ((aj.out.aB 1).ay 0) fun ah=>?_
  refine ak 0 rfl ?_ fun _ s=>lV s 0
  refine ak 1 rfl ?_;refine aC 2 rfl fun K hK=>?_
  go_simp;go_at_call 91;refine(lK.out z _).mono ?_;rintro e w5 ⟨rfl,b5⟩;have hs:=zH (ah.out.call b5);replace aj:=zH (aj.out.call b5);clear b5;refine bk hK hs fun ah=>?_
  clear hK K;refine aC 3 rfl fun K hK=>?_
  refine bI (y:=x) aj 2 ?_;clear aj;intro wq aj;simp only[lS] at aj;have hs:=zH ((aj.out.aB 1).ay 0);refine bk hK hs fun ah=>?_
  clear hK K;refine aC 4 rfl fun K hK=>?_
  refine bO (q:=⟨z,au.vn⟩) aj 3 ?_;clear aj;intro wq aj;simp only[lS] at aj;have hs:=zH ((aj.out.aB 1).ay 0);refine bk hK hs fun ah=>?_
  clear hK K;refine ak 5 rfl ?_;refine ak 6 rfl ?_;refine cB ?_
  all_goals
   exact ahp
 subst hz0;clear gX;by_cases hs:s.length=0
 case pos=>
  rw[if_pos hs];obtain rfl:s=[]:=List.length_eq_zero_iff.1 hs;clear hs hd hmax kF lK;go_enter func95,ntmps95;go_wp2_with (first|refine zX (ow HK 0) ?_|refine zX (kI HK 0) ?_|refine zX (aP HK 1) ?_);refine(HT.out _ HK.out.b).mono ?_;rintro e w1 ⟨A4,n4,c4,A5,n5,c5,rfl,k4,b4⟩;unfold Jr at k4
  rcases k4 with ⟨⟨rfl,rfl,rfl,-⟩,o4|⟨rfl,rfl,rfl,hm⟩⟩|⟨⟨rfl,rfl,rfl,hm⟩,o4⟩
  ·replace HK:=zH (HK.out.called b4 o4)
   simp only[aK] at HK;clear o4 b4;go_wp2_with (first|(refine fE HK 0 m ?_;clear HK;intro _ HK;simp only[lS] at HK)|refine zX (lV HK 0) ?_|(refine jF (y:=x.sr A4 n4 c4 m) HK 2 ?_;clear HK;intro _ HK;simp only[lS] at HK)|(refine bX (q:=⟨0,au.vn⟩) HK 3 ?_;clear HK;intro _ HK;simp only[lS] at HK));exact mJ results95 (HK.out.blk 2 rfl) (HK.out.blk 3 rfl) ⟨x.sr A4 n4 c4 m,_,_,_,_,rfl,rfl,HK.out.aB 0,fun _ _ _ _ _ K hm hb=>⟨(HI.out _ hb).sr (bT.own (K.mem (hm _ (List.mem_cons_self ..))) lJ.out.1),bT.none _⟩⟩
  ·subst hm
   replace HK:=iH HK b4;clear b4;go_wp2_with (first|(refine fE HK 0 x.v.refs ?_;clear HK;intro _ HK;simp only[lS] at HK)|refine zX (lV HK 0) ?_|(refine jF (y:=x.sr x.rA x.rn x.rc x.v.refs) HK 2 ?_;clear HK;intro _ HK;simp only[lS] at HK)|(refine bX (q:=⟨0,au.vn⟩) HK 3 ?_;clear HK;intro _ HK;simp only[lS] at HK));exact mJ results95 (HK.out.blk 2 rfl) (HK.out.blk 3 rfl) ⟨x.sr x.rA x.rn x.rc x.v.refs,_,_,_,_,rfl,rfl,HK.out.aB 0,fun _ _ _ _ _ K hm hb=>⟨(HI.out _ hb).sr (HI.out _ hb).r,bT.none _⟩⟩
  ·subst hm
   obtain rfl:n5=0:=o4.reads.1;replace HK:=iH HK b4;clear o4 b4;go_wp2_with (first|(refine fE HK 0 ([]:List Rf) ?_;clear HK;intro _ HK;simp only[lS] at HK)|refine zX (lV HK 0) ?_|(refine jF (y:=x.sr none 0 0 []) HK 2 ?_;clear HK;intro _ HK;simp only[lS] at HK)|(refine bX (q:=⟨0,au.vn⟩) HK 3 ?_;clear HK;intro _ HK;simp only[lS] at HK));exact mJ results95 (HK.out.blk 2 rfl) (HK.out.blk 3 rfl) ⟨x.sr none 0 0 [],_,_,_,_,rfl,rfl,HK.out.aB 0,fun _ _ _ _ _ K hm hb=>⟨(HI.out _ hb).sr (bT.none _),bT.none _⟩⟩
 rw[if_neg hs];have hlen:=kF.out r;obtain⟨M,hN⟩:∃M,s.length=M+1:=⟨s.length-1,by omega⟩;have hM3:M≤6:=by omega
 rw[hN];have uJ:=zH hN;have Yp:Hid (¬s=[]):=zH fun h=>hs (by rw[h];rfl)
 have hM2:M<9223372036854775807:=by omega
 have hgt:decide ((0:Int)<(M:Int)+1)=true:=decide_eq_true (by omega);clear hN hs hlen kF;by_cases hm:x.v.round=9223372036854775807
 case pos=>
  rw[if_pos hm];have hmb:(x.v.round==9223372036854775807)=true:=by simpa using hm
  clear hm hd hmax;go_enter func95,ntmps95;go_wp2_with (first|refine zX (ow HK 0) ?_|refine zX (kI HK 0) ?_|refine zX (aP HK 1) ?_);refine(HT.out _ HK.out.b).mono ?_;rintro e w1 ⟨A4,n4,c4,A5,n5,c5,rfl,k4,b4⟩;unfold Jr at k4
  rcases k4 with ⟨⟨_,_,_,h0⟩,_⟩|⟨_,o4⟩
  ·exact absurd h0 Yp.out
  obtain rfl:n5=M+1:=o4.reads.1.trans uJ.out;replace HK:=iH HK b4;clear o4 b4;go_wp2_with (first|refine zX (Dw HK 0) ?_|refine zX (dF (x:=(M:Int)+1) (k:=0) hgt) ?_);have aj:=zH HK.out.drew;refine zR ((aj.out.aB 1).ay 0) fun ah=>?_
  refine ak 0 rfl ?_ fun _ s=>lV s 0
  refine ak 1 rfl ?_;refine aC 2 rfl fun K hK=>?_
  go_simp;go_at_call 91;refine(lK.out 6 _).mono ?_;rintro e w5 ⟨rfl,b5⟩;have hs:=zH (ah.out.call b5);replace aj:=zH (aj.out.call b5);clear b5;refine bk hK hs fun ah=>?_
  clear hK K;refine aC 3 rfl fun K hK=>?_
  refine bI (y:=x) aj 2 ?_;clear aj;intro wq aj;simp only[lS] at aj;have hs:=zH ((aj.out.aB 1).ay 0);refine bk hK hs fun ah=>?_
  clear hK K;refine aC 4 rfl fun K hK=>?_
  refine bO (q:=⟨6,au.vn⟩) aj 3 ?_;clear aj;intro wq aj;simp only[lS] at aj;have hs:=zH ((aj.out.aB 1).ay 0);refine bk hK hs fun ah=>?_
  clear hK K;refine ak 5 rfl ?_;refine ak 6 rfl ?_;refine cB ?_
  all_goals
   exact ahp
 rw[if_neg hm];have hmb:(x.v.round==9223372036854775807)=false:=by simpa using hm
 have ama:Hid (IntKind.i64.wrap (x.v.round+1)=x.v.round+1):=zH (by rw[IntKind.wrap_i64];omega);have HMx:Hid (x.v.round+1≤9223372036854775807):=zH (by omega);clear hm hd hmax;have HFa:=zH lJ.out.2;rw[Nat.add_sub_cancel];go_enter func95,ntmps95;go_wp2_with (first|refine zX (ow HK 0) ?_|refine zX (kI HK 0) ?_|refine zX (aP HK 1) ?_);refine(HT.out _ HK.out.b).mono ?_;rintro e w1 ⟨A4,n4,c4,A5,n5,c5,rfl,k4,b4⟩;unfold Jr at k4
 rcases k4 with ⟨⟨_,_,_,h0⟩,_⟩|⟨⟨rfl,rfl,rfl,rfl⟩,o4⟩
 ·exact absurd h0 Yp.out
 obtain rfl:n5=M+1:=o4.reads.1.trans uJ.out;replace HK:=zH (HK.out.called b4 o4);simp only[aK] at HK;clear o4 b4;obtain⟨g5,rfl⟩:=HK.out.Wj (La:=aN) (j:=0) rfl (by rw[uJ.out];omega);go_wp2_with (first|refine zX (Dw HK 0) ?_|refine zX (dF (x:=(M:Int)+1) (k:=0) hgt) ?_|(refine fE HK 0 ([]:List Rf) ?_;clear HK;intro _ HK;simp only[lS] at HK)|(refine iw HK ?_;clear HK;intro _ g8 HK;simp only[aS,aK] at HK)|(refine bX (q:=⟨0,au.num x.v.round⟩) HK 4 ?_;clear HK;intro _ HK;simp only[lS] at HK)|refine zX (Rl (x:=x.v.round) (y:=x.v.round+1) (by rfl) (by rfl) ama.out) ?_|(refine JO HK 0 rfl rfl rfl rfl (d:=x.v.round+1) rfl ?_;clear HK;intro _ HK;simp only[lS] at HK));replace HK:=zH (HK.out.Cq bL);simp only[aS,aK] at HK;go_loopw [12,13] (fun vo vi wr=>∃(k:Nat) (A7:Option Addr) (c7:Nat),k≤M∧vo=.slice A7 k c7∧vi=.int .i64 k∧Hid ((au.xB (s.take k) ⟨0,au.num x.v.round⟩).length=k)∧Hid (Kn w.heap.size w wr [(w.heap.size,75,cu ((x.sr none 0 0 []).sd (x.v.round+1))),(w.heap.size+1,44,#[.int .i64 r.c,.int .i64 r.e,.int .i64 r.r]),(w.heap.size+1+1,75,cu Co),(w.heap.size+1+1+1,28,dG au.rz),(g8,28,dG ⟨0,au.num x.v.round⟩)] [row aN (.slice (some ⟨g5,0,none⟩) (M+1) c5) s,row bL (.slice A7 k c7) (au.xB (s.take k) ⟨0,au.num x.v.round⟩)])) (fun _ vi _=>M+1-(intOf vi).toNat)
 case atStart=>exact⟨0,_,_,Nat.zero_le _,rfl,rfl,zH rfl,HK⟩
 case round=>
  clear HK;obtain⟨k,A7,c7,hk,rfl,rfl,hL7,HK⟩:=hrel;have hk1:(0:Int)≤(k:Int):=by omega
  have hk3:k<9223372036854775807:=by omega
  by_cases hlt:k<M
  ·obtain⟨y,hy⟩:=Lay.dW (l:=s) (k:=k) (by rw[uJ.out];omega)
   have HY:=zH hy;have MS:=zH (Pm ⟨0,au.num x.v.round⟩ hy);clear hy;have hk2:(k:Int)<(M:Int):=by omega
   have hkM:k<M+1:=by omega
   generalize au.xB (s.take k) ⟨0,au.num x.v.round⟩=os at *
   have HL:Hid (os.length+1≤9223372036854775807∧(os.length+1)*bL.bytes≤211106232532992):=zH (by
    rw[hL7.out];refine⟨by omega,?_⟩
    show(k+1)*72≤_
    omega)
   have JE:Hid ((os++[(⟨y,⟨0,au.num x.v.round⟩⟩:au.Ot)]).length=k+1):=zH (by rw[List.length_append,hL7.out];rfl);go_wp2_with refine zX (iO (j:=M) hM2) ?_;have aj:=zH HK.out.drew;refine zR ((aj.out.aO 4).ay 1) fun ah=>?_
   refine ak 0 rfl ?_;refine ak 1 rfl ?_;refine ak 2 rfl ?_;refine ak 3 rfl ?_ fun _ s=>dA (i:=k) hkM
   refine ak 4 rfl ?_ fun _ s=>cZ (x:=y) (off:=0+k*3) (s.out.atR (La:=aN) (j:=0) rfl HY.out)
   refine ak 5 rfl ?_ fun _ s=>Sg s 0
   refine ak 6 rfl ?_ fun _ s=>ng (r:=y) (p:=⟨0,au.num x.v.round⟩)
   refine aC 7 rfl fun K hK=>?_
   refine bP bL (p:=⟨y,⟨0,au.num x.v.round⟩⟩) aj ?_;clear aj;intro w6 g6 aj _;simp only[aS,aK] at aj;have hs:=zH ((aj.out.aO 4).ay 1);refine bk hK hs fun ah=>?_
   clear hK K;refine aC 8 rfl fun K hK=>?_
   refine aM bL aj 1 [⟨y,⟨0,au.num x.v.round⟩⟩] (by rfl) (zH (aj.out.own 2 rfl).rd) HL (N:=k+1) JE ?_;clear aj;intro A8 c8 w8 aj;simp only[lS] at aj;have hs:=zH ((aj.out.aO 4).ay 1);refine bk hK hs fun ah=>?_
   clear hK K;refine ak 9 rfl ?_;refine cB ?_;go_wp2_with refine zX (aR (j:=k) hk3) ?_;refine⟨⟨k+1,A8,c8,by omega,rfl,by go_num,zH (by rw[MS.out];exact JE.out),zH ?_⟩,by simp[intOf];omega⟩;rw[MS.out];exact aj.out.ay 2
  ·obtain rfl:k=M:=by omega
   have HFo:Hid (Fits bL tF (au.xB (s.take k) ⟨0,au.num x.v.round⟩)):=zH (aaV (by rw[hL7.out];exact hM3));have hk2:¬(k:Int)<(k:Int):=by omega
   generalize hos:au.xB (s.take k) ⟨0,au.num x.v.round⟩=os at *
   have HOs:=zH hos;clear hos;go_wp2_with refine zX (iO (j:=k) hM2) ?_;have aj:=zH HK.out.drew;refine wp_region_held_drew (S:=(fun W=>Hid (Kn w.heap.size w W [(w.heap.size,75,cu ((x.sr none 0 0 []).sd (x.v.round+1)))] [])∧Hid (Kn w.heap.size w W [(g8,28,dG ⟨0,au.num x.v.round⟩)] []))) (by kernel_rfl) ?_ fun ah=>?_
   ·(try dsimp only);exact And.intro (zH ((aj.out.aB 1).ay 0)) (zH ((aj.out.aO 4).ay 0))
   refine ak 0 rfl ?_ fun _ s=>lV s.1 0
   refine ak 1 rfl ?_ fun _ s=>Sg s.2 0
   refine ak 2 rfl ?_;refine aC 3 rfl fun K hK=>?_
   refine bI (y:=(x.sr none 0 0 []).sd (x.v.round+1)) aj 2 ?_;clear aj;intro wq aj;simp only[lS] at aj;have hs:=And.intro (zH ((aj.out.aB 1).ay 0)) (zH ((aj.out.aO 4).ay 0));refine bk hK hs fun ah=>?_
   clear hK K;refine aC 4 rfl fun K hK=>?_
   refine bO (q:=⟨0,au.num x.v.round⟩) aj 3 ?_;clear aj;intro wq aj;simp only[lS] at aj;have hs:=And.intro (zH ((aj.out.aB 1).ay 0)) (zH ((aj.out.aO 4).ay 0));refine bk hK hs fun ah=>?_
   clear hK K;refine ak 5 rfl ?_;refine ak 6 rfl ?_;refine cB ?_
   all_goals
    go_wp2_with fail;exact mJ results95 (aj.out.blk 2 rfl) (aj.out.blk 3 rfl) ⟨(x.sr none 0 0 []).sd (x.v.round+1),_,_,_,_,rfl,rfl,aj.out.aB 0,fun _ _ _ _ _ K hm hb=>⟨((HI.out _ hb).sr (bT.none _)).sd HMx.out,by rw[HOs.out];exact bT.own (K.mem (hm _ (List.mem_cons_of_mem _ (List.mem_cons_self ..)))) HFo.out⟩⟩
end
section
theorem RJ{o:au.Ob}{r:Rf}{c:aI.C}(h12:¬c.k=12)(Bu:¬c.k=13)(uY:¬c.k=14):(au.act o r c).later=false∧(au.act o r c).outs=[]:=by
 unfold au.act;rw[if_neg h12,if_neg Bu,if_neg uY]
 repeat' split
 all_goals exact⟨rfl,rfl⟩
theorem Ta(l:List Oh)(i:Nat)(y:Oh):vs (l.set i y)=(vs l).set i y.v:=by
 unfold vs;rw[List.map_set]
theorem VZ{W:World}{l:List Oh}{i:Nat}{z:Oh}(h:∀x∈l,In W x)(hz:In W z){y:Oh}(hy:y∈l.set i z):In W y:=by
 rcases List.mem_or_eq_of_mem_set hy with h1|rfl
 ·exact h y h1
 ·exact hz
theorem Kn.YW{b0:Nat}{w0 w:World}{R:List bV}{a b c d e:Nat×TypeId×Array Value}(h:Kn b0 w0 w [a,b,c,d,e] R):Kn b0 w0 w [a,b,c,e,d] R:=by
 refine h.pick (fun i=>if i=3 then 4 else if i=4 then 3 else i) (fun i=>i) (fun i j hi hj hij=>?_) (fun i j hi hj hij=>hij) (fun i x hx=>?_) (fun i x hx=>hx)
 ·simp only[List.length_cons,List.length_nil] at hi hj
  show(if i=3 then 4 else if i=4 then 3 else i)≠(if j=3 then 4 else if j=4 then 3 else j)
  split<;>split<;>(try split)<;>(try split)<;>omega
 ·match i,hx with
  | 0,hx|1,hx|2,hx|3,hx|4,hx=>exact hx
  | n+5,hx=>simp at hx
theorem Ky(G:World→Prop)(x:Oh)(r:Rf)(c:aI.C)(w:World)(hG:∀W,G W→In W x)(hx:In w x)(hv:c.val.f<18446744073709551616)(hk:4≤c.k∧c.k≤17)(h4:¬c.k=4)(h5:¬c.k=5)(h12:¬c.k=12)(Bu:¬c.k=13)(uY:¬c.k=14):
  Calls prog 98 #[.agg (cu x),.agg (dL c)] w (nT G (au.act x.v r c) w):=by
 rcases au.uh hk h4 h5 with h|h|h|h|h|h|h|h|h|h|h|h
 ·exact TU G x r c w hG hx hv h
 ·exact TT G x r c w hG hx hv h
 ·exact TS G x r c w hG hx hv h
 ·exact TR G x r c w hG hx hv h
 ·exact PV G x r c w hG hx hv h
 ·exact PU G x r c w hG hx hv h
 ·exact absurd h h12
 ·exact absurd h Bu
 ·exact absurd h uY
 ·exact PS G x r c w hG hx hv h
 ·exact PO G x r c w hG hx hv h
 ·exact PN G x r c w hG hx hv h
end
section
theorem Uv(G:World→Prop)(A:Option Addr)(cp n:Nat)(l:List Oh)(r:Rf)(c:aI.C)(w:World)(hG:∀W,G W→dS W A n cp l)(hs:dS w A n cp l)(hv:c.val.f<18446744073709551616)(ho:c.old.f<18446744073709551616)(fA:au.All (vs l) r c)(he:aI.aX c=0)(h4:¬c.k=4)(h5:¬c.k=5)(o:au.Ob)(hf:au.iV (vs l) c.name=some o)(hft:au.fits c.k o.kind=true)(uY:c.k=14):
  Calls prog 49 #[.slice A n cp,.agg #[.int .i64 r.c,.int .i64 r.e,.int .i64 r.r],.agg (dL c)] w (lX G (au.iq (vs l) r c) w):=by
 have yA:=zH hG;have lK:=zH dD;have HK:=FX w 44 #[.int .i64 r.c,.int .i64 r.e,.int .i64 r.r] 46 (dL c) 28 (dG au.rz);have HM:=zH (fun W (hW:Below w.heap.size w W)=>bU A cp n l W (hs.later hW));unfold dw at HM;have HC:=zH (fun W=>fM r W);unfold dw at HC;have HE:=zH (fun W=>gV c W hv ho);unfold iQ at HE;have hall:=fA;rw[decide_eq_true hall.1] at HM;rw[decide_eq_true hall.2.1] at HC;have D4:Hid (decide (c.k<4)=false):=zH (decide_eq_false (by have:=hall.2.2.1;omega));have yB:Hid (decide (17<c.k)=false):=zH (decide_eq_false (by have:=hall.2.2.2;omega));rw[he] at HE;have Cy:=zH (fun W (hW:Below w.heap.size w W)=>gU A cp n l c.name W (hs.later hW));have Cc:Hid (¬∀(j:Nat) (y:Oh),l[j]?=some y→¬y.v.name=c.name):=zH (fun h=>by have:=(au.rY (l:=vs l) (k:=c.name) (fun j y hj=>by obtain⟨z,hz,rfl⟩:=yH hj;exact h j z hz)).2;rw[hf] at this;cases this);have Ce:Hid (∀(i:Nat) (x:Oh),l[i]?=some x→x.v.name=c.name→x.v=o):=zH (fun i x h1 h2=>by have:=(au.jI hall.1.up (dB h1) h2).2.2;rw[hf] at this;injection this with this;exact this.symm)
 have hpos:0<n:=by
  rcases Nat.eq_zero_or_pos n with h0|h0
  ·subst h0
   rw[List.length_eq_zero_iff.1 hs.len] at hf;cases hf
  ·exact h0
 have hl:=hs.len;obtain⟨b,rX,rfl,mX⟩:=hs.s.at hpos;have Ch:=zH mX;have HI:=zH hs.i;clear mX;have Eb:Hid (∀(i:Nat) (x:Oh),l[i]?=some x→x.v.name=c.name→x.v=o→au.iq (vs l) r c=⟨(vs l).set i (au.act o r c).o,(au.act o r c).p,(au.act o r c).later,(au.act o r c).outs⟩):=zH (fun i x h1 h2 h3=>by have h:=au.zO hall he h4 h5 (dB h1) h2 (by rw[h3];exact hft);rw[h3] at h;exact h);have HW:=zH (fun(W:World) (hW:Below w.heap.size w W) (i:Nat) (y:Oh) (hi:i<n)=>tL cp n l i y W (hs.later hW) hi);have XZ:Hid (n*144≤140737488355328):=zH hs.s.big;have hk4:o.kind=4:=by rw[uY] at hft;unfold au.fits at hft;simpa using hft
 have hac:au.act o r c=au.wait o r:=by unfold au.act;rw[if_neg (by omega),if_neg (by omega),if_pos uY]
 have K4:Hid (decide (o.kind=4)=true):=zH (decide_eq_true hk4);have E14:Hid (decide (c.k=14)=true):=zH (decide_eq_true uY);have lJ:=zH (fun W=>kQ c.k o.kind hall.2.2.2 W);unfold dw at lJ;rw[hft] at lJ;have E4:Hid (decide (c.k=4)=false):=zH (decide_eq_false h4);have E5:Hid (decide (c.k=5)=false):=zH (decide_eq_false h5);have FL:Hid (∀(x:Oh),x.v=o→x∈l→∀W,Below w.heap.size w W→Calls prog 95 #[.agg (cu x),.agg #[.int .i64 r.c,.int .i64 r.e,.int .i64 r.r]] W (ze G (au.act o r c) W)):=zH (fun x h1 h2 W hW=>by have h:=PG G x r W (fun W h=>(yA.out W h).i x h2) ((hs.i x h2).later hW) (au.TW (hall.1.ok x.v (by unfold vs;exact List.mem_map_of_mem h2)) (by rw[← uY,h1];exact hft));rw[h1,← hac] at h;exact h);unfold FK at HW;unfold ze at FL;clear hs hv ho hall fA hG he h4 h5 hf hft hac hk4 uY;generalize hds:au.iq (vs l) r c=ds at *
 clear hds;generalize au.act o r c=Y at *
 obtain⟨yo,yp,yt,ys⟩:=Y;simp only at FL Eb;go_enter func49,ntmps49;go_wp2_with fail
 (refine(HM.out _ HK.out.b).mono ?_;rintro e w1 ⟨rfl,b1⟩)
 replace HK:=iH HK b1;clear b1;go_wp2_with refine zX (aP HK 0) ?_;refine cb (HC.out _) HK ?_;clear HK;intro _ HK;go_wp2_with (first|refine zX (bZ HK 1) ?_|refine zX (dJ (x:=c.k) (k:=4) D4.out) ?_|refine zX (dF (x:=c.k) (k:=17) yB.out) ?_|refine zX (Jz HK 1) ?_);refine cb (HE.out _) HK ?_;clear HK;intro _ HK;go_wp2_with refine zX (nJ HK 1) ?_;refine(Cy.out _ HK.out.b).mono ?_;rintro e w1 ⟨z,hat,rfl,b1⟩;replace HK:=iH HK b1;clear b1
 rcases hat with ⟨i,x,rfl,hx,hn,_⟩|⟨rfl,hno⟩
 case inr=>exact absurd hno Cc.out
 obtain rfl:=Ce.out i x hx hn;have HX:Hid (∀W,Below w.heap.size w W→∀j v,(yY x)[j]?=some v→W.cell? ⟨b,rX+i*11+j,none⟩=some v):=zH fun W hW=>Ch.out W hW i x hx
 have hin:i<n:=by have:=(List.getElem?_eq_some_iff.1 hx).1;omega
 have hi0:(0:Int)≤(i:Int):=by omega
 have hi1:(i:Int)<(n:Int):=by omega
 have G0:Hid (decide ((0:Int)≤(i:Int))=true):=zH (decide_eq_true hi0);have L0:Hid (decide ((i:Int)<0)=false):=zH (decide_eq_false (by omega));have wZ:=zH (FL.out x rfl (List.mem_of_getElem? hx));have HDx:=zH (Eb.out i x hx hn rfl);have uJ:Hid (l.length=n):=zH hl;have hil:i<l.length:=by rw[hl];exact hin
 clear Ch hx hn Ce Cc FL Eb hl HI;go_wp2_with (first|refine zX (bZ HK 1) ?_|refine zX (aW (x:=c.k) (k:=4) E4.out) ?_|refine zX (dJ (x:=(i:Int)) (k:=0) L0.out) ?_);have aj:=zH HK.out.drew;refine zR aj.out fun ah=>?_
 refine ak 0 rfl ?_;refine ak 1 rfl ?_ fun _ s=>bZ s 1
 refine ak 2 rfl ?_;refine ak 3 rfl ?_;refine ak 4 rfl ?_ fun _ s=>bH (i:=i) hin
 refine ak 5 rfl ?_;refine ak 6 rfl ?_ fun _ s=>fB (x:=x) (off:=rX+i*11) (HX.out _ s.out.b)
 refine aC 7 rfl fun K hK=>?_
 go_simp;go_at_call 94;refine(lJ.out _).mono ?_;rintro e w5 ⟨rfl,b5⟩;have hs:=zH (ah.out.call b5);clear b5;refine bk hK hs fun ah=>?_
 clear hK K;refine ak 8 rfl ?_;refine ak 9 rfl ?_;refine cB ?_;replace HK:=ah;clear ah aj;go_wp2_with (first|refine zX (bZ HK 1) ?_|refine zX (aW (x:=c.k) (k:=5) E5.out) ?_|refine zX (bH (i:=i) hin) ?_|refine zX (fB (x:=x) (off:=rX+i*11) (HX.out _ HK.out.b)) ?_|refine zX (aW (x:=x.v.kind) (k:=4) K4.out) ?_|refine zX (aW (x:=c.k) (k:=14) E14.out) ?_);go_cut [12,13,14,15] (fun s12 s13 s14 s15 wx=>∃(y:Oh) (A5:Option Addr) (n5 d5:Nat) (Rn:List bV) (g12 g13:Nat),s12=.pointer (some ⟨g12,0,none⟩)∧s13=.pointer (some ⟨g13,0,none⟩)∧s14=.bool yt∧s15=.slice A5 n5 d5∧Hid (y.v=yo)∧Hid (Kn w.heap.size w wx [(w.heap.size,44,#[.int .i64 r.c,.int .i64 r.e,.int .i64 r.r]),(w.heap.size+1,46,dL c),(w.heap.size+2,28,dG au.rz),(g12,75,cu y),(g13,28,dG yp)] Rn)∧Hid (∀(b:Nat) (W0 W:World) L R,Kn b W0 W L R→(∀z∈Rn,z∈R)→G W→In W y∧bT bL tF W A5 n5 d5 ys))
 case first=>
  have aj:=zH HK.out.drew;refine wp_region_held_drew (S:=(fun W=>Hid (Kn w.heap.size w W [(w.heap.size,44,#[.int .i64 r.c,.int .i64 r.e,.int .i64 r.r]),(w.heap.size+1,46,dL c)] []))) (by kernel_rfl) ?_ fun ah=>?_
  ·(try dsimp only);exact eD aj
  refine ak 0 rfl ?_;refine ak 1 rfl ?_;refine ak 2 rfl ?_ fun _ s=>bH (i:=i) hin
  refine ak 3 rfl ?_ fun _ s=>gL (x:=x) (off:=rX+i*11) (HX.out _ s.out.b)
  refine ak 4 rfl ?_ fun _ s=>aP s 0
  refine Ze 5 11 12 rfl rfl rfl (fun K hK=>?_) (fun K hK=>?_) fun K hK=>?_
  go_simp;go_at_call 95;refine(wZ.out _ aj.out.b).mono ?_;rintro e w5 ⟨y,A5,n5,d5,Rn,rfl,uo,k5,qP⟩;replace aj:=zH (aj.out.join k5);clear k5;have hs:=eD aj;refine bk hK hs fun ah=>?_
  clear hK K;refine ak 6 rfl ?_;refine ak 7 rfl ?_;refine ak 8 rfl ?_;refine ak 9 rfl ?_;refine ak 10 rfl ?_;refine iW 11 12 rfl rfl (fun K hK=>?_) fun K hK=>?_
  refine nX aj ?_;clear aj;intro wq g12 aj;have hs:=eD aj;refine bk hK hs fun ah=>?_
  clear hK K;refine aC 12 rfl fun K hK=>?_
  refine nW aj ?_;clear aj;intro wq g13 aj;have hs:=eD aj;refine bk hK hs fun ah=>?_
  clear hK K;refine aC 13 rfl fun K hK=>?_
  (first|refine fT y aj 3 ?_|refine fT y aj 4 ?_);clear aj;intro wq aj;simp only[aS,aK,List.set] at aj;have hs:=eD aj
  refine bk hK hs fun ah=>?_
  clear hK K;refine aC 14 rfl fun K hK=>?_
  (first|refine fC yp aj 3 ?_|refine fC yp aj 4 ?_);clear aj;intro wq aj;simp only[aS,aK,List.set] at aj;have hs:=eD aj
  refine bk hK hs fun ah=>?_
  clear hK K;refine ak 15 rfl ?_;refine ak 16 rfl ?_;refine cB ?_
  rotate_left
  refine nW aj ?_;clear aj;intro wq g13 aj;have hs:=eD aj;refine bk hK hs fun ah=>?_
  clear hK K;refine aC 11 rfl fun K hK=>?_
  refine nX aj ?_;clear aj;intro wq g12 aj;have hs:=eD aj;refine bk hK hs fun ah=>?_
  clear hK K;refine aC 13 rfl fun K hK=>?_
  (first|refine fT y aj 3 ?_|refine fT y aj 4 ?_);clear aj;intro wq aj;simp only[aS,aK,List.set] at aj;have hs:=eD aj
  refine bk hK hs fun ah=>?_
  clear hK K;refine aC 14 rfl fun K hK=>?_
  (first|refine fC yp aj 3 ?_|refine fC yp aj 4 ?_);clear aj;intro wq aj;simp only[aS,aK,List.set] at aj;have hs:=eD aj
  refine bk hK hs fun ah=>?_
  clear hK K;refine ak 15 rfl ?_;refine ak 16 rfl ?_;refine cB ?_
  rotate_left
  refine nX aj ?_;clear aj;intro wq g12 aj;have hs:=eD aj;refine bk hK hs fun ah=>?_
  clear hK K;refine iW 5 12 rfl rfl (fun K hK=>?_) fun K hK=>?_
  go_simp;go_at_call 95;refine(wZ.out _ aj.out.b).mono ?_;rintro e w5 ⟨y,A5,n5,d5,Rn,rfl,uo,k5,qP⟩;replace aj:=zH (aj.out.join k5);clear k5;have hs:=eD aj;refine bk hK hs fun ah=>?_
  clear hK K;refine ak 6 rfl ?_;refine ak 7 rfl ?_;refine ak 8 rfl ?_;refine ak 9 rfl ?_;refine ak 10 rfl ?_;refine aC 12 rfl fun K hK=>?_
  refine nW aj ?_;clear aj;intro wq g13 aj;have hs:=eD aj;refine bk hK hs fun ah=>?_
  clear hK K;refine aC 13 rfl fun K hK=>?_
  (first|refine fT y aj 3 ?_|refine fT y aj 4 ?_);clear aj;intro wq aj;simp only[aS,aK,List.set] at aj;have hs:=eD aj
  refine bk hK hs fun ah=>?_
  clear hK K;refine aC 14 rfl fun K hK=>?_
  (first|refine fC yp aj 3 ?_|refine fC yp aj 4 ?_);clear aj;intro wq aj;simp only[aS,aK,List.set] at aj;have hs:=eD aj
  refine bk hK hs fun ah=>?_
  clear hK K;refine ak 15 rfl ?_;refine ak 16 rfl ?_;refine cB ?_
  rotate_left
  refine nW aj ?_;clear aj;intro wq g13 aj;have hs:=eD aj;refine bk hK hs fun ah=>?_
  clear hK K;refine aC 5 rfl fun K hK=>?_
  go_simp;go_at_call 95;refine(wZ.out _ aj.out.b).mono ?_;rintro e w5 ⟨y,A5,n5,d5,Rn,rfl,uo,k5,qP⟩;replace aj:=zH (aj.out.join k5);clear k5;have hs:=eD aj;refine bk hK hs fun ah=>?_
  clear hK K;refine ak 6 rfl ?_;refine ak 7 rfl ?_;refine ak 8 rfl ?_;refine ak 9 rfl ?_;refine ak 10 rfl ?_;refine aC 13 rfl fun K hK=>?_
  (first|refine fT y aj 3 ?_|refine fT y aj 4 ?_);clear aj;intro wq aj;simp only[aS,aK,List.set] at aj;have hs:=eD aj
  refine bk hK hs fun ah=>?_
  clear hK K;refine aC 14 rfl fun K hK=>?_
  (first|refine fC yp aj 3 ?_|refine fC yp aj 4 ?_);clear aj;intro wq aj;simp only[aS,aK,List.set] at aj;have hs:=eD aj
  refine bk hK hs fun ah=>?_
  clear hK K;refine ak 15 rfl ?_;refine ak 16 rfl ?_;refine cB ?_
  rotate_left
  refine nW aj ?_;clear aj;intro wq g13 aj;have hs:=eD aj;refine bk hK hs fun ah=>?_
  clear hK K;refine iW 5 11 rfl rfl (fun K hK=>?_) fun K hK=>?_
  go_simp;go_at_call 95;refine(wZ.out _ aj.out.b).mono ?_;rintro e w5 ⟨y,A5,n5,d5,Rn,rfl,uo,k5,qP⟩;replace aj:=zH (aj.out.join k5);clear k5;have hs:=eD aj;refine bk hK hs fun ah=>?_
  clear hK K;refine ak 6 rfl ?_;refine ak 7 rfl ?_;refine ak 8 rfl ?_;refine ak 9 rfl ?_;refine ak 10 rfl ?_;refine aC 11 rfl fun K hK=>?_
  refine nX aj ?_;clear aj;intro wq g12 aj;have hs:=eD aj;refine bk hK hs fun ah=>?_
  clear hK K;refine aC 13 rfl fun K hK=>?_
  (first|refine fT y aj 3 ?_|refine fT y aj 4 ?_);clear aj;intro wq aj;simp only[aS,aK,List.set] at aj;have hs:=eD aj
  refine bk hK hs fun ah=>?_
  clear hK K;refine aC 14 rfl fun K hK=>?_
  (first|refine fC yp aj 3 ?_|refine fC yp aj 4 ?_);clear aj;intro wq aj;simp only[aS,aK,List.set] at aj;have hs:=eD aj
  refine bk hK hs fun ah=>?_
  clear hK K;refine ak 15 rfl ?_;refine ak 16 rfl ?_;refine cB ?_
  rotate_left
  refine nX aj ?_;clear aj;intro wq g12 aj;have hs:=eD aj;refine bk hK hs fun ah=>?_
  clear hK K;refine aC 5 rfl fun K hK=>?_
  go_simp;go_at_call 95;refine(wZ.out _ aj.out.b).mono ?_;rintro e w5 ⟨y,A5,n5,d5,Rn,rfl,uo,k5,qP⟩;replace aj:=zH (aj.out.join k5);clear k5;have hs:=eD aj;refine bk hK hs fun ah=>?_
  clear hK K;refine ak 6 rfl ?_;refine ak 7 rfl ?_;refine ak 8 rfl ?_;refine ak 9 rfl ?_;refine ak 10 rfl ?_;refine aC 13 rfl fun K hK=>?_
  (first|refine fT y aj 3 ?_|refine fT y aj 4 ?_);clear aj;intro wq aj;simp only[aS,aK,List.set] at aj;have hs:=eD aj
  refine bk hK hs fun ah=>?_
  clear hK K;refine aC 14 rfl fun K hK=>?_
  (first|refine fC yp aj 3 ?_|refine fC yp aj 4 ?_);clear aj;intro wq aj;simp only[aS,aK,List.set] at aj;have hs:=eD aj
  refine bk hK hs fun ah=>?_
  clear hK K;refine ak 15 rfl ?_;refine ak 16 rfl ?_;refine cB ?_
  rotate_left
  all_goals
   go_wp2_with fail;go_meet
   first|exact⟨y,A5,n5,d5,Rn,g12,g13,rfl,rfl,rfl,rfl,uo,aj,qP⟩|exact⟨y,A5,n5,d5,Rn,g12,g13,rfl,rfl,rfl,rfl,uo,zH aj.out.YW,qP⟩
 case rest=>
 obtain⟨y,A5,n5,d5,Rn,g12,g13,rfl,rfl,rfl,rfl,uo,HK,qP⟩:=hcut;go_wp2_with fail;have aj:=zH HK.out.drew;refine wp_region_held_drew (S:=(fun W=>Hid (Kn w.heap.size w W [(g12,75,cu y),(g13,28,dG yp)] []))) (by kernel_rfl) ?_ fun ah=>?_
 ·(try dsimp only);exact Si aj
 refine ak 0 rfl ?_;refine ak 1 rfl ?_;refine ak 2 rfl ?_ fun _ s=>lV s 0
 refine ak 4 rfl ?_ fun _ s=>Sg s 1
 refine ak 5 rfl ?_;refine ak 6 rfl ?_;refine aC 3 rfl fun K hK=>?_
 go_simp;go_at_call 96;refine(HW.out _ aj.out.b i y hin).mono ?_;rintro e w6 ⟨A6,n6,c6,rfl,o6,b6⟩;replace aj:=zH (aj.out.called b6 o6);clear o6 b6;have hs:=Si aj;refine bk hK hs fun ah=>?_
 clear hK K;refine ak 7 rfl ?_;refine aC 8 rfl fun K hK=>?_
 refine fC yp aj 2 ?_;clear aj;intro wq aj;simp only[lS] at aj;have hs:=Si aj;refine bk hK hs fun ah=>?_
 clear hK K;refine ak 9 rfl ?_;refine ak 10 rfl ?_;refine cB ?_
 all_goals
  exact aen
end
section
theorem KN(G:World→Prop)(A:Option Addr)(cp n:Nat)(l:List Oh)(r:Rf)(c:aI.C)(w:World)(hG:∀W,G W→dS W A n cp l)(hs:dS w A n cp l)(hv:c.val.f<18446744073709551616)(ho:c.old.f<18446744073709551616)(fA:au.All (vs l) r c)(he:aI.aX c=0)(h4:¬c.k=4)(h5:¬c.k=5)(o:au.Ob)(hf:au.iV (vs l) c.name=some o)(hft:au.fits c.k o.kind=true)(hk:c.k=12):
  Calls prog 49 #[.slice A n cp,.agg #[.int .i64 r.c,.int .i64 r.e,.int .i64 r.r],.agg (dL c)] w (lX G (au.iq (vs l) r c) w):=by
 have yA:=zH hG;have lK:=zH dD;have HK:=FX w 44 #[.int .i64 r.c,.int .i64 r.e,.int .i64 r.r] 46 (dL c) 28 (dG au.rz);have HM:=zH (fun W (hW:Below w.heap.size w W)=>bU A cp n l W (hs.later hW));unfold dw at HM;have HC:=zH (fun W=>fM r W);unfold dw at HC;have HE:=zH (fun W=>gV c W hv ho);unfold iQ at HE;have hall:=fA;rw[decide_eq_true hall.1] at HM;rw[decide_eq_true hall.2.1] at HC;have D4:Hid (decide (c.k<4)=false):=zH (decide_eq_false (by have:=hall.2.2.1;omega));have yB:Hid (decide (17<c.k)=false):=zH (decide_eq_false (by have:=hall.2.2.2;omega));rw[he] at HE;have Cy:=zH (fun W (hW:Below w.heap.size w W)=>gU A cp n l c.name W (hs.later hW));have Cc:Hid (¬∀(j:Nat) (y:Oh),l[j]?=some y→¬y.v.name=c.name):=zH (fun h=>by have:=(au.rY (l:=vs l) (k:=c.name) (fun j y hj=>by obtain⟨z,hz,rfl⟩:=yH hj;exact h j z hz)).2;rw[hf] at this;cases this);have Ce:Hid (∀(i:Nat) (x:Oh),l[i]?=some x→x.v.name=c.name→x.v=o):=zH (fun i x h1 h2=>by have:=(au.jI hall.1.up (dB h1) h2).2.2;rw[hf] at this;injection this with this;exact this.symm)
 have hpos:0<n:=by
  rcases Nat.eq_zero_or_pos n with h0|h0
  ·subst h0
   rw[List.length_eq_zero_iff.1 hs.len] at hf;cases hf
  ·exact h0
 have hl:=hs.len;obtain⟨b,rX,rfl,mX⟩:=hs.s.at hpos;have Ch:=zH mX;have HI:=zH hs.i;clear mX;have Eb:Hid (∀(i:Nat) (x:Oh),l[i]?=some x→x.v.name=c.name→x.v=o→au.iq (vs l) r c=⟨(vs l).set i (au.act o r c).o,(au.act o r c).p,(au.act o r c).later,(au.act o r c).outs⟩):=zH (fun i x h1 h2 h3=>by have h:=au.zO hall he h4 h5 (dB h1) h2 (by rw[h3];exact hft);rw[h3] at h;exact h);have HW:=zH (fun(W:World) (hW:Below w.heap.size w W) (i:Nat) (y:Oh) (hi:i<n)=>tL cp n l i y W (hs.later hW) hi);have XZ:Hid (n*144≤140737488355328):=zH hs.s.big;have hk3:o.kind=3:=by rw[hk] at hft;unfold au.fits at hft;simpa using hft
 have hac:au.act o r c=au.take o r:=by unfold au.act;rw[if_pos hk]
 have K4:Hid (decide (o.kind=4)=false):=zH (decide_eq_false (by omega));have K3:Hid (decide (o.kind=3)=true):=zH (decide_eq_true hk3);have N17:Hid ((!decide (c.k=17))=true):=zH (by rw[hk];rfl);have lJ:=zH (fun W=>kQ c.k o.kind hall.2.2.2 W);unfold dw at lJ;rw[hft] at lJ;have E4:Hid (decide (c.k=4)=false):=zH (decide_eq_false h4);have E5:Hid (decide (c.k=5)=false):=zH (decide_eq_false h5);have FL:Hid (∀(x:Oh),x.v=o→x∈l→∀W,Below w.heap.size w W→Calls prog 97 #[.agg (cu x),.agg #[.int .i64 r.c,.int .i64 r.e,.int .i64 r.r],.agg (dL c)] W (ze G (au.act o r c) W)):=zH (fun x h1 h2 W hW=>by have h:=Ul G x r c W (fun W h=>(yA.out W h).i x h2) ((hs.i x h2).later hW) hk;rw[h1,← hac] at h;exact h);unfold FK at HW;unfold ze at FL;clear hs hv ho hall fA hG he h4 h5 hf hft hac hk3 hk;generalize hds:au.iq (vs l) r c=ds at *
 clear hds;generalize au.act o r c=Y at *
 obtain⟨yo,yp,yt,ys⟩:=Y;simp only at FL Eb;go_enter func49,ntmps49;go_wp2_with fail
 (refine(HM.out _ HK.out.b).mono ?_;rintro e w1 ⟨rfl,b1⟩)
 replace HK:=iH HK b1;clear b1;go_wp2_with refine zX (aP HK 0) ?_;refine cb (HC.out _) HK ?_;clear HK;intro _ HK;go_wp2_with (first|refine zX (bZ HK 1) ?_|refine zX (dJ (x:=c.k) (k:=4) D4.out) ?_|refine zX (dF (x:=c.k) (k:=17) yB.out) ?_|refine zX (Jz HK 1) ?_);refine cb (HE.out _) HK ?_;clear HK;intro _ HK;go_wp2_with refine zX (nJ HK 1) ?_;refine(Cy.out _ HK.out.b).mono ?_;rintro e w1 ⟨z,hat,rfl,b1⟩;replace HK:=iH HK b1;clear b1
 rcases hat with ⟨i,x,rfl,hx,hn,_⟩|⟨rfl,hno⟩
 case inr=>exact absurd hno Cc.out
 obtain rfl:=Ce.out i x hx hn;have HX:Hid (∀W,Below w.heap.size w W→∀j v,(yY x)[j]?=some v→W.cell? ⟨b,rX+i*11+j,none⟩=some v):=zH fun W hW=>Ch.out W hW i x hx
 have hin:i<n:=by have:=(List.getElem?_eq_some_iff.1 hx).1;omega
 have hi0:(0:Int)≤(i:Int):=by omega
 have hi1:(i:Int)<(n:Int):=by omega
 have G0:Hid (decide ((0:Int)≤(i:Int))=true):=zH (decide_eq_true hi0);have L0:Hid (decide ((i:Int)<0)=false):=zH (decide_eq_false (by omega));have wZ:=zH (FL.out x rfl (List.mem_of_getElem? hx));have HDx:=zH (Eb.out i x hx hn rfl);have uJ:Hid (l.length=n):=zH hl;have hil:i<l.length:=by rw[hl];exact hin
 clear Ch hx hn Ce Cc FL Eb hl HI;go_wp2_with (first|refine zX (bZ HK 1) ?_|refine zX (aW (x:=c.k) (k:=4) E4.out) ?_|refine zX (dJ (x:=(i:Int)) (k:=0) L0.out) ?_);have aj:=zH HK.out.drew;refine zR aj.out fun ah=>?_
 refine ak 0 rfl ?_;refine ak 1 rfl ?_ fun _ s=>bZ s 1
 refine ak 2 rfl ?_;refine ak 3 rfl ?_;refine ak 4 rfl ?_ fun _ s=>bH (i:=i) hin
 refine ak 5 rfl ?_;refine ak 6 rfl ?_ fun _ s=>fB (x:=x) (off:=rX+i*11) (HX.out _ s.out.b)
 refine aC 7 rfl fun K hK=>?_
 go_simp;go_at_call 94;refine(lJ.out _).mono ?_;rintro e w5 ⟨rfl,b5⟩;have hs:=zH (ah.out.call b5);clear b5;refine bk hK hs fun ah=>?_
 clear hK K;refine ak 8 rfl ?_;refine ak 9 rfl ?_;refine cB ?_;replace HK:=ah;clear ah aj;go_wp2_with (first|refine zX (bZ HK 1) ?_|refine zX (aW (x:=c.k) (k:=5) E5.out) ?_|refine zX (bH (i:=i) hin) ?_|refine zX (fB (x:=x) (off:=rX+i*11) (HX.out _ HK.out.b)) ?_|refine zX (aW (x:=x.v.kind) (k:=4) K4.out) ?_|refine zX (aW (x:=x.v.kind) (k:=3) K3.out) ?_|refine zX (BK (x:=c.k) (k:=17) N17.out) ?_);go_cut [16,17,18,19] (fun s16 s17 s18 s19 wx=>∃(y:Oh) (A5:Option Addr) (n5 d5:Nat) (Rn:List bV) (g12 g13:Nat),s16=.pointer (some ⟨g12,0,none⟩)∧s17=.pointer (some ⟨g13,0,none⟩)∧s18=.bool yt∧s19=.slice A5 n5 d5∧Hid (y.v=yo)∧Hid (Kn w.heap.size w wx [(w.heap.size,44,#[.int .i64 r.c,.int .i64 r.e,.int .i64 r.r]),(w.heap.size+1,46,dL c),(w.heap.size+2,28,dG au.rz),(g12,75,cu y),(g13,28,dG yp)] Rn)∧Hid (∀(b:Nat) (W0 W:World) L R,Kn b W0 W L R→(∀z∈Rn,z∈R)→G W→In W y∧bT bL tF W A5 n5 d5 ys))
 case first=>
  have aj:=zH HK.out.drew;refine wp_region_held_drew (S:=(fun W=>Hid (Kn w.heap.size w W [(w.heap.size,44,#[.int .i64 r.c,.int .i64 r.e,.int .i64 r.r]),(w.heap.size+1,46,dL c)] []))) (by kernel_rfl) ?_ fun ah=>?_
  ·(try dsimp only);exact eD aj
  refine ak 0 rfl ?_;refine ak 1 rfl ?_;refine ak 2 rfl ?_ fun _ s=>bH (i:=i) hin
  refine ak 3 rfl ?_ fun _ s=>gL (x:=x) (off:=rX+i*11) (HX.out _ s.out.b)
  refine ak 4 rfl ?_ fun _ s=>aP s 0
  refine ak 5 rfl ?_ fun _ s=>Jz s 1
  refine Ze 6 12 13 rfl rfl rfl (fun K hK=>?_) (fun K hK=>?_) fun K hK=>?_
  go_simp;go_at_call 97;refine(wZ.out _ aj.out.b).mono ?_;rintro e w5 ⟨y,A5,n5,d5,Rn,rfl,uo,k5,qP⟩;replace aj:=zH (aj.out.join k5);clear k5;have hs:=eD aj;refine bk hK hs fun ah=>?_
  clear hK K;refine ak 7 rfl ?_;refine ak 8 rfl ?_;refine ak 9 rfl ?_;refine ak 10 rfl ?_;refine ak 11 rfl ?_;refine iW 12 13 rfl rfl (fun K hK=>?_) fun K hK=>?_
  refine nX aj ?_;clear aj;intro wq g12 aj;have hs:=eD aj;refine bk hK hs fun ah=>?_
  clear hK K;refine aC 13 rfl fun K hK=>?_
  refine nW aj ?_;clear aj;intro wq g13 aj;have hs:=eD aj;refine bk hK hs fun ah=>?_
  clear hK K;refine aC 14 rfl fun K hK=>?_
  (first|refine fT y aj 3 ?_|refine fT y aj 4 ?_);clear aj;intro wq aj;simp only[aS,aK,List.set] at aj;have hs:=eD aj
  refine bk hK hs fun ah=>?_
  clear hK K;refine aC 15 rfl fun K hK=>?_
  (first|refine fC yp aj 3 ?_|refine fC yp aj 4 ?_);clear aj;intro wq aj;simp only[aS,aK,List.set] at aj;have hs:=eD aj
  refine bk hK hs fun ah=>?_
  clear hK K;refine ak 16 rfl ?_;refine ak 17 rfl ?_;refine cB ?_
  rotate_left
  refine nW aj ?_;clear aj;intro wq g13 aj;have hs:=eD aj;refine bk hK hs fun ah=>?_
  clear hK K;refine aC 12 rfl fun K hK=>?_
  refine nX aj ?_;clear aj;intro wq g12 aj;have hs:=eD aj;refine bk hK hs fun ah=>?_
  clear hK K;refine aC 14 rfl fun K hK=>?_
  (first|refine fT y aj 3 ?_|refine fT y aj 4 ?_);clear aj;intro wq aj;simp only[aS,aK,List.set] at aj;have hs:=eD aj
  refine bk hK hs fun ah=>?_
  clear hK K;refine aC 15 rfl fun K hK=>?_
  (first|refine fC yp aj 3 ?_|refine fC yp aj 4 ?_);clear aj;intro wq aj;simp only[aS,aK,List.set] at aj;have hs:=eD aj
  refine bk hK hs fun ah=>?_
  clear hK K;refine ak 16 rfl ?_;refine ak 17 rfl ?_;refine cB ?_
  rotate_left
  refine nX aj ?_;clear aj;intro wq g12 aj;have hs:=eD aj;refine bk hK hs fun ah=>?_
  clear hK K;refine iW 6 13 rfl rfl (fun K hK=>?_) fun K hK=>?_
  go_simp;go_at_call 97;refine(wZ.out _ aj.out.b).mono ?_;rintro e w5 ⟨y,A5,n5,d5,Rn,rfl,uo,k5,qP⟩;replace aj:=zH (aj.out.join k5);clear k5;have hs:=eD aj;refine bk hK hs fun ah=>?_
  clear hK K;refine ak 7 rfl ?_;refine ak 8 rfl ?_;refine ak 9 rfl ?_;refine ak 10 rfl ?_;refine ak 11 rfl ?_;refine aC 13 rfl fun K hK=>?_
  refine nW aj ?_;clear aj;intro wq g13 aj;have hs:=eD aj;refine bk hK hs fun ah=>?_
  clear hK K;refine aC 14 rfl fun K hK=>?_
  (first|refine fT y aj 3 ?_|refine fT y aj 4 ?_);clear aj;intro wq aj;simp only[aS,aK,List.set] at aj;have hs:=eD aj
  refine bk hK hs fun ah=>?_
  clear hK K;refine aC 15 rfl fun K hK=>?_
  (first|refine fC yp aj 3 ?_|refine fC yp aj 4 ?_);clear aj;intro wq aj;simp only[aS,aK,List.set] at aj;have hs:=eD aj
  refine bk hK hs fun ah=>?_
  clear hK K;refine ak 16 rfl ?_;refine ak 17 rfl ?_;refine cB ?_
  rotate_left
  refine nW aj ?_;clear aj;intro wq g13 aj;have hs:=eD aj;refine bk hK hs fun ah=>?_
  clear hK K;refine aC 6 rfl fun K hK=>?_
  go_simp;go_at_call 97;refine(wZ.out _ aj.out.b).mono ?_;rintro e w5 ⟨y,A5,n5,d5,Rn,rfl,uo,k5,qP⟩;replace aj:=zH (aj.out.join k5);clear k5;have hs:=eD aj;refine bk hK hs fun ah=>?_
  clear hK K;refine ak 7 rfl ?_;refine ak 8 rfl ?_;refine ak 9 rfl ?_;refine ak 10 rfl ?_;refine ak 11 rfl ?_;refine aC 14 rfl fun K hK=>?_
  (first|refine fT y aj 3 ?_|refine fT y aj 4 ?_);clear aj;intro wq aj;simp only[aS,aK,List.set] at aj;have hs:=eD aj
  refine bk hK hs fun ah=>?_
  clear hK K;refine aC 15 rfl fun K hK=>?_
  (first|refine fC yp aj 3 ?_|refine fC yp aj 4 ?_);clear aj;intro wq aj;simp only[aS,aK,List.set] at aj;have hs:=eD aj
  refine bk hK hs fun ah=>?_
  clear hK K;refine ak 16 rfl ?_;refine ak 17 rfl ?_;refine cB ?_
  rotate_left
  refine nW aj ?_;clear aj;intro wq g13 aj;have hs:=eD aj;refine bk hK hs fun ah=>?_
  clear hK K;refine iW 6 12 rfl rfl (fun K hK=>?_) fun K hK=>?_
  go_simp;go_at_call 97;refine(wZ.out _ aj.out.b).mono ?_;rintro e w5 ⟨y,A5,n5,d5,Rn,rfl,uo,k5,qP⟩;replace aj:=zH (aj.out.join k5);clear k5;have hs:=eD aj;refine bk hK hs fun ah=>?_
  clear hK K;refine ak 7 rfl ?_;refine ak 8 rfl ?_;refine ak 9 rfl ?_;refine ak 10 rfl ?_;refine ak 11 rfl ?_;refine aC 12 rfl fun K hK=>?_
  refine nX aj ?_;clear aj;intro wq g12 aj;have hs:=eD aj;refine bk hK hs fun ah=>?_
  clear hK K;refine aC 14 rfl fun K hK=>?_
  (first|refine fT y aj 3 ?_|refine fT y aj 4 ?_);clear aj;intro wq aj;simp only[aS,aK,List.set] at aj;have hs:=eD aj
  refine bk hK hs fun ah=>?_
  clear hK K;refine aC 15 rfl fun K hK=>?_
  (first|refine fC yp aj 3 ?_|refine fC yp aj 4 ?_);clear aj;intro wq aj;simp only[aS,aK,List.set] at aj;have hs:=eD aj
  refine bk hK hs fun ah=>?_
  clear hK K;refine ak 16 rfl ?_;refine ak 17 rfl ?_;refine cB ?_
  rotate_left
  refine nX aj ?_;clear aj;intro wq g12 aj;have hs:=eD aj;refine bk hK hs fun ah=>?_
  clear hK K;refine aC 6 rfl fun K hK=>?_
  go_simp;go_at_call 97;refine(wZ.out _ aj.out.b).mono ?_;rintro e w5 ⟨y,A5,n5,d5,Rn,rfl,uo,k5,qP⟩;replace aj:=zH (aj.out.join k5);clear k5;have hs:=eD aj;refine bk hK hs fun ah=>?_
  clear hK K;refine ak 7 rfl ?_;refine ak 8 rfl ?_;refine ak 9 rfl ?_;refine ak 10 rfl ?_;refine ak 11 rfl ?_;refine aC 14 rfl fun K hK=>?_
  (first|refine fT y aj 3 ?_|refine fT y aj 4 ?_);clear aj;intro wq aj;simp only[aS,aK,List.set] at aj;have hs:=eD aj
  refine bk hK hs fun ah=>?_
  clear hK K;refine aC 15 rfl fun K hK=>?_
  (first|refine fC yp aj 3 ?_|refine fC yp aj 4 ?_);clear aj;intro wq aj;simp only[aS,aK,List.set] at aj;have hs:=eD aj
  refine bk hK hs fun ah=>?_
  clear hK K;refine ak 16 rfl ?_;refine ak 17 rfl ?_;refine cB ?_
  rotate_left
  all_goals
   go_wp2_with fail;go_meet
   first|exact⟨y,A5,n5,d5,Rn,g12,g13,rfl,rfl,rfl,rfl,uo,aj,qP⟩|exact⟨y,A5,n5,d5,Rn,g12,g13,rfl,rfl,rfl,rfl,uo,zH aj.out.YW,qP⟩
 case rest=>
 obtain⟨y,A5,n5,d5,Rn,g12,g13,rfl,rfl,rfl,rfl,uo,HK,qP⟩:=hcut;go_wp2_with fail;have aj:=zH HK.out.drew;refine wp_region_held_drew (S:=(fun W=>Hid (Kn w.heap.size w W [(g12,75,cu y),(g13,28,dG yp)] []))) (by kernel_rfl) ?_ fun ah=>?_
 ·(try dsimp only);exact Si aj
 refine ak 0 rfl ?_;refine ak 1 rfl ?_;refine ak 2 rfl ?_ fun _ s=>lV s 0
 refine ak 4 rfl ?_ fun _ s=>Sg s 1
 refine ak 5 rfl ?_;refine ak 6 rfl ?_;refine aC 3 rfl fun K hK=>?_
 go_simp;go_at_call 96;refine(HW.out _ aj.out.b i y hin).mono ?_;rintro e w6 ⟨A6,n6,c6,rfl,o6,b6⟩;replace aj:=zH (aj.out.called b6 o6);clear o6 b6;have hs:=Si aj;refine bk hK hs fun ah=>?_
 clear hK K;refine ak 7 rfl ?_;refine aC 8 rfl fun K hK=>?_
 refine fC yp aj 2 ?_;clear aj;intro wq aj;simp only[lS] at aj;have hs:=Si aj;refine bk hK hs fun ah=>?_
 clear hK K;refine ak 9 rfl ?_;refine ak 10 rfl ?_;refine cB ?_
 all_goals
  exact aen
end
section
theorem KM(G:World→Prop)(A:Option Addr)(cp n:Nat)(l:List Oh)(r:Rf)(c:aI.C)(w:World)(hG:∀W,G W→dS W A n cp l)(hs:dS w A n cp l)(hv:c.val.f<18446744073709551616)(ho:c.old.f<18446744073709551616)(fA:au.All (vs l) r c)(he:aI.aX c=0)(h4:¬c.k=4)(h5:¬c.k=5)(o:au.Ob)(hf:au.iV (vs l) c.name=some o)(hft:au.fits c.k o.kind=true)(hk:c.k=13):
  Calls prog 49 #[.slice A n cp,.agg #[.int .i64 r.c,.int .i64 r.e,.int .i64 r.r],.agg (dL c)] w (lX G (au.iq (vs l) r c) w):=by
 have yA:=zH hG;have lK:=zH dD;have HK:=FX w 44 #[.int .i64 r.c,.int .i64 r.e,.int .i64 r.r] 46 (dL c) 28 (dG au.rz);have HM:=zH (fun W (hW:Below w.heap.size w W)=>bU A cp n l W (hs.later hW));unfold dw at HM;have HC:=zH (fun W=>fM r W);unfold dw at HC;have HE:=zH (fun W=>gV c W hv ho);unfold iQ at HE;have hall:=fA;rw[decide_eq_true hall.1] at HM;rw[decide_eq_true hall.2.1] at HC;have D4:Hid (decide (c.k<4)=false):=zH (decide_eq_false (by have:=hall.2.2.1;omega));have yB:Hid (decide (17<c.k)=false):=zH (decide_eq_false (by have:=hall.2.2.2;omega));rw[he] at HE;have Cy:=zH (fun W (hW:Below w.heap.size w W)=>gU A cp n l c.name W (hs.later hW));have Cc:Hid (¬∀(j:Nat) (y:Oh),l[j]?=some y→¬y.v.name=c.name):=zH (fun h=>by have:=(au.rY (l:=vs l) (k:=c.name) (fun j y hj=>by obtain⟨z,hz,rfl⟩:=yH hj;exact h j z hz)).2;rw[hf] at this;cases this);have Ce:Hid (∀(i:Nat) (x:Oh),l[i]?=some x→x.v.name=c.name→x.v=o):=zH (fun i x h1 h2=>by have:=(au.jI hall.1.up (dB h1) h2).2.2;rw[hf] at this;injection this with this;exact this.symm)
 have hpos:0<n:=by
  rcases Nat.eq_zero_or_pos n with h0|h0
  ·subst h0
   rw[List.length_eq_zero_iff.1 hs.len] at hf;cases hf
  ·exact h0
 have hl:=hs.len;obtain⟨b,rX,rfl,mX⟩:=hs.s.at hpos;have Ch:=zH mX;have HI:=zH hs.i;clear mX;have Eb:Hid (∀(i:Nat) (x:Oh),l[i]?=some x→x.v.name=c.name→x.v=o→au.iq (vs l) r c=⟨(vs l).set i (au.act o r c).o,(au.act o r c).p,(au.act o r c).later,(au.act o r c).outs⟩):=zH (fun i x h1 h2 h3=>by have h:=au.zO hall he h4 h5 (dB h1) h2 (by rw[h3];exact hft);rw[h3] at h;exact h);have HW:=zH (fun(W:World) (hW:Below w.heap.size w W) (i:Nat) (y:Oh) (hi:i<n)=>tL cp n l i y W (hs.later hW) hi);have XZ:Hid (n*144≤140737488355328):=zH hs.s.big;have hk3:o.kind=3:=by rw[hk] at hft;unfold au.fits at hft;simpa using hft
 have hac:au.act o r c=au.free o r:=by unfold au.act;rw[if_neg (by omega),if_pos hk]
 have K4:Hid (decide (o.kind=4)=false):=zH (decide_eq_false (by omega));have K3:Hid (decide (o.kind=3)=true):=zH (decide_eq_true hk3);have N17:Hid ((!decide (c.k=17))=true):=zH (by rw[hk];rfl);have lJ:=zH (fun W=>kQ c.k o.kind hall.2.2.2 W);unfold dw at lJ;rw[hft] at lJ;have E4:Hid (decide (c.k=4)=false):=zH (decide_eq_false h4);have E5:Hid (decide (c.k=5)=false):=zH (decide_eq_false h5);have FL:Hid (∀(x:Oh),x.v=o→x∈l→∀W,Below w.heap.size w W→Calls prog 97 #[.agg (cu x),.agg #[.int .i64 r.c,.int .i64 r.e,.int .i64 r.r],.agg (dL c)] W (ze G (au.act o r c) W)):=zH (fun x h1 h2 W hW=>by have h:=Uk G x r c W (fun W h=>(yA.out W h).i x h2) ((hs.i x h2).later hW) hk;rw[h1,← hac] at h;exact h);unfold FK at HW;unfold ze at FL;clear hs hv ho hall fA hG he h4 h5 hf hft hac hk3 hk;generalize hds:au.iq (vs l) r c=ds at *
 clear hds;generalize au.act o r c=Y at *
 obtain⟨yo,yp,yt,ys⟩:=Y;simp only at FL Eb;go_enter func49,ntmps49;go_wp2_with fail
 (refine(HM.out _ HK.out.b).mono ?_;rintro e w1 ⟨rfl,b1⟩)
 replace HK:=iH HK b1;clear b1;go_wp2_with refine zX (aP HK 0) ?_;refine cb (HC.out _) HK ?_;clear HK;intro _ HK;go_wp2_with (first|refine zX (bZ HK 1) ?_|refine zX (dJ (x:=c.k) (k:=4) D4.out) ?_|refine zX (dF (x:=c.k) (k:=17) yB.out) ?_|refine zX (Jz HK 1) ?_);refine cb (HE.out _) HK ?_;clear HK;intro _ HK;go_wp2_with refine zX (nJ HK 1) ?_;refine(Cy.out _ HK.out.b).mono ?_;rintro e w1 ⟨z,hat,rfl,b1⟩;replace HK:=iH HK b1;clear b1
 rcases hat with ⟨i,x,rfl,hx,hn,_⟩|⟨rfl,hno⟩
 case inr=>exact absurd hno Cc.out
 obtain rfl:=Ce.out i x hx hn;have HX:Hid (∀W,Below w.heap.size w W→∀j v,(yY x)[j]?=some v→W.cell? ⟨b,rX+i*11+j,none⟩=some v):=zH fun W hW=>Ch.out W hW i x hx
 have hin:i<n:=by have:=(List.getElem?_eq_some_iff.1 hx).1;omega
 have hi0:(0:Int)≤(i:Int):=by omega
 have hi1:(i:Int)<(n:Int):=by omega
 have G0:Hid (decide ((0:Int)≤(i:Int))=true):=zH (decide_eq_true hi0);have L0:Hid (decide ((i:Int)<0)=false):=zH (decide_eq_false (by omega));have wZ:=zH (FL.out x rfl (List.mem_of_getElem? hx));have HDx:=zH (Eb.out i x hx hn rfl);have uJ:Hid (l.length=n):=zH hl;have hil:i<l.length:=by rw[hl];exact hin
 clear Ch hx hn Ce Cc FL Eb hl HI;go_wp2_with (first|refine zX (bZ HK 1) ?_|refine zX (aW (x:=c.k) (k:=4) E4.out) ?_|refine zX (dJ (x:=(i:Int)) (k:=0) L0.out) ?_);have aj:=zH HK.out.drew;refine zR aj.out fun ah=>?_
 refine ak 0 rfl ?_;refine ak 1 rfl ?_ fun _ s=>bZ s 1
 refine ak 2 rfl ?_;refine ak 3 rfl ?_;refine ak 4 rfl ?_ fun _ s=>bH (i:=i) hin
 refine ak 5 rfl ?_;refine ak 6 rfl ?_ fun _ s=>fB (x:=x) (off:=rX+i*11) (HX.out _ s.out.b)
 refine aC 7 rfl fun K hK=>?_
 go_simp;go_at_call 94;refine(lJ.out _).mono ?_;rintro e w5 ⟨rfl,b5⟩;have hs:=zH (ah.out.call b5);clear b5;refine bk hK hs fun ah=>?_
 clear hK K;refine ak 8 rfl ?_;refine ak 9 rfl ?_;refine cB ?_;replace HK:=ah;clear ah aj;go_wp2_with (first|refine zX (bZ HK 1) ?_|refine zX (aW (x:=c.k) (k:=5) E5.out) ?_|refine zX (bH (i:=i) hin) ?_|refine zX (fB (x:=x) (off:=rX+i*11) (HX.out _ HK.out.b)) ?_|refine zX (aW (x:=x.v.kind) (k:=4) K4.out) ?_|refine zX (aW (x:=x.v.kind) (k:=3) K3.out) ?_|refine zX (BK (x:=c.k) (k:=17) N17.out) ?_);go_cut [16,17,18,19] (fun s16 s17 s18 s19 wx=>∃(y:Oh) (A5:Option Addr) (n5 d5:Nat) (Rn:List bV) (g12 g13:Nat),s16=.pointer (some ⟨g12,0,none⟩)∧s17=.pointer (some ⟨g13,0,none⟩)∧s18=.bool yt∧s19=.slice A5 n5 d5∧Hid (y.v=yo)∧Hid (Kn w.heap.size w wx [(w.heap.size,44,#[.int .i64 r.c,.int .i64 r.e,.int .i64 r.r]),(w.heap.size+1,46,dL c),(w.heap.size+2,28,dG au.rz),(g12,75,cu y),(g13,28,dG yp)] Rn)∧Hid (∀(b:Nat) (W0 W:World) L R,Kn b W0 W L R→(∀z∈Rn,z∈R)→G W→In W y∧bT bL tF W A5 n5 d5 ys))
 case first=>
  have aj:=zH HK.out.drew;refine wp_region_held_drew (S:=(fun W=>Hid (Kn w.heap.size w W [(w.heap.size,44,#[.int .i64 r.c,.int .i64 r.e,.int .i64 r.r]),(w.heap.size+1,46,dL c)] []))) (by kernel_rfl) ?_ fun ah=>?_
  ·(try dsimp only);exact eD aj
  refine ak 0 rfl ?_;refine ak 1 rfl ?_;refine ak 2 rfl ?_ fun _ s=>bH (i:=i) hin
  refine ak 3 rfl ?_ fun _ s=>gL (x:=x) (off:=rX+i*11) (HX.out _ s.out.b)
  refine ak 4 rfl ?_ fun _ s=>aP s 0
  refine ak 5 rfl ?_ fun _ s=>Jz s 1
  refine Ze 6 12 13 rfl rfl rfl (fun K hK=>?_) (fun K hK=>?_) fun K hK=>?_
  go_simp;go_at_call 97;refine(wZ.out _ aj.out.b).mono ?_;rintro e w5 ⟨y,A5,n5,d5,Rn,rfl,uo,k5,qP⟩;replace aj:=zH (aj.out.join k5);clear k5;have hs:=eD aj;refine bk hK hs fun ah=>?_
  clear hK K;refine ak 7 rfl ?_;refine ak 8 rfl ?_;refine ak 9 rfl ?_;refine ak 10 rfl ?_;refine ak 11 rfl ?_;refine iW 12 13 rfl rfl (fun K hK=>?_) fun K hK=>?_
  refine nX aj ?_;clear aj;intro wq g12 aj;have hs:=eD aj;refine bk hK hs fun ah=>?_
  clear hK K;refine aC 13 rfl fun K hK=>?_
  refine nW aj ?_;clear aj;intro wq g13 aj;have hs:=eD aj;refine bk hK hs fun ah=>?_
  clear hK K;refine aC 14 rfl fun K hK=>?_
  (first|refine fT y aj 3 ?_|refine fT y aj 4 ?_);clear aj;intro wq aj;simp only[aS,aK,List.set] at aj;have hs:=eD aj
  refine bk hK hs fun ah=>?_
  clear hK K;refine aC 15 rfl fun K hK=>?_
  (first|refine fC yp aj 3 ?_|refine fC yp aj 4 ?_);clear aj;intro wq aj;simp only[aS,aK,List.set] at aj;have hs:=eD aj
  refine bk hK hs fun ah=>?_
  clear hK K;refine ak 16 rfl ?_;refine ak 17 rfl ?_;refine cB ?_
  rotate_left
  refine nW aj ?_;clear aj;intro wq g13 aj;have hs:=eD aj;refine bk hK hs fun ah=>?_
  clear hK K;refine aC 12 rfl fun K hK=>?_
  refine nX aj ?_;clear aj;intro wq g12 aj;have hs:=eD aj;refine bk hK hs fun ah=>?_
  clear hK K;refine aC 14 rfl fun K hK=>?_
  (first|refine fT y aj 3 ?_|refine fT y aj 4 ?_);clear aj;intro wq aj;simp only[aS,aK,List.set] at aj;have hs:=eD aj
  refine bk hK hs fun ah=>?_
  clear hK K;refine aC 15 rfl fun K hK=>?_
  (first|refine fC yp aj 3 ?_|refine fC yp aj 4 ?_);clear aj;intro wq aj;simp only[aS,aK,List.set] at aj;have hs:=eD aj
  refine bk hK hs fun ah=>?_
  clear hK K;refine ak 16 rfl ?_;refine ak 17 rfl ?_;refine cB ?_
  rotate_left
  refine nX aj ?_;clear aj;intro wq g12 aj;have hs:=eD aj;refine bk hK hs fun ah=>?_
  clear hK K;refine iW 6 13 rfl rfl (fun K hK=>?_) fun K hK=>?_
  go_simp;go_at_call 97;refine(wZ.out _ aj.out.b).mono ?_;rintro e w5 ⟨y,A5,n5,d5,Rn,rfl,uo,k5,qP⟩;replace aj:=zH (aj.out.join k5);clear k5;have hs:=eD aj;refine bk hK hs fun ah=>?_
  clear hK K;refine ak 7 rfl ?_;refine ak 8 rfl ?_;refine ak 9 rfl ?_;refine ak 10 rfl ?_;refine ak 11 rfl ?_;refine aC 13 rfl fun K hK=>?_
  refine nW aj ?_;clear aj;intro wq g13 aj;have hs:=eD aj;refine bk hK hs fun ah=>?_
  clear hK K;refine aC 14 rfl fun K hK=>?_
  (first|refine fT y aj 3 ?_|refine fT y aj 4 ?_);clear aj;intro wq aj;simp only[aS,aK,List.set] at aj;have hs:=eD aj
  refine bk hK hs fun ah=>?_
  clear hK K;refine aC 15 rfl fun K hK=>?_
  (first|refine fC yp aj 3 ?_|refine fC yp aj 4 ?_);clear aj;intro wq aj;simp only[aS,aK,List.set] at aj;have hs:=eD aj
  refine bk hK hs fun ah=>?_
  clear hK K;refine ak 16 rfl ?_;refine ak 17 rfl ?_;refine cB ?_
  rotate_left
  refine nW aj ?_;clear aj;intro wq g13 aj;have hs:=eD aj;refine bk hK hs fun ah=>?_
  clear hK K;refine aC 6 rfl fun K hK=>?_
  go_simp;go_at_call 97;refine(wZ.out _ aj.out.b).mono ?_;rintro e w5 ⟨y,A5,n5,d5,Rn,rfl,uo,k5,qP⟩;replace aj:=zH (aj.out.join k5);clear k5;have hs:=eD aj;refine bk hK hs fun ah=>?_
  clear hK K;refine ak 7 rfl ?_;refine ak 8 rfl ?_;refine ak 9 rfl ?_;refine ak 10 rfl ?_;refine ak 11 rfl ?_;refine aC 14 rfl fun K hK=>?_
  (first|refine fT y aj 3 ?_|refine fT y aj 4 ?_);clear aj;intro wq aj;simp only[aS,aK,List.set] at aj;have hs:=eD aj
  refine bk hK hs fun ah=>?_
  clear hK K;refine aC 15 rfl fun K hK=>?_
  (first|refine fC yp aj 3 ?_|refine fC yp aj 4 ?_);clear aj;intro wq aj;simp only[aS,aK,List.set] at aj;have hs:=eD aj
  refine bk hK hs fun ah=>?_
  clear hK K;refine ak 16 rfl ?_;refine ak 17 rfl ?_;refine cB ?_
  rotate_left
  refine nW aj ?_;clear aj;intro wq g13 aj;have hs:=eD aj;refine bk hK hs fun ah=>?_
  clear hK K;refine iW 6 12 rfl rfl (fun K hK=>?_) fun K hK=>?_
  go_simp;go_at_call 97;refine(wZ.out _ aj.out.b).mono ?_;rintro e w5 ⟨y,A5,n5,d5,Rn,rfl,uo,k5,qP⟩;replace aj:=zH (aj.out.join k5);clear k5;have hs:=eD aj;refine bk hK hs fun ah=>?_
  clear hK K;refine ak 7 rfl ?_;refine ak 8 rfl ?_;refine ak 9 rfl ?_;refine ak 10 rfl ?_;refine ak 11 rfl ?_;refine aC 12 rfl fun K hK=>?_
  refine nX aj ?_;clear aj;intro wq g12 aj;have hs:=eD aj;refine bk hK hs fun ah=>?_
  clear hK K;refine aC 14 rfl fun K hK=>?_
  (first|refine fT y aj 3 ?_|refine fT y aj 4 ?_);clear aj;intro wq aj;simp only[aS,aK,List.set] at aj;have hs:=eD aj
  refine bk hK hs fun ah=>?_
  clear hK K;refine aC 15 rfl fun K hK=>?_
  (first|refine fC yp aj 3 ?_|refine fC yp aj 4 ?_);clear aj;intro wq aj;simp only[aS,aK,List.set] at aj;have hs:=eD aj
  refine bk hK hs fun ah=>?_
  clear hK K;refine ak 16 rfl ?_;refine ak 17 rfl ?_;refine cB ?_
  rotate_left
  refine nX aj ?_;clear aj;intro wq g12 aj;have hs:=eD aj;refine bk hK hs fun ah=>?_
  clear hK K;refine aC 6 rfl fun K hK=>?_
  go_simp;go_at_call 97;refine(wZ.out _ aj.out.b).mono ?_;rintro e w5 ⟨y,A5,n5,d5,Rn,rfl,uo,k5,qP⟩;replace aj:=zH (aj.out.join k5);clear k5;have hs:=eD aj;refine bk hK hs fun ah=>?_
  clear hK K;refine ak 7 rfl ?_;refine ak 8 rfl ?_;refine ak 9 rfl ?_;refine ak 10 rfl ?_;refine ak 11 rfl ?_;refine aC 14 rfl fun K hK=>?_
  (first|refine fT y aj 3 ?_|refine fT y aj 4 ?_);clear aj;intro wq aj;simp only[aS,aK,List.set] at aj;have hs:=eD aj
  refine bk hK hs fun ah=>?_
  clear hK K;refine aC 15 rfl fun K hK=>?_
  (first|refine fC yp aj 3 ?_|refine fC yp aj 4 ?_);clear aj;intro wq aj;simp only[aS,aK,List.set] at aj;have hs:=eD aj
  refine bk hK hs fun ah=>?_
  clear hK K;refine ak 16 rfl ?_;refine ak 17 rfl ?_;refine cB ?_
  rotate_left
  all_goals
   go_wp2_with fail;go_meet
   first|exact⟨y,A5,n5,d5,Rn,g12,g13,rfl,rfl,rfl,rfl,uo,aj,qP⟩|exact⟨y,A5,n5,d5,Rn,g12,g13,rfl,rfl,rfl,rfl,uo,zH aj.out.YW,qP⟩
 case rest=>
 obtain⟨y,A5,n5,d5,Rn,g12,g13,rfl,rfl,rfl,rfl,uo,HK,qP⟩:=hcut;go_wp2_with fail;have aj:=zH HK.out.drew;refine wp_region_held_drew (S:=(fun W=>Hid (Kn w.heap.size w W [(g12,75,cu y),(g13,28,dG yp)] []))) (by kernel_rfl) ?_ fun ah=>?_
 ·(try dsimp only);exact Si aj
 refine ak 0 rfl ?_;refine ak 1 rfl ?_;refine ak 2 rfl ?_ fun _ s=>lV s 0
 refine ak 4 rfl ?_ fun _ s=>Sg s 1
 refine ak 5 rfl ?_;refine ak 6 rfl ?_;refine aC 3 rfl fun K hK=>?_
 go_simp;go_at_call 96;refine(HW.out _ aj.out.b i y hin).mono ?_;rintro e w6 ⟨A6,n6,c6,rfl,o6,b6⟩;replace aj:=zH (aj.out.called b6 o6);clear o6 b6;have hs:=Si aj;refine bk hK hs fun ah=>?_
 clear hK K;refine ak 7 rfl ?_;refine aC 8 rfl fun K hK=>?_
 refine fC yp aj 2 ?_;clear aj;intro wq aj;simp only[lS] at aj;have hs:=Si aj;refine bk hK hs fun ah=>?_
 clear hK K;refine ak 9 rfl ?_;refine ak 10 rfl ?_;refine cB ?_
 all_goals
  exact aen
end
end Go.Proofs.YtahdlddbbnjloaaGreat
