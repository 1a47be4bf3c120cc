/- What the document's Decode returns. No condition but those named. -/
import Derived.Test.YtieoeendnccafaaGreatMTK
import Derived.Test.YtieoeendnccafaaGreatMBK
import Derived.Test.YtieoeendnccafaaGreatMBI
import Derived.Test.YtieoeendnccafaaGreatWireRDecode
import Derived.Test.YtieoeendnccafaaGreatApRRight
import Derived.Deep.DeepCutAuto
set_option linter.unusedSimpArgs false
set_option linter.unusedVariables false
set_option maxRecDepth 100000
set_option maxHeartbeats 25600000
namespace Go.Proofs.YtieoeendnccafaaGreat
section
open Go.RowKit
namespace Snp
def tbF:Nat→P Ses.T
 | 0=>ret tz
 | i+1=>bnd (tbF i) fun t=>bnd seP fun s=>ret (t.set (i:Int) s)
theorem tbF_all(l:Its):∀i,i≤5→bnd (tbF i) (fun t=>tbR t (5-i)) l=tbP l
 | 0,_=>rfl
 | i+1,h=>by
  rw[← tbF_all l i (by omega)]
  show bnd (bnd (tbF i) _) _ l=_
  rw[bnd_assoc]
  congr 1
  funext t
  rw[tbR_step t (show i<5 by omega)]
  funext r
  rw[bnd_assoc]
  rfl
theorem tbF_5(l:Its):tbF 5 l=tbP l:=by
 rw[← tbF_all l 5 (Nat.le_refl _)]
 show tbF 5 l=bnd (tbF 5) (fun t=>ret t) l
 unfold bnd
 cases tbF 5 l<;>rfl
theorem tbF_none{l:Its}{i:Nat}:∀n,tbF i l=none→i≤n→tbF n l=none
 | 0,h,hi=>by
  obtain rfl:i=0:=by omega
  exact h
 | n+1,h,hi=>by
  by_cases e:i=n+1
  ·rw[← e];exact h
  ·exact bnd_none (tbF_none n h (by omega))
theorem Q.tb{l:Its}{a a1 a2 i:Nat}{b b1 b2:Bool}{t:Ses.T}{s:Ses.S}(h:Q (tbF i) l a b t a1 b1)(k:Q seP l a1 b1 s a2 b2):Q (tbF (i+1)) l a b (t.set (i:Int) s) a2 b2:=h.bnd (k.map fun s=>t.set (i:Int) s)
theorem Q.tbE{l:Its}{a a1 i:Nat}{b b1:Bool}{t:Ses.T}(h:Q (tbF i) l a b t a1 b1)(hi:i≤5)(hq:¬(i<5∧b1=false)):Q tbP l a b t a1 b1:=by
 refine Q.to (p:=tbF 5) ?_ (tbF_5 _)
 by_cases e:i=5
 ·rw[← e];exact h
 ·cases b1 with
  | false=>exact absurd ⟨by omega,rfl⟩ hq
  | true=>exact⟨(fun e=>by cases e),fun e hn=>h.bad e fun q=>hn (tbF_none 5 q hi)⟩
theorem Q.D{l:Its}{x:Ap.St}{a:Nat}{b:Bool}(h:Q (stP true) l 0 false x a b):(b=true→D1 true l=(stz,3))∧(b=false→¬a=l.length→D1 true l=(stz,3))∧(b=false→a=l.length→stP true l=some (x,[])):=by
 refine⟨fun e=>?_,fun e ha=>?_,fun e ha=>?_⟩
 ·have hn:stP true l=none:=by
   cases hp:stP true l with
   | none=>rfl
   | some z=>
    have h2:=h.bad rfl (by rw[List.drop_zero,hp];exact fun q=>by cases q)
    rw[e] at h2
    cases h2
  unfold D1
  rw[hn]
 ·obtain⟨_,h1,h2⟩:=h.good e
  rw[List.drop_zero] at h1
  unfold D1
  rw[h1]
  cases hd:l.drop a with
  | nil=>exact absurd (by have:=congrArg List.length hd;simp at this;omega) ha
  | cons y t=>rfl
 ·obtain⟨_,h1,h2⟩:=h.good e
  rw[List.drop_zero] at h1
  rw[h1,List.drop_eq_nil_of_le (by omega)]
end Snp
section
variable {b0:Nat}{w0 w:World}{L:List (Nat×TypeId×Array Value)}{R:List RowE}{ops:Array Oper}{rest:List Oper}{o:Oper}{a:Act}{Q:Exit→Act→World→Prop}{g n c q:Nat}{A:Option Addr}{b:Bool}
theorem wpList_brf(HK:Hid (Kn b0 w0 w L R))(hgd:o.guard=none)(x:Operand)(ho:o.op=.box 96 x)(hx:a.eval x=.agg #[.slice A n c,.int .i64 0,.bool false])
  (h:∀w' g,w.heap.size≤g→Hid (Kn b0 w0 w' (L++[(g,96,rfB A n c 0 false)]) R)→wpList Tryz.prog ops Q rest (a.put o.dst (.pointer (some ⟨g,0,none⟩))) w'):wpList Tryz.prog ops Q (o::rest) a w:=
 wpList_plain hgd fun K hK=>by
  have h4:=h _ w.heap.size (Nat.le_refl _) (zH (HK.out.alloc _ _))
  unfold Oper.wp execOp
  simp only[ho,hx]
  go_simp
  exact hK _ _ h4
theorem krf_b(HK:Hid (Kn b0 w0 w L R))(i:Nat)(p:Operand)(ho:o.op=.load 4 p)(hL:L[i]?=some (g,96,rfB A n c q b))(hx:a.eval p=.pointer (some ⟨g,2,none⟩)):
  (execOp a.eval o).run Tryz.prog w=.ok (.value (.bool b)) w:=kexec_lc HK _ p ho i hL hx rfl Tryz.underlying4 rfl
theorem krf_a(HK:Hid (Kn b0 w0 w L R))(i:Nat)(p:Operand)(ho:o.op=.load 3 p)(hL:L[i]?=some (g,96,rfB A n c q b))(hx:a.eval p=.pointer (some ⟨g,1,none⟩)):
  (execOp a.eval o).run Tryz.prog w=.ok (.value (.int .i64 (q:Int))) w:=kexec_lc HK _ p ho i hL hx rfl Tryz.underlying3 rfl
end
theorem Rof.own{b0:Nat}{w0 wc w1:World}{L:List (Nat×TypeId×Array Value)}{R Rn:List RowE}{g n c a:Nat}{A:Option Addr}{b:Bool}{l:Snp.Its}{cs:Array Value}(q:Rof g A n c l a b Rn wc w1)(k:Kn b0 w0 wc L R)(i:Nat)(hi:L[i]?=some (g,96,cs)):
  Kn b0 w0 w1 (L.set i (g,96,rfB A n c a b)) (R++Rn):=by
 obtain⟨V,⟨vb,vr⟩,kv⟩:=q
 have hg:=(k.l i _ hi).1
 refine Kn.join ?_ (by rw[vb.size];exact kv)
 exact k.setL hi ⟨vb.os,vb.tape,vb.output,by rw[vb.size];exact Nat.le_refl _,fun j hj=>vb.block j (by omega)⟩ vb.size vr.kb fun hk hne=>(vb.block _ hne).trans hk
theorem rfdecode_any(b:ByteArray)(w:World)(hs:b.size≤140737488351232):Calls Tryz.prog 21 #[.string b] w (IsDec (Snp.D true b) w):=by
 have HD:Hid (∀W,Calls Tryz.prog 52 #[.string b] W fun e w'=>∃A n c,e=.returned (.tuple #[.slice A n c,.int .i64 (Wire.D b).2])∧itemLay.Own W.heap.size w' (.slice A n c) ((Wire.D b).1.map Snp.ofW)∧Below W.heap.size W w'):=zH fun W=>(rdecode_any b W hs).mono fun e w' h=>by
  obtain⟨v,h1,h2,h3⟩:=h
  have ho:=its_own h2
  obtain⟨A,c,rfl⟩:=ho.shape
  exact⟨A,_,c,h1,ho,h3⟩
 have HK:=zH (Kn.start w)
 by_cases hz:(Wire.D b).2=0
 case neg=>
  have HN:Hid (Snp.D true b=(Snp.stz,(Wire.D b).2)):=zH (if_neg hz)
  rw[HN.out]
  have hz2:((Wire.D b).2 != 0)=true:=by simpa using hz
  generalize (Wire.D b).2=z at *
  clear hz HN hs
  go_enter Tryz.func21,Tryz.ntmps21
  go_wp2_with (first|(refine wpList_ast HK rfl rfl ?_;intro _ g1 HK';simp only[lnA] at HK';replace HK:=HK';clear HK'))
  refine(HD.out _).mono ?_;rintro e w1 ⟨A,n,c,rfl,o1,b1⟩
  replace HK:=hkC HK b1
  clear o1 b1 HD
  go_wp2_with (first|refine zX (exec_bst0 (by rfl)) ?_|(refine wpList_sst (m:=0) (B:=none) (i:=0) (j:=0) (u:=tz) HK 0 rfl _ _ rfl rfl rfl rfl ?_;intro _ HK';simp only[List.set] at HK';replace HK:=HK';clear HK'))
  exact ret_ce Tryz.results21 rfl rfl rfl (HK.out.blk 0 rfl) (isDec_no HK.out.b)
 case pos=>
 have hfit:=Snp.fit_D hz
 obtain⟨l0,hl0,hsz,hall,_⟩:=Wire.D_ok hz
 have hlen:((Wire.D b).1.map Snp.ofW).length≤16384:=by
  have h1:=wire_len l0
  have h2:(Wire.all l0).length=b.size:=by rw[hall];exact Array.length_toList
  rw[hl0,List.length_map]
  show l0.length≤_
  omega
 have HDD:Hid (Snp.D true b=Snp.D1 true ((Wire.D b).1.map Snp.ofW)):=zH (if_pos hz)
 rw[HDD.out]
 rw[hz] at HD
 generalize (Wire.D b).1.map Snp.ofW=l at *
 clear hz hl0 hsz hall HDD hs
 have HF:=zH hfit
 have HL:=zH hlen
 clear hfit hlen
 go_enter Tryz.func21,Tryz.ntmps21
 go_wp2_with (first|(refine wpList_ast HK rfl rfl ?_;intro _ g1 HK';simp only[lnA] at HK';replace HK:=HK';clear HK'))
 refine(HD.out _).mono ?_;rintro e w1 ⟨A,n,c,rfl,o1,b1⟩
 have hrd:=zH (Lay.Own.rd o1)
 have hrn:=zH (Lay.Own.reads o1).1
 have hcap:=zH (Lay.Own.cap o1)
 replace HK:=zH (HK.out.called b1 o1)
 clear o1 b1 HD
 simp only[lnA] at HK
 go_wp2_with (first|(refine wpList_brf HK rfl _ rfl rfl ?_;intro _ g5 hg5 HK';simp only[lcA,lnA] at HK';replace HK:=HK';clear HK'))
 have hln:l.length=n:=hrn.out.symm
 replace hcap:=hcap.out
 replace hrn:=hrn.out
 have HRd:Hid (∀(W:World) (a:Nat) (b:Bool) (L2:List (Nat×TypeId×Array Value)) (R2:List RowE),Kn w.heap.size w W ((g1,33,stA 0 none 0 0 tz)::(g5,96,rfB A n c a b)::L2) (row itemLay (.slice A n c) l::R2)→Rdf g5 A n c l a b W):=zH fun W a b L2 R2 k=>by
  refine⟨k.blk 1 rfl,fun hn=>?_,hln,hrd.out.2,by omega,by have:=HL.out;omega⟩
  obtain⟨b1,o1,e1,_,h1⟩:=(Lay.Own.rd (k.own 0 rfl)).1 hn
  obtain⟨b2,o2,e2,h2,_⟩:=hrd.out.1 hn
  rw[e1] at e2
  cases e2
  exact⟨b1,o1,e1,by omega,h1⟩
 clear hrd hcap hg5 hrn
 have HLn:=zH hln
 clear hln
 have HN_:=zH (rfnum_any g5 A n c l)
 have HM8:=zH (rfmany_any g5 A n c l 8 (by decide))
 have HO_:=zH (rfobj_any g5 A n c l HF.out)
 have HS_:=zH (rfse_any g5 A n c l HF.out)
 have HRt:Hid (∀(n0:Int) (A1:Option Addr) (j c1:Nat) (xs:List Oh) (t:Ses.T) W L,Snp.stP true l=some (⟨n0,vs xs,t⟩,[])→Kn w.heap.size w W L (row itemLay (.slice A n c) l::row obLay (.slice A1 j c1) xs::xs.flatMap rows3)→Calls Tryz.prog 14 #[.agg (stA n0 A1 j c1 t)] W (IsB (decide (Ap.Ok ⟨n0,vs xs,t⟩)) W)):=zH fun n0 A1 j c1 xs t W L hp hk=>by
  obtain⟨e1,e2⟩:=Snp.stP_snd HF.out hp
  rw[List.append_nil] at e1
  obtain⟨ho,hf⟩:=Sh.obs (x:=⟨n0,⟨A1,j,c1,xs⟩,t⟩) hk (fun y hy=>List.mem_cons_of_mem _ hy) (by show Snp.Fit (Snp.stI ⟨n0,vs xs,t⟩);rw[← e1];exact HF.out) e2 (by show(Snp.stI ⟨n0,vs xs,t⟩).length≤_;rw[← e1];exact HL.out)
  exact rapright_any n0 A1 j c1 t xs W ho hf
 unfold IsB at HRt
 go_wp2_with fail
 refine(HN_.out _ _ _ (HRd.out _ _ _ _ _ HK.out) (by omega)).mono ?_;rintro e w1 ⟨n0,a1,b1,rfl,q1,u1,hk⟩;have HK1:=zH (hk.own HK.out 1 rfl);replace HK:=HK1;have HQ1:=zH q1;clear HK1 hk q1;simp only[List.set,List.append_nil] at HK
 go_wp2_with (first|(refine wpList_ast HK rfl rfl ?_;intro _ g7 HK';simp only[lcA,lnA] at HK';replace HK:=HK';clear HK')|(refine wpList_sst (m:=n0) (B:=none) (i:=0) (j:=0) (u:=tz) HK 2 rfl _ _ rfl rfl rfl rfl ?_;intro _ HK';simp only[List.set] at HK';replace HK:=HK';clear HK'))
 refine(HM8.out _ _ _ (HRd.out _ _ _ _ _ HK.out) (by omega)).mono ?_;rintro e w1 ⟨N,a2,b2,rfl,q1,u2,hk,m2⟩;have HK1:=zH (hk.own HK.out 1 rfl);replace HK:=HK1;have HQ2:=zH q1;clear HK1 hk q1;simp only[List.set,List.append_nil] at HK
 have m2':N≤8:=by omega
 clear m2
 replace HK:=zH (HK.out.nilR obLay)
 simp only[lcA,lnA] at HK
 go_upto_region 8 with fail
 go_loopw [9] (fun vi wr=>∃(j:Nat) (A1:Option Addr) (c1:Nat) (xs:List Oh) (e1:Nat) (f1:Bool),j≤N∧vi=.int .i64 j∧e1≤a2+j*100∧Hid (xs.length=j)∧Hid (Snp.Q (Snp.rep (Snp.obP true) j) l a2 b2 (vs xs) e1 f1)∧Hid (Kn w.heap.size w wr [(g1,33,stA 0 none 0 0 tz),(g5,96,rfB A n c e1 f1),(g7,33,stA n0 A1 j c1 tz)] (row itemLay (.slice A n c) l::row obLay (.slice A1 j c1) xs::xs.flatMap rows3))) (fun vi _=>N-(intOf vi).toNat)
 case atStart=>exact⟨0,none,0,[],a2,b2,Nat.zero_le _,rfl,by omega,zH rfl,zH (Snp.Q.ret [] HQ2.out.le),HK⟩
 case round=>
  clear HK
  obtain⟨j,A1,c1,xs,e1,f1,hj,rfl,ub1,HLx,HQr,HK⟩:=hrel
  go_upto_region 8 with fail
  go_cut [37] (fun v wx=>∃q:Bool,v=.bool q∧Hid (q=true↔(j<N∧f1=false))∧Hid (Kn w.heap.size w wx [(g1,33,stA 0 none 0 0 tz),(g5,96,rfB A n c e1 f1),(g7,33,stA n0 A1 j c1 tz)] (row itemLay (.slice A n c) l::row obLay (.slice A1 j c1) xs::xs.flatMap rows3)))
  case first=>
   have hk1:(0:Int)≤(j:Int):=by omega
   by_cases hlt:j<N
   ·have hk2:(j:Int)<(N:Int):=by omega
    cases f1
    ·go_wp2_with (first|go_big_skip|refine zX (krf_b HK 1 _ (by rfl) (by rfl) (by rfl)) ?_|refine zX (krf_a HK 1 _ (by rfl) (by rfl) (by rfl)) ?_)
     go_meet
     exact⟨true,rfl,zH (by simp[hlt]),HK⟩
    ·go_wp2_with (first|go_big_skip|refine zX (krf_b HK 1 _ (by rfl) (by rfl) (by rfl)) ?_|refine zX (krf_a HK 1 _ (by rfl) (by rfl) (by rfl)) ?_)
     go_meet
     exact⟨false,rfl,zH ⟨(fun h=>by cases h),fun h=>by cases h.2⟩,HK⟩
   ·have hk2:¬((j:Int)<(N:Int)):=by omega
    go_wp2_with (first|go_big_skip)
    go_meet
    exact⟨false,rfl,zH ⟨(fun h=>by cases h),fun h=>absurd h.1 hlt⟩,HK⟩
  case rest=>
  clear HK
  obtain⟨q,rfl,HQq,HK⟩:=hcut
  cases q
  case true=>
   obtain⟨hlt,rfl⟩:=HQq.out.1 rfl
   clear HQq
   have hk3:IntKind.i64.wrap ((j:Int)+1)=((j+1:Nat):Int):=by rw[IntKind.wrap_i64];omega
   have HN2:Hid (∀y:Oh,(xs++[y]).length=j+1):=zH fun y=>by rw[List.length_append,HLx.out];rfl
   have HL2:Hid (xs.length+1≤9223372036854775807∧(xs.length+1)*obLay.bytes≤211106232532992):=zH (by
    rw[HLx.out]
    refine⟨by omega,?_⟩
    show(j+1)*144≤_
    omega)
   have HVs:Hid (∀x:Oh,vs xs++[x.v]=vs (xs++[x])):=zH fun x=>by unfold vs;rw[List.map_append];rfl
   have HRw:Hid (∀x:Oh,(xs++[x]).flatMap rows3=xs.flatMap rows3++rows3 x):=zH fun x=>by rw[List.flatMap_append];simp
   go_wp2_with fail
   have HK0:=zH HK.out.drew
   refine wp_region_any (by kernel_rfl) ?_
   change wpAny _ _ _ _ _ _ _ (World.drew _)
   refine wpAny_take (i:=0) (oi:=⟨some 40,_,_,_,_,_⟩) (v:=?_) rfl (by kernel_rfl) (by kernel_rfl) (by kernel_rfl) (fun _ _ _ h=>h) (Or.inl ⟨by rfl,?_⟩) ?_
   rotate_left
   ·(intro w;go_simp;try with_reducible rfl)
   try simp only[ap1,ap2,ap3,ap4,ap5]
   refine wpAny_take (i:=2) (oi:=⟨some 42,_,_,_,_,_⟩) (v:=?_) rfl (by kernel_rfl) (by kernel_rfl) (by kernel_rfl) (fun _ _ _ h=>h) (Or.inl ⟨by rfl,?_⟩) ?_
   rotate_left
   ·(intro w;go_simp;try with_reducible rfl)
   try simp only[ap1,ap2,ap3,ap4,ap5]
   refine wpAny_ready (rs:=[1,3]) (by kernel_rfl) (by simp) ?_
   refine AllReady.cons (o:=⟨some 41,_,_,_,_,_⟩) rfl (fun K hK=>?_) (AllReady.cons (o:=⟨some 43,_,_,_,_,_⟩) rfl (fun K hK=>?_) AllReady.nil)
   replace hK:=zH hK
   refine step_of_exec (by rfl) (kst_o HK0 2 _ (by rfl) (by rfl) (by rfl)) ?_
   refine hK.out _ _ ?_
   clear hK K
   try simp only[ap1,ap2,ap3,ap4,ap5]
   refine wpAny_ready (rs:=[3]) (by kernel_rfl) (by simp) ?_
   refine AllReady.cons (o:=⟨some 43,_,_,_,_,_⟩) rfl (fun K hK=>?_) AllReady.nil
   replace hK:=zH hK
   go_simp
   go_at_call 55
   refine(HO_.out _ _ _ (HRd.out _ _ _ _ _ HK0.out) (by omega)).mono ?_;rintro e w5 ⟨x,p2,d2,rfl,q1,v2,hk⟩;have HK1:=zH (hk.own HK0.out 1 rfl);replace HK0:=HK1;have HP2:=zH q1;clear HK1 hk q1;simp only[List.set,lcA] at HK0;rw[← HRw.out x] at HK0
   refine hK.out _ _ ?_
   clear hK K
   try simp only[ap1,ap2,ap3,ap4,ap5]
   refine wpAny_ready (rs:=[4]) (by kernel_rfl) (by simp) ?_
   refine AllReady.cons (o:=⟨some 44,_,_,_,_,_⟩) rfl (fun K hK=>?_) AllReady.nil
   replace hK:=zH hK
   refine step_mk1 obLay (p:=x) HK0 (by decide) (by rfl) _ (by rfl) (by rfl) (by rfl) ?_;intro w6 g9 HK' _;have HR2:=zH (Kn.lastOwn (R:=row itemLay (.slice A n c) l::row obLay (.slice A1 j c1) xs::(xs++[x]).flatMap rows3) HK'.out).rd;simp only[lcA] at HK';replace HK0:=HK';clear HK'
   refine hK.out _ _ ?_
   clear hK K
   try simp only[ap1,ap2,ap3,ap4,ap5]
   refine wpAny_ready (rs:=[5]) (by kernel_rfl) (by simp) ?_
   refine AllReady.cons (o:=⟨some 45,_,_,_,_,_⟩) rfl (fun K hK=>?_) AllReady.nil
   replace hK:=zH hK
   refine step_more2 obLay HK0 1 (by rfl) _ _ (by rfl) (by rfl) (by rfl) [x] (by rfl) (by rfl) HR2 HL2 (N:=j+1) (zH (HN2.out x)) ?_;intro A9 c9 w7 HK';simp only[List.set] at HK';rw[← lcA,← lcA] at HK';replace HK0:=zH HK'.out.init;clear HK' HR2
   refine hK.out _ _ ?_
   clear hK K
   try simp only[ap1,ap2,ap3,ap4,ap5]
   refine wpAny_take (i:=6) (oi:=⟨some 46,_,_,_,_,_⟩) (v:=?_) rfl (by kernel_rfl) (by kernel_rfl) (by kernel_rfl) (fun _ _ _ h=>h) (Or.inl ⟨by rfl,?_⟩) ?_
   rotate_left
   ·(intro w;go_simp;try with_reducible rfl)
   try simp only[ap1,ap2,ap3,ap4,ap5]
   refine wpAny_ready (rs:=[7]) (by kernel_rfl) (by simp) ?_
   refine AllReady.cons (o:=⟨none,_,_,_,_,_⟩) rfl (fun K hK=>?_) AllReady.nil
   replace hK:=zH hK
   refine step_ssto HK0 2 (by rfl) _ _ (by rfl) (by rfl) (by rfl) (by rfl) ?_;intro w8 HK';simp only[List.set] at HK';replace HK0:=HK';clear HK'
   refine hK.out _ _ ?_
   clear hK K
   try simp only[ap1,ap2,ap3,ap4,ap5]
   refine wpAny_done (by kernel_rfl) ?_ _
   rotate_left
   replace hK:=zH hK
   go_simp
   go_at_call 55
   refine(HO_.out _ _ _ (HRd.out _ _ _ _ _ HK0.out) (by omega)).mono ?_;rintro e w5 ⟨x,p2,d2,rfl,q1,v2,hk⟩;have HK1:=zH (hk.own HK0.out 1 rfl);replace HK0:=HK1;have HP2:=zH q1;clear HK1 hk q1;simp only[List.set,lcA] at HK0;rw[← HRw.out x] at HK0
   refine hK.out _ _ ?_
   clear hK K
   try simp only[ap1,ap2,ap3,ap4,ap5]
   refine wpAny_ready (rs:=[1,4]) (by kernel_rfl) (by simp) ?_
   refine AllReady.cons (o:=⟨some 41,_,_,_,_,_⟩) rfl (fun K hK=>?_) (AllReady.cons (o:=⟨some 44,_,_,_,_,_⟩) rfl (fun K hK=>?_) AllReady.nil)
   replace hK:=zH hK
   refine step_of_exec (by rfl) (kst_o HK0 2 _ (by rfl) (by rfl) (by rfl)) ?_
   refine hK.out _ _ ?_
   clear hK K
   try simp only[ap1,ap2,ap3,ap4,ap5]
   refine wpAny_ready (rs:=[4]) (by kernel_rfl) (by simp) ?_
   refine AllReady.cons (o:=⟨some 44,_,_,_,_,_⟩) rfl (fun K hK=>?_) AllReady.nil
   replace hK:=zH hK
   refine step_mk1 obLay (p:=x) HK0 (by decide) (by rfl) _ (by rfl) (by rfl) (by rfl) ?_;intro w6 g9 HK' _;have HR2:=zH (Kn.lastOwn (R:=row itemLay (.slice A n c) l::row obLay (.slice A1 j c1) xs::(xs++[x]).flatMap rows3) HK'.out).rd;simp only[lcA] at HK';replace HK0:=HK';clear HK'
   refine hK.out _ _ ?_
   clear hK K
   try simp only[ap1,ap2,ap3,ap4,ap5]
   refine wpAny_ready (rs:=[5]) (by kernel_rfl) (by simp) ?_
   refine AllReady.cons (o:=⟨some 45,_,_,_,_,_⟩) rfl (fun K hK=>?_) AllReady.nil
   replace hK:=zH hK
   refine step_more2 obLay HK0 1 (by rfl) _ _ (by rfl) (by rfl) (by rfl) [x] (by rfl) (by rfl) HR2 HL2 (N:=j+1) (zH (HN2.out x)) ?_;intro A9 c9 w7 HK';simp only[List.set] at HK';rw[← lcA,← lcA] at HK';replace HK0:=zH HK'.out.init;clear HK' HR2
   refine hK.out _ _ ?_
   clear hK K
   try simp only[ap1,ap2,ap3,ap4,ap5]
   refine wpAny_take (i:=6) (oi:=⟨some 46,_,_,_,_,_⟩) (v:=?_) rfl (by kernel_rfl) (by kernel_rfl) (by kernel_rfl) (fun _ _ _ h=>h) (Or.inl ⟨by rfl,?_⟩) ?_
   rotate_left
   ·(intro w;go_simp;try with_reducible rfl)
   try simp only[ap1,ap2,ap3,ap4,ap5]
   refine wpAny_ready (rs:=[7]) (by kernel_rfl) (by simp) ?_
   refine AllReady.cons (o:=⟨none,_,_,_,_,_⟩) rfl (fun K hK=>?_) AllReady.nil
   replace hK:=zH hK
   refine step_ssto HK0 2 (by rfl) _ _ (by rfl) (by rfl) (by rfl) (by rfl) ?_;intro w8 HK';simp only[List.set] at HK';replace HK0:=HK';clear HK'
   refine hK.out _ _ ?_
   clear hK K
   try simp only[ap1,ap2,ap3,ap4,ap5]
   refine wpAny_done (by kernel_rfl) ?_ _
   rotate_left
   replace hK:=zH hK
   refine step_mk1 obLay (p:=x) HK0 (by decide) (by rfl) _ (by rfl) (by rfl) (by rfl) ?_;intro w6 g9 HK' _;have HR2:=zH (Kn.lastOwn (R:=row itemLay (.slice A n c) l::row obLay (.slice A1 j c1) xs::(xs++[x]).flatMap rows3) HK'.out).rd;simp only[lcA] at HK';replace HK0:=HK';clear HK'
   refine hK.out _ _ ?_
   clear hK K
   try simp only[ap1,ap2,ap3,ap4,ap5]
   refine wpAny_ready (rs:=[1]) (by kernel_rfl) (by simp) ?_
   refine AllReady.cons (o:=⟨some 41,_,_,_,_,_⟩) rfl (fun K hK=>?_) AllReady.nil
   replace hK:=zH hK
   refine step_of_exec (by rfl) (kst_o HK0 2 _ (by rfl) (by rfl) (by rfl)) ?_
   refine hK.out _ _ ?_
   clear hK K
   try simp only[ap1,ap2,ap3,ap4,ap5]
   refine wpAny_ready (rs:=[5]) (by kernel_rfl) (by simp) ?_
   refine AllReady.cons (o:=⟨some 45,_,_,_,_,_⟩) rfl (fun K hK=>?_) AllReady.nil
   replace hK:=zH hK
   refine step_more2 obLay HK0 1 (by rfl) _ _ (by rfl) (by rfl) (by rfl) [x] (by rfl) (by rfl) HR2 HL2 (N:=j+1) (zH (HN2.out x)) ?_;intro A9 c9 w7 HK';simp only[List.set] at HK';rw[← lcA,← lcA] at HK';replace HK0:=zH HK'.out.init;clear HK' HR2
   refine hK.out _ _ ?_
   clear hK K
   try simp only[ap1,ap2,ap3,ap4,ap5]
   refine wpAny_take (i:=6) (oi:=⟨some 46,_,_,_,_,_⟩) (v:=?_) rfl (by kernel_rfl) (by kernel_rfl) (by kernel_rfl) (fun _ _ _ h=>h) (Or.inl ⟨by rfl,?_⟩) ?_
   rotate_left
   ·(intro w;go_simp;try with_reducible rfl)
   try simp only[ap1,ap2,ap3,ap4,ap5]
   refine wpAny_ready (rs:=[7]) (by kernel_rfl) (by simp) ?_
   refine AllReady.cons (o:=⟨none,_,_,_,_,_⟩) rfl (fun K hK=>?_) AllReady.nil
   replace hK:=zH hK
   refine step_ssto HK0 2 (by rfl) _ _ (by rfl) (by rfl) (by rfl) (by rfl) ?_;intro w8 HK';simp only[List.set] at HK';replace HK0:=HK';clear HK'
   refine hK.out _ _ ?_
   clear hK K
   try simp only[ap1,ap2,ap3,ap4,ap5]
   refine wpAny_done (by kernel_rfl) ?_ _
   rotate_left
   all_goals
    have HQ3:=zH (HQr.out.more HP2.out)
    rw[HVs.out] at HQ3
    have HK1:=HK0
    clear HK HK0 HQr
    have HK:=HK1
    clear HK1
    go_wp2_with (first|refine zX (exec_inck (x:=(j:Int)) _ (by rfl) (by rfl) hk3) ?_)
    exact⟨⟨j+1,A9,c9,xs++[x],p2,d2,hlt,rfl,by omega,zH (HN2.out x),HQ3,HK⟩,by simp[intOf];omega⟩
  case false=>
   have HQe:Hid (Snp.Q (Snp.rep (Snp.obP true) N) l a2 b2 (vs xs) e1 f1):=zH (HQr.out.fin hj (fun h=>by have:=HQq.out.2 h;cases this))
   have ue1:e1≤a2+8*100:=by omega
   clear HQr HQq HLx ub1
   go_upto_region 12 with fail
   go_loopw [10] (fun vi wr=>∃(i:Nat) (t:Ses.T) (e2:Nat) (f2:Bool),i≤5∧vi=.int .i64 i∧e2≤e1+i*7∧Hid (Snp.Q (Snp.tbF i) l e1 f1 t e2 f2)∧Hid (Kn w.heap.size w wr [(g1,33,stA 0 none 0 0 tz),(g5,96,rfB A n c e2 f2),(g7,33,stA n0 A1 j c1 t)] (row itemLay (.slice A n c) l::row obLay (.slice A1 j c1) xs::xs.flatMap rows3))) (fun vi _=>5-(intOf vi).toNat)
   case atStart=>exact⟨0,tz,e1,f1,by decide,rfl,by omega,zH (Snp.Q.ret tz HQe.out.le),HK⟩
   case round=>
    clear HK
    obtain⟨i,t,e2,f2,hi,rfl,ub2,HQr,HK⟩:=hrel
    go_upto_region 12 with fail
    go_cut [55] (fun v wx=>∃q:Bool,v=.bool q∧Hid (q=true↔(i<5∧f2=false))∧Hid (Kn w.heap.size w wx [(g1,33,stA 0 none 0 0 tz),(g5,96,rfB A n c e2 f2),(g7,33,stA n0 A1 j c1 t)] (row itemLay (.slice A n c) l::row obLay (.slice A1 j c1) xs::xs.flatMap rows3)))
    case first=>
     have hk1:(0:Int)≤(i:Int):=by omega
     by_cases hlt:i<5
     ·have hk2:(i:Int)<5:=by omega
      cases f2
      ·go_wp2_with (first|go_big_skip|refine zX (krf_b HK 1 _ (by rfl) (by rfl) (by rfl)) ?_|refine zX (krf_a HK 1 _ (by rfl) (by rfl) (by rfl)) ?_)
       go_meet
       exact⟨true,rfl,zH (by simp[hlt]),HK⟩
      ·go_wp2_with (first|go_big_skip|refine zX (krf_b HK 1 _ (by rfl) (by rfl) (by rfl)) ?_|refine zX (krf_a HK 1 _ (by rfl) (by rfl) (by rfl)) ?_)
       go_meet
       exact⟨false,rfl,zH ⟨(fun h=>by cases h),fun h=>by cases h.2⟩,HK⟩
     ·have hk2:¬((i:Int)<5):=by omega
      go_wp2_with (first|go_big_skip)
      go_meet
      exact⟨false,rfl,zH ⟨(fun h=>by cases h),fun h=>absurd h.1 hlt⟩,HK⟩
    case rest=>
    clear HK
    obtain⟨q,rfl,HQq,HK⟩:=hcut
    cases q
    case true=>
     obtain⟨hlt,rfl⟩:=HQq.out.1 rfl
     clear HQq
     have hk1:(0:Int)≤(i:Int):=by omega
     have hk2:(i:Int)<5:=by omega
     have hk3:IntKind.i64.wrap ((i:Int)+1)=((i+1:Nat):Int):=by rw[IntKind.wrap_i64];omega
     go_wp2_with fail
     refine(HS_.out _ _ _ (HRd.out _ _ _ _ _ HK.out) (by omega)).mono ?_;rintro e w1 ⟨s,p2,d2,rfl,q1,v2,hk⟩;have HK1:=zH (hk.own HK.out 1 rfl);replace HK:=HK1;have HP2:=zH q1;clear HK1 hk q1;simp only[List.set,List.append_nil] at HK
     go_wp2_with (first|refine zX (exec_ixq (q1:=(i:Int)) ⟨hk1,hk2⟩ _ _ (by rfl) (by rfl) (by rfl)) ?_|(refine wpList_sts (s:=s) (q:=(i:Int)) HK 2 ⟨hk1,hk2⟩ rfl _ _ rfl rfl rfl rfl ?_;intro _ HK';simp only[List.set] at HK';replace HK:=HK';clear HK')|refine zX (exec_inck (x:=(i:Int)) _ (by rfl) (by rfl) hk3) ?_)
     exact⟨⟨i+1,t.set (i:Int) s,p2,d2,hlt,rfl,by omega,zH (HQr.out.tb HP2.out),HK⟩,by simp[intOf];omega⟩
    case false=>
     have HQt:Hid (Snp.Q Snp.tbP l e1 f1 t e2 f2):=zH (HQr.out.tbE hi (fun h=>by have:=HQq.out.2 h;cases this))
     have HQa:Hid (Snp.Q (Snp.lst true 8 (Snp.obP true)) l a1 b1 (vs xs) e1 f1):=zH ((Snp.Q.bnd HQ2.out HQe.out).to (by rw[Snp.lst_cnt]))
     have HQs:Hid (Snp.Q (Snp.stP true) l 0 false (⟨n0,vs xs,t⟩:Ap.St) e2 f2):=zH (Snp.Q.bnd HQ1.out (Snp.Q.bnd HQa.out (Snp.Q.bnd HQt.out (Snp.Q.ret _ HQt.out.le))))
     clear HQr HQq HQt HQa HQe HQ1 HQ2
     cases f2
     case true=>
      have HN:=zH (HQs.out.D.1 rfl)
      clear HQs HRt
      go_wp2_with (first|go_big_skip|refine zX (krf_b HK 1 _ (by rfl) (by rfl) (by rfl)) ?_|refine zX (exec_bst0 (by rfl)) ?_|(refine wpList_sst (m:=0) (B:=none) (i:=0) (j:=0) (u:=tz) HK 0 rfl _ _ rfl rfl rfl rfl ?_;intro _ HK';simp only[List.set] at HK';replace HK:=HK';clear HK'))
      exact ret_ce Tryz.results21 rfl rfl rfl (HK.out.blk 0 rfl) (by rw[HN.out];exact isDec_no HK.out.b)
     case false=>
     by_cases hen:e2=n
     case neg=>
      have HN:=zH (HQs.out.D.2.1 rfl (by rw[HLn.out];exact hen))
      have hne:((e2:Int) != (n:Int))=true:=by simp;omega
      clear HQs HRt
      go_wp2_with (first|go_big_skip|refine zX (krf_b HK 1 _ (by rfl) (by rfl) (by rfl)) ?_|refine zX (krf_a HK 1 _ (by rfl) (by rfl) (by rfl)) ?_|refine zX (exec_bst0 (by rfl)) ?_|(refine wpList_sst (m:=0) (B:=none) (i:=0) (j:=0) (u:=tz) HK 0 rfl _ _ rfl rfl rfl rfl ?_;intro _ HK';simp only[List.set] at HK';replace HK:=HK';clear HK'))
      exact ret_ce Tryz.results21 rfl rfl rfl (HK.out.blk 0 rfl) (by rw[HN.out];exact isDec_no HK.out.b)
     case pos=>
     have HP:=zH (HQs.out.D.2.2 rfl (by rw[HLn.out];exact hen))
     clear HQs
     subst hen
     have hne:((e2:Int) != (e2:Int))=false:=by simp
     have HRt2:=zH (fun W L=>HRt.out n0 A1 j c1 xs t W L HP.out)
     clear HRt
     by_cases hok:Ap.Ok ⟨n0,vs xs,t⟩
     ·have HN:Hid (Snp.D1 true l=(⟨n0,vs xs,t⟩,0)):=zH (by unfold Snp.D1;rw[HP.out];exact if_pos hok)
      rw[decide_eq_true hok] at HRt2
      clear hok HP
      go_wp2_with (first|go_big_skip|refine zX (krf_b HK 1 _ (by rfl) (by rfl) (by rfl)) ?_|refine zX (krf_a HK 1 _ (by rfl) (by rfl) (by rfl)) ?_|refine zX (kst HK 2 _ (by rfl) (by rfl) (by rfl)) ?_)
      refine(HRt2.out _ _ HK.out).mono ?_;rintro e w3 ⟨rfl,b3⟩
      replace HK:=hkC HK b3
      clear b3 HRt2
      go_wp2_with (first|go_big_skip|refine zX (kst HK 2 _ (by rfl) (by rfl) (by rfl)) ?_|(refine wpList_sst (m:=n0) (B:=A1) (i:=j) (j:=c1) (u:=t) HK 0 rfl _ _ rfl rfl rfl rfl ?_;intro _ HK';simp only[List.set] at HK';replace HK:=HK';clear HK'))
      exact ret_ce Tryz.results21 rfl rfl rfl (HK.out.blk 0 rfl) (by rw[HN.out];exact⟨⟨n0,⟨A1,j,c1,xs⟩,t⟩,rfl,rfl,(HK.out.takeL 0).dropR 1⟩)
     ·have HN:Hid (Snp.D1 true l=(Snp.stz,3)):=zH (by unfold Snp.D1;rw[HP.out];exact if_neg hok)
      rw[decide_eq_false hok] at HRt2
      clear hok HP
      go_wp2_with (first|go_big_skip|refine zX (krf_b HK 1 _ (by rfl) (by rfl) (by rfl)) ?_|refine zX (krf_a HK 1 _ (by rfl) (by rfl) (by rfl)) ?_|refine zX (kst HK 2 _ (by rfl) (by rfl) (by rfl)) ?_)
      refine(HRt2.out _ _ HK.out).mono ?_;rintro e w3 ⟨rfl,b3⟩
      replace HK:=hkC HK b3
      clear b3 HRt2
      go_wp2_with (first|go_big_skip|refine zX (exec_bst0 (by rfl)) ?_|(refine wpList_sst (m:=0) (B:=none) (i:=0) (j:=0) (u:=tz) HK 0 rfl _ _ rfl rfl rfl rfl ?_;intro _ HK';simp only[List.set] at HK';replace HK:=HK';clear HK'))
      exact ret_ce Tryz.results21 rfl rfl rfl (HK.out.blk 0 rfl) (by rw[HN.out];exact isDec_no HK.out.b)
end
end Go.Proofs.YtieoeendnccafaaGreat
